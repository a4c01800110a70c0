/-
  What Check, isNumber and isText, and the document's own Check and Cmp, come to, for every value.
-/
import Derived.Test.YtcjcahgeaffjmaaVal
namespace Go.Proofs.Ytcjcahgeaffjmaa
open Go.RowKit

/-- What a call that only makes memory leaves of what was there, in the walk's own spelling. -/
theorem kept {W w1 : World} (hb : Below W.heap.size W w1) :
    (∀ b o, b < W.heap.size → w1.cell? ⟨b, o, none⟩ = W.cell? ⟨b, o, none⟩) ∧ (∀ b o, b < W.heap.size → w1.frozen? ⟨b, o, none⟩ = W.frozen? ⟨b, o, none⟩) :=
  ⟨fun b o h => hb.cell (p := ⟨b, o, none⟩) h, fun b o h => hb.frozen (p := ⟨b, o, none⟩) h⟩

set_option maxHeartbeats 400000 in
theorem isNumber_any (k n : Int) (s : ByteArray) (w : World) :
    Calls Try.prog 43 #[.agg #[.int .i64 k, .int .i64 n, .string s]] w
      fun e w' => e = .returned (.bool (okNum k n s.toList)) ∧ Below w.heap.size w w' := by
  rcases okNum_ways k n s.toList with ⟨hv, rfl, h2, h3, h4⟩ | ⟨hv, rfl, h2, h3, h4⟩ | ⟨hv, rfl, h2⟩ | ⟨hv, rfl, h2⟩ | ⟨hv, h2⟩
  all_goals
    rw [hv]
    clear hv
    go_enter Try.func43, Try.ntmps43
    go_wp2_with fail
    go_ret
    exact ⟨rfl, below_one _ _⟩

theorem size_le {s : ByteArray} (h : s.toList.length ≤ 40) : decide ((s.size : Int) ≤ 40) = true := by
  rw [toList_length] at h
  exact decide_eq_true (by omega)
theorem size_gt {s : ByteArray} (h : 40 < s.toList.length) : decide ((s.size : Int) ≤ 40) = false := by
  rw [toList_length] at h
  exact decide_eq_false (by omega)

set_option maxHeartbeats 400000 in
theorem isText_any (k n : Int) (s : ByteArray) (w : World) :
    Calls Try.prog 44 #[.agg #[.int .i64 k, .int .i64 n, .string s]] w
      fun e w' => e = .returned (.bool (okText k n s.toList)) ∧ Below w.heap.size w w' := by
  rcases okText_ways k n s.toList with ⟨hv, rfl, rfl, h4⟩ | ⟨hv, rfl, rfl, h4⟩ | ⟨hv, rfl, h4⟩ | ⟨hv, h4⟩
  all_goals
    rw [hv]
    clear hv
    try (have h5 := size_le h4; clear h4)
    try (have h5 := size_gt h4; clear h4)
    go_enter Try.func44, Try.ntmps44
    go_wp2_with fail
    go_ret
    exact ⟨rfl, below_one _ _⟩

set_option maxHeartbeats 400000 in
theorem check_any (k n : Int) (s : ByteArray) (w : World) :
    Calls Try.prog 35 #[.agg #[.int .i64 k, .int .i64 n, .string s]] w
      fun e w' => e = .returned (.int .i64 (chk k n s.toList)) ∧ Below w.heap.size w w' := by
  cases hv : okNum k n s.toList with
  | true =>
    rw [chk_num hv]
    go_enter Try.func35, Try.ntmps35
    go_wp2_with fail
    refine (isNumber_any k n s _).mono ?_
    rintro e w1 ⟨rfl, hb1⟩
    go_wp2_with fail
    go_ret
    exact ⟨rfl, (below_one _ _).trans (hb1.mono (by simp))⟩
  | false =>
    cases hu : okText k n s.toList with
    | true =>
      rw [chk_text hu]
      go_enter Try.func35, Try.ntmps35
      go_wp2_with fail
      refine (isNumber_any k n s _).mono ?_
      rintro e w1 ⟨rfl, hb1⟩
      obtain ⟨hc, hf⟩ := kept hb1
      go_wp2_with fail
      refine (isText_any k n s _).mono ?_
      rintro e w2 ⟨rfl, hb2⟩
      go_wp2_with fail
      go_ret
      exact ⟨rfl, ((below_one _ _).trans (hb1.mono (by simp))).trans (hb2.mono (by have := hb1.size; simp at this; omega))⟩
    | false =>
      rw [chk_no hv hu]
      go_enter Try.func35, Try.ntmps35
      go_wp2_with fail
      refine (isNumber_any k n s _).mono ?_
      rintro e w1 ⟨rfl, hb1⟩
      obtain ⟨hc, hf⟩ := kept hb1
      go_wp2_with fail
      refine (isText_any k n s _).mono ?_
      rintro e w2 ⟨rfl, hb2⟩
      go_wp2_with fail
      go_ret
      exact ⟨rfl, ((below_one _ _).trans (hb1.mono (by simp))).trans (hb2.mono (by have := hb1.size; simp at this; omega))⟩

/-! ### The document's own answers -/

set_option maxHeartbeats 400000 in
theorem refCheck_any (k n : Int) (s : ByteArray) (w : World) :
    Calls Try.prog 28 #[.agg #[.int .i64 k, .int .i64 n, .string s]] w
      fun e w' => e = .returned (.int .i64 (chk k n s.toList)) ∧ Below w.heap.size w w' := by
  rcases okNum_ways k n s.toList with ⟨hv, rfl, h2, h3, h4⟩ | ⟨hv, rfl, h2, h3, h4⟩ | ⟨hv, rfl, h2⟩ | ⟨hv, rfl, h2⟩ | ⟨hv, h2⟩
  · rw [chk_num hv]
    clear hv
    go_enter Try.func28, Try.ntmps28
    go_wp2_with fail
    go_ret
    exact ⟨rfl, below_one _ _⟩
  · rw [chk_no hv (decide_eq_false (fun h => by omega))]
    clear hv
    go_enter Try.func28, Try.ntmps28
    go_wp2_with fail
    go_ret
    exact ⟨rfl, below_one _ _⟩
  · rw [chk_no hv (decide_eq_false (fun h => by omega))]
    clear hv
    go_enter Try.func28, Try.ntmps28
    go_wp2_with fail
    go_ret
    exact ⟨rfl, below_one _ _⟩
  · rw [chk_no hv (decide_eq_false (fun h => by omega))]
    clear hv
    go_enter Try.func28, Try.ntmps28
    go_wp2_with fail
    go_ret
    exact ⟨rfl, below_one _ _⟩
  · rcases okText_ways k n s.toList with ⟨hu, rfl, rfl, h4⟩ | ⟨hu, rfl, rfl, h4⟩ | ⟨hu, rfl, h4⟩ | ⟨hu, h4⟩
    all_goals
      first | rw [chk_text hu] | rw [chk_no hv hu]
      clear hv hu
      try (have h5 := size_le h4; clear h4)
      try (have h5 := size_gt h4; clear h4)
      go_enter Try.func28, Try.ntmps28
      go_wp2_with fail
      go_ret
      exact ⟨rfl, below_one _ _⟩

theorem vcmp_ways (ka na kb nb : Int) (sa sb : List UInt8) :
    (vcmp ka na sa kb nb sb = -1 ∧ ka < kb) ∨ (vcmp ka na sa kb nb sb = 1 ∧ kb < ka) ∨
    (vcmp ka na sa kb nb sb = -1 ∧ ka = kb ∧ na < nb) ∨ (vcmp ka na sa kb nb sb = 1 ∧ ka = kb ∧ nb < na) ∨
    (vcmp ka na sa kb nb sb = -1 ∧ ka = kb ∧ na = nb ∧ Op.bytesLess sa sb = true) ∨
    (vcmp ka na sa kb nb sb = 0 ∧ ka = kb ∧ na = nb ∧ sa = sb) ∨
    (vcmp ka na sa kb nb sb = 1 ∧ ka = kb ∧ na = nb ∧ Op.bytesLess sa sb = false ∧ ¬ sa = sb) := by
  unfold vcmp icmp scmp
  by_cases h1 : ka < kb
  · exact Or.inl ⟨by rw [if_neg (by omega), if_pos h1], h1⟩
  by_cases h2 : kb < ka
  · exact Or.inr (Or.inl ⟨by rw [if_neg (by omega), if_neg h1, if_pos h2], h2⟩)
  have hk : ka = kb := by omega
  by_cases h3 : na < nb
  · exact Or.inr (Or.inr (Or.inl ⟨by rw [if_pos hk, if_neg (by omega), if_pos h3], hk, h3⟩))
  by_cases h4 : nb < na
  · exact Or.inr (Or.inr (Or.inr (Or.inl ⟨by rw [if_pos hk, if_neg (by omega), if_neg h3, if_pos h4], hk, h4⟩)))
  have hn : na = nb := by omega
  cases h5 : Op.bytesLess sa sb with
  | true => exact Or.inr (Or.inr (Or.inr (Or.inr (Or.inl ⟨by rw [if_pos hk, if_pos hn, if_pos rfl], hk, hn, rfl⟩))))
  | false =>
    by_cases h6 : sa = sb
    · exact Or.inr (Or.inr (Or.inr (Or.inr (Or.inr (Or.inl ⟨by rw [if_pos hk, if_pos hn, if_neg (by simp), if_pos (by simp [h6])], hk, hn, h6⟩)))))
    · exact Or.inr (Or.inr (Or.inr (Or.inr (Or.inr (Or.inr ⟨by rw [if_pos hk, if_pos hn, if_neg (by simp), if_neg (by simp [h6])], hk, hn, rfl, h6⟩)))))

set_option maxHeartbeats 400000 in
theorem refCmp_any (ka na kb nb : Int) (sa sb : ByteArray) (w : World) :
    Calls Try.prog 41 #[.agg #[.int .i64 ka, .int .i64 na, .string sa], .agg #[.int .i64 kb, .int .i64 nb, .string sb]] w
      fun e w' => e = .returned (.int .i64 (vcmp ka na sa.toList kb nb sb.toList)) ∧ Below w.heap.size w w' := by
  rcases vcmp_ways ka na kb nb sa.toList sb.toList with ⟨hv, h1⟩ | ⟨hv, h1⟩ | ⟨hv, rfl, h1⟩ | ⟨hv, rfl, h1⟩ | ⟨hv, rfl, rfl, h1⟩ | ⟨hv, rfl, rfl, h1⟩ | ⟨hv, rfl, rfl, h1, h2⟩
  all_goals
    rw [hv]
    clear hv
    try (obtain rfl := bytes_ext h1; clear h1; have h1 := less_irrefl sa.toList)
    go_enter Try.func41, Try.ntmps41
    go_wp2_with fail
    go_ret
    exact ⟨rfl, below_two _ _ _⟩
end Go.Proofs.Ytcjcahgeaffjmaa
