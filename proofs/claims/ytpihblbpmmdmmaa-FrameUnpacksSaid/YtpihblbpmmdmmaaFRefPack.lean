/-
  What the document's own Pack comes to (package tailraceref05).
-/
import Derived.Test.YtpihblbpmmdmmaaFNum
import Derived.Test.YtpihblbpmmdmmaaCRef
namespace Go.Proofs.Ytpihblbpmmdmmaa
open Go.RowKit

theorem kind_cell (w : World) {k : Nat} (h : k ≤ 4) (t : TypeId) : w.alloc (.cells #[.int .u8 (k : Int)] t) = w.alloc (.cells (bv (be 1 k)).toArray t) := by
  rw [be_one]
  show _ = w.alloc (.cells #[.int .u8 ((UInt8.ofNat k).toNat : Int)] t)
  rw [ofNat_toNat, show ((k % 256 : Nat) : Int) = (k : Int) from by omega]

theorem own_lit (w : World) (l : List UInt8) (hl : l.length ≤ maxLen) : Own (w.alloc (.cells (bv l).toArray 5)) w.heap.size (.slice (some ⟨w.heap.size, 0, none⟩) l.length l.length) l := by
  refine ⟨by rw [bv_length]; omega, Or.inr ⟨w.heap.size, l.length, (bv l).toArray, rfl, Nat.le_refl _, heap_alloc_new w _, Nat.le_refl _, hl, by simp [bv_length], ?_⟩⟩
  rw [Nat.mul_one, List.take_of_length_le (by simp [bv_length])]

theorem two_spell {n : Nat} (h : n ≤ 1000) : [Value.int .u8 ((n : Int) / 256), .int .u8 ((n : Int) % 256)] = bv (be 2 n) := by
  rw [be_two]
  show _ = [Value.int .u8 ((UInt8.ofNat (n / 256)).toNat : Int), .int .u8 ((UInt8.ofNat n).toNat : Int)]
  rw [ofNat_toNat, ofNat_toNat]
  simp only [List.cons.injEq, Value.int.injEq, and_true, true_and]
  omega

set_option maxHeartbeats 1600000 in
theorem refPack_yes {R : Nat} (k p : Nat) (A : Option Addr) (n c : Nat) (l : List UInt8) (w : World) (hl : l.length = n) (hr : Bys w R A l) (hz : A = none → n = 0 ∧ c = 0) (h : FOk k p l.length) :
    Calls Try.prog 13 #[.int .i64 k, .int .i64 p, .slice A n c] w (PackEnd w k p l) := by
  have HP : Hid (packE k p l = 0 ∧ packB k p l = frm k p l) := by
    unfold packE packB
    rw [if_pos h, if_pos h]
    exact Lib.hid ⟨rfl, rfl⟩
  have hk1 : 1 ≤ k := by have := h.1; omega
  have hk4 : k ≤ 4 := by have := h.2.1; omega
  have hp4 : p ≤ 2147483647 := by have := h.2.2.2.1; omega
  have hn : n ≤ 1000 := by have := h.2.2.2.2; omega
  obtain ⟨i0, hi, hz0, hz1, hz2⟩ := info_parts byteInfo
  have HL := Lib.hid hl
  have HR := Lib.hid hr
  have HZ := Lib.hid hz
  clear h hl hr hz
  go_enter Try.func13, Try.ntmps13
  go_wp2_with fail
  rw [kind_cell w hk4]
  refine (four_any p (by omega) _).mono ?_
  rintro e w1 ⟨rfl, rfl⟩
  have o1 : ((w.alloc (.cells (bv (be 1 k)).toArray 5)).alloc (.cells (bv (be4 p)).toArray 5)).ownsRow w.heap.size 5 1 (.slice (some ⟨w.heap.size, 0, none⟩) 1 1) 1 (bv (be 1 k)) := World.ownsRow.alloc (own_lit w (be 1 k) (by rw [be_one]; unfold maxLen; simp)) _
  have hnew : Hid (∀ j u, (bv (be4 p))[j]? = some u → ((w.alloc (.cells (bv (be 1 k)).toArray 5)).alloc (.cells (bv (be4 p)).toArray 5)).cell? ((⟨(w.alloc (.cells (bv (be 1 k)).toArray 5)).heap.size, 0, none⟩ : Addr).add j) = some u) := (bys_new (w.alloc (.cells (bv (be 1 k)).toArray 5)) (be4 p) 5).cells
  have B1 := Lib.hid (below_two w (.cells (bv (be 1 k)).toArray 5) (.cells (bv (be4 p)).toArray 5))
  have b1 := B1.out.size
  generalize (w.alloc (.cells (bv (be 1 k)).toArray 5)).heap.size = g2 at *
  generalize (w.alloc (.cells (bv (be 1 k)).toArray 5)).alloc (.cells (bv (be4 p)).toArray 5) = w1 at *
  go_wp2_with (first
    | (at_builtin; refine wpList_append_own _ rfl (.tmp 30) (.tmp 33) 23 rfl w.heap.size 5 i0 (.int .u8 0) 1 1 Try.underlying23 hi hz0 hz1 hz2 rfl (by decide) _ _ _ rfl o1 ⟨g2, 0, none⟩ 4 4 (bv (be4 p)) rfl rfl hnew.out (bv_one _) (by unfold maxLen; omega) (by omega) (by omega) ?_; intro v2 w2 hown2 hg2 _; have b2 : Below w.heap.size w w2 := B1.out.grown hg2 b1 (fun g hg => (o1.lt g hg).1))
    | (at_builtin; refine wpList_append_own _ rfl (.tmp 35) (.tmp 44) 23 rfl w.heap.size 5 i0 (.int .u8 0) 1 1 Try.underlying23 hi hz0 hz1 hz2 rfl (by decide) _ _ _ rfl (hown2.alloc _) ⟨w2.heap.size, 0, none⟩ 2 2 [_, _] rfl rfl (cell_two_new _ _ _ _) (by simp [Value.oneCell']) (by unfold maxLen; omega) (by omega) (by have := b2.size; simp; omega) ?_; intro v3 w3 hown3 hg3 _; have b3 : Below w.heap.size w w3 := (b2.alloc b2.size _).grown hg3 (by have := b2.size; simp; omega) (fun g hg => (hown2.lt g hg).1); rw [two_spell hn, ← bv_append, ← bv_append] at hown3; have z3 := b3.size; have lz := Lies.bys (HR.out.kept b3) HZ.out)
    | (at_builtin; refine wpList_append_lay _ rfl (.tmp 46) (.tmp 47) 23 rfl w.heap.size 5 i0 _ 1 1 Try.underlying23 hi hz0 hz1 hz2 rfl (by decide) _ _ _ rfl hown3 A n c (bv l) rfl (by rw [bv_length, HL.out]; omega) lz (bv_one _) (by unfold maxLen; omega) (by omega) z3 ?_; intro v4 w4 hown4 hg4; obtain ⟨A4, c4, rfl, o4, r4⟩ := own_grown hown4))
  have HD : Hid (be 1 k ++ be4 p ++ be 2 n ++ l = bod (k : Int) (p : Int) l) := by
    rw [← HL.out]
    exact Lib.hid rfl
  have h7 : (be 1 k ++ be4 p ++ be 2 n ++ l).length = 7 + n := by simp [be_length, be4_length, HL.out]; omega
  have B4 : Hid (Below w.heap.size w w4) := b3.grown hg4 z3 (fun g hg => (hown3.lt g hg).1)
  have R4 := Lib.hid r4
  have O4 := Lib.hid o4
  clear hg4 hown4 hg3 hown3 hg2 hown2 lz z3 b3 b2 o1 hnew B1 b1 r4 o4
  generalize be 1 k ++ be4 p ++ be 2 n ++ l = bd at *
  have H7 := Lib.hid h7
  have HX := Lib.hid (crcM_lt (s := 0) (by omega) bd)
  refine (refSum_n A4 (1 + 4 + 2 + n) c4 bd _ R4.out (by omega) (by omega)).mono ?_
  rintro e w5 ⟨rfl, rfl⟩
  have HF : Hid (bd ++ be4 (crcM 0 bd) = frm (k : Int) (p : Int) l) := by
    rw [HD.out]
    exact Lib.hid rfl
  clear HD h7 R4
  generalize crcM 0 bd = x at *
  go_wp2_with fail
  refine (four_any x HX.out _).mono ?_
  rintro e w6 ⟨rfl, rfl⟩
  have o5 : (w4.alloc (.cells (bv (be4 x)).toArray 5)).ownsRow w.heap.size 5 1 (.slice A4 (1 + 4 + 2 + n) c4) (7 + n) (bv bd) := by
    have := World.ownsRow.alloc O4.out (.cells (bv (be4 x)).toArray 5)
    rw [H7.out] at this
    exact this
  have hnew : Hid (∀ j u, (bv (be4 x))[j]? = some u → (w4.alloc (.cells (bv (be4 x)).toArray 5)).cell? ((⟨w4.heap.size, 0, none⟩ : Addr).add j) = some u) := (bys_new w4 (be4 x) 5).cells
  have B5 := Lib.hid (B4.out.alloc B4.out.size (.cells (bv (be4 x)).toArray 5))
  have b5 := B5.out.size
  clear O4 B4
  go_wp2_with (at_builtin; refine wpList_append_own _ rfl (.tmp 49) (.tmp 52) 23 rfl w.heap.size 5 i0 (.int .u8 0) 1 1 Try.underlying23 hi hz0 hz1 hz2 rfl (by decide) _ _ _ rfl o5 ⟨w4.heap.size, 0, none⟩ 4 4 (bv (be4 x)) rfl rfl hnew.out (bv_one _) (by unfold maxLen; omega) (by omega) (by omega) ?_; intro v6 w6 hown6 hg6 _)
  have B6 := Lib.hid (B5.out.grown hg6 b5 (fun g hg => (o5.lt g hg).1))
  have O6 : Hid (Own w6 w.heap.size v6 (frm (k : Int) (p : Int) l)) := by
    rw [← HF.out]
    unfold Own
    rw [List.length_append, H7.out, bv_append]
    exact Lib.hid hown6
  clear hg6 hown6 hnew B5 b5 o5 HF
  go_ret2
  refine ⟨v6, ?_, ?_, B6.out⟩
  · rw [HP.out.1]
    rfl
  · rw [HP.out.2]
    exact O6.out

set_option maxHeartbeats 800000 in
theorem refPack_no (k p : Int) (A : Option Addr) (n c : Nat) (l : List UInt8) (w : World) (hl : l.length = n) (h : ¬ FOk k p l.length) :
    Calls Try.prog 13 #[.int .i64 k, .int .i64 p, .slice A n c] w (PackEnd w k p l) := by
  have HP := Lib.hid (fun w' => pack_bad (k := k) (p := p) (l := l) h w w')
  have HN := Lib.hid (show ¬ (1 ≤ k ∧ k ≤ 4 ∧ 0 ≤ p ∧ p ≤ 2147483647 ∧ n ≤ 1000) from by rw [← hl]; exact h)
  clear h hl
  by_cases h1 : k < 1
  · go_enter Try.func13, Try.ntmps13
    go_wp2_with fail
    go_ret2
    exact HP.out _ rfl
  by_cases h2 : k > 4
  · go_enter Try.func13, Try.ntmps13
    go_wp2_with fail
    go_ret2
    exact HP.out _ rfl
  by_cases h3 : p < 0
  · go_enter Try.func13, Try.ntmps13
    go_wp2_with fail
    go_ret2
    exact HP.out _ rfl
  by_cases h4 : p > 2147483647
  · go_enter Try.func13, Try.ntmps13
    go_wp2_with fail
    go_ret2
    exact HP.out _ rfl
  have h5 : n > 1000 := by
    have := HN.out
    omega
  go_enter Try.func13, Try.ntmps13
  go_wp2_with fail
  go_ret2
  exact HP.out _ rfl

/-- The document's own Pack, whatever is handed in. -/
theorem refPack_all {R : Nat} (k p : Int) (A : Option Addr) (n c : Nat) (l : List UInt8) (w : World) (hl : l.length = n) (hr : Bys w R A l) (hz : A = none → n = 0 ∧ c = 0) :
    Calls Try.prog 13 #[.int .i64 k, .int .i64 p, .slice A n c] w (PackEnd w k p l) := by
  by_cases h : FOk k p l.length
  · obtain ⟨k', rfl⟩ : ∃ k' : Nat, k = k' := ⟨k.toNat, by have := h.1; omega⟩
    obtain ⟨p', rfl⟩ : ∃ p' : Nat, p = p' := ⟨p.toNat, by have := h.2.2.1; omega⟩
    exact refPack_yes k' p' A n c l w hl hr hz h
  · exact refPack_no k p A n c l w hl h
end Go.Proofs.Ytpihblbpmmdmmaa
