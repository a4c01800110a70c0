/-
  KeysJoins answers true, for every two rows: a row's bytes are its parts' one behind the other. Conditions: none.
-/
import Derived.Test.YtcjcahgeaffjmaaRows
import Derived.Test.YtcjcahgeaffjmaaKAwake
import Derived.Test.YtcjcahgeaffjmaaKFew
import Derived.Test.YtcjcahgeaffjmaaKRefRow
import Derived.Test.YtcjcahgeaffjmaaAppAny
import Derived.Test.YtcjcahgeaffjmaaOpen
namespace Go.Proofs.Ytcjcahgeaffjmaa.keysJoins
open Go.ChangeShapes Go.WideShapes Go.ChangeAt Go.RowKit

theorem lies_own {w : World} {base n c : Nat} {A : Option Addr} {l : List UInt8} (h : Own w base (.slice A n c) l) : Lies w A n c (bv l) := by
  obtain ⟨A', c', e, hl, _, _, hb⟩ := Bys.of_own h
  injection e with e1 e2 e3
  subst e1
  refine ⟨fun hA => ?_, fun ad hA j u hu => ?_⟩
  · subst hA
    have h0 := hb.none_
    have h1 := h.1
    rw [bv_length, h0] at h1
    refine ⟨?_, own_none_cap h⟩
    have : l.length = n := by
      unfold Own at h
      rcases h.2 with ⟨e, _⟩ | ⟨g, cap, cur, e, _⟩
      · injection e with _ e
        rw [e, h0]
        rfl
      · injection e with e
        cases e
    rw [← this, h0]
    rfl
  · subst hA
    exact hb.cells j u hu

theorem rows_join {w : World} {base n m : Nat} {v : Value} {xs ys : List Val} (e0 : xs.length = n) (e1 : ys.length = m) (h : w.ownsRow base 38 3 v (0 + n + m) ([] ++ rowVals xs ++ rowVals ys)) :
    ∃ A c, v = .slice A (n + m) c ∧ Row w A (xs ++ ys) := by
  rw [List.nil_append, ← rowVals_append, Nat.zero_add] at h
  have hl : (xs ++ ys).length = n + m := by simp [e0, e1]
  rw [← hl] at h ⊢
  exact row_of_own h

theorem bytes_join {w : World} {base n m : Nat} {v : Value} {xs ys : List UInt8} (e0 : xs.length = n) (e1 : ys.length = m) (h : w.ownsRow base 5 1 v (0 + n + m) ([] ++ bv xs ++ bv ys)) :
    Own w base v (xs ++ ys) := by
  unfold Own
  rw [List.nil_append, ← bv_append, Nat.zero_add] at h
  have hl : (xs ++ ys).length = n + m := by simp [e0, e1]
  rw [hl]
  exact h

set_option maxHeartbeats 3200000 in
theorem walk {w : World} (A : Option Addr) (n c : Nat) (xs : List Val) (e0 : xs.length = n) (hx : Row w A xs) (zA : A = none → n = 0 ∧ c = 0) (B : Option Addr) (m d : Nat) (ys : List Val) (e1 : ys.length = m) (hy : Row w B ys) (zB : B = none → m = 0 ∧ d = 0) :
    Calls Try.prog 9 #[.slice A n c, .slice B m d] w fun e w' => e = .returned (.bool true) ∧ Below w.heap.size w w' := by
  have F1 := fun W (h : Row W A xs) => few_n A n c xs W h e0
  have F2 := fun W (h : Row W B ys) => few_n B m d ys W h e1
  have E0 := Lib.hid e0
  have E1 := Lib.hid e1
  have ZA := Lib.hid zA
  have ZB := Lib.hid zB
  clear e0 e1 zA zB
  cases hf1 : fewB xs with
  | false =>
    rw [hf1] at F1
    clear hf1
    go_enter Try.func9, Try.ntmps9
    go_wp2_with fail
    refine (awake_any _).mono ?_
    rintro e w1 ⟨rfl, b1⟩
    go_wp2_with fail
    refine (F1 _ (hx.below b1)).mono ?_
    rintro e w2 ⟨rfl, rfl⟩
    go_wp2_with fail
    go_ret
    exact ⟨rfl, b1⟩
  | true =>
    obtain ⟨p1, p2, p3⟩ := few_says hf1
    have P2 := Lib.hid p2
    rw [hf1] at F1
    clear hf1 p2
    cases hf2 : fewB ys with
    | false =>
      rw [hf2] at F2
      clear hf2
      go_enter Try.func9, Try.ntmps9
      go_wp2_with fail
      refine (awake_any _).mono ?_
      rintro e w1 ⟨rfl, b1⟩
      go_wp2_with fail
      refine (F1 _ (hx.below b1)).mono ?_
      rintro e w2 ⟨rfl, rfl⟩
      go_wp2_with fail
      refine (F2 _ (hy.below b1)).mono ?_
      rintro e w3 ⟨rfl, rfl⟩
      go_wp2_with fail
      go_ret
      exact ⟨rfl, b1⟩
    | true =>
      obtain ⟨q1, q2, q3⟩ := few_says hf2
      have Q2 := Lib.hid q2
      rw [hf2] at F2
      clear hf2 q2
      have hn : n ≤ 100 := by rw [← E0.out]; exact p1
      have hm : m ≤ 100 := by rw [← E1.out]; exact q1
      have hl : (xs ++ ys).length = n + m := by rw [List.length_append, E0.out, E1.out]
      have HL := Lib.hid hl
      have hB : (rowB (xs ++ ys)).length ≤ 1000000 := by rw [rowB_append, List.length_append]; omega
      have HS : Hid (∀ v ∈ xs ++ ys, v.s.size ≤ 1000000) := by
        intro v hv
        rcases List.mem_append.1 hv with h | h
        · have := P2.out v h; omega
        · have := Q2.out v h; omega
      clear hl
      obtain ⟨i0, hi, hz0, hz1, hz2⟩ := info_parts valInfo
      obtain ⟨i5, hi5, hz50, hz51, hz52⟩ := info_parts byteInfo
      go_enter Try.func9, Try.ntmps9
      go_wp2_with fail
      refine (awake_any _).mono ?_
      rintro e w1 ⟨rfl, b1⟩
      go_wp2_with fail
      refine (F1 _ (hx.below b1)).mono ?_
      rintro e w2 ⟨rfl, rfl⟩
      go_wp2_with fail
      refine (F2 _ (hy.below b1)).mono ?_
      rintro e w3 ⟨rfl, rfl⟩
      clear F1 F2
      go_wp2_with fail
      refine (keysRow_n A n c xs _ (hx.below b1) E0.out (by omega) (by omega) (fun v hv => by have := P2.out v hv; omega)).mono ?_
      rintro e w6 ⟨v6, rfl, o6, b6'⟩
      have b6 : Below w.heap.size w w6 := b1.trans (b6'.mono b1.size)
      clear b6' b1
      go_wp2_with fail
      refine (keysRow_n B m d ys _ (hy.below b6) E1.out (by omega) (by omega) (fun v hv => by have := Q2.out v hv; omega)).mono ?_
      rintro e w7 ⟨v7, rfl, o7, b7'⟩
      have b7 : Below w.heap.size w w7 := b6.trans (b7'.mono b6.size)
      have o6' := own_below o6 b7'
      clear b7' b6 o6
      have bs7 := b7.size
      have hown0 : (w7.alloc (.cells #[] 38)).ownsRow w7.heap.size 38 3 (.slice (some ⟨w7.heap.size, 0, none⟩) 0 0) 0 [] := World.ownsRow_made w7 #[] 0 (Nat.le_refl _) (by unfold maxLen; omega) rfl
      go_wp2_with (first
        | (at_builtin; refine wpList_append_lay _ rfl (.tmp 24) (.tmp 25) 23 rfl w7.heap.size 38 i0 _ 3 32 Try.underlying23 hi hz0 hz1 hz2 rfl (by decide) _ _ _ rfl hown0 A n c (rowVals xs) rfl (by rw [rowVals_length, E0.out]) (Lies.row ((hx.below b7).alloc _) ZA.out) (rowVals_one _) (by unfold maxLen; omega) (by omega) (by simp) ?_; intro v8 w8 hown8 hg8; have b8 : Below w7.heap.size w7 w8 := ((Below.refl _ _).alloc (Nat.le_refl _) _).grown hg8 (by simp) (fun g hg => (hown0.lt g hg).1))
        | (at_builtin; refine wpList_append_lay _ rfl (.tmp 26) (.tmp 27) 23 rfl w7.heap.size 38 i0 _ 3 32 Try.underlying23 hi hz0 hz1 hz2 rfl (by decide) _ _ _ rfl hown8 B m d (rowVals ys) rfl (by rw [rowVals_length, E1.out]) (Lies.row ((hy.below b7).below b8) ZB.out) (rowVals_one _) (by unfold maxLen; omega) (by omega) b8.size ?_; intro v9 w9 hown9 hg9))
      have b9 : Below w7.heap.size w7 w9 := b8.grown hg9 b8.size (fun g hg => (hown8.lt g hg).1)
      obtain ⟨A9, c9, rfl, hr9⟩ := rows_join E0.out E1.out hown9
      clear hown9 hg9 hown8 hg8 hown0 b8
      refine (keysRow_n A9 _ c9 (xs ++ ys) _ hr9 HL.out (by omega) hB HS.out).mono ?_
      rintro e w10 ⟨v10, rfl, o10, b10'⟩
      have b10 : Below w7.heap.size w7 w10 := b9.trans (b10'.mono b9.size)
      have o6'' := own_below o6' b10
      have o7'' := own_below o7 b10
      have b10w : Below w.heap.size w w10 := b7.trans (b10.mono bs7)
      clear b10' b9 o6' o7 b10 b7
      obtain ⟨A6, c6, rfl, hl6, _, _, _⟩ := Bys.of_own o6''
      obtain ⟨A7, c7, rfl, hl7, _, _, _⟩ := Bys.of_own o7''
      clear hl6 hl7
      have l6 := lies_own o6''
      have l7 := lies_own o7''
      have hown0 : (w10.alloc (.cells #[] 5)).ownsRow w10.heap.size 5 1 (.slice (some ⟨w10.heap.size, 0, none⟩) 0 0) 0 [] := World.ownsRow_made w10 #[] 0 (Nat.le_refl _) (by unfold maxLen; omega) rfl
      go_wp2_with (first
        | (at_builtin; refine wpList_append_lay _ rfl (.tmp 31) (.tmp 32) 24 rfl w10.heap.size 5 i5 _ 1 1 Try.underlying24 hi5 hz50 hz51 hz52 rfl (by decide) _ _ _ rfl hown0 A6 _ c6 (bv (rowB xs)) rfl (by rw [bv_length]; omega) (l6.kept (below_one _ _)) (bv_one _) (by unfold maxLen; omega) (by omega) (by simp) ?_; intro v8 w8 hown8 hg8; have b8 : Below w10.heap.size w10 w8 := ((Below.refl _ _).alloc (Nat.le_refl _) _).grown hg8 (by simp) (fun g hg => (hown0.lt g hg).1))
        | (at_builtin; refine wpList_append_lay _ rfl (.tmp 33) (.tmp 34) 24 rfl w10.heap.size 5 i5 _ 1 1 Try.underlying24 hi5 hz50 hz51 hz52 rfl (by decide) _ _ _ rfl hown8 A7 _ c7 (bv (rowB ys)) rfl (by rw [bv_length]; omega) (l7.kept b8) (bv_one _) (by unfold maxLen; omega) (by omega) b8.size ?_; intro v9 w9 hown9 hg9))
      have b9 : Below w10.heap.size w10 w9 := b8.grown hg9 b8.size (fun g hg => (hown8.lt g hg).1)
      have o9 := bytes_join rfl rfl hown9
      obtain ⟨A11, c11, rfl, hl11, _, _, h11⟩ := Bys.of_own (own_below o10 b9)
      obtain ⟨A12, c12, rfl, hl12, _, _, h12⟩ := Bys.of_own o9
      have b9w : Below w.heap.size w w9 := b10w.trans (b9.mono b10w.size)
      clear hown9 hg9 hown8 hg8 hown0 b8 b9 o9 o10 hl11 hl12 o6'' o7'' l6 l7
      refine (sameB_any h11 h12 _ _ _ _ rfl rfl).mono ?_
      rintro e w13 ⟨rfl, rfl⟩
      rw [show (rowB (xs ++ ys) == rowB xs ++ rowB ys) = true from by rw [rowB_append]; simp]
      go_wp2_with fail
      go_ret
      exact ⟨rfl, b9w⟩

set_option maxRecDepth 100000 in
theorem lifted (os : Os) (started : os.Started) (H : Type) (enc : TypeId × Value → H) :
    ReturnsInHanded {} Try.checked os 9 .any (Rows.keysJoinsSpec.pre6 enc Try.prog Try.f9 Rows.keysJoinsRow.domain false)
      (Rows.keysJoinsSpec.post enc Try.prog Try.f9 false true false false) := by
  refine lift_law (C := Try.checked) (tb := 4) ownKnobs started (by kernel_rfl) Try.func9
    (ChangeSpec.witness6 (enc := enc) (C := Try.checked) false ⟨#[], #[.slice none 0 0, .slice none 0 0], []⟩ 8 (by kernel_rfl) (by kernel_rfl) (by kernel_rfl) (by kernel_rfl))
    laidOut ?_ rfl rfl Try.underlying4 ?_ ?_
  · intro t ht
    rw [Try.params9] at ht
    simp only [List.mem_cons, List.not_mem_nil, or_false] at ht
    rcases ht with rfl | rfl <;> exact ⟨by kernel_rfl, of_decide_eq_true (by kernel_rfl)⟩
  · intro vs ds W p hA
    rw [Try.params9] at hA
    obtain ⟨v0, vs0, d0, ds0, p0, q0, ha, rfl, rfl, h0, r0⟩ := trodAll_cons hA
    obtain ⟨v1, vs1, d1, ds1, p1, q1, rfl, rfl, rfl, h1, r1⟩ := trodAll_cons r0
    obtain ⟨rfl, rfl, rfl⟩ := trodAll_nil r1
    rfl
  · intro W base args ds p hval hA
    rw [Try.params9] at hA hval
    obtain ⟨v0, vs0, d0, ds0, p0, q0, ha, rfl, rfl, h0, r0⟩ := trodAll_cons hA
    obtain ⟨v1, vs1, d1, ds1, p1, q1, rfl, rfl, rfl, h1, r1⟩ := trodAll_cons r0
    obtain ⟨rfl, rfl, rfl⟩ := trodAll_nil r1
    obtain rfl : args = #[v0, v1] := by cases args; simp_all
    obtain ⟨A0, n0, c0, xs0, rfl, e0, hr0, z0⟩ := open_row (hval 0 _ v0 rfl rfl) h0
    obtain ⟨A1, n1, c1, xs1, rfl, e1, hr1, z1⟩ := open_row (hval 1 _ v1 rfl rfl) h1
    exact walk A0 n0 c0 xs0 e0 hr0 z0 A1 n1 c1 xs1 e1 hr1 z1

/-- The statement. -/
theorem proved : Rows.KeysJoinsSaid :=
  OpenClaim.holds_of_wide 9 Try.f9 rfl rfl rfl rfl rfl rfl rfl ⟨rfl, rfl, rfl, rfl, rfl⟩ rfl rfl rfl rfl rfl (by kernel_rfl) Try.func9 (by kernel_rfl)
    (of_decide_eq_true (by kernel_rfl)) (by unfold Func.isWrapper; first | (rw [if_pos (by decide +kernel)]; kernel_rfl) | (rw [if_neg (by decide +kernel)]; exact ⟨rfl, rfl⟩))
    (fun os started H enc _ => lifted os started H enc)
#print axioms proved
end Go.Proofs.Ytcjcahgeaffjmaa.keysJoins
