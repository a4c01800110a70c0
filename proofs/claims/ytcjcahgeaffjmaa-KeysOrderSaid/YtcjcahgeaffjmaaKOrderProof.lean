/-
  KeysOrder answers true, for every two rows: bytes of rows whose values may be stand in the rows' order. Conditions: none.
-/
import Derived.Test.YtcjcahgeaffjmaaRows
import Derived.Test.YtcjcahgeaffjmaaKAwake
import Derived.Test.YtcjcahgeaffjmaaKFew
import Derived.Test.YtcjcahgeaffjmaaCmpRow
import Derived.Test.YtcjcahgeaffjmaaOpen
namespace Go.Proofs.Ytcjcahgeaffjmaa.keysOrder
open Go.ChangeShapes Go.WideShapes Go.ChangeAt Go.RowKit

set_option maxHeartbeats 1600000 in
theorem walk {w : World} (A : Option Addr) (n c : Nat) (xs : List Val) (e0 : xs.length = n) (hx : Row w A xs) (B : Option Addr) (m d : Nat) (ys : List Val) (e1 : ys.length = m) (hy : Row w B ys) :
    Calls Try.prog 7 #[.slice A n c, .slice B m d] w fun e w' => e = .returned (.bool true) ∧ Below w.heap.size w w' := by
  have F1 := fun W (h : Row W A xs) => few_n A n c xs W h e0
  have F2 := fun W (h : Row W B ys) => few_n B m d ys W h e1
  have E0 := Lib.hid e0
  have E1 := Lib.hid e1
  clear e0 e1
  cases hf1 : fewB xs with
  | false =>
    rw [hf1] at F1
    clear hf1
    go_enter Try.func7, Try.ntmps7
    go_wp2_with fail
    refine (awake_any _).mono ?_
    rintro e w1 ⟨rfl, b1⟩
    go_wp2_with fail
    refine (F1 _ (hx.below b1)).mono ?_
    rintro e w2 ⟨rfl, rfl⟩
    go_wp2_with fail
    go_ret
    exact ⟨rfl, b1⟩
  | true =>
    obtain ⟨p1, p2, p3⟩ := few_says hf1
    have P2 := Lib.hid p2
    rw [hf1] at F1
    clear hf1 p2
    cases hf2 : fewB ys with
    | false =>
      rw [hf2] at F2
      clear hf2
      go_enter Try.func7, Try.ntmps7
      go_wp2_with fail
      refine (awake_any _).mono ?_
      rintro e w1 ⟨rfl, b1⟩
      go_wp2_with fail
      refine (F1 _ (hx.below b1)).mono ?_
      rintro e w2 ⟨rfl, rfl⟩
      go_wp2_with fail
      refine (F2 _ (hy.below b1)).mono ?_
      rintro e w3 ⟨rfl, rfl⟩
      go_wp2_with fail
      go_ret
      exact ⟨rfl, b1⟩
    | true =>
      obtain ⟨q1, q2, q3⟩ := few_says hf2
      have Q2 := Lib.hid q2
      rw [hf2] at F2
      clear hf2 q2
      have hn : n ≤ 100 := by rw [← E0.out]; exact p1
      have hm : m ≤ 100 := by rw [← E1.out]; exact q1
      have G1 := fun W (h : Row W A xs) => good_n A n c xs W h E0.out (by omega)
      have G2 := fun W (h : Row W B ys) => good_n B m d ys W h E1.out (by omega)
      have HO := Lib.hid (row_order xs ys)
      generalize hg1 : goodR xs = g1 at *
      generalize hg2 : goodR ys = g2 at *
      clear hg1 hg2
      go_enter Try.func7, Try.ntmps7
      go_wp2_with fail
      refine (awake_any _).mono ?_
      rintro e w1 ⟨rfl, b1⟩
      go_wp2_with fail
      refine (F1 _ (hx.below b1)).mono ?_
      rintro e w2 ⟨rfl, rfl⟩
      go_wp2_with fail
      refine (F2 _ (hy.below b1)).mono ?_
      rintro e w3 ⟨rfl, rfl⟩
      go_wp2_with fail
      refine (G1 _ (hx.below b1)).mono ?_
      rintro e w4 ⟨rfl, b4'⟩
      have b4 : Below w.heap.size w w4 := b1.trans (b4'.mono b1.size)
      clear b4' b1
      go_wp2_with fail
      refine (G2 _ (hy.below b4)).mono ?_
      rintro e w5 ⟨rfl, b5'⟩
      have b5 : Below w.heap.size w w5 := b4.trans (b5'.mono b4.size)
      clear b5' b4
      rcases g1 with _ | _
      · go_wp2_with fail
        go_ret
        exact ⟨rfl, b5⟩
      · rcases g2 with _ | _
        · go_wp2_with fail
          go_ret
          exact ⟨rfl, b5⟩
        · have HP := Lib.hid (HO.out rfl rfl)
          clear HO G1 G2 F1 F2
          go_wp2_with fail
          refine (keysRow_n A n c xs _ (hx.below b5) E0.out (by omega) (by omega) (fun v hv => by have := P2.out v hv; omega)).mono ?_
          rintro e w6 ⟨v6, rfl, o6, b6'⟩
          have b6 : Below w.heap.size w w6 := b5.trans (b6'.mono b5.size)
          obtain ⟨A6, c6, rfl, hl6, _, _, h6⟩ := Bys.of_own o6
          clear b6' b5 o6 hl6
          go_wp2_with fail
          refine (keysRow_n B m d ys _ (hy.below b6) E1.out (by omega) (by omega) (fun v hv => by have := Q2.out v hv; omega)).mono ?_
          rintro e w7 ⟨v7, rfl, o7, b7'⟩
          have b7 : Below w.heap.size w w7 := b6.trans (b7'.mono b6.size)
          have h6' := h6.kept b7'
          obtain ⟨A7, c7, rfl, hl7, _, _, h7⟩ := Bys.of_own o7
          clear b7' b6 o7 hl7 h6
          go_wp2_with fail
          refine (keysCmp_any h6' h7 _ _ _ _ rfl rfl).mono ?_
          rintro e w8 ⟨rfl, rfl⟩
          go_wp2_with fail
          refine (cmpRow_n A B n m c d xs ys _ (hx.below b7) (hy.below b7) E0.out E1.out (by omega) (by omega)).mono ?_
          rintro e w9 ⟨rfl, b9'⟩
          have b9 : Below w.heap.size w w9 := b7.trans (b9'.mono b7.size)
          rw [HP.out]
          go_wp2_with fail
          go_ret
          exact ⟨ret_bool (by simp), b9⟩

set_option maxRecDepth 100000 in
theorem lifted (os : Os) (started : os.Started) (H : Type) (enc : TypeId × Value → H) :
    ReturnsInHanded {} Try.checked os 7 .any (Rows.keysOrderSpec.pre6 enc Try.prog Try.f7 Rows.keysOrderRow.domain false)
      (Rows.keysOrderSpec.post enc Try.prog Try.f7 false true false false) := by
  refine lift_law (C := Try.checked) (tb := 4) ownKnobs started (by kernel_rfl) Try.func7
    (ChangeSpec.witness6 (enc := enc) (C := Try.checked) false ⟨#[], #[.slice none 0 0, .slice none 0 0], []⟩ 8 (by kernel_rfl) (by kernel_rfl) (by kernel_rfl) (by kernel_rfl))
    laidOut ?_ rfl rfl Try.underlying4 ?_ ?_
  · intro t ht
    rw [Try.params7] at ht
    simp only [List.mem_cons, List.not_mem_nil, or_false] at ht
    rcases ht with rfl | rfl <;> exact ⟨by kernel_rfl, of_decide_eq_true (by kernel_rfl)⟩
  · intro vs ds W p hA
    rw [Try.params7] at hA
    obtain ⟨v0, vs0, d0, ds0, p0, q0, ha, rfl, rfl, h0, r0⟩ := trodAll_cons hA
    obtain ⟨v1, vs1, d1, ds1, p1, q1, rfl, rfl, rfl, h1, r1⟩ := trodAll_cons r0
    obtain ⟨rfl, rfl, rfl⟩ := trodAll_nil r1
    rfl
  · intro W base args ds p hval hA
    rw [Try.params7] at hA hval
    obtain ⟨v0, vs0, d0, ds0, p0, q0, ha, rfl, rfl, h0, r0⟩ := trodAll_cons hA
    obtain ⟨v1, vs1, d1, ds1, p1, q1, rfl, rfl, rfl, h1, r1⟩ := trodAll_cons r0
    obtain ⟨rfl, rfl, rfl⟩ := trodAll_nil r1
    obtain rfl : args = #[v0, v1] := by cases args; simp_all
    obtain ⟨A0, n0, c0, xs0, rfl, e0, hr0, _⟩ := open_row (hval 0 _ v0 rfl rfl) h0
    obtain ⟨A1, n1, c1, xs1, rfl, e1, hr1, _⟩ := open_row (hval 1 _ v1 rfl rfl) h1
    exact walk A0 n0 c0 xs0 e0 hr0 A1 n1 c1 xs1 e1 hr1

/-- The statement. -/
theorem proved : Rows.KeysOrderSaid :=
  OpenClaim.holds_of_wide 7 Try.f7 rfl rfl rfl rfl rfl rfl rfl ⟨rfl, rfl, rfl, rfl, rfl⟩ rfl rfl rfl rfl rfl (by kernel_rfl) Try.func7 (by kernel_rfl)
    (of_decide_eq_true (by kernel_rfl)) (by unfold Func.isWrapper; first | (rw [if_pos (by decide +kernel)]; kernel_rfl) | (rw [if_neg (by decide +kernel)]; exact ⟨rfl, rfl⟩))
    (fun os started H enc _ => lifted os started H enc)
#print axioms proved
end Go.Proofs.Ytcjcahgeaffjmaa.keysOrder
