/-
  KeysTells answers true, for every row and every list of bytes: a row's bytes, and the row of bytes, are what the document says, or its error. Conditions: none.
-/
import Derived.Test.YtcjcahgeaffjmaaRows
import Derived.Test.YtcjcahgeaffjmaaKAwake
import Derived.Test.YtcjcahgeaffjmaaKFew
import Derived.Test.YtcjcahgeaffjmaaRefCmp
import Derived.Test.YtcjcahgeaffjmaaKRefRow
import Derived.Test.YtcjcahgeaffjmaaKRefDec
import Derived.Test.YtcjcahgeaffjmaaOpenBytes
namespace Go.Proofs.Ytcjcahgeaffjmaa.keysTells
open Go.ChangeShapes Go.WideShapes Go.ChangeAt Go.RowKit

set_option maxHeartbeats 800000 in
theorem skipped {w : World} (A : Option Addr) (n c : Nat) (xs : List Val) (e0 : xs.length = n) (hx : Row w A xs) (B : Option Addr) (m d : Nat) (h : fewB xs = false ∨ (fewB xs = true ∧ 2000 < m)) :
    Calls Try.prog 4 #[.slice A n c, .slice B m d] w fun e w' => e = .returned (.bool true) ∧ Below w.heap.size w w' := by
  have F1 := fun W (h : Row W A xs) => few_n A n c xs W h e0
  clear e0
  rcases h with hf1 | ⟨hf1, hm⟩
  all_goals
    rw [hf1] at F1
    clear hf1
    go_enter Try.func4, Try.ntmps4
    go_wp2_with fail
    refine (awake_any _).mono ?_
    rintro e w1 ⟨rfl, b1⟩
    go_wp2_with fail
    refine (F1 _ (hx.below b1)).mono ?_
    rintro e w2 ⟨rfl, rfl⟩
    go_wp2_with fail
    go_ret
    exact ⟨rfl, b1⟩

set_option maxHeartbeats 3200000 in
theorem walk {w : World} (A : Option Addr) (n c : Nat) (xs : List Val) (e0 : xs.length = n) (hx : Row w A xs)
    (B : Option Addr) (m d : Nat) (l : List UInt8) (e1 : l.length = m) (hy : Bys w w.heap.size B l) (x0 : m ≤ d) (x1 : d ≤ maxLen) :
    Calls Try.prog 4 #[.slice A n c, .slice B m d] w fun e w' => e = .returned (.bool true) ∧ Below w.heap.size w w' := by
  by_cases hsk : fewB xs = false ∨ (fewB xs = true ∧ 2000 < m)
  · exact skipped A n c xs e0 hx B m d hsk
  have hf1 : fewB xs = true := by
    cases h : fewB xs with
    | true => rfl
    | false => exact absurd (Or.inl h) hsk
  have hm : m ≤ 2000 := by
    rcases Nat.lt_or_ge 2000 m with h | h
    · exact absurd (Or.inr ⟨hf1, h⟩) hsk
    · exact h
  have F1 := fun W (h : Row W A xs) => few_n A n c xs W h e0
  have D1 := fun W (h : Bys W W.heap.size B l) => dec_any B d l W h (by omega) x1 (by omega)
  have D2 := fun W (h : Bys W W.heap.size B l) => refDec_any B d l W h (by omega) (by omega)
  rw [e1] at D1 D2
  have E0 := Lib.hid e0
  have E1 := Lib.hid e1
  obtain ⟨p1, p2, p3⟩ := few_says hf1
  have P2 := Lib.hid p2
  rw [hf1] at F1
  have hn : n ≤ 100 := by rw [← e0]; exact p1
  have YL := dec_len l
  rw [e1] at YL
  clear hf1 p2 hsk e0 e1
  go_enter Try.func4, Try.ntmps4
  go_wp2_with fail
  refine (awake_any _).mono ?_
  rintro e w1 ⟨rfl, b1⟩
  go_wp2_with fail
  refine (F1 _ (hx.below b1)).mono ?_
  rintro e w2 ⟨rfl, rfl⟩
  clear F1
  go_wp2_with fail
  refine (D1 _ ((hy.below b1).more b1.size)).mono ?_
  rintro e w3 ⟨A3, c3, rfl, h3, b3'⟩
  have b3 : Below w.heap.size w w3 := b1.trans (b3'.mono b1.size)
  clear b3' b1 D1
  go_wp2_with fail
  refine (D2 _ ((hy.below b3).more b3.size)).mono ?_
  rintro e w4 ⟨A4, c4, rfl, h4, b4'⟩
  have b4 : Below w.heap.size w w4 := b3.trans (b4'.mono b3.size)
  have h3' := h3.below b4'
  clear b4' b3 D2 h3
  generalize (dec l).getD [] = Y at *
  generalize errB l = E at *
  go_wp2_with fail
  refine (keysRow_n A n c xs _ (hx.below b4) E0.out (by omega) (by omega) (fun v hv => by have := P2.out v hv; omega)).mono ?_
  rintro e w5 ⟨v5, rfl, o5, b5'⟩
  have b5 : Below w.heap.size w w5 := b4.trans (b5'.mono b4.size)
  have h3'' := h3'.below b5'
  have h4' := h4.below b5'
  clear b5' b4 h3' h4
  go_wp2_with fail
  refine (refRow_n A n c xs _ (hx.below b5) E0.out (by omega) (by omega) (fun v hv => by have := P2.out v hv; omega)).mono ?_
  rintro e w6 ⟨v6, rfl, o6, b6'⟩
  have b6 : Below w.heap.size w w6 := b5.trans (b6'.mono b5.size)
  have h3 := h3''.below b6'
  have h4 := h4'.below b6'
  obtain ⟨A5, c5, rfl, _, _, _, h5⟩ := Bys.of_own (own_below o5 b6')
  obtain ⟨A6, c6, rfl, _, _, _, h6⟩ := Bys.of_own o6
  clear b6' b5 h3'' h4' o5 o6
  go_wp2_with fail
  refine (sameB_any h5 h6 _ _ _ _ rfl rfl).mono ?_
  rintro e w7 ⟨rfl, rfl⟩
  rw [show (rowB xs == rowB xs) = true from by simp]
  clear h5 h6
  go_wp2_with fail
  refine (same_n A3 A4 Y.length Y.length c3 c4 Y Y _ h3 h4 rfl rfl (by omega) (by omega)).mono ?_
  rintro e w8 ⟨rfl, b8'⟩
  rw [show (cmpR Y Y == 0) = true from by rw [(cmpR_same Y Y).2 rfl]; rfl]
  have b8 : Below w.heap.size w w8 := b6.trans (b8'.mono b6.size)
  clear b8' b6 h3 h4
  go_wp2_with fail
  go_ret
  exact ⟨ret_bool (by simp), b8⟩

set_option maxRecDepth 100000 in
theorem lifted (os : Os) (started : os.Started) (H : Type) (enc : TypeId × Value → H) :
    ReturnsInHanded {} Try.checked os 4 .any (Rows.keysTellsSpec.pre6 enc Try.prog Try.f4 Rows.keysTellsRow.domain false)
      (Rows.keysTellsSpec.post enc Try.prog Try.f4 false true false false) := by
  refine lift_law (C := Try.checked) (tb := 4) ownKnobs started (by kernel_rfl) Try.func4
    (ChangeSpec.witness6 (enc := enc) (C := Try.checked) false ⟨#[], #[.slice none 0 0, .slice none 0 0], []⟩ 8 (by kernel_rfl) (by kernel_rfl) (by kernel_rfl) (by kernel_rfl))
    laidOut ?_ rfl rfl Try.underlying4 ?_ ?_
  · intro t ht
    rw [Try.params4] at ht
    simp only [List.mem_cons, List.not_mem_nil, or_false] at ht
    rcases ht with rfl | rfl <;> exact ⟨by kernel_rfl, of_decide_eq_true (by kernel_rfl)⟩
  · intro vs ds W p hA
    rw [Try.params4] at hA
    obtain ⟨v0, vs0, d0, ds0, p0, q0, ha, rfl, rfl, h0, r0⟩ := trodAll_cons hA
    obtain ⟨v1, vs1, d1, ds1, p1, q1, rfl, rfl, rfl, h1, r1⟩ := trodAll_cons r0
    obtain ⟨rfl, rfl, rfl⟩ := trodAll_nil r1
    rfl
  · intro W base args ds p hval hA
    rw [Try.params4] at hA hval
    obtain ⟨v0, vs0, d0, ds0, p0, q0, ha, rfl, rfl, h0, r0⟩ := trodAll_cons hA
    obtain ⟨v1, vs1, d1, ds1, p1, q1, rfl, rfl, rfl, h1, r1⟩ := trodAll_cons r0
    obtain ⟨rfl, rfl, rfl⟩ := trodAll_nil r1
    obtain rfl : args = #[v0, v1] := by cases args; simp_all
    obtain ⟨A0, n0, c0, xs0, rfl, e0, hr0, _⟩ := open_row (hval 0 _ v0 rfl rfl) h0
    obtain ⟨A1, n1, c1, xs1, rfl, e1, hr1, y1, z1⟩ := open_bytes (hval 1 _ v1 rfl rfl) h1
    exact walk A0 n0 c0 xs0 e0 hr0 A1 n1 c1 xs1 e1 hr1 y1 z1

/-- The statement. -/
theorem proved : Rows.KeysTellsSaid :=
  OpenClaim.holds_of_wide 4 Try.f4 rfl rfl rfl rfl rfl rfl rfl ⟨rfl, rfl, rfl, rfl, rfl⟩ rfl rfl rfl rfl rfl (by kernel_rfl) Try.func4 (by kernel_rfl)
    (of_decide_eq_true (by kernel_rfl)) (by unfold Func.isWrapper; first | (rw [if_pos (by decide +kernel)]; kernel_rfl) | (rw [if_neg (by decide +kernel)]; exact ⟨rfl, rfl⟩))
    (fun os started H enc _ => lifted os started H enc)
#print axioms proved
end Go.Proofs.Ytcjcahgeaffjmaa.keysTells
