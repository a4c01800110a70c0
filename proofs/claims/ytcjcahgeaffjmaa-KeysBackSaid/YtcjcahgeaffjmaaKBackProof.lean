/-
  KeysBack answers true, for every row and every list of bytes: rows whose values may be are decoded as themselves, and bytes that are decoded are the row's. Conditions: none.
-/
import Derived.Test.YtcjcahgeaffjmaaRows
import Derived.Test.YtcjcahgeaffjmaaKAwake
import Derived.Test.YtcjcahgeaffjmaaKFew
import Derived.Test.YtcjcahgeaffjmaaRefCmp
import Derived.Test.YtcjcahgeaffjmaaOpenBytes
namespace Go.Proofs.Ytcjcahgeaffjmaa.keysBack
open Go.ChangeShapes Go.WideShapes Go.ChangeAt Go.RowKit

set_option maxHeartbeats 800000 in
theorem skipped {w : World} (A : Option Addr) (n c : Nat) (xs : List Val) (e0 : xs.length = n) (hx : Row w A xs) (B : Option Addr) (m d : Nat) (h : fewB xs = false ∨ (fewB xs = true ∧ 2000 < m)) :
    Calls Try.prog 6 #[.slice A n c, .slice B m d] w fun e w' => e = .returned (.bool true) ∧ Below w.heap.size w w' := by
  have F1 := fun W (h : Row W A xs) => few_n A n c xs W h e0
  clear e0
  rcases h with hf1 | ⟨hf1, hm⟩
  all_goals
    rw [hf1] at F1
    clear hf1
    go_enter Try.func6, Try.ntmps6
    go_wp2_with fail
    refine (awake_any _).mono ?_
    rintro e w1 ⟨rfl, b1⟩
    go_wp2_with fail
    refine (F1 _ (hx.below b1)).mono ?_
    rintro e w2 ⟨rfl, rfl⟩
    go_wp2_with fail
    go_ret
    exact ⟨rfl, b1⟩

set_option maxHeartbeats 3200000 in
theorem walk {w : World} (A : Option Addr) (n c : Nat) (xs : List Val) (e0 : xs.length = n) (hx : Row w A xs)
    (B : Option Addr) (m d : Nat) (l : List UInt8) (e1 : l.length = m) (hy : Bys w w.heap.size B l) (x0 : m ≤ d) (x1 : d ≤ maxLen) :
    Calls Try.prog 6 #[.slice A n c, .slice B m d] w fun e w' => e = .returned (.bool true) ∧ Below w.heap.size w w' := by
  by_cases hsk : fewB xs = false ∨ (fewB xs = true ∧ 2000 < m)
  · exact skipped A n c xs e0 hx B m d hsk
  have hf1 : fewB xs = true := by
    cases h : fewB xs with
    | true => rfl
    | false => exact absurd (Or.inl h) hsk
  have hm : m ≤ 2000 := by
    rcases Nat.lt_or_ge 2000 m with h | h
    · exact absurd (Or.inr ⟨hf1, h⟩) hsk
    · exact h
  have F1 := fun W (h : Row W A xs) => few_n A n c xs W h e0
  have D2 := fun W (h : Bys W W.heap.size B l) => dec_any B d l W h (by omega) x1 (by omega)
  rw [e1] at D2
  have E0 := Lib.hid e0
  have E1 := Lib.hid e1
  obtain ⟨p1, p2, p3⟩ := few_says hf1
  have P2 := Lib.hid p2
  rw [hf1] at F1
  have hn : n ≤ 100 := by rw [← e0]; exact p1
  have G1 := fun W (h : Row W A xs) => good_n A n c xs W h e0 (by omega)
  clear hf1 p2 hsk e0 e1
  have XL := dec_len (rowB xs)
  have XG := Lib.hid (dec_rowB xs)
  have YL := dec_len l
  have YG := Lib.hid (rowB_dec l)
  rw [E1.out] at YL
  have X1 : Hid (goodR xs = true → cmpR ((dec (rowB xs)).getD []) xs = 0 ∧ errB (rowB xs) = 0) := fun h => by
    unfold errB
    rw [XG.out h]
    exact ⟨(cmpR_same _ _).2 rfl, rfl⟩
  go_enter Try.func6, Try.ntmps6
  go_wp2_with fail
  refine (awake_any _).mono ?_
  rintro e w1 ⟨rfl, b1⟩
  go_wp2_with fail
  refine (F1 _ (hx.below b1)).mono ?_
  rintro e w2 ⟨rfl, rfl⟩
  clear F1
  go_wp2_with fail
  refine (keysRow_n A n c xs _ (hx.below b1) E0.out (by omega) (by omega) (fun v hv => by have := P2.out v hv; omega)).mono ?_
  rintro e w3 ⟨v3, rfl, o3, b3'⟩
  have b3 : Below w.heap.size w w3 := b1.trans (b3'.mono b1.size)
  obtain ⟨A3, c3, rfl, hl3, hc3, hm3, h3⟩ := Bys.of_own o3
  clear b3' b1 o3 hl3
  go_wp2_with fail
  refine (dec_any A3 c3 (rowB xs) _ h3 hc3 hm3 (by omega)).mono ?_
  rintro e w4 ⟨A4, c4, rfl, h4, b4'⟩
  have b4 : Below w.heap.size w w4 := b3.trans (b4'.mono b3.size)
  clear b4' b3 h3 hc3 hm3
  generalize (dec (rowB xs)).getD [] = X at *
  generalize errB (rowB xs) = E at *
  go_wp2_with fail
  refine (same_n A4 A X.length n c4 c X xs _ h4 (hx.below b4) rfl E0.out (by omega) (by omega)).mono ?_
  rintro e w5 ⟨rfl, b5'⟩
  have b5 : Below w.heap.size w w5 := b4.trans (b5'.mono b4.size)
  clear b5' b4 h4
  go_wp2_with fail
  refine (G1 _ (hx.below b5)).mono ?_
  rintro e w6 ⟨rfl, b6'⟩
  have b6 : Below w.heap.size w w6 := b5.trans (b6'.mono b5.size)
  clear b6' b5 G1
  have hy6 := (hy.below b6).more b6.size
  generalize goodR xs = gx at *
  generalize cmpR X xs = cx at *
  rcases gx with _ | _
  case' true =>
    obtain ⟨rfl, rfl⟩ := X1.out rfl
  all_goals
    clear X1 XG
    go_wp2_with fail
    refine (D2 _ hy6).mono ?_
    rintro e w7 ⟨A7, c7, rfl, h7, b7'⟩
    have b7 : Below w.heap.size w w7 := b6.trans (b7'.mono b6.size)
    clear b7' b6 D2 hy6
    unfold errB
    cases hd : dec l with
    | none =>
      rw [hd] at h7
      simp only [Option.getD_none, Option.isSome_none, List.length_nil, Bool.false_eq_true, if_false]
      clear hd
      go_wp2_with fail
      go_ret
      exact ⟨rfl, b7⟩
    | some ys =>
      obtain ⟨q1, q2⟩ := YG.out ys hd
      rw [hd] at h7 YL
      simp only [Option.getD_some] at h7 YL
      simp only [Option.getD_some, Option.isSome_some, if_true]
      have Q1 := Lib.hid q1
      have Q2 := Lib.hid q2
      have Q3 := Lib.hid (good_sizes q2)
      have hlq : (rowB ys).length ≤ 2000 := by rw [q1, E1.out]; exact hm
      clear hd q1 q2
      go_wp2_with fail
      refine (keysRow_n A7 ys.length c7 ys _ h7 rfl (by omega) (by omega) (fun v hv => by have := Q3.out v hv; omega)).mono ?_
      rintro e w8 ⟨v8, rfl, o8, b8'⟩
      have b8 : Below w.heap.size w w8 := b7.trans (b8'.mono b7.size)
      have h8 := h7.below b8'
      obtain ⟨A8, c8, rfl, hl8, _, _, h8b⟩ := Bys.of_own o8
      clear b8' b7 o8 hl8 h7
      go_wp2_with fail
      refine (sameB_any h8b (hy.below b8) _ _ _ _ rfl E1.out).mono ?_
      rintro e w9 ⟨rfl, rfl⟩
      rw [show (rowB ys == l) = true from by rw [Q1.out]; simp]
      go_wp2_with fail
      refine (good_n A7 ys.length c7 ys _ h8 rfl (by omega)).mono ?_
      rintro e w10 ⟨rfl, b10'⟩
      have b10 : Below w.heap.size w w10 := b8.trans (b10'.mono b8.size)
      rw [Q2.out]
      clear b10' b8
      go_wp2_with fail
      go_ret
      exact ⟨rfl, b10⟩

set_option maxRecDepth 100000 in
theorem lifted (os : Os) (started : os.Started) (H : Type) (enc : TypeId × Value → H) :
    ReturnsInHanded {} Try.checked os 6 .any (Rows.keysBackSpec.pre6 enc Try.prog Try.f6 Rows.keysBackRow.domain false)
      (Rows.keysBackSpec.post enc Try.prog Try.f6 false true false false) := by
  refine lift_law (C := Try.checked) (tb := 4) ownKnobs started (by kernel_rfl) Try.func6
    (ChangeSpec.witness6 (enc := enc) (C := Try.checked) false ⟨#[], #[.slice none 0 0, .slice none 0 0], []⟩ 8 (by kernel_rfl) (by kernel_rfl) (by kernel_rfl) (by kernel_rfl))
    laidOut ?_ rfl rfl Try.underlying4 ?_ ?_
  · intro t ht
    rw [Try.params6] at ht
    simp only [List.mem_cons, List.not_mem_nil, or_false] at ht
    rcases ht with rfl | rfl <;> exact ⟨by kernel_rfl, of_decide_eq_true (by kernel_rfl)⟩
  · intro vs ds W p hA
    rw [Try.params6] at hA
    obtain ⟨v0, vs0, d0, ds0, p0, q0, ha, rfl, rfl, h0, r0⟩ := trodAll_cons hA
    obtain ⟨v1, vs1, d1, ds1, p1, q1, rfl, rfl, rfl, h1, r1⟩ := trodAll_cons r0
    obtain ⟨rfl, rfl, rfl⟩ := trodAll_nil r1
    rfl
  · intro W base args ds p hval hA
    rw [Try.params6] at hA hval
    obtain ⟨v0, vs0, d0, ds0, p0, q0, ha, rfl, rfl, h0, r0⟩ := trodAll_cons hA
    obtain ⟨v1, vs1, d1, ds1, p1, q1, rfl, rfl, rfl, h1, r1⟩ := trodAll_cons r0
    obtain ⟨rfl, rfl, rfl⟩ := trodAll_nil r1
    obtain rfl : args = #[v0, v1] := by cases args; simp_all
    obtain ⟨A0, n0, c0, xs0, rfl, e0, hr0, _⟩ := open_row (hval 0 _ v0 rfl rfl) h0
    obtain ⟨A1, n1, c1, xs1, rfl, e1, hr1, y1, z1⟩ := open_bytes (hval 1 _ v1 rfl rfl) h1
    exact walk A0 n0 c0 xs0 e0 hr0 A1 n1 c1 xs1 e1 hr1 y1 z1

/-- The statement. -/
theorem proved : Rows.KeysBackSaid :=
  OpenClaim.holds_of_wide 6 Try.f6 rfl rfl rfl rfl rfl rfl rfl ⟨rfl, rfl, rfl, rfl, rfl⟩ rfl rfl rfl rfl rfl (by kernel_rfl) Try.func6 (by kernel_rfl)
    (of_decide_eq_true (by kernel_rfl)) (by unfold Func.isWrapper; first | (rw [if_pos (by decide +kernel)]; kernel_rfl) | (rw [if_neg (by decide +kernel)]; exact ⟨rfl, rfl⟩))
    (fun os started H enc _ => lifted os started H enc)
#print axioms proved
end Go.Proofs.Ytcjcahgeaffjmaa.keysBack
