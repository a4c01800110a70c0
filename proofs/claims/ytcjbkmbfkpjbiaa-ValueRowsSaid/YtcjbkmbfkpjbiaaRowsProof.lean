/-
  ValueRows answers true, for every two rows and every list of kinds: whether a row is of some kinds, its own kinds, and the order of two rows, are what the document says. Conditions: none.
-/
import Derived.Test.YtcjbkmbfkpjbiaaRows
import Derived.Test.YtcjbkmbfkpjbiaaAwake
import Derived.Test.YtcjbkmbfkpjbiaaOpen
import Derived.Test.YtcjbkmbfkpjbiaaRef
namespace Go.Proofs.Ytcjbkmbfkpjbiaa.valueRows
open Go.ChangeShapes Go.WideShapes Go.ChangeAt Go.RowKit

set_option maxHeartbeats 1600000 in
theorem long (A : Option Addr) (n c : Nat) (B : Option Addr) (m d : Nat) (K : Option Addr) (q f : Nat) (hlen : 200 < n ∨ 200 < m ∨ 200 < q) (w : World) :
    Calls Try.prog 5 #[.slice A n c, .slice B m d, .slice K q f] w
      fun e w' => e = .returned (.bool true) ∧ Below w.heap.size w w' := by
  have way : 200 < n ∨ (n ≤ 200 ∧ 200 < m) ∨ (n ≤ 200 ∧ m ≤ 200 ∧ 200 < q) := by omega
  rcases way with h | ⟨h, h'⟩ | ⟨h, h', h''⟩
  all_goals
    clear hlen
    go_enter Try.func5, Try.ntmps5
    go_wp2_with fail
    refine (awake_any _).mono ?_
    rintro e w1 ⟨rfl, hb1⟩
    go_wp2_with fail
    go_ret
    exact ⟨rfl, hb1⟩

set_option maxHeartbeats 1600000 in
theorem walk {w : World} (A : Option Addr) (n c : Nat) (xs : List Val) (e0 : xs.length = n) (hx : Row w A xs) (B : Option Addr) (m d : Nat) (ys : List Val) (e1 : ys.length = m) (hy : Row w B ys)
    (K : Option Addr) (q f : Nat) (zs : List Int) (e2 : zs.length = q) (hz : Ints w K zs) :
    Calls Try.prog 5 #[.slice A n c, .slice B m d, .slice K q f] w
      fun e w' => e = .returned (.bool true) ∧ Below w.heap.size w w' := by
  by_cases hlen : 200 < n ∨ 200 < m ∨ 200 < q
  · exact long A n c B m d K q f hlen w
  have hn : n ≤ 200 := by omega
  have hm : m ≤ 200 := by omega
  have hq : q ≤ 200 := by omega
  have E0 := Lib.hid e0
  have E1 := Lib.hid e1
  have E2 := Lib.hid e2
  clear hlen e0 e1 e2
  go_enter Try.func5, Try.ntmps5
  go_wp2_with fail
  refine (awake_any _).mono ?_
  rintro e w1 ⟨rfl, b1⟩
  go_wp2_with fail
  refine (kinds_n A n c xs _ (hx.below b1) E0.out (by omega)).mono ?_
  rintro e w2 ⟨rfl, hk2, b2'⟩
  have b2 : Below w.heap.size w w2 := b1.trans (b2'.mono b1.size)
  go_wp2_with fail
  refine (refKinds_n A n c xs _ (hx.below b2) E0.out (by omega)).mono ?_
  rintro e w3 ⟨v3, rfl, hk3, b3'⟩
  have b3 : Below w.heap.size w w3 := b2.trans (b3'.mono b2.size)
  obtain ⟨A3, c3, rfl, hi3⟩ := hk3.out
  have hi2 := hk2.below b3'
  clear hk2 hk3 b2' b3'
  have el : (xs.map Val.k).length = n := (List.length_map _).trans E0.out
  have EL := Lib.hid el
  clear el
  go_wp2_with fail
  refine (refInts_n _ A3 n n _ c3 (xs.map Val.k) (xs.map Val.k) _ hi2 hi3 EL.out EL.out (by omega)).mono ?_
  rintro e w4 ⟨rfl, b4'⟩
  have b4 : Below w.heap.size w w4 := b3.trans (b4'.mono b3.size)
  clear b4' hi2 hi3
  rw [decide_eq_true (rfl : xs.map Val.k = xs.map Val.k)]
  go_wp2_with fail
  refine (checkRow_n A K n q c f xs zs _ (hx.below b4) (hz.below b4) E0.out E2.out (by omega)).mono ?_
  rintro e w5 ⟨rfl, b5'⟩
  have b5 : Below w.heap.size w w5 := b4.trans (b5'.mono b4.size)
  clear b5'
  go_wp2_with fail
  refine (refCheckRow_n A K n q c f xs zs _ (hx.below b5) (hz.below b5) E0.out E2.out (by omega)).mono ?_
  rintro e w6 ⟨rfl, b6'⟩
  have b6 : Below w.heap.size w w6 := b5.trans (b6'.mono b5.size)
  clear b6'
  go_wp2_with fail
  refine (cmpRow_n A B n m c d xs ys _ (hx.below b6) (hy.below b6) E0.out E1.out (by omega) (by omega)).mono ?_
  rintro e w7 ⟨rfl, b7'⟩
  have b7 : Below w.heap.size w w7 := b6.trans (b7'.mono b6.size)
  clear b7'
  go_wp2_with fail
  refine (refCmpRow_n A B n m c d xs ys _ (hx.below b7) (hy.below b7) E0.out E1.out (by omega) (by omega)).mono ?_
  rintro e w8 ⟨rfl, b8'⟩
  have b8 : Below w.heap.size w w8 := b7.trans (b8'.mono b7.size)
  clear b8'
  go_wp2_with fail
  go_ret
  exact ⟨rfl, b8⟩

set_option maxRecDepth 100000 in
theorem lifted (os : Os) (started : os.Started) (H : Type) (enc : TypeId × Value → H) :
    ReturnsInHanded {} Try.checked os 5 .any (Rows.valueRowsSpec.pre6 enc Try.prog Try.f5 Rows.valueRowsRow.domain false)
      (Rows.valueRowsSpec.post enc Try.prog Try.f5 false true false false) := by
  refine lift_law (C := Try.checked) (tb := 4) ownKnobs started (by kernel_rfl) Try.func5
    (ChangeSpec.witness6 (enc := enc) (C := Try.checked) false ⟨#[], #[.slice none 0 0, .slice none 0 0, .slice none 0 0], []⟩ 8 (by kernel_rfl) (by kernel_rfl) (by kernel_rfl) (by kernel_rfl))
    laidOut ?_ rfl rfl Try.underlying4 ?_ ?_
  · intro t ht
    rw [Try.params5] at ht
    simp only [List.mem_cons, List.not_mem_nil, or_false] at ht
    rcases ht with rfl | rfl | rfl <;> exact ⟨by kernel_rfl, of_decide_eq_true (by kernel_rfl)⟩
  · intro vs ds W p hA
    rw [Try.params5] at hA
    obtain ⟨v0, vs0, d0, ds0, p0, q0, ha, rfl, rfl, h0, r0⟩ := trodAll_cons hA
    obtain ⟨v1, vs1, d1, ds1, p1, q1, rfl, rfl, rfl, h1, r1⟩ := trodAll_cons r0
    obtain ⟨v2, vs2, d2, ds2, p2, q2, rfl, rfl, rfl, h2, r2⟩ := trodAll_cons r1
    obtain ⟨rfl, rfl, rfl⟩ := trodAll_nil r2
    rfl
  · intro W base args ds p hval hA
    rw [Try.params5] at hA hval
    obtain ⟨v0, vs0, d0, ds0, p0, q0, ha, rfl, rfl, h0, r0⟩ := trodAll_cons hA
    obtain ⟨v1, vs1, d1, ds1, p1, q1, rfl, rfl, rfl, h1, r1⟩ := trodAll_cons r0
    obtain ⟨v2, vs2, d2, ds2, p2, q2, rfl, rfl, rfl, h2, r2⟩ := trodAll_cons r1
    obtain ⟨rfl, rfl, rfl⟩ := trodAll_nil r2
    obtain rfl : args = #[v0, v1, v2] := by cases args; simp_all
    obtain ⟨A0, n0, c0, xs0, rfl, e0, hr0, _⟩ := open_row (hval 0 _ v0 rfl rfl) h0
    obtain ⟨A1, n1, c1, xs1, rfl, e1, hr1, _⟩ := open_row (hval 1 _ v1 rfl rfl) h1
    obtain ⟨A2, n2, c2, xs2, rfl, e2, hr2⟩ := open_nums (hval 2 _ v2 rfl rfl) h2
    exact walk A0 n0 c0 xs0 e0 hr0 A1 n1 c1 xs1 e1 hr1 A2 n2 c2 xs2 e2 hr2

/-- The statement. -/
theorem proved : Rows.ValueRowsSaid :=
  OpenClaim.holds_of_wide 5 Try.f5 rfl rfl rfl rfl rfl rfl rfl ⟨rfl, rfl, rfl, rfl, rfl⟩ rfl rfl rfl rfl rfl (by kernel_rfl) Try.func5 (by kernel_rfl)
    (of_decide_eq_true (by kernel_rfl)) (by unfold Func.isWrapper; first | (rw [if_pos (by decide +kernel)]; kernel_rfl) | (rw [if_neg (by decide +kernel)]; exact ⟨rfl, rfl⟩))
    (fun os started H enc _ => lifted os started H enc)
#print axioms proved
end Go.Proofs.Ytcjbkmbfkpjbiaa.valueRows
