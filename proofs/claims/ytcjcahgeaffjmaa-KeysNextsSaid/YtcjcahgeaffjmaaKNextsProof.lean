/-
  KeysNexts answers true, for every two lists of bytes: their order, and what is behind all that begin with some, are what the document says. Conditions: none.
-/
import Derived.Test.YtcjcahgeaffjmaaRows
import Derived.Test.YtcjcahgeaffjmaaKAwake
import Derived.Test.YtcjcahgeaffjmaaOpenBytes
namespace Go.Proofs.Ytcjcahgeaffjmaa.keysNexts
open Go.ChangeShapes Go.WideShapes Go.ChangeAt Go.RowKit

set_option maxHeartbeats 800000 in
theorem long (A : Option Addr) (n c : Nat) (B : Option Addr) (m d : Nat) (hlen : 2000 < n ∨ 2000 < m) (w : World) :
    Calls Try.prog 5 #[.slice A n c, .slice B m d] w fun e w' => e = .returned (.bool true) ∧ Below w.heap.size w w' := by
  have way : 2000 < n ∨ (n ≤ 2000 ∧ 2000 < m) := by omega
  rcases way with h | ⟨h, h'⟩
  all_goals
    clear hlen
    go_enter Try.func5, Try.ntmps5
    go_wp2_with fail
    refine (awake_any _).mono ?_
    rintro e w1 ⟨rfl, hb1⟩
    go_wp2_with fail
    go_ret
    exact ⟨rfl, hb1⟩

set_option maxHeartbeats 1600000 in
theorem walk {w : World} (A : Option Addr) (n c : Nat) (l : List UInt8) (e0 : l.length = n) (hx : Bys w w.heap.size A l) (y0 : n ≤ c) (_ : c ≤ maxLen)
    (B : Option Addr) (m d : Nat) (k : List UInt8) (e1 : k.length = m) (hy : Bys w w.heap.size B k) (_ : m ≤ d) (_ : d ≤ maxLen) :
    Calls Try.prog 5 #[.slice A n c, .slice B m d] w fun e w' => e = .returned (.bool true) ∧ Below w.heap.size w w' := by
  by_cases hlen : 2000 < n ∨ 2000 < m
  · exact long A n c B m d hlen w
  have hn : n ≤ 2000 := by omega
  have hm : m ≤ 2000 := by omega
  have N1 := fun W (h : Bys W w.heap.size A l) => next_any A c w.heap.size l W h (by omega) (by omega)
  have N2 := fun W (h : Bys W w.heap.size A l) => refNext_any A c w.heap.size l W h (by omega) (by omega)
  rw [e0] at N1 N2
  have E0 := Lib.hid e0
  have E1 := Lib.hid e1
  clear hlen e0 e1
  go_enter Try.func5, Try.ntmps5
  go_wp2_with fail
  refine (awake_any _).mono ?_
  rintro e w1 ⟨rfl, b1⟩
  go_wp2_with fail
  refine (N1 _ (hx.below b1)).mono ?_
  rintro e w2 ⟨A2, c2, rfl, h2, b2'⟩
  have b2 : Below w.heap.size w w2 := b1.trans (b2'.mono b1.size)
  clear b2' b1
  go_wp2_with fail
  refine (N2 _ (hx.below b2)).mono ?_
  rintro e w3 ⟨A3, c3, rfl, h3, b3'⟩
  have b3 : Below w.heap.size w w3 := b2.trans (b3'.mono b2.size)
  have h2' := (h2.kept b3').more b3'.size
  clear b3' b2 h2 N1 N2
  generalize (nx l).getD [] = r at *
  generalize (nx l).isSome = is at *
  go_wp2_with fail
  refine (sameB_any h2' h3 _ _ _ _ rfl rfl).mono ?_
  rintro e w4 ⟨rfl, rfl⟩
  have hr : (r == r) = true := by simp
  have hi : (is == is) = true := by simp
  go_wp2_with fail
  refine (keysCmp_any (hx.below b3) (hy.below b3) _ _ _ _ E0.out E1.out).mono ?_
  rintro e w5 ⟨rfl, rfl⟩
  go_wp2_with fail
  refine (refCmpB_any (hx.below b3) (hy.below b3) _ _ _ _ E0.out E1.out).mono ?_
  rintro e w6 ⟨rfl, rfl⟩
  go_wp2_with fail
  go_ret
  exact ⟨ret_bool (by simp), b3⟩

set_option maxRecDepth 100000 in
theorem lifted (os : Os) (started : os.Started) (H : Type) (enc : TypeId × Value → H) :
    ReturnsInHanded {} Try.checked os 5 .any (Rows.keysNextsSpec.pre6 enc Try.prog Try.f5 Rows.keysNextsRow.domain false)
      (Rows.keysNextsSpec.post enc Try.prog Try.f5 false true false false) := by
  refine lift_law (C := Try.checked) (tb := 4) ownKnobs started (by kernel_rfl) Try.func5
    (ChangeSpec.witness6 (enc := enc) (C := Try.checked) false ⟨#[], #[.slice none 0 0, .slice none 0 0], []⟩ 8 (by kernel_rfl) (by kernel_rfl) (by kernel_rfl) (by kernel_rfl))
    laidOut ?_ rfl rfl Try.underlying4 ?_ ?_
  · intro t ht
    rw [Try.params5] at ht
    simp only [List.mem_cons, List.not_mem_nil, or_false] at ht
    rcases ht with rfl | rfl <;> exact ⟨by kernel_rfl, of_decide_eq_true (by kernel_rfl)⟩
  · intro vs ds W p hA
    rw [Try.params5] at hA
    obtain ⟨v0, vs0, d0, ds0, p0, q0, ha, rfl, rfl, h0, r0⟩ := trodAll_cons hA
    obtain ⟨v1, vs1, d1, ds1, p1, q1, rfl, rfl, rfl, h1, r1⟩ := trodAll_cons r0
    obtain ⟨rfl, rfl, rfl⟩ := trodAll_nil r1
    rfl
  · intro W base args ds p hval hA
    rw [Try.params5] at hA hval
    obtain ⟨v0, vs0, d0, ds0, p0, q0, ha, rfl, rfl, h0, r0⟩ := trodAll_cons hA
    obtain ⟨v1, vs1, d1, ds1, p1, q1, rfl, rfl, rfl, h1, r1⟩ := trodAll_cons r0
    obtain ⟨rfl, rfl, rfl⟩ := trodAll_nil r1
    obtain rfl : args = #[v0, v1] := by cases args; simp_all
    obtain ⟨A0, n0, c0, xs0, rfl, e0, hr0, y0, z0⟩ := open_bytes (hval 0 _ v0 rfl rfl) h0
    obtain ⟨A1, n1, c1, xs1, rfl, e1, hr1, y1, z1⟩ := open_bytes (hval 1 _ v1 rfl rfl) h1
    exact walk A0 n0 c0 xs0 e0 hr0 y0 z0 A1 n1 c1 xs1 e1 hr1 y1 z1

/-- The statement. -/
theorem proved : Rows.KeysNextsSaid :=
  OpenClaim.holds_of_wide 5 Try.f5 rfl rfl rfl rfl rfl rfl rfl ⟨rfl, rfl, rfl, rfl, rfl⟩ rfl rfl rfl rfl rfl (by kernel_rfl) Try.func5 (by kernel_rfl)
    (of_decide_eq_true (by kernel_rfl)) (by unfold Func.isWrapper; first | (rw [if_pos (by decide +kernel)]; kernel_rfl) | (rw [if_neg (by decide +kernel)]; exact ⟨rfl, rfl⟩))
    (fun os started H enc _ => lifted os started H enc)
#print axioms proved
end Go.Proofs.Ytcjcahgeaffjmaa.keysNexts
