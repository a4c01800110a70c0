/-
  What the document's own Bools comes to.
-/
import Derived.Test.YtnaoibohilpcgaaGEach
import Derived.Deep.QuietTactic
import Derived.BigQuiet
namespace Go.Proofs.Ytnaoibohilpcgaa
open Go.RowKit

set_option maxHeartbeats 800000 in
theorem refBools_any (A B : Option Addr) (c d : Nat) (xs ys : List Bool) (w : World) (hx : Bls w A xs) (hy : Bls w B ys) (hl : ys.length = xs.length) (he : xs = ys) (hn : xs.length ≤ 2147483647) :
    Calls Try.prog 15 #[.slice A xs.length c, .slice B xs.length d] w
      fun e w' => e = .returned (.bool true) ∧ Below w.heap.size w w' := by
  have HE := Lib.hid he
  have HL := Lib.hid hl
  clear he hl
  go_enter Try.func15, Try.ntmps15
  go_wp2_with fail
  go_loopw [5] (fun i wr => ∃ k : Nat, k ≤ xs.length ∧ i = .int .i64 k ∧ Below w.heap.size w wr) (fun i _ => xs.length - (intOf i).toNat)
  case atStart => exact ⟨0, Nat.zero_le _, rfl, Below.refl _ _⟩
  case round =>
    obtain ⟨k, hk, rfl, hb⟩ := hrel
    by_cases hlt : k < xs.length
    · obtain ⟨b, off, z, rfl, hv, c0⟩ := (hx.below hb).at_ hlt
      obtain ⟨b', off', z', rfl, hv', c0'⟩ := (hy.below hb).at_ (k := k) (by rw [HL.out]; exact hlt)
      rw [HE.out, hv'] at hv
      obtain rfl := Option.some.inj hv
      clear hv hv'
      have i0 : (0 : Int) ≤ (k : Int) := by omega
      go_wp2_with fail
      go_quiet (fail)
      go_wp2_with fail
      go_roundw
      case rel => exact ⟨k + 1, by omega, by go_num, belowN hb _⟩
      case measure => simp [intOf]; omega
    · obtain rfl : k = xs.length := by omega
      go_wp2_with fail
      go_ret
      exact ⟨rfl, hb⟩

theorem refBools_n (A B : Option Addr) (n c d : Nat) (xs : List Bool) (w : World) (hx : Bls w A xs) (hy : Bls w B xs) (e1 : xs.length = n) (hn : n ≤ 2147483647) :
    Calls Try.prog 15 #[.slice A n c, .slice B n d] w
      fun e w' => e = .returned (.bool true) ∧ Below w.heap.size w w' := by
  subst e1
  exact refBools_any A B c d xs xs w hx hy rfl rfl hn
end Go.Proofs.Ytnaoibohilpcgaa
