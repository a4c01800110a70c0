/-
  What the document's own Ints comes to (package tailraceref01).
-/
import Derived.Test.YtnaoibohilpcgaaInts
import Derived.Deep.QuietTactic
import Derived.BigQuiet
namespace Go.Proofs.Ytnaoibohilpcgaa
open Go.RowKit

set_option maxHeartbeats 400000 in
theorem refInts_any (A B : Option Addr) (c d : Nat) (xs ys : List Int) (w : World) (hx : Ints w A xs) (hy : Ints w B ys) (hn : xs.length ≤ 2147483647) :
    Calls Try.prog 13 #[.slice A xs.length c, .slice B ys.length d] w
      fun e w' => e = .returned (.bool (decide (xs = ys))) ∧ Below w.heap.size w w' := by
  by_cases hl : xs.length = ys.length
  · have hl' : ((xs.length : Int) != (ys.length : Int)) = false := by simp [hl]
    have HL := Lib.hid hl
    have hlx : xs.length ≤ ys.length := by omega
    have hly : ys.length ≤ xs.length := by omega
    clear hl
    go_enter Try.func13, Try.ntmps13
    go_wp2_with fail
    go_loopw [5] (fun i wr => ∃ k : Nat, k ≤ xs.length ∧ i = .int .i64 k ∧ Hid (xs.take k = ys.take k) ∧ Below w.heap.size w wr) (fun i _ => xs.length - (intOf i).toNat)
    case atStart => exact ⟨0, Nat.zero_le _, rfl, Lib.hid (by simp), Below.refl _ _⟩
    case round =>
      obtain ⟨k, hk, rfl, hpre, hb⟩ := hrel
      by_cases hlt : k < xs.length
      · obtain ⟨b, off, z, rfl, hv, c0⟩ := (hx.below hb).at_ hlt
        obtain ⟨b', off', z', rfl, hv', c0'⟩ := (hy.below hb).at_ (k := k) (by omega)
        have hV := Lib.hid hv
        have hV' := Lib.hid hv'
        clear hv hv'
        have i0 : (0 : Int) ≤ (k : Int) := by omega
        by_cases hz : z = z'
        · subst hz
          go_wp2_with fail
          go_quiet (fail)
          go_wp2_with fail
          go_roundw
          case rel => exact ⟨k + 1, by omega, by go_num, Lib.hid (take_more hpre.out hV.out hV'.out), belowN hb _⟩
          case measure => simp [intOf]; omega
        · have hz' : (z != z') = true := by simpa using hz
          clear hz
          go_wp2_with fail
          go_quiet (fail)
          go_wp2_with fail
          go_ret
          refine ⟨ret_bool (decide_eq_false (fun e => ?_)).symm, belowN hb _⟩
          have h1 := hV.out
          rw [e, hV'.out] at h1
          simp at h1
          exact absurd h1.symm (by simpa using hz')
      · obtain rfl : k = xs.length := by omega
        go_wp2_with fail
        go_ret
        refine ⟨ret_bool (decide_eq_true ?_).symm, hb⟩
        have := hpre.out
        rw [List.take_length, HL.out, List.take_length] at this
        exact this
  · have hl' : ((xs.length : Int) != (ys.length : Int)) = true := by simp; omega
    have hfin : decide (xs = ys) = false := decide_eq_false (fun e => hl (by rw [e]))
    rw [hfin]
    clear hfin
    go_enter Try.func13, Try.ntmps13
    go_wp2_with fail
    go_ret
    exact ⟨rfl, Below.refl _ _⟩

theorem refInts_n (A B : Option Addr) (n m c d : Nat) (xs ys : List Int) (w : World) (hx : Ints w A xs) (hy : Ints w B ys) (e1 : xs.length = n) (e2 : ys.length = m) (hn : n ≤ 2147483647) :
    Calls Try.prog 13 #[.slice A n c, .slice B m d] w
      fun e w' => e = .returned (.bool (decide (xs = ys))) ∧ Below w.heap.size w w' := by
  subst e1
  subst e2
  exact refInts_any A B c d xs ys w hx hy hn
end Go.Proofs.Ytnaoibohilpcgaa
