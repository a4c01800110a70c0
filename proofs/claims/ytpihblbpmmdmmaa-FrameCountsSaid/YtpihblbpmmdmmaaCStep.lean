/-
  What a step, and the reference's eight steps, come to.
-/
import Derived.Test.YtpihblbpmmdmmaaBase
import Derived.Test.YtpihblbpmmdmmaaCPure
import Derived.Laws.BitsAll
namespace Go.Proofs.Ytpihblbpmmdmmaa
open Go.RowKit

theorem and_one (w : Nat) (h : w < 4294967296) : bits .and .u32 (w : Int) 1 = ((w % 2 : Nat) : Int) := by
  have := u32_and_nat w 1 h (by omega)
  rw [nat_mask1] at this
  exact this

theorem step_odd {y : Nat} (h : y < 4294967296) (ho : y % 2 = 1) : bits .xor .u32 ((y : Int) / 2) 3988292384 = ((step1 y : Nat) : Int) := by
  have := u32_xor_nat (y / 2) 3988292384 (by omega) (by omega)
  unfold step1
  rw [if_pos ho]
  exact this

theorem step_even {y : Nat} (ho : ¬ y % 2 = 1) : (y : Int) / 2 = ((step1 y : Nat) : Int) := by
  unfold step1
  rw [if_neg ho, Nat.xor_zero]
  rfl

set_option maxHeartbeats 400000 in
theorem step_any (x : Nat) (hx : x < 4294967296) (w : World) :
    Calls Try.prog 34 #[.int .u32 (x : Int)] w fun e w' => e = .returned (.int .u32 ((step1 x : Nat) : Int)) ∧ w = w' := by
  have ha := and_one x hx
  by_cases ho : x % 2 = 1
  · have hb : (bits .and .u32 (x : Int) 1 == 1) = true := by rw [ha, ho]; rfl
    have HO := Lib.hid (step_odd hx ho)
    clear ha
    go_enter Try.func34, Try.ntmps34
    go_wp2_with fail
    go_ret
    exact ⟨ret_num HO.out, rfl⟩
  · have hb : (bits .and .u32 (x : Int) 1 == 1) = false := by rw [ha]; simp; omega
    have HO := Lib.hid (step_even ho)
    clear ha
    go_enter Try.func34, Try.ntmps34
    go_wp2_with fail
    go_ret
    exact ⟨ret_num HO.out, rfl⟩

set_option maxHeartbeats 800000 in
theorem refSteps (x : Nat) (hx : x < 4294967296) (w : World) :
    Calls Try.prog 32 #[.int .u32 (x : Int)] w fun e w' => e = .returned (.int .u32 ((steps8 x : Nat) : Int)) ∧ w = w' := by
  go_enter Try.func32, Try.ntmps32
  go_wp2_with fail
  go_loopw [0, 3] (fun v i wr => ∃ k : Nat, k ≤ 8 ∧ i = .int .i64 k ∧ v = .int .u32 ((stepN k x : Nat) : Int) ∧ wr = w) (fun _ i _ => 8 - (intOf i).toNat)
  case atStart => exact ⟨0, by omega, rfl, rfl, rfl⟩
  case round =>
    obtain ⟨k, hk, rfl, rfl, rfl⟩ := hrel
    by_cases hlt : k < 8
    · have hn : stepN k x < 4294967296 := stepN_lt k hx
      have hs : stepN (k + 1) x = step1 (stepN k x) := rfl
      have HS := Lib.hid hs
      clear hs
      generalize stepN k x = y at *
      by_cases ho : y % 2 = 1
      · have HO := Lib.hid (step_odd hn ho)
        go_wp2_with fail
        refine ⟨⟨k + 1, by omega, by go_num, ?_, trivial⟩, by simp [intOf]; omega⟩
        rw [HO.out, HS.out]
      · have HO := Lib.hid (step_even ho)
        go_wp2_with fail
        refine ⟨⟨k + 1, by omega, by go_num, ?_, trivial⟩, by simp [intOf]; omega⟩
        rw [HO.out, HS.out]
    · obtain rfl : k = 8 := by omega
      go_wp2_with fail
      go_ret
      exact ⟨rfl, rfl⟩
end Go.Proofs.Ytpihblbpmmdmmaa
