/-
  What the closure that fills one place of the table comes to.
-/
import Derived.Test.YtpihblbpmmdmmaaCStep
namespace Go.Proofs.Ytpihblbpmmdmmaa
open Go.RowKit

set_option maxHeartbeats 800000 in
theorem fill_any (k tb : Nat) (hk : k < 256) (v0 : Value) (w : World) (hc : w.cell? ⟨tb, k, none⟩ = some v0) (hf : w.frozen? ⟨tb, k, none⟩ = false) :
    Calls Try.prog 33 #[.int .i64 k, .pointer (some ⟨tb, 0, none⟩)] w fun e w' => e = .returned (.tuple #[]) ∧ w' = w.setCell ⟨tb, k, none⟩ (.int .u32 ((steps8 k : Nat) : Int)) := by
  go_enter Try.func33, Try.ntmps33
  go_wp2_with fail
  go_loopw [3, 6] (fun v i wr => ∃ j : Nat, j ≤ 8 ∧ i = .int .i64 j ∧ v = .int .u32 ((stepN j k : Nat) : Int) ∧ wr = w) (fun _ i _ => 8 - (intOf i).toNat)
  case atStart => exact ⟨0, by omega, rfl, rfl, rfl⟩
  case round =>
    obtain ⟨j, hj, rfl, rfl, rfl⟩ := hrel
    by_cases hlt : j < 8
    · have hn : stepN j k < 4294967296 := stepN_lt j (by omega)
      have HS := Lib.hid (show stepN (j + 1) k = step1 (stepN j k) from rfl)
      generalize stepN j k = y at *
      go_wp2_with fail
      refine (step_any y hn _).mono ?_
      rintro e w1 ⟨rfl, rfl⟩
      go_wp2_with fail
      refine ⟨⟨j + 1, by omega, by go_num, ?_, trivial⟩, by simp [intOf]; omega⟩
      rw [HS.out]
    · obtain rfl : j = 8 := by omega
      go_wp2_with fail
      go_end0
      exact ⟨rfl, rfl⟩
end Go.Proofs.Ytpihblbpmmdmmaa
