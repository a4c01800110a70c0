/-
  What wasUsed comes to.
-/
import Derived.Test.YtlldmefjhgahdaaSBox
namespace Go.Proofs.Ytlldmefjhgahdaa
open Go.RowKit

set_option maxRecDepth 20000 in
set_option maxHeartbeats 400000 in
theorem wasUsed_any (s : SS) (h p : Int) (A B : Option Addr) (n c m d : Nat) (w : World) (hh : s.hi = h) :
    Calls Try.prog 51 #[.agg #[.int .i64 h, .slice A n c, .slice B m d], .int .i64 p] w fun e w' => e = .returned (.bool (s.may p)) ∧ Below w.heap.size w w' := by
  by_cases h1 : 2 ≤ p
  · by_cases h2 : p < h
    · have HD : Hid (s.may p = true) := Lib.hid (decide_eq_true ⟨h1, by rw [hh]; exact h2⟩)
      clear hh
      go_enter Try.func51, Try.ntmps51
      go_wp2_with fail
      go_ret
      exact ⟨ret_bool HD.out.symm, below_one _ _⟩
    · have HD : Hid (s.may p = false) := Lib.hid (decide_eq_false (fun e => h2 (by rw [← hh]; exact e.2)))
      clear hh
      go_enter Try.func51, Try.ntmps51
      go_wp2_with fail
      go_ret
      exact ⟨ret_bool HD.out.symm, below_one _ _⟩
  · have HD : Hid (s.may p = false) := Lib.hid (decide_eq_false (fun e => h1 e.1))
    clear hh
    go_enter Try.func51, Try.ntmps51
    go_wp2_with fail
    go_ret
    exact ⟨ret_bool HD.out.symm, below_one _ _⟩
end Go.Proofs.Ytlldmefjhgahdaa
