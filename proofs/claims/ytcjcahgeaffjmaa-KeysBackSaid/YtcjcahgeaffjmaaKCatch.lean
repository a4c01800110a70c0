/-
  What the deferred function of Decode comes to: where the call returns it changes nothing that was there; where a reader gave up it lays no row, and the error.
-/
import Derived.Test.YtcjcahgeaffjmaaKText
import Derived.Defers
import Derived.Recover
namespace Go.Proofs.Ytcjcahgeaffjmaa
open Go.RowKit

theorem assert_nil (w : World) : (Instr.typeAssert .nilIface 20 40 true).run Try.prog w = .ok (.tuple #[.agg #[], .bool false]) w := by kernel_rfl
theorem assert_nope (w : World) : (Instr.typeAssert (.iface 40 (.agg #[])) 20 40 true).run Try.prog w = .ok (.tuple #[.agg #[], .bool true]) w := by kernel_rfl
theorem nil_nil (w : World) : (binOp .neq 20 .nilIface .nilIface).run Try.prog w = .ok (.bool false) w := by kernel_rfl

set_option maxHeartbeats 400000 in
theorem catch_idle (p q : Addr) (w : World) :
    CallsD Try.prog 24 #[.pointer (some p), .pointer (some q)] .returning w fun e u' w' => e = .returned (.tuple #[]) ∧ u' = .returning ∧ Below w.heap.size w w' := by
  have ha := assert_nil
  have hn := nil_nil
  refine callsD_of_wpS Try.func24 rfl fun c₀ cs hu => ?_
  apply wpS_seq
  apply wpS_region
  simp [wpOpsS, go_sem, recoverD, hu, Try.ntmps24, Exit.thenS]
  rw [show (#[Value.pointer (some p), Value.pointer (some q)] ++ ((Array.replicate 13 undef).setIfInBounds 3 Value.nilIface).setIfInBounds 0 Value.nilIface) =
    #[Value.pointer (some p), Value.pointer (some q), .nilIface, undef, undef, .nilIface, undef, undef, undef, undef, undef, undef, undef, undef, undef] from rfl]
  refine wpS_of_wp ?_
  go_wp2_with fail
  have hb := below_one w (.cells #[] 40)
  cases c₀
  simp_all [bodyPostS, results, Try.results24]

set_option maxHeartbeats 400000 in
theorem catch_nope (B : Nat) (x y : Value) (older : List PanicEntry) (w : World) (hp : w.cell? ⟨B, 0, none⟩ = some x) (hq : w.cell? ⟨B + 1, 0, none⟩ = some y) (fp : w.frozen? ⟨B, 0, none⟩ = false) (fq : w.frozen? ⟨B + 1, 0, none⟩ = false) :
    CallsD Try.prog 24 #[.pointer (some ⟨B, 0, none⟩), .pointer (some ⟨B + 1, 0, none⟩)] (.panicking ({ v := .iface 40 (.agg #[]), recovered := false } :: older)) w fun e u' w' =>
      e = .returned (.tuple #[]) ∧ u' = .panicking ({ v := .iface 40 (.agg #[]), recovered := true } :: older) ∧
      w' = ((w.setCell ⟨B, 0, none⟩ (.slice none 0 0)).setCell ⟨B + 1, 0, none⟩ (.int .i64 20)).alloc (.cells #[] 40) := by
  have ha := assert_nope
  have lp : B < w.heap.size := World.block_lt_of_cell? _ _ hp
  have lq : B + 1 < w.heap.size := World.block_lt_of_cell? _ _ hq
  refine callsD_of_wpS Try.func24 rfl fun c₀ cs hu => ?_
  apply wpS_seq
  apply wpS_region
  simp [wpOpsS, go_sem, recoverD, hu, Try.ntmps24, Exit.thenS]
  rw [show (#[Value.pointer (some ⟨B, 0, none⟩), Value.pointer (some ⟨B + 1, 0, none⟩)] ++ ((Array.replicate 13 undef).setIfInBounds 3 (Value.iface 40 (Value.agg #[]))).setIfInBounds 0 (Value.iface 40 (Value.agg #[]))) =
    #[Value.pointer (some ⟨B, 0, none⟩), Value.pointer (some ⟨B + 1, 0, none⟩), Value.iface 40 (Value.agg #[]), undef, undef, Value.iface 40 (Value.agg #[]), undef, undef, undef, undef, undef, undef, undef, undef, undef] from rfl]
  refine wpS_of_wp ?_
  go_wp2_with fail
  cases c₀
  simp_all [bodyPostS, results, Try.results24]
end Go.Proofs.Ytcjcahgeaffjmaa
