/-
  What New comes to.
-/
import Derived.Test.YtgkdlbcpckdmkaaGClk
import Derived.Laws.MakeOwn
namespace Go.Proofs.Ytgkdlbcpckdmkaa
open Go.RowKit

set_option maxRecDepth 20000 in
theorem placeInfo : (Try.prog.info? 99).map (fun i => (i.zero, i.size, i.bytes)) = some (some (.agg #[.int .i64 0, .bool false]), 2, 16) := by kernel_rfl

/-- The cells of so many new places. -/
def plC (n : Nat) : Array Value := madeCells #[.int .i64 0, .bool false] (n * 2)

theorem plC_size (n : Nat) : (plC n).size = n * 2 := size_madeCells _ _

theorem plC_at (n i : Nat) (h : i < n * 2) : (plC n)[i]? = some (plc (CS.new n) i) := by
  unfold plC madeCells plc CS.new
  rcases Nat.mod_two_eq_zero_or_one i with e | e
  · rw [if_pos e]
    simp [e, h]
  · rw [if_neg (by omega)]
    simp [e, h]

set_option maxRecDepth 20000 in
theorem make_places (w : World) (n : Nat) (hn : n ≤ 1000) : (Instr.makeSlice 100 (.int .i64 (n : Int)) (.int .i64 (n : Int))).run Try.prog w = .ok (.slice (some ⟨w.heap.size, 0, none⟩) n n) (w.alloc (.cells (plC n) 99)) := by
  obtain ⟨i, hi, hzz⟩ := Option.map_eq_some_iff.1 placeInfo
  simp only [Prod.mk.injEq] at hzz
  obtain ⟨hz, hs, hb⟩ := hzz
  have hr := run_make (P := Try.prog) w 100 99 i _ Try.underlying100 hi hz .i64 .i64 (n : Int) (n : Int) (by omega) (Int.le_refl _) (by rw [hb]; omega) (by omega)
  simp only [Int.toNat_natCast, hs] at hr
  exact hr

def CMade (w : World) (n : Nat) (e : Ending) (w' : World) : Prop :=
  ∃ db pb, e = .returned (.tuple #[.pointer (some ⟨db, 0, none⟩), .int .i64 0]) ∧ ClkAt w' db pb (CS.new n) ∧ w.heap.size ≤ db ∧ w.heap.size ≤ pb ∧ Below w.heap.size w w'

set_option maxRecDepth 20000 in
theorem gnew_bad (w : World) (n : Int) (h : n < 1 ∨ 1000 < n) : Calls Try.prog 41 #[.int .i64 n] w fun e w' => e = .returned (.tuple #[.pointer none, .int .i64 1]) ∧ w = w' := by
  by_cases h0 : n < 1
  · clear h
    go_enter Try.func41, Try.ntmps41
    go_wp2_with fail
    go_ret2
    exact ⟨rfl, rfl⟩
  · have h1 : 1000 < n := by omega
    clear h
    go_enter Try.func41, Try.ntmps41
    go_wp2_with fail
    go_ret2
    exact ⟨rfl, rfl⟩

set_option maxRecDepth 20000 in
theorem gnew_good (w : World) (n : Nat) (h1 : 1 ≤ n) (h2 : n ≤ 1000) : Calls Try.prog 41 #[.int .i64 n] w (CMade w n) := by
  have hm := make_places w n h2
  go_enter Try.func41, Try.ntmps41
  go_wp2_with fail
  go_ret2
  have hs : (w.alloc (.cells (plC n) 99)).heap.size = w.heap.size + 1 := by simp
  refine ⟨w.heap.size + 1, w.heap.size, rfl, ⟨?_, ?_, h1, h2, ?_, fun j => Nat.zero_le _⟩, by omega, Nat.le_refl _, below_two _ _ _⟩
  · have := heap_alloc_new (w.alloc (.cells (plC n) 99)) (.cells #[.slice (some ⟨w.heap.size, 0, none⟩) n n, .int .i64 0] 102)
    rw [hs] at this
    exact this
  · have := World.rowIs_alloc w (plC n) 99 (plc (CS.new n)) (fun i hi => plC_at n i (by rw [plC_size] at hi; exact hi))
    rw [plC_size] at this
    exact this.alloc _
  · show 0 < n
    omega
end Go.Proofs.Ytgkdlbcpckdmkaa
