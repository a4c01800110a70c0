/-
  What the document's own New comes to.
-/
import Derived.Test.YtnaoibohilpcgaaGRef
import Derived.Laws.MakeOwn
import Derived.BigRegion
namespace Go.Proofs.Ytnaoibohilpcgaa
open Go.RowKit

theorem boolsInfo : (Try.prog.info? 4).map (fun i => (i.zero, i.size, i.bytes)) = some (some (.bool false), 1, 1) := by kernel_rfl

def RMadeC (w : World) (n : Nat) (e : Ending) (w' : World) : Prop :=
  ∃ rb qb vb, e = .returned (.tuple #[.pointer (some ⟨rb, 0, none⟩), .int .i64 0]) ∧ RClk w' rb qb vb (CS.new n) ∧ (∀ k, Thr rb qb vb k → w.heap.size ≤ k) ∧ Below w.heap.size w w'

theorem refNewC_bad (w : World) (n : Int) (h : n < 1 ∨ 1000 < n) : Calls Try.prog 11 #[.int .i64 n] w fun e w' => e = .returned (.tuple #[.pointer none, .int .i64 1]) ∧ w = w' := by
  by_cases h0 : n < 1
  · clear h
    go_enter Try.func11, Try.ntmps11
    go_wp2_with fail
    go_ret2
    exact ⟨rfl, rfl⟩
  · have h1 : 1000 < n := by omega
    clear h
    go_enter Try.func11, Try.ntmps11
    go_wp2_with fail
    go_ret2
    exact ⟨rfl, rfl⟩

theorem below_three (w : World) (a b c : Obj) : Below w.heap.size w (((w.alloc a).alloc b).alloc c).drew :=
  ((((Below.refl _ _).alloc (Nat.le_refl _) _).alloc (by simp) _).alloc (by simp; omega) _).drew

theorem three_heap (w : World) (a b c : Obj) : (((w.alloc a).alloc b).alloc c).drew.heap[w.heap.size]? = some a ∧ (((w.alloc a).alloc b).alloc c).drew.heap[w.heap.size + 1]? = some b ∧
    (((w.alloc a).alloc b).alloc c).drew.heap[w.heap.size + 1 + 1]? = some c := by
  have s1 : (w.alloc a).heap.size = w.heap.size + 1 := by simp
  have s2 : ((w.alloc a).alloc b).heap.size = w.heap.size + 1 + 1 := by simp
  have hh : ∀ (W : World) (o : Obj) (k : Nat), k < W.heap.size → (W.alloc o).heap[k]? = W.heap[k]? := fun W o k hk => Below.heap_alloc _ _ _ hk
  refine ⟨?_, ?_, ?_⟩
  · show (((w.alloc a).alloc b).alloc c).heap[w.heap.size]? = some a
    rw [hh _ _ _ (by omega), hh _ _ _ (by omega)]
    exact heap_alloc_new w a
  · show (((w.alloc a).alloc b).alloc c).heap[w.heap.size + 1]? = some b
    rw [hh _ _ _ (by omega), ← s1]
    exact heap_alloc_new _ b
  · show (((w.alloc a).alloc b).alloc c).heap[w.heap.size + 1 + 1]? = some c
    rw [← s2]
    exact heap_alloc_new _ c

theorem made_row {w : World} {b n : Nat} {t : TypeId} {z : Value} {f : Nat → Value} (h : w.heap[b]? = some (.cells (madeCells #[z] n) t (0, 0))) (hf : ∀ i, i < n → z = f i) : w.rowIs b t n f :=
  ⟨_, h, size_madeCells _ _, fun i hi => by rw [← hf i hi]; simp [madeCells, hi, Nat.mod_one]⟩

theorem refC_made {w' : World} {n : Nat} (h1 : 1 ≤ n) (h2 : n ≤ 1000) (rb qb vb : Nat)
    (hr : w'.heap[rb]? = some (.cells #[.slice (some ⟨qb, 0, none⟩) n n, .slice (some ⟨vb, 0, none⟩) n n, .int .i64 0] 39 (0, 0)))
    (hq : w'.heap[qb]? = some (.cells (madeCells #[.int .i64 0] n) 3 (0, 0))) (hv : w'.heap[vb]? = some (.cells (madeCells #[.bool false] n) 4 (0, 0))) : RClk w' rb qb vb (CS.new n) :=
  ⟨hr, made_row hq (fun _ _ => rfl), made_row hv (fun _ _ => rfl), h1, h2, by show 0 < n; omega, fun j => Nat.zero_le _⟩

set_option maxHeartbeats 1600000 in
theorem refNewC_good (w : World) (n : Nat) (h1 : 1 ≤ n) (h2 : n ≤ 1000) : Calls Try.prog 11 #[.int .i64 n] w (RMadeC w n) := by
  have m1 := fun W => run_make_row' (P := Try.prog) 35 3 (.int .i64 0) 8 Try.underlying35 intInfo rfl .i64 .i64 n (by omega) (by omega) W
  have m2 := fun W => run_make_row' (P := Try.prog) 37 4 (.bool false) 1 Try.underlying37 boolsInfo rfl .i64 .i64 n (by omega) (by omega) W
  go_enter Try.func11, Try.ntmps11
  go_wp2_with fail
  go_region
  all_goals
    clear m1 m2
    go_wp2_with fail
    go_ret2
    first
      | exact ⟨_, _, _, rfl, refC_made h1 h2 (w.heap.size + 1 + 1) w.heap.size (w.heap.size + 1) (three_heap _ _ _ _).2.2 (three_heap _ _ _ _).1 (three_heap _ _ _ _).2.1, by rintro k (rfl | rfl | rfl) <;> omega, below_three _ _ _ _⟩
      | exact ⟨_, _, _, rfl, refC_made h1 h2 (w.heap.size + 1 + 1) (w.heap.size + 1) w.heap.size (three_heap _ _ _ _).2.2 (three_heap _ _ _ _).2.1 (three_heap _ _ _ _).1, by rintro k (rfl | rfl | rfl) <;> omega, below_three _ _ _ _⟩
end Go.Proofs.Ytnaoibohilpcgaa
