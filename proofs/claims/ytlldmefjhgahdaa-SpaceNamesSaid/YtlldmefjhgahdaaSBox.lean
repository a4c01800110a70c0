/-
  Pages' lists in a block of their own, and what calls answer.
-/
import Derived.Test.YtlldmefjhgahdaaSMem
namespace Go.Proofs.Ytlldmefjhgahdaa
open Go.RowKit

/-- A block that holds pages' lists. -/
def Box (w : World) (g : Nat) (x y z : Value) : Prop := w.heap[g]? = some (.cells #[x, y, z] 26 (0, 0))

section
variable {w w' : World} {g : Nat} {x y z : Value}
theorem Box.lt (h : Box w g x y z) : g < w.heap.size := (Array.getElem?_eq_some_iff.1 h).1
theorem Box.kept (h : Box w g x y z) (hb : Below w.heap.size w w') : Box w' g x y z := (hb.block g h.lt).trans h
theorem Box.cells (h : Box w g x y z) : w.cell? ⟨g, 0, none⟩ = some x ∧ w.cell? ⟨g, 1, none⟩ = some y ∧ w.cell? ⟨g, 2, none⟩ = some z :=
  ⟨(cell_of_row w g 0 _ _ _ h).trans rfl, (cell_of_row w g 1 _ _ _ h).trans rfl, (cell_of_row w g 2 _ _ _ h).trans rfl⟩
theorem Box.free (h : Box w g x y z) : w.frozen? ⟨g, 0, none⟩ = false ∧ w.frozen? ⟨g, 1, none⟩ = false ∧ w.frozen? ⟨g, 2, none⟩ = false :=
  ⟨frozen_of_row w g 0 _ _ h, frozen_of_row w g 1 _ _ h, frozen_of_row w g 2 _ _ h⟩
end
theorem box_new (w : World) (x y z : Value) : Box (w.alloc (.cells #[x, y, z] 26)) w.heap.size x y z := heap_alloc_new w _
/-- The argument's block, and the answer's. -/
theorem two_boxes (w : World) (x y z x' y' z' : Value) : Box ((w.alloc (.cells #[x, y, z] 26)).alloc (.cells #[x', y', z'] 26)) w.heap.size x y z ∧
    Box ((w.alloc (.cells #[x, y, z] 26)).alloc (.cells #[x', y', z'] 26)) (w.heap.size + 1) x' y' z' ∧ Below w.heap.size w ((w.alloc (.cells #[x, y, z] 26)).alloc (.cells #[x', y', z'] 26)) := by
  refine ⟨(box_new w x y z).kept (below_one _ _), ?_, below_two _ _ _⟩
  have h := box_new (w.alloc (.cells #[x, y, z] 26)) x' y' z'
  rw [show (w.alloc (.cells #[x, y, z] 26)).heap.size = w.heap.size + 1 by simp] at h
  exact h

/-- A call that answers pages' lists, and a number. -/
def SpEnd (w : World) (r : Int) (s : SS) (e : Ending) (w' : World) : Prop := ∃ v, e = .returned (.tuple #[v, .int .i64 r]) ∧ SpV w' v s ∧ Below w.heap.size w w'
/-- A call that answers pages' lists, a page and an error. -/
def TakeEnd (w : World) (r : Int × Int × SS) (e : Ending) (w' : World) : Prop := ∃ v, e = .returned (.tuple #[v, .int .i64 r.2.1, .int .i64 r.1]) ∧ SpV w' v r.2.2 ∧ Below w.heap.size w w'
theorem SpV.kept {w w' : World} {v : Value} {s : SS} (h : SpV w v s) (hb : Below w.heap.size w w') : SpV w' v s := by
  obtain ⟨A, n, c, B, m, d, rfl, h⟩ := h
  exact ⟨A, n, c, B, m, d, rfl, h.kept hb⟩
end Go.Proofs.Ytlldmefjhgahdaa
