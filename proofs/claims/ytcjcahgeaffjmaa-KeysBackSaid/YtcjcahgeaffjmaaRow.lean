/-
  What is meant by a row of values in memory.
-/
import Derived.Test.YtcjcahgeaffjmaaChk
import Derived.Deep.OwnRows
import Derived.Lib.Hide
namespace Go.Proofs.Ytcjcahgeaffjmaa
open Go.RowKit

/-- A slice of values, at address A, whose elements are xs: none, or its cells lie from an address on, three a value. -/
def Row (w : World) (A : Option Addr) (xs : List Val) : Prop :=
  xs = [] ∨ ∃ b off, A = some ⟨b, off, none⟩ ∧ ∀ i v, xs[i]? = some v →
    w.cell? ⟨b, off + i * 3, none⟩ = some (.int .i64 v.k) ∧ w.cell? ⟨b, off + i * 3 + 1, none⟩ = some (.int .i64 v.n) ∧ w.cell? ⟨b, off + i * 3 + 2, none⟩ = some (.string v.s)

theorem Row.below {w w' : World} {A : Option Addr} {xs : List Val} (h : Row w A xs) (hb : Below w.heap.size w w') : Row w' A xs := by
  rcases h with rfl | ⟨b, off, rfl, hc⟩
  · exact Or.inl rfl
  · refine Or.inr ⟨b, off, rfl, fun i v hv => ?_⟩
    obtain ⟨h0, h1, h2⟩ := hc i v hv
    have hlt : b < w.heap.size := World.block_lt_of_cell? _ _ h0
    exact ⟨(hb.cell (p := ⟨b, _, none⟩) hlt).trans h0, (hb.cell (p := ⟨b, _, none⟩) hlt).trans h1, (hb.cell (p := ⟨b, _, none⟩) hlt).trans h2⟩

/-- The element k of a row that is not empty there. -/
theorem Row.at_ {w : World} {A : Option Addr} {xs : List Val} (h : Row w A xs) {k : Nat} (hk : k < xs.length) :
    ∃ b off v, A = some ⟨b, off, none⟩ ∧ xs[k]? = some v ∧
      w.cell? ⟨b, off + k * 3, none⟩ = some (.int .i64 v.k) ∧ w.cell? ⟨b, off + k * 3 + 1, none⟩ = some (.int .i64 v.n) ∧ w.cell? ⟨b, off + k * 3 + 2, none⟩ = some (.string v.s) := by
  rcases h with rfl | ⟨b, off, rfl, hc⟩
  · exact absurd hk (by simp)
  · exact ⟨b, off, xs[k], rfl, List.getElem?_eq_getElem hk, hc k _ (List.getElem?_eq_getElem hk)⟩

theorem belowN {B : Nat} {a w : World} (h : Below B a w) (n : Nat) : Below B a (w.drewN n) := ⟨h.os, h.tape, h.output, h.size, h.block⟩

theorem ret_bool {a b : Bool} (h : a = b) : Ending.returned (.bool a) = .returned (.bool b) := by rw [h]
theorem ret_int {a b : Int} (h : a = b) : Ending.returned (.int .i64 a) = .returned (.int .i64 b) := by rw [h]

theorem take_more {α : Type} {xs ys : List α} {k : Nat} {z : α} (h : xs.take k = ys.take k) (hx : xs[k]? = some z) (hy : ys[k]? = some z) : xs.take (k + 1) = ys.take (k + 1) := by
  rw [List.take_add_one, List.take_add_one, h, hx, hy]

end Go.Proofs.Ytcjcahgeaffjmaa
