/-
  Lists of ints and of texts that come in.
-/
import Derived.Test.YtcdfjaldnelfjaaNFew
namespace Go.Proofs.Ytcdfjaldnelfjaa
open Go.ChangeShapes Go.WideShapes Go.ChangeAt Go.RowKit Go.Joins Go.Deep
section
variable {H : Type} {enc : TypeId × Value → H} {w : World} {base : Nat} {spare : Nat → Bool} {held : Bool}
set_option maxRecDepth 20000 in
theorem open_nints {v : Value} {d : DataW H} {p : List MemPlace} {r : Reach} {b0 : Nat} (hv : Value.okWide Try.prog w r b0 23 v) (h : DataW.Trod enc Try.prog w base spare held 23 v d p) :
    ∃ (A : Option Addr) (n c : Nat) (l : List Int), v = .slice A n c ∧ Ln w 1 A n c (intVals l) := by
  obtain ⟨A, n, c, rfl⟩ := okWide_slice Try.underlying23 hv
  obtain ⟨fuel, hf⟩ := h
  obtain ⟨A', n', c', l, e, hl, _⟩ := nints_of (fuel := fuel) (by simpa [Value.cells] using hf)
  exact ⟨A', n', c', l, e, hl⟩
set_option maxRecDepth 20000 in
theorem open_nstrs {v : Value} {d : DataW H} {p : List MemPlace} {r : Reach} {b0 : Nat} (hv : Value.okWide Try.prog w r b0 22 v) (h : DataW.Trod enc Try.prog w base spare held 22 v d p) :
    ∃ (A : Option Addr) (n c : Nat) (l : List (List UInt8)), v = .slice A n c ∧ Ln w 1 A n c (strVals l) := by
  obtain ⟨A, n, c, rfl⟩ := okWide_slice Try.underlying22 hv
  obtain ⟨fuel, hf⟩ := h
  obtain ⟨A', n', c', l, e, hl, _⟩ := nstrs_of (fuel := fuel) (by simpa [Value.cells] using hf)
  exact ⟨A', n', c', l, e, hl⟩
end
end Go.Proofs.Ytcdfjaldnelfjaa
