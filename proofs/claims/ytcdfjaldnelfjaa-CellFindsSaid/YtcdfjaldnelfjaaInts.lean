/-
  What is meant by a list of ints in memory, and by one of one's own.
-/
import Derived.Test.YtcdfjaldnelfjaaBase
namespace Go.Proofs.Ytcdfjaldnelfjaa
open Go.RowKit

set_option maxRecDepth 20000 in
theorem intInfo : (Try.prog.info? 3).map (fun i => (i.zero, i.size, i.bytes)) = some (some (.int .i64 0), 1, 8) := by kernel_rfl

/-- A slice of ints, at address A, whose elements are zs. -/
def Ints (w : World) (A : Option Addr) (zs : List Int) : Prop :=
  zs = [] ∨ ∃ b off, A = some ⟨b, off, none⟩ ∧ ∀ i z, zs[i]? = some z → w.cell? ⟨b, off + i, none⟩ = some (.int .i64 z)

theorem Ints.below {w w' : World} {A : Option Addr} {zs : List Int} (h : Ints w A zs) (hb : Below w.heap.size w w') : Ints w' A zs := by
  rcases h with rfl | ⟨b, off, rfl, hc⟩
  · exact Or.inl rfl
  · refine Or.inr ⟨b, off, rfl, fun i z hz => ?_⟩
    have h0 := hc i z hz
    have hlt : b < w.heap.size := World.block_lt_of_cell? _ _ h0
    exact (hb.cell (p := ⟨b, _, none⟩) hlt).trans h0

theorem Ints.at_ {w : World} {A : Option Addr} {zs : List Int} (h : Ints w A zs) {k : Nat} (hk : k < zs.length) :
    ∃ b off z, A = some ⟨b, off, none⟩ ∧ zs[k]? = some z ∧ w.cell? ⟨b, off + k, none⟩ = some (.int .i64 z) := by
  rcases h with rfl | ⟨b, off, rfl, hc⟩
  · exact absurd hk (by simp)
  · exact ⟨b, off, zs[k], rfl, List.getElem?_eq_getElem hk, hc k _ (List.getElem?_eq_getElem hk)⟩

/-- The cells of a list of ints. -/
def intVals (zs : List Int) : List Value := zs.map (Value.int .i64)

theorem ints_of_own {w : World} {base e : Nat} {v : Value} {zs : List Int} (h : w.ownsRow base e 1 v zs.length (intVals zs)) :
    ∃ A c, v = .slice A zs.length c ∧ Ints w A zs := by
  rcases h.2 with ⟨rfl, h0⟩ | ⟨g, cap, cur, rfl, _⟩
  · have : zs = [] := by simpa [intVals] using h0
    subst this
    exact ⟨none, 0, rfl, Or.inl rfl⟩
  · refine ⟨_, _, rfl, Or.inr ⟨g, 0, rfl, fun i z hz => ?_⟩⟩
    have := h.cells (g := g) rfl i (.int .i64 z) (by simp [intVals, hz])
    rw [Addr.add] at this
    split at this
    · rename_i hi
      have hi0 : i = 0 := by simpa using hi
      subst hi0
      exact this
    · exact this

end Go.Proofs.Ytcdfjaldnelfjaa
