/-
  Numbers in memory, outside of a disk.
-/
import Derived.Test.YtgkdlbcpckdmkaaKept
namespace Go.Proofs.Ytgkdlbcpckdmkaa
open Go.RowKit

/-- Numbers that lie outside of F. -/
def OutN (w : World) (F : Nat → Prop) (A : Option Addr) (l : List Int) : Prop :=
  l = [] ∨ ∃ b off, A = some ⟨b, off, none⟩ ∧ ¬ F b ∧ ∀ i z, l[i]? = some z → w.cell? ⟨b, off + i, none⟩ = some (.int .i64 z) ∧ -9223372036854775808 ≤ z ∧ z ≤ 9223372036854775807

section
variable {w w' : World} {F F' : Nat → Prop} {A : Option Addr} {l : List Int}

theorem OutN.kept (h : OutN w F A l) (hk : Kept F w w') : OutN w' F A l := by
  rcases h with h | ⟨b, off, e, hF, hc⟩
  · exact Or.inl h
  · refine Or.inr ⟨b, off, e, hF, fun i z hz => ?_⟩
    obtain ⟨h0, h1⟩ := hc i z hz
    have hb := World.block_lt_of_cell? _ _ h0
    exact ⟨(World.cell?_of_block (w := w) (hk.block b hb hF)).trans h0, h1⟩

theorem OutN.fewer (h : OutN w F A l) (hF : ∀ k, F' k → F k ∨ w.heap.size ≤ k) : OutN w F' A l := by
  rcases l with _ | ⟨y, l⟩
  · exact Or.inl rfl
  · rcases h with h | ⟨b, off, e, hb, hc⟩
    · cases h
    · refine Or.inr ⟨b, off, e, fun h' => ?_, hc⟩
      rcases hF b h' with h' | h'
      · exact hb h'
      · have : b < w.heap.size := World.block_lt_of_cell? _ _ (hc 0 y rfl).1
        omega

theorem OutN.at_ (h : OutN w F A l) {k : Nat} (hk : k < l.length) :
    ∃ b off z, A = some ⟨b, off, none⟩ ∧ l[k]? = some z ∧ w.cell? ⟨b, off + k, none⟩ = some (.int .i64 z) ∧ -9223372036854775808 ≤ z ∧ z ≤ 9223372036854775807 := by
  rcases h with rfl | ⟨b, off, rfl, hb, hc⟩
  · exact absurd hk (by simp)
  · obtain ⟨h1, h2⟩ := hc k _ (List.getElem?_eq_getElem hk)
    exact ⟨b, off, l[k], rfl, List.getElem?_eq_getElem hk, h1, h2⟩
end
end Go.Proofs.Ytgkdlbcpckdmkaa
