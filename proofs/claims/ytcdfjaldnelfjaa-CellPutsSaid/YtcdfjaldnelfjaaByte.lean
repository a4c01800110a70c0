/-
  What is meant by a list of bytes in memory.
-/
import Derived.Test.YtcdfjaldnelfjaaBase
namespace Go.Proofs.Ytcdfjaldnelfjaa
open Go.RowKit

/-- The cells of a list of bytes. -/
def bv (l : List UInt8) : List Value := l.map (fun b => Value.int .u8 b.toNat)

theorem bv_append (a b : List UInt8) : bv (a ++ b) = bv a ++ bv b := List.map_append
theorem bv_length (l : List UInt8) : (bv l).length = l.length := List.length_map _
theorem bv_one (l : List UInt8) : ∀ u ∈ bv l, u.oneCell' = true := by
  intro u hu
  obtain ⟨b, _, rfl⟩ := List.mem_map.1 hu
  rfl
theorem bv_at {l : List UInt8} {j : Nat} {u : Value} (h : (bv l)[j]? = some u) : ∃ z, l[j]? = some z ∧ u = .int .u8 z.toNat := by
  unfold bv at h
  rw [List.getElem?_map] at h
  obtain ⟨z, h1, h2⟩ := Option.map_eq_some_iff.1 h
  exact ⟨z, h1, h2.symm⟩

/-- A slice of bytes, at address A, in a block below R, whose elements are l. -/
def Bys (w : World) (R : Nat) (A : Option Addr) (l : List UInt8) : Prop :=
  l = [] ∨ ∃ b off, A = some ⟨b, off, none⟩ ∧ b < R ∧ ∀ i z, l[i]? = some z → w.cell? ⟨b, off + i, none⟩ = some (.int .u8 z.toNat)

section
variable {w w' : World} {R R' : Nat} {A : Option Addr} {l : List UInt8}

theorem Bys.below (h : Bys w R A l) (hb : Below R w w') : Bys w' R A l := by
  rcases h with rfl | ⟨b, off, rfl, hR, hc⟩
  · exact Or.inl rfl
  · exact Or.inr ⟨b, off, rfl, hR, fun i z hz => (hb.cell (p := ⟨b, _, none⟩) hR).trans (hc i z hz)⟩

theorem Bys.kept (h : Bys w R A l) (hb : Below w.heap.size w w') : Bys w' R A l := by
  rcases h with rfl | ⟨b, off, rfl, hR, hc⟩
  · exact Or.inl rfl
  · refine Or.inr ⟨b, off, rfl, hR, fun i z hz => ?_⟩
    have h0 := hc i z hz
    exact (hb.cell (p := ⟨b, _, none⟩) (World.block_lt_of_cell? _ _ h0)).trans h0

theorem Bys.alloc (h : Bys w R A l) (o : Obj) : Bys (w.alloc o) R A l := h.kept (below_one _ _)

theorem Bys.more (h : Bys w R A l) (hR : R ≤ R') : Bys w R' A l := by
  rcases h with rfl | ⟨b, off, rfl, hb, hc⟩
  · exact Or.inl rfl
  · exact Or.inr ⟨b, off, rfl, by omega, hc⟩

theorem Bys.nil (w : World) (R : Nat) (A : Option Addr) : Bys w R A [] := Or.inl rfl

theorem Bys.at_ (h : Bys w R A l) {k : Nat} (hk : k < l.length) :
    ∃ b off z, A = some ⟨b, off, none⟩ ∧ b < R ∧ l[k]? = some z ∧ w.cell? ⟨b, off + k, none⟩ = some (.int .u8 z.toNat) := by
  rcases h with rfl | ⟨b, off, rfl, hb, hc⟩
  · exact absurd hk (by simp)
  · exact ⟨b, off, l[k], rfl, hb, List.getElem?_eq_getElem hk, hc k _ (List.getElem?_eq_getElem hk)⟩

/-- Its cells, at its address. -/
theorem Bys.cells {ad : Addr} (h : Bys w R (some ad) l) : ∀ j u, (bv l)[j]? = some u → w.cell? (ad.add j) = some u := by
  intro j u hu
  obtain ⟨z, hz, rfl⟩ := bv_at hu
  rcases h with rfl | ⟨b, off, e, _, hc⟩
  · simp at hz
  · obtain rfl : ad = ⟨b, off, none⟩ := Option.some.inj e
    rw [addr_add]
    exact hc j z hz

theorem Bys.none_ (h : Bys w R none l) : l = [] := by
  rcases h with h | ⟨b, off, e, _⟩
  · exact h
  · cases e

theorem Bys.drop {b off : Nat} (h : Bys w R (some ⟨b, off, none⟩) l) (k : Nat) : Bys w R (some ⟨b, off + k, none⟩) (l.drop k) := by
  rcases h with rfl | ⟨b', off', e, hb, hc⟩
  · exact Or.inl (by simp)
  · obtain ⟨rfl, rfl⟩ : b = b' ∧ off = off' := by
      have := Option.some.inj e
      injection this with h1 h2
      exact ⟨h1, h2⟩
    refine Or.inr ⟨b, off + k, rfl, hb, fun i z hz => ?_⟩
    rw [List.getElem?_drop] at hz
    have := hc (k + i) z hz
    rw [show off + k + i = off + (k + i) from by omega]
    exact this

theorem Bys.take (h : Bys w R A l) (k : Nat) : Bys w R A (l.take k) := by
  rcases h with rfl | ⟨b, off, rfl, hb, hc⟩
  · exact Or.inl (by simp)
  · refine Or.inr ⟨b, off, rfl, hb, fun i z hz => hc i z ?_⟩
    rw [List.getElem?_take] at hz
    split at hz
    · exact hz
    · cases hz

theorem Bys.of_own {base : Nat} {e : TypeId} {v : Value} {n : Nat} (h : w.ownsRow base e 1 v n (bv l)) :
    ∃ A c, v = .slice A n c ∧ l.length = n ∧ n ≤ c ∧ c ≤ maxLen ∧ Bys w w.heap.size A l := by
  have hl : l.length = n := by have := h.1; rw [bv_length] at this; omega
  have hlt := h.lt
  rcases h.2 with ⟨rfl, h0⟩ | ⟨g, cap, cur, rfl, hb, hh, hnc, hm, _⟩
  · subst h0
    exact ⟨none, 0, rfl, hl, Nat.le_refl _, Nat.zero_le _, Or.inl (List.eq_nil_of_length_eq_zero hl)⟩
  · refine ⟨_, _, rfl, hl, hnc, hm, Or.inr ⟨g, 0, rfl, (hlt g rfl).2, fun i z hz => ?_⟩⟩
    have := h.cells (g := g) rfl i (.int .u8 z.toNat) (by unfold bv; rw [List.getElem?_map, hz]; rfl)
    rw [addr_add] at this
    exact this
end

/-- Bytes just laid. -/
theorem bys_new (w : World) (l : List UInt8) (t : TypeId) : Bys (w.alloc (.cells (bv l).toArray t)) (w.heap.size + 1) (some ⟨w.heap.size, 0, none⟩) l := by
  refine Or.inr ⟨w.heap.size, 0, rfl, by omega, fun i z hz => ?_⟩
  have h : (bv l).toArray[i]? = some (.int .u8 z.toNat) := by
    rw [List.getElem?_toArray]
    unfold bv
    rw [List.getElem?_map, hz]
    rfl
  have hb : (w.alloc (.cells (bv l).toArray t)).heap[w.heap.size]? = some (.cells (bv l).toArray t) := heap_alloc_new w _
  rw [Nat.zero_add, cell_of_row _ w.heap.size i _ t (0, 0) hb]
  exact h

/-- Bytes that some value is. -/
def IsB (w : World) (v : Value) (l : List UInt8) : Prop := ∃ A c, v = .slice A l.length c ∧ Bys w w.heap.size A l

theorem IsB.below {w w' : World} {v : Value} {l : List UInt8} (h : IsB w v l) (hb : Below w.heap.size w w') : IsB w' v l := by
  obtain ⟨A, c, e, h1⟩ := h
  exact ⟨A, c, e, (h1.kept hb).more hb.size⟩

theorem bys_lit (w : World) (l : List UInt8) (t : TypeId) : Bys (w.alloc (.cells (bv l).toArray t)) (w.alloc (.cells (bv l).toArray t)).heap.size (some ⟨w.heap.size, 0, none⟩) l := by
  have := bys_new w l t
  rwa [show w.heap.size + 1 = (w.alloc (.cells (bv l).toArray t)).heap.size from by simp] at this

end Go.Proofs.Ytcdfjaldnelfjaa
