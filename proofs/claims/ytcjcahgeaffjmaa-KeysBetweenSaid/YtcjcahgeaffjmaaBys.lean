/-
  What is meant by a list of bytes in memory; what it is read as.
-/
import Derived.Test.YtcjcahgeaffjmaaApp
import Derived.Test.YtcjcahgeaffjmaaKOrd
import Derived.Lib.BytesEntry
import Derived.Laws.Externs
namespace Go.Proofs.Ytcjcahgeaffjmaa
open Go.RowKit

/-- The cells of a list of bytes. -/
def bv (l : List UInt8) : List Value := l.map (fun b => Value.int .u8 b.toNat)

theorem bv_append (a b : List UInt8) : bv (a ++ b) = bv a ++ bv b := List.map_append
theorem bv_length (l : List UInt8) : (bv l).length = l.length := List.length_map _
theorem bv_one (l : List UInt8) : ∀ u ∈ bv l, u.oneCell' = true := by
  intro u hu
  obtain ⟨b, _, rfl⟩ := List.mem_map.1 hu
  rfl
theorem bv_at {l : List UInt8} {j : Nat} {u : Value} (h : (bv l)[j]? = some u) : ∃ z, l[j]? = some z ∧ u = .int .u8 z.toNat := by
  unfold bv at h
  rw [List.getElem?_map] at h
  obtain ⟨z, h1, h2⟩ := Option.map_eq_some_iff.1 h
  exact ⟨z, h1, h2.symm⟩

/-- A slice of bytes, at address A, in a block below R, whose elements are l. -/
def Bys (w : World) (R : Nat) (A : Option Addr) (l : List UInt8) : Prop :=
  l = [] ∨ ∃ b off, A = some ⟨b, off, none⟩ ∧ b < R ∧ ∀ i z, l[i]? = some z → w.cell? ⟨b, off + i, none⟩ = some (.int .u8 z.toNat)

section
variable {w w' : World} {R R' : Nat} {A : Option Addr} {l : List UInt8}

theorem Bys.below (h : Bys w R A l) (hb : Below R w w') : Bys w' R A l := by
  rcases h with rfl | ⟨b, off, rfl, hR, hc⟩
  · exact Or.inl rfl
  · exact Or.inr ⟨b, off, rfl, hR, fun i z hz => (hb.cell (p := ⟨b, _, none⟩) hR).trans (hc i z hz)⟩

theorem Bys.kept (h : Bys w R A l) (hb : Below w.heap.size w w') : Bys w' R A l := by
  rcases h with rfl | ⟨b, off, rfl, hR, hc⟩
  · exact Or.inl rfl
  · refine Or.inr ⟨b, off, rfl, hR, fun i z hz => ?_⟩
    have h0 := hc i z hz
    exact (hb.cell (p := ⟨b, _, none⟩) (World.block_lt_of_cell? _ _ h0)).trans h0

theorem Bys.alloc (h : Bys w R A l) (o : Obj) : Bys (w.alloc o) R A l := h.kept (below_one _ _)

theorem Bys.more (h : Bys w R A l) (hR : R ≤ R') : Bys w R' A l := by
  rcases h with rfl | ⟨b, off, rfl, hb, hc⟩
  · exact Or.inl rfl
  · exact Or.inr ⟨b, off, rfl, by omega, hc⟩

theorem Bys.nil (w : World) (R : Nat) (A : Option Addr) : Bys w R A [] := Or.inl rfl

theorem Bys.at_ (h : Bys w R A l) {k : Nat} (hk : k < l.length) :
    ∃ b off z, A = some ⟨b, off, none⟩ ∧ b < R ∧ l[k]? = some z ∧ w.cell? ⟨b, off + k, none⟩ = some (.int .u8 z.toNat) := by
  rcases h with rfl | ⟨b, off, rfl, hb, hc⟩
  · exact absurd hk (by simp)
  · exact ⟨b, off, l[k], rfl, hb, List.getElem?_eq_getElem hk, hc k _ (List.getElem?_eq_getElem hk)⟩

/-- Its cells, at its address. -/
theorem Bys.cells {ad : Addr} (h : Bys w R (some ad) l) : ∀ j u, (bv l)[j]? = some u → w.cell? (ad.add j) = some u := by
  intro j u hu
  obtain ⟨z, hz, rfl⟩ := bv_at hu
  rcases h with rfl | ⟨b, off, e, _, hc⟩
  · simp at hz
  · obtain rfl : ad = ⟨b, off, none⟩ := Option.some.inj e
    rw [addr_add]
    exact hc j z hz

theorem Bys.none_ (h : Bys w R none l) : l = [] := by
  rcases h with h | ⟨b, off, e, _⟩
  · exact h
  · cases e

theorem Bys.drop {b off : Nat} (h : Bys w R (some ⟨b, off, none⟩) l) (k : Nat) : Bys w R (some ⟨b, off + k, none⟩) (l.drop k) := by
  rcases h with rfl | ⟨b', off', e, hb, hc⟩
  · exact Or.inl (by simp)
  · obtain ⟨rfl, rfl⟩ : b = b' ∧ off = off' := by
      have := Option.some.inj e
      injection this with h1 h2
      exact ⟨h1, h2⟩
    refine Or.inr ⟨b, off + k, rfl, hb, fun i z hz => ?_⟩
    rw [List.getElem?_drop] at hz
    have := hc (k + i) z hz
    rw [show off + k + i = off + (k + i) from by omega]
    exact this

theorem Bys.take (h : Bys w R A l) (k : Nat) : Bys w R A (l.take k) := by
  rcases h with rfl | ⟨b, off, rfl, hb, hc⟩
  · exact Or.inl (by simp)
  · refine Or.inr ⟨b, off, rfl, hb, fun i z hz => hc i z ?_⟩
    rw [List.getElem?_take] at hz
    split at hz
    · exact hz
    · cases hz

theorem Bys.of_own {base : Nat} {e : TypeId} {v : Value} {n : Nat} (h : w.ownsRow base e 1 v n (bv l)) :
    ∃ A c, v = .slice A n c ∧ l.length = n ∧ n ≤ c ∧ c ≤ maxLen ∧ Bys w w.heap.size A l := by
  have hl : l.length = n := by have := h.1; rw [bv_length] at this; omega
  have hlt := h.lt
  rcases h.2 with ⟨rfl, h0⟩ | ⟨g, cap, cur, rfl, hb, hh, hnc, hm, _⟩
  · subst h0
    exact ⟨none, 0, rfl, hl, Nat.le_refl _, Nat.zero_le _, Or.inl (List.eq_nil_of_length_eq_zero hl)⟩
  · refine ⟨_, _, rfl, hl, hnc, hm, Or.inr ⟨g, 0, rfl, (hlt g rfl).2, fun i z hz => ?_⟩⟩
    have := h.cells (g := g) rfl i (.int .u8 z.toNat) (by unfold bv; rw [List.getElem?_map, hz]; rfl)
    rw [addr_add] at this
    exact this
end

/-- Bytes just laid. -/
theorem bys_new (w : World) (l : List UInt8) (t : TypeId) : Bys (w.alloc (.cells (bv l).toArray t)) (w.heap.size + 1) (some ⟨w.heap.size, 0, none⟩) l := by
  refine Or.inr ⟨w.heap.size, 0, rfl, by omega, fun i z hz => ?_⟩
  have h : (bv l).toArray[i]? = some (.int .u8 z.toNat) := by
    rw [List.getElem?_toArray]
    unfold bv
    rw [List.getElem?_map, hz]
    rfl
  have hb : (w.alloc (.cells (bv l).toArray t)).heap[w.heap.size]? = some (.cells (bv l).toArray t) := heap_alloc_new w _
  rw [Nat.zero_add, cell_of_row _ w.heap.size i _ t (0, 0) hb]
  exact h

/-! ### string(b) -/

section
variable {P : Program} {w : World} {R : Nat} {A : Option Addr} {l : List UInt8}

theorem run_text (h : Bys w R A l) (src dst e : TypeId) (n c : Nat) (hn : l.length = n) (hs : P.underlying src = some (.slice e)) (he : P.underlying e = some (.int .u8)) (hd : P.underlying dst = some .string) :
    (convert src dst (.slice A n c)).run P w = .ok (.string ⟨l.toArray⟩) w := by
  rw [run_convert_bytes_string w src dst e A n c hs he hd]
  rcases A with _ | ad
  · rw [h.none_]
    rfl
  · have hl : (loadCells ad n).run P w = .ok ((l.map (fun b => (b.toNat : Int))).map (Value.int .u8)).toArray w := by
      have := run_loadCells_list (P := P) w ad (bv l) h.cells
      rw [bv_length, hn] at this
      rw [this, List.map_map]
      rfl
    rw [run_bytesToString w ad n c _ hl]
    congr 2
    have : ∀ (l : List UInt8) (s : ByteArray), (l.map (fun b => (b.toNat : Int))).foldl (fun r n => r.push (UInt8.ofNat n.toNat)) s = ⟨s.data ++ l.toArray⟩ := by
      intro l
      induction l with
      | nil => intro s; simp
      | cons x l ih =>
        intro s
        rw [List.map_cons, List.foldl_cons, ih]
        simp [ByteArray.push]
    rw [this]
    congr 1
    exact Array.empty_append

theorem bytesOf_back : ∀ l : List UInt8, Lib.bytesOf (l.map (fun b => (b.toNat : Int))) = l
  | [] => rfl
  | x :: l => by
    have ih := bytesOf_back l
    unfold Lib.bytesOf at ih ⊢
    rw [List.map_cons, List.map_cons, ih]
    simp

theorem run_bytesOf (h : Bys w R A l) (n c : Nat) (hn : l.length = n) : (Extern.Bytes.bytesOf (.slice A n c)).run P w = .ok ⟨l.toArray⟩ w := by
  rcases A with _ | ad
  · rw [h.none_]
    rfl
  · have := Lib.run_loadBytesX (P := P) w (l.map (fun b => (b.toNat : Int))) ad .empty (fun j x hx => by
      rw [List.getElem?_map] at hx
      obtain ⟨z, hz, rfl⟩ := Option.map_eq_some_iff.1 hx
      exact h.cells j _ (by unfold bv; rw [List.getElem?_map, hz]; rfl))
    rw [List.length_map, hn, bytesOf_back] at this
    show (Extern.Bytes.loadBytes ad n .empty).run P w = _
    rw [this]
    congr 2
    exact Array.empty_append

theorem run_compare {B : Option Addr} {R' : Nat} {m : List UInt8} (h : Bys w R A l) (k : Bys w R' B m) (n c p d : Nat) (hn : l.length = n) (hp : m.length = p) :
    (Extern.BytealgCompare.compare #[.slice A n c, .slice B p d]).run P w = .ok (.int .i64 (scmp l m)) w := by
  show Sem.run P (do
    let x ← Extern.Bytes.bytesOf (.slice A n c)
    let y ← Extern.Bytes.bytesOf (.slice B p d)
    pure (goInt (Extern.BytealgCompare.cmp x y))) w = _
  simp only [Sem.run_bind, run_bytesOf h n c hn, run_bytesOf k p d hp, Result.andThen, Sem.run_pure]
  rw [compare_scmp, ByteArray.toList_mk, ByteArray.toList_mk]
  rfl
end

end Go.Proofs.Ytcjcahgeaffjmaa
