/-
  What is meant by the document's own disk in memory.
-/
import Derived.Test.YtillllegbgaalaaDHeld
import Derived.Test.YtillllegbgaalaaDWrite
namespace Go.Proofs.Ytillllegbgaalaa
open Go.RowKit Go.Maps

abbrev Rw := List (Value × List UInt8)

def rowOf (r : Rw) : Array Value := (r.map Prod.fst).toArray
def boolsOf (r : List Bool) : Array Value := (r.map Value.bool).toArray

def refCells (s : PS) (lb wb ib : Nat) (left : Int) : Array Value :=
  #[.slice (some ⟨lb, 0, none⟩) s.size s.size, .slice (some ⟨wb, 0, none⟩) s.size s.size, .slice (some ⟨ib, 0, none⟩) s.size s.size, .bool s.down, .bool s.fused, .int .i64 left]

structure RefAt (w : World) (G : Nat → Prop) (rb lb wb ib : Nat) (left : Int) (rL rW : Rw) (rI : List Bool) (s : PS) : Prop where
  str : w.heap[rb]? = some (.cells (refCells s lb wb ib left) 65 (0, 0))
  bL : w.heap[lb]? = some (.cells (rowOf rL) 32 (0, 0))
  bW : w.heap[wb]? = some (.cells (rowOf rW) 32 (0, 0))
  bI : w.heap[ib]? = some (.cells (boolsOf rI) 4 (0, 0))
  ne : lb ≠ wb
  nL : rL.length = s.size
  nW : rW.length = s.size
  nI : rI.length = s.size
  gr : G rb
  gl : G lb
  gw : G wb
  gi : G ib
  lt : ∀ k, G k → k < w.heap.size
  oL : ∀ (i : Nat) (p : Value × List UInt8), rL[i]? = some p → Own w 0 p.1 p.2 ∧ p.2.length ≤ 1024 ∧ (∀ k, p.1.ownBlock = some k → G k)
  oW : ∀ (i : Nat) (p : Value × List UInt8), rW[i]? = some p → Own w 0 p.1 p.2 ∧ p.2.length ≤ 1024 ∧ (∀ k, p.1.ownBlock = some k → G k)
  sL : ∀ (i : Nat) (p : Value × List UInt8), rL[i]? = some p → s.L (i : Int) = p.2
  sW : ∀ (i : Nat) (p : Value × List UInt8) (b : Bool), rW[i]? = some p → rI[i]? = some b → s.W (i : Int) = if b then some p.2 else none
  s2 : 2 ≤ s.size
  s4 : s.size ≤ 4096
  lf : s.fused = true → left = (s.fuse : Int)
  l1 : -9223372036854775808 ≤ left
  l2 : left ≤ 9223372036854775807

/-- The document's disk. -/
def Rk (w : World) (G : Nat → Prop) (rb : Nat) (s : PS) : Prop := ∃ lb wb ib left rL rW rI, RefAt w G rb lb wb ib left rL rW rI s

def RGoes (w : World) (G : Nat → Prop) (rb : Nat) (s' : PS) (v : Value) (e : Ending) (w' : World) : Prop :=
  e = .returned v ∧ ∃ G', Rk w' G' rb s' ∧ (∀ k, G' k → G k ∨ w.heap.size ≤ k) ∧ Kept G w w'

section
variable {w w' : World} {G G' : Nat → Prop} {rb lb wb ib : Nat} {left : Int} {rL rW : Rw} {rI : List Bool} {s : PS}

theorem RefAt.same (h : RefAt w G rb lb wb ib left rL rW rI s) (e : ∀ k, G k → w'.heap[k]? = w.heap[k]?) (hs : w.heap.size ≤ w'.heap.size) : RefAt w' G rb lb wb ib left rL rW rI s :=
  { h with
    str := (e _ h.gr).trans h.str
    bL := (e _ h.gl).trans h.bL
    bW := (e _ h.gw).trans h.bW
    bI := (e _ h.gi).trans h.bI
    lt := fun k hk => Nat.lt_of_lt_of_le (h.lt k hk) hs
    oL := fun i p hi => by
      obtain ⟨o, r1, r2⟩ := h.oL i p hi
      exact ⟨own_of_block o (fun k hk => e k (r2 k hk)), r1, r2⟩
    oW := fun i p hi => by
      obtain ⟨o, r1, r2⟩ := h.oW i p hi
      exact ⟨own_of_block o (fun k hk => e k (r2 k hk)), r1, r2⟩ }

theorem RefAt.more (h : RefAt w G rb lb wb ib left rL rW rI s) (hG : ∀ k, G k → G' k) (hl : ∀ k, G' k → k < w.heap.size) : RefAt w G' rb lb wb ib left rL rW rI s :=
  { h with
    gr := hG _ h.gr
    gl := hG _ h.gl
    gw := hG _ h.gw
    gi := hG _ h.gi
    lt := hl
    oL := fun i p hi => by
      obtain ⟨o, r1, r2⟩ := h.oL i p hi
      exact ⟨o, r1, fun k hk => hG k (r2 k hk)⟩
    oW := fun i p hi => by
      obtain ⟨o, r1, r2⟩ := h.oW i p hi
      exact ⟨o, r1, fun k hk => hG k (r2 k hk)⟩ }

theorem Rk.kept {F : Nat → Prop} (h : Rk w G rb s) (hk : Kept F w w') (hd : ∀ k, G k → ¬ F k) : Rk w' G rb s := by
  obtain ⟨lb, wb, ib, left, rL, rW, rI, h⟩ := h
  exact ⟨lb, wb, ib, left, rL, rW, rI, h.same (fun k hG => hk.block k (h.lt k hG) (hd k hG)) hk.size⟩

theorem Rk.below (h : Rk w G rb s) (hb : Below w.heap.size w w') : Rk w' G rb s := by
  obtain ⟨lb, wb, ib, left, rL, rW, rI, h⟩ := h
  exact ⟨lb, wb, ib, left, rL, rW, rI, h.same (fun k hG => hb.block k (h.lt k hG)) hb.size⟩

theorem Rk.lt (h : Rk w G rb s) : ∀ k, G k → k < w.heap.size := by
  obtain ⟨lb, wb, ib, left, rL, rW, rI, h⟩ := h
  exact h.lt

theorem RefAt.cell (h : RefAt w G rb lb wb ib left rL rW rI s) (j : Nat) {v : Value} (e : (refCells s lb wb ib left)[j]? = some v) : w.cell? ⟨rb, j, none⟩ = some v := (cell_of_row w rb j _ _ _ h.str).trans e
theorem RefAt.free (h : RefAt w G rb lb wb ib left rL rW rI s) (j : Nat) : w.frozen? ⟨rb, j, none⟩ = false := frozen_of_row w rb j _ _ h.str

theorem rowOf_at {r : Rw} {i : Nat} {p : Value × List UInt8} (h : r[i]? = some p) : (rowOf r)[i]? = some p.1 := by
  unfold rowOf
  rw [List.getElem?_toArray, List.getElem?_map, h]
  rfl
theorem boolsOf_at {r : List Bool} {i : Nat} {b : Bool} (h : r[i]? = some b) : (boolsOf r)[i]? = some (.bool b) := by
  unfold boolsOf
  rw [List.getElem?_toArray, List.getElem?_map, h]
  rfl
theorem rowOf_set (r : Rw) (i : Nat) (p : Value × List UInt8) : (rowOf r).setIfInBounds i p.1 = rowOf (r.set i p) := by
  unfold rowOf
  rw [List.setIfInBounds_toArray, List.map_set]
theorem boolsOf_set (r : List Bool) (i : Nat) (b : Bool) : (boolsOf r).setIfInBounds i (.bool b) = boolsOf (r.set i b) := by
  unfold boolsOf
  rw [List.setIfInBounds_toArray, List.map_set]

/-- A sector of it. -/
theorem RefAt.at_ (h : RefAt w G rb lb wb ib left rL rW rI s) {i : Nat} (hi : i < s.size) :
    ∃ p q b, rL[i]? = some p ∧ rW[i]? = some q ∧ rI[i]? = some b ∧ w.cell? ⟨lb, i, none⟩ = some p.1 ∧ w.cell? ⟨wb, i, none⟩ = some q.1 ∧ w.cell? ⟨ib, i, none⟩ = some (.bool b) ∧
      w.frozen? ⟨lb, i, none⟩ = false ∧ w.frozen? ⟨wb, i, none⟩ = false ∧ w.frozen? ⟨ib, i, none⟩ = false := by
  have e1 := List.getElem?_eq_getElem (l := rL) (i := i) (by rw [h.nL]; exact hi)
  have e2 := List.getElem?_eq_getElem (l := rW) (i := i) (by rw [h.nW]; exact hi)
  have e3 := List.getElem?_eq_getElem (l := rI) (i := i) (by rw [h.nI]; exact hi)
  exact ⟨_, _, _, e1, e2, e3, (cell_of_row w lb i _ _ _ h.bL).trans (rowOf_at e1), (cell_of_row w wb i _ _ _ h.bW).trans (rowOf_at e2), (cell_of_row w ib i _ _ _ h.bI).trans (boolsOf_at e3), frozen_of_row w lb i _ _ h.bL, frozen_of_row w wb i _ _ h.bW, frozen_of_row w ib i _ _ h.bI⟩

theorem own_row_ne {v : Value} {l : List UInt8} {k b : Nat} {cs : Array Value} {t : TypeId} (ht : t ≠ 5) (o : Own w 0 v l) (hk : v.ownBlock = some k) (hb : w.heap[b]? = some (.cells cs t (0, 0))) : k ≠ b := by
  intro e
  subst e
  obtain ⟨cur, hc⟩ := own_cells o hk
  rw [hb] at hc
  injection hc with hc
  injection hc with _ hc
  exact ht hc

theorem RefAt.nes (h : RefAt w G rb lb wb ib left rL rW rI s) : rb ≠ lb ∧ rb ≠ wb ∧ rb ≠ ib ∧ lb ≠ ib ∧ wb ≠ ib := by
  refine ⟨fun e => ?_, fun e => ?_, fun e => ?_, fun e => ?_, fun e => ?_⟩
  · have := h.bL
    rw [← e, h.str] at this
    injection this with this
    injection this with _ this
    exact absurd this (by decide)
  · have := h.bW
    rw [← e, h.str] at this
    injection this with this
    injection this with _ this
    exact absurd this (by decide)
  · have := h.bI
    rw [← e, h.str] at this
    injection this with this
    injection this with _ this
    exact absurd this (by decide)
  · have := h.bI
    rw [← e, h.bL] at this
    injection this with this
    injection this with _ this
    exact absurd this (by decide)
  · have := h.bI
    rw [← e, h.bW] at this
    injection this with this
    injection this with _ this
    exact absurd this (by decide)

/-- Its own fields are written. -/
theorem RefAt.field (h : RefAt w G rb lb wb ib left rL rW rI s) {d f : Bool} {n : Nat} {left' : Int} (hf : f = true → left' = (n : Int)) (h1 : -9223372036854775808 ≤ left') (h2 : left' ≤ 9223372036854775807)
    (hd : w'.heap[rb]? = some (.cells (refCells { s with down := d, fused := f, fuse := n } lb wb ib left') 65 (0, 0))) (ho : ∀ k, k ≠ rb → w'.heap[k]? = w.heap[k]?) (hs : w.heap.size ≤ w'.heap.size) :
    RefAt w' G rb lb wb ib left' rL rW rI { s with down := d, fused := f, fuse := n } :=
  { h with
    str := hd
    bL := (ho _ h.nes.1.symm).trans h.bL
    bW := (ho _ h.nes.2.1.symm).trans h.bW
    bI := (ho _ h.nes.2.2.1.symm).trans h.bI
    lt := fun k hk => Nat.lt_of_lt_of_le (h.lt k hk) hs
    oL := fun i p hi => by
      obtain ⟨o, r⟩ := h.oL i p hi
      exact ⟨own_of_block o (fun k hk => ho k (own_row_ne (by decide) o hk h.str)), r⟩
    oW := fun i p hi => by
      obtain ⟨o, r⟩ := h.oW i p hi
      exact ⟨own_of_block o (fun k hk => ho k (own_row_ne (by decide) o hk h.str)), r⟩
    lf := hf
    l1 := h1
    l2 := h2 }

/-- What lasts in a sector is written. -/
theorem RefAt.putL (h : RefAt w G rb lb wb ib left rL rW rI s) {i : Nat} {p : Value × List UInt8} {L' : Int → List UInt8} (ho : Own w 0 p.1 p.2 ∧ p.2.length ≤ 1024 ∧ (∀ k, p.1.ownBlock = some k → G k)) (hL : ∀ j : Nat, j < s.size → L' j = if j = i then p.2 else s.L j) :
    RefAt (w.setCell ⟨lb, i, none⟩ p.1) G rb lb wb ib left (rL.set i p) rW rI { s with L := L' } := by
  have hk : ∀ k, k ≠ lb → (w.setCell ⟨lb, i, none⟩ p.1).heap[k]? = w.heap[k]? := fun k hk => Below.heap_setCell _ _ _ _ hk
  exact
    { h with
      str := (hk _ h.nes.1).trans h.str
      bL := by rw [Joins.block_setCell h.bL, rowOf_set]
      bW := (hk _ h.ne.symm).trans h.bW
      bI := (hk _ h.nes.2.2.2.1.symm).trans h.bI
      nL := by rw [List.length_set]; exact h.nL
      lt := fun k hk => by simpa [World.setCell] using h.lt k hk
      oL := fun j q hj => by
        have : Own w 0 q.1 q.2 ∧ q.2.length ≤ 1024 ∧ (∀ k, q.1.ownBlock = some k → G k) := by
          rw [List.getElem?_set] at hj
          split at hj
          · split at hj
            · obtain rfl : p = q := by simpa using hj
              exact ho
            · cases hj
          · exact h.oL j q hj
        exact ⟨own_of_block this.1 (fun k hk' => hk k (own_row_ne (by decide) this.1 hk' h.bL)), this.2⟩
      oW := fun j q hj => by
        obtain ⟨o, r⟩ := h.oW j q hj
        exact ⟨own_of_block o (fun k hk' => hk k (own_row_ne (by decide) o hk' h.bL)), r⟩
      sL := fun j q hj => by
        have hjs : j < s.size := by
          have := (List.getElem?_eq_some_iff.1 hj).1
          rw [List.length_set, h.nL] at this
          exact this
        show L' j = q.2
        rw [hL j hjs]
        rw [List.getElem?_set] at hj
        by_cases e : i = j
        · rw [if_pos e, if_pos (by rw [h.nL, e]; exact hjs)] at hj
          rw [if_pos e.symm]
          obtain rfl : p = q := by simpa using hj
          rfl
        · rw [if_neg e] at hj
          rw [if_neg (fun e' => e e'.symm)]
          exact h.sL j q hj }

/-- What waits in a sector is written. -/
theorem RefAt.putW (h : RefAt w G rb lb wb ib left rL rW rI s) {i : Nat} {p : Value × List UInt8} {W' : Int → Option (List UInt8)} (ho : Own w 0 p.1 p.2 ∧ p.2.length ≤ 1024 ∧ (∀ k, p.1.ownBlock = some k → G k))
    (hW : ∀ (j : Nat) b, rI[j]? = some b → W' j = if b then (if j = i then some p.2 else s.W j) else none) :
    RefAt (w.setCell ⟨wb, i, none⟩ p.1) G rb lb wb ib left rL (rW.set i p) rI { s with W := W' } := by
  have hk : ∀ k, k ≠ wb → (w.setCell ⟨wb, i, none⟩ p.1).heap[k]? = w.heap[k]? := fun k hk => Below.heap_setCell _ _ _ _ hk
  exact
    { h with
      str := (hk _ h.nes.2.1).trans h.str
      bL := (hk _ h.ne).trans h.bL
      bW := by rw [Joins.block_setCell h.bW, rowOf_set]
      bI := (hk _ h.nes.2.2.2.2.symm).trans h.bI
      nW := by rw [List.length_set]; exact h.nW
      lt := fun k hk => by simpa [World.setCell] using h.lt k hk
      oW := fun j q hj => by
        have : Own w 0 q.1 q.2 ∧ q.2.length ≤ 1024 ∧ (∀ k, q.1.ownBlock = some k → G k) := by
          rw [List.getElem?_set] at hj
          split at hj
          · split at hj
            · obtain rfl : p = q := by simpa using hj
              exact ho
            · cases hj
          · exact h.oW j q hj
        exact ⟨own_of_block this.1 (fun k hk' => hk k (own_row_ne (by decide) this.1 hk' h.bW)), this.2⟩
      oL := fun j q hj => by
        obtain ⟨o, r⟩ := h.oL j q hj
        exact ⟨own_of_block o (fun k hk' => hk k (own_row_ne (by decide) o hk' h.bW)), r⟩
      sW := fun j q b hj hb => by
        show W' j = _
        rw [hW j b hb]
        rw [List.getElem?_set] at hj
        have hjs : j < s.size := by
          have := (List.getElem?_eq_some_iff.1 hb).1
          rw [h.nI] at this
          exact this
        cases b with
        | false => rfl
        | true =>
          show (if j = i then some p.2 else s.W j) = some q.2
          by_cases e : i = j
          · rw [if_pos e, if_pos (by rw [h.nW, e]; exact hjs)] at hj
            rw [if_pos e.symm]
            obtain rfl : p = q := by simpa using hj
            rfl
          · rw [if_neg e] at hj
            rw [if_neg (fun e' => e e'.symm)]
            exact h.sW j q true hj hb }

/-- Whether something waits is written. -/
theorem RefAt.putI (h : RefAt w G rb lb wb ib left rL rW rI s) {i : Nat} {b : Bool} {W' : Int → Option (List UInt8)}
    (hW : ∀ (j : Nat) (q : Value × List UInt8) (c : Bool), rW[j]? = some q → (rI.set i b)[j]? = some c → W' j = if c then some q.2 else none) :
    RefAt (w.setCell ⟨ib, i, none⟩ (.bool b)) G rb lb wb ib left rL rW (rI.set i b) { s with W := W' } := by
  have hk : ∀ k, k ≠ ib → (w.setCell ⟨ib, i, none⟩ (.bool b)).heap[k]? = w.heap[k]? := fun k hk => Below.heap_setCell _ _ _ _ hk
  exact
    { h with
      str := (hk _ h.nes.2.2.1).trans h.str
      bL := (hk _ h.nes.2.2.2.1).trans h.bL
      bW := (hk _ h.nes.2.2.2.2).trans h.bW
      bI := by rw [Joins.block_setCell h.bI, boolsOf_set]
      nI := by rw [List.length_set]; exact h.nI
      lt := fun k hk => by simpa [World.setCell] using h.lt k hk
      oL := fun j q hj => by
        obtain ⟨o, r⟩ := h.oL j q hj
        exact ⟨own_of_block o (fun k hk' => hk k (own_row_ne (by decide) o hk' h.bI)), r⟩
      oW := fun j q hj => by
        obtain ⟨o, r⟩ := h.oW j q hj
        exact ⟨own_of_block o (fun k hk' => hk k (own_row_ne (by decide) o hk' h.bI)), r⟩
      sW := fun j q c hj hc => hW j q c hj hc }

theorem RefAt.rk (h : RefAt w G rb lb wb ib left rL rW rI s) : Rk w G rb s := ⟨lb, wb, ib, left, rL, rW, rI, h⟩

theorem RefAt.drew (h : RefAt w G rb lb wb ib left rL rW rI s) : RefAt w.drew G rb lb wb ib left rL rW rI s := h.same (fun _ _ => rfl) (Nat.le_refl _)
end
end Go.Proofs.Ytillllegbgaalaa
