/-
  What is meant by a disk in memory.
-/
import Derived.Test.YtgkdlbcpckdmkaaMap
import Derived.Test.YtgkdlbcpckdmkaaOwnB
import Derived.Test.YtgkdlbcpckdmkaaKept
import Derived.Test.YtgkdlbcpckdmkaaDPure
import Derived.Lib.SmallJoins
namespace Go.Proofs.Ytgkdlbcpckdmkaa
open Go.RowKit Go.Maps

section
variable {w w' : World}

theorem own_of_block {base : Nat} {v : Value} {l : List UInt8} (h : Own w base v l) (e : ∀ k, v.ownBlock = some k → w'.heap[k]? = w.heap[k]?) : Own w' base v l := by
  obtain ⟨h1, h2⟩ := h
  refine ⟨h1, ?_⟩
  rcases h2 with h2 | ⟨g, cap, cur, hv, hg, hh, r⟩
  · exact Or.inl h2
  · exact Or.inr ⟨g, cap, cur, hv, hg, by rw [e g (by rw [hv]; rfl)]; exact hh, r⟩

theorem own_base {base : Nat} {v : Value} {l : List UInt8} (h : Own w base v l) : Own w 0 v l := by
  obtain ⟨h1, h2⟩ := h
  refine ⟨h1, ?_⟩
  rcases h2 with h2 | ⟨g, cap, cur, hv, hg, r⟩
  · exact Or.inl h2
  · exact Or.inr ⟨g, cap, cur, hv, Nat.zero_le _, r⟩

set_option maxRecDepth 20000 in
/-- The block of bytes of one's own is one of bytes. -/
theorem own_cells {base : Nat} {v : Value} {l : List UInt8} {k : Nat} (h : Own w base v l) (e : v.ownBlock = some k) : ∃ cur, w.heap[k]? = some (.cells cur 5 (0, 0)) := by
  rcases h.2 with ⟨rfl, _⟩ | ⟨g, cap, cur, hv, hg, hh, r⟩
  · cases e
  · rw [hv] at e
    injection e with e
    subst e
    exact ⟨cur, hh⟩

theorem own_slice {base : Nat} {v : Value} {l : List UInt8} (h : Own w base v l) : ∃ A c, v = .slice A l.length c ∧ l.length ≤ c ∧ (A = none → l.length = 0 ∧ c = 0) := by
  rcases h.2 with ⟨rfl, h0⟩ | ⟨g, cap, cur, hv, _, _, hc, _⟩
  · exact ⟨none, 0, by rw [h0], by omega, fun _ => ⟨h0, rfl⟩⟩
  · exact ⟨_, _, hv, hc, fun e => by cases e⟩
end

abbrev Ghost := Int → Option (Value × List UInt8)

def vals (g : Ghost) : Int → Option Value := fun i => (g i).map Prod.fst

/-- No two entries, at unlike places, lie in one block. -/
def Apart (g h : Ghost) (S : Int → Int → Prop) : Prop :=
  ∀ i j v l u m k, g i = some (v, l) → h j = some (u, m) → v.ownBlock = some k → u.ownBlock = some k → S i j

def diskCells (s : PS) (bl bw : Nat) : Array Value := #[.int .i64 s.size, .map (some bl), .map (some bw), .bool s.down, .bool s.fused, .int .i64 s.fuse]

structure DiskAt (w : World) (F : Nat → Prop) (S : Int → Prop) (db bl bw : Nat) (gL gW : Ghost) (s : PS) : Prop where
  str : w.heap[db]? = some (.cells (diskCells s bl bw) 56 (0, 0))
  mL : MapAt w bl (vals gL)
  mW : MapAt w bw (vals gW)
  ne : bl ≠ bw
  fd : F db
  fl : F bl
  fw : F bw
  lt : ∀ k, F k → k < w.heap.size
  oL : ∀ i v l, gL i = some (v, l) → Own w 0 v l ∧ l ≠ [] ∧ l.length ≤ 1024 ∧ (∀ k, v.ownBlock = some k → F k) ∧ 0 ≤ i ∧ i < (s.size : Int)
  oW : ∀ i v l, gW i = some (v, l) → Own w 0 v l ∧ l.length ≤ 1024 ∧ (∀ k, v.ownBlock = some k → F k) ∧ 0 ≤ i ∧ i < (s.size : Int)
  aL : Apart gL gL (· = ·)
  aW : Apart gW gW (· = ·)
  aX : Apart gL gW (fun i j => i = j ∧ S j)
  sL : ∀ i, s.L i = ((gL i).map Prod.snd).getD []
  sW : ∀ i, s.W i = (gW i).map Prod.snd
  s2 : 2 ≤ s.size
  s4 : s.size ≤ 4096
  fu : s.fuse ≤ 9223372036854775807

/-- A disk at rest. -/
def Dk (w : World) (F : Nat → Prop) (db : Nat) (s : PS) : Prop := ∃ bl bw gL gW, DiskAt w F (fun _ => False) db bl bw gL gW s

section
variable {w w' : World} {F F' : Nat → Prop} {S S' : Int → Prop} {db bl bw : Nat} {gL gW : Ghost} {s : PS}

theorem DiskAt.same (h : DiskAt w F S db bl bw gL gW s) (e : ∀ k, F k → w'.heap[k]? = w.heap[k]?) (hs : w.heap.size ≤ w'.heap.size) : DiskAt w' F S db bl bw gL gW s :=
  { h with
    str := (e db h.fd).trans h.str
    mL := h.mL.block (e bl h.fl)
    mW := h.mW.block (e bw h.fw)
    lt := fun k hk => Nat.lt_of_lt_of_le (h.lt k hk) hs
    oL := fun i v l hi => by
      obtain ⟨o, r1, r2, r3, r4⟩ := h.oL i v l hi
      exact ⟨own_of_block o (fun k hk => e k (r3 k hk)), r1, r2, r3, r4⟩
    oW := fun i v l hi => by
      obtain ⟨o, r2, r3, r4⟩ := h.oW i v l hi
      exact ⟨own_of_block o (fun k hk => e k (r3 k hk)), r2, r3, r4⟩ }

/-- What others do leaves a disk alone. -/
theorem Dk.kept {G : Nat → Prop} (h : Dk w F db s) (hk : Kept G w w') (hd : ∀ k, F k → ¬ G k) : Dk w' F db s := by
  obtain ⟨bl, bw, gL, gW, h⟩ := h
  exact ⟨bl, bw, gL, gW, h.same (fun k hF => hk.block k (h.lt k hF) (hd k hF)) hk.size⟩

theorem Dk.below (h : Dk w F db s) (hb : Below w.heap.size w w') : Dk w' F db s := by
  obtain ⟨bl, bw, gL, gW, h⟩ := h
  exact ⟨bl, bw, gL, gW, h.same (fun k hF => hb.block k (h.lt k hF)) hb.size⟩

theorem DiskAt.rest (h : DiskAt w F S db bl bw gL (fun _ => none) s) : Dk w F db s :=
  ⟨bl, bw, gL, _, { h with aX := fun i j v l u m k _ e => by cases e }⟩

set_option maxRecDepth 20000 in
theorem types_apart : (5 : TypeId) ≠ 56 := by decide

theorem DiskAt.own_ne (h : DiskAt w F S db bl bw gL gW s) {base : Nat} {v : Value} {l : List UInt8} {k : Nat} (o : Own w base v l) (e : v.ownBlock = some k) : k ≠ db ∧ k ≠ bl ∧ k ≠ bw := by
  obtain ⟨cur, hc⟩ := own_cells o e
  refine ⟨fun e1 => ?_, fun e1 => ?_, fun e1 => ?_⟩
  · subst e1
    rw [h.str] at hc
    injection hc with hc
    injection hc with _ hc
    exact types_apart hc.symm
  · subst e1
    obtain ⟨es, c, hm⟩ := h.mL.isMap
    rw [hm] at hc
    cases hc
  · subst e1
    obtain ⟨es, c, hm⟩ := h.mW.isMap
    rw [hm] at hc
    cases hc

theorem DiskAt.db_ne (h : DiskAt w F S db bl bw gL gW s) : bl ≠ db ∧ bw ≠ db := by
  refine ⟨fun e => ?_, fun e => ?_⟩
  · obtain ⟨es, c, hm⟩ := h.mL.isMap
    rw [e, h.str] at hm
    cases hm
  · obtain ⟨es, c, hm⟩ := h.mW.isMap
    rw [e, h.str] at hm
    cases hm

set_option maxRecDepth 20000 in
/-- The struct's own fields are written. -/
theorem DiskAt.field (h : DiskAt w F S db bl bw gL gW s) {d f : Bool} {n : Nat} (hn : n ≤ 9223372036854775807)
    (hd : w'.heap[db]? = some (.cells (diskCells { s with down := d, fused := f, fuse := n } bl bw) 56 (0, 0))) (ho : ∀ k, k ≠ db → w'.heap[k]? = w.heap[k]?) (hs : w.heap.size ≤ w'.heap.size) :
    DiskAt w' F S db bl bw gL gW { s with down := d, fused := f, fuse := n } :=
  { h with
    str := hd
    mL := h.mL.block (ho _ h.db_ne.1)
    mW := h.mW.block (ho _ h.db_ne.2)
    lt := fun k hk => Nat.lt_of_lt_of_le (h.lt k hk) hs
    oL := fun i v l hi => by
      obtain ⟨o, r⟩ := h.oL i v l hi
      exact ⟨own_of_block o (fun k hk => ho k (h.own_ne o hk).1), r⟩
    oW := fun i v l hi => by
      obtain ⟨o, r⟩ := h.oW i v l hi
      exact ⟨own_of_block o (fun k hk => ho k (h.own_ne o hk).1), r⟩
    fu := hn }

/-- The map of what lasts is written. -/
theorem DiskAt.putL (h : DiskAt w F S db bl bw gL gW s) {gL' : Ghost} {L' : Int → List UInt8} (hg : w.grownBy w' (some bl)) (hm : MapAt w' bl (vals gL'))
    (oL' : ∀ i v l, gL' i = some (v, l) → Own w 0 v l ∧ l ≠ [] ∧ l.length ≤ 1024 ∧ (∀ k, v.ownBlock = some k → F k) ∧ 0 ≤ i ∧ i < (s.size : Int))
    (aL' : Apart gL' gL' (· = ·)) (aX' : Apart gL' gW (fun i j => i = j ∧ S' j)) (sL' : ∀ i, L' i = ((gL' i).map Prod.snd).getD []) : DiskAt w' F S' db bl bw gL' gW { s with L := L' } := by
  have ho : ∀ k, k < w.heap.size → k ≠ bl → w'.heap[k]? = w.heap[k]? := fun k hk hne => hg.block k hk (fun e => hne (by injection e))
  exact { h with
    str := (ho _ (h.lt _ h.fd) h.db_ne.1.symm).trans h.str
    mL := hm
    mW := h.mW.block (ho _ (h.lt _ h.fw) h.ne.symm)
    lt := fun k hk => Nat.lt_of_lt_of_le (h.lt k hk) hg.size
    oL := fun i v l hi => by
      obtain ⟨o, r1, r2, r3, r⟩ := oL' i v l hi
      exact ⟨own_of_block o (fun k hk => ho k (h.lt k (r3 k hk)) (h.own_ne o hk).2.1), r1, r2, r3, r⟩
    oW := fun i v l hi => by
      obtain ⟨o, r2, r3, r⟩ := h.oW i v l hi
      exact ⟨own_of_block o (fun k hk => ho k (h.lt k (r3 k hk)) (h.own_ne o hk).2.1), r2, r3, r⟩
    aL := aL'
    aX := aX'
    sL := sL' }

/-- The map of what waits is written. -/
theorem DiskAt.putW (h : DiskAt w F S db bl bw gL gW s) {gW' : Ghost} {W' : Int → Option (List UInt8)} (hg : w.grownBy w' (some bw)) (hm : MapAt w' bw (vals gW'))
    (oW' : ∀ i v l, gW' i = some (v, l) → Own w 0 v l ∧ l.length ≤ 1024 ∧ (∀ k, v.ownBlock = some k → F k) ∧ 0 ≤ i ∧ i < (s.size : Int))
    (aW' : Apart gW' gW' (· = ·)) (aX' : Apart gL gW' (fun i j => i = j ∧ S' j)) (sW' : ∀ i, W' i = (gW' i).map Prod.snd) : DiskAt w' F S' db bl bw gL gW' { s with W := W' } := by
  have ho : ∀ k, k < w.heap.size → k ≠ bw → w'.heap[k]? = w.heap[k]? := fun k hk hne => hg.block k hk (fun e => hne (by injection e))
  exact { h with
    str := (ho _ (h.lt _ h.fd) h.db_ne.2.symm).trans h.str
    mL := h.mL.block (ho _ (h.lt _ h.fl) h.ne)
    mW := hm
    lt := fun k hk => Nat.lt_of_lt_of_le (h.lt k hk) hg.size
    oL := fun i v l hi => by
      obtain ⟨o, r1, r2, r3, r⟩ := h.oL i v l hi
      exact ⟨own_of_block o (fun k hk => ho k (h.lt k (r3 k hk)) (h.own_ne o hk).2.2), r1, r2, r3, r⟩
    oW := fun i v l hi => by
      obtain ⟨o, r2, r3, r⟩ := oW' i v l hi
      exact ⟨own_of_block o (fun k hk => ho k (h.lt k (r3 k hk)) (h.own_ne o hk).2.2), r2, r3, r⟩
    aW := aW'
    aX := aX'
    sW := sW' }

theorem DiskAt.more (h : DiskAt w F S db bl bw gL gW s) (hF : ∀ k, F k → F' k) (hl : ∀ k, F' k → k < w.heap.size) : DiskAt w F' S db bl bw gL gW s :=
  { h with
    fd := hF _ h.fd
    fl := hF _ h.fl
    fw := hF _ h.fw
    lt := hl
    oL := fun i v l hi => by
      obtain ⟨o, r1, r2, r3, r⟩ := h.oL i v l hi
      exact ⟨o, r1, r2, fun k hk => hF k (r3 k hk), r⟩
    oW := fun i v l hi => by
      obtain ⟨o, r2, r3, r⟩ := h.oW i v l hi
      exact ⟨o, r2, fun k hk => hF k (r3 k hk), r⟩ }

theorem DiskAt.cell (h : DiskAt w F S db bl bw gL gW s) (j : Nat) {v : Value} (e : (diskCells s bl bw)[j]? = some v) : w.cell? ⟨db, j, none⟩ = some v := (cell_of_row w db j _ _ _ h.str).trans e
theorem DiskAt.free (h : DiskAt w F S db bl bw gL gW s) (j : Nat) : w.frozen? ⟨db, j, none⟩ = false := frozen_of_row w db j _ _ h.str

theorem DiskAt.ok (h : DiskAt w F S db bl bw gL gW s) : s.Ok where
  l i hi := by
    rw [h.sL] at hi
    cases hg : gL i with
    | none => rw [hg] at hi; exact absurd rfl hi
    | some p => obtain ⟨_, _, _, _, r⟩ := h.oL i p.1 p.2 hg; exact r
  w i hi := by
    rw [h.sW] at hi
    cases hg : gW i with
    | none => rw [hg] at hi; exact absurd rfl hi
    | some p => obtain ⟨_, _, _, r⟩ := h.oW i p.1 p.2 hg; exact r
  ll i := by
    rw [h.sL]
    cases hg : gL i with
    | none => simp
    | some p => obtain ⟨_, _, r, _⟩ := h.oL i p.1 p.2 hg; simpa using r
  wl i l hl := by
    rw [h.sW] at hl
    cases hg : gW i with
    | none => rw [hg] at hl; cases hl
    | some p =>
      obtain ⟨_, r, _⟩ := h.oW i p.1 p.2 hg
      rw [hg] at hl
      obtain rfl : p.2 = l := by simpa using hl
      exact r
end

/-- What a call leaves that answers v. -/
def Goes (w : World) (F : Nat → Prop) (db : Nat) (s' : PS) (v : Value) (e : Ending) (w' : World) : Prop :=
  e = .returned v ∧ ∃ F', Dk w' F' db s' ∧ (∀ k, F' k → F k ∨ w.heap.size ≤ k) ∧ Kept F w w'

end Go.Proofs.Ytgkdlbcpckdmkaa
