/-
  What is meant by a pool in memory.
-/
import Derived.Test.YtgkdlbcpckdmkaaDLive
import Derived.Test.YtgkdlbcpckdmkaaGLive
import Derived.Test.YtgkdlbcpckdmkaaPPure
import Derived.Test.YtgkdlbcpckdmkaaPWay
import Derived.Laws.IdiomCopy
namespace Go.Proofs.Ytgkdlbcpckdmkaa
open Go.RowKit

/-- What lies at place k of the frames' cells: bytes, sector, whether it is full, whether it is dirty, by turns. -/
def frc (g : Nat → Value) (S : Nat → Int) (U T : Nat → Bool) (k : Nat) : Value :=
  if k % 4 = 0 then g (k / 4) else if k % 4 = 1 then .int .i64 (S (k / 4)) else if k % 4 = 2 then .bool (U (k / 4)) else .bool (T (k / 4))

/-- At one place something else. -/
def at1 {α : Type} (f : Nat → α) (i : Nat) (v : α) : Nat → α := fun j => if j = i then v else f j

theorem at1_here {α : Type} (f : Nat → α) (i : Nat) (v : α) : at1 f i v i = v := if_pos rfl
theorem at1_else {α : Type} (f : Nat → α) {i j : Nat} (v : α) (h : j ≠ i) : at1 f i v j = f j := if_neg h

section
variable (g : Nat → Value) (S : Nat → Int) (U T : Nat → Bool) (i : Nat)

theorem frc_0 : frc g S U T (i * 4) = g i := by
  unfold frc
  rw [if_pos (by omega), show i * 4 / 4 = i by omega]
theorem frc_1 : frc g S U T (i * 4 + 1) = .int .i64 (S i) := by
  unfold frc
  rw [if_neg (by omega), if_pos (by omega), show (i * 4 + 1) / 4 = i by omega]
theorem frc_2 : frc g S U T (i * 4 + 2) = .bool (U i) := by
  unfold frc
  rw [if_neg (by omega), if_neg (by omega), if_pos (by omega), show (i * 4 + 2) / 4 = i by omega]
theorem frc_3 : frc g S U T (i * 4 + 3) = .bool (T i) := by
  unfold frc
  rw [if_neg (by omega), if_neg (by omega), if_neg (by omega), show (i * 4 + 3) / 4 = i by omega]

theorem frc_set0 (v : Value) (k : Nat) : (if k = i * 4 then v else frc g S U T k) = frc (at1 g i v) S U T k := by
  by_cases e : k = i * 4
  · rw [if_pos e, e, frc_0, at1_here]
  · rw [if_neg e]
    unfold frc
    by_cases h : k % 4 = 0
    · rw [if_pos h, if_pos h, at1_else _ _ (by omega)]
    · rw [if_neg h, if_neg h]
theorem frc_set1 (v : Int) (k : Nat) : (if k = i * 4 + 1 then Value.int .i64 v else frc g S U T k) = frc g (at1 S i v) U T k := by
  by_cases e : k = i * 4 + 1
  · rw [if_pos e, e, frc_1, at1_here]
  · rw [if_neg e]
    unfold frc
    by_cases h : k % 4 = 1
    · rw [if_neg (by omega), if_pos h, if_neg (by omega), if_pos h, at1_else _ _ (by omega)]
    · rw [if_neg h, if_neg h]
theorem frc_set2 (v : Bool) (k : Nat) : (if k = i * 4 + 2 then Value.bool v else frc g S U T k) = frc g S (at1 U i v) T k := by
  by_cases e : k = i * 4 + 2
  · rw [if_pos e, e, frc_2, at1_here]
  · rw [if_neg e]
    unfold frc
    by_cases h : k % 4 = 2
    · rw [if_neg (by omega), if_neg (by omega), if_pos h, if_neg (by omega), if_neg (by omega), if_pos h, at1_else _ _ (by omega)]
    · rw [if_neg h, if_neg h]
theorem frc_set3 (v : Bool) (k : Nat) : (if k = i * 4 + 3 then Value.bool v else frc g S U T k) = frc g S U (at1 T i v) k := by
  by_cases e : k = i * 4 + 3
  · rw [if_pos e, e, frc_3, at1_here]
  · rw [if_neg e]
    unfold frc
    by_cases h : k % 4 = 3
    · rw [if_neg (by omega), if_neg (by omega), if_neg (by omega), if_neg (by omega), if_neg (by omega), if_neg (by omega), at1_else _ _ (by omega)]
    · by_cases h0 : k % 4 = 0
      · rw [if_pos h0, if_pos h0]
      · by_cases h1 : k % 4 = 1
        · rw [if_neg h0, if_pos h1, if_neg h0, if_pos h1]
        · have h2 : k % 4 = 2 := by omega
          rw [if_neg h0, if_neg h1, if_pos h2, if_neg h0, if_neg h1, if_pos h2]
end

/-- What lies in the sector's cell of a frame; and in that one that tells whether it is full. -/
def PP.sec (s : PP) (i : Nat) : Int := if s.at_ i = -1 then 0 else s.at_ i
def PP.ful (s : PP) (i : Nat) : Bool := !(s.at_ i == -1)

/-- A pool's struct, its clock and its disk; its frames lie in block fb. -/
structure PCore (w : World) (F D : Nat → Prop) (pb fb cb rb db m : Nat) (c : CS) (k : PS) : Prop where
  str : w.heap[pb]? = some (.cells #[.pointer (some ⟨db, 0, none⟩), .slice (some ⟨fb, 0, none⟩) m m, .pointer (some ⟨cb, 0, none⟩)] 60 (0, 0))
  fty : ∃ cur, w.heap[fb]? = some (.cells cur 69 (0, 0))
  clk : ClkAt w cb rb c
  cm : c.n = m
  dk : Dk w D db k
  fp : F pb
  ff : F fb
  fc : F cb
  fr : F rb
  fd : ∀ k, D k → F k
  dp : ¬ D pb
  df : ¬ D fb
  dc : ¬ D cb
  dr : ¬ D rb
  lt : ∀ k, F k → k < w.heap.size

/-- Each frame's bytes, in memory of the pool's own that is not the disk's. -/
def Owns (w : World) (F D : Nat → Prop) (g : Nat → Value) (m : Nat) (b : Nat → List UInt8) : Prop :=
  ∀ i, i < m → Own w 0 (g i) (b i) ∧ (b i).length ≤ 1024 ∧ ∀ k, (g i).ownBlock = some k → F k ∧ ¬ D k

/-- What may be in frames. -/
structure Fit (s : PP) : Prop where
  vd : ∀ i, i < s.m → s.at_ i = -1 → s.d i = false
  rng : ∀ i, i < s.m → s.at_ i = -1 ∨ s.k.has (s.at_ i) = true

structure PoolAt (w : World) (F D : Nat → Prop) (pb fb cb rb db : Nat) (g : Nat → Value) (s : PP) : Prop where
  core : PCore w F D pb fb cb rb db s.m s.c s.k
  row : w.rowIs fb 69 (s.m * 4) (frc g s.sec s.ful s.d)
  own : Owns w F D g s.m s.b
  fit : Fit s

section
variable {w w' : World} {F F' D D' : Nat → Prop} {pb fb cb rb db m : Nat} {c : CS} {k : PS}

set_option maxRecDepth 20000 in
theorem pool_types : ((60 : TypeId) ≠ 69 ∧ (60 : TypeId) ≠ 102 ∧ (60 : TypeId) ≠ 99) ∧
    ((69 : TypeId) ≠ 102 ∧ (69 : TypeId) ≠ 99) ∧
    ((5 : TypeId) ≠ 60 ∧ (5 : TypeId) ≠ 69 ∧ (5 : TypeId) ≠ 102 ∧ (5 : TypeId) ≠ 99) := by decide

theorem block_ne {w : World} {a b : Nat} {x y : Array Value} {t u : TypeId} {p q : Nat × Nat} (h : w.heap[a]? = some (.cells x t p)) (k : w.heap[b]? = some (.cells y u q)) (ht : t ≠ u) : a ≠ b := by
  intro e
  rw [e, k] at h
  injection h with h
  injection h with _ h
  exact ht h.symm

theorem PCore.ne (h : PCore w F D pb fb cb rb db m c k) : (pb ≠ fb ∧ pb ≠ cb ∧ pb ≠ rb) ∧ (fb ≠ cb ∧ fb ≠ rb) := by
  obtain ⟨⟨t1, t2, t3⟩, ⟨t4, t5⟩, _⟩ := pool_types
  obtain ⟨cur, hf⟩ := h.fty
  obtain ⟨cr, hr, _⟩ := h.clk.row
  exact ⟨⟨block_ne h.str hf t1, block_ne h.str h.clk.str t2, block_ne h.str hr t3⟩, block_ne hf h.clk.str t4, block_ne hf hr t5⟩

/-- A frame's bytes lie in none of the others' blocks. -/
theorem PCore.own_ne (h : PCore w F D pb fb cb rb db m c k) {base : Nat} {v : Value} {l : List UInt8} {q : Nat} (o : Own w base v l) (e : v.ownBlock = some q) : q ≠ pb ∧ q ≠ fb ∧ q ≠ cb ∧ q ≠ rb := by
  obtain ⟨_, _, ⟨t1, t2, t3, t4⟩⟩ := pool_types
  obtain ⟨cur, hc⟩ := own_cells o e
  obtain ⟨cur2, hf⟩ := h.fty
  obtain ⟨cr, hr, _⟩ := h.clk.row
  exact ⟨block_ne hc h.str t1, block_ne hc hf t2, block_ne hc h.clk.str t3, block_ne hc hr t4⟩

theorem PCore.c0 (h : PCore w F D pb fb cb rb db m c k) : w.cell? ⟨pb, 0, none⟩ = some (.pointer (some ⟨db, 0, none⟩)) := (cell_of_row w pb 0 _ _ _ h.str).trans rfl
theorem PCore.c1 (h : PCore w F D pb fb cb rb db m c k) : w.cell? ⟨pb, 1, none⟩ = some (.slice (some ⟨fb, 0, none⟩) m m) := (cell_of_row w pb 1 _ _ _ h.str).trans rfl
theorem PCore.c2 (h : PCore w F D pb fb cb rb db m c k) : w.cell? ⟨pb, 2, none⟩ = some (.pointer (some ⟨cb, 0, none⟩)) := (cell_of_row w pb 2 _ _ _ h.str).trans rfl
theorem PCore.f (h : PCore w F D pb fb cb rb db m c k) (j : Nat) : w.frozen? ⟨pb, j, none⟩ = false := frozen_of_row w pb j _ _ h.str
theorem PCore.m1 (h : PCore w F D pb fb cb rb db m c k) : 1 ≤ m ∧ m ≤ 1000 := by
  have h1 := h.clk.n1
  have h2 := h.clk.n2
  have h3 := h.cm
  omega

/-- Nothing of F has changed. -/
theorem PCore.same (h : PCore w F D pb fb cb rb db m c k) (e : ∀ k, F k → w'.heap[k]? = w.heap[k]?) (hs : w.heap.size ≤ w'.heap.size) : PCore w' F D pb fb cb rb db m c k :=
  { h with
    str := (e pb h.fp).trans h.str
    fty := by
      obtain ⟨cur, hf⟩ := h.fty
      exact ⟨cur, (e fb h.ff).trans hf⟩
    clk := h.clk.same (e cb h.fc) (e rb h.fr)
    dk := by
      obtain ⟨bl, bw, gL, gW, h0⟩ := h.dk
      exact ⟨bl, bw, gL, gW, h0.same (fun k hk => e k (h.fd k hk)) hs⟩
    lt := fun k hk => Nat.lt_of_lt_of_le (h.lt k hk) hs }

/-- More blocks are the pool's. -/
theorem PCore.more (h : PCore w F D pb fb cb rb db m c k) (hF : ∀ k, F k → F' k) (hl : ∀ k, F' k → k < w.heap.size) : PCore w F' D pb fb cb rb db m c k :=
  { h with
    fp := hF _ h.fp
    ff := hF _ h.ff
    fc := hF _ h.fc
    fr := hF _ h.fr
    fd := fun k hk => hF k (h.fd k hk)
    lt := hl }

/-- The frames alone were written. -/
theorem PCore.frame (h : PCore w F D pb fb cb rb db m c k) (hf : ∃ cur, w'.heap[fb]? = some (.cells cur 69 (0, 0))) (hk : Kept (· = fb) w w') : PCore w' F D pb fb cb rb db m c k := by
  obtain ⟨⟨n1, n2, n3⟩, n4, n5⟩ := h.ne
  exact { h with
    str := (hk.block _ (h.lt _ h.fp) n1).trans h.str
    fty := hf
    clk := h.clk.kept hk (fun e => n4 e.symm) (fun e => n5 e.symm)
    dk := h.dk.kept hk (fun k hD e => h.df (by rw [← e]; exact hD))
    lt := fun k hk' => Nat.lt_of_lt_of_le (h.lt k hk') hk.size }

/-- The clock alone was written. -/
theorem PCore.clock (h : PCore w F D pb fb cb rb db m c k) {c' : CS} (hn : c'.n = m) (hc : ClkAt w' cb rb c') (hk : Kept (Two cb rb) w w') : PCore w' F D pb fb cb rb db m c' k := by
  obtain ⟨⟨n1, n2, n3⟩, n4, n5⟩ := h.ne
  exact { h with
    str := (hk.block _ (h.lt _ h.fp) (by rintro (e | e); exact n2 e; exact n3 e)).trans h.str
    fty := by
      obtain ⟨cur, hf⟩ := h.fty
      exact ⟨cur, (hk.block _ (h.lt _ h.ff) (by rintro (e | e); exact n4 e; exact n5 e)).trans hf⟩
    clk := hc
    cm := hn
    dk := h.dk.kept hk (fun k hD e => by rcases e with e | e; exact h.dc (by rw [← e]; exact hD); exact h.dr (by rw [← e]; exact hD))
    lt := fun k hk' => Nat.lt_of_lt_of_le (h.lt k hk') hk.size }

/-- The disk alone was written. -/
theorem PCore.disk (h : PCore w F D pb fb cb rb db m c k) {k' : PS} (hd : Dk w' D' db k') (hN : ∀ k, D' k → D k ∨ w.heap.size ≤ k) (hk : Kept D w w') :
    PCore w' (fun k => F k ∨ w.heap.size ≤ k ∧ k < w'.heap.size) D' pb fb cb rb db m c k' := by
  have no : ∀ b, F b → ¬ D b → ¬ D' b := fun b hF hD h' => by
    rcases hN b h' with e | e
    · exact hD e
    · have := h.lt b hF
      omega
  exact
    { str := (hk.block _ (h.lt _ h.fp) h.dp).trans h.str
      fty := by
        obtain ⟨cur, hf⟩ := h.fty
        exact ⟨cur, (hk.block _ (h.lt _ h.ff) h.df).trans hf⟩
      clk := h.clk.kept hk h.dc h.dr
      cm := h.cm
      dk := hd
      fp := Or.inl h.fp
      ff := Or.inl h.ff
      fc := Or.inl h.fc
      fr := Or.inl h.fr
      fd := fun b hb => by
        rcases hN b hb with e | e
        · exact Or.inl (h.fd b e)
        · exact Or.inr ⟨e, hd.lt b hb⟩
      dp := no _ h.fp h.dp
      df := no _ h.ff h.df
      dc := no _ h.fc h.dc
      dr := no _ h.fr h.dr
      lt := fun b hb => by
        rcases hb with e | e
        · exact Nat.lt_of_lt_of_le (h.lt b e) hk.size
        · exact e.2 }
end

section
variable {w w' w2 : World} {F F' D D' : Nat → Prop} {pb fb cb rb db : Nat} {g : Nat → Value} {s s' : PP}

theorem Owns.same {m : Nat} {b : Nat → List UInt8} (h : Owns w F D g m b) (e : ∀ i q, i < m → (g i).ownBlock = some q → w'.heap[q]? = w.heap[q]?) : Owns w' F D g m b := fun i hi => by
  obtain ⟨h1, h2, h3⟩ := h i hi
  exact ⟨own_of_block h1 (fun q hq => e i q hi hq), h2, h3⟩
theorem Owns.sets {m : Nat} {b : Nat → List UInt8} (h : Owns w F D g m b) (hF : ∀ k, F k → F' k) (hD : ∀ k, F k → ¬ D k → ¬ D' k) : Owns w F' D' g m b := fun i hi => by
  obtain ⟨h1, h2, h3⟩ := h i hi
  exact ⟨h1, h2, fun q hq => ⟨hF q (h3 q hq).1, hD q (h3 q hq).1 (h3 q hq).2⟩⟩

theorem PoolAt.s0 (h : PoolAt w F D pb fb cb rb db g s) {i : Nat} (hi : i < s.m) : w.cell? ⟨fb, i * 4, none⟩ = some (g i) := by
  rw [h.row.cell (by omega), frc_0]
theorem PoolAt.s1 (h : PoolAt w F D pb fb cb rb db g s) {i : Nat} (hi : i < s.m) : w.cell? ⟨fb, i * 4 + 1, none⟩ = some (.int .i64 (s.sec i)) := by
  rw [h.row.cell (by omega), frc_1]
theorem PoolAt.s2 (h : PoolAt w F D pb fb cb rb db g s) {i : Nat} (hi : i < s.m) : w.cell? ⟨fb, i * 4 + 2, none⟩ = some (.bool (s.ful i)) := by
  rw [h.row.cell (by omega), frc_2]
theorem PoolAt.s3 (h : PoolAt w F D pb fb cb rb db g s) {i : Nat} (hi : i < s.m) : w.cell? ⟨fb, i * 4 + 3, none⟩ = some (.bool (s.d i)) := by
  rw [h.row.cell (by omega), frc_3]
theorem PoolAt.sf (h : PoolAt w F D pb fb cb rb db g s) (j : Nat) : w.frozen? ⟨fb, j, none⟩ = false := h.row.frozen j

theorem PoolAt.same (h : PoolAt w F D pb fb cb rb db g s) (e : ∀ k, F k → w'.heap[k]? = w.heap[k]?) (hs : w.heap.size ≤ w'.heap.size) : PoolAt w' F D pb fb cb rb db g s :=
  ⟨h.core.same e hs, h.row.of_block (e fb h.core.ff), h.own.same (fun i q hi hq => e q ((h.own i hi).2.2 q hq).1), h.fit⟩
theorem PoolAt.below (h : PoolAt w F D pb fb cb rb db g s) (hb : Below w.heap.size w w') : PoolAt w' F D pb fb cb rb db g s := h.same (fun k hF => hb.block k (h.core.lt k hF)) hb.size
theorem PoolAt.drewN (h : PoolAt w F D pb fb cb rb db g s) (n : Nat) : PoolAt (w.drewN n) F D pb fb cb rb db g s := h.same (fun _ _ => rfl) (Nat.le_refl _)
/-- What others do leaves a pool alone. -/
theorem PoolAt.kept {G : Nat → Prop} (h : PoolAt w F D pb fb cb rb db g s) (hk : Kept G w w') (hd : ∀ k, F k → ¬ G k) : PoolAt w' F D pb fb cb rb db g s :=
  h.same (fun k hF => hk.block k (h.core.lt k hF) (hd k hF)) hk.size

theorem PoolAt.clock (h : PoolAt w F D pb fb cb rb db g s) {c' : CS} (hn : c'.n = s.c.n) (hc : ClkAt w' cb rb c') (hk : Kept (Two cb rb) w w') : PoolAt w' F D pb fb cb rb db g { s with c := c' } := by
  obtain ⟨⟨n1, n2, n3⟩, n4, n5⟩ := h.core.ne
  exact ⟨h.core.clock (hn.trans h.core.cm) hc hk, h.row.of_block (hk.block _ (h.core.lt _ h.core.ff) (by rintro (e | e); exact n4 e; exact n5 e)), h.own.same (fun i q hi hq => by
    obtain ⟨o1, o2, o3⟩ := h.own i hi
    obtain ⟨_, _, q3, q4⟩ := h.core.own_ne o1 hq
    exact hk.block q (h.core.lt _ (o3 q hq).1) (by rintro (e | e); exact q3 e; exact q4 e)), ⟨h.fit.vd, h.fit.rng⟩⟩

theorem PoolAt.disk (h : PoolAt w F D pb fb cb rb db g s) {k' : PS} (hz : k'.size = s.k.size) (hd : Dk w' D' db k') (hN : ∀ k, D' k → D k ∨ w.heap.size ≤ k) (hk : Kept D w w') :
    PoolAt w' (fun k => F k ∨ w.heap.size ≤ k ∧ k < w'.heap.size) D' pb fb cb rb db g { s with k := k' } := by
  refine ⟨h.core.disk hd hN hk, h.row.of_block (hk.block _ (h.core.lt _ h.core.ff) h.core.df), (h.own.same (fun i q hi hq => by
    obtain ⟨o1, o2, o3⟩ := h.own i hi
    exact hk.block q (h.core.lt _ (o3 q hq).1) (o3 q hq).2)).sets (fun _ hF => Or.inl hF) (fun q hF hD h' => ?_), ⟨h.fit.vd, fun i hi => ?_⟩⟩
  · rcases hN q h' with e | e
    · exact hD e
    · have := h.core.lt q hF
      omega
  · show s.at_ i = -1 ∨ k'.has _ = true
    rw [PS.has_at, hz, ← PS.has_at]
    exact h.fit.rng i hi

/-- Whether a frame is dirty was written. -/
theorem PoolAt.setD (h : PoolAt w F D pb fb cb rb db g s) (i : Nat) (v : Bool) (hv : v = true → s.at_ i ≠ -1) : PoolAt (w.setCell ⟨fb, i * 4 + 3, none⟩ (.bool v)) F D pb fb cb rb db g { s with d := fun j => if j = i then v else s.d j } := by
  have hk : Kept (· = fb) w (w.setCell ⟨fb, i * 4 + 3, none⟩ (.bool v)) := Kept.setCell (F := (· = fb)) w (a := ⟨fb, i * 4 + 3, none⟩) rfl _
  have hr := (h.row.set (i * 4 + 3) (.bool v)).congr (fun k _ => frc_set3 g s.sec s.ful s.d i v k)
  obtain ⟨cur, hc, _⟩ := hr
  refine ⟨h.core.frame ⟨cur, hc⟩ hk, (h.row.set (i * 4 + 3) (.bool v)).congr (fun k _ => frc_set3 g s.sec s.ful s.d i v k), h.own.same (fun j q hj hq => ?_), ⟨fun j hj hat => ?_, h.fit.rng⟩⟩
  · obtain ⟨o1, o2, o3⟩ := h.own j hj
    exact hk.block q (h.core.lt _ (o3 q hq).1) (h.core.own_ne o1 hq).2.1
  · show (if j = i then v else s.d j) = false
    split
    · rename_i e
      cases hv' : v with
      | false => rfl
      | true => exact absurd (by rw [← e]; exact hat) (hv hv')
    · exact h.fit.vd j hj hat

/-- A frame comes to hold something. -/
theorem PoolAt.laid (h : PoolAt w F D pb fb cb rb db g s) {i : Nat} {n : Int} (hn : s.k.has n = true) {v : Value} {l : List UInt8} (hl : l.length ≤ 1024) (hk : Kept (· = fb) w w') (ho : Own w' w.heap.size v l)
    (hr : w'.rowIs fb 69 (s.m * 4) (frc (at1 g i v) (at1 s.sec i n) (at1 s.ful i true) s.d)) :
    PoolAt w' (fun k => F k ∨ w.heap.size ≤ k ∧ k < w'.heap.size) D pb fb cb rb db (at1 g i v) (s.lay i n l (s.d i)) := by
  have hne : n ≠ -1 := by
    have := (s.k.has_at n).1 hn
    omega
  have hc := hr
  obtain ⟨cur, hc, _⟩ := hc
  have e1 : ∀ j, (s.lay i n l (s.d i)).sec j = at1 s.sec i n j := fun j => by
    unfold PP.sec at1 PP.lay
    show (if (if j = i then n else s.at_ j) = -1 then (0 : Int) else (if j = i then n else s.at_ j)) = _
    by_cases e : j = i
    · rw [if_pos e, if_neg hne, if_pos e]
    · rw [if_neg e, if_neg e]
  have e2 : ∀ j, (s.lay i n l (s.d i)).ful j = at1 s.ful i true j := fun j => by
    unfold PP.ful at1 PP.lay
    show (!((if j = i then n else s.at_ j) == -1)) = _
    by_cases e : j = i
    · rw [if_pos e, if_pos e]
      simp [hne]
    · rw [if_neg e, if_neg e]
  have e3 : ∀ j, (s.lay i n l (s.d i)).d j = s.d j := fun j => by
    unfold PP.lay
    show (if j = i then s.d i else s.d j) = _
    split
    · rename_i e
      rw [e]
    · rfl
  refine ⟨(h.core.frame ⟨cur, hc⟩ hk).more (fun _ hF => Or.inl hF) (fun b hb => ?_), hr.congr (fun j _ => ?_), fun j hj => ?_, ⟨fun j hj hat => ?_, fun j hj => ?_⟩⟩
  · rcases hb with e | e
    · exact Nat.lt_of_lt_of_le (h.core.lt b e) hk.size
    · exact e.2
  · rw [show (s.lay i n l (s.d i)).sec = at1 s.sec i n from funext e1, show (s.lay i n l (s.d i)).ful = at1 s.ful i true from funext e2, show (s.lay i n l (s.d i)).d = s.d from funext e3]
  · by_cases e : j = i
    · rw [e, at1_here]
      show Own w' 0 v (if i = i then l else s.b i) ∧ (if i = i then l else s.b i).length ≤ 1024 ∧ _
      rw [if_pos rfl]
      refine ⟨own_base ho, hl, fun q hq => ?_⟩
      obtain ⟨q1, q2⟩ := ho.lt q hq
      refine ⟨Or.inr ⟨q1, q2⟩, fun hD => ?_⟩
      have := h.core.lt q (h.core.fd q hD)
      omega
    · rw [at1_else _ _ e]
      show Own w' 0 (g j) (if j = i then l else s.b j) ∧ (if j = i then l else s.b j).length ≤ 1024 ∧ _
      rw [if_neg e]
      obtain ⟨o1, o2, o3⟩ := h.own j hj
      exact ⟨own_of_block o1 (fun q hq => hk.block q (h.core.lt _ (o3 q hq).1) (h.core.own_ne o1 hq).2.1), o2, fun q hq => ⟨Or.inl (o3 q hq).1, (o3 q hq).2⟩⟩
  · rw [e3]
    have hat' : (if j = i then n else s.at_ j) = -1 := hat
    by_cases e : j = i
    · rw [if_pos e] at hat'
      exact absurd hat' hne
    · rw [if_neg e] at hat'
      exact h.fit.vd j hj hat'
  · show (if j = i then n else s.at_ j) = -1 ∨ s.k.has (if j = i then n else s.at_ j) = true
    by_cases e : j = i
    · rw [if_pos e]
      exact Or.inr hn
    · rw [if_neg e]
      exact h.fit.rng j hj

/-- A frame is emptied. -/
theorem PoolAt.void (h : PoolAt w F D pb fb cb rb db g s) {i : Nat} (hk : Kept (· = fb) w w')
    (hr : w'.rowIs fb 69 (s.m * 4) (frc (at1 g i (.slice none 0 0)) (at1 s.sec i 0) (at1 s.ful i false) (at1 s.d i false))) :
    PoolAt w' F D pb fb cb rb db (at1 g i (.slice none 0 0)) (s.lay i (-1) [] false) := by
  have hc := hr
  obtain ⟨cur, hc, _⟩ := hc
  have e1 : ∀ j, (s.lay i (-1) [] false).sec j = at1 s.sec i 0 j := fun j => by
    unfold PP.sec at1 PP.lay
    show (if (if j = i then (-1 : Int) else s.at_ j) = -1 then (0 : Int) else (if j = i then (-1 : Int) else s.at_ j)) = _
    by_cases e : j = i
    · rw [if_pos e, if_pos rfl, if_pos e]
    · rw [if_neg e, if_neg e]
  have e2 : ∀ j, (s.lay i (-1) [] false).ful j = at1 s.ful i false j := fun j => by
    unfold PP.ful at1 PP.lay
    show (!((if j = i then (-1 : Int) else s.at_ j) == -1)) = _
    by_cases e : j = i
    · rw [if_pos e, if_pos e]
      rfl
    · rw [if_neg e, if_neg e]
  refine ⟨h.core.frame ⟨cur, hc⟩ hk, hr.congr (fun j _ => ?_), fun j hj => ?_, ⟨fun j hj hat => ?_, fun j hj => ?_⟩⟩
  · rw [show (s.lay i (-1) [] false).sec = at1 s.sec i 0 from funext e1, show (s.lay i (-1) [] false).ful = at1 s.ful i false from funext e2]
    rfl
  · show Own w' 0 _ (if j = i then [] else s.b j) ∧ (if j = i then [] else s.b j).length ≤ 1024 ∧ _
    by_cases e : j = i
    · rw [if_pos e, e, at1_here]
      exact ⟨own_nil _ _, Nat.zero_le _, fun q hq => by cases hq⟩
    · rw [at1_else _ _ e, if_neg e]
      obtain ⟨o1, o2, o3⟩ := h.own j hj
      exact ⟨own_of_block o1 (fun q hq => hk.block q (h.core.lt _ (o3 q hq).1) (h.core.own_ne o1 hq).2.1), o2, o3⟩
  · show (if j = i then false else s.d j) = false
    have hat' : (if j = i then (-1 : Int) else s.at_ j) = -1 := hat
    split
    · rfl
    · rename_i e
      rw [if_neg e] at hat'
      exact h.fit.vd j hj hat'
  · show (if j = i then (-1 : Int) else s.at_ j) = -1 ∨ s.k.has (if j = i then (-1 : Int) else s.at_ j) = true
    by_cases e : j = i
    · rw [if_pos e]
      exact Or.inl rfl
    · rw [if_neg e]
      exact h.fit.rng j hj
end

/-- What a call leaves that answers v. -/
def PEnd (w : World) (F : Nat → Prop) (pb fb cb rb db : Nat) (s' : PP) (v : Value) (e : Ending) (w' : World) : Prop :=
  e = .returned v ∧ ∃ F' D' g', PoolAt w' F' D' pb fb cb rb db g' s' ∧ Moves w F w' F'

theorem Moves.new {w w' : World} {F : Nat → Prop} (h : Kept F w w') : Moves w F w' (fun k => F k ∨ w.heap.size ≤ k ∧ k < w'.heap.size) :=
  ⟨h, fun _ hk => by rcases hk with e | e; exact Or.inl e; exact Or.inr e.1⟩
theorem Moves.refl (w : World) (F : Nat → Prop) : Moves w F w F := ⟨Kept.refl _ _, fun _ hk => Or.inl hk⟩
end Go.Proofs.Ytgkdlbcpckdmkaa
