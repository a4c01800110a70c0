/-
  A part of the proof: what its texts say stands at the head of each. Conditions: none.
-/
import Derived.Maps.OwnSet
import Derived.Maps.RangeWalk
import Derived.Lib.SlKeysI
import Derived.Lib.SmallJoins
import Derived.Deep.RegionHeld3
import Derived.Carry
import Derived.Test.YtnmiccagkfpkiaaGreatZD1
import Derived.Test.YtnmiccagkfpkiaaGreatZD3

/-
  Maps whose keys are numbers, told entry by entry: what the operations on such a map come to.
-/
namespace Go.Proofs.YtnmiccagkfpkiaaGreat
open Go.RowKit Go.Maps

/-- An element is told as itself. -/
def heldR (v : Value) : Option (DataW Value × List MemPlace) := some (.held v, [])

set_option maxRecDepth 20000 in
theorem keyLaw : Keyed Tryz.prog 3 := int_keyed Tryz.underlying3
theorem i64_wf {i : Int} (h1 : -9223372036854775808 ≤ i) (h2 : i ≤ 9223372036854775807) : (Lit.int .i64 i).wf = true := by
  simp only [Lit.wf, Bool.and_eq_true, decide_eq_true_eq]
  have e1 : IntKind.i64.min = -9223372036854775808 := rfl
  have e2 : IntKind.i64.max = 9223372036854775807 := rfl
  omega
set_option maxRecDepth 20000 in
theorem keyIs {i : Int} (h1 : -9223372036854775808 ≤ i) (h2 : i ≤ 9223372036854775807) : keyOf Tryz.prog 3 (.int .i64 i) = some (.int .i64 i) := keyOf_int_mk Tryz.underlying3 (i64_wf h1 h2)

/-! ### entries -/
section
variable {es : List (Lit × DataW Value)} {k : Lit} {d z : DataW Value}

theorem find_mem (hp : es.Pairwise (fun p q => p.1 ≠ q.1)) (hk : WideAt.IsKeyLit k) (h : (k, d) ∈ es) : es.find? (fun p => p.1.sameKey k) = some (k, d) := by
  induction es with
  | nil => simp at h
  | cons y r ih =>
    obtain ⟨h1, h2⟩ := List.pairwise_cons.1 hp
    rcases List.mem_cons.1 h with e | e
    · subst e
      simp [WideAt.sameKey_self hk]
    · have hy : y.1.sameKey k = false := Maps.sameKey_ne (h1 _ e)
      rw [List.find?_cons, hy]
      exact ih h2 e

theorem at_mem (hp : es.Pairwise (fun p q => p.1 ≠ q.1)) (hk : WideAt.IsKeyLit k) (h : (k, d) ∈ es) : (DataW.map es).atKey k z = d := by
  unfold DataW.atKey
  simp only [find_mem hp hk h]

theorem has_mem (hk : WideAt.IsKeyLit k) (h : (k, d) ∈ es) : Maps.has (DataW.map es) k = true := by
  rw [Maps.has_eq, List.any_eq_true]
  exact ⟨_, h, WideAt.sameKey_self hk⟩

theorem mem_has (h : Maps.has (DataW.map es) k = true) : ∃ d, (k, d) ∈ es := by
  rw [Maps.has_eq, List.any_eq_true] at h
  obtain ⟨p, hp, hs⟩ := h
  have := WideAt.sameKey_eq hs
  exact ⟨p.2, by rw [← this]; exact hp⟩

theorem mem_insert {x y : Lit × DataW Value} : y ∈ DataW.insert x es ↔ y = x ∨ y ∈ es := by
  rw [(WideShapes.insert_perm x es).mem_iff, List.mem_cons]

theorem few_nats : ∀ (n : Nat) (l : List Nat), l.Pairwise (· ≠ ·) → (∀ x ∈ l, x < n) → l.length ≤ n
  | 0, l, _, h => by
    rcases l with _ | ⟨x, l⟩
    · simp
    · exact absurd (h x (by simp)) (by omega)
  | n + 1, l, hp, h => by
    have h1 := few_nats n (l.filter (fun x => x ≠ n)) (hp.filter _) (fun x hx => by
      obtain ⟨h2, h3⟩ := List.mem_filter.1 hx
      have := h x h2
      have : x ≠ n := by simpa using h3
      omega)
    have h2 : l.length ≤ (l.filter (fun x => x ≠ n)).length + 1 := by
      clear h1 h
      induction l with
      | nil => simp
      | cons y r ih =>
        obtain ⟨p1, p2⟩ := List.pairwise_cons.1 hp
        by_cases hy : y = n
        · subst hy
          have : r.filter (fun x => x ≠ y) = r := List.filter_eq_self.2 (fun x hx => by simpa using (p1 x hx).symm)
          rw [List.filter_cons, if_neg (by simp), this]
          simp
        · rw [List.filter_cons, if_pos (by simpa using hy)]
          have := ih p2
          simp only [List.length_cons]
          omega
    omega
end

/-- What f is, but v at i. -/
def upd (f : Int → Option Value) (i : Int) (v : Option Value) : Int → Option Value := fun j => if j = i then v else f j

/-- Block b is a map of few entries, those of f. -/
def MapAt (w : World) (b : Nat) (f : Int → Option Value) : Prop :=
  ∃ n es, w.ownsMap Tryz.prog 3 heldR b n (.map es) ∧ (∀ p ∈ es, ∃ i v, p = (Lit.int .i64 i, DataW.held v) ∧ 0 ≤ i ∧ i < 4096) ∧ ∀ i v, f i = some v ↔ (Lit.int .i64 i, DataW.held v) ∈ es

section
variable {w w' : World} {b : Nat} {f : Int → Option Value}

set_option maxRecDepth 20000 in
theorem tight {n : Nat} {es : List (Lit × DataW Value)} (h : w.ownsMap Tryz.prog 3 heldR b n (.map es)) : w.ownsMap Tryz.prog 3 heldR b es.length (.map es) := by
  obtain ⟨xs, clock, hb, F, hs, hD⟩ := h
  refine ⟨xs, clock, hb, F, ?_, hD⟩
  injection hD with e
  rw [e, length_sorted]
  simp

theorem few_of {es : List (Lit × DataW Value)} (hp : es.Pairwise (fun p q => p.1 ≠ q.1)) (hk : ∀ p ∈ es, ∃ i v, p = (Lit.int .i64 i, DataW.held v) ∧ 0 ≤ i ∧ i < 4096) : es.length ≤ 4096 := by
  have := few_nats 4096 (es.map fun p => (_root_.Go.intOf p.1).toNat) (by
    rw [List.pairwise_map]
    refine List.Pairwise.imp_of_mem ?_ hp
    intro p q hp' hq' hne e
    obtain ⟨i, v, rfl, h1, h2⟩ := hk p hp'
    obtain ⟨j, u, rfl, h3, h4⟩ := hk q hq'
    simp only [_root_.Go.intOf] at e
    exact hne (by show Lit.int .i64 i = Lit.int .i64 j; rw [show i = j by omega])) (fun x hx => by
    obtain ⟨p, hp', rfl⟩ := List.mem_map.1 hx
    obtain ⟨i, v, rfl, h1, h2⟩ := hk p hp'
    simp only [_root_.Go.intOf]
    omega)
  simpa using this

theorem MapAt.lt (h : MapAt w b f) : b < w.heap.size := by
  obtain ⟨n, es, ho, _⟩ := h
  exact ho.lt

theorem MapAt.isMap (h : MapAt w b f) : ∃ es clock, w.heap[b]? = some (.map es clock) := by
  obtain ⟨n, es, ⟨xs, clock, hb, _⟩, _⟩ := h
  exact ⟨xs, clock, hb⟩

theorem MapAt.block (h : MapAt w b f) (e : w'.heap[b]? = w.heap[b]?) : MapAt w' b f := by
  obtain ⟨n, es, ⟨xs, clock, hb, F, hs, hD⟩, hr⟩ := h
  exact ⟨n, es, ⟨xs, clock, e.trans hb, F, hs, hD⟩, hr⟩

theorem MapAt.keys (h : MapAt w b f) {i : Int} {v : Value} (e : f i = some v) : 0 ≤ i ∧ i < 4096 := by
  obtain ⟨n, es, _, hk, hf⟩ := h
  obtain ⟨j, u, e1, h1, h2⟩ := hk _ ((hf i v).1 e)
  injection e1 with e2 e3
  injection e2 with e4 e5
  omega

theorem mapAt_made (w : World) : MapAt (w.alloc (.map #[] 0)) w.heap.size (fun _ => none) :=
  ⟨0, [], World.ownsMap_made w _ _ _, by simp, by simp⟩

theorem litKey (i : Int) : WideAt.IsKeyLit (.int .i64 i) := trivial

set_option maxRecDepth 20000 in
theorem zeroBytes (w : World) : (zeroValue 34).run Tryz.prog w = .ok (.slice none 0 0) w := by kernel_rfl

set_option maxRecDepth 20000 in
/-- v, ok := m[i] -/
theorem MapAt.look (h : MapAt w b f) {i : Int} (h1 : -9223372036854775808 ≤ i) (h2 : i ≤ 9223372036854775807) :
    (Instr.lookup 52 (.map (some b)) (.int .i64 i) true).run Tryz.prog w = .ok (.tuple #[(f i).getD (.slice none 0 0), .bool (f i).isSome]) w := by
  obtain ⟨n, es, ho, hk, hf⟩ := h
  obtain ⟨v, ps, hrun, hv⟩ := ho.look_ok keyLaw Tryz.underlying52 (zeroBytes w) (zd := .held (.slice none 0 0)) (zp := []) rfl (keyIs h1 h2)
  obtain ⟨es', e', hp, _⟩ := ho.entries keyLaw
  injection e' with e'
  subst e'
  rw [hrun]
  have hv' : DataW.held v = (DataW.map es).atKey (.int .i64 i) (.held (.slice none 0 0)) := by
    unfold heldR at hv
    injection hv with hv
    injection hv
  cases hfi : f i with
  | some u =>
    have hm := (hf i u).1 hfi
    rw [at_mem hp (litKey i) hm] at hv'
    injection hv' with hv'
    rw [has_mem (litKey i) hm, hv']
    rfl
  | none =>
    have hn : Maps.has (DataW.map es) (.int .i64 i) = false := by
      cases hh : Maps.has (DataW.map es) (.int .i64 i) with
      | false => rfl
      | true =>
        obtain ⟨d, hd⟩ := mem_has hh
        obtain ⟨j, u, e1, _⟩ := hk _ hd
        injection e1 with e2 e3
        subst e3
        rw [(hf i u).2 hd] at hfi
        cases hfi
    rw [Maps.atKey_of_not_has hn] at hv'
    injection hv' with hv'
    rw [hn, hv']
    rfl

set_option maxRecDepth 20000 in
/-- v := m[i] -/
theorem MapAt.look1 (h : MapAt w b f) {i : Int} (h1 : -9223372036854775808 ≤ i) (h2 : i ≤ 9223372036854775807) :
    (Instr.lookup 52 (.map (some b)) (.int .i64 i) false).run Tryz.prog w = .ok ((f i).getD (.slice none 0 0)) w := by
  obtain ⟨n, es, ho, hk, hf⟩ := h
  obtain ⟨v, ps, hrun, hv⟩ := ho.lookup keyLaw Tryz.underlying52 (zeroBytes w) (zd := .held (.slice none 0 0)) (zp := []) rfl (keyIs h1 h2)
  obtain ⟨es', e', hp, _⟩ := ho.entries keyLaw
  injection e' with e'
  subst e'
  rw [hrun]
  have hv' : DataW.held v = (DataW.map es).atKey (.int .i64 i) (.held (.slice none 0 0)) := by
    unfold heldR at hv
    injection hv with hv
    injection hv
  cases hfi : f i with
  | some u =>
    have hm := (hf i u).1 hfi
    rw [at_mem hp (litKey i) hm] at hv'
    injection hv' with hv'
    rw [hv']
    rfl
  | none =>
    have hn : Maps.has (DataW.map es) (.int .i64 i) = false := by
      cases hh : Maps.has (DataW.map es) (.int .i64 i) with
      | false => rfl
      | true =>
        obtain ⟨d, hd⟩ := mem_has hh
        obtain ⟨j, u, e1, _⟩ := hk _ hd
        injection e1 with e2 e3
        subst e3
        rw [(hf i u).2 hd] at hfi
        cases hfi
    rw [Maps.atKey_of_not_has hn] at hv'
    injection hv' with hv'
    rw [hv']
    rfl

set_option maxRecDepth 20000 in
/-- m[i] = v -/
theorem MapAt.put (h : MapAt w b f) {i : Int} (h1 : 0 ≤ i) (h2 : i < 4096) (v : Value) :
    ∃ w', (Instr.mapUpdate 52 (.map (some b)) (.int .i64 i) v).run Tryz.prog w = .ok () w' ∧ MapAt w' b (upd f i (some v)) ∧ w.grownBy w' (some b) := by
  obtain ⟨n, es, ho, hk, hf⟩ := h
  obtain ⟨es', e', hp, _⟩ := ho.entries keyLaw
  injection e' with e'
  subst e'
  have hl := few_of hp hk
  obtain ⟨w', hrun, ho', hg⟩ := (tight ho).update keyLaw Tryz.underlying52 (by unfold maxLen; omega) (keyIs (i := i) (by omega) (by omega)) (val := v) (d := .held v) (ps := []) rfl
  refine ⟨w', hrun, ⟨_, DataW.insert (.int .i64 i, .held v) (es.filter fun p => !p.1.sameKey (.int .i64 i)), ho', ?_, ?_⟩, hg⟩
  · intro p hm
    rcases mem_insert.1 hm with rfl | hm
    · exact ⟨i, v, rfl, h1, h2⟩
    · exact hk p (List.mem_filter.1 hm).1
  · intro j u
    rw [mem_insert, List.mem_filter]
    unfold upd
    by_cases hj : j = i
    · subst hj
      rw [if_pos rfl, WideAt.sameKey_self (litKey j)]
      constructor
      · intro e
        injection e with e
        subst e
        exact Or.inl rfl
      · rintro (e | ⟨_, e⟩)
        · obtain rfl : u = v := DataW.held.inj (congrArg Prod.snd e)
          rfl
        · cases e
    · rw [if_neg hj, hf, Maps.sameKey_ne (a := Lit.int .i64 j) (b := Lit.int .i64 i) (fun e => hj (by injection e))]
      constructor
      · intro e
        exact Or.inr ⟨e, rfl⟩
      · rintro (e | ⟨e, _⟩)
        · injection e with e
          injection e with _ e
          exact absurd e hj
        · exact e

set_option maxRecDepth 20000 in
/-- delete(m, i) -/
theorem MapAt.del (h : MapAt w b f) {i : Int} (h1 : -9223372036854775808 ≤ i) (h2 : i ≤ 9223372036854775807) (ty : TypeId) :
    ∃ w', (Builtin.delete_ #[52, 3] ty #[.map (some b), .int .i64 i]).run Tryz.prog w = .ok (.tuple #[]) w' ∧ MapAt w' b (upd f i none) ∧ w.grownBy w' (some b) := by
  obtain ⟨n, es, ho, hk, hf⟩ := h
  obtain ⟨w', hrun, ho', hg⟩ := ho.drop keyLaw Tryz.underlying52 (keyIs h1 h2) ty
  refine ⟨w', hrun, ⟨_, es.filter fun p => !p.1.sameKey (.int .i64 i), ho', ?_, ?_⟩, hg.grown⟩
  · intro p hm
    exact hk p (List.mem_filter.1 hm).1
  · intro j u
    rw [List.mem_filter]
    unfold upd
    by_cases hj : j = i
    · subst hj
      rw [if_pos rfl, WideAt.sameKey_self (litKey j)]
      simp
    · rw [if_neg hj, hf, Maps.sameKey_ne (a := Lit.int .i64 j) (b := Lit.int .i64 i) (fun e => hj (by injection e))]
      simp

set_option maxRecDepth 20000 in
/-- clear(m) -/
theorem MapAt.clear (h : MapAt w b f) (ty : TypeId) :
    ∃ w', (Builtin.clear_ #[52] ty #[.map (some b)]).run Tryz.prog w = .ok (.tuple #[]) w' ∧ MapAt w' b (fun _ => none) ∧ w.grownBy w' (some b) := by
  obtain ⟨es, clock, hb⟩ := h.isMap
  refine ⟨ChangeMaps.setBlock w b (.map #[] clock), ?_, ⟨0, [], ⟨#[], clock, ChangeMaps.heap_setBlock_same hb _, ⟨by simp, ?_, by simp⟩, Nat.le_refl _, rfl⟩, by simp, by simp⟩, ⟨rfl, rfl, rfl, by simp [ChangeMaps.setBlock], fun i _ hi => ChangeMaps.heap_setBlock_other hb _ (fun e => hi (by rw [e]))⟩⟩
  · simp [Builtin.clear_, run_underlying Tryz.underlying52, MapKept.run_getObj_map hb, MapKept.run_setObj_map _ hb, Result.andThen]
    rfl
  · exact MapKept.stamped_empty clock
end

end Go.Proofs.YtnmiccagkfpkiaaGreat

/-
  What it is that nothing but some blocks has changed.
-/
namespace Go.Proofs.YtnmiccagkfpkiaaGreat
open Go.RowKit

/-- Nothing but the blocks of F, and new ones, has changed. -/
structure Kept (F : Nat → Prop) (w w' : World) : Prop where
  os : w'.os = w.os
  tape : w'.tape = w.tape
  output : w'.output = w.output
  size : w.heap.size ≤ w'.heap.size
  block : ∀ k, k < w.heap.size → ¬ F k → w'.heap[k]? = w.heap[k]?

section
variable {F F' : Nat → Prop} {w w' w2 : World}

theorem Kept.refl (F : Nat → Prop) (w : World) : Kept F w w := ⟨rfl, rfl, rfl, Nat.le_refl _, fun _ _ _ => rfl⟩
theorem Kept.trans (h : Kept F w w') (k : Kept F' w' w2) (hF : ∀ k, F' k → F k ∨ w.heap.size ≤ k) : Kept F w w2 :=
  ⟨k.os.trans h.os, k.tape.trans h.tape, k.output.trans h.output, Nat.le_trans h.size k.size, fun i hi hn =>
    (k.block i (Nat.lt_of_lt_of_le hi h.size) (fun e => by rcases hF i e with e | e; exact hn e; omega)).trans (h.block i hi hn)⟩
theorem Kept.next (h : Kept F w w') (k : Kept F w' w2) : Kept F w w2 := h.trans k (fun _ e => Or.inl e)
theorem Kept.below (h : Below w.heap.size w w') (F : Nat → Prop) : Kept F w w' := ⟨h.os, h.tape, h.output, h.size, fun k hk _ => h.block k hk⟩
theorem Kept.grown {b : Nat} (h : w.grownBy w' (some b)) (hb : F b) : Kept F w w' :=
  ⟨h.os, h.tape, h.output, h.size, fun k hk hn => h.block k hk (fun e => hn (by injection e with e; rw [e]; exact hb))⟩
theorem Kept.setCell (w : World) {a : Addr} (ha : F a.block) (v : Value) : Kept F w (w.setCell a v) :=
  ⟨rfl, rfl, rfl, by simp [World.setCell], fun k _ hn => Below.heap_setCell _ _ _ _ (fun e => hn (by rw [e]; exact ha))⟩
theorem Kept.toBelow {B : Nat} (h : Kept F w w') (hF : ∀ k, F k → B ≤ k) (hB : B ≤ w.heap.size) : Below B w w' :=
  ⟨h.os, h.tape, h.output, h.size, fun k hk => h.block k (by omega) (fun e => by have := hF k e; omega)⟩
theorem Kept.more (h : Kept F w w') (hF : ∀ k, F k → F' k) : Kept F' w w' :=
  ⟨h.os, h.tape, h.output, h.size, fun k hk hn => h.block k hk (fun e => hn (hF k e))⟩
end
end Go.Proofs.YtnmiccagkfpkiaaGreat

/-
  What is meant by a disk in memory.
-/
namespace Go.Proofs.YtnmiccagkfpkiaaGreat
open Go.RowKit Go.Maps

section
variable {w w' : World}

theorem own_of_block {base : Nat} {v : Value} {l : List UInt8} (h : Own w base v l) (e : ∀ k, v.ownBlock = some k → w'.heap[k]? = w.heap[k]?) : Own w' base v l := by
  obtain ⟨h1, h2⟩ := h
  refine ⟨h1, ?_⟩
  rcases h2 with h2 | ⟨g, cap, cur, hv, hg, hh, r⟩
  · exact Or.inl h2
  · exact Or.inr ⟨g, cap, cur, hv, hg, by rw [e g (by rw [hv]; rfl)]; exact hh, r⟩

theorem own_base {base : Nat} {v : Value} {l : List UInt8} (h : Own w base v l) : Own w 0 v l := by
  obtain ⟨h1, h2⟩ := h
  refine ⟨h1, ?_⟩
  rcases h2 with h2 | ⟨g, cap, cur, hv, hg, r⟩
  · exact Or.inl h2
  · exact Or.inr ⟨g, cap, cur, hv, Nat.zero_le _, r⟩

set_option maxRecDepth 20000 in
/-- The block of bytes of one's own is one of bytes. -/
theorem own_cells {base : Nat} {v : Value} {l : List UInt8} {k : Nat} (h : Own w base v l) (e : v.ownBlock = some k) : ∃ cur, w.heap[k]? = some (.cells cur 5 (0, 0)) := by
  rcases h.2 with ⟨rfl, _⟩ | ⟨g, cap, cur, hv, hg, hh, r⟩
  · cases e
  · rw [hv] at e
    injection e with e
    subst e
    exact ⟨cur, hh⟩

theorem own_slice {base : Nat} {v : Value} {l : List UInt8} (h : Own w base v l) : ∃ A c, v = .slice A l.length c ∧ l.length ≤ c ∧ (A = none → l.length = 0 ∧ c = 0) := by
  rcases h.2 with ⟨rfl, h0⟩ | ⟨g, cap, cur, hv, _, _, hc, _⟩
  · exact ⟨none, 0, by rw [h0], by omega, fun _ => ⟨h0, rfl⟩⟩
  · exact ⟨_, _, hv, hc, fun e => by cases e⟩
end

abbrev Ghost := Int → Option (Value × List UInt8)

def vals (g : Ghost) : Int → Option Value := fun i => (g i).map Prod.fst

/-- No two entries, at unlike places, lie in one block. -/
def Apart (g h : Ghost) (S : Int → Int → Prop) : Prop :=
  ∀ i j v l u m k, g i = some (v, l) → h j = some (u, m) → v.ownBlock = some k → u.ownBlock = some k → S i j

def diskCells (s : PS) (bl bw : Nat) : Array Value := #[.int .i64 s.size, .map (some bl), .map (some bw), .bool s.down, .bool s.fused, .int .i64 s.fuse]

structure DiskAt (w : World) (F : Nat → Prop) (S : Int → Prop) (db bl bw : Nat) (gL gW : Ghost) (s : PS) : Prop where
  str : w.heap[db]? = some (.cells (diskCells s bl bw) 54 (0, 0))
  mL : MapAt w bl (vals gL)
  mW : MapAt w bw (vals gW)
  ne : bl ≠ bw
  fd : F db
  fl : F bl
  fw : F bw
  lt : ∀ k, F k → k < w.heap.size
  oL : ∀ i v l, gL i = some (v, l) → Own w 0 v l ∧ l ≠ [] ∧ l.length ≤ 1024 ∧ (∀ k, v.ownBlock = some k → F k) ∧ 0 ≤ i ∧ i < (s.size : Int)
  oW : ∀ i v l, gW i = some (v, l) → Own w 0 v l ∧ l.length ≤ 1024 ∧ (∀ k, v.ownBlock = some k → F k) ∧ 0 ≤ i ∧ i < (s.size : Int)
  aL : Apart gL gL (· = ·)
  aW : Apart gW gW (· = ·)
  aX : Apart gL gW (fun i j => i = j ∧ S j)
  sL : ∀ i, s.L i = ((gL i).map Prod.snd).getD []
  sW : ∀ i, s.W i = (gW i).map Prod.snd
  s2 : 2 ≤ s.size
  s4 : s.size ≤ 4096
  fu : s.fuse ≤ 9223372036854775807

/-- A disk at rest. -/
def Dk (w : World) (F : Nat → Prop) (db : Nat) (s : PS) : Prop := ∃ bl bw gL gW, DiskAt w F (fun _ => False) db bl bw gL gW s

section
variable {w w' : World} {F F' : Nat → Prop} {S S' : Int → Prop} {db bl bw : Nat} {gL gW : Ghost} {s : PS}

theorem DiskAt.same (h : DiskAt w F S db bl bw gL gW s) (e : ∀ k, F k → w'.heap[k]? = w.heap[k]?) (hs : w.heap.size ≤ w'.heap.size) : DiskAt w' F S db bl bw gL gW s :=
  { h with
    str := (e db h.fd).trans h.str
    mL := h.mL.block (e bl h.fl)
    mW := h.mW.block (e bw h.fw)
    lt := fun k hk => Nat.lt_of_lt_of_le (h.lt k hk) hs
    oL := fun i v l hi => by
      obtain ⟨o, r1, r2, r3, r4⟩ := h.oL i v l hi
      exact ⟨own_of_block o (fun k hk => e k (r3 k hk)), r1, r2, r3, r4⟩
    oW := fun i v l hi => by
      obtain ⟨o, r2, r3, r4⟩ := h.oW i v l hi
      exact ⟨own_of_block o (fun k hk => e k (r3 k hk)), r2, r3, r4⟩ }

/-- What others do leaves a disk alone. -/
theorem Dk.kept {G : Nat → Prop} (h : Dk w F db s) (hk : Kept G w w') (hd : ∀ k, F k → ¬ G k) : Dk w' F db s := by
  obtain ⟨bl, bw, gL, gW, h⟩ := h
  exact ⟨bl, bw, gL, gW, h.same (fun k hF => hk.block k (h.lt k hF) (hd k hF)) hk.size⟩

theorem Dk.below (h : Dk w F db s) (hb : Below w.heap.size w w') : Dk w' F db s := by
  obtain ⟨bl, bw, gL, gW, h⟩ := h
  exact ⟨bl, bw, gL, gW, h.same (fun k hF => hb.block k (h.lt k hF)) hb.size⟩

theorem DiskAt.rest (h : DiskAt w F S db bl bw gL (fun _ => none) s) : Dk w F db s :=
  ⟨bl, bw, gL, _, { h with aX := fun i j v l u m k _ e => by cases e }⟩

set_option maxRecDepth 20000 in
theorem types_apart : (5 : TypeId) ≠ 54 := by decide

theorem DiskAt.own_ne (h : DiskAt w F S db bl bw gL gW s) {base : Nat} {v : Value} {l : List UInt8} {k : Nat} (o : Own w base v l) (e : v.ownBlock = some k) : k ≠ db ∧ k ≠ bl ∧ k ≠ bw := by
  obtain ⟨cur, hc⟩ := own_cells o e
  refine ⟨fun e1 => ?_, fun e1 => ?_, fun e1 => ?_⟩
  · subst e1
    rw [h.str] at hc
    injection hc with hc
    injection hc with _ hc
    exact types_apart hc.symm
  · subst e1
    obtain ⟨es, c, hm⟩ := h.mL.isMap
    rw [hm] at hc
    cases hc
  · subst e1
    obtain ⟨es, c, hm⟩ := h.mW.isMap
    rw [hm] at hc
    cases hc

theorem DiskAt.db_ne (h : DiskAt w F S db bl bw gL gW s) : bl ≠ db ∧ bw ≠ db := by
  refine ⟨fun e => ?_, fun e => ?_⟩
  · obtain ⟨es, c, hm⟩ := h.mL.isMap
    rw [e, h.str] at hm
    cases hm
  · obtain ⟨es, c, hm⟩ := h.mW.isMap
    rw [e, h.str] at hm
    cases hm

set_option maxRecDepth 20000 in
/-- The struct's own fields are written. -/
theorem DiskAt.field (h : DiskAt w F S db bl bw gL gW s) {d f : Bool} {n : Nat} (hn : n ≤ 9223372036854775807)
    (hd : w'.heap[db]? = some (.cells (diskCells { s with down := d, fused := f, fuse := n } bl bw) 54 (0, 0))) (ho : ∀ k, k ≠ db → w'.heap[k]? = w.heap[k]?) (hs : w.heap.size ≤ w'.heap.size) :
    DiskAt w' F S db bl bw gL gW { s with down := d, fused := f, fuse := n } :=
  { h with
    str := hd
    mL := h.mL.block (ho _ h.db_ne.1)
    mW := h.mW.block (ho _ h.db_ne.2)
    lt := fun k hk => Nat.lt_of_lt_of_le (h.lt k hk) hs
    oL := fun i v l hi => by
      obtain ⟨o, r⟩ := h.oL i v l hi
      exact ⟨own_of_block o (fun k hk => ho k (h.own_ne o hk).1), r⟩
    oW := fun i v l hi => by
      obtain ⟨o, r⟩ := h.oW i v l hi
      exact ⟨own_of_block o (fun k hk => ho k (h.own_ne o hk).1), r⟩
    fu := hn }

/-- The map of what lasts is written. -/
theorem DiskAt.putL (h : DiskAt w F S db bl bw gL gW s) {gL' : Ghost} {L' : Int → List UInt8} (hg : w.grownBy w' (some bl)) (hm : MapAt w' bl (vals gL'))
    (oL' : ∀ i v l, gL' i = some (v, l) → Own w 0 v l ∧ l ≠ [] ∧ l.length ≤ 1024 ∧ (∀ k, v.ownBlock = some k → F k) ∧ 0 ≤ i ∧ i < (s.size : Int))
    (aL' : Apart gL' gL' (· = ·)) (aX' : Apart gL' gW (fun i j => i = j ∧ S' j)) (sL' : ∀ i, L' i = ((gL' i).map Prod.snd).getD []) : DiskAt w' F S' db bl bw gL' gW { s with L := L' } := by
  have ho : ∀ k, k < w.heap.size → k ≠ bl → w'.heap[k]? = w.heap[k]? := fun k hk hne => hg.block k hk (fun e => hne (by injection e))
  exact { h with
    str := (ho _ (h.lt _ h.fd) h.db_ne.1.symm).trans h.str
    mL := hm
    mW := h.mW.block (ho _ (h.lt _ h.fw) h.ne.symm)
    lt := fun k hk => Nat.lt_of_lt_of_le (h.lt k hk) hg.size
    oL := fun i v l hi => by
      obtain ⟨o, r1, r2, r3, r⟩ := oL' i v l hi
      exact ⟨own_of_block o (fun k hk => ho k (h.lt k (r3 k hk)) (h.own_ne o hk).2.1), r1, r2, r3, r⟩
    oW := fun i v l hi => by
      obtain ⟨o, r2, r3, r⟩ := h.oW i v l hi
      exact ⟨own_of_block o (fun k hk => ho k (h.lt k (r3 k hk)) (h.own_ne o hk).2.1), r2, r3, r⟩
    aL := aL'
    aX := aX'
    sL := sL' }

/-- The map of what waits is written. -/
theorem DiskAt.putW (h : DiskAt w F S db bl bw gL gW s) {gW' : Ghost} {W' : Int → Option (List UInt8)} (hg : w.grownBy w' (some bw)) (hm : MapAt w' bw (vals gW'))
    (oW' : ∀ i v l, gW' i = some (v, l) → Own w 0 v l ∧ l.length ≤ 1024 ∧ (∀ k, v.ownBlock = some k → F k) ∧ 0 ≤ i ∧ i < (s.size : Int))
    (aW' : Apart gW' gW' (· = ·)) (aX' : Apart gL gW' (fun i j => i = j ∧ S' j)) (sW' : ∀ i, W' i = (gW' i).map Prod.snd) : DiskAt w' F S' db bl bw gL gW' { s with W := W' } := by
  have ho : ∀ k, k < w.heap.size → k ≠ bw → w'.heap[k]? = w.heap[k]? := fun k hk hne => hg.block k hk (fun e => hne (by injection e))
  exact { h with
    str := (ho _ (h.lt _ h.fd) h.db_ne.2.symm).trans h.str
    mL := h.mL.block (ho _ (h.lt _ h.fl) h.ne)
    mW := hm
    lt := fun k hk => Nat.lt_of_lt_of_le (h.lt k hk) hg.size
    oL := fun i v l hi => by
      obtain ⟨o, r1, r2, r3, r⟩ := h.oL i v l hi
      exact ⟨own_of_block o (fun k hk => ho k (h.lt k (r3 k hk)) (h.own_ne o hk).2.2), r1, r2, r3, r⟩
    oW := fun i v l hi => by
      obtain ⟨o, r2, r3, r⟩ := oW' i v l hi
      exact ⟨own_of_block o (fun k hk => ho k (h.lt k (r3 k hk)) (h.own_ne o hk).2.2), r2, r3, r⟩
    aW := aW'
    aX := aX'
    sW := sW' }

theorem DiskAt.more (h : DiskAt w F S db bl bw gL gW s) (hF : ∀ k, F k → F' k) (hl : ∀ k, F' k → k < w.heap.size) : DiskAt w F' S db bl bw gL gW s :=
  { h with
    fd := hF _ h.fd
    fl := hF _ h.fl
    fw := hF _ h.fw
    lt := hl
    oL := fun i v l hi => by
      obtain ⟨o, r1, r2, r3, r⟩ := h.oL i v l hi
      exact ⟨o, r1, r2, fun k hk => hF k (r3 k hk), r⟩
    oW := fun i v l hi => by
      obtain ⟨o, r2, r3, r⟩ := h.oW i v l hi
      exact ⟨o, r2, fun k hk => hF k (r3 k hk), r⟩ }

theorem DiskAt.cell (h : DiskAt w F S db bl bw gL gW s) (j : Nat) {v : Value} (e : (diskCells s bl bw)[j]? = some v) : w.cell? ⟨db, j, none⟩ = some v := (cell_of_row w db j _ _ _ h.str).trans e
theorem DiskAt.free (h : DiskAt w F S db bl bw gL gW s) (j : Nat) : w.frozen? ⟨db, j, none⟩ = false := frozen_of_row w db j _ _ h.str

theorem DiskAt.ok (h : DiskAt w F S db bl bw gL gW s) : s.Ok where
  l i hi := by
    rw [h.sL] at hi
    cases hg : gL i with
    | none => rw [hg] at hi; exact absurd rfl hi
    | some p => obtain ⟨_, _, _, _, r⟩ := h.oL i p.1 p.2 hg; exact r
  w i hi := by
    rw [h.sW] at hi
    cases hg : gW i with
    | none => rw [hg] at hi; exact absurd rfl hi
    | some p => obtain ⟨_, _, _, r⟩ := h.oW i p.1 p.2 hg; exact r
  ll i := by
    rw [h.sL]
    cases hg : gL i with
    | none => simp
    | some p => obtain ⟨_, _, r, _⟩ := h.oL i p.1 p.2 hg; simpa using r
  wl i l hl := by
    rw [h.sW] at hl
    cases hg : gW i with
    | none => rw [hg] at hl; cases hl
    | some p =>
      obtain ⟨_, r, _⟩ := h.oW i p.1 p.2 hg
      rw [hg] at hl
      obtain rfl : p.2 = l := by simpa using hl
      exact r
end

/-- What a call leaves that answers v. -/
def Goes (w : World) (F : Nat → Prop) (db : Nat) (s' : PS) (v : Value) (e : Ending) (w' : World) : Prop :=
  e = .returned v ∧ ∃ F', Dk w' F' db s' ∧ (∀ k, F' k → F k ∨ w.heap.size ≤ k) ∧ Kept F w w'

end Go.Proofs.YtnmiccagkfpkiaaGreat

/-
  What the disk's own functions come to: has, held, mayAct, settle.
-/
namespace Go.Proofs.YtnmiccagkfpkiaaGreat
open Go.RowKit Go.Maps

set_option maxRecDepth 20000 in
theorem has_any (w : World) (db : Nat) (s : PS) (n : Int) (c0 : w.cell? ⟨db, 0, none⟩ = some (.int .i64 s.size)) :
    Calls Tryz.prog 49 #[.pointer (some ⟨db, 0, none⟩), .int .i64 n] w fun e w' => e = .returned (.bool (s.has n)) ∧ w = w' := by
  by_cases h0 : 0 ≤ n
  · go_enter Tryz.func49, Tryz.ntmps49
    go_wp2_with fail
    go_ret
    refine ⟨ret_bool ?_, rfl⟩
    simp [PS.has, h0]
  · go_enter Tryz.func49, Tryz.ntmps49
    go_wp2_with fail
    go_ret
    refine ⟨ret_bool ?_, rfl⟩
    unfold PS.has
    rw [eq_comm, decide_eq_false_iff_not]
    omega

/-- What a sector holds, in the disk's own memory. -/
def heldV (gL gW : Ghost) (n : Int) : Value := ((vals gW n).getD ((vals gL n).getD (.slice none 0 0)))

section
variable {F : Nat → Prop} {S : Int → Prop} {db bl bw : Nat} {gL gW : Ghost} {s : PS}

set_option maxRecDepth 20000 in
theorem held_any (w : World) (n : Int) (h1 : -9223372036854775808 ≤ n) (h2 : n ≤ 9223372036854775807) (h : DiskAt w F S db bl bw gL gW s) :
    Calls Tryz.prog 60 #[.pointer (some ⟨db, 0, none⟩), .int .i64 n] w fun e w' => e = .returned (heldV gL gW n) ∧ w = w' := by
  have c1 := h.cell 1 (v := .map (some bl)) rfl
  have c2 := h.cell 2 (v := .map (some bw)) rfl
  have k1 := h.mL.look1 h1 h2
  have k2 := h.mW.look h1 h2
  unfold heldV
  cases hW : vals gW n with
  | none =>
    rw [hW] at k2
    simp only [Option.getD_none, Option.isSome_none] at k2
    clear h hW
    generalize (vals gL n).getD (.slice none 0 0) = v at *
    go_enter Tryz.func60, Tryz.ntmps60
    go_wp2_with fail
    go_ret
    exact ⟨rfl, rfl⟩
  | some v =>
    rw [hW] at k2
    simp only [Option.getD_some, Option.isSome_some] at k2
    clear h hW k1
    go_enter Tryz.func60, Tryz.ntmps60
    go_wp2_with fail
    go_ret
    exact ⟨rfl, rfl⟩

/-- What it holds, told. -/
theorem DiskAt.held_own {w : World} (h : DiskAt w F S db bl bw gL gW s) (n : Int) : Own w 0 (heldV gL gW n) (s.held n) ∧ (∀ k, (heldV gL gW n).ownBlock = some k → F k) := by
  unfold heldV PS.held vals
  rw [h.sW, h.sL]
  cases hW : gW n with
  | some p =>
    obtain ⟨o, _, r, _⟩ := h.oW n p.1 p.2 hW
    exact ⟨o, r⟩
  | none =>
    cases hL : gL n with
    | some p =>
      obtain ⟨o, _, _, r, _⟩ := h.oL n p.1 p.2 hL
      exact ⟨o, r⟩
    | none => exact ⟨own_nil _ _, fun k hk => by cases hk⟩

theorem PS.held_le {s : PS} (h : s.Ok) (n : Int) : (s.held n).length ≤ 1024 := by
  unfold PS.held
  cases hW : s.W n with
  | some l => exact h.wl n l hW
  | none => exact h.ll n

set_option maxRecDepth 20000 in
theorem act_any (w : World) (h : DiskAt w F S db bl bw gL gW s) :
    Calls Tryz.prog 50 #[.pointer (some ⟨db, 0, none⟩)] w fun e w' => e = .returned (.bool s.may) ∧ DiskAt w' F S db bl bw gL gW s.acted ∧ Kept F w w' := by
  have c4 := h.cell 4 (v := .bool s.fused) rfl
  have c5 := h.cell 5 (v := .int .i64 s.fuse) rfl
  have c3 := h.cell 3 (v := .bool s.down) rfl
  have f3 := h.free 3
  have f5 := h.free 5
  have HD := Lib.hid h
  have hfu := h.fu
  clear h
  by_cases hf : s.fused = true
  · rw [hf] at c4
    by_cases h0 : s.fuse = 0
    · rw [h0] at c5
      have HF := Lib.hid hf
      have H0 := Lib.hid h0
      clear hf h0 hfu
      go_enter Tryz.func50, Tryz.ntmps50
      go_wp2_with fail
      go_ret
      have h := HD.out
      refine ⟨ret_bool ?_, ?_, Kept.setCell _ h.fd _⟩
      · simp [PS.may, HF.out, H0.out]
      · have := h.field (w' := w.setCell ⟨db, 3, none⟩ (.bool true)) (d := true) (f := s.fused) (n := s.fuse) h.fu (by rw [Joins.block_setCell h.str]; rfl) (fun k hk => Below.heap_setCell _ _ _ _ hk) (by simp [World.setCell])
        unfold PS.acted
        rw [if_pos HF.out, if_pos H0.out]
        exact this
    · have hb : ((s.fuse : Int) == 0) = false := by rw [beq_eq_false_iff_ne]; omega
      have HF := Lib.hid hf
      clear hf
      go_enter Tryz.func50, Tryz.ntmps50
      go_wp2_with fail
      go_ret
      have h := HD.out
      refine ⟨ret_bool ?_, ?_, Kept.setCell _ h.fd _⟩
      · simp [PS.may, h0]
      · have := h.field (w' := w.setCell ⟨db, 5, none⟩ (.int .i64 ((s.fuse - 1 : Nat) : Int))) (d := s.down) (f := s.fused) (n := s.fuse - 1) (by omega) (by rw [Joins.block_setCell h.str]; rfl) (fun k hk => Below.heap_setCell _ _ _ _ hk) (by simp [World.setCell])
        unfold PS.acted
        rw [if_pos HF.out, if_neg h0]
        rw [show ((s.fuse - 1 : Nat) : Int) = (s.fuse : Int) - 1 by omega] at this
        exact this
  · have hf' : s.fused = false := by simpa using hf
    rw [hf'] at c4
    have HF := Lib.hid hf'
    clear hf hf'
    go_enter Tryz.func50, Tryz.ntmps50
    go_wp2_with fail
    go_ret
    refine ⟨ret_bool ?_, ?_, Kept.refl _ _⟩
    · simp [PS.may, HF.out]
    · unfold PS.acted
      rw [if_neg (by rw [HF.out]; decide)]
      exact HD.out
end
end Go.Proofs.YtnmiccagkfpkiaaGreat

/-
  What disk's settle comes to; the writes of maps at their operations.
-/
namespace Go.Proofs.YtnmiccagkfpkiaaGreat
open Go.RowKit Go.Maps

section
variable (w : World) {ops : Array Oper} {rest : List Oper} {o : Oper} {a : Act} {Q : Exit → Act → World → Prop}

set_option maxRecDepth 20000 in
theorem wpList_delete_at (hg : o.guard = none) (m x : Operand) (hop : o.op = Op.call { callee := Callee.builtin Builtin.delete, args := #[m, x], argTypes := #[52, 3] })
    (b : Nat) (f : Int → Option Value) (hm : a.eval m = .map (some b)) (h : MapAt w b f) (i : Int) (hx : a.eval x = .int .i64 i) (h1 : -9223372036854775808 ≤ i) (h2 : i ≤ 9223372036854775807)
    (hK : ∀ w', MapAt w' b (upd f i none) → w.grownBy w' (some b) → wpList Tryz.prog ops Q rest (a.put o.dst (.tuple #[])) w') :
    wpList Tryz.prog ops Q (o :: rest) a w := by
  refine wpList_plain hg fun K' hK' => ?_
  obtain ⟨w', hrun, r1, r2⟩ := h.del h1 h2 o.type
  unfold Oper.wp
  simp [execOp, hop, resolve, invoke, builtin, hm, hx, hrun, Result.andThen]
  exact hK' _ _ (hK w' r1 r2)

set_option maxRecDepth 20000 in
theorem wpList_clear_at (hg : o.guard = none) (m : Operand) (hop : o.op = Op.call { callee := Callee.builtin Builtin.clear, args := #[m], argTypes := #[52] })
    (b : Nat) (f : Int → Option Value) (hm : a.eval m = .map (some b)) (h : MapAt w b f)
    (hK : ∀ w', MapAt w' b (fun _ => none) → w.grownBy w' (some b) → wpList Tryz.prog ops Q rest (a.put o.dst (.tuple #[])) w') :
    wpList Tryz.prog ops Q (o :: rest) a w := by
  refine wpList_plain hg fun K' hK' => ?_
  obtain ⟨w', hrun, r1, r2⟩ := h.clear o.type
  unfold Oper.wp
  simp [execOp, hop, resolve, invoke, builtin, hm, hrun, Result.andThen]
  exact hK' _ _ (hK w' r1 r2)

set_option maxRecDepth 20000 in
theorem wpList_put_at (hg : o.guard = none) (m x v : Operand) (hop : o.op = Op.mapUpdate 52 m x v)
    (b : Nat) (f : Int → Option Value) (hm : a.eval m = .map (some b)) (h : MapAt w b f) (i : Int) (u : Value) (hx : a.eval x = .int .i64 i) (hv : a.eval v = u) (h1 : 0 ≤ i) (h2 : i < 4096)
    (hK : ∀ w', MapAt w' b (upd f i (some u)) → w.grownBy w' (some b) → wpList Tryz.prog ops Q rest (a.put o.dst undef) w') :
    wpList Tryz.prog ops Q (o :: rest) a w := by
  refine wpList_plain hg fun K' hK' => ?_
  obtain ⟨w', hrun, r1, r2⟩ := h.put h1 h2 u
  unfold Oper.wp
  simp [execOp, hop, hm, hx, hv, hrun, Result.andThen]
  exact hK' _ _ (hK w' r1 r2)
end

def updG (g : Ghost) (i : Int) (p : Option (Value × List UInt8)) : Ghost := fun j => if j = i then p else g j

theorem vals_updG (g : Ghost) (i : Int) (p : Option (Value × List UInt8)) : vals (updG g i p) = upd (vals g) i (p.map Prod.fst) := by
  funext j
  unfold vals updG upd
  by_cases h : j = i <;> simp [h]

theorem updG_some {g : Ghost} {i j : Int} {p : Option (Value × List UInt8)} {q : Value × List UInt8} (h : updG g i p j = some q) : (j = i ∧ p = some q) ∨ (j ≠ i ∧ g j = some q) := by
  unfold updG at h
  by_cases e : j = i
  · rw [if_pos e] at h
    exact Or.inl ⟨e, h⟩
  · rw [if_neg e] at h
    exact Or.inr ⟨e, h⟩

section
variable {F : Nat → Prop} {S : Int → Prop} {db bl bw : Nat} {gL gW : Ghost} {s : PS}

theorem DiskAt.settle_none {w : World} {n : Int} (h : DiskAt w F S db bl bw gL gW s) (hn : gW n = none) : DiskAt w F (fun j => S j ∨ j = n) db bl bw gL gW (s.settled n) :=
  { h with
    aX := fun i j v l u m k h1 h2 h3 h4 => by
      obtain ⟨e1, e2⟩ := h.aX i j v l u m k h1 h2 h3 h4
      exact ⟨e1, Or.inl e2⟩
    sL := fun i => by
      show (if i = n then s.held n else s.L i) = _
      rw [← h.sL]
      by_cases e : i = n
      · rw [if_pos e, e]
        unfold PS.held
        rw [h.sW, hn]
        rfl
      · rw [if_neg e] }

theorem DiskAt.settle_empty {w w' : World} {n : Int} {v : Value} (h : DiskAt w F S db bl bw gL gW s) (hn : gW n = some (v, [])) (hm : MapAt w' bl (upd (vals gL) n none)) (hg : w.grownBy w' (some bl)) :
    DiskAt w' F (fun j => S j ∨ j = n) db bl bw (updG gL n none) gW (s.settled n) := by
  refine h.putL hg (by rw [vals_updG]; exact hm) ?_ ?_ ?_ ?_
  · intro i v l hi
    rcases updG_some hi with ⟨_, e⟩ | ⟨_, e⟩
    · cases e
    · exact h.oL i v l e
  · intro i j v l u m k h1 h2 h3 h4
    rcases updG_some h1 with ⟨_, e⟩ | ⟨_, e1⟩
    · cases e
    · rcases updG_some h2 with ⟨_, e⟩ | ⟨_, e2⟩
      · cases e
      · exact h.aL i j v l u m k e1 e2 h3 h4
  · intro i j v l u m k h1 h2 h3 h4
    rcases updG_some h1 with ⟨_, e⟩ | ⟨_, e1⟩
    · cases e
    · obtain ⟨e3, e4⟩ := h.aX i j v l u m k e1 h2 h3 h4
      exact ⟨e3, Or.inl e4⟩
  · intro i
    unfold updG
    by_cases e : i = n
    · rw [if_pos e, if_pos e]
      unfold PS.held
      rw [h.sW, hn]
      rfl
    · rw [if_neg e, if_neg e, h.sL]

theorem DiskAt.settle_some {w w' : World} {n : Int} {v : Value} {l : List UInt8} (h : DiskAt w F S db bl bw gL gW s) (hn : gW n = some (v, l)) (hl : l ≠ []) (hm : MapAt w' bl (upd (vals gL) n (some v))) (hg : w.grownBy w' (some bl)) :
    DiskAt w' F (fun j => S j ∨ j = n) db bl bw (updG gL n (some (v, l))) gW (s.settled n) := by
  refine h.putL hg (by rw [vals_updG]; exact hm) ?_ ?_ ?_ ?_
  · intro i u m hi
    rcases updG_some hi with ⟨rfl, e⟩ | ⟨_, e⟩
    · injection e with e
      injection e with e1 e2
      subst e1
      subst e2
      obtain ⟨r1, r2, r3, r4⟩ := h.oW i v l hn
      exact ⟨r1, hl, r2, r3, r4⟩
    · exact h.oL i u m e
  · intro i j v1 l1 u m k h1 h2 h3 h4
    rcases updG_some h1 with ⟨e0, e⟩ | ⟨n1, e1⟩
    · rcases updG_some h2 with ⟨e0', _⟩ | ⟨n2, e2⟩
      · exact e0.trans e0'.symm
      · injection e with e
        injection e with e3 e4
        subst e3
        exact absurd (h.aX j n u m v l k e2 hn h4 h3).1 n2
    · rcases updG_some h2 with ⟨e0', e⟩ | ⟨_, e2⟩
      · injection e with e
        injection e with e3 e4
        subst e3
        exact absurd (h.aX i n v1 l1 v l k e1 hn h3 h4).1 n1
      · exact h.aL i j v1 l1 u m k e1 e2 h3 h4
  · intro i j v1 l1 u m k h1 h2 h3 h4
    rcases updG_some h1 with ⟨e0, e⟩ | ⟨n1, e1⟩
    · injection e with e
      injection e with e3 e4
      subst e3
      have := h.aW n j v l u m k hn h2 h3 h4
      exact ⟨e0.trans this, Or.inr this.symm⟩
    · obtain ⟨e3, e4⟩ := h.aX i j v1 l1 u m k e1 h2 h3 h4
      exact ⟨e3, Or.inl e4⟩
  · intro i
    unfold updG
    by_cases e : i = n
    · rw [if_pos e, if_pos e]
      unfold PS.held
      rw [h.sW, hn]
      rfl
    · rw [if_neg e, if_neg e, h.sL]

def Settles (w : World) (F : Nat → Prop) (S : Int → Prop) (db bl bw : Nat) (gW : Ghost) (s : PS) (n : Int) (e : Ending) (w' : World) : Prop :=
  e = .returned (.tuple #[]) ∧ ∃ gL', DiskAt w' F (fun j => S j ∨ j = n) db bl bw gL' gW (s.settled n) ∧ (∃ row, w.grownBy w' row ∧ ∀ b, row = some b → b = bl)

set_option maxRecDepth 20000 in
set_option maxHeartbeats 400000 in
theorem settle_any (w : World) (n : Int) (h1 : -9223372036854775808 ≤ n) (h2 : n ≤ 9223372036854775807) (h : DiskAt w F S db bl bw gL gW s) :
    Calls Tryz.prog 52 #[.pointer (some ⟨db, 0, none⟩), .int .i64 n] w (Settles w F S db bl bw gW s n) := by
  have c1 := h.cell 1 (v := .map (some bl)) rfl
  have c2 := h.cell 2 (v := .map (some bw)) rfl
  have k2 := h.mW.look h1 h2
  have HD := Lib.hid h
  cases hW : gW n with
  | none =>
    rw [show vals gW n = none by unfold vals; rw [hW]; rfl] at k2
    simp only [Option.getD_none, Option.isSome_none] at k2
    have HW := Lib.hid hW
    clear h hW
    go_enter Tryz.func52, Tryz.ntmps52
    go_wp2_with fail
    go_end0
    exact ⟨rfl, gL, HD.out.settle_none HW.out, none, World.grownBy.refl _ _, fun b hb => by cases hb⟩
  | some p =>
    obtain ⟨v, l⟩ := p
    obtain ⟨o, r2, r3, r4, r5⟩ := h.oW n v l hW
    obtain ⟨A, c, rfl, hc, hz⟩ := own_slice o
    rw [show vals gW n = some (.slice A l.length c) by unfold vals; rw [hW]; rfl] at k2
    simp only [Option.getD_some, Option.isSome_some] at k2
    have HW := Lib.hid hW
    have HM := Lib.hid h.mL
    have hs4 := h.s4
    clear hW o r3 hz
    by_cases hl : l = []
    · subst hl
      clear h hs4
      go_enter Tryz.func52, Tryz.ntmps52
      go_wp2_with (at_delete; refine wpList_delete_at _ rfl _ _ rfl bl _ rfl HM.out n rfl h1 h2 ?_; intro w1 hm1 hg1)
      go_end0
      exact ⟨rfl, _, HD.out.settle_empty HW.out hm1 hg1, some bl, hg1, fun _ hb => (Option.some.inj hb).symm⟩
    · have hl0 : ((l.length : Int) == 0) = false := by
        rw [beq_eq_false_iff_ne]
        intro e
        exact hl (List.eq_nil_of_length_eq_zero (by omega))
      have HL := Lib.hid hl
      clear h hl
      go_enter Tryz.func52, Tryz.ntmps52
      go_wp2_with (at_mapUpdate; refine wpList_put_at _ rfl _ _ _ rfl bl _ rfl HM.out n _ rfl rfl (by omega) (by omega) ?_; intro w1 hm1 hg1)
      go_end0
      exact ⟨rfl, _, HD.out.settle_some HW.out HL.out hm1 hg1, some bl, hg1, fun _ hb => (Option.some.inj hb).symm⟩
end
end Go.Proofs.YtnmiccagkfpkiaaGreat

/-
  What the disk's calls come to: New, Size, Read.
-/
namespace Go.Proofs.YtnmiccagkfpkiaaGreat
open Go.RowKit Go.Maps

/-- Bytes that lie outside of F. -/
def Out (w : World) (F : Nat → Prop) (A : Option Addr) (l : List UInt8) : Prop :=
  l = [] ∨ ∃ b off, A = some ⟨b, off, none⟩ ∧ ¬ F b ∧ ∀ i z, l[i]? = some z → w.cell? ⟨b, off + i, none⟩ = some (.int .u8 z.toNat)

section
variable {w w' : World} {F F' : Nat → Prop} {A : Option Addr} {l : List UInt8}

theorem Out.bys (h : Out w F A l) : Bys w w.heap.size A l := by
  rcases l with _ | ⟨y, l⟩
  · exact Or.inl rfl
  · rcases h with h | ⟨b, off, e, _, hc⟩
    · cases h
    · exact Or.inr ⟨b, off, e, World.block_lt_of_cell? _ _ (hc 0 y rfl), hc⟩

theorem Out.kept (h : Out w F A l) (hk : Kept F w w') : Out w' F A l := by
  rcases h with h | ⟨b, off, e, hF, hc⟩
  · exact Or.inl h
  · refine Or.inr ⟨b, off, e, hF, fun i z hz => ?_⟩
    have h0 := hc i z hz
    have hb := World.block_lt_of_cell? _ _ h0
    exact (World.cell?_of_block (w := w) (hk.block b hb hF)).trans h0

theorem Out.of_bys {R : Nat} (h : Bys w R A l) (hF : ∀ k, F k → R ≤ k) : Out w F A l := by
  rcases h with h | ⟨b, off, e, hR, hc⟩
  · exact Or.inl h
  · exact Or.inr ⟨b, off, e, fun hb => by have := hF b hb; omega, hc⟩

theorem Out.fewer (h : Out w F A l) (hF : ∀ k, F' k → F k ∨ w.heap.size ≤ k) : Out w F' A l := by
  rcases l with _ | ⟨y, l⟩
  · exact Or.inl rfl
  · rcases h with h | ⟨b, off, e, hb, hc⟩
    · cases h
    · refine Or.inr ⟨b, off, e, fun h' => ?_, hc⟩
      rcases hF b h' with h' | h'
      · exact hb h'
      · have : b < w.heap.size := World.block_lt_of_cell? _ _ (hc 0 y rfl)
        omega
end

/-- A new disk. -/
def Made (w : World) (n : Nat) (e : Ending) (w' : World) : Prop :=
  ∃ db F, e = .returned (.tuple #[.pointer (some ⟨db, 0, none⟩), .int .i64 0]) ∧ Dk w' F db (PS.new n) ∧ (∀ k, F k → w.heap.size ≤ k) ∧ Below w.heap.size w w'

set_option maxRecDepth 20000 in
theorem made_at (w : World) (n : Nat) (h2 : 2 ≤ n) (h4 : n ≤ 4096) :
    Dk (((w.alloc (.map #[] 0)).alloc (.map #[] 0)).alloc (.cells #[.int .i64 n, .map (some w.heap.size), .map (some (w.heap.size + 1)), .bool false, .bool false, .int .i64 0] 54)) (fun k => w.heap.size ≤ k ∧ k < w.heap.size + 3) (w.heap.size + 2) (PS.new n) := by
  refine ⟨w.heap.size, w.heap.size + 1, fun _ => none, fun _ => none, ?_⟩
  have m0 := mapAt_made w
  have m1 := mapAt_made (w.alloc (.map #[] 0))
  rw [show (w.alloc (.map #[] 0)).heap.size = w.heap.size + 1 by simp] at m1
  have e0 : ∀ o, ((w.alloc (.map #[] 0)).alloc o).heap[w.heap.size]? = (w.alloc (.map #[] 0)).heap[w.heap.size]? := fun o => Below.heap_alloc _ _ _ (by simp)
  have e1 : ∀ (w : World) o k, k < w.heap.size → (w.alloc o).heap[k]? = w.heap[k]? := fun w o k hk => Below.heap_alloc _ _ _ hk
  exact
    { str := by
        have := heap_alloc_new ((w.alloc (.map #[] 0)).alloc (.map #[] 0)) (.cells #[.int .i64 n, .map (some w.heap.size), .map (some (w.heap.size + 1)), .bool false, .bool false, .int .i64 0] 54)
        rw [show ((w.alloc (.map #[] 0)).alloc (.map #[] 0)).heap.size = w.heap.size + 2 by simp] at this
        exact this
      mL := (m0.block (e0 _)).block (e1 _ _ _ (by simp; omega))
      mW := m1.block (e1 _ _ _ (by simp))
      ne := by omega
      fd := by omega
      fl := by omega
      fw := by omega
      lt := fun k hk => by simp; omega
      oL := fun i v l hi => by cases hi
      oW := fun i v l hi => by cases hi
      aL := fun i j v l u m k hi => by cases hi
      aW := fun i j v l u m k hi => by cases hi
      aX := fun i j v l u m k hi => by cases hi
      sL := fun i => rfl
      sW := fun i => rfl
      s2 := h2
      s4 := h4
      fu := by show 0 ≤ _; omega }

set_option maxRecDepth 20000 in
theorem new_good (w : World) (n : Nat) (h2 : 2 ≤ n) (h4 : n ≤ 4096) : Calls Tryz.prog 5 #[.int .i64 n] w (Made w n) := by
  have HM := Lib.hid (made_at w n h2 h4)
  have hmm := @run_makeMap Tryz.prog
  go_enter Tryz.func5, Tryz.ntmps5
  go_wp2_with fail
  go_ret2
  exact ⟨w.heap.size + 2, _, rfl, HM.out, fun k hk => hk.1, (((Below.refl _ _).alloc (Nat.le_refl _) _).alloc (by simp) _).alloc (by simp; omega) _⟩

set_option maxRecDepth 20000 in
theorem new_bad (w : World) (n : Int) (h : n < 2 ∨ 4096 < n) : Calls Tryz.prog 5 #[.int .i64 n] w fun e w' => e = .returned (.tuple #[.pointer none, .int .i64 1]) ∧ w = w' := by
  by_cases h0 : n < 2
  · go_enter Tryz.func5, Tryz.ntmps5
    go_wp2_with fail
    go_ret2
    exact ⟨rfl, rfl⟩
  · have h1 : 4096 < n := by omega
    clear h
    go_enter Tryz.func5, Tryz.ntmps5
    go_wp2_with fail
    go_ret2
    exact ⟨rfl, rfl⟩

section
variable {F : Nat → Prop} {db : Nat} {s : PS}

/-- What Read answers. -/
def ReadEnd (w : World) (l : List UInt8) (err : Int) (e : Ending) (w' : World) : Prop :=
  ∃ A c, e = .returned (.tuple #[.slice A l.length c, .int .i64 err]) ∧ Own w' w.heap.size (.slice A l.length c) l ∧ Below w.heap.size w w'

set_option maxRecDepth 20000 in
theorem read_any (w : World) (n : Int) (h1 : -9223372036854775808 ≤ n) (h2 : n ≤ 9223372036854775807) (h : Dk w F db s) :
    Calls Tryz.prog 25 #[.pointer (some ⟨db, 0, none⟩), .int .i64 n] w (ReadEnd w (s.readB n) (s.readE n)) := by
  obtain ⟨bl, bw, gL, gW, h⟩ := h
  have c0 := h.cell 0 (v := .int .i64 s.size) rfl
  have c3 := h.cell 3 (v := .bool s.down) rfl
  have HD := Lib.hid h
  by_cases hd : s.down = true
  · rw [hd] at c3
    have eB : s.readB n = [] := by unfold PS.readB; rw [if_pos hd]
    have eE : s.readE n = 40 := by unfold PS.readE; rw [if_pos hd]
    rw [eB, eE]
    clear h eB eE hd c0
    go_enter Tryz.func25, Tryz.ntmps25
    go_wp2_with fail
    go_ret2
    exact ⟨none, 0, rfl, own_nil _ _, Below.refl _ _⟩
  · have hd' : s.down = false := by simpa using hd
    rw [hd'] at c3
    by_cases hh : s.has n = true
    · have eB : s.readB n = s.held n := by unfold PS.readB; rw [if_neg hd, if_pos hh]
      have eE : s.readE n = 0 := by unfold PS.readE; rw [if_neg hd, if_pos hh]
      rw [eB, eE]
      have HC : Hid (Calls Tryz.prog 49 #[.pointer (some ⟨db, 0, none⟩), .int .i64 n] w fun e w' => e = .returned (.bool true) ∧ w = w') := hh ▸ has_any w db s n c0
      have hl := PS.held_le h.ok n
      clear h eB eE hd hd' hh
      go_enter Tryz.func25, Tryz.ntmps25
      go_wp2_with fail
      refine HC.out.mono ?_
      rintro e w' ⟨rfl, rfl⟩
      go_wp2_with fail
      refine (held_any w n h1 h2 HD.out).mono ?_
      rintro e w' ⟨rfl, rfl⟩
      have ho := (HD.out.held_own n).1
      generalize heldV gL gW n = v at *
      obtain ⟨A, c, rfl, hc, hz⟩ := own_slice ho
      go_wp2_with fail
      refine (clone_all A _ c _ (s.held n) w (own_bys ho) rfl (by omega) hz).mono ?_
      rintro e w1 ⟨v1, rfl, o1, b1⟩
      obtain ⟨A1, cc, rfl, _, _⟩ := own_slice o1
      clear ho hz hc
      go_wp2_with fail
      go_ret2
      exact ⟨A1, cc, rfl, o1, b1⟩
    · have hh' : s.has n = false := by simpa using hh
      have eB : s.readB n = [] := by unfold PS.readB; rw [if_neg hd, if_neg hh]
      have eE : s.readE n = 41 := by unfold PS.readE; rw [if_neg hd, if_neg hh]
      rw [eB, eE]
      have HC : Hid (Calls Tryz.prog 49 #[.pointer (some ⟨db, 0, none⟩), .int .i64 n] w fun e w' => e = .returned (.bool false) ∧ w = w') := hh' ▸ has_any w db s n c0
      clear h eB eE hd hd' hh hh'
      go_enter Tryz.func25, Tryz.ntmps25
      go_wp2_with fail
      refine HC.out.mono ?_
      rintro e w' ⟨rfl, rfl⟩
      go_wp2_with fail
      go_ret2
      exact ⟨none, 0, rfl, own_nil _ _, Below.refl _ _⟩
end
end Go.Proofs.YtnmiccagkfpkiaaGreat

/-
  What the disk's Write comes to.
-/
namespace Go.Proofs.YtnmiccagkfpkiaaGreat
open Go.RowKit Go.Maps

section
variable {F : Nat → Prop} {db bl bw : Nat} {gL gW : Ghost} {s : PS}

/-- Behind a write. -/
theorem DiskAt.laid {w w2 w3 : World} {n : Int} {v : Value} {l : List UInt8} (h : DiskAt w F (fun _ => False) db bl bw gL gW s) (hn : 0 ≤ n ∧ n < (s.size : Int)) (hl : l.length ≤ 1024)
    (hb : Below w.heap.size w w2) (ho : Own w2 w.heap.size v l) (hm : MapAt w3 bw (upd (vals gW) n (some v))) (hg : w2.grownBy w3 (some bw)) :
    DiskAt w3 (fun k => F k ∨ (w.heap.size ≤ k ∧ k < w2.heap.size)) (fun _ => False) db bl bw gL (updG gW n (some (v, l))) (s.lay n l) := by
  have h2 : DiskAt w2 (fun k => F k ∨ (w.heap.size ≤ k ∧ k < w2.heap.size)) (fun _ => False) db bl bw gL gW s :=
    (h.same (fun k hk => hb.block k (h.lt k hk)) hb.size).more (fun k hk => Or.inl hk) (fun k hk => by
      rcases hk with hk | hk
      · exact Nat.lt_of_lt_of_le (h.lt k hk) hb.size
      · exact hk.2)
  refine h2.putW hg (by rw [vals_updG]; exact hm) ?_ ?_ ?_ ?_
  · intro i u m hi
    rcases updG_some hi with ⟨rfl, e⟩ | ⟨_, e⟩
    · injection e with e
      injection e with e1 e2
      subst e1
      subst e2
      exact ⟨own_base ho, hl, fun k hk => Or.inr (ho.lt k hk), hn⟩
    · exact h2.oW i u m e
  · intro i j v1 l1 u m k h1 h2 h3 h4
    rcases updG_some h1 with ⟨e0, e⟩ | ⟨n1, e1⟩
    · rcases updG_some h2 with ⟨e0', _⟩ | ⟨n2, e2⟩
      · exact e0.trans e0'.symm
      · injection e with e
        injection e with e3 e4
        subst e3
        have := h.lt k ((h.oW j u m e2).2.2.1 k h4)
        have := (ho.lt k h3).1
        omega
    · rcases updG_some h2 with ⟨e0', e⟩ | ⟨_, e2⟩
      · injection e with e
        injection e with e3 e4
        subst e3
        have := h.lt k ((h.oW i v1 l1 e1).2.2.1 k h3)
        have := (ho.lt k h4).1
        omega
      · exact h.aW i j v1 l1 u m k e1 e2 h3 h4
  · intro i j v1 l1 u m k h1 h2 h3 h4
    rcases updG_some h2 with ⟨e0, e⟩ | ⟨n1, e1⟩
    · injection e with e
      injection e with e3 e4
      subst e3
      have := h.lt k ((h.oL i v1 l1 h1).2.2.2.1 k h3)
      have := (ho.lt k h4).1
      omega
    · exact h.aX i j v1 l1 u m k h1 e1 h3 h4
  · intro i
    unfold updG
    by_cases e : i = n
    · rw [if_pos e, if_pos e]
      rfl
    · rw [if_neg e, if_neg e]
      exact h.sW i

theorem undrew {w w' : World} (h : Below w.drew.heap.size w.drew w') : Below w.heap.size w w' := ⟨h.os, h.tape, h.output, h.size, h.block⟩

theorem PS.acted_has (s : PS) (n : Int) : s.acted.has n = s.has n := by
  unfold PS.acted PS.has
  split
  · split <;> rfl
  · rfl

theorem PS.acted_size (s : PS) : s.acted.size = s.size := by
  unfold PS.acted
  split
  · split <;> rfl
  · rfl

theorem PS.has_iff {s : PS} {n : Int} : s.has n = true ↔ 0 ≤ n ∧ n < (s.size : Int) := by unfold PS.has; exact decide_eq_true_iff

set_option maxRecDepth 20000 in
set_option maxHeartbeats 800000 in
theorem write_any (w : World) (n : Int) (h1 : -9223372036854775808 ≤ n) (h2 : n ≤ 9223372036854775807) (A : Option Addr) (m c : Nat) (l : List UInt8) (hl : l.length = m) (hx : Out w F A l) (hz : A = none → m = 0 ∧ c = 0) (h : Dk w F db s) :
    Calls Tryz.prog 19 #[.pointer (some ⟨db, 0, none⟩), .int .i64 n, .slice A m c] w (Goes w F db (s.written n l) (.int .i64 (s.writeE n l))) := by
  have h0 := h
  obtain ⟨bl, bw, gL, gW, h⟩ := h
  have c0 := h.cell 0 (v := .int .i64 s.size) rfl
  have c3 := h.cell 3 (v := .bool s.down) rfl
  have HD := Lib.hid h
  have HZ := Lib.hid hz
  have HX := Lib.hid hx
  have HL := Lib.hid hl
  have H0 := Lib.hid h0
  clear hz hx h0
  by_cases hd : s.down = true
  · rw [hd] at c3
    have eB : s.written n l = s := by unfold PS.written; rw [if_pos hd]
    have eE : s.writeE n l = 40 := by unfold PS.writeE; rw [if_pos hd]
    rw [eB, eE]
    clear h eB eE hd c0 hl
    go_enter Tryz.func19, Tryz.ntmps19
    go_wp2_with fail
    go_ret
    exact ⟨rfl, F, H0.out, fun k hk => Or.inl hk, Kept.refl _ _⟩
  · have hd' : s.down = false := by simpa using hd
    rw [hd'] at c3
    by_cases hb : s.bad n l = true
    · have eB : s.written n l = s := by unfold PS.written; rw [if_neg hd, if_pos hb]
      have eE : s.writeE n l = 41 := by unfold PS.writeE; rw [if_neg hd, if_pos hb]
      rw [eB, eE]
      unfold PS.bad at hb
      by_cases hh : s.has n = true
      · have HC : Hid (Calls Tryz.prog 49 #[.pointer (some ⟨db, 0, none⟩), .int .i64 n] w fun e w' => e = .returned (.bool true) ∧ w = w') := hh ▸ has_any w db s n c0
        have hm : 1024 < m := by rw [hh] at hb; simp at hb; omega
        clear h eB eE hd hd' hh hb hl
        go_enter Tryz.func19, Tryz.ntmps19
        go_wp2_with fail
        refine HC.out.mono ?_
        rintro e w' ⟨rfl, rfl⟩
        go_wp2_with fail
        go_ret
        exact ⟨rfl, F, H0.out, fun k hk => Or.inl hk, Kept.refl _ _⟩
      · have hh' : s.has n = false := by simpa using hh
        have HC : Hid (Calls Tryz.prog 49 #[.pointer (some ⟨db, 0, none⟩), .int .i64 n] w fun e w' => e = .returned (.bool false) ∧ w = w') := hh' ▸ has_any w db s n c0
        clear h eB eE hd hd' hh hh' hb hl
        go_enter Tryz.func19, Tryz.ntmps19
        go_wp2_with fail
        refine HC.out.mono ?_
        rintro e w' ⟨rfl, rfl⟩
        go_wp2_with fail
        go_ret
        exact ⟨rfl, F, H0.out, fun k hk => Or.inl hk, Kept.refl _ _⟩
    · have hb' := hb
      unfold PS.bad at hb'
      have hh : s.has n = true := by
        cases e : s.has n with
        | true => rfl
        | false => rw [e] at hb'; simp at hb'
      have hm : m ≤ 1024 := by rw [hh] at hb'; simp at hb'; omega
      have hn := PS.has_iff.1 hh
      have hs4 := h.s4
      have HC : Hid (Calls Tryz.prog 49 #[.pointer (some ⟨db, 0, none⟩), .int .i64 n] w fun e w' => e = .returned (.bool true) ∧ w = w') := hh ▸ has_any w db s n c0
      by_cases hmay : s.may = true
      · have eB : s.written n l = s.acted.lay n l := by unfold PS.written; rw [if_neg hd, if_neg hb, if_pos hmay]
        have eE : s.writeE n l = 0 := by unfold PS.writeE; rw [if_neg hd, if_neg hb, if_pos hmay]
        rw [eB, eE]
        have HA : Hid (Calls Tryz.prog 50 #[.pointer (some ⟨db, 0, none⟩)] w fun e w' => e = .returned (.bool true) ∧ DiskAt w' F (fun _ => False) db bl bw gL gW s.acted ∧ Kept F w w') := hmay ▸ act_any w h
        have HN : Hid (0 ≤ n ∧ n < (s.acted.size : Int)) := by rw [PS.acted_size]; exact hn
        clear h eB eE hd hd' hh hb hb' hmay
        go_enter Tryz.func19, Tryz.ntmps19
        go_wp2_with fail
        refine HC.out.mono ?_
        rintro e w' ⟨rfl, rfl⟩
        go_wp2_with fail
        refine HA.out.mono ?_
        rintro e w1 ⟨rfl, hd1, hk1⟩
        have c2 := hd1.cell 2 (v := .map (some bw)) rfl
        have HD1 := Lib.hid hd1
        have HK1 := Lib.hid hk1
        have HX1 := Lib.hid (HX.out.kept hk1).bys
        clear hd1 hk1 c0 c3 HC HA HX hl
        go_wp2_with fail
        have K0 : w1.drew.cell? ⟨db, 2, none⟩ = some (.map (some bw)) := c2
        go_region_held3 (fun w' => w'.cell? ⟨db, 2, none⟩ = some (.map (some bw)))
          (first | exact K2 | exact K1 | exact K0)
          (first
            | (go_at_call 51; refine (clone_all A m c _ l w1.drew HX1.out HL.out (by omega) HZ.out).mono ?_; rintro e w2 ⟨v, rfl, ho, hbl⟩; have K1 : w2.cell? ⟨db, 2, none⟩ = some (.map (some bw)) := (hbl.cell (World.block_lt_of_cell? _ _ K0)).trans K0; obtain ⟨w3, hrun, hm3, hg3⟩ := (HD1.out.mW.block (hbl.block _ (HD1.out.lt _ HD1.out.fw))).put (i := n) (by omega) (by omega) v; have K2 : w3.cell? ⟨db, 2, none⟩ = some (.map (some bw)) := (World.cell?_of_block (w := w2) (hg3.block db (World.block_lt_of_cell? _ _ K1) (fun e => HD1.out.db_ne.2 (Option.some.inj e).symm))).trans K1))
        go_wp2_with fail
        go_ret
        have hbu := undrew hbl
        have hou : Own w2 w1.heap.size v l := ho
        refine ⟨rfl, _, ⟨_, _, _, _, HD1.out.laid HN.out (by rw [HL.out]; omega) hbu hou hm3 hg3⟩, fun k hk => ?_, HK1.out.next ((Kept.below (w := w1) hbu F).next (Kept.grown hg3 HD1.out.fw))⟩
        rcases hk with hk | hk
        · exact Or.inl hk
        · exact Or.inr (Nat.le_trans HK1.out.size hk.1)
      · have hmay' : s.may = false := by simpa using hmay
        have eB : s.written n l = s.acted := by unfold PS.written; rw [if_neg hd, if_neg hb, if_neg hmay]
        have eE : s.writeE n l = 40 := by unfold PS.writeE; rw [if_neg hd, if_neg hb, if_neg hmay]
        rw [eB, eE]
        have HA : Hid (Calls Tryz.prog 50 #[.pointer (some ⟨db, 0, none⟩)] w fun e w' => e = .returned (.bool false) ∧ DiskAt w' F (fun _ => False) db bl bw gL gW s.acted ∧ Kept F w w') := hmay' ▸ act_any w h
        clear h eB eE hd hd' hh hb hb' hmay hmay' hl
        go_enter Tryz.func19, Tryz.ntmps19
        go_wp2_with fail
        refine HC.out.mono ?_
        rintro e w' ⟨rfl, rfl⟩
        go_wp2_with fail
        refine HA.out.mono ?_
        rintro e w1 ⟨rfl, hd1, hk1⟩
        go_wp2_with fail
        go_ret
        exact ⟨rfl, F, ⟨bl, bw, gL, gW, hd1⟩, fun k hk => Or.inl hk, hk1⟩
end
end Go.Proofs.YtnmiccagkfpkiaaGreat

/-
  What the disk's Flush comes to.
-/
namespace Go.Proofs.YtnmiccagkfpkiaaGreat
open Go.RowKit Go.Maps

section
variable {F : Nat → Prop} {db bl bw : Nat} {gL gW : Ghost} {s : PS}

/-- What a flush has made last so far: all but what is still to come. -/
def FlushL (s : PS) (left : Lit → Bool) : Int → List UInt8 := fun i => if left (.int .i64 i) then s.L i else s.held i

theorem flush_step {s : PS} {left : Lit → Bool} {x : Int} {l : List UInt8} (hx : s.W x = some l) :
    ({ s with L := FlushL s left }).settled x = { s with L := FlushL s (fun z => left z && !z.sameKey (.int .i64 x)) } := by
  unfold PS.settled
  congr 1
  funext j
  show (if j = x then ({ s with L := FlushL s left } : PS).held x else FlushL s left j) = FlushL s (fun z => left z && !z.sameKey (.int .i64 x)) j
  by_cases e : j = x
  · subst e
    rw [if_pos rfl]
    unfold FlushL PS.held
    simp [WideAt.sameKey_self (litKey j), hx]
  · rw [if_neg e]
    unfold FlushL
    simp [Maps.sameKey_ne (a := Lit.int .i64 j) (b := Lit.int .i64 x) (fun e' => e (by injection e'))]

theorem flush_start {w : World} {es : List (Lit × DataW Value)} (h : DiskAt w F (fun _ => False) db bl bw gL gW s) (hf : ∀ i v, vals gW i = some v ↔ (Lit.int .i64 i, DataW.held v) ∈ es) :
    { s with L := FlushL s (Maps.has (DataW.map es)) } = s := by
  have : FlushL s (Maps.has (DataW.map es)) = s.L := by
    funext i
    unfold FlushL
    cases hh : Maps.has (DataW.map es) (.int .i64 i) with
    | true => rfl
    | false =>
      have hn : gW i = none := by
        cases hg : gW i with
        | none => rfl
        | some p =>
          have : (Lit.int .i64 i, DataW.held p.1) ∈ es := (hf i p.1).1 (by unfold vals; rw [hg]; rfl)
          rw [has_mem (litKey i) this] at hh
          cases hh
      simp only [Bool.false_eq_true, if_false]
      unfold PS.held
      rw [h.sW, hn]
      rfl
  rw [this]

theorem flush_end {s : PS} {left : Lit → Bool} (hl : ∀ kl, left kl = false) : ({ ({ s with L := FlushL s left } : PS) with W := fun _ => none } : PS) = s.all := by
  have : FlushL s left = s.held := by
    funext i
    unfold FlushL
    rw [hl]
    rfl
  show ({ s with L := FlushL s left, W := fun _ => none } : PS) = _
  rw [this]
  rfl

/-- All that waits is cleared. -/
theorem DiskAt.cleared {w w' : World} {S : Int → Prop} (h : DiskAt w F S db bl bw gL gW s) (hm : MapAt w' bw (fun _ => none)) (hg : w.grownBy w' (some bw)) : DiskAt w' F (fun _ => False) db bl bw gL (fun _ => none) { s with W := fun _ => none } :=
  h.putW hg hm (fun i v l hi => by cases hi) (fun i j v l u m k hi => by cases hi) (fun i j v l u m k _ hi => by cases hi) (fun i => rfl)

/-- How a flush goes on. -/
def FlushRel (w : World) (F : Nat → Prop) (db bl bw : Nat) (gW : Ghost) (s : PS) (r n : Nat) (es : List (Lit × DataW Value)) (wr : World) : Prop :=
  ∃ left cnt gL' S, wr.ranges Tryz.prog 3 heldR bw r n (.map es) left cnt ∧ DiskAt wr F S db bl bw gL' gW { s with L := FlushL s left } ∧ Kept F w wr ∧ (∀ kl, left kl = true → ∃ i v, kl = .int .i64 i ∧ gW i = some v)

set_option maxRecDepth 20000 in
set_option maxHeartbeats 1600000 in
theorem flush_any (w : World) (h : Dk w F db s) :
    Calls Tryz.prog 20 #[.pointer (some ⟨db, 0, none⟩)] w (Goes w F db s.flushed (.int .i64 s.flushE)) := by
  have H0 := Lib.hid h
  obtain ⟨bl, bw, gL, gW, h⟩ := h
  have c3 := h.cell 3 (v := .bool s.down) rfl
  by_cases hd : s.down = true
  · rw [hd] at c3
    have eB : s.flushed = s := by unfold PS.flushed; rw [if_pos hd]
    have eE : s.flushE = 40 := by unfold PS.flushE; rw [if_pos hd]
    rw [eB, eE]
    clear h eB eE hd
    go_enter Tryz.func20, Tryz.ntmps20
    go_wp2_with fail
    go_ret
    exact ⟨rfl, F, H0.out, fun k hk => Or.inl hk, Kept.refl _ _⟩
  · have hd' : s.down = false := by simpa using hd
    rw [hd'] at c3
    by_cases hmay : s.may = true
    · have eB : s.flushed = s.acted.all := by unfold PS.flushed; rw [if_neg hd, if_pos hmay]
      have eE : s.flushE = 0 := by unfold PS.flushE; rw [if_neg hd, if_pos hmay]
      rw [eB, eE]
      have HA : Hid (Calls Tryz.prog 50 #[.pointer (some ⟨db, 0, none⟩)] w fun e w' => e = .returned (.bool true) ∧ DiskAt w' F (fun _ => False) db bl bw gL gW s.acted ∧ Kept F w w') := hmay ▸ act_any w h
      clear h eB eE hd hd' hmay H0
      generalize s.acted = s1 at *
      go_enter Tryz.func20, Tryz.ntmps20
      go_wp2_with fail
      refine HA.out.mono ?_
      rintro e w1 ⟨rfl, hd1, hk1⟩
      have c2 := hd1.cell 2 (v := .map (some bw)) rfl
      have HD1 := Lib.hid hd1
      have HK1 := Lib.hid hk1
      obtain ⟨n, es, ho, hk, hf⟩ := hd1.mW
      have HF := Lib.hid hf
      have HKY := Lib.hid hk
      have HO := Lib.hid ho
      clear hd1 hk1 c3 HA hk hf ho
      go_wp2_with (at_range; refine wpList_range_own _ rfl _ 52 rfl 3 34 keyLaw Tryz.underlying52 _ bw n _ rfl HO.out ?_; intro w0 hrg0 hg0 hs0)
      go_frame
      go_loopw [3] (fun _ wr => FlushRel w1 F db bl bw gW s1 w1.heap.size n es wr) (fun _ wr => wr.rangeLeft bw w1.heap.size)
      case atStart =>
        have hd0 := HD1.out.same (w' := w0) (fun k hk => hg0.block k (HD1.out.lt k hk) (by simp)) hg0.size
        refine ⟨_, _, gL, fun _ => False, hrg0, ?_, ⟨hg0.os, hg0.tape, hg0.output, hg0.size, fun k hk _ => hg0.block k hk (by simp)⟩, fun kl hkl => ?_⟩
        · rw [flush_start HD1.out HF.out]
          exact hd0
        · obtain ⟨d, hm⟩ := mem_has hkl
          obtain ⟨i, v, e, _⟩ := HKY.out _ hm
          injection e with e1 e2
          subst e1
          subst e2
          have := (HF.out i v).2 hm
          unfold vals at this
          obtain ⟨p, hp, _⟩ := Option.map_eq_some_iff.1 this
          exact ⟨i, p, rfl, hp⟩
      case round =>
        obtain ⟨left, cnt, gL', S, hrg, hd2, hk2, hlk0⟩ := hrel
        have c2r := hd2.cell 2 (v := .map (some bw)) rfl
        have HD2 := Lib.hid hd2
        have HK2 := Lib.hid hk2
        have HLK := Lib.hid hlk0
        clear hd2 hk2 hlk0 hrg0 hs0 hg0 c2
        go_wp2_with (at_next; refine wpList_next_ranges _ rfl _ rfl 3 keyLaw heldR encZ id (fun key kl hk => by obtain ⟨x, hx, _⟩ := Maps.keyOf_i64 Tryz.underlying3 hk; exact ⟨x, hx⟩) (fun v _ _ => ⟨v, rfl⟩) bw w1.heap.size n _ _ _ rfl hrg ?_ ?_)
        · intro hc0 hl0
          go_wp2_with (refine wpList_clear_at _ rfl (.tmp 32) rfl bw _ rfl HD2.out.mW ?_; intro w4 hm4 hg4)
          go_ret
          have hd4 := HD2.out.cleared hm4 hg4
          rw [flush_end hl0] at hd4
          exact ⟨rfl, F, hd4.rest, fun k hk => Or.inl hk, HK1.out.next (HK2.out.next (Kept.grown hg4 HD1.out.fw))⟩
        · intro x c kl yd yp w2 cnt2 hkey hlk hv hat hrg2 hlt hg2 hs2 hen
          obtain ⟨x', ex, rfl, _⟩ := Maps.keyOf_i64 Tryz.underlying3 hkey
          obtain rfl : x = x' := encZ_inj ex
          obtain ⟨i, p, ei, hp⟩ := HLK.out _ hlk
          obtain rfl : x = i := by injection ei
          have hd3 := HD2.out.same (w' := w2) (fun k hk => hg2.block k (HD2.out.lt k hk) (fun e => by have := HD1.out.lt k hk; injection e with e; omega)) hg2.size
          obtain ⟨_, _, _, hb1, hb2⟩ := hd3.oW x p.1 p.2 hp
          have hs4 : (s1.size : Int) ≤ 4096 := by have := HD1.out.s4; omega
          have hb3 : x < (s1.size : Int) := hb2
          have HD3 := Lib.hid hd3
          have HK3 : Hid (Kept F w1 w2) := HK2.out.trans (Kept.grown (F := (· = w1.heap.size)) hg2 rfl) (fun k e => Or.inr (by omega))
          clear hs2 hd3 hb2 hkey ei
          go_wp2_with fail
          refine (settle_any w2 x (by omega) (by omega) HD3.out).mono ?_
          rintro e w3 ⟨rfl, gL3, hd4, row, hg3, hrow⟩
          have hne1 : some bw ≠ row := fun e => HD1.out.ne (hrow _ e.symm).symm
          have hne2 : some w1.heap.size ≠ row := fun e => by have := hrow _ e.symm; have := HD1.out.lt _ HD1.out.fl; omega
          have hrg3 := hrg2.kept hg3 hne1 hne2
          have HD4 := Lib.hid hd4
          have HG3 := Lib.hid hg3
          have HRW := Lib.hid hrow
          clear hd4 hg3 hrow hne1 hne2
          go_wp2_with fail
          go_roundw
          case rel =>
            have hW : s1.W x = some p.2 := by
              have h5 := HD1.out.sW x
              rw [h5, hp]
              rfl
            have h6 := HD4.out
            rw [flush_step hW] at h6
            refine ⟨_, cnt2, gL3, _, hrg3, h6, ?_, ?_⟩
            · exact HK3.out.next ⟨HG3.out.os, HG3.out.tape, HG3.out.output, HG3.out.size, fun k hk hn => HG3.out.block k hk (fun e => hn (by rw [HRW.out k e.symm]; exact HD1.out.fl))⟩
            · intro kl hkl
              exact HLK.out kl (by simp only [Bool.and_eq_true] at hkl; exact hkl.1)
          case measure => rw [hrg3.left_eq, hrg.left_eq]; exact hlt
    · have hmay' : s.may = false := by simpa using hmay
      have eB : s.flushed = s.acted := by unfold PS.flushed; rw [if_neg hd, if_neg hmay]
      have eE : s.flushE = 40 := by unfold PS.flushE; rw [if_neg hd, if_neg hmay]
      rw [eB, eE]
      have HA : Hid (Calls Tryz.prog 50 #[.pointer (some ⟨db, 0, none⟩)] w fun e w' => e = .returned (.bool false) ∧ DiskAt w' F (fun _ => False) db bl bw gL gW s.acted ∧ Kept F w w') := hmay' ▸ act_any w h
      clear h eB eE hd hd' hmay hmay' H0
      go_enter Tryz.func20, Tryz.ntmps20
      go_wp2_with fail
      refine HA.out.mono ?_
      rintro e w1 ⟨rfl, hd1, hk1⟩
      go_wp2_with fail
      go_ret
      exact ⟨rfl, F, ⟨bl, bw, gL, gW, hd1⟩, fun k hk => Or.inl hk, hk1⟩
end
end Go.Proofs.YtnmiccagkfpkiaaGreat

/-
  Numbers in memory, outside of a disk.
-/
namespace Go.Proofs.YtnmiccagkfpkiaaGreat
open Go.RowKit

/-- Numbers that lie outside of F. -/
def OutN (w : World) (F : Nat → Prop) (A : Option Addr) (l : List Int) : Prop :=
  l = [] ∨ ∃ b off, A = some ⟨b, off, none⟩ ∧ ¬ F b ∧ ∀ i z, l[i]? = some z → w.cell? ⟨b, off + i, none⟩ = some (.int .i64 z) ∧ -9223372036854775808 ≤ z ∧ z ≤ 9223372036854775807

section
variable {w w' : World} {F F' : Nat → Prop} {A : Option Addr} {l : List Int}

theorem OutN.kept (h : OutN w F A l) (hk : Kept F w w') : OutN w' F A l := by
  rcases h with h | ⟨b, off, e, hF, hc⟩
  · exact Or.inl h
  · refine Or.inr ⟨b, off, e, hF, fun i z hz => ?_⟩
    obtain ⟨h0, h1⟩ := hc i z hz
    have hb := World.block_lt_of_cell? _ _ h0
    exact ⟨(World.cell?_of_block (w := w) (hk.block b hb hF)).trans h0, h1⟩

theorem OutN.fewer (h : OutN w F A l) (hF : ∀ k, F' k → F k ∨ w.heap.size ≤ k) : OutN w F' A l := by
  rcases l with _ | ⟨y, l⟩
  · exact Or.inl rfl
  · rcases h with h | ⟨b, off, e, hb, hc⟩
    · cases h
    · refine Or.inr ⟨b, off, e, fun h' => ?_, hc⟩
      rcases hF b h' with h' | h'
      · exact hb h'
      · have : b < w.heap.size := World.block_lt_of_cell? _ _ (hc 0 y rfl).1
        omega

theorem OutN.at_ (h : OutN w F A l) {k : Nat} (hk : k < l.length) :
    ∃ b off z, A = some ⟨b, off, none⟩ ∧ l[k]? = some z ∧ w.cell? ⟨b, off + k, none⟩ = some (.int .i64 z) ∧ -9223372036854775808 ≤ z ∧ z ≤ 9223372036854775807 := by
  rcases h with rfl | ⟨b, off, rfl, hb, hc⟩
  · exact absurd hk (by simp)
  · obtain ⟨h1, h2⟩ := hc k _ (List.getElem?_eq_getElem hk)
    exact ⟨b, off, l[k], rfl, List.getElem?_eq_getElem hk, h1, h2⟩
end
end Go.Proofs.YtnmiccagkfpkiaaGreat
