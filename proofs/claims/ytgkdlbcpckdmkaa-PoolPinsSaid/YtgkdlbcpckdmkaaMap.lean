/-
  Maps whose keys are numbers, told entry by entry: what the operations on such a map come to.
-/
import Derived.Test.YtgkdlbcpckdmkaaBase
import Derived.Maps.OwnSet
import Derived.Maps.RangeWalk
import Derived.Lib.SlKeysI
namespace Go.Proofs.Ytgkdlbcpckdmkaa
open Go.RowKit Go.Maps

/-- An element is told as itself. -/
def heldR (v : Value) : Option (DataW Value × List MemPlace) := some (.held v, [])

set_option maxRecDepth 20000 in
theorem keyLaw : Keyed Try.prog 3 := int_keyed Try.underlying3
theorem i64_wf {i : Int} (h1 : -9223372036854775808 ≤ i) (h2 : i ≤ 9223372036854775807) : (Lit.int .i64 i).wf = true := by
  simp only [Lit.wf, Bool.and_eq_true, decide_eq_true_eq]
  have e1 : IntKind.i64.min = -9223372036854775808 := rfl
  have e2 : IntKind.i64.max = 9223372036854775807 := rfl
  omega
set_option maxRecDepth 20000 in
theorem keyIs {i : Int} (h1 : -9223372036854775808 ≤ i) (h2 : i ≤ 9223372036854775807) : keyOf Try.prog 3 (.int .i64 i) = some (.int .i64 i) := keyOf_int_mk Try.underlying3 (i64_wf h1 h2)

/-! ### entries -/
section
variable {es : List (Lit × DataW Value)} {k : Lit} {d z : DataW Value}

theorem find_mem (hp : es.Pairwise (fun p q => p.1 ≠ q.1)) (hk : WideAt.IsKeyLit k) (h : (k, d) ∈ es) : es.find? (fun p => p.1.sameKey k) = some (k, d) := by
  induction es with
  | nil => simp at h
  | cons y r ih =>
    obtain ⟨h1, h2⟩ := List.pairwise_cons.1 hp
    rcases List.mem_cons.1 h with e | e
    · subst e
      simp [WideAt.sameKey_self hk]
    · have hy : y.1.sameKey k = false := Maps.sameKey_ne (h1 _ e)
      rw [List.find?_cons, hy]
      exact ih h2 e

theorem at_mem (hp : es.Pairwise (fun p q => p.1 ≠ q.1)) (hk : WideAt.IsKeyLit k) (h : (k, d) ∈ es) : (DataW.map es).atKey k z = d := by
  unfold DataW.atKey
  simp only [find_mem hp hk h]

theorem has_mem (hk : WideAt.IsKeyLit k) (h : (k, d) ∈ es) : Maps.has (DataW.map es) k = true := by
  rw [Maps.has_eq, List.any_eq_true]
  exact ⟨_, h, WideAt.sameKey_self hk⟩

theorem mem_has (h : Maps.has (DataW.map es) k = true) : ∃ d, (k, d) ∈ es := by
  rw [Maps.has_eq, List.any_eq_true] at h
  obtain ⟨p, hp, hs⟩ := h
  have := WideAt.sameKey_eq hs
  exact ⟨p.2, by rw [← this]; exact hp⟩

theorem mem_insert {x y : Lit × DataW Value} : y ∈ DataW.insert x es ↔ y = x ∨ y ∈ es := by
  rw [(WideShapes.insert_perm x es).mem_iff, List.mem_cons]

theorem few_nats : ∀ (n : Nat) (l : List Nat), l.Pairwise (· ≠ ·) → (∀ x ∈ l, x < n) → l.length ≤ n
  | 0, l, _, h => by
    rcases l with _ | ⟨x, l⟩
    · simp
    · exact absurd (h x (by simp)) (by omega)
  | n + 1, l, hp, h => by
    have h1 := few_nats n (l.filter (fun x => x ≠ n)) (hp.filter _) (fun x hx => by
      obtain ⟨h2, h3⟩ := List.mem_filter.1 hx
      have := h x h2
      have : x ≠ n := by simpa using h3
      omega)
    have h2 : l.length ≤ (l.filter (fun x => x ≠ n)).length + 1 := by
      clear h1 h
      induction l with
      | nil => simp
      | cons y r ih =>
        obtain ⟨p1, p2⟩ := List.pairwise_cons.1 hp
        by_cases hy : y = n
        · subst hy
          have : r.filter (fun x => x ≠ y) = r := List.filter_eq_self.2 (fun x hx => by simpa using (p1 x hx).symm)
          rw [List.filter_cons, if_neg (by simp), this]
          simp
        · rw [List.filter_cons, if_pos (by simpa using hy)]
          have := ih p2
          simp only [List.length_cons]
          omega
    omega
end

/-- What f is, but v at i. -/
def upd (f : Int → Option Value) (i : Int) (v : Option Value) : Int → Option Value := fun j => if j = i then v else f j

/-- Block b is a map of few entries, those of f. -/
def MapAt (w : World) (b : Nat) (f : Int → Option Value) : Prop :=
  ∃ n es, w.ownsMap Try.prog 3 heldR b n (.map es) ∧ (∀ p ∈ es, ∃ i v, p = (Lit.int .i64 i, DataW.held v) ∧ 0 ≤ i ∧ i < 4096) ∧ ∀ i v, f i = some v ↔ (Lit.int .i64 i, DataW.held v) ∈ es

section
variable {w w' : World} {b : Nat} {f : Int → Option Value}

set_option maxRecDepth 20000 in
theorem tight {n : Nat} {es : List (Lit × DataW Value)} (h : w.ownsMap Try.prog 3 heldR b n (.map es)) : w.ownsMap Try.prog 3 heldR b es.length (.map es) := by
  obtain ⟨xs, clock, hb, F, hs, hD⟩ := h
  refine ⟨xs, clock, hb, F, ?_, hD⟩
  injection hD with e
  rw [e, length_sorted]
  simp

theorem few_of {es : List (Lit × DataW Value)} (hp : es.Pairwise (fun p q => p.1 ≠ q.1)) (hk : ∀ p ∈ es, ∃ i v, p = (Lit.int .i64 i, DataW.held v) ∧ 0 ≤ i ∧ i < 4096) : es.length ≤ 4096 := by
  have := few_nats 4096 (es.map fun p => (_root_.Go.intOf p.1).toNat) (by
    rw [List.pairwise_map]
    refine List.Pairwise.imp_of_mem ?_ hp
    intro p q hp' hq' hne e
    obtain ⟨i, v, rfl, h1, h2⟩ := hk p hp'
    obtain ⟨j, u, rfl, h3, h4⟩ := hk q hq'
    simp only [_root_.Go.intOf] at e
    exact hne (by show Lit.int .i64 i = Lit.int .i64 j; rw [show i = j by omega])) (fun x hx => by
    obtain ⟨p, hp', rfl⟩ := List.mem_map.1 hx
    obtain ⟨i, v, rfl, h1, h2⟩ := hk p hp'
    simp only [_root_.Go.intOf]
    omega)
  simpa using this

theorem MapAt.lt (h : MapAt w b f) : b < w.heap.size := by
  obtain ⟨n, es, ho, _⟩ := h
  exact ho.lt

theorem MapAt.isMap (h : MapAt w b f) : ∃ es clock, w.heap[b]? = some (.map es clock) := by
  obtain ⟨n, es, ⟨xs, clock, hb, _⟩, _⟩ := h
  exact ⟨xs, clock, hb⟩

theorem MapAt.block (h : MapAt w b f) (e : w'.heap[b]? = w.heap[b]?) : MapAt w' b f := by
  obtain ⟨n, es, ⟨xs, clock, hb, F, hs, hD⟩, hr⟩ := h
  exact ⟨n, es, ⟨xs, clock, e.trans hb, F, hs, hD⟩, hr⟩

theorem MapAt.keys (h : MapAt w b f) {i : Int} {v : Value} (e : f i = some v) : 0 ≤ i ∧ i < 4096 := by
  obtain ⟨n, es, _, hk, hf⟩ := h
  obtain ⟨j, u, e1, h1, h2⟩ := hk _ ((hf i v).1 e)
  injection e1 with e2 e3
  injection e2 with e4 e5
  omega

theorem mapAt_made (w : World) : MapAt (w.alloc (.map #[] 0)) w.heap.size (fun _ => none) :=
  ⟨0, [], World.ownsMap_made w _ _ _, by simp, by simp⟩

theorem litKey (i : Int) : WideAt.IsKeyLit (.int .i64 i) := trivial

set_option maxRecDepth 20000 in
theorem zeroBytes (w : World) : (zeroValue 33).run Try.prog w = .ok (.slice none 0 0) w := by kernel_rfl

set_option maxRecDepth 20000 in
/-- v, ok := m[i] -/
theorem MapAt.look (h : MapAt w b f) {i : Int} (h1 : -9223372036854775808 ≤ i) (h2 : i ≤ 9223372036854775807) :
    (Instr.lookup 54 (.map (some b)) (.int .i64 i) true).run Try.prog w = .ok (.tuple #[(f i).getD (.slice none 0 0), .bool (f i).isSome]) w := by
  obtain ⟨n, es, ho, hk, hf⟩ := h
  obtain ⟨v, ps, hrun, hv⟩ := ho.look_ok keyLaw Try.underlying54 (zeroBytes w) (zd := .held (.slice none 0 0)) (zp := []) rfl (keyIs h1 h2)
  obtain ⟨es', e', hp, _⟩ := ho.entries keyLaw
  injection e' with e'
  subst e'
  rw [hrun]
  have hv' : DataW.held v = (DataW.map es).atKey (.int .i64 i) (.held (.slice none 0 0)) := by
    unfold heldR at hv
    injection hv with hv
    injection hv
  cases hfi : f i with
  | some u =>
    have hm := (hf i u).1 hfi
    rw [at_mem hp (litKey i) hm] at hv'
    injection hv' with hv'
    rw [has_mem (litKey i) hm, hv']
    rfl
  | none =>
    have hn : Maps.has (DataW.map es) (.int .i64 i) = false := by
      cases hh : Maps.has (DataW.map es) (.int .i64 i) with
      | false => rfl
      | true =>
        obtain ⟨d, hd⟩ := mem_has hh
        obtain ⟨j, u, e1, _⟩ := hk _ hd
        injection e1 with e2 e3
        subst e3
        rw [(hf i u).2 hd] at hfi
        cases hfi
    rw [Maps.atKey_of_not_has hn] at hv'
    injection hv' with hv'
    rw [hn, hv']
    rfl

set_option maxRecDepth 20000 in
/-- v := m[i] -/
theorem MapAt.look1 (h : MapAt w b f) {i : Int} (h1 : -9223372036854775808 ≤ i) (h2 : i ≤ 9223372036854775807) :
    (Instr.lookup 54 (.map (some b)) (.int .i64 i) false).run Try.prog w = .ok ((f i).getD (.slice none 0 0)) w := by
  obtain ⟨n, es, ho, hk, hf⟩ := h
  obtain ⟨v, ps, hrun, hv⟩ := ho.lookup keyLaw Try.underlying54 (zeroBytes w) (zd := .held (.slice none 0 0)) (zp := []) rfl (keyIs h1 h2)
  obtain ⟨es', e', hp, _⟩ := ho.entries keyLaw
  injection e' with e'
  subst e'
  rw [hrun]
  have hv' : DataW.held v = (DataW.map es).atKey (.int .i64 i) (.held (.slice none 0 0)) := by
    unfold heldR at hv
    injection hv with hv
    injection hv
  cases hfi : f i with
  | some u =>
    have hm := (hf i u).1 hfi
    rw [at_mem hp (litKey i) hm] at hv'
    injection hv' with hv'
    rw [hv']
    rfl
  | none =>
    have hn : Maps.has (DataW.map es) (.int .i64 i) = false := by
      cases hh : Maps.has (DataW.map es) (.int .i64 i) with
      | false => rfl
      | true =>
        obtain ⟨d, hd⟩ := mem_has hh
        obtain ⟨j, u, e1, _⟩ := hk _ hd
        injection e1 with e2 e3
        subst e3
        rw [(hf i u).2 hd] at hfi
        cases hfi
    rw [Maps.atKey_of_not_has hn] at hv'
    injection hv' with hv'
    rw [hv']
    rfl

set_option maxRecDepth 20000 in
/-- m[i] = v -/
theorem MapAt.put (h : MapAt w b f) {i : Int} (h1 : 0 ≤ i) (h2 : i < 4096) (v : Value) :
    ∃ w', (Instr.mapUpdate 54 (.map (some b)) (.int .i64 i) v).run Try.prog w = .ok () w' ∧ MapAt w' b (upd f i (some v)) ∧ w.grownBy w' (some b) := by
  obtain ⟨n, es, ho, hk, hf⟩ := h
  obtain ⟨es', e', hp, _⟩ := ho.entries keyLaw
  injection e' with e'
  subst e'
  have hl := few_of hp hk
  obtain ⟨w', hrun, ho', hg⟩ := (tight ho).update keyLaw Try.underlying54 (by unfold maxLen; omega) (keyIs (i := i) (by omega) (by omega)) (val := v) (d := .held v) (ps := []) rfl
  refine ⟨w', hrun, ⟨_, DataW.insert (.int .i64 i, .held v) (es.filter fun p => !p.1.sameKey (.int .i64 i)), ho', ?_, ?_⟩, hg⟩
  · intro p hm
    rcases mem_insert.1 hm with rfl | hm
    · exact ⟨i, v, rfl, h1, h2⟩
    · exact hk p (List.mem_filter.1 hm).1
  · intro j u
    rw [mem_insert, List.mem_filter]
    unfold upd
    by_cases hj : j = i
    · subst hj
      rw [if_pos rfl, WideAt.sameKey_self (litKey j)]
      constructor
      · intro e
        injection e with e
        subst e
        exact Or.inl rfl
      · rintro (e | ⟨_, e⟩)
        · obtain rfl : u = v := DataW.held.inj (congrArg Prod.snd e)
          rfl
        · cases e
    · rw [if_neg hj, hf, Maps.sameKey_ne (a := Lit.int .i64 j) (b := Lit.int .i64 i) (fun e => hj (by injection e))]
      constructor
      · intro e
        exact Or.inr ⟨e, rfl⟩
      · rintro (e | ⟨e, _⟩)
        · injection e with e
          injection e with _ e
          exact absurd e hj
        · exact e

set_option maxRecDepth 20000 in
/-- delete(m, i) -/
theorem MapAt.del (h : MapAt w b f) {i : Int} (h1 : -9223372036854775808 ≤ i) (h2 : i ≤ 9223372036854775807) (ty : TypeId) :
    ∃ w', (Builtin.delete_ #[54, 3] ty #[.map (some b), .int .i64 i]).run Try.prog w = .ok (.tuple #[]) w' ∧ MapAt w' b (upd f i none) ∧ w.grownBy w' (some b) := by
  obtain ⟨n, es, ho, hk, hf⟩ := h
  obtain ⟨w', hrun, ho', hg⟩ := ho.drop keyLaw Try.underlying54 (keyIs h1 h2) ty
  refine ⟨w', hrun, ⟨_, es.filter fun p => !p.1.sameKey (.int .i64 i), ho', ?_, ?_⟩, hg.grown⟩
  · intro p hm
    exact hk p (List.mem_filter.1 hm).1
  · intro j u
    rw [List.mem_filter]
    unfold upd
    by_cases hj : j = i
    · subst hj
      rw [if_pos rfl, WideAt.sameKey_self (litKey j)]
      simp
    · rw [if_neg hj, hf, Maps.sameKey_ne (a := Lit.int .i64 j) (b := Lit.int .i64 i) (fun e => hj (by injection e))]
      simp

set_option maxRecDepth 20000 in
/-- clear(m) -/
theorem MapAt.clear (h : MapAt w b f) (ty : TypeId) :
    ∃ w', (Builtin.clear_ #[54] ty #[.map (some b)]).run Try.prog w = .ok (.tuple #[]) w' ∧ MapAt w' b (fun _ => none) ∧ w.grownBy w' (some b) := by
  obtain ⟨es, clock, hb⟩ := h.isMap
  refine ⟨ChangeMaps.setBlock w b (.map #[] clock), ?_, ⟨0, [], ⟨#[], clock, ChangeMaps.heap_setBlock_same hb _, ⟨by simp, ?_, by simp⟩, Nat.le_refl _, rfl⟩, by simp, by simp⟩, ⟨rfl, rfl, rfl, by simp [ChangeMaps.setBlock], fun i _ hi => ChangeMaps.heap_setBlock_other hb _ (fun e => hi (by rw [e]))⟩⟩
  · simp [Builtin.clear_, run_underlying Try.underlying54, MapKept.run_getObj_map hb, MapKept.run_setObj_map _ hb, Result.andThen]
    rfl
  · exact MapKept.stamped_empty clock
end

end Go.Proofs.Ytgkdlbcpckdmkaa
