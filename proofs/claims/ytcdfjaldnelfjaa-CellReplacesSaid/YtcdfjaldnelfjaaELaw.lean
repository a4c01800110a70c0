/-
  What the laws of cells say, on plain nodes: parts and what they join to, sizes of halves, entries laid and taken out.
-/
import Derived.Test.YtcdfjaldnelfjaaEPure
namespace Go.Proofs.Ytcdfjaldnelfjaa
namespace ND

/-! ### Keys that rise -/

theorem rise_iff : ∀ (p : List UInt8) (l : List (List UInt8)), rise p l = true ↔ (∀ t ∈ l, Op.bytesLess p t = true ∧ t.length ≤ 120) ∧ l.Pairwise (fun a b => Op.bytesLess a b = true)
  | p, [] => by simp [rise]
  | p, x :: l => by
    rw [rise_cons, Bool.and_eq_true, Bool.and_eq_true, decide_eq_true_eq, List.pairwise_cons, rise_iff x l]
    constructor
    · rintro ⟨⟨h1, h2⟩, h3, h4⟩
      refine ⟨fun t ht => ?_, fun t ht => (h3 t ht).1, h4⟩
      rcases List.mem_cons.1 ht with rfl | ht
      · exact ⟨h1, h2⟩
      · exact ⟨less_trans p x t h1 (h3 t ht).1, (h3 t ht).2⟩
    · rintro ⟨h1, h2, h3⟩
      exact ⟨h1 x (by simp), fun t ht => ⟨h2 t ht, (h1 t (by simp [ht])).2⟩, h3⟩
/-- Keys that may be, as they stand. -/
theorem rise_nil {l : List (List UInt8)} : rise [] l = true ↔ (∀ t ∈ l, 1 ≤ t.length ∧ t.length ≤ 120) ∧ l.Pairwise (fun a b => Op.bytesLess a b = true) := by
  rw [rise_iff]
  constructor
  · rintro ⟨h1, h2⟩
    refine ⟨fun t ht => ⟨?_, (h1 t ht).2⟩, h2⟩
    have := (h1 t ht).1
    rw [less_nil] at this
    exact of_decide_eq_true this
  · rintro ⟨h1, h2⟩
    refine ⟨fun t ht => ⟨?_, (h1 t ht).2⟩, h2⟩
    rw [less_nil]
    exact decide_eq_true (h1 t ht).1
theorem rise_sub {l l' : List (List UInt8)} (h : rise [] l = true) (hs : List.Sublist l' l) : rise [] l' = true := by
  rw [rise_nil] at h ⊢
  exact ⟨fun t ht => h.1 t (hs.subset ht), h.2.sublist hs⟩

theorem all_sub {α : Type} {p : α → Bool} {l l' : List α} (h : l.all p = true) (hs : List.Sublist l' l) : l'.all p = true := by
  rw [List.all_eq_true] at h ⊢
  exact fun x hx => h x (hs.subset hx)

theorem ok_mk_leaf {keys vals : List (List UInt8)} (h1 : rise [] keys = true) (h2 : vals.length = keys.length) (h3 : vals.all valB = true) : ok ⟨true, keys, vals, []⟩ = true := by
  unfold ok leafB
  simp [h1, h2, h3]
theorem ok_mk_inner {keys : List (List UInt8)} {kids : List Int} (h1 : rise [] keys = true) (h2 : 0 < keys.length) (h3 : kids.length = keys.length + 1) (h4 : kids.all kidB = true) : ok ⟨false, keys, [], kids⟩ = true := by
  unfold ok innerB
  simp [h1, h2, h3, h4]

/-! ### Both parts -/

theorem ents_pos {s : ND} (h : s.ok = true) (hk : 0 < s.keys.length) : 0 < s.ents.sum := by
  have hlen := ents_length h
  cases he : s.ents with
  | nil => rw [he] at hlen; simp at hlen; omega
  | cons x l =>
    have : 2 ≤ x := by
      have hx : s.ents[0]? = some x := by rw [he]; rfl
      cases hl : s.leaf with
      | true =>
        rw [ents_leaf hl, List.getElem?_zipWith] at hx
        cases h1 : s.keys[0]? with
        | none => rw [h1] at hx; simp at hx
        | some t =>
          cases h2 : s.vals[0]? with
          | none => rw [h1, h2] at hx; simp at hx
          | some v =>
            rw [h1, h2] at hx
            have := Option.some.inj hx
            omega
      | false =>
        rw [ents_inner hl, List.getElem?_map] at hx
        cases h1 : s.keys[0]? with
        | none => rw [h1] at hx; simp at hx
        | some t =>
          rw [h1] at hx
          have := Option.some.inj hx
          dsimp only at this
          omega
    rw [List.sum_cons]
    omega
theorem hN_pos {s : ND} (h : s.ok = true) (hk : 0 < s.keys.length) : 0 < hN s.ents := by
  apply Classical.byContradiction
  intro hn
  have h0 : hN s.ents = 0 := by omega
  have := hN_at (es := s.ents)
  rw [h0] at this
  have hp := ents_pos h hk
  simp at this
  omega
theorem splitAt_pos {s : ND} (h : s.ok = true) (hs : ¬ s.keys.length < 2 + s.gone) : 0 < s.splitAt := by
  have := hN_pos h (by omega)
  unfold splitAt
  omega

theorem getD_some {l : List (List UInt8)} {i : Nat} (h : i < l.length) : l[i]? = some (l.getD i []) := by
  rw [List.getD_eq_getElem?_getD, List.getElem?_eq_getElem h]
  rfl

/-- What is split is joined as it was. -/
theorem split_join {s : ND} (h : s.ok = true) (hs : ¬ s.keys.length < 2 + s.gone) : s.splitL.join s.splitK s.splitR = s := by
  obtain ⟨_, e1, e2, e3⟩ := split_yes hs
  have hlt := splitAt_lt hs
  rw [e1, e2, e3]
  obtain ⟨leaf, keys, vals, kids⟩ := s
  cases leaf with
  | true =>
    unfold join
    simp [gone]
  | false =>
    unfold join
    have hg := getD_some (l := keys) (i := splitAt ⟨false, keys, vals, kids⟩) (by simp [gone] at hlt; omega)
    simp only [gone, Bool.false_eq_true, if_false]
    congr 1
    · rw [List.append_assoc, List.singleton_append]
      generalize splitAt ⟨false, keys, vals, kids⟩ = p at *
      have h1 : p < keys.length := (List.getElem?_eq_some_iff.1 hg).1
      rw [List.getD_eq_getElem?_getD, List.getElem?_eq_getElem h1, Option.getD_some, ← List.drop_eq_getElem_cons h1, List.take_append_drop]
    · exact List.take_append_drop _ _
    · exact List.take_append_drop _ _

theorem split_okL {s : ND} (h : s.ok = true) (hs : ¬ s.keys.length < 2 + s.gone) : s.splitL.ok = true := by
  obtain ⟨_, e1, _, _⟩ := split_yes hs
  have hlt := splitAt_lt hs
  have hp := splitAt_pos h hs
  rw [e1]
  have hr := rise_sub (ok_rise h) (List.take_sublist s.splitAt s.keys)
  cases hl : s.leaf with
  | true =>
    obtain ⟨h1, h2, h3⟩ := ok_leaf h hl
    rw [h3, List.take_nil]
    exact ok_mk_leaf hr (by rw [List.length_take, List.length_take, h1]) (all_sub h2 (List.take_sublist _ _))
  | false =>
    obtain ⟨h0, h1, h2, h3⟩ := ok_inner h hl
    rw [h3, List.take_nil]
    refine ok_mk_inner hr (by rw [List.length_take]; omega) (by rw [List.length_take, List.length_take]; omega) (all_sub h2 (List.take_sublist _ _))
theorem split_okR {s : ND} (h : s.ok = true) (hs : ¬ s.keys.length < 2 + s.gone) : s.splitR.ok = true := by
  obtain ⟨_, _, e2, _⟩ := split_yes hs
  have hlt := splitAt_lt hs
  rw [e2]
  have hr := rise_sub (ok_rise h) (List.drop_sublist (s.splitAt + s.gone) s.keys)
  cases hl : s.leaf with
  | true =>
    obtain ⟨h1, h2, h3⟩ := ok_leaf h hl
    have hg : s.gone = 0 := by unfold gone; rw [hl]; rfl
    rw [hg] at hr hlt ⊢
    rw [h3, List.drop_nil]
    exact ok_mk_leaf hr (by rw [List.length_drop, List.length_drop, h1]; rfl) (all_sub h2 (List.drop_sublist _ _))
  | false =>
    obtain ⟨h0, h1, h2, h3⟩ := ok_inner h hl
    have hg : s.gone = 1 := by unfold gone; rw [hl]; rfl
    rw [hg] at hr hlt ⊢
    rw [h3, List.drop_nil]
    refine ok_mk_inner hr (by rw [List.length_drop]; omega) (by rw [List.length_drop, List.length_drop]; omega) (all_sub h2 (List.drop_sublist _ _))
/-- The parts' keys, and the key between. -/
theorem split_last {s : ND} (h : s.ok = true) (hs : ¬ s.keys.length < 2 + s.gone) : 0 < s.splitL.keys.length ∧ ∀ t, s.splitL.keys[s.splitL.keys.length - 1]? = some t → Op.bytesLess t s.splitK = true := by
  obtain ⟨_, e1, _, e3⟩ := split_yes hs
  have hlt := splitAt_lt hs
  have hp := splitAt_pos h hs
  rw [e1, e3]
  dsimp only
  have hlen : (s.keys.take s.splitAt).length = s.splitAt := by rw [List.length_take]; omega
  rw [hlen]
  refine ⟨hp, fun t ht => ?_⟩
  rw [List.getElem?_take] at ht
  split at ht
  · exact rise_pair [] s.keys (ok_rise h) (s.splitAt - 1) s.splitAt _ _ (by omega) ht (getD_some (by omega))
  · cases ht
theorem split_first {s : ND} (h : s.ok = true) (hs : ¬ s.keys.length < 2 + s.gone) : 0 < s.splitR.keys.length ∧ ∀ t, s.splitR.keys[0]? = some t → Op.bytesLess t s.splitK = false := by
  obtain ⟨_, _, e2, e3⟩ := split_yes hs
  have hlt := splitAt_lt hs
  rw [e2, e3]
  dsimp only
  refine ⟨by rw [List.length_drop]; omega, fun t ht => ?_⟩
  rw [List.getElem?_drop, Nat.add_zero] at ht
  cases hl : s.leaf with
  | true =>
    have hg : s.gone = 0 := by unfold gone; rw [hl]; rfl
    rw [hg, Nat.add_zero] at ht
    rw [getD_some (by omega)] at ht
    obtain rfl := Option.some.inj ht
    exact less_irrefl _
  | false =>
    have hg : s.gone = 1 := by unfold gone; rw [hl]; rfl
    rw [hg] at ht hlt
    have h1 := rise_pair [] s.keys (ok_rise h) s.splitAt (s.splitAt + 1) _ _ (by omega) (getD_some (by omega)) ht
    cases hb : Op.bytesLess t (s.keys.getD s.splitAt []) with
    | false => rfl
    | true =>
      have := less_trans _ _ _ h1 hb
      rw [less_irrefl] at this
      cases this
theorem split_leafs {s : ND} (hs : ¬ s.keys.length < 2 + s.gone) : s.splitL.leaf = s.leaf ∧ s.splitR.leaf = s.leaf := by
  obtain ⟨_, e1, e2, _⟩ := split_yes hs
  rw [e1, e2]
  exact ⟨rfl, rfl⟩

/-! ### An entry laid -/

/-- Of keys that rise: those from where a key would stand are behind it. -/
theorem behind_new {k : List UInt8} {l : List (List UInt8)} (h : rise [] l = true) (hn : isAt k l = false) : ∀ t ∈ l.drop (findN k l), Op.bytesLess k t = true := by
  intro t ht
  obtain ⟨j, hj⟩ := List.mem_iff_getElem?.1 ht
  rw [List.getElem?_drop] at hj
  have hlt : findN k l < l.length := by have := (List.getElem?_eq_some_iff.1 hj).1; omega
  have h0 := getD_some hlt
  have h1 := findN_not h0
  have h2 : ¬ l.getD (findN k l) [] = k := by
    intro e
    rw [e] at h0
    rw [isAt_iff.2 h0] at hn
    cases hn
  have h3 : Op.bytesLess k (l.getD (findN k l) []) = true := by
    rcases less_total (l.getD (findN k l) []) k with e | e | e
    · rw [h1] at e; cases e
    · exact absurd e h2
    · exact e
  rcases Nat.eq_zero_or_pos j with rfl | hj0
  · rw [Nat.add_zero, h0] at hj
    obtain rfl := Option.some.inj hj
    exact h3
  · exact less_trans _ _ _ h3 (rise_pair [] l h (findN k l) (findN k l + j) _ _ (by omega) h0 hj)
theorem behind_old {k : List UInt8} {l : List (List UInt8)} (h : rise [] l = true) (ha : isAt k l = true) : ∀ t ∈ l.drop (findN k l + 1), Op.bytesLess k t = true := by
  intro t ht
  obtain ⟨j, hj⟩ := List.mem_iff_getElem?.1 ht
  rw [List.getElem?_drop] at hj
  exact rise_pair [] l h (findN k l) (findN k l + 1 + j) _ _ (by omega) (isAt_iff.1 ha) hj
theorem ahead_of {k : List UInt8} {l : List (List UInt8)} : ∀ t ∈ l.take (findN k l), Op.bytesLess t k = true := by
  intro t ht
  obtain ⟨j, hj⟩ := List.mem_iff_getElem?.1 ht
  rw [List.getElem?_take] at hj
  split at hj
  · rename_i hlt
    exact findN_before hlt hj
  · cases hj

theorem rise_rep {k : List UInt8} {l : List (List UInt8)} {b : Nat} (h : rise [] l = true) (h1 : 1 ≤ k.length) (h2 : k.length ≤ 120) (hb : findN k l ≤ b) (hd : ∀ t ∈ l.drop b, Op.bytesLess k t = true) : rise [] (rep l (findN k l) b [k]) = true := by
  rw [rise_nil] at h ⊢
  have hsub : List.Sublist (l.take (findN k l) ++ l.drop b) l := by
    have h3 : List.Sublist (l.take (findN k l) ++ l.drop b) (l.take (findN k l) ++ l.drop (findN k l)) := List.Sublist.append (List.Sublist.refl _) (by
      rw [show b = findN k l + (b - findN k l) by omega, ← List.drop_drop]
      exact List.drop_sublist _ _)
    rw [List.take_append_drop] at h3
    exact h3
  have hp := h.2.sublist hsub
  rw [List.pairwise_append] at hp
  obtain ⟨p1, p2, p3⟩ := hp
  constructor
  · intro t ht
    unfold rep at ht
    rcases List.mem_append.1 ht with ht | ht
    · rcases List.mem_append.1 ht with ht | ht
      · exact h.1 t (List.mem_of_mem_take ht)
      · rw [List.mem_singleton.1 ht]
        exact ⟨h1, h2⟩
    · exact h.1 t (List.mem_of_mem_drop ht)
  · unfold rep
    rw [List.append_assoc, List.pairwise_append]
    refine ⟨p1, ?_, ?_⟩
    · rw [List.singleton_append, List.pairwise_cons]
      exact ⟨hd, p2⟩
    · intro a ha c hc
      rw [List.singleton_append] at hc
      rcases List.mem_cons.1 hc with rfl | hc
      · exact ahead_of a ha
      · exact p3 a ha c hc

theorem valB_all_rep {l : List (List UInt8)} {v : List UInt8} {f b : Nat} (h : l.all valB = true) (hv : v.length ≤ 100) : (rep l f b [v]).all valB = true := by
  unfold rep
  rw [List.all_append, List.all_append, all_sub h (List.take_sublist _ _), all_sub h (List.drop_sublist _ _)]
  simp [valB, hv]

theorem put_ok {s : ND} {k v : List UInt8} (h : s.ok = true) (hl : s.leaf = true) (h1 : 1 ≤ k.length) (h2 : k.length ≤ 120) (hv : v.length ≤ 100) : (s.put k v).ok = true := by
  obtain ⟨g1, g2, g3⟩ := ok_leaf h hl
  have hr := ok_rise h
  have hle := findN_le k s.keys
  cases ha : isAt k s.keys with
  | true =>
    rw [put_old v ha]
    have hlt := isAt_lt ha
    have e1 := rep_length (o := [k]) (Nat.le_succ (findN k s.keys)) (show findN k s.keys + 1 ≤ s.keys.length from hlt)
    have e2 := rep_length (o := [v]) (Nat.le_succ (findN k s.keys)) (show findN k s.keys + 1 ≤ s.vals.length by omega)
    simp at e1 e2
    exact ok_mk_leaf (rise_rep hr h1 h2 (Nat.le_succ _) (behind_old hr ha)) (by omega) (valB_all_rep g2 hv)
  | false =>
    rw [put_new v ha]
    have e1 := rep_length (o := [k]) (Nat.le_refl (findN k s.keys)) hle
    have e2 := rep_length (o := [v]) (Nat.le_refl (findN k s.keys)) (show findN k s.keys ≤ s.vals.length by omega)
    simp at e1 e2
    exact ok_mk_leaf (rise_rep hr h1 h2 (Nat.le_refl _) (behind_new hr ha)) (by omega) (valB_all_rep g2 hv)

/-! ### Indexes -/

theorem rep_lo {α : Type} {l o : List α} {f b j : Nat} (hf : f ≤ l.length) (hj : j < f) : (rep l f b o)[j]? = l[j]? := by
  unfold rep
  rw [List.append_assoc, List.getElem?_append_left (by rw [List.length_take]; omega), List.getElem?_take, if_pos hj]
theorem rep_at {α : Type} {l : List α} {x : α} {f b : Nat} (hf : f ≤ l.length) : (rep l f b [x])[f]? = some x := by
  unfold rep
  have e : (l.take f).length = f := by rw [List.length_take]; omega
  rw [List.append_assoc, List.getElem?_append_right (by omega), e, Nat.sub_self]
  rfl
theorem rep_hi {α : Type} {l o : List α} {f b j : Nat} (hf : f ≤ l.length) (hj : b ≤ j) : (rep l f b o)[f + o.length + (j - b)]? = l[j]? := by
  unfold rep
  have e : (l.take f ++ o).length = f + o.length := by rw [List.length_append, List.length_take]; omega
  rw [List.getElem?_append_right (by omega), e, List.getElem?_drop]
  congr 1
  omega

/-- A leaf holds a value under a key. -/
def look (s : ND) (k v : List UInt8) : Prop := ∃ j : Nat, s.keys[j]? = some k ∧ s.vals[j]? = some v
theorem look_find {s : ND} {k v : List UInt8} (h : s.ok = true) (hk : look s k v) : isAt k s.keys = true ∧ s.vals[findN k s.keys]? = some v := by
  obtain ⟨j, h1, h2⟩ := hk
  have := findN_at (ok_rise h) h1
  refine ⟨(isAt_mem (ok_rise h)).2 (List.mem_of_getElem? h1), ?_⟩
  rw [this]
  exact h2
theorem look_of {s : ND} {k : List UInt8} (h : s.ok = true) (hl : s.leaf = true) (hk : isAt k s.keys = true) : ∃ v, s.vals[findN k s.keys]? = some v ∧ look s k v := by
  have h1 := isAt_iff.1 hk
  have hlt := isAt_lt hk
  have hv : s.vals[findN k s.keys]? = some (s.vals.getD (findN k s.keys) []) := getD_some (by rw [(ok_leaf h hl).1]; exact hlt)
  exact ⟨_, hv, _, h1, hv⟩

/-- The place that a laid entry takes: behind what is replaced. -/
def putB (s : ND) (k : List UInt8) : Nat := if isAt k s.keys then findN k s.keys + 1 else findN k s.keys
theorem put_eq (s : ND) (k v : List UInt8) : s.put k v = ⟨true, rep s.keys (findN k s.keys) (putB s k) [k], rep s.vals (findN k s.keys) (putB s k) [v], []⟩ := rfl
theorem putB_le {s : ND} {k : List UInt8} : findN k s.keys ≤ putB s k ∧ putB s k ≤ findN k s.keys + 1 := by
  unfold putB
  split <;> omega
theorem putB_other {s : ND} {k o : List UInt8} {j : Nat} (hne : o ≠ k) (hj : s.keys[j]? = some o) : j < findN k s.keys ∨ putB s k ≤ j := by
  rcases Nat.lt_or_ge j (findN k s.keys) with h | h
  · exact Or.inl h
  · right
    unfold putB
    split
    · rename_i ha
      rcases Nat.eq_or_lt_of_le h with e | e
      · exfalso
        rw [← e, isAt_iff.1 ha] at hj
        exact hne (Option.some.inj hj).symm
      · exact e
    · exact h

theorem put_look {s : ND} {k v : List UInt8} (h : s.ok = true) (hl : s.leaf = true) : look (s.put k v) k v := by
  have hle := findN_le k s.keys
  have g1 := (ok_leaf h hl).1
  rw [put_eq]
  exact ⟨findN k s.keys, rep_at hle, rep_at (by omega)⟩
theorem put_keeps {s : ND} {k v o u : List UInt8} (h : s.ok = true) (hl : s.leaf = true) (hne : o ≠ k) (hk : look s o u) : look (s.put k v) o u := by
  obtain ⟨j, h1, h2⟩ := hk
  have hle := findN_le k s.keys
  have g1 := (ok_leaf h hl).1
  rw [put_eq]
  rcases putB_other (k := k) hne h1 with hj | hj
  · exact ⟨j, (rep_lo hle hj).trans h1, (rep_lo (by omega) hj).trans h2⟩
  · exact ⟨findN k s.keys + 1 + (j - putB s k), (rep_hi (o := [k]) hle hj).trans h1, (rep_hi (o := [v]) (by omega) hj).trans h2⟩
theorem put_only {s : ND} {k v o : List UInt8} (hne : o ≠ k) (hm : o ∈ (s.put k v).keys) : o ∈ s.keys := by
  rw [put_eq] at hm
  unfold rep at hm
  rcases List.mem_append.1 hm with hm | hm
  · rcases List.mem_append.1 hm with hm | hm
    · exact List.mem_of_mem_take hm
    · exact absurd (List.mem_singleton.1 hm) hne
  · exact List.mem_of_mem_drop hm

/-! ### An entry taken out -/

theorem removed_ok {s : ND} {k : List UInt8} (h : s.ok = true) (hl : s.leaf = true) (ha : isAt k s.keys = true) : (s.removed k).ok = true := by
  obtain ⟨g1, g2, g3⟩ := ok_leaf h hl
  have hlt := isAt_lt ha
  have e1 := rep_length (o := ([] : List (List UInt8))) (Nat.le_succ (findN k s.keys)) (show findN k s.keys + 1 ≤ s.keys.length from hlt)
  have e2 := rep_length (o := ([] : List (List UInt8))) (Nat.le_succ (findN k s.keys)) (show findN k s.keys + 1 ≤ s.vals.length by omega)
  simp at e1 e2
  have sub : ∀ l : List (List UInt8), List.Sublist (rep l (findN k s.keys) (findN k s.keys + 1) []) l := by
    intro l
    unfold rep
    rw [List.append_nil]
    have h3 : List.Sublist (l.take (findN k s.keys) ++ l.drop (findN k s.keys + 1)) (l.take (findN k s.keys) ++ l.drop (findN k s.keys)) := List.Sublist.append (List.Sublist.refl _) (by
      rw [← List.drop_drop]
      exact List.drop_sublist _ _)
    rw [List.take_append_drop] at h3
    exact h3
  exact ok_mk_leaf (rise_sub (ok_rise h) (sub _)) (by omega) (all_sub g2 (sub _))
theorem removed_gone {s : ND} {k : List UInt8} (h : s.ok = true) (ha : isAt k s.keys = true) : isAt k (s.removed k).keys = false := by
  cases hc : isAt k (s.removed k).keys with
  | false => rfl
  | true =>
    exfalso
    have hm := List.mem_of_getElem? (isAt_iff.1 hc)
    unfold removed rep at hm
    dsimp only at hm
    rw [List.append_nil] at hm
    rcases List.mem_append.1 hm with hm | hm
    · have := ahead_of k hm
      rw [less_irrefl] at this
      cases this
    · have := behind_old (ok_rise h) ha k hm
      rw [less_irrefl] at this
      cases this
theorem removed_keeps {s : ND} {k o u : List UInt8} (h : s.ok = true) (hl : s.leaf = true) (ha : isAt k s.keys = true) (hne : o ≠ k) (hk : look s o u) : look (s.removed k) o u := by
  obtain ⟨j, h1, h2⟩ := hk
  have hlt := isAt_lt ha
  have g1 := (ok_leaf h hl).1
  unfold removed
  rcases putB_other (k := k) hne h1 with hj | hj
  · exact ⟨j, (rep_lo (by omega) hj).trans h1, (rep_lo (by omega) hj).trans h2⟩
  · unfold putB at hj
    rw [ha] at hj
    simp only [if_true] at hj
    exact ⟨findN k s.keys + 0 + (j - (findN k s.keys + 1)), (rep_hi (o := []) (by omega) hj).trans h1, (rep_hi (o := []) (by omega) hj).trans h2⟩
theorem removed_only {s : ND} {k o : List UInt8} (hm : o ∈ (s.removed k).keys) : o ∈ s.keys := by
  unfold removed rep at hm
  dsimp only at hm
  rw [List.append_nil] at hm
  rcases List.mem_append.1 hm with hm | hm
  · exact List.mem_of_mem_take hm
  · exact List.mem_of_mem_drop hm

/-- All other entries stay: whether they are there, and their values. -/
theorem keeps_all {s : ND} {k v o : List UInt8} (h : s.ok = true) (hl : s.leaf = true) (h1 : 1 ≤ k.length) (h2 : k.length ≤ 120) (hv : v.length ≤ 100) (hne : o ≠ k) :
    isAt o (s.put k v).keys = isAt o s.keys ∧ isAt o ((s.put k v).removed k).keys = isAt o s.keys ∧
    (isAt o s.keys = true → ∃ u, s.vals[findN o s.keys]? = some u ∧ (s.put k v).vals[findN o (s.put k v).keys]? = some u ∧ ((s.put k v).removed k).vals[findN o ((s.put k v).removed k).keys]? = some u) := by
  have hp := put_ok h hl h1 h2 hv
  have hpl : (s.put k v).leaf = true := rfl
  have hpk : isAt k (s.put k v).keys = true := (look_find hp (put_look h hl)).1
  have hq := removed_ok hp hpl hpk
  have up : isAt o s.keys = true → ∃ u, s.vals[findN o s.keys]? = some u ∧ look (s.put k v) o u ∧ look ((s.put k v).removed k) o u := by
    intro ho
    obtain ⟨u, e, hu⟩ := look_of h hl ho
    have h3 := put_keeps (v := v) h hl hne hu
    exact ⟨u, e, h3, removed_keeps hp hpl hpk hne h3⟩
  refine ⟨?_, ?_, fun ho => ?_⟩
  · rw [Bool.eq_iff_iff]
    constructor
    · intro ho
      exact (isAt_mem (ok_rise h)).2 (put_only hne ((isAt_mem (ok_rise hp)).1 ho))
    · intro ho
      obtain ⟨u, _, h3, _⟩ := up ho
      exact (look_find hp h3).1
  · rw [Bool.eq_iff_iff]
    constructor
    · intro ho
      exact (isAt_mem (ok_rise h)).2 (put_only hne (removed_only ((isAt_mem (ok_rise hq)).1 ho)))
    · intro ho
      obtain ⟨u, _, _, h3⟩ := up ho
      exact (look_find hq h3).1
  · obtain ⟨u, e, h3, h4⟩ := up ho
    exact ⟨u, e, (look_find hp h3).2, (look_find hq h4).2⟩

/-! ### Sizes -/

theorem zip_sum : ∀ ks vs : List (List UInt8), vs.length = ks.length → (List.zipWith (fun k v => 2 + k.length + v.length) ks vs).sum = tsz ks + tsz vs
  | [], [], _ => rfl
  | k :: ks, v :: vs, h => by
    rw [List.zipWith_cons_cons, List.sum_cons, zip_sum ks vs (by simpa using h), tsz_cons, tsz_cons]
    omega
  | [], _ :: _, h => by simp at h
  | _ :: _, [], h => by simp at h
theorem ents_sum {s : ND} (h : s.ok = true) (hl : s.leaf = true) : s.size = 2 + s.ents.sum := by
  obtain ⟨h1, _, h3⟩ := ok_leaf h hl
  rw [ents_leaf hl, zip_sum _ _ h1]
  unfold size
  rw [h3]
  simp
  omega
theorem ents_splitL {s : ND} (hl : s.leaf = true) (hs : ¬ s.keys.length < 2 + s.gone) : s.splitL.ents = s.ents.take s.splitAt := by
  obtain ⟨_, e1, _, _⟩ := split_yes hs
  rw [e1, ents_leaf (by exact hl), ents_leaf hl, List.take_zipWith]
theorem ents_splitR {s : ND} (hl : s.leaf = true) (hs : ¬ s.keys.length < 2 + s.gone) : s.splitR.ents = s.ents.drop s.splitAt := by
  obtain ⟨_, _, e2, _⟩ := split_yes hs
  have hg : s.gone = 0 := by unfold gone; rw [hl]; rfl
  rw [e2, ents_leaf (by exact hl), ents_leaf hl, List.drop_zipWith, hg, Nat.add_zero]
theorem ents_at_le {s : ND} (h : s.ok = true) (hl : s.leaf = true) {i : Nat} : s.ents.getD i 0 ≤ 222 := by
  rw [List.getD_eq_getElem?_getD, ents_leaf hl, List.getElem?_zipWith]
  cases h1 : s.keys[i]? with
  | none => simp
  | some t =>
    cases h2 : s.vals[i]? with
    | none => simp
    | some v =>
      have g1 := ok_keys h t (List.mem_of_getElem? h1)
      have g2 := (ok_leaf h hl).2.1
      rw [List.all_eq_true] at g2
      have g3 := g2 v (List.mem_of_getElem? h2)
      unfold valB at g3
      have g4 := of_decide_eq_true g3
      simp
      omega

theorem tsl_rep (l o : List (List UInt8)) (f t : Nat) : tsl (rep l f t o) = tsl (l.take f) + tsl o + tsl (l.drop t) := by
  unfold rep
  rw [tsl_append, tsl_append]
theorem tsl_cut (l : List (List UInt8)) (f : Nat) : tsl l = tsl (l.take f) + tsl (l.drop f) := by
  conv => lhs; rw [← List.take_append_drop f l]
  exact tsl_append _ _
theorem tsl_drop_le (l : List (List UInt8)) (f : Nat) : tsl (l.drop (f + 1)) ≤ tsl (l.drop f) := by
  rw [← List.drop_drop]
  have := tsl_cut (l.drop f) 1
  omega
theorem tsz_rep_le {l : List (List UInt8)} {f b : Nat} {x : List UInt8} (hf : f ≤ b) (hb : b ≤ l.length) (hb1 : b ≤ f + 1) : tsz (rep l f b [x]) ≤ tsz l + 1 + x.length := by
  unfold tsz
  have h1 := rep_length (o := [x]) hf hb
  have h2 := tsl_rep l [x] f b
  have h3 := tsl_cut l f
  have h4 : tsl (l.drop b) ≤ tsl (l.drop f) := by
    rcases Nat.eq_or_lt_of_le hf with e | e
    · rw [e]; exact Nat.le_refl _
    · rw [show b = f + 1 by omega]; exact tsl_drop_le l f
  have h5 : tsl [x] = x.length := by rw [tsl_cons]; simp [tsl]
  simp at h1
  omega
theorem put_size {s : ND} {k v : List UInt8} (h : s.ok = true) (hl : s.leaf = true) (h2 : k.length ≤ 120) (hv : v.length ≤ 100) : (s.put k v).size ≤ s.size + 222 := by
  obtain ⟨g1, _, g3⟩ := ok_leaf h hl
  have hle := findN_le k s.keys
  have hb := putB_le (s := s) (k := k)
  have hbl : putB s k ≤ s.keys.length := by
    unfold putB
    split
    · rename_i ha
      exact isAt_lt ha
    · exact hle
  have a1 := tsz_rep_le (l := s.keys) (x := k) hb.1 hbl hb.2
  have a2 := tsz_rep_le (l := s.vals) (x := v) hb.1 (by omega) hb.2
  rw [put_eq]
  unfold size
  simp
  omega

/-- A leaf that has no room, by one entry: both parts have room, and neither is low. -/
theorem halves {s : ND} (h : s.ok = true) (hl : s.leaf = true) (h1 : 1000 < s.size) (h2 : s.size ≤ 1222) :
    ¬ s.keys.length < 2 + s.gone ∧ s.splitL.size ≤ 1000 ∧ s.splitR.size ≤ 1000 ∧ ¬ s.splitL.size < 300 ∧ 250 < s.splitR.size := by
  have hsum := ents_sum h hl
  have hlen := ents_length h
  have hg : s.gone = 0 := by unfold gone; rw [hl]; rfl
  have hmany : ¬ s.keys.length < 2 + s.gone := by
    intro hf
    rw [hg] at hf
    have hs : ∀ es : List Nat, es.length < 2 → (∀ i, es.getD i 0 ≤ 222) → es.sum ≤ 222 := by
      intro es he hi
      match es, he with
      | [], _ => simp
      | [x], _ => simpa using hi 0
    have := hs s.ents (by omega) (fun i => ents_at_le h hl)
    omega
  have hp := splitAt_pos h hmany
  obtain ⟨_, e1, e2, _⟩ := split_yes hmany
  obtain ⟨l1, l2⟩ := split_leafs hmany
  have sL := ents_sum (split_okL h hmany) (l1.trans hl)
  have sR := ents_sum (split_okR h hmany) (l2.trans hl)
  rw [ents_splitL hl hmany] at sL
  rw [ents_splitR hl hmany] at sR
  have hcut : (s.ents.take s.splitAt).sum + (s.ents.drop s.splitAt).sum = s.ents.sum := by
    conv => rhs; rw [← List.take_append_drop s.splitAt s.ents]
    rw [List.sum_append]
  have hstep : ∀ c, (s.ents.take (c + 1)).sum ≤ (s.ents.take c).sum + 222 := by
    intro c
    rw [List.take_add_one, List.sum_append]
    have := ents_at_le h hl (i := c)
    rw [List.getD_eq_getElem?_getD] at this
    cases hc : s.ents[c]? with
    | none => simp
    | some x => rw [hc] at this; simp at this ⊢; exact this
  have hh := hN_pos h (by omega)
  have hb := hN_before (es := s.ents) (c := hN s.ents - 1) (by omega)
  have ha := hN_at (es := s.ents)
  have hs1 := hstep (hN s.ents - 1)
  rw [show hN s.ents - 1 + 1 = hN s.ents by omega] at hs1
  have hlt : hN s.ents < s.ents.length := by
    apply Classical.byContradiction
    intro hn
    have : (s.ents.take (hN s.ents)).sum = s.ents.sum := by rw [List.take_of_length_le (by omega)]
    omega
  have hat : s.splitAt = hN s.ents := by unfold splitAt; rw [hg]; omega
  rw [hat] at sL sR hcut
  exact ⟨hmany, by omega, by omega, by omega, by omega⟩
end ND
end Go.Proofs.Ytcdfjaldnelfjaa
