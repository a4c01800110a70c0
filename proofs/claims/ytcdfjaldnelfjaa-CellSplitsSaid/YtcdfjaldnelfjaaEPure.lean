/-
  Plain facts on entries of nodes: where a key stands, an entry laid or taken out, a node in two parts, two nodes joined, other kids. Nothing here names the program.
-/
import Derived.Test.YtcdfjaldnelfjaaNPure
namespace Go.Proofs.Ytcdfjaldnelfjaa

/-! ### The head of a list -/

theorem tw_all {α : Type} {p : α → Bool} : ∀ (l : List α) (i : Nat) (t : α), i < (l.takeWhile p).length → l[i]? = some t → p t = true
  | [], i, t, h, _ => by simp at h
  | x :: l, i, t, h, ht => by
    rw [List.takeWhile_cons] at h
    cases hx : p x with
    | false => rw [hx] at h; simp at h
    | true =>
      rw [hx] at h
      cases i with
      | zero =>
        obtain rfl : x = t := by simpa using ht
        exact hx
      | succ i => exact tw_all l i t (by simpa using h) (by simpa using ht)
theorem tw_stop {α : Type} {p : α → Bool} : ∀ (l : List α) (t : α), l[(l.takeWhile p).length]? = some t → p t = false
  | [], t, h => by simp at h
  | x :: l, t, h => by
    rw [List.takeWhile_cons] at h
    cases hx : p x with
    | false =>
      rw [hx] at h
      obtain rfl : x = t := by simpa using h
      exact hx
    | true =>
      rw [hx] at h
      exact tw_stop l t (by simpa using h)
theorem tw_le {α : Type} (p : α → Bool) (l : List α) : (l.takeWhile p).length ≤ l.length := (List.takeWhile_sublist p).length_le
theorem tw_of {α : Type} {p : α → Bool} : ∀ (l : List α) (r : Nat), r ≤ l.length → (∀ i t, i < r → l[i]? = some t → p t = true) → (∀ t, l[r]? = some t → p t = false) → r = (l.takeWhile p).length
  | [], r, h, _, _ => by simp at h; simp [h]
  | x :: l, r, h, h1, h2 => by
    rw [List.takeWhile_cons]
    cases r with
    | zero =>
      rw [h2 x (by simp)]
      rfl
    | succ r =>
      rw [h1 0 x (by omega) (by simp)]
      have := tw_of l r (by simpa using h) (fun i t hi ht => h1 (i + 1) t (by omega) (by simpa using ht)) (fun t ht => h2 t (by simpa using ht))
      simp [← this]

namespace ND
/-- How many texts at the head are before k; whether the next one is it; how many are k or before it. -/
def findN (k : List UInt8) (l : List (List UInt8)) : Nat := (l.takeWhile (fun t => Op.bytesLess t k)).length
def isAt (k : List UInt8) (l : List (List UInt8)) : Bool := decide (l[findN k l]? = some k)
def kidN (k : List UInt8) (l : List (List UInt8)) : Nat := (l.takeWhile (fun t => !Op.bytesLess k t)).length
theorem findN_le (k : List UInt8) (l : List (List UInt8)) : findN k l ≤ l.length := tw_le _ _
theorem kidN_le (k : List UInt8) (l : List (List UInt8)) : kidN k l ≤ l.length := tw_le _ _
theorem isAt_iff {k : List UInt8} {l : List (List UInt8)} : isAt k l = true ↔ l[findN k l]? = some k := by unfold isAt; rw [decide_eq_true_eq]
theorem isAt_lt {k : List UInt8} {l : List (List UInt8)} (h : isAt k l = true) : findN k l < l.length := (List.getElem?_eq_some_iff.1 (isAt_iff.1 h)).1
theorem isAt_end {k : List UInt8} {l : List (List UInt8)} (h : ¬ findN k l < l.length) : isAt k l = false := by
  cases hc : isAt k l with
  | false => rfl
  | true => exact absurd (isAt_lt hc) h

/-- Keys that rise stand in order. -/
theorem rise_head : ∀ (p : List UInt8) (l : List (List UInt8)), rise p l = true → ∀ t ∈ l, Op.bytesLess p t = true
  | _, [], _, t, h => by simp at h
  | p, x :: l, h, t, ht => by
    rw [rise_cons, Bool.and_eq_true, Bool.and_eq_true] at h
    rcases List.mem_cons.1 ht with rfl | ht
    · exact h.1.1
    · exact less_trans p x t h.1.1 (rise_head x l h.2 t ht)
theorem rise_pair : ∀ (p : List UInt8) (l : List (List UInt8)), rise p l = true → ∀ (i j : Nat) (s t : List UInt8), i < j → l[i]? = some s → l[j]? = some t → Op.bytesLess s t = true
  | _, [], _, i, j, s, t, _, hs, _ => by simp at hs
  | p, x :: l, h, i, j, s, t, hij, hs, ht => by
    rw [rise_cons, Bool.and_eq_true, Bool.and_eq_true] at h
    cases j with
    | zero => omega
    | succ j =>
      cases i with
      | zero =>
        obtain rfl : x = s := by simpa using hs
        exact rise_head x l h.2 t (List.mem_of_getElem? (by simpa using ht))
      | succ i => exact rise_pair x l h.2 i j s t (by omega) (by simpa using hs) (by simpa using ht)

/-- Where a key stands, of keys that rise: told by what is before it, and what is not. -/
theorem findN_of {k : List UInt8} {l : List (List UInt8)} {r : Nat} (h : r ≤ l.length) (h1 : ∀ i t, i < r → l[i]? = some t → Op.bytesLess t k = true) (h2 : ∀ t, l[r]? = some t → Op.bytesLess t k = false) : r = findN k l := tw_of l r h h1 h2
theorem kidN_of {k : List UInt8} {l : List (List UInt8)} {r : Nat} (h : r ≤ l.length) (h1 : ∀ i t, i < r → l[i]? = some t → Op.bytesLess k t = false) (h2 : ∀ t, l[r]? = some t → Op.bytesLess k t = true) : r = kidN k l :=
  tw_of l r h (fun i t hi ht => by simp [h1 i t hi ht]) (fun t ht => by simp [h2 t ht])
theorem findN_before {k t : List UInt8} {l : List (List UInt8)} {i : Nat} (hi : i < findN k l) (h : l[i]? = some t) : Op.bytesLess t k = true := tw_all l i t hi h
theorem findN_not {k t : List UInt8} {l : List (List UInt8)} (h : l[findN k l]? = some t) : Op.bytesLess t k = false := tw_stop l t h
theorem kidN_before {k t : List UInt8} {l : List (List UInt8)} {i : Nat} (hi : i < kidN k l) (h : l[i]? = some t) : Op.bytesLess k t = false := by
  have := tw_all (p := fun t => !Op.bytesLess k t) l i t hi h
  simpa using this
theorem kidN_behind {k t : List UInt8} {l : List (List UInt8)} (h : l[kidN k l]? = some t) : Op.bytesLess k t = true := by
  have := tw_stop (p := fun t => !Op.bytesLess k t) l t h
  simpa using this

/-- A key that is among keys that rise is found. -/
theorem findN_at {p k : List UInt8} {l : List (List UInt8)} {j : Nat} (h : rise p l = true) (hj : l[j]? = some k) : findN k l = j :=
  (findN_of (Nat.le_of_lt (List.getElem?_eq_some_iff.1 hj).1) (fun i t hi ht => rise_pair p l h i j t k hi ht hj) (fun t ht => by
    rw [hj] at ht
    obtain rfl := Option.some.inj ht
    exact less_irrefl k)).symm
theorem isAt_mem {p k : List UInt8} {l : List (List UInt8)} (h : rise p l = true) : isAt k l = true ↔ k ∈ l := by
  constructor
  · intro ha
    exact List.mem_of_getElem? (isAt_iff.1 ha)
  · intro hm
    obtain ⟨j, hj⟩ := List.mem_iff_getElem?.1 hm
    rw [isAt_iff, findN_at h hj]
    exact hj

/-! ### Lists with others in the place of some -/

def rep {α : Type} (l : List α) (f t : Nat) (o : List α) : List α := l.take f ++ o ++ l.drop t
theorem rep_length {α : Type} {l o : List α} {f t : Nat} (h : f ≤ t) (ht : t ≤ l.length) : (rep l f t o).length + (t - f) = l.length + o.length := by
  unfold rep
  rw [List.length_append, List.length_append, List.length_take, List.length_drop]
  omega

/-- The leaf with an entry laid. -/
def put (s : ND) (k v : List UInt8) : ND :=
  let b := if isAt k s.keys then findN k s.keys + 1 else findN k s.keys
  ⟨true, rep s.keys (findN k s.keys) b [k], rep s.vals (findN k s.keys) b [v], []⟩
def removed (s : ND) (k : List UInt8) : ND := ⟨true, rep s.keys (findN k s.keys) (findN k s.keys + 1) [], rep s.vals (findN k s.keys) (findN k s.keys + 1) [], []⟩
/-- The leaf with an entry taken out, if it is there. -/
def remove (s : ND) (k : List UInt8) : ND := if isAt k s.keys then s.removed k else s

theorem put_new {s : ND} {k : List UInt8} (v : List UInt8) (h : isAt k s.keys = false) : s.put k v = ⟨true, rep s.keys (findN k s.keys) (findN k s.keys) [k], rep s.vals (findN k s.keys) (findN k s.keys) [v], []⟩ := by
  unfold put
  rw [h]
  rfl
theorem put_old {s : ND} {k : List UInt8} (v : List UInt8) (h : isAt k s.keys = true) : s.put k v = ⟨true, rep s.keys (findN k s.keys) (findN k s.keys + 1) [k], rep s.vals (findN k s.keys) (findN k s.keys + 1) [v], []⟩ := by
  unfold put
  rw [h]
  rfl
theorem remove_old {s : ND} {k : List UInt8} (h : isAt k s.keys = true) : s.remove k = s.removed k := by unfold remove; rw [h]; rfl
theorem remove_new {s : ND} {k : List UInt8} (h : isAt k s.keys = false) : s.remove k = s := by unfold remove; rw [h]; rfl

/-- What is taken out first is not in the way of what is laid. -/
theorem rep_rep {α : Type} {l o : List α} {f t : Nat} (h : f ≤ t) (ht : t ≤ l.length) : rep (rep l f t []) f f o = rep l f t o := by
  unfold rep
  have e : (l.take f).length = f := by rw [List.length_take]; omega
  rw [List.append_nil, List.take_left' e, List.drop_left' e]

/-! ### Entries -/

def ents (s : ND) : List Nat := if s.leaf then List.zipWith (fun k v => 2 + k.length + v.length) s.keys s.vals else s.keys.map (fun k => 5 + k.length)
/-- How few of the first ones have no less than half. -/
def hN (es : List Nat) : Nat := ((List.range es.length).takeWhile (fun c => decide (2 * (es.take c).sum < es.sum))).length
theorem hN_le (es : List Nat) : hN es ≤ es.length := by
  have := tw_le (fun c => decide (2 * (es.take c).sum < es.sum)) (List.range es.length)
  simpa [hN] using this
theorem hN_of {es : List Nat} {r : Nat} (h : r ≤ es.length) (h1 : ∀ c, c < r → 2 * (es.take c).sum < es.sum) (h2 : r < es.length → ¬ 2 * (es.take r).sum < es.sum) : r = hN es := by
  refine tw_of (List.range es.length) r (by simpa using h) (fun i t hi ht => ?_) (fun t ht => ?_)
  · obtain ⟨_, e⟩ := List.getElem?_eq_some_iff.1 ht
    obtain rfl : i = t := by simpa using e
    exact decide_eq_true (h1 i hi)
  · obtain ⟨hlt, e⟩ := List.getElem?_eq_some_iff.1 ht
    obtain rfl : r = t := by simpa using e
    exact decide_eq_false (h2 (by simpa using hlt))
theorem hN_before {es : List Nat} {c : Nat} (h : c < hN es) : 2 * (es.take c).sum < es.sum := by
  have hl : c < es.length := Nat.lt_of_lt_of_le h (hN_le es)
  have := tw_all (p := fun c => decide (2 * (es.take c).sum < es.sum)) (List.range es.length) c c h (by simp [hl])
  exact of_decide_eq_true this
theorem hN_at {es : List Nat} : ¬ 2 * (es.take (hN es)).sum < es.sum := by
  by_cases hl : hN es < es.length
  · have := tw_stop (p := fun c => decide (2 * (es.take c).sum < es.sum)) (List.range es.length) (hN es) (by show (List.range es.length)[hN es]? = _; simp [hl])
    exact of_decide_eq_false this
  · rw [List.take_of_length_le (by omega)]
    omega
theorem ents_leaf {s : ND} (h : s.leaf = true) : s.ents = List.zipWith (fun k v => 2 + k.length + v.length) s.keys s.vals := by unfold ents; rw [h]; rfl
theorem ents_inner {s : ND} (h : s.leaf = false) : s.ents = s.keys.map (fun k => 5 + k.length) := by unfold ents; rw [h]; rfl
theorem ents_length {s : ND} (h : s.ok = true) : s.ents.length = s.keys.length := by
  cases hl : s.leaf with
  | true =>
    rw [ents_leaf hl, List.length_zipWith, (ok_leaf h hl).1]
    omega
  | false => rw [ents_inner hl, List.length_map]

/-! ### Two parts -/

def gone (s : ND) : Nat := if s.leaf then 0 else 1
def splitE (s : ND) : Int := if s.keys.length < 2 + s.gone then 100 else 0
def splitAt (s : ND) : Nat := min (hN s.ents) (s.keys.length - s.gone - 1)
def splitL (s : ND) : ND := if s.keys.length < 2 + s.gone then zero else ⟨s.leaf, s.keys.take s.splitAt, s.vals.take s.splitAt, s.kids.take (s.splitAt + 1)⟩
def splitR (s : ND) : ND := if s.keys.length < 2 + s.gone then zero else ⟨s.leaf, s.keys.drop (s.splitAt + s.gone), s.vals.drop s.splitAt, s.kids.drop (s.splitAt + 1)⟩
def splitK (s : ND) : List UInt8 := if s.keys.length < 2 + s.gone then [] else s.keys.getD s.splitAt []
theorem split_no {s : ND} (h : s.keys.length < 2 + s.gone) : s.splitE = 100 ∧ s.splitL = zero ∧ s.splitR = zero ∧ s.splitK = [] := by
  unfold splitE splitL splitR splitK
  rw [if_pos h, if_pos h, if_pos h, if_pos h]
  exact ⟨rfl, rfl, rfl, rfl⟩
theorem split_yes {s : ND} (h : ¬ s.keys.length < 2 + s.gone) : s.splitE = 0 ∧ s.splitL = ⟨s.leaf, s.keys.take s.splitAt, s.vals.take s.splitAt, s.kids.take (s.splitAt + 1)⟩ ∧
    s.splitR = ⟨s.leaf, s.keys.drop (s.splitAt + s.gone), s.vals.drop s.splitAt, s.kids.drop (s.splitAt + 1)⟩ ∧ s.splitK = s.keys.getD s.splitAt [] := by
  unfold splitE splitL splitR splitK
  rw [if_neg h, if_neg h, if_neg h, if_neg h]
  exact ⟨rfl, rfl, rfl, rfl⟩
theorem splitAt_lt {s : ND} (h : ¬ s.keys.length < 2 + s.gone) : s.splitAt + s.gone < s.keys.length := by
  unfold splitAt
  omega

/-- Two nodes joined. -/
def join (l : ND) (k : List UInt8) (r : ND) : ND := ⟨l.leaf, l.keys ++ (if l.leaf then [] else [k]) ++ r.keys, l.vals ++ r.vals, l.kids ++ r.kids⟩
/-- An inner node with other kids. -/
def mayR (s : ND) (f t : Int) (kids : List Int) (keys : List (List UInt8)) : Bool := decide (0 ≤ f) && (decide (f < t) && (decide (t ≤ s.kids.length) && decide (keys.length + 1 = kids.length)))
def replace (s : ND) (f t : Int) (kids : List Int) (keys : List (List UInt8)) : ND :=
  if s.mayR f t kids keys then ⟨s.leaf, rep s.keys f.toNat (t.toNat - 1) keys, s.vals, rep s.kids f.toNat t.toNat kids⟩ else s
end ND
end Go.Proofs.Ytcdfjaldnelfjaa
