/-
  The plain lists of pages: what each call answers, and what becomes of them. Nothing here names the program.
-/
namespace Go.Proofs.Ytcdfjaldnelfjaa

/-- Pages' lists: the least page that was never used, the free ones, those that pend with their epochs. -/
structure SS where
  hi : Int
  fr : List Int
  pe : List (Int × Int)

namespace SS
def none : SS := ⟨0, [], []⟩
def may (s : SS) (p : Int) : Bool := decide (2 ≤ p ∧ p < s.hi)
def known (s : SS) (p : Int) : Bool := decide (p ∈ s.fr) || decide (p ∈ s.pe.map (·.2))
def last (s : SS) : Int := (s.pe.getLast?.map (·.1)).getD 0

/-- Lists that may be (P8.1). -/
structure Fine (s : SS) (top : Int) : Prop where
  lo : 2 ≤ s.hi
  hi : s.hi ≤ top
  up : s.fr.Pairwise (· < ·)
  inF : ∀ p ∈ s.fr, 2 ≤ p ∧ p < s.hi
  ups : s.pe.Pairwise (fun x y => x.1 ≤ y.1)
  pos : ∀ x ∈ s.pe, 0 ≤ x.1
  inP : ∀ x ∈ s.pe, 2 ≤ x.2 ∧ x.2 < s.hi
  out : ∀ x ∈ s.pe, x.2 ∉ s.fr
  once : (s.pe.map (·.2)).Nodup

open Classical in
noncomputable def check (s : SS) (top : Int) : Int := if Fine s top then 0 else 80

/-- A page at its place: ahead of the first one that is not less. -/
def ins (p : Int) : List Int → List Int
  | [] => [p]
  | x :: l => if x < p then x :: ins p l else p :: x :: l

/-- P8.2: an error or OK, the page, what is left. -/
def take (s : SS) (top : Int) : Int × Int × SS :=
  match s.fr with
  | p :: l => (0, p, { s with fr := l })
  | [] => if s.hi < top then (0, s.hi, { s with hi := s.hi + 1 }) else (81, 0, none)
/-- P8.3 -/
def giveBad (s : SS) (e p : Int) : Bool := !s.may p || s.known p || decide (e < 0) || decide (e < s.last)
def give (s : SS) (e p : Int) : Int × SS := if s.giveBad e p then (1, none) else (0, { s with pe := s.pe ++ [(e, p)] })
def backBad (s : SS) (p : Int) : Bool := !s.may p || s.known p
def back (s : SS) (p : Int) : Int × SS := if s.backBad p then (1, none) else (0, { s with fr := ins p s.fr })
/-- P8.4: how many go, at most so many. -/
def count (e : Int) : Nat → List (Int × Int) → Nat
  | 0, _ => 0
  | _ + 1, [] => 0
  | b + 1, x :: l => if x.1 ≤ e then count e b l + 1 else 0
def insAll : List (Int × Int) → List Int → List Int
  | [], f => f
  | x :: l, f => insAll l (ins x.2 f)
def reclaim (s : SS) (e : Int) (b : Nat) : SS × Nat :=
  ({ s with fr := insAll (s.pe.take (count e b s.pe)) s.fr, pe := s.pe.drop (count e b s.pe) }, count e b s.pe)
/-- P8.5: the numbers, and their parts. -/
def pairs : List (Int × Int) → List Int
  | [] => []
  | x :: l => x.1 :: x.2 :: pairs l
def nums (s : SS) : List Int := s.hi :: (s.fr.length : Int) :: (s.fr ++ (s.pe.length : Int) :: pairs s.pe)
/-- Cut in pieces of so many, the last one perhaps shorter; with g pieces at most. -/
def cut (m : Nat) : Nat → List Int → List (List Int)
  | 0, _ => []
  | g + 1, l => if l = [] then [] else l.take m :: cut m g (l.drop m)

theorem ins_mem (p q : Int) : ∀ l, q ∈ ins p l ↔ q = p ∨ q ∈ l
  | [] => by simp [ins]
  | x :: l => by
    unfold ins
    split
    · rw [List.mem_cons, ins_mem p q l, List.mem_cons]
      constructor
      · rintro (h | h | h)
        · exact Or.inr (Or.inl h)
        · exact Or.inl h
        · exact Or.inr (Or.inr h)
      · rintro (h | h | h)
        · exact Or.inr (Or.inl h)
        · exact Or.inl h
        · exact Or.inr (Or.inr h)
    · rw [List.mem_cons]
theorem ins_length (p : Int) : ∀ l, (ins p l).length = l.length + 1
  | [] => rfl
  | x :: l => by
    unfold ins
    split
    · rw [List.length_cons, ins_length p l, List.length_cons]
    · rfl
theorem ins_up (p : Int) : ∀ l, l.Pairwise (· < ·) → p ∉ l → (ins p l).Pairwise (· < ·)
  | [], _, _ => by simp [ins]
  | x :: l, h, hp => by
    obtain ⟨h1, h2⟩ := List.pairwise_cons.1 h
    have hx : p ≠ x := fun e => hp (by simp [e])
    have hl : p ∉ l := fun e => hp (by simp [e])
    unfold ins
    split
    · rename_i hlt
      refine List.pairwise_cons.2 ⟨fun y hy => ?_, ins_up p l h2 hl⟩
      rcases (ins_mem p y l).1 hy with e | e
      · omega
      · exact h1 y e
    · rename_i hlt
      refine List.pairwise_cons.2 ⟨fun y hy => ?_, h⟩
      rcases List.mem_cons.1 hy with e | e
      · omega
      · have := h1 y e
        omega

theorem known_iff (s : SS) (p : Int) : s.known p = true ↔ p ∈ s.fr ∨ p ∈ s.pe.map (·.2) := by
  unfold known
  simp
theorem known_no {s : SS} {p : Int} (h : s.known p = false) : p ∉ s.fr ∧ p ∉ s.pe.map (·.2) := by
  refine ⟨fun e => ?_, fun e => ?_⟩
  · rw [(s.known_iff p).2 (Or.inl e)] at h
    cases h
  · rw [(s.known_iff p).2 (Or.inr e)] at h
    cases h

section
variable {s : SS} {top : Int}

theorem check_ok (h : Fine s top) : s.check top = 0 := by unfold check; rw [if_pos h]
theorem check_bad (h : ¬ Fine s top) : s.check top = 80 := by unfold check; rw [if_neg h]
theorem check_fine (h : s.check top = 0) : Fine s top := by
  unfold check at h
  split at h
  · assumption
  · cases h

/-- What Take leaves. -/
theorem Fine.take (h : Fine s top) (he : (s.take top).1 = 0) :
    Fine (s.take top).2.2 top ∧ (s.take top).2.2.known (s.take top).2.1 = false ∧ 2 ≤ (s.take top).2.1 ∧ (s.take top).2.1 < (s.take top).2.2.hi ∧
    ((s.take top).2.2.hi = s.hi ∧ (s.take top).2.2.fr.length + 1 = s.fr.length ∨ (s.take top).2.2.hi = s.hi + 1 ∧ s.fr = [] ∧ (s.take top).2.2.fr = []) ∧ (s.take top).2.2.pe = s.pe := by
  unfold SS.take at he ⊢
  cases hf : s.fr with
  | cons p l =>
    have h1 := h.up
    have h2 := h.inF
    have h3 := h.out
    rw [hf] at h1 h2 h3
    obtain ⟨u1, u2⟩ := List.pairwise_cons.1 h1
    simp only
    refine ⟨⟨h.lo, h.hi, u2, fun q hq => h2 q (by simp [hq]), h.ups, h.pos, h.inP, fun x hx e => h3 x hx (by simp [e]), h.once⟩, ?_, (h2 p (by simp)).1, (h2 p (by simp)).2, Or.inl ⟨trivial, by simp⟩, trivial⟩
    cases hk : SS.known { s with fr := l } p with
    | false => rfl
    | true =>
      rcases (SS.known_iff _ p).1 hk with e | e
      · have := u1 p e
        omega
      · obtain ⟨x, hx, hxp⟩ := List.mem_map.1 e
        exact absurd (show x.2 ∈ p :: l by rw [hxp]; simp) (h3 x hx)
  | nil =>
    rw [hf] at he
    simp only at he ⊢
    by_cases hlt : s.hi < top
    · have hlo := h.lo
      rw [if_pos hlt]
      refine ⟨⟨by show 2 ≤ s.hi + 1; omega, by show s.hi + 1 ≤ top; omega, List.Pairwise.nil, fun q hq => (by cases hq), h.ups, h.pos, fun x hx => ?_, fun x _ hq => (by cases hq), h.once⟩, ?_, hlo, by show s.hi < s.hi + 1; omega, Or.inr ⟨rfl, trivial, rfl⟩, rfl⟩
      · have := h.inP x hx
        show 2 ≤ x.2 ∧ x.2 < s.hi + 1
        omega
      · show SS.known ⟨s.hi + 1, [], s.pe⟩ s.hi = false
        cases hk : SS.known ⟨s.hi + 1, [], s.pe⟩ s.hi with
        | false => rfl
        | true =>
          rcases (SS.known_iff _ s.hi).1 hk with e | e
          · cases e
          · obtain ⟨x, hx, hxp⟩ := List.mem_map.1 e
            have := h.inP x hx
            omega
    · rw [if_neg hlt] at he
      cases he

/-- What Give leaves. -/
theorem Fine.give (h : Fine s top) {e p : Int} (hb : s.giveBad e p = false) : Fine { s with pe := s.pe ++ [(e, p)] } top := by
  unfold giveBad at hb
  simp only [Bool.or_eq_false_iff, Bool.not_eq_false', decide_eq_false_iff_not] at hb
  obtain ⟨⟨⟨b1, b2⟩, b3⟩, b4⟩ := hb
  obtain ⟨k1, k2⟩ := known_no b2
  have b1' : 2 ≤ p ∧ p < s.hi := of_decide_eq_true b1
  have hl : ∀ x ∈ s.pe, x.1 ≤ e := fun x hx => by
    unfold SS.last at b4
    have hne : s.pe ≠ [] := List.ne_nil_of_mem hx
    rw [List.getLast?_eq_some_getLast hne] at b4
    simp only [Option.map_some, Option.getD_some] at b4
    have : x.1 ≤ (s.pe.getLast hne).1 := by
      obtain ⟨i, hi, rfl⟩ := List.mem_iff_getElem.1 hx
      rw [List.getLast_eq_getElem]
      by_cases e1 : i = s.pe.length - 1
      · subst e1
        exact Int.le_refl _
      · exact List.pairwise_iff_getElem.1 h.ups i (s.pe.length - 1) hi (by omega) (by omega)
    omega
  refine ⟨h.lo, h.hi, h.up, h.inF, ?_, fun x hx => ?_, fun x hx => ?_, fun x hx => ?_, ?_⟩
  · refine List.pairwise_append.2 ⟨h.ups, by simp, fun x hx y hy => ?_⟩
    obtain rfl : y = (e, p) := by simpa using hy
    exact hl x hx
  · rcases List.mem_append.1 hx with e1 | e1
    · exact h.pos x e1
    · obtain rfl : x = (e, p) := by simpa using e1
      show 0 ≤ e
      omega
  · rcases List.mem_append.1 hx with e1 | e1
    · exact h.inP x e1
    · obtain rfl : x = (e, p) := by simpa using e1
      exact b1'
  · rcases List.mem_append.1 hx with e1 | e1
    · exact h.out x e1
    · obtain rfl : x = (e, p) := by simpa using e1
      exact k1
  · rw [List.map_append]
    refine List.nodup_append.2 ⟨h.once, by simp, fun x hx y hy => ?_⟩
    obtain rfl : y = p := by simpa using hy
    exact fun e1 => k2 (by rw [← e1]; exact hx)

/-- What Back leaves. -/
theorem Fine.back (h : Fine s top) {p : Int} (hb : s.backBad p = false) : Fine { s with fr := ins p s.fr } top := by
  unfold backBad at hb
  simp only [Bool.or_eq_false_iff, Bool.not_eq_false'] at hb
  obtain ⟨k1, k2⟩ := known_no hb.2
  have b1 : 2 ≤ p ∧ p < s.hi := of_decide_eq_true hb.1
  refine ⟨h.lo, h.hi, ins_up p _ h.up k1, fun q hq => ?_, h.ups, h.pos, h.inP, fun x hx e => ?_, h.once⟩
  · rcases (ins_mem p q _).1 hq with e | e
    · rw [e]
      exact b1
    · exact h.inF q e
  · rcases (ins_mem p x.2 _).1 e with e1 | e1
    · exact k2 (List.mem_map.2 ⟨x, hx, e1⟩)
    · exact h.out x hx e1

/-- The first one of Pending goes to Free. -/
theorem Fine.first (h : Fine s top) {x : Int × Int} {l : List (Int × Int)} (hp : s.pe = x :: l) : Fine { s with fr := ins x.2 s.fr, pe := l } top := by
  have h1 := h.ups
  have h2 := h.pos
  have h3 := h.inP
  have h4 := h.out
  have h5 := h.once
  rw [hp] at h1 h2 h3 h4 h5
  rw [List.map_cons] at h5
  obtain ⟨u1, u2⟩ := List.pairwise_cons.1 h1
  obtain ⟨n1, n2⟩ := List.nodup_cons.1 h5
  refine ⟨h.lo, h.hi, ins_up _ _ h.up (h4 x (by simp)), fun q hq => ?_, u2, fun y hy => h2 y (by simp [hy]), fun y hy => h3 y (by simp [hy]), fun y hy e => ?_, n2⟩
  · rcases (ins_mem _ q _).1 hq with e | e
    · rw [e]
      exact h3 x (by simp)
    · exact h.inF q e
  · rcases (ins_mem _ y.2 _).1 e with e1 | e1
    · exact n1 (List.mem_map.2 ⟨y, hy, e1⟩)
    · exact h4 y (by simp [hy]) e1
end

theorem insAll_length : ∀ (l : List (Int × Int)) (f : List Int), (insAll l f).length = f.length + l.length
  | [], f => rfl
  | x :: l, f => by
    unfold insAll
    rw [insAll_length l, ins_length, List.length_cons]
    omega
theorem insAll_mem (q : Int) : ∀ (l : List (Int × Int)) (f : List Int), q ∈ insAll l f ↔ q ∈ f ∨ q ∈ l.map (·.2)
  | [], f => by simp [insAll]
  | x :: l, f => by
    unfold insAll
    rw [insAll_mem q l, ins_mem, List.map_cons, List.mem_cons]
    constructor
    · rintro ((h | h) | h)
      · exact Or.inr (Or.inl h)
      · exact Or.inl h
      · exact Or.inr (Or.inr h)
    · rintro (h | h | h)
      · exact Or.inl (Or.inr h)
      · exact Or.inl (Or.inl h)
      · exact Or.inr h
theorem count_le (e : Int) : ∀ (b : Nat) (l : List (Int × Int)), count e b l ≤ l.length ∧ count e b l ≤ b
  | 0, _ => ⟨Nat.zero_le _, Nat.zero_le _⟩
  | _ + 1, [] => ⟨Nat.zero_le _, Nat.zero_le _⟩
  | b + 1, x :: l => by
    unfold count
    split
    · have := count_le e b l
      rw [List.length_cons]
      omega
    · exact ⟨Nat.zero_le _, Nat.zero_le _⟩
/-- With a budget for all, those of an epoch that is late enough go all. -/
theorem count_all {e : Int} : ∀ {b : Nat} {l : List (Int × Int)}, l.length ≤ b → (∀ x ∈ l, x.1 ≤ e) → count e b l = l.length
  | 0, [], _, _ => rfl
  | _ + 1, [], _, _ => rfl
  | 0, _ :: _, h, _ => absurd h (by simp)
  | b + 1, x :: l, h, hx => by
    unfold count
    rw [if_pos (hx x (by simp)), count_all (by simpa using h) (fun y hy => hx y (by simp [hy])), List.length_cons]
/-- Whatever goes is of an epoch that is not too late. -/
theorem count_took {e : Int} : ∀ {b : Nat} {l : List (Int × Int)}, ∀ x ∈ l.take (count e b l), x.1 ≤ e
  | 0, l, x, hx => by
    unfold count at hx
    simp at hx
  | _ + 1, [], x, hx => by simp at hx
  | b + 1, y :: l, x, hx => by
    unfold count at hx
    split at hx
    · rename_i h
      rw [List.take_succ_cons] at hx
      rcases List.mem_cons.1 hx with e1 | e1
      · rw [e1]
        exact h
      · exact count_took x e1
    · simp at hx

/-- So many of Pending go to Free. -/
theorem Fine.took {top : Int} : ∀ (n : Nat) (s : SS), Fine s top → Fine { s with fr := insAll (s.pe.take n) s.fr, pe := s.pe.drop n } top
  | 0, s, h => by
    simp only [List.take_zero, List.drop_zero]
    exact h
  | n + 1, s, h => by
    rcases hp : s.pe with _ | ⟨x, l⟩
    · simp only [List.take_nil, List.drop_nil]
      have := h
      rw [show s = { s with pe := [] } by rw [← hp]] at this
      exact this
    · have := Fine.took n _ (h.first hp)
      simp only [List.take_succ_cons, List.drop_succ_cons]
      exact this
theorem Fine.reclaim {s : SS} {top : Int} (h : Fine s top) (e : Int) (b : Nat) : Fine (s.reclaim e b).1 top ∧ (s.reclaim e b).1.fr.length = s.fr.length + (s.reclaim e b).2 ∧ (s.reclaim e b).1.pe.length = s.pe.length - (s.reclaim e b).2 := by
  refine ⟨Fine.took _ s h, ?_, ?_⟩
  · show (insAll (s.pe.take (count e b s.pe)) s.fr).length = s.fr.length + count e b s.pe
    rw [insAll_length, List.length_take, Nat.min_eq_left (count_le e b s.pe).1]
  · show (s.pe.drop (count e b s.pe)).length = s.pe.length - count e b s.pe
    rw [List.length_drop]
end SS
end Go.Proofs.Ytcdfjaldnelfjaa
