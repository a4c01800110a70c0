/-
  A part of the proof: what its texts say stands at the head of each. Conditions: none.
-/
import Derived.Lib.SmallJoins
import Derived.Deep.Cut
import Derived.Deep.RegionLaw
import Derived.Deep.AppendLies
import Derived.Test.YtnmiccagkfpkiaaGreatZD1

/-
  The plain lists of pages: what each call answers, and what becomes of them. Nothing here names the program.
-/
namespace Go.Proofs.YtnmiccagkfpkiaaGreat

/-- Pages' lists: the least page that was never used, the free ones, those that pend with their epochs. -/
structure SS where
  hi : Int
  fr : List Int
  pe : List (Int × Int)

namespace SS
def none : SS := ⟨0, [], []⟩
def may (s : SS) (p : Int) : Bool := decide (2 ≤ p ∧ p < s.hi)
def known (s : SS) (p : Int) : Bool := decide (p ∈ s.fr) || decide (p ∈ s.pe.map (·.2))
def last (s : SS) : Int := (s.pe.getLast?.map (·.1)).getD 0

/-- Lists that may be (P8.1). -/
structure Fine (s : SS) (top : Int) : Prop where
  lo : 2 ≤ s.hi
  hi : s.hi ≤ top
  up : s.fr.Pairwise (· < ·)
  inF : ∀ p ∈ s.fr, 2 ≤ p ∧ p < s.hi
  ups : s.pe.Pairwise (fun x y => x.1 ≤ y.1)
  pos : ∀ x ∈ s.pe, 0 ≤ x.1
  inP : ∀ x ∈ s.pe, 2 ≤ x.2 ∧ x.2 < s.hi
  out : ∀ x ∈ s.pe, x.2 ∉ s.fr
  once : (s.pe.map (·.2)).Nodup

open Classical in
noncomputable def check (s : SS) (top : Int) : Int := if Fine s top then 0 else 80

/-- A page at its place: ahead of the first one that is not less. -/
def ins (p : Int) : List Int → List Int
  | [] => [p]
  | x :: l => if x < p then x :: ins p l else p :: x :: l

/-- P8.2: an error or OK, the page, what is left. -/
def take (s : SS) (top : Int) : Int × Int × SS :=
  match s.fr with
  | p :: l => (0, p, { s with fr := l })
  | [] => if s.hi < top then (0, s.hi, { s with hi := s.hi + 1 }) else (81, 0, none)
/-- P8.3 -/
def giveBad (s : SS) (e p : Int) : Bool := !s.may p || s.known p || decide (e < 0) || decide (e < s.last)
def give (s : SS) (e p : Int) : Int × SS := if s.giveBad e p then (1, none) else (0, { s with pe := s.pe ++ [(e, p)] })
def backBad (s : SS) (p : Int) : Bool := !s.may p || s.known p
def back (s : SS) (p : Int) : Int × SS := if s.backBad p then (1, none) else (0, { s with fr := ins p s.fr })
/-- P8.4: how many go, at most so many. -/
def count (e : Int) : Nat → List (Int × Int) → Nat
  | 0, _ => 0
  | _ + 1, [] => 0
  | b + 1, x :: l => if x.1 ≤ e then count e b l + 1 else 0
def insAll : List (Int × Int) → List Int → List Int
  | [], f => f
  | x :: l, f => insAll l (ins x.2 f)
def reclaim (s : SS) (e : Int) (b : Nat) : SS × Nat :=
  ({ s with fr := insAll (s.pe.take (count e b s.pe)) s.fr, pe := s.pe.drop (count e b s.pe) }, count e b s.pe)
/-- P8.5: the numbers, and their parts. -/
def pairs : List (Int × Int) → List Int
  | [] => []
  | x :: l => x.1 :: x.2 :: pairs l
def nums (s : SS) : List Int := s.hi :: (s.fr.length : Int) :: (s.fr ++ (s.pe.length : Int) :: pairs s.pe)
/-- Cut in pieces of so many, the last one perhaps shorter; with g pieces at most. -/
def cut (m : Nat) : Nat → List Int → List (List Int)
  | 0, _ => []
  | g + 1, l => if l = [] then [] else l.take m :: cut m g (l.drop m)

theorem ins_mem (p q : Int) : ∀ l, q ∈ ins p l ↔ q = p ∨ q ∈ l
  | [] => by simp [ins]
  | x :: l => by
    unfold ins
    split
    · rw [List.mem_cons, ins_mem p q l, List.mem_cons]
      constructor
      · rintro (h | h | h)
        · exact Or.inr (Or.inl h)
        · exact Or.inl h
        · exact Or.inr (Or.inr h)
      · rintro (h | h | h)
        · exact Or.inr (Or.inl h)
        · exact Or.inl h
        · exact Or.inr (Or.inr h)
    · rw [List.mem_cons]
theorem ins_length (p : Int) : ∀ l, (ins p l).length = l.length + 1
  | [] => rfl
  | x :: l => by
    unfold ins
    split
    · rw [List.length_cons, ins_length p l, List.length_cons]
    · rfl
theorem ins_up (p : Int) : ∀ l, l.Pairwise (· < ·) → p ∉ l → (ins p l).Pairwise (· < ·)
  | [], _, _ => by simp [ins]
  | x :: l, h, hp => by
    obtain ⟨h1, h2⟩ := List.pairwise_cons.1 h
    have hx : p ≠ x := fun e => hp (by simp [e])
    have hl : p ∉ l := fun e => hp (by simp [e])
    unfold ins
    split
    · rename_i hlt
      refine List.pairwise_cons.2 ⟨fun y hy => ?_, ins_up p l h2 hl⟩
      rcases (ins_mem p y l).1 hy with e | e
      · omega
      · exact h1 y e
    · rename_i hlt
      refine List.pairwise_cons.2 ⟨fun y hy => ?_, h⟩
      rcases List.mem_cons.1 hy with e | e
      · omega
      · have := h1 y e
        omega

theorem known_iff (s : SS) (p : Int) : s.known p = true ↔ p ∈ s.fr ∨ p ∈ s.pe.map (·.2) := by
  unfold known
  simp
theorem known_no {s : SS} {p : Int} (h : s.known p = false) : p ∉ s.fr ∧ p ∉ s.pe.map (·.2) := by
  refine ⟨fun e => ?_, fun e => ?_⟩
  · rw [(s.known_iff p).2 (Or.inl e)] at h
    cases h
  · rw [(s.known_iff p).2 (Or.inr e)] at h
    cases h

section
variable {s : SS} {top : Int}

theorem check_ok (h : Fine s top) : s.check top = 0 := by unfold check; rw [if_pos h]
theorem check_bad (h : ¬ Fine s top) : s.check top = 80 := by unfold check; rw [if_neg h]
theorem check_fine (h : s.check top = 0) : Fine s top := by
  unfold check at h
  split at h
  · assumption
  · cases h

/-- What Take leaves. -/
theorem Fine.take (h : Fine s top) (he : (s.take top).1 = 0) :
    Fine (s.take top).2.2 top ∧ (s.take top).2.2.known (s.take top).2.1 = false ∧ 2 ≤ (s.take top).2.1 ∧ (s.take top).2.1 < (s.take top).2.2.hi ∧
    ((s.take top).2.2.hi = s.hi ∧ (s.take top).2.2.fr.length + 1 = s.fr.length ∨ (s.take top).2.2.hi = s.hi + 1 ∧ s.fr = [] ∧ (s.take top).2.2.fr = []) ∧ (s.take top).2.2.pe = s.pe := by
  unfold SS.take at he ⊢
  cases hf : s.fr with
  | cons p l =>
    have h1 := h.up
    have h2 := h.inF
    have h3 := h.out
    rw [hf] at h1 h2 h3
    obtain ⟨u1, u2⟩ := List.pairwise_cons.1 h1
    simp only
    refine ⟨⟨h.lo, h.hi, u2, fun q hq => h2 q (by simp [hq]), h.ups, h.pos, h.inP, fun x hx e => h3 x hx (by simp [e]), h.once⟩, ?_, (h2 p (by simp)).1, (h2 p (by simp)).2, Or.inl ⟨trivial, by simp⟩, trivial⟩
    cases hk : SS.known { s with fr := l } p with
    | false => rfl
    | true =>
      rcases (SS.known_iff _ p).1 hk with e | e
      · have := u1 p e
        omega
      · obtain ⟨x, hx, hxp⟩ := List.mem_map.1 e
        exact absurd (show x.2 ∈ p :: l by rw [hxp]; simp) (h3 x hx)
  | nil =>
    rw [hf] at he
    simp only at he ⊢
    by_cases hlt : s.hi < top
    · have hlo := h.lo
      rw [if_pos hlt]
      refine ⟨⟨by show 2 ≤ s.hi + 1; omega, by show s.hi + 1 ≤ top; omega, List.Pairwise.nil, fun q hq => (by cases hq), h.ups, h.pos, fun x hx => ?_, fun x _ hq => (by cases hq), h.once⟩, ?_, hlo, by show s.hi < s.hi + 1; omega, Or.inr ⟨rfl, trivial, rfl⟩, rfl⟩
      · have := h.inP x hx
        show 2 ≤ x.2 ∧ x.2 < s.hi + 1
        omega
      · show SS.known ⟨s.hi + 1, [], s.pe⟩ s.hi = false
        cases hk : SS.known ⟨s.hi + 1, [], s.pe⟩ s.hi with
        | false => rfl
        | true =>
          rcases (SS.known_iff _ s.hi).1 hk with e | e
          · cases e
          · obtain ⟨x, hx, hxp⟩ := List.mem_map.1 e
            have := h.inP x hx
            omega
    · rw [if_neg hlt] at he
      cases he

/-- What Give leaves. -/
theorem Fine.give (h : Fine s top) {e p : Int} (hb : s.giveBad e p = false) : Fine { s with pe := s.pe ++ [(e, p)] } top := by
  unfold giveBad at hb
  simp only [Bool.or_eq_false_iff, Bool.not_eq_false', decide_eq_false_iff_not] at hb
  obtain ⟨⟨⟨b1, b2⟩, b3⟩, b4⟩ := hb
  obtain ⟨k1, k2⟩ := known_no b2
  have b1' : 2 ≤ p ∧ p < s.hi := of_decide_eq_true b1
  have hl : ∀ x ∈ s.pe, x.1 ≤ e := fun x hx => by
    unfold SS.last at b4
    have hne : s.pe ≠ [] := List.ne_nil_of_mem hx
    rw [List.getLast?_eq_some_getLast hne] at b4
    simp only [Option.map_some, Option.getD_some] at b4
    have : x.1 ≤ (s.pe.getLast hne).1 := by
      obtain ⟨i, hi, rfl⟩ := List.mem_iff_getElem.1 hx
      rw [List.getLast_eq_getElem]
      by_cases e1 : i = s.pe.length - 1
      · subst e1
        exact Int.le_refl _
      · exact List.pairwise_iff_getElem.1 h.ups i (s.pe.length - 1) hi (by omega) (by omega)
    omega
  refine ⟨h.lo, h.hi, h.up, h.inF, ?_, fun x hx => ?_, fun x hx => ?_, fun x hx => ?_, ?_⟩
  · refine List.pairwise_append.2 ⟨h.ups, by simp, fun x hx y hy => ?_⟩
    obtain rfl : y = (e, p) := by simpa using hy
    exact hl x hx
  · rcases List.mem_append.1 hx with e1 | e1
    · exact h.pos x e1
    · obtain rfl : x = (e, p) := by simpa using e1
      show 0 ≤ e
      omega
  · rcases List.mem_append.1 hx with e1 | e1
    · exact h.inP x e1
    · obtain rfl : x = (e, p) := by simpa using e1
      exact b1'
  · rcases List.mem_append.1 hx with e1 | e1
    · exact h.out x e1
    · obtain rfl : x = (e, p) := by simpa using e1
      exact k1
  · rw [List.map_append]
    refine List.nodup_append.2 ⟨h.once, by simp, fun x hx y hy => ?_⟩
    obtain rfl : y = p := by simpa using hy
    exact fun e1 => k2 (by rw [← e1]; exact hx)

/-- What Back leaves. -/
theorem Fine.back (h : Fine s top) {p : Int} (hb : s.backBad p = false) : Fine { s with fr := ins p s.fr } top := by
  unfold backBad at hb
  simp only [Bool.or_eq_false_iff, Bool.not_eq_false'] at hb
  obtain ⟨k1, k2⟩ := known_no hb.2
  have b1 : 2 ≤ p ∧ p < s.hi := of_decide_eq_true hb.1
  refine ⟨h.lo, h.hi, ins_up p _ h.up k1, fun q hq => ?_, h.ups, h.pos, h.inP, fun x hx e => ?_, h.once⟩
  · rcases (ins_mem p q _).1 hq with e | e
    · rw [e]
      exact b1
    · exact h.inF q e
  · rcases (ins_mem p x.2 _).1 e with e1 | e1
    · exact k2 (List.mem_map.2 ⟨x, hx, e1⟩)
    · exact h.out x hx e1

/-- The first one of Pending goes to Free. -/
theorem Fine.first (h : Fine s top) {x : Int × Int} {l : List (Int × Int)} (hp : s.pe = x :: l) : Fine { s with fr := ins x.2 s.fr, pe := l } top := by
  have h1 := h.ups
  have h2 := h.pos
  have h3 := h.inP
  have h4 := h.out
  have h5 := h.once
  rw [hp] at h1 h2 h3 h4 h5
  rw [List.map_cons] at h5
  obtain ⟨u1, u2⟩ := List.pairwise_cons.1 h1
  obtain ⟨n1, n2⟩ := List.nodup_cons.1 h5
  refine ⟨h.lo, h.hi, ins_up _ _ h.up (h4 x (by simp)), fun q hq => ?_, u2, fun y hy => h2 y (by simp [hy]), fun y hy => h3 y (by simp [hy]), fun y hy e => ?_, n2⟩
  · rcases (ins_mem _ q _).1 hq with e | e
    · rw [e]
      exact h3 x (by simp)
    · exact h.inF q e
  · rcases (ins_mem _ y.2 _).1 e with e1 | e1
    · exact n1 (List.mem_map.2 ⟨y, hy, e1⟩)
    · exact h4 y (by simp [hy]) e1
end

theorem insAll_length : ∀ (l : List (Int × Int)) (f : List Int), (insAll l f).length = f.length + l.length
  | [], f => rfl
  | x :: l, f => by
    unfold insAll
    rw [insAll_length l, ins_length, List.length_cons]
    omega
theorem insAll_mem (q : Int) : ∀ (l : List (Int × Int)) (f : List Int), q ∈ insAll l f ↔ q ∈ f ∨ q ∈ l.map (·.2)
  | [], f => by simp [insAll]
  | x :: l, f => by
    unfold insAll
    rw [insAll_mem q l, ins_mem, List.map_cons, List.mem_cons]
    constructor
    · rintro ((h | h) | h)
      · exact Or.inr (Or.inl h)
      · exact Or.inl h
      · exact Or.inr (Or.inr h)
    · rintro (h | h | h)
      · exact Or.inl (Or.inr h)
      · exact Or.inl (Or.inl h)
      · exact Or.inr h
theorem count_le (e : Int) : ∀ (b : Nat) (l : List (Int × Int)), count e b l ≤ l.length ∧ count e b l ≤ b
  | 0, _ => ⟨Nat.zero_le _, Nat.zero_le _⟩
  | _ + 1, [] => ⟨Nat.zero_le _, Nat.zero_le _⟩
  | b + 1, x :: l => by
    unfold count
    split
    · have := count_le e b l
      rw [List.length_cons]
      omega
    · exact ⟨Nat.zero_le _, Nat.zero_le _⟩
/-- With a budget for all, those of an epoch that is late enough go all. -/
theorem count_all {e : Int} : ∀ {b : Nat} {l : List (Int × Int)}, l.length ≤ b → (∀ x ∈ l, x.1 ≤ e) → count e b l = l.length
  | 0, [], _, _ => rfl
  | _ + 1, [], _, _ => rfl
  | 0, _ :: _, h, _ => absurd h (by simp)
  | b + 1, x :: l, h, hx => by
    unfold count
    rw [if_pos (hx x (by simp)), count_all (by simpa using h) (fun y hy => hx y (by simp [hy])), List.length_cons]
/-- Whatever goes is of an epoch that is not too late. -/
theorem count_took {e : Int} : ∀ {b : Nat} {l : List (Int × Int)}, ∀ x ∈ l.take (count e b l), x.1 ≤ e
  | 0, l, x, hx => by
    unfold count at hx
    simp at hx
  | _ + 1, [], x, hx => by simp at hx
  | b + 1, y :: l, x, hx => by
    unfold count at hx
    split at hx
    · rename_i h
      rw [List.take_succ_cons] at hx
      rcases List.mem_cons.1 hx with e1 | e1
      · rw [e1]
        exact h
      · exact count_took x e1
    · simp at hx

/-- So many of Pending go to Free. -/
theorem Fine.took {top : Int} : ∀ (n : Nat) (s : SS), Fine s top → Fine { s with fr := insAll (s.pe.take n) s.fr, pe := s.pe.drop n } top
  | 0, s, h => by
    simp only [List.take_zero, List.drop_zero]
    exact h
  | n + 1, s, h => by
    rcases hp : s.pe with _ | ⟨x, l⟩
    · simp only [List.take_nil, List.drop_nil]
      have := h
      rw [show s = { s with pe := [] } by rw [← hp]] at this
      exact this
    · have := Fine.took n _ (h.first hp)
      simp only [List.take_succ_cons, List.drop_succ_cons]
      exact this
theorem Fine.reclaim {s : SS} {top : Int} (h : Fine s top) (e : Int) (b : Nat) : Fine (s.reclaim e b).1 top ∧ (s.reclaim e b).1.fr.length = s.fr.length + (s.reclaim e b).2 ∧ (s.reclaim e b).1.pe.length = s.pe.length - (s.reclaim e b).2 := by
  refine ⟨Fine.took _ s h, ?_, ?_⟩
  · show (insAll (s.pe.take (count e b s.pe)) s.fr).length = s.fr.length + count e b s.pe
    rw [insAll_length, List.length_take, Nat.min_eq_left (count_le e b s.pe).1]
  · show (s.pe.drop (count e b s.pe)).length = s.pe.length - count e b s.pe
    rw [List.length_drop]
end SS
end Go.Proofs.YtnmiccagkfpkiaaGreat

/-
  Lists of ints, of freed pages and of lists in memory; pages' lists as a value.
-/
namespace Go.Proofs.YtnmiccagkfpkiaaGreat
open Go.RowKit

/-- A list of n elements, of sz cells each, at address A. -/
structure Ln (w : World) (sz : Nat) (A : Option Addr) (n c : Nat) (cs : List Value) : Prop where
  len : cs.length = n * sz
  le : n ≤ c
  lies : Lies w A n c cs

/-- The cells of freed pages. -/
def prVals : List (Int × Int) → List Value
  | [] => []
  | p :: ps => .int .i64 p.1 :: .int .i64 p.2 :: prVals ps
theorem prVals_length : ∀ ps, (prVals ps).length = ps.length * 2
  | [] => rfl
  | p :: ps => by simp only [prVals, List.length_cons, prVals_length ps]; omega
theorem prVals_append : ∀ ps qs, prVals (ps ++ qs) = prVals ps ++ prVals qs
  | [], _ => rfl
  | p :: ps, qs => by simp only [List.cons_append, prVals, prVals_append ps qs]
theorem prVals_at : ∀ (ps : List (Int × Int)) (i : Nat) (p : Int × Int), ps[i]? = some p → (prVals ps)[i * 2]? = some (.int .i64 p.1) ∧ (prVals ps)[i * 2 + 1]? = some (.int .i64 p.2)
  | [], i, p, h => by simp at h
  | x :: ps, 0, p, h => by
    obtain rfl : x = p := by simpa using h
    exact ⟨rfl, rfl⟩
  | x :: ps, i + 1, p, h => by
    have := prVals_at ps i p (by simpa using h)
    have e : (i + 1) * 2 = i * 2 + 1 + 1 := by omega
    rw [e]
    simpa [prVals] using this
theorem prVals_take : ∀ (ps : List (Int × Int)) (k : Nat), (prVals ps).take (k * 2) = prVals (ps.take k)
  | [], k => by simp [prVals]
  | x :: ps, 0 => by simp [prVals]
  | x :: ps, k + 1 => by
    rw [show (k + 1) * 2 = k * 2 + 1 + 1 by omega]
    simp only [prVals, List.take_succ_cons, prVals_take ps k]
theorem prVals_drop : ∀ (ps : List (Int × Int)) (k : Nat), (prVals ps).drop (k * 2) = prVals (ps.drop k)
  | [], k => by simp [prVals]
  | x :: ps, 0 => by simp [prVals]
  | x :: ps, k + 1 => by
    rw [show (k + 1) * 2 = k * 2 + 1 + 1 by omega]
    simp only [prVals, List.drop_succ_cons, prVals_drop ps k]
theorem prVals_one (ps : List (Int × Int)) : ∀ u ∈ prVals ps, u.oneCell' = true := by
  induction ps with
  | nil => intro u hu; simp [prVals] at hu
  | cons p ps ih =>
    intro u hu
    unfold prVals at hu
    rcases List.mem_cons.1 hu with rfl | hu
    · rfl
    · rcases List.mem_cons.1 hu with rfl | hu
      · rfl
      · exact ih u hu
theorem intVals_one (zs : List Int) : ∀ u ∈ intVals zs, u.oneCell' = true := by
  intro u hu
  obtain ⟨b, _, rfl⟩ := List.mem_map.1 hu
  rfl
theorem intVals_length (zs : List Int) : (intVals zs).length = zs.length := List.length_map _
theorem sIntVals_append (a b : List Int) : intVals (a ++ b) = intVals a ++ intVals b := List.map_append

section
variable {w w' : World} {sz : Nat} {A : Option Addr} {n c : Nat} {cs : List Value}
theorem Ln.kept (h : Ln w sz A n c cs) (hb : Below w.heap.size w w') : Ln w' sz A n c cs := ⟨h.len, h.le, h.lies.kept hb⟩
theorem Ln.none_ (w : World) (sz : Nat) : Ln w sz none 0 0 [] := ⟨by simp, Nat.le_refl _, fun _ => ⟨rfl, rfl⟩, fun ad e => (by cases e)⟩
theorem Ln.empty (w : World) (sz : Nat) (ad : Addr) (c : Nat) : Ln w sz (some ad) 0 c [] := ⟨by simp, Nat.zero_le _, fun e => (by cases e), fun ad _ j u hu => by simp at hu⟩

theorem Ln.of_own {base : Nat} {e : TypeId} {v : Value} (h : w.ownsRow base e sz v n cs) : ∃ A c, v = .slice A n c ∧ c ≤ maxLen ∧ Ln w sz A n c cs := by
  have h1 := h.1
  rcases h.2 with ⟨rfl, h0⟩ | ⟨g, cap, cur, rfl, hb, hh, hnc, hm, _⟩
  · subst h0
    obtain rfl : cs = [] := List.eq_nil_of_length_eq_zero (by omega)
    exact ⟨none, 0, rfl, Nat.zero_le _, Ln.none_ w sz⟩
  · refine ⟨_, _, rfl, hm, h1, hnc, fun e => (by cases e), fun ad e j u hu => ?_⟩
    obtain rfl := Option.some.inj e
    exact h.cells (g := g) rfl j u hu

theorem Ln.spot (h : Ln w sz A n c cs) (hn : 0 < cs.length) : ∃ b off, A = some ⟨b, off, none⟩ ∧ b < w.heap.size := by
  rcases A with _ | ⟨b, off, sp⟩
  · obtain ⟨rfl, rfl⟩ := h.lies.1 rfl
    have := h.len
    omega
  · have h0 := h.lies.2 _ rfl 0 cs[0] (by simp [hn])
    have hs : sp = none := by simpa [Addr.add] using World.cell?_spot h0
    subst hs
    rw [addr_add] at h0
    exact ⟨b, off, rfl, World.block_lt_of_cell? _ _ h0⟩

theorem Ln.cell {b off : Nat} (h : Ln w sz (some ⟨b, off, none⟩) n c cs) {j : Nat} {u : Value} (hu : cs[j]? = some u) : w.cell? ⟨b, off + j, none⟩ = some u := by
  have := h.lies.2 _ rfl j u hu
  rw [addr_add] at this
  exact this

theorem Ln.ints {zs : List Int} (h : Ln w 1 A n c (intVals zs)) : Ints w A zs := by
  rcases zs with _ | ⟨z, zs⟩
  · exact Or.inl rfl
  · obtain ⟨b, off, rfl, _⟩ := h.spot (by simp [intVals])
    exact Or.inr ⟨b, off, rfl, fun i z hz => h.cell (by rw [intVals, List.getElem?_map, hz]; rfl)⟩
theorem Ln.intN {zs : List Int} (h : Ln w 1 A n c (intVals zs)) : zs.length = n := by
  have := h.len
  rw [intVals_length] at this
  omega
theorem Ln.prN {ps : List (Int × Int)} (h : Ln w 2 A n c (prVals ps)) : ps.length = n := by
  have := h.len
  rw [prVals_length] at this
  omega
theorem Ln.intAt {zs : List Int} (h : Ln w 1 A n c (intVals zs)) {k : Nat} (hk : k < n) :
    ∃ b off z, A = some ⟨b, off, none⟩ ∧ zs[k]? = some z ∧ w.cell? ⟨b, off + k, none⟩ = some (.int .i64 z) := h.ints.at_ (by rw [h.intN]; exact hk)
theorem Ln.prAt {ps : List (Int × Int)} (h : Ln w 2 A n c (prVals ps)) {k : Nat} (hk : k < n) :
    ∃ b off x y, A = some ⟨b, off, none⟩ ∧ ps[k]? = some (x, y) ∧ w.cell? ⟨b, off + k * 2, none⟩ = some (.int .i64 x) ∧ w.cell? ⟨b, off + k * 2 + 1, none⟩ = some (.int .i64 y) := by
  have hl := h.prN
  obtain ⟨b, off, rfl, _⟩ := h.spot (by rw [prVals_length]; omega)
  have hp : ps[k]? = some ps[k] := List.getElem?_eq_getElem (by omega)
  obtain ⟨h1, h2⟩ := prVals_at ps k _ hp
  exact ⟨b, off, (ps[k]).1, (ps[k]).2, rfl, hp, h.cell h1, h.cell h2⟩

theorem Ln.take (h : Ln w sz A n c cs) {k : Nat} (hk : k ≤ n) : Ln w sz A k c (cs.take (k * sz)) := by
  have hle := h.le
  have hm : k * sz ≤ n * sz := Nat.mul_le_mul_right _ hk
  refine ⟨by rw [List.length_take, h.len]; omega, by omega, fun e => ?_, fun ad e j u hu => h.lies.2 ad e j u ?_⟩
  · obtain ⟨h1, h2⟩ := h.lies.1 e
    omega
  · rw [List.getElem?_take] at hu
    split at hu
    · exact hu
    · cases hu
theorem Ln.drop {b off : Nat} (h : Ln w sz (some ⟨b, off, none⟩) n c cs) {k : Nat} (hk : k ≤ n) : Ln w sz (some ⟨b, off + k * sz, none⟩) (n - k) (c - k) (cs.drop (k * sz)) := by
  have hle := h.le
  refine ⟨by rw [List.length_drop, h.len, Nat.sub_mul], by omega, fun e => (by cases e), fun ad e j u hu => ?_⟩
  obtain rfl := Option.some.inj e
  rw [List.getElem?_drop] at hu
  rw [addr_add, show off + k * sz + j = off + (k * sz + j) by omega]
  exact h.cell hu
theorem Ln.prTake {ps : List (Int × Int)} (h : Ln w 2 A n c (prVals ps)) {k : Nat} (hk : k ≤ n) : Ln w 2 A k c (prVals (ps.take k)) := by
  have := h.take hk
  rw [prVals_take] at this
  exact this
theorem Ln.intTake {zs : List Int} (h : Ln w 1 A n c (intVals zs)) {k : Nat} (hk : k ≤ n) : Ln w 1 A k c (intVals (zs.take k)) := by
  have := h.take hk
  rw [Nat.mul_one, intVals, ← List.map_take] at this
  exact this
theorem Ln.prDrop {b off : Nat} {ps : List (Int × Int)} (h : Ln w 2 (some ⟨b, off, none⟩) n c (prVals ps)) {k : Nat} (hk : k ≤ n) : Ln w 2 (some ⟨b, off + k * 2, none⟩) (n - k) (c - k) (prVals (ps.drop k)) := by
  have := h.drop hk
  rw [prVals_drop] at this
  exact this
theorem Ln.intDrop {b off : Nat} {zs : List Int} (h : Ln w 1 (some ⟨b, off, none⟩) n c (intVals zs)) {k : Nat} (hk : k ≤ n) : Ln w 1 (some ⟨b, off + k, none⟩) (n - k) (c - k) (intVals (zs.drop k)) := by
  have := h.drop hk
  rw [Nat.mul_one, intVals, ← List.map_drop] at this
  exact this
end

/-! ### Lists of lists -/

/-- One list, and where it lies. -/
structure Pc where
  A : Option Addr
  n : Nat
  c : Nat
  cs : List Value

def tot (ps : List Pc) : Nat := (ps.map Pc.n).sum
def pcs (ps : List Pc) : List Value := ps.flatMap Pc.cs
theorem tot_take {ps : List Pc} {k : Nat} {p : Pc} (h : ps[k]? = some p) : tot (ps.take (k + 1)) = tot (ps.take k) + p.n := by
  unfold tot
  rw [List.take_add_one, h, Option.toList_some, List.map_append, List.sum_append]
  simp
theorem pcs_take {ps : List Pc} {k : Nat} {p : Pc} (h : ps[k]? = some p) : pcs (ps.take (k + 1)) = pcs (ps.take k) ++ p.cs := by
  unfold pcs
  rw [List.take_add_one, h, Option.toList_some, List.flatMap_append]
  simp
theorem tot_le (ps : List Pc) (k : Nat) : tot (ps.take k) ≤ tot ps := by
  conv => rhs; rw [← List.take_append_drop k ps]
  unfold tot
  rw [List.map_append, List.sum_append]
  omega

/-- Lists, of elements of sz cells, at address A. -/
def Pile (w : World) (sz : Nat) (A : Option Addr) (ps : List Pc) : Prop :=
  ps = [] ∨ ∃ b off, A = some ⟨b, off, none⟩ ∧ ∀ i p, ps[i]? = some p → w.cell? ⟨b, off + i, none⟩ = some (.slice p.A p.n p.c) ∧ Ln w sz p.A p.n p.c p.cs ∧ ∀ u ∈ p.cs, u.oneCell' = true

section
variable {w w' : World} {sz : Nat} {A : Option Addr}
theorem Pile.kept {ps : List Pc} (h : Pile w sz A ps) (hb : Below w.heap.size w w') : Pile w' sz A ps := by
  rcases h with rfl | ⟨b, off, rfl, hc⟩
  · exact Or.inl rfl
  · refine Or.inr ⟨b, off, rfl, fun i p hp => ?_⟩
    obtain ⟨h1, h2, h3⟩ := hc i p hp
    exact ⟨(hb.cell (p := ⟨b, _, none⟩) (World.block_lt_of_cell? _ _ h1)).trans h1, h2.kept hb, h3⟩
theorem Pile.at_ {ps : List Pc} (h : Pile w sz A ps) {k : Nat} (hk : k < ps.length) :
    ∃ b off p, A = some ⟨b, off, none⟩ ∧ ps[k]? = some p ∧ w.cell? ⟨b, off + k, none⟩ = some (.slice p.A p.n p.c) ∧ Ln w sz p.A p.n p.c p.cs ∧ ∀ u ∈ p.cs, u.oneCell' = true := by
  rcases h with rfl | ⟨b, off, rfl, hc⟩
  · exact absurd hk (by simp)
  · exact ⟨b, off, ps[k], rfl, List.getElem?_eq_getElem hk, hc k _ (List.getElem?_eq_getElem hk)⟩
theorem pile_one {B : Option Addr} {n c : Nat} {cs : List Value} (h : Ln w sz B n c cs) (h1 : ∀ u ∈ cs, u.oneCell' = true) (t : TypeId) : Pile (w.alloc (.cells #[.slice B n c] t)) sz (some ⟨w.heap.size, 0, none⟩) [⟨B, n, c, cs⟩] := by
  refine Or.inr ⟨_, _, rfl, fun i p hp => ?_⟩
  match i, hp with
  | 0, hp =>
    obtain rfl := Option.some.inj hp
    exact ⟨by simp, h.kept (below_one _ _), h1⟩
theorem pile_two {B C : Option Addr} {n c m d : Nat} {cs ds : List Value} (h : Ln w sz B n c cs) (h1 : ∀ u ∈ cs, u.oneCell' = true) (g : Ln w sz C m d ds) (g1 : ∀ u ∈ ds, u.oneCell' = true) (t : TypeId) :
    Pile (w.alloc (.cells #[.slice B n c, .slice C m d] t)) sz (some ⟨w.heap.size, 0, none⟩) [⟨B, n, c, cs⟩, ⟨C, m, d, ds⟩] := by
  refine Or.inr ⟨_, _, rfl, fun i p hp => ?_⟩
  match i, hp with
  | 0, hp =>
    obtain rfl := Option.some.inj hp
    exact ⟨by simp, h.kept (below_one _ _), h1⟩
  | 1, hp =>
    obtain rfl := Option.some.inj hp
    exact ⟨by simp, g.kept (below_one _ _), g1⟩
theorem pile_three {B C D : Option Addr} {n c m d k e : Nat} {cs ds es : List Value} (h : Ln w sz B n c cs) (h1 : ∀ u ∈ cs, u.oneCell' = true) (g : Ln w sz C m d ds) (g1 : ∀ u ∈ ds, u.oneCell' = true) (f : Ln w sz D k e es) (f1 : ∀ u ∈ es, u.oneCell' = true) (t : TypeId) :
    Pile (w.alloc (.cells #[.slice B n c, .slice C m d, .slice D k e] t)) sz (some ⟨w.heap.size, 0, none⟩) [⟨B, n, c, cs⟩, ⟨C, m, d, ds⟩, ⟨D, k, e, es⟩] := by
  refine Or.inr ⟨_, _, rfl, fun i p hp => ?_⟩
  match i, hp with
  | 0, hp =>
    obtain rfl := Option.some.inj hp
    exact ⟨by simp, h.kept (below_one _ _), h1⟩
  | 1, hp =>
    obtain rfl := Option.some.inj hp
    exact ⟨by simp, g.kept (below_one _ _), g1⟩
  | 2, hp =>
    obtain rfl := Option.some.inj hp
    exact ⟨by simp, f.kept (below_one _ _), f1⟩
end
theorem ln_one (w : World) (a : Int) (t : TypeId) : Ln (w.alloc (.cells #[.int .i64 a] t)) 1 (some ⟨w.heap.size, 0, none⟩) 1 1 (intVals [a]) :=
  ⟨rfl, Nat.le_refl _, fun e => (by cases e), fun ad e j u hu => by
    obtain rfl := Option.some.inj e
    rw [addr_add]
    match j, hu with
    | 0, hu =>
      obtain rfl := Option.some.inj hu
      simp⟩
theorem ln_two (w : World) (a b : Int) (t : TypeId) : Ln (w.alloc (.cells #[.int .i64 a, .int .i64 b] t)) 1 (some ⟨w.heap.size, 0, none⟩) 2 2 (intVals [a, b]) :=
  ⟨rfl, Nat.le_refl _, fun e => (by cases e), fun ad e j u hu => by
    obtain rfl := Option.some.inj e
    exact cell_two_new w _ _ t j u hu⟩
theorem ln_pair (w : World) (a b : Int) (t : TypeId) : Ln (w.alloc (.cells #[.int .i64 a, .int .i64 b] t)) 2 (some ⟨w.heap.size, 0, none⟩) 1 1 (prVals [(a, b)]) :=
  ⟨rfl, Nat.le_refl _, fun e => (by cases e), fun ad e j u hu => by
    obtain rfl := Option.some.inj e
    exact cell_two_new w _ _ t j u hu⟩

/-- A call that answers one list of its own. -/
def JoinEnd (w : World) (t : TypeId) (sz N : Nat) (cs : List Value) (e : Ending) (w' : World) : Prop :=
  ∃ v, e = .returned v ∧ w'.ownsRow w.heap.size t sz v N cs ∧ Below w.heap.size w w'

/-! ### Pages' lists -/

structure Sp (w : World) (A : Option Addr) (n c : Nat) (B : Option Addr) (m d : Nat) (s : SS) : Prop where
  fr : Ln w 1 A n c (intVals s.fr)
  pe : Ln w 2 B m d (prVals s.pe)
theorem Sp.kept {w w' : World} {A B : Option Addr} {n c m d : Nat} {s : SS} (h : Sp w A n c B m d s) (hb : Below w.heap.size w w') : Sp w' A n c B m d s := ⟨h.fr.kept hb, h.pe.kept hb⟩
theorem Sp.fl {w : World} {A B : Option Addr} {n c m d : Nat} {s : SS} (h : Sp w A n c B m d s) : s.fr.length = n := h.fr.intN
theorem Sp.pl {w : World} {A B : Option Addr} {n c m d : Nat} {s : SS} (h : Sp w A n c B m d s) : s.pe.length = m := h.pe.prN
theorem Sp.zero (w : World) : Sp w none 0 0 none 0 0 SS.none := ⟨Ln.none_ w 1, Ln.none_ w 2⟩

/-- Pages' lists that are answered. -/
def SpV (w' : World) (v : Value) (s : SS) : Prop := ∃ A n c B m d, v = .agg #[.int .i64 s.hi, .slice A n c, .slice B m d] ∧ Sp w' A n c B m d s

end Go.Proofs.YtnmiccagkfpkiaaGreat

/-
  A superblock in a block of its own, and what calls answer.
-/
namespace Go.Proofs.YtnmiccagkfpkiaaGreat
open Go.RowKit Go.Maps

/-- A block that holds a superblock. -/
def UBox (w : World) (g : Nat) (x y z p c : Value) : Prop := w.heap[g]? = some (.cells #[x, y, z, p, c] 33 (0, 0))

section
variable {w w' : World} {g : Nat} {x y z p c : Value}
theorem UBox.lt (h : UBox w g x y z p c) : g < w.heap.size := (Array.getElem?_eq_some_iff.1 h).1
theorem UBox.kept (h : UBox w g x y z p c) (hb : Below w.heap.size w w') : UBox w' g x y z p c := (hb.block g h.lt).trans h
theorem UBox.block (h : UBox w g x y z p c) (e : w'.heap[g]? = w.heap[g]?) : UBox w' g x y z p c := Eq.trans e h
theorem UBox.cells (h : UBox w g x y z p c) : w.cell? ⟨g, 0, none⟩ = some x ∧ w.cell? ⟨g, 1, none⟩ = some y ∧ w.cell? ⟨g, 2, none⟩ = some z ∧ w.cell? ⟨g, 3, none⟩ = some p ∧ w.cell? ⟨g, 4, none⟩ = some c :=
  ⟨(cell_of_row w g 0 _ _ _ h).trans rfl, (cell_of_row w g 1 _ _ _ h).trans rfl, (cell_of_row w g 2 _ _ _ h).trans rfl, (cell_of_row w g 3 _ _ _ h).trans rfl, (cell_of_row w g 4 _ _ _ h).trans rfl⟩
theorem UBox.free (h : UBox w g x y z p c) : w.frozen? ⟨g, 0, none⟩ = false ∧ w.frozen? ⟨g, 1, none⟩ = false ∧ w.frozen? ⟨g, 2, none⟩ = false ∧ w.frozen? ⟨g, 3, none⟩ = false ∧ w.frozen? ⟨g, 4, none⟩ = false :=
  ⟨frozen_of_row w g 0 _ _ h, frozen_of_row w g 1 _ _ h, frozen_of_row w g 2 _ _ h, frozen_of_row w g 3 _ _ h, frozen_of_row w g 4 _ _ h⟩
end
theorem ubox_new (w : World) (x y z p c : Value) : UBox (w.alloc (.cells #[x, y, z, p, c] 33)) w.heap.size x y z p c := heap_alloc_new w _

section
variable {w w' : World} {g r : Nat} {x y z p c : Value}
theorem UBox.set0 (h : UBox w g x y z p c) (u : Value) : UBox (w.setCell ⟨g, 0, none⟩ u) g u y z p c := by
  unfold UBox at h ⊢
  rw [Joins.block_setCell h]
  rfl
theorem UBox.set1 (h : UBox w g x y z p c) (u : Value) : UBox (w.setCell ⟨g, 1, none⟩ u) g x u z p c := by
  unfold UBox at h ⊢
  rw [Joins.block_setCell h]
  rfl
theorem UBox.set2 (h : UBox w g x y z p c) (u : Value) : UBox (w.setCell ⟨g, 2, none⟩ u) g x y u p c := by
  unfold UBox at h ⊢
  rw [Joins.block_setCell h]
  rfl
theorem UBox.set3 (h : UBox w g x y z p c) (u : Value) : UBox (w.setCell ⟨g, 3, none⟩ u) g x y z u c := by
  unfold UBox at h ⊢
  rw [Joins.block_setCell h]
  rfl
theorem UBox.set4 (h : UBox w g x y z p c) (u : Value) : UBox (w.setCell ⟨g, 4, none⟩ u) g x y z p u := by
  unfold UBox at h ⊢
  rw [Joins.block_setCell h]
  rfl
theorem UBox.put (h : UBox w g x y z p c) (x' y' z' p' c' : Value) : UBox (((((w.setCell ⟨g, 0, none⟩ x').setCell ⟨g, 1, none⟩ y').setCell ⟨g, 2, none⟩ z').setCell ⟨g, 3, none⟩ p').setCell ⟨g, 4, none⟩ c') g x' y' z' p' c' := ((((h.set0 x').set1 y').set2 z').set3 p').set4 c'
/-- All blocks but one are as they were. -/
def UBut (r : Nat) (w w' : World) : Prop := w.heap.size = w'.heap.size ∧ ∀ k, k ≠ r → w'.heap[k]? = w.heap[k]?
theorem UBut.refl (r : Nat) (w : World) : UBut r w w := ⟨rfl, fun _ _ => rfl⟩
theorem UBut.set {w w' : World} (h : UBut r w w') (j : Nat) (u : Value) : UBut r w (w'.setCell ⟨r, j, none⟩ u) := ⟨h.1.trans (by simp [World.setCell]), fun k hk => (Below.heap_setCell _ _ _ _ hk).trans (h.2 k hk)⟩
theorem UBut.put (w : World) (r : Nat) (x y z p c : Value) : UBut r w (((((w.setCell ⟨r, 0, none⟩ x).setCell ⟨r, 1, none⟩ y).setCell ⟨r, 2, none⟩ z).setCell ⟨r, 3, none⟩ p).setCell ⟨r, 4, none⟩ c) := (((((UBut.refl r w).set 0 x).set 1 y).set 2 z).set 3 p).set 4 c
theorem UBox.but (h : UBox w g x y z p c) (hb : UBut r w w') (hne : g ≠ r) : UBox w' g x y z p c := (hb.2 g hne).trans h
theorem below_uput {B : Nat} {a w : World} (h : Below B a w) (hr : B ≤ r) (x y z p c : Value) : Below B a (((((w.setCell ⟨r, 0, none⟩ x).setCell ⟨r, 1, none⟩ y).setCell ⟨r, 2, none⟩ z).setCell ⟨r, 3, none⟩ p).setCell ⟨r, 4, none⟩ c) := ((((h.setCell hr _).setCell hr _).setCell hr _).setCell hr _).setCell hr _
end

/-- A list that lies at base or above. -/
def UHi (base : Nat) (A : Option Addr) : Prop := ∀ ad, A = some ad → base ≤ ad.block
theorem UHi.low {base base' : Nat} {A : Option Addr} (h : UHi base A) (hb : base' ≤ base) : UHi base' A := fun ad e => Nat.le_trans hb (h ad e)
theorem UHi.none_ (base : Nat) : UHi base none := fun _ e => by cases e
theorem UHi.of_own {w : World} {base sz n c : Nat} {e : TypeId} {A : Option Addr} {cs : List Value} (h : w.ownsRow base e sz (.slice A n c) n cs) : UHi base A := by
  intro ad e
  subst e
  exact (h.lt ad.block rfl).1
theorem UHi.next {base b off k : Nat} (h : UHi base (some ⟨b, off, none⟩)) : UHi base (some ⟨b, k, none⟩) := fun ad e => by
  obtain rfl := Option.some.inj e
  exact h ⟨b, off, none⟩ rfl
theorem Ln.ubut {w w' : World} {sz r n c : Nat} {A : Option Addr} {cs : List Value} (h : Ln w sz A n c cs) (hb : UBut r w w') (hA : UHi (r + 1) A) : Ln w' sz A n c cs :=
  ⟨h.len, h.le, h.lies.1, fun ad e j u hu => by
    have h0 := h.lies.2 ad e j u hu
    have hlt := hA ad e
    have hblk : (ad.add j).block = ad.block := by unfold Addr.add; split <;> rfl
    rw [World.cell?_of_block (w := w) (hb.2 (ad.add j).block (by omega))]
    exact h0⟩

/-- A superblock as a value, whose list lies at base or above. -/
def SbV (w : World) (base : Nat) (v : Value) (s : SB) : Prop := ∃ A c, v = .agg #[.int .i64 s.ep, .int .i64 s.ro, .int .i64 s.he, .slice A s.pg.length c, .int .i64 s.ct] ∧ Ln w 1 A s.pg.length c (intVals s.pg) ∧ UHi base A
theorem SbV.kept {w w' : World} {base : Nat} {v : Value} {s : SB} (h : SbV w base v s) (hb : Below w.heap.size w w') : SbV w' base v s := by
  obtain ⟨A, c, rfl, h, hi⟩ := h
  exact ⟨A, c, rfl, h.kept hb, hi⟩
theorem SbV.low {w : World} {base base' : Nat} {v : Value} {s : SB} (h : SbV w base v s) (hb : base' ≤ base) : SbV w base' v s := by
  obtain ⟨A, c, rfl, h, hi⟩ := h
  exact ⟨A, c, rfl, h, hi.low hb⟩
/-- A call that answers a superblock and a number. -/
def UEnd (w : World) (r : Int) (s : SB) (e : Ending) (w' : World) : Prop := ∃ v, e = .returned (.tuple #[v, .int .i64 r]) ∧ SbV w' w.heap.size v s ∧ Below w.heap.size w w'
/-- A call that answers a superblock. -/
def UEnd1 (w : World) (s : SB) (e : Ending) (w' : World) : Prop := ∃ v, e = .returned v ∧ SbV w' w.heap.size v s ∧ Below w.heap.size w w'
/-- What is answered once the answer's block is written. -/
theorem uput_sbv {w w2 : World} {r n c : Nat} {ep ro he ct : Int} {A : Option Addr} {pg : List Int} (hb : Below w.heap.size w w2) (hr : w.heap.size ≤ r) (hs : Ln w2 1 A n c (intVals pg)) (hA : UHi (r + 1) A) (x y z p q : Value) :
    SbV (((((w2.setCell ⟨r, 0, none⟩ x).setCell ⟨r, 1, none⟩ y).setCell ⟨r, 2, none⟩ z).setCell ⟨r, 3, none⟩ p).setCell ⟨r, 4, none⟩ q) w.heap.size (.agg #[.int .i64 ep, .int .i64 ro, .int .i64 he, .slice A n c, .int .i64 ct]) ⟨ep, ro, he, ct, pg⟩ ∧
    Below w.heap.size w (((((w2.setCell ⟨r, 0, none⟩ x).setCell ⟨r, 1, none⟩ y).setCell ⟨r, 2, none⟩ z).setCell ⟨r, 3, none⟩ p).setCell ⟨r, 4, none⟩ q) := by
  obtain rfl := hs.intN
  exact ⟨⟨A, c, rfl, hs.ubut (UBut.put w2 r x y z p q) hA, hA.low (by omega)⟩, below_uput hb hr x y z p q⟩
theorem uput_done {w w2 : World} {r n c : Nat} {ep ro he ct err : Int} {A : Option Addr} {pg : List Int} (hb : Below w.heap.size w w2) (hr : w.heap.size ≤ r) (hs : Ln w2 1 A n c (intVals pg)) (hA : UHi (r + 1) A) (x y z p q : Value) :
    UEnd w err ⟨ep, ro, he, ct, pg⟩ (.returned (.tuple #[.agg #[.int .i64 ep, .int .i64 ro, .int .i64 he, .slice A n c, .int .i64 ct], .int .i64 err])) (((((w2.setCell ⟨r, 0, none⟩ x).setCell ⟨r, 1, none⟩ y).setCell ⟨r, 2, none⟩ z).setCell ⟨r, 3, none⟩ p).setCell ⟨r, 4, none⟩ q) :=
  ⟨_, rfl, uput_sbv hb hr hs hA x y z p q⟩
end Go.Proofs.YtnmiccagkfpkiaaGreat

/-
  What within and isPage come to.
-/
namespace Go.Proofs.YtnmiccagkfpkiaaGreat
open Go.RowKit

set_option maxRecDepth 20000 in
theorem within_any (z lo hi : Int) (w : World) : Calls Tryz.prog 65 #[.int .i64 z, .int .i64 lo, .int .i64 hi] w fun e w' => e = .returned (.bool (rng z lo hi)) ∧ w' = w := by
  by_cases h1 : lo ≤ z
  · go_enter Tryz.func65, Tryz.ntmps65
    go_wp2_with fail
    go_ret
    refine ⟨ret_bool ?_, rfl⟩
    unfold rng
    simp [h1]
  · have h2 : z < lo := by omega
    go_enter Tryz.func65, Tryz.ntmps65
    go_wp2_with fail
    go_ret
    refine ⟨ret_bool ?_, rfl⟩
    unfold rng
    symm
    exact decide_eq_false (fun h => by omega)

set_option maxRecDepth 20000 in
theorem isPage_any (z : Int) (w : World) : Calls Tryz.prog 76 #[.int .i64 z] w fun e w' => e = .returned (.bool (SB.pageB z)) ∧ w' = w := by
  go_enter Tryz.func76, Tryz.ntmps76
  go_wp2_with fail
  refine (within_any z 2 2147483647 w).mono ?_
  rintro e w1 ⟨rfl, rfl⟩
  go_wp2_with fail
  go_ret
  exact ⟨rfl, rfl⟩
end Go.Proofs.YtnmiccagkfpkiaaGreat

/-
  What pagesStand comes to, with slices.ContainsFunc at its closure.
-/
namespace Go.Proofs.YtnmiccagkfpkiaaGreat
open Go.RowKit

set_option maxRecDepth 20000 in
theorem pagesFn_any (z : Int) (w : World) : Calls Tryz.prog 78 #[.int .i64 z] w fun e w' => e = .returned (.bool (!(SB.pageB z))) ∧ w' = w := by
  go_enter Tryz.func78, Tryz.ntmps78
  go_wp2_with fail
  refine (isPage_any z w).mono ?_
  rintro e w1 ⟨rfl, rfl⟩
  go_wp2_with fail
  go_ret
  exact ⟨rfl, rfl⟩

/-- The first k are pages. -/
def UPgs (zs : List Int) (k : Nat) : Prop := (zs.take k).all SB.pageB = true
theorem UPgs.more {zs : List Int} {k : Nat} {x : Int} (h : UPgs zs k) (hv : zs[k]? = some x) (hx : SB.pageB x = true) : UPgs zs (k + 1) := by
  unfold UPgs at h ⊢
  rw [List.take_add_one, hv, Option.toList_some, List.all_append, h]
  simp [hx]
theorem upgs_hit {zs : List Int} {k : Nat} {x : Int} (hv : zs[k]? = some x) (hx : SB.pageB x = false) : zs.all SB.pageB = false := by
  cases h : zs.all SB.pageB with
  | false => rfl
  | true =>
    have := List.all_eq_true.1 h x (List.mem_of_getElem? hv)
    rw [hx] at this
    cases this

set_option maxRecDepth 20000 in
set_option maxHeartbeats 800000 in
theorem indexU_any (A : Option Addr) (n c : Nat) (zs : List Int) (w : World) (hz : Ln w 1 A n c (intVals zs)) (hn : n ≤ 1000000) :
    Calls Tryz.prog 84 #[.slice A n c, .func (.func 78) #[] #[]] w fun e w' => (∃ r : Int, e = .returned (.int .i64 r) ∧ decide (r ≥ 0) = !(zs.all SB.pageB)) ∧ w' = w := by
  have HZ := Lib.hid hz
  have HN := Lib.hid hz.intN
  have HF := Lib.hid (fun (z : Int) => pagesFn_any z w)
  clear hz
  go_enter Tryz.func84, Tryz.ntmps84
  go_wp2_with fail
  obtain ⟨wo, rfl⟩ : ∃ wo : World, wo = w := ⟨_, rfl⟩
  go_loopw [8] (fun i wk => ∃ k : Nat, k ≤ n ∧ i = .int .i64 k ∧ Hid (UPgs zs k) ∧ wk = wo) (fun i _ => n - (intOf i).toNat)
  case atStart => exact ⟨0, Nat.zero_le _, rfl, Lib.hid rfl, rfl⟩
  case round =>
    obtain ⟨k, hk, rfl, HL, hw⟩ := hrel
    have hw' := hw.symm
    subst hw'
    clear hw
    by_cases hlt : k < n
    · obtain ⟨b, off, x, rfl, hv, c0⟩ := HZ.out.intAt hlt
      cases hx : SB.pageB x with
      | true =>
        have HM := Lib.hid (HL.out.more hv hx)
        have hF := HF.out x
        rw [hx] at hF
        have HF1 := Lib.hid hF
        clear hv HL hx hF
        go_wp2_with fail
        refine HF1.out.mono ?_
        rintro e w1 ⟨rfl, rfl⟩
        go_wp2_with fail
        go_roundw
        case rel => exact ⟨k + 1, by omega, by go_num, HM, trivial⟩
        case measure => simp [intOf]; omega
      | false =>
        have HM := Lib.hid (upgs_hit hv hx)
        have hF := HF.out x
        rw [hx] at hF
        have HF1 := Lib.hid hF
        clear hv HL hx hF
        go_wp2_with fail
        refine HF1.out.mono ?_
        rintro e w1 ⟨rfl, rfl⟩
        go_wp2_with fail
        go_ret
        exact ⟨⟨_, rfl, by rw [HM.out, decide_eq_true (by omega)]; rfl⟩, rfl⟩
    · obtain rfl : n = k := by omega
      have hm := HL.out
      unfold UPgs at hm
      rw [List.take_of_length_le (by rw [HN.out]; exact Nat.le_refl _)] at hm
      have HM := Lib.hid hm
      clear hm
      go_wp2_with fail
      go_ret
      exact ⟨⟨_, rfl, by rw [HM.out]; rfl⟩, rfl⟩

set_option maxRecDepth 20000 in
set_option maxHeartbeats 400000 in
theorem containsU_any (A : Option Addr) (n c : Nat) (zs : List Int) (w : World) (hz : Ln w 1 A n c (intVals zs)) (hn : n ≤ 1000000) :
    Calls Tryz.prog 77 #[.slice A n c, .func (.func 78) #[] #[]] w fun e w' => e = .returned (.bool (!(zs.all SB.pageB))) ∧ w' = w := by
  have HC := Lib.hid (indexU_any A n c zs w hz hn)
  clear hz
  go_enter Tryz.func77, Tryz.ntmps77
  go_wp2_with fail
  refine HC.out.mono ?_
  rintro e w2 ⟨⟨r, rfl, hr⟩, rfl⟩
  have HR := Lib.hid hr
  clear hr
  go_wp2_with fail
  go_ret
  exact ⟨ret_bool HR.out, rfl⟩

set_option maxRecDepth 20000 in
set_option maxHeartbeats 400000 in
theorem pagesStand_any (A : Option Addr) (n c : Nat) (zs : List Int) (w : World) (hz : Ln w 1 A n c (intVals zs)) (hn : n ≤ 1000000) :
    Calls Tryz.prog 67 #[.slice A n c] w fun e w' => e = .returned (.bool (SB.pagesB zs)) ∧ w' = w := by
  have HC := Lib.hid (containsU_any A n c zs w hz hn)
  have HN := Lib.hid hz.intN
  clear hz
  cases hr : rng (n : Int) 1 100 with
  | true =>
    have HE : Hid (SB.pagesB zs = zs.all SB.pageB) := Lib.hid (by unfold SB.pagesB; rw [HN.out, hr]; rfl)
    go_enter Tryz.func67, Tryz.ntmps67
    go_wp2_with fail
    refine (within_any _ 1 100 w).mono ?_
    rintro e w1 ⟨rfl, rfl⟩
    rw [hr]
    go_wp2_with fail
    refine HC.out.mono ?_
    rintro e w2 ⟨rfl, rfl⟩
    go_wp2_with fail
    go_ret
    exact ⟨ret_bool (by rw [HE.out]), rfl⟩
  | false =>
    have HE : Hid (SB.pagesB zs = false) := Lib.hid (by unfold SB.pagesB; rw [HN.out, hr]; rfl)
    go_enter Tryz.func67, Tryz.ntmps67
    go_wp2_with fail
    refine (within_any _ 1 100 w).mono ?_
    rintro e w1 ⟨rfl, rfl⟩
    rw [hr]
    go_wp2_with fail
    go_ret
    exact ⟨ret_bool HE.out.symm, rfl⟩
end Go.Proofs.YtnmiccagkfpkiaaGreat

/-
  What treeStands and Check come to.
-/
namespace Go.Proofs.YtnmiccagkfpkiaaGreat
open Go.RowKit

set_option maxRecDepth 20000 in
set_option maxHeartbeats 800000 in
theorem treeStands_any (ep ro he : Int) (p c : Value) (w : World) :
    Calls Tryz.prog 66 #[.agg #[.int .i64 ep, .int .i64 ro, .int .i64 he, p, c]] w fun e w' => e = .returned (.bool (SB.treeB he ro)) ∧ Below w.heap.size w w' := by
  have HB := Lib.hid (ubox_new w (.int .i64 ep) (.int .i64 ro) (.int .i64 he) p c)
  have B1 := Lib.hid (below_one w (.cells #[.int .i64 ep, .int .i64 ro, .int .i64 he, p, c] 33))
  go_enter Tryz.func66, Tryz.ntmps66
  go_upto_region 1 with fail
  generalize w.alloc (.cells #[.int .i64 ep, .int .i64 ro, .int .i64 he, p, c] 33) = w1 at *
  obtain ⟨c0, c1, c2, c3, c4⟩ := HB.out.cells
  by_cases h0 : he = 0
  · have hb : (he == 0) = true := by rw [h0]; rfl
    have HE : Hid (SB.treeB he ro = decide (ro = 0)) := Lib.hid (by unfold SB.treeB; rw [if_pos h0])
    clear h0
    go_wp2_with fail
    go_ret
    refine ⟨ret_bool ?_, B1.out⟩
    rw [HE.out]
    rfl
  · have hb : (he == 0) = false := by rw [beq_eq_false_iff_ne]; exact h0
    have HE : Hid (SB.treeB he ro = (rng he 1 20 && SB.pageB ro)) := Lib.hid (by unfold SB.treeB; rw [if_neg h0])
    clear h0
    cases hr : rng he 1 20 with
    | true =>
      rw [hr] at HE
      go_wp2_with fail
      refine (within_any _ 1 20 w1).mono ?_
      rintro e w2 ⟨rfl, rfl⟩
      rw [hr]
      go_wp2_with fail
      refine (isPage_any ro _).mono ?_
      rintro e w3 ⟨rfl, rfl⟩
      go_wp2_with fail
      go_ret
      exact ⟨ret_bool (HE.out.trans (Bool.true_and _)).symm, B1.out⟩
    | false =>
      rw [hr] at HE
      go_wp2_with fail
      refine (within_any _ 1 20 w1).mono ?_
      rintro e w2 ⟨rfl, rfl⟩
      rw [hr]
      go_wp2_with fail
      go_ret
      exact ⟨ret_bool (HE.out.trans (Bool.false_and _)).symm, B1.out⟩

theorem checkE_good {s : SB} (h : s.okB = true) : s.checkE = 0 := if_pos h
theorem checkE_bad {s : SB} (h : s.okB = false) : s.checkE = 90 := if_neg (by rw [h]; decide)

set_option maxRecDepth 20000 in
set_option maxHeartbeats 1600000 in
theorem ucheck_any (ep ro he ct : Int) (A : Option Addr) (n c : Nat) (pg : List Int) (w : World) (hz : Ln w 1 A n c (intVals pg)) (hn : n ≤ 1000000) :
    Calls Tryz.prog 44 #[.agg #[.int .i64 ep, .int .i64 ro, .int .i64 he, .slice A n c, .int .i64 ct]] w fun e w' => e = .returned (.int .i64 (SB.checkE ⟨ep, ro, he, ct, pg⟩)) ∧ Below w.heap.size w w' := by
  have HB := Lib.hid (ubox_new w (.int .i64 ep) (.int .i64 ro) (.int .i64 he) (.slice A n c) (.int .i64 ct))
  have b1 := below_one w (.cells #[.int .i64 ep, .int .i64 ro, .int .i64 he, .slice A n c, .int .i64 ct] 33)
  have B1 := Lib.hid b1
  have HZ := Lib.hid (hz.kept b1)
  have HK : Hid (SB.okB ⟨ep, ro, he, ct, pg⟩ = (rng ep 0 2147483647 && (rng ct 0 2147483647 && (SB.treeB he ro && SB.pagesB pg)))) := Lib.hid rfl
  clear hz b1
  go_enter Tryz.func44, Tryz.ntmps44
  go_upto_region 1 with fail
  generalize w.alloc (.cells #[.int .i64 ep, .int .i64 ro, .int .i64 he, .slice A n c, .int .i64 ct] 33) = w1 at *
  obtain ⟨c0, c1, c2, c3, c4⟩ := HB.out.cells
  go_wp2_with fail
  refine (within_any ep 0 2147483647 w1).mono ?_
  rintro e w2 ⟨rfl, rfl⟩
  cases h1 : rng ep 0 2147483647 with
  | false =>
    have HE := Lib.hid (checkE_bad (HK.out.trans (by rw [h1]; rfl)))
    go_wp2_with fail
    go_ret
    exact ⟨ret_int HE.out.symm, B1.out⟩
  | true =>
    rw [h1] at HK
    clear h1
    go_wp2_with fail
    refine (within_any ct 0 2147483647 w2).mono ?_
    rintro e w3 ⟨rfl, rfl⟩
    cases h2 : rng ct 0 2147483647 with
    | false =>
      have HE := Lib.hid (checkE_bad (HK.out.trans (by rw [h2]; rfl)))
      go_wp2_with fail
      go_ret
      exact ⟨ret_int HE.out.symm, B1.out⟩
    | true =>
      rw [h2] at HK
      clear h2
      go_wp2_with fail
      refine (treeStands_any ep ro he _ _ w3).mono ?_
      rintro e w4 ⟨rfl, b4⟩
      have B4 := Lib.hid b4
      obtain ⟨d0, d1, d2, d3, d4⟩ := (HB.out.kept B4.out).cells
      clear b4 c0 c1 c2 c3 c4
      cases h3 : SB.treeB he ro with
      | false =>
        have HE := Lib.hid (checkE_bad (HK.out.trans (by rw [h3]; rfl)))
        go_wp2_with fail
        go_ret
        exact ⟨ret_int HE.out.symm, B1.out.trans (B4.out.mono B1.out.size)⟩
      | true =>
        rw [h3] at HK
        clear h3
        go_wp2_with fail
        refine (pagesStand_any A n c pg w4 (HZ.out.kept B4.out) hn).mono ?_
        rintro e w5 ⟨rfl, rfl⟩
        cases h4 : SB.pagesB pg with
        | false =>
          have HE := Lib.hid (checkE_bad (HK.out.trans (by rw [h4]; rfl)))
          go_wp2_with fail
          go_ret
          exact ⟨ret_int HE.out.symm, B1.out.trans (B4.out.mono B1.out.size)⟩
        | true =>
          have HE := Lib.hid (checkE_good (HK.out.trans (by rw [h4]; rfl)))
          go_wp2_with fail
          go_ret
          exact ⟨ret_int HE.out.symm, B1.out.trans (B4.out.mono B1.out.size)⟩
end Go.Proofs.YtnmiccagkfpkiaaGreat

/-
  What the closure that lays numbers comes to, and what makes it.
-/
namespace Go.Proofs.YtnmiccagkfpkiaaGreat
open Go.RowKit

/-- The array's cells, of which the last j are laid. -/
def wdC (x : Nat) : Nat → Array Value
  | 0 => #[.int .u8 0, .int .u8 0, .int .u8 0, .int .u8 0]
  | 1 => #[.int .u8 0, .int .u8 0, .int .u8 0, .int .u8 ((x : Int) % 256)]
  | 2 => #[.int .u8 0, .int .u8 0, .int .u8 ((x : Int) / 256 % 256), .int .u8 ((x : Int) % 256)]
  | 3 => #[.int .u8 0, .int .u8 ((x : Int) / 256 / 256 % 256), .int .u8 ((x : Int) / 256 % 256), .int .u8 ((x : Int) % 256)]
  | _ => #[.int .u8 ((x : Int) / 256 / 256 / 256), .int .u8 ((x : Int) / 256 / 256 % 256), .int .u8 ((x : Int) / 256 % 256), .int .u8 ((x : Int) % 256)]

/-- What is left of the number. -/
def lft (x : Nat) : Nat → Int
  | 0 => x
  | 1 => (x : Int) / 256
  | 2 => (x : Int) / 256 / 256
  | 3 => (x : Int) / 256 / 256 / 256
  | _ => (x : Int) / 256 / 256 / 256 / 256

theorem wd_bv {x : Nat} (hx : x < 4294967296) {d : Nat} : (wdC x 4).toList.drop (4 - d) = bv (be d x) := by
  unfold be bv
  rw [List.map_drop]
  congr 1
  show [Value.int .u8 ((x : Int) / 256 / 256 / 256), .int .u8 ((x : Int) / 256 / 256 % 256), .int .u8 ((x : Int) / 256 % 256), .int .u8 ((x : Int) % 256)] =
    [Value.int .u8 ((UInt8.ofNat (x / 16777216)).toNat : Int), .int .u8 ((UInt8.ofNat (x / 65536)).toNat : Int), .int .u8 ((UInt8.ofNat (x / 256)).toNat : Int), .int .u8 ((UInt8.ofNat x).toNat : Int)]
  rw [ofNat_toNat, ofNat_toNat, ofNat_toNat, ofNat_toNat]
  simp only [List.cons.injEq, Value.int.injEq, and_true, true_and]
  omega

theorem lay_news (w : World) {x : Nat} (hx : x < 4294967296) {d : Nat} (t : TypeId) : ∀ j u, (bv (be d x))[j]? = some u → (w.alloc (.cells (wdC x 4) t)).drew.cell? ((⟨w.heap.size, 4 - d, none⟩ : Addr).add j) = some u := by
  intro j u h
  rw [← wd_bv hx, List.getElem?_drop] at h
  have e : (w.alloc (.cells (wdC x 4) t)).drew.heap[w.heap.size]? = some (.cells (wdC x 4) t) := heap_alloc_new w _
  rw [addr_add, cell_of_row _ w.heap.size (4 - d + j) _ t (0, 0) e]
  simpa using h

/-- Bytes that grow: a value in the block fb, a pointer to it in the block pb; nothing below B is touched. -/
structure LayAt (w : World) (B fb pb base : Nat) (l : List UInt8) : Prop where
  bf : B ≤ fb
  bp : B ≤ pb
  fl : fb < base
  pl : pb < base
  ne : fb ≠ pb
  sz : base ≤ w.heap.size
  cp : w.cell? ⟨pb, 0, none⟩ = some (.pointer (some ⟨fb, 0, none⟩))
  ff : w.frozen? ⟨fb, 0, none⟩ = false
  cf : ∃ v, w.cell? ⟨fb, 0, none⟩ = some v ∧ Own w base v l

theorem fown_of_block {w w' : World} {base : Nat} {v : Value} {l : List UInt8} (h : Own w base v l) (hk : ∀ k, v.ownBlock = some k → w'.heap[k]? = w.heap[k]?) : Own w' base v l := by
  obtain ⟨h1, h2⟩ := h
  refine ⟨h1, ?_⟩
  rcases h2 with h2 | ⟨g, cap, cur, hv, hg, hh, r⟩
  · exact Or.inl h2
  · exact Or.inr ⟨g, cap, cur, hv, hg, by rw [hk g (by rw [hv]; rfl)]; exact hh, r⟩

section
variable {w w' : World} {B fb pb base : Nat} {l m : List UInt8}

theorem LayAt.below (h : LayAt w B fb pb base l) (hb : Below w.heap.size w w') : LayAt w' B fb pb base l := by
  obtain ⟨v, h1, h2⟩ := h.cf
  have := h.fl
  have := h.pl
  have := h.sz
  exact ⟨h.bf, h.bp, h.fl, h.pl, h.ne, Nat.le_trans h.sz hb.size, (hb.cell (p := ⟨pb, 0, none⟩) (by simp only; omega)).trans h.cp, (hb.frozen (p := ⟨fb, 0, none⟩) (by simp only; omega)).trans h.ff,
    v, (hb.cell (p := ⟨fb, 0, none⟩) (by simp only; omega)).trans h1, own_below h2 hb⟩

/-- A longer value is written. -/
theorem LayAt.put (h : LayAt w B fb pb base l) {w1 : World} {row : Option Nat} {v1 : Value} (hg : w.grownBy w1 row) (hr : ∀ k, row = some k → base ≤ k) (ho : Own w1 base v1 m) : LayAt (w1.setCell ⟨fb, 0, none⟩ v1) B fb pb base m := by
  have hf := h.fl
  have hp := h.pl
  have hs := h.sz
  have hs1 := hg.size
  have e1 : w1.heap[fb]? = w.heap[fb]? := hg.block fb (by omega) (fun e => by have := hr fb e.symm; omega)
  have e2 : w1.heap[pb]? = w.heap[pb]? := hg.block pb (by omega) (fun e => by have := hr pb e.symm; omega)
  obtain ⟨v, c1, _⟩ := h.cf
  have c2 : w1.cell? ⟨fb, 0, none⟩ = some v := (World.cell?_of_block (a := ⟨fb, 0, none⟩) e1).trans c1
  have f2 : w1.frozen? ⟨fb, 0, none⟩ = false := (World.frozen?_of_block (a := ⟨fb, 0, none⟩) e1).trans h.ff
  have c3 : w1.cell? ⟨pb, 0, none⟩ = some (.pointer (some ⟨fb, 0, none⟩)) := (World.cell?_of_block (a := ⟨pb, 0, none⟩) e2).trans h.cp
  refine ⟨h.bf, h.bp, hf, hp, h.ne, ?_, ?_, ?_, v1, ?_, ?_⟩
  · simp [World.setCell]; omega
  · rw [World.cell?_setCell_other _ _ _ _ (fun e => h.ne (congrArg Addr.block e))]; exact c3
  · simpa using f2
  · exact World.cell?_setCell_same _ _ _ c2
  · exact fown_of_block ho (fun k hk => Below.heap_setCell _ _ _ _ (fun e => by have := (ho.lt k hk).1; simp only at e; omega))

set_option maxRecDepth 20000 in
theorem lay_done {w2 : World} {C : Array Value} {t : TypeId} {v v2 : Value} {d x : Nat} (h : LayAt w B fb pb base l) (hd : d ≤ 4) (hgrow : (w.alloc (.cells C t)).drew.grownBy w2 v.ownBlock) (o1 : (w.alloc (.cells C t)).ownsRow base 5 1 v l.length (bv l))
    (hown2 : w2.ownsRow base 5 1 v2 (l.length + d) (bv l ++ bv (be d x))) : LayAt (w2.setCell ⟨fb, 0, none⟩ v2) B fb pb base (l ++ be d x) ∧ Below B w (w2.setCell ⟨fb, 0, none⟩ v2) := by
  have hB : B ≤ w.heap.size := by have := h.bf; have := h.fl; have := h.sz; omega
  have hg : (w.alloc (.cells C t)).grownBy w2 v.ownBlock := ⟨hgrow.os, hgrow.tape, hgrow.output, hgrow.size, hgrow.block⟩
  refine ⟨(h.below (below_one w _)).put hg (fun k hk => (o1.lt k hk).1) ?_, ?_⟩
  · unfold Own
    rw [bv_append, List.length_append, be_length x hd]
    exact hown2
  · refine Below.setCell (((Below.refl _ _).alloc hB _).grown hg (by simp; omega) (fun g hg => ?_)) (p := ⟨fb, 0, none⟩) h.bf _
    have := (o1.lt g hg).1
    have := h.bf
    have := h.fl
    omega
end

set_option maxRecDepth 20000 in
set_option maxHeartbeats 1600000 in
theorem lay_any (x : Nat) (hx : x < 4294967296) (d : Nat) (hd : d = 1 ∨ d = 2 ∨ d = 4) (w : World) (B fb pb base : Nat) (l : List UInt8) (h : LayAt w B fb pb base l) (hl : l.length ≤ 1000000) :
    Calls Tryz.prog 68 #[.int .u32 (x : Int), .int .i64 d, .pointer (some ⟨pb, 0, none⟩)] w fun e w' => e = .returned (.tuple #[]) ∧ LayAt w' B fb pb base (l ++ be d x) ∧ Below B w w' := by
  obtain ⟨i0, hi, hz0, hz1, hz2⟩ := info_parts byteInfo
  go_enter Tryz.func68, Tryz.ntmps68
  go_wp2_with fail
  go_loopw [0, 6] (fun v i wr => ∃ j : Nat, j ≤ 4 ∧ i = .int .i64 (3 - (j : Int)) ∧ v = .int .u32 (lft x j) ∧ wr = w.alloc (.cells (wdC x j) 95)) (fun _ i _ => (intOf i + 1).toNat)
  case atStart => exact ⟨0, by omega, rfl, rfl, rfl⟩
  case round =>
    obtain ⟨j, hj, rfl, rfl, rfl⟩ := hrel
    by_cases hlt : j < 4
    · rcases (show j = 0 ∨ j = 1 ∨ j = 2 ∨ j = 3 by omega) with rfl | rfl | rfl | rfl
      · rw [show lft x 0 = (x : Int) from rfl, show wdC x 0 = #[.int .u8 0, .int .u8 0, .int .u8 0, .int .u8 0] from rfl]
        go_wp2_with fail
        exact ⟨⟨1, by omega, rfl, rfl, rfl⟩, by decide⟩
      · rw [show lft x 1 = (x : Int) / 256 from rfl, show wdC x 1 = #[.int .u8 0, .int .u8 0, .int .u8 0, .int .u8 ((x : Int) % 256)] from rfl]
        go_wp2_with fail
        exact ⟨⟨2, by omega, rfl, rfl, rfl⟩, by decide⟩
      · rw [show lft x 2 = (x : Int) / 256 / 256 from rfl, show wdC x 2 = #[.int .u8 0, .int .u8 0, .int .u8 ((x : Int) / 256 % 256), .int .u8 ((x : Int) % 256)] from rfl]
        go_wp2_with fail
        exact ⟨⟨3, by omega, rfl, rfl, rfl⟩, by decide⟩
      · rw [show lft x 3 = (x : Int) / 256 / 256 / 256 from rfl, show wdC x 3 = #[.int .u8 0, .int .u8 ((x : Int) / 256 / 256 % 256), .int .u8 ((x : Int) / 256 % 256), .int .u8 ((x : Int) % 256)] from rfl]
        go_wp2_with fail
        exact ⟨⟨4, by omega, rfl, rfl, rfl⟩, by decide⟩
    · obtain rfl : j = 4 := by omega
      have hN := fun d => lay_news w hx (d := d) 95
      have HN := Lib.hid hN
      have h1 := h.below (below_one w (.cells (wdC x 4) 95))
      have hsz := h.sz
      have hff := h.ff
      have H0 := Lib.hid h
      obtain ⟨v, c1, o1⟩ := h1.cf
      have c2 := h1.cp
      have f1 := h1.ff
      have hfl := h.fl
      have hpl := h.pl
      have hgf : fb < (w.alloc (.cells (wdC x 4) 95)).drew.heap.size := by have := h1.fl; have := h1.sz; simp at *; omega
      have hgp : pb < (w.alloc (.cells (wdC x 4) 95)).drew.heap.size := by have := h1.pl; have := h1.sz; simp at *; omega
      generalize wdC x 4 = C at *
      generalize lft x 4 = y at *
      clear hN h h1
      unfold Own at o1
      have nf : v.ownBlock ≠ some fb := fun e => by have := (o1.lt _ e).1; omega
      have np : v.ownBlock ≠ some pb := fun e => by have := (o1.lt _ e).1; omega
      have k3 : IntKind.i64.wrap 3 = 3 := rfl
      have k2 : IntKind.i64.wrap 2 = 2 := rfl
      have k0 : IntKind.i64.wrap 0 = 0 := rfl
      rcases hd with rfl | rfl | rfl
      · go_wp2_with fail
        go_region_law
          ((refine step_append_lies _ (by rfl) _ _ _ (by rfl) base 5 i0 _ 1 1 Tryz.underlying34 hi hz0 hz1 hz2 rfl (by omega) v l.length (bv l) (by rfl) o1.drew
              ⟨w.heap.size, 3, none⟩ 1 1 (bv (be 1 x)) (by rfl) (by rfl) (HN.out 1) (bv_one _)
              (by omega) (by unfold maxLen; omega) (by omega) (by simp; omega) (w.heap.size + 1) (by simp) ?_; intro gg cap w2 hown2 hgrow hat hlt2; have T0 : w2.cell? ⟨pb, 0, none⟩ = some (.pointer (some ⟨fb, 0, none⟩)) := (hgrow.cell_far _ hgp np.symm).trans c2; have T1 : w2.cell? ⟨fb, 0, none⟩ = some v := (hgrow.cell_far _ hgf nf.symm).trans c1; have T2 : w2.frozen? ⟨fb, 0, none⟩ = false := (World.frozen?_of_block (a := ⟨fb, 0, none⟩) (hgrow.block fb hgf nf.symm)).trans f1))
        all_goals (go_end0; exact ⟨rfl, lay_done H0.out (by omega) hgrow o1 hown2⟩)
      · go_wp2_with fail
        go_region_law
          ((refine step_append_lies _ (by rfl) _ _ _ (by rfl) base 5 i0 _ 1 1 Tryz.underlying34 hi hz0 hz1 hz2 rfl (by omega) v l.length (bv l) (by rfl) o1.drew
              ⟨w.heap.size, 2, none⟩ 2 2 (bv (be 2 x)) (by rfl) (by rfl) (HN.out 2) (bv_one _)
              (by omega) (by unfold maxLen; omega) (by omega) (by simp; omega) (w.heap.size + 1) (by simp) ?_; intro gg cap w2 hown2 hgrow hat hlt2; have T0 : w2.cell? ⟨pb, 0, none⟩ = some (.pointer (some ⟨fb, 0, none⟩)) := (hgrow.cell_far _ hgp np.symm).trans c2; have T1 : w2.cell? ⟨fb, 0, none⟩ = some v := (hgrow.cell_far _ hgf nf.symm).trans c1; have T2 : w2.frozen? ⟨fb, 0, none⟩ = false := (World.frozen?_of_block (a := ⟨fb, 0, none⟩) (hgrow.block fb hgf nf.symm)).trans f1))
        all_goals (go_end0; exact ⟨rfl, lay_done H0.out (by omega) hgrow o1 hown2⟩)
      · go_wp2_with fail
        go_region_law
          ((refine step_append_lies _ (by rfl) _ _ _ (by rfl) base 5 i0 _ 1 1 Tryz.underlying34 hi hz0 hz1 hz2 rfl (by omega) v l.length (bv l) (by rfl) o1.drew
              ⟨w.heap.size, 0, none⟩ 4 4 (bv (be 4 x)) (by rfl) (by rfl) (HN.out 4) (bv_one _)
              (by omega) (by unfold maxLen; omega) (by omega) (by simp; omega) (w.heap.size + 1) (by simp) ?_; intro gg cap w2 hown2 hgrow hat hlt2; have T0 : w2.cell? ⟨pb, 0, none⟩ = some (.pointer (some ⟨fb, 0, none⟩)) := (hgrow.cell_far _ hgp np.symm).trans c2; have T1 : w2.cell? ⟨fb, 0, none⟩ = some v := (hgrow.cell_far _ hgf nf.symm).trans c1; have T2 : w2.frozen? ⟨fb, 0, none⟩ = false := (World.frozen?_of_block (a := ⟨fb, 0, none⟩) (hgrow.block fb hgf nf.symm)).trans f1))
        all_goals (go_end0; exact ⟨rfl, lay_done H0.out (by omega) hgrow o1 hown2⟩)
end Go.Proofs.YtnmiccagkfpkiaaGreat

/-
  What makes the closure that lays numbers, and what the closure comes to at one, two and four bytes.
-/
namespace Go.Proofs.YtnmiccagkfpkiaaGreat
open Go.RowKit

set_option maxRecDepth 20000 in
set_option maxHeartbeats 400000 in
theorem layer_any (fb : Nat) (w : World) :
    Calls Tryz.prog 47 #[.pointer (some ⟨fb, 0, none⟩)] w fun e w' => e = .returned (.func (.func 68) #[] #[.pointer (some ⟨w.heap.size, 0, none⟩)]) ∧ w' = w.alloc (.cells #[.pointer (some ⟨fb, 0, none⟩)] 81) := by
  have hmf : ∀ (fn : Fn) (first cap : Array Value) (w : World), (Instr.makeFunc fn first cap).run Tryz.prog w = .ok (.func fn first cap) w := fun _ _ _ _ => rfl
  go_enter Tryz.func47, Tryz.ntmps47
  go_wp2_with fail
  go_ret
  exact ⟨rfl, rfl⟩

/-- Where bytes begin to grow. -/
theorem lay_start (w : World) (t u : TypeId) : LayAt ((w.alloc (.cells #[.slice none 0 0] t)).alloc (.cells #[.pointer (some ⟨w.heap.size, 0, none⟩)] u)) w.heap.size w.heap.size (w.heap.size + 1) (w.heap.size + 2) [] := by
  have hs : (w.alloc (.cells #[.slice none 0 0] t)).heap.size = w.heap.size + 1 := by simp
  have e1 : ((w.alloc (.cells #[.slice none 0 0] t)).alloc (.cells #[.pointer (some ⟨w.heap.size, 0, none⟩)] u)).heap[w.heap.size + 1]? = some (.cells #[.pointer (some ⟨w.heap.size, 0, none⟩)] u) := by
    have := heap_alloc_new (w.alloc (.cells #[.slice none 0 0] t)) (.cells #[.pointer (some ⟨w.heap.size, 0, none⟩)] u)
    rwa [hs] at this
  have e0 : ((w.alloc (.cells #[.slice none 0 0] t)).alloc (.cells #[.pointer (some ⟨w.heap.size, 0, none⟩)] u)).heap[w.heap.size]? = some (.cells #[.slice none 0 0] t) := by
    rw [heap_alloc_old _ _ (by rw [hs]; omega)]
    exact heap_alloc_new w _
  refine ⟨Nat.le_refl _, by omega, by omega, by omega, by omega, by simp, ?_, ?_, .slice none 0 0, ?_, own_nil _ _⟩
  · rw [cell_of_row _ _ 0 _ u (0, 0) e1]; rfl
  · simp
  · rw [cell_of_row _ _ 0 _ t (0, 0) e0]; rfl

theorem own_low {w : World} {base base' : Nat} {v : Value} {l : List UInt8} (h : Own w base v l) (hb : base' ≤ base) : Own w base' v l := by
  unfold Own at h ⊢
  refine ⟨h.1, ?_⟩
  rcases h.2 with h2 | ⟨g, cap, cur, h2, h3, h4⟩
  · exact Or.inl h2
  · exact Or.inr ⟨g, cap, cur, h2, by omega, h4⟩

set_option maxRecDepth 20000 in
theorem lay1 (x : Nat) (hx : x < 4294967296) (w : World) (B fb pb base : Nat) (l : List UInt8) (h : LayAt w B fb pb base l) (hl : l.length ≤ 1000000) :
    Calls Tryz.prog 68 #[.int .u32 (x : Int), .int .i64 1, .pointer (some ⟨pb, 0, none⟩)] w fun e w' => e = .returned (.tuple #[]) ∧ LayAt w' B fb pb base (l ++ be 1 x) ∧ Below B w w' :=
  lay_any x hx 1 (Or.inl rfl) w B fb pb base l h hl
set_option maxRecDepth 20000 in
theorem lay2 (x : Nat) (hx : x < 4294967296) (w : World) (B fb pb base : Nat) (l : List UInt8) (h : LayAt w B fb pb base l) (hl : l.length ≤ 1000000) :
    Calls Tryz.prog 68 #[.int .u32 (x : Int), .int .i64 2, .pointer (some ⟨pb, 0, none⟩)] w fun e w' => e = .returned (.tuple #[]) ∧ LayAt w' B fb pb base (l ++ be 2 x) ∧ Below B w w' :=
  lay_any x hx 2 (Or.inr (Or.inl rfl)) w B fb pb base l h hl
set_option maxRecDepth 20000 in
theorem lay4 (x : Nat) (hx : x < 4294967296) (w : World) (B fb pb base : Nat) (l : List UInt8) (h : LayAt w B fb pb base l) (hl : l.length ≤ 1000000) :
    Calls Tryz.prog 68 #[.int .u32 (x : Int), .int .i64 4, .pointer (some ⟨pb, 0, none⟩)] w fun e w' => e = .returned (.tuple #[]) ∧ LayAt w' B fb pb base (l ++ be 4 x) ∧ Below B w w' :=
  lay_any x hx 4 (Or.inr (Or.inr rfl)) w B fb pb base l h hl

set_option maxRecDepth 20000 in
/-- What append leaves, of two lists. -/
theorem own_grown {w : World} {base n m : Nat} {v : Value} {a b : List UInt8} (h : w.ownsRow base 5 1 v (n + m) (bv a ++ bv b)) :
    ∃ A c, v = .slice A (n + m) c ∧ Own w base (.slice A (n + m) c) (a ++ b) ∧ Bys w w.heap.size A (a ++ b) := by
  rw [← bv_append] at h
  obtain ⟨A, c, rfl, hl, _, _, r⟩ := Bys.of_own h
  refine ⟨A, c, rfl, ?_, r⟩
  unfold Own
  rw [hl]
  exact h

set_option maxRecDepth 20000 in
/-- The cells at which bytes grow. -/
theorem LayAt.look {w : World} {B fb pb base : Nat} {l : List UInt8} (h : LayAt w B fb pb base l) {n : Nat} (hl : l.length = n) :
    ∃ v, w.cell? ⟨fb, 0, none⟩ = some v ∧ w.frozen? ⟨fb, 0, none⟩ = false ∧ w.ownsRow base 5 1 v n (bv l) ∧ v.ownBlock ≠ some fb ∧ fb < w.heap.size ∧ base ≤ w.heap.size := by
  obtain ⟨v, h1, h2⟩ := h.cf
  have := h.fl
  refine ⟨v, h1, h.ff, by rw [← hl]; exact h2, fun e => ?_, World.block_lt_of_cell? _ _ h1, h.sz⟩
  have := (h2.lt _ e).1
  omega

end Go.Proofs.YtnmiccagkfpkiaaGreat

/-
  What frame.Numbers comes to, and the document's own Numbers, with four.
-/
namespace Go.Proofs.YtnmiccagkfpkiaaGreat
open Go.RowKit

set_option maxRecDepth 20000 in
set_option maxHeartbeats 800000 in
theorem numbers_any (A : Option Addr) (c : Nat) (zs : List Int) (w : World) (hz : Ints w A zs) (hn : zs.length ≤ 200000) :
    Calls Tryz.prog 45 #[.slice A zs.length c] w (Owned w.heap.size w (numB zs)) := by
  have HZ := Lib.hid hz
  clear hz
  go_enter Tryz.func45, Tryz.ntmps45
  go_wp2_with fail
  refine (layer_any _ _).mono ?_
  rintro e w1 ⟨rfl, rfl⟩
  have L0 := Lib.hid (lay_start w 34 81)
  have B0 := Lib.hid (below_two w (.cells #[.slice none 0 0] 34) (.cells #[.pointer (some ⟨w.heap.size, 0, none⟩)] 81))
  go_wp2_with fail
  generalize (w.alloc (.cells #[.slice none 0 0] 34)).alloc (.cells #[.pointer (some ⟨w.heap.size, 0, none⟩)] 81) = w0 at *
  go_loopw [10] (fun i wr => ∃ k : Nat, k ≤ zs.length ∧ i = .int .i64 k ∧ Hid (LayAt wr w.heap.size w.heap.size (w.heap.size + 1) (w.heap.size + 2) (numB (zs.take k))) ∧ Hid (Below w.heap.size w wr)) (fun i _ => zs.length - (intOf i).toNat)
  case atStart => exact ⟨0, Nat.zero_le _, rfl, L0, B0⟩
  case round =>
    obtain ⟨k, hk, rfl, L1, B1⟩ := hrel
    by_cases hlt : k < zs.length
    · obtain ⟨b, off, z, rfl, hv, c0⟩ := (HZ.out.below B1.out).at_ hlt
      have HV := Lib.hid (numB_take hv)
      have hl : Hid ((numB (zs.take k)).length ≤ 1000000) := by
        rw [numB_length, List.length_take]
        exact Lib.hid (by omega)
      clear hv
      go_wp2_with fail
      rw [← mod32_cast]
      refine (lay4 (mod32 z) (mod32_lt z) _ w.heap.size w.heap.size _ (w.heap.size + 2) _ L1.out hl.out).mono ?_
      rintro e w1 ⟨rfl, l1, b1⟩
      rw [be_four, ← HV.out] at l1
      have L2 := Lib.hid l1
      have B2 := Lib.hid (B1.out.trans b1)
      clear l1 b1 L1 B1 hl HV
      go_wp2_with fail
      go_roundw
      case rel => exact ⟨k + 1, by omega, by go_num, L2, B2⟩
      case measure => simp [intOf]; omega
    · obtain rfl : k = zs.length := by omega
      rw [List.take_length] at L1
      obtain ⟨v, c1, o1⟩ := L1.out.cf
      have O1 := Lib.hid o1
      clear o1
      go_wp2_with fail
      go_ret
      exact ⟨v, rfl, own_low O1.out (by omega), B1.out⟩

set_option maxRecDepth 20000 in
/-- What a caller of Numbers wants. -/
theorem numbers_n (A : Option Addr) (n c : Nat) (zs : List Int) (w : World) (hz : Ints w A zs) (hl : zs.length = n) (hn : n ≤ 200000) :
    Calls Tryz.prog 45 #[.slice A n c] w (Owned w.heap.size w (numB zs)) := by
  subst hl
  exact numbers_any A c zs w hz hn

/-! ### The document's own -/

theorem four_cells {x : Nat} (hx : x < 4294967296) : #[Value.int .u8 ((x : Int) / 16777216), .int .u8 ((x : Int) / 65536 % 256), .int .u8 ((x : Int) / 256 % 256), .int .u8 ((x : Int) % 256)] = (bv (be4 x)).toArray := by
  show _ = #[Value.int .u8 ((UInt8.ofNat (x / 16777216)).toNat : Int), .int .u8 ((UInt8.ofNat (x / 65536)).toNat : Int), .int .u8 ((UInt8.ofNat (x / 256)).toNat : Int), .int .u8 ((UInt8.ofNat x).toNat : Int)]
  rw [ofNat_toNat, ofNat_toNat, ofNat_toNat, ofNat_toNat]
  simp only [Array.mk.injEq, List.cons.injEq, Value.int.injEq, and_true, true_and]
  omega

set_option maxRecDepth 20000 in
set_option maxHeartbeats 400000 in
theorem four_any (x : Nat) (hx : x < 4294967296) (w : World) :
    Calls Tryz.prog 55 #[.int .u32 (x : Int)] w fun e w' => e = .returned (.slice (some ⟨w.heap.size, 0, none⟩) 4 4) ∧ w' = w.alloc (.cells (bv (be4 x)).toArray 5) := by
  have HC := Lib.hid (four_cells hx)
  go_enter Tryz.func55, Tryz.ntmps55
  go_wp2_with fail
  go_ret
  refine ⟨rfl, ?_⟩
  rw [← HC.out]

set_option maxRecDepth 20000 in
set_option maxHeartbeats 800000 in
theorem refNumbers_any (A : Option Addr) (c : Nat) (zs : List Int) (w : World) (hz : Ints w A zs) (hn : zs.length ≤ 200000) :
    Calls Tryz.prog 54 #[.slice A zs.length c] w (Owned w.heap.size w (numB zs)) := by
  obtain ⟨i0, hi, hz0, hz1, hz2⟩ := info_parts byteInfo
  have HZ := Lib.hid hz
  clear hz
  go_enter Tryz.func54, Tryz.ntmps54
  go_wp2_with fail
  go_loopw [3, 4] (fun v i wr => ∃ k : Nat, k ≤ zs.length ∧ i = .int .i64 k ∧ Hid (Own wr w.heap.size v (numB (zs.take k))) ∧ Hid (Below w.heap.size w wr)) (fun _ i _ => zs.length - (intOf i).toNat)
  case atStart => exact ⟨0, Nat.zero_le _, rfl, Lib.hid (own_nil _ _), Lib.hid (Below.refl _ _)⟩
  case round =>
    obtain ⟨k, hk, rfl, O1, B1⟩ := hrel
    by_cases hlt : k < zs.length
    · obtain ⟨b, off, z, rfl, hv, c0⟩ := (HZ.out.below B1.out).at_ hlt
      have HV := Lib.hid (numB_take hv)
      obtain ⟨N, hN⟩ : ∃ N, (numB (zs.take k)).length = N := ⟨_, rfl⟩
      have hNs : N ≤ 1000000 := by rw [← hN, numB_length, List.length_take]; omega
      have HN := Lib.hid hN
      clear hv hN
      go_wp2_with fail
      rw [← mod32_cast]
      refine (four_any (mod32 z) (mod32_lt z) _).mono ?_
      rintro e w1 ⟨rfl, rfl⟩
      have o2 : (wr.alloc (.cells (bv (be4 (mod32 z))).toArray 5)).ownsRow w.heap.size 5 1 u3 N (bv (numB (zs.take k))) := by
        have := World.ownsRow.alloc O1.out (.cells (bv (be4 (mod32 z))).toArray 5)
        rw [HN.out] at this
        exact this
      have hnew : Hid (∀ j u, (bv (be4 (mod32 z)))[j]? = some u → (wr.alloc (.cells (bv (be4 (mod32 z))).toArray 5)).cell? ((⟨wr.heap.size, 0, none⟩ : Addr).add j) = some u) := (bys_new wr (be4 (mod32 z)) 5).cells
      have B2 := Lib.hid (B1.out.alloc B1.out.size (.cells (bv (be4 (mod32 z))).toArray 5))
      have b2 := B2.out.size
      go_wp2_with (at_builtin; refine wpList_append_own _ rfl (.tmp 11) (.tmp 17) 34 rfl w.heap.size 5 i0 (.int .u8 0) 1 1 Tryz.underlying34 hi hz0 hz1 hz2 rfl (by decide) _ _ _ rfl o2 ⟨wr.heap.size, 0, none⟩ 4 4 (bv (be4 (mod32 z))) rfl rfl hnew.out (bv_one _) (by unfold maxLen; omega) (by omega) (by omega) ?_; intro v3 w3 hown3 hg3 _)
      have B3 := Lib.hid (B2.out.grown hg3 b2 (fun g hg => (o2.lt g hg).1))
      have O3 : Hid (Own w3 w.heap.size v3 (numB (zs.take (k + 1)))) := by
        rw [HV.out]
        unfold Own
        rw [List.length_append, HN.out, bv_append]
        exact Lib.hid hown3
      clear hg3 hown3 hnew B2 b2 o2 HV HN O1 B1
      go_roundw
      case rel => exact ⟨k + 1, by omega, by go_num, O3, B3⟩
      case measure => simp [intOf]; omega
    · obtain rfl : k = zs.length := by omega
      rw [List.take_length] at O1
      go_wp2_with fail
      go_ret
      exact ⟨_, rfl, O1.out, B1.out⟩

set_option maxRecDepth 20000 in
theorem refNumbers_n (A : Option Addr) (n c : Nat) (zs : List Int) (w : World) (hz : Ints w A zs) (hl : zs.length = n) (hn : n ≤ 200000) :
    Calls Tryz.prog 54 #[.slice A n c] w (Owned w.heap.size w (numB zs)) := by
  subst hl
  exact refNumbers_any A c zs w hz hn
end Go.Proofs.YtnmiccagkfpkiaaGreat
