/-
  Pages at their places: where a page goes, many at once in their order, and the lists that may be told by their parts. Nothing here names the program.
-/
import Derived.Test.YtlldmefjhgahdaaSPure
namespace Go.Proofs.Ytlldmefjhgahdaa.SS

/-- Where a page goes. -/
def place (p : Int) (l : List Int) : Nat := (l.takeWhile (fun x => decide (x < p))).length
theorem place_cons (p x : Int) (l : List Int) : place p (x :: l) = if x < p then place p l + 1 else 0 := by
  unfold place
  rw [List.takeWhile_cons]
  by_cases h : x < p
  · simp [h]
  · simp [h]
theorem place_le (p : Int) : ∀ l : List Int, place p l ≤ l.length
  | [] => Nat.zero_le _
  | x :: l => by
    rw [place_cons, List.length_cons]
    have := place_le p l
    split <;> omega
theorem ins_place (p : Int) : ∀ l : List Int, ins p l = l.take (place p l) ++ p :: l.drop (place p l)
  | [] => rfl
  | x :: l => by
    rw [place_cons]
    unfold ins
    split
    · rw [ins_place p l]
      rfl
    · rfl
theorem place_lt (p : Int) : ∀ (l : List Int), ∀ x ∈ l.take (place p l), x < p
  | [], x, h => by simp at h
  | y :: l, x, h => by
    rw [place_cons] at h
    split at h
    · rename_i hy
      rw [List.take_succ_cons] at h
      rcases List.mem_cons.1 h with rfl | h
      · exact hy
      · exact place_lt p l x h
    · simp at h
/-- Before the place all are less, and what stands there is not. -/
theorem place_at {p : Int} {l : List Int} {k : Nat} (h1 : ∀ j z, j < k → l[j]? = some z → z < p) (h2 : ∀ z, l[k]? = some z → ¬ z < p) (hk : k ≤ l.length) : place p l = k := by
  induction l generalizing k with
  | nil =>
    obtain rfl : k = 0 := by simpa using hk
    rfl
  | cons x l ih =>
    rw [place_cons]
    match k with
    | 0 =>
      rw [if_neg (h2 x rfl)]
    | k + 1 =>
      rw [if_pos (h1 0 x (by omega) rfl), ih (k := k) (fun j z hj hz => h1 (j + 1) z (by omega) (by simpa using hz)) (fun z hz => h2 z (by simpa using hz)) (by simpa using hk)]

theorem ins_append {p : Int} : ∀ (x y : List Int), (∀ z ∈ x, z < p) → ins p (x ++ y) = x ++ ins p y
  | [], y, _ => rfl
  | a :: x, y, h => by
    rw [List.cons_append]
    conv => lhs; unfold ins
    rw [if_pos (h a (by simp)), ins_append x y (fun z hz => h z (by simp [hz])), List.cons_append]

theorem ins_comm (p q : Int) : ∀ l : List Int, ins p (ins q l) = ins q (ins p l)
  | [] => by
    simp only [ins]
    by_cases h1 : q < p
    · rw [if_pos h1, if_neg (by omega)]
    · by_cases h2 : p < q
      · rw [if_neg h1, if_pos h2]
      · obtain rfl : p = q := by omega
        rfl
  | x :: l => by
    have ih := ins_comm p q l
    simp only [ins]
    by_cases h1 : x < q <;> by_cases h2 : x < p
    · rw [if_pos h1, if_pos h2]
      simp only [ins]
      rw [if_pos h2, if_pos h1, ih]
    · rw [if_pos h1, if_neg h2]
      simp only [ins]
      rw [if_neg h2, if_pos (by omega), if_pos h1]
    · rw [if_neg h1, if_pos h2]
      simp only [ins]
      rw [if_pos (by omega), if_pos h2, if_neg h1]
    · rw [if_neg h1, if_neg h2]
      simp only [ins]
      by_cases h3 : q < p
      · rw [if_pos h3, if_neg h2, if_neg (by omega)]
      · by_cases h4 : p < q
        · rw [if_neg h3, if_pos h4, if_neg h1]
        · obtain rfl : p = q := by omega
          rfl

/-- Pages that go in, one behind another one. -/
def insL : List Int → List Int → List Int
  | [], f => f
  | p :: l, f => ins p (insL l f)
theorem insL_ins (p : Int) : ∀ (l f : List Int), insL l (ins p f) = ins p (insL l f)
  | [], f => rfl
  | q :: l, f => by
    unfold insL
    rw [insL_ins p l f, ins_comm]
theorem insAll_insL : ∀ (l : List (Int × Int)) (f : List Int), insAll l f = insL (l.map (·.2)) f
  | [], f => rfl
  | x :: l, f => by
    unfold insAll
    rw [insAll_insL l, List.map_cons, insL_ins]
    rfl
theorem insL_perm {l m : List Int} (h : l.Perm m) : ∀ f, insL l f = insL m f := by
  induction h with
  | nil => exact fun f => rfl
  | cons x _ ih =>
    intro f
    unfold insL
    rw [ih]
  | swap x y l =>
    intro f
    unfold insL
    unfold insL
    exact ins_comm _ _ _
  | trans _ _ h1 h2 => exact fun f => (h1 f).trans (h2 f)

theorem insL_append {p : Int} : ∀ (ps x y : List Int), (∀ q ∈ ps, p ≤ q) → (∀ z ∈ x, z < p) → insL ps (x ++ y) = x ++ insL ps y
  | [], x, y, _, _ => rfl
  | q :: ps, x, y, h1, h2 => by
    unfold insL
    rw [insL_append ps x y (fun r hr => h1 r (by simp [hr])) h2]
    exact ins_append _ _ (fun z hz => by
      have := h2 z hz
      have := h1 q (by simp)
      omega)
/-- None of them is ahead of a page that is not greater. -/
def From (p : Int) (l : List Int) : Prop := ∀ z, l[0]? = some z → p ≤ z
theorem From.ins {p q : Int} {l : List Int} (h : From p l) (hq : p ≤ q) : From p (ins q l) := by
  match l with
  | [] =>
    intro z hz
    simp [SS.ins] at hz
    omega
  | x :: l =>
    intro z hz
    have := h x rfl
    unfold SS.ins at hz
    split at hz
    · simp at hz
      omega
    · simp at hz
      omega
theorem From.insL {p : Int} {f : List Int} (h : From p f) : ∀ (ps : List Int), (∀ q ∈ ps, p ≤ q) → From p (insL ps f)
  | [], _ => h
  | q :: ps, hq => (From.insL h ps (fun r hr => hq r (by simp [hr]))).ins (hq q (by simp))
theorem From.head {p : Int} {l : List Int} (h : From p l) : SS.ins p l = p :: l := by
  match l with
  | [] => rfl
  | x :: l =>
    have := h x rfl
    unfold SS.ins
    rw [if_neg (by omega)]
theorem from_drop (p : Int) : ∀ l : List Int, From p (l.drop (place p l))
  | [] => fun z hz => by simp at hz
  | x :: l => by
    rw [place_cons]
    split
    · rw [List.drop_succ_cons]
      exact from_drop p l
    · intro z hz
      simp at hz
      omega
/-- In their order each goes behind what was put ahead. -/
theorem insL_step {p : Int} {ps : List Int} (l : List Int) (h : ∀ q ∈ ps, p ≤ q) : insL (p :: ps) l = l.take (place p l) ++ p :: insL ps (l.drop (place p l)) := by
  show ins p (insL ps l) = _
  conv => lhs; rw [← List.take_append_drop (place p l) l, insL_append ps _ _ h (place_lt p l), ins_append _ _ (place_lt p l)]
  rw [((from_drop p l).insL ps h).head]

/-! ### Lists that may be, by their parts -/

def rises (l : List Int) : Bool := decide (l.Pairwise (· < ·))
def agesB (l : List (Int × Int)) : Bool := decide (l.Pairwise (fun x y => x.1 ≤ y.1)) && l.all (fun x => decide (0 ≤ x.1))
def pages (s : SS) : List Int := s.fr ++ s.pe.map (·.2)
def onceB (s : SS) : Bool := decide s.pages.Nodup && s.pages.all s.may

theorem check_parts (s : SS) (top : Int) : s.check top = if decide (s.hi < 2) || decide (s.hi > top) || !rises s.fr || !agesB s.pe || !onceB s then 80 else 0 := by
  unfold check
  by_cases h : Fine s top
  · rw [if_pos h]
    have h1 : rises s.fr = true := decide_eq_true h.up
    have h2 : agesB s.pe = true := by
      unfold agesB
      rw [Bool.and_eq_true]
      exact ⟨decide_eq_true h.ups, List.all_eq_true.2 (fun x hx => decide_eq_true (h.pos x hx))⟩
    have h3 : onceB s = true := by
      unfold onceB
      rw [Bool.and_eq_true]
      refine ⟨decide_eq_true (List.nodup_append.2 ⟨h.up.imp (fun h => by omega), h.once, fun a ha b hb => ?_⟩), List.all_eq_true.2 (fun x hx => ?_)⟩
      · obtain ⟨x, hx, rfl⟩ := List.mem_map.1 hb
        exact fun e => h.out x hx (by rw [← e]; exact ha)
      · refine decide_eq_true ?_
        rcases List.mem_append.1 hx with h1 | h1
        · exact h.inF x h1
        · obtain ⟨y, hy, rfl⟩ := List.mem_map.1 h1
          exact h.inP y hy
    have h4 := h.lo
    have h5 := h.hi
    rw [h1, h2, h3, decide_eq_false (by omega : ¬ s.hi < 2), decide_eq_false (by omega : ¬ s.hi > top)]
    rfl
  · rw [if_neg h]
    have : (decide (s.hi < 2) || decide (s.hi > top) || !rises s.fr || !agesB s.pe || !onceB s) = true := by
      cases hb : (decide (s.hi < 2) || decide (s.hi > top) || !rises s.fr || !agesB s.pe || !onceB s) with
      | true => rfl
      | false =>
        simp only [Bool.or_eq_false_iff, Bool.not_eq_false', decide_eq_false_iff_not] at hb
        obtain ⟨⟨⟨⟨b1, b2⟩, b3⟩, b4⟩, b5⟩ := hb
        unfold agesB at b4
        unfold onceB at b5
        rw [Bool.and_eq_true] at b4 b5
        obtain ⟨n1, n2, n3⟩ := List.nodup_append.1 (of_decide_eq_true b5.1)
        have hall := List.all_eq_true.1 b5.2
        refine absurd ⟨by omega, by omega, of_decide_eq_true b3, fun p hp => of_decide_eq_true (hall p (List.mem_append.2 (Or.inl hp))), of_decide_eq_true b4.1, fun x hx => of_decide_eq_true (List.all_eq_true.1 b4.2 x hx), fun x hx => of_decide_eq_true (hall x.2 (List.mem_append.2 (Or.inr (List.mem_map.2 ⟨x, hx, rfl⟩)))), fun x hx e => n3 x.2 e x.2 (List.mem_map.2 ⟨x, hx, rfl⟩) rfl, n2⟩ h
    rw [this]
    rfl

/-- In their order, each once: they rise. -/
theorem sorted_rises {l m : List Int} (hp : m.Perm l) (hs : m.Pairwise (· ≤ ·)) : rises m = decide l.Nodup := by
  unfold rises
  have e : m.Pairwise (· < ·) ↔ l.Nodup := by
    constructor
    · exact fun h => hp.nodup_iff.1 (h.imp (fun h => by omega))
    · intro h
      have hn : m.Nodup := hp.nodup_iff.2 h
      exact (List.Pairwise.and hs hn).imp (fun h => by obtain ⟨h1, h2⟩ := h; omega)
  exact decide_eq_decide.2 e
theorem perm_all {l m : List Int} (hp : m.Perm l) (f : Int → Bool) : m.all f = l.all f := by
  induction hp with
  | nil => rfl
  | cons x _ ih => simp [ih]
  | swap x y l => simp [Bool.and_left_comm]
  | trans _ _ h1 h2 => rw [h1, h2]
end Go.Proofs.Ytlldmefjhgahdaa.SS
