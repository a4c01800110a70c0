/-
  Plain facts on numbers, bytes and the order of values and rows; nothing here names the program.
-/
import Derived.Laws.Strings
import GoSem.Op.String
namespace Go.Proofs.Ytcdfjaldnelfjaa

theorem toList_data (a : ByteArray) : a.toList = a.data.toList := by
  obtain ⟨⟨l⟩⟩ := a
  exact ByteArray.toList_mk l

theorem bytes_ext {a b : ByteArray} (h : a.toList = b.toList) : a = b := by
  obtain ⟨⟨l⟩⟩ := a
  obtain ⟨⟨m⟩⟩ := b
  have h1 : l = m := (ByteArray.toList_mk l).symm.trans (h.trans (ByteArray.toList_mk m))
  rw [h1]

theorem toList_length (a : ByteArray) : a.toList.length = a.size := by
  rw [toList_data]
  rfl

/-- The order of two numbers. -/
def icmp (a b : Int) : Int := if a < b then -1 else if b < a then 1 else 0

/-- The order of two texts. -/
def scmp (a b : List UInt8) : Int := if Op.bytesLess a b then -1 else if a == b then 0 else 1

/-- The order of two values. -/
def vcmp (ka na : Int) (sa : List UInt8) (kb nb : Int) (sb : List UInt8) : Int :=
  if ka = kb then (if na = nb then scmp sa sb else icmp na nb) else icmp ka kb

/-! ### bytesLess is a line -/

theorem less_irrefl (a : List UInt8) : Op.bytesLess a a = false := by
  induction a with
  | nil => rfl
  | cons x l ih => simp [Op.bytesLess, ih]

theorem less_trans : ∀ a b c : List UInt8, Op.bytesLess a b = true → Op.bytesLess b c = true → Op.bytesLess a c = true
  | a, [], c, h, _ => by cases a <;> simp [Op.bytesLess] at h
  | a, y :: b, [], _, h => by simp [Op.bytesLess] at h
  | [], y :: b, z :: c, _, _ => by simp [Op.bytesLess]
  | x :: a, y :: b, z :: c, h, k => by
    simp only [Op.bytesLess, Bool.or_eq_true, Bool.and_eq_true, decide_eq_true_eq, beq_iff_eq] at h k ⊢
    rcases h with h | ⟨rfl, h⟩
    · rcases k with k | ⟨rfl, k⟩
      · exact Or.inl (UInt8.lt_trans h k)
      · exact Or.inl h
    · rcases k with k | ⟨rfl, k⟩
      · exact Or.inl k
      · exact Or.inr ⟨rfl, less_trans a b c h k⟩

theorem less_total : ∀ a b : List UInt8, Op.bytesLess a b = true ∨ a = b ∨ Op.bytesLess b a = true
  | [], [] => Or.inr (Or.inl rfl)
  | [], _ :: _ => Or.inl rfl
  | _ :: _, [] => Or.inr (Or.inr rfl)
  | x :: a, y :: b => by
    simp only [Op.bytesLess, Bool.or_eq_true, Bool.and_eq_true, decide_eq_true_eq, beq_iff_eq, List.cons.injEq]
    have tri : x = y ∨ x < y ∨ y < x := by
      by_cases e : x = y
      · exact Or.inl e
      · exact Or.inr (UInt8.lt_or_lt_of_ne e)
    rcases tri with rfl | h | h
    · rcases less_total a b with h | h | h
      · exact Or.inl (Or.inr ⟨rfl, h⟩)
      · exact Or.inr (Or.inl ⟨rfl, h⟩)
      · exact Or.inr (Or.inr (Or.inr ⟨rfl, h⟩))
    · exact Or.inl (Or.inl h)
    · exact Or.inr (Or.inr (Or.inl h))

theorem less_asymm (a b : List UInt8) (h : Op.bytesLess a b = true) : Op.bytesLess b a = false := by
  cases k : Op.bytesLess b a with
  | false => rfl
  | true =>
    have := less_trans a b a h k
    rw [less_irrefl] at this
    cases this

/-! ### 'Line': what an order that answers -1, 0 or 1 owes; it is carried from numbers and texts to values and to rows. -/

/-- A comparison by -1, 0, 1 that is a line. -/
structure Line {α : Type} (f : α → α → Int) : Prop where
  range : ∀ a b, f a b = -1 ∨ f a b = 0 ∨ f a b = 1
  same : ∀ a b, f a b = 0 ↔ a = b
  turn : ∀ a b, f b a = - f a b
  step : ∀ a b c, f a b = -1 → f b c = -1 → f a c = -1

theorem Line.le_trans {α : Type} {f : α → α → Int} (h : Line f) (a b c : α) (x : f a b ≤ 0) (y : f b c ≤ 0) : f a c ≤ 0 := by
  rcases h.range a b with e | e | e
  · rcases h.range b c with g | g | g
    · rw [h.step a b c e g]; omega
    · rw [← (h.same b c).1 g, e]; omega
    · omega
  · rw [(h.same a b).1 e]; exact y
  · omega

theorem Line.lt_trans {α : Type} {f : α → α → Int} (h : Line f) (a b c : α) (x : f a b < 0) (y : f b c ≤ 0) : f a c < 0 := by
  rcases h.range a b with e | e | e
  · rcases h.range b c with g | g | g
    · rw [h.step a b c e g]; omega
    · rw [← (h.same b c).1 g, e]; omega
    · omega
  · omega
  · omega

theorem icmp_line : Line icmp where
  range a b := by
    unfold icmp
    by_cases h : a < b
    · rw [if_pos h]; exact Or.inl rfl
    · rw [if_neg h]
      by_cases k : b < a
      · rw [if_pos k]; exact Or.inr (Or.inr rfl)
      · rw [if_neg k]; exact Or.inr (Or.inl rfl)
  same a b := by unfold icmp; split <;> (try split) <;> constructor <;> intro h <;> omega
  turn a b := by unfold icmp; split <;> (try split) <;> (try split) <;> omega
  step a b c := by
    unfold icmp
    intro h k
    have h1 : a < b := by split at h <;> (try split at h) <;> omega
    have k1 : b < c := by split at k <;> (try split at k) <;> omega
    rw [if_pos (by omega)]

theorem scmp_line : Line scmp where
  range a b := by
    unfold scmp
    by_cases h : Op.bytesLess a b = true
    · rw [if_pos h]; exact Or.inl rfl
    · rw [if_neg h]
      by_cases k : (a == b) = true
      · rw [if_pos k]; exact Or.inr (Or.inl rfl)
      · rw [if_neg k]; exact Or.inr (Or.inr rfl)
  same a b := by
    unfold scmp
    constructor
    · intro h
      split at h
      · omega
      · split at h
        · rename_i e; exact eq_of_beq e
        · omega
    · rintro rfl
      simp [less_irrefl]
  turn a b := by
    unfold scmp
    rcases less_total a b with h | rfl | h
    · have hn : ¬ (b == a) = true := by
        intro e
        rw [eq_of_beq e, less_irrefl] at h
        cases h
      rw [if_pos h, less_asymm a b h, if_neg (by simp), if_neg hn]
      rfl
    · simp [less_irrefl]
    · have hn : ¬ (a == b) = true := by
        intro e
        rw [eq_of_beq e, less_irrefl] at h
        cases h
      rw [if_pos h, less_asymm b a h, if_neg (by simp), if_neg hn]
  step a b c := by
    unfold scmp
    intro h k
    have h1 : Op.bytesLess a b = true := by
      by_cases e : Op.bytesLess a b = true
      · exact e
      · rw [if_neg e] at h; split at h <;> omega
    have k1 : Op.bytesLess b c = true := by
      by_cases e : Op.bytesLess b c = true
      · exact e
      · rw [if_neg e] at k; split at k <;> omega
    rw [if_pos (less_trans a b c h1 k1)]

/-- A value of the program: its kind, its number, its text. -/
structure Val where
  k : Int
  n : Int
  s : ByteArray

theorem Val.ext' {a b : Val} (h1 : a.k = b.k) (h2 : a.n = b.n) (h3 : a.s = b.s) : a = b := by
  cases a; cases b; simp only at h1 h2 h3; rw [h1, h2, h3]

def cmpV (a b : Val) : Int := vcmp a.k a.n a.s.toList b.k b.n b.s.toList

theorem cmpV_line : Line cmpV where
  range a b := by
    unfold cmpV vcmp
    split
    · split
      · exact scmp_line.range _ _
      · exact icmp_line.range _ _
    · exact icmp_line.range _ _
  same a b := by
    unfold cmpV vcmp
    constructor
    · intro h
      split at h
      · split at h
        · rename_i h1 h2
          exact Val.ext' h1 h2 (bytes_ext ((scmp_line.same _ _).1 h))
        · rename_i h1 h2
          exact absurd ((icmp_line.same _ _).1 h) h2
      · rename_i h1
        exact absurd ((icmp_line.same _ _).1 h) h1
    · rintro rfl
      simp [(scmp_line.same a.s.toList a.s.toList).2 rfl]
  turn a b := by
    unfold cmpV vcmp
    by_cases h1 : a.k = b.k
    · rw [if_pos h1, if_pos h1.symm]
      by_cases h2 : a.n = b.n
      · rw [if_pos h2, if_pos h2.symm]
        exact scmp_line.turn _ _
      · rw [if_neg h2, if_neg (fun e => h2 e.symm)]
        exact icmp_line.turn _ _
    · rw [if_neg h1, if_neg (fun e => h1 e.symm)]
      exact icmp_line.turn _ _
  step a b c := by
    unfold cmpV vcmp
    intro h k
    have lt_of {x y : Int} (e : icmp x y = -1) : x < y := by
      unfold icmp at e; split at e <;> (try split at e) <;> omega
    have of_lt {x y : Int} (e : x < y) : icmp x y = -1 := by unfold icmp; rw [if_pos e]
    by_cases h1 : a.k = b.k
    · rw [if_pos h1] at h
      by_cases k1 : b.k = c.k
      · rw [if_pos k1] at k
        rw [if_pos (h1.trans k1)]
        by_cases h2 : a.n = b.n
        · rw [if_pos h2] at h
          by_cases k2 : b.n = c.n
          · rw [if_pos k2] at k
            rw [if_pos (h2.trans k2)]
            exact scmp_line.step _ _ _ h k
          · rw [if_neg k2] at k
            rw [if_neg (by rw [h2]; exact k2), h2]
            exact k
        · rw [if_neg h2] at h
          by_cases k2 : b.n = c.n
          · rw [if_neg (by rw [← k2]; exact h2), ← k2]
            exact h
          · rw [if_neg k2] at k
            have := lt_of h
            have := lt_of k
            rw [if_neg (by omega)]
            exact of_lt (by omega)
      · rw [if_neg k1] at k
        rw [if_neg (by rw [h1]; exact k1), h1]
        exact k
    · rw [if_neg h1] at h
      by_cases k1 : b.k = c.k
      · rw [if_neg (by rw [← k1]; exact h1), ← k1]
        exact h
      · rw [if_neg k1] at k
        have := lt_of h
        have := lt_of k
        rw [if_neg (by omega)]
        exact of_lt (by omega)

/-! ### Rows -/

/-- The order of two rows: value by value; where one ends it is first. -/
def cmpR : List Val → List Val → Int
  | [], [] => 0
  | [], _ :: _ => -1
  | _ :: _, [] => 1
  | a :: x, b :: y => if cmpV a b = 0 then cmpR x y else cmpV a b

theorem cmpR_range : ∀ a b, cmpR a b = -1 ∨ cmpR a b = 0 ∨ cmpR a b = 1
  | [], [] => by simp [cmpR]
  | [], _ :: _ => by simp [cmpR]
  | _ :: _, [] => by simp [cmpR]
  | a :: x, b :: y => by
    simp only [cmpR]
    split
    · exact cmpR_range x y
    · exact cmpV_line.range a b

theorem cmpR_same : ∀ a b, cmpR a b = 0 ↔ a = b
  | [], [] => by simp [cmpR]
  | [], _ :: _ => by simp [cmpR]
  | _ :: _, [] => by simp [cmpR]
  | a :: x, b :: y => by
    simp only [cmpR, List.cons.injEq]
    by_cases h : cmpV a b = 0
    · rw [if_pos h, cmpR_same x y]
      have := (cmpV_line.same a b).1 h
      simp [this]
    · rw [if_neg h]
      have h' : ¬ a = b := fun e => h ((cmpV_line.same a b).2 e)
      simp [h, h']

theorem cmpR_turn : ∀ a b, cmpR b a = - cmpR a b
  | [], [] => by simp [cmpR]
  | [], _ :: _ => by simp [cmpR]
  | _ :: _, [] => by simp [cmpR]
  | a :: x, b :: y => by
    simp only [cmpR]
    have ht := cmpV_line.turn a b
    by_cases h : cmpV a b = 0
    · rw [if_pos h, if_pos (by omega), cmpR_turn x y]
    · rw [if_neg h, if_neg (by omega), ht]

theorem cmpR_step : ∀ a b c, cmpR a b = -1 → cmpR b c = -1 → cmpR a c = -1
  | a, [], c, h, _ => by cases a <;> simp [cmpR] at h
  | a, y :: b, [], _, h => by simp [cmpR] at h
  | [], y :: b, z :: c, _, _ => by simp [cmpR]
  | x :: a, y :: b, z :: c, h, k => by
    simp only [cmpR] at h k ⊢
    by_cases h1 : cmpV x y = 0
    · rw [if_pos h1] at h
      have e := (cmpV_line.same x y).1 h1
      subst e
      by_cases k1 : cmpV x z = 0
      · rw [if_pos k1] at k ⊢
        exact cmpR_step a b c h k
      · rw [if_neg k1] at k ⊢
        exact k
    · rw [if_neg h1] at h
      by_cases k1 : cmpV y z = 0
      · have e := (cmpV_line.same y z).1 k1
        subst e
        rw [if_neg (by omega)]
        exact h
      · rw [if_neg k1] at k
        have := cmpV_line.step x y z h k
        rw [if_neg (by omega)]
        exact this

theorem cmpR_line : Line cmpR := ⟨cmpR_range, cmpR_same, cmpR_turn, cmpR_step⟩

theorem cmpR_snoc : ∀ (a : List Val) (v : Val), cmpR a (a ++ [v]) = -1
  | [], _ => rfl
  | a :: x, v => by
    simp only [List.cons_append, cmpR]
    rw [if_pos ((cmpV_line.same a a).2 rfl)]
    exact cmpR_snoc x v

/-! ### Which values may be -/

def okNum (k n : Int) (s : List UInt8) : Bool := decide (k = 1 ∧ -2147483647 ≤ n ∧ n ≤ 2147483647 ∧ s.isEmpty = true)
def okText (k n : Int) (s : List UInt8) : Bool := decide (k = 2 ∧ n = 0 ∧ s.length ≤ 40)
/-- What Check answers. -/
def chk (k n : Int) (s : List UInt8) : Int := if okNum k n s || okText k n s then 0 else 10

theorem okNum_ways (k n : Int) (s : List UInt8) :
    (okNum k n s = true ∧ k = 1 ∧ -2147483647 ≤ n ∧ n ≤ 2147483647 ∧ s.isEmpty = true) ∨
    (okNum k n s = false ∧ k = 1 ∧ -2147483647 ≤ n ∧ n ≤ 2147483647 ∧ s.isEmpty = false) ∨
    (okNum k n s = false ∧ k = 1 ∧ 2147483647 < n) ∨
    (okNum k n s = false ∧ k = 1 ∧ n < -2147483647) ∨
    (okNum k n s = false ∧ ¬ k = 1) := by
  unfold okNum
  by_cases h1 : k = 1
  · by_cases h2 : -2147483647 ≤ n
    · by_cases h3 : n ≤ 2147483647
      · cases h4 : s.isEmpty with
        | true => exact Or.inl ⟨decide_eq_true ⟨h1, h2, h3, rfl⟩, h1, h2, h3, rfl⟩
        | false => exact Or.inr (Or.inl ⟨decide_eq_false (fun h => by simp at h), h1, h2, h3, rfl⟩)
      · exact Or.inr (Or.inr (Or.inl ⟨decide_eq_false (fun h => h3 h.2.2.1), h1, by omega⟩))
    · exact Or.inr (Or.inr (Or.inr (Or.inl ⟨decide_eq_false (fun h => h2 h.2.1), h1, by omega⟩)))
  · exact Or.inr (Or.inr (Or.inr (Or.inr ⟨decide_eq_false (fun h => h1 h.1), h1⟩)))

theorem okText_ways (k n : Int) (s : List UInt8) :
    (okText k n s = true ∧ k = 2 ∧ n = 0 ∧ s.length ≤ 40) ∨
    (okText k n s = false ∧ k = 2 ∧ n = 0 ∧ 40 < s.length) ∨
    (okText k n s = false ∧ k = 2 ∧ ¬ n = 0) ∨
    (okText k n s = false ∧ ¬ k = 2) := by
  unfold okText
  by_cases h1 : k = 2
  · by_cases h2 : n = 0
    · by_cases h3 : s.length ≤ 40
      · exact Or.inl ⟨decide_eq_true ⟨h1, h2, h3⟩, h1, h2, h3⟩
      · exact Or.inr (Or.inl ⟨decide_eq_false (fun h => h3 h.2.2), h1, h2, by omega⟩)
    · exact Or.inr (Or.inr (Or.inl ⟨decide_eq_false (fun h => h2 h.2.1), h1, h2⟩))
  · exact Or.inr (Or.inr (Or.inr ⟨decide_eq_false (fun h => h1 h.1), h1⟩))

theorem chk_num {k n : Int} {s : List UInt8} (h : okNum k n s = true) : chk k n s = 0 := by simp [chk, h]
theorem chk_text {k n : Int} {s : List UInt8} (h : okText k n s = true) : chk k n s = 0 := by simp [chk, h]
theorem chk_no {k n : Int} {s : List UInt8} (h : okNum k n s = false) (g : okText k n s = false) : chk k n s = 10 := by simp [chk, h, g]
def chkV (v : Val) : Int := chk v.k v.n v.s.toList
theorem chk_two (k n : Int) (s : List UInt8) : chk k n s = 0 ∨ chk k n s = 10 := by unfold chk; split <;> simp

end Go.Proofs.Ytcdfjaldnelfjaa
