/-
  The plain clock: what each call answers, and how it stands behind it. Nothing here names the program.
-/
namespace Go.Proofs.Ytgkdlbcpckdmkaa

/-- A clock: how many places, how often each is pinned, whether it was used, the hand. -/
structure CS where
  n : Nat
  p : Nat → Nat
  u : Nat → Bool
  h : Nat

namespace CS
def new (n : Nat) : CS := ⟨n, fun _ => 0, fun _ => false, 0⟩
def has (s : CS) (i : Int) : Bool := decide (0 ≤ i ∧ i < (s.n : Int))
def setU (s : CS) (i : Nat) (b : Bool) : CS := { s with u := fun j => if j = i then b else s.u j }
def setP (s : CS) (i k : Nat) : CS := { s with p := fun j => if j = i then k else s.p j }
def useE (s : CS) (i : Int) : Int := if s.has i then 0 else 1
def useS (s : CS) (i : Int) : CS := if s.has i then s.setU i.toNat true else s
def pinS (s : CS) (i : Int) : CS := if s.has i then s.setP i.toNat (s.p i.toNat + 1) else s
def un (s : CS) (i : Int) : Bool := s.has i && s.p i.toNat != 0
def unE (s : CS) (i : Int) : Int := if s.un i then 0 else 1
def unS (s : CS) (i : Int) : CS := if s.un i then s.setP i.toNat (s.p i.toNat - 1) else s
/-- The hand is at the next place. -/
def next (s : CS) : CS := { s with h := (s.h + 1) % s.n }
/-- The hand goes till a place may go; at most so often. -/
def go : Nat → CS → Option (Nat × CS)
  | 0, _ => none
  | k + 1, s => if s.p s.h = 0 then (if s.u s.h then go k (s.setU s.h false).next else some (s.h, s.next)) else go k s.next
def free (s : CS) : Bool := (List.range s.n).any fun j => s.p j == 0
def way (s : CS) : Option (Nat × CS) := if s.free then go (2 * s.n) s else none
def vicI (s : CS) : Int := match s.way with | some r => r.1 | none => 0
def vicE (s : CS) : Int := match s.way with | some _ => 0 | none => 60
def vicS (s : CS) : CS := match s.way with | some r => r.2 | none => s
def pinsL (s : CS) : List Int := (List.range s.n).map fun j => (s.p j : Int)
def usedL (s : CS) : List Bool := (List.range s.n).map s.u
/-- One call of a script. -/
def doneS (s : CS) (k i : Int) : CS := if k = 1 then s.useS i else if k = 2 then s.pinS i else if k = 3 then s.unS i else if k = 4 then s.vicS else s

theorem free_iff (s : CS) : s.free = true ↔ ∃ j, j < s.n ∧ s.p j = 0 := by
  unfold free
  rw [List.any_eq_true]
  constructor
  · rintro ⟨j, hj, h⟩
    exact ⟨j, List.mem_range.1 hj, by simpa using h⟩
  · rintro ⟨j, hj, h⟩
    exact ⟨j, List.mem_range.2 hj, by simpa using h⟩

theorem mod_next {h n : Nat} (hh : h < n) : (h + 1) % n = if h + 1 = n then 0 else h + 1 := by
  split
  · rename_i e
    rw [e, Nat.mod_self]
  · exact Nat.mod_eq_of_lt (by omega)

/-- The place that is d behind the hand. -/
def at_ (s : CS) (d : Nat) : Nat := if s.h + d < s.n then s.h + d else s.h + d - s.n

theorem next_h {s : CS} (hh : s.h < s.n) : s.next.h = if s.h + 1 = s.n then 0 else s.h + 1 := mod_next hh
theorem next_lt {s : CS} (hh : s.h < s.n) : s.next.h < s.next.n := Nat.mod_lt _ (by show 0 < s.n; omega)
theorem next_at {s : CS} (hh : s.h < s.n) {d : Nat} (hd : d + 1 < s.n) : s.next.at_ d = s.at_ (d + 1) := by
  unfold at_
  rw [next_h hh]
  show (if (if s.h + 1 = s.n then 0 else s.h + 1) + d < s.n then _ else _) = _
  by_cases e : s.h + 1 = s.n
  · rw [if_pos e, if_pos (by omega), if_neg (by omega)]
    omega
  · rw [if_neg e]
    by_cases h2 : s.h + 1 + d < s.n
    · rw [if_pos h2, if_pos (by omega)]
      omega
    · rw [if_neg h2, if_neg (by omega)]
      show s.h + 1 + d - s.n = _
      omega
theorem at_zero {s : CS} (hh : s.h < s.n) : s.at_ 0 = s.h := by
  unfold at_
  rw [if_pos (by omega)]
  omega
theorem at_ne {s : CS} {d : Nat} (h0 : 0 < d) (hd : d < s.n) : s.at_ d ≠ s.h := by
  unfold at_
  split <;> omega

theorem go_more : ∀ (k : Nat) (s : CS) (r : Nat × CS), go k s = some r → go (k + 1) s = some r
  | 0, _, _, h => by cases h
  | k + 1, s, r, h => by
    rw [go] at h ⊢
    split
    · rename_i h1
      rw [if_pos h1] at h
      split
      · rename_i h2
        rw [if_pos h2] at h
        exact go_more k _ r h
      · rename_i h2
        rw [if_neg h2] at h
        exact h
    · rename_i h1
      rw [if_neg h1] at h
      exact go_more k _ r h

theorem go_le {k m : Nat} {s : CS} {r : Nat × CS} (h : go k s = some r) (hm : k ≤ m) : go m s = some r := by
  obtain ⟨d, rfl⟩ : ∃ d, m = k + d := ⟨m - k, by omega⟩
  induction d with
  | zero => exact h
  | succ d ih => exact go_more _ _ _ (ih (by omega))

/-- A place that is free and was not used ends the way. -/
theorem go_fresh : ∀ (d : Nat) (s : CS), s.h < s.n → d < s.n → s.p (s.at_ d) = 0 → s.u (s.at_ d) = false → ∃ r, go (d + 1) s = some r
  | 0, s, hh, _, h1, h2 => by
    rw [at_zero hh] at h1 h2
    rw [go, if_pos h1, if_neg (by rw [h2]; decide)]
    exact ⟨_, rfl⟩
  | d + 1, s, hh, hd, h1, h2 => by
    rw [go]
    split
    · split
      · refine go_fresh d (s.setU s.h false).next (next_lt (s := s.setU s.h false) hh) (by show d < s.n; omega) ?_ ?_
        · rw [next_at (s := s.setU s.h false) hh (by show d + 1 < s.n; omega)]
          exact h1
        · rw [next_at (s := s.setU s.h false) hh (by show d + 1 < s.n; omega)]
          show (if s.at_ (d + 1) = s.h then false else s.u (s.at_ (d + 1))) = false
          rw [if_neg (at_ne (by omega) hd)]
          exact h2
      · exact ⟨_, rfl⟩
    · refine go_fresh d s.next (next_lt hh) (by show d < s.n; omega) ?_ ?_
      · rw [next_at hh (by omega)]
        exact h1
      · rw [next_at hh (by omega)]
        exact h2

theorem at_last {s : CS} (hh : s.h < s.n) : s.next.at_ (s.n - 1) = s.h := by
  unfold at_
  rw [next_h hh]
  show (if (if s.h + 1 = s.n then 0 else s.h + 1) + (s.n - 1) < s.n then _ else (if s.h + 1 = s.n then 0 else s.h + 1) + (s.n - 1) - s.n) = _
  by_cases e : s.h + 1 = s.n
  · rw [if_pos e, if_pos (by omega)]
    omega
  · rw [if_neg e, if_neg (by omega)]
    omega

/-- A place that is free ends the way. -/
theorem go_free : ∀ (d : Nat) (s : CS), s.h < s.n → d < s.n → s.p (s.at_ d) = 0 → ∃ r, go (d + 1 + s.n) s = some r
  | 0, s, hh, _, h1 => by
    have h0 := at_zero hh
    rw [h0] at h1
    rw [Nat.add_right_comm, go, if_pos h1]
    split
    · have := go_fresh (s.n - 1) (s.setU s.h false).next (next_lt (s := s.setU s.h false) hh) (by show s.n - 1 < s.n; omega) (by
        rw [show (s.setU s.h false).next.at_ (s.n - 1) = s.h from at_last (s := s.setU s.h false) hh]
        exact h1) (by
        rw [show (s.setU s.h false).next.at_ (s.n - 1) = s.h from at_last (s := s.setU s.h false) hh]
        show (if s.h = s.h then false else _) = false
        rw [if_pos rfl])
      rw [show s.n - 1 + 1 = 0 + s.n by omega] at this
      exact this
    · exact ⟨_, rfl⟩
  | d + 1, s, hh, hd, h1 => by
    rw [show d + 1 + 1 + s.n = (d + 1 + s.n) + 1 by omega, go]
    split
    · split
      · refine go_free d (s.setU s.h false).next (next_lt (s := s.setU s.h false) hh) (by show d < s.n; omega) ?_
        rw [next_at (s := s.setU s.h false) hh (by show d + 1 < s.n; omega)]
        exact h1
      · exact ⟨_, rfl⟩
    · refine go_free d s.next (next_lt hh) (by show d < s.n; omega) ?_
      rw [next_at hh (by omega)]
      exact h1

theorem at_of {s : CS} (hh : s.h < s.n) {j : Nat} (hj : j < s.n) : ∃ d, d < s.n ∧ s.at_ d = j := by
  by_cases h : s.h ≤ j
  · refine ⟨j - s.h, by omega, ?_⟩
    unfold at_
    rw [if_pos (by omega)]
    omega
  · refine ⟨j + s.n - s.h, by omega, ?_⟩
    unfold at_
    rw [if_neg (by omega)]
    omega

theorem go_ends {s : CS} (hh : s.h < s.n) (hf : s.free = true) : ∃ r, go (2 * s.n) s = some r := by
  obtain ⟨j, hj, h0⟩ := (free_iff s).1 hf
  obtain ⟨d, hd, rfl⟩ := at_of hh hj
  obtain ⟨r, hr⟩ := go_free d s hh hd h0
  exact ⟨r, go_le hr (by omega)⟩

/-- What the way comes to. -/
structure Went (s : CS) (r : Nat × CS) : Prop where
  lt : r.1 < s.n
  p0 : s.p r.1 = 0
  n_ : r.2.n = s.n
  p_ : r.2.p = s.p
  h_ : r.2.h = (r.1 + 1) % s.n
  u_ : ∀ j, r.2.u j = true → s.u j = true

theorem go_went : ∀ (k : Nat) (s : CS) (r : Nat × CS), s.h < s.n → go k s = some r → Went s r
  | 0, _, _, _, h => by cases h
  | k + 1, s, r, hh, h => by
    rw [go] at h
    split at h
    · rename_i h1
      split at h
      · have g := go_went k _ r (next_lt (s := s.setU s.h false) hh) h
        refine ⟨g.lt, g.p0, g.n_, g.p_, g.h_, fun j hj => ?_⟩
        have := g.u_ j hj
        have h2 : (if j = s.h then false else s.u j) = true := this
        split at h2
        · cases h2
        · exact h2
      · obtain rfl := Option.some.inj h
        exact ⟨hh, h1, rfl, rfl, rfl, fun _ hj => hj⟩
    · have g := go_went k _ r (next_lt hh) h
      exact ⟨g.lt, g.p0, g.n_, g.p_, g.h_, g.u_⟩

/-- Where a free place was not used, the place that goes was not used. -/
theorem go_fair : ∀ (d : Nat) (k : Nat) (s : CS) (r : Nat × CS), s.h < s.n → d < s.n → s.p (s.at_ d) = 0 → s.u (s.at_ d) = false → go k s = some r → s.u r.1 = false ∧ ∃ e, e ≤ d ∧ r.1 = s.at_ e
  | _, 0, _, _, _, _, _, _, h => by cases h
  | 0, k + 1, s, r, hh, _, h1, h2, h => by
    rw [at_zero hh] at h1 h2
    rw [go, if_pos h1, if_neg (by rw [h2]; decide)] at h
    obtain rfl := Option.some.inj h
    exact ⟨h2, 0, Nat.le_refl _, (at_zero hh).symm⟩
  | d + 1, k + 1, s, r, hh, hd, h1, h2, h => by
    rw [go] at h
    split at h
    · split at h
      · obtain ⟨g, e, he, hr⟩ := go_fair d k (s.setU s.h false).next r (next_lt (s := s.setU s.h false) hh) (by show d < s.n; omega) (by
          rw [next_at (s := s.setU s.h false) hh (by show d + 1 < s.n; omega)]
          exact h1) (by
          rw [next_at (s := s.setU s.h false) hh (by show d + 1 < s.n; omega)]
          show (if s.at_ (d + 1) = s.h then false else s.u (s.at_ (d + 1))) = false
          rw [if_neg (at_ne (by omega) hd)]
          exact h2) h
        rw [next_at (s := s.setU s.h false) hh (by show e + 1 < s.n; omega)] at hr
        have hr' : r.1 = s.at_ (e + 1) := hr
        refine ⟨?_, e + 1, by omega, hr'⟩
        have g' : (if r.1 = s.h then false else s.u r.1) = false := g
        rw [if_neg (by rw [hr']; exact at_ne (by omega) (by omega))] at g'
        exact g'
      · rename_i h3 h4
        obtain rfl := Option.some.inj h
        exact ⟨by simpa using h4, 0, Nat.zero_le _, (at_zero hh).symm⟩
    · obtain ⟨g, e, he, hr⟩ := go_fair d k s.next r (next_lt hh) (by show d < s.n; omega) (by
        rw [next_at hh (by omega)]
        exact h1) (by
        rw [next_at hh (by omega)]
        exact h2) h
      rw [next_at hh (by omega)] at hr
      exact ⟨g, e + 1, by omega, hr⟩

theorem way_of {s : CS} (hh : s.h < s.n) (hf : s.free = true) : ∃ r, s.way = some r ∧ go (2 * s.n) s = some r ∧ Went s r := by
  obtain ⟨r, hr⟩ := go_ends hh hf
  refine ⟨r, ?_, hr, go_went _ _ _ hh hr⟩
  unfold way
  rw [if_pos hf]
  exact hr

theorem way_no {s : CS} (hf : s.free = false) : s.way = none := by
  unfold way
  rw [if_neg (by rw [hf]; decide)]

theorem vic_of {s : CS} {r : Nat × CS} (h : s.way = some r) : s.vicI = r.1 ∧ s.vicE = 0 ∧ s.vicS = r.2 := by
  unfold vicI vicE vicS
  rw [h]
  exact ⟨rfl, rfl, rfl⟩

theorem vic_no {s : CS} (h : s.free = false) : s.vicI = 0 ∧ s.vicE = 60 ∧ s.vicS = s := by
  unfold vicI vicE vicS
  rw [way_no h]
  exact ⟨rfl, rfl, rfl⟩

theorem useS_n (s : CS) (i : Int) : (s.useS i).n = s.n := by unfold useS; split <;> rfl
theorem pinS_n (s : CS) (i : Int) : (s.pinS i).n = s.n := by unfold pinS; split <;> rfl
theorem unS_n (s : CS) (i : Int) : (s.unS i).n = s.n := by unfold unS; split <;> rfl
theorem vicS_n {s : CS} (hh : s.h < s.n) : s.vicS.n = s.n := by
  cases hf : s.free with
  | false => rw [(vic_no hf).2.2]
  | true =>
    obtain ⟨r, hw, _, g⟩ := way_of hh hf
    rw [(vic_of hw).2.2, g.n_]
theorem doneS_n {s : CS} (hh : s.h < s.n) (k i : Int) : (s.doneS k i).n = s.n := by
  unfold doneS
  split
  · exact useS_n s i
  · split
    · exact pinS_n s i
    · split
      · exact unS_n s i
      · split
        · exact vicS_n hh
        · rfl

/-- No place is pinned oftener. -/
def Max (s : CS) (m : Nat) : Prop := ∀ j, s.p j ≤ m
theorem Max.up {s : CS} {m k : Nat} (h : s.Max m) (hk : m ≤ k) : s.Max k := fun j => Nat.le_trans (h j) hk
theorem Max.use {s : CS} {m : Nat} (h : s.Max m) (i : Int) : (s.useS i).Max m := by unfold useS; split <;> exact h
theorem Max.pin {s : CS} {m : Nat} (h : s.Max m) (i : Int) : (s.pinS i).Max (m + 1) := by
  unfold pinS
  split
  · intro j
    show (if j = i.toNat then _ else _) ≤ _
    have := h i.toNat
    have := h j
    split <;> omega
  · exact h.up (by omega)
theorem Max.un {s : CS} {m : Nat} (h : s.Max m) (i : Int) : (s.unS i).Max m := by
  unfold unS
  split
  · intro j
    show (if j = i.toNat then _ else _) ≤ _
    have := h i.toNat
    have := h j
    split <;> omega
  · exact h
theorem Max.vic {s : CS} {m : Nat} (h : s.Max m) (hh : s.h < s.n) : s.vicS.Max m := by
  cases hf : s.free with
  | false => rw [(vic_no hf).2.2]; exact h
  | true =>
    obtain ⟨r, hw, _, g⟩ := way_of hh hf
    rw [(vic_of hw).2.2]
    intro j
    rw [g.p_]
    exact h j
theorem Max.done {s : CS} {m : Nat} (h : s.Max m) (hh : s.h < s.n) (k i : Int) : (s.doneS k i).Max (m + 1) := by
  unfold doneS
  split
  · exact (h.use i).up (by omega)
  · split
    · exact h.pin i
    · split
      · exact (h.un i).up (by omega)
      · split
        · exact (h.vic hh).up (by omega)
        · exact h.up (by omega)
end CS
end Go.Proofs.Ytgkdlbcpckdmkaa
