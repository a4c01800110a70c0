/-
  What the plain clock does round and round. Nothing here names the program.
-/
import Derived.Test.YtnaoibohilpcgaaGPure
namespace Go.Proofs.Ytnaoibohilpcgaa.CS

/-- No place is pinned or was used; the hand is at h. -/
structure Clear (s : CS) (n h : Nat) : Prop where
  n_ : s.n = n
  h_ : s.h = h
  p_ : ∀ j, j < n → s.p j = 0
  u_ : ∀ j, j < n → s.u j = false

/-- No place is pinned; those from the hand on were used, those ahead of it were not. -/
structure Part (s : CS) (n h : Nat) : Prop where
  n_ : s.n = n
  h_ : s.h = h
  p_ : ∀ j, j < n → s.p j = 0
  u_ : ∀ j, j < n → s.u j = decide (h ≤ j)

theorem Clear.vic {s : CS} {n h : Nat} (c : Clear s n h) (hh : h < n) : s.vicI = h ∧ s.vicE = 0 ∧ Clear s.vicS n ((h + 1) % n) := by
  have hw : s.way = some (h, s.next) := by
    unfold way
    rw [if_pos ((free_iff s).2 ⟨h, by rw [c.n_]; exact hh, c.p_ h hh⟩)]
    have : 2 * s.n = (2 * s.n - 1) + 1 := by
      have := c.n_
      omega
    rw [this, go, c.h_, if_pos (c.p_ h hh), if_neg (by rw [c.u_ h hh]; decide)]
  obtain ⟨v1, v2, v3⟩ := vic_of hw
  rw [v1, v2, v3]
  exact ⟨rfl, rfl, c.n_, by show (s.h + 1) % s.n = _; rw [c.h_, c.n_], c.p_, c.u_⟩

theorem Part.step {s : CS} {n h : Nat} (c : Part s n h) (hh : h + 1 < n) : Part (s.setU s.h false).next n (h + 1) := by
  refine ⟨c.n_, ?_, c.p_, fun j hj => ?_⟩
  · show (s.h + 1) % s.n = _
    rw [c.h_, c.n_, Nat.mod_eq_of_lt hh]
  · show (if j = s.h then false else s.u j) = _
    rw [c.h_, c.u_ j hj]
    by_cases e : j = h
    · rw [if_pos e, eq_comm, decide_eq_false_iff_not]
      omega
    · rw [if_neg e]
      congr 1
      rw [eq_iff_iff]
      omega

theorem Part.last {s : CS} {n h : Nat} (c : Part s n h) (hh : h + 1 = n) : Clear (s.setU s.h false).next n 0 := by
  refine ⟨c.n_, ?_, c.p_, fun j hj => ?_⟩
  · show (s.h + 1) % s.n = _
    rw [c.h_, c.n_, hh, Nat.mod_self]
  · show (if j = s.h then false else s.u j) = _
    rw [c.h_, c.u_ j hj]
    by_cases e : j = h
    · rw [if_pos e]
    · rw [if_neg e, decide_eq_false_iff_not]
      omega

theorem Part.go {n : Nat} : ∀ (d : Nat) {s : CS} {h : Nat} (k : Nat), Part s n h → h + d + 1 = n → d + 2 ≤ k → ∃ r, CS.go k s = some r ∧ r.1 = 0 ∧ Clear r.2 n (1 % n)
  | _, _, _, 0, _, _, hk => absurd hk (by omega)
  | 0, s, h, k + 1, c, hd, hk => by
    have l := c.last (by omega)
    obtain ⟨m, rfl⟩ : ∃ m, k = m + 1 := ⟨k - 1, by omega⟩
    rw [CS.go, c.h_, if_pos (c.p_ h (by omega)), if_pos (by rw [c.u_ h (by omega)]; exact decide_eq_true (Nat.le_refl _)), CS.go]
    rw [← c.h_, if_pos (by rw [l.h_]; exact l.p_ 0 (by omega)), if_neg (by rw [l.h_, l.u_ 0 (by omega)]; decide)]
    refine ⟨_, rfl, l.h_, l.n_, ?_, l.p_, l.u_⟩
    show ((s.setU s.h false).next.h + 1) % (s.setU s.h false).next.n = _
    rw [l.h_, l.n_]
  | d + 1, s, h, k + 1, c, hd, hk => by
    have l := c.step (by omega)
    rw [CS.go, c.h_, if_pos (c.p_ h (by omega)), if_pos (by rw [c.u_ h (by omega)]; exact decide_eq_true (Nat.le_refl _)), ← c.h_]
    exact Part.go d k l (by omega) (by omega)

theorem Part.vic {s : CS} {n : Nat} (c : Part s n 0) (hn : 1 ≤ n) : s.vicI = 0 ∧ s.vicE = 0 ∧ Clear s.vicS n (1 % n) := by
  obtain ⟨r, hr, h1, h2⟩ := Part.go (n - 1) (2 * s.n) c (by omega) (by rw [c.n_]; omega)
  have hw : s.way = some r := by
    unfold way
    rw [if_pos ((free_iff s).2 ⟨0, by rw [c.n_]; omega, c.p_ 0 (by omega)⟩)]
    exact hr
  obtain ⟨v1, v2, v3⟩ := vic_of hw
  rw [v1, v2, v3, h1]
  exact ⟨rfl, rfl, h2⟩

/-- Behind i places that went. -/
def Turns (s : CS) (n i : Nat) : Prop := (i = 0 ∧ Part s n 0) ∨ Clear s n (i % n)

theorem Turns.vic {s : CS} {n i : Nat} (t : Turns s n i) (hn : 1 ≤ n) : s.vicI = (i : Int) % (n : Int) ∧ s.vicE = 0 ∧ Turns s.vicS n (i + 1) := by
  rcases t with ⟨rfl, t⟩ | t
  · obtain ⟨h1, h2, h3⟩ := t.vic hn
    exact ⟨by rw [h1, ← Int.natCast_emod, Nat.zero_mod]; rfl, h2, Or.inr h3⟩
  · obtain ⟨h1, h2, h3⟩ := t.vic (Nat.mod_lt _ (by omega))
    refine ⟨h1.trans (Int.natCast_emod i n), h2, Or.inr ?_⟩
    rwa [Nat.mod_add_mod] at h3

/-- Some places were used, one behind the other. -/
structure Usd (s : CS) (n k : Nat) : Prop where
  n_ : s.n = n
  h_ : s.h = 0
  p_ : ∀ j, s.p j = 0
  u_ : ∀ j, s.u j = decide (j < k)

theorem Usd.new (n : Nat) : Usd (CS.new n) n 0 := ⟨rfl, rfl, fun _ => rfl, fun j => (decide_eq_false (by omega)).symm⟩
theorem Usd.use {s : CS} {n k : Nat} (c : Usd s n k) (hk : k < n) : Usd (s.useS (k : Int)) n (k + 1) := by
  unfold useS
  rw [if_pos (by unfold has; rw [c.n_]; exact decide_eq_true (by omega))]
  refine ⟨c.n_, c.h_, c.p_, fun j => ?_⟩
  show (if j = (k : Int).toNat then true else s.u j) = _
  rw [Int.toNat_natCast, c.u_]
  by_cases e : j = k
  · rw [if_pos e, eq_comm]
    exact decide_eq_true (by omega)
  · rw [if_neg e]
    congr 1
    rw [eq_iff_iff]
    omega
theorem Usd.part {s : CS} {n : Nat} (c : Usd s n n) : Part s n 0 :=
  ⟨c.n_, c.h_, fun j _ => c.p_ j, fun j hj => by rw [c.u_, decide_eq_true hj]; rfl⟩

/-- One place is pinned k times, none other; none was used. -/
structure Pnd (s : CS) (n i k : Nat) : Prop where
  n_ : s.n = n
  h_ : s.h < n
  pi : s.p i = k
  po : ∀ j, j ≠ i → s.p j = 0
  u_ : ∀ j, s.u j = false

theorem Pnd.new {n : Nat} (i : Nat) (hn : 1 ≤ n) : Pnd (CS.new n) n i 0 := ⟨rfl, by show 0 < n; omega, rfl, fun _ _ => rfl, fun _ => rfl⟩
theorem Pnd.max {s : CS} {n i k : Nat} (c : Pnd s n i k) : s.Max k := fun j => by
  by_cases e : j = i
  · rw [e, c.pi]
    exact Nat.le_refl _
  · rw [c.po j e]
    exact Nat.zero_le _
theorem Pnd.has {s : CS} {n i k : Nat} (c : Pnd s n i k) (hi : i < n) : s.has (i : Int) = true := by
  unfold CS.has
  rw [c.n_]
  exact decide_eq_true (by omega)
theorem Pnd.pin {s : CS} {n i k : Nat} (c : Pnd s n i k) (hi : i < n) : Pnd (s.pinS (i : Int)) n i (k + 1) := by
  unfold pinS
  rw [if_pos (c.has hi)]
  refine ⟨c.n_, c.h_, ?_, fun j hj => ?_, c.u_⟩
  · show (if i = (i : Int).toNat then s.p (i : Int).toNat + 1 else _) = _
    rw [Int.toNat_natCast, if_pos rfl, c.pi]
  · show (if j = (i : Int).toNat then _ else s.p j) = _
    rw [Int.toNat_natCast, if_neg hj]
    exact c.po j hj
theorem Pnd.un {s : CS} {n i k : Nat} (c : Pnd s n i (k + 1)) (hi : i < n) : s.unE (i : Int) = 0 ∧ Pnd (s.unS (i : Int)) n i k := by
  have h : s.un (i : Int) = true := by
    unfold CS.un
    rw [c.has hi, Int.toNat_natCast, c.pi]
    rfl
  refine ⟨by unfold unE; rw [if_pos h], ?_⟩
  unfold unS
  rw [if_pos h]
  refine ⟨c.n_, c.h_, ?_, fun j hj => ?_, c.u_⟩
  · show (if i = (i : Int).toNat then s.p (i : Int).toNat - 1 else _) = _
    rw [Int.toNat_natCast, if_pos rfl, c.pi]
    rfl
  · show (if j = (i : Int).toNat then _ else s.p j) = _
    rw [Int.toNat_natCast, if_neg hj]
    exact c.po j hj
theorem Pnd.unNo {s : CS} {n i : Nat} (c : Pnd s n i 0) : s.unE (i : Int) = 1 ∧ s.unS (i : Int) = s := by
  have h : s.un (i : Int) = false := by
    unfold CS.un
    rw [Int.toNat_natCast, c.pi]
    simp
  exact ⟨by unfold unE; rw [if_neg (by rw [h]; decide)], by unfold unS; rw [if_neg (by rw [h]; decide)]⟩
/-- While it is pinned it does not go. -/
theorem Pnd.vic {s : CS} {n i k : Nat} (c : Pnd s n i (k + 1)) (hn : 2 ≤ n) : s.vicE = 0 ∧ s.vicI ≠ (i : Int) ∧ 0 ≤ s.vicI ∧ s.vicI < (n : Int) ∧ Pnd s.vicS n i (k + 1) := by
  have hf : s.free = true := by
    rw [free_iff]
    by_cases e : i = 0
    · exact ⟨1, by rw [c.n_]; omega, c.po 1 (by omega)⟩
    · exact ⟨0, by rw [c.n_]; omega, c.po 0 (by omega)⟩
  obtain ⟨r, hw, _, g⟩ := way_of (by rw [c.n_]; exact c.h_) hf
  obtain ⟨v1, v2, v3⟩ := vic_of hw
  rw [v1, v2, v3]
  have hlt := g.lt
  rw [c.n_] at hlt
  refine ⟨rfl, fun e => ?_, by omega, by omega, g.n_.trans c.n_, ?_, by rw [g.p_]; exact c.pi, fun j hj => by rw [g.p_]; exact c.po j hj, fun j => ?_⟩
  · have e' : r.1 = i := by omega
    have := g.p0
    rw [e', c.pi] at this
    omega
  · rw [g.h_, c.n_]
    exact Nat.mod_lt _ (by omega)
  · cases hu : r.2.u j with
    | false => rfl
    | true =>
      have := g.u_ j hu
      rw [c.u_ j] at this
      exact this.symm
theorem Pnd.clear {s : CS} {n i : Nat} (c : Pnd s n i 0) : Clear s n s.h :=
  ⟨c.n_, rfl, fun j _ => by
    by_cases e : j = i
    · rw [e, c.pi]
    · exact c.po j e, fun j _ => c.u_ j⟩

/-- From the hand h0 on, k places went; was i among them? -/
def was (n h0 i k : Nat) : Bool := (List.range k).any fun j => (h0 + j) % n == i
theorem was_succ (n h0 i k : Nat) : was n h0 i (k + 1) = (was n h0 i k || (h0 + k) % n == i) := by
  unfold was
  rw [List.range_succ, List.any_append]
  simp
theorem was_all {n h0 i : Nat} (hh : h0 < n) (hi : i < n) {k : Nat} (hk : n ≤ k) : was n h0 i k = true := by
  unfold was
  rw [List.any_eq_true]
  by_cases e : h0 ≤ i
  · refine ⟨i - h0, List.mem_range.2 (by omega), ?_⟩
    rw [beq_iff_eq, show h0 + (i - h0) = i by omega, Nat.mod_eq_of_lt hi]
  · refine ⟨i + n - h0, List.mem_range.2 (by omega), ?_⟩
    rw [beq_iff_eq, show h0 + (i + n - h0) = i + n by omega, Nat.add_mod_right, Nat.mod_eq_of_lt hi]
end Go.Proofs.Ytnaoibohilpcgaa.CS
