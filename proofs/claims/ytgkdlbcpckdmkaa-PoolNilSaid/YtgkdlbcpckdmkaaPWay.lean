/-
  Which place the clock's Victim is, told without its hand's way. Nothing here names the program.
-/
import Derived.Test.YtgkdlbcpckdmkaaGPure
namespace Go.Proofs.Ytgkdlbcpckdmkaa.CS

theorem at_mod {s : CS} (hh : s.h < s.n) {d : Nat} (hd : d < s.n) : s.at_ d = (s.h + d) % s.n := by
  unfold at_
  split
  · rename_i e
    exact (Nat.mod_eq_of_lt e).symm
  · rename_i e
    rw [Nat.mod_eq_sub_mod (by omega), Nat.mod_eq_of_lt (by omega)]

theorem at_inj {s : CS} {d e : Nat} (hd : d < s.n) (he : e < s.n) (h : s.at_ d = s.at_ e) : d = e := by
  unfold at_ at h
  split at h <;> split at h <;> omega

theorem at_lt {s : CS} (hh : s.h < s.n) {d : Nat} (hd : d < s.n) : s.at_ d < s.n := by
  unfold at_
  split <;> omega

/-- The first place that is free and was not used, all ahead of it being pinned or used. -/
theorem go_first : ∀ (d : Nat) (s : CS), s.h < s.n → d < s.n → (∀ e, e < d → s.p (s.at_ e) ≠ 0 ∨ s.u (s.at_ e) = true) → s.p (s.at_ d) = 0 → s.u (s.at_ d) = false →
    ∃ r, go (d + 1) s = some r ∧ r.1 = s.at_ d
  | 0, s, hh, _, _, h1, h2 => by
    have e0 := at_zero hh
    rw [e0] at h1 h2
    rw [go, if_pos h1, if_neg (by rw [h2]; decide)]
    exact ⟨_, rfl, e0.symm⟩
  | d + 1, s, hh, hd, hp, h1, h2 => by
    have e0 := hp 0 (by omega)
    rw [at_zero hh] at e0
    rw [go]
    by_cases hz : s.p s.h = 0
    · have hu : s.u s.h = true := by
        rcases e0 with e0 | e0
        · exact absurd hz e0
        · exact e0
      rw [if_pos hz, if_pos hu]
      have hat : ∀ e, e + 1 < s.n → (s.setU s.h false).next.at_ e = s.at_ (e + 1) := fun e he => next_at (s := s.setU s.h false) hh he
      have hne : ∀ e, 0 < e → e < s.n → (s.setU s.h false).next.u (s.at_ e) = s.u (s.at_ e) := fun e h0 he => by
        show (if s.at_ e = s.h then false else _) = _
        rw [if_neg (at_ne h0 he)]
      obtain ⟨r, h3, h4⟩ := go_first d (s.setU s.h false).next (next_lt (s := s.setU s.h false) hh) (by show d < s.n; omega) (fun e he => by
        rw [hat e (by omega), hne _ (by omega) (by omega)]
        exact hp (e + 1) (by omega)) (by rw [hat d hd]; exact h1) (by rw [hat d hd, hne _ (by omega) hd]; exact h2)
      exact ⟨r, h3, h4.trans (hat d hd)⟩
    · rw [if_neg hz]
      have hat : ∀ e, e + 1 < s.n → s.next.at_ e = s.at_ (e + 1) := fun e he => next_at hh he
      obtain ⟨r, h3, h4⟩ := go_first d s.next (next_lt hh) (by show d < s.n; omega) (fun e he => by
        rw [hat e (by omega)]
        exact hp (e + 1) (by omega)) (by rw [hat d hd]; exact h1) (by rw [hat d hd]; exact h2)
      exact ⟨r, h3, h4.trans (hat d hd)⟩

/-- So many places on, all of which were pinned or used. -/
structure On (s : CS) (d : Nat) (t : CS) : Prop where
  go_ : ∀ g, go (g + d) s = go g t
  n_ : t.n = s.n
  p_ : t.p = s.p
  h_ : t.h = (s.h + d) % s.n
  off : ∀ e, e < d → s.p (s.at_ e) = 0 → t.u (s.at_ e) = false
  on : ∀ e, d ≤ e → e < s.n → t.u (s.at_ e) = s.u (s.at_ e)

theorem go_on (s : CS) (hh : s.h < s.n) : ∀ (d : Nat), d ≤ s.n → (∀ e, e < d → s.p (s.at_ e) ≠ 0 ∨ s.u (s.at_ e) = true) → ∃ t, On s d t
  | 0, _, _ => ⟨s, fun _ => rfl, rfl, rfl, (Nat.mod_eq_of_lt hh).symm, fun e he => absurd he (by omega), fun _ _ _ => rfl⟩
  | d + 1, hd, hp => by
    obtain ⟨t, h⟩ := go_on s hh d (by omega) (fun e he => hp e (by omega))
    have eh : t.h = s.at_ d := by rw [h.h_, at_mod hh (by omega)]
    have en : (t.h + 1) % t.n = (s.h + (d + 1)) % s.n := by
      rw [h.n_, h.h_, Nat.mod_add_mod, Nat.add_assoc]
    have h0 := hp d (by omega)
    by_cases hz : s.p (s.at_ d) = 0
    · have hu : s.u (s.at_ d) = true := by
        rcases h0 with h0 | h0
        · exact absurd hz h0
        · exact h0
      refine ⟨(t.setU t.h false).next, fun g => ?_, h.n_, h.p_, en, fun e he h1 => ?_, fun e he h1 => ?_⟩
      · rw [show g + (d + 1) = (g + 1) + d by omega, h.go_, go, if_pos (by rw [h.p_, eh]; exact hz), if_pos (by rw [eh, h.on d (Nat.le_refl _) (by omega)]; exact hu)]
      · show (if s.at_ e = t.h then false else t.u (s.at_ e)) = false
        split
        · rfl
        · rename_i hne
          refine h.off e ?_ h1
          have : e ≠ d := fun e2 => hne (by rw [eh, e2])
          omega
      · show (if s.at_ e = t.h then false else t.u (s.at_ e)) = _
        rw [if_neg (fun e2 => by rw [eh] at e2; have := at_inj h1 (by omega) e2; omega)]
        exact h.on e (by omega) h1
    · refine ⟨t.next, fun g => ?_, h.n_, h.p_, en, fun e he h1 => ?_, fun e he h1 => h.on e (by omega) h1⟩
      · rw [show g + (d + 1) = (g + 1) + d by omega, h.go_, go, if_neg (by rw [h.p_, eh]; exact hz)]
      · refine h.off e ?_ h1
        have : e ≠ d := fun e2 => hz (by rw [← e2]; exact h1)
        omega

theorem free_at {s : CS} (hh : s.h < s.n) {d : Nat} (hd : d < s.n) (h0 : s.p (s.at_ d) = 0) : s.free = true :=
  (free_iff s).2 ⟨s.at_ d, at_lt hh hd, h0⟩

theorem way_is {s : CS} (hf : s.free = true) {k : Nat} (hk : k ≤ 2 * s.n) {r : Nat × CS} (h : go k s = some r) : s.way = some r := by
  unfold way
  rw [if_pos hf]
  exact go_le h hk

/-- Victim is the first place that is free and was not used, all ahead of it being pinned or used. -/
theorem vic_first {s : CS} (hh : s.h < s.n) {d : Nat} (hd : d < s.n) (hp : ∀ e, e < d → s.p (s.at_ e) ≠ 0 ∨ s.u (s.at_ e) = true) (h1 : s.p (s.at_ d) = 0) (h2 : s.u (s.at_ d) = false) :
    s.vicI = s.at_ d := by
  obtain ⟨r, h3, h4⟩ := go_first d s hh hd hp h1 h2
  have hw := way_is (free_at hh hd h1) (by omega) h3
  unfold vicI
  rw [hw, ← h4]

/-- Where all are pinned or used it is the first one that is free. -/
theorem vic_second {s : CS} (hh : s.h < s.n) {d : Nat} (hd : d < s.n) (hp : ∀ e, e < s.n → s.p (s.at_ e) ≠ 0 ∨ s.u (s.at_ e) = true) (h0 : ∀ e, e < d → s.p (s.at_ e) ≠ 0) (h1 : s.p (s.at_ d) = 0) :
    s.vicI = s.at_ d := by
  obtain ⟨t, h⟩ := go_on s hh s.n (Nat.le_refl _) hp
  have eh : t.h = s.h := by rw [h.h_, Nat.add_mod_right, Nat.mod_eq_of_lt hh]
  have ea : ∀ e, t.at_ e = s.at_ e := fun e => by unfold at_; rw [eh, h.n_]
  obtain ⟨r, h3, h4⟩ := go_first d t (by rw [eh, h.n_]; exact hh) (by rw [h.n_]; exact hd) (fun e he => by rw [ea, h.p_]; exact Or.inl (h0 e he)) (by rw [ea, h.p_]; exact h1) (by rw [ea]; exact h.off d hd h1)
  have hg : go (2 * s.n) s = some r := by
    rw [show 2 * s.n = s.n + s.n by omega, h.go_]
    exact go_le h3 (by omega)
  have hw := way_is (free_at hh hd h1) (Nat.le_refl _) hg
  unfold vicI
  rw [hw]
  show (r.1 : Int) = _
  rw [h4, ea]

theorem not_free {s : CS} (hh : s.h < s.n) (h0 : ∀ e, e < s.n → s.p (s.at_ e) ≠ 0) : s.free = false := by
  cases hf : s.free with
  | false => rfl
  | true =>
    obtain ⟨j, hj, h1⟩ := (free_iff s).1 hf
    refine absurd h1 ?_
    -- the place j is some place on
    by_cases e : s.h ≤ j
    · have := h0 (j - s.h) (by omega)
      unfold at_ at this
      rw [if_pos (by omega), show s.h + (j - s.h) = j by omega] at this
      exact this
    · have := h0 (j + s.n - s.h) (by omega)
      unfold at_ at this
      rw [if_neg (by omega), show s.h + (j + s.n - s.h) - s.n = j by omega] at this
      exact this
end Go.Proofs.Ytgkdlbcpckdmkaa.CS
