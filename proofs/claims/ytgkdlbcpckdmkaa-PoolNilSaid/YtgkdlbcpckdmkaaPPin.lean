/-
  Which sectors of a plain pool are pinned. Nothing here names the program.
-/
import Derived.Test.YtgkdlbcpckdmkaaPHold
namespace Go.Proofs.Ytgkdlbcpckdmkaa.PP

/-- More things than places: two of them share one. -/
theorem pigeon : ∀ (k m : Nat) (g : Nat → Nat), k < m → (∀ j, j < m → g j < k) → ∃ i j, i < m ∧ j < m ∧ i ≠ j ∧ g i = g j
  | 0, m, g, hm, hg => absurd (hg 0 hm) (by omega)
  | k + 1, m, g, hm, hg => by
    by_cases h : ∃ j, j < m - 1 ∧ g j = g (m - 1)
    · obtain ⟨j, hj, e⟩ := h
      exact ⟨j, m - 1, by omega, by omega, by omega, e⟩
    · -- the last one's place is taken out
      have hno : ∀ j, j < m - 1 → g j ≠ g (m - 1) := fun j hj e => h ⟨j, hj, e⟩
      have hl := hg (m - 1) (by omega)
      obtain ⟨i, j, hi, hj, hne, e⟩ := pigeon k (m - 1) (fun j => if g j = k then g (m - 1) else g j) (by omega) (fun j hj => by
        have h1 := hg j (by omega)
        have h2 := hno j hj
        show (if g j = k then g (m - 1) else g j) < k
        split
        · rename_i e
          omega
        · omega)
      have e' : (if g i = k then g (m - 1) else g i) = (if g j = k then g (m - 1) else g j) := e
      refine ⟨i, j, by omega, by omega, hne, ?_⟩
      have a := hno i hi
      have b := hno j hj
      split at e' <;> split at e' <;> omega

/-- The first k sectors are at hand and pinned, no frame else is pinned. -/
structure Pinned (s : PP) (k : Nat) : Prop where
  at_ : ∀ n : Nat, n < k → ∃ j, j < s.m ∧ s.at_ j = n ∧ s.c.p j ≠ 0
  only : ∀ j, s.c.p j ≠ 0 → j < s.m ∧ 0 ≤ s.at_ j ∧ s.at_ j < k

theorem Pinned.none {s : PP} (h : ∀ j, s.c.p j = 0) : Pinned s 0 := ⟨fun n hn => absurd hn (by omega), fun j hj => absurd (h j) hj⟩

/-- Not all frames are pinned while fewer sectors are. -/
theorem Pinned.free {s : PP} {f : Int → List UInt8} {k : Nat} (hp : Pinned s k) (h : Holds s f) (hk : k < s.m) : s.c.free = true := by
  rw [CS.free_iff, h.cn]
  by_cases hx : ∃ j, j < s.m ∧ s.c.p j = 0
  · exact hx
  · have hall : ∀ j, j < s.m → s.c.p j ≠ 0 := fun j hj e => hx ⟨j, hj, e⟩
    obtain ⟨i, j, hi, hj, hne, e⟩ := pigeon k s.m (fun j => (s.at_ j).toNat) hk (fun j hj => by
      obtain ⟨_, h2, h3⟩ := hp.only j (hall j hj)
      show (s.at_ j).toNat < k
      omega)
    have e' : (s.at_ i).toNat = (s.at_ j).toNat := e
    obtain ⟨_, a1, _⟩ := hp.only i (hall i hi)
    obtain ⟨_, b1, _⟩ := hp.only j (hall j hj)
    exact absurd (h.inj i j hi hj (by omega) (by omega)) hne

/-- All frames are pinned where as many sectors are. -/
theorem Pinned.full {s : PP} (hp : Pinned s s.m) : ∀ j, j < s.m → s.c.p j ≠ 0 := by
  intro j hj h0
  have hch : ∀ n : Nat, ∃ i, n < s.m → (i < s.m ∧ s.at_ i = n ∧ s.c.p i ≠ 0) := fun n => by
    by_cases hn : n < s.m
    · obtain ⟨i, hi⟩ := hp.at_ n hn
      exact ⟨i, fun _ => hi⟩
    · exact ⟨0, fun h => absurd h hn⟩
  have ⟨g, hg⟩ := Classical.axiomOfChoice hch
  -- the frames but j
  obtain ⟨a, b, ha, hb, hne, e⟩ := pigeon (s.m - 1) s.m (fun n => if g n = s.m - 1 then j else g n) (by omega) (fun n hn => by
    obtain ⟨h1, h2, h3⟩ := hg n hn
    show (if g n = s.m - 1 then j else g n) < s.m - 1
    split
    · rename_i e
      have : j ≠ s.m - 1 := fun e2 => h3 (by rw [e, ← e2]; exact h0)
      omega
    · omega)
  obtain ⟨a1, a2, a3⟩ := hg a ha
  obtain ⟨b1, b2, b3⟩ := hg b hb
  have ja : g a ≠ j := fun e2 => a3 (by rw [e2]; exact h0)
  have jb : g b ≠ j := fun e2 => b3 (by rw [e2]; exact h0)
  have e' : (if g a = s.m - 1 then j else g a) = (if g b = s.m - 1 then j else g b) := e
  have : g a = g b := by
    split at e' <;> split at e' <;> omega
  rw [this, b2] at a2
  omega

theorem pinS_p (c : CS) {i : Nat} (hi : i < c.n) (j : Nat) : (c.pinS (i : Int)).p j = if j = i then c.p i + 1 else c.p j := by
  unfold CS.pinS
  rw [if_pos (by unfold CS.has; exact decide_eq_true (by omega))]
  show (if j = (i : Int).toNat then _ else _) = _
  rw [Int.toNat_natCast]

theorem Holds.pinAt {s : PP} {f : Int → List UInt8} (h : Holds s f) {n : Int} {i : Nat} (hs : s.find n = some i) : Holds (s.pinAt n) f ∧ (s.pinAt n).m = s.m ∧ (s.pinAt n).k.size = s.k.size ∧ (s.pinAt n).at_ = s.at_ ∧ (∀ j, (s.pinAt n).c.p j = if j = i then s.c.p i + 1 else s.c.p j) := by
  unfold PP.pinAt
  rw [hs]
  obtain ⟨h1, _, _⟩ := find_some hs
  exact ⟨h.clock ((CS.pinS_n _ _).trans h.cn) (by rw [pinS_h, CS.pinS_n]; exact h.ch), rfl, rfl, rfl, pinS_p _ (by rw [h.cn]; exact h1)⟩

/-- What Pin comes to, of a sector that may be got. -/
structure PinEnd (s : PP) (f : Int → List UInt8) (n : Int) (i : Nat) (t : PP) : Prop where
  eq : s.pin n = (0, t)
  holds : Holds t f
  m_ : t.m = s.m
  size : t.k.size = s.k.size
  lt : i < s.m
  here : t.at_ i = n
  at_ : ∀ j, j ≠ i → t.at_ j = s.at_ j
  p_ : ∀ j, t.c.p j = if j = i then s.c.p i + 1 else s.c.p j
  from_ : (s.at_ i = n ∧ s.find n = some i) ∨ (s.find n = none ∧ (s.gap = some i ∨ s.c.p i = 0))

theorem Holds.pin {s : PP} {f : Int → List UInt8} (h : Holds s f) {n : Int} (hn : s.k.has n = true) (hf : s.find n = none → s.gap = none → s.c.free = true) : ∃ i t, PinEnd s f n i t := by
  obtain ⟨i, t, g⟩ := h.get hn hf
  have h0 := (s.k.has_at n).1 hn
  have hfi := g.holds.find_uniq h0.1 (by rw [g.m_]; exact g.lt) g.here
  obtain ⟨k1, k2, k3, k4, k5⟩ := g.holds.pinAt hfi
  refine ⟨i, t.pinAt n, ?_, k1, k2.trans g.m_, k3.trans g.size, g.lt, by rw [k4]; exact g.here, fun j hj => by rw [k4]; exact g.at_ j hj, fun j => by rw [k5, g.p_], g.from_⟩
  unfold PP.pin
  rw [g.eq]
  rfl

/-- One sector more is pinned. -/
theorem Pinned.step {s : PP} {f : Int → List UInt8} {k : Nat} (hp : Pinned s k) (h : Holds s f) (hk : k < s.m) (hs : s.k.has (k : Int) = true) : ∃ t, s.pin k = (0, t) ∧ Holds t f ∧ t.m = s.m ∧ t.k.size = s.k.size ∧ Pinned t (k + 1) := by
  obtain ⟨i, t, g⟩ := h.pin hs (fun _ _ => hp.free h hk)
  -- frame i was not pinned, or held this sector
  have hi : s.c.p i = 0 := by
    by_cases e : s.c.p i = 0
    · exact e
    · obtain ⟨_, h2, h3⟩ := hp.only i e
      rcases g.from_ with ⟨h4, _⟩ | ⟨_, h4 | h4⟩
      · omega
      · have := (gap_some h4).2
        omega
      · exact h4
  refine ⟨t, g.eq, g.holds, g.m_, g.size, fun n hn => ?_, fun j hj => ?_⟩
  · by_cases e : n = k
    · refine ⟨i, by rw [g.m_]; exact g.lt, by rw [g.here, e], ?_⟩
      rw [g.p_, if_pos rfl]
      omega
    · obtain ⟨j, j1, j2, j3⟩ := hp.at_ n (by omega)
      have hji : j ≠ i := fun e2 => j3 (by rw [e2]; exact hi)
      exact ⟨j, by rw [g.m_]; exact j1, by rw [g.at_ j hji]; exact j2, by rw [g.p_, if_neg hji]; exact j3⟩
  · by_cases e : j = i
    · rw [e]
      exact ⟨by rw [g.m_]; exact g.lt, by rw [g.here]; omega, by rw [g.here]; omega⟩
    · rw [g.p_, if_neg e] at hj
      obtain ⟨h1, h2, h3⟩ := hp.only j hj
      rw [g.m_, g.at_ j e]
      exact ⟨h1, h2, by omega⟩

/-- With all frames pinned nothing else finds room. -/
theorem room_full {s : PP} (hg : s.gap = none) (hf : s.c.free = false) : s.room = (none, 60, s) := by
  unfold PP.room
  rw [hg]
  simp only [hf]
  rfl
theorem free_full {s : PP} (hc : s.c.n = s.m) (h : ∀ j, j < s.m → s.c.p j ≠ 0) : s.c.free = false := by
  cases hf : s.c.free with
  | false => rfl
  | true =>
    obtain ⟨j, hj, h0⟩ := (CS.free_iff _).1 hf
    rw [hc] at hj
    exact absurd h0 (h j hj)
theorem Holds.get_full {s : PP} {f : Int → List UInt8} (h : Holds s f) {n : Int} (hn : s.k.has n = true) (hs : s.find n = none) (hg : s.gap = none) (hf : s.c.free = false) : s.get n = (60, [], s) := by
  unfold PP.get
  rw [hs, room_full hg hf]
  simp only [(h.well.read hn).1, if_true]
theorem put_full {s : PP} {n : Int} {l : List UInt8} (hb : s.k.bad n l = false) (hs : s.find n = none) (hg : s.gap = none) (hf : s.c.free = false) : s.put n l = (60, s) := by
  unfold PP.put
  rw [hs, room_full hg hf, hb]
  rfl

/-- The first frame alone is pinned, once, and holds sector 0. -/
structure Zero (s : PP) : Prop where
  at0 : s.at_ 0 = 0
  p0 : s.c.p 0 = 1
  po : ∀ j, j ≠ 0 → s.c.p j = 0

theorem Zero.free {s : PP} {f : Int → List UInt8} (z : Zero s) (h : Holds s f) (hm : 2 ≤ s.m) : s.c.free = true := by
  rw [CS.free_iff, h.cn]
  exact ⟨1, by omega, z.po 1 (by omega)⟩

/-- It stays so, whatever is got. -/
theorem Zero.got {s t : PP} {f : Int → List UInt8} {n : Int} {i : Nat} (z : Zero s) (g : Got s f n i t) : Zero t := by
  have hat : t.at_ 0 = 0 := by
    by_cases e : i = 0
    · rcases g.from_ with ⟨h4, _⟩ | ⟨_, h4 | h4⟩
      · rw [e] at h4
        have := g.here
        rw [e] at this
        rw [this, ← h4]
        exact z.at0
      · have := (gap_some h4).2
        rw [e, z.at0] at this
        omega
      · rw [e, z.p0] at h4
        omega
    · rw [g.at_ 0 (fun e2 => e e2.symm)]
      exact z.at0
  exact ⟨hat, by rw [g.p_]; exact z.p0, fun j hj => by rw [g.p_]; exact z.po j hj⟩
end Go.Proofs.Ytgkdlbcpckdmkaa.PP
