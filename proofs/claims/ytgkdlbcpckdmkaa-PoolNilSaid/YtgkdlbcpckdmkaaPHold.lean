/-
  What is got of a plain pool is what was put last. Nothing here names the program.
-/
import Derived.Test.YtgkdlbcpckdmkaaPPure
namespace Go.Proofs.Ytgkdlbcpckdmkaa.PP

/-- A pool of a disk with power, of which f is what is got. -/
structure Holds (s : PP) (f : Int → List UInt8) : Prop where
  well : s.k.Well
  cn : s.c.n = s.m
  ch : s.c.h < s.c.n
  rng : ∀ i, i < s.m → s.at_ i = -1 ∨ s.k.has (s.at_ i) = true
  inj : ∀ i j, i < s.m → j < s.m → s.at_ i = s.at_ j → s.at_ i ≠ -1 → i = j
  hand : ∀ i, i < s.m → s.at_ i ≠ -1 → s.b i = f (s.at_ i)
  clean : ∀ i, i < s.m → s.at_ i ≠ -1 → s.d i = false → s.k.held (s.at_ i) = f (s.at_ i)
  out : ∀ n, s.k.has n = true → (∀ i, i < s.m → s.at_ i ≠ n) → s.k.held n = f n
  len : ∀ n, (f n).length ≤ 1024

theorem has_ne {k : PS} {n : Int} (h : k.has n = true) : n ≠ -1 := by
  have := (k.has_at n).1 h
  omega

theorem Holds.new {k : PS} (hk : k.Well) (ho : k.Ok) {m : Nat} (hm : 1 ≤ m) : Holds (PP.new k m) k.held :=
  ⟨hk, rfl, by show 0 < m; omega, fun _ _ => Or.inl rfl, fun i j _ _ _ h => absurd rfl h, fun i _ h => absurd rfl h, fun i _ h => absurd rfl h, fun _ _ _ => rfl, fun n => by
    unfold PS.held
    cases hw : k.W n with
    | none => exact ho.ll n
    | some l => exact ho.wl n l hw⟩

theorem Holds.find_uniq {s : PP} {f : Int → List UInt8} (h : Holds s f) {n : Int} {i : Nat} (hn : 0 ≤ n) (hi : i < s.m) (e : s.at_ i = n) : s.find n = some i := by
  obtain ⟨j, hj⟩ := find_of hn hi e
  obtain ⟨h1, h2, _⟩ := find_some hj
  rw [hj, h.inj j i h1 hi (h2.trans e.symm) (by rw [h2]; omega)]

/-- Only the clock changes. -/
theorem Holds.clock {s : PP} {f : Int → List UInt8} (h : Holds s f) {c : CS} (hn : c.n = s.m) (hh : c.h < c.n) : Holds { s with c := c } f :=
  { h with
    cn := hn
    ch := hh }

theorem useS_h (c : CS) (i : Int) : (c.useS i).h = c.h := by unfold CS.useS; split <;> rfl
theorem useS_p (c : CS) (i : Int) : (c.useS i).p = c.p := by unfold CS.useS; split <;> rfl
theorem pinS_h (c : CS) (i : Int) : (c.pinS i).h = c.h := by unfold CS.pinS; split <;> rfl
theorem unS_h (c : CS) (i : Int) : (c.unS i).h = c.h := by unfold CS.unS; split <;> rfl

theorem Holds.used {s : PP} {f : Int → List UInt8} (h : Holds s f) (i : Nat) : Holds (s.used i) f :=
  h.clock ((CS.useS_n _ _).trans h.cn) (by rw [useS_h, CS.useS_n]; exact h.ch)

/-- A frame is emptied that is clean. -/
theorem Holds.void {s : PP} {f : Int → List UInt8} (h : Holds s f) {i : Nat} (hc : s.at_ i ≠ -1 → s.k.held (s.at_ i) = f (s.at_ i)) : Holds (s.lay i (-1) [] false) f := by
  have ea : ∀ j, (s.lay i (-1) [] false).at_ j = if j = i then -1 else s.at_ j := fun _ => rfl
  have eb : ∀ j, (s.lay i (-1) [] false).b j = if j = i then [] else s.b j := fun _ => rfl
  have ed : ∀ j, (s.lay i (-1) [] false).d j = if j = i then false else s.d j := fun _ => rfl
  refine ⟨h.well, h.cn, h.ch, fun j hj => ?_, fun j l hj hl e hne => ?_, fun j hj hne => ?_, fun j hj hne hd => ?_, fun n hn ho => ?_, h.len⟩
  · rw [ea]
    split
    · exact Or.inl rfl
    · exact h.rng j hj
  · rw [ea] at hne
    rw [ea, ea] at e
    by_cases e1 : j = i
    · rw [if_pos e1] at hne
      exact absurd rfl hne
    · rw [if_neg e1] at hne e
      by_cases e2 : l = i
      · rw [if_pos e2] at e
        exact absurd e hne
      · rw [if_neg e2] at e
        exact h.inj j l hj hl e hne
  · rw [ea] at hne ⊢
    rw [eb]
    by_cases e1 : j = i
    · rw [if_pos e1] at hne
      exact absurd rfl hne
    · rw [if_neg e1] at hne
      rw [if_neg e1, if_neg e1]
      exact h.hand j hj hne
  · rw [ea] at hne ⊢
    rw [ed] at hd
    by_cases e1 : j = i
    · rw [if_pos e1] at hne
      exact absurd rfl hne
    · rw [if_neg e1] at hne hd
      rw [if_neg e1]
      exact h.clean j hj hne hd
  · by_cases e : s.at_ i = n
    · have hne : s.at_ i ≠ -1 := by rw [e]; exact has_ne hn
      have := hc hne
      rw [e] at this
      exact this
    · refine h.out n hn (fun j hj => ?_)
      by_cases e1 : j = i
      · rw [e1]
        exact e
      · have := ho j hj
        rw [ea, if_neg e1] at this
        exact this

/-- What is at hand is written. -/
theorem Holds.wrote {s : PP} {f : Int → List UInt8} (h : Holds s f) {i : Nat} (hi : i < s.m) (hne : s.at_ i ≠ -1) : s.k.writeE (s.at_ i) (s.b i) = 0 ∧ Holds (s.wrote i) f ∧ (s.wrote i).k = s.k.lay (s.at_ i) (s.b i) ∧ (s.wrote i).k.held (s.at_ i) = f (s.at_ i) := by
  have hh : s.k.has (s.at_ i) = true := (h.rng i hi).resolve_left hne
  have hb := h.hand i hi hne
  obtain ⟨w1, w2⟩ := h.well.write hh (l := s.b i) (by rw [hb]; exact h.len _)
  have ek : (s.wrote i).k = s.k.lay (s.at_ i) (s.b i) := w2
  have hl : ∀ n, (s.wrote i).k.held n = if n = s.at_ i then f (s.at_ i) else s.k.held n := fun n => by rw [ek, PS.lay_held, hb]
  refine ⟨w1, ⟨by rw [ek]; exact h.well.lay _ _, h.cn, h.ch, fun j hj => ?_, h.inj, h.hand, fun j hj hn hd => ?_, fun n hn ho => ?_, h.len⟩, ek, by rw [hl, if_pos rfl]⟩
  · rw [ek]
    exact h.rng j hj
  · show (s.wrote i).k.held (s.at_ j) = _
    show _ = f (s.at_ j)
    rw [hl]
    split
    · rename_i e
      rw [e]
    · exact h.clean j hj hn hd
  · rw [ek] at hn
    rw [hl]
    split
    · rename_i e
      rw [e]
    · exact h.out n hn ho

/-- A frame that is empty comes to hold what is got. -/
theorem Holds.fill {s : PP} {f : Int → List UInt8} (h : Holds s f) {i : Nat} (he : s.at_ i = -1) {n : Int} (hn : s.k.has n = true) (hno : ∀ j, j < s.m → s.at_ j ≠ n) : Holds (s.lay i n (f n) false) f := by
  have ea : ∀ j, (s.lay i n (f n) false).at_ j = if j = i then n else s.at_ j := fun _ => rfl
  have eb : ∀ j, (s.lay i n (f n) false).b j = if j = i then f n else s.b j := fun _ => rfl
  have ed : ∀ j, (s.lay i n (f n) false).d j = if j = i then false else s.d j := fun _ => rfl
  refine ⟨h.well, h.cn, h.ch, fun j hj => ?_, fun j l hj hl e hne => ?_, fun j hj hne => ?_, fun j hj hne hd => ?_, fun q hq ho => ?_, h.len⟩
  · rw [ea]
    split
    · exact Or.inr hn
    · exact h.rng j hj
  · rw [ea] at hne
    rw [ea, ea] at e
    by_cases e1 : j = i
    · by_cases e2 : l = i
      · rw [e1, e2]
      · rw [if_pos e1, if_neg e2] at e
        exact absurd e.symm (hno l hl)
    · rw [if_neg e1] at hne e
      by_cases e2 : l = i
      · rw [if_pos e2] at e
        exact absurd e (hno j hj)
      · rw [if_neg e2] at e
        exact h.inj j l hj hl e hne
  · rw [ea] at hne ⊢
    rw [eb]
    by_cases e1 : j = i
    · rw [if_pos e1, if_pos e1]
    · rw [if_neg e1] at hne
      rw [if_neg e1, if_neg e1]
      exact h.hand j hj hne
  · rw [ea] at hne ⊢
    rw [ed] at hd
    by_cases e1 : j = i
    · rw [if_pos e1]
      exact h.out n hn hno
    · rw [if_neg e1] at hne hd
      rw [if_neg e1]
      exact h.clean j hj hne hd
  · refine h.out q hq (fun j hj => ?_)
    by_cases e1 : j = i
    · rw [e1, he]
      exact (has_ne hq).symm
    · have := ho j hj
      rw [ea, if_neg e1] at this
      exact this

def upd (f : Int → List UInt8) (n : Int) (l : List UInt8) : Int → List UInt8 := fun j => if j = n then l else f j

/-- A frame that is empty, or holds that sector, comes to hold what is put. -/
theorem Holds.putAt {s : PP} {f : Int → List UInt8} (h : Holds s f) {i : Nat} (hi : i < s.m) {n : Int} (hn : s.k.has n = true) (he : s.at_ i = n ∨ (s.at_ i = -1 ∧ ∀ j, j < s.m → s.at_ j ≠ n)) {l : List UInt8} (hl : l.length ≤ 1024) : Holds (s.lay i n l true) (upd f n l) := by
  have ea : ∀ j, (s.lay i n l true).at_ j = if j = i then n else s.at_ j := fun _ => rfl
  have eb : ∀ j, (s.lay i n l true).b j = if j = i then l else s.b j := fun _ => rfl
  have ed : ∀ j, (s.lay i n l true).d j = if j = i then true else s.d j := fun _ => rfl
  have hno : ∀ j, j < s.m → j ≠ i → s.at_ j ≠ n := by
    intro j hj hji e
    rcases he with he | ⟨_, he⟩
    · exact hji (h.inj j i hj hi (e.trans he.symm) (by rw [e]; exact has_ne hn))
    · exact he j hj e
  have hu : ∀ q, q ≠ n → upd f n l q = f q := fun q hq => by unfold upd; rw [if_neg hq]
  refine ⟨h.well, h.cn, h.ch, fun j hj => ?_, fun j q hj hq e hne => ?_, fun j hj hne => ?_, fun j hj hne hd => ?_, fun q hq ho => ?_, fun q => ?_⟩
  · rw [ea]
    split
    · exact Or.inr hn
    · exact h.rng j hj
  · rw [ea] at hne
    rw [ea, ea] at e
    by_cases e1 : j = i
    · by_cases e2 : q = i
      · rw [e1, e2]
      · rw [if_pos e1, if_neg e2] at e
        exact absurd e.symm (hno q hq e2)
    · rw [if_neg e1] at hne e
      by_cases e2 : q = i
      · rw [if_pos e2] at e
        exact absurd e (hno j hj e1)
      · rw [if_neg e2] at e
        exact h.inj j q hj hq e hne
  · rw [ea] at hne ⊢
    rw [eb]
    by_cases e1 : j = i
    · rw [if_pos e1, if_pos e1]
      unfold upd
      rw [if_pos rfl]
    · rw [if_neg e1] at hne
      rw [if_neg e1, if_neg e1, hu _ (hno j hj e1)]
      exact h.hand j hj hne
  · rw [ea] at hne ⊢
    rw [ed] at hd
    by_cases e1 : j = i
    · rw [if_pos e1] at hd
      cases hd
    · rw [if_neg e1] at hne hd
      rw [if_neg e1, hu _ (hno j hj e1)]
      exact h.clean j hj hne hd
  · have hqn : q ≠ n := by
      have := ho i hi
      rw [ea, if_pos rfl] at this
      exact this.symm
    rw [hu q hqn]
    refine h.out q hq (fun j hj => ?_)
    by_cases e1 : j = i
    · rw [e1]
      rcases he with he | ⟨he, _⟩
      · rw [he]
        exact hqn.symm
      · rw [he]
        exact (has_ne hq).symm
    · have := ho j hj
      rw [ea, if_neg e1] at this
      exact this
  · unfold upd
    split
    · exact hl
    · exact h.len q

/-- What finding room comes to, where a frame is empty or may go. -/
structure Roomed (s : PP) (f : Int → List UInt8) (i : Nat) (t : PP) : Prop where
  eq : s.room = (some i, 0, t)
  lt : i < s.m
  void : t.at_ i = -1
  m_ : t.m = s.m
  holds : Holds t f
  size : t.k.size = s.k.size
  held : ∀ n, s.k.has n = true → (∀ j, j < s.m → s.at_ j ≠ n) → (∀ j, j < t.m → t.at_ j ≠ n)
  p_ : t.c.p = s.c.p
  go_ : (s.gap = some i ∧ t = s) ∨ s.c.p i = 0
  at_ : ∀ j, j ≠ i → t.at_ j = s.at_ j

theorem Holds.room {s : PP} {f : Int → List UInt8} (h : Holds s f) (hf : s.gap = none → s.c.free = true) : ∃ i t, Roomed s f i t := by
  cases hg : s.gap with
  | some i =>
    obtain ⟨h1, h2⟩ := gap_some hg
    refine ⟨i, s, ?_, h1, h2, rfl, h, rfl, fun _ _ ho => ho, rfl, Or.inl ⟨hg, rfl⟩, fun _ _ => rfl⟩
    unfold PP.room
    rw [hg]
  | none =>
    have hfr := hf hg
    obtain ⟨r, hw, _, g⟩ := CS.way_of h.ch hfr
    obtain ⟨v1, v2, v3⟩ := CS.vic_of hw
    have hi : r.1 < s.m := by
      have := g.lt
      rw [h.cn] at this
      exact this
    have hne := gap_none hg r.1 hi
    have e1 : s.c.vicI.toNat = r.1 := by rw [v1]; rfl
    have hc : Holds { s with c := s.c.vicS } f := h.clock ((CS.vicS_n h.ch).trans h.cn) (by
      rw [v3, g.h_, g.n_]
      exact Nat.mod_lt _ (by have := h.ch; omega))
    have hp : s.c.vicS.p = s.c.p := by rw [v3]; exact g.p_
    cases hd : s.d r.1 with
    | true =>
      obtain ⟨w1, w2, w3, w4⟩ := hc.wrote hi hne
      have hv := w2.void (fun _ => w4)
      refine ⟨r.1, (PP.wrote { s with c := s.c.vicS } r.1).lay r.1 (-1) [] false, ?_, hi, ?_, rfl, hv, ?_, fun n hn ho j hj => ?_, hp, Or.inr g.p0, fun j hj => ?_⟩
      · unfold PP.room
        rw [hg]
        simp only [hfr, if_true, e1, hd]
        rw [if_pos w1]
        rfl
      · show (if r.1 = r.1 then (-1 : Int) else _) = -1
        rw [if_pos rfl]
      · show (PP.wrote { s with c := s.c.vicS } r.1).k.size = _
        rw [w3]
        rfl
      · show (if j = r.1 then (-1 : Int) else s.at_ j) ≠ n
        split
        · exact (has_ne hn).symm
        · exact ho j hj
      · show (if j = r.1 then (-1 : Int) else s.at_ j) = _
        rw [if_neg hj]
    | false =>
      have hv := hc.void (fun _ => h.clean r.1 hi hne hd)
      refine ⟨r.1, PP.lay { s with c := s.c.vicS } r.1 (-1) [] false, ?_, hi, ?_, rfl, hv, rfl, fun n hn ho j hj => ?_, hp, Or.inr g.p0, fun j hj => ?_⟩
      · unfold PP.room
        rw [hg]
        simp only [hfr, if_true, e1, hd]
        rfl
      · show (if r.1 = r.1 then (-1 : Int) else _) = -1
        rw [if_pos rfl]
      · show (if j = r.1 then (-1 : Int) else s.at_ j) ≠ n
        split
        · exact (has_ne hn).symm
        · exact ho j hj
      · show (if j = r.1 then (-1 : Int) else s.at_ j) = _
        rw [if_neg hj]

/-- What Get comes to: the sector is in frame i. -/
structure Got (s : PP) (f : Int → List UInt8) (n : Int) (i : Nat) (t : PP) : Prop where
  eq : s.get n = (0, f n, t)
  holds : Holds t f
  m_ : t.m = s.m
  size : t.k.size = s.k.size
  p_ : t.c.p = s.c.p
  lt : i < s.m
  here : t.at_ i = n
  at_ : ∀ j, j ≠ i → t.at_ j = s.at_ j
  from_ : (s.at_ i = n ∧ s.find n = some i) ∨ (s.find n = none ∧ (s.gap = some i ∨ s.c.p i = 0))

theorem Holds.get {s : PP} {f : Int → List UInt8} (h : Holds s f) {n : Int} (hn : s.k.has n = true) (hf : s.find n = none → s.gap = none → s.c.free = true) : ∃ i t, Got s f n i t := by
  cases hs : s.find n with
  | some i =>
    obtain ⟨h1, h2, h3⟩ := find_some hs
    refine ⟨i, s.used i, ?_, h.used i, rfl, rfl, useS_p _ _, h1, h2, fun _ _ => rfl, Or.inl ⟨h2, hs⟩⟩
    unfold PP.get
    rw [hs]
    show (0, s.b i, s.used i) = _
    rw [h.hand i h1 (by rw [h2]; exact has_ne hn), h2]
  | none =>
    have h0 := (s.k.has_at n).1 hn
    have hno := find_none hs h0.1
    obtain ⟨r1, r2⟩ := h.well.read hn
    obtain ⟨i, t, r⟩ := h.room (hf hs)
    have ho := h.out n hn hno
    have hk : t.k.has n = true := by
      rw [t.k.has_at, r.size]
      exact h0
    have hl := r.holds.fill (n := n) r.void hk (r.held n hn hno)
    refine ⟨i, (t.lay i n (f n) false).used i, ?_, hl.used i, r.m_, r.size, (useS_p _ _).trans r.p_, r.lt, ?_, fun j hj => ?_, Or.inr ⟨hs, ?_⟩⟩
    · unfold PP.get
      rw [hs, r.eq]
      simp only [r1, if_true, r2, ho]
    · show (if i = i then n else _) = n
      rw [if_pos rfl]
    · show (if j = i then n else t.at_ j) = _
      rw [if_neg hj, r.at_ j hj]
    · rcases r.go_ with g | g
      · exact Or.inl g.1
      · exact Or.inr g

theorem Holds.find_bad {s : PP} {f : Int → List UInt8} (h : Holds s f) {n : Int} (hn : s.k.has n = false) : s.find n = none := by
  cases hs : s.find n with
  | none => rfl
  | some i =>
    obtain ⟨h1, h2, h3⟩ := find_some hs
    rcases h.rng i h1 with e | e
    · omega
    · rw [h2, hn] at e
      cases e
theorem Holds.getBad {s : PP} {f : Int → List UInt8} (h : Holds s f) {n : Int} (hn : s.k.has n = false) : s.get n = (41, [], s) := by
  unfold PP.get
  rw [h.find_bad hn]
  simp only [h.well.readBad hn]
  rfl

theorem Holds.put {s : PP} {f : Int → List UInt8} (h : Holds s f) {n : Int} (hn : s.k.has n = true) {l : List UInt8} (hl : l.length ≤ 1024) (hf : s.find n = none → s.gap = none → s.c.free = true) :
    ∃ t, s.put n l = (0, t) ∧ Holds t (upd f n l) ∧ t.m = s.m ∧ t.k.size = s.k.size ∧ t.c.p = s.c.p := by
  have hb : s.k.bad n l = false := by
    unfold PS.bad
    rw [hn]
    simp
    omega
  cases hs : s.find n with
  | some i =>
    obtain ⟨h1, h2, h3⟩ := find_some hs
    refine ⟨(s.lay i n l true).used i, ?_, (h.putAt h1 hn (Or.inl h2) hl).used i, rfl, rfl, useS_p _ _⟩
    unfold PP.put
    rw [hs, hb]
    rfl
  | none =>
    have h0 := (s.k.has_at n).1 hn
    have hno := find_none hs h0.1
    obtain ⟨i, t, r⟩ := h.room (hf hs)
    have hk : t.k.has n = true := by
      rw [t.k.has_at, r.size]
      exact h0
    refine ⟨(t.lay i n l true).used i, ?_, (r.holds.putAt (by rw [r.m_]; exact r.lt) hk (Or.inr ⟨r.void, r.held n hn hno⟩) hl).used i, r.m_, r.size, (useS_p _ _).trans r.p_⟩
    unfold PP.put
    rw [hs, hb, r.eq]
    rfl
theorem put_bad {s : PP} {n : Int} {l : List UInt8} (h : s.k.bad n l = true) : s.put n l = (41, s) := by
  unfold PP.put
  rw [if_pos h]

theorem dirty_some {s : PP} {n : Int} {i : Nat} (h : s.dirty n = some i) : s.find n = some i ∧ s.d i = true := by
  unfold PP.dirty at h
  split at h
  · rename_i j hj
    split at h
    · rename_i hd
      obtain rfl := Option.some.inj h
      exact ⟨hj, hd⟩
    · cases h
  · cases h

theorem Holds.washed {s : PP} {f : Int → List UInt8} (h : Holds s f) {i : Nat} (hi : i < s.m) (hne : s.at_ i ≠ -1) : Holds (s.washed i) f ∧ (s.washed i).k.size = s.k.size := by
  obtain ⟨w1, w2, w3, w4⟩ := h.wrote hi hne
  refine ⟨⟨w2.well, w2.cn, w2.ch, w2.rng, w2.inj, w2.hand, fun j hj hn hd => ?_, w2.out, w2.len⟩, ?_⟩
  · have hd' : (if j = i then false else s.d j) = false := hd
    by_cases e : j = i
    · rw [e]
      exact w4
    · rw [if_neg e] at hd'
      exact w2.clean j hj hn hd'
  · show (s.wrote i).k.size = _
    rw [w3]
    rfl

/-- What washing comes to. -/
structure Washed (s : PP) (f : Int → List UInt8) (n : Int) (r : Int × PP) : Prop where
  e_ : r.1 = 0
  holds : Holds r.2 f
  m_ : r.2.m = s.m
  size : r.2.k.size = s.k.size
  c_ : r.2.c = s.c
  at_ : r.2.at_ = s.at_
  done : ∀ j, j < s.m → n ≤ s.at_ j → r.2.d j = false
  stay : ∀ j, s.d j = false → r.2.d j = false

theorem Holds.wash {f : Int → List UInt8} : ∀ (g : Nat) (n : Int) (s : PP), Holds s f → 0 ≤ n → n + g = s.k.size → Washed s f n (PP.wash g n s)
  | 0, n, s, h, hn, hg => by
    refine ⟨rfl, h, rfl, rfl, rfl, rfl, fun j hj hat => ?_, fun _ hd => hd⟩
    rcases h.rng j hj with e | e
    · omega
    · have := (s.k.has_at _).1 e
      omega
  | g + 1, n, s, h, hn, hg => by
    unfold PP.wash
    cases hd : s.dirty n with
    | some i =>
      obtain ⟨h1, h2⟩ := dirty_some hd
      obtain ⟨h3, h4, h5⟩ := find_some h1
      have hne : s.at_ i ≠ -1 := by omega
      obtain ⟨w1, w2, w3, w4⟩ := h.wrote h3 hne
      obtain ⟨k1, k2⟩ := h.washed h3 hne
      have ih := Holds.wash g (n + 1) (s.washed i) k1 (by omega) (by rw [k2]; omega)
      simp only [w1, if_true]
      refine ⟨ih.e_, ih.holds, ih.m_, ih.size.trans k2, ih.c_, ih.at_, fun j hj hat => ?_, fun j hj => ih.stay j ?_⟩
      · by_cases e : s.at_ j = n
        · have hji : j = i := h.inj j i hj h3 (e.trans h4.symm) (by omega)
          refine ih.stay j ?_
          show (if j = i then false else s.d j) = false
          rw [if_pos hji]
        · exact ih.done j hj (by show n + 1 ≤ s.at_ j; omega)
      · show (if j = i then false else s.d j) = false
        split
        · rfl
        · exact hj
    | none =>
      have ih := Holds.wash g (n + 1) s h (by omega) (by omega)
      refine ⟨ih.e_, ih.holds, ih.m_, ih.size, ih.c_, ih.at_, fun j hj hat => ?_, ih.stay⟩
      by_cases e : s.at_ j = n
      · refine ih.stay j ?_
        have hfj := h.find_uniq hn hj e
        unfold PP.dirty at hd
        rw [hfj] at hd
        cases hdj : s.d j with
        | false => rfl
        | true =>
          simp only [hdj, if_true] at hd
          cases hd
      · exact ih.done j hj (by omega)

/-- What Flush comes to. -/
structure Flushed (s : PP) (f : Int → List UInt8) (t : PP) : Prop where
  eq : s.flush = (0, t)
  holds : Holds t f
  m_ : t.m = s.m
  size : t.k.size = s.k.size
  c_ : t.c = s.c
  at_ : t.at_ = s.at_
  clean : ∀ j, j < s.m → 0 ≤ s.at_ j → t.d j = false
  waits : t.k.W = fun _ => none
  lasts : ∀ n, s.k.has n = true → t.k.L n = f n

theorem Holds.flush {s : PP} {f : Int → List UInt8} (h : Holds s f) : ∃ t, Flushed s f t := by
  have w := Holds.wash s.k.size 0 s h (Int.le_refl _) (by omega)
  obtain ⟨f1, f2⟩ := w.holds.well.flush
  generalize hr : PP.wash s.k.size 0 s = r at *
  refine ⟨{ r.2 with k := r.2.k.flushed }, ?_, ⟨by rw [f2]; exact w.holds.well.all, w.holds.cn, w.holds.ch, ?_, w.holds.inj, w.holds.hand, ?_, ?_, w.holds.len⟩, w.m_, ?_, w.c_, w.at_, w.done, ?_, ?_⟩
  · unfold PP.flush
    rw [hr]
    simp only [w.e_, if_true, f1]
  · show ∀ i, i < r.2.m → _ ∨ r.2.k.flushed.has _ = true
    rw [f2]
    exact w.holds.rng
  · show ∀ i, i < r.2.m → r.2.at_ i ≠ -1 → r.2.d i = false → r.2.k.flushed.held _ = _
    rw [f2]
    intro i hi hne hd
    rw [PS.all_held]
    exact w.holds.clean i hi hne hd
  · show ∀ n, r.2.k.flushed.has n = true → _ → r.2.k.flushed.held n = _
    rw [f2]
    intro n hn ho
    rw [PS.all_held]
    exact w.holds.out n hn ho
  · show r.2.k.flushed.size = _
    rw [f2]
    exact w.size
  · show r.2.k.flushed.W = _
    rw [f2]
    rfl
  · intro n hn
    show r.2.k.flushed.L n = f n
    rw [f2]
    show r.2.k.held n = f n
    have hk : r.2.k.has n = true := by
      rw [r.2.k.has_at, w.size]
      exact (s.k.has_at n).1 hn
    have h0 := (s.k.has_at n).1 hn
    by_cases e : ∃ i, i < r.2.m ∧ r.2.at_ i = n
    · obtain ⟨i, hi, rfl⟩ := e
      refine w.holds.clean i hi (has_ne hk) (w.done i (by rw [← w.m_]; exact hi) (by rw [← w.at_]; exact h0.1))
    · exact w.holds.out n hk (fun i hi e' => e ⟨i, hi, e'⟩)

/-- With nothing pinned some frame may go. -/
theorem Holds.loose {s : PP} {f : Int → List UInt8} (h : Holds s f) (hp : ∀ j, s.c.p j = 0) : s.c.free = true := by
  rw [CS.free_iff]
  exact ⟨s.c.h, h.ch, hp _⟩
end Go.Proofs.Ytgkdlbcpckdmkaa.PP
