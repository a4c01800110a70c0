/-
  The plain pool: what each call answers, and how it stands behind it. Nothing here names the program.
-/
import Derived.Test.YtgkdlbcpckdmkaaDPure
import Derived.Test.YtgkdlbcpckdmkaaGPure
namespace Go.Proofs.Ytgkdlbcpckdmkaa

/-- A pool: how many frames, of each the sector (-1: none), its bytes, whether it is dirty; the clock; the disk. -/
structure PP where
  m : Nat
  at_ : Nat → Int
  b : Nat → List UInt8
  d : Nat → Bool
  c : CS
  k : PS

namespace PP
def new (k : PS) (m : Nat) : PP := ⟨m, fun _ => -1, fun _ => [], fun _ => false, CS.new m, k⟩
/-- A frame of which something holds: the first one. -/
def first (m : Nat) (q : Nat → Bool) : Option Nat := (List.range m).find? q
def find (s : PP) (n : Int) : Option Nat := if n < 0 then none else first s.m fun i => s.at_ i == n
def gap (s : PP) : Option Nat := first s.m fun i => s.at_ i == -1
/-- What a frame holds from now on. -/
def lay (s : PP) (i : Nat) (n : Int) (l : List UInt8) (d : Bool) : PP :=
  { s with at_ := fun j => if j = i then n else s.at_ j, b := fun j => if j = i then l else s.b j, d := fun j => if j = i then d else s.d j }
def used (s : PP) (i : Nat) : PP := { s with c := s.c.useS i }
def wrote (s : PP) (i : Nat) : PP := { s with k := s.k.written (s.at_ i) (s.b i) }
/-- P7.2: a frame, or an error; and what stands behind it. (R3: where the writing is refused the hand stays.) -/
def room (s : PP) : Option Nat × Int × PP :=
  match s.gap with
  | some i => (some i, 0, s)
  | none =>
    if s.c.free then
      let i := s.c.vicI.toNat
      if s.d i then
        if s.k.writeE (s.at_ i) (s.b i) = 0 then (some i, 0, PP.lay { s.wrote i with c := s.c.vicS } i (-1) [] false) else (none, s.k.writeE (s.at_ i) (s.b i), s.wrote i)
      else (some i, 0, PP.lay { s with c := s.c.vicS } i (-1) [] false)
    else (none, 60, s)
def get (s : PP) (n : Int) : Int × List UInt8 × PP :=
  match s.find n with
  | some i => (0, s.b i, s.used i)
  | none =>
    if s.k.readE n = 0 then
      match s.room with
      | (some i, _, t) => (0, s.k.readB n, (t.lay i n (s.k.readB n) false).used i)
      | (none, e, t) => (e, [], t)
    else (s.k.readE n, [], s)
def put (s : PP) (n : Int) (l : List UInt8) : Int × PP :=
  if s.k.bad n l then (41, s) else
  match s.find n with
  | some i => (0, (s.lay i n l true).used i)
  | none =>
    match s.room with
    | (some i, _, t) => (0, (t.lay i n l true).used i)
    | (none, e, t) => (e, t)
def pinAt (s : PP) (n : Int) : PP :=
  match s.find n with
  | some i => { s with c := s.c.pinS i }
  | none => s
def pin (s : PP) (n : Int) : Int × PP :=
  let r := s.get n
  if r.1 = 0 then (0, r.2.2.pinAt n) else (r.1, r.2.2)
def unpin (s : PP) (n : Int) : Int × PP :=
  match s.find n with
  | some i => (s.c.unE i, { s with c := s.c.unS i })
  | none => (1, s)
/-- Is a sector at hand and dirty? -/
def dirty (s : PP) (n : Int) : Option Nat :=
  match s.find n with
  | some i => if s.d i then some i else none
  | none => none
def washed (s : PP) (i : Nat) : PP := { s.wrote i with d := fun j => if j = i then false else s.d j }
/-- The dirty sectors from n on, g of them to be looked at, are written. -/
def wash : Nat → Int → PP → Int × PP
  | 0, _, s => (0, s)
  | g + 1, n, s =>
    match s.dirty n with
    | some i => if s.k.writeE (s.at_ i) (s.b i) = 0 then wash g (n + 1) (s.washed i) else (s.k.writeE (s.at_ i) (s.b i), s.wrote i)
    | none => wash g (n + 1) s
def flush (s : PP) : Int × PP :=
  let r := wash s.k.size 0 s
  if r.1 = 0 then (r.2.k.flushE, { r.2 with k := r.2.k.flushed }) else r
def drop (s : PP) : PP := { s with at_ := fun _ => -1, b := fun _ => [], d := fun _ => false, c := CS.new s.m }
def pages (s : PP) : List Int := (List.range s.m).map s.at_
def dirties (s : PP) : List Int := ((List.range s.k.size).map fun n : Nat => (n : Int)).filter fun n => (s.dirty n).isSome

theorem first_some {m : Nat} {q : Nat → Bool} {i : Nat} (h : first m q = some i) : i < m ∧ q i = true := by
  unfold first at h
  have h1 := List.find?_some h
  have h2 := List.mem_of_find?_eq_some h
  exact ⟨List.mem_range.1 h2, h1⟩
theorem first_none {m : Nat} {q : Nat → Bool} (h : first m q = none) : ∀ i, i < m → q i = false := by
  unfold first at h
  rw [List.find?_eq_none] at h
  intro i hi
  have := h i (List.mem_range.2 hi)
  simpa using this
theorem find_some {s : PP} {n : Int} {i : Nat} (h : s.find n = some i) : i < s.m ∧ s.at_ i = n ∧ 0 ≤ n := by
  unfold find at h
  split at h
  · cases h
  · obtain ⟨h1, h2⟩ := first_some h
    exact ⟨h1, by simpa using h2, by omega⟩
theorem find_none {s : PP} {n : Int} (h : s.find n = none) (hn : 0 ≤ n) : ∀ i, i < s.m → s.at_ i ≠ n := by
  unfold find at h
  rw [if_neg (by omega)] at h
  intro i hi
  have := first_none h i hi
  simpa using this
theorem find_of {s : PP} {n : Int} (hn : 0 ≤ n) {i : Nat} (hi : i < s.m) (h : s.at_ i = n) : ∃ j, s.find n = some j := by
  cases hf : s.find n with
  | some j => exact ⟨j, rfl⟩
  | none => exact absurd h (find_none hf hn i hi)
theorem gap_some {s : PP} {i : Nat} (h : s.gap = some i) : i < s.m ∧ s.at_ i = -1 := by
  obtain ⟨h1, h2⟩ := first_some h
  exact ⟨h1, by simpa using h2⟩
theorem gap_none {s : PP} (h : s.gap = none) : ∀ i, i < s.m → s.at_ i ≠ -1 := by
  intro i hi
  have := first_none h i hi
  simpa using this
end PP

namespace PS
theorem has_at (s : PS) (n : Int) : s.has n = true ↔ 0 ≤ n ∧ n < (s.size : Int) := by
  unfold has
  exact decide_eq_true_iff

/-- With the power there, and no fuse. -/
structure Well (s : PS) : Prop where
  down : s.down = false
  fused : s.fused = false

theorem Well.read {s : PS} (h : s.Well) {n : Int} (hn : s.has n = true) : s.readE n = 0 ∧ s.readB n = s.held n := by
  unfold readE readB
  rw [h.down, hn]
  exact ⟨rfl, rfl⟩
theorem Well.readBad {s : PS} (h : s.Well) {n : Int} (hn : s.has n = false) : s.readE n = 41 := by
  unfold readE
  rw [h.down, hn]
  rfl
theorem Well.acted {s : PS} (h : s.Well) : s.acted = s ∧ s.may = true := by
  unfold PS.acted may
  rw [h.fused]
  exact ⟨rfl, rfl⟩
theorem Well.write {s : PS} (h : s.Well) {n : Int} (hn : s.has n = true) {l : List UInt8} (hl : l.length ≤ 1024) : s.writeE n l = 0 ∧ s.written n l = s.lay n l := by
  have hb : s.bad n l = false := by
    unfold bad
    rw [hn]
    simp
    omega
  unfold writeE written
  rw [h.down, hb, h.acted.2, h.acted.1]
  exact ⟨rfl, rfl⟩
theorem Well.flush {s : PS} (h : s.Well) : s.flushE = 0 ∧ s.flushed = s.all := by
  unfold flushE flushed
  rw [h.down, h.acted.2, h.acted.1]
  exact ⟨rfl, rfl⟩
theorem Well.lay {s : PS} (h : s.Well) (n : Int) (l : List UInt8) : (s.lay n l).Well := ⟨h.down, h.fused⟩
theorem Well.all {s : PS} (h : s.Well) : s.all.Well := ⟨h.down, h.fused⟩
theorem lay_held (s : PS) (n : Int) (l : List UInt8) (j : Int) : (s.lay n l).held j = if j = n then l else s.held j := by
  unfold PS.lay held
  by_cases e : j = n
  · simp [e]
  · simp [e]
theorem all_held (s : PS) (j : Int) : s.all.held j = s.held j := by
  unfold PS.all held
  simp
end PS
end Go.Proofs.Ytgkdlbcpckdmkaa
