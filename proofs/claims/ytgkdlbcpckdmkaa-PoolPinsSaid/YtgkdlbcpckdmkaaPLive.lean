/-
  A pool in the midst of a law: what lies outside of it stays. What is got of it behind a flush.
-/
import Derived.Test.YtgkdlbcpckdmkaaPFlush
import Derived.Test.YtgkdlbcpckdmkaaPMisc
import Derived.Test.YtgkdlbcpckdmkaaPNew
import Derived.Test.YtgkdlbcpckdmkaaPUnpin
import Derived.Test.YtgkdlbcpckdmkaaPPin
namespace Go.Proofs.Ytgkdlbcpckdmkaa
open Go.RowKit

namespace PP
theorem Holds.writeA {s : PP} {f : Int → List UInt8} (h : Holds s f) {i : Nat} (hi : i < s.m) (hne : s.at_ i ≠ -1) :
    (s.writeA i).1 = 0 ∧ Holds (s.writeA i).2 f ∧ (s.writeA i).2.m = s.m ∧ (s.writeA i).2.k.size = s.k.size ∧ (s.writeA i).2.c = s.c ∧ (s.writeA i).2.at_ = s.at_ ∧ ∀ j, (s.writeA i).2.d j = if j = i then false else s.d j := by
  unfold PP.writeA
  cases hd : s.d i with
  | true =>
    obtain ⟨w1, _, _, _⟩ := h.wrote hi hne
    obtain ⟨k1, k2⟩ := h.washed hi hne
    simp only [if_true, w1]
    exact ⟨trivial, k1, rfl, k2, rfl, rfl, fun _ => rfl⟩
  | false =>
    simp only [Bool.false_eq_true, if_false]
    refine ⟨trivial, h, trivial, trivial, trivial, trivial, fun j => ?_⟩
    split
    · rename_i e
      rw [e, hd]
    · rfl

theorem Holds.washL {f : Int → List UInt8} : ∀ (js : List Nat) (s : PP), Holds s f → (∀ j ∈ js, j < s.m ∧ s.at_ j ≠ -1) →
    (s.washL js).1 = 0 ∧ Holds (s.washL js).2 f ∧ (s.washL js).2.m = s.m ∧ (s.washL js).2.k.size = s.k.size ∧ (s.washL js).2.c = s.c ∧ (s.washL js).2.at_ = s.at_ ∧ ∀ j, (s.washL js).2.d j = if j ∈ js then false else s.d j
  | [], s, h, _ => ⟨rfl, h, rfl, rfl, rfl, rfl, fun _ => rfl⟩
  | i :: js, s, h, hj => by
    obtain ⟨i1, i2⟩ := hj i (by simp)
    obtain ⟨a1, a2, a3, a4, a5, a6, a7⟩ := h.writeA i1 i2
    obtain ⟨b1, b2, b3, b4, b5, b6, b7⟩ := Holds.washL js (s.writeA i).2 a2 (fun j hm => by
      rw [a3, a6]
      exact hj j (by simp [hm]))
    have e : s.washL (i :: js) = (s.writeA i).2.washL js := by
      show (if (s.writeA i).1 = 0 then _ else _) = _
      rw [if_pos a1]
    rw [e]
    refine ⟨b1, b2, b3.trans a3, b4.trans a4, b5.trans a5, b6.trans a6, fun j => ?_⟩
    rw [b7, a7]
    by_cases e1 : j ∈ js
    · rw [if_pos e1, if_pos (by simp [e1])]
    · rw [if_neg e1]
      by_cases e2 : j = i
      · rw [if_pos e2, if_pos (by simp [e2])]
      · rw [if_neg e2, if_neg (by simp [e1, e2])]

/-- What Flush comes to. -/
structure FlushedA (s : PP) (f : Int → List UInt8) (t : PP) : Prop where
  holds : Holds t f
  m_ : t.m = s.m
  size : t.k.size = s.k.size
  c_ : t.c = s.c
  at_ : t.at_ = s.at_
  clean : ∀ j, j < s.m → t.d j = false
  waits : t.k.W = fun _ => none
  lasts : ∀ n, s.k.has n = true → t.k.L n = f n

theorem Holds.flushA {s : PP} {f : Int → List UInt8} (h : Holds s f) (hv : ∀ i, i < s.m → s.at_ i = -1 → s.d i = false) {js : List Nat} (hj : Js s js) : (s.flushA js).1 = 0 ∧ FlushedA s f (s.flushA js).2 := by
  have hm : ∀ j, j ∈ js ↔ j < s.m ∧ s.d j = true := fun j => by
    rw [hj.perm.mem_iff, List.mem_filter, List.mem_range]
  obtain ⟨b1, b2, b3, b4, b5, b6, b7⟩ := h.washL js s (fun j hm' => by
    obtain ⟨j1, j2⟩ := (hm j).1 hm'
    exact ⟨j1, fun e => by rw [hv j j1 e] at j2; cases j2⟩)
  have hd : ∀ j, j < s.m → (s.washL js).2.d j = false := fun j hjm => by
    rw [b7]
    split
    · rfl
    · rename_i hn
      cases hdj : s.d j with
      | false => rfl
      | true => exact absurd ((hm j).2 ⟨hjm, hdj⟩) hn
  obtain ⟨f1, f2⟩ := b2.well.flush
  unfold PP.flushA
  rw [if_pos b1]
  generalize (s.washL js).2 = r at *
  refine ⟨f1, ⟨by rw [f2]; exact b2.well.all, b2.cn, b2.ch, ?_, b2.inj, b2.hand, ?_, ?_, b2.len⟩, b3, ?_, b5, b6, hd, ?_, ?_⟩
  · show ∀ i, i < r.m → _ ∨ r.k.flushed.has _ = true
    rw [f2]
    exact b2.rng
  · show ∀ i, i < r.m → r.at_ i ≠ -1 → r.d i = false → r.k.flushed.held _ = _
    rw [f2]
    intro i hi hne hd
    rw [PS.all_held]
    exact b2.clean i hi hne hd
  · show ∀ n, r.k.flushed.has n = true → _ → r.k.flushed.held n = _
    rw [f2]
    intro n hn ho
    rw [PS.all_held]
    exact b2.out n hn ho
  · show r.k.flushed.size = _
    rw [f2]
    exact b4
  · show r.k.flushed.W = _
    rw [f2]
    rfl
  · intro n hn
    show r.k.flushed.L n = f n
    rw [f2]
    show r.k.held n = f n
    have hk : r.k.has n = true := by
      rw [r.k.has_at, b4]
      exact (s.k.has_at n).1 hn
    by_cases e : ∃ i, i < r.m ∧ r.at_ i = n
    · obtain ⟨i, hi, rfl⟩ := e
      exact b2.clean i hi (has_ne hk) (hd i (by rw [← b3]; exact hi))
    · exact b2.out n hk (fun i hi e' => e ⟨i, hi, e'⟩)
end PP

/-- A pool that was made since the world W. -/
structure PLive (W : World) (F : Nat → Prop) (w : World) (pb db : Nat) (s : PP) : Prop where
  at_ : ∃ D fb cb rb g, PoolAt w F D pb fb cb rb db g s
  base : ∀ k, F k → W.heap.size ≤ k
  below : Below W.heap.size W w

def PLGoes (W : World) (F : Nat → Prop) (w : World) (pb db : Nat) (s' : PP) (v : Value) (e : Ending) (w' : World) : Prop :=
  e = .returned v ∧ ∃ F', PLive W F' w' pb db s' ∧ Moves w F w' F'

section
variable {W w w' : World} {F F' : Nat → Prop} {pb db : Nat} {s s' : PP}

theorem PLive.le (h : PLive W F w pb db s) : W.heap.size ≤ w.heap.size := h.below.size
theorem PLive.lt (h : PLive W F w pb db s) : ∀ k, F k → k < w.heap.size := by
  obtain ⟨D, fb, cb, rb, g, h⟩ := h.at_
  exact h.core.lt
theorem PLive.fit (h : PLive W F w pb db s) : Fit s := by
  obtain ⟨D, fb, cb, rb, g, h⟩ := h.at_
  exact h.fit
theorem PLive.next (h : PLive W F w pb db s) (hb : Below w.heap.size w w') : PLive W F w' pb db s := by
  obtain ⟨⟨D, fb, cb, rb, g, h0⟩, h1, h2⟩ := h
  exact ⟨⟨D, fb, cb, rb, g, h0.below hb⟩, h1, h2.trans (hb.mono h2.size)⟩
theorem PLive.alloc (h : PLive W F w pb db s) (o : Obj) : PLive W F (w.alloc o) pb db s := h.next (below_one w o)
/-- What another one does leaves a pool alone. -/
theorem PLive.other {G G' : Nat → Prop} (h : PLive W F w pb db s) (hm : Moves w G w' G') (hG : ∀ k, F k → ¬ G k) (hb : Below W.heap.size W w') : PLive W F w' pb db s := by
  obtain ⟨⟨D, fb, cb, rb, g, h0⟩, h1, h2⟩ := h
  exact ⟨⟨D, fb, cb, rb, g, h0.kept hm.kept hG⟩, h1, hb⟩

theorem PLive.moved {D' : Nat → Prop} {fb cb rb : Nat} {g' : Nat → Value} (h : PLive W F w pb db s) (p : PoolAt w' F' D' pb fb cb rb db g' s') (m : Moves w F w' F') : PLive W F' w' pb db s' :=
  ⟨⟨D', fb, cb, rb, g', p⟩, fun k hk => by
    rcases m.news k hk with e | e
    · exact h.base k e
    · exact Nat.le_trans h.le e, h.below.trans (m.kept.toBelow h.base h.le)⟩

theorem PLive.ends {fb cb rb : Nat} {v : Value} {e : Ending} (h : PLive W F w pb db s) (p : PEnd w F pb fb cb rb db s' v e w') : PLGoes W F w pb db s' v e w' := by
  obtain ⟨he, F', D', g', p, m⟩ := p
  exact ⟨he, F', h.moved p m, m⟩

/-- Its disk. -/
theorem PLive.disk (h : PLive W F w pb db s) : ∃ D, Live W D w db s.k := by
  obtain ⟨⟨D, fb, cb, rb, g, h0⟩, h1, h2⟩ := h
  exact ⟨D, h0.core.dk, fun k hk => h1 k (h0.core.fd k hk), h2⟩

set_option maxRecDepth 20000 in
theorem put_live (w : World) (n : Int) (h1 : -9223372036854775808 ≤ n) (h2 : n ≤ 9223372036854775807) (A : Option Addr) (m c : Nat) (l : List UInt8) (hl : l.length = m) (hx : Out w F A l) (hz : A = none → m = 0 ∧ c = 0) (h : PLive W F w pb db s) :
    Calls Try.prog 10 #[.pointer (some ⟨pb, 0, none⟩), .int .i64 n, .slice A m c] w (PLGoes W F w pb db (s.put n l).2 (.int .i64 (s.put n l).1)) := by
  obtain ⟨D, fb, cb, rb, g, p⟩ := h.at_
  exact (put_any w n h1 h2 A m c l hl hx hz p).mono fun _ _ e => h.ends e

/-- What Get answers, in the midst of a law. -/
def LGet (W : World) (F : Nat → Prop) (w : World) (pb db : Nat) (s' : PP) (l : List UInt8) (err : Int) (e : Ending) (w' : World) : Prop :=
  ∃ A c F', e = .returned (.tuple #[.slice A l.length c, .int .i64 err]) ∧ Out w' F' A l ∧ Own w' w.heap.size (.slice A l.length c) l ∧ PLive W F' w' pb db s' ∧ Moves w F w' F' ∧ l.length ≤ 1024

set_option maxRecDepth 20000 in
theorem get_live (w : World) (n : Int) (h1 : -9223372036854775808 ≤ n) (h2 : n ≤ 9223372036854775807) (h : PLive W F w pb db s) :
    Calls Try.prog 11 #[.pointer (some ⟨pb, 0, none⟩), .int .i64 n] w (LGet W F w pb db (s.get n).2.2 (s.get n).2.1 (s.get n).1) := by
  obtain ⟨D, fb, cb, rb, g, p⟩ := h.at_
  refine (get_any w n h1 h2 p).mono ?_
  rintro e w' ⟨A, c, F', D', g', he, p', m, o, x, hl⟩
  exact ⟨A, c, F', he, x, o, h.moved p' m, m, hl⟩

set_option maxRecDepth 20000 in
theorem ppin_live (w : World) (n : Int) (h1 : -9223372036854775808 ≤ n) (h2 : n ≤ 9223372036854775807) (hx : (s.fetch n).2.2.c.Max 9223372036854775806) (h : PLive W F w pb db s) :
    Calls Try.prog 16 #[.pointer (some ⟨pb, 0, none⟩), .int .i64 n] w (PLGoes W F w pb db (PP.pinA (s.fetch n)).2 (.int .i64 (PP.pinA (s.fetch n)).1)) := by
  obtain ⟨D, fb, cb, rb, g, p⟩ := h.at_
  exact (ppin_any w n h1 h2 hx p).mono fun _ _ e => h.ends e

set_option maxRecDepth 20000 in
theorem punpin_live (w : World) (n : Int) (h : PLive W F w pb db s) :
    Calls Try.prog 18 #[.pointer (some ⟨pb, 0, none⟩), .int .i64 n] w (PLGoes W F w pb db (s.unpin n).2 (.int .i64 (s.unpin n).1)) := by
  obtain ⟨D, fb, cb, rb, g, p⟩ := h.at_
  exact (punpin_any w n p).mono fun _ _ e => h.ends e

def LFlush (W : World) (F : Nat → Prop) (w : World) (pb db : Nat) (s : PP) (e : Ending) (w' : World) : Prop :=
  ∃ js, Js s js ∧ PLGoes W F w pb db (s.flushA js).2 (.int .i64 (s.flushA js).1) e w'

set_option maxRecDepth 20000 in
theorem pflush_live (w : World) (hm : s.m ≤ 12) (h : PLive W F w pb db s) :
    Calls Try.prog 12 #[.pointer (some ⟨pb, 0, none⟩)] w (LFlush W F w pb db s) := by
  obtain ⟨D, fb, cb, rb, g, p⟩ := h.at_
  refine (pflush_any w hm p).mono ?_
  rintro e w' ⟨js, hj, hp⟩
  exact ⟨js, hj, h.ends hp⟩

set_option maxRecDepth 20000 in
theorem dirty_live (w : World) (hm : s.m ≤ 12) (h : PLive W F w pb db s) :
    Calls Try.prog 14 #[.pointer (some ⟨pb, 0, none⟩)] w (DirtyEnd w s) := by
  obtain ⟨D, fb, cb, rb, g, p⟩ := h.at_
  exact dirty_any w hm p

set_option maxRecDepth 20000 in
theorem pages_live (w : World) (h : PLive W F w pb db s) :
    Calls Try.prog 17 #[.pointer (some ⟨pb, 0, none⟩)] w (PagesEnd w s) := by
  obtain ⟨D, fb, cb, rb, g, p⟩ := h.at_
  exact pages_any w p

set_option maxRecDepth 20000 in
theorem pdisk_live (w : World) (h : PLive W F w pb db s) :
    Calls Try.prog 23 #[.pointer (some ⟨pb, 0, none⟩)] w fun e w' => e = .returned (.pointer (some ⟨db, 0, none⟩)) ∧ w = w' := by
  obtain ⟨D, fb, cb, rb, g, p⟩ := h.at_
  exact disk_any w p

set_option maxRecDepth 20000 in
theorem pread_live (w : World) (n : Int) (h1 : -9223372036854775808 ≤ n) (h2 : n ≤ 9223372036854775807) (h : PLive W F w pb db s) :
    Calls Try.prog 13 #[.pointer (some ⟨db, 0, none⟩), .int .i64 n] w (ReadEnd w (s.k.readB n) (s.k.readE n)) := by
  obtain ⟨D, hd⟩ := h.disk
  exact read_any w n h1 h2 hd.dk

/-- A new pool, in the midst of a law. -/
def LPool (W : World) (D : Nat → Prop) (w : World) (db : Nat) (k : PS) (n : Nat) (e : Ending) (w' : World) : Prop :=
  ∃ pb F, e = .returned (.tuple #[.pointer (some ⟨pb, 0, none⟩), .int .i64 0]) ∧ PLive W F w' pb db (PP.new k n) ∧ Moves w D w' F ∧ Below w.heap.size w w'

set_option maxRecDepth 20000 in
theorem pnew_live {D : Nat → Prop} {k : PS} (w : World) (n : Nat) (h1 : 1 ≤ n) (h2 : n ≤ 1000) (h : Live W D w db k) :
    Calls Try.prog 9 #[.pointer (some ⟨db, 0, none⟩), .int .i64 n] w (LPool W D w db k n) := by
  refine (pnew_any w n k h1 h2 h.dk).mono ?_
  rintro e w' ⟨pb, fb, cb, rb, g, F, he, p, m, hb⟩
  exact ⟨pb, F, he, ⟨⟨D, fb, cb, rb, g, p⟩, fun b hb' => by
    rcases m.news b hb' with e | e
    · exact h.base b e
    · exact Nat.le_trans h.le e, h.below.trans (hb.mono h.le)⟩, m, hb⟩
end
end Go.Proofs.Ytgkdlbcpckdmkaa
