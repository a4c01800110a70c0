/-
  A disk in the midst of a law: what lies outside of it stays.
-/
import Derived.Test.YtgkdlbcpckdmkaaDFlush
import Derived.Test.YtgkdlbcpckdmkaaDOutN
namespace Go.Proofs.Ytgkdlbcpckdmkaa
open Go.RowKit Go.Maps

/-- A disk that was made since the world W. -/
structure Live (W : World) (F : Nat → Prop) (w : World) (db : Nat) (s : PS) : Prop where
  dk : Dk w F db s
  base : ∀ k, F k → W.heap.size ≤ k
  below : Below W.heap.size W w

/-- From w, with the disk's blocks F, to w', with F'. -/
structure Moves (w : World) (F : Nat → Prop) (w' : World) (F' : Nat → Prop) : Prop where
  kept : Kept F w w'
  news : ∀ k, F' k → F k ∨ w.heap.size ≤ k

def LGoes (W : World) (F : Nat → Prop) (w : World) (db : Nat) (s' : PS) (v : Value) (e : Ending) (w' : World) : Prop :=
  e = .returned v ∧ ∃ F', Live W F' w' db s' ∧ Moves w F w' F'

section
variable {W w w' w2 : World} {F F' F2 : Nat → Prop} {db : Nat} {s s' : PS}

theorem Dk.lt (h : Dk w F db s) : ∀ k, F k → k < w.heap.size := by
  obtain ⟨bl, bw, gL, gW, h⟩ := h
  exact h.lt

theorem Dk.ok (h : Dk w F db s) : s.Ok := by
  obtain ⟨bl, bw, gL, gW, h⟩ := h
  exact h.ok

theorem Dk.s2 (h : Dk w F db s) : 2 ≤ s.size := by
  obtain ⟨bl, bw, gL, gW, h⟩ := h
  exact h.s2

theorem Dk.s4 (h : Dk w F db s) : s.size ≤ 4096 := by
  obtain ⟨bl, bw, gL, gW, h⟩ := h
  exact h.s4

theorem Moves.trans (h : Moves w F w' F') (k : Moves w' F' w2 F2) : Moves w F w2 F2 :=
  ⟨h.kept.trans k.kept h.news, fun j hj => by
    rcases k.news j hj with h1 | h1
    · exact h.news j h1
    · exact Or.inr (Nat.le_trans h.kept.size h1)⟩

theorem Moves.of_below (h : Below w.heap.size w w') : Moves w F w' F := ⟨Kept.below h F, fun _ hk => Or.inl hk⟩

theorem Moves.out {A : Option Addr} {l : List UInt8} (h : Moves w F w' F') (o : Out w F A l) : Out w' F' A l := by
  rcases l with _ | ⟨y, l⟩
  · exact Or.inl rfl
  · rcases o with o | ⟨b, off, e, hb, hc⟩
    · cases o
    · have hlt : b < w.heap.size := World.block_lt_of_cell? _ _ (hc 0 y rfl)
      refine Or.inr ⟨b, off, e, fun h' => ?_, fun i z hz => (World.cell?_of_block (w := w) (h.kept.block b hlt hb)).trans (hc i z hz)⟩
      rcases h.news b h' with h' | h'
      · exact hb h'
      · omega

theorem Moves.outN {A : Option Addr} {l : List Int} (h : Moves w F w' F') (o : OutN w F A l) : OutN w' F' A l := by
  rcases l with _ | ⟨y, l⟩
  · exact Or.inl rfl
  · rcases o with o | ⟨b, off, e, hb, hc⟩
    · cases o
    · have hlt : b < w.heap.size := World.block_lt_of_cell? _ _ (hc 0 y rfl).1
      refine Or.inr ⟨b, off, e, fun h' => ?_, fun i z hz => ⟨(World.cell?_of_block (w := w) (h.kept.block b hlt hb)).trans (hc i z hz).1, (hc i z hz).2⟩⟩
      rcases h.news b h' with h' | h'
      · exact hb h'
      · omega

/-- A block outside of the disk stays. -/
theorem Moves.block (h : Moves w F w' F') {b : Nat} (hb : b < w.heap.size) (hF : ¬ F b) : w'.heap[b]? = w.heap[b]? ∧ ¬ F' b :=
  ⟨h.kept.block b hb hF, fun h' => by
    rcases h.news b h' with h' | h'
    · exact hF h'
    · omega⟩

theorem Live.le (h : Live W F w db s) : W.heap.size ≤ w.heap.size := h.below.size

theorem Live.goes {v : Value} {e : Ending} (h : Live W F w db s) (g : Goes w F db s' v e w') : LGoes W F w db s' v e w' := by
  obtain ⟨he, F', hd, hF, hk⟩ := g
  refine ⟨he, F', ⟨hd, fun k hk' => ?_, h.below.trans (hk.toBelow h.base h.le)⟩, hk, hF⟩
  rcases hF k hk' with h1 | h1
  · exact h.base k h1
  · exact Nat.le_trans h.le h1

theorem Live.next (h : Live W F w db s) (hb : Below w.heap.size w w') : Live W F w' db s :=
  ⟨h.dk.below hb, h.base, h.below.trans (hb.mono h.le)⟩

theorem Live.alloc (h : Live W F w db s) (o : Obj) : Live W F (w.alloc o) db s := h.next (below_one w o)

/-- Bytes just laid lie outside. -/
theorem Live.out_new (h : Live W F w db s) (l : List UInt8) (t : TypeId) : Out (w.alloc (.cells (bv l).toArray t)) F (some ⟨w.heap.size, 0, none⟩) l := by
  rcases bys_new w l t with e | ⟨b, off, e, _, hc⟩
  · exact Or.inl e
  · refine Or.inr ⟨b, off, e, fun hb => ?_, hc⟩
    have := h.dk.lt b hb
    injection e with e
    injection e with e1 e2
    omega

theorem Live.outN_one (h : Live W F w db s) (x : Int) (h1 : -9223372036854775808 ≤ x) (h2 : x ≤ 9223372036854775807) (t : TypeId) : OutN (w.alloc (.cells #[.int .i64 x] t)) F (some ⟨w.heap.size, 0, none⟩) [x] := by
  refine Or.inr ⟨w.heap.size, 0, rfl, fun hb => by have := h.dk.lt _ hb; omega, fun i z hz => ?_⟩
  rcases i with _ | i
  · obtain rfl : x = z := by simpa using hz
    exact ⟨by simp, h1, h2⟩
  · simp at hz

/-- What was read lies outside. -/
theorem own_out {A : Option Addr} {n c : Nat} {l : List UInt8} (h : Dk w F db s) (o : Own w' w.heap.size (.slice A n c) l) : Out w' F A l := by
  have hb := own_bys o
  rcases hb with hb | ⟨b, off, e, _, hc⟩
  · exact Or.inl hb
  · refine Or.inr ⟨b, off, e, fun hF => ?_, hc⟩
    have h1 := h.lt b hF
    have h2 := (o.lt b (by rw [e]; rfl)).1
    omega

theorem Out.first {A : Option Addr} {y : UInt8} {l : List UInt8} (o : Out w F A (y :: l)) : ∃ b off, A = some ⟨b, off, none⟩ ∧ w.cell? ⟨b, off, none⟩ = some (.int .u8 y.toNat) := by
  rcases o with o | ⟨b, off, e, _, hc⟩
  · cases o
  · exact ⟨b, off, e, hc 0 y rfl⟩
end

section
variable {W : World} {F : Nat → Prop} {db : Nat} {s : PS}

set_option maxRecDepth 20000 in
theorem write_live (w : World) (n : Int) (h1 : -9223372036854775808 ≤ n) (h2 : n ≤ 9223372036854775807) (A : Option Addr) (m c : Nat) (l : List UInt8) (hl : l.length = m) (hx : Out w F A l) (hz : A = none → m = 0 ∧ c = 0) (h : Live W F w db s) :
    Calls Try.prog 49 #[.pointer (some ⟨db, 0, none⟩), .int .i64 n, .slice A m c] w (LGoes W F w db (s.written n l) (.int .i64 (s.writeE n l))) :=
  (write_any w n h1 h2 A m c l hl hx hz h.dk).mono fun _ _ g => h.goes g
set_option maxRecDepth 20000 in
theorem flush_live (w : World) (h : Live W F w db s) :
    Calls Try.prog 33 #[.pointer (some ⟨db, 0, none⟩)] w (LGoes W F w db s.flushed (.int .i64 s.flushE)) :=
  (flush_any w h.dk).mono fun _ _ g => h.goes g
/-- What Read answers, in the midst of a law. -/
def LRead (W : World) (F : Nat → Prop) (w : World) (db : Nat) (s : PS) (l : List UInt8) (err : Int) (e : Ending) (w' : World) : Prop :=
  ∃ A c, e = .returned (.tuple #[.slice A l.length c, .int .i64 err]) ∧ Out w' F A l ∧ Live W F w' db s ∧ Moves w F w' F

set_option maxRecDepth 20000 in
theorem read_live (w : World) (n : Int) (h1 : -9223372036854775808 ≤ n) (h2 : n ≤ 9223372036854775807) (h : Live W F w db s) :
    Calls Try.prog 13 #[.pointer (some ⟨db, 0, none⟩), .int .i64 n] w (LRead W F w db s (s.readB n) (s.readE n)) :=
  (read_any w n h1 h2 h.dk).mono fun _ _ ⟨A, c, he, ho, hb⟩ => ⟨A, c, he, own_out h.dk ho, h.next hb, Moves.of_below hb⟩

/-- A new disk, in the midst of a law. -/
def LMade (W w : World) (n : Nat) (e : Ending) (w' : World) : Prop :=
  ∃ db F, e = .returned (.tuple #[.pointer (some ⟨db, 0, none⟩), .int .i64 0]) ∧ Live W F w' db (PS.new n) ∧ Below w.heap.size w w' ∧ ∀ k, F k → w.heap.size ≤ k

set_option maxRecDepth 20000 in
theorem new_live (w : World) (n : Nat) (h2 : 2 ≤ n) (h4 : n ≤ 4096) (hb : Below W.heap.size W w) : Calls Try.prog 8 #[.int .i64 n] w (LMade W w n) :=
  (new_good w n h2 h4).mono fun _ _ ⟨db, F, he, hd, hF, hb'⟩ => ⟨db, F, he, ⟨hd, fun k hk => Nat.le_trans hb.size (hF k hk), hb.trans (hb'.mono hb.size)⟩, hb', hF⟩
end

theorem PS.written_size (s : PS) (n : Int) (l : List UInt8) : (s.written n l).size = s.size := by
  unfold PS.written
  split
  · rfl
  · split
    · rfl
    · split
      · exact PS.acted_size s
      · exact PS.acted_size s
theorem PS.flushed_size (s : PS) : s.flushed.size = s.size := by
  unfold PS.flushed
  split
  · rfl
  · split
    · exact PS.acted_size s
    · exact PS.acted_size s
end Go.Proofs.Ytgkdlbcpckdmkaa
