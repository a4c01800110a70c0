/-
  What the reader's methods come to: next, ends.
-/
import Derived.Test.YtcjcahgeaffjmaaKRow
namespace Go.Proofs.Ytcjcahgeaffjmaa
open Go.RowKit

/-- What a reader gives up with. -/
def nope : List PanicEntry := [{ v := .iface 40 (.agg #[]), recovered := false }]

/-- A reader in block rb, ahead of whose bytes there are just l left. -/
def Rdr (w : World) (rb : Nat) (l : List UInt8) : Prop :=
  ∃ A c, w.cell? ⟨rb, 0, none⟩ = some (.slice A l.length c) ∧ w.frozen? ⟨rb, 0, none⟩ = false ∧ l.length ≤ c ∧ c ≤ maxLen ∧ Bys w rb A l

theorem Rdr.lt {w : World} {rb : Nat} {l : List UInt8} (h : Rdr w rb l) : rb < w.heap.size := by
  obtain ⟨A, c, h0, _⟩ := h
  exact World.block_lt_of_cell? _ _ h0

theorem Rdr.below {w w' : World} {rb B : Nat} {l : List UInt8} (h : Rdr w rb l) (hb : Below B w w') (hB : rb < B) : Rdr w' rb l := by
  obtain ⟨A, c, h0, h1, h2, h3, h4⟩ := h
  exact ⟨A, c, (hb.cell (p := ⟨rb, 0, none⟩) hB).trans h0, (hb.frozen (p := ⟨rb, 0, none⟩) hB).trans h1, h2, h3, h4.below (hb.mono (by omega))⟩

theorem Rdr.kept {w w' : World} {rb : Nat} {l : List UInt8} (h : Rdr w rb l) (hb : Below w.heap.size w w') : Rdr w' rb l := h.below hb h.lt
theorem Rdr.alloc {w : World} {rb : Nat} {l : List UInt8} (h : Rdr w rb l) (o : Obj) : Rdr (w.alloc o) rb l := h.kept (below_one _ _)

theorem grown_set (w : World) (b o : Nat) (u : Value) : w.grownBy (w.setCell ⟨b, o, none⟩ u) (some b) :=
  ⟨rfl, rfl, rfl, by simp [World.setCell], fun k _ hk => Below.heap_setCell w ⟨b, o, none⟩ u k (fun e => hk (by rw [e]))⟩

theorem grown_below {w w' : World} {b : Nat} (h : w.grownBy w' (some b)) (hb : b ≤ w.heap.size) : Below b w w' :=
  (Below.refl _ _).grown h hb (fun k hk => by injection hk with hk; omega)

theorem below_set3 {B b : Nat} {a w : World} (h : Below B a w) (hb : B ≤ b) (x y z : Value) : Below B a (((w.setCell ⟨b, 0, none⟩ x).setCell ⟨b, 1, none⟩ y).setCell ⟨b, 2, none⟩ z) :=
  ((h.setCell (p := ⟨b, 0, none⟩) hb x).setCell (p := ⟨b, 1, none⟩) hb y).setCell (p := ⟨b, 2, none⟩) hb z

theorem rdr_step {w : World} {rb c : Nat} {A A' : Option Addr} {l : List UInt8} (h0 : w.cell? ⟨rb, 0, none⟩ = some (.slice A (l.length + 1) c)) (h1 : w.frozen? ⟨rb, 0, none⟩ = false) (h2 : l.length + 1 ≤ c) (h3 : c ≤ maxLen)
    (hA : Bys w rb A' l) : Rdr (w.setCell ⟨rb, 0, none⟩ (.slice A' l.length (c - 1))) rb l := by
  refine ⟨A', c - 1, ?_, ?_, by omega, by omega, hA.below (grown_below (grown_set _ _ _ _) (Nat.le_of_lt (World.block_lt_of_cell? _ _ h0)))⟩
  · exact World.cell?_setCell_same _ _ _ h0
  · rw [World.frozen?_setCell]
    exact h1

set_option maxHeartbeats 400000 in
theorem next_some (rb : Nat) (z : UInt8) (l : List UInt8) (w : World) (h : Rdr w rb (z :: l)) :
    Calls Try.prog 38 #[.pointer (some ⟨rb, 0, none⟩)] w fun e w' => e = .returned (.int .u8 z.toNat) ∧ Rdr w' rb l ∧ w.grownBy w' (some rb) := by
  obtain ⟨A, c, h0, h1, h2, h3, h4⟩ := h
  rw [List.length_cons] at h0 h2
  have h5 := h4
  obtain ⟨b, off, z', rfl, hb, hz, c0⟩ := h5.at_ (k := 0) (by simp)
  obtain rfl : z = z' := by simpa using hz
  rw [Nat.add_zero] at c0
  clear hz h5
  have hd := h4.drop 1
  rw [List.drop_succ_cons, List.drop_zero] at hd
  have h3' := h3
  unfold maxLen at h3'
  by_cases hc : c = 1
  · have hl : l = [] := List.eq_nil_of_length_eq_zero (by omega)
    subst hl
    subst hc
    have HR := Lib.hid (rdr_step (l := []) h0 h1 h2 h3 (Bys.nil _ _ (some ⟨b, off, none⟩)))
    rw [List.length_nil, Nat.zero_add] at h0
    go_enter Try.func38, Try.ntmps38
    go_wp2_with fail
    go_ret
    exact ⟨rfl, HR.out, grown_set _ _ _ _⟩
  · have HR := Lib.hid (rdr_step h0 h1 h2 h3 hd)
    go_enter Try.func38, Try.ntmps38
    go_wp2_with fail
    go_ret
    exact ⟨rfl, HR.out, grown_set _ _ _ _⟩

set_option maxHeartbeats 400000 in
theorem next_none (rb : Nat) (w : World) (h : Rdr w rb []) :
    Calls Try.prog 38 #[.pointer (some ⟨rb, 0, none⟩)] w fun e w' => e = .panicked nope ∧ w = w' := by
  obtain ⟨A, c, h0, h1, h2, h3, h4⟩ := h
  rw [List.length_nil] at h0
  go_enter Try.func38, Try.ntmps38
  go_wp2_with fail
  exact ⟨rfl, rfl, rfl⟩

set_option maxHeartbeats 400000 in
theorem ends_more (rb : Nat) (l : List UInt8) (w : World) (h : Rdr w rb (255 :: l)) :
    Calls Try.prog 48 #[.pointer (some ⟨rb, 0, none⟩)] w fun e w' => e = .returned (.bool false) ∧ Rdr w' rb l ∧ w.grownBy w' (some rb) := by
  go_enter Try.func48, Try.ntmps48
  go_wp2_with fail
  refine (next_some rb 255 l _ h).mono ?_
  rintro e w1 ⟨rfl, h1, g1⟩
  go_wp2_with fail
  go_ret
  exact ⟨rfl, h1, g1⟩

set_option maxHeartbeats 400000 in
theorem ends_end (rb : Nat) (l : List UInt8) (w : World) (h : Rdr w rb (0 :: l)) :
    Calls Try.prog 48 #[.pointer (some ⟨rb, 0, none⟩)] w fun e w' => e = .returned (.bool true) ∧ Rdr w' rb l ∧ w.grownBy w' (some rb) := by
  go_enter Try.func48, Try.ntmps48
  go_wp2_with fail
  refine (next_some rb 0 l _ h).mono ?_
  rintro e w1 ⟨rfl, h1, g1⟩
  go_wp2_with fail
  go_ret
  exact ⟨rfl, h1, g1⟩

set_option maxHeartbeats 400000 in
theorem ends_bad (rb : Nat) (z : UInt8) (l : List UInt8) (w : World) (h : Rdr w rb (z :: l)) (hz : ¬ z = 0) (hz' : ¬ z = 255) :
    Calls Try.prog 48 #[.pointer (some ⟨rb, 0, none⟩)] w fun e w' => e = .panicked nope ∧ w.grownBy w' (some rb) := by
  have k0 : ((z.toNat : Int) == 0) = false := byte_not (d := 0) hz
  have k1 : ((z.toNat : Int) == 255) = false := byte_not (d := 255) hz'
  clear hz hz'
  go_enter Try.func48, Try.ntmps48
  go_wp2_with fail
  refine (next_some rb z l _ h).mono ?_
  rintro e w1 ⟨rfl, h1, g1⟩
  go_wp2_with fail
  exact ⟨rfl, rfl, g1⟩

set_option maxHeartbeats 400000 in
theorem ends_none (rb : Nat) (w : World) (h : Rdr w rb []) :
    Calls Try.prog 48 #[.pointer (some ⟨rb, 0, none⟩)] w fun e w' => e = .panicked nope ∧ w.grownBy w' (some rb) := by
  go_enter Try.func48, Try.ntmps48
  go_wp2_with fail
  refine (next_none rb _ h).mono ?_
  rintro e w1 ⟨rfl, rfl⟩
  go_wp2_with fail
  exact ⟨rfl, rfl, World.grownBy.refl _ _⟩

/-- The method value that takes what a first byte tells. -/
def takes (f : FuncId) (rb : Nat) : Value := .func (.func f) #[.pointer (some ⟨rb, 0, none⟩)] #[]

set_option maxHeartbeats 400000 in
theorem taker_num (rb : Nat) (l : List UInt8) (w : World) (h : Rdr w rb (1 :: l)) :
    Calls Try.prog 25 #[.pointer (some ⟨rb, 0, none⟩)] w fun e w' => e = .returned (takes 39 rb) ∧ Rdr w' rb l ∧ w.grownBy w' (some rb) := by
  have hmf : ∀ (fn : Fn) (first cap : Array Value) (w : World), (Instr.makeFunc fn first cap).run Try.prog w = .ok (.func fn first cap) w := fun _ _ _ _ => rfl
  go_enter Try.func25, Try.ntmps25
  go_wp2_with fail
  refine (next_some rb 1 l _ h).mono ?_
  rintro e w1 ⟨rfl, h1, g1⟩
  go_wp2_with fail
  go_ret
  exact ⟨rfl, h1, g1⟩

set_option maxHeartbeats 400000 in
theorem taker_text (rb : Nat) (l : List UInt8) (w : World) (h : Rdr w rb (2 :: l)) :
    Calls Try.prog 25 #[.pointer (some ⟨rb, 0, none⟩)] w fun e w' => e = .returned (takes 40 rb) ∧ Rdr w' rb l ∧ w.grownBy w' (some rb) := by
  have hmf : ∀ (fn : Fn) (first cap : Array Value) (w : World), (Instr.makeFunc fn first cap).run Try.prog w = .ok (.func fn first cap) w := fun _ _ _ _ => rfl
  go_enter Try.func25, Try.ntmps25
  go_wp2_with fail
  refine (next_some rb 2 l _ h).mono ?_
  rintro e w1 ⟨rfl, h1, g1⟩
  go_wp2_with fail
  go_ret
  exact ⟨rfl, h1, g1⟩

set_option maxHeartbeats 400000 in
theorem taker_bad (rb : Nat) (z : UInt8) (l : List UInt8) (w : World) (h : Rdr w rb (z :: l)) (hz : ¬ z = 1) (hz' : ¬ z = 2) :
    Calls Try.prog 25 #[.pointer (some ⟨rb, 0, none⟩)] w fun e w' => e = .panicked nope ∧ w.grownBy w' (some rb) := by
  have k0 : ((z.toNat : Int) == 1) = false := byte_not (d := 1) hz
  have k1 : ((z.toNat : Int) == 2) = false := byte_not (d := 2) hz'
  clear hz hz'
  go_enter Try.func25, Try.ntmps25
  go_wp2_with fail
  refine (next_some rb z l _ h).mono ?_
  rintro e w1 ⟨rfl, h1, g1⟩
  go_wp2_with fail
  exact ⟨rfl, rfl, g1⟩

set_option maxHeartbeats 400000 in
theorem checked_ok (v : Val) (w : World) (h : chkV v = 0) :
    Calls Try.prog 26 #[.agg #[.int .i64 v.k, .int .i64 v.n, .string v.s]] w fun e w' => e = .returned (.agg #[.int .i64 v.k, .int .i64 v.n, .string v.s]) ∧ Below w.heap.size w w' := by
  have K := fun W => check_any v.k v.n v.s W
  have h' : chk v.k v.n v.s.toList = 0 := h
  rw [h'] at K
  clear h h'
  go_enter Try.func26, Try.ntmps26
  go_wp2_with fail
  refine (K _).mono ?_
  rintro e w1 ⟨rfl, hb1⟩
  clear K
  obtain ⟨hc, hf⟩ := kept hb1
  have hz : w.heap.size + 1 < w1.heap.size := by have := hb1.size; simp at this; omega
  go_wp2_with fail
  refine bodyPost_ret (v := .agg #[.int .i64 v.k, .int .i64 v.n, .string v.s]) (by simp [results, Try.results26, go_sem, hc]) rfl ⟨rfl, ?_⟩
  exact below_set3 ((below_two _ _ _).trans (hb1.mono (by simp; omega))) (by omega) _ _ _

set_option maxHeartbeats 400000 in
theorem checked_no (v : Val) (w : World) (h : ¬ chkV v = 0) :
    Calls Try.prog 26 #[.agg #[.int .i64 v.k, .int .i64 v.n, .string v.s]] w fun e w' => e = .panicked nope ∧ Below w.heap.size w w' := by
  have K := fun W => check_any v.k v.n v.s W
  have h' : chk v.k v.n v.s.toList = 10 := by
    rcases chk_two v.k v.n v.s.toList with e | e
    · exact absurd e h
    · exact e
  rw [h'] at K
  clear h h'
  go_enter Try.func26, Try.ntmps26
  go_wp2_with fail
  refine (K _).mono ?_
  rintro e w1 ⟨rfl, hb1⟩
  clear K
  go_wp2_with fail
  exact ⟨rfl, rfl, (below_two _ _ _).trans (hb1.mono (by simp; omega))⟩
end Go.Proofs.Ytcjcahgeaffjmaa
