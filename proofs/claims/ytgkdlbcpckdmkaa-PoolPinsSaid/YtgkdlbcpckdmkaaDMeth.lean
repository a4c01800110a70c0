/-
  What the disk's calls come to: New, Size, Read.
-/
import Derived.Test.YtgkdlbcpckdmkaaDSettle
import Derived.Test.YtgkdlbcpckdmkaaClone
import Derived.Deep.RegionHeld3
import Derived.Carry
namespace Go.Proofs.Ytgkdlbcpckdmkaa
open Go.RowKit Go.Maps

/-- Bytes that lie outside of F. -/
def Out (w : World) (F : Nat → Prop) (A : Option Addr) (l : List UInt8) : Prop :=
  l = [] ∨ ∃ b off, A = some ⟨b, off, none⟩ ∧ ¬ F b ∧ ∀ i z, l[i]? = some z → w.cell? ⟨b, off + i, none⟩ = some (.int .u8 z.toNat)

section
variable {w w' : World} {F F' : Nat → Prop} {A : Option Addr} {l : List UInt8}

theorem Out.bys (h : Out w F A l) : Bys w w.heap.size A l := by
  rcases l with _ | ⟨y, l⟩
  · exact Or.inl rfl
  · rcases h with h | ⟨b, off, e, _, hc⟩
    · cases h
    · exact Or.inr ⟨b, off, e, World.block_lt_of_cell? _ _ (hc 0 y rfl), hc⟩

theorem Out.kept (h : Out w F A l) (hk : Kept F w w') : Out w' F A l := by
  rcases h with h | ⟨b, off, e, hF, hc⟩
  · exact Or.inl h
  · refine Or.inr ⟨b, off, e, hF, fun i z hz => ?_⟩
    have h0 := hc i z hz
    have hb := World.block_lt_of_cell? _ _ h0
    exact (World.cell?_of_block (w := w) (hk.block b hb hF)).trans h0

theorem Out.of_bys {R : Nat} (h : Bys w R A l) (hF : ∀ k, F k → R ≤ k) : Out w F A l := by
  rcases h with h | ⟨b, off, e, hR, hc⟩
  · exact Or.inl h
  · exact Or.inr ⟨b, off, e, fun hb => by have := hF b hb; omega, hc⟩

theorem Out.fewer (h : Out w F A l) (hF : ∀ k, F' k → F k ∨ w.heap.size ≤ k) : Out w F' A l := by
  rcases l with _ | ⟨y, l⟩
  · exact Or.inl rfl
  · rcases h with h | ⟨b, off, e, hb, hc⟩
    · cases h
    · refine Or.inr ⟨b, off, e, fun h' => ?_, hc⟩
      rcases hF b h' with h' | h'
      · exact hb h'
      · have : b < w.heap.size := World.block_lt_of_cell? _ _ (hc 0 y rfl)
        omega
end

/-- A new disk. -/
def Made (w : World) (n : Nat) (e : Ending) (w' : World) : Prop :=
  ∃ db F, e = .returned (.tuple #[.pointer (some ⟨db, 0, none⟩), .int .i64 0]) ∧ Dk w' F db (PS.new n) ∧ (∀ k, F k → w.heap.size ≤ k) ∧ Below w.heap.size w w'

set_option maxRecDepth 20000 in
theorem made_at (w : World) (n : Nat) (h2 : 2 ≤ n) (h4 : n ≤ 4096) :
    Dk (((w.alloc (.map #[] 0)).alloc (.map #[] 0)).alloc (.cells #[.int .i64 n, .map (some w.heap.size), .map (some (w.heap.size + 1)), .bool false, .bool false, .int .i64 0] 56)) (fun k => w.heap.size ≤ k ∧ k < w.heap.size + 3) (w.heap.size + 2) (PS.new n) := by
  refine ⟨w.heap.size, w.heap.size + 1, fun _ => none, fun _ => none, ?_⟩
  have m0 := mapAt_made w
  have m1 := mapAt_made (w.alloc (.map #[] 0))
  rw [show (w.alloc (.map #[] 0)).heap.size = w.heap.size + 1 by simp] at m1
  have e0 : ∀ o, ((w.alloc (.map #[] 0)).alloc o).heap[w.heap.size]? = (w.alloc (.map #[] 0)).heap[w.heap.size]? := fun o => Below.heap_alloc _ _ _ (by simp)
  have e1 : ∀ (w : World) o k, k < w.heap.size → (w.alloc o).heap[k]? = w.heap[k]? := fun w o k hk => Below.heap_alloc _ _ _ hk
  exact
    { str := by
        have := heap_alloc_new ((w.alloc (.map #[] 0)).alloc (.map #[] 0)) (.cells #[.int .i64 n, .map (some w.heap.size), .map (some (w.heap.size + 1)), .bool false, .bool false, .int .i64 0] 56)
        rw [show ((w.alloc (.map #[] 0)).alloc (.map #[] 0)).heap.size = w.heap.size + 2 by simp] at this
        exact this
      mL := (m0.block (e0 _)).block (e1 _ _ _ (by simp; omega))
      mW := m1.block (e1 _ _ _ (by simp))
      ne := by omega
      fd := by omega
      fl := by omega
      fw := by omega
      lt := fun k hk => by simp; omega
      oL := fun i v l hi => by cases hi
      oW := fun i v l hi => by cases hi
      aL := fun i j v l u m k hi => by cases hi
      aW := fun i j v l u m k hi => by cases hi
      aX := fun i j v l u m k hi => by cases hi
      sL := fun i => rfl
      sW := fun i => rfl
      s2 := h2
      s4 := h4
      fu := by show 0 ≤ _; omega }

set_option maxRecDepth 20000 in
theorem new_good (w : World) (n : Nat) (h2 : 2 ≤ n) (h4 : n ≤ 4096) : Calls Try.prog 8 #[.int .i64 n] w (Made w n) := by
  have HM := Lib.hid (made_at w n h2 h4)
  have hmm := @run_makeMap Try.prog
  go_enter Try.func8, Try.ntmps8
  go_wp2_with fail
  go_ret2
  exact ⟨w.heap.size + 2, _, rfl, HM.out, fun k hk => hk.1, (((Below.refl _ _).alloc (Nat.le_refl _) _).alloc (by simp) _).alloc (by simp; omega) _⟩

set_option maxRecDepth 20000 in
theorem new_bad (w : World) (n : Int) (h : n < 2 ∨ 4096 < n) : Calls Try.prog 8 #[.int .i64 n] w fun e w' => e = .returned (.tuple #[.pointer none, .int .i64 1]) ∧ w = w' := by
  by_cases h0 : n < 2
  · go_enter Try.func8, Try.ntmps8
    go_wp2_with fail
    go_ret2
    exact ⟨rfl, rfl⟩
  · have h1 : 4096 < n := by omega
    clear h
    go_enter Try.func8, Try.ntmps8
    go_wp2_with fail
    go_ret2
    exact ⟨rfl, rfl⟩

section
variable {F : Nat → Prop} {db : Nat} {s : PS}

set_option maxRecDepth 20000 in
theorem size_any (w : World) (h : Dk w F db s) : Calls Try.prog 25 #[.pointer (some ⟨db, 0, none⟩)] w fun e w' => e = .returned (.int .i64 s.size) ∧ w = w' := by
  obtain ⟨bl, bw, gL, gW, h⟩ := h
  have c0 := h.cell 0 (v := .int .i64 s.size) rfl
  clear h
  go_enter Try.func25, Try.ntmps25
  go_wp2_with fail
  go_ret
  exact ⟨rfl, rfl⟩

/-- What Read answers. -/
def ReadEnd (w : World) (l : List UInt8) (err : Int) (e : Ending) (w' : World) : Prop :=
  ∃ A c, e = .returned (.tuple #[.slice A l.length c, .int .i64 err]) ∧ Own w' w.heap.size (.slice A l.length c) l ∧ Below w.heap.size w w'

set_option maxRecDepth 20000 in
theorem read_any (w : World) (n : Int) (h1 : -9223372036854775808 ≤ n) (h2 : n ≤ 9223372036854775807) (h : Dk w F db s) :
    Calls Try.prog 13 #[.pointer (some ⟨db, 0, none⟩), .int .i64 n] w (ReadEnd w (s.readB n) (s.readE n)) := by
  obtain ⟨bl, bw, gL, gW, h⟩ := h
  have c0 := h.cell 0 (v := .int .i64 s.size) rfl
  have c3 := h.cell 3 (v := .bool s.down) rfl
  have HD := Lib.hid h
  by_cases hd : s.down = true
  · rw [hd] at c3
    have eB : s.readB n = [] := by unfold PS.readB; rw [if_pos hd]
    have eE : s.readE n = 40 := by unfold PS.readE; rw [if_pos hd]
    rw [eB, eE]
    clear h eB eE hd c0
    go_enter Try.func13, Try.ntmps13
    go_wp2_with fail
    go_ret2
    exact ⟨none, 0, rfl, own_nil _ _, Below.refl _ _⟩
  · have hd' : s.down = false := by simpa using hd
    rw [hd'] at c3
    by_cases hh : s.has n = true
    · have eB : s.readB n = s.held n := by unfold PS.readB; rw [if_neg hd, if_pos hh]
      have eE : s.readE n = 0 := by unfold PS.readE; rw [if_neg hd, if_pos hh]
      rw [eB, eE]
      have HC : Hid (Calls Try.prog 34 #[.pointer (some ⟨db, 0, none⟩), .int .i64 n] w fun e w' => e = .returned (.bool true) ∧ w = w') := hh ▸ has_any w db s n c0
      have hl := PS.held_le h.ok n
      clear h eB eE hd hd' hh
      go_enter Try.func13, Try.ntmps13
      go_wp2_with fail
      refine HC.out.mono ?_
      rintro e w' ⟨rfl, rfl⟩
      go_wp2_with fail
      refine (held_any w n h1 h2 HD.out).mono ?_
      rintro e w' ⟨rfl, rfl⟩
      have ho := (HD.out.held_own n).1
      generalize heldV gL gW n = v at *
      obtain ⟨A, c, rfl, hc, hz⟩ := own_slice ho
      go_wp2_with fail
      refine (clone_all A _ c _ (s.held n) w (own_bys ho) rfl (by omega) hz).mono ?_
      rintro e w1 ⟨v1, rfl, o1, b1⟩
      obtain ⟨A1, cc, rfl, _, _⟩ := own_slice o1
      clear ho hz hc
      go_wp2_with fail
      go_ret2
      exact ⟨A1, cc, rfl, o1, b1⟩
    · have hh' : s.has n = false := by simpa using hh
      have eB : s.readB n = [] := by unfold PS.readB; rw [if_neg hd, if_neg hh]
      have eE : s.readE n = 41 := by unfold PS.readE; rw [if_neg hd, if_neg hh]
      rw [eB, eE]
      have HC : Hid (Calls Try.prog 34 #[.pointer (some ⟨db, 0, none⟩), .int .i64 n] w fun e w' => e = .returned (.bool false) ∧ w = w') := hh' ▸ has_any w db s n c0
      clear h eB eE hd hd' hh hh'
      go_enter Try.func13, Try.ntmps13
      go_wp2_with fail
      refine HC.out.mono ?_
      rintro e w' ⟨rfl, rfl⟩
      go_wp2_with fail
      go_ret2
      exact ⟨none, 0, rfl, own_nil _ _, Below.refl _ _⟩
end
end Go.Proofs.Ytgkdlbcpckdmkaa
