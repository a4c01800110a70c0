/-
  What the laws' own Small and Done come to.
-/
import Derived.Test.YtillllegbgaalaaDCall
import Derived.Deep.LoopGhost
namespace Go.Proofs.Ytillllegbgaalaa
open Go.RowKit Go.Maps

def Cl.agg (c : Cl) : Value := .agg #[.int .i64 c.kind, .int .i64 c.n, .slice c.bA c.bn c.bc, .slice c.kA c.kn c.kc, .int .i64 c.at_, .int .u8 c.by_.toNat]
def Cl.small (c : Cl) : Bool := decide (c.bn ≤ 1100 ∧ c.kn ≤ 60)

theorem small_any (c : Cl) (w : World) : Calls Try.prog 12 #[.agg #[.int .i64 c.kind, .int .i64 c.n, .slice c.bA c.bn c.bc, .slice c.kA c.kn c.kc, .int .i64 c.at_, .int .u8 c.by_.toNat]] w
    fun e w' => e = .returned (.bool c.small) ∧ Below w.heap.size w w' := by
  by_cases h1 : c.bn ≤ 1100
  · go_enter Try.func12, Try.ntmps12
    go_wp2_with fail
    go_ret
    refine ⟨ret_bool ?_, below_one _ _⟩
    unfold Cl.small
    simp [h1]
    try omega
  · have h2 : 1100 < c.bn := by omega
    go_enter Try.func12, Try.ntmps12
    go_wp2_with fail
    go_ret
    refine ⟨ret_bool ?_, below_one _ _⟩
    unfold Cl.small
    simp [h1]

/-- Some disk of that size is there. -/
def DoneRel (W : World) (db : Nat) (z : Nat) (w : World) : Prop := ∃ F s, Live W F w db s ∧ s.size = z

theorem PS.written_size (s : PS) (n : Int) (l : List UInt8) : (s.written n l).size = s.size := by
  unfold PS.written
  split
  · rfl
  · split
    · rfl
    · split
      · exact PS.acted_size s
      · exact PS.acted_size s
theorem PS.flushed_size (s : PS) : s.flushed.size = s.size := by
  unfold PS.flushed
  split
  · rfl
  · split
    · exact PS.acted_size s
    · exact PS.acted_size s
theorem PS.turned_size (s : PS) (n at_ : Int) (by_ : UInt8) : (s.turned n at_ by_).size = s.size := by
  unfold PS.turned
  split
  · split
    · rfl
    · split <;> rfl
  · rfl

section
variable {W : World} {db : Nat} {z : Nat} {c : Cl}
/-- One call is done. -/
theorem done_write (w : World) (h : DoneRel W db z w) (hc : ClAt w W.heap.size c) :
    Calls Try.prog 17 #[.pointer (some ⟨db, 0, none⟩), .int .i64 c.n, .slice c.bA c.bn c.bc] w fun e w' => (∃ n : Int, e = .returned (.int .i64 n)) ∧ DoneRel W db z w' := by
  obtain ⟨F, s, hv, hz⟩ := h
  refine (write_live w c.n hc.n.1 hc.n.2 c.bA c.bn c.bc c.b hc.bl (Out.of_bys hc.bb hv.base) hc.bz hv).mono ?_
  rintro e w' ⟨rfl, F', hv', -⟩
  exact ⟨⟨_, rfl⟩, F', _, hv', (PS.written_size _ _ _).trans hz⟩
theorem done_flush (w : World) (h : DoneRel W db z w) :
    Calls Try.prog 18 #[.pointer (some ⟨db, 0, none⟩)] w fun e w' => (∃ n : Int, e = .returned (.int .i64 n)) ∧ DoneRel W db z w' := by
  obtain ⟨F, s, hv, hz⟩ := h
  refine (flush_live w hv).mono ?_
  rintro e w' ⟨rfl, F', hv', -⟩
  exact ⟨⟨_, rfl⟩, F', _, hv', (PS.flushed_size _).trans hz⟩
theorem done_fuse (w : World) (h : DoneRel W db z w) (hc : ClAt w W.heap.size c) :
    Calls Try.prog 22 #[.pointer (some ⟨db, 0, none⟩), .int .i64 c.n] w fun e w' => e = .returned (.tuple #[]) ∧ DoneRel W db z w' := by
  obtain ⟨F, s, hv, hz⟩ := h
  refine (fuse_live w c.n hc.n.1 hc.n.2 hv).mono ?_
  rintro e w' ⟨rfl, F', hv', -⟩
  exact ⟨rfl, F', _, hv', hz⟩
theorem done_restart (w : World) (h : DoneRel W db z w) (hc : ClAt w W.heap.size c) (hs : c.small = true) :
    Calls Try.prog 16 #[.pointer (some ⟨db, 0, none⟩), .slice c.kA c.kn c.kc] w fun e w' => e = .returned (.tuple #[]) ∧ DoneRel W db z w' := by
  obtain ⟨F, s, hv, hz⟩ := h
  have hk : c.bn ≤ 1100 ∧ c.kn ≤ 60 := by unfold Cl.small at hs; exact of_decide_eq_true hs
  refine (restart_live w c.kA c.kn c.kc c.k hc.kl (by omega) (hc.kk.outN hv.base) hv).mono ?_
  rintro e w' ⟨rfl, F', hv', -⟩
  exact ⟨rfl, F', _, hv', hz⟩
theorem done_turn (w : World) (h : DoneRel W db z w) (hc : ClAt w W.heap.size c) :
    Calls Try.prog 25 #[.pointer (some ⟨db, 0, none⟩), .int .i64 c.n, .int .i64 c.at_, .int .u8 c.by_.toNat] w fun e w' => (∃ n : Int, e = .returned (.int .i64 n)) ∧ DoneRel W db z w' := by
  obtain ⟨F, s, hv, hz⟩ := h
  refine (turn_live w c.n hc.n.1 hc.n.2 c.at_ hc.at_.1 hc.at_.2 c.by_ hv).mono ?_
  rintro e w' ⟨rfl, F', hv', -⟩
  exact ⟨⟨_, rfl⟩, F', _, hv', (PS.turned_size _ _ _ _).trans hz⟩

theorem DoneRel.below {w : World} (h : DoneRel W db z w) : Below W.heap.size W w := by
  obtain ⟨F, s, hv, _⟩ := h
  exact hv.below
theorem DoneRel.next {w w' : World} (h : DoneRel W db z w) (hb : Below w.heap.size w w') : DoneRel W db z w' := by
  obtain ⟨F, s, hv, hz⟩ := h
  exact ⟨F, s, hv.next hb, hz⟩
end

theorem box_cells (c : Cl) (wr w3 : World) (b3 : Below (wr.alloc (.cells #[.int .i64 c.kind, .int .i64 c.n, .slice c.bA c.bn c.bc, .slice c.kA c.kn c.kc, .int .i64 c.at_, .int .u8 c.by_.toNat] 35)).heap.size (wr.alloc (.cells #[.int .i64 c.kind, .int .i64 c.n, .slice c.bA c.bn c.bc, .slice c.kA c.kn c.kc, .int .i64 c.at_, .int .u8 c.by_.toNat] 35)) w3) :
    w3.cell? ⟨wr.heap.size, 0, none⟩ = some (.int .i64 c.kind) ∧ w3.cell? ⟨wr.heap.size, 1, none⟩ = some (.int .i64 c.n) ∧ w3.cell? ⟨wr.heap.size, 2, none⟩ = some (.slice c.bA c.bn c.bc) ∧ w3.cell? ⟨wr.heap.size, 3, none⟩ = some (.slice c.kA c.kn c.kc) ∧ w3.cell? ⟨wr.heap.size, 4, none⟩ = some (.int .i64 c.at_) ∧ w3.cell? ⟨wr.heap.size, 5, none⟩ = some (.int .u8 c.by_.toNat) := by
  have h := fun j => b3.cell (p := ⟨wr.heap.size, j, none⟩) (by simp)
  refine ⟨(h 0).trans (by simp), (h 1).trans (by simp), (h 2).trans (by simp), (h 3).trans (by simp), (h 4).trans (by simp), (h 5).trans (by simp)⟩

set_option maxRecDepth 20000 in
set_option maxHeartbeats 3200000 in
theorem done_any {W : World} (w : World) (db z : Nat) (A : Option Addr) (m cp : Nat) (l : List Cl) (hl : l.length = m) (hs : Script W W.heap.size A l) (h : DoneRel W db z w) :
    Calls Try.prog 15 #[.pointer (some ⟨db, 0, none⟩), .slice A m cp] w fun e w' => e = .returned (.tuple #[]) ∧ DoneRel W db z w' := by
  have HS := Lib.hid hs
  have HR := Lib.hid h
  have HL := Lib.hid hl
  clear hs h hl
  go_enter Try.func15, Try.ntmps15
  go_wp2_with fail
  go_loopg [4] m (fun g i wr => ∃ j : Nat, g = m - j ∧ j ≤ m ∧ i = .int .i64 j ∧ DoneRel W db z wr)
  case atStart => exact ⟨0, rfl, Nat.zero_le _, rfl, HR.out⟩
  case round =>
    obtain ⟨j, rfl, hj, rfl, hr⟩ := hrel
    have HRR := Lib.hid hr
    clear hr
    by_cases hlt : j < m
    · by_cases h60 : j < 60
      · obtain ⟨b, off, c, rfl, hbR, -, hca, c0, c1, c2, c3, c4, c5⟩ := (HS.out.below HRR.out.below).at_ (k := j) (by rw [HL.out]; exact hlt)
        have HCA := Lib.hid hca
        clear hca
        go_wp2_with fail
        refine (small_any c _).mono ?_
        rintro e w3 ⟨rfl, b3⟩
        obtain ⟨k0, k1, k2, k3, k4, k5⟩ := box_cells c wr w3 b3
        have HR3 : Hid (DoneRel W db z w3) := HRR.out.next ((below_one _ _).trans (b3.mono (by simp)))
        have HC3 : Hid (ClAt w3 W.heap.size c) := HCA.out.below (((below_one wr (.cells #[.int .i64 c.kind, .int .i64 c.n, .slice c.bA c.bn c.bc, .slice c.kA c.kn c.kc, .int .i64 c.at_, .int .u8 c.by_.toNat] 35)).trans (b3.mono (by simp))).mono HRR.out.below.size)
        clear c0 c1 c2 c3 c4 c5 b3 HCA HRR
        by_cases hsm : c.small = true
        · have HSM := Lib.hid hsm
          rw [hsm]
          clear hsm
          by_cases hk1 : c.kind = 1
          · have hb1 : (c.kind == 1) = true := by rw [hk1]; rfl
            clear hk1
            go_wp2_with fail
            refine (done_write (c := c) w3 HR3.out HC3.out).mono ?_
            rintro e w4 ⟨⟨v, rfl⟩, hr4⟩
            have HR4 := Lib.hid hr4
            clear hr4 HR3 HC3 k0 k1 k2 k3 k4 k5
            go_wp2_with fail
            go_roundg (m - (j + 1))
            case measure => omega
            case rel => exact ⟨j + 1, rfl, by omega, by go_num, HR4.out⟩
          have hb1 : (c.kind == 1) = false := by rw [beq_eq_false_iff_ne]; exact hk1
          clear hk1
          by_cases hk3 : c.kind = 3
          · have hb3 : (c.kind == 3) = true := by rw [hk3]; rfl
            clear hk3
            go_wp2_with fail
            refine (done_flush w3 HR3.out).mono ?_
            rintro e w4 ⟨⟨v, rfl⟩, hr4⟩
            have HR4 := Lib.hid hr4
            clear hr4 HR3 HC3 k0 k1 k2 k3 k4 k5
            go_wp2_with fail
            go_roundg (m - (j + 1))
            case measure => omega
            case rel => exact ⟨j + 1, rfl, by omega, by go_num, HR4.out⟩
          have hb3 : (c.kind == 3) = false := by rw [beq_eq_false_iff_ne]; exact hk3
          clear hk3
          by_cases hk4 : c.kind = 4
          · have hb4 : (c.kind == 4) = true := by rw [hk4]; rfl
            clear hk4
            go_wp2_with fail
            refine (done_fuse (c := c) w3 HR3.out HC3.out).mono ?_
            rintro e w4 ⟨rfl, hr4⟩
            have HR4 := Lib.hid hr4
            clear hr4 HR3 HC3 k0 k1 k2 k3 k4 k5
            go_wp2_with fail
            go_roundg (m - (j + 1))
            case measure => omega
            case rel => exact ⟨j + 1, rfl, by omega, by go_num, HR4.out⟩
          have hb4 : (c.kind == 4) = false := by rw [beq_eq_false_iff_ne]; exact hk4
          clear hk4
          by_cases hk5 : c.kind = 5
          · have hb5 : (c.kind == 5) = true := by rw [hk5]; rfl
            clear hk5
            go_wp2_with fail
            refine (done_restart (c := c) w3 HR3.out HC3.out HSM.out).mono ?_
            rintro e w4 ⟨rfl, hr4⟩
            have HR4 := Lib.hid hr4
            clear hr4 HR3 HC3 k0 k1 k2 k3 k4 k5
            go_wp2_with fail
            go_roundg (m - (j + 1))
            case measure => omega
            case rel => exact ⟨j + 1, rfl, by omega, by go_num, HR4.out⟩
          have hb5 : (c.kind == 5) = false := by rw [beq_eq_false_iff_ne]; exact hk5
          clear hk5
          by_cases hk6 : c.kind = 6
          · have hb6 : (c.kind == 6) = true := by rw [hk6]; rfl
            clear hk6
            go_wp2_with fail
            refine (done_turn (c := c) w3 HR3.out HC3.out).mono ?_
            rintro e w4 ⟨⟨v, rfl⟩, hr4⟩
            have HR4 := Lib.hid hr4
            clear hr4 HR3 HC3 k0 k1 k2 k3 k4 k5
            go_wp2_with fail
            go_roundg (m - (j + 1))
            case measure => omega
            case rel => exact ⟨j + 1, rfl, by omega, by go_num, HR4.out⟩
          have hb6 : (c.kind == 6) = false := by rw [beq_eq_false_iff_ne]; exact hk6
          clear hk6
          go_wp2_with fail
          go_roundg (m - (j + 1))
          case measure => omega
          case rel => exact ⟨j + 1, rfl, by omega, by go_num, HR3.out⟩
        · have hsm' : c.small = false := by simpa using hsm
          rw [hsm']
          clear hsm hsm'
          go_wp2_with fail
          go_roundg (m - (j + 1))
          case measure => omega
          case rel => exact ⟨j + 1, rfl, by omega, by go_num, HR3.out⟩
      · go_wp2_with fail
        go_end0
        exact ⟨rfl, HRR.out⟩
    · go_wp2_with fail
      go_end0
      exact ⟨rfl, HRR.out⟩
end Go.Proofs.Ytillllegbgaalaa
