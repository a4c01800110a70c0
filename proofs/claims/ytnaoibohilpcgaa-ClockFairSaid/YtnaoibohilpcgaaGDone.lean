/-
  What the laws' own done comes to (layer 6).
-/
import Derived.Test.YtnaoibohilpcgaaGCall
import Derived.Deep.LoopGhost
namespace Go.Proofs.Ytnaoibohilpcgaa
open Go.RowKit

/-- Some clock of that size is there, no place of which is pinned oftener than j times. -/
def GDone (W : World) (db pb z j : Nat) (w : World) : Prop := ∃ s, CLive W w db pb s ∧ s.Max j ∧ s.n = z

section
variable {W : World} {db pb z j : Nat}
theorem gdone_call (w : World) (i : Int) (hj : j ≤ 1000) (h : GDone W db pb z j w) :
    Calls Try.prog 20 #[.pointer (some ⟨db, 0, none⟩), .int .i64 i] w (fun e w' => (∃ n : Int, e = .returned (.int .i64 n)) ∧ GDone W db pb z (j + 1) w') ∧
    Calls Try.prog 21 #[.pointer (some ⟨db, 0, none⟩), .int .i64 i] w (fun e w' => (∃ n : Int, e = .returned (.int .i64 n)) ∧ GDone W db pb z (j + 1) w') ∧
    Calls Try.prog 22 #[.pointer (some ⟨db, 0, none⟩), .int .i64 i] w (fun e w' => (∃ n : Int, e = .returned (.int .i64 n)) ∧ GDone W db pb z (j + 1) w') ∧
    Calls Try.prog 19 #[.pointer (some ⟨db, 0, none⟩)] w (fun e w' => (∃ n m : Int, e = .returned (.tuple #[.int .i64 n, .int .i64 m])) ∧ GDone W db pb z (j + 1) w') := by
  obtain ⟨s, hs, hm, hz⟩ := h
  refine ⟨(use_live w i hs).mono ?_, (pin_live w i (hm.up (by omega)) hs).mono ?_, (unpin_live w i hs).mono ?_, (victim_live w hs).mono ?_⟩
  · rintro e w' ⟨rfl, h'⟩
    exact ⟨⟨_, rfl⟩, _, h', (hm.use i).up (by omega), (CS.useS_n s i).trans hz⟩
  · rintro e w' ⟨rfl, h'⟩
    exact ⟨⟨_, rfl⟩, _, h', hm.pin i, (CS.pinS_n s i).trans hz⟩
  · rintro e w' ⟨rfl, h'⟩
    exact ⟨⟨_, rfl⟩, _, h', (hm.un i).up (by omega), (CS.unS_n s i).trans hz⟩
  · rintro e w' ⟨rfl, h'⟩
    exact ⟨⟨_, _, rfl⟩, _, h', (hm.vic hs.ck.hn).up (by omega), (CS.vicS_n hs.ck.hn).trans hz⟩

theorem GDone.below {w : World} (h : GDone W db pb z j w) : Below W.heap.size W w := by
  obtain ⟨s, hs, _⟩ := h
  exact hs.below
theorem GDone.up {w : World} (h : GDone W db pb z j w) : GDone W db pb z (j + 1) w := by
  obtain ⟨s, hs, hm, hz⟩ := h
  exact ⟨s, hs, hm.up (by omega), hz⟩
theorem GDone.le {w : World} {i : Nat} (h : GDone W db pb z j w) (hi : j ≤ i) : GDone W db pb z i w := by
  obtain ⟨s, hs, hm, hz⟩ := h
  exact ⟨s, hs, hm.up hi, hz⟩
end

set_option maxRecDepth 20000 in
set_option maxHeartbeats 3200000 in
theorem gdone_any {W : World} (w : World) (db pb z : Nat) (A : Option Addr) (m cp : Nat) (l : List (Int × Int)) (hl : l.length = m) (hs : GScript W W.heap.size A l) (h : GDone W db pb z 0 w) :
    Calls Try.prog 18 #[.pointer (some ⟨db, 0, none⟩), .slice A m cp] w fun e w' => e = .returned (.tuple #[]) ∧ GDone W db pb z 100 w' := by
  have HS := Lib.hid hs
  have HR := Lib.hid h
  have HL := Lib.hid hl
  clear hs h hl
  go_enter Try.func18, Try.ntmps18
  go_wp2_with fail
  go_loopg [4] m (fun g i wr => ∃ j : Nat, g = m - j ∧ j ≤ m ∧ j ≤ 100 ∧ i = .int .i64 j ∧ GDone W db pb z j wr)
  case atStart => exact ⟨0, rfl, Nat.zero_le _, Nat.zero_le _, rfl, HR.out⟩
  case round =>
    obtain ⟨j, rfl, hj, hj2, rfl, hr⟩ := hrel
    have HRR := Lib.hid hr
    clear hr
    by_cases hlt : j < m
    · by_cases h60 : j < 100
      · obtain ⟨b, off, x, y, rfl, hbR, -, c0, c1⟩ := (HS.out.below HRR.out.below).at_ (k := j) (by rw [HL.out]; exact hlt)
        by_cases hk1 : x = 1
        · have hb1 : (x == 1) = true := by rw [hk1]; rfl
          clear hk1
          go_wp2_with fail
          refine (gdone_call wr y (by omega) HRR.out).1.mono ?_
          rintro e w4 ⟨⟨v, rfl⟩, hr4⟩
          have HR4 := Lib.hid hr4
          clear hr4 c0 c1
          go_wp2_with fail
          go_roundg (m - (j + 1))
          case measure => omega
          case rel => exact ⟨j + 1, rfl, by omega, by omega, by go_num, HR4.out⟩
        have hb1 : (x == 1) = false := by rw [beq_eq_false_iff_ne]; exact hk1
        clear hk1
        by_cases hk2 : x = 2
        · have hb2 : (x == 2) = true := by rw [hk2]; rfl
          clear hk2
          go_wp2_with fail
          refine (gdone_call wr y (by omega) HRR.out).2.1.mono ?_
          rintro e w4 ⟨⟨v, rfl⟩, hr4⟩
          have HR4 := Lib.hid hr4
          clear hr4 c0 c1
          go_wp2_with fail
          go_roundg (m - (j + 1))
          case measure => omega
          case rel => exact ⟨j + 1, rfl, by omega, by omega, by go_num, HR4.out⟩
        have hb2 : (x == 2) = false := by rw [beq_eq_false_iff_ne]; exact hk2
        clear hk2
        by_cases hk3 : x = 3
        · have hb3 : (x == 3) = true := by rw [hk3]; rfl
          clear hk3
          go_wp2_with fail
          refine (gdone_call wr y (by omega) HRR.out).2.2.1.mono ?_
          rintro e w4 ⟨⟨v, rfl⟩, hr4⟩
          have HR4 := Lib.hid hr4
          clear hr4 c0 c1
          go_wp2_with fail
          go_roundg (m - (j + 1))
          case measure => omega
          case rel => exact ⟨j + 1, rfl, by omega, by omega, by go_num, HR4.out⟩
        have hb3 : (x == 3) = false := by rw [beq_eq_false_iff_ne]; exact hk3
        clear hk3
        by_cases hk4 : x = 4
        · have hb4 : (x == 4) = true := by rw [hk4]; rfl
          clear hk4
          go_wp2_with fail
          refine (gdone_call wr 0 (by omega) HRR.out).2.2.2.mono ?_
          rintro e w4 ⟨⟨v, u, rfl⟩, hr4⟩
          have HR4 := Lib.hid hr4
          clear hr4 c0 c1
          go_wp2_with fail
          go_roundg (m - (j + 1))
          case measure => omega
          case rel => exact ⟨j + 1, rfl, by omega, by omega, by go_num, HR4.out⟩
        have hb4 : (x == 4) = false := by rw [beq_eq_false_iff_ne]; exact hk4
        clear hk4
        go_wp2_with fail
        go_roundg (m - (j + 1))
        case measure => omega
        case rel => exact ⟨j + 1, rfl, by omega, by omega, by go_num, HRR.out.up⟩
      · go_wp2_with fail
        go_end0
        exact ⟨rfl, HRR.out.le hj2⟩
    · go_wp2_with fail
      go_end0
      exact ⟨rfl, HRR.out.le hj2⟩
end Go.Proofs.Ytnaoibohilpcgaa
