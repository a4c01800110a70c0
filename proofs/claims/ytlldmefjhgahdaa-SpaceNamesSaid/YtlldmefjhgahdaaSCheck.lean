/-
  What Check comes to.
-/
import Derived.Test.YtlldmefjhgahdaaSOnce
import Derived.Test.YtlldmefjhgahdaaSAges
namespace Go.Proofs.Ytlldmefjhgahdaa
open Go.RowKit

theorem check_one {s : SS} {t : Int} (h : s.hi < 2) : s.check t = 80 := SS.check_bad (fun f => by have := f.lo; omega)
theorem check_two {s : SS} {t : Int} (h : t < s.hi) : s.check t = 80 := SS.check_bad (fun f => by have := f.hi; omega)
theorem check_rest {s : SS} {t : Int} (h1 : ¬ s.hi < 2) (h2 : ¬ t < s.hi) : s.check t = if !(SS.rises s.fr) || !(SS.agesB s.pe) || !(SS.onceB s) then 80 else 0 := by
  rw [SS.check_parts, decide_eq_false h1, decide_eq_false (by omega : ¬ s.hi > t)]
  rfl

set_option maxRecDepth 20000 in
set_option maxHeartbeats 1600000 in
theorem check_any (s : SS) (h t : Int) (A B : Option Addr) (n c m d : Nat) (w : World) (hh : s.hi = h) (hs : Sp w A n c B m d s) (hn : n ≤ 400000) (hm : m ≤ 400000) :
    Calls Try.prog 21 #[.agg #[.int .i64 h, .slice A n c, .slice B m d], .int .i64 t] w fun e w' => e = .returned (.int .i64 (s.check t)) ∧ Below w.heap.size w w' := by
  by_cases h1 : h < 2
  · have HX := Lib.hid (check_one (s := s) (t := t) (by rw [hh]; exact h1))
    clear hs hh
    go_enter Try.func21, Try.ntmps21
    go_wp2_with fail
    go_ret
    exact ⟨ret_int HX.out.symm, below_one _ _⟩
  by_cases h2 : t < h
  · have HX := Lib.hid (check_two (s := s) (t := t) (by rw [hh]; exact h2))
    clear hs hh
    go_enter Try.func21, Try.ntmps21
    go_wp2_with fail
    go_ret
    exact ⟨ret_int HX.out.symm, below_one _ _⟩
  have HX := Lib.hid (check_rest (s := s) (t := t) (by rw [hh]; exact h1) (by rw [hh]; exact h2))
  have HS := Lib.hid (hs.kept (below_one w (.cells #[.int .i64 h, .slice A n c, .slice B m d] 26)))
  have HB := Lib.hid (box_new w (.int .i64 h) (.slice A n c) (.slice B m d))
  have B0 := Lib.hid (below_one w (.cells #[.int .i64 h, .slice A n c, .slice B m d] 26))
  have HH := Lib.hid hh
  clear hs hh
  go_enter Try.func21, Try.ntmps21
  go_wp2_with fail
  generalize w.alloc (.cells #[.int .i64 h, .slice A n c, .slice B m d] 26) = w0 at *
  refine (rises_any A n c s.fr w0 HS.out.fr (by omega)).mono ?_
  rintro e w1 ⟨rfl, b1⟩
  have B1 := Lib.hid b1
  clear b1
  cases hr : SS.rises s.fr with
  | false =>
    have HF : Hid (s.check t = 80) := Lib.hid (by rw [HX.out, hr]; rfl)
    have B2 := Lib.hid (B0.out.trans (B1.out.mono B0.out.size))
    clear hr
    go_wp2_with fail
    go_ret
    exact ⟨ret_int HF.out.symm, B2.out⟩
  | true =>
    have HX1 : Hid (s.check t = if !(SS.agesB s.pe) || !(SS.onceB s) then 80 else 0) := Lib.hid (by rw [HX.out, hr]; rfl)
    obtain ⟨c0, c1, c2⟩ := (HB.out.kept B1.out).cells
    clear hr HX
    go_wp2_with fail
    refine (ages_any B m d s.pe w1 (HS.out.pe.kept B1.out) (by omega)).mono ?_
    rintro e w2 ⟨rfl, b2⟩
    have B2 := Lib.hid (B1.out.trans (b2.mono B1.out.size))
    clear b2 c0 c1 c2 B1
    cases hr : SS.agesB s.pe with
    | false =>
      have HF : Hid (s.check t = 80) := Lib.hid (by rw [HX1.out, hr]; rfl)
      have B3 := Lib.hid (B0.out.trans (B2.out.mono B0.out.size))
      clear hr
      go_wp2_with fail
      go_ret
      exact ⟨ret_int HF.out.symm, B3.out⟩
    | true =>
      have HX2 : Hid (s.check t = if !(SS.onceB s) then 80 else 0) := Lib.hid (by rw [HX1.out, hr]; rfl)
      obtain ⟨c0, c1, c2⟩ := (HB.out.kept B2.out).cells
      clear hr HX1
      go_wp2_with fail
      refine (once_any s h A B n c m d w2 HH.out (HS.out.kept B2.out) hn hm).mono ?_
      rintro e w3 ⟨rfl, b3⟩
      have B3 := Lib.hid (B0.out.trans ((B2.out.trans (b3.mono B2.out.size)).mono B0.out.size))
      clear b3 c0 c1 c2 B2
      cases hr : SS.onceB s with
      | false =>
        have HF : Hid (s.check t = 80) := Lib.hid (by rw [HX2.out, hr]; rfl)
        clear hr
        go_wp2_with fail
        go_ret
        exact ⟨ret_int HF.out.symm, B3.out⟩
      | true =>
        have HF : Hid (s.check t = 0) := Lib.hid (by rw [HX2.out, hr]; rfl)
        clear hr
        go_wp2_with fail
        go_ret
        exact ⟨ret_int HF.out.symm, B3.out⟩
end Go.Proofs.Ytlldmefjhgahdaa
