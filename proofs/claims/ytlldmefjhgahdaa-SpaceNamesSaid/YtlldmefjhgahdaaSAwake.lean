/-
  The calls at the head of all statements (awake) answer as they should; few.
-/
import Derived.Test.YtlldmefjhgahdaaSTake
import Derived.Test.YtlldmefjhgahdaaSGive
import Derived.Test.YtlldmefjhgahdaaSBack
import Derived.Test.YtlldmefjhgahdaaSRec
import Derived.Test.YtlldmefjhgahdaaSDec
import Derived.Test.YtlldmefjhgahdaaSSame
import Derived.Deep.CutBlock
namespace Go.Proofs.Ytlldmefjhgahdaa
open Go.RowKit

def s0 (h : Int) : SS := ⟨h, [], []⟩
theorem s0_sp (w : World) (h : Int) : Sp w none 0 0 none 0 0 (s0 h) := ⟨Ln.none_ w 1, Ln.none_ w 2⟩
def sT : SS := ⟨4, [], [(5, 3)]⟩
theorem aw1 : SS.take (s0 2) 4 = (0, 2, s0 3) := by simp [SS.take, s0]
theorem aw2 : SS.take (s0 4) 4 = (81, 0, SS.none) := by simp [SS.take, s0]
theorem aw3 : SS.give (s0 4) 5 3 = (0, sT) := by
  simp [SS.give, SS.giveBad, SS.may, SS.known, SS.last, s0, sT]
theorem aw4 : SS.reclaim sT 5 (1 : Int).toNat = (⟨4, [3], []⟩, 1) := by
  have h : (1 : Int).toNat = 1 := rfl
  rw [h]
  simp [SS.reclaim, SS.count, SS.insAll, SS.ins, sT]
theorem aw5 : SS.back (s0 3) 2 = (0, ⟨3, [2], []⟩) := by
  simp [SS.back, SS.backBad, SS.may, SS.known, SS.ins, s0]
theorem sT_fine {t : Int} (h : 4 ≤ t) : SS.Fine sT t := by
  refine ⟨by simp [sT], by simpa [sT] using h, by simp [sT], by simp [sT], by simp [sT], ?_, ?_, by simp [sT], by simp [sT]⟩
  · intro x hx
    obtain rfl : x = (5, 3) := by simpa [sT] using hx
    simp
  · intro x hx
    obtain rfl : x = (5, 3) := by simpa [sT] using hx
    simp [sT]
theorem aw6 : SS.decS sT.enc = sT ∧ SS.decE sT.enc = 0 :=
  decS_some (SS.dec_enc (sT_fine (by simp [SS.topN])) (by simp [sT]) (by simp [sT]) (by
    intro x hx
    obtain rfl : x = (5, 3) := by simpa [sT] using hx
    simp [SS.topN]))
theorem aw7 : SS.check sT 4 = 0 := SS.check_ok (sT_fine (Int.le_refl _))
theorem aw8 : SS.check SS.none 4 = 80 := SS.none_bad 4
theorem awF : sT.enc.flatten.length ≤ 100000 ∧ sT.enc.length ≤ 100000 := by
  have h1 : (numB sT.nums).length = 20 := by
    rw [numB_length, SS.nums_len]
    simp [sT]
  refine ⟨?_, ?_⟩
  · rw [SS.enc_flat, h1]
    omega
  · have := SS.cutB_len (numB sT.nums).length (numB sT.nums)
    have h2 : sT.enc.length ≤ (numB sT.nums).length := this
    omega

set_option maxRecDepth 20000 in
set_option maxHeartbeats 3200000 in
theorem awake_any (w : World) : Calls Try.prog 10 #[] w fun e w' => e = .returned (.bool true) ∧ Below w.heap.size w w' := by
  go_enter Try.func10, Try.ntmps10
  go_wp2_with fail
  have k1 := take_any (s0 2) 2 4 none none 0 0 0 0 w rfl (s0_sp w 2) (by decide) (by decide) (by decide) (by decide)
  rw [aw1] at k1
  refine k1.mono ?_
  rintro e w1 ⟨u1, rfl, ⟨A1, n1, c1, B1, m1, d1, z1, h1⟩, b1⟩
  obtain rfl : n1 = 0 := h1.fl.symm
  obtain rfl : m1 = 0 := h1.pl.symm
  obtain rfl : u1 = .agg #[.int .i64 3, .slice A1 0 c1, .slice B1 0 d1] := z1
  have x1 := box_new w1 (.int .i64 3) (.slice A1 0 c1) (.slice B1 0 d1)
  have y1 := below_one w1 (.cells #[.int .i64 3, .slice A1 0 c1, .slice B1 0 d1] 26)
  have H1 := Lib.hid (h1.kept y1)
  have X1 := Lib.hid x1
  have Y1 := Lib.hid (b1.trans (y1.mono b1.size))
  clear k1 h1 b1 x1 y1
  go_upto_region 2 with fail
  generalize w1.alloc (.cells #[.int .i64 3, .slice A1 0 c1, .slice B1 0 d1] 26) = v1 at *
  have Z1 := Y1
  go_wp2_with fail
  have k2 := take_any (s0 4) 4 4 none none 0 0 0 0 v1 rfl (s0_sp v1 4) (by decide) (by decide) (by decide) (by decide)
  rw [aw2] at k2
  refine k2.mono ?_
  rintro e w2 ⟨u2, rfl, ⟨A2, n2, c2, B2, m2, d2, z2, h2⟩, b2⟩
  obtain rfl : n2 = 0 := h2.fl.symm
  obtain rfl : m2 = 0 := h2.pl.symm
  obtain rfl : u2 = .agg #[.int .i64 0, .slice A2 0 c2, .slice B2 0 d2] := z2
  have x2 := box_new w2 (.int .i64 0) (.slice A2 0 c2) (.slice B2 0 d2)
  have y2 := below_one w2 (.cells #[.int .i64 0, .slice A2 0 c2, .slice B2 0 d2] 26)
  have H2 := Lib.hid (h2.kept y2)
  have X2 := Lib.hid x2
  have Y2 := Lib.hid (b2.trans (y2.mono b2.size))
  clear k2 h2 b2 x2 y2
  go_upto_region 3 with fail
  generalize w2.alloc (.cells #[.int .i64 0, .slice A2 0 c2, .slice B2 0 d2] 26) = v2 at *
  have Z2 := Lib.hid (Z1.out.trans (Y2.out.mono Z1.out.size))
  have H1' := Lib.hid (H1.out.kept Y2.out)
  have X1' := Lib.hid (X1.out.kept Y2.out)
  clear H1 X1
  have H1 := H1'
  have X1 := X1'
  clear H1' X1'
  clear H2 X2
  go_wp2_with fail
  have k3 := give_any (s0 4) 4 5 3 none none 0 0 0 0 v2 rfl (s0_sp v2 4) (by decide) (by decide)
  rw [aw3] at k3
  refine k3.mono ?_
  rintro e w3 ⟨u3, rfl, ⟨A3, n3, c3, B3, m3, d3, z3, h3⟩, b3⟩
  obtain rfl : n3 = 0 := h3.fl.symm
  obtain rfl : m3 = 1 := h3.pl.symm
  obtain rfl : u3 = .agg #[.int .i64 4, .slice A3 0 c3, .slice B3 1 d3] := z3
  have x3 := box_new w3 (.int .i64 4) (.slice A3 0 c3) (.slice B3 1 d3)
  have y3 := below_one w3 (.cells #[.int .i64 4, .slice A3 0 c3, .slice B3 1 d3] 26)
  have H3 := Lib.hid (h3.kept y3)
  have X3 := Lib.hid x3
  have Y3 := Lib.hid (b3.trans (y3.mono b3.size))
  clear k3 h3 b3 x3 y3
  go_upto_region 4 with fail
  generalize w3.alloc (.cells #[.int .i64 4, .slice A3 0 c3, .slice B3 1 d3] 26) = v3 at *
  have Z3 := Lib.hid (Z2.out.trans (Y3.out.mono Z2.out.size))
  have H1' := Lib.hid (H1.out.kept Y3.out)
  have X1' := Lib.hid (X1.out.kept Y3.out)
  clear H1 X1
  have H1 := H1'
  have X1 := X1'
  clear H1' X1'
  obtain ⟨a0, a1, a2⟩ := X3.out.cells
  go_wp2_with fail
  clear a0 a1 a2
  have k4 := reclaim_any sT 4 5 1 A3 B3 0 c3 1 d3 v3 rfl H3.out (by decide) (by decide)
  rw [aw4] at k4
  refine k4.mono ?_
  rintro e w4 ⟨u4, rfl, ⟨A4, n4, c4, B4, m4, d4, z4, h4⟩, b4⟩
  obtain rfl : n4 = 1 := h4.fl.symm
  obtain rfl : m4 = 0 := h4.pl.symm
  obtain rfl : u4 = .agg #[.int .i64 4, .slice A4 1 c4, .slice B4 0 d4] := z4
  have x4 := box_new w4 (.int .i64 4) (.slice A4 1 c4) (.slice B4 0 d4)
  have y4 := below_one w4 (.cells #[.int .i64 4, .slice A4 1 c4, .slice B4 0 d4] 26)
  have H4 := Lib.hid (h4.kept y4)
  have X4 := Lib.hid x4
  have Y4 := Lib.hid (b4.trans (y4.mono b4.size))
  clear k4 h4 b4 x4 y4
  go_upto_region 5 with fail
  generalize w4.alloc (.cells #[.int .i64 4, .slice A4 1 c4, .slice B4 0 d4] 26) = v4 at *
  have Z4 := Lib.hid (Z3.out.trans (Y4.out.mono Z3.out.size))
  have H1' := Lib.hid (H1.out.kept Y4.out)
  have X1' := Lib.hid (X1.out.kept Y4.out)
  clear H1 X1
  have H1 := H1'
  have X1 := X1'
  clear H1' X1'
  have H3' := Lib.hid (H3.out.kept Y4.out)
  have X3' := Lib.hid (X3.out.kept Y4.out)
  clear H3 X3
  have H3 := H3'
  have X3 := X3'
  clear H3' X3'
  obtain ⟨a0, a1, a2⟩ := X1.out.cells
  go_wp2_with fail
  clear a0 a1 a2
  have k5 := back_any (s0 3) 3 2 A1 B1 0 c1 0 d1 v4 rfl H1.out (by decide) (by decide)
  rw [aw5] at k5
  refine k5.mono ?_
  rintro e w5 ⟨u5, rfl, ⟨A5, n5, c5, B5, m5, d5, z5, h5⟩, b5⟩
  obtain rfl : n5 = 1 := h5.fl.symm
  obtain rfl : m5 = 0 := h5.pl.symm
  obtain rfl : u5 = .agg #[.int .i64 3, .slice A5 1 c5, .slice B5 0 d5] := z5
  have x5 := box_new w5 (.int .i64 3) (.slice A5 1 c5) (.slice B5 0 d5)
  have y5 := below_one w5 (.cells #[.int .i64 3, .slice A5 1 c5, .slice B5 0 d5] 26)
  have H5 := Lib.hid (h5.kept y5)
  have X5 := Lib.hid x5
  have Y5 := Lib.hid (b5.trans (y5.mono b5.size))
  clear k5 h5 b5 x5 y5
  go_upto_region 6 with fail
  generalize w5.alloc (.cells #[.int .i64 3, .slice A5 1 c5, .slice B5 0 d5] 26) = v5 at *
  have Z5 := Lib.hid (Z4.out.trans (Y5.out.mono Z4.out.size))
  have H1' := Lib.hid (H1.out.kept Y5.out)
  have X1' := Lib.hid (X1.out.kept Y5.out)
  clear H1 X1
  have H1 := H1'
  have X1 := X1'
  clear H1' X1'
  have H3' := Lib.hid (H3.out.kept Y5.out)
  have X3' := Lib.hid (X3.out.kept Y5.out)
  clear H3 X3
  have H3 := H3'
  have X3 := X3'
  clear H3' X3'
  have H4' := Lib.hid (H4.out.kept Y5.out)
  have X4' := Lib.hid (X4.out.kept Y5.out)
  clear H4 X4
  have H4 := H4'
  have X4 := X4'
  clear H4' X4'
  obtain ⟨a0, a1, a2⟩ := X3.out.cells
  go_wp2_with fail
  clear a0 a1 a2
  refine (encode_any sT 4 A3 B3 0 c3 1 d3 v5 rfl H3.out (by decide) (by decide)).mono ?_
  rintro e w9 ⟨A9, c9, rfl, p9, b9⟩
  obtain ⟨M, hM⟩ : ∃ M, sT.enc.length = M := ⟨_, rfl⟩
  rw [hM]
  have hML : M ≤ 100000 := by rw [← hM]; exact awF.2
  have HM := Lib.hid hM
  have P9 := Lib.hid p9
  have B9 := Lib.hid b9
  clear hM p9 b9
  go_wp2_with fail
  have k6 := decode_any A9 M c9 sT.enc w9 P9.out HM.out hML awF.1
  rw [aw6.1, aw6.2] at k6
  refine k6.mono ?_
  rintro e w6 ⟨u6, rfl, ⟨A6, n6, c6, B6, m6, d6, z6, h6⟩, b6⟩
  obtain rfl : n6 = 0 := h6.fl.symm
  obtain rfl : m6 = 1 := h6.pl.symm
  obtain rfl : u6 = .agg #[.int .i64 4, .slice A6 0 c6, .slice B6 1 d6] := z6
  have x6 := box_new w6 (.int .i64 4) (.slice A6 0 c6) (.slice B6 1 d6)
  have y6 := below_one w6 (.cells #[.int .i64 4, .slice A6 0 c6, .slice B6 1 d6] 26)
  have H6 := Lib.hid (h6.kept y6)
  have X6 := Lib.hid x6
  have Y6 := Lib.hid (b6.trans (y6.mono b6.size))
  clear k6 h6 b6 x6 y6
  go_upto_region 7 with fail
  generalize w6.alloc (.cells #[.int .i64 4, .slice A6 0 c6, .slice B6 1 d6] 26) = v6 at *
  have U6 := Lib.hid (B9.out.trans (Y6.out.mono B9.out.size))
  have Z6 := Lib.hid (Z5.out.trans (U6.out.mono Z5.out.size))
  have H1' := Lib.hid (H1.out.kept U6.out)
  have X1' := Lib.hid (X1.out.kept U6.out)
  clear H1 X1
  have H1 := H1'
  have X1 := X1'
  clear H1' X1'
  have H3' := Lib.hid (H3.out.kept U6.out)
  have X3' := Lib.hid (X3.out.kept U6.out)
  clear H3 X3
  have H3 := H3'
  have X3 := X3'
  clear H3' X3'
  have H4' := Lib.hid (H4.out.kept U6.out)
  have X4' := Lib.hid (X4.out.kept U6.out)
  clear H4 X4
  have H4 := H4'
  have X4 := X4'
  clear H4' X4'
  have H5' := Lib.hid (H5.out.kept U6.out)
  have X5' := Lib.hid (X5.out.kept U6.out)
  clear H5 X5
  have H5 := H5'
  have X5 := X5'
  clear H5' X5'
  obtain ⟨a0, a1, a2⟩ := X3.out.cells
  obtain ⟨f0, f1, f2⟩ := X4.out.cells
  obtain ⟨g0, g1, g2⟩ := X5.out.cells
  obtain ⟨h0, h1, h2⟩ := X6.out.cells
  go_wp2_with fail
  refine (same_any sT sT 4 4 A6 B6 A3 B3 0 c6 1 d6 0 c3 1 d3 v6 rfl rfl H6.out H3.out (by decide) (by decide)).mono ?_
  rintro e w7 ⟨rfl, b7⟩
  rw [sameS_refl]
  have B7 := Lib.hid b7
  have Z7 := Lib.hid (Z6.out.trans (b7.mono Z6.out.size))
  clear a0 a1 a2 f0 f1 f2 g0 g1 g2 h0 h1 h2 b7
  obtain ⟨a0, a1, a2⟩ := (X3.out.kept B7.out).cells
  obtain ⟨f0, f1, f2⟩ := (X1.out.kept B7.out).cells
  go_wp2_with fail
  have k8 := check_any sT 4 4 A3 B3 0 c3 1 d3 w7 rfl (H3.out.kept B7.out) (by decide) (by decide)
  rw [aw7] at k8
  refine k8.mono ?_
  rintro e w8 ⟨rfl, b8⟩
  have Z8 := Lib.hid (Z7.out.trans (b8.mono Z7.out.size))
  clear k8 a0 a1 a2 f0 f1 f2 b8
  go_wp2_with fail
  have k10 := check_any SS.none 0 4 none none 0 0 0 0 w8 rfl (Sp.zero w8) (by decide) (by decide)
  rw [aw8] at k10
  refine k10.mono ?_
  rintro e w10 ⟨rfl, b10⟩
  have Z10 := Lib.hid (Z8.out.trans (b10.mono Z8.out.size))
  clear k10 b10
  go_wp2_with fail
  go_ret
  exact ⟨rfl, Z10.out⟩

def fewB (n m : Nat) : Bool := decide (n ≤ 300 ∧ m ≤ 300)

set_option maxRecDepth 20000 in
set_option maxHeartbeats 400000 in
theorem few_any (h : Int) (A B : Option Addr) (n c m d : Nat) (w : World) :
    Calls Try.prog 11 #[.agg #[.int .i64 h, .slice A n c, .slice B m d]] w fun e w' => e = .returned (.bool (fewB n m)) ∧ Below w.heap.size w w' := by
  by_cases h1 : n ≤ 300
  · by_cases h2 : m ≤ 300
    · have HD := Lib.hid (show fewB n m = true from decide_eq_true ⟨h1, h2⟩)
      go_enter Try.func11, Try.ntmps11
      go_wp2_with fail
      go_ret
      exact ⟨ret_bool ((decide_eq_true (by omega)).trans HD.out.symm), below_one _ _⟩
    · have HD := Lib.hid (show fewB n m = false from decide_eq_false (fun e => h2 e.2))
      go_enter Try.func11, Try.ntmps11
      go_wp2_with fail
      go_ret
      exact ⟨ret_bool ((decide_eq_false (by omega)).trans HD.out.symm), below_one _ _⟩
  · have HD := Lib.hid (show fewB n m = false from decide_eq_false (fun e => h1 e.1))
    go_enter Try.func11, Try.ntmps11
    go_wp2_with fail
    go_ret
    exact ⟨ret_bool HD.out.symm, below_one _ _⟩
end Go.Proofs.Ytlldmefjhgahdaa
