/-
  SpaceTells answers true, for every pages' lists, bound, epoch, page and budget: whether lists may be, which page is used next, and what becomes of the lists, are the document's own answers. Conditions: none.
-/
import Derived.Test.YtlldmefjhgahdaaRows
import Derived.Test.YtlldmefjhgahdaaZT3
import Derived.Test.YtlldmefjhgahdaaZT4
import Derived.Deep.CutBlock
namespace Go.Proofs.Ytlldmefjhgahdaa.spaceTells
open Go.ChangeShapes Go.WideShapes Go.ChangeAt Go.RowKit

theorem take_len (s : SS) (t : Int) : (s.take t).2.2.fr.length ≤ s.fr.length ∧ (s.take t).2.2.pe.length ≤ s.pe.length := by
  unfold SS.take
  cases h : s.fr with
  | nil =>
    simp only
    split
    · exact ⟨by simp, Nat.le_refl _⟩
    · exact ⟨Nat.zero_le _, Nat.zero_le _⟩
  | cons q l => exact ⟨by simp, Nat.le_refl _⟩
theorem give_len (s : SS) (e p : Int) : (s.give e p).2.fr.length ≤ s.fr.length ∧ (s.give e p).2.pe.length ≤ s.pe.length + 1 := by
  unfold SS.give
  split
  · exact ⟨Nat.zero_le _, Nat.zero_le _⟩
  · exact ⟨Nat.le_refl _, by simp⟩
theorem back_len (s : SS) (p : Int) : (s.back p).2.fr.length ≤ s.fr.length + 1 ∧ (s.back p).2.pe.length ≤ s.pe.length := by
  unfold SS.back
  split
  · exact ⟨Nat.zero_le _, Nat.zero_le _⟩
  · refine ⟨?_, Nat.le_refl _⟩
    show (SS.ins p s.fr).length ≤ _
    rw [SS.ins_length]
    exact Nat.le_refl _

/-- Pages' lists, in a variable's block. -/
structure Kp (w : World) (g : Nat) (s : SS) (A : Option Addr) (n c : Nat) (B : Option Addr) (m d : Nat) : Prop where
  box : Box w g (.int .i64 s.hi) (.slice A n c) (.slice B m d)
  sp : Sp w A n c B m d s
theorem Kp.kept {w w' : World} {g : Nat} {s : SS} {A B : Option Addr} {n c m d : Nat} (h : Kp w g s A n c B m d) (b : Below w.heap.size w w') : Kp w' g s A n c B m d := ⟨h.box.kept b, h.sp.kept b⟩
theorem kp_new {w w' : World} {A B : Option Addr} {n c m d : Nat} {s : SS} (b : Below w.heap.size w w') (hs : Sp w' A n c B m d s) :
    Below w.heap.size w (w'.alloc (.cells #[.int .i64 s.hi, .slice A n c, .slice B m d] 26)) ∧ Kp (w'.alloc (.cells #[.int .i64 s.hi, .slice A n c, .slice B m d] 26)) w'.heap.size s A n c B m d :=
  ⟨b.alloc b.size _, box_new w' _ _ _, hs.kept (below_one w' _)⟩

set_option maxRecDepth 20000 in
set_option maxHeartbeats 6400000 in
theorem walk {W : World} (s : SS) (A : Option Addr) (n c : Nat) (B : Option Addr) (m d : Nat) (hs : Sp W A n c B m d s) (h64 : In64 s.hi) (t : Int) (_ : -9223372036854775808 ≤ t) (ht : t ≤ 9223372036854775807) (e : Int) (_ : -9223372036854775808 ≤ e) (_ : e ≤ 9223372036854775807) (p : Int) (_ : -9223372036854775808 ≤ p) (_ : p ≤ 9223372036854775807) (bud : Int) (_ : -9223372036854775808 ≤ bud) (_ : bud ≤ 9223372036854775807) :
    Calls Try.prog 4 #[.agg #[.int .i64 s.hi, .slice A n c, .slice B m d], .int .i64 t, .int .i64 e, .int .i64 p, .int .i64 bud] W fun e W' => e = .returned (.bool true) ∧ Below W.heap.size W W' := by
  have h1 := h64.1
  have B0 := Lib.hid (below_one W (.cells #[.int .i64 s.hi, .slice A n c, .slice B m d] 26))
  have HX : Hid (Kp (W.alloc (.cells #[.int .i64 s.hi, .slice A n c, .slice B m d] 26)) W.heap.size s A n c B m d) := Lib.hid ⟨box_new W _ _ _, hs.kept B0.out⟩
  have HFL := Lib.hid hs.fl
  have HPL := Lib.hid hs.pl
  clear hs h64
  go_enter Try.func4, Try.ntmps4
  go_upto_region 1 with fail
  generalize W.alloc (.cells #[.int .i64 s.hi, .slice A n c, .slice B m d] 26) = w0 at *
  go_wp2_with fail
  refine (awake_any w0).mono ?_
  rintro e' w1 ⟨rfl, b1⟩
  have B1 := Lib.hid b1
  obtain ⟨a0, a1, a2⟩ := (HX.out.kept b1).box.cells
  clear b1
  go_wp2_with fail
  refine (few_any s.hi A B n c m d w1).mono ?_
  rintro e' w2 ⟨rfl, b2⟩
  have B2 := Lib.hid (B1.out.trans (b2.mono B1.out.size))
  have BB := Lib.hid (B0.out.trans (B2.out.mono B0.out.size))
  clear a0 a1 a2 b2
  cases hfew : fewB n m with
  | false =>
    clear hfew
    go_wp2_with fail
    go_ret
    exact ⟨rfl, BB.out⟩
  | true =>
    obtain ⟨hn3, hm3⟩ := few_le hfew
    clear hfew
    have X2 := Lib.hid (HX.out.kept B2.out)
    have BB2 := BB
    clear HX B0 B1 B2 BB
    have kT := fun w hS => take_any s s.hi t A B n c m d w rfl hS (by omega) (by omega) h1 ht
    have rT := fun w hS => refTake_any s t A B n c m d w hS (by omega) (by omega) h1 ht
    have kG := fun w hS => give_any s s.hi e p A B n c m d w rfl hS (by omega) (by omega)
    have rG := fun w hS => refGive_any s e p A B n c m d w hS (by omega) (by omega)
    have kB := fun w hS => back_any s s.hi p A B n c m d w rfl hS (by omega) (by omega)
    have rB := fun w hS => refBack_any s p A B n c m d w hS (by omega) (by omega)
    have kR := fun w hS => reclaim_any s s.hi e bud A B n c m d w rfl hS (by omega) (by omega)
    have rR := fun w hS => refReclaim_any s e bud A B n c m d w hS (by omega) (by omega)
    have lT := take_len s t
    have lG := give_len s e p
    have lB := back_len s p
    have lR := rec_len s e bud.toNat
    obtain ⟨a, ha⟩ : ∃ a, s.take t = a := ⟨_, rfl⟩
    obtain ⟨g, hg⟩ : ∃ g, s.give e p = g := ⟨_, rfl⟩
    obtain ⟨x, hx⟩ : ∃ x, s.back p = x := ⟨_, rfl⟩
    obtain ⟨u, hu⟩ : ∃ u, s.reclaim e bud.toNat = u := ⟨_, rfl⟩
    simp only [ha] at kT rT lT
    simp only [hg] at kG rG lG
    simp only [hx] at kB rB lB
    simp only [hu] at kR rR lR
    clear ha hg hx hu
    rw [HFL.out, HPL.out] at lT lG lB lR
    have LT := Lib.hid (show a.2.2.fr.length ≤ 400000 ∧ a.2.2.pe.length ≤ 400000 from ⟨by omega, by omega⟩)
    have LG := Lib.hid (show g.2.fr.length ≤ 400000 ∧ g.2.pe.length ≤ 400000 from ⟨by omega, by omega⟩)
    have LB := Lib.hid (show x.2.fr.length ≤ 400000 ∧ x.2.pe.length ≤ 400000 from ⟨by omega, by omega⟩)
    have LR := Lib.hid (show u.1.fr.length ≤ 400000 ∧ u.1.pe.length ≤ 400000 from ⟨by omega, by omega⟩)
    clear lT lG lB lR
    have KT := Lib.hid kT
    have RT := Lib.hid rT
    have KG := Lib.hid kG
    have RG := Lib.hid rG
    have KB := Lib.hid kB
    have RB := Lib.hid rB
    have KR := Lib.hid kR
    have RR := Lib.hid rR
    clear kT rT kG rG kB rB kR rR
    obtain ⟨a0, a1, a2⟩ := X2.out.box.cells
    go_wp2_with fail
    clear a0 a1 a2
    refine (KT.out w2 X2.out.sp).mono ?_
    rintro e' w3 ⟨_, rfl, ⟨A3, n3, c3, B3, m3, d3, rfl, s3⟩, b3⟩
    obtain ⟨z1, z2⟩ := kp_new b3 s3
    have Z := Lib.hid z1
    have P3_3 := Lib.hid z2
    clear s3 b3 z1 z2 KT
    go_upto_region 5 with fail
    generalize w3.alloc (.cells #[.int .i64 a.2.2.hi, .slice A3 n3 c3, .slice B3 m3 d3] 26) = v3 at *
    have X3 := Lib.hid (X2.out.kept Z.out)
    have BB3 := Lib.hid (BB2.out.trans (Z.out.mono BB2.out.size))
    clear X2 BB2 Z
    obtain ⟨a0, a1, a2⟩ := X3.out.box.cells
    go_wp2_with fail
    clear a0 a1 a2
    refine (RT.out v3 X3.out.sp).mono ?_
    rintro e' w4 ⟨_, rfl, ⟨A4, n4, c4, B4, m4, d4, rfl, s4⟩, b4⟩
    obtain ⟨z1, z2⟩ := kp_new b4 s4
    have Z := Lib.hid z1
    have P4_4 := Lib.hid z2
    clear s4 b4 z1 z2 RT
    go_upto_region 6 with fail
    generalize w4.alloc (.cells #[.int .i64 a.2.2.hi, .slice A4 n4 c4, .slice B4 m4 d4] 26) = v4 at *
    have X4 := Lib.hid (X3.out.kept Z.out)
    have BB4 := Lib.hid (BB3.out.trans (Z.out.mono BB3.out.size))
    have P3_4 := Lib.hid (P3_3.out.kept Z.out)
    clear X3 BB3 Z P3_3
    obtain ⟨a0, a1, a2⟩ := X4.out.box.cells
    go_wp2_with fail
    clear a0 a1 a2
    refine (KG.out v4 X4.out.sp).mono ?_
    rintro e' w5 ⟨_, rfl, ⟨A5, n5, c5, B5, m5, d5, rfl, s5⟩, b5⟩
    obtain ⟨z1, z2⟩ := kp_new b5 s5
    have Z := Lib.hid z1
    have P5_5 := Lib.hid z2
    clear s5 b5 z1 z2 KG
    go_upto_region 7 with fail
    generalize w5.alloc (.cells #[.int .i64 g.2.hi, .slice A5 n5 c5, .slice B5 m5 d5] 26) = v5 at *
    have X5 := Lib.hid (X4.out.kept Z.out)
    have BB5 := Lib.hid (BB4.out.trans (Z.out.mono BB4.out.size))
    have P3_5 := Lib.hid (P3_4.out.kept Z.out)
    have P4_5 := Lib.hid (P4_4.out.kept Z.out)
    clear X4 BB4 Z P3_4 P4_4
    obtain ⟨a0, a1, a2⟩ := X5.out.box.cells
    go_wp2_with fail
    clear a0 a1 a2
    refine (RG.out v5 X5.out.sp).mono ?_
    rintro e' w6 ⟨_, rfl, ⟨A6, n6, c6, B6, m6, d6, rfl, s6⟩, b6⟩
    obtain ⟨z1, z2⟩ := kp_new b6 s6
    have Z := Lib.hid z1
    have P6_6 := Lib.hid z2
    clear s6 b6 z1 z2 RG
    go_upto_region 8 with fail
    generalize w6.alloc (.cells #[.int .i64 g.2.hi, .slice A6 n6 c6, .slice B6 m6 d6] 26) = v6 at *
    have X6 := Lib.hid (X5.out.kept Z.out)
    have BB6 := Lib.hid (BB5.out.trans (Z.out.mono BB5.out.size))
    have P3_6 := Lib.hid (P3_5.out.kept Z.out)
    have P4_6 := Lib.hid (P4_5.out.kept Z.out)
    have P5_6 := Lib.hid (P5_5.out.kept Z.out)
    clear X5 BB5 Z P3_5 P4_5 P5_5
    obtain ⟨a0, a1, a2⟩ := X6.out.box.cells
    go_wp2_with fail
    clear a0 a1 a2
    refine (KB.out v6 X6.out.sp).mono ?_
    rintro e' w7 ⟨_, rfl, ⟨A7, n7, c7, B7, m7, d7, rfl, s7⟩, b7⟩
    obtain ⟨z1, z2⟩ := kp_new b7 s7
    have Z := Lib.hid z1
    have P7_7 := Lib.hid z2
    clear s7 b7 z1 z2 KB
    go_upto_region 9 with fail
    generalize w7.alloc (.cells #[.int .i64 x.2.hi, .slice A7 n7 c7, .slice B7 m7 d7] 26) = v7 at *
    have X7 := Lib.hid (X6.out.kept Z.out)
    have BB7 := Lib.hid (BB6.out.trans (Z.out.mono BB6.out.size))
    have P3_7 := Lib.hid (P3_6.out.kept Z.out)
    have P4_7 := Lib.hid (P4_6.out.kept Z.out)
    have P5_7 := Lib.hid (P5_6.out.kept Z.out)
    have P6_7 := Lib.hid (P6_6.out.kept Z.out)
    clear X6 BB6 Z P3_6 P4_6 P5_6 P6_6
    obtain ⟨a0, a1, a2⟩ := X7.out.box.cells
    go_wp2_with fail
    clear a0 a1 a2
    refine (RB.out v7 X7.out.sp).mono ?_
    rintro e' w8 ⟨_, rfl, ⟨A8, n8, c8, B8, m8, d8, rfl, s8⟩, b8⟩
    obtain ⟨z1, z2⟩ := kp_new b8 s8
    have Z := Lib.hid z1
    have P8_8 := Lib.hid z2
    clear s8 b8 z1 z2 RB
    go_upto_region 10 with fail
    generalize w8.alloc (.cells #[.int .i64 x.2.hi, .slice A8 n8 c8, .slice B8 m8 d8] 26) = v8 at *
    have X8 := Lib.hid (X7.out.kept Z.out)
    have BB8 := Lib.hid (BB7.out.trans (Z.out.mono BB7.out.size))
    have P3_8 := Lib.hid (P3_7.out.kept Z.out)
    have P4_8 := Lib.hid (P4_7.out.kept Z.out)
    have P5_8 := Lib.hid (P5_7.out.kept Z.out)
    have P6_8 := Lib.hid (P6_7.out.kept Z.out)
    have P7_8 := Lib.hid (P7_7.out.kept Z.out)
    clear X7 BB7 Z P3_7 P4_7 P5_7 P6_7 P7_7
    obtain ⟨a0, a1, a2⟩ := X8.out.box.cells
    go_wp2_with fail
    clear a0 a1 a2
    refine (KR.out v8 X8.out.sp).mono ?_
    rintro e' w9 ⟨_, rfl, ⟨A9, n9, c9, B9, m9, d9, rfl, s9⟩, b9⟩
    obtain ⟨z1, z2⟩ := kp_new b9 s9
    have Z := Lib.hid z1
    have P9_9 := Lib.hid z2
    clear s9 b9 z1 z2 KR
    go_upto_region 11 with fail
    generalize w9.alloc (.cells #[.int .i64 u.1.hi, .slice A9 n9 c9, .slice B9 m9 d9] 26) = v9 at *
    have X9 := Lib.hid (X8.out.kept Z.out)
    have BB9 := Lib.hid (BB8.out.trans (Z.out.mono BB8.out.size))
    have P3_9 := Lib.hid (P3_8.out.kept Z.out)
    have P4_9 := Lib.hid (P4_8.out.kept Z.out)
    have P5_9 := Lib.hid (P5_8.out.kept Z.out)
    have P6_9 := Lib.hid (P6_8.out.kept Z.out)
    have P7_9 := Lib.hid (P7_8.out.kept Z.out)
    have P8_9 := Lib.hid (P8_8.out.kept Z.out)
    clear X8 BB8 Z P3_8 P4_8 P5_8 P6_8 P7_8 P8_8
    obtain ⟨a0, a1, a2⟩ := X9.out.box.cells
    go_wp2_with fail
    clear a0 a1 a2
    refine (RR.out v9 X9.out.sp).mono ?_
    rintro e' w10 ⟨_, rfl, ⟨A10, n10, c10, B10, m10, d10, rfl, s10⟩, b10⟩
    obtain ⟨z1, z2⟩ := kp_new b10 s10
    have Z := Lib.hid z1
    have P10_10 := Lib.hid z2
    clear s10 b10 z1 z2 RR
    go_upto_region 12 with fail
    generalize w10.alloc (.cells #[.int .i64 u.1.hi, .slice A10 n10 c10, .slice B10 m10 d10] 26) = v10 at *
    have X10 := Lib.hid (X9.out.kept Z.out)
    have BB10 := Lib.hid (BB9.out.trans (Z.out.mono BB9.out.size))
    have P3_10 := Lib.hid (P3_9.out.kept Z.out)
    have P4_10 := Lib.hid (P4_9.out.kept Z.out)
    have P5_10 := Lib.hid (P5_9.out.kept Z.out)
    have P6_10 := Lib.hid (P6_9.out.kept Z.out)
    have P7_10 := Lib.hid (P7_9.out.kept Z.out)
    have P8_10 := Lib.hid (P8_9.out.kept Z.out)
    have P9_10 := Lib.hid (P9_9.out.kept Z.out)
    clear X9 BB9 Z P3_9 P4_9 P5_9 P6_9 P7_9 P8_9 P9_9
    obtain ⟨a0, a1, a2⟩ := P3_10.out.box.cells
    obtain ⟨y0, y1, y2⟩ := P4_10.out.box.cells
    have hz := P3_10.out.sp.fl
    have hy := P3_10.out.sp.pl
    obtain ⟨l1, l2⟩ := LT.out
    have kS := same_any a.2.2 a.2.2 a.2.2.hi a.2.2.hi A3 B3 A4 B4 n3 c3 m3 d3 n4 c4 m4 d4 v10 rfl rfl P3_10.out.sp P4_10.out.sp (by omega) (by omega)
    rw [sameS_refl] at kS
    have KS := Lib.hid kS
    clear hz hy l1 l2 kS
    go_wp2_with fail
    clear a0 a1 a2 y0 y1 y2
    refine KS.out.mono ?_
    rintro e' v11 ⟨rfl, b11⟩
    have Z := Lib.hid b11
    have X11 := Lib.hid (X10.out.kept Z.out)
    have BB11 := Lib.hid (BB10.out.trans (Z.out.mono BB10.out.size))
    have P5_11 := Lib.hid (P5_10.out.kept Z.out)
    have P6_11 := Lib.hid (P6_10.out.kept Z.out)
    have P7_11 := Lib.hid (P7_10.out.kept Z.out)
    have P8_11 := Lib.hid (P8_10.out.kept Z.out)
    have P9_11 := Lib.hid (P9_10.out.kept Z.out)
    have P10_11 := Lib.hid (P10_10.out.kept Z.out)
    clear X10 BB10 Z KS b11 P5_10 P6_10 P7_10 P8_10 P9_10 P10_10 P3_10 P4_10
    obtain ⟨a0, a1, a2⟩ := P5_11.out.box.cells
    obtain ⟨y0, y1, y2⟩ := P6_11.out.box.cells
    have hz := P5_11.out.sp.fl
    have hy := P5_11.out.sp.pl
    obtain ⟨l1, l2⟩ := LG.out
    have kS := same_any g.2 g.2 g.2.hi g.2.hi A5 B5 A6 B6 n5 c5 m5 d5 n6 c6 m6 d6 v11 rfl rfl P5_11.out.sp P6_11.out.sp (by omega) (by omega)
    rw [sameS_refl] at kS
    have KS := Lib.hid kS
    clear hz hy l1 l2 kS
    go_wp2_with fail
    clear a0 a1 a2 y0 y1 y2
    refine KS.out.mono ?_
    rintro e' v12 ⟨rfl, b12⟩
    have Z := Lib.hid b12
    have X12 := Lib.hid (X11.out.kept Z.out)
    have BB12 := Lib.hid (BB11.out.trans (Z.out.mono BB11.out.size))
    have P7_12 := Lib.hid (P7_11.out.kept Z.out)
    have P8_12 := Lib.hid (P8_11.out.kept Z.out)
    have P9_12 := Lib.hid (P9_11.out.kept Z.out)
    have P10_12 := Lib.hid (P10_11.out.kept Z.out)
    clear X11 BB11 Z KS b12 P7_11 P8_11 P9_11 P10_11 P5_11 P6_11
    obtain ⟨a0, a1, a2⟩ := P7_12.out.box.cells
    obtain ⟨y0, y1, y2⟩ := P8_12.out.box.cells
    have hz := P7_12.out.sp.fl
    have hy := P7_12.out.sp.pl
    obtain ⟨l1, l2⟩ := LB.out
    have kS := same_any x.2 x.2 x.2.hi x.2.hi A7 B7 A8 B8 n7 c7 m7 d7 n8 c8 m8 d8 v12 rfl rfl P7_12.out.sp P8_12.out.sp (by omega) (by omega)
    rw [sameS_refl] at kS
    have KS := Lib.hid kS
    clear hz hy l1 l2 kS
    go_wp2_with fail
    clear a0 a1 a2 y0 y1 y2
    refine KS.out.mono ?_
    rintro e' v13 ⟨rfl, b13⟩
    have Z := Lib.hid b13
    have X13 := Lib.hid (X12.out.kept Z.out)
    have BB13 := Lib.hid (BB12.out.trans (Z.out.mono BB12.out.size))
    have P9_13 := Lib.hid (P9_12.out.kept Z.out)
    have P10_13 := Lib.hid (P10_12.out.kept Z.out)
    clear X12 BB12 Z KS b13 P9_12 P10_12 P7_12 P8_12
    obtain ⟨a0, a1, a2⟩ := P9_13.out.box.cells
    obtain ⟨y0, y1, y2⟩ := P10_13.out.box.cells
    have hz := P9_13.out.sp.fl
    have hy := P9_13.out.sp.pl
    obtain ⟨l1, l2⟩ := LR.out
    have kS := same_any u.1 u.1 u.1.hi u.1.hi A9 B9 A10 B10 n9 c9 m9 d9 n10 c10 m10 d10 v13 rfl rfl P9_13.out.sp P10_13.out.sp (by omega) (by omega)
    rw [sameS_refl] at kS
    have KS := Lib.hid kS
    clear hz hy l1 l2 kS
    go_wp2_with fail
    clear a0 a1 a2 y0 y1 y2
    refine KS.out.mono ?_
    rintro e' v14 ⟨rfl, b14⟩
    have Z := Lib.hid b14
    have X14 := Lib.hid (X13.out.kept Z.out)
    have BB14 := Lib.hid (BB13.out.trans (Z.out.mono BB13.out.size))
    clear X13 BB13 Z KS b14 P9_13 P10_13
    have K0 : v14.drew.cell? ⟨W.heap.size, 0, none⟩ = some (.int .i64 s.hi) ∧ v14.drew.cell? ⟨W.heap.size, 1, none⟩ = some (.slice A n c) ∧ v14.drew.cell? ⟨W.heap.size, 2, none⟩ = some (.slice B m d) := X14.out.box.cells
    have BD0 := Lib.hid ((Below.refl v14.heap.size v14).drew)
    go_wp2_with fail
    go_region_held3 (fun w' => w'.cell? ⟨W.heap.size, 0, none⟩ = some (.int .i64 s.hi) ∧ w'.cell? ⟨W.heap.size, 1, none⟩ = some (.slice A n c) ∧ w'.cell? ⟨W.heap.size, 2, none⟩ = some (.slice B m d))
      (first | exact K2 | exact K1 | exact K0)
      (first
        | (go_at_call 21; refine (check_any s s.hi t A B n c m d _ rfl (X14.out.sp.kept (by first | exact BD0.out | exact BD2.out)) (by omega) (by omega)).mono ?_; rintro e' wx ⟨rfl, bx⟩; have BD1 : Hid (Below v14.heap.size v14 wx) := Lib.hid (chainR bx (by first | exact BD0.out | exact BD2.out)); have K1 : wx.cell? ⟨W.heap.size, 0, none⟩ = some (.int .i64 s.hi) ∧ wx.cell? ⟨W.heap.size, 1, none⟩ = some (.slice A n c) ∧ wx.cell? ⟨W.heap.size, 2, none⟩ = some (.slice B m d) := (X14.out.kept BD1.out).box.cells)
        | (go_at_call 22; refine (refCheck_any s t A B n c m d _ (X14.out.sp.kept (by first | exact BD0.out | exact BD1.out)) (by omega) (by omega)).mono ?_; rintro e' wy ⟨rfl, by'⟩; have BD2 : Hid (Below v14.heap.size v14 wy) := Lib.hid (chainR by' (by first | exact BD0.out | exact BD1.out)); have K2 : wy.cell? ⟨W.heap.size, 0, none⟩ = some (.int .i64 s.hi) ∧ wy.cell? ⟨W.heap.size, 1, none⟩ = some (.slice A n c) ∧ wy.cell? ⟨W.heap.size, 2, none⟩ = some (.slice B m d) := (X14.out.kept BD2.out).box.cells)
        | fail)
    all_goals (
      go_wp2_with fail
      go_ret
      refine ⟨by simp, ?_⟩
      first | exact BB14.out.trans (BD2.out.mono BB14.out.size) | exact BB14.out.trans (BD1.out.mono BB14.out.size))
set_option maxRecDepth 100000 in
theorem lifted (os : Os) (started : os.Started) (H : Type) (enc : TypeId × Value → H) :
    ReturnsInHanded {} Try.checked os 4 .any (Rows.spaceTellsSpec.pre6 enc Try.prog Try.f4 Rows.spaceTellsRow.domain false)
      (Rows.spaceTellsSpec.post enc Try.prog Try.f4 false true false false) := by
  refine lift_law (C := Try.checked) (tb := 4) ownKnobs started (by kernel_rfl) Try.func4
    (ChangeSpec.witness6 (enc := enc) (C := Try.checked) false ⟨#[], #[.agg #[.int .i64 0, .slice none 0 0, .slice none 0 0], .int .i64 0, .int .i64 0, .int .i64 0, .int .i64 0], []⟩ 8 (by kernel_rfl) (by kernel_rfl) (by kernel_rfl) (by kernel_rfl))
    laidOut ?_ rfl rfl Try.underlying4 ?_ ?_
  · intro t ht
    rw [Try.params4] at ht
    simp only [List.mem_cons, List.not_mem_nil, or_false] at ht
    rcases ht with rfl | rfl | rfl | rfl | rfl <;> exact ⟨by kernel_rfl, of_decide_eq_true (by kernel_rfl)⟩
  · intro vs ds W p hA
    rw [Try.params4] at hA
    obtain ⟨v0, vs0, d0, ds0, p0, q0, ha, rfl, rfl, h0, r0⟩ := trodAll_cons hA
    obtain ⟨v1, vs1, d1, ds1, p1, q1, rfl, rfl, rfl, h1, r1⟩ := trodAll_cons r0
    obtain ⟨v2, vs2, d2, ds2, p2, q2, rfl, rfl, rfl, h2, r2⟩ := trodAll_cons r1
    obtain ⟨v3, vs3, d3, ds3, p3, q3, rfl, rfl, rfl, h3, r3⟩ := trodAll_cons r2
    obtain ⟨v4, vs4, d4, ds4, p4, q4, rfl, rfl, rfl, h4, r4⟩ := trodAll_cons r3
    obtain ⟨rfl, rfl, rfl⟩ := trodAll_nil r4
    rfl
  · intro W base args ds p hval hA
    rw [Try.params4] at hA hval
    obtain ⟨v0, vs0, d0, ds0, p0, q0, ha, rfl, rfl, h0, r0⟩ := trodAll_cons hA
    obtain ⟨v1, vs1, d1, ds1, p1, q1, rfl, rfl, rfl, h1, r1⟩ := trodAll_cons r0
    obtain ⟨v2, vs2, d2, ds2, p2, q2, rfl, rfl, rfl, h2, r2⟩ := trodAll_cons r1
    obtain ⟨v3, vs3, d3, ds3, p3, q3, rfl, rfl, rfl, h3, r3⟩ := trodAll_cons r2
    obtain ⟨v4, vs4, d4, ds4, p4, q4, rfl, rfl, rfl, h4, r4⟩ := trodAll_cons r3
    obtain ⟨rfl, rfl, rfl⟩ := trodAll_nil r4
    obtain rfl : args = #[v0, v1, v2, v3, v4] := by cases args; simp_all
    obtain ⟨s0, A0, n0, c0, B0, m0, e0, rfl, hs0, hi0⟩ := open_space (hval 0 _ v0 rfl rfl) h0
    obtain ⟨i1, rfl, lo1, hi1⟩ := open_i64 (hval 1 _ v1 rfl rfl) h1
    obtain ⟨i2, rfl, lo2, hi2⟩ := open_i64 (hval 2 _ v2 rfl rfl) h2
    obtain ⟨i3, rfl, lo3, hi3⟩ := open_i64 (hval 3 _ v3 rfl rfl) h3
    obtain ⟨i4, rfl, lo4, hi4⟩ := open_i64 (hval 4 _ v4 rfl rfl) h4
    exact walk s0 A0 n0 c0 B0 m0 e0 hs0 hi0 i1 lo1 hi1 i2 lo2 hi2 i3 lo3 hi3 i4 lo4 hi4

/-- The statement. -/
theorem proved : Rows.SpaceTellsSaid :=
  OpenClaim.holds_of_wide 4 Try.f4 rfl rfl rfl rfl rfl rfl rfl ⟨rfl, rfl, rfl, rfl, rfl⟩ rfl rfl rfl rfl rfl (by kernel_rfl) Try.func4 (by kernel_rfl)
    (of_decide_eq_true (by kernel_rfl)) (by unfold Func.isWrapper; first | (rw [if_pos (by decide +kernel)]; kernel_rfl) | (rw [if_neg (by decide +kernel)]; exact ⟨rfl, rfl⟩))
    (fun os started H enc _ => lifted os started H enc)
#print axioms proved
end Go.Proofs.Ytlldmefjhgahdaa.spaceTells
