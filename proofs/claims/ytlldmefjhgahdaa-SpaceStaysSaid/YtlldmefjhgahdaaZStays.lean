/-
  SpaceStays answers true, for every pages' lists, bound, epoch, page and budget: of lists that may be each answer is lists that may be, and no page is lost. Conditions: none.
-/
import Derived.Test.YtlldmefjhgahdaaRows
import Derived.Test.YtlldmefjhgahdaaZC
import Derived.Deep.CutBlock
import Derived.Deep.DeepCutAuto
namespace Go.Proofs.Ytlldmefjhgahdaa.spaceStays
open Go.ChangeShapes Go.WideShapes Go.ChangeAt Go.RowKit

theorem take_stays {s : SS} {t : Int} (hf : SS.Fine s t) (h : (s.take t).1 = 0) : (s.take t).2.2.check t = 0 ∧ (s.take t).2.2.hi ≤ t ∧
    ((s.take t).2.2.fr.length + (s.take t).2.2.pe.length + 1 = s.fr.length + s.pe.length ∨ (s.take t).2.2.hi = s.hi + 1 ∧ s.fr.length = 0 ∧ (s.take t).2.2.fr.length = 0 ∧ (s.take t).2.2.pe.length = s.pe.length) := by
  obtain ⟨h1, _, _, _, h5, h6⟩ := hf.take h
  refine ⟨SS.check_ok h1, h1.hi, ?_⟩
  rw [h6]
  rcases h5 with ⟨_, h5⟩ | ⟨h7, h8, h9⟩
  · exact Or.inl (by omega)
  · exact Or.inr ⟨h7, by rw [h8]; rfl, by rw [h9]; rfl, rfl⟩
theorem give_stays {s : SS} {t e p : Int} (hf : SS.Fine s t) (h : (s.give e p).1 = 0) : (s.give e p).2.check t = 0 ∧ (s.give e p).2.fr.length + (s.give e p).2.pe.length = s.fr.length + s.pe.length + 1 := by
  cases hb : s.giveBad e p with
  | true => rw [give_ill hb] at h; cases h
  | false =>
    rw [give_well hb]
    exact ⟨SS.check_ok (hf.give hb), by simp; omega⟩
theorem back_stays {s : SS} {t p : Int} (hf : SS.Fine s t) (h : (s.back p).1 = 0) : (s.back p).2.check t = 0 ∧ (s.back p).2.fr.length + (s.back p).2.pe.length = s.fr.length + s.pe.length + 1 := by
  cases hb : s.backBad p with
  | true =>
    unfold SS.back at h
    rw [if_pos hb] at h
    cases h
  | false =>
    unfold SS.back
    rw [if_neg (by rw [hb]; simp)]
    refine ⟨SS.check_ok (hf.back hb), ?_⟩
    show (SS.ins p s.fr).length + s.pe.length = _
    rw [SS.ins_length]
    omega
theorem rec_stays {s : SS} {t : Int} (hf : SS.Fine s t) (e : Int) (b : Nat) : (s.reclaim e b).1.check t = 0 ∧ (s.reclaim e b).1.fr.length = s.fr.length + (s.reclaim e b).2 ∧ (s.reclaim e b).1.pe.length + (s.reclaim e b).2 = s.pe.length := by
  obtain ⟨h1, h2, h3⟩ := hf.reclaim e b
  have h4 := (SS.count_le e b s.pe).1
  have h5 : (s.reclaim e b).2 = SS.count e b s.pe := rfl
  exact ⟨SS.check_ok h1, h2, by omega⟩

set_option maxRecDepth 20000 in
set_option maxHeartbeats 6400000 in
theorem walk {W : World} (s : SS) (A : Option Addr) (n c : Nat) (B : Option Addr) (m d : Nat) (hs : Sp W A n c B m d s) (h64 : In64 s.hi) (t : Int) (_ : -9223372036854775808 ≤ t) (ht : t ≤ 9223372036854775807) (e : Int) (_ : -9223372036854775808 ≤ e) (_ : e ≤ 9223372036854775807) (p : Int) (_ : -9223372036854775808 ≤ p) (_ : p ≤ 9223372036854775807) (bud : Int) (_ : -9223372036854775808 ≤ bud) (_ : bud ≤ 9223372036854775807) :
    Calls Try.prog 6 #[.agg #[.int .i64 s.hi, .slice A n c, .slice B m d], .int .i64 t, .int .i64 e, .int .i64 p, .int .i64 bud] W fun e W' => e = .returned (.bool true) ∧ Below W.heap.size W W' := by
  obtain ⟨h, hh⟩ : ∃ h, s.hi = h := ⟨_, rfl⟩
  rw [hh]
  have HH := Lib.hid hh
  have h1 : -9223372036854775808 ≤ h := by rw [← hh]; exact h64.1
  have B0 := Lib.hid (below_one W (.cells #[.int .i64 h, .slice A n c, .slice B m d] 26))
  have HX := Lib.hid (box_new W (.int .i64 h) (.slice A n c) (.slice B m d))
  have HS := Lib.hid (hs.kept B0.out)
  have HFL := Lib.hid hs.fl
  have HPL := Lib.hid hs.pl
  clear hs hh h64
  go_enter Try.func6, Try.ntmps6
  go_upto_region 1 with fail
  generalize W.alloc (.cells #[.int .i64 h, .slice A n c, .slice B m d] 26) = w0 at *
  go_wp2_with fail
  refine (awake_any w0).mono ?_
  rintro e' w1 ⟨rfl, b1⟩
  have B1 := Lib.hid b1
  obtain ⟨a0, a1, a2⟩ := (HX.out.kept b1).cells
  clear b1
  go_wp2_with fail
  refine (few_any h A B n c m d w1).mono ?_
  rintro e' w2 ⟨rfl, b2⟩
  have B2 := Lib.hid (B1.out.trans (b2.mono B1.out.size))
  have BB := Lib.hid (B0.out.trans (B2.out.mono B0.out.size))
  clear a0 a1 a2 b2
  cases hfew : fewB n m with
  | false =>
    clear hfew
    go_wp2_with fail
    go_ret
    exact ⟨rfl, BB.out⟩
  | true =>
    obtain ⟨hn, hm⟩ := few_le hfew
    clear hfew
    obtain ⟨a0, a1, a2⟩ := (HX.out.kept B2.out).cells
    go_wp2_with fail
    refine (check_any s h t A B n c m d w2 HH.out (HS.out.kept B2.out) (by omega) (by omega)).mono ?_
    rintro e' w3 ⟨rfl, b3⟩
    have B3 := Lib.hid (B2.out.trans (b3.mono B2.out.size))
    have BB3 := Lib.hid (B0.out.trans (B3.out.mono B0.out.size))
    clear a0 a1 a2 b3
    rcases check_or s t with hk | hk
    rotate_left
    · rw [hk]
      clear hk
      go_wp2_with fail
      go_ret
      exact ⟨rfl, BB3.out⟩
    rw [hk]
    have hFine := SS.check_fine hk
    have HTk := Lib.hid (take_stays (t := t) hFine)
    have HGv := Lib.hid (give_stays (t := t) (e := e) (p := p) hFine)
    have HBk := Lib.hid (back_stays (t := t) (p := p) hFine)
    have HRc := Lib.hid (rec_stays (t := t) hFine e bud.toNat)
    have HTop := Lib.hid (Int.le_trans (show s.hi ≤ t from hFine.hi) ht)
    clear hk hFine
    have HX3 := Lib.hid (HX.out.kept B3.out)
    have HS3 := Lib.hid (HS.out.kept B3.out)
    clear HX HS B0 B1 B2 BB B3
    obtain ⟨a0, a1, a2⟩ := HX3.out.cells
    go_wp2_with fail
    clear a0 a1 a2
    have kT := take_any s h t A B n c m d w3 HH.out HS3.out (by omega) (by omega) h1 ht
    have kG := fun w hS => give_any s h e p A B n c m d w HH.out hS (by omega) (by omega)
    have kB := fun w hS => back_any s h p A B n c m d w HH.out hS (by omega) (by omega)
    have kR := fun w hS => reclaim_any s h e bud A B n c m d w HH.out hS (by omega) (by omega)
    obtain ⟨a, ha⟩ : ∃ a, s.take t = a := ⟨_, rfl⟩
    obtain ⟨g, hg⟩ : ∃ g, s.give e p = g := ⟨_, rfl⟩
    obtain ⟨x, hx⟩ : ∃ x, s.back p = x := ⟨_, rfl⟩
    obtain ⟨u, hu⟩ : ∃ u, s.reclaim e bud.toNat = u := ⟨_, rfl⟩
    rw [ha] at kT HTk
    simp only [hg] at kG HGv
    simp only [hx] at kB HBk
    simp only [hu] at kR HRc
    have KG := Lib.hid kG
    have KB := Lib.hid kB
    have KR := Lib.hid kR
    clear ha hg hx hu kG kB kR
    refine kT.mono ?_
    rintro e' w4 ⟨_, rfl, ⟨A4, n4, c4, B4, m4, d4, rfl, s4⟩, b4⟩
    obtain ⟨z1, z2, z3⟩ := boxed b4 s4 a.2.2.hi
    have HX4 := Lib.hid z2
    have S4 := Lib.hid z3
    have Z4 := Lib.hid z1
    clear s4 b4 z1 z2 z3 kT
    go_upto_region 6 with fail
    generalize w4.alloc (.cells #[.int .i64 a.2.2.hi, .slice A4 n4 c4, .slice B4 m4 d4] 26) = v4 at *
    have HX5 := Lib.hid (HX3.out.kept Z4.out)
    have HS5 := Lib.hid (HS3.out.kept Z4.out)
    have BB4 := Lib.hid (BB3.out.trans (Z4.out.mono BB3.out.size))
    clear HX3 HS3 BB3 Z4
    obtain ⟨a0, a1, a2⟩ := HX5.out.cells
    go_wp2_with fail
    clear a0 a1 a2
    refine (KG.out v4 HS5.out).mono ?_
    rintro e' w5 ⟨_, rfl, ⟨A5, n5, c5, B5, m5, d5, rfl, s5⟩, b5⟩
    obtain ⟨z1, z2, z3⟩ := boxed b5 s5 g.2.hi
    have HY5 := Lib.hid z2
    have S5 := Lib.hid z3
    have Z5 := Lib.hid z1
    clear s5 b5 z1 z2 z3 KG
    go_upto_region 7 with fail
    generalize w5.alloc (.cells #[.int .i64 g.2.hi, .slice A5 n5 c5, .slice B5 m5 d5] 26) = v5 at *
    have HX6 := Lib.hid (HX5.out.kept Z5.out)
    have HS6 := Lib.hid (HS5.out.kept Z5.out)
    have HX4b := Lib.hid (HX4.out.kept Z5.out)
    have S4b := Lib.hid (S4.out.kept Z5.out)
    have BB5 := Lib.hid (BB4.out.trans (Z5.out.mono BB4.out.size))
    clear HX5 HS5 HX4 S4 BB4 Z5
    obtain ⟨a0, a1, a2⟩ := HX6.out.cells
    go_wp2_with fail
    clear a0 a1 a2
    refine (KB.out v5 HS6.out).mono ?_
    rintro e' w6 ⟨_, rfl, ⟨A6, n6, c6, B6, m6, d6, rfl, s6⟩, b6⟩
    obtain ⟨z1, z2, z3⟩ := boxed b6 s6 x.2.hi
    have HY6 := Lib.hid z2
    have S6 := Lib.hid z3
    have Z6 := Lib.hid z1
    clear s6 b6 z1 z2 z3 KB
    go_upto_region 8 with fail
    generalize w6.alloc (.cells #[.int .i64 x.2.hi, .slice A6 n6 c6, .slice B6 m6 d6] 26) = v6 at *
    have HX7 := Lib.hid (HX6.out.kept Z6.out)
    have HS7 := Lib.hid (HS6.out.kept Z6.out)
    have HX4c := Lib.hid (HX4b.out.kept Z6.out)
    have S4c := Lib.hid (S4b.out.kept Z6.out)
    have HY5b := Lib.hid (HY5.out.kept Z6.out)
    have S5b := Lib.hid (S5.out.kept Z6.out)
    have BB6 := Lib.hid (BB5.out.trans (Z6.out.mono BB5.out.size))
    clear HX6 HS6 HX4b S4b HY5 S5 BB5 Z6
    obtain ⟨a0, a1, a2⟩ := HX7.out.cells
    go_wp2_with fail
    clear a0 a1 a2
    refine (KR.out v6 HS7.out).mono ?_
    rintro e' w7 ⟨_, rfl, ⟨A7, n7, c7, B7, m7, d7, rfl, s7⟩, b7⟩
    obtain ⟨z1, z2, z3⟩ := boxed b7 s7 u.1.hi
    have HX8 := Lib.hid z2
    have S8 := Lib.hid z3
    have Z7 := Lib.hid z1
    clear s7 b7 z1 z2 z3 KR
    go_upto_region 9 with fail
    generalize w7.alloc (.cells #[.int .i64 u.1.hi, .slice A7 n7 c7, .slice B7 m7 d7] 26) = v7 at *
    have HXs := Lib.hid (HX7.out.kept Z7.out)
    have HSs := Lib.hid (HS7.out.kept Z7.out)
    have HXa := Lib.hid (HX4c.out.kept Z7.out)
    have Sa := Lib.hid (S4c.out.kept Z7.out)
    have HXg := Lib.hid (HY5b.out.kept Z7.out)
    have Sg := Lib.hid (S5b.out.kept Z7.out)
    have HXx := Lib.hid (HY6.out.kept Z7.out)
    have Sx := Lib.hid (S6.out.kept Z7.out)
    have BB7 := Lib.hid (BB6.out.trans (Z7.out.mono BB6.out.size))
    clear HX7 HS7 HX4c S4c HY5b S5b HY6 S6 BB6 Z7
    go_cut [105] (fun s105 wx => s105 = .bool false ∧ Hid (Below v7.heap.size v7 wx))
    case first =>
      by_cases ha0 : a.1 = 0
      rotate_left
      · have b0 : (a.1 == 0) = false := by simpa using ha0
        clear ha0
        go_wp2_with fail
        go_meet
        exact ⟨rfl, Lib.hid (Below.refl _ _)⟩
      have b0 : (a.1 == 0) = true := by simpa using ha0
      have hT := HTk.out ha0
      have hn4 := Sa.out.fl
      have hm4 := Sa.out.pl
      have hn' := HFL.out
      have hm' := HPL.out
      obtain ⟨hck, hhi, hcase⟩ := hT
      have hsz : n4 ≤ 400000 ∧ m4 ≤ 400000 := by omega
      have HCK := Lib.hid (check_any a.2.2 a.2.2.hi t A4 B4 n4 c4 m4 d4 v7 rfl Sa.out hsz.1 hsz.2)
      obtain ⟨a0, a1, a2⟩ := HXa.out.cells
      have HCk := Lib.hid hck
      obtain ⟨hz1, hz2⟩ := hsz
      clear ha0 hck
      rcases hcase with hc | ⟨hc1, hc2, hc3, hc4⟩
      · have b1 : ((n4 : Int) + (m4 : Int) + 1 != (n : Int) + (m : Int)) = false := by simp; omega
        clear hc hn4 hm4 hn' hm' hhi
        go_wp2_with fail
        refine HCK.out.mono ?_
        rintro e' w8 ⟨rfl, b8⟩
        rw [HCk.out]
        have B8 := Lib.hid b8
        clear a0 a1 a2
        obtain ⟨a0, a1, a2⟩ := (HXa.out.kept b8).cells
        clear b8
        go_wp2_with fail
        go_meet
        exact ⟨rfl, B8⟩
      · have b1 : ((n4 : Int) + (m4 : Int) + 1 != (n : Int) + (m : Int)) = true := by simp; omega
        have hw : wrap64 (h + 1) = h + 1 := by have := HH.out; unfold wrap64; omega
        have b2 : (a.2.2.hi != h + 1) = false := by have := HH.out; simp; omega
        have b3 : ((n : Int) + (m : Int) != (n4 : Int) + (m4 : Int)) = false := by simp; omega
        clear hc1 hc2 hc3 hc4 hn4 hm4 hn' hm' hhi
        go_wp2_with fail
        refine HCK.out.mono ?_
        rintro e' w8 ⟨rfl, b8⟩
        rw [HCk.out]
        have B8 := Lib.hid b8
        clear a0 a1 a2
        obtain ⟨a0, a1, a2⟩ := (HXa.out.kept b8).cells
        obtain ⟨f0, f1, f2⟩ := (HXs.out.kept b8).cells
        clear b8
        go_wp2_with fail
        go_meet
        exact ⟨rfl, B8⟩
    case rest =>
      obtain ⟨rfl, C1⟩ := hcut
      go_upto_region 11 with fail
      go_cut [125] (fun s125 wx => s125 = .bool false ∧ Hid (Below v7.heap.size v7 wx))
      case first =>
        by_cases ha0 : g.1 = 0
        rotate_left
        · have b0 : (g.1 == 0) = false := by simpa using ha0
          clear ha0
          go_wp2_with fail
          go_meet
          exact ⟨rfl, C1⟩
        have b0 : (g.1 == 0) = true := by simpa using ha0
        have hT := HGv.out ha0
        have hn4 := Sg.out.fl
        have hm4 := Sg.out.pl
        have hn' := HFL.out
        have hm' := HPL.out
        obtain ⟨hck, hcase⟩ := hT
        have hsz : n5 ≤ 400000 ∧ m5 ≤ 400000 := by omega
        have HCK := Lib.hid (check_any g.2 g.2.hi t A5 B5 n5 c5 m5 d5 _ rfl (Sg.out.kept C1.out) hsz.1 hsz.2)
        obtain ⟨a0, a1, a2⟩ := (HXg.out.kept C1.out).cells
        have HCk := Lib.hid hck
        obtain ⟨hz1, hz2⟩ := hsz
        clear ha0 hck
        have b1 : ((n5 : Int) + (m5 : Int) != (n : Int) + (m : Int) + 1) = false := by simp; omega
        clear hcase hn4 hm4 hn' hm'
        go_wp2_with fail
        refine HCK.out.mono ?_
        rintro e' w8 ⟨rfl, b8⟩
        rw [HCk.out]
        have B8 := Lib.hid (C1.out.trans (b8.mono C1.out.size))
        clear a0 a1 a2
        obtain ⟨a0, a1, a2⟩ := (HXg.out.kept B8.out).cells
        clear b8
        go_wp2_with fail
        go_meet
        exact ⟨rfl, B8⟩
      case rest =>
        obtain ⟨rfl, C2⟩ := hcut
        go_upto_region 13 with fail
        go_cut [145] (fun s145 wx => s145 = .bool false ∧ Hid (Below v7.heap.size v7 wx))
        case first =>
          by_cases ha0 : x.1 = 0
          rotate_left
          · have b0 : (x.1 == 0) = false := by simpa using ha0
            clear ha0
            go_wp2_with fail
            go_meet
            exact ⟨rfl, C2⟩
          have b0 : (x.1 == 0) = true := by simpa using ha0
          have hT := HBk.out ha0
          have hn4 := Sx.out.fl
          have hm4 := Sx.out.pl
          have hn' := HFL.out
          have hm' := HPL.out
          obtain ⟨hck, hcase⟩ := hT
          have hsz : n6 ≤ 400000 ∧ m6 ≤ 400000 := by omega
          have HCK := Lib.hid (check_any x.2 x.2.hi t A6 B6 n6 c6 m6 d6 _ rfl (Sx.out.kept C2.out) hsz.1 hsz.2)
          obtain ⟨a0, a1, a2⟩ := (HXx.out.kept C2.out).cells
          have HCk := Lib.hid hck
          obtain ⟨hz1, hz2⟩ := hsz
          clear ha0 hck
          have b1 : ((n6 : Int) + (m6 : Int) != (n : Int) + (m : Int) + 1) = false := by simp; omega
          clear hcase hn4 hm4 hn' hm'
          go_wp2_with fail
          refine HCK.out.mono ?_
          rintro e' w8 ⟨rfl, b8⟩
          rw [HCk.out]
          have B8 := Lib.hid (C2.out.trans (b8.mono C2.out.size))
          clear a0 a1 a2
          obtain ⟨a0, a1, a2⟩ := (HXx.out.kept B8.out).cells
          clear b8
          go_wp2_with fail
          go_meet
          exact ⟨rfl, B8⟩
        case rest =>
          obtain ⟨rfl, C3⟩ := hcut
          obtain ⟨r1, r2, r3⟩ := HRc.out
          have hn4 := (S8.out).fl
          have hm4 := (S8.out).pl
          have hn' := HFL.out
          have hm' := HPL.out
          have hsz : n7 ≤ 400000 ∧ m7 ≤ 400000 := by omega
          have HCK := Lib.hid (check_any u.1 u.1.hi t A7 B7 n7 c7 m7 d7 _ rfl (S8.out.kept C3.out) hsz.1 hsz.2)
          obtain ⟨a0, a1, a2⟩ := (HX8.out.kept C3.out).cells
          have HCk := Lib.hid r1
          obtain ⟨K, hK⟩ : ∃ K, u.2 = K := ⟨_, rfl⟩
          rw [hK] at r2 r3 ⊢
          have b1 : ((n7 : Int) == (n : Int) + (K : Int)) = true := by simp; omega
          have hw : wrap64 ((m : Int) - (K : Int)) = (m : Int) - (K : Int) := by unfold wrap64; omega
          have hKl : K ≤ 300 := by omega
          have b2 : ((m7 : Int) == (m : Int) - (K : Int)) = true := by simp; omega
          clear r1 r2 r3 hn4 hm4 hn' hm' hK
          obtain ⟨hz1, hz2⟩ := hsz
          go_wp2_with fail
          refine HCK.out.mono ?_
          rintro e' w8 ⟨rfl, b8⟩
          rw [HCk.out]
          have B8 := Lib.hid (C3.out.trans (b8.mono C3.out.size))
          have BZ := Lib.hid (BB7.out.trans (B8.out.mono BB7.out.size))
          clear a0 a1 a2
          obtain ⟨a0, a1, a2⟩ := (HX8.out.kept B8.out).cells
          obtain ⟨f0, f1, f2⟩ := (HXs.out.kept B8.out).cells
          clear b8
          go_wp2_with fail
          go_ret
          exact ⟨rfl, BZ.out⟩
set_option maxRecDepth 100000 in
theorem lifted (os : Os) (started : os.Started) (H : Type) (enc : TypeId × Value → H) :
    ReturnsInHanded {} Try.checked os 6 .any (Rows.spaceStaysSpec.pre6 enc Try.prog Try.f6 Rows.spaceStaysRow.domain false)
      (Rows.spaceStaysSpec.post enc Try.prog Try.f6 false true false false) := by
  refine lift_law (C := Try.checked) (tb := 4) ownKnobs started (by kernel_rfl) Try.func6
    (ChangeSpec.witness6 (enc := enc) (C := Try.checked) false ⟨#[], #[.agg #[.int .i64 0, .slice none 0 0, .slice none 0 0], .int .i64 0, .int .i64 0, .int .i64 0, .int .i64 0], []⟩ 8 (by kernel_rfl) (by kernel_rfl) (by kernel_rfl) (by kernel_rfl))
    laidOut ?_ rfl rfl Try.underlying4 ?_ ?_
  · intro t ht
    rw [Try.params6] at ht
    simp only [List.mem_cons, List.not_mem_nil, or_false] at ht
    rcases ht with rfl | rfl | rfl | rfl | rfl <;> exact ⟨by kernel_rfl, of_decide_eq_true (by kernel_rfl)⟩
  · intro vs ds W p hA
    rw [Try.params6] at hA
    obtain ⟨v0, vs0, d0, ds0, p0, q0, ha, rfl, rfl, h0, r0⟩ := trodAll_cons hA
    obtain ⟨v1, vs1, d1, ds1, p1, q1, rfl, rfl, rfl, h1, r1⟩ := trodAll_cons r0
    obtain ⟨v2, vs2, d2, ds2, p2, q2, rfl, rfl, rfl, h2, r2⟩ := trodAll_cons r1
    obtain ⟨v3, vs3, d3, ds3, p3, q3, rfl, rfl, rfl, h3, r3⟩ := trodAll_cons r2
    obtain ⟨v4, vs4, d4, ds4, p4, q4, rfl, rfl, rfl, h4, r4⟩ := trodAll_cons r3
    obtain ⟨rfl, rfl, rfl⟩ := trodAll_nil r4
    rfl
  · intro W base args ds p hval hA
    rw [Try.params6] at hA hval
    obtain ⟨v0, vs0, d0, ds0, p0, q0, ha, rfl, rfl, h0, r0⟩ := trodAll_cons hA
    obtain ⟨v1, vs1, d1, ds1, p1, q1, rfl, rfl, rfl, h1, r1⟩ := trodAll_cons r0
    obtain ⟨v2, vs2, d2, ds2, p2, q2, rfl, rfl, rfl, h2, r2⟩ := trodAll_cons r1
    obtain ⟨v3, vs3, d3, ds3, p3, q3, rfl, rfl, rfl, h3, r3⟩ := trodAll_cons r2
    obtain ⟨v4, vs4, d4, ds4, p4, q4, rfl, rfl, rfl, h4, r4⟩ := trodAll_cons r3
    obtain ⟨rfl, rfl, rfl⟩ := trodAll_nil r4
    obtain rfl : args = #[v0, v1, v2, v3, v4] := by cases args; simp_all
    obtain ⟨s0, A0, n0, c0, B0, m0, e0, rfl, hs0, hi0⟩ := open_space (hval 0 _ v0 rfl rfl) h0
    obtain ⟨i1, rfl, lo1, hi1⟩ := open_i64 (hval 1 _ v1 rfl rfl) h1
    obtain ⟨i2, rfl, lo2, hi2⟩ := open_i64 (hval 2 _ v2 rfl rfl) h2
    obtain ⟨i3, rfl, lo3, hi3⟩ := open_i64 (hval 3 _ v3 rfl rfl) h3
    obtain ⟨i4, rfl, lo4, hi4⟩ := open_i64 (hval 4 _ v4 rfl rfl) h4
    exact walk s0 A0 n0 c0 B0 m0 e0 hs0 hi0 i1 lo1 hi1 i2 lo2 hi2 i3 lo3 hi3 i4 lo4 hi4

/-- The statement. -/
theorem proved : Rows.SpaceStaysSaid :=
  OpenClaim.holds_of_wide 6 Try.f6 rfl rfl rfl rfl rfl rfl rfl ⟨rfl, rfl, rfl, rfl, rfl⟩ rfl rfl rfl rfl rfl (by kernel_rfl) Try.func6 (by kernel_rfl)
    (of_decide_eq_true (by kernel_rfl)) (by unfold Func.isWrapper; first | (rw [if_pos (by decide +kernel)]; kernel_rfl) | (rw [if_neg (by decide +kernel)]; exact ⟨rfl, rfl⟩))
    (fun os started H enc _ => lifted os started H enc)
#print axioms proved
end Go.Proofs.Ytlldmefjhgahdaa.spaceStays
