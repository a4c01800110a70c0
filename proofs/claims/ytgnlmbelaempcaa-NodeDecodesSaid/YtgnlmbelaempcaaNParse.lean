/-
  What the document's own parse comes to (package tailraceref10).
-/
import Derived.Test.YtgnlmbelaempcaaNPMem
namespace Go.Proofs.Ytgnlmbelaempcaa
open Go.RowKit

set_option maxRecDepth 20000 in
set_option maxHeartbeats 6400000 in
theorem parse_leaf {R : Nat} (A : Option Addr) (n c : Nat) (l : List UInt8) (w : World) (hl : l.length = n) (hr : Bys w R A l) (hRR : R ≤ w.heap.size) (hnc : n ≤ c) (hm : c ≤ maxLen) :
    Calls Try.prog 29 #[.bool true, .slice A n c] w (ReadEnd w true l) := by
  obtain ⟨i0, hi, hz0, hz1, hz2⟩ := info_parts strInfo
  have HRG := Lib.hid hRR
  clear hRR
  have M0 := Lib.hid (nx_start w true)
  have B0 := Lib.hid (below_two w (.cells #[.bool false, .slice none 0 0, .slice none 0 0, .slice none 0 0] 26) (.cells #[.bool true, .slice none 0 0, .slice none 0 0, .slice none 0 0] 26))
  have HY0 := Lib.hid (hr.kept (below_two w (.cells #[.bool false, .slice none 0 0, .slice none 0 0, .slice none 0 0] 26) (.cells #[.bool true, .slice none 0 0, .slice none 0 0, .slice none 0 0] 26)))
  have HL := Lib.hid hl
  clear hr
  by_cases h2 : n < 2
  · have HN : Hid (ND.prs true l = none) := Lib.hid (prs_short (by omega))
    clear hl
    go_enter Try.func29, Try.ntmps29
    go_upto_region 2 with fail
    generalize (w.alloc (.cells #[.bool false, .slice none 0 0, .slice none 0 0, .slice none 0 0] 26)).alloc (.cells #[.bool true, .slice none 0 0, .slice none 0 0, .slice none 0 0] 26) = w0 at *
    generalize w.heap.size + 1 = gx at *
    generalize hgb : w.heap.size = gb at *
    have HGB := Lib.hid hgb
    clear hgb
    obtain ⟨p0, p1, p2, p3⟩ := M0.out.box.cells
    obtain ⟨q0, q1, q2, q3⟩ := M0.out.res.cells
    obtain ⟨f0, f1, f2, f3⟩ := M0.out.res.free
    have n1 : gb ≠ gx := Nat.ne_of_lt M0.out.od
    have n4 : gx ≠ gb := Ne.symm n1
    have HPP := Lib.hid (show ∀ q, ND.prs true l = some q → ND.mk true [] [] [] = q from fun q e => by rw [HN.out] at e; cases e)
    have HRR := Lib.hid (show (ND.prs true l).isSome = false from by rw [HN.out]; rfl)
    go_wp2_with fail
    obtain ⟨⟨e0, e1, e2, e3⟩, HE⟩ := parse_done M0.out HGB.out (Nat.le_refl _) B0.out HPP.out HRR.out (by simp) (by simp) (by simp)
    refine bodyPost_ret (v := _) (by simp [results, Try.results29, go_sem, e0, e1, e2, e3]) rfl HE
  · obtain ⟨x, y, ex, ey, exy⟩ := two_get (l := l) (by omega)
    obtain ⟨hN, hP⟩ := prs_two (lf := true) (l := l) (by omega)
    obtain ⟨b, off, rfl, _, hc⟩ := bys_off HY0.out (by omega)
    have cx := hc 0 x ex
    have cy := hc 1 y ey
    rw [Nat.add_zero] at cx
    rw [exy] at hN hP
    have HN := Lib.hid hN
    have HP := Lib.hid (hP.trans (if_pos rfl))
    have j0 : (0 : Int) < (n : Int) := by omega
    have j1 : (1 : Int) < (n : Int) := by omega
    clear ex ey exy hN hP hc hl
    go_enter Try.func29, Try.ntmps29
    go_upto_region 2 with fail
    generalize (w.alloc (.cells #[.bool false, .slice none 0 0, .slice none 0 0, .slice none 0 0] 26)).alloc (.cells #[.bool true, .slice none 0 0, .slice none 0 0, .slice none 0 0] 26) = w0 at *
    generalize w.heap.size + 1 = gx at *
    generalize hgb : w.heap.size = gb at *
    have HGB := Lib.hid hgb
    clear hgb
    go_wp2_with fail
    go_quiet (fail)
    rw [two_spell]
    generalize bn [x, y] = N at *
    have M1 := Lib.hid (M0.out.next (belowN (Below.refl _ _) nq))
    have B1 : Hid (Below gb w (w0.drewN nq)) := Lib.hid (belowN B0.out nq)
    have HY1 := Lib.hid (HY0.out.kept (belowN (Below.refl _ _) nq))
    clear cx cy M0 B0 HY0
    generalize w0.drewN nq = wq at *
    have hNN := HN.out
    go_upto_region 5 with fail
    obtain ⟨wx, hwx⟩ : ∃ wx, wx = wq := ⟨_, rfl⟩
    go_cut [1] (fun s1 w5 => ∃ (A2 : Option Addr) (c2 : Nat), s1 = .slice A2 (n - 2) c2 ∧ n - 2 ≤ c2 ∧ c2 ≤ maxLen ∧ Hid (Bys wx R A2 (l.drop 2)) ∧ w5 = wx)
    case first =>
      have hm2 := hm
      unfold maxLen at hm2
      by_cases hc2 : c = 2
      · subst hc2
        obtain rfl : n = 2 := by omega
        have HE : Hid (l.drop 2 = []) := Lib.hid (List.drop_eq_nil_of_le (by rw [HL.out]; omega))
        go_wp2_with fail
        go_meet
        exact ⟨_, 0, rfl, Nat.le_refl _, Nat.zero_le _, by rw [HE.out]; exact Lib.hid (Bys.nil _ _ _), hwx.symm⟩
      · have HD := HY1.out.drop 2
        have HDD := Lib.hid HD
        have k1 : (2 : Int) ≤ (n : Int) := by omega
        have k2 : (n : Int) ≤ (c : Int) := by omega
        clear HD
        go_wp2_with fail
        go_meet
        exact ⟨_, c - 2, rfl, by omega, by omega, by rw [hwx]; exact HDD, hwx.symm⟩
    case rest =>
      obtain ⟨A2, c2, rfl, hn2, hc2, HY2, hw5⟩ := hcut
      subst hw5
      subst hwx
      have HL2 : Hid ((l.drop 2).length = n - 2) := Lib.hid (by rw [List.length_drop, HL.out])
      clear HY1
      have H0 : Hid (PP w wc gb gb gx R true l N 0 A2 (n - 2) c2) := Lib.hid ⟨l.drop 2, _, _, _, _, M1.out, B1.out, rfl, Nat.le_refl _, Nat.le_refl _, Nat.zero_le _, HL2.out, hn2, hc2, HY2.out, HRG.out, by rw [HP.out, Nat.sub_zero]⟩
      clear M1 B1 HP HY2 HL2
      go_wp2_with fail
      go_loopg [1, 11] N (fun g v i wr => ∃ (k : Nat) (A3 : Option Addr) (n3 c3 : Nat), g = N - k ∧ k ≤ N ∧ v = .slice A3 n3 c3 ∧ i = .int .i64 k ∧ Hid (PP w wr gb gb gx R true l N k A3 n3 c3))
      case atStart => exact ⟨0, _, _, _, rfl, Nat.zero_le _, rfl, rfl, H0⟩
      case round =>
        obtain ⟨k, A3, n3, c3, rfl, hk, rfl, rfl, HP⟩ := hrel
        obtain ⟨r, s, kv, vv, cv, m, hB, hs, lk, lv, lc, hr3, hn3, hc3, hy3, hR3, hG⟩ := HP.out.is
        obtain ⟨Ak, ck, rfl, _, _⟩ := Ln.of_own m.ke
        obtain ⟨Av, cw, rfl, _, _⟩ := Ln.of_own m.va
        obtain ⟨Ac, cc, rfl, _, _⟩ := Ln.of_own m.ki
        have M := Lib.hid m
        have BW := Lib.hid hB
        have HS := Lib.hid hs
        have HG := Lib.hid hG
        have hlt3 := m.box.lt
        have hgg := m.od
        clear m hB hs hG
        by_cases hlt : k < N
        · have HCT := Lib.hid (rcut_any A3 n3 c3 r wr hr3 hy3 hn3 hc3)
          have HG1 : Hid (ND.prs true l = goOn true (N - (k + 1) + 1) r s) := Lib.hid (by rw [show N - (k + 1) + 1 = N - k by omega]; exact HG.out)
          clear hr3 hy3 hn3 hc3 HP HG
          go_wp2_with fail
          refine HCT.out.mono ?_
          rintro e w2 ⟨t, A4, n4, c4, r4, okk, rfl, hr4, hn4, hc4, hy4, b4, hle4, hw4⟩
          have M2 := Lib.hid (M.out.next b4)
          have BW2 := Lib.hid (BW.out.trans (b4.mono (by omega)))
          have hlt4 := M2.out.box.lt
          clear b4 M BW HCT
          cases okk with
          | false =>
            have HN : Hid (ND.prs true l = none) := Lib.hid (by rw [HG1.out]; rcases hw4 with ⟨h, _⟩ | ⟨_, h⟩; cases h; exact goOn_none h)
            clear hw4 hr4 hn4 hc4 hy4 hle4
            obtain ⟨p0, p1, p2, p3⟩ := M2.out.box.cells
            obtain ⟨q0, q1, q2, q3⟩ := M2.out.res.cells
            obtain ⟨f0, f1, f2, f3⟩ := M2.out.res.free
            have n1 : gb ≠ gx := Nat.ne_of_lt M2.out.od
            have n4 : gx ≠ gb := Ne.symm n1
            have HPP := Lib.hid (show ∀ q, ND.prs true l = some q → s = q from fun q e => by rw [HN.out] at e; cases e)
            have HRR := Lib.hid (show (ND.prs true l).isSome = false from by rw [HN.out]; rfl)
            go_wp2_with fail
            obtain ⟨⟨e0, e1, e2, e3⟩, HE⟩ := parse_done M2.out HGB.out (Nat.le_refl _) BW2.out HPP.out HRR.out (by omega) (by omega) (by omega)
            refine bodyPost_ret (v := _) (by simp [results, Try.results29, go_sem, e0, e1, e2, e3]) rfl HE
          | true =>
            have HC : Hid (ND.cutT r = some (t.toList, r4)) := Lib.hid (by rcases hw4 with ⟨_, h⟩ | ⟨h, _⟩; exact h; cases h)
            have HY4 := Lib.hid hy4
            have HR4 := Lib.hid hr4
            obtain ⟨p0, p1, p2, p3⟩ := M2.out.box.cells
            obtain ⟨f0, f1, f2, f3⟩ := M2.out.box.free
            clear hw4 hy4 hr4
            go_wp2_with (at_builtin; refine wpList_append_lies _ rfl (.tmp 72) (.tmp 74) 23 rfl (gx + 1) 9 i0 _ 1 16 Try.underlying23 hi hz0 hz1 hz2 rfl (by decide) _ _ _ rfl (M2.out.ke.alloc _) ⟨w2.heap.size, 0, none⟩ 1 1 [.string t] rfl rfl (cell_one_new _ _ _) (by simp [Value.oneCell']) (by omega) (by unfold maxLen; omega) (by omega) (by simp; omega) _ rfl ?_; intro g4 cap4 w4 o4 gr4 at4 lt4; obtain ⟨y0, y1, S2, S3⟩ := npushK M2.out o4 gr4 at4)
            obtain ⟨w5, hw5⟩ : ∃ w5, w5 = w4.setCell ⟨gx, 1, none⟩ (.slice (some ⟨g4, 0, none⟩) (s.keys.length + 1) cap4) := ⟨_, rfl⟩
            rw [← hw5] at S2 S3 ⊢
            clear hw5 p0 p1 p2 p3 f0 f1 f2 f3 y0 y1 o4 gr4 at4 lt4
            have B5 : Hid (Below gb w w5) := Lib.hid (BW2.out.trans (S3.out.toBelow (fun j e => by omega) (by omega)))
            have Y5 : Hid (Bys w5 R A4 r4) := Lib.hid (HY4.out.below (S3.out.toBelow (fun j e => by omega) (by omega)))
            have hlt5 := S2.out.box.lt
            clear HY4 BW2 M2 S3
            refine (rcut_any A4 n4 c4 r4 w5 HR4.out Y5.out hn4 hc4).mono ?_
            rintro e w6 ⟨t2, A6, n6, c6, r6, okk, rfl, hr6, hn6, hc6, hy6, b6, hle6, hw6⟩
            have M6 := Lib.hid (S2.out.next b6)
            have BW6 := Lib.hid (B5.out.trans (b6.mono (by omega)))
            have hlt6 := M6.out.box.lt
            clear b6 S2 B5 Y5
            cases okk with
            | false =>
              have HN : Hid (ND.prs true l = none) := Lib.hid (by rw [HG1.out]; rcases hw6 with ⟨h, _⟩ | ⟨_, h⟩; cases h; exact goOn_noval HC.out h)
              clear hw6 hr6 hn6 hc6 hy6 hle6
              obtain ⟨p0, p1, p2, p3⟩ := M6.out.box.cells
              obtain ⟨q0, q1, q2, q3⟩ := M6.out.res.cells
              obtain ⟨f0, f1, f2, f3⟩ := M6.out.res.free
              have n1 : gb ≠ gx := Nat.ne_of_lt M6.out.od
              have n4 : gx ≠ gb := Ne.symm n1
              have HPP := Lib.hid (show ∀ q, ND.prs true l = some q → ND.mk s.leaf (s.keys ++ [t.toList]) s.vals s.kids = q from fun q e => by rw [HN.out] at e; cases e)
              have HRR := Lib.hid (show (ND.prs true l).isSome = false from by rw [HN.out]; rfl)
              go_wp2_with fail
              obtain ⟨⟨e0, e1, e2, e3⟩, HE⟩ := parse_done M6.out HGB.out (Nat.le_refl _) BW6.out HPP.out HRR.out (by simp; omega) (by show s.vals.length ≤ _; omega) (by show s.kids.length ≤ _; omega)
              refine bodyPost_ret (v := _) (by simp [results, Try.results29, go_sem, e0, e1, e2, e3]) rfl HE
            | true =>
              have HC6 : Hid (ND.cutT r4 = some (t2.toList, r6)) := Lib.hid (by rcases hw6 with ⟨_, h⟩ | ⟨h, _⟩; exact h; cases h)
              have HY6 := Lib.hid hy6
              have HR6 := Lib.hid hr6
              obtain ⟨p0, p1, p2, p3⟩ := M6.out.box.cells
              obtain ⟨f0, f1, f2, f3⟩ := M6.out.box.free
              clear hw6 hy6 hr6
              have ova : w6.ownsRow (gx + 1) 9 1 (.slice Av s.vals.length cw) s.vals.length (strVals s.vals) := M6.out.va
              go_wp2_with (at_builtin; refine wpList_append_lies _ rfl (.tmp 88) (.tmp 90) 23 rfl (gx + 1) 9 i0 _ 1 16 Try.underlying23 hi hz0 hz1 hz2 rfl (by decide) _ _ _ rfl (ova.alloc _) ⟨w6.heap.size, 0, none⟩ 1 1 [.string t2] rfl rfl (cell_one_new _ _ _) (by simp [Value.oneCell']) (by omega) (by unfold maxLen; omega) (by omega) (by simp; omega) _ rfl ?_; intro g4 cap4 w4 o4 gr4 at4 lt4; obtain ⟨y0, y1, S2, S3⟩ := npushV M6.out o4 gr4 at4)
              have B7 := Lib.hid (BW6.out.trans (S3.out.toBelow (fun j e => by omega) (by omega)))
              have Y7 := Lib.hid (HY6.out.below (S3.out.toBelow (fun j e => by omega) (by omega)))
              go_roundg (N - (k + 1))
              case measure => omega
              case rel => exact ⟨k + 1, _, _, _, rfl, by omega, rfl, by go_num, Lib.hid ⟨r6, _, _, _, _, S2.out, B7.out, HS.out, by simp; omega, by simp; omega, by show s.kids.length ≤ _; omega, HR6.out, hn6, hc6, Y7.out, by omega, by rw [HG1.out, goOn_val HC.out HC6.out]⟩⟩
        · obtain rfl : N = k := by omega
          have HN : Hid (ND.prs true l = if r.length = 0 then some s else none) := Lib.hid (by rw [HG.out, Nat.sub_self]; exact goOn_end HS.out)
          rw [hr3] at HN
          by_cases hr0 : n3 = 0
          · have HT : Hid (ND.prs true l = some s) := Lib.hid (HN.out.trans (if_pos hr0))
            subst hr0
            clear HP HG HN hr3 hn3 hc3 hy3
            obtain ⟨p0, p1, p2, p3⟩ := M.out.box.cells
            obtain ⟨q0, q1, q2, q3⟩ := M.out.res.cells
            obtain ⟨f0, f1, f2, f3⟩ := M.out.res.free
            have n1 : gb ≠ gx := Nat.ne_of_lt M.out.od
            have n4 : gx ≠ gb := Ne.symm n1
            have HPP := Lib.hid (show ∀ t, ND.prs true l = some t → s = t from fun t e => by rw [HT.out] at e; exact Option.some.inj e)
            have HRR := Lib.hid (show (ND.prs true l).isSome = true from by rw [HT.out]; rfl)
            go_wp2_with fail
            obtain ⟨⟨e0, e1, e2, e3⟩, HE⟩ := parse_done M.out HGB.out (Nat.le_refl _) BW.out HPP.out HRR.out (by omega) (by omega) (by omega)
            refine bodyPost_ret (v := _) (by simp [results, Try.results29, go_sem, e0, e1, e2, e3]) rfl HE
          · have HT : Hid (ND.prs true l = none) := Lib.hid (HN.out.trans (if_neg hr0))
            have hq := int_nz hr0
            clear HP HG HN hr3 hn3 hc3 hy3 hr0
            obtain ⟨p0, p1, p2, p3⟩ := M.out.box.cells
            obtain ⟨q0, q1, q2, q3⟩ := M.out.res.cells
            obtain ⟨f0, f1, f2, f3⟩ := M.out.res.free
            have n1 : gb ≠ gx := Nat.ne_of_lt M.out.od
            have n4 : gx ≠ gb := Ne.symm n1
            have HPP := Lib.hid (show ∀ q, ND.prs true l = some q → s = q from fun q e => by rw [HT.out] at e; cases e)
            have HRR := Lib.hid (show (ND.prs true l).isSome = false from by rw [HT.out]; rfl)
            go_wp2_with fail
            obtain ⟨⟨e0, e1, e2, e3⟩, HE⟩ := parse_done M.out HGB.out (Nat.le_refl _) BW.out HPP.out HRR.out (by omega) (by omega) (by omega)
            refine bodyPost_ret (v := _) (by simp [results, Try.results29, go_sem, e0, e1, e2, e3]) rfl HE

set_option maxRecDepth 20000 in
set_option maxHeartbeats 6400000 in
theorem parse_inner {R : Nat} (A : Option Addr) (n c : Nat) (l : List UInt8) (w : World) (hl : l.length = n) (hr : Bys w R A l) (hRR : R ≤ w.heap.size) (hnc : n ≤ c) (hm : c ≤ maxLen) :
    Calls Try.prog 29 #[.bool false, .slice A n c] w (ReadEnd w false l) := by
  obtain ⟨i0, hi, hz0, hz1, hz2⟩ := info_parts strInfo
  obtain ⟨i1, hi1, hy0, hy1, hy2⟩ := info_parts intInfo
  have HRG := Lib.hid hRR
  clear hRR
  have M0 := Lib.hid (nx_start w false)
  have B0 := Lib.hid (below_two w (.cells #[.bool false, .slice none 0 0, .slice none 0 0, .slice none 0 0] 26) (.cells #[.bool false, .slice none 0 0, .slice none 0 0, .slice none 0 0] 26))
  have HY0 := Lib.hid (hr.kept (below_two w (.cells #[.bool false, .slice none 0 0, .slice none 0 0, .slice none 0 0] 26) (.cells #[.bool false, .slice none 0 0, .slice none 0 0, .slice none 0 0] 26)))
  have HL := Lib.hid hl
  clear hr
  by_cases h2 : n < 2
  · have HN : Hid (ND.prs false l = none) := Lib.hid (prs_short (by omega))
    clear hl
    go_enter Try.func29, Try.ntmps29
    go_upto_region 2 with fail
    generalize (w.alloc (.cells #[.bool false, .slice none 0 0, .slice none 0 0, .slice none 0 0] 26)).alloc (.cells #[.bool false, .slice none 0 0, .slice none 0 0, .slice none 0 0] 26) = w0 at *
    generalize w.heap.size + 1 = gx at *
    generalize hgb : w.heap.size = gb at *
    have HGB := Lib.hid hgb
    clear hgb
    obtain ⟨p0, p1, p2, p3⟩ := M0.out.box.cells
    obtain ⟨q0, q1, q2, q3⟩ := M0.out.res.cells
    obtain ⟨f0, f1, f2, f3⟩ := M0.out.res.free
    have n1 : gb ≠ gx := Nat.ne_of_lt M0.out.od
    have n4 : gx ≠ gb := Ne.symm n1
    have HPP := Lib.hid (show ∀ q, ND.prs false l = some q → ND.mk false [] [] [] = q from fun q e => by rw [HN.out] at e; cases e)
    have HRR := Lib.hid (show (ND.prs false l).isSome = false from by rw [HN.out]; rfl)
    go_wp2_with fail
    obtain ⟨⟨e0, e1, e2, e3⟩, HE⟩ := parse_done M0.out HGB.out (Nat.le_refl _) B0.out HPP.out HRR.out (by simp) (by simp) (by simp)
    refine bodyPost_ret (v := _) (by simp [results, Try.results29, go_sem, e0, e1, e2, e3]) rfl HE
  · obtain ⟨x, y, ex, ey, exy⟩ := two_get (l := l) (by omega)
    obtain ⟨hN, hP⟩ := prs_two (lf := false) (l := l) (by omega)
    obtain ⟨b, off, rfl, _, hc⟩ := bys_off HY0.out (by omega)
    have cx := hc 0 x ex
    have cy := hc 1 y ey
    rw [Nat.add_zero] at cx
    rw [exy] at hN hP
    have HN := Lib.hid hN
    have HP := Lib.hid (hP.trans (if_neg (by decide)))
    have j0 : (0 : Int) < (n : Int) := by omega
    have j1 : (1 : Int) < (n : Int) := by omega
    clear ex ey exy hN hP hc hl
    go_enter Try.func29, Try.ntmps29
    go_upto_region 2 with fail
    generalize (w.alloc (.cells #[.bool false, .slice none 0 0, .slice none 0 0, .slice none 0 0] 26)).alloc (.cells #[.bool false, .slice none 0 0, .slice none 0 0, .slice none 0 0] 26) = w0 at *
    generalize w.heap.size + 1 = gx at *
    generalize hgb : w.heap.size = gb at *
    have HGB := Lib.hid hgb
    clear hgb
    go_wp2_with fail
    go_quiet (fail)
    rw [two_spell]
    generalize bn [x, y] = N at *
    have M1 := Lib.hid (M0.out.next (belowN (Below.refl _ _) nq))
    have B1 : Hid (Below gb w (w0.drewN nq)) := Lib.hid (belowN B0.out nq)
    have HY1 := Lib.hid (HY0.out.kept (belowN (Below.refl _ _) nq))
    clear cx cy M0 B0 HY0
    generalize w0.drewN nq = wq at *
    have hNN := HN.out
    go_upto_region 5 with fail
    obtain ⟨wx, hwx⟩ : ∃ wx, wx = wq := ⟨_, rfl⟩
    go_cut [1] (fun s1 w5 => ∃ (A2 : Option Addr) (c2 : Nat), s1 = .slice A2 (n - 2) c2 ∧ n - 2 ≤ c2 ∧ c2 ≤ maxLen ∧ Hid (Bys wx R A2 (l.drop 2)) ∧ w5 = wx)
    case first =>
      have hm2 := hm
      unfold maxLen at hm2
      by_cases hc2 : c = 2
      · subst hc2
        obtain rfl : n = 2 := by omega
        have HE : Hid (l.drop 2 = []) := Lib.hid (List.drop_eq_nil_of_le (by rw [HL.out]; omega))
        go_wp2_with fail
        go_meet
        exact ⟨_, 0, rfl, Nat.le_refl _, Nat.zero_le _, by rw [HE.out]; exact Lib.hid (Bys.nil _ _ _), hwx.symm⟩
      · have HD := HY1.out.drop 2
        have HDD := Lib.hid HD
        have k1 : (2 : Int) ≤ (n : Int) := by omega
        have k2 : (n : Int) ≤ (c : Int) := by omega
        clear HD
        go_wp2_with fail
        go_meet
        exact ⟨_, c - 2, rfl, by omega, by omega, by rw [hwx]; exact HDD, hwx.symm⟩
    case rest =>
      obtain ⟨A2, c2, rfl, hn2, hc2, HY2, hw5⟩ := hcut
      subst hw5
      subst hwx
      have HL2 : Hid ((l.drop 2).length = n - 2) := Lib.hid (by rw [List.length_drop, HL.out])
      clear HY1
      have hltx := M1.out.box.lt
      have hgg := M1.out.od
      go_wp2_with fail
      refine (rkid_any A2 (n - 2) c2 (l.drop 2) wc HL2.out HY2.out hn2 hc2).mono ?_
      rintro e w6 ⟨z2, A6, n6, c6, r6, okk, rfl, hr6, hn6, hc6, hy6, b6, hle6, hw6⟩
      have M6 := Lib.hid (M1.out.next b6)
      have BW6 := Lib.hid (B1.out.trans (b6.mono (by omega)))
      have hlt6 := M6.out.box.lt
      clear b6 M1 B1 HY2
      cases okk with
      | false =>
        have HNN : Hid (ND.prs false l = none) := Lib.hid (by
          rw [HP.out]
          rcases hw6 with ⟨h, _⟩ | ⟨_, h⟩
          · cases h
          · rw [h])
        clear hw6 hr6 hn6 hc6 hy6 hle6
        obtain ⟨p0, p1, p2, p3⟩ := M6.out.box.cells
        obtain ⟨q0, q1, q2, q3⟩ := M6.out.res.cells
        obtain ⟨f0, f1, f2, f3⟩ := M6.out.res.free
        have n1 : gb ≠ gx := Nat.ne_of_lt M6.out.od
        have n4 : gx ≠ gb := Ne.symm n1
        have HPP := Lib.hid (show ∀ q, ND.prs false l = some q → ND.mk false [] [] [] = q from fun q e => by rw [HNN.out] at e; cases e)
        have HRR := Lib.hid (show (ND.prs false l).isSome = false from by rw [HNN.out]; rfl)
        go_wp2_with fail
        obtain ⟨⟨e0, e1, e2, e3⟩, HE⟩ := parse_done M6.out HGB.out (Nat.le_refl _) BW6.out HPP.out HRR.out (by simp) (by simp) (by simp)
        refine bodyPost_ret (v := _) (by simp [results, Try.results29, go_sem, e0, e1, e2, e3]) rfl HE
      | true =>
        have HG6 : Hid (ND.prs false l = goOn false N r6 ⟨false, [], [], [z2]⟩) := Lib.hid (by
          rw [HP.out]
          rcases hw6 with ⟨_, h⟩ | ⟨h, _⟩
          · rw [h]
          · cases h)
        have HY6 := Lib.hid hy6
        have HR6 := Lib.hid hr6
        obtain ⟨p0, p1, p2, p3⟩ := M6.out.box.cells
        obtain ⟨f0, f1, f2, f3⟩ := M6.out.box.free
        clear hw6 hy6 hr6
        have oki : w6.ownsRow (gx + 1) 3 1 (.slice none 0 0) 0 (intVals []) := M6.out.ki
        have hRb := HRG.out
        go_wp2_with (at_builtin; refine wpList_append_lies _ rfl (.tmp 51) (.tmp 53) 24 rfl (gx + 1) 3 i1 _ 1 8 Try.underlying24 hi1 hy0 hy1 hy2 rfl (by decide) _ _ _ rfl (oki.alloc _) ⟨w6.heap.size, 0, none⟩ 1 1 [.int .i64 z2] rfl rfl (cell_one_new _ _ _) (by simp [Value.oneCell']) (by omega) (by unfold maxLen; omega) (by omega) (by simp; omega) _ rfl ?_; intro g4 cap4 w4 o4 gr4 at4 lt4; obtain ⟨y0, y1, S2, S3⟩ := npushC M6.out o4 gr4)
        have B7 := Lib.hid (BW6.out.trans (S3.out.toBelow (fun j e => by omega) (by omega)))
        have Y7 := Lib.hid (HY6.out.below (S3.out.toBelow (fun j e => by omega) (by omega)))
        have H0 := Lib.hid (PP.mk (w0 := w) (gb := gb) (N := N) (k := 0) (lf := false) (l := l) (R := R) (A := A6) (n := n6) (c := c6) ⟨r6, _, _, _, _, S2.out, B7.out, rfl, Nat.zero_le _, Nat.zero_le _, Nat.le_refl _, HR6.out, hn6, hc6, Y7.out, HRG.out, by rw [HG6.out, Nat.sub_zero]; rfl⟩)
        clear p0 p1 p2 p3 f0 f1 f2 f3 y0 y1 o4 gr4 at4 lt4 oki B7 Y7 S2 S3 HY6 HR6 HG6 M6 BW6 HP HL2
        go_wp2_with fail
        go_loopg [1, 11] N (fun g v i wr => ∃ (k : Nat) (A3 : Option Addr) (n3 c3 : Nat), g = N - k ∧ k ≤ N ∧ v = .slice A3 n3 c3 ∧ i = .int .i64 k ∧ Hid (PP w wr gb gb gx R false l N k A3 n3 c3))
        case atStart => exact ⟨0, _, _, _, rfl, Nat.zero_le _, rfl, rfl, H0⟩
        case round =>
          obtain ⟨k, A3, n3, c3, rfl, hk, rfl, rfl, HP⟩ := hrel
          obtain ⟨r, s, kv, vv, cv, m, hB, hs, lk, lv, lc, hr3, hn3, hc3, hy3, hR3, hG⟩ := HP.out.is
          obtain ⟨Ak, ck, rfl, _, _⟩ := Ln.of_own m.ke
          obtain ⟨Av, cw, rfl, _, _⟩ := Ln.of_own m.va
          obtain ⟨Ac, cc, rfl, _, _⟩ := Ln.of_own m.ki
          have M := Lib.hid m
          have BW := Lib.hid hB
          have HS := Lib.hid hs
          have HG := Lib.hid hG
          have hlt3 := m.box.lt
          have hgg := m.od
          clear m hB hs hG
          by_cases hlt : k < N
          · have HCT := Lib.hid (rcut_any A3 n3 c3 r wr hr3 hy3 hn3 hc3)
            have HG1 : Hid (ND.prs false l = goOn false (N - (k + 1) + 1) r s) := Lib.hid (by rw [show N - (k + 1) + 1 = N - k by omega]; exact HG.out)
            clear hr3 hy3 hn3 hc3 HP HG
            go_wp2_with fail
            refine HCT.out.mono ?_
            rintro e w2 ⟨t, A4, n4, c4, r4, okk, rfl, hr4, hn4, hc4, hy4, b4, hle4, hw4⟩
            have M2 := Lib.hid (M.out.next b4)
            have BW2 := Lib.hid (BW.out.trans (b4.mono (by omega)))
            have hlt4 := M2.out.box.lt
            clear b4 M BW HCT
            cases okk with
            | false =>
              have HN : Hid (ND.prs false l = none) := Lib.hid (by rw [HG1.out]; rcases hw4 with ⟨h, _⟩ | ⟨_, h⟩; cases h; exact goOn_none h)
              clear hw4 hr4 hn4 hc4 hy4 hle4
              obtain ⟨p0, p1, p2, p3⟩ := M2.out.box.cells
              obtain ⟨q0, q1, q2, q3⟩ := M2.out.res.cells
              obtain ⟨f0, f1, f2, f3⟩ := M2.out.res.free
              have n1 : gb ≠ gx := Nat.ne_of_lt M2.out.od
              have n4 : gx ≠ gb := Ne.symm n1
              have HPP := Lib.hid (show ∀ q, ND.prs false l = some q → s = q from fun q e => by rw [HN.out] at e; cases e)
              have HRR := Lib.hid (show (ND.prs false l).isSome = false from by rw [HN.out]; rfl)
              go_wp2_with fail
              obtain ⟨⟨e0, e1, e2, e3⟩, HE⟩ := parse_done M2.out HGB.out (Nat.le_refl _) BW2.out HPP.out HRR.out (by omega) (by omega) (by omega)
              refine bodyPost_ret (v := _) (by simp [results, Try.results29, go_sem, e0, e1, e2, e3]) rfl HE
            | true =>
              have HC : Hid (ND.cutT r = some (t.toList, r4)) := Lib.hid (by rcases hw4 with ⟨_, h⟩ | ⟨h, _⟩; exact h; cases h)
              have HY4 := Lib.hid hy4
              have HR4 := Lib.hid hr4
              obtain ⟨p0, p1, p2, p3⟩ := M2.out.box.cells
              obtain ⟨f0, f1, f2, f3⟩ := M2.out.box.free
              clear hw4 hy4 hr4
              go_wp2_with (at_builtin; refine wpList_append_lies _ rfl (.tmp 72) (.tmp 74) 23 rfl (gx + 1) 9 i0 _ 1 16 Try.underlying23 hi hz0 hz1 hz2 rfl (by decide) _ _ _ rfl (M2.out.ke.alloc _) ⟨w2.heap.size, 0, none⟩ 1 1 [.string t] rfl rfl (cell_one_new _ _ _) (by simp [Value.oneCell']) (by omega) (by unfold maxLen; omega) (by omega) (by simp; omega) _ rfl ?_; intro g4 cap4 w4 o4 gr4 at4 lt4; obtain ⟨y0, y1, S2, S3⟩ := npushK M2.out o4 gr4 at4)
              obtain ⟨w5, hw5⟩ : ∃ w5, w5 = w4.setCell ⟨gx, 1, none⟩ (.slice (some ⟨g4, 0, none⟩) (s.keys.length + 1) cap4) := ⟨_, rfl⟩
              rw [← hw5] at S2 S3 ⊢
              clear hw5 p0 p1 p2 p3 f0 f1 f2 f3 y0 y1 o4 gr4 at4 lt4
              have B5 : Hid (Below gb w w5) := Lib.hid (BW2.out.trans (S3.out.toBelow (fun j e => by omega) (by omega)))
              have Y5 : Hid (Bys w5 R A4 r4) := Lib.hid (HY4.out.below (S3.out.toBelow (fun j e => by omega) (by omega)))
              have hlt5 := S2.out.box.lt
              clear HY4 BW2 M2 S3
              refine (rkid_any A4 n4 c4 r4 w5 HR4.out Y5.out hn4 hc4).mono ?_
              rintro e w6 ⟨z2, A6, n6, c6, r6, okk, rfl, hr6, hn6, hc6, hy6, b6, hle6, hw6⟩
              have M6 := Lib.hid (S2.out.next b6)
              have BW6 := Lib.hid (B5.out.trans (b6.mono (by omega)))
              have hlt6 := M6.out.box.lt
              clear b6 S2 B5 Y5
              cases okk with
              | false =>
                have HN : Hid (ND.prs false l = none) := Lib.hid (by rw [HG1.out]; rcases hw6 with ⟨h, _⟩ | ⟨_, h⟩; cases h; exact goOn_nokid HC.out h)
                clear hw6 hr6 hn6 hc6 hy6 hle6
                obtain ⟨p0, p1, p2, p3⟩ := M6.out.box.cells
                obtain ⟨q0, q1, q2, q3⟩ := M6.out.res.cells
                obtain ⟨f0, f1, f2, f3⟩ := M6.out.res.free
                have n1 : gb ≠ gx := Nat.ne_of_lt M6.out.od
                have n4 : gx ≠ gb := Ne.symm n1
                have HPP := Lib.hid (show ∀ q, ND.prs false l = some q → ND.mk s.leaf (s.keys ++ [t.toList]) s.vals s.kids = q from fun q e => by rw [HN.out] at e; cases e)
                have HRR := Lib.hid (show (ND.prs false l).isSome = false from by rw [HN.out]; rfl)
                go_wp2_with fail
                obtain ⟨⟨e0, e1, e2, e3⟩, HE⟩ := parse_done M6.out HGB.out (Nat.le_refl _) BW6.out HPP.out HRR.out (by simp; omega) (by show s.vals.length ≤ _; omega) (by show s.kids.length ≤ _; omega)
                refine bodyPost_ret (v := _) (by simp [results, Try.results29, go_sem, e0, e1, e2, e3]) rfl HE
              | true =>
                have HC6 : Hid (ND.kidT r4 = some (z2, r6)) := Lib.hid (by rcases hw6 with ⟨_, h⟩ | ⟨h, _⟩; exact h; cases h)
                have HY6 := Lib.hid hy6
                have HR6 := Lib.hid hr6
                obtain ⟨p0, p1, p2, p3⟩ := M6.out.box.cells
                obtain ⟨f0, f1, f2, f3⟩ := M6.out.box.free
                clear hw6 hy6 hr6
                have oki : w6.ownsRow (gx + 1) 3 1 (.slice Ac s.kids.length cc) s.kids.length (intVals s.kids) := M6.out.ki
                go_wp2_with (at_builtin; refine wpList_append_lies _ rfl (.tmp 104) (.tmp 106) 24 rfl (gx + 1) 3 i1 _ 1 8 Try.underlying24 hi1 hy0 hy1 hy2 rfl (by decide) _ _ _ rfl (oki.alloc _) ⟨w6.heap.size, 0, none⟩ 1 1 [.int .i64 z2] rfl rfl (cell_one_new _ _ _) (by simp [Value.oneCell']) (by omega) (by unfold maxLen; omega) (by omega) (by simp; omega) _ rfl ?_; intro g4 cap4 w4 o4 gr4 at4 lt4; obtain ⟨y0, y1, S2, S3⟩ := npushC M6.out o4 gr4)
                have B7 := Lib.hid (BW6.out.trans (S3.out.toBelow (fun j e => by omega) (by omega)))
                have Y7 := Lib.hid (HY6.out.below (S3.out.toBelow (fun j e => by omega) (by omega)))
                go_roundg (N - (k + 1))
                case measure => omega
                case rel => exact ⟨k + 1, _, _, _, rfl, by omega, rfl, by go_num, Lib.hid ⟨r6, _, _, _, _, S2.out, B7.out, HS.out, by simp; omega, by show s.vals.length ≤ _; omega, by simp; omega, HR6.out, hn6, hc6, Y7.out, by omega, by rw [HG1.out, goOn_kid HC.out HC6.out]⟩⟩
          · obtain rfl : N = k := by omega
            have HN : Hid (ND.prs false l = if r.length = 0 then some s else none) := Lib.hid (by rw [HG.out, Nat.sub_self]; exact goOn_end HS.out)
            rw [hr3] at HN
            by_cases hr0 : n3 = 0
            · have HT : Hid (ND.prs false l = some s) := Lib.hid (HN.out.trans (if_pos hr0))
              subst hr0
              clear HP HG HN hr3 hn3 hc3 hy3
              obtain ⟨p0, p1, p2, p3⟩ := M.out.box.cells
              obtain ⟨q0, q1, q2, q3⟩ := M.out.res.cells
              obtain ⟨f0, f1, f2, f3⟩ := M.out.res.free
              have n1 : gb ≠ gx := Nat.ne_of_lt M.out.od
              have n4 : gx ≠ gb := Ne.symm n1
              have HPP := Lib.hid (show ∀ t, ND.prs false l = some t → s = t from fun t e => by rw [HT.out] at e; exact Option.some.inj e)
              have HRR := Lib.hid (show (ND.prs false l).isSome = true from by rw [HT.out]; rfl)
              go_wp2_with fail
              obtain ⟨⟨e0, e1, e2, e3⟩, HE⟩ := parse_done M.out HGB.out (Nat.le_refl _) BW.out HPP.out HRR.out (by omega) (by omega) (by omega)
              refine bodyPost_ret (v := _) (by simp [results, Try.results29, go_sem, e0, e1, e2, e3]) rfl HE
            · have HT : Hid (ND.prs false l = none) := Lib.hid (HN.out.trans (if_neg hr0))
              have hq := int_nz hr0
              clear HP HG HN hr3 hn3 hc3 hy3 hr0
              obtain ⟨p0, p1, p2, p3⟩ := M.out.box.cells
              obtain ⟨q0, q1, q2, q3⟩ := M.out.res.cells
              obtain ⟨f0, f1, f2, f3⟩ := M.out.res.free
              have n1 : gb ≠ gx := Nat.ne_of_lt M.out.od
              have n4 : gx ≠ gb := Ne.symm n1
              have HPP := Lib.hid (show ∀ q, ND.prs false l = some q → s = q from fun q e => by rw [HT.out] at e; cases e)
              have HRR := Lib.hid (show (ND.prs false l).isSome = false from by rw [HT.out]; rfl)
              go_wp2_with fail
              obtain ⟨⟨e0, e1, e2, e3⟩, HE⟩ := parse_done M.out HGB.out (Nat.le_refl _) BW.out HPP.out HRR.out (by omega) (by omega) (by omega)
              refine bodyPost_ret (v := _) (by simp [results, Try.results29, go_sem, e0, e1, e2, e3]) rfl HE
end Go.Proofs.Ytgnlmbelaempcaa
