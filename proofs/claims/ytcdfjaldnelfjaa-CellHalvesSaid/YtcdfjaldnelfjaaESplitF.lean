/-
  What cell's Split comes to, of inner nodes.
-/
import Derived.Test.YtcdfjaldnelfjaaESplitP
import Derived.Deep.DeepCutAuto
import Derived.RegionTactic
import Derived.IntWalk
namespace Go.Proofs.Ytcdfjaldnelfjaa
open Go.RowKit

set_option maxRecDepth 20000 in
set_option maxHeartbeats 12800000 in
theorem split_inner (A : Option Addr) (n c : Nat) (B : Option Addr) (m d : Nat) (C : Option Addr) (k e : Nat) (s : ND) (w : World) (h : Nd w A n c B m d C k e s) (hl : s.leaf = false) (ho : s.ok = true) (hz : s.size ≤ 1000000) (hE : s.ents.sum ≤ 100000000) :
    Calls Try.prog 26 #[.agg #[.bool false, .slice A n c, .slice B m d, .slice C k e]] w (SplitEnd w s) := by
  obtain ⟨tb1, tb2, tb3, tb4⟩ := nbox_three w (.bool false) (.slice A n c) (.slice B m d) (.slice C k e) (.bool false) (.slice none 0 0) (.slice none 0 0) (.slice none 0 0)
  have HS := Lib.hid (h.kept tb4)
  have HB := Lib.hid tb1
  have HR := Lib.hid tb2
  have HT := Lib.hid tb3
  have B0 := Lib.hid tb4
  have HL := Lib.hid hl
  have HO := Lib.hid ho
  have HZ := Lib.hid hz
  have HE := Lib.hid hE
  have HN := Lib.hid h.kn
  have HVN := Lib.hid h.vn
  have HCN := Lib.hid h.cn
  have hsz : n ≤ 1000000 ∧ m ≤ 1000000 ∧ k ≤ 1000000 := by have h1 := h.kn; have h2 := h.vn; have h3 := h.cn; unfold ND.size ND.tsz at hz; omega
  obtain ⟨hn, hm, hk⟩ := hsz
  clear h hl ho hz hE tb1 tb2 tb3 tb4
  go_enter Try.func26, Try.ntmps26
  go_upto_region 1 with fail
  generalize ((w.alloc (.cells #[.bool false, .slice A n c, .slice B m d, .slice C k e] 25)).alloc (.cells #[.bool false, .slice none 0 0, .slice none 0 0, .slice none 0 0] 25)).alloc (.cells #[.bool false, .slice none 0 0, .slice none 0 0, .slice none 0 0] 25) = w0 at *
  have hg := HB.out.lt
  have hr := HR.out.lt
  have hr2 := HT.out.lt
  have gr1 : w.heap.size ≤ w.heap.size + 1 := Nat.le_succ _
  have gr2 : w.heap.size ≤ w.heap.size + 1 + 1 := by omega
  have hne : w.heap.size + 1 ≠ w.heap.size + 1 + 1 := by omega
  have hx1 : w.heap.size < w.heap.size + 1 := by omega
  have hx2 : w.heap.size < w.heap.size + 1 + 1 := by omega
  generalize w.heap.size + 1 + 1 = r2 at *
  generalize w.heap.size + 1 = r1 at *
  have hne2 : ¬ r1 = r2 := hne
  have hne3 : ¬ r2 = r1 := fun e => hne e.symm
  obtain ⟨c0, c1, c2, c3⟩ := HB.out.cells
  have HG : Hid (s.gone = 1) := Lib.hid (by unfold ND.gone; rw [HL.out]; rfl)
  by_cases hs : n < 2 + 1
  case pos =>
    obtain ⟨x1, x2, x3, x4⟩ := ND.split_no (s := s) (by rw [HN.out, HG.out]; exact hs)
    have X1 := Lib.hid x1
    have X2 := Lib.hid x2
    have X3 := Lib.hid x3
    have X4 := Lib.hid x4
    obtain ⟨D1, D2, D3⟩ := split_done (v := .agg #[.bool false, .slice none 0 0, .slice none 0 0, .slice none 0 0]) (u := .agg #[.bool false, .slice none 0 0, .slice none 0 0, .slice none 0 0]) B0.out gr1 gr2 hne HR.out HT.out (ndv_zero w0 0) (ndv_zero w0 0) (.bool false) (.slice none 0 0) (.slice none 0 0) (.slice none 0 0) (.bool false) (.slice none 0 0) (.slice none 0 0) (.slice none 0 0)
    have HD1 := Lib.hid D1
    have HD2 := Lib.hid D2
    have HD3 := Lib.hid D3
    obtain ⟨S1, S2, S3⟩ := split_cells hne HR.out HT.out (.bool false) (.slice none 0 0) (.slice none 0 0) (.slice none 0 0) (.bool false) (.slice none 0 0) (.slice none 0 0) (.slice none 0 0)
    have HS1 := Lib.hid S1.cells
    have HS2 := Lib.hid S2.cells
    obtain ⟨f0, f1, f2, f3⟩ := HR.out.free
    obtain ⟨g0, g1, g2, g3⟩ := HT.out.free
    obtain ⟨t0, t1, t2, t3⟩ := HR.out.cells
    obtain ⟨u0, u1, u2, u3⟩ := HT.out.cells
    clear x1 x2 x3 x4 D1 D2 D3 S1 S2 S3 hne
    go_wp2_with fail
    obtain ⟨y0, y1, y2, y3⟩ := HS1.out
    obtain ⟨z0, z1, z2, z3⟩ := HS2.out
    refine bodyPost_ret (v := .tuple #[.agg #[.bool false, .slice none 0 0, .slice none 0 0, .slice none 0 0], .string ⟨#[]⟩, .agg #[.bool false, .slice none 0 0, .slice none 0 0, .slice none 0 0], .int .i64 100]) (by simp [results, Try.results26, go_sem, y0, y1, y2, y3, z0, z1, z2, z3]) rfl ?_
    exact ⟨_, _, by rw [X1.out, X4.out]; rfl, by rw [X2.out]; exact HD1.out, by rw [X3.out]; exact HD2.out, HD3.out⟩
  case neg =>
    obtain ⟨x1, x2, x3, x4⟩ := ND.split_yes (s := s) (by rw [HN.out, HG.out]; exact hs)
    have hlt := ND.splitAt_lt (s := s) (by rw [HN.out, HG.out]; exact hs)
    have hpd : s.splitAt = min (ND.hN s.ents) (n - 1 - 1) := by unfold ND.splitAt; rw [HN.out, HG.out]
    rw [HN.out, HG.out] at hlt
    rw [HG.out] at x3
    obtain ⟨p, hp⟩ : ∃ p, s.splitAt = p := ⟨_, rfl⟩
    rw [hp] at x2 x3 x4 hlt hpd
    have X1 := Lib.hid x1
    have X2 := Lib.hid x2
    have X3 := Lib.hid x3
    have X4 := Lib.hid x4
    have HP := Lib.hid hpd
    have hn2 : 2 + 1 ≤ n := by omega
    clear x1 x2 x3 x4 hp hpd hs
    go_upto_region 7 with fail
    go_cut [8] (fun s8 wx => s8 = .int .i64 (p : Int) ∧ Hid (Below w0.heap.size w0 wx))
    case first =>
      go_wp2_with fail
      refine (half_any false A n c B m d C k e s w0 HS.out HL.out HO.out HZ.out HE.out).mono ?_
      rintro e1 w1 ⟨rfl, b1⟩
      have B1 := Lib.hid b1
      have HP2 := HP.out
      clear b1 c0 c1 c2 c3
      generalize ND.hN s.ents = hh at *
      rcases Nat.lt_or_ge (n - 1 - 1) hh with h5 | h5
      · have h6 : p = n - 1 - 1 := by omega
        have HP6 := Lib.hid h6
        have h7 : (n : Int) - 2 < (hh : Int) := by omega
        clear HP2 h6
        go_wp2_with fail
        all_goals (
          go_meet
          exact ⟨by rw [HP6.out]; congr 1; omega, B1⟩)
      · have h6 : hh = p := by omega
        have h7 : (hh : Int) ≤ (n : Int) - 2 := by omega
        clear HP2
        subst h6
        go_wp2_with fail
        all_goals (
          go_meet
          exact ⟨rfl, B1⟩)
    case rest =>
      obtain ⟨rfl, BC⟩ := hcut
      have BB := Lib.hid (chainN BC.out B0.out)
      have HS1 := Lib.hid (HS.out.kept BC.out)
      have HB1 := Lib.hid (HB.out.kept BC.out)
      have HR1 := Lib.hid (HR.out.kept BC.out)
      have HT1 := Lib.hid (HT.out.kept BC.out)
      have hc := HS1.out.ke.le
      have hg1 := HB1.out.lt
      clear BC c0 c1 c2 c3 HB HR HT HS hg hr hr2
      obtain ⟨w1, hw1⟩ : ∃ w1 : World, w1 = wc := ⟨_, rfl⟩
      subst hw1
      go_upto_region 8 with fail
      go_cut [9] (fun s9 wx => Part w1 wx false p (s.keys.take p) s9)
      case first =>
        rename_i JJ KK HJ HM
        refine wp_region_flow 10 1 (SP.at_ (partF w1 w.heap.size false A n c p s)) (by kernel_rfl) rfl (by kernel_rfl) (by kernel_rfl) (by kernel_rfl) (SP.at_st _) ?_ ?_
        · intro i o L a wx hi ho h hd
          have e1 : a.eval (.tmp 1) = .pointer (some ⟨w.heap.size, 0, none⟩) := (h.old 1 (by kernel_rfl)).trans rfl
          have e8 : a.eval (.tmp 8) = .int .i64 (p : Int) := (h.old 8 (by kernel_rfl)).trans rfl
          obtain ⟨c0, c1, c2, c3⟩ := (HB1.out.kept h.below).cells
          match i, hi, ho, hd with
          | 0, _, ho, hd =>
            obtain rfl := Option.some.inj ho
            refine wpOp_step rfl (fun K hK => ?_)
            refine (if_pos (by rfl)).mpr ?_
            have q0 := got e1
            go_simp
            exact hK _ _ ⟨_, _, rfl, rfl, rfl, Below.refl _ _⟩
          | 1, _, ho, hd =>
            obtain rfl := Option.some.inj ho
            refine wpOp_step rfl (fun K hK => ?_)
            refine (if_pos (by rfl)).mpr ?_
            have q0 := got (h.got 0 _ _ rfl (by decide) (hd ⟨0, .data⟩ (by simp) rfl) rfl)
            go_simp
            exact hK _ _ ⟨_, _, rfl, rfl, rfl, Below.refl _ _⟩
          | 2, _, ho, hd =>
            obtain rfl := Option.some.inj ho
            refine wpOp_step rfl (fun K hK => ?_)
            refine (if_pos (by rfl)).mpr ?_
            have q0 := got e1
            go_simp
            exact hK _ _ ⟨_, _, rfl, rfl, rfl, Below.refl _ _⟩
          | 3, _, ho, hd =>
            obtain rfl := Option.some.inj ho
            refine wpOp_step rfl (fun K hK => ?_)
            refine (if_pos (by rfl)).mpr ?_
            have q0 := got (h.got 2 _ _ rfl (by decide) (hd ⟨2, .data⟩ (by simp) rfl) rfl)
            go_simp
            exact hK _ _ ⟨_, _, rfl, rfl, rfl, Below.refl _ _⟩
          | 4, _, ho, hd =>
            obtain rfl := Option.some.inj ho
            refine wpOp_step rfl (fun K hK => ?_)
            refine (if_pos (by rfl)).mpr ?_
            have q0 := got e8
            go_simp
            exact hK _ _ ⟨_, _, rfl, rfl, rfl, Below.refl _ _⟩
          | 5, _, ho, hd =>
            obtain rfl := Option.some.inj ho
            refine wpOp_step rfl (fun K hK => ?_)
            refine (if_pos (by rfl)).mpr ?_
            have q0 := got (h.got 3 _ _ rfl (by decide) (hd ⟨3, .data⟩ (by simp) rfl) rfl)
            have q1 := got (h.got 4 _ _ rfl (by decide) (hd ⟨4, .data⟩ (by simp) rfl) rfl)
            have hu := upto_S (n := n) (c := c) (k := p) A (by omega) hc wx
            go_simp
            exact hK _ _ ⟨_, _, rfl, rfl, rfl, Below.refl _ _⟩
          | 6, _, ho, hd =>
            obtain rfl := Option.some.inj ho
            refine wpOp_step rfl (fun K hK => ?_)
            refine (if_pos (by rfl)).mpr ?_
            have q5 := got (h.got 5 _ _ rfl (by decide) (hd ⟨5, .data⟩ (by simp) rfl) rfl)
            go_simp
            exact hK _ _ ⟨_, _, rfl, rfl, ⟨_, rfl, pile_one (ln_strTake (HS1.out.ke.kept h.below) (by omega)) (strVals_one _) _⟩, below_one _ _⟩
          | 7, _, ho, hd =>
            obtain rfl := Option.some.inj ho
            refine wpOp_step rfl (fun K hK => ?_)
            refine (if_pos (by rfl)).mpr ?_
            obtain ⟨p9, ep, hp9⟩ := (h.got 6 _ _ rfl (by decide) (hd ⟨6, .data⟩ (by simp) rfl) rfl)
            have q0 := got ep
            have hbs := h.below.size
            go_simp
            refine (ejoin_S _ 1 1 (p) _ wx hp9 rfl (by simp [tot]) (by omega) (by decide)).mono ?_
            rintro e w3 ⟨v3, rfl, o3, b3⟩
            rw [epcs_one] at o3
            exact hK _ _ ⟨v3, _, rfl, rfl, ln_of_row o3 rfl (Nat.zero_le _), b3⟩
          | 8, _, ho, hd =>
            obtain rfl := Option.some.inj ho
            refine wpOp_step rfl (fun K hK => ?_)
            refine (if_pos (by rfl)).mpr ?_
            have q1 := got (h.got 1 _ _ rfl (by decide) (hd ⟨1, .data⟩ (by simp) rfl) rfl)
            obtain ⟨A9, a9, z9, l9, i9, _⟩ := (h.got 7 _ _ rfl (by decide) (hd ⟨7, .data⟩ (by simp) rfl) rfl)
            have y9 := got z9
            go_simp
            exact hK _ _ ⟨_, _, rfl, rfl, ⟨A9, _, a9, none, 0, 0, none, 0, 0, rfl, ⟨l9, Ln.none_ _ 1, Ln.none_ _ 1⟩, i9, NHi.none_ _, NHi.none_ _⟩, Below.refl _ _⟩
          | 9, _, ho, hd =>
            obtain rfl := Option.some.inj ho
            refine wpOp_step rfl (fun K hK => ?_)
            refine (if_pos (by rfl)).mpr ?_
            go_simp
            exact hK _ _ ⟨_, _, rfl, rfl, ⟨_, rfl, nbox_new wx _ _ _ _, h.below.size⟩, below_one _ _⟩
          | j + 10, hi, _, _ => exact absurd hi (by omega)
        · intro mm L a wx h hd
          refine wpAny_ready (rs := [10]) (by decide +kernel) (by simp) (AllReady.cons rfl (fun K hK => ?_) AllReady.nil)
          refine (if_pos (by rfl)).mpr ?_
          obtain ⟨A', n', c', B', m', d', C', k', e', ev, hN, _, _, _⟩ := h.got 8 _ _ rfl (by decide) (hd 8 (by decide)) rfl
          obtain ⟨q, eq9, hq, hq2⟩ := h.got 9 _ _ rfl (by decide) (hd 9 (by decide)) rfl
          obtain rfl : p = n' := by have := hN.kn; simp only [List.length_take] at this; rw [HN.out] at this; omega
          obtain rfl : m' = 0 := hN.vn.symm
          obtain rfl : k' = 0 := hN.cn.symm
          have q0 := got ev
          have q2 := got eq9
          obtain ⟨x0, x1, x2, x3⟩ := hq.cells
          obtain ⟨f0, f1, f2, f3⟩ := hq.free
          go_simp
          refine hK _ _ ?_
          refine wpAny_done (by decide +kernel) ?_ _
          have E := h.frame 73 (fun j => Nat.blt j 9 || (Nat.blt 9 j && Nat.blt j 27) || Nat.blt 35 j) rfl (by kernel_rfl) rfl
          refine HM _ _ (Met.intro (HJ _ _ ?_))
          (repeat apply Exists.intro)
          refine ⟨?rel, ?fr⟩
          case fr => exact E
          case rel => exact part_done eq9 hq hN hq2 h.below
      case rest =>
        obtain ⟨q1, A1, c1, B1, d1, C1, e1, rfl, hb1, hl1, hq1, hq1b, be1⟩ := hcut
        have NB1 := Lib.hid hb1
        have LN1 := Lib.hid hl1
        have BE1 := Lib.hid be1
        clear hb1 hl1 be1
        obtain ⟨w2, hw2⟩ : ∃ w2 : World, w2 = wc := ⟨_, rfl⟩
        subst hw2
        go_upto_region 9 with fail
        go_cut [10] (fun s10 wx => Part w2 wx false (n - (p + 1)) (s.keys.drop (p + 1)) s10)
        case first =>
          rename_i JJ KK HJ HM
          have HS2 := Lib.hid (HS1.out.kept BE1.out)
          have HB2 := Lib.hid (HB1.out.kept BE1.out)
          have HW : Hid (IntKind.i64.wrap ((p : Int) + 1) = (p : Int) + 1) := Lib.hid (IntWalk.i64_in _ (by omega))
          refine wp_region_flow 12 1 (SP.at_ (restF w2 w.heap.size false A n c p 1 s)) (by kernel_rfl) rfl (by kernel_rfl) (by kernel_rfl) (by kernel_rfl) (SP.at_st _) ?_ ?_
          · intro i o L a wx hi ho h hd
            have e1 : a.eval (.tmp 1) = .pointer (some ⟨w.heap.size, 0, none⟩) := (h.old 1 (by kernel_rfl)).trans rfl
            have e8 : a.eval (.tmp 8) = .int .i64 (p : Int) := (h.old 8 (by kernel_rfl)).trans rfl
            have e6 : a.eval (.tmp 6) = .int .i64 ((1 : Nat) : Int) := (h.old 6 (by kernel_rfl)).trans rfl
            obtain ⟨c0, c1, c2, c3⟩ := (HB2.out.kept h.below).cells
            match i, hi, ho, hd with
            | 0, _, ho, hd =>
              obtain rfl := Option.some.inj ho
              refine wpOp_step rfl (fun K hK => ?_)
              refine (if_pos (by rfl)).mpr ?_
              have q0 := got e1
              go_simp
              exact hK _ _ ⟨_, _, rfl, rfl, rfl, Below.refl _ _⟩
            | 1, _, ho, hd =>
              obtain rfl := Option.some.inj ho
              refine wpOp_step rfl (fun K hK => ?_)
              refine (if_pos (by rfl)).mpr ?_
              have q0 := got (h.got 0 _ _ rfl (by decide) (hd ⟨0, .data⟩ (by simp) rfl) rfl)
              go_simp
              exact hK _ _ ⟨_, _, rfl, rfl, rfl, Below.refl _ _⟩
            | 2, _, ho, hd =>
              obtain rfl := Option.some.inj ho
              refine wpOp_step rfl (fun K hK => ?_)
              refine (if_pos (by rfl)).mpr ?_
              have q0 := got e1
              go_simp
              exact hK _ _ ⟨_, _, rfl, rfl, rfl, Below.refl _ _⟩
            | 3, _, ho, hd =>
              obtain rfl := Option.some.inj ho
              refine wpOp_step rfl (fun K hK => ?_)
              refine (if_pos (by rfl)).mpr ?_
              have q0 := got (h.got 2 _ _ rfl (by decide) (hd ⟨2, .data⟩ (by simp) rfl) rfl)
              go_simp
              exact hK _ _ ⟨_, _, rfl, rfl, rfl, Below.refl _ _⟩
            | 4, _, ho, hd =>
              obtain rfl := Option.some.inj ho
              refine wpOp_step rfl (fun K hK => ?_)
              refine (if_pos (by rfl)).mpr ?_
              have q0 := got e8
              go_simp
              exact hK _ _ ⟨_, _, rfl, rfl, rfl, Below.refl _ _⟩
            | 5, _, ho, hd =>
              obtain rfl := Option.some.inj ho
              refine wpOp_step rfl (fun K hK => ?_)
              refine (if_pos (by rfl)).mpr ?_
              have q0 := got e6
              go_simp
              exact hK _ _ ⟨_, _, rfl, rfl, rfl, Below.refl _ _⟩
            | 6, _, ho, hd =>
              obtain rfl := Option.some.inj ho
              refine wpOp_step rfl (fun K hK => ?_)
              refine (if_pos (by rfl)).mpr ?_
              have q0 := got (h.got 4 _ _ rfl (by decide) (hd ⟨4, .data⟩ (by simp) rfl) rfl)
              have q1 := got (h.got 5 _ _ rfl (by decide) (hd ⟨5, .data⟩ (by simp) rfl) rfl)
              have hw := HW.out
              go_simp
              exact hK _ _ ⟨_, _, rfl, rfl, rfl, Below.refl _ _⟩
            | 7, _, ho, hd =>
              obtain rfl := Option.some.inj ho
              refine wpOp_step rfl (fun K hK => ?_)
              refine (if_pos (by rfl)).mpr ?_
              have q0 := got (h.got 3 _ _ rfl (by decide) (hd ⟨3, .data⟩ (by simp) rfl) rfl)
              have q1 := got (h.got 6 _ _ rfl (by decide) (hd ⟨6, .data⟩ (by simp) rfl) rfl)
              have hu := from_S1 (n := n) (c := c) (k := p) A (by omega) wx
              go_simp
              exact hK _ _ ⟨_, _, rfl, rfl, rfl, Below.refl _ _⟩
            | 8, _, ho, hd =>
              obtain rfl := Option.some.inj ho
              refine wpOp_step rfl (fun K hK => ?_)
              refine (if_pos (by rfl)).mpr ?_
              have q7 := got (h.got 7 _ _ rfl (by decide) (hd ⟨7, .data⟩ (by simp) rfl) rfl)
              go_simp
              exact hK _ _ ⟨_, _, rfl, rfl, ⟨_, rfl, pile_one (ln_strDrop (HS2.out.ke.kept h.below) (by omega)) (strVals_one _) _⟩, below_one _ _⟩
            | 9, _, ho, hd =>
              obtain rfl := Option.some.inj ho
              refine wpOp_step rfl (fun K hK => ?_)
              refine (if_pos (by rfl)).mpr ?_
              obtain ⟨p9, ep, hp9⟩ := (h.got 8 _ _ rfl (by decide) (hd ⟨8, .data⟩ (by simp) rfl) rfl)
              have q0 := got ep
              have hbs := h.below.size
              go_simp
              refine (ejoin_S _ 1 1 (n - (p + 1)) _ wx hp9 rfl (by simp [tot]) (by omega) (by decide)).mono ?_
              rintro e w3 ⟨v3, rfl, o3, b3⟩
              rw [epcs_one] at o3
              exact hK _ _ ⟨v3, _, rfl, rfl, ln_of_row o3 rfl (Nat.zero_le _), b3⟩
            | 10, _, ho, hd =>
              obtain rfl := Option.some.inj ho
              refine wpOp_step rfl (fun K hK => ?_)
              refine (if_pos (by rfl)).mpr ?_
              have q1 := got (h.got 1 _ _ rfl (by decide) (hd ⟨1, .data⟩ (by simp) rfl) rfl)
              obtain ⟨A9, a9, z9, l9, i9, _⟩ := (h.got 9 _ _ rfl (by decide) (hd ⟨9, .data⟩ (by simp) rfl) rfl)
              have y9 := got z9
              go_simp
              exact hK _ _ ⟨_, _, rfl, rfl, ⟨A9, _, a9, none, 0, 0, none, 0, 0, rfl, ⟨l9, Ln.none_ _ 1, Ln.none_ _ 1⟩, i9, NHi.none_ _, NHi.none_ _⟩, Below.refl _ _⟩
            | 11, _, ho, hd =>
              obtain rfl := Option.some.inj ho
              refine wpOp_step rfl (fun K hK => ?_)
              refine (if_pos (by rfl)).mpr ?_
              go_simp
              exact hK _ _ ⟨_, _, rfl, rfl, ⟨_, rfl, nbox_new wx _ _ _ _, h.below.size⟩, below_one _ _⟩
            | j + 12, hi, _, _ => exact absurd hi (by omega)
          · intro mm L a wx h hd
            refine wpAny_ready (rs := [12]) (by decide +kernel) (by simp) (AllReady.cons rfl (fun K hK => ?_) AllReady.nil)
            refine (if_pos (by rfl)).mpr ?_
            obtain ⟨A', n', c', B', m', d', C', k', e', ev, hN, _, _, _⟩ := h.got 10 _ _ rfl (by decide) (hd 10 (by decide)) rfl
            obtain ⟨q, eq9, hq, hq2⟩ := h.got 11 _ _ rfl (by decide) (hd 11 (by decide)) rfl
            obtain rfl : n - (p + 1) = n' := by have := hN.kn; simp only [List.length_drop] at this; rw [HN.out] at this; omega
            obtain rfl : m' = 0 := hN.vn.symm
            obtain rfl : k' = 0 := hN.cn.symm
            have q0 := got ev
            have q2 := got eq9
            obtain ⟨x0, x1, x2, x3⟩ := hq.cells
            obtain ⟨f0, f1, f2, f3⟩ := hq.free
            go_simp
            refine hK _ _ ?_
            refine wpAny_done (by decide +kernel) ?_ _
            have E := h.frame 73 (fun j => Nat.blt j 10 || (Nat.blt 10 j && Nat.blt j 36) || Nat.blt 46 j) rfl (by kernel_rfl) rfl
            refine HM _ _ (Met.intro (HJ _ _ ?_))
            (repeat apply Exists.intro)
            refine ⟨?rel, ?fr⟩
            case fr => exact E
            case rel => exact part_done eq9 hq hN hq2 h.below
        case rest =>
          obtain ⟨q2, A2, c2, B2, d2, C2, e2, rfl, hb2, hl2, hq2, hq2b, be2⟩ := hcut
          have H0 : Hid (Halves w1 wc q1 q2 false A1 p c1 B1 0 d1 C1 0 e1 ⟨false, s.keys.take p, [], []⟩ A2 (n - (p + 1)) c2 B2 0 d2 C2 0 e2 ⟨false, s.keys.drop (p + 1), [], []⟩) := Lib.hid ⟨NB1.out.kept be2, hb2, LN1.out.kept be2, hl2, by omega, hq1, Nat.le_trans BE1.out.size hq2, chainN be2 BE1.out⟩
          have hqq : ¬ q1 = q2 := by omega
          have hqq2 : ¬ q2 = q1 := by omega
          clear hb2 hl2 be2 NB1 LN1 BE1 hq1b hq2b hq2 hq1
          obtain ⟨w3, hw3⟩ : ∃ w3 : World, w3 = wc := ⟨_, rfl⟩
          subst hw3
          obtain ⟨mm, hmm⟩ : ∃ mm, min p m = mm := ⟨_, rfl⟩
          obtain ⟨kk, hkk⟩ : ∃ kk, min (p + 1) k = kk := ⟨_, rfl⟩
          have HM1 := Lib.hid hmm
          have HK1 := Lib.hid hkk
          clear hmm hkk
          obtain ⟨c0, c1', c2', c3'⟩ := (HB1.out.kept H0.out.bel).cells
          have LV := Lib.hid (HS1.out.va.kept H0.out.bel)
          go_upto_region 10 with fail
          go_wp2_with fail
          refine (eparted_S B m d p mm (strVals s.vals) w3 LV.out (strVals_one _) HM1.out hm).mono ?_
          rintro e9 w4 ⟨v1, v2, rfl, o1, o2, b4⟩
          obtain ⟨B1', d1', rfl, _, lv1⟩ := Ln.of_own o1
          obtain ⟨B2', d2', rfl, _, lv2⟩ := Ln.of_own o2
          rw [str_take] at lv1
          rw [str_drop] at lv2
          have H1 := Lib.hid (H0.out.next b4)
          have H2 := Lib.hid (H1.out.vals lv1 lv2)
          obtain ⟨x0, x1, x2, x3⟩ := H1.out.b1.cells
          obtain ⟨y0, y1, y2, y3⟩ := H1.out.b2.cells
          obtain ⟨f0, f1, f2, f3⟩ := H1.out.b1.free
          obtain ⟨g0, g1, g2, g3⟩ := H1.out.b2.free
          clear o1 o2 lv1 lv2 b4 c0 c1' c2' c3' LV H0
          go_upto_region 11 with fail
          clear x0 x1 x2 x3 y0 y1 y2 y3 f0 f1 f2 f3 g0 g1 g2 g3 H1
          generalize (w4.setCell ⟨q1, 2, none⟩ (.slice B1' mm d1')).setCell ⟨q2, 2, none⟩ (.slice B2' (m - mm) d2') = w5 at *
          have LK := Lib.hid (HS1.out.ki.kept H2.out.bel)
          obtain ⟨c0, c1', c2', c3'⟩ := (HB1.out.kept H2.out.bel).cells
          have hcall := eparted_I C k e (p + 1) kk (intVals s.kids) w5 LK.out (intVals_one _) HK1.out hk
          rw [show ((p + 1 : Nat) : Int) = (p : Int) + 1 by omega] at hcall
          have HCL := Lib.hid hcall
          clear hcall
          go_wp2_with fail
          refine HCL.out.mono ?_
          rintro e9 w6 ⟨v1, v2, rfl, o1, o2, b4⟩
          obtain ⟨C1', e1', rfl, _, lv1⟩ := Ln.of_own o1
          obtain ⟨C2', e2', rfl, _, lv2⟩ := Ln.of_own o2
          rw [int_take] at lv1
          rw [int_drop] at lv2
          have H3 := Lib.hid (H2.out.next b4)
          have H4 := Lib.hid (H3.out.kids lv1 lv2)
          obtain ⟨x0, x1, x2, x3⟩ := H3.out.b1.cells
          obtain ⟨y0, y1, y2, y3⟩ := H3.out.b2.cells
          obtain ⟨f0, f1, f2, f3⟩ := H3.out.b1.free
          obtain ⟨g0, g1, g2, g3⟩ := H3.out.b2.free
          clear o1 o2 lv1 lv2 b4 c0 c1' c2' c3' LK H2 HCL
          go_upto_region 12 with fail
          clear x0 x1 x2 x3 y0 y1 y2 y3 f0 f1 f2 f3 g0 g1 g2 g3 H3
          generalize (w6.setCell ⟨q1, 3, none⟩ (.slice C1' kk e1')).setCell ⟨q2, 3, none⟩ (.slice C2' (k - kk) e2') = w7 at *
          obtain ⟨b, off, t, rfl, hv, ct⟩ := (HS1.out.ke.kept H4.out.bel).strAt (show p < n by omega)
          have HV := Lib.hid hv
          have HR7 := Lib.hid (HR1.out.kept H4.out.bel)
          have HT7 := Lib.hid (HT1.out.kept H4.out.bel)
          have CT := Lib.hid ct
          clear hv ct
          have HD := Lib.hid (split_done (chainN H4.out.bel BB.out) gr1 gr2 hne HR7.out HT7.out (NdV.of H4.out.h1 rfl) (NdV.of H4.out.h2 rfl) (.bool false) (.slice A1 p c1) (.slice B1' mm d1') (.slice C1' kk e1') (.bool false) (.slice A2 (n - (p + 1)) c2) (.slice B2' (m - mm) d2') (.slice C2' (k - kk) e2'))
          have HE2 := Lib.hid (split_cells hne HR7.out HT7.out (.bool false) (.slice A1 p c1) (.slice B1' mm d1') (.slice C1' kk e1') (.bool false) (.slice A2 (n - (p + 1)) c2) (.slice B2' (m - mm) d2') (.slice C2' (k - kk) e2'))
          have a1 : ¬ q1 = r1 := by have := H4.out.l1; have := HR1.out.lt; have := HT1.out.lt; omega
          have a2 : ¬ q1 = r2 := by have := H4.out.l1; have := HR1.out.lt; have := HT1.out.lt; omega
          have a3 : ¬ q2 = r1 := by have := H4.out.l2; have := HR1.out.lt; have := HT1.out.lt; omega
          have a4 : ¬ q2 = r2 := by have := H4.out.l2; have := HR1.out.lt; have := HT1.out.lt; omega
          have a5 : ¬ w.heap.size = r1 := by omega
          have a6 : ¬ w.heap.size = r2 := by omega
          have a7 : ¬ b = r1 := box_apart HR7.out CT.out (Or.inl ⟨_, rfl⟩)
          have a8 : ¬ b = r2 := box_apart HT7.out CT.out (Or.inl ⟨_, rfl⟩)
          have i1 : (0 : Int) ≤ (p : Int) := by omega
          have i2 : (p : Int) < (n : Int) := by omega
          obtain ⟨x0, x1, x2, x3⟩ := H4.out.b1.cells
          obtain ⟨y0, y1, y2, y3⟩ := H4.out.b2.cells
          obtain ⟨c0, c1x, c2x, c3x⟩ := (HB1.out.kept H4.out.bel).cells
          obtain ⟨t0, t1, t2, t3⟩ := HR7.out.cells
          obtain ⟨f0, f1, f2, f3⟩ := HR7.out.free
          obtain ⟨u0, u1, u2, u3⟩ := HT7.out.cells
          obtain ⟨g0, g1, g2, g3⟩ := HT7.out.free
          have ct := CT.out
          go_region
          all_goals (
            clear x0 x1 x2 x3 y0 y1 y2 y3 c0 c1x c2x c3x t0 t1 t2 t3 f0 f1 f2 f3 u0 u1 u2 u3 g0 g1 g2 g3 ct a1 a2 a3 a4 a5 a6 a7 a8
            go_wp2_with fail
            obtain ⟨S1, S2, _⟩ := HE2.out
            obtain ⟨y0, y1, y2, y3⟩ := S1.cells
            obtain ⟨u0, u1, u2, u3⟩ := S2.cells
            clear S1 S2 HE2
            generalize ((((((((w7.setCell ⟨r1, 0, none⟩ (.bool false)).setCell ⟨r1, 1, none⟩ (.slice A1 p c1)).setCell ⟨r1, 2, none⟩ (.slice B1' mm d1')).setCell ⟨r1, 3, none⟩ (.slice C1' kk e1')).setCell ⟨r2, 0, none⟩ (.bool false)).setCell ⟨r2, 1, none⟩ (.slice A2 (n - (p + 1)) c2)).setCell ⟨r2, 2, none⟩ (.slice B2' (m - mm) d2')).setCell ⟨r2, 3, none⟩ (.slice C2' (k - kk) e2')) = w9 at *
            have bd := (Below.refl w9.heap.size w9).drew
            refine bodyPost_ret (v := .tuple #[.agg #[.bool false, .slice A1 p c1, .slice B1' mm d1', .slice C1' kk e1'], .string t, .agg #[.bool false, .slice A2 (n - (p + 1)) c2, .slice B2' (m - mm) d2', .slice C2' (k - kk) e2'], .int .i64 0]) (by simp [results, Try.results26, go_sem, y0, y1, y2, y3, u0, u1, u2, u3]) rfl ?_
            refine ⟨.agg #[.bool false, .slice A1 p c1, .slice B1' mm d1', .slice C1' kk e1'], .agg #[.bool false, .slice A2 (n - (p + 1)) c2, .slice B2' (m - mm) d2', .slice C2' (k - kk) e2'], ?_, ?_, ?_, HD.out.2.2.drew⟩
            · rw [X1.out, X4.out, at_getD HV.out, tb_back]
            · rw [X2.out, HL.out, ← (take_mm HM1.out HVN.out).1, ← (take_mm HK1.out HCN.out).1]; exact HD.out.1.kept bd
            · rw [X3.out, HL.out, ← (take_mm HM1.out HVN.out).2, ← (take_mm HK1.out HCN.out).2]; exact HD.out.2.1.kept bd)
end Go.Proofs.Ytcdfjaldnelfjaa
