/-
  What the document's own Split comes to (package tailraceref11).
-/
import Derived.Test.YtcdfjaldnelfjaaESplitP
import Derived.Test.YtcdfjaldnelfjaaERHalf
import Derived.Test.YtcdfjaldnelfjaaEHv
import Derived.RegionTactic
import Derived.Deep.Cut
namespace Go.Proofs.Ytcdfjaldnelfjaa
open Go.RowKit

set_option maxRecDepth 20000 in
set_option maxHeartbeats 6400000 in
theorem rsplit_leaf (A : Option Addr) (n c : Nat) (B : Option Addr) (m d : Nat) (C : Option Addr) (k e : Nat) (s : ND) (w : World) (h : Nd w A n c B m d C k e s) (hl : s.leaf = true) (ho : s.ok = true) (hz : s.size ≤ 1000000) (hE : s.ents.sum ≤ 100000000) :
    Calls Try.prog 27 #[.agg #[.bool true, .slice A n c, .slice B m d, .slice C k e]] w (SplitEnd w s) := by
  obtain rfl : n = m := by rw [← h.vn, ← h.kn]; exact (ND.ok_leaf ho hl).1.symm
  have HKI := Lib.hid (ND.ok_leaf ho hl).2.2
  obtain ⟨tb1, tb2, tb3, tb4⟩ := nbox_three w (.bool true) (.slice A n c) (.slice B n d) (.slice C k e) (.bool false) (.slice none 0 0) (.slice none 0 0) (.slice none 0 0)
  have HS := Lib.hid (h.kept tb4)
  have HB := Lib.hid tb1
  have HR := Lib.hid tb2
  have HT := Lib.hid tb3
  have B0 := Lib.hid tb4
  have HL := Lib.hid hl
  have HO := Lib.hid ho
  have HZ := Lib.hid hz
  have HE := Lib.hid hE
  have HN := Lib.hid h.kn
  have HVN := Lib.hid h.vn
  have HCN := Lib.hid h.cn
  have hn : n ≤ 1000000 := by have h1 := h.kn; unfold ND.size ND.tsz at hz; omega
  have HG : Hid (s.gone = 0) := Lib.hid (by unfold ND.gone; rw [HL.out]; rfl)
  clear h hl ho hz hE tb1 tb2 tb3 tb4
  go_enter Try.func27, Try.ntmps27
  go_upto_region 1 with fail
  generalize ((w.alloc (.cells #[.bool true, .slice A n c, .slice B n d, .slice C k e] 25)).alloc (.cells #[.bool false, .slice none 0 0, .slice none 0 0, .slice none 0 0] 25)).alloc (.cells #[.bool false, .slice none 0 0, .slice none 0 0, .slice none 0 0] 25) = w0 at *
  have gr1 : w.heap.size ≤ w.heap.size + 1 := Nat.le_succ _
  have gr2 : w.heap.size ≤ w.heap.size + 1 + 1 := by omega
  have hne : w.heap.size + 1 ≠ w.heap.size + 1 + 1 := by omega
  have hx1 : w.heap.size < w.heap.size + 1 := by omega
  have hx2 : w.heap.size < w.heap.size + 1 + 1 := by omega
  generalize w.heap.size + 1 + 1 = r2 at *
  generalize w.heap.size + 1 = r1 at *
  have hne2 : ¬ r1 = r2 := hne
  have hne3 : ¬ r2 = r1 := fun e => hne e.symm
  obtain ⟨c0, c1, c2, c3⟩ := HB.out.cells
  by_cases hs : n < 2
  case pos =>
    obtain ⟨x1, x2, x3, x4⟩ := ND.split_no (s := s) (by rw [HN.out, HG.out]; exact hs)
    have X1 := Lib.hid x1
    have X2 := Lib.hid x2
    have X3 := Lib.hid x3
    have X4 := Lib.hid x4
    obtain ⟨D1, D2, D3⟩ := split_done (v := .agg #[.bool false, .slice none 0 0, .slice none 0 0, .slice none 0 0]) (u := .agg #[.bool false, .slice none 0 0, .slice none 0 0, .slice none 0 0]) B0.out gr1 gr2 hne HR.out HT.out (ndv_zero w0 0) (ndv_zero w0 0) (.bool false) (.slice none 0 0) (.slice none 0 0) (.slice none 0 0) (.bool false) (.slice none 0 0) (.slice none 0 0) (.slice none 0 0)
    have HD1 := Lib.hid D1
    have HD2 := Lib.hid D2
    have HD3 := Lib.hid D3
    obtain ⟨S1, S2, _⟩ := split_cells hne HR.out HT.out (.bool false) (.slice none 0 0) (.slice none 0 0) (.slice none 0 0) (.bool false) (.slice none 0 0) (.slice none 0 0) (.slice none 0 0)
    have HS1 := Lib.hid S1.cells
    have HS2 := Lib.hid S2.cells
    obtain ⟨f0, f1, f2, f3⟩ := HR.out.free
    obtain ⟨g0, g1, g2, g3⟩ := HT.out.free
    obtain ⟨t0, t1, t2, t3⟩ := HR.out.cells
    obtain ⟨u0, u1, u2, u3⟩ := HT.out.cells
    clear x1 x2 x3 x4 D1 D2 D3 S1 S2 hne
    go_wp2_with fail
    obtain ⟨y0, y1, y2, y3⟩ := HS1.out
    obtain ⟨z0, z1, z2, z3⟩ := HS2.out
    refine bodyPost_ret (v := .tuple #[.agg #[.bool false, .slice none 0 0, .slice none 0 0, .slice none 0 0], .string ⟨#[]⟩, .agg #[.bool false, .slice none 0 0, .slice none 0 0, .slice none 0 0], .int .i64 100]) (by simp [results, Try.results27, go_sem, y0, y1, y2, y3, z0, z1, z2, z3]) rfl ?_
    exact ⟨_, _, by rw [X1.out, X4.out]; rfl, by rw [X2.out]; exact HD1.out, by rw [X3.out]; exact HD2.out, HD3.out⟩
  case neg =>
    obtain ⟨x1, x2, x3, x4⟩ := ND.split_yes (s := s) (by rw [HN.out, HG.out]; exact hs)
    have hlt := ND.splitAt_lt (s := s) (by rw [HN.out, HG.out]; exact hs)
    have hpd : min (ND.hN s.ents) (n - 1) = s.splitAt := by unfold ND.splitAt; rw [HN.out, HG.out]; rfl
    rw [HN.out, HG.out] at hlt
    rw [HG.out] at x3
    obtain ⟨p, hp⟩ : ∃ p, s.splitAt = p := ⟨_, rfl⟩
    rw [hp] at x2 x3 x4 hlt hpd
    have hlt : p < n := hlt
    have X1 := Lib.hid x1
    have X2 := Lib.hid x2
    have X3 := Lib.hid x3
    have X4 := Lib.hid x4
    have HP := Lib.hid hpd
    have hn2 : 2 ≤ n := by omega
    have hcall := rhalf_any true A n c B n d C k e s w0 HS.out HL.out HO.out HZ.out HE.out (n - 1) (by omega)
    rw [show ((n - 1 : Nat) : Int) = (n : Int) - 1 by omega, HP.out] at hcall
    have HCL := Lib.hid hcall
    clear x1 x2 x3 x4 hp hpd hs hcall
    go_upto_region 4 with fail
    go_wp2_with fail
    refine HCL.out.mono ?_
    rintro e1 w1 ⟨rfl, b1⟩
    have BB := Lib.hid (chainN b1 B0.out)
    have HS1 := Lib.hid (HS.out.kept b1)
    have HB1 := Lib.hid (HB.out.kept b1)
    have HR1 := Lib.hid (HR.out.kept b1)
    have HT1 := Lib.hid (HT.out.kept b1)
    have hc := HS1.out.ke.le
    have hd' := HS1.out.va.le
    have hg1 := HB1.out.lt
    have hr1 := HR1.out.lt
    have hr2 := HT1.out.lt
    clear b1 c0 c1 c2 c3 HB HR HT HS HCL B0
    obtain ⟨c0, c1, c2, c3⟩ := HB1.out.cells
    have U1 := fun w => upto_S (n := n) (c := c) (k := p) A (by omega) hc w
    have U2 := fun w => upto_S (n := n) (c := d) (k := p) B (by omega) hd' w
    have U3 := fun w => from_S (n := n) (c := c) (k := p) A (by omega) w
    have U4 := fun w => from_S (n := n) (c := d) (k := p) B (by omega) w
    go_wp2_with fail
    go_region
    go_wp2_with fail
    have b2 := (below_one w1 (.cells #[.bool true, .slice A p c, .slice B p d, .slice none 0 0] 25)).drew
    have N1 := Lib.hid ((nbox_new w1 (.bool true) (.slice A p c) (.slice B p d) (.slice none 0 0)).kept ((Below.refl _ _).drew))
    have BW2 := Lib.hid b2
    have HB2 := Lib.hid (HB1.out.kept b2)
    have hl1 := N1.out.lt
    clear b2 c0 c1 c2 c3
    generalize hw2 : (w1.alloc (.cells #[.bool true, .slice A p c, .slice B p d, .slice none 0 0] 25)).drew = w2 at *
    clear hw2
    obtain ⟨q1, hq1⟩ : ∃ q1, w1.heap.size = q1 := ⟨_, rfl⟩
    rw [hq1] at N1 hl1
    rw [hq1]
    have HQ1 := Lib.hid hq1
    clear hq1
    obtain ⟨c0, c1, c2, c3⟩ := HB2.out.cells
    have hg2 := HB2.out.lt
    go_region
    go_wp2_with fail
    have b3 := (below_one w2 (.cells #[.bool true, .slice (dropA A c p) (n - p) (c - p), .slice (dropA B d p) (n - p) (d - p), .slice none 0 0] 25)).drew
    have N2 := Lib.hid ((nbox_new w2 (.bool true) (.slice (dropA A c p) (n - p) (c - p)) (.slice (dropA B d p) (n - p) (d - p)) (.slice none 0 0)).kept ((Below.refl _ _).drew))
    have BW3 := Lib.hid (chainN b3 BW2.out)
    have HB3 := Lib.hid (HB2.out.kept b3)
    have N13 := Lib.hid (N1.out.kept b3)
    clear b3 c0 c1 c2 c3 N1
    generalize hw3 : (w2.alloc (.cells #[.bool true, .slice (dropA A c p) (n - p) (c - p), .slice (dropA B d p) (n - p) (d - p), .slice none 0 0] 25)).drew = w3 at *
    clear hw3
    obtain ⟨q2, hq2⟩ : ∃ q2, w2.heap.size = q2 := ⟨_, rfl⟩
    rw [hq2] at N2 hl1
    rw [hq2]
    have hq3 : w1.heap.size ≤ q2 := by rw [HQ1.out]; omega
    have H4 : Hid (Halves w1 w3 q1 q2 true A p c B p d none 0 0 ⟨true, s.keys.take p, s.vals.take p, []⟩ (dropA A c p) (n - p) (c - p) (dropA B d p) (n - p) (d - p) none 0 0 ⟨true, s.keys.drop p, s.vals.drop p, []⟩) := Lib.hid ⟨N13.out, N2.out, Nd.kept ⟨HS1.out.ke.strTake (by omega), HS1.out.va.strTake (by omega), Ln.none_ _ 1⟩ BW3.out, Nd.kept ⟨ln_strDrop HS1.out.ke (by omega), ln_strDrop HS1.out.va (by omega), Ln.none_ _ 1⟩ BW3.out, by omega, by rw [HQ1.out]; exact Nat.le_refl _, hq3, BW3.out⟩
    have hqq : ¬ q1 = q2 := by omega
    have hqq2 : ¬ q2 = q1 := by omega
    have HS3 := Lib.hid (HS1.out.kept BW3.out)
    clear N13 N2 hq2 BW2 BW3 HB2 U1 U2 U3 U4
    obtain ⟨b, off, t, rfl, hv, ct⟩ := HS3.out.ke.strAt (show p < n by omega)
    have HV := Lib.hid hv
    have HR7 := Lib.hid (HR1.out.kept H4.out.bel)
    have HT7 := Lib.hid (HT1.out.kept H4.out.bel)
    have CT := Lib.hid ct
    clear hv ct
    have HD := Lib.hid (split_done (chainN H4.out.bel BB.out) gr1 gr2 hne HR7.out HT7.out (NdV.of H4.out.h1 rfl) (NdV.of H4.out.h2 rfl) (.bool true) (.slice (some ⟨b, off, none⟩) p c) (.slice B p d) (.slice none 0 0) (.bool true) (.slice (dropA (some ⟨b, off, none⟩) c p) (n - p) (c - p)) (.slice (dropA B d p) (n - p) (d - p)) (.slice none 0 0))
    have HE2 := Lib.hid (split_cells hne HR7.out HT7.out (.bool true) (.slice (some ⟨b, off, none⟩) p c) (.slice B p d) (.slice none 0 0) (.bool true) (.slice (dropA (some ⟨b, off, none⟩) c p) (n - p) (c - p)) (.slice (dropA B d p) (n - p) (d - p)) (.slice none 0 0))
    have a1 : ¬ q1 = r1 := by have := H4.out.l1; omega
    have a2 : ¬ q1 = r2 := by have := H4.out.l1; omega
    have a3 : ¬ q2 = r1 := by have := H4.out.l2; omega
    have a4 : ¬ q2 = r2 := by have := H4.out.l2; omega
    have a5 : ¬ w.heap.size = r1 := by omega
    have a6 : ¬ w.heap.size = r2 := by omega
    have a7 : ¬ b = r1 := box_apart HR7.out CT.out (Or.inl ⟨_, rfl⟩)
    have a8 : ¬ b = r2 := box_apart HT7.out CT.out (Or.inl ⟨_, rfl⟩)
    have i1 : (0 : Int) ≤ (p : Int) := by omega
    have i2 : (p : Int) < (n : Int) := by omega
    obtain ⟨x0, x1, x2, x3⟩ := H4.out.b1.cells
    obtain ⟨y0, y1, y2, y3⟩ := H4.out.b2.cells
    obtain ⟨c0, c1x, c2x, c3x⟩ := HB3.out.cells
    obtain ⟨t0, t1, t2, t3⟩ := HR7.out.cells
    obtain ⟨f0, f1, f2, f3⟩ := HR7.out.free
    obtain ⟨u0, u1, u2, u3⟩ := HT7.out.cells
    obtain ⟨g0, g1, g2, g3⟩ := HT7.out.free
    have ct := CT.out
    go_region
    all_goals (
      clear x0 x1 x2 x3 y0 y1 y2 y3 c0 c1x c2x c3x t0 t1 t2 t3 f0 f1 f2 f3 u0 u1 u2 u3 g0 g1 g2 g3 ct a1 a2 a3 a4 a5 a6 a7 a8
      go_wp2_with fail
      obtain ⟨S1, S2, _⟩ := HE2.out
      obtain ⟨y0, y1, y2, y3⟩ := S1.cells
      obtain ⟨u0, u1, u2, u3⟩ := S2.cells
      clear S1 S2 HE2
      generalize ((((((((w3.setCell ⟨r1, 0, none⟩ (.bool true)).setCell ⟨r1, 1, none⟩ (.slice (some ⟨b, off, none⟩) p c)).setCell ⟨r1, 2, none⟩ (.slice B p d)).setCell ⟨r1, 3, none⟩ (.slice none 0 0)).setCell ⟨r2, 0, none⟩ (.bool true)).setCell ⟨r2, 1, none⟩ (.slice (dropA (some ⟨b, off, none⟩) c p) (n - p) (c - p))).setCell ⟨r2, 2, none⟩ (.slice (dropA B d p) (n - p) (d - p))).setCell ⟨r2, 3, none⟩ (.slice none 0 0)) = w9 at *
      have bd := (Below.refl w9.heap.size w9).drew
      refine bodyPost_ret (v := .tuple #[.agg #[.bool true, .slice (some ⟨b, off, none⟩) p c, .slice B p d, .slice none 0 0], .string t, .agg #[.bool true, .slice (dropA (some ⟨b, off, none⟩) c p) (n - p) (c - p), .slice (dropA B d p) (n - p) (d - p), .slice none 0 0], .int .i64 0]) (by simp [results, Try.results27, go_sem, y0, y1, y2, y3, u0, u1, u2, u3]) rfl ?_
      refine ⟨.agg #[.bool true, .slice (some ⟨b, off, none⟩) p c, .slice B p d, .slice none 0 0], .agg #[.bool true, .slice (dropA (some ⟨b, off, none⟩) c p) (n - p) (c - p), .slice (dropA B d p) (n - p) (d - p), .slice none 0 0], ?_, ?_, ?_, HD.out.2.2.drew⟩
      · rw [X1.out, X4.out, at_getD HV.out, tb_back]
      · rw [X2.out, HL.out, HKI.out]; exact HD.out.1.kept bd
      · rw [X3.out, HL.out, HKI.out]; exact HD.out.2.1.kept bd)
end Go.Proofs.Ytcdfjaldnelfjaa
