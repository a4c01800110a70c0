/-
  What the document's own Decode comes to (package tailraceref10).
-/
import Derived.Test.YtgnlmbelaempcaaNParse
import Derived.Test.YtgnlmbelaempcaaNRCheck
import Derived.Test.YtgnlmbelaempcaaNDec
namespace Go.Proofs.Ytgnlmbelaempcaa
open Go.RowKit

set_option maxRecDepth 20000 in
set_option maxHeartbeats 3200000 in
theorem rdecode_any {R : Nat} (k : Int) (A : Option Addr) (n c : Nat) (b : List UInt8) (w : World) (hl : b.length = n) (hr : Bys w R A b) (hnc : n ≤ c) (hm : c ≤ maxLen) :
    Calls Try.prog 18 #[.int .i64 k, .slice A n c] w (NEnd w (ND.decE k b) (ND.decS k b)) := by
  have b0 := below_one w (.cells #[.bool false, .slice none 0 0, .slice none 0 0, .slice none 0 0] 26)
  have B0 := Lib.hid b0
  have HR := Lib.hid (nbox_new w (.bool false) (.slice none 0 0) (.slice none 0 0) (.slice none 0 0))
  have HY := Lib.hid (bys_any (hr.kept b0))
  have HL := Lib.hid hl
  have HM := Lib.hid hm
  clear hr b0 hm
  by_cases hk : k = 2 ∨ k = 3
  case neg =>
    have HZ := Lib.hid (ndec_zero (b := b) (dec_kind (k := k) (by omega) (by omega)) B0.out)
    have h2 : (k != 2) = true := by rw [bne_iff_ne]; omega
    have h3 : (k != 3) = true := by rw [bne_iff_ne]; omega
    clear hk hl
    go_enter Try.func18, Try.ntmps18
    go_upto_region 1 with fail
    generalize w.alloc (.cells #[.bool false, .slice none 0 0, .slice none 0 0, .slice none 0 0] 26) = w0 at *
    obtain ⟨q0, q1, q2, q3⟩ := HR.out.cells
    obtain ⟨f0, f1, f2, f3⟩ := HR.out.free
    obtain ⟨e0, e1, e2, e3⟩ := (Lib.hid (HR.out.put (.bool false) (.slice none 0 0) (.slice none 0 0) (.slice none 0 0))).out.cells
    go_wp2_with fail
    refine bodyPost_ret (v := .tuple #[.agg #[.bool false, .slice none 0 0, .slice none 0 0, .slice none 0 0], .int .i64 100]) (by simp [results, Try.results18, go_sem, e0, e1, e2, e3]) rfl ?_
    exact HZ.out
  by_cases hn : n ≤ 1000
  case neg =>
    have HZ := Lib.hid (ndec_zero (dec_long (k := k) (b := b) (by omega)) B0.out)
    clear hl
    rcases hk with rfl | rfl
    all_goals
      go_enter Try.func18, Try.ntmps18
      go_upto_region 1 with fail
      generalize w.alloc (.cells #[.bool false, .slice none 0 0, .slice none 0 0, .slice none 0 0] 26) = w0 at *
      obtain ⟨q0, q1, q2, q3⟩ := HR.out.cells
      obtain ⟨f0, f1, f2, f3⟩ := HR.out.free
      obtain ⟨e0, e1, e2, e3⟩ := (Lib.hid (HR.out.put (.bool false) (.slice none 0 0) (.slice none 0 0) (.slice none 0 0))).out.cells
      go_wp2_with fail
      refine bodyPost_ret (v := .tuple #[.agg #[.bool false, .slice none 0 0, .slice none 0 0, .slice none 0 0], .int .i64 100]) (by simp [results, Try.results18, go_sem, e0, e1, e2, e3]) rfl ?_
      exact HZ.out
  rcases hk with rfl | rfl
  · have HD : Hid (ND.dec 2 b = (ND.prs true b).bind (fun s => if s.ok then some s else none)) := Lib.hid (dec_at (k := 2) (b := b) (by omega) (by omega))
    have HC := Lib.hid (fun W (hy : Bys W W.heap.size A b) => parse_leaf A n c b W HL.out hy (Nat.le_refl _) hnc HM.out)
    clear hl
    go_enter Try.func18, Try.ntmps18
    go_upto_region 1 with fail
    generalize w.alloc (.cells #[.bool false, .slice none 0 0, .slice none 0 0, .slice none 0 0] 26) = w0 at *
    go_wp2_with fail
    refine (HC.out w0 HY.out).mono ?_
    rintro e w2 ⟨v2, s, rfl, hv, b2, hp, j1, j2, j3⟩
    obtain ⟨Ak, nk, ck, Av, nv, cw, Ac, nc, cc, rfl, hnd, g1, g2, g3⟩ := hv
    have Z0 := HR.out.lt
    have HND := Lib.hid (hnd.kept (below_one w2 (.cells #[.bool s.leaf, .slice Ak nk ck, .slice Av nv cw, .slice Ac nc cc] 26)))
    have B2 := Lib.hid ((B0.out.trans (b2.mono B0.out.size)).trans ((below_one w2 (.cells #[.bool s.leaf, .slice Ak nk ck, .slice Av nv cw, .slice Ac nc cc] 26)).mono (Nat.le_trans B0.out.size b2.size)))
    have HX := Lib.hid (nbox_new w2 (.bool s.leaf) (.slice Ak nk ck) (.slice Av nv cw) (.slice Ac nc cc))
    have HR2 := Lib.hid ((HR.out.kept b2).kept (below_one w2 (.cells #[.bool s.leaf, .slice Ak nk ck, .slice Av nv cw, .slice Ac nc cc] 26)))
    have G1 := Lib.hid (g1.low (base' := w.heap.size + 1) Z0)
    have G2 := Lib.hid (g2.low (base' := w.heap.size + 1) Z0)
    have G3 := Lib.hid (g3.low (base' := w.heap.size + 1) Z0)
    have hk1 : nk ≤ 70000 := by rw [← hnd.kn]; exact j1
    have hk2 : nv ≤ 70000 := by rw [← hnd.vn]; exact j2
    have hk3 : nc ≤ 70000 := by rw [← hnd.cn]; exact j3
    clear b2 hnd g1 g2 g3 j1 j2 j3 HR B0 Z0
    cases hpr : ND.prs true b with
    | none =>
      have HZ := Lib.hid (ndec_zero (k := 2) (b := b) (HD.out.trans (by rw [hpr]; rfl)) B2.out)
      clear hp hpr HND G1 G2 G3
      rw [Option.isSome_none]
      go_upto_region 4 with fail
      generalize w2.alloc (.cells #[.bool s.leaf, .slice Ak nk ck, .slice Av nv cw, .slice Ac nc cc] 26) = w3 at *
      obtain ⟨q0, q1, q2, q3⟩ := HR2.out.cells
      obtain ⟨f0, f1, f2, f3⟩ := HR2.out.free
      obtain ⟨e0, e1, e2, e3⟩ := (Lib.hid (HR2.out.put (.bool false) (.slice none 0 0) (.slice none 0 0) (.slice none 0 0))).out.cells
      go_wp2_with fail
      refine bodyPost_ret (v := .tuple #[.agg #[.bool false, .slice none 0 0, .slice none 0 0, .slice none 0 0], .int .i64 100]) (by simp [results, Try.results18, go_sem, e0, e1, e2, e3]) rfl ?_
      exact HZ.out
    | some t =>
      obtain rfl : s = t := hp t hpr
      have HE : Hid (ND.dec 2 b = if s.ok then some s else none) := Lib.hid (HD.out.trans (by rw [hpr]; rfl))
      clear hp hpr
      rw [Option.isSome_some]
      go_upto_region 4 with fail
      generalize hw3 : w2.alloc (.cells #[.bool s.leaf, .slice Ak nk ck, .slice Av nv cw, .slice Ac nc cc] 26) = w3 at *
      clear hw3
      generalize w2.heap.size = r2 at *
      obtain ⟨x0, x1, x2, x3⟩ := HX.out.cells
      go_wp2_with fail
      refine (rcheck_any s.leaf Ak nk ck Av nv cw Ac nc cc s w3 HND.out rfl (by omega) (by omega) (by omega)).mono ?_
      rintro e w4 ⟨rfl, b4⟩
      have B4 := Lib.hid (B2.out.trans (b4.mono B2.out.size))
      have HR4 := Lib.hid (HR2.out.kept b4)
      have HX4 := Lib.hid (HX.out.kept b4)
      have HN4 := Lib.hid (HND.out.kept b4)
      clear b4 x0 x1 x2 x3 B2 HR2 HX HND
      obtain ⟨q0, q1, q2, q3⟩ := HR4.out.cells
      obtain ⟨f0, f1, f2, f3⟩ := HR4.out.free
      cases hok : s.ok with
      | false =>
        rw [ncheck_bad hok]
        have HZ := Lib.hid (ndec_zero (k := 2) (b := b) (HE.out.trans (by rw [hok]; rfl)) B4.out)
        obtain ⟨e0, e1, e2, e3⟩ := (Lib.hid (HR4.out.put (.bool false) (.slice none 0 0) (.slice none 0 0) (.slice none 0 0))).out.cells
        clear hok
        go_wp2_with fail
        refine bodyPost_ret (v := .tuple #[.agg #[.bool false, .slice none 0 0, .slice none 0 0, .slice none 0 0], .int .i64 100]) (by simp [results, Try.results18, go_sem, e0, e1, e2, e3]) rfl ?_
        exact HZ.out
      | true =>
        rw [ncheck_good hok]
        have HDS := Lib.hid (ND.dec_some (HE.out.trans (by rw [hok]; rfl)))
        obtain ⟨x0, x1, x2, x3⟩ := HX4.out.cells
        obtain ⟨e0, e1, e2, e3⟩ := (Lib.hid (HR4.out.put (.bool s.leaf) (.slice Ak nk ck) (.slice Av nv cw) (.slice Ac nc cc))).out.cells
        have HZ := Lib.hid (nput_done (err := 0) B4.out (show NdV w4 (w.heap.size + 1) (.agg #[.bool s.leaf, .slice Ak nk ck, .slice Av nv cw, .slice Ac nc cc]) s from ⟨Ak, nk, ck, Av, nv, cw, Ac, nc, cc, rfl, HN4.out, G1.out, G2.out, G3.out⟩) (.bool s.leaf) (.slice Ak nk ck) (.slice Av nv cw) (.slice Ac nc cc))
        clear hok
        go_wp2_with fail
        refine bodyPost_ret (v := .tuple #[.agg #[.bool s.leaf, .slice Ak nk ck, .slice Av nv cw, .slice Ac nc cc], .int .i64 0]) (by simp [results, Try.results18, go_sem, e0, e1, e2, e3]) rfl ?_
        rw [HDS.out.1, HDS.out.2]
        exact HZ.out
  · have HD : Hid (ND.dec 3 b = (ND.prs false b).bind (fun s => if s.ok then some s else none)) := Lib.hid (dec_at (k := 3) (b := b) (by omega) (by omega))
    have HC := Lib.hid (fun W (hy : Bys W W.heap.size A b) => parse_inner A n c b W HL.out hy (Nat.le_refl _) hnc HM.out)
    clear hl
    go_enter Try.func18, Try.ntmps18
    go_upto_region 1 with fail
    generalize w.alloc (.cells #[.bool false, .slice none 0 0, .slice none 0 0, .slice none 0 0] 26) = w0 at *
    go_wp2_with fail
    refine (HC.out w0 HY.out).mono ?_
    rintro e w2 ⟨v2, s, rfl, hv, b2, hp, j1, j2, j3⟩
    obtain ⟨Ak, nk, ck, Av, nv, cw, Ac, nc, cc, rfl, hnd, g1, g2, g3⟩ := hv
    have Z0 := HR.out.lt
    have HND := Lib.hid (hnd.kept (below_one w2 (.cells #[.bool s.leaf, .slice Ak nk ck, .slice Av nv cw, .slice Ac nc cc] 26)))
    have B2 := Lib.hid ((B0.out.trans (b2.mono B0.out.size)).trans ((below_one w2 (.cells #[.bool s.leaf, .slice Ak nk ck, .slice Av nv cw, .slice Ac nc cc] 26)).mono (Nat.le_trans B0.out.size b2.size)))
    have HX := Lib.hid (nbox_new w2 (.bool s.leaf) (.slice Ak nk ck) (.slice Av nv cw) (.slice Ac nc cc))
    have HR2 := Lib.hid ((HR.out.kept b2).kept (below_one w2 (.cells #[.bool s.leaf, .slice Ak nk ck, .slice Av nv cw, .slice Ac nc cc] 26)))
    have G1 := Lib.hid (g1.low (base' := w.heap.size + 1) Z0)
    have G2 := Lib.hid (g2.low (base' := w.heap.size + 1) Z0)
    have G3 := Lib.hid (g3.low (base' := w.heap.size + 1) Z0)
    have hk1 : nk ≤ 70000 := by rw [← hnd.kn]; exact j1
    have hk2 : nv ≤ 70000 := by rw [← hnd.vn]; exact j2
    have hk3 : nc ≤ 70000 := by rw [← hnd.cn]; exact j3
    clear b2 hnd g1 g2 g3 j1 j2 j3 HR B0 Z0
    cases hpr : ND.prs false b with
    | none =>
      have HZ := Lib.hid (ndec_zero (k := 3) (b := b) (HD.out.trans (by rw [hpr]; rfl)) B2.out)
      clear hp hpr HND G1 G2 G3
      rw [Option.isSome_none]
      go_upto_region 4 with fail
      generalize w2.alloc (.cells #[.bool s.leaf, .slice Ak nk ck, .slice Av nv cw, .slice Ac nc cc] 26) = w3 at *
      obtain ⟨q0, q1, q2, q3⟩ := HR2.out.cells
      obtain ⟨f0, f1, f2, f3⟩ := HR2.out.free
      obtain ⟨e0, e1, e2, e3⟩ := (Lib.hid (HR2.out.put (.bool false) (.slice none 0 0) (.slice none 0 0) (.slice none 0 0))).out.cells
      go_wp2_with fail
      refine bodyPost_ret (v := .tuple #[.agg #[.bool false, .slice none 0 0, .slice none 0 0, .slice none 0 0], .int .i64 100]) (by simp [results, Try.results18, go_sem, e0, e1, e2, e3]) rfl ?_
      exact HZ.out
    | some t =>
      obtain rfl : s = t := hp t hpr
      have HE : Hid (ND.dec 3 b = if s.ok then some s else none) := Lib.hid (HD.out.trans (by rw [hpr]; rfl))
      clear hp hpr
      rw [Option.isSome_some]
      go_upto_region 4 with fail
      generalize hw3 : w2.alloc (.cells #[.bool s.leaf, .slice Ak nk ck, .slice Av nv cw, .slice Ac nc cc] 26) = w3 at *
      clear hw3
      generalize w2.heap.size = r2 at *
      obtain ⟨x0, x1, x2, x3⟩ := HX.out.cells
      go_wp2_with fail
      refine (rcheck_any s.leaf Ak nk ck Av nv cw Ac nc cc s w3 HND.out rfl (by omega) (by omega) (by omega)).mono ?_
      rintro e w4 ⟨rfl, b4⟩
      have B4 := Lib.hid (B2.out.trans (b4.mono B2.out.size))
      have HR4 := Lib.hid (HR2.out.kept b4)
      have HX4 := Lib.hid (HX.out.kept b4)
      have HN4 := Lib.hid (HND.out.kept b4)
      clear b4 x0 x1 x2 x3 B2 HR2 HX HND
      obtain ⟨q0, q1, q2, q3⟩ := HR4.out.cells
      obtain ⟨f0, f1, f2, f3⟩ := HR4.out.free
      cases hok : s.ok with
      | false =>
        rw [ncheck_bad hok]
        have HZ := Lib.hid (ndec_zero (k := 3) (b := b) (HE.out.trans (by rw [hok]; rfl)) B4.out)
        obtain ⟨e0, e1, e2, e3⟩ := (Lib.hid (HR4.out.put (.bool false) (.slice none 0 0) (.slice none 0 0) (.slice none 0 0))).out.cells
        clear hok
        go_wp2_with fail
        refine bodyPost_ret (v := .tuple #[.agg #[.bool false, .slice none 0 0, .slice none 0 0, .slice none 0 0], .int .i64 100]) (by simp [results, Try.results18, go_sem, e0, e1, e2, e3]) rfl ?_
        exact HZ.out
      | true =>
        rw [ncheck_good hok]
        have HDS := Lib.hid (ND.dec_some (HE.out.trans (by rw [hok]; rfl)))
        obtain ⟨x0, x1, x2, x3⟩ := HX4.out.cells
        obtain ⟨e0, e1, e2, e3⟩ := (Lib.hid (HR4.out.put (.bool s.leaf) (.slice Ak nk ck) (.slice Av nv cw) (.slice Ac nc cc))).out.cells
        have HZ := Lib.hid (nput_done (err := 0) B4.out (show NdV w4 (w.heap.size + 1) (.agg #[.bool s.leaf, .slice Ak nk ck, .slice Av nv cw, .slice Ac nc cc]) s from ⟨Ak, nk, ck, Av, nv, cw, Ac, nc, cc, rfl, HN4.out, G1.out, G2.out, G3.out⟩) (.bool s.leaf) (.slice Ak nk ck) (.slice Av nv cw) (.slice Ac nc cc))
        clear hok
        go_wp2_with fail
        refine bodyPost_ret (v := .tuple #[.agg #[.bool s.leaf, .slice Ak nk ck, .slice Av nv cw, .slice Ac nc cc], .int .i64 0]) (by simp [results, Try.results18, go_sem, e0, e1, e2, e3]) rfl ?_
        rw [HDS.out.1, HDS.out.2]
        exact HZ.out
end Go.Proofs.Ytgnlmbelaempcaa
