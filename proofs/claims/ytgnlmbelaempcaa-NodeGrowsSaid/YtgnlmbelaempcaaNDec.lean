/-
  What node's Decode comes to.
-/
import Derived.Test.YtgnlmbelaempcaaNReadN
import Derived.Test.YtgnlmbelaempcaaNEnc
namespace Go.Proofs.Ytgnlmbelaempcaa
open Go.RowKit

theorem nput_done {w w2 : World} {err : Int} {v : Value} {s : ND} (hb : Below w.heap.size w w2) (hv : NdV w2 (w.heap.size + 1) v s) (x y z p : Value) :
    NEnd w err s (.returned (.tuple #[v, .int .i64 err])) ((((w2.setCell ⟨w.heap.size, 0, none⟩ x).setCell ⟨w.heap.size, 1, none⟩ y).setCell ⟨w.heap.size, 2, none⟩ z).setCell ⟨w.heap.size, 3, none⟩ p) :=
  ⟨v, rfl, ndv_put hv (Nat.le_refl _) x y z p, below_nput hb (Nat.le_refl _) x y z p⟩
/-- What is answered where bytes are none's. -/
theorem ndec_zero {w w1 : World} {k : Int} {b : List UInt8} (h : ND.dec k b = none) (hb : Below w.heap.size w w1) : NEnd w (ND.decE k b) (ND.decS k b) (.returned (.tuple #[.agg #[.bool false, .slice none 0 0, .slice none 0 0, .slice none 0 0], .int .i64 100]))
    ((((w1.setCell ⟨w.heap.size, 0, none⟩ (.bool false)).setCell ⟨w.heap.size, 1, none⟩ (.slice none 0 0)).setCell ⟨w.heap.size, 2, none⟩ (.slice none 0 0)).setCell ⟨w.heap.size, 3, none⟩ (.slice none 0 0)) := by
  rw [(ND.dec_none h).1, (ND.dec_none h).2]
  exact nput_done hb (ndv_zero _ _) _ _ _ _

theorem bys_any {w : World} {R : Nat} {A : Option Addr} {l : List UInt8} (h : Bys w R A l) : Bys w w.heap.size A l := by
  rcases l with _ | ⟨x, l⟩
  · exact Bys.nil _ _ _
  · rcases h with h | ⟨b, off, rfl, hR, hc⟩
    · cases h
    · exact Or.inr ⟨b, off, rfl, World.block_lt_of_cell? _ _ (hc 0 x rfl), hc⟩
theorem dec_kind {k : Int} {b : List UInt8} (h2 : k ≠ 2) (h3 : k ≠ 3) : ND.dec k b = none := by
  unfold ND.dec ND.isKind
  rw [decide_eq_false h2, decide_eq_false h3]
  rfl
theorem dec_long {k : Int} {b : List UInt8} (h : ¬ b.length ≤ 1000) : ND.dec k b = none := by
  unfold ND.dec
  rw [decide_eq_false h, Bool.and_false]
  rfl
theorem dec_at {k : Int} {b : List UInt8} (hk : k = 2 ∨ k = 3) (h : b.length ≤ 1000) : ND.dec k b = (ND.prs (decide (k = 2)) b).bind (fun s => if s.ok then some s else none) := by
  unfold ND.dec ND.isKind
  rw [decide_eq_true h]
  rcases hk with rfl | rfl <;> rfl

set_option maxRecDepth 20000 in
set_option maxHeartbeats 3200000 in
theorem ndecode_any {R : Nat} (k : Int) (A : Option Addr) (n c : Nat) (b : List UInt8) (w : World) (hl : b.length = n) (hr : Bys w R A b) (hnc : n ≤ c) (hm : c ≤ maxLen) :
    Calls Try.prog 17 #[.int .i64 k, .slice A n c] w (NEnd w (ND.decE k b) (ND.decS k b)) := by
  have b0 := below_one w (.cells #[.bool false, .slice none 0 0, .slice none 0 0, .slice none 0 0] 26)
  have B0 := Lib.hid b0
  have HR := Lib.hid (nbox_new w (.bool false) (.slice none 0 0) (.slice none 0 0) (.slice none 0 0))
  have HY := Lib.hid (bys_any (hr.kept b0))
  have HL := Lib.hid hl
  have HM := Lib.hid hm
  clear hr b0 hm
  by_cases hk : k = 2 ∨ k = 3
  case neg =>
    have HZ := Lib.hid (ndec_zero (b := b) (dec_kind (k := k) (by omega) (by omega)) B0.out)
    have h2 : (k != 2) = true := by rw [bne_iff_ne]; omega
    have h3 : (k != 3) = true := by rw [bne_iff_ne]; omega
    clear hk hl
    go_enter Try.func17, Try.ntmps17
    go_upto_region 1 with fail
    generalize w.alloc (.cells #[.bool false, .slice none 0 0, .slice none 0 0, .slice none 0 0] 26) = w0 at *
    obtain ⟨q0, q1, q2, q3⟩ := HR.out.cells
    obtain ⟨f0, f1, f2, f3⟩ := HR.out.free
    obtain ⟨e0, e1, e2, e3⟩ := (Lib.hid (HR.out.put (.bool false) (.slice none 0 0) (.slice none 0 0) (.slice none 0 0))).out.cells
    go_wp2_with fail
    refine bodyPost_ret (v := .tuple #[.agg #[.bool false, .slice none 0 0, .slice none 0 0, .slice none 0 0], .int .i64 100]) (by simp [results, Try.results17, go_sem, e0, e1, e2, e3]) rfl ?_
    exact HZ.out
  by_cases hn : n ≤ 1000
  case neg =>
    have HZ := Lib.hid (ndec_zero (dec_long (k := k) (b := b) (by omega)) B0.out)
    clear hl
    rcases hk with rfl | rfl
    all_goals
      go_enter Try.func17, Try.ntmps17
      go_upto_region 1 with fail
      generalize w.alloc (.cells #[.bool false, .slice none 0 0, .slice none 0 0, .slice none 0 0] 26) = w0 at *
      obtain ⟨q0, q1, q2, q3⟩ := HR.out.cells
      obtain ⟨f0, f1, f2, f3⟩ := HR.out.free
      obtain ⟨e0, e1, e2, e3⟩ := (Lib.hid (HR.out.put (.bool false) (.slice none 0 0) (.slice none 0 0) (.slice none 0 0))).out.cells
      go_wp2_with fail
      refine bodyPost_ret (v := .tuple #[.agg #[.bool false, .slice none 0 0, .slice none 0 0, .slice none 0 0], .int .i64 100]) (by simp [results, Try.results17, go_sem, e0, e1, e2, e3]) rfl ?_
      exact HZ.out
  rcases hk with rfl | rfl
  · have HD : Hid (ND.dec 2 b = (ND.prs true b).bind (fun s => if s.ok then some s else none)) := Lib.hid (dec_at (k := 2) (b := b) (by omega) (by omega))
    have HC := Lib.hid (fun W (hy : Bys W W.heap.size A b) => nread_any true A n c b W HL.out hy hnc HM.out)
    clear hl
    go_enter Try.func17, Try.ntmps17
    go_upto_region 1 with fail
    generalize w.alloc (.cells #[.bool false, .slice none 0 0, .slice none 0 0, .slice none 0 0] 26) = w0 at *
    go_wp2_with fail
    refine (HC.out w0 HY.out).mono ?_
    rintro e w2 ⟨v2, s, rfl, hv, b2, hp, j1, j2, j3⟩
    obtain ⟨Ak, nk, ck, Av, nv, cw, Ac, nc, cc, rfl, hnd, g1, g2, g3⟩ := hv
    have Z0 := HR.out.lt
    have HND := Lib.hid (hnd.kept (below_one w2 (.cells #[.bool s.leaf, .slice Ak nk ck, .slice Av nv cw, .slice Ac nc cc] 26)))
    have B2 := Lib.hid ((B0.out.trans (b2.mono B0.out.size)).trans ((below_one w2 (.cells #[.bool s.leaf, .slice Ak nk ck, .slice Av nv cw, .slice Ac nc cc] 26)).mono (Nat.le_trans B0.out.size b2.size)))
    have HX := Lib.hid (nbox_new w2 (.bool s.leaf) (.slice Ak nk ck) (.slice Av nv cw) (.slice Ac nc cc))
    have HR2 := Lib.hid ((HR.out.kept b2).kept (below_one w2 (.cells #[.bool s.leaf, .slice Ak nk ck, .slice Av nv cw, .slice Ac nc cc] 26)))
    have G1 := Lib.hid (g1.low (base' := w.heap.size + 1) Z0)
    have G2 := Lib.hid (g2.low (base' := w.heap.size + 1) Z0)
    have G3 := Lib.hid (g3.low (base' := w.heap.size + 1) Z0)
    have hk1 : nk ≤ 70000 := by rw [← hnd.kn]; exact j1
    have hk2 : nv ≤ 70000 := by rw [← hnd.vn]; exact j2
    have hk3 : nc ≤ 70000 := by rw [← hnd.cn]; exact j3
    clear b2 hnd g1 g2 g3 j1 j2 j3 HR B0 Z0
    cases hpr : ND.prs true b with
    | none =>
      have HZ := Lib.hid (ndec_zero (k := 2) (b := b) (HD.out.trans (by rw [hpr]; rfl)) B2.out)
      clear hp hpr HND G1 G2 G3
      rw [Option.isSome_none]
      go_upto_region 4 with fail
      generalize w2.alloc (.cells #[.bool s.leaf, .slice Ak nk ck, .slice Av nv cw, .slice Ac nc cc] 26) = w3 at *
      obtain ⟨q0, q1, q2, q3⟩ := HR2.out.cells
      obtain ⟨f0, f1, f2, f3⟩ := HR2.out.free
      obtain ⟨e0, e1, e2, e3⟩ := (Lib.hid (HR2.out.put (.bool false) (.slice none 0 0) (.slice none 0 0) (.slice none 0 0))).out.cells
      go_wp2_with fail
      refine bodyPost_ret (v := .tuple #[.agg #[.bool false, .slice none 0 0, .slice none 0 0, .slice none 0 0], .int .i64 100]) (by simp [results, Try.results17, go_sem, e0, e1, e2, e3]) rfl ?_
      exact HZ.out
    | some t =>
      obtain rfl : s = t := hp t hpr
      have HE : Hid (ND.dec 2 b = if s.ok then some s else none) := Lib.hid (HD.out.trans (by rw [hpr]; rfl))
      clear hp hpr
      rw [Option.isSome_some]
      go_upto_region 4 with fail
      generalize hw3 : w2.alloc (.cells #[.bool s.leaf, .slice Ak nk ck, .slice Av nv cw, .slice Ac nc cc] 26) = w3 at *
      clear hw3
      generalize w2.heap.size = r2 at *
      obtain ⟨x0, x1, x2, x3⟩ := HX.out.cells
      go_wp2_with fail
      refine (ncheck_any s.leaf Ak nk ck Av nv cw Ac nc cc s w3 HND.out rfl (by omega) (by omega) (by omega)).mono ?_
      rintro e w4 ⟨rfl, b4⟩
      have B4 := Lib.hid (B2.out.trans (b4.mono B2.out.size))
      have HR4 := Lib.hid (HR2.out.kept b4)
      have HX4 := Lib.hid (HX.out.kept b4)
      have HN4 := Lib.hid (HND.out.kept b4)
      clear b4 x0 x1 x2 x3 B2 HR2 HX HND
      obtain ⟨q0, q1, q2, q3⟩ := HR4.out.cells
      obtain ⟨f0, f1, f2, f3⟩ := HR4.out.free
      cases hok : s.ok with
      | false =>
        rw [ncheck_bad hok]
        have HZ := Lib.hid (ndec_zero (k := 2) (b := b) (HE.out.trans (by rw [hok]; rfl)) B4.out)
        obtain ⟨e0, e1, e2, e3⟩ := (Lib.hid (HR4.out.put (.bool false) (.slice none 0 0) (.slice none 0 0) (.slice none 0 0))).out.cells
        clear hok
        go_wp2_with fail
        refine bodyPost_ret (v := .tuple #[.agg #[.bool false, .slice none 0 0, .slice none 0 0, .slice none 0 0], .int .i64 100]) (by simp [results, Try.results17, go_sem, e0, e1, e2, e3]) rfl ?_
        exact HZ.out
      | true =>
        rw [ncheck_good hok]
        have HDS := Lib.hid (ND.dec_some (HE.out.trans (by rw [hok]; rfl)))
        obtain ⟨x0, x1, x2, x3⟩ := HX4.out.cells
        obtain ⟨e0, e1, e2, e3⟩ := (Lib.hid (HR4.out.put (.bool s.leaf) (.slice Ak nk ck) (.slice Av nv cw) (.slice Ac nc cc))).out.cells
        have HZ := Lib.hid (nput_done (err := 0) B4.out (show NdV w4 (w.heap.size + 1) (.agg #[.bool s.leaf, .slice Ak nk ck, .slice Av nv cw, .slice Ac nc cc]) s from ⟨Ak, nk, ck, Av, nv, cw, Ac, nc, cc, rfl, HN4.out, G1.out, G2.out, G3.out⟩) (.bool s.leaf) (.slice Ak nk ck) (.slice Av nv cw) (.slice Ac nc cc))
        clear hok
        go_wp2_with fail
        refine bodyPost_ret (v := .tuple #[.agg #[.bool s.leaf, .slice Ak nk ck, .slice Av nv cw, .slice Ac nc cc], .int .i64 0]) (by simp [results, Try.results17, go_sem, e0, e1, e2, e3]) rfl ?_
        rw [HDS.out.1, HDS.out.2]
        exact HZ.out
  · have HD : Hid (ND.dec 3 b = (ND.prs false b).bind (fun s => if s.ok then some s else none)) := Lib.hid (dec_at (k := 3) (b := b) (by omega) (by omega))
    have HC := Lib.hid (fun W (hy : Bys W W.heap.size A b) => nread_any false A n c b W HL.out hy hnc HM.out)
    clear hl
    go_enter Try.func17, Try.ntmps17
    go_upto_region 1 with fail
    generalize w.alloc (.cells #[.bool false, .slice none 0 0, .slice none 0 0, .slice none 0 0] 26) = w0 at *
    go_wp2_with fail
    refine (HC.out w0 HY.out).mono ?_
    rintro e w2 ⟨v2, s, rfl, hv, b2, hp, j1, j2, j3⟩
    obtain ⟨Ak, nk, ck, Av, nv, cw, Ac, nc, cc, rfl, hnd, g1, g2, g3⟩ := hv
    have Z0 := HR.out.lt
    have HND := Lib.hid (hnd.kept (below_one w2 (.cells #[.bool s.leaf, .slice Ak nk ck, .slice Av nv cw, .slice Ac nc cc] 26)))
    have B2 := Lib.hid ((B0.out.trans (b2.mono B0.out.size)).trans ((below_one w2 (.cells #[.bool s.leaf, .slice Ak nk ck, .slice Av nv cw, .slice Ac nc cc] 26)).mono (Nat.le_trans B0.out.size b2.size)))
    have HX := Lib.hid (nbox_new w2 (.bool s.leaf) (.slice Ak nk ck) (.slice Av nv cw) (.slice Ac nc cc))
    have HR2 := Lib.hid ((HR.out.kept b2).kept (below_one w2 (.cells #[.bool s.leaf, .slice Ak nk ck, .slice Av nv cw, .slice Ac nc cc] 26)))
    have G1 := Lib.hid (g1.low (base' := w.heap.size + 1) Z0)
    have G2 := Lib.hid (g2.low (base' := w.heap.size + 1) Z0)
    have G3 := Lib.hid (g3.low (base' := w.heap.size + 1) Z0)
    have hk1 : nk ≤ 70000 := by rw [← hnd.kn]; exact j1
    have hk2 : nv ≤ 70000 := by rw [← hnd.vn]; exact j2
    have hk3 : nc ≤ 70000 := by rw [← hnd.cn]; exact j3
    clear b2 hnd g1 g2 g3 j1 j2 j3 HR B0 Z0
    cases hpr : ND.prs false b with
    | none =>
      have HZ := Lib.hid (ndec_zero (k := 3) (b := b) (HD.out.trans (by rw [hpr]; rfl)) B2.out)
      clear hp hpr HND G1 G2 G3
      rw [Option.isSome_none]
      go_upto_region 4 with fail
      generalize w2.alloc (.cells #[.bool s.leaf, .slice Ak nk ck, .slice Av nv cw, .slice Ac nc cc] 26) = w3 at *
      obtain ⟨q0, q1, q2, q3⟩ := HR2.out.cells
      obtain ⟨f0, f1, f2, f3⟩ := HR2.out.free
      obtain ⟨e0, e1, e2, e3⟩ := (Lib.hid (HR2.out.put (.bool false) (.slice none 0 0) (.slice none 0 0) (.slice none 0 0))).out.cells
      go_wp2_with fail
      refine bodyPost_ret (v := .tuple #[.agg #[.bool false, .slice none 0 0, .slice none 0 0, .slice none 0 0], .int .i64 100]) (by simp [results, Try.results17, go_sem, e0, e1, e2, e3]) rfl ?_
      exact HZ.out
    | some t =>
      obtain rfl : s = t := hp t hpr
      have HE : Hid (ND.dec 3 b = if s.ok then some s else none) := Lib.hid (HD.out.trans (by rw [hpr]; rfl))
      clear hp hpr
      rw [Option.isSome_some]
      go_upto_region 4 with fail
      generalize hw3 : w2.alloc (.cells #[.bool s.leaf, .slice Ak nk ck, .slice Av nv cw, .slice Ac nc cc] 26) = w3 at *
      clear hw3
      generalize w2.heap.size = r2 at *
      obtain ⟨x0, x1, x2, x3⟩ := HX.out.cells
      go_wp2_with fail
      refine (ncheck_any s.leaf Ak nk ck Av nv cw Ac nc cc s w3 HND.out rfl (by omega) (by omega) (by omega)).mono ?_
      rintro e w4 ⟨rfl, b4⟩
      have B4 := Lib.hid (B2.out.trans (b4.mono B2.out.size))
      have HR4 := Lib.hid (HR2.out.kept b4)
      have HX4 := Lib.hid (HX.out.kept b4)
      have HN4 := Lib.hid (HND.out.kept b4)
      clear b4 x0 x1 x2 x3 B2 HR2 HX HND
      obtain ⟨q0, q1, q2, q3⟩ := HR4.out.cells
      obtain ⟨f0, f1, f2, f3⟩ := HR4.out.free
      cases hok : s.ok with
      | false =>
        rw [ncheck_bad hok]
        have HZ := Lib.hid (ndec_zero (k := 3) (b := b) (HE.out.trans (by rw [hok]; rfl)) B4.out)
        obtain ⟨e0, e1, e2, e3⟩ := (Lib.hid (HR4.out.put (.bool false) (.slice none 0 0) (.slice none 0 0) (.slice none 0 0))).out.cells
        clear hok
        go_wp2_with fail
        refine bodyPost_ret (v := .tuple #[.agg #[.bool false, .slice none 0 0, .slice none 0 0, .slice none 0 0], .int .i64 100]) (by simp [results, Try.results17, go_sem, e0, e1, e2, e3]) rfl ?_
        exact HZ.out
      | true =>
        rw [ncheck_good hok]
        have HDS := Lib.hid (ND.dec_some (HE.out.trans (by rw [hok]; rfl)))
        obtain ⟨x0, x1, x2, x3⟩ := HX4.out.cells
        obtain ⟨e0, e1, e2, e3⟩ := (Lib.hid (HR4.out.put (.bool s.leaf) (.slice Ak nk ck) (.slice Av nv cw) (.slice Ac nc cc))).out.cells
        have HZ := Lib.hid (nput_done (err := 0) B4.out (show NdV w4 (w.heap.size + 1) (.agg #[.bool s.leaf, .slice Ak nk ck, .slice Av nv cw, .slice Ac nc cc]) s from ⟨Ak, nk, ck, Av, nv, cw, Ac, nc, cc, rfl, HN4.out, G1.out, G2.out, G3.out⟩) (.bool s.leaf) (.slice Ak nk ck) (.slice Av nv cw) (.slice Ac nc cc))
        clear hok
        go_wp2_with fail
        refine bodyPost_ret (v := .tuple #[.agg #[.bool s.leaf, .slice Ak nk ck, .slice Av nv cw, .slice Ac nc cc], .int .i64 0]) (by simp [results, Try.results17, go_sem, e0, e1, e2, e3]) rfl ?_
        rw [HDS.out.1, HDS.out.2]
        exact HZ.out
end Go.Proofs.Ytgnlmbelaempcaa
