/-
  What Give comes to.
-/
import Derived.Test.YtlldmefjhgahdaaSPut
import Derived.Test.YtlldmefjhgahdaaSMay
import Derived.Test.YtlldmefjhgahdaaSLast
import Derived.Test.YtlldmefjhgahdaaSJoinF
import Derived.Test.YtlldmefjhgahdaaSJoinI
import Derived.Deep.RegionHeld3
namespace Go.Proofs.Ytlldmefjhgahdaa
open Go.RowKit

theorem give_ill {s : SS} {e p : Int} (h : s.giveBad e p = true) : s.give e p = (1, SS.none) := by
  unfold SS.give
  rw [if_pos h]
theorem give_well {s : SS} {e p : Int} (h : s.giveBad e p = false) : s.give e p = (0, { s with pe := s.pe ++ [(e, p)] }) := by
  unfold SS.give
  rw [if_neg (by rw [h]; simp)]
theorem giveBad_may {s : SS} {e p : Int} (h : (s.may p && !(s.known p)) = false) : s.giveBad e p = true := by
  unfold SS.giveBad
  cases h1 : s.may p <;> cases h2 : s.known p <;> simp [h1, h2] at h ⊢
theorem giveBad_age {s : SS} {e p : Int} (h : e < 0 ∨ e < s.last) : s.giveBad e p = true := by
  unfold SS.giveBad
  rcases h with h | h <;> simp [h]
theorem giveBad_no {s : SS} {e p : Int} (h : (s.may p && !(s.known p)) = true) (h1 : ¬ e < 0) (h2 : ¬ e < s.last) : s.giveBad e p = false := by
  unfold SS.giveBad
  cases h3 : s.may p <;> cases h4 : s.known p <;> simp [h3, h4] at h ⊢
  omega

/-- The answer's block, and what else is held, once nothing but the answer is to be written. -/
theorem give_zero {w w1 : World} {r : Nat} (hb : Below w.heap.size w w1) (hr : w.heap.size ≤ r) : SpEnd w 1 SS.none (.returned (.tuple #[.agg #[.int .i64 0, .slice none 0 0, .slice none 0 0], .int .i64 1])) (((w1.setCell ⟨r, 0, none⟩ (.int .i64 0)).setCell ⟨r, 1, none⟩ (.slice none 0 0)).setCell ⟨r, 2, none⟩ (.slice none 0 0)) :=
  have hd := put_done (h := 0) hb hr (Sp.zero w1) (Hi.none_ _) (Hi.none_ _) rfl (.int .i64 0) (.slice none 0 0) (.slice none 0 0)
  ⟨_, rfl, hd.1, hd.2⟩

theorem pend_pile {w : World} {B : Option Addr} {m d : Nat} {ps : List (Int × Int)} (h : Ln w 2 B m d (prVals ps)) (e p : Int) (t u : TypeId) :
    Pile ((w.alloc (.cells #[.int .i64 e, .int .i64 p] t)).alloc (.cells #[.slice B m d, .slice (some ⟨w.heap.size, 0, none⟩) 1 1] u)) 2 (some ⟨w.heap.size + 1, 0, none⟩) [⟨B, m, d, prVals ps⟩, ⟨some ⟨w.heap.size, 0, none⟩, 1, 1, prVals [(e, p)]⟩] := by
  have h1 := pile_two (h.kept (below_one w (.cells #[.int .i64 e, .int .i64 p] t))) (prVals_one _) (ln_pair w e p t) (prVals_one _) u
  rw [show (w.alloc (.cells #[.int .i64 e, .int .i64 p] t)).heap.size = w.heap.size + 1 by simp] at h1
  exact h1
theorem pend_below (w : World) (B : Option Addr) (m d : Nat) (e p : Int) (t u : TypeId) : Below w.heap.size w ((w.alloc (.cells #[.int .i64 e, .int .i64 p] t)).alloc (.cells #[.slice B m d, .slice (some ⟨w.heap.size, 0, none⟩) 1 1] u)) := below_two w _ _
theorem pend_vals (A B : Option Addr) (n c m d : Nat) (ps : List (Int × Int)) (e p : Int) : pcs [⟨A, n, c, prVals ps⟩, ⟨B, m, d, prVals [(e, p)]⟩] = prVals (ps ++ [(e, p)]) := by
  unfold pcs
  rw [prVals_append]
  simp

set_option maxRecDepth 20000 in
set_option maxHeartbeats 3200000 in
theorem give_any (s : SS) (h e p : Int) (A B : Option Addr) (n c m d : Nat) (w : World) (hh : s.hi = h) (hs : Sp w A n c B m d s) (hn : n ≤ 300000) (hm : m ≤ 300000) :
    Calls Try.prog 14 #[.agg #[.int .i64 h, .slice A n c, .slice B m d], .int .i64 e, .int .i64 p] w (SpEnd w (s.give e p).1 (s.give e p).2) := by
  obtain ⟨tb1, tb2, tb3⟩ := two_boxes w (.int .i64 h) (.slice A n c) (.slice B m d) (.int .i64 0) (.slice none 0 0) (.slice none 0 0)
  have HS := Lib.hid (hs.kept tb3)
  have HB := Lib.hid tb1
  have HR := Lib.hid tb2
  have B0 := Lib.hid tb3
  have HH := Lib.hid hh
  clear hs hh tb1 tb2 tb3
  go_enter Try.func14, Try.ntmps14
  go_wp2_with fail
  generalize (w.alloc (.cells #[.int .i64 h, .slice A n c, .slice B m d] 26)).alloc (.cells #[.int .i64 0, .slice none 0 0, .slice none 0 0] 26) = w0 at *
  refine (mayCome_any s h p A B n c m d w0 HH.out HS.out (by omega) (by omega)).mono ?_
  rintro e1 w1 ⟨rfl, b1⟩
  have B1 := Lib.hid (B0.out.trans (b1.mono B0.out.size))
  have HB1 := Lib.hid (HB.out.kept b1)
  have HR1 := Lib.hid (HR.out.kept b1)
  have HS1 := Lib.hid (HS.out.kept b1)
  clear b1 HB HR HS B0
  cases hmc : (s.may p && !(s.known p)) with
  | false =>
    have HT := Lib.hid (give_ill (giveBad_may (e := e) hmc))
    have HD := Lib.hid (give_zero B1.out (Nat.le_add_right w.heap.size 1))
    obtain ⟨e0, e1, e2⟩ := (Lib.hid (HR1.out.put (.int .i64 0) (.slice none 0 0) (.slice none 0 0))).out.cells
    obtain ⟨q0, q1, q2⟩ := HR1.out.cells
    obtain ⟨f0, f1, f2⟩ := HR1.out.free
    clear hmc
    go_wp2_with fail
    refine bodyPost_ret (v := .tuple #[.agg #[.int .i64 0, .slice none 0 0, .slice none 0 0], .int .i64 1]) (by simp [results, Try.results14, go_sem, e0, e1, e2]) rfl ?_
    rw [HT.out]
    exact HD.out
  | true =>
    have HMC := Lib.hid hmc
    obtain ⟨y0, y1, y2⟩ := HB1.out.cells
    clear hmc
    go_wp2_with fail
    refine (last_any B m d s w1 HS1.out.pe (by omega)).mono ?_
    rintro e1 w2 ⟨rfl, rfl⟩
    obtain ⟨L, hL⟩ : ∃ L, s.last = L := ⟨_, rfl⟩
    rw [hL]
    have HL := Lib.hid hL
    clear hL
    by_cases hL0 : 0 < L
    · by_cases he : e < L
      · have HT := Lib.hid (give_ill (giveBad_age (s := s) (p := p) (e := e) (by rw [HL.out]; omega)))
        have HD := Lib.hid (give_zero B1.out (Nat.le_add_right w.heap.size 1))
        obtain ⟨e0, e1, e2⟩ := (Lib.hid (HR1.out.put (.int .i64 0) (.slice none 0 0) (.slice none 0 0))).out.cells
        obtain ⟨q0, q1, q2⟩ := HR1.out.cells
        obtain ⟨f0, f1, f2⟩ := HR1.out.free
        go_wp2_with fail
        refine bodyPost_ret (v := .tuple #[.agg #[.int .i64 0, .slice none 0 0, .slice none 0 0], .int .i64 1]) (by simp [results, Try.results14, go_sem, e0, e1, e2]) rfl ?_
        rw [HT.out]
        exact HD.out
      · have HT := Lib.hid (give_well (giveBad_no (s := s) (e := e) (p := p) HMC.out (by omega) (by rw [HL.out]; omega)))
        have PF := Lib.hid (pend_pile HS1.out.pe e p 49 24)
        have BF := Lib.hid (pend_below w2 B m d e p 49 24)
        go_wp2_with fail
        clear y0 y1 y2
        refine (join_F _ 2 2 (m + 1) _ _ PF.out rfl (by simp [tot]) (by omega) (by decide)).mono ?_
        rintro e1 w3 ⟨v3, rfl, o3, b3⟩
        rw [pend_vals] at o3
        obtain ⟨B3, d3, rfl, hd3, l3⟩ := Ln.of_own o3
        have HI3 : Hid (Hi (w.heap.size + 1 + 1) B3) := Lib.hid ((Hi.of_own o3).low (by have := HR1.out.lt; have := BF.out.size; omega))
        have b23 := BF.out.trans (b3.mono BF.out.size)
        have L3 := Lib.hid l3
        have HB3 := Lib.hid (HB1.out.kept b23)
        have HR3 := Lib.hid (HR1.out.kept b23)
        have B3' := Lib.hid (B1.out.trans (b23.mono B1.out.size))
        have PL := Lib.hid ((pile_one (HS1.out.fr.kept b23) (intVals_one _) 23).kept ((Below.refl _ _).drew))
        have BA := Lib.hid ((below_one w3 (.cells #[.slice A n c] 23)).drew)
        have K0 : w3.drew.cell? ⟨w.heap.size, 0, none⟩ = some (.int .i64 h) ∧ w3.drew.cell? ⟨w.heap.size, 1, none⟩ = some (.slice A n c) := ⟨HB3.out.cells.1, HB3.out.cells.2.1⟩
        obtain ⟨x0, x1⟩ := K0
        have K0 : w3.drew.cell? ⟨w.heap.size, 0, none⟩ = some (.int .i64 h) ∧ w3.drew.cell? ⟨w.heap.size, 1, none⟩ = some (.slice A n c) := ⟨HB3.out.cells.1, HB3.out.cells.2.1⟩
        have K1 : ((w3.alloc (.cells #[.slice A n c] 23)).drew).cell? ⟨w.heap.size, 0, none⟩ = some (.int .i64 h) ∧ ((w3.alloc (.cells #[.slice A n c] 23)).drew).cell? ⟨w.heap.size, 1, none⟩ = some (.slice A n c) := ⟨(HB3.out.kept BA.out).cells.1, (HB3.out.kept BA.out).cells.2.1⟩
        clear b3 b23 o3 l3 PF
        go_wp2_with fail
        go_region_held3 (fun w' => w'.cell? ⟨w.heap.size, 0, none⟩ = some (.int .i64 h) ∧ w'.cell? ⟨w.heap.size, 1, none⟩ = some (.slice A n c))
          (first | exact K3 | exact K2 | exact K1 | exact K0)
          (first
            | (go_at_call 31; refine (join_I _ 1 1 n _ _ PL.out rfl (by simp [tot]) (by omega) (by decide)).mono ?_; rintro e1 w4 ⟨v4, rfl, o4, b4⟩; have HB4 := Lib.hid ((HB3.out.kept BA.out).kept b4); have HR4 := Lib.hid ((HR3.out.kept BA.out).kept b4); have K2 : w4.cell? ⟨w.heap.size, 0, none⟩ = some (.int .i64 h) ∧ w4.cell? ⟨w.heap.size, 1, none⟩ = some (.slice A n c) := ⟨HB4.out.cells.1, HB4.out.cells.2.1⟩; obtain ⟨q0, q1, q2⟩ := HR4.out.cells; obtain ⟨f0, f1, f2⟩ := HR4.out.free; obtain ⟨A4, c4, rfl, hc4, l4⟩ := Ln.of_own o4; have PU := But.put w4 (w.heap.size + 1) (.int .i64 h) (.slice A4 n c4) (.slice B3 (m + 1) d3); have K3 := (show _ ∧ _ from ⟨(PU.cell (k := w.heap.size) (by omega) 0).trans K2.1, (PU.cell (k := w.heap.size) (by omega) 1).trans K2.2⟩)))
        have HI4 : Hid (Hi (w.heap.size + 1 + 1) A4) := Lib.hid ((Hi.of_own o4).low (by have := HR3.out.lt; have := BA.out.size; omega))
        have B4 := Lib.hid (B3'.out.trans ((BA.out.trans (b4.mono BA.out.size)).mono B3'.out.size))
        rw [pcs_one] at l4
        have HSp : Hid (Sp w4 A4 n c4 B3 (m + 1) d3 { s with pe := s.pe ++ [(e, p)] }) := Lib.hid ⟨l4, (L3.out.kept BA.out).kept b4⟩
        have HD := Lib.hid (put_done (h := h) B4.out (Nat.le_add_right w.heap.size 1) HSp.out HI4.out HI3.out HH.out (.int .i64 h) (.slice A4 n c4) (.slice B3 (m + 1) d3))
        obtain ⟨e0, e1, e2⟩ := (Lib.hid (HR4.out.put (.int .i64 h) (.slice A4 n c4) (.slice B3 (m + 1) d3))).out.cells
        go_wp2_with fail
        refine bodyPost_ret (v := .tuple #[.agg #[.int .i64 h, .slice A4 n c4, .slice B3 (m + 1) d3], .int .i64 0]) (by simp [results, Try.results14, go_sem, e0, e1, e2]) rfl ?_
        rw [HT.out]
        exact ⟨_, rfl, HD.out.1, HD.out.2⟩
    · by_cases he : e < 0
      · have HT := Lib.hid (give_ill (giveBad_age (s := s) (p := p) (e := e) (by rw [HL.out]; omega)))
        have HD := Lib.hid (give_zero B1.out (Nat.le_add_right w.heap.size 1))
        obtain ⟨e0, e1, e2⟩ := (Lib.hid (HR1.out.put (.int .i64 0) (.slice none 0 0) (.slice none 0 0))).out.cells
        obtain ⟨q0, q1, q2⟩ := HR1.out.cells
        obtain ⟨f0, f1, f2⟩ := HR1.out.free
        go_wp2_with fail
        refine bodyPost_ret (v := .tuple #[.agg #[.int .i64 0, .slice none 0 0, .slice none 0 0], .int .i64 1]) (by simp [results, Try.results14, go_sem, e0, e1, e2]) rfl ?_
        rw [HT.out]
        exact HD.out
      · have HT := Lib.hid (give_well (giveBad_no (s := s) (e := e) (p := p) HMC.out (by omega) (by rw [HL.out]; omega)))
        have PF := Lib.hid (pend_pile HS1.out.pe e p 49 24)
        have BF := Lib.hid (pend_below w2 B m d e p 49 24)
        go_wp2_with fail
        clear y0 y1 y2
        refine (join_F _ 2 2 (m + 1) _ _ PF.out rfl (by simp [tot]) (by omega) (by decide)).mono ?_
        rintro e1 w3 ⟨v3, rfl, o3, b3⟩
        rw [pend_vals] at o3
        obtain ⟨B3, d3, rfl, hd3, l3⟩ := Ln.of_own o3
        have HI3 : Hid (Hi (w.heap.size + 1 + 1) B3) := Lib.hid ((Hi.of_own o3).low (by have := HR1.out.lt; have := BF.out.size; omega))
        have b23 := BF.out.trans (b3.mono BF.out.size)
        have L3 := Lib.hid l3
        have HB3 := Lib.hid (HB1.out.kept b23)
        have HR3 := Lib.hid (HR1.out.kept b23)
        have B3' := Lib.hid (B1.out.trans (b23.mono B1.out.size))
        have PL := Lib.hid ((pile_one (HS1.out.fr.kept b23) (intVals_one _) 23).kept ((Below.refl _ _).drew))
        have BA := Lib.hid ((below_one w3 (.cells #[.slice A n c] 23)).drew)
        have K0 : w3.drew.cell? ⟨w.heap.size, 0, none⟩ = some (.int .i64 h) ∧ w3.drew.cell? ⟨w.heap.size, 1, none⟩ = some (.slice A n c) := ⟨HB3.out.cells.1, HB3.out.cells.2.1⟩
        obtain ⟨x0, x1⟩ := K0
        have K0 : w3.drew.cell? ⟨w.heap.size, 0, none⟩ = some (.int .i64 h) ∧ w3.drew.cell? ⟨w.heap.size, 1, none⟩ = some (.slice A n c) := ⟨HB3.out.cells.1, HB3.out.cells.2.1⟩
        have K1 : ((w3.alloc (.cells #[.slice A n c] 23)).drew).cell? ⟨w.heap.size, 0, none⟩ = some (.int .i64 h) ∧ ((w3.alloc (.cells #[.slice A n c] 23)).drew).cell? ⟨w.heap.size, 1, none⟩ = some (.slice A n c) := ⟨(HB3.out.kept BA.out).cells.1, (HB3.out.kept BA.out).cells.2.1⟩
        clear b3 b23 o3 l3 PF
        go_wp2_with fail
        go_region_held3 (fun w' => w'.cell? ⟨w.heap.size, 0, none⟩ = some (.int .i64 h) ∧ w'.cell? ⟨w.heap.size, 1, none⟩ = some (.slice A n c))
          (first | exact K3 | exact K2 | exact K1 | exact K0)
          (first
            | (go_at_call 31; refine (join_I _ 1 1 n _ _ PL.out rfl (by simp [tot]) (by omega) (by decide)).mono ?_; rintro e1 w4 ⟨v4, rfl, o4, b4⟩; have HB4 := Lib.hid ((HB3.out.kept BA.out).kept b4); have HR4 := Lib.hid ((HR3.out.kept BA.out).kept b4); have K2 : w4.cell? ⟨w.heap.size, 0, none⟩ = some (.int .i64 h) ∧ w4.cell? ⟨w.heap.size, 1, none⟩ = some (.slice A n c) := ⟨HB4.out.cells.1, HB4.out.cells.2.1⟩; obtain ⟨q0, q1, q2⟩ := HR4.out.cells; obtain ⟨f0, f1, f2⟩ := HR4.out.free; obtain ⟨A4, c4, rfl, hc4, l4⟩ := Ln.of_own o4; have PU := But.put w4 (w.heap.size + 1) (.int .i64 h) (.slice A4 n c4) (.slice B3 (m + 1) d3); have K3 := (show _ ∧ _ from ⟨(PU.cell (k := w.heap.size) (by omega) 0).trans K2.1, (PU.cell (k := w.heap.size) (by omega) 1).trans K2.2⟩)))
        have HI4 : Hid (Hi (w.heap.size + 1 + 1) A4) := Lib.hid ((Hi.of_own o4).low (by have := HR3.out.lt; have := BA.out.size; omega))
        have B4 := Lib.hid (B3'.out.trans ((BA.out.trans (b4.mono BA.out.size)).mono B3'.out.size))
        rw [pcs_one] at l4
        have HSp : Hid (Sp w4 A4 n c4 B3 (m + 1) d3 { s with pe := s.pe ++ [(e, p)] }) := Lib.hid ⟨l4, (L3.out.kept BA.out).kept b4⟩
        have HD := Lib.hid (put_done (h := h) B4.out (Nat.le_add_right w.heap.size 1) HSp.out HI4.out HI3.out HH.out (.int .i64 h) (.slice A4 n c4) (.slice B3 (m + 1) d3))
        obtain ⟨e0, e1, e2⟩ := (Lib.hid (HR4.out.put (.int .i64 h) (.slice A4 n c4) (.slice B3 (m + 1) d3))).out.cells
        go_wp2_with fail
        refine bodyPost_ret (v := .tuple #[.agg #[.int .i64 h, .slice A4 n c4, .slice B3 (m + 1) d3], .int .i64 0]) (by simp [results, Try.results14, go_sem, e0, e1, e2]) rfl ?_
        rw [HT.out]
        exact ⟨_, rfl, HD.out.1, HD.out.2⟩
end Go.Proofs.Ytlldmefjhgahdaa
