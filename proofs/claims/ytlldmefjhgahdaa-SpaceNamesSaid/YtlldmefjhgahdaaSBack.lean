/-
  What Back comes to.
-/
import Derived.Test.YtlldmefjhgahdaaSPut
import Derived.Test.YtlldmefjhgahdaaSMay
import Derived.Test.YtlldmefjhgahdaaSLaid
import Derived.Test.YtlldmefjhgahdaaSJoinF
import Derived.Deep.RegionHeld3
namespace Go.Proofs.Ytlldmefjhgahdaa
open Go.RowKit

theorem back_ill {s : SS} {p : Int} (h : (s.may p && !(s.known p)) = false) : s.back p = (1, SS.none) := by
  unfold SS.back SS.backBad
  cases h1 : s.may p <;> cases h2 : s.known p <;> simp [h1, h2] at h ⊢
theorem back_well {s : SS} {p : Int} (h : (s.may p && !(s.known p)) = true) : s.back p = (0, { s with fr := SS.ins p s.fr }) := by
  unfold SS.back SS.backBad
  cases h1 : s.may p <;> cases h2 : s.known p <;> simp [h1, h2] at h ⊢
theorem back_zero {w w1 : World} {r : Nat} (hb : Below w.heap.size w w1) (hr : w.heap.size ≤ r) : SpEnd w 1 SS.none (.returned (.tuple #[.agg #[.int .i64 0, .slice none 0 0, .slice none 0 0], .int .i64 1])) (((w1.setCell ⟨r, 0, none⟩ (.int .i64 0)).setCell ⟨r, 1, none⟩ (.slice none 0 0)).setCell ⟨r, 2, none⟩ (.slice none 0 0)) :=
  have hd := put_done (h := 0) hb hr (Sp.zero w1) (Hi.none_ _) (Hi.none_ _) rfl (.int .i64 0) (.slice none 0 0) (.slice none 0 0)
  ⟨_, rfl, hd.1, hd.2⟩


theorem chain {w1 wx w3 : World} (b : Below wx.heap.size wx w3) (h : Below w1.heap.size w1 wx) : Below w1.heap.size w1 w3 := h.trans (b.mono h.size)
theorem hi_chain {w1 wx w3 : World} {sz n c r : Nat} {e : TypeId} {A : Option Addr} {cs : List Value} (o : w3.ownsRow wx.heap.size e sz (.slice A n c) n cs) (h : Below w1.heap.size w1 wx) (hr : r < w1.heap.size) : Hi (r + 1) A :=
  (Hi.of_own o).low (by have := h.size; omega)

set_option maxRecDepth 20000 in
set_option maxHeartbeats 3200000 in
theorem back_any (s : SS) (h p : Int) (A B : Option Addr) (n c m d : Nat) (w : World) (hh : s.hi = h) (hs : Sp w A n c B m d s) (hn : n ≤ 300000) (hm : m ≤ 300000) :
    Calls Try.prog 16 #[.agg #[.int .i64 h, .slice A n c, .slice B m d], .int .i64 p] w (SpEnd w (s.back p).1 (s.back p).2) := by
  obtain ⟨tb1, tb2, tb3⟩ := two_boxes w (.int .i64 h) (.slice A n c) (.slice B m d) (.int .i64 0) (.slice none 0 0) (.slice none 0 0)
  have HS := Lib.hid (hs.kept tb3)
  have HB := Lib.hid tb1
  have HR := Lib.hid tb2
  have B0 := Lib.hid tb3
  have HH := Lib.hid hh
  clear hs hh tb1 tb2 tb3
  go_enter Try.func16, Try.ntmps16
  go_wp2_with fail
  generalize (w.alloc (.cells #[.int .i64 h, .slice A n c, .slice B m d] 26)).alloc (.cells #[.int .i64 0, .slice none 0 0, .slice none 0 0] 26) = w0 at *
  refine (mayCome_any s h p A B n c m d w0 HH.out HS.out (by omega) (by omega)).mono ?_
  rintro e1 w1 ⟨rfl, b1⟩
  have B1 := Lib.hid (B0.out.trans (b1.mono B0.out.size))
  have HB1 := Lib.hid (HB.out.kept b1)
  have HR1 := Lib.hid (HR.out.kept b1)
  have HS1 := Lib.hid (HS.out.kept b1)
  clear b1 HB HR HS B0
  cases hmc : (s.may p && !(s.known p)) with
  | false =>
    have HT := Lib.hid (back_ill hmc)
    have HD := Lib.hid (back_zero B1.out (Nat.le_add_right w.heap.size 1))
    obtain ⟨e0, e1, e2⟩ := (Lib.hid (HR1.out.put (.int .i64 0) (.slice none 0 0) (.slice none 0 0))).out.cells
    obtain ⟨q0, q1, q2⟩ := HR1.out.cells
    obtain ⟨f0, f1, f2⟩ := HR1.out.free
    clear hmc
    go_wp2_with fail
    refine bodyPost_ret (v := .tuple #[.agg #[.int .i64 0, .slice none 0 0, .slice none 0 0], .int .i64 1]) (by simp [results, Try.results16, go_sem, e0, e1, e2]) rfl ?_
    rw [HT.out]
    exact HD.out
  | true =>
    have HT := Lib.hid (back_well hmc)
    clear hmc
    have BA1 := Lib.hid ((below_one w1 (.cells #[.int .i64 p] 3)).drew)
    have BA := Lib.hid ((below_two w1 (.cells #[.int .i64 p] 3) (.cells #[.slice B m d] 24)).drew)
    have LP := Lib.hid ((ln_one w1 p 3).kept ((below_one _ (.cells #[.slice B m d] 24)).drew))
    have PP0 := (pile_one (HS1.out.pe.kept (below_one w1 (.cells #[.int .i64 p] 3))) (prVals_one _) 24).kept ((Below.refl _ _).drew)
    rw [show (w1.alloc (.cells #[.int .i64 p] 3)).heap.size = w1.heap.size + 1 by simp] at PP0
    have PP1 := Lib.hid PP0
    clear PP0
    have BA4 := Lib.hid ((below_one w1 (.cells #[.slice B m d] 24)).drew)
    have BA3 := Lib.hid ((below_two w1 (.cells #[.slice B m d] 24) (.cells #[.int .i64 p] 3)).drew)
    have LP0 := (ln_one (w1.alloc (.cells #[.slice B m d] 24)) p 3).kept ((Below.refl _ _).drew)
    rw [show (w1.alloc (.cells #[.slice B m d] 24)).heap.size = w1.heap.size + 1 by simp] at LP0
    have LP3 := Lib.hid LP0
    clear LP0
    have PP3 := Lib.hid ((pile_one HS1.out.pe (prVals_one _) 24).kept ((below_one _ (.cells #[.int .i64 p] 3)).drew))
    have LF3 := Lib.hid (HS1.out.fr.kept BA3.out)
    have LF := Lib.hid (HS1.out.fr.kept BA.out)
    have LF1 := Lib.hid (HS1.out.fr.kept BA1.out)
    have LP1 := Lib.hid ((ln_one w1 p 3).kept ((Below.refl _ _).drew))
    have K0 : w1.drew.cell? ⟨w.heap.size, 0, none⟩ = some (.int .i64 h) ∧ w1.drew.cell? ⟨w.heap.size, 1, none⟩ = some (.slice A n c) ∧ w1.drew.cell? ⟨w.heap.size, 2, none⟩ = some (.slice B m d) := HB1.out.cells
    obtain ⟨x0, x1, x2⟩ := K0
    have K0 : w1.drew.cell? ⟨w.heap.size, 0, none⟩ = some (.int .i64 h) ∧ w1.drew.cell? ⟨w.heap.size, 1, none⟩ = some (.slice A n c) ∧ w1.drew.cell? ⟨w.heap.size, 2, none⟩ = some (.slice B m d) := HB1.out.cells
    have K1 : ((w1.alloc (.cells #[.int .i64 p] 3)).drew).cell? ⟨w.heap.size, 0, none⟩ = some (.int .i64 h) ∧ ((w1.alloc (.cells #[.int .i64 p] 3)).drew).cell? ⟨w.heap.size, 1, none⟩ = some (.slice A n c) ∧ ((w1.alloc (.cells #[.int .i64 p] 3)).drew).cell? ⟨w.heap.size, 2, none⟩ = some (.slice B m d) := (HB1.out.kept BA1.out).cells
    have K1' : (((w1.alloc (.cells #[.int .i64 p] 3)).alloc (.cells #[.slice B m d] 24)).drew).cell? ⟨w.heap.size, 0, none⟩ = some (.int .i64 h) ∧ (((w1.alloc (.cells #[.int .i64 p] 3)).alloc (.cells #[.slice B m d] 24)).drew).cell? ⟨w.heap.size, 1, none⟩ = some (.slice A n c) ∧ (((w1.alloc (.cells #[.int .i64 p] 3)).alloc (.cells #[.slice B m d] 24)).drew).cell? ⟨w.heap.size, 2, none⟩ = some (.slice B m d) := (HB1.out.kept BA.out).cells
    have K7 : (((w1.alloc (.cells #[.slice B m d] 24)).alloc (.cells #[.int .i64 p] 3)).drew).cell? ⟨w.heap.size, 0, none⟩ = some (.int .i64 h) ∧ (((w1.alloc (.cells #[.slice B m d] 24)).alloc (.cells #[.int .i64 p] 3)).drew).cell? ⟨w.heap.size, 1, none⟩ = some (.slice A n c) ∧ (((w1.alloc (.cells #[.slice B m d] 24)).alloc (.cells #[.int .i64 p] 3)).drew).cell? ⟨w.heap.size, 2, none⟩ = some (.slice B m d) := (HB1.out.kept BA3.out).cells
    have K8 : ((w1.alloc (.cells #[.slice B m d] 24)).drew).cell? ⟨w.heap.size, 0, none⟩ = some (.int .i64 h) ∧ ((w1.alloc (.cells #[.slice B m d] 24)).drew).cell? ⟨w.heap.size, 1, none⟩ = some (.slice A n c) ∧ ((w1.alloc (.cells #[.slice B m d] 24)).drew).cell? ⟨w.heap.size, 2, none⟩ = some (.slice B m d) := (HB1.out.kept BA4.out).cells
    go_wp2_with fail
    go_region_held3 (fun w' => w'.cell? ⟨w.heap.size, 0, none⟩ = some (.int .i64 h) ∧ w'.cell? ⟨w.heap.size, 1, none⟩ = some (.slice A n c) ∧ w'.cell? ⟨w.heap.size, 2, none⟩ = some (.slice B m d))
      (first | exact K5 | exact K4 | exact K3 | exact K8 | exact K7 | exact K2 | exact K1' | exact K1 | exact K0)
      (first
        | (go_at_call 36; refine (laid_any A _ n c 1 1 s.fr [p] _ (by first | exact LF.out | exact LF1.out | exact LF3.out) (by first | exact LP.out | exact LP1.out | exact LP3.out) (by omega) (by decide)).mono ?_; rintro e1 w3 ⟨v3, rfl, o3, b3⟩; obtain ⟨A3, c3, rfl, hc3, l3⟩ := Ln.of_own o3; have BC := Lib.hid (chain b3 (by first | exact BA.out | exact BA1.out | exact BA3.out)); have HI3 := Lib.hid (hi_chain o3 (by first | exact BA.out | exact BA1.out | exact BA3.out) HR1.out.lt); have HB3 := Lib.hid (HB1.out.kept BC.out); have HR3 := Lib.hid (HR1.out.kept BC.out); have K2 : w3.cell? ⟨w.heap.size, 0, none⟩ = some (.int .i64 h) ∧ w3.cell? ⟨w.heap.size, 1, none⟩ = some (.slice A n c) ∧ w3.cell? ⟨w.heap.size, 2, none⟩ = some (.slice B m d) := HB3.out.cells; have K3 : (w3.alloc (.cells #[.slice B m d] 24)).cell? ⟨w.heap.size, 0, none⟩ = some (.int .i64 h) ∧ (w3.alloc (.cells #[.slice B m d] 24)).cell? ⟨w.heap.size, 1, none⟩ = some (.slice A n c) ∧ (w3.alloc (.cells #[.slice B m d] 24)).cell? ⟨w.heap.size, 2, none⟩ = some (.slice B m d) := (HB3.out.kept (below_one _ _)).cells; have PZ := Lib.hid (pile_one (HS1.out.pe.kept BC.out) (prVals_one _) 24))
        | (go_at_call 30; refine (join_F _ 1 1 m _ _ (by first | exact PZ.out | exact PP1.out.kept b3 | exact PP3.out.kept b3) rfl (by simp [tot]) (by omega) (by decide)).mono ?_; rintro e1 w4 ⟨v4, rfl, o4, b4⟩; have B34 := Lib.hid (chain b4 (by first | exact Below.refl w3.heap.size w3 | exact below_one w3 _)); obtain ⟨B4, d4, rfl, hd4, l4⟩ := Ln.of_own o4; have HI4 := Lib.hid (hi_chain o4 (by first | exact Below.refl w3.heap.size w3 | exact below_one w3 _) HR3.out.lt); have HB4 := Lib.hid (HB3.out.kept B34.out); have HR4 := Lib.hid (HR3.out.kept B34.out); have K4 : w4.cell? ⟨w.heap.size, 0, none⟩ = some (.int .i64 h) ∧ w4.cell? ⟨w.heap.size, 1, none⟩ = some (.slice A n c) ∧ w4.cell? ⟨w.heap.size, 2, none⟩ = some (.slice B m d) := HB4.out.cells; obtain ⟨q0, q1, q2⟩ := HR4.out.cells; obtain ⟨f0, f1, f2⟩ := HR4.out.free; have PU := But.put w4 (w.heap.size + 1) (.int .i64 h) (.slice A3 (n + 1) c3) (.slice B4 m d4); have K5 := (show _ ∧ _ ∧ _ from ⟨(PU.cell (k := w.heap.size) (by omega) 0).trans K4.1, (PU.cell (k := w.heap.size) (by omega) 1).trans K4.2.1, (PU.cell (k := w.heap.size) (by omega) 2).trans K4.2.2⟩)))
    all_goals (
      have B3 := Lib.hid (B1.out.trans (BC.out.mono B1.out.size))
      have B4' := Lib.hid (B3.out.trans (B34.out.mono B3.out.size))
      rw [pcs_one] at l4
      have HSp : Hid (Sp w4 A3 (n + 1) c3 B4 m d4 { s with fr := SS.ins p s.fr }) := Lib.hid ⟨l3.kept B34.out, l4⟩
      have HD := Lib.hid (put_done (h := h) B4'.out (Nat.le_add_right w.heap.size 1) HSp.out HI3.out HI4.out HH.out (.int .i64 h) (.slice A3 (n + 1) c3) (.slice B4 m d4))
      obtain ⟨e0, e1, e2⟩ := (Lib.hid (HR4.out.put (.int .i64 h) (.slice A3 (n + 1) c3) (.slice B4 m d4))).out.cells
      go_wp2_with fail
      refine bodyPost_ret (v := .tuple #[.agg #[.int .i64 h, .slice A3 (n + 1) c3, .slice B4 m d4], .int .i64 0]) (by simp [results, Try.results16, go_sem, e0, e1, e2]) rfl ?_
      rw [HT.out]
      exact ⟨_, rfl, HD.out.1, HD.out.2⟩)
end Go.Proofs.Ytlldmefjhgahdaa
