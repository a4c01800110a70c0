/-
  What Take comes to.
-/
import Derived.Test.YtlldmefjhgahdaaSPut
import Derived.Test.YtlldmefjhgahdaaSJoinI
import Derived.Test.YtlldmefjhgahdaaSJoinF
import Derived.Deep.RegionHeld3
import Derived.IntWalk
namespace Go.Proofs.Ytlldmefjhgahdaa
open Go.RowKit

theorem take_some {s : SS} {t z : Int} (hv : s.fr[0]? = some z) : s.take t = (0, z, { s with fr := s.fr.drop 1 }) := by
  unfold SS.take
  cases h : s.fr with
  | nil => rw [h] at hv; cases hv
  | cons y l =>
    rw [h] at hv
    obtain rfl := Option.some.inj hv
    rfl

set_option maxRecDepth 20000 in
set_option maxHeartbeats 3200000 in
theorem take_one (s : SS) (h t : Int) (A B : Option Addr) (n c m d : Nat) (w : World) (hh : s.hi = h) (hs : Sp w A n c B m d s) (hn : n ≤ 400000) (hm : m ≤ 400000) (hn0 : 0 < n) (hc1 : 1 < c) :
    Calls Try.prog 12 #[.agg #[.int .i64 h, .slice A n c, .slice B m d], .int .i64 t] w (TakeEnd w (s.take t)) := by
  obtain ⟨b, off, z, rfl, hv, hz⟩ := hs.fr.intAt hn0
  have HT := Lib.hid (take_some (t := t) hv)
  obtain ⟨tb1, tb2, tb3⟩ := two_boxes w (.int .i64 h) (.slice (some ⟨b, off, none⟩) n c) (.slice B m d) (.int .i64 0) (.slice none 0 0) (.slice none 0 0)
  have HS := Lib.hid (hs.kept tb3)
  have HB := Lib.hid tb1
  have HR := Lib.hid tb2
  have B0 := Lib.hid tb3
  have HH := Lib.hid hh
  have HZ := Lib.hid hz
  clear hs hh hv tb1 tb2 tb3 hz
  have hsz : ((w.alloc (.cells #[.int .i64 h, .slice (some ⟨b, off, none⟩) n c, .slice B m d] 26)).alloc (.cells #[.int .i64 0, .slice none 0 0, .slice none 0 0] 26)).heap.size = w.heap.size + 1 + 1 := by simp
  have P0 := pile_one HS.out.pe (prVals_one _) 24
  rw [hsz] at P0
  have HP0 := Lib.hid P0
  clear P0 hsz
  go_enter Try.func12, Try.ntmps12
  go_wp2_with fail
  generalize (w.alloc (.cells #[.int .i64 h, .slice (some ⟨b, off, none⟩) n c, .slice B m d] 26)).alloc (.cells #[.int .i64 0, .slice none 0 0, .slice none 0 0] 26) = w0 at *
  refine (join_F _ 1 1 m _ _ HP0.out rfl (by simp [tot]) (by omega) (by decide)).mono ?_
  rintro e w1 ⟨v1, rfl, o1, b1⟩
  rw [pcs_one] at o1
  have b01 : Below w0.heap.size w0 w1 := (below_one w0 (.cells #[.slice B m d] 24)).trans (b1.mono (below_one w0 (.cells #[.slice B m d] 24)).size)
  obtain ⟨B1, d1, rfl, hd1, l1⟩ := Ln.of_own o1
  have HI1 : Hid (Hi (w.heap.size + 1 + 1) B1) := Lib.hid ((Hi.of_own o1).low (by have := HR.out.lt; have := (below_one w0 (.cells #[.slice B m d] 24)).size; omega))
  have L1 := Lib.hid l1
  have B1' := Lib.hid b01
  have HB1 := Lib.hid (HB.out.kept b01)
  have HR1 := Lib.hid (HR.out.kept b01)
  clear b1 o1 l1 b01 HP0
  obtain ⟨a0, a1, a2⟩ := HB1.out.cells
  have n0 : (0 : Int) < (n : Int) := by omega
  have n1 : (1 : Int) ≤ (n : Int) := by omega
  have n2 : (n : Int) ≤ (c : Int) := by have := HS.out.fr.le; omega
  have n3 : (1 : Int) < (c : Int) := by omega
  have n4 : ¬ c = 1 := by omega
  have n5 : (1 : Int) ≤ (c : Int) := by omega
  have hbz : b < w.heap.size := World.block_lt_of_cell? _ _ HZ.out
  have HZ1 : Hid (w1.drew.cell? ⟨b, off, none⟩ = some (.int .i64 z)) := Lib.hid (((B0.out.trans (B1'.out.mono B0.out.size)).cell (p := ⟨b, off, none⟩) hbz).trans HZ.out)
  have hb1 : b < w1.heap.size := World.block_lt_of_cell? _ _ HZ1.out
  have K0 : w1.drew.cell? ⟨w.heap.size, 0, none⟩ = some (.int .i64 h) ∧ w1.drew.cell? ⟨w.heap.size, 1, none⟩ = some (.slice (some ⟨b, off, none⟩) n c) ∧ w1.drew.cell? ⟨b, off, none⟩ = some (.int .i64 z) := ⟨HB1.out.cells.1, HB1.out.cells.2.1, HZ1.out⟩
  have BA := Lib.hid ((below_one w1 (.cells #[.slice (some ⟨b, off + 1, none⟩) (n - 1) (c - 1)] 23)).drew)
  have PL := Lib.hid (pile_one (w := w1) (((HS.out.fr.kept B1'.out)).intDrop (k := 1) (by omega)) (intVals_one _) 23)
  have PL2 := Lib.hid (PL.out.kept ((Below.refl _ _).drew))
  have K1 : ((w1.alloc (.cells #[.slice (some ⟨b, off + 1, none⟩) (n - 1) (c - 1)] 23)).drew).cell? ⟨w.heap.size, 0, none⟩ = some (.int .i64 h) ∧ ((w1.alloc (.cells #[.slice (some ⟨b, off + 1, none⟩) (n - 1) (c - 1)] 23)).drew).cell? ⟨w.heap.size, 1, none⟩ = some (.slice (some ⟨b, off, none⟩) n c) ∧ ((w1.alloc (.cells #[.slice (some ⟨b, off + 1, none⟩) (n - 1) (c - 1)] 23)).drew).cell? ⟨b, off, none⟩ = some (.int .i64 z) :=
    ⟨(HB1.out.kept BA.out).cells.1, (HB1.out.kept BA.out).cells.2.1, (BA.out.cell (p := ⟨b, off, none⟩) hb1).trans HZ1.out⟩
  clear a0 a1 a2
  obtain ⟨x0, x1, x2⟩ := K0
  have K0 : w1.drew.cell? ⟨w.heap.size, 0, none⟩ = some (.int .i64 h) ∧ w1.drew.cell? ⟨w.heap.size, 1, none⟩ = some (.slice (some ⟨b, off, none⟩) n c) ∧ w1.drew.cell? ⟨b, off, none⟩ = some (.int .i64 z) := ⟨HB1.out.cells.1, HB1.out.cells.2.1, HZ1.out⟩
  obtain ⟨y0, y1, y2⟩ := HB1.out.cells
  go_wp2_with fail
  clear y0 y1 y2
  go_region_held3 (fun w' => w'.cell? ⟨w.heap.size, 0, none⟩ = some (.int .i64 h) ∧ w'.cell? ⟨w.heap.size, 1, none⟩ = some (.slice (some ⟨b, off, none⟩) n c) ∧ w'.cell? ⟨b, off, none⟩ = some (.int .i64 z))
    (first | exact K3 | exact K2 | exact K1 | exact K0)
    (first
      | (go_at_call 31; refine (join_I _ 1 1 (n - 1) _ _ PL2.out rfl (by simp [tot]) (by omega) (by decide)).mono ?_; rintro e w2 ⟨v2, rfl, o2, b2⟩; have HB2 := Lib.hid ((HB1.out.kept BA.out).kept b2); have HR2 := Lib.hid ((HR1.out.kept BA.out).kept b2); have K2 : w2.cell? ⟨w.heap.size, 0, none⟩ = some (.int .i64 h) ∧ w2.cell? ⟨w.heap.size, 1, none⟩ = some (.slice (some ⟨b, off, none⟩) n c) ∧ w2.cell? ⟨b, off, none⟩ = some (.int .i64 z) := ⟨HB2.out.cells.1, HB2.out.cells.2.1, (b2.cell (p := ⟨b, off, none⟩) (Nat.lt_of_lt_of_le hb1 BA.out.size)).trans K1.2.2⟩; obtain ⟨q0, q1, q2⟩ := HR2.out.cells; obtain ⟨f0, f1, f2⟩ := HR2.out.free; obtain ⟨A2, c2, rfl, hc2, l2⟩ := Ln.of_own o2; have PU := But.put w2 (w.heap.size + 1) (.int .i64 h) (.slice A2 (n - 1) c2) (.slice B1 m d1); have K3 := (show _ ∧ _ ∧ _ from ⟨(PU.cell (k := w.heap.size) (by omega) 0).trans K2.1, (PU.cell (k := w.heap.size) (by omega) 1).trans K2.2.1, (PU.cell (k := b) (by omega) off).trans K2.2.2⟩)))
  have HI2 : Hid (Hi (w.heap.size + 1 + 1) A2) := Lib.hid ((Hi.of_own o2).low (by have := HR1.out.lt; have := BA.out.size; omega))
  have B2 := Lib.hid (B0.out.trans (((B1'.out.trans (BA.out.mono B1'.out.size)).trans (b2.mono (Nat.le_trans B1'.out.size BA.out.size))).mono B0.out.size))
  rw [pcs_one] at l2
  have HSp : Hid (Sp w2 A2 (n - 1) c2 B1 m d1 { s with fr := s.fr.drop 1 }) := Lib.hid ⟨l2, (L1.out.kept BA.out).kept b2⟩
  have HD := Lib.hid (put_done (h := h) B2.out (Nat.le_succ _) HSp.out HI2.out HI1.out HH.out (.int .i64 h) (.slice A2 (n - 1) c2) (.slice B1 m d1))
  have HQ := Lib.hid (HR2.out.put (.int .i64 h) (.slice A2 (n - 1) c2) (.slice B1 m d1))
  obtain ⟨e0, e1, e2⟩ := HQ.out.cells
  go_wp2_with fail
  refine bodyPost_ret (v := .tuple #[.agg #[.int .i64 h, .slice A2 (n - 1) c2, .slice B1 m d1], .int .i64 z, .int .i64 0]) (by simp [results, Try.results12, go_sem, e0, e1, e2]) rfl ?_
  rw [HT.out]
  exact ⟨_, rfl, HD.out.1, HD.out.2⟩
set_option maxRecDepth 20000 in
set_option maxHeartbeats 3200000 in
theorem take_last (s : SS) (h t : Int) (A B : Option Addr) (m d : Nat) (w : World) (hh : s.hi = h) (hs : Sp w A 1 1 B m d s) (hm : m ≤ 400000) :
    Calls Try.prog 12 #[.agg #[.int .i64 h, .slice A 1 1, .slice B m d], .int .i64 t] w (TakeEnd w (s.take t)) := by
  obtain ⟨b, off, z, rfl, hv, hz⟩ := hs.fr.intAt (k := 0) (by omega)
  have HT := Lib.hid (take_some (t := t) hv)
  obtain ⟨tb1, tb2, tb3⟩ := two_boxes w (.int .i64 h) (.slice (some ⟨b, off, none⟩) 1 1) (.slice B m d) (.int .i64 0) (.slice none 0 0) (.slice none 0 0)
  have HS := Lib.hid (hs.kept tb3)
  have HB := Lib.hid tb1
  have HR := Lib.hid tb2
  have B0 := Lib.hid tb3
  have HH := Lib.hid hh
  have HZ := Lib.hid hz
  clear hs hh hv tb1 tb2 tb3 hz
  have hsz : ((w.alloc (.cells #[.int .i64 h, .slice (some ⟨b, off, none⟩) 1 1, .slice B m d] 26)).alloc (.cells #[.int .i64 0, .slice none 0 0, .slice none 0 0] 26)).heap.size = w.heap.size + 1 + 1 := by simp
  have P0 := pile_one HS.out.pe (prVals_one _) 24
  rw [hsz] at P0
  have HP0 := Lib.hid P0
  clear P0 hsz
  go_enter Try.func12, Try.ntmps12
  go_wp2_with fail
  generalize (w.alloc (.cells #[.int .i64 h, .slice (some ⟨b, off, none⟩) 1 1, .slice B m d] 26)).alloc (.cells #[.int .i64 0, .slice none 0 0, .slice none 0 0] 26) = w0 at *
  refine (join_F _ 1 1 m _ _ HP0.out rfl (by simp [tot]) (by omega) (by decide)).mono ?_
  rintro e w1 ⟨v1, rfl, o1, b1⟩
  rw [pcs_one] at o1
  have b01 : Below w0.heap.size w0 w1 := (below_one w0 (.cells #[.slice B m d] 24)).trans (b1.mono (below_one w0 (.cells #[.slice B m d] 24)).size)
  obtain ⟨B1, d1, rfl, hd1, l1⟩ := Ln.of_own o1
  have HI1 : Hid (Hi (w.heap.size + 1 + 1) B1) := Lib.hid ((Hi.of_own o1).low (by have := HR.out.lt; have := (below_one w0 (.cells #[.slice B m d] 24)).size; omega))
  have L1 := Lib.hid l1
  have B1' := Lib.hid b01
  have HB1 := Lib.hid (HB.out.kept b01)
  have HR1 := Lib.hid (HR.out.kept b01)
  clear b1 o1 l1 b01 HP0
  obtain ⟨a0, a1, a2⟩ := HB1.out.cells
  have hbz : b < w.heap.size := World.block_lt_of_cell? _ _ HZ.out
  have HZ1 : Hid (w1.drew.cell? ⟨b, off, none⟩ = some (.int .i64 z)) := Lib.hid (((B0.out.trans (B1'.out.mono B0.out.size)).cell (p := ⟨b, off, none⟩) hbz).trans HZ.out)
  have hb1 : b < w1.heap.size := World.block_lt_of_cell? _ _ HZ1.out
  have K0 : w1.drew.cell? ⟨w.heap.size, 0, none⟩ = some (.int .i64 h) ∧ w1.drew.cell? ⟨w.heap.size, 1, none⟩ = some (.slice (some ⟨b, off, none⟩) 1 1) ∧ w1.drew.cell? ⟨b, off, none⟩ = some (.int .i64 z) := ⟨HB1.out.cells.1, HB1.out.cells.2.1, HZ1.out⟩
  have BA := Lib.hid ((below_one w1 (.cells #[.slice (some ⟨b, off, none⟩) 0 0] 23)).drew)
  have PL := Lib.hid (pile_one (w := w1) (by have := HS.out.fr.intN; rw [List.drop_of_length_le (by omega)]; exact Ln.empty _ _ _ _ : Ln w1 1 (some ⟨b, off, none⟩) 0 0 (intVals (s.fr.drop 1))) (intVals_one _) 23)
  have PL2 := Lib.hid (PL.out.kept ((Below.refl _ _).drew))
  have K1 : ((w1.alloc (.cells #[.slice (some ⟨b, off, none⟩) 0 0] 23)).drew).cell? ⟨w.heap.size, 0, none⟩ = some (.int .i64 h) ∧ ((w1.alloc (.cells #[.slice (some ⟨b, off, none⟩) 0 0] 23)).drew).cell? ⟨w.heap.size, 1, none⟩ = some (.slice (some ⟨b, off, none⟩) 1 1) ∧ ((w1.alloc (.cells #[.slice (some ⟨b, off, none⟩) 0 0] 23)).drew).cell? ⟨b, off, none⟩ = some (.int .i64 z) :=
    ⟨(HB1.out.kept BA.out).cells.1, (HB1.out.kept BA.out).cells.2.1, (BA.out.cell (p := ⟨b, off, none⟩) hb1).trans HZ1.out⟩
  clear a0 a1 a2
  obtain ⟨x0, x1, x2⟩ := K0
  have K0 : w1.drew.cell? ⟨w.heap.size, 0, none⟩ = some (.int .i64 h) ∧ w1.drew.cell? ⟨w.heap.size, 1, none⟩ = some (.slice (some ⟨b, off, none⟩) 1 1) ∧ w1.drew.cell? ⟨b, off, none⟩ = some (.int .i64 z) := ⟨HB1.out.cells.1, HB1.out.cells.2.1, HZ1.out⟩
  obtain ⟨y0, y1, y2⟩ := HB1.out.cells
  go_wp2_with fail
  clear y0 y1 y2
  go_region_held3 (fun w' => w'.cell? ⟨w.heap.size, 0, none⟩ = some (.int .i64 h) ∧ w'.cell? ⟨w.heap.size, 1, none⟩ = some (.slice (some ⟨b, off, none⟩) 1 1) ∧ w'.cell? ⟨b, off, none⟩ = some (.int .i64 z))
    (first | exact K3 | exact K2 | exact K1 | exact K0)
    (first
      | (go_at_call 31; refine (join_I _ 1 1 0 _ _ PL2.out rfl (by simp [tot]) (by omega) (by decide)).mono ?_; rintro e w2 ⟨v2, rfl, o2, b2⟩; have HB2 := Lib.hid ((HB1.out.kept BA.out).kept b2); have HR2 := Lib.hid ((HR1.out.kept BA.out).kept b2); have K2 : w2.cell? ⟨w.heap.size, 0, none⟩ = some (.int .i64 h) ∧ w2.cell? ⟨w.heap.size, 1, none⟩ = some (.slice (some ⟨b, off, none⟩) 1 1) ∧ w2.cell? ⟨b, off, none⟩ = some (.int .i64 z) := ⟨HB2.out.cells.1, HB2.out.cells.2.1, (b2.cell (p := ⟨b, off, none⟩) (Nat.lt_of_lt_of_le hb1 BA.out.size)).trans K1.2.2⟩; obtain ⟨q0, q1, q2⟩ := HR2.out.cells; obtain ⟨f0, f1, f2⟩ := HR2.out.free; obtain ⟨A2, c2, rfl, hc2, l2⟩ := Ln.of_own o2; have PU := But.put w2 (w.heap.size + 1) (.int .i64 h) (.slice A2 0 c2) (.slice B1 m d1); have K3 := (show _ ∧ _ ∧ _ from ⟨(PU.cell (k := w.heap.size) (by omega) 0).trans K2.1, (PU.cell (k := w.heap.size) (by omega) 1).trans K2.2.1, (PU.cell (k := b) (by omega) off).trans K2.2.2⟩)))
  have HI2 : Hid (Hi (w.heap.size + 1 + 1) A2) := Lib.hid ((Hi.of_own o2).low (by have := HR1.out.lt; have := BA.out.size; omega))
  have B2 := Lib.hid (B0.out.trans (((B1'.out.trans (BA.out.mono B1'.out.size)).trans (b2.mono (Nat.le_trans B1'.out.size BA.out.size))).mono B0.out.size))
  rw [pcs_one] at l2
  have HSp : Hid (Sp w2 A2 0 c2 B1 m d1 { s with fr := s.fr.drop 1 }) := Lib.hid ⟨l2, (L1.out.kept BA.out).kept b2⟩
  have HD := Lib.hid (put_done (h := h) B2.out (Nat.le_succ _) HSp.out HI2.out HI1.out HH.out (.int .i64 h) (.slice A2 0 c2) (.slice B1 m d1))
  have HQ := Lib.hid (HR2.out.put (.int .i64 h) (.slice A2 0 c2) (.slice B1 m d1))
  obtain ⟨e0, e1, e2⟩ := HQ.out.cells
  go_wp2_with fail
  refine bodyPost_ret (v := .tuple #[.agg #[.int .i64 h, .slice A2 0 c2, .slice B1 m d1], .int .i64 z, .int .i64 0]) (by simp [results, Try.results12, go_sem, e0, e1, e2]) rfl ?_
  rw [HT.out]
  exact ⟨_, rfl, HD.out.1, HD.out.2⟩
theorem take_full {s : SS} {t : Int} (hl : s.fr.length = 0) (hv : ¬ s.hi < t) : s.take t = (81, 0, SS.none) := by
  unfold SS.take
  rw [List.eq_nil_of_length_eq_zero hl]
  simp only
  rw [if_neg hv]
theorem take_new {s : SS} {t : Int} (hl : s.fr.length = 0) (hv : s.hi < t) : s.take t = (0, s.hi, ⟨s.hi + 1, [], s.pe⟩) := by
  unfold SS.take
  rw [List.eq_nil_of_length_eq_zero hl]
  simp only
  rw [if_pos hv]

set_option maxRecDepth 20000 in
set_option maxHeartbeats 3200000 in
theorem take_none (s : SS) (h t : Int) (A B : Option Addr) (c m d : Nat) (w : World) (hh : s.hi = h) (hs : Sp w A 0 c B m d s) (hm : m ≤ 400000) (h1 : -9223372036854775808 ≤ h) (h2 : t ≤ 9223372036854775807) :
    Calls Try.prog 12 #[.agg #[.int .i64 h, .slice A 0 c, .slice B m d], .int .i64 t] w (TakeEnd w (s.take t)) := by
  obtain ⟨tb1, tb2, tb3⟩ := two_boxes w (.int .i64 h) (.slice A 0 c) (.slice B m d) (.int .i64 0) (.slice none 0 0) (.slice none 0 0)
  have HS := Lib.hid (hs.kept tb3)
  have HB := Lib.hid tb1
  have HR := Lib.hid tb2
  have B0 := Lib.hid tb3
  have HFL := Lib.hid hs.fl
  clear hs tb1 tb2 tb3
  have hsz : ((w.alloc (.cells #[.int .i64 h, .slice A 0 c, .slice B m d] 26)).alloc (.cells #[.int .i64 0, .slice none 0 0, .slice none 0 0] 26)).heap.size = w.heap.size + 1 + 1 := by simp
  have P0 := pile_one HS.out.pe (prVals_one _) 24
  rw [hsz] at P0
  have HP0 := Lib.hid P0
  have HH := Lib.hid hh
  clear P0 hsz hh
  go_enter Try.func12, Try.ntmps12
  go_wp2_with fail
  generalize (w.alloc (.cells #[.int .i64 h, .slice A 0 c, .slice B m d] 26)).alloc (.cells #[.int .i64 0, .slice none 0 0, .slice none 0 0] 26) = w0 at *
  refine (join_F _ 1 1 m _ _ HP0.out rfl (by simp [tot]) (by omega) (by decide)).mono ?_
  rintro e w1 ⟨v1, rfl, o1, b1⟩
  rw [pcs_one] at o1
  have b01 : Below w0.heap.size w0 w1 := (below_one w0 (.cells #[.slice B m d] 24)).trans (b1.mono (below_one w0 (.cells #[.slice B m d] 24)).size)
  obtain ⟨B1, d1, rfl, hd1, l1⟩ := Ln.of_own o1
  have HI1 : Hid (Hi (w.heap.size + 1 + 1) B1) := Lib.hid ((Hi.of_own o1).low (by have := HR.out.lt; have := (below_one w0 (.cells #[.slice B m d] 24)).size; omega))
  have L1 := Lib.hid l1
  have B2 := Lib.hid (B0.out.trans (b01.mono B0.out.size))
  have HB1 := Lib.hid (HB.out.kept b01)
  have HR1 := Lib.hid (HR.out.kept b01)
  clear b1 o1 l1 b01 HP0
  obtain ⟨y0, y1, y2⟩ := HB1.out.cells
  obtain ⟨q0, q1, q2⟩ := HR1.out.cells
  obtain ⟨f0, f1, f2⟩ := HR1.out.free
  by_cases hlt : h < t
  · have i1 : IntKind.i64.wrap (h + 1) = h + 1 := IntWalk.i64_in _ (by omega)
    have HT := Lib.hid (take_new (s := s) (t := t) HFL.out (by rw [HH.out]; exact hlt))
    have K0 : w1.drew.cell? ⟨w.heap.size, 0, none⟩ = some (.int .i64 h) := y0
    have PU := But.put w1 (w.heap.size + 1) (.int .i64 (h + 1)) (.slice none 0 0) (.slice B1 m d1)
    have K1 := (PU.cell (k := w.heap.size) (by omega) 0).trans y0
    clear PU
    go_wp2_with fail
    go_region_held3 (fun w' => w'.cell? ⟨w.heap.size, 0, none⟩ = some (.int .i64 h)) (first | exact K1 | exact K0) (fail)
    have HSp : Hid (Sp w1 none 0 0 B1 m d1 ⟨s.hi + 1, [], s.pe⟩) := Lib.hid ⟨Ln.none_ _ _, L1.out⟩
    have HD := Lib.hid (put_done (h := h + 1) B2.out (Nat.le_succ _) HSp.out (Hi.none_ _) HI1.out (by rw [HH.out]) (.int .i64 (h + 1)) (.slice none 0 0) (.slice B1 m d1))
    have HQ := Lib.hid (HR1.out.put (.int .i64 (h + 1)) (.slice none 0 0) (.slice B1 m d1))
    obtain ⟨e0, e1, e2⟩ := HQ.out.cells
    go_wp2_with fail
    refine bodyPost_ret (v := .tuple #[.agg #[.int .i64 (h + 1), .slice none 0 0, .slice B1 m d1], .int .i64 h, .int .i64 0]) (by simp [results, Try.results12, go_sem, e0, e1, e2]) rfl ?_
    rw [HT.out]
    exact ⟨_, by rw [HH.out], HD.out.1.kept ((Below.refl _ _).drew), HD.out.2.drew⟩
  · have HT := Lib.hid (take_full (s := s) (t := t) HFL.out (by rw [HH.out]; exact hlt))
    have HD := Lib.hid (put_done (h := 0) B2.out (Nat.le_succ _) (Sp.zero w1) (Hi.none_ _) (Hi.none_ _) rfl (.int .i64 0) (.slice none 0 0) (.slice none 0 0))
    have HQ := Lib.hid (HR1.out.put (.int .i64 0) (.slice none 0 0) (.slice none 0 0))
    obtain ⟨e0, e1, e2⟩ := HQ.out.cells
    go_wp2_with fail
    refine bodyPost_ret (v := .tuple #[.agg #[.int .i64 0, .slice none 0 0, .slice none 0 0], .int .i64 0, .int .i64 81]) (by simp [results, Try.results12, go_sem, e0, e1, e2]) rfl ?_
    rw [HT.out]
    exact ⟨_, rfl, HD.out.1, HD.out.2⟩

set_option maxRecDepth 20000 in
theorem take_any (s : SS) (h t : Int) (A B : Option Addr) (n c m d : Nat) (w : World) (hh : s.hi = h) (hs : Sp w A n c B m d s) (hn : n ≤ 400000) (hm : m ≤ 400000) (h1 : -9223372036854775808 ≤ h) (h2 : t ≤ 9223372036854775807) :
    Calls Try.prog 12 #[.agg #[.int .i64 h, .slice A n c, .slice B m d], .int .i64 t] w (TakeEnd w (s.take t)) := by
  have hc := hs.fr.le
  by_cases hn0 : n = 0
  · subst hn0
    exact take_none s h t A B c m d w hh hs hm h1 h2
  · by_cases hc1 : 1 < c
    · exact take_one s h t A B n c m d w hh hs hn hm (by omega) hc1
    · obtain rfl : c = 1 := by omega
      obtain rfl : n = 1 := by omega
      exact take_last s h t A B m d w hh hs hm
end Go.Proofs.Ytlldmefjhgahdaa
