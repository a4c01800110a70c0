/-
  A part of the proof: what its texts say stands at the head of each. Conditions: none.
-/
import Derived.Deep.QuietTactic
import Derived.BigQuiet
import Derived.Test.YtlldmefjhgahdaaZC1
import Derived.Test.YtlldmefjhgahdaaZC2
import Derived.Test.YtlldmefjhgahdaaZC3

/-
  What Take comes to, and that what it answers lies in memory of its own.
-/
namespace Go.Proofs.Ytlldmefjhgahdaa
open Go.RowKit

/-- Pages' lists that are answered, in memory of their own. -/
def SpVH (w w' : World) (v : Value) (s : SS) : Prop := ∃ A n c B m d, v = .agg #[.int .i64 s.hi, .slice A n c, .slice B m d] ∧ Sp w' A n c B m d s ∧ Hi w.heap.size A ∧ Hi w.heap.size B
theorem SpVH.kept {w w1 w' : World} {v : Value} {s : SS} (h : SpVH w w1 v s) (hb : Below w1.heap.size w1 w') : SpVH w w' v s := by
  obtain ⟨A, n, c, B, m, d, rfl, h, h1, h2⟩ := h
  exact ⟨A, n, c, B, m, d, rfl, h.kept hb, h1, h2⟩
def TakeEndH (w : World) (r : Int × Int × SS) (e : Ending) (w' : World) : Prop := ∃ v, e = .returned (.tuple #[v, .int .i64 r.2.1, .int .i64 r.1]) ∧ SpVH w w' v r.2.2 ∧ Below w.heap.size w w'
theorem putH_done {w w2 : World} {r n c m d : Nat} {h : Int} {A B : Option Addr} {s : SS} (hb : Below w.heap.size w w2) (hr : w.heap.size ≤ r) (hs : Sp w2 A n c B m d s) (hA : Hi (r + 1) A) (hB : Hi (r + 1) B) (hh : s.hi = h) (x y z : Value) :
    SpVH w (((w2.setCell ⟨r, 0, none⟩ x).setCell ⟨r, 1, none⟩ y).setCell ⟨r, 2, none⟩ z) (.agg #[.int .i64 h, .slice A n c, .slice B m d]) s ∧ Below w.heap.size w (((w2.setCell ⟨r, 0, none⟩ x).setCell ⟨r, 1, none⟩ y).setCell ⟨r, 2, none⟩ z) :=
  ⟨⟨A, n, c, B, m, d, by rw [hh], hs.but (But.put w2 r x y z) hA hB, hA.low (by omega), hB.low (by omega)⟩, below_put hb hr x y z⟩

set_option maxRecDepth 20000 in
set_option maxHeartbeats 3200000 in
theorem takeH_one (s : SS) (h t : Int) (A B : Option Addr) (n c m d : Nat) (w : World) (hh : s.hi = h) (hs : Sp w A n c B m d s) (hn : n ≤ 400000) (hm : m ≤ 400000) (hn0 : 0 < n) (hc1 : 1 < c) :
    Calls Try.prog 12 #[.agg #[.int .i64 h, .slice A n c, .slice B m d], .int .i64 t] w (TakeEndH w (s.take t)) := by
  obtain ⟨b, off, z, rfl, hv, hz⟩ := hs.fr.intAt hn0
  have HT := Lib.hid (take_some (t := t) hv)
  obtain ⟨tb1, tb2, tb3⟩ := two_boxes w (.int .i64 h) (.slice (some ⟨b, off, none⟩) n c) (.slice B m d) (.int .i64 0) (.slice none 0 0) (.slice none 0 0)
  have HS := Lib.hid (hs.kept tb3)
  have HB := Lib.hid tb1
  have HR := Lib.hid tb2
  have B0 := Lib.hid tb3
  have HH := Lib.hid hh
  have HZ := Lib.hid hz
  clear hs hh hv tb1 tb2 tb3 hz
  have hsz : ((w.alloc (.cells #[.int .i64 h, .slice (some ⟨b, off, none⟩) n c, .slice B m d] 26)).alloc (.cells #[.int .i64 0, .slice none 0 0, .slice none 0 0] 26)).heap.size = w.heap.size + 1 + 1 := by simp
  have P0 := pile_one HS.out.pe (prVals_one _) 24
  rw [hsz] at P0
  have HP0 := Lib.hid P0
  clear P0 hsz
  go_enter Try.func12, Try.ntmps12
  go_wp2_with fail
  generalize (w.alloc (.cells #[.int .i64 h, .slice (some ⟨b, off, none⟩) n c, .slice B m d] 26)).alloc (.cells #[.int .i64 0, .slice none 0 0, .slice none 0 0] 26) = w0 at *
  refine (join_F _ 1 1 m _ _ HP0.out rfl (by simp [tot]) (by omega) (by decide)).mono ?_
  rintro e w1 ⟨v1, rfl, o1, b1⟩
  rw [pcs_one] at o1
  have b01 : Below w0.heap.size w0 w1 := (below_one w0 (.cells #[.slice B m d] 24)).trans (b1.mono (below_one w0 (.cells #[.slice B m d] 24)).size)
  obtain ⟨B1, d1, rfl, hd1, l1⟩ := Ln.of_own o1
  have HI1 : Hid (Hi (w.heap.size + 1 + 1) B1) := Lib.hid ((Hi.of_own o1).low (by have := HR.out.lt; have := (below_one w0 (.cells #[.slice B m d] 24)).size; omega))
  have L1 := Lib.hid l1
  have B1' := Lib.hid b01
  have HB1 := Lib.hid (HB.out.kept b01)
  have HR1 := Lib.hid (HR.out.kept b01)
  clear b1 o1 l1 b01 HP0
  obtain ⟨a0, a1, a2⟩ := HB1.out.cells
  have n0 : (0 : Int) < (n : Int) := by omega
  have n1 : (1 : Int) ≤ (n : Int) := by omega
  have n2 : (n : Int) ≤ (c : Int) := by have := HS.out.fr.le; omega
  have n3 : (1 : Int) < (c : Int) := by omega
  have n4 : ¬ c = 1 := by omega
  have n5 : (1 : Int) ≤ (c : Int) := by omega
  have hbz : b < w.heap.size := World.block_lt_of_cell? _ _ HZ.out
  have HZ1 : Hid (w1.drew.cell? ⟨b, off, none⟩ = some (.int .i64 z)) := Lib.hid (((B0.out.trans (B1'.out.mono B0.out.size)).cell (p := ⟨b, off, none⟩) hbz).trans HZ.out)
  have hb1 : b < w1.heap.size := World.block_lt_of_cell? _ _ HZ1.out
  have K0 : w1.drew.cell? ⟨w.heap.size, 0, none⟩ = some (.int .i64 h) ∧ w1.drew.cell? ⟨w.heap.size, 1, none⟩ = some (.slice (some ⟨b, off, none⟩) n c) ∧ w1.drew.cell? ⟨b, off, none⟩ = some (.int .i64 z) := ⟨HB1.out.cells.1, HB1.out.cells.2.1, HZ1.out⟩
  have BA := Lib.hid ((below_one w1 (.cells #[.slice (some ⟨b, off + 1, none⟩) (n - 1) (c - 1)] 23)).drew)
  have PL := Lib.hid (pile_one (w := w1) (((HS.out.fr.kept B1'.out)).intDrop (k := 1) (by omega)) (intVals_one _) 23)
  have PL2 := Lib.hid (PL.out.kept ((Below.refl _ _).drew))
  have K1 : ((w1.alloc (.cells #[.slice (some ⟨b, off + 1, none⟩) (n - 1) (c - 1)] 23)).drew).cell? ⟨w.heap.size, 0, none⟩ = some (.int .i64 h) ∧ ((w1.alloc (.cells #[.slice (some ⟨b, off + 1, none⟩) (n - 1) (c - 1)] 23)).drew).cell? ⟨w.heap.size, 1, none⟩ = some (.slice (some ⟨b, off, none⟩) n c) ∧ ((w1.alloc (.cells #[.slice (some ⟨b, off + 1, none⟩) (n - 1) (c - 1)] 23)).drew).cell? ⟨b, off, none⟩ = some (.int .i64 z) :=
    ⟨(HB1.out.kept BA.out).cells.1, (HB1.out.kept BA.out).cells.2.1, (BA.out.cell (p := ⟨b, off, none⟩) hb1).trans HZ1.out⟩
  clear a0 a1 a2
  obtain ⟨x0, x1, x2⟩ := K0
  have K0 : w1.drew.cell? ⟨w.heap.size, 0, none⟩ = some (.int .i64 h) ∧ w1.drew.cell? ⟨w.heap.size, 1, none⟩ = some (.slice (some ⟨b, off, none⟩) n c) ∧ w1.drew.cell? ⟨b, off, none⟩ = some (.int .i64 z) := ⟨HB1.out.cells.1, HB1.out.cells.2.1, HZ1.out⟩
  obtain ⟨y0, y1, y2⟩ := HB1.out.cells
  go_wp2_with fail
  clear y0 y1 y2
  go_region_held3 (fun w' => w'.cell? ⟨w.heap.size, 0, none⟩ = some (.int .i64 h) ∧ w'.cell? ⟨w.heap.size, 1, none⟩ = some (.slice (some ⟨b, off, none⟩) n c) ∧ w'.cell? ⟨b, off, none⟩ = some (.int .i64 z))
    (first | exact K3 | exact K2 | exact K1 | exact K0)
    (first
      | (go_at_call 31; refine (join_I _ 1 1 (n - 1) _ _ PL2.out rfl (by simp [tot]) (by omega) (by decide)).mono ?_; rintro e w2 ⟨v2, rfl, o2, b2⟩; have HB2 := Lib.hid ((HB1.out.kept BA.out).kept b2); have HR2 := Lib.hid ((HR1.out.kept BA.out).kept b2); have K2 : w2.cell? ⟨w.heap.size, 0, none⟩ = some (.int .i64 h) ∧ w2.cell? ⟨w.heap.size, 1, none⟩ = some (.slice (some ⟨b, off, none⟩) n c) ∧ w2.cell? ⟨b, off, none⟩ = some (.int .i64 z) := ⟨HB2.out.cells.1, HB2.out.cells.2.1, (b2.cell (p := ⟨b, off, none⟩) (Nat.lt_of_lt_of_le hb1 BA.out.size)).trans K1.2.2⟩; obtain ⟨q0, q1, q2⟩ := HR2.out.cells; obtain ⟨f0, f1, f2⟩ := HR2.out.free; obtain ⟨A2, c2, rfl, hc2, l2⟩ := Ln.of_own o2; have PU := But.put w2 (w.heap.size + 1) (.int .i64 h) (.slice A2 (n - 1) c2) (.slice B1 m d1); have K3 := (show _ ∧ _ ∧ _ from ⟨(PU.cell (k := w.heap.size) (by omega) 0).trans K2.1, (PU.cell (k := w.heap.size) (by omega) 1).trans K2.2.1, (PU.cell (k := b) (by omega) off).trans K2.2.2⟩)))
  have HI2 : Hid (Hi (w.heap.size + 1 + 1) A2) := Lib.hid ((Hi.of_own o2).low (by have := HR1.out.lt; have := BA.out.size; omega))
  have B2 := Lib.hid (B0.out.trans (((B1'.out.trans (BA.out.mono B1'.out.size)).trans (b2.mono (Nat.le_trans B1'.out.size BA.out.size))).mono B0.out.size))
  rw [pcs_one] at l2
  have HSp : Hid (Sp w2 A2 (n - 1) c2 B1 m d1 { s with fr := s.fr.drop 1 }) := Lib.hid ⟨l2, (L1.out.kept BA.out).kept b2⟩
  have HD := Lib.hid (putH_done (h := h) B2.out (Nat.le_succ _) HSp.out HI2.out HI1.out HH.out (.int .i64 h) (.slice A2 (n - 1) c2) (.slice B1 m d1))
  have HQ := Lib.hid (HR2.out.put (.int .i64 h) (.slice A2 (n - 1) c2) (.slice B1 m d1))
  obtain ⟨e0, e1, e2⟩ := HQ.out.cells
  go_wp2_with fail
  refine bodyPost_ret (v := .tuple #[.agg #[.int .i64 h, .slice A2 (n - 1) c2, .slice B1 m d1], .int .i64 z, .int .i64 0]) (by simp [results, Try.results12, go_sem, e0, e1, e2]) rfl ?_
  rw [HT.out]
  exact ⟨_, rfl, HD.out.1, HD.out.2⟩
set_option maxRecDepth 20000 in
set_option maxHeartbeats 3200000 in
theorem takeH_last (s : SS) (h t : Int) (A B : Option Addr) (m d : Nat) (w : World) (hh : s.hi = h) (hs : Sp w A 1 1 B m d s) (hm : m ≤ 400000) :
    Calls Try.prog 12 #[.agg #[.int .i64 h, .slice A 1 1, .slice B m d], .int .i64 t] w (TakeEndH w (s.take t)) := by
  obtain ⟨b, off, z, rfl, hv, hz⟩ := hs.fr.intAt (k := 0) (by omega)
  have HT := Lib.hid (take_some (t := t) hv)
  obtain ⟨tb1, tb2, tb3⟩ := two_boxes w (.int .i64 h) (.slice (some ⟨b, off, none⟩) 1 1) (.slice B m d) (.int .i64 0) (.slice none 0 0) (.slice none 0 0)
  have HS := Lib.hid (hs.kept tb3)
  have HB := Lib.hid tb1
  have HR := Lib.hid tb2
  have B0 := Lib.hid tb3
  have HH := Lib.hid hh
  have HZ := Lib.hid hz
  clear hs hh hv tb1 tb2 tb3 hz
  have hsz : ((w.alloc (.cells #[.int .i64 h, .slice (some ⟨b, off, none⟩) 1 1, .slice B m d] 26)).alloc (.cells #[.int .i64 0, .slice none 0 0, .slice none 0 0] 26)).heap.size = w.heap.size + 1 + 1 := by simp
  have P0 := pile_one HS.out.pe (prVals_one _) 24
  rw [hsz] at P0
  have HP0 := Lib.hid P0
  clear P0 hsz
  go_enter Try.func12, Try.ntmps12
  go_wp2_with fail
  generalize (w.alloc (.cells #[.int .i64 h, .slice (some ⟨b, off, none⟩) 1 1, .slice B m d] 26)).alloc (.cells #[.int .i64 0, .slice none 0 0, .slice none 0 0] 26) = w0 at *
  refine (join_F _ 1 1 m _ _ HP0.out rfl (by simp [tot]) (by omega) (by decide)).mono ?_
  rintro e w1 ⟨v1, rfl, o1, b1⟩
  rw [pcs_one] at o1
  have b01 : Below w0.heap.size w0 w1 := (below_one w0 (.cells #[.slice B m d] 24)).trans (b1.mono (below_one w0 (.cells #[.slice B m d] 24)).size)
  obtain ⟨B1, d1, rfl, hd1, l1⟩ := Ln.of_own o1
  have HI1 : Hid (Hi (w.heap.size + 1 + 1) B1) := Lib.hid ((Hi.of_own o1).low (by have := HR.out.lt; have := (below_one w0 (.cells #[.slice B m d] 24)).size; omega))
  have L1 := Lib.hid l1
  have B1' := Lib.hid b01
  have HB1 := Lib.hid (HB.out.kept b01)
  have HR1 := Lib.hid (HR.out.kept b01)
  clear b1 o1 l1 b01 HP0
  obtain ⟨a0, a1, a2⟩ := HB1.out.cells
  have hbz : b < w.heap.size := World.block_lt_of_cell? _ _ HZ.out
  have HZ1 : Hid (w1.drew.cell? ⟨b, off, none⟩ = some (.int .i64 z)) := Lib.hid (((B0.out.trans (B1'.out.mono B0.out.size)).cell (p := ⟨b, off, none⟩) hbz).trans HZ.out)
  have hb1 : b < w1.heap.size := World.block_lt_of_cell? _ _ HZ1.out
  have K0 : w1.drew.cell? ⟨w.heap.size, 0, none⟩ = some (.int .i64 h) ∧ w1.drew.cell? ⟨w.heap.size, 1, none⟩ = some (.slice (some ⟨b, off, none⟩) 1 1) ∧ w1.drew.cell? ⟨b, off, none⟩ = some (.int .i64 z) := ⟨HB1.out.cells.1, HB1.out.cells.2.1, HZ1.out⟩
  have BA := Lib.hid ((below_one w1 (.cells #[.slice (some ⟨b, off, none⟩) 0 0] 23)).drew)
  have PL := Lib.hid (pile_one (w := w1) (by have := HS.out.fr.intN; rw [List.drop_of_length_le (by omega)]; exact Ln.empty _ _ _ _ : Ln w1 1 (some ⟨b, off, none⟩) 0 0 (intVals (s.fr.drop 1))) (intVals_one _) 23)
  have PL2 := Lib.hid (PL.out.kept ((Below.refl _ _).drew))
  have K1 : ((w1.alloc (.cells #[.slice (some ⟨b, off, none⟩) 0 0] 23)).drew).cell? ⟨w.heap.size, 0, none⟩ = some (.int .i64 h) ∧ ((w1.alloc (.cells #[.slice (some ⟨b, off, none⟩) 0 0] 23)).drew).cell? ⟨w.heap.size, 1, none⟩ = some (.slice (some ⟨b, off, none⟩) 1 1) ∧ ((w1.alloc (.cells #[.slice (some ⟨b, off, none⟩) 0 0] 23)).drew).cell? ⟨b, off, none⟩ = some (.int .i64 z) :=
    ⟨(HB1.out.kept BA.out).cells.1, (HB1.out.kept BA.out).cells.2.1, (BA.out.cell (p := ⟨b, off, none⟩) hb1).trans HZ1.out⟩
  clear a0 a1 a2
  obtain ⟨x0, x1, x2⟩ := K0
  have K0 : w1.drew.cell? ⟨w.heap.size, 0, none⟩ = some (.int .i64 h) ∧ w1.drew.cell? ⟨w.heap.size, 1, none⟩ = some (.slice (some ⟨b, off, none⟩) 1 1) ∧ w1.drew.cell? ⟨b, off, none⟩ = some (.int .i64 z) := ⟨HB1.out.cells.1, HB1.out.cells.2.1, HZ1.out⟩
  obtain ⟨y0, y1, y2⟩ := HB1.out.cells
  go_wp2_with fail
  clear y0 y1 y2
  go_region_held3 (fun w' => w'.cell? ⟨w.heap.size, 0, none⟩ = some (.int .i64 h) ∧ w'.cell? ⟨w.heap.size, 1, none⟩ = some (.slice (some ⟨b, off, none⟩) 1 1) ∧ w'.cell? ⟨b, off, none⟩ = some (.int .i64 z))
    (first | exact K3 | exact K2 | exact K1 | exact K0)
    (first
      | (go_at_call 31; refine (join_I _ 1 1 0 _ _ PL2.out rfl (by simp [tot]) (by omega) (by decide)).mono ?_; rintro e w2 ⟨v2, rfl, o2, b2⟩; have HB2 := Lib.hid ((HB1.out.kept BA.out).kept b2); have HR2 := Lib.hid ((HR1.out.kept BA.out).kept b2); have K2 : w2.cell? ⟨w.heap.size, 0, none⟩ = some (.int .i64 h) ∧ w2.cell? ⟨w.heap.size, 1, none⟩ = some (.slice (some ⟨b, off, none⟩) 1 1) ∧ w2.cell? ⟨b, off, none⟩ = some (.int .i64 z) := ⟨HB2.out.cells.1, HB2.out.cells.2.1, (b2.cell (p := ⟨b, off, none⟩) (Nat.lt_of_lt_of_le hb1 BA.out.size)).trans K1.2.2⟩; obtain ⟨q0, q1, q2⟩ := HR2.out.cells; obtain ⟨f0, f1, f2⟩ := HR2.out.free; obtain ⟨A2, c2, rfl, hc2, l2⟩ := Ln.of_own o2; have PU := But.put w2 (w.heap.size + 1) (.int .i64 h) (.slice A2 0 c2) (.slice B1 m d1); have K3 := (show _ ∧ _ ∧ _ from ⟨(PU.cell (k := w.heap.size) (by omega) 0).trans K2.1, (PU.cell (k := w.heap.size) (by omega) 1).trans K2.2.1, (PU.cell (k := b) (by omega) off).trans K2.2.2⟩)))
  have HI2 : Hid (Hi (w.heap.size + 1 + 1) A2) := Lib.hid ((Hi.of_own o2).low (by have := HR1.out.lt; have := BA.out.size; omega))
  have B2 := Lib.hid (B0.out.trans (((B1'.out.trans (BA.out.mono B1'.out.size)).trans (b2.mono (Nat.le_trans B1'.out.size BA.out.size))).mono B0.out.size))
  rw [pcs_one] at l2
  have HSp : Hid (Sp w2 A2 0 c2 B1 m d1 { s with fr := s.fr.drop 1 }) := Lib.hid ⟨l2, (L1.out.kept BA.out).kept b2⟩
  have HD := Lib.hid (putH_done (h := h) B2.out (Nat.le_succ _) HSp.out HI2.out HI1.out HH.out (.int .i64 h) (.slice A2 0 c2) (.slice B1 m d1))
  have HQ := Lib.hid (HR2.out.put (.int .i64 h) (.slice A2 0 c2) (.slice B1 m d1))
  obtain ⟨e0, e1, e2⟩ := HQ.out.cells
  go_wp2_with fail
  refine bodyPost_ret (v := .tuple #[.agg #[.int .i64 h, .slice A2 0 c2, .slice B1 m d1], .int .i64 z, .int .i64 0]) (by simp [results, Try.results12, go_sem, e0, e1, e2]) rfl ?_
  rw [HT.out]
  exact ⟨_, rfl, HD.out.1, HD.out.2⟩
set_option maxRecDepth 20000 in
set_option maxHeartbeats 3200000 in
theorem takeH_none (s : SS) (h t : Int) (A B : Option Addr) (c m d : Nat) (w : World) (hh : s.hi = h) (hs : Sp w A 0 c B m d s) (hm : m ≤ 400000) (h1 : -9223372036854775808 ≤ h) (h2 : t ≤ 9223372036854775807) :
    Calls Try.prog 12 #[.agg #[.int .i64 h, .slice A 0 c, .slice B m d], .int .i64 t] w (TakeEndH w (s.take t)) := by
  obtain ⟨tb1, tb2, tb3⟩ := two_boxes w (.int .i64 h) (.slice A 0 c) (.slice B m d) (.int .i64 0) (.slice none 0 0) (.slice none 0 0)
  have HS := Lib.hid (hs.kept tb3)
  have HB := Lib.hid tb1
  have HR := Lib.hid tb2
  have B0 := Lib.hid tb3
  have HFL := Lib.hid hs.fl
  clear hs tb1 tb2 tb3
  have hsz : ((w.alloc (.cells #[.int .i64 h, .slice A 0 c, .slice B m d] 26)).alloc (.cells #[.int .i64 0, .slice none 0 0, .slice none 0 0] 26)).heap.size = w.heap.size + 1 + 1 := by simp
  have P0 := pile_one HS.out.pe (prVals_one _) 24
  rw [hsz] at P0
  have HP0 := Lib.hid P0
  have HH := Lib.hid hh
  clear P0 hsz hh
  go_enter Try.func12, Try.ntmps12
  go_wp2_with fail
  generalize (w.alloc (.cells #[.int .i64 h, .slice A 0 c, .slice B m d] 26)).alloc (.cells #[.int .i64 0, .slice none 0 0, .slice none 0 0] 26) = w0 at *
  refine (join_F _ 1 1 m _ _ HP0.out rfl (by simp [tot]) (by omega) (by decide)).mono ?_
  rintro e w1 ⟨v1, rfl, o1, b1⟩
  rw [pcs_one] at o1
  have b01 : Below w0.heap.size w0 w1 := (below_one w0 (.cells #[.slice B m d] 24)).trans (b1.mono (below_one w0 (.cells #[.slice B m d] 24)).size)
  obtain ⟨B1, d1, rfl, hd1, l1⟩ := Ln.of_own o1
  have HI1 : Hid (Hi (w.heap.size + 1 + 1) B1) := Lib.hid ((Hi.of_own o1).low (by have := HR.out.lt; have := (below_one w0 (.cells #[.slice B m d] 24)).size; omega))
  have L1 := Lib.hid l1
  have B2 := Lib.hid (B0.out.trans (b01.mono B0.out.size))
  have HB1 := Lib.hid (HB.out.kept b01)
  have HR1 := Lib.hid (HR.out.kept b01)
  clear b1 o1 l1 b01 HP0
  obtain ⟨y0, y1, y2⟩ := HB1.out.cells
  obtain ⟨q0, q1, q2⟩ := HR1.out.cells
  obtain ⟨f0, f1, f2⟩ := HR1.out.free
  by_cases hlt : h < t
  · have i1 : IntKind.i64.wrap (h + 1) = h + 1 := IntWalk.i64_in _ (by omega)
    have HT := Lib.hid (take_new (s := s) (t := t) HFL.out (by rw [HH.out]; exact hlt))
    have K0 : w1.drew.cell? ⟨w.heap.size, 0, none⟩ = some (.int .i64 h) := y0
    have PU := But.put w1 (w.heap.size + 1) (.int .i64 (h + 1)) (.slice none 0 0) (.slice B1 m d1)
    have K1 := (PU.cell (k := w.heap.size) (by omega) 0).trans y0
    clear PU
    go_wp2_with fail
    go_region_held3 (fun w' => w'.cell? ⟨w.heap.size, 0, none⟩ = some (.int .i64 h)) (first | exact K1 | exact K0) (fail)
    have HSp : Hid (Sp w1 none 0 0 B1 m d1 ⟨s.hi + 1, [], s.pe⟩) := Lib.hid ⟨Ln.none_ _ _, L1.out⟩
    have HD := Lib.hid (putH_done (h := h + 1) B2.out (Nat.le_succ _) HSp.out (Hi.none_ _) HI1.out (by rw [HH.out]) (.int .i64 (h + 1)) (.slice none 0 0) (.slice B1 m d1))
    have HQ := Lib.hid (HR1.out.put (.int .i64 (h + 1)) (.slice none 0 0) (.slice B1 m d1))
    obtain ⟨e0, e1, e2⟩ := HQ.out.cells
    go_wp2_with fail
    refine bodyPost_ret (v := .tuple #[.agg #[.int .i64 (h + 1), .slice none 0 0, .slice B1 m d1], .int .i64 h, .int .i64 0]) (by simp [results, Try.results12, go_sem, e0, e1, e2]) rfl ?_
    rw [HT.out]
    exact ⟨_, by rw [HH.out], HD.out.1.kept ((Below.refl _ _).drew), HD.out.2.drew⟩
  · have HT := Lib.hid (take_full (s := s) (t := t) HFL.out (by rw [HH.out]; exact hlt))
    have HD := Lib.hid (putH_done (h := 0) B2.out (Nat.le_succ _) (Sp.zero w1) (Hi.none_ _) (Hi.none_ _) rfl (.int .i64 0) (.slice none 0 0) (.slice none 0 0))
    have HQ := Lib.hid (HR1.out.put (.int .i64 0) (.slice none 0 0) (.slice none 0 0))
    obtain ⟨e0, e1, e2⟩ := HQ.out.cells
    go_wp2_with fail
    refine bodyPost_ret (v := .tuple #[.agg #[.int .i64 0, .slice none 0 0, .slice none 0 0], .int .i64 0, .int .i64 81]) (by simp [results, Try.results12, go_sem, e0, e1, e2]) rfl ?_
    rw [HT.out]
    exact ⟨_, rfl, HD.out.1, HD.out.2⟩

set_option maxRecDepth 20000 in
theorem takeH_any (s : SS) (h t : Int) (A B : Option Addr) (n c m d : Nat) (w : World) (hh : s.hi = h) (hs : Sp w A n c B m d s) (hn : n ≤ 400000) (hm : m ≤ 400000) (h1 : -9223372036854775808 ≤ h) (h2 : t ≤ 9223372036854775807) :
    Calls Try.prog 12 #[.agg #[.int .i64 h, .slice A n c, .slice B m d], .int .i64 t] w (TakeEndH w (s.take t)) := by
  have hc := hs.fr.le
  by_cases hn0 : n = 0
  · subst hn0
    exact takeH_none s h t A B c m d w hh hs hm h1 h2
  · by_cases hc1 : 1 < c
    · exact takeH_one s h t A B n c m d w hh hs hn hm (by omega) hc1
    · obtain rfl : c = 1 := by omega
      obtain rfl : n = 1 := by omega
      exact takeH_last s h t A B m d w hh hs hm
end Go.Proofs.Ytlldmefjhgahdaa

/-
  A list of lists of bytes that comes in.
-/
namespace Go.Proofs.Ytlldmefjhgahdaa
open Go.ChangeShapes Go.WideShapes Go.ChangeAt Go.RowKit Go.Joins Go.Deep

/-- One list of bytes, and where it lies. -/
structure Tx where
  A : Option Addr
  n : Nat
  c : Nat
  l : List UInt8

structure TxAt (w : World) (R : Nat) (t : Tx) : Prop where
  len : t.l.length = t.n
  bys : Bys w R t.A t.l
  le : t.n ≤ t.c
  max : t.c ≤ maxLen
  nil : t.A = none → t.n = 0 ∧ t.c = 0

/-- Lists of bytes below R. -/
def Texts (w : World) (R : Nat) (A : Option Addr) (l : List Tx) : Prop :=
  l = [] ∨ ∃ b off, A = some ⟨b, off, none⟩ ∧ b < R ∧ ∀ i t, l[i]? = some t → TxAt w R t ∧ w.cell? ⟨b, off + i, none⟩ = some (.slice t.A t.n t.c)

section
variable {w w' : World} {R : Nat} {A : Option Addr}
theorem TxAt.below {t : Tx} (h : TxAt w R t) (hb : Below R w w') : TxAt w' R t := { h with bys := h.bys.below hb }

theorem Texts.below {l : List Tx} (h : Texts w R A l) (hb : Below R w w') : Texts w' R A l := by
  rcases h with rfl | ⟨b, off, rfl, hR, hc⟩
  · exact Or.inl rfl
  · refine Or.inr ⟨b, off, rfl, hR, fun i t hi => ?_⟩
    obtain ⟨h1, h2⟩ := hc i t hi
    exact ⟨h1.below hb, (hb.cell (p := ⟨b, _, none⟩) hR).trans h2⟩

theorem Texts.at_ {l : List Tx} (h : Texts w R A l) {k : Nat} (hk : k < l.length) :
    ∃ b off t, A = some ⟨b, off, none⟩ ∧ b < R ∧ l[k]? = some t ∧ TxAt w R t ∧ w.cell? ⟨b, off + k, none⟩ = some (.slice t.A t.n t.c) := by
  rcases h with rfl | ⟨b, off, rfl, hR, hc⟩
  · exact absurd hk (by simp)
  · exact ⟨b, off, l[k], rfl, hR, List.getElem?_eq_getElem hk, hc k _ (List.getElem?_eq_getElem hk)⟩
end

section
variable {H : Type} {enc : TypeId × Value → H} {w : World} {base : Nat} {spare : Nat → Bool} {held : Bool}

set_option maxRecDepth 20000 in
/-- Lists of bytes that come in. -/
theorem open_texts {v : Value} {d : DataW H} {p : List MemPlace} {r : Reach} {b0 : Nat} (hv : Value.okWide Try.prog w r b0 39 v) (h : DataW.Trod enc Try.prog w base spare held 39 v d p) :
    ∃ (A : Option Addr) (n c : Nat) (l : List Tx), v = .slice A n c ∧ l.length = n ∧ Texts w w.heap.size A l ∧ n ≤ maxLen := by
  obtain ⟨A, n, c, rfl⟩ := okWide_slice Try.underlying39 hv
  obtain ⟨fuel, hf⟩ := h
  rcases open_slice Try.underlying39 hf with ⟨hcs, _⟩ | ⟨a, len, cap, m, f, D, Pl, hcs, _, hl, hcm, hm, _, hi⟩
  · simp [Value.cells] at hcs
    obtain ⟨rfl, rfl, rfl⟩ := hcs
    exact ⟨none, 0, 0, [], rfl, rfl, Or.inl rfl, Nat.zero_le _⟩
  · simp [Value.cells] at hcs
    obtain ⟨rfl, rfl, rfl⟩ := hcs
    have hlm : n ≤ m := by rw [hm]; split <;> omega
    have each : ∀ i, i < n → ∃ t : Tx, TxAt w w.heap.size t ∧ w.cell? (a.add i) = some (.slice t.A t.n t.c) := by
      intro i hin
      obtain ⟨cs', hc, ht⟩ := hi i (by omega)
      rw [bytesCells1] at hc
      obtain ⟨hlen, _, hat⟩ := World.cells?_some hc
      have h0 := hat 0 (by omega)
      rw [Nat.mul_one] at h0
      obtain ⟨x, hx⟩ : ∃ x, cs' = [x] := by
        match cs', hlen with
        | [x], _ => exact ⟨x, rfl⟩
      subst hx
      obtain ⟨bA, bn, bc, bl, e, r1, r2, r3, r4, r5⟩ := bytes_of ht
      refine ⟨⟨bA, bn, bc, bl⟩, ⟨r1, r2, r3, r4, r5⟩, ?_⟩
      rw [e] at h0
      simpa [Addr.add] using h0
    obtain ⟨xs, hlen, hx⟩ := pick_each (fun i (t : Tx) => TxAt w w.heap.size t ∧ w.cell? (a.add i) = some (.slice t.A t.n t.c)) (fun v => v) n each
    refine ⟨_, _, _, xs, rfl, hlen, ?_, Nat.le_trans hl hcm⟩
    by_cases hx0 : xs = []
    · exact Or.inl hx0
    · right
      obtain ⟨b, off, spot⟩ := a
      have hpos : 0 < xs.length := by
        rcases xs with _ | ⟨y, ys⟩
        · exact absurd rfl hx0
        · simp
      have h00 := (hx 0 _ (List.getElem?_eq_getElem hpos)).2
      have hs : spot = none := by
        simpa [Addr.add] using World.cell?_spot h00
      subst hs
      refine ⟨b, off, rfl, ?_, fun i t hc => ?_⟩
      · rw [add_at] at h00
        exact World.block_lt_of_cell? _ _ h00
      · obtain ⟨g0, g1⟩ := hx i t hc
        rw [add_at] at g1
        exact ⟨g0, g1⟩
end
end Go.Proofs.Ytlldmefjhgahdaa

/-
  What the document's own Parts, and the statements' own short, come to at lists of lists of bytes.
-/
namespace Go.Proofs.Ytlldmefjhgahdaa
open Go.RowKit

theorem list_ne {l m : List UInt8} (h : ¬ l = m) : (l == m) = false := by simpa using h

set_option maxRecDepth 20000 in
set_option maxHeartbeats 1600000 in
theorem parts_any (A B : Option Addr) (n c m d : Nat) (ps qs : List (List UInt8)) (w : World) (ha : Bps w A ps) (hb : Bps w B qs) (hn : ps.length = n) (hm : qs.length = m) (hn2 : n ≤ 1000000) :
    Calls Try.prog 26 #[.slice A n c, .slice B m d] w fun e w' => e = .returned (.bool (decide (ps = qs))) ∧ Below w.heap.size w w' := by
  have HA := Lib.hid ha
  have HB := Lib.hid hb
  have HN := Lib.hid hn
  have HM := Lib.hid hm
  clear ha hb
  by_cases hl : n = m
  · have hl' : ((n : Int) != (m : Int)) = false := by simp [hl]
    have HL := Lib.hid hl
    clear hn hm
    go_enter Try.func26, Try.ntmps26
    clear hl
    go_wp2_with fail
    go_loopw [5] (fun i wr => ∃ k : Nat, k ≤ n ∧ i = .int .i64 k ∧ Hid (ps.take k = qs.take k) ∧ Hid (Below w.heap.size w wr)) (fun i _ => n - (intOf i).toNat)
    case atStart => exact ⟨0, Nat.zero_le _, rfl, Lib.hid (by simp), Lib.hid (Below.refl _ _)⟩
    case round =>
      obtain ⟨k, hk, rfl, hpre, B1⟩ := hrel
      by_cases hlt : k < n
      · obtain ⟨b, off, p, A', c', rfl, hp, c0, l0⟩ := (HA.out.kept B1.out).at_ (k := k) (by rw [HN.out]; exact hlt)
        have hlt2 : k < m := by rw [← HL.out]; exact hlt
        obtain ⟨b2, off2, q, B', d', rfl, hq, c1, l1⟩ := (HB.out.kept B1.out).at_ (k := k) (by rw [HM.out]; exact hlt2)
        have HP := Lib.hid hp
        have HQ := Lib.hid hq
        have hlt3 : (k : Int) < (m : Int) := by omega
        have i0 : (0 : Int) ≤ (k : Int) := by omega
        have t1 := fun n => run_text (P := Try.prog) (w := wr.drewN n) (R := wr.heap.size) (show Bys (wr.drewN n) wr.heap.size A' p from l0.bys) 59 9 5 p.length c' rfl Try.underlying59 Try.underlying5 Try.underlying9
        have t2 := fun n => run_text (P := Try.prog) (w := wr.drewN n) (R := wr.heap.size) (show Bys (wr.drewN n) wr.heap.size B' q from l1.bys) 59 9 5 q.length d' rfl Try.underlying59 Try.underlying5 Try.underlying9
        clear hp hq l0 l1
        by_cases hpq : p = q
        · subst hpq
          have HX := Lib.hid (bps_more hpre.out HP.out HQ.out)
          clear HP HQ hpre
          go_wp2_with fail
          go_quiet (fail)
          clear t1 t2 c0 c1
          go_wp2_with fail
          go_roundw
          case rel => exact ⟨k + 1, by omega, by go_num, HX, Lib.hid (belowN B1.out _)⟩
          case measure => simp [intOf]; omega
        · have HX : Hid (decide (ps = qs) = false) := Lib.hid (decide_eq_false (fun e => hpq (by have h1 := HP.out; rw [e, HQ.out] at h1; exact (Option.some.inj h1).symm)))
          have b1 := list_ne hpq
          clear hpq
          go_wp2_with fail
          go_quiet (fail)
          clear t1 t2 c0 c1
          go_wp2_with fail
          go_ret
          exact ⟨ret_bool HX.out.symm, belowN B1.out _⟩
      · obtain rfl : n = k := by omega
        have HX : Hid (decide (ps = qs) = true) := Lib.hid (decide_eq_true (by
          have := hpre.out
          rw [List.take_of_length_le (by rw [HN.out]; exact Nat.le_refl _), List.take_of_length_le (by rw [HM.out, HL.out]; exact Nat.le_refl _)] at this
          exact this))
        go_wp2_with fail
        go_ret
        exact ⟨ret_bool HX.out.symm, B1.out⟩
  · have hl' : ((n : Int) != (m : Int)) = true := by simp; omega
    have HX : Hid (decide (ps = qs) = false) := Lib.hid (decide_eq_false (fun e => hl (by rw [← hn, ← hm, e])))
    clear hn hm
    go_enter Try.func26, Try.ntmps26
    clear hl
    go_wp2_with fail
    go_ret
    exact ⟨ret_bool HX.out.symm, Below.refl _ _⟩

/-- At most five parts, of at most two thousand bytes each. -/
def Short (ps : List (List UInt8)) (k : Nat) : Prop := ∀ p ∈ ps.take k, p.length ≤ 2000
theorem Short.more {ps : List (List UInt8)} {k : Nat} {p : List UInt8} (h : Short ps k) (hp : ps[k]? = some p) (hl : p.length ≤ 2000) : Short ps (k + 1) := by
  unfold Short
  rw [List.take_add_one, hp, Option.toList_some]
  intro q hq
  rcases List.mem_append.1 hq with hq | hq
  · exact h q hq
  · obtain rfl : q = p := by simpa using hq
    exact hl
theorem short_flat : ∀ {ps : List (List UInt8)}, (∀ p ∈ ps, p.length ≤ 2000) → ps.flatten.length ≤ 2000 * ps.length
  | [], _ => by simp
  | p :: ps, h => by
    rw [List.flatten_cons, List.length_append, List.length_cons]
    have := short_flat (ps := ps) (fun q hq => h q (by simp [hq]))
    have := h p (by simp)
    omega

set_option maxRecDepth 20000 in
set_option maxHeartbeats 800000 in
theorem short_any (A : Option Addr) (n c : Nat) (ps : List (List UInt8)) (w : World) (ha : Bps w A ps) (hn : ps.length = n) :
    Calls Try.prog 23 #[.slice A n c] w fun e w' => (∃ r : Bool, e = .returned (.bool r) ∧ (r = true → n ≤ 5 ∧ Short ps n)) ∧ w' = w := by
  have HA := Lib.hid ha
  have HN := Lib.hid hn
  clear ha hn
  by_cases h5 : n ≤ 5
  · go_enter Try.func23, Try.ntmps23
    go_wp2_with fail
    obtain ⟨wo, rfl⟩ : ∃ wo : World, wo = w := ⟨_, rfl⟩
    go_loopw [3] (fun i wr => ∃ k : Nat, k ≤ n ∧ i = .int .i64 k ∧ Hid (Short ps k) ∧ wr = wo) (fun i _ => n - (intOf i).toNat)
    case atStart => exact ⟨0, Nat.zero_le _, rfl, Lib.hid (by simp [Short]), rfl⟩
    case round =>
      obtain ⟨k, hk, rfl, HS, hw⟩ := hrel
      have hw' := hw.symm
      subst hw'
      clear hw
      by_cases hlt : k < n
      · obtain ⟨b, off, p, A', c', rfl, hp, c0, _⟩ := HA.out.at_ (k := k) (by rw [HN.out]; exact hlt)
        by_cases hpl : p.length ≤ 2000
        · have HX := Lib.hid (HS.out.more hp hpl)
          clear hp HS
          go_wp2_with fail
          go_roundw
          case rel => exact ⟨k + 1, by omega, by go_num, HX, trivial⟩
          case measure => simp [intOf]; omega
        · clear hp HS
          go_wp2_with fail
          go_ret
          exact ⟨⟨false, rfl, fun e => by cases e⟩, rfl⟩
      · obtain rfl : n = k := by omega
        go_wp2_with fail
        go_ret
        exact ⟨⟨true, rfl, fun _ => ⟨h5, HS.out⟩⟩, rfl⟩
  · go_enter Try.func23, Try.ntmps23
    go_wp2_with fail
    go_ret
    exact ⟨⟨false, rfl, fun e => by cases e⟩, rfl⟩

/-- Lists of bytes that come in. -/
theorem Texts.bps {w : World} {R : Nat} {A : Option Addr} {l : List Tx} (h : Texts w R A l) : Bps w A (l.map Tx.l) := by
  rcases h with rfl | ⟨b, off, rfl, _, hc⟩
  · exact Or.inl rfl
  · refine Or.inr ⟨b, off, rfl, fun i p hp => ?_⟩
    rw [List.getElem?_map] at hp
    obtain ⟨t, ht, rfl⟩ := Option.map_eq_some_iff.1 hp
    obtain ⟨h1, h2⟩ := hc i t ht
    refine ⟨t.A, t.c, by rw [h1.len]; exact h2, ?_⟩
    rw [h1.len]
    refine ⟨by rw [bv_length, h1.len, Nat.mul_one], h1.le, h1.nil, fun ad e j u hu => ?_⟩
    have hb := h1.bys
    rw [e] at hb
    exact hb.cells j u hu
end Go.Proofs.Ytlldmefjhgahdaa
