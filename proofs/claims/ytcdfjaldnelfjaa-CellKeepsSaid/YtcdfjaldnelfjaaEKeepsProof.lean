/-
  CellKeeps answers true, whatever leaf, keys and value: an entry that is laid is found, with its value, one that is taken out is not, and all others stay. Conditions: none.
-/
import Derived.Test.YtcdfjaldnelfjaaRows
import Derived.Test.YtcdfjaldnelfjaaEAwake
import Derived.Test.YtcdfjaldnelfjaaEMid
import Derived.Test.YtcdfjaldnelfjaaERem
import Derived.Test.YtcdfjaldnelfjaaELen
import Derived.Deep.RegionHeld3
namespace Go.Proofs.Ytcdfjaldnelfjaa.cellKeeps
open Go.ChangeShapes Go.WideShapes Go.ChangeAt Go.RowKit

set_option maxRecDepth 20000 in
set_option maxHeartbeats 12800000 in
theorem walk {W : World} (s : ND) (A : Option Addr) (n c : Nat) (B : Option Addr) (m d : Nat) (C : Option Addr) (k ec : Nat) (hs : Nd W A n c B m d C k ec s) (x y o : ByteArray) :
    Calls Try.prog 9 #[.agg #[.bool s.leaf, .slice A n c, .slice B m d, .slice C k ec], .string x, .string y, .string o] W fun e w' => e = .returned (.bool true) ∧ Below W.heap.size W w' := by
  have b0 := below_one W (.cells #[.bool s.leaf, .slice A n c, .slice B m d, .slice C k ec] 25)
  have M0 : Hid (Mid W (W.alloc (.cells #[.bool s.leaf, .slice A n c, .slice B m d, .slice C k ec] 25)) s A n c B m d C k ec) := Lib.hid ⟨nbox_new W _ _ _ _, hs.kept b0, b0⟩
  clear hs b0
  go_enter Try.func9, Try.ntmps9
  go_upto_region 1 with fail
  generalize W.alloc (.cells #[.bool s.leaf, .slice A n c, .slice B m d, .slice C k ec] 25) = w0 at *
  go_wp2_with fail
  refine (awake_any _).mono ?_
  rintro e w1 ⟨rfl, b1⟩
  have M1 := Lib.hid (M0.out.next b1)
  obtain ⟨c0, c1, c2, c3⟩ := M1.out.box.cells
  clear b1 M0
  go_wp2_with fail
  refine (may_any _ A n c B m d C k ec s w1 M1.out.nd rfl).mono ?_
  rintro e w2 ⟨r, rfl, hr, b2⟩
  have M2 := Lib.hid (M1.out.next b2)
  have HR := Lib.hid hr
  clear b2 hr c0 c1 c2 c3 M1
  obtain ⟨c0, c1, c2, c3⟩ := M2.out.box.cells
  cases r with
  | false =>
    go_wp2_with fail
    go_ret
    exact ⟨rfl, M2.out.below⟩
  | true =>
  obtain ⟨hsm, hok⟩ := HR.out rfl
  have h1 : n ≤ 300 := by rw [← M2.out.nd.kn]; exact hsm.1
  have h2 : m ≤ 300 := by rw [← M2.out.nd.vn]; exact hsm.2.1
  have h3 : k ≤ 300 := by rw [← M2.out.nd.cn]; exact hsm.2.2.1
  have HO := Lib.hid hok
  have HSM := Lib.hid hsm
  have HSZ := Lib.hid hsm.size
  clear hsm hok HR
  cases hl : s.leaf with
  | false =>
    rw [hl] at c0
    clear hl
    go_wp2_with fail
    go_ret
    exact ⟨rfl, M2.out.below⟩
  | true =>
  rw [hl] at c0
  have HL := Lib.hid hl
  clear hl
  by_cases h4 : 1 ≤ x.size
  case neg =>
    have h4' : x.size < 1 := by omega
    clear h4
    go_wp2_with fail
    go_ret
    exact ⟨rfl, M2.out.below⟩
  by_cases h5 : x.size ≤ 120
  case neg =>
    have h5' : 120 < x.size := by omega
    clear h5
    go_wp2_with fail
    go_ret
    exact ⟨rfl, M2.out.below⟩
  by_cases h6 : y.size ≤ 100
  case neg =>
    have h6' : 100 < y.size := by omega
    clear h6
    go_wp2_with fail
    go_ret
    exact ⟨rfl, M2.out.below⟩
  have hx1 : 1 ≤ x.toList.length := by rw [toList_length]; exact h4
  have hx2 : x.toList.length ≤ 120 := by rw [toList_length]; exact h5
  have hy1 : y.toList.length ≤ 100 := by rw [toList_length]; exact h6
  have hpo := ND.put_ok HO.out HL.out hx1 hx2 hy1
  have hlk := ND.look_find hpo (ND.put_look (v := y.toList) HO.out HL.out)
  have hal := fun hne => ND.keeps_all (o := o.toList) HO.out HL.out hx1 hx2 hy1 hne
  obtain ⟨P, hP⟩ : ∃ P, s.put x.toList y.toList = P := ⟨_, rfl⟩
  have hPl : P.leaf = true := by rw [← hP]; rfl
  have HLP := Lib.hid (show Len P 601 by rw [← hP]; exact (Len.of_small HSM.out).put _ _)
  rw [hP] at hpo hlk hal
  have hro := ND.removed_ok hpo hPl hlk.1
  have hrg := ND.removed_gone hpo hlk.1
  have hrm := ND.remove_old hlk.1
  obtain ⟨R, hR⟩ : ∃ R, P.removed x.toList = R := ⟨_, rfl⟩
  have hRl : R.leaf = true := by rw [← hR]; rfl
  rw [hR] at hro hrg hrm hal
  have HLR := Lib.hid (show Len R 1202 by rw [← hrm]; exact HLP.out.remove _)
  have HhP := Lib.hid hP
  have HPL := Lib.hid hPl
  have HPO := Lib.hid hpo
  have HRL := Lib.hid hRl
  have HRO := Lib.hid hro
  have HRG := Lib.hid hrg
  have HRM := Lib.hid hrm
  have HAT := Lib.hid hlk.1
  have HVA := Lib.hid hlk.2
  have HAL := Lib.hid hal
  clear hP hPl hpo hlk hal hro hrg hrm hR hRl hx1 hx2 hy1
  go_wp2_with fail
  refine (put_any true A n c B m d C k ec s x y w2 M2.out.nd HL.out HO.out rfl (by omega)).mono ?_
  rintro e w3 ⟨v, rfl, hv, b3⟩
  rw [HhP.out] at hv
  obtain ⟨A4, n4, c4, B4, m4, d4, C4, k4, e4, rfl, nv, _⟩ := hv
  rw [HPL.out]
  have bx := chainN (below_one w3 (.cells #[.bool true, .slice A4 n4 c4, .slice B4 m4 d4, .slice C4 k4 e4] 25)) b3
  have N4 := Lib.hid (nv.kept (below_one w3 (.cells #[.bool true, .slice A4 n4 c4, .slice B4 m4 d4, .slice C4 k4 e4] 25)))
  have Q4 := Lib.hid (nbox_new w3 (.bool true) (.slice A4 n4 c4) (.slice B4 m4 d4) (.slice C4 k4 e4))
  have M4 := Lib.hid (M2.out.next bx)
  have l4 : n4 ≤ 1000 ∧ m4 ≤ 1000 ∧ k4 ≤ 1000 := by have h := HLP.out; rw [← N4.out.kn, ← N4.out.vn, ← N4.out.cn]; exact ⟨by have := h.1; omega, by have := h.2.1; omega, by have := h.2.2; omega⟩
  obtain ⟨l41, l42, l43⟩ := l4
  have hmn : m4 = n4 := by rw [← N4.out.kn, ← N4.out.vn]; exact (ND.ok_leaf HPO.out HPL.out).1
  have HMN := Lib.hid hmn
  clear b3 bx nv M2 c0 c1 c2 c3 hmn
  go_upto_region 5 with fail
  generalize w3.alloc (.cells #[.bool true, .slice A4 n4 c4, .slice B4 m4 d4, .slice C4 k4 e4] 25) = w4 at *
  generalize w3.heap.size = g4 at *
  obtain ⟨x0, x1, x2, x3⟩ := Q4.out.cells
  obtain ⟨a, ha⟩ : ∃ a, ND.findN x.toList P.keys = a := ⟨_, rfl⟩
  have hav := HVA.out
  rw [ha] at hav
  have ham : a < m4 := by rw [← N4.out.vn]; exact (List.getElem?_eq_some_iff.1 hav).1
  have HA := Lib.hid ha
  have HAV := Lib.hid hav
  clear ha hav HVA
  go_wp2_with fail
  refine (find_any true A4 n4 c4 B4 m4 d4 C4 k4 e4 P x w4 N4.out (ND.ok_rise HPO.out) (by omega)).mono ?_
  rintro e w5 ⟨rfl, b5⟩
  rw [HA.out, HAT.out]
  have M5 := Lib.hid (M4.out.next b5)
  have N5 := Lib.hid (N4.out.kept b5)
  have Q5 := Lib.hid (Q4.out.kept b5)
  clear b5 x0 x1 x2 x3 M4 N4 Q4
  obtain ⟨x0, x1, x2, x3⟩ := Q5.out.cells
  go_wp2_with fail
  refine (ncheck_any true A4 n4 c4 B4 m4 d4 C4 k4 e4 P w5 N5.out HPL.out (by omega) (by omega) (by omega)).mono ?_
  rintro e w6 ⟨rfl, b6⟩
  rw [echeck_good HPO.out]
  have M6 := Lib.hid (M5.out.next b6)
  have N6 := Lib.hid (N5.out.kept b6)
  have Q6 := Lib.hid (Q5.out.kept b6)
  clear b6 x0 x1 x2 x3 M5 N5 Q5
  obtain ⟨x0, x1, x2, x3⟩ := Q6.out.cells
  obtain ⟨b9, off9, u9, eB9, hu9, cu9⟩ := N6.out.va.strAt ham
  subst eB9
  have hue : (u9.toList == y.toList) = true := by
    rw [HAV.out] at hu9
    rw [beq_iff_eq]
    exact (Option.some.inj hu9).symm
  have j1 : (0 : Int) ≤ (a : Int) := by omega
  have j2 : (a : Int) < (m4 : Int) := by omega
  clear hu9
  go_upto_region 8 with fail
  clear cu9 hue j1 j2
  have hcall := remove_any A4 n4 c4 (some ⟨b9, off9, none⟩) m4 d4 C4 k4 e4 P x w6 N6.out HPL.out HPO.out (by omega)
  rw [HRM.out, HAT.out] at hcall
  have HC := Lib.hid hcall
  clear hcall
  go_wp2_with fail
  refine HC.out.mono ?_
  rintro e w7 ⟨v, rfl, hv, b7⟩
  obtain ⟨A8, n8, c8, B8, m8, d8, C8, k8, e8, rfl, nv, _⟩ := hv
  rw [HRL.out]
  have bx := chainN (below_one w7 (.cells #[.bool true, .slice A8 n8 c8, .slice B8 m8 d8, .slice C8 k8 e8] 25)) b7
  have N8 := Lib.hid (nv.kept (below_one w7 (.cells #[.bool true, .slice A8 n8 c8, .slice B8 m8 d8, .slice C8 k8 e8] 25)))
  have Q8 := Lib.hid (nbox_new w7 (.bool true) (.slice A8 n8 c8) (.slice B8 m8 d8) (.slice C8 k8 e8))
  have M8 := Lib.hid (M6.out.next bx)
  have N48 := Lib.hid (N6.out.kept bx)
  have Q48 := Lib.hid (Q6.out.kept bx)
  have l8 : n8 ≤ 2000 ∧ m8 ≤ 2000 ∧ k8 ≤ 2000 := by have h := HLR.out; rw [← N8.out.kn, ← N8.out.vn, ← N8.out.cn]; exact ⟨by have := h.1; omega, by have := h.2.1; omega, by have := h.2.2; omega⟩
  obtain ⟨l81, l82, l83⟩ := l8
  clear b7 bx nv M6 N6 Q6 x0 x1 x2 x3 HC
  go_upto_region 9 with fail
  generalize w7.alloc (.cells #[.bool true, .slice A8 n8 c8, .slice B8 m8 d8, .slice C8 k8 e8] 25) = w8 at *
  generalize w7.heap.size = g8 at *
  obtain ⟨x0, x1, x2, x3⟩ := Q8.out.cells
  go_wp2_with fail
  refine (find_any true A8 n8 c8 B8 m8 d8 C8 k8 e8 R x w8 N8.out (ND.ok_rise HRO.out) (by omega)).mono ?_
  rintro e w9 ⟨rfl, bz⟩
  rw [HRG.out]
  clear x0 x1 x2 x3
  have N8' := Lib.hid (N8.out.kept bz)
  have Q8' := Lib.hid (Q8.out.kept bz)
  have N48' := Lib.hid (N48.out.kept bz)
  have Q48' := Lib.hid (Q48.out.kept bz)
  have M8' := Lib.hid (M8.out.next bz)
  clear bz M8 N8 Q8 N48 Q48
  have N8 := N8'
  have Q8 := Q8'
  have N48 := N48'
  have Q48 := Q48'
  have M8 := M8'
  clear N8' Q8' N48' Q48' M8'
  obtain ⟨x0, x1, x2, x3⟩ := Q8.out.cells
  go_wp2_with fail
  refine (ncheck_any true A8 n8 c8 B8 m8 d8 C8 k8 e8 R w9 N8.out HRL.out (by omega) (by omega) (by omega)).mono ?_
  rintro e w10 ⟨rfl, bz⟩
  rw [echeck_good HRO.out]
  clear x0 x1 x2 x3
  have N8' := Lib.hid (N8.out.kept bz)
  have Q8' := Lib.hid (Q8.out.kept bz)
  have N48' := Lib.hid (N48.out.kept bz)
  have Q48' := Lib.hid (Q48.out.kept bz)
  have M8' := Lib.hid (M8.out.next bz)
  clear bz M8 N8 Q8 N48 Q48
  have N8 := N8'
  have Q8 := Q8'
  have N48 := N48'
  have Q48 := Q48'
  have M8 := M8'
  clear N8' Q8' N48' Q48' M8'
  by_cases hoe : o.toList = x.toList
  case pos =>
    have hq : (o.toList == x.toList) = true := by rw [beq_iff_eq]; exact hoe
    clear hoe
    go_wp2_with fail
    go_ret
    exact ⟨rfl, M8.out.below⟩
  case neg =>
  have hq : (o.toList == x.toList) = false := by rw [beq_eq_false_iff_ne]; exact hoe
  obtain ⟨ha1, ha2, ha3⟩ := HAL.out hoe
  obtain ⟨z, hz⟩ : ∃ z, ND.isAt o.toList s.keys = z := ⟨_, rfl⟩
  rw [hz] at ha1 ha2 ha3
  obtain ⟨f1, hf1⟩ : ∃ f1, ND.findN o.toList s.keys = f1 := ⟨_, rfl⟩
  obtain ⟨f2, hf2⟩ : ∃ f2, ND.findN o.toList P.keys = f2 := ⟨_, rfl⟩
  obtain ⟨f3, hf3⟩ : ∃ f3, ND.findN o.toList R.keys = f3 := ⟨_, rfl⟩
  rw [hf1, hf2, hf3] at ha3
  have H1 := Lib.hid ha1
  have H2 := Lib.hid ha2
  have H3 := Lib.hid ha3
  have HZ := Lib.hid hz
  have HF1 := Lib.hid hf1
  have HF2 := Lib.hid hf2
  have HF3 := Lib.hid hf3
  clear hoe ha1 ha2 ha3 hz hf1 hf2 hf3
  obtain ⟨c0, c1, c2, c3⟩ := M8.out.box.cells
  rw [HL.out] at c0
  go_wp2_with fail
  refine (find_any true A n c B m d C k ec s o w10 M8.out.nd (ND.ok_rise HO.out) (by omega)).mono ?_
  rintro e w11 ⟨rfl, bz⟩
  rw [HF1.out, HZ.out]
  clear c0 c1 c2 c3
  have N8' := Lib.hid (N8.out.kept bz)
  have Q8' := Lib.hid (Q8.out.kept bz)
  have N48' := Lib.hid (N48.out.kept bz)
  have Q48' := Lib.hid (Q48.out.kept bz)
  have M8' := Lib.hid (M8.out.next bz)
  clear bz M8 N8 Q8 N48 Q48
  have N8 := N8'
  have Q8 := Q8'
  have N48 := N48'
  have Q48 := Q48'
  have M8 := M8'
  clear N8' Q8' N48' Q48' M8'
  obtain ⟨x0, x1, x2, x3⟩ := Q48.out.cells
  go_wp2_with fail
  refine (find_any true A4 n4 c4 (some ⟨b9, off9, none⟩) m4 d4 C4 k4 e4 P o w11 N48.out (ND.ok_rise HPO.out) (by omega)).mono ?_
  rintro e w12 ⟨rfl, bz⟩
  rw [HF2.out, H1.out]
  clear x0 x1 x2 x3
  have N8' := Lib.hid (N8.out.kept bz)
  have Q8' := Lib.hid (Q8.out.kept bz)
  have N48' := Lib.hid (N48.out.kept bz)
  have Q48' := Lib.hid (Q48.out.kept bz)
  have M8' := Lib.hid (M8.out.next bz)
  clear bz M8 N8 Q8 N48 Q48
  have N8 := N8'
  have Q8 := Q8'
  have N48 := N48'
  have Q48 := Q48'
  have M8 := M8'
  clear N8' Q8' N48' Q48' M8'
  obtain ⟨x0, x1, x2, x3⟩ := Q8.out.cells
  go_wp2_with fail
  refine (find_any true A8 n8 c8 B8 m8 d8 C8 k8 e8 R o w12 N8.out (ND.ok_rise HRO.out) (by omega)).mono ?_
  rintro e w13 ⟨rfl, bz⟩
  rw [HF3.out, H2.out]
  clear x0 x1 x2 x3
  have N8' := Lib.hid (N8.out.kept bz)
  have Q8' := Lib.hid (Q8.out.kept bz)
  have N48' := Lib.hid (N48.out.kept bz)
  have Q48' := Lib.hid (Q48.out.kept bz)
  have M8' := Lib.hid (M8.out.next bz)
  clear bz M8 N8 Q8 N48 Q48
  have N8 := N8'
  have Q8 := Q8'
  have N48 := N48'
  have Q48 := Q48'
  have M8 := M8'
  clear N8' Q8' N48' Q48' M8'
  have hq1 : (z != z) = false := bne_self_eq_false _
  cases z with
  | false =>
    clear H3
    go_wp2_with fail
    go_quiet (fail)
    go_wp2_with fail
    go_ret
    exact ⟨rfl, belowN M8.out.below _⟩
  | true =>
    obtain ⟨u, v1, v2, v3⟩ := H3.out rfl
    have k1 : f1 < m := by rw [← M8.out.nd.vn]; exact (List.getElem?_eq_some_iff.1 v1).1
    have k2 : f2 < m4 := by rw [← N48.out.vn]; exact (List.getElem?_eq_some_iff.1 v2).1
    have k3 : f3 < m8 := by rw [← N8.out.vn]; exact (List.getElem?_eq_some_iff.1 v3).1
    obtain ⟨bb1, of1, t1, rfl, y1, z1⟩ := M8.out.nd.va.strAt k1
    obtain ⟨bb2, of2, t2, eB, y2, z2⟩ := N48.out.va.strAt k2
    obtain ⟨bb3, of3, t3, rfl, y3, z3⟩ := N8.out.va.strAt k3
    injection eB with eB
    injection eB with eb eo _
    subst eb
    subst eo
    have q1 : (t1.toList == t2.toList) = true := by
      rw [v1] at y1
      rw [v2] at y2
      rw [beq_iff_eq, ← Option.some.inj y1, ← Option.some.inj y2]
    have q2 : (t1.toList == t3.toList) = true := by
      rw [v1] at y1
      rw [v3] at y3
      rw [beq_iff_eq, ← Option.some.inj y1, ← Option.some.inj y3]
    clear v1 v2 v3 y1 y2 y3 H3
    obtain ⟨c0, c1, c2, c3⟩ := M8.out.box.cells
    obtain ⟨x0, x1, x2, x3⟩ := Q48.out.cells
    obtain ⟨p0, p1, p2, p3⟩ := Q8.out.cells
    have j1 : (0 : Int) ≤ (f1 : Int) := by omega
    have j2 : (0 : Int) ≤ (f2 : Int) := by omega
    have j3 : (0 : Int) ≤ (f3 : Int) := by omega
    have d1 : decide ((f1 : Int) < (m : Int)) = true := decide_eq_true (by omega)
    have d2 : decide ((f2 : Int) < (m4 : Int)) = true := decide_eq_true (by omega)
    have d3 : decide ((f3 : Int) < (m8 : Int)) = true := decide_eq_true (by omega)
    have d4' : (f1 : Int) < (m : Int) := by omega
    have d5' : (f2 : Int) < (m4 : Int) := by omega
    have d6' : (f3 : Int) < (m8 : Int) := by omega
    go_wp2_with fail
    go_quiet (fail)
    go_wp2_with fail
    go_ret
    exact ⟨rfl, belowN M8.out.below _⟩

set_option maxRecDepth 100000 in
theorem lifted (os : Os) (started : os.Started) (H : Type) (enc : TypeId × Value → H) :
    ReturnsInHanded {} Try.checked os 9 .any (Rows.cellKeepsSpec.pre6 enc Try.prog Try.f9 Rows.cellKeepsRow.domain false)
      (Rows.cellKeepsSpec.post enc Try.prog Try.f9 false true false false) := by
  refine lift_law (C := Try.checked) (tb := 4) ownKnobs started (by kernel_rfl) Try.func9
    (ChangeSpec.witness6 (enc := enc) (C := Try.checked) false ⟨#[], #[.agg #[.bool false, .slice none 0 0, .slice none 0 0, .slice none 0 0], .string ⟨#[]⟩, .string ⟨#[]⟩, .string ⟨#[]⟩], []⟩ 8 (by kernel_rfl) (by kernel_rfl) (by kernel_rfl) (by kernel_rfl))
    laidOut ?_ rfl rfl Try.underlying4 ?_ ?_
  · intro t ht
    rw [Try.params9] at ht
    simp only [List.mem_cons, List.not_mem_nil, or_false] at ht
    rcases ht with rfl | rfl | rfl | rfl <;> exact ⟨by kernel_rfl, of_decide_eq_true (by kernel_rfl)⟩
  · intro vs ds W p hA
    rw [Try.params9] at hA
    obtain ⟨v0, vs0, d0, ds0, p0, q0, ha, rfl, rfl, h0, r0⟩ := trodAll_cons hA
    obtain ⟨v1, vs1, d1, ds1, p1, q1, rfl, rfl, rfl, h1, r1⟩ := trodAll_cons r0
    obtain ⟨v2, vs2, d2, ds2, p2, q2, rfl, rfl, rfl, h2, r2⟩ := trodAll_cons r1
    obtain ⟨v3, vs3, d3, ds3, p3, q3, rfl, rfl, rfl, h3, r3⟩ := trodAll_cons r2
    obtain ⟨rfl, rfl, rfl⟩ := trodAll_nil r3
    rfl
  · intro W base args ds p hval hA
    rw [Try.params9] at hA hval
    obtain ⟨v0, vs0, d0, ds0, p0, q0, ha, rfl, rfl, h0, r0⟩ := trodAll_cons hA
    obtain ⟨v1, vs1, d1, ds1, p1, q1, rfl, rfl, rfl, h1, r1⟩ := trodAll_cons r0
    obtain ⟨v2, vs2, d2, ds2, p2, q2, rfl, rfl, rfl, h2, r2⟩ := trodAll_cons r1
    obtain ⟨v3, vs3, d3, ds3, p3, q3, rfl, rfl, rfl, h3, r3⟩ := trodAll_cons r2
    obtain ⟨rfl, rfl, rfl⟩ := trodAll_nil r3
    obtain rfl : args = #[v0, v1, v2, v3] := by cases args; simp_all
    obtain ⟨s0, A0, n0, c0, B0, m0, d0, C0, k0, e0, rfl, hs0, _⟩ := open_node (hval 0 _ v0 rfl rfl) h0
    obtain ⟨t1, rfl⟩ := open_text (hval 1 _ v1 rfl rfl) h1
    obtain ⟨t2, rfl⟩ := open_text (hval 2 _ v2 rfl rfl) h2
    obtain ⟨t3, rfl⟩ := open_text (hval 3 _ v3 rfl rfl) h3
    exact walk s0 A0 n0 c0 B0 m0 d0 C0 k0 e0 hs0 t1 t2 t3

/-- The statement. -/
theorem proved : Rows.CellKeepsSaid :=
  OpenClaim.holds_of_wide 9 Try.f9 rfl rfl rfl rfl rfl rfl rfl ⟨rfl, rfl, rfl, rfl, rfl⟩ rfl rfl rfl rfl rfl (by kernel_rfl) Try.func9 (by kernel_rfl)
    (of_decide_eq_true (by kernel_rfl)) (by unfold Func.isWrapper; first | (rw [if_pos (by decide +kernel)]; kernel_rfl) | (rw [if_neg (by decide +kernel)]; exact ⟨rfl, rfl⟩))
    (fun os started H enc _ => lifted os started H enc)
#print axioms proved
end Go.Proofs.Ytcdfjaldnelfjaa.cellKeeps
