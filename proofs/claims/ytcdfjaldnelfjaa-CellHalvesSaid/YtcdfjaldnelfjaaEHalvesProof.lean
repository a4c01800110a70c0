/-
  CellHalves answers true, whatever leaf, key and value: both parts of a leaf that has no room, by one entry too many, have room, and neither is low by more than an entry. Conditions: none.
-/
import Derived.Test.YtcdfjaldnelfjaaRows
import Derived.Test.YtcdfjaldnelfjaaEAwake
import Derived.Test.YtcdfjaldnelfjaaEMid
import Derived.Test.YtcdfjaldnelfjaaESplit
import Derived.Test.YtcdfjaldnelfjaaEPut
import Derived.Test.YtcdfjaldnelfjaaELen
import Derived.Deep.RegionHeld3
namespace Go.Proofs.Ytcdfjaldnelfjaa.cellHalves
open Go.ChangeShapes Go.WideShapes Go.ChangeAt Go.RowKit

set_option maxRecDepth 20000 in
set_option maxHeartbeats 12800000 in
theorem walk {W : World} (s : ND) (A : Option Addr) (n c : Nat) (B : Option Addr) (m d : Nat) (C : Option Addr) (k ec : Nat) (hs : Nd W A n c B m d C k ec s) (x y : ByteArray) :
    Calls Try.prog 8 #[.agg #[.bool s.leaf, .slice A n c, .slice B m d, .slice C k ec], .string x, .string y] W fun e w' => e = .returned (.bool true) ∧ Below W.heap.size W w' := by
  have b0 := below_one W (.cells #[.bool s.leaf, .slice A n c, .slice B m d, .slice C k ec] 25)
  have M0 : Hid (Mid W (W.alloc (.cells #[.bool s.leaf, .slice A n c, .slice B m d, .slice C k ec] 25)) s A n c B m d C k ec) := Lib.hid ⟨nbox_new W _ _ _ _, hs.kept b0, b0⟩
  clear hs b0
  go_enter Try.func8, Try.ntmps8
  go_upto_region 1 with fail
  generalize W.alloc (.cells #[.bool s.leaf, .slice A n c, .slice B m d, .slice C k ec] 25) = w0 at *
  go_wp2_with fail
  refine (awake_any _).mono ?_
  rintro e w1 ⟨rfl, b1⟩
  have M1 := Lib.hid (M0.out.next b1)
  obtain ⟨c0, c1, c2, c3⟩ := M1.out.box.cells
  clear b1 M0
  go_wp2_with fail
  refine (may_any _ A n c B m d C k ec s w1 M1.out.nd rfl).mono ?_
  rintro e w2 ⟨r, rfl, hr, b2⟩
  have M2 := Lib.hid (M1.out.next b2)
  have HR := Lib.hid hr
  clear b2 hr c0 c1 c2 c3 M1
  obtain ⟨c0, c1, c2, c3⟩ := M2.out.box.cells
  cases r with
  | false =>
    go_wp2_with fail
    go_ret
    exact ⟨rfl, M2.out.below⟩
  | true =>
  obtain ⟨hsm, hok⟩ := HR.out rfl
  have h1 : n ≤ 300 := by rw [← M2.out.nd.kn]; exact hsm.1
  have h2 : m ≤ 300 := by rw [← M2.out.nd.vn]; exact hsm.2.1
  have h3 : k ≤ 300 := by rw [← M2.out.nd.cn]; exact hsm.2.2.1
  have HO := Lib.hid hok
  have HSM := Lib.hid hsm
  have HSZ := Lib.hid hsm.size
  clear hsm hok HR
  cases hl : s.leaf with
  | false =>
    rw [hl] at c0
    clear hl
    go_wp2_with fail
    go_ret
    exact ⟨rfl, M2.out.below⟩
  | true =>
  rw [hl] at c0
  have HL := Lib.hid hl
  clear hl
  have HF := Lib.hid (fits_any true A n c B m d C k ec s w2 M2.out.nd (by have := HSZ.out; omega))
  go_wp2_with fail
  refine HF.out.mono ?_
  rintro e w3 ⟨rfl, b3⟩
  have M3 := Lib.hid (M2.out.next b3)
  clear b3 HF M2 c0 c1 c2 c3
  obtain ⟨c0, c1, c2, c3⟩ := M3.out.box.cells
  rw [HL.out] at c0
  cases hf : decide (s.size ≤ 1000) with
  | false =>
    clear hf
    go_wp2_with fail
    go_ret
    exact ⟨rfl, M3.out.below⟩
  | true =>
  have hfit : s.size ≤ 1000 := of_decide_eq_true hf
  have HFI := Lib.hid hfit
  clear hf hfit
  by_cases h4 : 1 ≤ x.size
  case neg =>
    have h4' : x.size < 1 := by omega
    clear h4
    go_wp2_with fail
    go_ret
    exact ⟨rfl, M3.out.below⟩
  by_cases h5 : x.size ≤ 120
  case neg =>
    have h5' : 120 < x.size := by omega
    clear h5
    go_wp2_with fail
    go_ret
    exact ⟨rfl, M3.out.below⟩
  by_cases h6 : y.size ≤ 100
  case neg =>
    have h6' : 100 < y.size := by omega
    clear h6
    go_wp2_with fail
    go_ret
    exact ⟨rfl, M3.out.below⟩
  have hpo := ND.put_ok (k := x.toList) (v := y.toList) HO.out HL.out (by rw [toList_length]; exact h4) (by rw [toList_length]; exact h5) (by rw [toList_length]; exact h6)
  have hps := ND.put_size (k := x.toList) (v := y.toList) HO.out HL.out (by rw [toList_length]; exact h5) (by rw [toList_length]; exact h6)
  obtain ⟨P, hP⟩ : ∃ P, s.put x.toList y.toList = P := ⟨_, rfl⟩
  have hPl : P.leaf = true := by rw [← hP]; rfl
  have HLP := Lib.hid (show Len P 601 by rw [← hP]; exact (Len.of_small HSM.out).put _ _)
  rw [hP] at hpo hps
  have HPO := Lib.hid hpo
  have HPS : Hid (P.size ≤ 1222) := Lib.hid (by have := HFI.out; omega)
  have HhP := Lib.hid hP
  have HPL := Lib.hid hPl
  clear hpo hps hP hPl
  go_wp2_with fail
  refine (put_any true A n c B m d C k ec s x y w3 M3.out.nd HL.out HO.out rfl (by omega)).mono ?_
  rintro e w4 ⟨v, rfl, hv, b4⟩
  rw [HhP.out] at hv
  obtain ⟨A4, n4, c4, B4, m4, d4, C4, k4, e4, rfl, nv, _⟩ := hv
  rw [HPL.out]
  have bx := chainN (below_one w4 (.cells #[.bool true, .slice A4 n4 c4, .slice B4 m4 d4, .slice C4 k4 e4] 25)) b4
  have N4 := Lib.hid (nv.kept (below_one w4 (.cells #[.bool true, .slice A4 n4 c4, .slice B4 m4 d4, .slice C4 k4 e4] 25)))
  have Q4 := Lib.hid (nbox_new w4 (.bool true) (.slice A4 n4 c4) (.slice B4 m4 d4) (.slice C4 k4 e4))
  have M4 := Lib.hid (M3.out.next bx)
  clear b4 bx nv M3 c0 c1 c2 c3
  go_upto_region 5 with fail
  generalize w4.alloc (.cells #[.bool true, .slice A4 n4 c4, .slice B4 m4 d4, .slice C4 k4 e4] 25) = w5 at *
  generalize w4.heap.size = g4 at *
  obtain ⟨x0, x1, x2, x3⟩ := Q4.out.cells
  go_wp2_with fail
  refine (fits_any true A4 n4 c4 B4 m4 d4 C4 k4 e4 P w5 N4.out (by have := HPS.out; omega)).mono ?_
  rintro e w6 ⟨rfl, b6⟩
  have M6 := Lib.hid (M4.out.next b6)
  have N6 := Lib.hid (N4.out.kept b6)
  have Q6 := Lib.hid (Q4.out.kept b6)
  clear b6 x0 x1 x2 x3 M4 N4 Q4
  cases hf : decide (P.size ≤ 1000) with
  | true =>
    clear hf
    go_wp2_with fail
    go_ret
    exact ⟨rfl, M6.out.below⟩
  | false =>
  have hbig : 1000 < P.size := by have := of_decide_eq_false hf; omega
  obtain ⟨hs, z1, z2, z3, z4⟩ := ND.halves HPO.out HPL.out hbig HPS.out
  have hsum := ND.ents_sum HPO.out HPL.out
  have HE := Lib.hid (ND.split_yes hs).1
  have Z1 : Hid (P.splitL.size ≤ 1000 ∧ P.splitR.size ≤ 1000 ∧ ¬ P.splitL.size < 300 ∧ 250 < P.splitR.size) := Lib.hid ⟨z1, z2, z3, z4⟩
  have HSU : Hid (P.ents.sum ≤ 100000000) := Lib.hid (by have := HPS.out; omega)
  clear hf hbig hs z1 z2 z3 z4 hsum
  obtain ⟨x0, x1, x2, x3⟩ := Q6.out.cells
  go_wp2_with fail
  refine (split_any true A4 n4 c4 B4 m4 d4 C4 k4 e4 P w6 N6.out HPL.out HPO.out (by have := HPS.out; omega) HSU.out).mono ?_
  rintro e w7 ⟨v, u, rfl, hv, hu, b7⟩
  rw [HE.out]
  obtain ⟨L, hL⟩ : ∃ L, P.splitL = L := ⟨_, rfl⟩
  obtain ⟨R, hR⟩ : ∃ R, P.splitR = R := ⟨_, rfl⟩
  rw [hL] at hv Z1
  rw [hR] at hu Z1
  clear hL hR
  obtain ⟨A8, n8, c8, B8, m8, d8, C8, k8, e8, rfl, nv, _⟩ := hv
  obtain ⟨A5, n5, c5, B5, m5, d5, C5, k5, e5, rfl, nu, _⟩ := hu
  have bx := chainN (below_two w7 (.cells #[.bool L.leaf, .slice A8 n8 c8, .slice B8 m8 d8, .slice C8 k8 e8] 25) (.cells #[.bool R.leaf, .slice A5 n5 c5, .slice B5 m5 d5, .slice C5 k5 e5] 25)) b7
  have NL := Lib.hid (nv.kept (below_two w7 (.cells #[.bool L.leaf, .slice A8 n8 c8, .slice B8 m8 d8, .slice C8 k8 e8] 25) (.cells #[.bool R.leaf, .slice A5 n5 c5, .slice B5 m5 d5, .slice C5 k5 e5] 25)))
  have NR := Lib.hid (nu.kept (below_two w7 (.cells #[.bool L.leaf, .slice A8 n8 c8, .slice B8 m8 d8, .slice C8 k8 e8] 25) (.cells #[.bool R.leaf, .slice A5 n5 c5, .slice B5 m5 d5, .slice C5 k5 e5] 25)))
  obtain ⟨hx1, hx2⟩ := nbox_two w7 (.bool L.leaf) (.slice A8 n8 c8) (.slice B8 m8 d8) (.slice C8 k8 e8) (.bool R.leaf) (.slice A5 n5 c5) (.slice B5 m5 d5) (.slice C5 k5 e5)
  have QL := Lib.hid hx1
  have QR := Lib.hid hx2
  have M7 := Lib.hid (M6.out.next bx)
  clear b7 bx nv nu hx1 hx2 M6 N6 Q6 x0 x1 x2 x3
  go_upto_region 8 with fail
  generalize (w7.alloc (.cells #[.bool L.leaf, .slice A8 n8 c8, .slice B8 m8 d8, .slice C8 k8 e8] 25)).alloc (.cells #[.bool R.leaf, .slice A5 n5 c5, .slice B5 m5 d5, .slice C5 k5 e5] 25) = w8 at *
  generalize w7.heap.size + 1 = gr at *
  generalize w7.heap.size = gl at *
  obtain ⟨x0, x1, x2, x3⟩ := QL.out.cells
  obtain ⟨y0, y1, y2, y3⟩ := QR.out.cells
  go_wp2_with fail
  refine (fits_any L.leaf A8 n8 c8 B8 m8 d8 C8 k8 e8 L w8 NL.out (by have := Z1.out.1; omega)).mono ?_
  rintro e w9 ⟨rfl, bz⟩
  rw [decide_eq_true Z1.out.1]
  have M7' := Lib.hid (M7.out.next bz)
  have NL' := Lib.hid (NL.out.kept bz)
  have NR' := Lib.hid (NR.out.kept bz)
  have QL' := Lib.hid (QL.out.kept bz)
  have QR' := Lib.hid (QR.out.kept bz)
  clear bz x0 x1 x2 x3 y0 y1 y2 y3 M7 NL NR QL QR
  have M7 := M7'
  have NL := NL'
  have NR := NR'
  have QL := QL'
  have QR := QR'
  clear M7' NL' NR' QL' QR'
  obtain ⟨x0, x1, x2, x3⟩ := QL.out.cells
  obtain ⟨y0, y1, y2, y3⟩ := QR.out.cells
  go_wp2_with fail
  refine (fits_any R.leaf A5 n5 c5 B5 m5 d5 C5 k5 e5 R w9 NR.out (by have := Z1.out.2.1; omega)).mono ?_
  rintro e w10 ⟨rfl, bz⟩
  rw [decide_eq_true Z1.out.2.1]
  have M7' := Lib.hid (M7.out.next bz)
  have NL' := Lib.hid (NL.out.kept bz)
  have NR' := Lib.hid (NR.out.kept bz)
  have QL' := Lib.hid (QL.out.kept bz)
  have QR' := Lib.hid (QR.out.kept bz)
  clear bz x0 x1 x2 x3 y0 y1 y2 y3 M7 NL NR QL QR
  have M7 := M7'
  have NL := NL'
  have NR := NR'
  have QL := QL'
  have QR := QR'
  clear M7' NL' NR' QL' QR'
  obtain ⟨x0, x1, x2, x3⟩ := QL.out.cells
  obtain ⟨y0, y1, y2, y3⟩ := QR.out.cells
  go_wp2_with fail
  refine (low_any L.leaf A8 n8 c8 B8 m8 d8 C8 k8 e8 L w10 NL.out (by have := Z1.out.1; omega)).mono ?_
  rintro e w11 ⟨rfl, bz⟩
  rw [decide_eq_false Z1.out.2.2.1]
  have M7' := Lib.hid (M7.out.next bz)
  have NL' := Lib.hid (NL.out.kept bz)
  have NR' := Lib.hid (NR.out.kept bz)
  have QL' := Lib.hid (QL.out.kept bz)
  have QR' := Lib.hid (QR.out.kept bz)
  clear bz x0 x1 x2 x3 y0 y1 y2 y3 M7 NL NR QL QR
  have M7 := M7'
  have NL := NL'
  have NR := NR'
  have QL := QL'
  have QR := QR'
  clear M7' NL' NR' QL' QR'
  obtain ⟨x0, x1, x2, x3⟩ := QL.out.cells
  obtain ⟨y0, y1, y2, y3⟩ := QR.out.cells
  go_wp2_with fail
  refine (nsize_any R.leaf A5 n5 c5 B5 m5 d5 C5 k5 e5 R w11 NR.out (by have := Z1.out.2.1; omega)).mono ?_
  rintro e w12 ⟨rfl, bz⟩
  have hsz : (250 : Int) < ((R.size : Nat) : Int) := (by have := Z1.out.2.2.2; omega)
  have M7' := Lib.hid (M7.out.next bz)
  have NL' := Lib.hid (NL.out.kept bz)
  have NR' := Lib.hid (NR.out.kept bz)
  have QL' := Lib.hid (QL.out.kept bz)
  have QR' := Lib.hid (QR.out.kept bz)
  clear bz x0 x1 x2 x3 y0 y1 y2 y3 M7 NL NR QL QR
  have M7 := M7'
  have NL := NL'
  have NR := NR'
  have QL := QL'
  have QR := QR'
  clear M7' NL' NR' QL' QR'
  go_wp2_with fail
  go_ret
  exact ⟨rfl, M7.out.below⟩

set_option maxRecDepth 100000 in
theorem lifted (os : Os) (started : os.Started) (H : Type) (enc : TypeId × Value → H) :
    ReturnsInHanded {} Try.checked os 8 .any (Rows.cellHalvesSpec.pre6 enc Try.prog Try.f8 Rows.cellHalvesRow.domain false)
      (Rows.cellHalvesSpec.post enc Try.prog Try.f8 false true false false) := by
  refine lift_law (C := Try.checked) (tb := 4) ownKnobs started (by kernel_rfl) Try.func8
    (ChangeSpec.witness6 (enc := enc) (C := Try.checked) false ⟨#[], #[.agg #[.bool false, .slice none 0 0, .slice none 0 0, .slice none 0 0], .string ⟨#[]⟩, .string ⟨#[]⟩], []⟩ 8 (by kernel_rfl) (by kernel_rfl) (by kernel_rfl) (by kernel_rfl))
    laidOut ?_ rfl rfl Try.underlying4 ?_ ?_
  · intro t ht
    rw [Try.params8] at ht
    simp only [List.mem_cons, List.not_mem_nil, or_false] at ht
    rcases ht with rfl | rfl | rfl <;> exact ⟨by kernel_rfl, of_decide_eq_true (by kernel_rfl)⟩
  · intro vs ds W p hA
    rw [Try.params8] at hA
    obtain ⟨v0, vs0, d0, ds0, p0, q0, ha, rfl, rfl, h0, r0⟩ := trodAll_cons hA
    obtain ⟨v1, vs1, d1, ds1, p1, q1, rfl, rfl, rfl, h1, r1⟩ := trodAll_cons r0
    obtain ⟨v2, vs2, d2, ds2, p2, q2, rfl, rfl, rfl, h2, r2⟩ := trodAll_cons r1
    obtain ⟨rfl, rfl, rfl⟩ := trodAll_nil r2
    rfl
  · intro W base args ds p hval hA
    rw [Try.params8] at hA hval
    obtain ⟨v0, vs0, d0, ds0, p0, q0, ha, rfl, rfl, h0, r0⟩ := trodAll_cons hA
    obtain ⟨v1, vs1, d1, ds1, p1, q1, rfl, rfl, rfl, h1, r1⟩ := trodAll_cons r0
    obtain ⟨v2, vs2, d2, ds2, p2, q2, rfl, rfl, rfl, h2, r2⟩ := trodAll_cons r1
    obtain ⟨rfl, rfl, rfl⟩ := trodAll_nil r2
    obtain rfl : args = #[v0, v1, v2] := by cases args; simp_all
    obtain ⟨s0, A0, n0, c0, B0, m0, d0, C0, k0, e0, rfl, hs0, _⟩ := open_node (hval 0 _ v0 rfl rfl) h0
    obtain ⟨t1, rfl⟩ := open_text (hval 1 _ v1 rfl rfl) h1
    obtain ⟨t2, rfl⟩ := open_text (hval 2 _ v2 rfl rfl) h2
    exact walk s0 A0 n0 c0 B0 m0 d0 C0 k0 e0 hs0 t1 t2

/-- The statement. -/
theorem proved : Rows.CellHalvesSaid :=
  OpenClaim.holds_of_wide 8 Try.f8 rfl rfl rfl rfl rfl rfl rfl ⟨rfl, rfl, rfl, rfl, rfl⟩ rfl rfl rfl rfl rfl (by kernel_rfl) Try.func8 (by kernel_rfl)
    (of_decide_eq_true (by kernel_rfl)) (by unfold Func.isWrapper; first | (rw [if_pos (by decide +kernel)]; kernel_rfl) | (rw [if_neg (by decide +kernel)]; exact ⟨rfl, rfl⟩))
    (fun os started H enc _ => lifted os started H enc)
#print axioms proved
end Go.Proofs.Ytcdfjaldnelfjaa.cellHalves
