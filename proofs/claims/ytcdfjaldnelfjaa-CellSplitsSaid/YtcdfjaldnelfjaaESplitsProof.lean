/-
  CellSplits answers true, whatever node: both parts of a node, and the key between, are what the document says, or its error. Conditions: none.
-/
import Derived.Test.YtcdfjaldnelfjaaRows
import Derived.Test.YtcdfjaldnelfjaaEAwake
import Derived.Test.YtcdfjaldnelfjaaEMid
import Derived.Test.YtcdfjaldnelfjaaESplit
import Derived.Test.YtcdfjaldnelfjaaERSplit
import Derived.Test.YtcdfjaldnelfjaaELen
import Derived.Deep.RegionHeld3
namespace Go.Proofs.Ytcdfjaldnelfjaa.cellSplits
open Go.ChangeShapes Go.WideShapes Go.ChangeAt Go.RowKit

set_option maxRecDepth 20000 in
set_option maxHeartbeats 12800000 in
theorem walk {W : World} (s : ND) (A : Option Addr) (n c : Nat) (B : Option Addr) (m d : Nat) (C : Option Addr) (k ec : Nat) (hs : Nd W A n c B m d C k ec s) :
    Calls Try.prog 5 #[.agg #[.bool s.leaf, .slice A n c, .slice B m d, .slice C k ec]] W fun e w' => e = .returned (.bool true) ∧ Below W.heap.size W w' := by
  have b0 := below_one W (.cells #[.bool s.leaf, .slice A n c, .slice B m d, .slice C k ec] 25)
  have M0 : Hid (Mid W (W.alloc (.cells #[.bool s.leaf, .slice A n c, .slice B m d, .slice C k ec] 25)) s A n c B m d C k ec) := Lib.hid ⟨nbox_new W _ _ _ _, hs.kept b0, b0⟩
  clear hs b0
  go_enter Try.func5, Try.ntmps5
  go_upto_region 1 with fail
  generalize W.alloc (.cells #[.bool s.leaf, .slice A n c, .slice B m d, .slice C k ec] 25) = w0 at *
  go_wp2_with fail
  refine (awake_any _).mono ?_
  rintro e w1 ⟨rfl, b1⟩
  have M1 := Lib.hid (M0.out.next b1)
  obtain ⟨c0, c1, c2, c3⟩ := M1.out.box.cells
  clear b1 M0
  go_wp2_with fail
  refine (may_any _ A n c B m d C k ec s w1 M1.out.nd rfl).mono ?_
  rintro e w2 ⟨r, rfl, hr, b2⟩
  have M2 := Lib.hid (M1.out.next b2)
  have HR := Lib.hid hr
  clear b2 hr c0 c1 c2 c3 M1
  obtain ⟨c0, c1, c2, c3⟩ := M2.out.box.cells
  cases r with
  | false =>
    go_wp2_with fail
    go_ret
    exact ⟨rfl, M2.out.below⟩
  | true =>
  obtain ⟨hsm, hok⟩ := HR.out rfl
  have h1 : n ≤ 300 := by rw [← M2.out.nd.kn]; exact hsm.1
  have h2 : m ≤ 300 := by rw [← M2.out.nd.vn]; exact hsm.2.1
  have h3 : k ≤ 300 := by rw [← M2.out.nd.cn]; exact hsm.2.2.1
  have HO := Lib.hid hok
  have HSM := Lib.hid hsm
  have HSZ := Lib.hid hsm.size
  clear hsm hok HR
  obtain ⟨L, hL⟩ : ∃ L, s.splitL = L := ⟨_, rfl⟩
  obtain ⟨R, hR⟩ : ∃ R, s.splitR = R := ⟨_, rfl⟩
  obtain ⟨kk, hkk⟩ : ∃ kk, tb s.splitK = kk := ⟨_, rfl⟩
  obtain ⟨er, her⟩ : ∃ er, s.splitE = er := ⟨_, rfl⟩
  have LL : Len L 300 := by rw [← hL]; exact (Len.of_small HSM.out).splitL
  have LR : Len R 300 := by rw [← hR]; exact (Len.of_small HSM.out).splitR
  have HLL := Lib.hid LL
  have HLR := Lib.hid LR
  have HhL := Lib.hid hL
  have HhR := Lib.hid hR
  have HhK := Lib.hid hkk
  have HhE := Lib.hid her
  clear LL LR hL hR hkk her
  go_wp2_with fail
  refine (split_any s.leaf A n c B m d C k ec s w2 M2.out.nd rfl HO.out (by have := HSZ.out; omega) (small_ents HSM.out HO.out)).mono ?_
  rintro e w3 ⟨v, u, rfl, hv, hu, b3⟩
  rw [HhL.out] at hv
  rw [HhR.out] at hu
  rw [HhK.out, HhE.out]
  obtain ⟨A4, n4, c4, B4, m4, d4, C4, k4, e4, rfl, nv, _⟩ := hv
  obtain ⟨A5, n5, c5, B5, m5, d5, C5, k5, e5, rfl, nu, _⟩ := hu
  have b3' := chainN (below_two w3 (.cells #[.bool L.leaf, .slice A4 n4 c4, .slice B4 m4 d4, .slice C4 k4 e4] 25) (.cells #[.bool R.leaf, .slice A5 n5 c5, .slice B5 m5 d5, .slice C5 k5 e5] 25)) b3
  have NL := Lib.hid (nv.kept (below_two w3 (.cells #[.bool L.leaf, .slice A4 n4 c4, .slice B4 m4 d4, .slice C4 k4 e4] 25) (.cells #[.bool R.leaf, .slice A5 n5 c5, .slice B5 m5 d5, .slice C5 k5 e5] 25)))
  have NR := Lib.hid (nu.kept (below_two w3 (.cells #[.bool L.leaf, .slice A4 n4 c4, .slice B4 m4 d4, .slice C4 k4 e4] 25) (.cells #[.bool R.leaf, .slice A5 n5 c5, .slice B5 m5 d5, .slice C5 k5 e5] 25)))
  obtain ⟨hx1, hx2⟩ := nbox_two w3 (.bool L.leaf) (.slice A4 n4 c4) (.slice B4 m4 d4) (.slice C4 k4 e4) (.bool R.leaf) (.slice A5 n5 c5) (.slice B5 m5 d5) (.slice C5 k5 e5)
  have QL := Lib.hid hx1
  have QR := Lib.hid hx2
  have M3 := Lib.hid (M2.out.next b3')
  clear b3 b3' nv nu hx1 hx2 M2 c0 c1 c2 c3
  go_upto_region 5 with fail
  generalize (w3.alloc (.cells #[.bool L.leaf, .slice A4 n4 c4, .slice B4 m4 d4, .slice C4 k4 e4] 25)).alloc (.cells #[.bool R.leaf, .slice A5 n5 c5, .slice B5 m5 d5, .slice C5 k5 e5] 25) = w4 at *
  generalize w3.heap.size + 1 = gr at *
  generalize w3.heap.size = gl at *
  obtain ⟨c0, c1, c2, c3⟩ := M3.out.box.cells
  go_wp2_with fail
  refine (rsplit_any s.leaf A n c B m d C k ec s w4 M3.out.nd rfl HO.out (by have := HSZ.out; omega) (small_ents HSM.out HO.out)).mono ?_
  rintro e w5 ⟨v, u, rfl, hv, hu, b5⟩
  rw [HhL.out] at hv
  rw [HhR.out] at hu
  rw [HhK.out, HhE.out]
  obtain ⟨A6, n6, c6, B6, m6, d6, C6, k6, e6, rfl, nv, _⟩ := hv
  obtain ⟨A7, n7, c7, B7, m7, d7, C7, k7, e7, rfl, nu, _⟩ := hu
  have b5' := chainN (below_two w5 (.cells #[.bool L.leaf, .slice A6 n6 c6, .slice B6 m6 d6, .slice C6 k6 e6] 25) (.cells #[.bool R.leaf, .slice A7 n7 c7, .slice B7 m7 d7, .slice C7 k7 e7] 25)) b5
  have PL := Lib.hid (nv.kept (below_two w5 (.cells #[.bool L.leaf, .slice A6 n6 c6, .slice B6 m6 d6, .slice C6 k6 e6] 25) (.cells #[.bool R.leaf, .slice A7 n7 c7, .slice B7 m7 d7, .slice C7 k7 e7] 25)))
  have PR := Lib.hid (nu.kept (below_two w5 (.cells #[.bool L.leaf, .slice A6 n6 c6, .slice B6 m6 d6, .slice C6 k6 e6] 25) (.cells #[.bool R.leaf, .slice A7 n7 c7, .slice B7 m7 d7, .slice C7 k7 e7] 25)))
  obtain ⟨hx1, hx2⟩ := nbox_two w5 (.bool L.leaf) (.slice A6 n6 c6) (.slice B6 m6 d6) (.slice C6 k6 e6) (.bool R.leaf) (.slice A7 n7 c7) (.slice B7 m7 d7) (.slice C7 k7 e7)
  have SL := Lib.hid hx1
  have SR := Lib.hid hx2
  have NL5 := Lib.hid (NL.out.kept b5')
  have NR5 := Lib.hid (NR.out.kept b5')
  have QL5 := Lib.hid (QL.out.kept b5')
  have QR5 := Lib.hid (QR.out.kept b5')
  have M5 := Lib.hid (M3.out.next b5')
  clear b5 b5' nv nu hx1 hx2 M3 c0 c1 c2 c3 NL NR QL QR
  go_upto_region 6 with fail
  generalize (w5.alloc (.cells #[.bool L.leaf, .slice A6 n6 c6, .slice B6 m6 d6, .slice C6 k6 e6] 25)).alloc (.cells #[.bool R.leaf, .slice A7 n7 c7, .slice B7 m7 d7, .slice C7 k7 e7] 25) = w6 at *
  generalize w5.heap.size + 1 = hr at *
  generalize w5.heap.size = hl at *
  obtain ⟨x0, x1, x2, x3⟩ := QL5.out.cells
  obtain ⟨y0, y1, y2, y3⟩ := SL.out.cells
  have l4 : n4 ≤ 1000000 ∧ m4 ≤ 1000000 ∧ k4 ≤ 1000000 := by have h := HLL.out; rw [← NL5.out.kn, ← NL5.out.vn, ← NL5.out.cn]; exact ⟨by have := h.1; omega, by have := h.2.1; omega, by have := h.2.2; omega⟩
  have l5 : n5 ≤ 1000000 ∧ m5 ≤ 1000000 ∧ k5 ≤ 1000000 := by have h := HLR.out; rw [← NR5.out.kn, ← NR5.out.vn, ← NR5.out.cn]; exact ⟨by have := h.1; omega, by have := h.2.1; omega, by have := h.2.2; omega⟩
  have LA := Lib.hid l4
  have LB := Lib.hid l5
  clear l4 l5
  go_wp2_with fail
  refine (nsame_any L.leaf A4 n4 c4 B4 m4 d4 C4 k4 e4 L L.leaf A6 n6 c6 B6 m6 d6 C6 k6 e6 L w6 NL5.out PL.out rfl rfl LA.out.1 LA.out.2.1 LA.out.2.2).mono ?_
  rintro e w7 ⟨r7, rfl, hr7, b7⟩
  obtain rfl := hr7 rfl
  have M7 := Lib.hid (M5.out.next b7)
  have NR7 := Lib.hid (NR5.out.kept b7)
  have PR7 := Lib.hid (PR.out.kept b7)
  have QR7 := Lib.hid (QR5.out.kept b7)
  have SR7 := Lib.hid (SR.out.kept b7)
  clear b7 hr7 x0 x1 x2 x3 y0 y1 y2 y3 M5 NR5 PR QR5 SR NL5 PL QL5 SL
  obtain ⟨x0, x1, x2, x3⟩ := QR7.out.cells
  obtain ⟨y0, y1, y2, y3⟩ := SR7.out.cells
  go_wp2_with fail
  refine (nsame_any R.leaf A5 n5 c5 B5 m5 d5 C5 k5 e5 R R.leaf A7 n7 c7 B7 m7 d7 C7 k7 e7 R w7 NR7.out PR7.out rfl rfl LB.out.1 LB.out.2.1 LB.out.2.2).mono ?_
  rintro e w8 ⟨r8, rfl, hr8, b8⟩
  obtain rfl := hr8 rfl
  have M8 := Lib.hid (M7.out.next b8)
  clear b8 hr8 x0 x1 x2 x3 y0 y1 y2 y3
  have q1 : (kk.toList == kk.toList) = true := beq_self_eq_true _
  have q2 : (er == er) = true := beq_self_eq_true _
  go_wp2_with fail
  go_ret
  exact ⟨rfl, M8.out.below⟩

set_option maxRecDepth 100000 in
theorem lifted (os : Os) (started : os.Started) (H : Type) (enc : TypeId × Value → H) :
    ReturnsInHanded {} Try.checked os 5 .any (Rows.cellSplitsSpec.pre6 enc Try.prog Try.f5 Rows.cellSplitsRow.domain false)
      (Rows.cellSplitsSpec.post enc Try.prog Try.f5 false true false false) := by
  refine lift_law (C := Try.checked) (tb := 4) ownKnobs started (by kernel_rfl) Try.func5
    (ChangeSpec.witness6 (enc := enc) (C := Try.checked) false ⟨#[], #[.agg #[.bool false, .slice none 0 0, .slice none 0 0, .slice none 0 0]], []⟩ 8 (by kernel_rfl) (by kernel_rfl) (by kernel_rfl) (by kernel_rfl))
    laidOut ?_ rfl rfl Try.underlying4 ?_ ?_
  · intro t ht
    rw [Try.params5] at ht
    simp only [List.mem_cons, List.not_mem_nil, or_false] at ht
    subst ht
    exact ⟨by kernel_rfl, of_decide_eq_true (by kernel_rfl)⟩
  · intro vs ds W p hA
    rw [Try.params5] at hA
    obtain ⟨v0, vs0, d0, ds0, p0, q0, ha, rfl, rfl, h0, r0⟩ := trodAll_cons hA
    obtain ⟨rfl, rfl, rfl⟩ := trodAll_nil r0
    rfl
  · intro W base args ds p hval hA
    rw [Try.params5] at hA hval
    obtain ⟨v0, vs0, d0, ds0, p0, q0, ha, rfl, rfl, h0, r0⟩ := trodAll_cons hA
    obtain ⟨rfl, rfl, rfl⟩ := trodAll_nil r0
    obtain rfl : args = #[v0] := by cases args; simp_all
    obtain ⟨s0, A0, n0, c0, B0, m0, d0, C0, k0, e0, rfl, hs0, _⟩ := open_node (hval 0 _ v0 rfl rfl) h0
    exact walk s0 A0 n0 c0 B0 m0 d0 C0 k0 e0 hs0

/-- The statement. -/
theorem proved : Rows.CellSplitsSaid :=
  OpenClaim.holds_of_wide 5 Try.f5 rfl rfl rfl rfl rfl rfl rfl ⟨rfl, rfl, rfl, rfl, rfl⟩ rfl rfl rfl rfl rfl (by kernel_rfl) Try.func5 (by kernel_rfl)
    (of_decide_eq_true (by kernel_rfl)) (by unfold Func.isWrapper; first | (rw [if_pos (by decide +kernel)]; kernel_rfl) | (rw [if_neg (by decide +kernel)]; exact ⟨rfl, rfl⟩))
    (fun os started H enc _ => lifted os started H enc)
#print axioms proved
end Go.Proofs.Ytcdfjaldnelfjaa.cellSplits
