/-
  CellBack answers true, whatever node: what is split is joined as it was, both parts may be, and all keys of the first part are before the one between, and all of the second part not. Conditions: none.
-/
import Derived.Test.YtcdfjaldnelfjaaRows
import Derived.Test.YtcdfjaldnelfjaaEAwake
import Derived.Test.YtcdfjaldnelfjaaEMid
import Derived.Test.YtcdfjaldnelfjaaESplit
import Derived.Test.YtcdfjaldnelfjaaEJoin
import Derived.Test.YtcdfjaldnelfjaaELen
import Derived.Deep.RegionHeld3
namespace Go.Proofs.Ytcdfjaldnelfjaa.cellBack
open Go.ChangeShapes Go.WideShapes Go.ChangeAt Go.RowKit

set_option maxRecDepth 20000 in
set_option maxHeartbeats 12800000 in
theorem walk {W : World} (s : ND) (A : Option Addr) (n c : Nat) (B : Option Addr) (m d : Nat) (C : Option Addr) (k ec : Nat) (hs : Nd W A n c B m d C k ec s) :
    Calls Try.prog 7 #[.agg #[.bool s.leaf, .slice A n c, .slice B m d, .slice C k ec]] W fun e w' => e = .returned (.bool true) ∧ Below W.heap.size W w' := by
  have b0 := below_one W (.cells #[.bool s.leaf, .slice A n c, .slice B m d, .slice C k ec] 25)
  have M0 : Hid (Mid W (W.alloc (.cells #[.bool s.leaf, .slice A n c, .slice B m d, .slice C k ec] 25)) s A n c B m d C k ec) := Lib.hid ⟨nbox_new W _ _ _ _, hs.kept b0, b0⟩
  clear hs b0
  go_enter Try.func7, Try.ntmps7
  go_upto_region 1 with fail
  generalize W.alloc (.cells #[.bool s.leaf, .slice A n c, .slice B m d, .slice C k ec] 25) = w0 at *
  go_wp2_with fail
  refine (awake_any _).mono ?_
  rintro e w1 ⟨rfl, b1⟩
  have M1 := Lib.hid (M0.out.next b1)
  obtain ⟨c0, c1, c2, c3⟩ := M1.out.box.cells
  clear b1 M0
  go_wp2_with fail
  refine (may_any _ A n c B m d C k ec s w1 M1.out.nd rfl).mono ?_
  rintro e w2 ⟨r, rfl, hr, b2⟩
  have M2 := Lib.hid (M1.out.next b2)
  have HR := Lib.hid hr
  clear b2 hr c0 c1 c2 c3 M1
  obtain ⟨c0, c1, c2, c3⟩ := M2.out.box.cells
  cases r with
  | false =>
    go_wp2_with fail
    go_ret
    exact ⟨rfl, M2.out.below⟩
  | true =>
  obtain ⟨hsm, hok⟩ := HR.out rfl
  have h1 : n ≤ 300 := by rw [← M2.out.nd.kn]; exact hsm.1
  have h2 : m ≤ 300 := by rw [← M2.out.nd.vn]; exact hsm.2.1
  have h3 : k ≤ 300 := by rw [← M2.out.nd.cn]; exact hsm.2.2.1
  have HO := Lib.hid hok
  have HSM := Lib.hid hsm
  have HSZ := Lib.hid hsm.size
  clear hsm hok HR
  go_wp2_with fail
  refine (split_any s.leaf A n c B m d C k ec s w2 M2.out.nd rfl HO.out (by have := HSZ.out; omega) (small_ents HSM.out HO.out)).mono ?_
  rintro e w3 ⟨v, u, rfl, hv, hu, b3⟩
  by_cases hs : s.keys.length < 2 + s.gone
  case pos =>
    obtain ⟨e1, e2, e3, e4⟩ := ND.split_no hs
    rw [e1]
    rw [e2] at hv
    rw [e3] at hu
    obtain ⟨A4, n4, c4, B4, m4, d4, C4, k4, e4, rfl, nv, _⟩ := hv
    obtain ⟨A5, n5, c5, B5, m5, d5, C5, k5, e5, rfl, nu, _⟩ := hu
    have bx := chainN (below_two w3 (.cells #[.bool ND.zero.leaf, .slice A4 n4 c4, .slice B4 m4 d4, .slice C4 k4 e4] 25) (.cells #[.bool ND.zero.leaf, .slice A5 n5 c5, .slice B5 m5 d5, .slice C5 k5 e5] 25)) b3
    have M3 := Lib.hid (M2.out.next bx)
    have hn3 : n < 3 := by rw [← M2.out.nd.kn]; unfold ND.gone at hs; split at hs <;> omega
    clear hs e1 e2 e3 bx b3 M2 nv nu c0 c1 c2 c3
    go_upto_region 5 with fail
    generalize (w3.alloc (.cells #[.bool ND.zero.leaf, .slice A4 n4 c4, .slice B4 m4 d4, .slice C4 k4 e4] 25)).alloc (.cells #[.bool ND.zero.leaf, .slice A5 n5 c5, .slice B5 m5 d5, .slice C5 k5 e5] 25) = w4 at *
    obtain ⟨c0, c1, c2, c3⟩ := M3.out.box.cells
    have hd3 : decide ((n : Int) < 3) = true := decide_eq_true (by omega)
    go_wp2_with fail
    go_ret
    exact ⟨rfl, M3.out.below⟩
  case neg =>
  have HE := Lib.hid (ND.split_yes hs).1
  have HJ := Lib.hid (ND.split_join HO.out hs)
  have HOL := Lib.hid (ND.split_okL HO.out hs)
  have HOR := Lib.hid (ND.split_okR HO.out hs)
  have HLA := Lib.hid (ND.split_last HO.out hs)
  have HFI := Lib.hid (ND.split_first HO.out hs)
  have HLE := Lib.hid (ND.split_leafs hs)
  rw [HE.out]
  clear hs HE
  obtain ⟨L, hL⟩ : ∃ L, s.splitL = L := ⟨_, rfl⟩
  obtain ⟨R, hR⟩ : ∃ R, s.splitR = R := ⟨_, rfl⟩
  obtain ⟨kk, hkk⟩ : ∃ kk, tb s.splitK = kk := ⟨_, rfl⟩
  have hk9 : s.splitK = kk.toList := by rw [← hkk, tb_list]
  have HLL := Lib.hid (show Len L 300 by rw [← hL]; exact (Len.of_small HSM.out).splitL)
  have HLR := Lib.hid (show Len R 300 by rw [← hR]; exact (Len.of_small HSM.out).splitR)
  rw [hL] at hv HJ HOL HLA HLE
  rw [hR] at hu HJ HOR HFI HLE
  rw [hk9] at HJ HLA HFI
  rw [hkk]
  clear hL hR hkk hk9
  obtain ⟨A4, n4, c4, B4, m4, d4, C4, k4, e4, rfl, nv, _⟩ := hv
  obtain ⟨A5, n5, c5, B5, m5, d5, C5, k5, e5, rfl, nu, _⟩ := hu
  have bx := chainN (below_two w3 (.cells #[.bool L.leaf, .slice A4 n4 c4, .slice B4 m4 d4, .slice C4 k4 e4] 25) (.cells #[.bool R.leaf, .slice A5 n5 c5, .slice B5 m5 d5, .slice C5 k5 e5] 25)) b3
  have NL := Lib.hid (nv.kept (below_two w3 (.cells #[.bool L.leaf, .slice A4 n4 c4, .slice B4 m4 d4, .slice C4 k4 e4] 25) (.cells #[.bool R.leaf, .slice A5 n5 c5, .slice B5 m5 d5, .slice C5 k5 e5] 25)))
  have NR := Lib.hid (nu.kept (below_two w3 (.cells #[.bool L.leaf, .slice A4 n4 c4, .slice B4 m4 d4, .slice C4 k4 e4] 25) (.cells #[.bool R.leaf, .slice A5 n5 c5, .slice B5 m5 d5, .slice C5 k5 e5] 25)))
  obtain ⟨hx1, hx2⟩ := nbox_two w3 (.bool L.leaf) (.slice A4 n4 c4) (.slice B4 m4 d4) (.slice C4 k4 e4) (.bool R.leaf) (.slice A5 n5 c5) (.slice B5 m5 d5) (.slice C5 k5 e5)
  have QL := Lib.hid hx1
  have QR := Lib.hid hx2
  have M3 := Lib.hid (M2.out.next bx)
  have l4 : n4 ≤ 300 ∧ m4 ≤ 300 ∧ k4 ≤ 300 := by have h := HLL.out; rw [← NL.out.kn, ← NL.out.vn, ← NL.out.cn]; exact h
  have l5 : n5 ≤ 300 ∧ m5 ≤ 300 ∧ k5 ≤ 300 := by have h := HLR.out; rw [← NR.out.kn, ← NR.out.vn, ← NR.out.cn]; exact h
  obtain ⟨l41, l42, l43⟩ := l4
  obtain ⟨l51, l52, l53⟩ := l5
  have p4 : 0 < n4 := by rw [← NL.out.kn]; exact HLA.out.1
  have p5 : 0 < n5 := by rw [← NR.out.kn]; exact HFI.out.1
  clear b3 bx nv nu hx1 hx2 M2 c0 c1 c2 c3
  go_upto_region 5 with fail
  generalize (w3.alloc (.cells #[.bool L.leaf, .slice A4 n4 c4, .slice B4 m4 d4, .slice C4 k4 e4] 25)).alloc (.cells #[.bool R.leaf, .slice A5 n5 c5, .slice B5 m5 d5, .slice C5 k5 e5] 25) = w4 at *
  generalize w3.heap.size + 1 = gr at *
  generalize w3.heap.size = gl at *
  have KK : Hid (∀ X : World, Below w4.heap.size w4 X → (X.cell? ⟨W.heap.size, 0, none⟩ = some (.bool s.leaf) ∧ X.cell? ⟨W.heap.size, 1, none⟩ = some (.slice A n c) ∧ X.cell? ⟨W.heap.size, 2, none⟩ = some (.slice B m d) ∧ X.cell? ⟨W.heap.size, 3, none⟩ = some (.slice C k ec)) ∧
      (X.cell? ⟨gl, 0, none⟩ = some (.bool L.leaf) ∧ X.cell? ⟨gl, 1, none⟩ = some (.slice A4 n4 c4) ∧ X.cell? ⟨gl, 2, none⟩ = some (.slice B4 m4 d4) ∧ X.cell? ⟨gl, 3, none⟩ = some (.slice C4 k4 e4)) ∧
      (X.cell? ⟨gr, 0, none⟩ = some (.bool R.leaf) ∧ X.cell? ⟨gr, 1, none⟩ = some (.slice A5 n5 c5) ∧ X.cell? ⟨gr, 2, none⟩ = some (.slice B5 m5 d5) ∧ X.cell? ⟨gr, 3, none⟩ = some (.slice C5 k5 e5))) := Lib.hid (fun X hb => ⟨(M3.out.box.kept hb).cells, (QL.out.kept hb).cells, (QR.out.kept hb).cells⟩)
  have BD := Lib.hid ((Below.refl w4.heap.size w4).drew)
  have HJN := Lib.hid (show Len (L.join kk.toList R) 300 by rw [HJ.out]; exact Len.of_small HSM.out)
  go_wp2_with fail
  go_region_held3 (fun X => (X.cell? ⟨W.heap.size, 0, none⟩ = some (.bool s.leaf) ∧ X.cell? ⟨W.heap.size, 1, none⟩ = some (.slice A n c) ∧ X.cell? ⟨W.heap.size, 2, none⟩ = some (.slice B m d) ∧ X.cell? ⟨W.heap.size, 3, none⟩ = some (.slice C k ec)) ∧
      (X.cell? ⟨gl, 0, none⟩ = some (.bool L.leaf) ∧ X.cell? ⟨gl, 1, none⟩ = some (.slice A4 n4 c4) ∧ X.cell? ⟨gl, 2, none⟩ = some (.slice B4 m4 d4) ∧ X.cell? ⟨gl, 3, none⟩ = some (.slice C4 k4 e4)) ∧
      (X.cell? ⟨gr, 0, none⟩ = some (.bool R.leaf) ∧ X.cell? ⟨gr, 1, none⟩ = some (.slice A5 n5 c5) ∧ X.cell? ⟨gr, 2, none⟩ = some (.slice B5 m5 d5) ∧ X.cell? ⟨gr, 3, none⟩ = some (.slice C5 k5 e5)))
    (first | exact KK.out _ BB2.out | exact KK.out _ BB1.out | exact KK.out _ BD.out)
    (first
      | (go_at_call 30; (with_reducible refine (join_any L.leaf A4 n4 c4 B4 m4 d4 C4 k4 e4 L R.leaf A5 n5 c5 B5 m5 d5 C5 k5 e5 R kk _ (NL.out.kept BD.out) (NR.out.kept BD.out) rfl (by omega) (by omega) (by omega) (by omega) (by omega) (by omega)).mono ?_); rintro e1 wa ⟨v, rfl, hv, ba⟩; obtain ⟨A7, n7, c7, B7, m7, d7, C7, k7, e7, rfl, n7', _⟩ := hv; have l7 := Lib.hid (show n7 ≤ 1000000 ∧ m7 ≤ 1000000 ∧ k7 ≤ 1000000 by have h := HJN.out; rw [← n7'.kn, ← n7'.vn, ← n7'.cn]; exact ⟨by have := h.1; omega, by have := h.2.1; omega, by have := h.2.2; omega⟩); have N7 := Lib.hid n7'; have BB1 := Lib.hid (chainN ba BD.out); clear ba n7')
      | (go_at_call 23; (with_reducible refine (nsame_any _ A7 n7 c7 B7 m7 d7 C7 k7 e7 (L.join kk.toList R) s.leaf A n c B m d C k ec s _ N7.out (M3.out.nd.kept BB1.out) rfl rfl l7.out.1 l7.out.2.1 l7.out.2.2).mono ?_); rintro e1 wd ⟨r9, rfl, hr9, bd⟩; obtain rfl := hr9 HJ.out; have BB2 := Lib.hid (chainN bd BB1.out); clear bd hr9)
      | fail)
  have M5 := Lib.hid (M3.out.next BB2.out)
  have NL5 := Lib.hid (NL.out.kept BB2.out)
  have NR5 := Lib.hid (NR.out.kept BB2.out)
  have QL5 := Lib.hid (QL.out.kept BB2.out)
  have QR5 := Lib.hid (QR.out.kept BB2.out)
  clear KK BD BB1 BB2 N7 M3 NL NR QL QR l7
  obtain ⟨x0, x1, x2, x3⟩ := QL5.out.cells
  go_wp2_with fail
  refine (ncheck_any L.leaf A4 n4 c4 B4 m4 d4 C4 k4 e4 L _ NL5.out rfl (by omega) (by omega) (by omega)).mono ?_
  rintro e w6 ⟨rfl, b6⟩
  rw [echeck_good HOL.out]
  have M6 := Lib.hid (M5.out.next b6)
  have NL6 := Lib.hid (NL5.out.kept b6)
  have NR6 := Lib.hid (NR5.out.kept b6)
  have QL6 := Lib.hid (QL5.out.kept b6)
  have QR6 := Lib.hid (QR5.out.kept b6)
  clear b6 x0 x1 x2 x3 M5 NL5 NR5 QL5 QR5
  obtain ⟨y0, y1, y2, y3⟩ := QR6.out.cells
  go_wp2_with fail
  refine (ncheck_any R.leaf A5 n5 c5 B5 m5 d5 C5 k5 e5 R _ NR6.out rfl (by omega) (by omega) (by omega)).mono ?_
  rintro e w7 ⟨rfl, b7⟩
  rw [echeck_good HOR.out]
  have M7 := Lib.hid (M6.out.next b7)
  have NL7 := Lib.hid (NL6.out.kept b7)
  have NR7 := Lib.hid (NR6.out.kept b7)
  have QL7 := Lib.hid (QL6.out.kept b7)
  have QR7 := Lib.hid (QR6.out.kept b7)
  clear b7 y0 y1 y2 y3 M6 NL6 NR6 QL6 QR6
  obtain ⟨c0, c1, c2, c3⟩ := M7.out.box.cells
  obtain ⟨x0, x1, x2, x3⟩ := QL7.out.cells
  obtain ⟨y0, y1, y2, y3⟩ := QR7.out.cells
  obtain ⟨b, off, t, rfl, hv, ct⟩ := NL7.out.ke.strAt (show n4 - 1 < n4 by omega)
  obtain ⟨b', off', t', rfl, hv', ct'⟩ := NR7.out.ke.strAt (show 0 < n5 by omega)
  have f1 := HLA.out.2 _ (by rw [NL7.out.kn]; exact hv)
  have f2 := HFI.out.2 _ hv'
  have g1 : ((n4 : Int) == 0) = false := by rw [beq_eq_false_iff_ne]; omega
  have g2 : ((n5 : Int) == 0) = false := by rw [beq_eq_false_iff_ne]; omega
  have i1 : (0 : Int) ≤ (n4 : Int) - 1 := by omega
  have i2 : ((n4 : Int) - 1).toNat = n4 - 1 := by omega
  have i3 : (n4 : Int) - 1 < n4 := by omega
  have i4 : n4 - 1 < n4 := by omega
  have i5 : (0 : Int) < (n5 : Int) := by omega
  rw [Nat.add_zero] at ct'
  rw [HLE.out.1] at x0
  rw [HLE.out.2] at y0
  have q1 : (s.leaf == s.leaf) = true := beq_self_eq_true _
  generalize s.leaf = lf at *
  clear hv hv'
  go_wp2_with fail
  go_ret
  exact ⟨rfl, M7.out.below⟩

set_option maxRecDepth 100000 in
theorem lifted (os : Os) (started : os.Started) (H : Type) (enc : TypeId × Value → H) :
    ReturnsInHanded {} Try.checked os 7 .any (Rows.cellBackSpec.pre6 enc Try.prog Try.f7 Rows.cellBackRow.domain false)
      (Rows.cellBackSpec.post enc Try.prog Try.f7 false true false false) := by
  refine lift_law (C := Try.checked) (tb := 4) ownKnobs started (by kernel_rfl) Try.func7
    (ChangeSpec.witness6 (enc := enc) (C := Try.checked) false ⟨#[], #[.agg #[.bool false, .slice none 0 0, .slice none 0 0, .slice none 0 0]], []⟩ 8 (by kernel_rfl) (by kernel_rfl) (by kernel_rfl) (by kernel_rfl))
    laidOut ?_ rfl rfl Try.underlying4 ?_ ?_
  · intro t ht
    rw [Try.params7] at ht
    simp only [List.mem_cons, List.not_mem_nil, or_false] at ht
    subst ht
    exact ⟨by kernel_rfl, of_decide_eq_true (by kernel_rfl)⟩
  · intro vs ds W p hA
    rw [Try.params7] at hA
    obtain ⟨v0, vs0, d0, ds0, p0, q0, ha, rfl, rfl, h0, r0⟩ := trodAll_cons hA
    obtain ⟨rfl, rfl, rfl⟩ := trodAll_nil r0
    rfl
  · intro W base args ds p hval hA
    rw [Try.params7] at hA hval
    obtain ⟨v0, vs0, d0, ds0, p0, q0, ha, rfl, rfl, h0, r0⟩ := trodAll_cons hA
    obtain ⟨rfl, rfl, rfl⟩ := trodAll_nil r0
    obtain rfl : args = #[v0] := by cases args; simp_all
    obtain ⟨s0, A0, n0, c0, B0, m0, d0, C0, k0, e0, rfl, hs0, _⟩ := open_node (hval 0 _ v0 rfl rfl) h0
    exact walk s0 A0 n0 c0 B0 m0 d0 C0 k0 e0 hs0

/-- The statement. -/
theorem proved : Rows.CellBackSaid :=
  OpenClaim.holds_of_wide 7 Try.f7 rfl rfl rfl rfl rfl rfl rfl ⟨rfl, rfl, rfl, rfl, rfl⟩ rfl rfl rfl rfl rfl (by kernel_rfl) Try.func7 (by kernel_rfl)
    (of_decide_eq_true (by kernel_rfl)) (by unfold Func.isWrapper; first | (rw [if_pos (by decide +kernel)]; kernel_rfl) | (rw [if_neg (by decide +kernel)]; exact ⟨rfl, rfl⟩))
    (fun os started H enc _ => lifted os started H enc)
#print axioms proved
end Go.Proofs.Ytcdfjaldnelfjaa.cellBack
