/-
  CellFinds answers true, whatever node and key: where a key stands, which kid leads to it, and whether a node has room, or should be joined, are what the document says. Conditions: none.
-/
import Derived.Test.YtcdfjaldnelfjaaRows
import Derived.Test.YtcdfjaldnelfjaaEAwake
import Derived.Test.YtcdfjaldnelfjaaEMid
import Derived.Test.YtcdfjaldnelfjaaERFind
import Derived.Test.YtcdfjaldnelfjaaERFits
import Derived.Deep.RegionHeld3
namespace Go.Proofs.Ytcdfjaldnelfjaa.cellFinds
open Go.ChangeShapes Go.WideShapes Go.ChangeAt Go.RowKit

set_option maxRecDepth 20000 in
set_option maxHeartbeats 12800000 in
theorem walk {W : World} (s : ND) (A : Option Addr) (n c : Nat) (B : Option Addr) (m d : Nat) (C : Option Addr) (k ec : Nat) (hs : Nd W A n c B m d C k ec s) (x : ByteArray) :
    Calls Try.prog 3 #[.agg #[.bool s.leaf, .slice A n c, .slice B m d, .slice C k ec], .string x] W fun e w' => e = .returned (.bool true) ∧ Below W.heap.size W w' := by
  have b0 := below_one W (.cells #[.bool s.leaf, .slice A n c, .slice B m d, .slice C k ec] 25)
  have M0 : Hid (Mid W (W.alloc (.cells #[.bool s.leaf, .slice A n c, .slice B m d, .slice C k ec] 25)) s A n c B m d C k ec) := Lib.hid ⟨nbox_new W _ _ _ _, hs.kept b0, b0⟩
  clear hs b0
  go_enter Try.func3, Try.ntmps3
  go_upto_region 1 with fail
  generalize W.alloc (.cells #[.bool s.leaf, .slice A n c, .slice B m d, .slice C k ec] 25) = w0 at *
  go_wp2_with fail
  refine (awake_any _).mono ?_
  rintro e w1 ⟨rfl, b1⟩
  have M1 := Lib.hid (M0.out.next b1)
  obtain ⟨c0, c1, c2, c3⟩ := M1.out.box.cells
  clear b1 M0
  go_wp2_with fail
  refine (may_any _ A n c B m d C k ec s w1 M1.out.nd rfl).mono ?_
  rintro e w2 ⟨r, rfl, hr, b2⟩
  have M2 := Lib.hid (M1.out.next b2)
  have HR := Lib.hid hr
  clear b2 hr c0 c1 c2 c3 M1
  obtain ⟨c0, c1, c2, c3⟩ := M2.out.box.cells
  cases r with
  | false =>
    go_wp2_with fail
    go_ret
    exact ⟨rfl, M2.out.below⟩
  | true =>
  obtain ⟨hsm, hok⟩ := HR.out rfl
  have h1 : n ≤ 300 := by rw [← M2.out.nd.kn]; exact hsm.1
  have h2 : m ≤ 300 := by rw [← M2.out.nd.vn]; exact hsm.2.1
  have h3 : k ≤ 300 := by rw [← M2.out.nd.cn]; exact hsm.2.2.1
  have HO := Lib.hid hok
  have HSM := Lib.hid hsm
  have HSZ := Lib.hid hsm.size
  clear hsm hok HR
  go_wp2_with fail
  refine (find_any s.leaf A n c B m d C k ec s x w2 M2.out.nd (ND.ok_rise HO.out) (by omega)).mono ?_
  rintro e w3 ⟨rfl, b3⟩
  have M3 := Lib.hid (M2.out.next b3)
  clear b3 c0 c1 c2 c3 M2
  obtain ⟨p, hp⟩ : ∃ p, ND.findN x.toList s.keys = p := ⟨_, rfl⟩
  obtain ⟨q, hq⟩ : ∃ q, ND.isAt x.toList s.keys = q := ⟨_, rfl⟩
  have HP := Lib.hid hp
  have HQ := Lib.hid hq
  rw [hp, hq]
  clear hp hq
  obtain ⟨c0, c1, c2, c3⟩ := M3.out.box.cells
  go_wp2_with fail
  refine (rfind_any s.leaf A n c B m d C k ec s x w3 M3.out.nd (by omega)).mono ?_
  rintro e w4 ⟨rfl, b4⟩
  rw [HP.out, HQ.out]
  have M4 := Lib.hid (M3.out.next b4)
  clear b4 c0 c1 c2 c3 M3
  have K1 := kid_any s.leaf A n c B m d C k ec s x
  have K2 := rkid_any s.leaf A n c B m d C k ec s x
  have K3 := fits_any s.leaf A n c B m d C k ec s
  have K4 := rfits_any s.leaf A n c B m d C k ec s
  have K5 := low_any s.leaf A n c B m d C k ec s
  have K6 := rlow_any s.leaf A n c B m d C k ec s
  generalize ND.kidN x.toList s.keys = y at K1 K2
  generalize decide (s.size ≤ 1000) = f1 at K3 K4
  generalize decide (s.size < 300) = f2 at K5 K6
  have H1 := Lib.hid K1
  have H2 := Lib.hid K2
  have H3 := Lib.hid K3
  have H4 := Lib.hid K4
  have H5 := Lib.hid K5
  have H6 := Lib.hid K6
  clear K1 K2 K3 K4 K5 K6
  have HN := Lib.hid (show n ≤ 1000000 by omega)
  have HZ := Lib.hid (show s.size ≤ 1000000000 by have := HSZ.out; omega)
  have q1 : ((p : Int) == (p : Int)) = true := beq_self_eq_true _
  have q2 : (q == q) = true := beq_self_eq_true _
  have q3 : ((y : Int) == (y : Int)) = true := beq_self_eq_true _
  have q4 : (f1 == f1) = true := beq_self_eq_true _
  have q5 : (f2 == f2) = true := beq_self_eq_true _
  have KL : Hid (∀ X : World, Below w4.heap.size w4 X → Nd X A n c B m d C k ec s) := Lib.hid (fun X hb => M4.out.nd.kept hb)
  have KK : Hid (∀ X : World, Below w4.heap.size w4 X → X.cell? ⟨W.heap.size, 0, none⟩ = some (.bool s.leaf) ∧ X.cell? ⟨W.heap.size, 1, none⟩ = some (.slice A n c) ∧ X.cell? ⟨W.heap.size, 2, none⟩ = some (.slice B m d) ∧ X.cell? ⟨W.heap.size, 3, none⟩ = some (.slice C k ec)) := Lib.hid (fun X hb => (M4.out.box.kept hb).cells)
  have BD := Lib.hid ((Below.refl w4.heap.size w4).drew)
  have BW := Lib.hid M4.out.below
  clear M4
  go_wp2_with fail
  go_region_held3 (fun X => X.cell? ⟨W.heap.size, 0, none⟩ = some (.bool s.leaf) ∧ X.cell? ⟨W.heap.size, 1, none⟩ = some (.slice A n c) ∧ X.cell? ⟨W.heap.size, 2, none⟩ = some (.slice B m d) ∧ X.cell? ⟨W.heap.size, 3, none⟩ = some (.slice C k ec))
    (first | exact KK.out _ B6.out | exact KK.out _ B5.out | exact KK.out _ B4.out | exact KK.out _ B3.out | exact KK.out _ B2.out | exact KK.out _ B1.out | exact KK.out _ BD.out)
    (first
      | (go_at_call 15; (with_reducible refine (H1.out _ (KL.out _ BD.out) (ND.ok_rise HO.out) HN.out).mono ?_); rintro e1 wa ⟨rfl, ba⟩; have B1 := Lib.hid (chainN ba BD.out); clear ba)
      | (go_at_call 16; (with_reducible refine (H2.out _ (KL.out _ B1.out) HN.out).mono ?_); rintro e1 wb ⟨rfl, bb⟩; have B2 := Lib.hid (chainN bb B1.out); clear bb)
      | (go_at_call 17; (with_reducible refine (H3.out _ (KL.out _ B2.out) HZ.out).mono ?_); rintro e1 wc ⟨rfl, bc⟩; have B3 := Lib.hid (chainN bc B2.out); clear bc)
      | (go_at_call 18; (with_reducible refine (H4.out _ (KL.out _ B3.out) HZ.out).mono ?_); rintro e1 wd ⟨rfl, bd⟩; have B4 := Lib.hid (chainN bd B3.out); clear bd)
      | (go_at_call 19; (with_reducible refine (H5.out _ (KL.out _ B4.out) HZ.out).mono ?_); rintro e1 we ⟨rfl, be⟩; have B5 := Lib.hid (chainN be B4.out); clear be)
      | (go_at_call 20; (with_reducible refine (H6.out _ (KL.out _ B5.out) HZ.out).mono ?_); rintro e1 wf ⟨rfl, bf⟩; have B6 := Lib.hid (chainN bf B5.out); clear bf)
      | fail)
  all_goals (
    have BE := Lib.hid (chainN B6.out BW.out)
    go_wp2_with fail
    go_ret
    exact ⟨rfl, BE.out⟩)

set_option maxRecDepth 100000 in
theorem lifted (os : Os) (started : os.Started) (H : Type) (enc : TypeId × Value → H) :
    ReturnsInHanded {} Try.checked os 3 .any (Rows.cellFindsSpec.pre6 enc Try.prog Try.f3 Rows.cellFindsRow.domain false)
      (Rows.cellFindsSpec.post enc Try.prog Try.f3 false true false false) := by
  refine lift_law (C := Try.checked) (tb := 4) ownKnobs started (by kernel_rfl) Try.func3
    (ChangeSpec.witness6 (enc := enc) (C := Try.checked) false ⟨#[], #[.agg #[.bool false, .slice none 0 0, .slice none 0 0, .slice none 0 0], .string ⟨#[]⟩], []⟩ 8 (by kernel_rfl) (by kernel_rfl) (by kernel_rfl) (by kernel_rfl))
    laidOut ?_ rfl rfl Try.underlying4 ?_ ?_
  · intro t ht
    rw [Try.params3] at ht
    simp only [List.mem_cons, List.not_mem_nil, or_false] at ht
    rcases ht with rfl | rfl <;> exact ⟨by kernel_rfl, of_decide_eq_true (by kernel_rfl)⟩
  · intro vs ds W p hA
    rw [Try.params3] at hA
    obtain ⟨v0, vs0, d0, ds0, p0, q0, ha, rfl, rfl, h0, r0⟩ := trodAll_cons hA
    obtain ⟨v1, vs1, d1, ds1, p1, q1, rfl, rfl, rfl, h1, r1⟩ := trodAll_cons r0
    obtain ⟨rfl, rfl, rfl⟩ := trodAll_nil r1
    rfl
  · intro W base args ds p hval hA
    rw [Try.params3] at hA hval
    obtain ⟨v0, vs0, d0, ds0, p0, q0, ha, rfl, rfl, h0, r0⟩ := trodAll_cons hA
    obtain ⟨v1, vs1, d1, ds1, p1, q1, rfl, rfl, rfl, h1, r1⟩ := trodAll_cons r0
    obtain ⟨rfl, rfl, rfl⟩ := trodAll_nil r1
    obtain rfl : args = #[v0, v1] := by cases args; simp_all
    obtain ⟨s0, A0, n0, c0, B0, m0, d0, C0, k0, e0, rfl, hs0, _⟩ := open_node (hval 0 _ v0 rfl rfl) h0
    obtain ⟨t1, rfl⟩ := open_text (hval 1 _ v1 rfl rfl) h1
    exact walk s0 A0 n0 c0 B0 m0 d0 C0 k0 e0 hs0 t1

/-- The statement. -/
theorem proved : Rows.CellFindsSaid :=
  OpenClaim.holds_of_wide 3 Try.f3 rfl rfl rfl rfl rfl rfl rfl ⟨rfl, rfl, rfl, rfl, rfl⟩ rfl rfl rfl rfl rfl (by kernel_rfl) Try.func3 (by kernel_rfl)
    (of_decide_eq_true (by kernel_rfl)) (by unfold Func.isWrapper; first | (rw [if_pos (by decide +kernel)]; kernel_rfl) | (rw [if_neg (by decide +kernel)]; exact ⟨rfl, rfl⟩))
    (fun os started H enc _ => lifted os started H enc)
#print axioms proved
end Go.Proofs.Ytcdfjaldnelfjaa.cellFinds
