/-
  CellPuts answers true, whatever leaf, key and value: a leaf with an entry laid, and one with an entry taken out, are what the document says. Conditions: none.
-/
import Derived.Test.YtcdfjaldnelfjaaRows
import Derived.Test.YtcdfjaldnelfjaaEAwake
import Derived.Test.YtcdfjaldnelfjaaEMid
import Derived.Test.YtcdfjaldnelfjaaERPut
import Derived.Test.YtcdfjaldnelfjaaELen
import Derived.Deep.RegionHeld3
namespace Go.Proofs.Ytcdfjaldnelfjaa.cellPuts
open Go.ChangeShapes Go.WideShapes Go.ChangeAt Go.RowKit

set_option maxRecDepth 20000 in
set_option maxHeartbeats 12800000 in
theorem walk {W : World} (s : ND) (A : Option Addr) (n c : Nat) (B : Option Addr) (m d : Nat) (C : Option Addr) (k ec : Nat) (hs : Nd W A n c B m d C k ec s) (x y : ByteArray) :
    Calls Try.prog 4 #[.agg #[.bool s.leaf, .slice A n c, .slice B m d, .slice C k ec], .string x, .string y] W fun e w' => e = .returned (.bool true) ∧ Below W.heap.size W w' := by
  have b0 := below_one W (.cells #[.bool s.leaf, .slice A n c, .slice B m d, .slice C k ec] 25)
  have M0 : Hid (Mid W (W.alloc (.cells #[.bool s.leaf, .slice A n c, .slice B m d, .slice C k ec] 25)) s A n c B m d C k ec) := Lib.hid ⟨nbox_new W _ _ _ _, hs.kept b0, b0⟩
  clear hs b0
  go_enter Try.func4, Try.ntmps4
  go_upto_region 1 with fail
  generalize W.alloc (.cells #[.bool s.leaf, .slice A n c, .slice B m d, .slice C k ec] 25) = w0 at *
  go_wp2_with fail
  refine (awake_any _).mono ?_
  rintro e w1 ⟨rfl, b1⟩
  have M1 := Lib.hid (M0.out.next b1)
  obtain ⟨c0, c1, c2, c3⟩ := M1.out.box.cells
  clear b1 M0
  go_wp2_with fail
  refine (may_any _ A n c B m d C k ec s w1 M1.out.nd rfl).mono ?_
  rintro e w2 ⟨r, rfl, hr, b2⟩
  have M2 := Lib.hid (M1.out.next b2)
  have HR := Lib.hid hr
  clear b2 hr c0 c1 c2 c3 M1
  obtain ⟨c0, c1, c2, c3⟩ := M2.out.box.cells
  cases r with
  | false =>
    go_wp2_with fail
    go_ret
    exact ⟨rfl, M2.out.below⟩
  | true =>
  obtain ⟨hsm, hok⟩ := HR.out rfl
  have h1 : n ≤ 300 := by rw [← M2.out.nd.kn]; exact hsm.1
  have h2 : m ≤ 300 := by rw [← M2.out.nd.vn]; exact hsm.2.1
  have h3 : k ≤ 300 := by rw [← M2.out.nd.cn]; exact hsm.2.2.1
  have HO := Lib.hid hok
  have HSM := Lib.hid hsm
  have HSZ := Lib.hid hsm.size
  clear hsm hok HR
  cases hl : s.leaf with
  | false =>
    rw [hl] at c0
    clear hl
    go_wp2_with fail
    go_ret
    exact ⟨rfl, M2.out.below⟩
  | true =>
  rw [hl] at c0
  have HL := Lib.hid hl
  clear hl
  obtain ⟨R, hR⟩ : ∃ R, s.remove x.toList = R := ⟨_, rfl⟩
  obtain ⟨P, hP⟩ : ∃ P, s.put x.toList y.toList = P := ⟨_, rfl⟩
  obtain ⟨q, hq⟩ : ∃ q, ND.isAt x.toList s.keys = q := ⟨_, rfl⟩
  have HLR := Lib.hid (show Len R 600 by rw [← hR]; exact (Len.of_small HSM.out).remove _)
  have HLP := Lib.hid (show Len P 601 by rw [← hP]; exact (Len.of_small HSM.out).put _ _)
  have HhR := Lib.hid hR
  have HhP := Lib.hid hP
  have HhQ := Lib.hid hq
  clear hR hP hq
  go_wp2_with fail
  refine (remove_any A n c B m d C k ec s x w2 M2.out.nd HL.out HO.out (by omega)).mono ?_
  rintro e w3 ⟨v, rfl, hv, b3⟩
  rw [HhR.out] at hv
  rw [HhQ.out]
  obtain ⟨A3, n3, c3', B3, m3, d3, C3, k3, e3, rfl, nv, _⟩ := hv
  have bx := chainN (below_one w3 (.cells #[.bool R.leaf, .slice A3 n3 c3', .slice B3 m3 d3, .slice C3 k3 e3] 25)) b3
  have N3 := Lib.hid (nv.kept (below_one w3 (.cells #[.bool R.leaf, .slice A3 n3 c3', .slice B3 m3 d3, .slice C3 k3 e3] 25)))
  have Q3 := Lib.hid (nbox_new w3 (.bool R.leaf) (.slice A3 n3 c3') (.slice B3 m3 d3) (.slice C3 k3 e3))
  have M3 := Lib.hid (M2.out.next bx)
  clear b3 bx nv M2 c0 c1 c2 c3
  go_upto_region 5 with fail
  generalize w3.alloc (.cells #[.bool R.leaf, .slice A3 n3 c3', .slice B3 m3 d3, .slice C3 k3 e3] 25) = w4 at *
  generalize w3.heap.size = g3 at *
  obtain ⟨c0, c1, c2, c3⟩ := M3.out.box.cells
  rw [HL.out] at c0
  go_wp2_with fail
  refine (rremove_any A n c B m d C k ec s x w4 M3.out.nd HL.out HO.out (by omega)).mono ?_
  rintro e w5 ⟨v, rfl, hv, b5⟩
  rw [HhR.out] at hv
  rw [HhQ.out]
  obtain ⟨A5, n5, c5', B5, m5, d5, C5, k5, e5, rfl, nv, _⟩ := hv
  have bx := chainN (below_one w5 (.cells #[.bool R.leaf, .slice A5 n5 c5', .slice B5 m5 d5, .slice C5 k5 e5] 25)) b5
  have N5 := Lib.hid (nv.kept (below_one w5 (.cells #[.bool R.leaf, .slice A5 n5 c5', .slice B5 m5 d5, .slice C5 k5 e5] 25)))
  have Q5 := Lib.hid (nbox_new w5 (.bool R.leaf) (.slice A5 n5 c5') (.slice B5 m5 d5) (.slice C5 k5 e5))
  have M5 := Lib.hid (M3.out.next bx)
  have N3' := Lib.hid (N3.out.kept bx)
  have Q3' := Lib.hid (Q3.out.kept bx)
  clear b5 bx nv M3 c0 c1 c2 c3 N3 Q3
  go_upto_region 6 with fail
  generalize w5.alloc (.cells #[.bool R.leaf, .slice A5 n5 c5', .slice B5 m5 d5, .slice C5 k5 e5] 25) = w6 at *
  generalize w5.heap.size = g5 at *
  have KL : Hid (∀ X : World, Below w6.heap.size w6 X → Nd X A n c B m d C k ec s) := Lib.hid (fun X hb => M5.out.nd.kept hb)
  have KK : Hid (∀ X : World, Below w6.heap.size w6 X → X.cell? ⟨W.heap.size, 0, none⟩ = some (.bool true) ∧ X.cell? ⟨W.heap.size, 1, none⟩ = some (.slice A n c) ∧ X.cell? ⟨W.heap.size, 2, none⟩ = some (.slice B m d) ∧ X.cell? ⟨W.heap.size, 3, none⟩ = some (.slice C k ec)) := Lib.hid (fun X hb => by
    have h := (M5.out.box.kept hb).cells
    rw [HL.out] at h
    exact h)
  have BD := Lib.hid ((Below.refl w6.heap.size w6).drew)
  have HN := Lib.hid (show n ≤ 300000 by omega)
  go_wp2_with fail
  go_region_held3 (fun X => X.cell? ⟨W.heap.size, 0, none⟩ = some (.bool true) ∧ X.cell? ⟨W.heap.size, 1, none⟩ = some (.slice A n c) ∧ X.cell? ⟨W.heap.size, 2, none⟩ = some (.slice B m d) ∧ X.cell? ⟨W.heap.size, 3, none⟩ = some (.slice C k ec))
    (first | exact KK.out _ BB3.out | exact KK.out _ B2.out | exact KK.out _ B1.out | exact KK.out _ BD.out)
    (first
      | (go_at_call 24; (with_reducible refine (put_any true A n c B m d C k ec s x y _ (KL.out _ BD.out) HL.out HO.out rfl HN.out).mono ?_); rintro e1 wa ⟨v, rfl, hv, ba⟩; rw [HhP.out] at hv; obtain ⟨A7, n7, c7, B7, m7, d7, C7, k7, e7, rfl, n7', _⟩ := hv; have N7 := Lib.hid n7'; have B1 := Lib.hid (chainN ba BD.out); clear ba n7')
      | (go_at_call 25; (with_reducible refine (rput_any A n c B m d C k ec s x y _ (KL.out _ B1.out) HL.out HO.out HN.out).mono ?_); rintro e1 wb ⟨v, rfl, hv, bb⟩; rw [HhP.out] at hv; obtain ⟨A8, n8, c8, B8, m8, d8, C8, k8, e8, rfl, n8', _⟩ := hv; have N8 := Lib.hid n8'; have N7' := Lib.hid (N7.out.kept bb); have B2 := Lib.hid (chainN bb B1.out); have l7 := Lib.hid (show n7 ≤ 1000000 ∧ m7 ≤ 1000000 ∧ k7 ≤ 1000000 by have h := HLP.out; rw [← N7.out.kn, ← N7.out.vn, ← N7.out.cn]; exact ⟨by have := h.1; omega, by have := h.2.1; omega, by have := h.2.2; omega⟩); clear bb n8')
      | (go_at_call 23; (with_reducible refine (nsame_any P.leaf A7 n7 c7 B7 m7 d7 C7 k7 e7 P P.leaf A8 n8 c8 B8 m8 d8 C8 k8 e8 P _ N7'.out N8.out rfl rfl l7.out.1 l7.out.2.1 l7.out.2.2).mono ?_); rintro e1 wd ⟨r9, rfl, hr9, bd⟩; obtain rfl := hr9 rfl; have BB3 := Lib.hid (chainN bd B2.out); clear bd hr9)
      | fail)
  have M9 := Lib.hid (M5.out.next BB3.out)
  have N39 := Lib.hid (N3'.out.kept BB3.out)
  have N59 := Lib.hid (N5.out.kept BB3.out)
  obtain ⟨x0, x1, x2, x3⟩ := (Q3'.out.kept BB3.out).cells
  obtain ⟨y0, y1, y2, y3⟩ := (Q5.out.kept BB3.out).cells
  have l3 := Lib.hid (show n3 ≤ 1000000 ∧ m3 ≤ 1000000 ∧ k3 ≤ 1000000 by have h := HLR.out; rw [← N39.out.kn, ← N39.out.vn, ← N39.out.cn]; exact ⟨by have := h.1; omega, by have := h.2.1; omega, by have := h.2.2; omega⟩)
  clear M5 KL KK BD B1 B2 BB3 N3' N5 Q3' Q5 N7 N8 N7'
  go_wp2_with fail
  refine (nsame_any R.leaf A3 n3 c3' B3 m3 d3 C3 k3 e3 R R.leaf A5 n5 c5' B5 m5 d5 C5 k5 e5 R _ N39.out N59.out rfl rfl l3.out.1 l3.out.2.1 l3.out.2.2).mono ?_
  rintro e w10 ⟨r10, rfl, hr10, b10⟩
  obtain rfl := hr10 rfl
  have M10 := Lib.hid (M9.out.next b10)
  clear b10 hr10 x0 x1 x2 x3 y0 y1 y2 y3
  have q2 : (q == q) = true := beq_self_eq_true _
  go_wp2_with fail
  go_ret
  exact ⟨rfl, M10.out.below⟩

set_option maxRecDepth 100000 in
theorem lifted (os : Os) (started : os.Started) (H : Type) (enc : TypeId × Value → H) :
    ReturnsInHanded {} Try.checked os 4 .any (Rows.cellPutsSpec.pre6 enc Try.prog Try.f4 Rows.cellPutsRow.domain false)
      (Rows.cellPutsSpec.post enc Try.prog Try.f4 false true false false) := by
  refine lift_law (C := Try.checked) (tb := 4) ownKnobs started (by kernel_rfl) Try.func4
    (ChangeSpec.witness6 (enc := enc) (C := Try.checked) false ⟨#[], #[.agg #[.bool false, .slice none 0 0, .slice none 0 0, .slice none 0 0], .string ⟨#[]⟩, .string ⟨#[]⟩], []⟩ 8 (by kernel_rfl) (by kernel_rfl) (by kernel_rfl) (by kernel_rfl))
    laidOut ?_ rfl rfl Try.underlying4 ?_ ?_
  · intro t ht
    rw [Try.params4] at ht
    simp only [List.mem_cons, List.not_mem_nil, or_false] at ht
    rcases ht with rfl | rfl | rfl <;> exact ⟨by kernel_rfl, of_decide_eq_true (by kernel_rfl)⟩
  · intro vs ds W p hA
    rw [Try.params4] at hA
    obtain ⟨v0, vs0, d0, ds0, p0, q0, ha, rfl, rfl, h0, r0⟩ := trodAll_cons hA
    obtain ⟨v1, vs1, d1, ds1, p1, q1, rfl, rfl, rfl, h1, r1⟩ := trodAll_cons r0
    obtain ⟨v2, vs2, d2, ds2, p2, q2, rfl, rfl, rfl, h2, r2⟩ := trodAll_cons r1
    obtain ⟨rfl, rfl, rfl⟩ := trodAll_nil r2
    rfl
  · intro W base args ds p hval hA
    rw [Try.params4] at hA hval
    obtain ⟨v0, vs0, d0, ds0, p0, q0, ha, rfl, rfl, h0, r0⟩ := trodAll_cons hA
    obtain ⟨v1, vs1, d1, ds1, p1, q1, rfl, rfl, rfl, h1, r1⟩ := trodAll_cons r0
    obtain ⟨v2, vs2, d2, ds2, p2, q2, rfl, rfl, rfl, h2, r2⟩ := trodAll_cons r1
    obtain ⟨rfl, rfl, rfl⟩ := trodAll_nil r2
    obtain rfl : args = #[v0, v1, v2] := by cases args; simp_all
    obtain ⟨s0, A0, n0, c0, B0, m0, d0, C0, k0, e0, rfl, hs0, _⟩ := open_node (hval 0 _ v0 rfl rfl) h0
    obtain ⟨t1, rfl⟩ := open_text (hval 1 _ v1 rfl rfl) h1
    obtain ⟨t2, rfl⟩ := open_text (hval 2 _ v2 rfl rfl) h2
    exact walk s0 A0 n0 c0 B0 m0 d0 C0 k0 e0 hs0 t1 t2

/-- The statement. -/
theorem proved : Rows.CellPutsSaid :=
  OpenClaim.holds_of_wide 4 Try.f4 rfl rfl rfl rfl rfl rfl rfl ⟨rfl, rfl, rfl, rfl, rfl⟩ rfl rfl rfl rfl rfl (by kernel_rfl) Try.func4 (by kernel_rfl)
    (of_decide_eq_true (by kernel_rfl)) (by unfold Func.isWrapper; first | (rw [if_pos (by decide +kernel)]; kernel_rfl) | (rw [if_neg (by decide +kernel)]; exact ⟨rfl, rfl⟩))
    (fun os started H enc _ => lifted os started H enc)
#print axioms proved
end Go.Proofs.Ytcdfjaldnelfjaa.cellPuts
