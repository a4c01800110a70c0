/-
  CellReplaces answers true, whatever nodes, numbers, kids and keys: an inner node with other kids, and two nodes joined, are what the document says. Conditions: none.
-/
import Derived.Test.YtcdfjaldnelfjaaRows
import Derived.Test.YtcdfjaldnelfjaaEAwake
import Derived.Test.YtcdfjaldnelfjaaEMid
import Derived.Test.YtcdfjaldnelfjaaERRepl
import Derived.Test.YtcdfjaldnelfjaaERJoin
import Derived.Test.YtcdfjaldnelfjaaELen
import Derived.Test.YtcdfjaldnelfjaaELists
import Derived.Deep.RegionHeld3
namespace Go.Proofs.Ytcdfjaldnelfjaa.cellReplaces
open Go.ChangeShapes Go.WideShapes Go.ChangeAt Go.RowKit

set_option maxRecDepth 20000 in
set_option maxHeartbeats 12800000 in
theorem walk {W : World} (s : ND) (A : Option Addr) (n c : Nat) (B : Option Addr) (m d : Nat) (C : Option Addr) (k ec : Nat) (hs : Nd W A n c B m d C k ec s) (f : Int) (_ : -9223372036854775808 ≤ f) (_ : f ≤ 9223372036854775807) (g : Int) (_ : -9223372036854775808 ≤ g) (_ : g ≤ 9223372036854775807)
    (D : Option Addr) (q dq : Nat) (ks : List Int) (h1 : Ln W 1 D q dq (intVals ks)) (E : Option Addr) (p ep : Nat) (zs : List (List UInt8)) (h2 : Ln W 1 E p ep (strVals zs)) (t : ND) (A' : Option Addr) (n' c' : Nat) (B' : Option Addr) (m' d' : Nat) (C' : Option Addr) (k' e' : Nat) (ht : Nd W A' n' c' B' m' d' C' k' e' t) :
    Calls Try.prog 6 #[.agg #[.bool s.leaf, .slice A n c, .slice B m d, .slice C k ec], .int .i64 f, .int .i64 g, .slice D q dq, .slice E p ep, .agg #[.bool t.leaf, .slice A' n' c', .slice B' m' d', .slice C' k' e']] W fun e w' => e = .returned (.bool true) ∧ Below W.heap.size W w' := by
  obtain ⟨tb1, tb2⟩ := nbox_two W (.bool s.leaf) (.slice A n c) (.slice B m d) (.slice C k ec) (.bool t.leaf) (.slice A' n' c') (.slice B' m' d') (.slice C' k' e')
  have bb := below_two W (.cells #[.bool s.leaf, .slice A n c, .slice B m d, .slice C k ec] 25) (.cells #[.bool t.leaf, .slice A' n' c', .slice B' m' d', .slice C' k' e'] 25)
  have M0 : Hid (Mid W ((W.alloc (.cells #[.bool s.leaf, .slice A n c, .slice B m d, .slice C k ec] 25)).alloc (.cells #[.bool t.leaf, .slice A' n' c', .slice B' m' d', .slice C' k' e'] 25)) s A n c B m d C k ec) := Lib.hid ⟨tb1, hs.kept bb, bb⟩
  have T0 := Lib.hid (ht.kept bb)
  have U0 := Lib.hid tb2
  have D0 := Lib.hid (h1.kept bb)
  have E0 := Lib.hid (h2.kept bb)
  clear hs ht h1 h2 tb1 tb2 bb
  go_enter Try.func6, Try.ntmps6
  go_upto_region 1 with fail
  generalize (W.alloc (.cells #[.bool s.leaf, .slice A n c, .slice B m d, .slice C k ec] 25)).alloc (.cells #[.bool t.leaf, .slice A' n' c', .slice B' m' d', .slice C' k' e'] 25) = w0 at *
  generalize W.heap.size + 1 = g2 at *
  go_wp2_with fail
  refine (awake_any _).mono ?_
  rintro e w1 ⟨rfl, bz⟩
  have T0' := Lib.hid (T0.out.kept bz)
  have U0' := Lib.hid (U0.out.kept bz)
  have D0' := Lib.hid (D0.out.kept bz)
  have E0' := Lib.hid (E0.out.kept bz)
  have M0' := Lib.hid (M0.out.next bz)
  clear bz M0 T0 U0 D0 E0
  have T0 := T0'
  have U0 := U0'
  have D0 := D0'
  have E0 := E0'
  have M0 := M0'
  clear T0' U0' D0' E0' M0'
  obtain ⟨c0, c1, c2, c3⟩ := M0.out.box.cells
  go_wp2_with fail
  refine (may_any _ A n c B m d C k ec s w1 M0.out.nd rfl).mono ?_
  rintro e w2 ⟨r, rfl, hr, bz⟩
  have HR := Lib.hid hr
  clear hr c0 c1 c2 c3
  have T0' := Lib.hid (T0.out.kept bz)
  have U0' := Lib.hid (U0.out.kept bz)
  have D0' := Lib.hid (D0.out.kept bz)
  have E0' := Lib.hid (E0.out.kept bz)
  have M0' := Lib.hid (M0.out.next bz)
  clear bz M0 T0 U0 D0 E0
  have T0 := T0'
  have U0 := U0'
  have D0 := D0'
  have E0 := E0'
  have M0 := M0'
  clear T0' U0' D0' E0' M0'
  obtain ⟨c0, c1, c2, c3⟩ := M0.out.box.cells
  cases r with
  | false =>
    go_wp2_with fail
    go_ret
    exact ⟨rfl, M0.out.below⟩
  | true =>
  obtain ⟨hsm, hok⟩ := HR.out rfl
  have h1 : n ≤ 300 := by rw [← M0.out.nd.kn]; exact hsm.1
  have h2 : m ≤ 300 := by rw [← M0.out.nd.vn]; exact hsm.2.1
  have h3 : k ≤ 300 := by rw [← M0.out.nd.cn]; exact hsm.2.2.1
  have HO := Lib.hid hok
  have HSM := Lib.hid hsm
  clear hsm hok HR
  cases hl : s.leaf with
  | true =>
    rw [hl] at c0
    clear hl
    go_wp2_with fail
    go_ret
    exact ⟨rfl, M0.out.below⟩
  | false =>
  rw [hl] at c0
  have HL := Lib.hid hl
  clear hl
  by_cases h4 : q ≤ 10
  case neg =>
    have h4' : 10 < q := by omega
    clear h4
    go_wp2_with fail
    go_ret
    exact ⟨rfl, M0.out.below⟩
  by_cases h5 : p ≤ 10
  case neg =>
    have h5' : 10 < p := by omega
    clear h5
    go_wp2_with fail
    go_ret
    exact ⟨rfl, M0.out.below⟩
  obtain ⟨P, hP⟩ : ∃ P, s.replace f g ks zs = P := ⟨_, rfl⟩
  have HLP := Lib.hid (show Len P 610 by rw [← hP]; exact (Len.of_small HSM.out).replace _ _ _ _ (by rw [D0.out.intN]; exact h4) (by rw [E0.out.strN]; exact h5))
  have HhP := Lib.hid hP
  clear hP
  have KL : Hid (∀ X : World, Below w2.heap.size w2 X → Nd X A n c B m d C k ec s) := Lib.hid (fun X hb => M0.out.nd.kept hb)
  have KK : Hid (∀ X : World, Below w2.heap.size w2 X → X.cell? ⟨W.heap.size, 0, none⟩ = some (.bool false) ∧ X.cell? ⟨W.heap.size, 1, none⟩ = some (.slice A n c) ∧ X.cell? ⟨W.heap.size, 2, none⟩ = some (.slice B m d) ∧ X.cell? ⟨W.heap.size, 3, none⟩ = some (.slice C k ec)) := Lib.hid (fun X hb => by
    have h := (M0.out.box.kept hb).cells
    rw [HL.out] at h
    exact h)
  have BD := Lib.hid ((Below.refl w2.heap.size w2).drew)
  go_wp2_with fail
  go_region_held3 (fun X => X.cell? ⟨W.heap.size, 0, none⟩ = some (.bool false) ∧ X.cell? ⟨W.heap.size, 1, none⟩ = some (.slice A n c) ∧ X.cell? ⟨W.heap.size, 2, none⟩ = some (.slice B m d) ∧ X.cell? ⟨W.heap.size, 3, none⟩ = some (.slice C k ec))
    (first | exact KK.out _ BB3.out | exact KK.out _ BB2.out | exact KK.out _ BB1.out | exact KK.out _ BD.out)
    (first
      | (go_at_call 28; (with_reducible refine (replace_any A n c B m d C k ec s f g D q dq ks E p ep zs _ (KL.out _ BD.out) (D0.out.kept BD.out) (E0.out.kept BD.out) HL.out HO.out (by omega) h4 h5 (by omega) (by omega)).mono ?_); rintro e1 wa ⟨v, rfl, hv, ba⟩; rw [HhP.out] at hv; obtain ⟨A7, n7, c7, B7, m7, d7, C7, k7, e7, rfl, n7', _⟩ := hv; have N7 := Lib.hid n7'; have BB1 := Lib.hid (chainN ba BD.out); clear ba n7')
      | (go_at_call 29; (with_reducible refine (rreplace_any A n c B m d C k ec s f g D q dq ks E p ep zs _ (KL.out _ BB1.out) (D0.out.kept BB1.out) (E0.out.kept BB1.out) HL.out HO.out (by omega) h4 h5 (by omega)).mono ?_); rintro e1 wb ⟨v, rfl, hv, bb⟩; rw [HhP.out] at hv; obtain ⟨A8, n8, c8, B8, m8, d8, C8, k8, e8, rfl, n8', _⟩ := hv; have N8 := Lib.hid n8'; have N7' := Lib.hid (N7.out.kept bb); have BB2 := Lib.hid (chainN bb BB1.out); have l7 := Lib.hid (show n7 ≤ 1000000 ∧ m7 ≤ 1000000 ∧ k7 ≤ 1000000 by have h := HLP.out; rw [← N7.out.kn, ← N7.out.vn, ← N7.out.cn]; exact ⟨by have := h.1; omega, by have := h.2.1; omega, by have := h.2.2; omega⟩); clear bb n8')
      | (go_at_call 23; (with_reducible refine (nsame_any P.leaf A7 n7 c7 B7 m7 d7 C7 k7 e7 P P.leaf A8 n8 c8 B8 m8 d8 C8 k8 e8 P _ N7'.out N8.out rfl rfl l7.out.1 l7.out.2.1 l7.out.2.2).mono ?_); rintro e1 wd ⟨r9, rfl, hr9, bd⟩; obtain rfl := hr9 rfl; have BB3 := Lib.hid (chainN bd BB2.out); clear bd hr9)
      | fail)
  have bz := BB3.out
  clear KL KK BD BB1 BB2 BB3 N7 N8 N7' l7 c0 c1 c2 c3
  have T0' := Lib.hid (T0.out.kept bz)
  have U0' := Lib.hid (U0.out.kept bz)
  have D0' := Lib.hid (D0.out.kept bz)
  have E0' := Lib.hid (E0.out.kept bz)
  have M0' := Lib.hid (M0.out.next bz)
  clear bz M0 T0 U0 D0 E0
  have T0 := T0'
  have U0 := U0'
  have D0 := D0'
  have E0 := E0'
  have M0 := M0'
  clear T0' U0' D0' E0' M0'
  obtain ⟨x0, x1, x2, x3⟩ := U0.out.cells
  go_wp2_with fail
  refine (may_any _ A' n' c' B' m' d' C' k' e' t _ T0.out rfl).mono ?_
  rintro e w6 ⟨r, rfl, hr, bz⟩
  have HR := Lib.hid hr
  clear hr x0 x1 x2 x3
  have T0' := Lib.hid (T0.out.kept bz)
  have U0' := Lib.hid (U0.out.kept bz)
  have D0' := Lib.hid (D0.out.kept bz)
  have E0' := Lib.hid (E0.out.kept bz)
  have M0' := Lib.hid (M0.out.next bz)
  clear bz M0 T0 U0 D0 E0
  have T0 := T0'
  have U0 := U0'
  have D0 := D0'
  have E0 := E0'
  have M0 := M0'
  clear T0' U0' D0' E0' M0'
  obtain ⟨x0, x1, x2, x3⟩ := U0.out.cells
  cases r with
  | false =>
    go_wp2_with fail
    go_ret
    exact ⟨rfl, M0.out.below⟩
  | true =>
  obtain ⟨hsm, hok⟩ := HR.out rfl
  have h6 : n' ≤ 300 := by rw [← T0.out.kn]; exact hsm.1
  have h7 : m' ≤ 300 := by rw [← T0.out.vn]; exact hsm.2.1
  have h8 : k' ≤ 300 := by rw [← T0.out.cn]; exact hsm.2.2.1
  have HTM := Lib.hid hsm
  clear hsm hok HR
  cases hl : t.leaf with
  | true =>
    rw [hl] at x0
    clear hl
    go_wp2_with fail
    go_ret
    exact ⟨rfl, M0.out.below⟩
  | false =>
  rw [hl] at x0
  have HTL := Lib.hid hl
  clear hl
  obtain ⟨J, hJ⟩ : ∃ J, s.join (ByteArray.toList ⟨#[109]⟩) t = J := ⟨_, rfl⟩
  have HLJ := Lib.hid (show Len J 601 by rw [← hJ]; exact (Len.of_small HSM.out).join (Len.of_small HTM.out) _)
  have HhJ := Lib.hid hJ
  clear hJ
  have KK : Hid (∀ X : World, Below w6.heap.size w6 X → (X.cell? ⟨W.heap.size, 0, none⟩ = some (.bool false) ∧ X.cell? ⟨W.heap.size, 1, none⟩ = some (.slice A n c) ∧ X.cell? ⟨W.heap.size, 2, none⟩ = some (.slice B m d) ∧ X.cell? ⟨W.heap.size, 3, none⟩ = some (.slice C k ec)) ∧ (X.cell? ⟨g2, 0, none⟩ = some (.bool false) ∧ X.cell? ⟨g2, 1, none⟩ = some (.slice A' n' c') ∧ X.cell? ⟨g2, 2, none⟩ = some (.slice B' m' d') ∧ X.cell? ⟨g2, 3, none⟩ = some (.slice C' k' e'))) := Lib.hid (fun X hb => by
    have h := (M0.out.box.kept hb).cells
    have h2 := (U0.out.kept hb).cells
    rw [HL.out] at h
    rw [HTL.out] at h2
    exact ⟨h, h2⟩)
  have BD := Lib.hid ((Below.refl w6.heap.size w6).drew)
  go_wp2_with fail
  go_region_held3 (fun X => (X.cell? ⟨W.heap.size, 0, none⟩ = some (.bool false) ∧ X.cell? ⟨W.heap.size, 1, none⟩ = some (.slice A n c) ∧ X.cell? ⟨W.heap.size, 2, none⟩ = some (.slice B m d) ∧ X.cell? ⟨W.heap.size, 3, none⟩ = some (.slice C k ec)) ∧ (X.cell? ⟨g2, 0, none⟩ = some (.bool false) ∧ X.cell? ⟨g2, 1, none⟩ = some (.slice A' n' c') ∧ X.cell? ⟨g2, 2, none⟩ = some (.slice B' m' d') ∧ X.cell? ⟨g2, 3, none⟩ = some (.slice C' k' e')))
    (first | exact KK.out _ BB3.out | exact KK.out _ BB2.out | exact KK.out _ BB1.out | exact KK.out _ BD.out)
    (first
      | (go_at_call 30; (with_reducible refine (join_any false A n c B m d C k ec s false A' n' c' B' m' d' C' k' e' t ⟨#[109]⟩ _ (M0.out.nd.kept BD.out) (T0.out.kept BD.out) HL.out (by omega) (by omega) (by omega) (by omega) (by omega) (by omega)).mono ?_); rintro e1 wa ⟨v, rfl, hv, ba⟩; rw [HhJ.out] at hv; obtain ⟨A7, n7, c7, B7, m7, d7, C7, k7, e7, rfl, n7', _⟩ := hv; have N7 := Lib.hid n7'; have BB1 := Lib.hid (chainN ba BD.out); clear ba n7')
      | (go_at_call 31; (with_reducible refine (rjoin_any A n c B m d C k ec s false A' n' c' B' m' d' C' k' e' t ⟨#[109]⟩ _ (M0.out.nd.kept BB1.out) (T0.out.kept BB1.out) HL.out (by omega) (by omega) (by omega) (by omega) (by omega) (by omega)).mono ?_); rintro e1 wb ⟨v, rfl, hv, bb⟩; rw [HhJ.out] at hv; obtain ⟨A8, n8, c8, B8, m8, d8, C8, k8, e8, rfl, n8', _⟩ := hv; have N8 := Lib.hid n8'; have N7' := Lib.hid (N7.out.kept bb); have BB2 := Lib.hid (chainN bb BB1.out); have l7 := Lib.hid (show n7 ≤ 1000000 ∧ m7 ≤ 1000000 ∧ k7 ≤ 1000000 by have h := HLJ.out; rw [← N7.out.kn, ← N7.out.vn, ← N7.out.cn]; exact ⟨by have := h.1; omega, by have := h.2.1; omega, by have := h.2.2; omega⟩); clear bb n8')
      | (go_at_call 23; (with_reducible refine (nsame_any J.leaf A7 n7 c7 B7 m7 d7 C7 k7 e7 J J.leaf A8 n8 c8 B8 m8 d8 C8 k8 e8 J _ N7'.out N8.out rfl rfl l7.out.1 l7.out.2.1 l7.out.2.2).mono ?_); rintro e1 wd ⟨r9, rfl, hr9, bd⟩; obtain rfl := hr9 rfl; have BB3 := Lib.hid (chainN bd BB2.out); clear bd hr9)
      | fail)
  have M9 := Lib.hid (M0.out.next BB3.out)
  clear KK BD BB1 BB2 BB3 N7 N8 N7' l7
  go_wp2_with fail
  go_ret
  exact ⟨rfl, M9.out.below⟩

set_option maxRecDepth 100000 in
theorem lifted (os : Os) (started : os.Started) (H : Type) (enc : TypeId × Value → H) :
    ReturnsInHanded {} Try.checked os 6 .any (Rows.cellReplacesSpec.pre6 enc Try.prog Try.f6 Rows.cellReplacesRow.domain false)
      (Rows.cellReplacesSpec.post enc Try.prog Try.f6 false true false false) := by
  refine lift_law (C := Try.checked) (tb := 4) ownKnobs started (by kernel_rfl) Try.func6
    (ChangeSpec.witness6 (enc := enc) (C := Try.checked) false ⟨#[], #[.agg #[.bool false, .slice none 0 0, .slice none 0 0, .slice none 0 0], .int .i64 0, .int .i64 0, .slice none 0 0, .slice none 0 0, .agg #[.bool false, .slice none 0 0, .slice none 0 0, .slice none 0 0]], []⟩ 8 (by kernel_rfl) (by kernel_rfl) (by kernel_rfl) (by kernel_rfl))
    laidOut ?_ rfl rfl Try.underlying4 ?_ ?_
  · intro t ht
    rw [Try.params6] at ht
    simp only [List.mem_cons, List.not_mem_nil, or_false] at ht
    rcases ht with rfl | rfl | rfl | rfl | rfl | rfl <;> exact ⟨by kernel_rfl, of_decide_eq_true (by kernel_rfl)⟩
  · intro vs ds W p hA
    rw [Try.params6] at hA
    obtain ⟨v0, vs0, d0, ds0, p0, q0, ha, rfl, rfl, h0, r0⟩ := trodAll_cons hA
    obtain ⟨v1, vs1, d1, ds1, p1, q1, rfl, rfl, rfl, h1, r1⟩ := trodAll_cons r0
    obtain ⟨v2, vs2, d2, ds2, p2, q2, rfl, rfl, rfl, h2, r2⟩ := trodAll_cons r1
    obtain ⟨v3, vs3, d3, ds3, p3, q3, rfl, rfl, rfl, h3, r3⟩ := trodAll_cons r2
    obtain ⟨v4, vs4, d4, ds4, p4, q4, rfl, rfl, rfl, h4, r4⟩ := trodAll_cons r3
    obtain ⟨v5, vs5, d5, ds5, p5, q5, rfl, rfl, rfl, h5, r5⟩ := trodAll_cons r4
    obtain ⟨rfl, rfl, rfl⟩ := trodAll_nil r5
    rfl
  · intro W base args ds p hval hA
    rw [Try.params6] at hA hval
    obtain ⟨v0, vs0, d0, ds0, p0, q0, ha, rfl, rfl, h0, r0⟩ := trodAll_cons hA
    obtain ⟨v1, vs1, d1, ds1, p1, q1, rfl, rfl, rfl, h1, r1⟩ := trodAll_cons r0
    obtain ⟨v2, vs2, d2, ds2, p2, q2, rfl, rfl, rfl, h2, r2⟩ := trodAll_cons r1
    obtain ⟨v3, vs3, d3, ds3, p3, q3, rfl, rfl, rfl, h3, r3⟩ := trodAll_cons r2
    obtain ⟨v4, vs4, d4, ds4, p4, q4, rfl, rfl, rfl, h4, r4⟩ := trodAll_cons r3
    obtain ⟨v5, vs5, d5, ds5, p5, q5, rfl, rfl, rfl, h5, r5⟩ := trodAll_cons r4
    obtain ⟨rfl, rfl, rfl⟩ := trodAll_nil r5
    obtain rfl : args = #[v0, v1, v2, v3, v4, v5] := by cases args; simp_all
    obtain ⟨s0, A0, n0, c0, B0, m0, d0, C0, k0, e0, rfl, hs0, _⟩ := open_node (hval 0 _ v0 rfl rfl) h0
    obtain ⟨i1, rfl, lo1, hi1⟩ := open_i64 (hval 1 _ v1 rfl rfl) h1
    obtain ⟨i2, rfl, lo2, hi2⟩ := open_i64 (hval 2 _ v2 rfl rfl) h2
    obtain ⟨A3, n3, c3, l3, rfl, hl3⟩ := open_nints (hval 3 _ v3 rfl rfl) h3
    obtain ⟨A4, n4, c4, l4, rfl, hl4⟩ := open_nstrs (hval 4 _ v4 rfl rfl) h4
    obtain ⟨s5, A5, n5, c5, B5, m5, d5, C5, k5, e5, rfl, hs5, _⟩ := open_node (hval 5 _ v5 rfl rfl) h5
    exact walk s0 A0 n0 c0 B0 m0 d0 C0 k0 e0 hs0 i1 lo1 hi1 i2 lo2 hi2 A3 n3 c3 l3 hl3 A4 n4 c4 l4 hl4 s5 A5 n5 c5 B5 m5 d5 C5 k5 e5 hs5

/-- The statement. -/
theorem proved : Rows.CellReplacesSaid :=
  OpenClaim.holds_of_wide 6 Try.f6 rfl rfl rfl rfl rfl rfl rfl ⟨rfl, rfl, rfl, rfl, rfl⟩ rfl rfl rfl rfl rfl (by kernel_rfl) Try.func6 (by kernel_rfl)
    (of_decide_eq_true (by kernel_rfl)) (by unfold Func.isWrapper; first | (rw [if_pos (by decide +kernel)]; kernel_rfl) | (rw [if_neg (by decide +kernel)]; exact ⟨rfl, rfl⟩))
    (fun os started H enc _ => lifted os started H enc)
#print axioms proved
end Go.Proofs.Ytcdfjaldnelfjaa.cellReplaces
