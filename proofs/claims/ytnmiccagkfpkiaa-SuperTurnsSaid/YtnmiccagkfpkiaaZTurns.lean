/-
  SuperTurns answers true, for any two superblocks, any place and any byte: a superblock one of whose bytes is turned does not count: that of the other sector does, or none. Conditions: none.
-/
import Derived.Test.YtnmiccagkfpkiaaRows
import Derived.Test.YtnmiccagkfpkiaaZC
namespace Go.Proofs.Ytnmiccagkfpkiaa.superTurns
open Go.ChangeShapes Go.WideShapes Go.ChangeAt Go.RowKit Go.Maps

/-- Both arguments, in blocks of their own. -/
structure Args (W : World) (w : World) (s t : SB) (A : Option Addr) (n c : Nat) (B : Option Addr) (m d : Nat) : Prop where
  bs : UBox w W.heap.size (.int .i64 s.ep) (.int .i64 s.ro) (.int .i64 s.he) (.slice A n c) (.int .i64 s.ct)
  bt : UBox w (W.heap.size + 1) (.int .i64 t.ep) (.int .i64 t.ro) (.int .i64 t.he) (.slice B m d) (.int .i64 t.ct)
  ls : Ln w 1 A n c (intVals s.pg)
  lt : Ln w 1 B m d (intVals t.pg)
theorem Args.kept {W w w' : World} {s t : SB} {A B : Option Addr} {n c m d : Nat} (h : Args W w s t A n c B m d) (b : Below w.heap.size w w') : Args W w' s t A n c B m d :=
  ⟨h.bs.kept b, h.bt.kept b, h.ls.kept b, h.lt.kept b⟩
theorem args_new (W : World) (s t : SB) {A B : Option Addr} {n c m d : Nat} (hs : Ln W 1 A n c (intVals s.pg)) (ht : Ln W 1 B m d (intVals t.pg)) :
    Args W ((W.alloc (.cells #[.int .i64 s.ep, .int .i64 s.ro, .int .i64 s.he, .slice A n c, .int .i64 s.ct] 25)).alloc (.cells #[.int .i64 t.ep, .int .i64 t.ro, .int .i64 t.he, .slice B m d, .int .i64 t.ct] 25)) s t A n c B m d := by
  have b := below_two W (.cells #[.int .i64 s.ep, .int .i64 s.ro, .int .i64 s.he, .slice A n c, .int .i64 s.ct] 25) (.cells #[.int .i64 t.ep, .int .i64 t.ro, .int .i64 t.he, .slice B m d, .int .i64 t.ct] 25)
  refine ⟨(ubox_new W _ _ _ _ _).kept (below_one _ _), ?_, hs.kept b, ht.kept b⟩
  have := ubox_new (W.alloc (.cells #[.int .i64 s.ep, .int .i64 s.ro, .int .i64 s.he, .slice A n c, .int .i64 s.ct] 25)) (.int .i64 t.ep) (.int .i64 t.ro) (.int .i64 t.he) (.slice B m d) (.int .i64 t.ct)
  rw [show (W.alloc (.cells #[.int .i64 s.ep, .int .i64 s.ro, .int .i64 s.he, .slice A n c, .int .i64 s.ct] 25)).heap.size = W.heap.size + 1 by simp] at this
  exact this

set_option maxRecDepth 20000 in
set_option maxHeartbeats 12800000 in
theorem walk {W : World} (s : SB) (A : Option Addr) (n c : Nat) (hs : Ln W 1 A n c (intVals s.pg)) (_ : In64 s.ep) (t : SB) (B : Option Addr) (m d : Nat) (ht : Ln W 1 B m d (intVals t.pg)) (_ : In64 t.ep)
    (at_ : Int) (lo : -9223372036854775808 ≤ at_) (hi : at_ ≤ 9223372036854775807) (by_ : UInt8) :
    Calls Try.prog 7 #[.agg #[.int .i64 s.ep, .int .i64 s.ro, .int .i64 s.he, .slice A n c, .int .i64 s.ct], .agg #[.int .i64 t.ep, .int .i64 t.ro, .int .i64 t.he, .slice B m d, .int .i64 t.ct], .int .i64 at_, .int .u8 by_.toNat] W fun e w' => e = .returned (.bool true) ∧ Below W.heap.size W w' := by
  obtain ⟨ep, ro, he, ct, pg⟩ := s
  obtain ⟨ep', ro', he', ct', pg'⟩ := t
  have b0 := below_two W (.cells #[.int .i64 ep, .int .i64 ro, .int .i64 he, .slice A n c, .int .i64 ct] 25) (.cells #[.int .i64 ep', .int .i64 ro', .int .i64 he', .slice B m d, .int .i64 ct'] 25)
  have AR := Lib.hid (args_new W ⟨ep, ro, he, ct, pg⟩ ⟨ep', ro', he', ct', pg'⟩ hs ht)
  have B0 := Lib.hid b0
  have HTE := Lib.hid (fun h1 h2 h3 (h4 : by_ ≠ 0) => turn_ends (s := ⟨ep, ro, he, ct, pg⟩) (t := ⟨ep', ro', he', ct', pg'⟩) h1 h2 8 (by omega) at_ h3 h4)
  clear hs ht b0
  go_enter Try.func7, Try.ntmps7
  go_upto_region 1 with fail
  generalize (W.alloc (.cells #[.int .i64 ep, .int .i64 ro, .int .i64 he, .slice A n c, .int .i64 ct] 25)).alloc (.cells #[.int .i64 ep', .int .i64 ro', .int .i64 he', .slice B m d, .int .i64 ct'] 25) = w0 at *
  go_wp2_with fail
  refine (awake_any _).mono ?_
  rintro e w1 ⟨rfl, b1⟩
  go_wp2_with fail
  refine (new_live (W := w0) w1 8 (by omega) (by omega) b1).mono ?_
  rintro e w2 ⟨db, F2, rfl, hv2, -, -⟩
  have V2 := Lib.hid hv2
  have E2 := Lib.hid (B0.out.trans (hv2.below.mono B0.out.size))
  clear b1 hv2
  obtain ⟨c0, c1, c2, c3, c4⟩ := (AR.out.kept V2.out.below).bs.cells
  obtain ⟨d0, d1, d2, d3, d4⟩ := (AR.out.kept V2.out.below).bt.cells
  go_wp2_with fail
  refine (ufew_any _ _ _ _ A n c w2).mono ?_
  rintro e w3 ⟨rfl, b3⟩
  have V3 := Lib.hid (V2.out.next b3)
  have E3 := Lib.hid (B0.out.trans (V3.out.below.mono B0.out.size))
  clear b3 V2 E2 c0 c1 c2 c3 c4 d0 d1 d2 d3 d4
  obtain ⟨c0, c1, c2, c3, c4⟩ := (AR.out.kept V3.out.below).bs.cells
  obtain ⟨d0, d1, d2, d3, d4⟩ := (AR.out.kept V3.out.below).bt.cells
  by_cases hn : n ≤ 200
  case neg =>
    rw [decide_eq_false hn]
    clear hn
    go_wp2_with fail
    go_ret
    exact ⟨rfl, E3.out⟩
  rw [decide_eq_true hn]
  go_wp2_with fail
  refine (ufew_any _ _ _ _ B m d w3).mono ?_
  rintro e w4 ⟨rfl, b4⟩
  have V4 := Lib.hid (V3.out.next b4)
  have E4 := Lib.hid (B0.out.trans (V4.out.below.mono B0.out.size))
  clear b4 V3 E3 c0 c1 c2 c3 c4 d0 d1 d2 d3 d4
  obtain ⟨c0, c1, c2, c3, c4⟩ := (AR.out.kept V4.out.below).bs.cells
  obtain ⟨d0, d1, d2, d3, d4⟩ := (AR.out.kept V4.out.below).bt.cells
  by_cases hm : m ≤ 200
  case neg =>
    rw [decide_eq_false hm]
    clear hm
    go_wp2_with fail
    go_ret
    exact ⟨rfl, E4.out⟩
  rw [decide_eq_true hm]
  go_wp2_with fail
  refine (ucheck_any ep ro he ct A n c pg w4 (AR.out.kept V4.out.below).ls (by omega)).mono ?_
  rintro e w5 ⟨rfl, b5⟩
  have V5 := Lib.hid (V4.out.next b5)
  have E5 := Lib.hid (B0.out.trans (V5.out.below.mono B0.out.size))
  clear b5 V4 E4 c0 c1 c2 c3 c4 d0 d1 d2 d3 d4
  obtain ⟨c0, c1, c2, c3, c4⟩ := (AR.out.kept V5.out.below).bs.cells
  obtain ⟨d0, d1, d2, d3, d4⟩ := (AR.out.kept V5.out.below).bt.cells
  cases hok : (SB.mk ep ro he ct pg).okB with
  | false =>
    rw [checkE_bad hok]
    clear hok
    go_wp2_with fail
    go_ret
    exact ⟨rfl, E5.out⟩
  | true =>
  rw [checkE_good hok]
  have hep : 0 ≤ ep ∧ ep ≤ 2147483647 := SB.ep_ok hok
  have HOK := Lib.hid hok
  clear hok
  go_wp2_with fail
  refine (ucheck_any ep' ro' he' ct' B m d pg' w5 (AR.out.kept V5.out.below).lt (by omega)).mono ?_
  rintro e w6 ⟨rfl, b6⟩
  have V6 := Lib.hid (V5.out.next b6)
  have E6 := Lib.hid (B0.out.trans (V6.out.below.mono B0.out.size))
  clear b6 V5 E5 c0 c1 c2 c3 c4 d0 d1 d2 d3 d4
  obtain ⟨c0, c1, c2, c3, c4⟩ := (AR.out.kept V6.out.below).bs.cells
  obtain ⟨d0, d1, d2, d3, d4⟩ := (AR.out.kept V6.out.below).bt.cells
  cases hok : (SB.mk ep' ro' he' ct' pg').okB with
  | false =>
    rw [checkE_bad hok]
    clear hok
    go_wp2_with fail
    go_ret
    exact ⟨rfl, E6.out⟩
  | true =>
  rw [checkE_good hok]
  have hep' : 0 ≤ ep' ∧ ep' ≤ 2147483647 := SB.ep_ok hok
  have HOK' := Lib.hid hok
  clear hok
  by_cases hb : by_ = 0
  · have h0 := byte_zero hb
    clear hb
    go_wp2_with fail
    go_ret
    exact ⟨rfl, E6.out⟩
  have h0 : ((by_.toNat : Int) == 0) = false := byte_not (d := 0) hb
  have HB0 := Lib.hid hb
  clear hb
  by_cases ha : at_ < 0
  · go_wp2_with fail
    go_ret
    exact ⟨rfl, E6.out⟩
  by_cases hne : ep = ep'
  · have hb : (ep == ep') = true := by rw [beq_iff_eq]; exact hne
    clear hne
    go_wp2_with fail
    go_ret
    exact ⟨rfl, E6.out⟩
  have hb : (ep == ep') = false := by rw [beq_eq_false_iff_ne]; exact hne
  have HTT := Lib.hid (HTE.out HOK.out HOK'.out (by omega) HB0.out)
  clear hne HTE
  go_wp2_with fail
  refine (uwrite_live (W := w0) ep ro he ct A n c pg w6 (AR.out.kept V6.out.below).ls (by omega) V6.out).mono ?_
  rintro e w7 ⟨rfl, F7, hv7, -⟩
  rw [HTT.out.1]
  have V7 := Lib.hid hv7
  clear hv7 V6 E6 c0 c1 c2 c3 c4 d0 d1 d2 d3 d4
  obtain ⟨d0, d1, d2, d3, d4⟩ := (AR.out.kept V7.out.below).bt.cells
  go_wp2_with fail
  refine (uwrite_live (W := w0) ep' ro' he' ct' B m d pg' w7 (AR.out.kept V7.out.below).lt (by omega) V7.out).mono ?_
  rintro e w8 ⟨rfl, F8, hv8, -⟩
  rw [HTT.out.2.1]
  have V8 := Lib.hid hv8
  have CE := Lib.hid HTT.out.2.2
  generalize ((PS.new 8).supered ⟨ep, ro, he, ct, pg⟩).supered ⟨ep', ro', he', ct', pg'⟩ = p1 at *
  clear hv8 V7 d0 d1 d2 d3 d4 HTT
  obtain ⟨d0, d1, d2, d3, d4⟩ := (AR.out.kept V8.out.below).bt.cells
  obtain ⟨P, hP⟩ : ∃ P, ep % 2 = P := ⟨_, rfl⟩
  obtain ⟨Q, hQ⟩ : ∃ Q, ep' % 2 = Q := ⟨_, rfl⟩
  have tP : Int.tmod ep 2 = P := (Int.tmod_eq_emod_of_nonneg hep.1).trans hP
  have tQ : Int.tmod ep' 2 = Q := (Int.tmod_eq_emod_of_nonneg hep'.1).trans hQ
  have hQ1 : 0 ≤ Q ∧ Q ≤ 1 := by omega
  rw [show (SB.mk ep ro he ct pg).ep % 2 = P from hP, show (SB.mk ep' ro' he' ct' pg').ep % 2 = Q from hQ] at CE
  have HP := Lib.hid (And.intro hP tP)
  have HQ := Lib.hid (And.intro hQ tQ)
  clear hP hQ tP tQ
  go_wp2_with fail
  first | rw [HQ.out.1] | rw [HQ.out.2] | skip
  refine (turn_live (W := w0) w8 Q (by omega) (by omega) at_ lo hi by_ V8.out).mono ?_
  rintro e w9 ⟨rfl, F9, hv9, -⟩
  rw [CE.out.1]
  have V9 := Lib.hid hv9
  obtain ⟨p4, hp4⟩ : ∃ p4, p1.turned Q at_ by_ = p4 := ⟨_, rfl⟩
  rw [hp4] at V9 CE
  clear hv9 V8 hp4 d0 d1 d2 d3 d4
  go_wp2_with fail
  refine (choose_any w9 V9.out.dk).mono ?_
  rintro e w10 ⟨v10, rfl, s10, b10⟩
  obtain ⟨x, hx⟩ : ∃ x, p4.chooseS = x := ⟨_, rfl⟩
  obtain ⟨E, hE⟩ : ∃ E, p4.chooseE = E := ⟨_, rfl⟩
  rw [hx] at s10 CE
  rw [hE] at CE ⊢
  obtain ⟨A10, c10, rfl, l10, _⟩ := s10
  obtain ⟨z1, z2, z3⟩ := uboxed b10 l10 x.ep x.ro x.he x.ct
  have HX := Lib.hid z2
  have HLx := Lib.hid z3
  have V11 := Lib.hid (V9.out.next z1)
  have E11 := Lib.hid (B0.out.trans (V11.out.below.mono B0.out.size))
  obtain ⟨q, hq⟩ : ∃ q, x.pg.length = q := ⟨_, rfl⟩
  rw [hq] at HX HLx V11 E11 ⊢
  have HXQ := Lib.hid hq
  clear z1 z2 z3 b10 l10 hx hE V9 hq
  go_upto_region 10 with fail
  generalize hw11 : w10.alloc (.cells #[.int .i64 x.ep, .int .i64 x.ro, .int .i64 x.he, .slice A10 q c10, .int .i64 x.ct] 25) = w11 at *
  clear hw11
  generalize w10.heap.size = r10 at *
  obtain ⟨x0, x1, x2, x3, x4⟩ := HX.out.cells
  obtain ⟨c0, c1, c2, c3, c4⟩ := (AR.out.kept V11.out.below).bs.cells
  obtain ⟨d0, d1, d2, d3, d4⟩ := (AR.out.kept V11.out.below).bt.cells
  by_cases hpq : P = Q
  · have h91 := CE.out.2.1 hpq
    have hb1 : (ep % 2 == ep' % 2) = true := by rw [HP.out.1, HQ.out.1, hpq]; exact beq_self_eq_true _
    have hb2 : (Int.tmod ep 2 == Int.tmod ep' 2) = true := by rw [HP.out.2, HQ.out.2, hpq]; exact beq_self_eq_true _
    subst h91
    clear hpq
    go_wp2_with fail
    go_ret
    exact ⟨rfl, E11.out⟩
  · obtain ⟨h0, h1⟩ := CE.out.2.2 hpq
    have hb1 : (ep % 2 == ep' % 2) = false := by rw [HP.out.1, HQ.out.1, beq_eq_false_iff_ne]; exact hpq
    have hb2 : (Int.tmod ep 2 == Int.tmod ep' 2) = false := by rw [HP.out.2, HQ.out.2, beq_eq_false_iff_ne]; exact hpq
    have hq2 : q ≤ 1000 := by
      have h2 : pg.length = n := AR.out.ls.intN
      rw [← HXQ.out, h1]
      show pg.length ≤ 1000
      omega
    have H1 := Lib.hid h1
    subst h0
    clear hpq h1
    go_wp2_with fail
    refine (usame_any x.ep x.ro x.he x.ct ep ro he ct A10 A q c10 n c x.pg pg w11 HLx.out (AR.out.kept V11.out.below).ls (by omega)).mono ?_
    rintro e w12 ⟨r1, rfl, hr1, b12⟩
    have := hr1 H1.out
    subst this
    have E12 := Lib.hid (B0.out.trans ((V11.out.next b12).below.mono B0.out.size))
    clear hr1 b12
    go_wp2_with fail
    go_ret
    exact ⟨rfl, E12.out⟩

set_option maxRecDepth 100000 in
theorem lifted (os : Os) (started : os.Started) (H : Type) (enc : TypeId × Value → H) :
    ReturnsInHanded {} Try.checked os 7 .any (Rows.superTurnsSpec.pre6 enc Try.prog Try.f7 Rows.superTurnsRow.domain false)
      (Rows.superTurnsSpec.post enc Try.prog Try.f7 false true false false) := by
  refine lift_law (C := Try.checked) (tb := 4) ownKnobs started (by kernel_rfl) Try.func7
    (ChangeSpec.witness6 (enc := enc) (C := Try.checked) false ⟨#[], #[.agg #[.int .i64 0, .int .i64 0, .int .i64 0, .slice none 0 0, .int .i64 0], .agg #[.int .i64 0, .int .i64 0, .int .i64 0, .slice none 0 0, .int .i64 0], .int .i64 0, .int .u8 0], []⟩ 8 (by kernel_rfl) (by kernel_rfl) (by kernel_rfl) (by kernel_rfl))
    laidOut ?_ rfl rfl Try.underlying4 ?_ ?_
  · intro t ht
    rw [Try.params7] at ht
    simp only [List.mem_cons, List.not_mem_nil, or_false] at ht
    rcases ht with rfl | rfl | rfl | rfl <;> exact ⟨by kernel_rfl, of_decide_eq_true (by kernel_rfl)⟩
  · intro vs ds W p hA
    rw [Try.params7] at hA
    obtain ⟨v0, vs0, d0, ds0, p0, q0, ha, rfl, rfl, h0, r0⟩ := trodAll_cons hA
    obtain ⟨v1, vs1, d1, ds1, p1, q1, rfl, rfl, rfl, h1, r1⟩ := trodAll_cons r0
    obtain ⟨v2, vs2, d2, ds2, p2, q2, rfl, rfl, rfl, h2, r2⟩ := trodAll_cons r1
    obtain ⟨v3, vs3, d3, ds3, p3, q3, rfl, rfl, rfl, h3, r3⟩ := trodAll_cons r2
    obtain ⟨rfl, rfl, rfl⟩ := trodAll_nil r3
    rfl
  · intro W base args ds p hval hA
    rw [Try.params7] at hA hval
    obtain ⟨v0, vs0, d0, ds0, p0, q0, ha, rfl, rfl, h0, r0⟩ := trodAll_cons hA
    obtain ⟨v1, vs1, d1, ds1, p1, q1, rfl, rfl, rfl, h1, r1⟩ := trodAll_cons r0
    obtain ⟨v2, vs2, d2, ds2, p2, q2, rfl, rfl, rfl, h2, r2⟩ := trodAll_cons r1
    obtain ⟨v3, vs3, d3, ds3, p3, q3, rfl, rfl, rfl, h3, r3⟩ := trodAll_cons r2
    obtain ⟨rfl, rfl, rfl⟩ := trodAll_nil r3
    obtain rfl : args = #[v0, v1, v2, v3] := by cases args; simp_all
    obtain ⟨s0, A0, n0, c0, rfl, hs0, hi0⟩ := open_super (hval 0 _ v0 rfl rfl) h0
    obtain ⟨s1, A1, n1, c1, rfl, hs1, hi1⟩ := open_super (hval 1 _ v1 rfl rfl) h1
    obtain ⟨i2, rfl, lo2, hi2⟩ := open_i64 (hval 2 _ v2 rfl rfl) h2
    obtain ⟨b3, rfl⟩ := open_u8 (hval 3 _ v3 rfl rfl) h3
    exact walk s0 A0 n0 c0 hs0 hi0 s1 A1 n1 c1 hs1 hi1 i2 lo2 hi2 b3

/-- The statement. -/
theorem proved : Rows.SuperTurnsSaid :=
  OpenClaim.holds_of_wide 7 Try.f7 rfl rfl rfl rfl rfl rfl rfl ⟨rfl, rfl, rfl, rfl, rfl⟩ rfl rfl rfl rfl rfl (by kernel_rfl) Try.func7 (by kernel_rfl)
    (of_decide_eq_true (by kernel_rfl)) (by unfold Func.isWrapper; first | (rw [if_pos (by decide +kernel)]; kernel_rfl) | (rw [if_neg (by decide +kernel)]; exact ⟨rfl, rfl⟩))
    (fun os started H enc _ => lifted os started H enc)
#print axioms proved
end Go.Proofs.Ytnmiccagkfpkiaa.superTurns
