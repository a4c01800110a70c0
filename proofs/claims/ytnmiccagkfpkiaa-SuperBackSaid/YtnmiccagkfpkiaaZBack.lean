/-
  SuperBack answers true, whatever superblock and whatever bytes: a superblock that may be is decoded from its bytes as itself, and bytes that are one's are its. Conditions: none.
-/
import Derived.Test.YtnmiccagkfpkiaaRows
import Derived.Test.YtnmiccagkfpkiaaZC
namespace Go.Proofs.Ytnmiccagkfpkiaa.superBack
open Go.ChangeShapes Go.WideShapes Go.ChangeAt Go.RowKit Go.Maps

/-- What the second half starts from: the argument's block, b's bytes. -/
structure Mid (W : World) (w : World) (s : SB) (A : Option Addr) (n c : Nat) (T : Option Addr) (l : List UInt8) : Prop where
  box : UBox w W.heap.size (.int .i64 s.ep) (.int .i64 s.ro) (.int .i64 s.he) (.slice A n c) (.int .i64 s.ct)
  ln : Ln w 1 A n c (intVals s.pg)
  bys : Bys w w.heap.size T l
  below : Below W.heap.size W w
theorem Mid.next {W w w' : World} {s : SB} {A T : Option Addr} {n c : Nat} {l : List UInt8} (h : Mid W w s A n c T l) (b : Below w.heap.size w w') : Mid W w' s A n c T l :=
  ⟨h.box.kept b, h.ln.kept b, (h.bys.kept b).more b.size, chainU b h.below⟩

set_option maxRecDepth 20000 in
set_option maxHeartbeats 6400000 in
theorem walk {W : World} (s : SB) (A : Option Addr) (n c : Nat) (hs : Ln W 1 A n c (intVals s.pg)) (_ : In64 s.ep) (T : Option Addr) (k e0 : Nat) (l : List UInt8) (hl : l.length = k) (hb : Bys W W.heap.size T l) (hk : k ≤ e0) (_ : e0 ≤ maxLen) :
    Calls Try.prog 5 #[.agg #[.int .i64 s.ep, .int .i64 s.ro, .int .i64 s.he, .slice A n c, .int .i64 s.ct], .slice T k e0] W fun e w' => e = .returned (.bool true) ∧ Below W.heap.size W w' := by
  have b0 := below_one W (.cells #[.int .i64 s.ep, .int .i64 s.ro, .int .i64 s.he, .slice A n c, .int .i64 s.ct] 25)
  have M0 : Hid (Mid W (W.alloc (.cells #[.int .i64 s.ep, .int .i64 s.ro, .int .i64 s.he, .slice A n c, .int .i64 s.ct] 25)) s A n c T l) := Lib.hid ⟨ubox_new W _ _ _ _ _, hs.kept b0, (hb.kept b0).more b0.size, b0⟩
  have HL := Lib.hid hl
  clear hs hb hl b0
  go_enter Try.func5, Try.ntmps5
  go_upto_region 1 with fail
  generalize W.alloc (.cells #[.int .i64 s.ep, .int .i64 s.ro, .int .i64 s.he, .slice A n c, .int .i64 s.ct] 25) = w0 at *
  go_wp2_with fail
  refine (awake_any _).mono ?_
  rintro e w1 ⟨rfl, b1⟩
  have M1 := Lib.hid (M0.out.next b1)
  obtain ⟨c0, c1, c2, c3, c4⟩ := M1.out.box.cells
  clear b1 M0
  go_wp2_with fail
  refine (ufew_any _ _ _ _ A n c w1).mono ?_
  rintro e w2 ⟨rfl, b2⟩
  have M2 := Lib.hid (M1.out.next b2)
  clear b2 M1 c0 c1 c2 c3 c4
  obtain ⟨c0, c1, c2, c3, c4⟩ := M2.out.box.cells
  by_cases hn : n ≤ 200
  case neg =>
    rw [decide_eq_false hn]
    clear hn
    go_wp2_with fail
    go_ret
    exact ⟨rfl, M2.out.below⟩
  rw [decide_eq_true hn]
  by_cases hk2 : k ≤ 2000
  case neg =>
    go_wp2_with fail
    go_ret
    exact ⟨rfl, M2.out.below⟩
  go_wp2_with fail
  refine (uencode_any s.ep s.ro s.he s.ct A n c s.pg w2 M2.out.ln (by omega)).mono ?_
  rintro e w3 ⟨v3, rfl, o3, b3⟩
  have M3 := Lib.hid (M2.out.next b3)
  have O3 := Lib.hid o3
  clear b3 M2 o3 c0 c1 c2 c3 c4
  obtain ⟨q, hq⟩ : ∃ q, q = s := ⟨_, rfl⟩
  rw [show (SB.mk s.ep s.ro s.he s.ct s.pg) = q from hq.symm] at O3 ⊢
  have HQ := Lib.hid hq
  clear hq
  cases hok : q.okB with
  | false =>
    rw [checkE_bad hok]
    clear hok O3
    go_wp2_with fail
    refine (udecode_any T k e0 l w3 HL.out M3.out.bys hk (by omega)).mono ?_
    rintro e wa ⟨va, rfl, sa, ba⟩
    obtain ⟨Aa, ca, rfl, la, _⟩ := sa
    cases hd : SB.dec l with
    | none =>
      rw [(SB.dec_none hd).2]
      rw [(SB.dec_none hd).1] at la ⊢
      simp only [SB.zero, List.length_nil] at la ⊢
      obtain ⟨z1, z2, _⟩ := uboxed ba la 0 0 0 0
      have HX := Lib.hid z2
      have Ma := Lib.hid (M3.out.next z1)
      clear z1 z2 ba la hd
      go_upto_region 11 with fail
      generalize wa.alloc (.cells #[.int .i64 0, .int .i64 0, .int .i64 0, .slice Aa 0 ca, .int .i64 0] 25) = wb at *
      obtain ⟨x0, x1, x2, x3, x4⟩ := HX.out.cells
      go_wp2_with fail
      go_ret
      exact ⟨rfl, Ma.out.below⟩
    | some d =>
      rw [(SB.dec_some hd).2]
      rw [(SB.dec_some hd).1] at la ⊢
      obtain ⟨hok, hby⟩ := SB.bytes_dec hd
      obtain ⟨ep, ro, he, ct, pg⟩ := d
      have h100 : pg.length ≤ 100 := (SB.pg_ok hok).2
      obtain ⟨m, hm⟩ : ∃ m, pg.length = m := ⟨_, rfl⟩
      simp only [hm] at la h100 ⊢
      have HEn : Hid ((SB.mk ep ro he ct pg).encB = l) := Lib.hid ((if_pos hok).trans hby)
      have HCk := Lib.hid (checkE_good hok)
      obtain ⟨z1, z2, z3⟩ := uboxed ba la ep ro he ct
      have HX := Lib.hid z2
      have HLn := Lib.hid z3
      have Ma := Lib.hid (M3.out.next z1)
      clear z1 z2 z3 ba la hd hok hby hm
      go_upto_region 11 with fail
      generalize wa.alloc (.cells #[.int .i64 ep, .int .i64 ro, .int .i64 he, .slice Aa m ca, .int .i64 ct] 25) = wb at *
      obtain ⟨x0, x1, x2, x3, x4⟩ := HX.out.cells
      go_wp2_with fail
      refine (uencode_any ep ro he ct Aa m ca pg wb HLn.out (by omega)).mono ?_
      rintro e wc ⟨vc, rfl, oc, bc⟩
      have Mc := Lib.hid (Ma.out.next bc)
      rw [HEn.out] at oc
      rw [HCk.out]
      obtain ⟨Ac, cc, rfl, _, _, _, yc⟩ := Bys.of_own oc
      have t1 := run_text (P := Try.prog) (w := wc) yc 26 9 5 l.length cc rfl Try.underlying26 Try.underlying5 Try.underlying9
      have t2 := run_text (P := Try.prog) (w := wc) Mc.out.bys 26 9 5 k e0 HL.out Try.underlying26 Try.underlying5 Try.underlying9
      clear x0 x1 x2 x3 x4 HX HLn oc bc yc
      generalize (⟨l.toArray⟩ : ByteArray) = S at *
      generalize l.length = kk at *
      go_wp2_with fail
      go_ret
      exact ⟨rfl, Mc.out.below⟩
  | true =>
    rw [checkE_good hok]
    have HEn : Hid (q.encB = q.bytes) := Lib.hid (if_pos hok)
    have HD := Lib.hid (SB.dec_some (SB.dec_bytes hok))
    have HCk := Lib.hid (checkE_good hok)
    have hbl := SB.bytes_length q
    have h100 := (SB.pg_ok hok).2
    have o3 := O3.out
    rw [HEn.out] at o3
    obtain ⟨A3, c3', rfl, _, hc3, _, y3⟩ := Bys.of_own o3
    have Y3 := Lib.hid y3
    obtain ⟨K, hK⟩ : ∃ K, q.bytes.length = K := ⟨_, rfl⟩
    rw [hK] at hc3 ⊢
    have hK4 : K ≤ 1000 := by omega
    have HK := Lib.hid hK
    clear hok o3 y3 O3 hbl h100 hK
    go_wp2_with fail
    refine (udecode_any A3 K c3' q.bytes w3 HK.out Y3.out hc3 (by omega)).mono ?_
    rintro e w4 ⟨v4, rfl, s4, b4⟩
    rw [HD.out.2]
    rw [HD.out.1, HQ.out] at s4
    obtain ⟨A4, c4, rfl, l4, _⟩ := s4
    have h4 : s.pg.length = n := M3.out.ln.intN
    simp only [h4] at l4 ⊢
    obtain ⟨z1, z2, z3⟩ := uboxed b4 l4 s.ep s.ro s.he s.ct
    have HX := Lib.hid z2
    have HLn := Lib.hid z3
    have M4 := Lib.hid (M3.out.next z1)
    clear z1 z2 z3 b4 l4 h4 Y3 M3
    go_upto_region 7 with fail
    generalize w4.alloc (.cells #[.int .i64 s.ep, .int .i64 s.ro, .int .i64 s.he, .slice A4 n c4, .int .i64 s.ct] 25) = w5 at *
    obtain ⟨x0, x1, x2, x3, x4⟩ := HX.out.cells
    obtain ⟨y0, y1, y2, y3, y4⟩ := M4.out.box.cells
    go_wp2_with fail
    refine (usame_any s.ep s.ro s.he s.ct s.ep s.ro s.he s.ct A4 A n c4 n c s.pg s.pg w5 HLn.out M4.out.ln (by omega)).mono ?_
    rintro e w6 ⟨r, rfl, hr, b6⟩
    have hr := hr rfl
    subst hr
    have M6 := Lib.hid (M4.out.next b6)
    clear x0 x1 x2 x3 x4 y0 y1 y2 y3 y4 HX HLn b6 M4
    obtain ⟨y0, y1, y2, y3, y4⟩ := M6.out.box.cells
    go_wp2_with fail
    refine (ucheck_any s.ep s.ro s.he s.ct A n c s.pg w6 M6.out.ln (by omega)).mono ?_
    rintro e w7 ⟨rfl, b7⟩
    rw [show (SB.mk s.ep s.ro s.he s.ct s.pg) = q from HQ.out.symm, HCk.out]
    have M7 := Lib.hid (M6.out.next b7)
    clear y0 y1 y2 y3 y4 b7 M6
    go_wp2_with fail
    refine (udecode_any T k e0 l w7 HL.out M7.out.bys hk (by omega)).mono ?_
    rintro e wa ⟨va, rfl, sa, ba⟩
    obtain ⟨Aa, ca, rfl, la, _⟩ := sa
    cases hd : SB.dec l with
    | none =>
      rw [(SB.dec_none hd).2]
      rw [(SB.dec_none hd).1] at la ⊢
      simp only [SB.zero, List.length_nil] at la ⊢
      obtain ⟨z1, z2, _⟩ := uboxed ba la 0 0 0 0
      have HX := Lib.hid z2
      have Ma := Lib.hid (M7.out.next z1)
      clear z1 z2 ba la hd
      go_upto_region 11 with fail
      generalize wa.alloc (.cells #[.int .i64 0, .int .i64 0, .int .i64 0, .slice Aa 0 ca, .int .i64 0] 25) = wb at *
      obtain ⟨x0, x1, x2, x3, x4⟩ := HX.out.cells
      go_wp2_with fail
      go_ret
      exact ⟨rfl, Ma.out.below⟩
    | some d =>
      rw [(SB.dec_some hd).2]
      rw [(SB.dec_some hd).1] at la ⊢
      obtain ⟨hok, hby⟩ := SB.bytes_dec hd
      obtain ⟨ep, ro, he, ct, pg⟩ := d
      have h100 : pg.length ≤ 100 := (SB.pg_ok hok).2
      obtain ⟨m, hm⟩ : ∃ m, pg.length = m := ⟨_, rfl⟩
      simp only [hm] at la h100 ⊢
      have HEn : Hid ((SB.mk ep ro he ct pg).encB = l) := Lib.hid ((if_pos hok).trans hby)
      have HCk := Lib.hid (checkE_good hok)
      obtain ⟨z1, z2, z3⟩ := uboxed ba la ep ro he ct
      have HX := Lib.hid z2
      have HLn := Lib.hid z3
      have Ma := Lib.hid (M7.out.next z1)
      clear z1 z2 z3 ba la hd hok hby hm
      go_upto_region 11 with fail
      generalize wa.alloc (.cells #[.int .i64 ep, .int .i64 ro, .int .i64 he, .slice Aa m ca, .int .i64 ct] 25) = wb at *
      obtain ⟨x0, x1, x2, x3, x4⟩ := HX.out.cells
      go_wp2_with fail
      refine (uencode_any ep ro he ct Aa m ca pg wb HLn.out (by omega)).mono ?_
      rintro e wc ⟨vc, rfl, oc, bc⟩
      have Mc := Lib.hid (Ma.out.next bc)
      rw [HEn.out] at oc
      rw [HCk.out]
      obtain ⟨Ac, cc, rfl, _, _, _, yc⟩ := Bys.of_own oc
      have t1 := run_text (P := Try.prog) (w := wc) yc 26 9 5 l.length cc rfl Try.underlying26 Try.underlying5 Try.underlying9
      have t2 := run_text (P := Try.prog) (w := wc) Mc.out.bys 26 9 5 k e0 HL.out Try.underlying26 Try.underlying5 Try.underlying9
      clear x0 x1 x2 x3 x4 HX HLn oc bc yc
      generalize (⟨l.toArray⟩ : ByteArray) = S at *
      generalize l.length = kk at *
      go_wp2_with fail
      go_ret
      exact ⟨rfl, Mc.out.below⟩

set_option maxRecDepth 100000 in
theorem lifted (os : Os) (started : os.Started) (H : Type) (enc : TypeId × Value → H) :
    ReturnsInHanded {} Try.checked os 5 .any (Rows.superBackSpec.pre6 enc Try.prog Try.f5 Rows.superBackRow.domain false)
      (Rows.superBackSpec.post enc Try.prog Try.f5 false true false false) := by
  refine lift_law (C := Try.checked) (tb := 4) ownKnobs started (by kernel_rfl) Try.func5
    (ChangeSpec.witness6 (enc := enc) (C := Try.checked) false ⟨#[], #[.agg #[.int .i64 0, .int .i64 0, .int .i64 0, .slice none 0 0, .int .i64 0], .slice none 0 0], []⟩ 8 (by kernel_rfl) (by kernel_rfl) (by kernel_rfl) (by kernel_rfl))
    laidOut ?_ rfl rfl Try.underlying4 ?_ ?_
  · intro t ht
    rw [Try.params5] at ht
    simp only [List.mem_cons, List.not_mem_nil, or_false] at ht
    rcases ht with rfl | rfl <;> exact ⟨by kernel_rfl, of_decide_eq_true (by kernel_rfl)⟩
  · intro vs ds W p hA
    rw [Try.params5] at hA
    obtain ⟨v0, vs0, d0, ds0, p0, q0, ha, rfl, rfl, h0, r0⟩ := trodAll_cons hA
    obtain ⟨v1, vs1, d1, ds1, p1, q1, rfl, rfl, rfl, h1, r1⟩ := trodAll_cons r0
    obtain ⟨rfl, rfl, rfl⟩ := trodAll_nil r1
    rfl
  · intro W base args ds p hval hA
    rw [Try.params5] at hA hval
    obtain ⟨v0, vs0, d0, ds0, p0, q0, ha, rfl, rfl, h0, r0⟩ := trodAll_cons hA
    obtain ⟨v1, vs1, d1, ds1, p1, q1, rfl, rfl, rfl, h1, r1⟩ := trodAll_cons r0
    obtain ⟨rfl, rfl, rfl⟩ := trodAll_nil r1
    obtain rfl : args = #[v0, v1] := by cases args; simp_all
    obtain ⟨s0, A0, n0, c0, rfl, hs0, hi0⟩ := open_super (hval 0 _ v0 rfl rfl) h0
    obtain ⟨A1, n1, c1, xs1, rfl, e1, hr1, y1, z1⟩ := open_bytes (hval 1 _ v1 rfl rfl) h1
    exact walk s0 A0 n0 c0 hs0 hi0 A1 n1 c1 xs1 e1 hr1 y1 z1

/-- The statement. -/
theorem proved : Rows.SuperBackSaid :=
  OpenClaim.holds_of_wide 5 Try.f5 rfl rfl rfl rfl rfl rfl rfl ⟨rfl, rfl, rfl, rfl, rfl⟩ rfl rfl rfl rfl rfl (by kernel_rfl) Try.func5 (by kernel_rfl)
    (of_decide_eq_true (by kernel_rfl)) (by unfold Func.isWrapper; first | (rw [if_pos (by decide +kernel)]; kernel_rfl) | (rw [if_neg (by decide +kernel)]; exact ⟨rfl, rfl⟩))
    (fun os started H enc _ => lifted os started H enc)
#print axioms proved
end Go.Proofs.Ytnmiccagkfpkiaa.superBack
