/-
  SuperCuts answers true, for any two superblocks, any fuse and whatever lasts: behind a Write that is cut the superblock ahead counts, or the new one, whole; the new one if it was answered OK. Conditions: none.
-/
import Derived.Test.YtnmiccagkfpkiaaRows
import Derived.Test.YtnmiccagkfpkiaaZC
namespace Go.Proofs.Ytnmiccagkfpkiaa.superCuts
open Go.ChangeShapes Go.WideShapes Go.ChangeAt Go.RowKit Go.Maps

/-- Both arguments, in blocks of their own. -/
structure Args (W : World) (w : World) (s t : SB) (A : Option Addr) (n c : Nat) (B : Option Addr) (m d : Nat) : Prop where
  bs : UBox w W.heap.size (.int .i64 s.ep) (.int .i64 s.ro) (.int .i64 s.he) (.slice A n c) (.int .i64 s.ct)
  bt : UBox w (W.heap.size + 1) (.int .i64 t.ep) (.int .i64 t.ro) (.int .i64 t.he) (.slice B m d) (.int .i64 t.ct)
  ls : Ln w 1 A n c (intVals s.pg)
  lt : Ln w 1 B m d (intVals t.pg)
theorem Args.kept {W w w' : World} {s t : SB} {A B : Option Addr} {n c m d : Nat} (h : Args W w s t A n c B m d) (b : Below w.heap.size w w') : Args W w' s t A n c B m d :=
  ⟨h.bs.kept b, h.bt.kept b, h.ls.kept b, h.lt.kept b⟩
theorem args_new (W : World) (s t : SB) {A B : Option Addr} {n c m d : Nat} (hs : Ln W 1 A n c (intVals s.pg)) (ht : Ln W 1 B m d (intVals t.pg)) :
    Args W ((W.alloc (.cells #[.int .i64 s.ep, .int .i64 s.ro, .int .i64 s.he, .slice A n c, .int .i64 s.ct] 25)).alloc (.cells #[.int .i64 t.ep, .int .i64 t.ro, .int .i64 t.he, .slice B m d, .int .i64 t.ct] 25)) s t A n c B m d := by
  have b := below_two W (.cells #[.int .i64 s.ep, .int .i64 s.ro, .int .i64 s.he, .slice A n c, .int .i64 s.ct] 25) (.cells #[.int .i64 t.ep, .int .i64 t.ro, .int .i64 t.he, .slice B m d, .int .i64 t.ct] 25)
  refine ⟨(ubox_new W _ _ _ _ _).kept (below_one _ _), ?_, hs.kept b, ht.kept b⟩
  have := ubox_new (W.alloc (.cells #[.int .i64 s.ep, .int .i64 s.ro, .int .i64 s.he, .slice A n c, .int .i64 s.ct] 25)) (.int .i64 t.ep) (.int .i64 t.ro) (.int .i64 t.he) (.slice B m d) (.int .i64 t.ct)
  rw [show (W.alloc (.cells #[.int .i64 s.ep, .int .i64 s.ro, .int .i64 s.he, .slice A n c, .int .i64 s.ct] 25)).heap.size = W.heap.size + 1 by simp] at this
  exact this

set_option maxRecDepth 20000 in
set_option maxHeartbeats 12800000 in
theorem walk {W : World} (s : SB) (A : Option Addr) (n c : Nat) (hs : Ln W 1 A n c (intVals s.pg)) (_ : In64 s.ep) (t : SB) (B : Option Addr) (m d : Nat) (ht : Ln W 1 B m d (intVals t.pg)) (_ : In64 t.ep)
    (fuse : Int) (lo : -9223372036854775808 ≤ fuse) (hi : fuse ≤ 9223372036854775807) (T : Option Addr) (k e0 : Nat) (keep : List Int) (hl : keep.length = k) (hk : Nums W W.heap.size T keep) (_ : k ≤ maxLen) :
    Calls Try.prog 6 #[.agg #[.int .i64 s.ep, .int .i64 s.ro, .int .i64 s.he, .slice A n c, .int .i64 s.ct], .agg #[.int .i64 t.ep, .int .i64 t.ro, .int .i64 t.he, .slice B m d, .int .i64 t.ct], .int .i64 fuse, .slice T k e0] W fun e w' => e = .returned (.bool true) ∧ Below W.heap.size W w' := by
  obtain ⟨ep, ro, he, ct, pg⟩ := s
  obtain ⟨ep', ro', he', ct', pg'⟩ := t
  have b0 := below_two W (.cells #[.int .i64 ep, .int .i64 ro, .int .i64 he, .slice A n c, .int .i64 ct] 25) (.cells #[.int .i64 ep', .int .i64 ro', .int .i64 he', .slice B m d, .int .i64 ct'] 25)
  have AR := Lib.hid (args_new W ⟨ep, ro, he, ct, pg⟩ ⟨ep', ro', he', ct', pg'⟩ hs ht)
  have HK := Lib.hid (hk.below b0)
  have B0 := Lib.hid b0
  have HL := Lib.hid hl
  have HCE := Lib.hid (fun h1 h2 => cut_ends (s := ⟨ep, ro, he, ct, pg⟩) (t := ⟨ep', ro', he', ct', pg'⟩) h1 h2 8 (by omega) fuse keep)
  clear hs ht hk hl b0
  go_enter Try.func6, Try.ntmps6
  go_upto_region 1 with fail
  generalize (W.alloc (.cells #[.int .i64 ep, .int .i64 ro, .int .i64 he, .slice A n c, .int .i64 ct] 25)).alloc (.cells #[.int .i64 ep', .int .i64 ro', .int .i64 he', .slice B m d, .int .i64 ct'] 25) = w0 at *
  go_wp2_with fail
  refine (awake_any _).mono ?_
  rintro e w1 ⟨rfl, b1⟩
  go_wp2_with fail
  refine (new_live (W := w0) w1 8 (by omega) (by omega) b1).mono ?_
  rintro e w2 ⟨db, F2, rfl, hv2, -, -⟩
  have V2 := Lib.hid hv2
  have E2 := Lib.hid (B0.out.trans (hv2.below.mono B0.out.size))
  clear b1 hv2
  obtain ⟨c0, c1, c2, c3, c4⟩ := (AR.out.kept V2.out.below).bs.cells
  obtain ⟨d0, d1, d2, d3, d4⟩ := (AR.out.kept V2.out.below).bt.cells
  go_wp2_with fail
  refine (ufew_any _ _ _ _ A n c w2).mono ?_
  rintro e w3 ⟨rfl, b3⟩
  have V3 := Lib.hid (V2.out.next b3)
  have E3 := Lib.hid (B0.out.trans (V3.out.below.mono B0.out.size))
  clear b3 V2 E2 c0 c1 c2 c3 c4 d0 d1 d2 d3 d4
  obtain ⟨c0, c1, c2, c3, c4⟩ := (AR.out.kept V3.out.below).bs.cells
  obtain ⟨d0, d1, d2, d3, d4⟩ := (AR.out.kept V3.out.below).bt.cells
  by_cases hn : n ≤ 200
  case neg =>
    rw [decide_eq_false hn]
    clear hn
    go_wp2_with fail
    go_ret
    exact ⟨rfl, E3.out⟩
  rw [decide_eq_true hn]
  go_wp2_with fail
  refine (ufew_any _ _ _ _ B m d w3).mono ?_
  rintro e w4 ⟨rfl, b4⟩
  have V4 := Lib.hid (V3.out.next b4)
  have E4 := Lib.hid (B0.out.trans (V4.out.below.mono B0.out.size))
  clear b4 V3 E3 c0 c1 c2 c3 c4 d0 d1 d2 d3 d4
  obtain ⟨c0, c1, c2, c3, c4⟩ := (AR.out.kept V4.out.below).bs.cells
  obtain ⟨d0, d1, d2, d3, d4⟩ := (AR.out.kept V4.out.below).bt.cells
  by_cases hm : m ≤ 200
  case neg =>
    rw [decide_eq_false hm]
    clear hm
    go_wp2_with fail
    go_ret
    exact ⟨rfl, E4.out⟩
  rw [decide_eq_true hm]
  by_cases hk60 : k ≤ 60
  case neg =>
    go_wp2_with fail
    go_ret
    exact ⟨rfl, E4.out⟩
  go_wp2_with fail
  refine (ucheck_any ep ro he ct A n c pg w4 (AR.out.kept V4.out.below).ls (by omega)).mono ?_
  rintro e w5 ⟨rfl, b5⟩
  have V5 := Lib.hid (V4.out.next b5)
  have E5 := Lib.hid (B0.out.trans (V5.out.below.mono B0.out.size))
  clear b5 V4 E4 c0 c1 c2 c3 c4 d0 d1 d2 d3 d4
  obtain ⟨c0, c1, c2, c3, c4⟩ := (AR.out.kept V5.out.below).bs.cells
  obtain ⟨d0, d1, d2, d3, d4⟩ := (AR.out.kept V5.out.below).bt.cells
  cases hok : (SB.mk ep ro he ct pg).okB with
  | false =>
    rw [checkE_bad hok]
    clear hok
    go_wp2_with fail
    go_ret
    exact ⟨rfl, E5.out⟩
  | true =>
  rw [checkE_good hok]
  have hep : 0 ≤ ep ∧ ep ≤ 2147483647 := SB.ep_ok hok
  have HOK := Lib.hid hok
  have HW1 := Lib.hid ((Calm.new (n := 8) (by omega)).lays hok)
  clear hok
  by_cases hne : ep' = ep + 1
  case neg =>
    have hb : (ep' != ep + 1) = true := by rw [bne_iff_ne]; exact hne
    clear hne
    go_wp2_with fail
    go_ret
    exact ⟨rfl, E5.out⟩
  have HN := Lib.hid hne
  have hb : (ep' != ep + 1) = false := by rw [hne]; exact bne_self_eq_false _
  clear hne
  go_wp2_with fail
  refine (uwrite_live (W := w0) ep ro he ct A n c pg w5 (AR.out.kept V5.out.below).ls (by omega) V5.out).mono ?_
  rintro e w6 ⟨rfl, F6, hv6, -⟩
  rw [HW1.out.1]
  have V6 := Lib.hid hv6
  have CE := Lib.hid (HCE.out HOK.out HN.out)
  generalize (PS.new 8).supered ⟨ep, ro, he, ct, pg⟩ = p1 at *
  clear hv6 V5 E5 c0 c1 c2 c3 c4 d0 d1 d2 d3 d4 hb HW1 HCE
  go_wp2_with fail
  refine (fuse_live (W := w0) w6 fuse lo hi V6.out).mono ?_
  rintro e w7 ⟨rfl, F7, hv7, -⟩
  have V7 := Lib.hid hv7
  obtain ⟨p2, hp2⟩ : ∃ p2, p1.fusing fuse = p2 := ⟨_, rfl⟩
  rw [hp2] at V7 CE
  clear hv7 V6 hp2
  obtain ⟨d0, d1, d2, d3, d4⟩ := (AR.out.kept V7.out.below).bt.cells
  go_wp2_with fail
  refine (uwrite_live (W := w0) ep' ro' he' ct' B m d pg' w7 (AR.out.kept V7.out.below).lt (by omega) V7.out).mono ?_
  rintro e w8 ⟨rfl, F8, hv8, -⟩
  have V8 := Lib.hid hv8
  obtain ⟨p3, hp3⟩ : ∃ p3, p2.supered ⟨ep', ro', he', ct', pg'⟩ = p3 := ⟨_, rfl⟩
  obtain ⟨er, her⟩ : ∃ er, p2.superE ⟨ep', ro', he', ct', pg'⟩ = er := ⟨_, rfl⟩
  rw [hp3] at V8 CE
  rw [her] at CE ⊢
  clear hv8 V7 hp3 her d0 d1 d2 d3 d4
  go_wp2_with fail
  refine (restart_live (W := w0) w8 T k e0 keep HL.out (by omega) ((HK.out.below (V8.out.below.mono B0.out.size)).outN (fun k hk => Nat.le_trans B0.out.size (V8.out.base k hk))) V8.out).mono ?_
  rintro e w9 ⟨rfl, F9, hv9, -⟩
  have V9 := Lib.hid hv9
  obtain ⟨p4, hp4⟩ : ∃ p4, p3.restarted keep = p4 := ⟨_, rfl⟩
  rw [hp4] at V9 CE
  clear hv9 V8 hp4
  go_wp2_with fail
  refine (choose_any w9 V9.out.dk).mono ?_
  rintro e w10 ⟨v10, rfl, s10, b10⟩
  rw [CE.out.1]
  obtain ⟨x, hx⟩ : ∃ x, p4.chooseS = x := ⟨_, rfl⟩
  rw [hx] at s10 CE
  obtain ⟨A10, c10, rfl, l10, _⟩ := s10
  obtain ⟨z1, z2, z3⟩ := uboxed b10 l10 x.ep x.ro x.he x.ct
  have HX := Lib.hid z2
  have HLx := Lib.hid z3
  have V11 := Lib.hid (V9.out.next z1)
  have hxl : x.pg.length ≤ 1000 := by
    have h1 : pg.length = n := AR.out.ls.intN
    have h2 : pg'.length = m := AR.out.lt.intN
    rcases CE.out.2 with h | ⟨h, _⟩
    · rw [h]; show pg'.length ≤ 1000; omega
    · rw [h]; show pg.length ≤ 1000; omega
  obtain ⟨q, hq⟩ : ∃ q, x.pg.length = q := ⟨_, rfl⟩
  rw [hq] at HX HLx V11 hxl ⊢
  clear z1 z2 z3 b10 l10 hx V9 hq
  go_upto_region 13 with fail
  generalize hw11 : w10.alloc (.cells #[.int .i64 x.ep, .int .i64 x.ro, .int .i64 x.he, .slice A10 q c10, .int .i64 x.ct] 25) = w11 at *
  clear hw11
  generalize w10.heap.size = r10 at *
  obtain ⟨x0, x1, x2, x3, x4⟩ := HX.out.cells
  obtain ⟨c0, c1, c2, c3, c4⟩ := (AR.out.kept V11.out.below).bs.cells
  go_wp2_with fail
  refine (usame_any x.ep x.ro x.he x.ct ep ro he ct A10 A q c10 n c x.pg pg w11 HLx.out (AR.out.kept V11.out.below).ls (by omega)).mono ?_
  rintro e w12 ⟨r1, rfl, hr1, b12⟩
  have R1 := Lib.hid hr1
  have V12 := Lib.hid (V11.out.next b12)
  have HX12 := Lib.hid (HX.out.kept b12)
  have HL12 := Lib.hid (HLx.out.kept b12)
  clear hr1 b12 V11 HX HLx x0 x1 x2 x3 x4 c0 c1 c2 c3 c4
  obtain ⟨x0, x1, x2, x3, x4⟩ := HX12.out.cells
  obtain ⟨d0, d1, d2, d3, d4⟩ := (AR.out.kept V12.out.below).bt.cells
  go_wp2_with fail
  refine (usame_any x.ep x.ro x.he x.ct ep' ro' he' ct' A10 B q c10 m d x.pg pg' w12 HL12.out (AR.out.kept V12.out.below).lt (by omega)).mono ?_
  rintro e w13 ⟨r2, rfl, hr2, b13⟩
  have R2 := Lib.hid hr2
  have V13 := Lib.hid (V12.out.next b13)
  have E13 := Lib.hid (B0.out.trans (V13.out.below.mono B0.out.size))
  clear hr2 b13 V12 HX12 HL12 x0 x1 x2 x3 x4 d0 d1 d2 d3 d4
  rcases CE.out.2 with h | ⟨h, h0⟩
  · have := R2.out h
    subst this
    go_wp2_with fail
    go_ret
    exact ⟨rfl, E13.out⟩
  · have := R1.out h
    subst this
    have hb : (er != 0) = true := by rw [bne_iff_ne]; exact h0
    cases r2
    all_goals
      go_wp2_with fail
      go_ret
      exact ⟨rfl, E13.out⟩

set_option maxRecDepth 100000 in
theorem lifted (os : Os) (started : os.Started) (H : Type) (enc : TypeId × Value → H) :
    ReturnsInHanded {} Try.checked os 6 .any (Rows.superCutsSpec.pre6 enc Try.prog Try.f6 Rows.superCutsRow.domain false)
      (Rows.superCutsSpec.post enc Try.prog Try.f6 false true false false) := by
  refine lift_law (C := Try.checked) (tb := 4) ownKnobs started (by kernel_rfl) Try.func6
    (ChangeSpec.witness6 (enc := enc) (C := Try.checked) false ⟨#[], #[.agg #[.int .i64 0, .int .i64 0, .int .i64 0, .slice none 0 0, .int .i64 0], .agg #[.int .i64 0, .int .i64 0, .int .i64 0, .slice none 0 0, .int .i64 0], .int .i64 0, .slice none 0 0], []⟩ 8 (by kernel_rfl) (by kernel_rfl) (by kernel_rfl) (by kernel_rfl))
    laidOut ?_ rfl rfl Try.underlying4 ?_ ?_
  · intro t ht
    rw [Try.params6] at ht
    simp only [List.mem_cons, List.not_mem_nil, or_false] at ht
    rcases ht with rfl | rfl | rfl | rfl <;> exact ⟨by kernel_rfl, of_decide_eq_true (by kernel_rfl)⟩
  · intro vs ds W p hA
    rw [Try.params6] at hA
    obtain ⟨v0, vs0, d0, ds0, p0, q0, ha, rfl, rfl, h0, r0⟩ := trodAll_cons hA
    obtain ⟨v1, vs1, d1, ds1, p1, q1, rfl, rfl, rfl, h1, r1⟩ := trodAll_cons r0
    obtain ⟨v2, vs2, d2, ds2, p2, q2, rfl, rfl, rfl, h2, r2⟩ := trodAll_cons r1
    obtain ⟨v3, vs3, d3, ds3, p3, q3, rfl, rfl, rfl, h3, r3⟩ := trodAll_cons r2
    obtain ⟨rfl, rfl, rfl⟩ := trodAll_nil r3
    rfl
  · intro W base args ds p hval hA
    rw [Try.params6] at hA hval
    obtain ⟨v0, vs0, d0, ds0, p0, q0, ha, rfl, rfl, h0, r0⟩ := trodAll_cons hA
    obtain ⟨v1, vs1, d1, ds1, p1, q1, rfl, rfl, rfl, h1, r1⟩ := trodAll_cons r0
    obtain ⟨v2, vs2, d2, ds2, p2, q2, rfl, rfl, rfl, h2, r2⟩ := trodAll_cons r1
    obtain ⟨v3, vs3, d3, ds3, p3, q3, rfl, rfl, rfl, h3, r3⟩ := trodAll_cons r2
    obtain ⟨rfl, rfl, rfl⟩ := trodAll_nil r3
    obtain rfl : args = #[v0, v1, v2, v3] := by cases args; simp_all
    obtain ⟨s0, A0, n0, c0, rfl, hs0, hi0⟩ := open_super (hval 0 _ v0 rfl rfl) h0
    obtain ⟨s1, A1, n1, c1, rfl, hs1, hi1⟩ := open_super (hval 1 _ v1 rfl rfl) h1
    obtain ⟨i2, rfl, lo2, hi2⟩ := open_i64 (hval 2 _ v2 rfl rfl) h2
    obtain ⟨A3, n3, c3, xs3, rfl, e3, hr3, y3⟩ := open_numsR (hval 3 _ v3 rfl rfl) h3
    exact walk s0 A0 n0 c0 hs0 hi0 s1 A1 n1 c1 hs1 hi1 i2 lo2 hi2 A3 n3 c3 xs3 e3 hr3 y3

/-- The statement. -/
theorem proved : Rows.SuperCutsSaid :=
  OpenClaim.holds_of_wide 6 Try.f6 rfl rfl rfl rfl rfl rfl rfl ⟨rfl, rfl, rfl, rfl, rfl⟩ rfl rfl rfl rfl rfl (by kernel_rfl) Try.func6 (by kernel_rfl)
    (of_decide_eq_true (by kernel_rfl)) (by unfold Func.isWrapper; first | (rw [if_pos (by decide +kernel)]; kernel_rfl) | (rw [if_neg (by decide +kernel)]; exact ⟨rfl, rfl⟩))
    (fun os started H enc _ => lifted os started H enc)
#print axioms proved
end Go.Proofs.Ytnmiccagkfpkiaa.superCuts
