/-
  SpaceCodes answers true, for every pages' lists and every parts: any lists' parts are the document's, and the lists that any parts tell, or the error, are the document's. Conditions: none.
-/
import Derived.Test.YtlldmefjhgahdaaRows
import Derived.Test.YtlldmefjhgahdaaZD3
import Derived.Test.YtlldmefjhgahdaaZD4
import Derived.Deep.CutBlock
import Derived.Deep.DeepCutAuto
import Derived.Deep.RegionHeld3
namespace Go.Proofs.Ytlldmefjhgahdaa.spaceCodes
open Go.ChangeShapes Go.WideShapes Go.ChangeAt Go.RowKit

theorem refEncode_h (s : SS) (h : Int) (A B : Option Addr) (n c m d : Nat) (w : World) (hh : s.hi = h) (hs : Sp w A n c B m d s) (hn : n ≤ 50000) (hm : m ≤ 50000) :
    Calls Try.prog 28 #[.agg #[.int .i64 h, .slice A n c, .slice B m d]] w (PartsEnd w s.enc) := by
  subst hh
  exact refEncode_any s A B n c m d w hs hn hm
theorem enc_small {s : SS} (hn : s.fr.length ≤ 300) (hm : s.pe.length ≤ 300) : s.enc.length ≤ 100000 := by
  have h1 := numB_length s.nums
  rw [SS.nums_len] at h1
  have := SS.cutB_len (numB s.nums).length (numB s.nums)
  have h2 : s.enc.length ≤ (numB s.nums).length := this
  omega
theorem dec_few {ps : List (List UInt8)} (h : ps.flatten.length ≤ 100000) : (SS.decS ps).fr.length ≤ 400000 ∧ (SS.decS ps).pe.length ≤ 400000 := by
  cases hd : SS.dec ps with
  | none =>
    rw [(decS_none hd).1]
    simp [SS.none]
  | some sx =>
    have h4 := (SS.dec_some hd).2
    have h5 := numB_length sx.nums
    rw [SS.nums_len, ← SS.enc_flat, h4] at h5
    rw [(decS_some hd).1]
    omega
theorem chainC {w1 wx w3 : World} (b : Below wx.heap.size wx w3) (h : Below w1.heap.size w1 wx) : Below w1.heap.size w1 w3 := h.trans (b.mono h.size)

set_option maxRecDepth 20000 in
set_option maxHeartbeats 6400000 in
theorem walk {W : World} (s : SS) (A : Option Addr) (n c : Nat) (B : Option Addr) (m d : Nat) (hs : Sp W A n c B m d s) (_ : In64 s.hi) (T : Option Addr) (k0 e0 : Nat) (xs : List Tx) (hk0 : xs.length = k0) (hT : Texts W W.heap.size T xs) (_ : k0 ≤ maxLen) :
    Calls Try.prog 5 #[.agg #[.int .i64 s.hi, .slice A n c, .slice B m d], .slice T k0 e0] W fun e W' => e = .returned (.bool true) ∧ Below W.heap.size W W' := by
  obtain ⟨h, hh⟩ : ∃ h, s.hi = h := ⟨_, rfl⟩
  rw [hh]
  have HH := Lib.hid hh
  have B0 := Lib.hid (below_one W (.cells #[.int .i64 h, .slice A n c, .slice B m d] 26))
  have HX := Lib.hid (box_new W (.int .i64 h) (.slice A n c) (.slice B m d))
  have HS := Lib.hid (hs.kept B0.out)
  have hP := (Texts.bps hT).kept B0.out
  obtain ⟨ps, hps⟩ : ∃ ps, xs.map Tx.l = ps := ⟨_, rfl⟩
  rw [hps] at hP
  have HP := Lib.hid hP
  have HPN : Hid (ps.length = k0) := Lib.hid (by rw [← hps, List.length_map]; exact hk0)
  have HFL := Lib.hid hs.fl
  have HPL := Lib.hid hs.pl
  clear hs hh hT hk0 hps hP
  go_enter Try.func5, Try.ntmps5
  go_upto_region 1 with fail
  generalize W.alloc (.cells #[.int .i64 h, .slice A n c, .slice B m d] 26) = w0 at *
  go_wp2_with fail
  refine (awake_any w0).mono ?_
  rintro e' w1 ⟨rfl, b1⟩
  have B1 := Lib.hid b1
  obtain ⟨a0, a1, a2⟩ := (HX.out.kept b1).cells
  clear b1
  go_wp2_with fail
  refine (few_any h A B n c m d w1).mono ?_
  rintro e' w2 ⟨rfl, b2⟩
  have B2 := Lib.hid (B1.out.trans (b2.mono B1.out.size))
  have BB := Lib.hid (B0.out.trans (B2.out.mono B0.out.size))
  clear a0 a1 a2 b2
  cases hfew : fewB n m with
  | false =>
    clear hfew
    go_wp2_with fail
    go_ret
    exact ⟨rfl, BB.out⟩
  | true =>
    obtain ⟨hn, hm⟩ := few_le hfew
    clear hfew
    go_wp2_with fail
    refine (short_any T k0 e0 ps w2 (HP.out.kept B2.out) HPN.out).mono ?_
    rintro e' w3 ⟨⟨r, rfl, hr⟩, rfl⟩
    cases r with
    | false =>
      clear hr
      go_wp2_with fail
      go_ret
      exact ⟨rfl, BB.out⟩
    | true =>
      obtain ⟨hk5, hsh⟩ := hr rfl
      have HFl : Hid (ps.flatten.length ≤ 100000) := by
        unfold Short at hsh
        rw [List.take_of_length_le (by rw [HPN.out]; exact Nat.le_refl _)] at hsh
        have := short_flat hsh
        have h2 := HPN.out
        exact Lib.hid (by omega)
      have HX2 := Lib.hid (HX.out.kept B2.out)
      have HS2 := Lib.hid (HS.out.kept B2.out)
      have HP2 := Lib.hid (HP.out.kept B2.out)
      have HDF := Lib.hid (dec_few HFl.out)
      clear hr hsh HX HS HP B1 B2 B0
      go_wp2_with fail
      refine (decode_any T k0 e0 ps w3 HP2.out HPN.out (by omega) HFl.out).mono ?_
      rintro e' w6 ⟨_, rfl, ⟨A6, n6, c6, B6, m6, d6, rfl, s6⟩, b6⟩
      obtain ⟨E, hE⟩ : ∃ E, SS.decE ps = E := ⟨_, rfl⟩
      obtain ⟨q, hq⟩ : ∃ q, SS.decS ps = q := ⟨_, rfl⟩
      rw [hE]
      rw [hq] at s6 ⊢
      have hq6 : n6 ≤ 400000 ∧ m6 ≤ 400000 := by
        have h1 := s6.fl
        have h2 := s6.pl
        have h3 := HDF.out
        rw [hq] at h3
        omega
      have HE := Lib.hid hE
      have HQ := Lib.hid hq
      obtain ⟨gq, hgq⟩ : ∃ gq, q.hi = gq := ⟨_, rfl⟩
      obtain ⟨z1, z2, z3⟩ := boxed b6 s6 gq
      have HX6 := Lib.hid z2
      have S6 := Lib.hid z3
      have Z6 := Lib.hid z1
      have HGq := Lib.hid hgq
      rw [hgq]
      clear s6 b6 hE hq z1 z2 z3 hgq
      go_upto_region 5 with fail
      generalize hw7 : w6.alloc (.cells #[.int .i64 gq, .slice A6 n6 c6, .slice B6 m6 d6] 26) = w7 at *
      clear hw7
      generalize w6.heap.size = r6 at *
      go_wp2_with fail
      refine (refDecode_any T k0 e0 ps w7 (HP2.out.kept Z6.out) HPN.out (by omega) HFl.out).mono ?_
      rintro e' w8 ⟨_, rfl, ⟨A8, n8, c8, B8, m8, d8, rfl, s8⟩, b8⟩
      rw [HE.out]
      rw [HQ.out] at s8 ⊢
      obtain ⟨z1, z2, z3⟩ := boxed b8 s8 gq
      have HX8 := Lib.hid z2
      have S8 := Lib.hid z3
      have Z8 := Lib.hid z1
      rw [HGq.out]
      clear s8 b8 z1 z2 z3
      go_upto_region 6 with fail
      generalize hw9 : w8.alloc (.cells #[.int .i64 gq, .slice A8 n8 c8, .slice B8 m8 d8] 26) = w9 at *
      clear hw9
      generalize w8.heap.size = r8 at *
      have Z9 := Lib.hid (chainC Z8.out Z6.out)
      have HX9 := Lib.hid (HX6.out.kept Z8.out)
      have S9 := Lib.hid (S6.out.kept Z8.out)
      have HXz := Lib.hid (HX2.out.kept Z9.out)
      have HSz := Lib.hid (HS2.out.kept Z9.out)
      have BZ := Lib.hid (chainC Z9.out BB.out)
      obtain ⟨M, hM⟩ : ∃ M, s.enc.length = M := ⟨_, rfl⟩
      have hML : M ≤ 1000000 := by
        rw [← hM]
        have := enc_small (s := s) (by have := HFL.out; omega) (by have := HPL.out; omega)
        omega
      have HM := Lib.hid hM
      have KK : Hid (∀ X : World, Below w9.heap.size w9 X → X.cell? ⟨W.heap.size, 0, none⟩ = some (.int .i64 h) ∧ X.cell? ⟨W.heap.size, 1, none⟩ = some (.slice A n c) ∧ X.cell? ⟨W.heap.size, 2, none⟩ = some (.slice B m d)) := Lib.hid (fun X hb => (HXz.out.kept hb).cells)
      have KS : Hid (∀ X : World, Below w9.heap.size w9 X → Sp X A n c B m d s) := Lib.hid (fun X hb => HSz.out.kept hb)
      have BD := Lib.hid ((Below.refl w9.heap.size w9).drew)
      have K0 := KK.out _ BD.out
      have hn5 : n ≤ 50000 := by omega
      have hm5 : m ≤ 50000 := by omega
      clear hM
      go_region_held3 (fun w' => w'.cell? ⟨W.heap.size, 0, none⟩ = some (.int .i64 h) ∧ w'.cell? ⟨W.heap.size, 1, none⟩ = some (.slice A n c) ∧ w'.cell? ⟨W.heap.size, 2, none⟩ = some (.slice B m d))
        (first | exact K3 | exact K2 | exact K1 | exact K0)
        (first
          | (go_at_call 27; refine (encode_any s h A B n c m d _ HH.out (KS.out _ (by first | exact Ba.out | exact BD.out)) hn5 hm5).mono ?_; rintro e1 wa ⟨Aa, ca, rfl, pa, ba⟩; rw [HM.out]; have Pa := Lib.hid pa; have Qa := Lib.hid ba; first | (have Bc := Lib.hid (chainC ba Ba.out); have K2 := KK.out _ Bc.out) | (have Ba := Lib.hid (chainC ba BD.out); have K1 := KK.out _ Ba.out))
          | (go_at_call 28; refine (refEncode_h s h A B n c m d _ HH.out (KS.out _ (by first | exact Ba.out | exact BD.out)) hn5 hm5).mono ?_; rintro e1 wb ⟨Ab, cb, rfl, pb, bb⟩; rw [HM.out]; have Pb := Lib.hid pb; have Qb := Lib.hid bb; first | (have Bc := Lib.hid (chainC bb Ba.out); have K2 := KK.out _ Bc.out) | (have Ba := Lib.hid (chainC bb BD.out); have K1 := KK.out _ Ba.out))
          | (go_at_call 26; refine (parts_any Aa Ab M ca M cb s.enc s.enc _ (by first | exact Pa.out | exact Pa.out.kept Qb.out) (by first | exact Pb.out | exact Pb.out.kept Qa.out) HM.out HM.out hML).mono ?_; rintro e1 wc ⟨rfl, bc⟩; rw [show decide (s.enc = s.enc) = true from decide_eq_true rfl]; have Bd := Lib.hid (chainC bc Bc.out); have K3 := KK.out _ Bd.out)
          | fail)
      all_goals (
        have SA := Lib.hid (S9.out.kept Bd.out)
        have SB := Lib.hid (S8.out.kept Bd.out)
        have BE := Lib.hid (chainC Bd.out BZ.out)
        obtain ⟨a0, a1, a2⟩ := (HX9.out.kept Bd.out).cells
        obtain ⟨f0, f1, f2⟩ := (HX8.out.kept Bd.out).cells
        clear K0 K1 K2 K3
        go_wp2_with fail
        refine (same_any q q gq gq A6 B6 A8 B8 n6 c6 m6 d6 n8 c8 m8 d8 _ HGq.out HGq.out SA.out SB.out hq6.1 hq6.2).mono ?_
        rintro e' wl ⟨rfl, bl⟩
        rw [sameS_refl]
        have BL := Lib.hid (chainC bl BE.out)
        clear bl a0 a1 a2 f0 f1 f2
        go_wp2_with fail
        go_ret
        exact ⟨rfl, BL.out⟩)

set_option maxRecDepth 100000 in
theorem lifted (os : Os) (started : os.Started) (H : Type) (enc : TypeId × Value → H) :
    ReturnsInHanded {} Try.checked os 5 .any (Rows.spaceCodesSpec.pre6 enc Try.prog Try.f5 Rows.spaceCodesRow.domain false)
      (Rows.spaceCodesSpec.post enc Try.prog Try.f5 false true false false) := by
  refine lift_law (C := Try.checked) (tb := 4) ownKnobs started (by kernel_rfl) Try.func5
    (ChangeSpec.witness6 (enc := enc) (C := Try.checked) false ⟨#[], #[.agg #[.int .i64 0, .slice none 0 0, .slice none 0 0], .slice none 0 0], []⟩ 8 (by kernel_rfl) (by kernel_rfl) (by kernel_rfl) (by kernel_rfl))
    laidOut ?_ rfl rfl Try.underlying4 ?_ ?_
  · intro t ht
    rw [Try.params5] at ht
    simp only [List.mem_cons, List.not_mem_nil, or_false] at ht
    rcases ht with rfl | rfl <;> exact ⟨by kernel_rfl, of_decide_eq_true (by kernel_rfl)⟩
  · intro vs ds W p hA
    rw [Try.params5] at hA
    obtain ⟨v0, vs0, d0, ds0, p0, q0, ha, rfl, rfl, h0, r0⟩ := trodAll_cons hA
    obtain ⟨v1, vs1, d1, ds1, p1, q1, rfl, rfl, rfl, h1, r1⟩ := trodAll_cons r0
    obtain ⟨rfl, rfl, rfl⟩ := trodAll_nil r1
    rfl
  · intro W base args ds p hval hA
    rw [Try.params5] at hA hval
    obtain ⟨v0, vs0, d0, ds0, p0, q0, ha, rfl, rfl, h0, r0⟩ := trodAll_cons hA
    obtain ⟨v1, vs1, d1, ds1, p1, q1, rfl, rfl, rfl, h1, r1⟩ := trodAll_cons r0
    obtain ⟨rfl, rfl, rfl⟩ := trodAll_nil r1
    obtain rfl : args = #[v0, v1] := by cases args; simp_all
    obtain ⟨s0, A0, n0, c0, B0, m0, e0, rfl, hs0, hi0⟩ := open_space (hval 0 _ v0 rfl rfl) h0
    obtain ⟨A1, n1, c1, xs1, rfl, e1, hr1, y1⟩ := open_texts (hval 1 _ v1 rfl rfl) h1
    exact walk s0 A0 n0 c0 B0 m0 e0 hs0 hi0 A1 n1 c1 xs1 e1 hr1 y1

/-- The statement. -/
theorem proved : Rows.SpaceCodesSaid :=
  OpenClaim.holds_of_wide 5 Try.f5 rfl rfl rfl rfl rfl rfl rfl ⟨rfl, rfl, rfl, rfl, rfl⟩ rfl rfl rfl rfl rfl (by kernel_rfl) Try.func5 (by kernel_rfl)
    (of_decide_eq_true (by kernel_rfl)) (by unfold Func.isWrapper; first | (rw [if_pos (by decide +kernel)]; kernel_rfl) | (rw [if_neg (by decide +kernel)]; exact ⟨rfl, rfl⟩))
    (fun os started H enc _ => lifted os started H enc)
#print axioms proved
end Go.Proofs.Ytlldmefjhgahdaa.spaceCodes
