/-
  SpaceBack answers true, for every pages' lists and every parts: lists that may be are decoded from their parts as themselves, and parts that are lists are theirs. Conditions: none.
-/
import Derived.Test.YtlldmefjhgahdaaRows
import Derived.Test.YtlldmefjhgahdaaZC
import Derived.Deep.CutBlock
import Derived.Deep.DeepCutAuto
namespace Go.Proofs.Ytlldmefjhgahdaa.spaceBack
open Go.ChangeShapes Go.WideShapes Go.ChangeAt Go.RowKit

/-- One of the first k epochs is greater than what is read. -/
def Large (s : SS) (k : Nat) : Bool := (s.pe.take k).any (fun x => decide (2147483647 < x.1))
theorem Large.more {s : SS} {k : Nat} {x y : Int} (hv : s.pe[k]? = some (x, y)) : Large s (k + 1) = (Large s k || decide (2147483647 < x)) := by
  unfold Large
  rw [List.take_add_one, hv, Option.toList_some, List.any_append]
  simp
theorem Large.no {s : SS} {n : Nat} (h : Large s n = false) (hn : s.pe.length ≤ n) : ∀ x ∈ s.pe, x.1 ≤ SS.topN := by
  unfold Large at h
  rw [List.take_of_length_le hn] at h
  intro x hx
  have := List.any_eq_false.1 h x hx
  unfold SS.topN
  simpa using this
theorem dec_self {s : SS} (hf : s.check 2147483647 = 0) (hn : s.fr.length ≤ 300) (hm : s.pe.length ≤ 300) (hl : ∀ x ∈ s.pe, x.1 ≤ SS.topN) : SS.decS s.enc = s ∧ SS.decE s.enc = 0 :=
  decS_some (SS.dec_enc (SS.check_fine hf) (by omega) (by omega) hl)
theorem enc_small {s : SS} (hn : s.fr.length ≤ 300) (hm : s.pe.length ≤ 300) : s.enc.flatten.length ≤ 100000 ∧ s.enc.length ≤ 100000 := by
  have h1 := numB_length s.nums
  rw [SS.nums_len] at h1
  refine ⟨by rw [SS.enc_flat]; omega, ?_⟩
  have := SS.cutB_len (numB s.nums).length (numB s.nums)
  have h2 : s.enc.length ≤ (numB s.nums).length := this
  omega

set_option maxRecDepth 20000 in
set_option maxHeartbeats 6400000 in
theorem walk {W : World} (s : SS) (A : Option Addr) (n c : Nat) (B : Option Addr) (m d : Nat) (hs : Sp W A n c B m d s) (_ : In64 s.hi) (T : Option Addr) (k0 e0 : Nat) (xs : List Tx) (hk0 : xs.length = k0) (hT : Texts W W.heap.size T xs) (_ : k0 ≤ maxLen) :
    Calls Try.prog 9 #[.agg #[.int .i64 s.hi, .slice A n c, .slice B m d], .slice T k0 e0] W fun e W' => e = .returned (.bool true) ∧ Below W.heap.size W W' := by
  obtain ⟨h, hh⟩ : ∃ h, s.hi = h := ⟨_, rfl⟩
  rw [hh]
  have HH := Lib.hid hh
  have B0 := Lib.hid (below_one W (.cells #[.int .i64 h, .slice A n c, .slice B m d] 26))
  have HX := Lib.hid (box_new W (.int .i64 h) (.slice A n c) (.slice B m d))
  have HS := Lib.hid (hs.kept B0.out)
  have hP := (Texts.bps hT).kept B0.out
  obtain ⟨ps, hps⟩ : ∃ ps, xs.map Tx.l = ps := ⟨_, rfl⟩
  rw [hps] at hP
  have HP := Lib.hid hP
  have HPN : Hid (ps.length = k0) := Lib.hid (by rw [← hps, List.length_map]; exact hk0)
  have HFL := Lib.hid hs.fl
  have HPL := Lib.hid hs.pl
  clear hs hh hT hk0 hps hP
  go_enter Try.func9, Try.ntmps9
  go_upto_region 1 with fail
  generalize W.alloc (.cells #[.int .i64 h, .slice A n c, .slice B m d] 26) = w0 at *
  go_wp2_with fail
  refine (awake_any w0).mono ?_
  rintro e' w1 ⟨rfl, b1⟩
  have B1 := Lib.hid b1
  obtain ⟨a0, a1, a2⟩ := (HX.out.kept b1).cells
  clear b1
  go_wp2_with fail
  refine (few_any h A B n c m d w1).mono ?_
  rintro e' w2 ⟨rfl, b2⟩
  have B2 := Lib.hid (B1.out.trans (b2.mono B1.out.size))
  have BB := Lib.hid (B0.out.trans (B2.out.mono B0.out.size))
  clear a0 a1 a2 b2
  cases hfew : fewB n m with
  | false =>
    clear hfew
    go_wp2_with fail
    go_ret
    exact ⟨rfl, BB.out⟩
  | true =>
    obtain ⟨hn, hm⟩ := few_le hfew
    clear hfew
    go_wp2_with fail
    refine (short_any T k0 e0 ps w2 (HP.out.kept B2.out) HPN.out).mono ?_
    rintro e' w3 ⟨⟨r, rfl, hr⟩, rfl⟩
    cases r with
    | false =>
      clear hr
      go_wp2_with fail
      go_ret
      exact ⟨rfl, BB.out⟩
    | true =>
      obtain ⟨hk5, hsh⟩ := hr rfl
      have HFl : Hid (ps.flatten.length ≤ 100000) := by
        unfold Short at hsh
        rw [List.take_of_length_le (by rw [HPN.out]; exact Nat.le_refl _)] at hsh
        have := short_flat hsh
        have h2 := HPN.out
        exact Lib.hid (by omega)
      have HX2 := Lib.hid (HX.out.kept B2.out)
      have HS2 := Lib.hid (HS.out.kept B2.out)
      have HP2 := Lib.hid (HP.out.kept B2.out)
      clear hr hsh HX HS HP B1 B2 B0
      obtain ⟨a0, a1, a2⟩ := HX2.out.cells
      go_wp2_with fail
      refine (check_any s h 2147483647 A B n c m d w3 HH.out HS2.out (by omega) (by omega)).mono ?_
      rintro e' w4 ⟨rfl, b4⟩
      have Z4 := Lib.hid b4
      clear b4 a0 a1 a2
      rcases check_or s 2147483647 with hk | hk
      rotate_left
      · rw [hk]
        clear hk
        go_wp2_with fail
        obtain ⟨wz, hwz⟩ : ∃ wz, wz = w4 := ⟨_, rfl⟩
        subst hwz
        have Z := Z4
        refine (decode_any T k0 e0 ps wz (HP2.out.kept Z.out) HPN.out (by omega) HFl.out).mono ?_
        rintro e' wd ⟨_, rfl, ⟨Ad, nd, cd, Bd, md, dd, rfl, sd⟩, bd⟩
        have BD := Lib.hid (BB.out.trans ((Z.out.trans (bd.mono Z.out.size)).mono BB.out.size))
        have ZD := Lib.hid (Z.out.trans (bd.mono Z.out.size))
        cases hd : SS.dec ps with
        | none =>
          have HE := (decS_none hd).2
          have HSd := (decS_none hd).1
          rw [HE]
          rw [HSd] at sd ⊢
          obtain rfl : nd = 0 := sd.fl.symm
          clear sd bd hd HE HSd
          go_wp2_with fail
          go_ret
          exact ⟨rfl, BD.out.alloc BD.out.size _⟩
        | some sx =>
          have HE := (decS_some hd).2
          have HSd := (decS_some hd).1
          rw [HE]
          rw [HSd] at sd ⊢
          have HDec := Lib.hid (SS.dec_some hd)
          have hlen : nd ≤ 50000 ∧ md ≤ 50000 := by
            have h1 := numB_length sx.nums
            rw [SS.nums_len, ← SS.enc_flat, HDec.out.2] at h1
            have h2 := HFl.out
            have h3 := sd.fl
            have h4 := sd.pl
            omega
          obtain ⟨gx, hgx⟩ : ∃ gx, sx.hi = gx := ⟨_, rfl⟩
          obtain ⟨z1, z2, z3⟩ := boxed bd sd gx
          have HXd := Lib.hid z2
          have Sd := Lib.hid z3
          have Zd := Lib.hid z1
          have HGx := Lib.hid hgx
          rw [hgx]
          clear sd bd hd HE HSd z1 z2 z3 hgx
          go_upto_region 15 with fail
          generalize wd.alloc (.cells #[.int .i64 gx, .slice Ad nd cd, .slice Bd md dd] 26) = we at *
          obtain ⟨a0, a1, a2⟩ := HXd.out.cells
          go_wp2_with fail
          refine (encode_any sx gx Ad Bd nd cd md dd we HGx.out Sd.out hlen.1 hlen.2).mono ?_
          rintro e' wf ⟨Af, cf, rfl, pf, bf⟩
          have Zf := Lib.hid (Z.out.trans ((Zd.out.trans (bf.mono Zd.out.size)).mono Z.out.size))
          obtain ⟨M2, hM2⟩ : ∃ M, sx.enc.length = M := ⟨_, rfl⟩
          rw [hM2]
          have hML2 : M2 ≤ 1000000 := by
            have h1 := congrArg List.length HDec.out.2
            have h2 := HPN.out
            omega
          have HM2 := Lib.hid hM2
          have PF := Lib.hid pf
          have HXf := Lib.hid (HXd.out.kept bf)
          have Sf := Lib.hid (Sd.out.kept bf)
          clear pf hM2 bf a0 a1 a2
          go_wp2_with fail
          refine (parts_any Af T M2 cf k0 e0 sx.enc ps wf PF.out (HP2.out.kept Zf.out) HM2.out HPN.out hML2).mono ?_
          rintro e' wg ⟨rfl, bg⟩
          rw [decide_eq_true HDec.out.2]
          have HXg := Lib.hid (HXf.out.kept bg)
          have Sg := Lib.hid (Sf.out.kept bg)
          have Zg := Lib.hid (Zf.out.trans (bg.mono Zf.out.size))
          clear bg
          obtain ⟨a0, a1, a2⟩ := HXg.out.cells
          go_wp2_with fail
          have kc := check_any sx gx 2147483647 Ad Bd nd cd md dd wg HGx.out Sg.out (by omega) (by omega)
          rw [show sx.check 2147483647 = 0 from HDec.out.1] at kc
          refine kc.mono ?_
          rintro e' wh ⟨rfl, bh⟩
          have BH := Lib.hid (BB.out.trans ((Zg.out.trans (bh.mono Zg.out.size)).mono BB.out.size))
          clear kc bh a0 a1 a2
          go_wp2_with fail
          go_ret
          exact ⟨rfl, BH.out⟩
      rw [hk]
      have HK := Lib.hid hk
      clear hk
      obtain ⟨a0, a1, a2⟩ := (HX2.out.kept Z4.out).cells
      go_wp2_with fail
      clear a0 a1 a2
      refine (encode_any s h A B n c m d w4 HH.out (HS2.out.kept Z4.out) (by omega) (by omega)).mono ?_
      rintro e' w5 ⟨A5, c5, rfl, p5, b5⟩
      have HSm := Lib.hid (enc_small (s := s) (by have := HFL.out; omega) (by have := HPL.out; omega))
      obtain ⟨M, hM⟩ : ∃ M, s.enc.length = M := ⟨_, rfl⟩
      rw [hM]
      have hML : M ≤ 100000 := by rw [← hM]; exact HSm.out.2
      have HM := Lib.hid hM
      have P5 := Lib.hid p5
      have Z5 := Lib.hid (Z4.out.trans (b5.mono Z4.out.size))
      clear hM p5 b5
      go_wp2_with fail
      refine (decode_any A5 M c5 s.enc w5 P5.out HM.out hML HSm.out.1).mono ?_
      rintro e' w6 ⟨_, rfl, ⟨A6, n6, c6, B6, m6, d6, rfl, s6⟩, b6⟩
      obtain ⟨E, hE⟩ : ∃ E, SS.decE s.enc = E := ⟨_, rfl⟩
      obtain ⟨q, hq⟩ : ∃ q, SS.decS s.enc = q := ⟨_, rfl⟩
      rw [hE]
      rw [hq] at s6 ⊢
      have HE := Lib.hid hE
      have HQ := Lib.hid hq
      have hq6 : n6 ≤ 400000 ∧ m6 ≤ 400000 := by
        have h1 := s6.fl
        have h2 := s6.pl
        cases hd : SS.dec s.enc with
        | none =>
          have h3 := (decS_none hd).1
          rw [hq] at h3
          rw [h3] at h1 h2
          simp [SS.none] at h1 h2
          omega
        | some sx =>
          have h3 := (decS_some hd).1
          rw [hq] at h3
          have h4 := (SS.dec_some hd).2
          have h5 := numB_length sx.nums
          rw [SS.nums_len, ← SS.enc_flat, h4] at h5
          have h6 := HSm.out.1
          rw [h3] at h1 h2
          omega
      obtain ⟨gq, hgq⟩ : ∃ gq, q.hi = gq := ⟨_, rfl⟩
      obtain ⟨z1, z2, z3⟩ := boxed b6 s6 gq
      have HX6 := Lib.hid z2
      have S6 := Lib.hid z3
      have Z6 := Lib.hid (Z5.out.trans (z1.mono Z5.out.size))
      have HGq := Lib.hid hgq
      rw [hgq]
      clear s6 b6 hE hq z1 z2 z3 hgq
      go_upto_region 6 with fail
      generalize w6.alloc (.cells #[.int .i64 gq, .slice A6 n6 c6, .slice B6 m6 d6] 26) = w7 at *
      obtain ⟨a0, a1, a2⟩ := HX6.out.cells
      obtain ⟨f0, f1, f2⟩ := (HX2.out.kept Z6.out).cells
      go_wp2_with fail
      refine (same_any q s gq h A6 B6 A B n6 c6 m6 d6 n c m d w7 HGq.out HH.out S6.out (HS2.out.kept Z6.out) hq6.1 hq6.2).mono ?_
      rintro e' w8 ⟨rfl, b8⟩
      have Z8 := Lib.hid (Z6.out.trans (b8.mono Z6.out.size))
      obtain ⟨R, hR⟩ : ∃ R, sameS q s = R := ⟨_, rfl⟩
      rw [hR]
      have HR := Lib.hid hR
      have HXw := Lib.hid (HX2.out.kept Z8.out)
      have HSw := Lib.hid (HS2.out.kept Z8.out)
      clear b8 hR a0 a1 a2 f0 f1 f2
      obtain ⟨f0, f1, f2⟩ := HXw.out.cells
      go_wp2_with fail
      go_loopw [9, 10] (fun v i wk => ∃ k : Nat, k ≤ m ∧ i = .int .i64 k ∧ v = .bool (Large s k) ∧ wk = w8) (fun _ i _ => m - (intOf i).toNat)
      case atStart => exact ⟨0, Nat.zero_le _, rfl, rfl, rfl⟩
      case round =>
        obtain ⟨k, hkm, rfl, rfl, hw⟩ := hrel
        have hw' := hw.symm
        subst hw'
        clear hw
        by_cases hlt : k < m
        · obtain ⟨b, off, x, y, rfl, hv, c0, c1⟩ := HSw.out.pe.prAt hlt
          have HMo := Lib.hid (Large.more hv)
          clear hv
          cases hL : Large s k with
          | true =>
            have HL := Lib.hid hL
            clear hL
            go_wp2_with fail
            go_roundw
            case rel => exact ⟨k + 1, by omega, by go_num, by rw [HMo.out, HL.out]; rfl, trivial⟩
            case measure => simp [intOf]; omega
          | false =>
            have HL := Lib.hid hL
            clear hL
            go_wp2_with fail
            go_roundw
            case rel => exact ⟨k + 1, by omega, by go_num, by rw [HMo.out, HL.out]; rfl, trivial⟩
            case measure => simp [intOf]; omega
        · obtain rfl : m = k := by omega
          cases hL : Large s m with
          | true =>
            clear hL
            go_wp2_with fail
            obtain ⟨wz, hwz⟩ : ∃ wz, wz = w8 := ⟨_, rfl⟩
            subst hwz
            have Z := Z8
            refine (decode_any T k0 e0 ps wz (HP2.out.kept Z.out) HPN.out (by omega) HFl.out).mono ?_
            rintro e' wd ⟨_, rfl, ⟨Ad, nd, cd, Bd, md, dd, rfl, sd⟩, bd⟩
            have BD := Lib.hid (BB.out.trans ((Z.out.trans (bd.mono Z.out.size)).mono BB.out.size))
            have ZD := Lib.hid (Z.out.trans (bd.mono Z.out.size))
            cases hd : SS.dec ps with
            | none =>
              have HE := (decS_none hd).2
              have HSd := (decS_none hd).1
              rw [HE]
              rw [HSd] at sd ⊢
              obtain rfl : nd = 0 := sd.fl.symm
              clear sd bd hd HE HSd
              go_wp2_with fail
              go_ret
              exact ⟨rfl, BD.out.alloc BD.out.size _⟩
            | some sx =>
              have HE := (decS_some hd).2
              have HSd := (decS_some hd).1
              rw [HE]
              rw [HSd] at sd ⊢
              have HDec := Lib.hid (SS.dec_some hd)
              have hlen : nd ≤ 50000 ∧ md ≤ 50000 := by
                have h1 := numB_length sx.nums
                rw [SS.nums_len, ← SS.enc_flat, HDec.out.2] at h1
                have h2 := HFl.out
                have h3 := sd.fl
                have h4 := sd.pl
                omega
              obtain ⟨gx, hgx⟩ : ∃ gx, sx.hi = gx := ⟨_, rfl⟩
              obtain ⟨z1, z2, z3⟩ := boxed bd sd gx
              have HXd := Lib.hid z2
              have Sd := Lib.hid z3
              have Zd := Lib.hid z1
              have HGx := Lib.hid hgx
              rw [hgx]
              clear sd bd hd HE HSd z1 z2 z3 hgx
              go_upto_region 15 with fail
              generalize wd.alloc (.cells #[.int .i64 gx, .slice Ad nd cd, .slice Bd md dd] 26) = we at *
              obtain ⟨a0, a1, a2⟩ := HXd.out.cells
              go_wp2_with fail
              refine (encode_any sx gx Ad Bd nd cd md dd we HGx.out Sd.out hlen.1 hlen.2).mono ?_
              rintro e' wf ⟨Af, cf, rfl, pf, bf⟩
              have Zf := Lib.hid (Z.out.trans ((Zd.out.trans (bf.mono Zd.out.size)).mono Z.out.size))
              obtain ⟨M2, hM2⟩ : ∃ M, sx.enc.length = M := ⟨_, rfl⟩
              rw [hM2]
              have hML2 : M2 ≤ 1000000 := by
                have h1 := congrArg List.length HDec.out.2
                have h2 := HPN.out
                omega
              have HM2 := Lib.hid hM2
              have PF := Lib.hid pf
              have HXf := Lib.hid (HXd.out.kept bf)
              have Sf := Lib.hid (Sd.out.kept bf)
              clear pf hM2 bf a0 a1 a2
              go_wp2_with fail
              refine (parts_any Af T M2 cf k0 e0 sx.enc ps wf PF.out (HP2.out.kept Zf.out) HM2.out HPN.out hML2).mono ?_
              rintro e' wg ⟨rfl, bg⟩
              rw [decide_eq_true HDec.out.2]
              have HXg := Lib.hid (HXf.out.kept bg)
              have Sg := Lib.hid (Sf.out.kept bg)
              have Zg := Lib.hid (Zf.out.trans (bg.mono Zf.out.size))
              clear bg
              obtain ⟨a0, a1, a2⟩ := HXg.out.cells
              go_wp2_with fail
              have kc := check_any sx gx 2147483647 Ad Bd nd cd md dd wg HGx.out Sg.out (by omega) (by omega)
              rw [show sx.check 2147483647 = 0 from HDec.out.1] at kc
              refine kc.mono ?_
              rintro e' wh ⟨rfl, bh⟩
              have BH := Lib.hid (BB.out.trans ((Zg.out.trans (bh.mono Zg.out.size)).mono BB.out.size))
              clear kc bh a0 a1 a2
              go_wp2_with fail
              go_ret
              exact ⟨rfl, BH.out⟩
          | false =>
            have hde := dec_self HK.out (by have := HFL.out; omega) (by have := HPL.out; omega) (Large.no hL (by rw [HPL.out]; exact Nat.le_refl _))
            obtain rfl : E = 0 := by rw [← HE.out]; exact hde.2
            obtain rfl : R = true := by rw [← HR.out, ← HQ.out, hde.1]; exact sameS_refl s
            clear hL hde
            go_wp2_with fail
            obtain ⟨wz, hwz⟩ : ∃ wz, wz = w8 := ⟨_, rfl⟩
            subst hwz
            have Z := Z8
            refine (decode_any T k0 e0 ps wz (HP2.out.kept Z.out) HPN.out (by omega) HFl.out).mono ?_
            rintro e' wd ⟨_, rfl, ⟨Ad, nd, cd, Bd, md, dd, rfl, sd⟩, bd⟩
            have BD := Lib.hid (BB.out.trans ((Z.out.trans (bd.mono Z.out.size)).mono BB.out.size))
            have ZD := Lib.hid (Z.out.trans (bd.mono Z.out.size))
            cases hd : SS.dec ps with
            | none =>
              have HE := (decS_none hd).2
              have HSd := (decS_none hd).1
              rw [HE]
              rw [HSd] at sd ⊢
              obtain rfl : nd = 0 := sd.fl.symm
              clear sd bd hd HE HSd
              go_wp2_with fail
              go_ret
              exact ⟨rfl, BD.out.alloc BD.out.size _⟩
            | some sx =>
              have HE := (decS_some hd).2
              have HSd := (decS_some hd).1
              rw [HE]
              rw [HSd] at sd ⊢
              have HDec := Lib.hid (SS.dec_some hd)
              have hlen : nd ≤ 50000 ∧ md ≤ 50000 := by
                have h1 := numB_length sx.nums
                rw [SS.nums_len, ← SS.enc_flat, HDec.out.2] at h1
                have h2 := HFl.out
                have h3 := sd.fl
                have h4 := sd.pl
                omega
              obtain ⟨gx, hgx⟩ : ∃ gx, sx.hi = gx := ⟨_, rfl⟩
              obtain ⟨z1, z2, z3⟩ := boxed bd sd gx
              have HXd := Lib.hid z2
              have Sd := Lib.hid z3
              have Zd := Lib.hid z1
              have HGx := Lib.hid hgx
              rw [hgx]
              clear sd bd hd HE HSd z1 z2 z3 hgx
              go_upto_region 15 with fail
              generalize wd.alloc (.cells #[.int .i64 gx, .slice Ad nd cd, .slice Bd md dd] 26) = we at *
              obtain ⟨a0, a1, a2⟩ := HXd.out.cells
              go_wp2_with fail
              refine (encode_any sx gx Ad Bd nd cd md dd we HGx.out Sd.out hlen.1 hlen.2).mono ?_
              rintro e' wf ⟨Af, cf, rfl, pf, bf⟩
              have Zf := Lib.hid (Z.out.trans ((Zd.out.trans (bf.mono Zd.out.size)).mono Z.out.size))
              obtain ⟨M2, hM2⟩ : ∃ M, sx.enc.length = M := ⟨_, rfl⟩
              rw [hM2]
              have hML2 : M2 ≤ 1000000 := by
                have h1 := congrArg List.length HDec.out.2
                have h2 := HPN.out
                omega
              have HM2 := Lib.hid hM2
              have PF := Lib.hid pf
              have HXf := Lib.hid (HXd.out.kept bf)
              have Sf := Lib.hid (Sd.out.kept bf)
              clear pf hM2 bf a0 a1 a2
              go_wp2_with fail
              refine (parts_any Af T M2 cf k0 e0 sx.enc ps wf PF.out (HP2.out.kept Zf.out) HM2.out HPN.out hML2).mono ?_
              rintro e' wg ⟨rfl, bg⟩
              rw [decide_eq_true HDec.out.2]
              have HXg := Lib.hid (HXf.out.kept bg)
              have Sg := Lib.hid (Sf.out.kept bg)
              have Zg := Lib.hid (Zf.out.trans (bg.mono Zf.out.size))
              clear bg
              obtain ⟨a0, a1, a2⟩ := HXg.out.cells
              go_wp2_with fail
              have kc := check_any sx gx 2147483647 Ad Bd nd cd md dd wg HGx.out Sg.out (by omega) (by omega)
              rw [show sx.check 2147483647 = 0 from HDec.out.1] at kc
              refine kc.mono ?_
              rintro e' wh ⟨rfl, bh⟩
              have BH := Lib.hid (BB.out.trans ((Zg.out.trans (bh.mono Zg.out.size)).mono BB.out.size))
              clear kc bh a0 a1 a2
              go_wp2_with fail
              go_ret
              exact ⟨rfl, BH.out⟩
set_option maxRecDepth 100000 in
theorem lifted (os : Os) (started : os.Started) (H : Type) (enc : TypeId × Value → H) :
    ReturnsInHanded {} Try.checked os 9 .any (Rows.spaceBackSpec.pre6 enc Try.prog Try.f9 Rows.spaceBackRow.domain false)
      (Rows.spaceBackSpec.post enc Try.prog Try.f9 false true false false) := by
  refine lift_law (C := Try.checked) (tb := 4) ownKnobs started (by kernel_rfl) Try.func9
    (ChangeSpec.witness6 (enc := enc) (C := Try.checked) false ⟨#[], #[.agg #[.int .i64 0, .slice none 0 0, .slice none 0 0], .slice none 0 0], []⟩ 8 (by kernel_rfl) (by kernel_rfl) (by kernel_rfl) (by kernel_rfl))
    laidOut ?_ rfl rfl Try.underlying4 ?_ ?_
  · intro t ht
    rw [Try.params9] at ht
    simp only [List.mem_cons, List.not_mem_nil, or_false] at ht
    rcases ht with rfl | rfl <;> exact ⟨by kernel_rfl, of_decide_eq_true (by kernel_rfl)⟩
  · intro vs ds W p hA
    rw [Try.params9] at hA
    obtain ⟨v0, vs0, d0, ds0, p0, q0, ha, rfl, rfl, h0, r0⟩ := trodAll_cons hA
    obtain ⟨v1, vs1, d1, ds1, p1, q1, rfl, rfl, rfl, h1, r1⟩ := trodAll_cons r0
    obtain ⟨rfl, rfl, rfl⟩ := trodAll_nil r1
    rfl
  · intro W base args ds p hval hA
    rw [Try.params9] at hA hval
    obtain ⟨v0, vs0, d0, ds0, p0, q0, ha, rfl, rfl, h0, r0⟩ := trodAll_cons hA
    obtain ⟨v1, vs1, d1, ds1, p1, q1, rfl, rfl, rfl, h1, r1⟩ := trodAll_cons r0
    obtain ⟨rfl, rfl, rfl⟩ := trodAll_nil r1
    obtain rfl : args = #[v0, v1] := by cases args; simp_all
    obtain ⟨s0, A0, n0, c0, B0, m0, e0, rfl, hs0, hi0⟩ := open_space (hval 0 _ v0 rfl rfl) h0
    obtain ⟨A1, n1, c1, xs1, rfl, e1, hr1, y1⟩ := open_texts (hval 1 _ v1 rfl rfl) h1
    exact walk s0 A0 n0 c0 B0 m0 e0 hs0 hi0 A1 n1 c1 xs1 e1 hr1 y1

/-- The statement. -/
theorem proved : Rows.SpaceBackSaid :=
  OpenClaim.holds_of_wide 9 Try.f9 rfl rfl rfl rfl rfl rfl rfl ⟨rfl, rfl, rfl, rfl, rfl⟩ rfl rfl rfl rfl rfl (by kernel_rfl) Try.func9 (by kernel_rfl)
    (of_decide_eq_true (by kernel_rfl)) (by unfold Func.isWrapper; first | (rw [if_pos (by decide +kernel)]; kernel_rfl) | (rw [if_neg (by decide +kernel)]; exact ⟨rfl, rfl⟩))
    (fun os started H enc _ => lifted os started H enc)
#print axioms proved
end Go.Proofs.Ytlldmefjhgahdaa.spaceBack
