/-
  SpaceWaits answers true, for every pages' lists, bound, epoch and page: a page that is given is not free for its epoch's own commits, and is free behind it, if the budget is large enough. Conditions: none.
-/
import Derived.Test.YtlldmefjhgahdaaRows
import Derived.Test.YtlldmefjhgahdaaZC
import Derived.Deep.CutBlock
namespace Go.Proofs.Ytlldmefjhgahdaa.spaceWaits
open Go.ChangeShapes Go.WideShapes Go.ChangeAt Go.RowKit

set_option maxRecDepth 20000 in
set_option maxHeartbeats 3200000 in
theorem walk {W : World} (s : SS) (A : Option Addr) (n c : Nat) (B : Option Addr) (m d : Nat) (hs : Sp W A n c B m d s) (_ : In64 s.hi) (t : Int) (_ : -9223372036854775808 ≤ t) (_ : t ≤ 9223372036854775807) (e : Int) (_ : -9223372036854775808 ≤ e) (he : e ≤ 9223372036854775807) (p : Int) (_ : -9223372036854775808 ≤ p) (_ : p ≤ 9223372036854775807) :
    Calls Try.prog 8 #[.agg #[.int .i64 s.hi, .slice A n c, .slice B m d], .int .i64 t, .int .i64 e, .int .i64 p] W fun e W' => e = .returned (.bool true) ∧ Below W.heap.size W W' := by
  obtain ⟨h, hh⟩ : ∃ h, s.hi = h := ⟨_, rfl⟩
  rw [hh]
  have HH := Lib.hid hh
  have B0 := Lib.hid (below_one W (.cells #[.int .i64 h, .slice A n c, .slice B m d] 26))
  have HX := Lib.hid (box_new W (.int .i64 h) (.slice A n c) (.slice B m d))
  have HS := Lib.hid (hs.kept B0.out)
  have HPL := Lib.hid hs.pl
  clear hs hh
  go_enter Try.func8, Try.ntmps8
  go_upto_region 1 with fail
  generalize W.alloc (.cells #[.int .i64 h, .slice A n c, .slice B m d] 26) = w0 at *
  go_wp2_with fail
  refine (awake_any w0).mono ?_
  rintro e' w1 ⟨rfl, b1⟩
  have B1 := Lib.hid b1
  obtain ⟨a0, a1, a2⟩ := (HX.out.kept b1).cells
  clear b1
  go_wp2_with fail
  refine (few_any h A B n c m d w1).mono ?_
  rintro e' w2 ⟨rfl, b2⟩
  have B2 := Lib.hid (B1.out.trans (b2.mono B1.out.size))
  have BB := Lib.hid (B0.out.trans (B2.out.mono B0.out.size))
  clear a0 a1 a2 b2
  cases hfew : fewB n m with
  | false =>
    clear hfew
    go_wp2_with fail
    go_ret
    exact ⟨rfl, BB.out⟩
  | true =>
    obtain ⟨hn, hm⟩ := few_le hfew
    clear hfew
    obtain ⟨a0, a1, a2⟩ := (HX.out.kept B2.out).cells
    go_wp2_with fail
    refine (check_any s h t A B n c m d w2 HH.out (HS.out.kept B2.out) (by omega) (by omega)).mono ?_
    rintro e' w3 ⟨rfl, b3⟩
    have B3 := Lib.hid (B2.out.trans (b3.mono B2.out.size))
    have BB3 := Lib.hid (B0.out.trans (B3.out.mono B0.out.size))
    clear a0 a1 a2 b3
    rcases check_or s t with hk | hk
    · rw [hk]
      have HFine := Lib.hid (SS.check_fine hk)
      clear hk
      obtain ⟨a0, a1, a2⟩ := (HX.out.kept B3.out).cells
      go_wp2_with fail
      refine (give_any s h e p A B n c m d w3 HH.out (HS.out.kept B3.out) (by omega) (by omega)).mono ?_
      clear a0 a1 a2
      cases hbad : s.giveBad e p with
      | true =>
        rw [give_ill hbad]
        rintro e' w4 ⟨_, rfl, ⟨A4, n4, c4, B4, m4, d4, rfl, _⟩, b4⟩
        have B4' := Lib.hid (BB3.out.trans (b4.mono BB3.out.size))
        clear hbad b4
        go_wp2_with fail
        go_ret
        exact ⟨rfl, B4'.out.alloc B4'.out.size _⟩
      | false =>
        rw [give_well hbad]
        have HBad := Lib.hid hbad
        have HOut := Lib.hid (giveBad_out hbad)
        clear hbad
        rintro e' w4 ⟨_, rfl, ⟨A4, n4, c4, B4, m4, d4, rfl, s4⟩, b4⟩
        have S4 : Hid (Sp w4 A4 n4 c4 B4 m4 d4 (gave s e p)) := Lib.hid s4
        have hn4 : n4 ≤ 300 := by have h1 := S4.out.fl; have h2 := HS.out.fl; have h3 : (gave s e p).fr = s.fr := rfl; rw [h3] at h1; omega
        have hm4 : m4 ≤ 301 := by have h1 := S4.out.pl; have h2 := HPL.out; have h3 : (gave s e p).pe = s.pe ++ [(e, p)] := rfl; rw [h3, List.length_append, List.length_singleton] at h1; omega
        have B4' := Lib.hid (BB3.out.trans (b4.mono BB3.out.size))
        clear s4 b4
        by_cases he0 : e = 0
        · subst he0
          go_wp2_with fail
          go_ret
          exact ⟨rfl, B4'.out.alloc B4'.out.size _⟩
        · have hez : (e == 0) = false := by simpa using he0
          have hpos : 0 < e := by have := HOut.out.2; omega
          have he1 : wrap64 (e - 1) = e - 1 := by unfold wrap64; omega
          have hi4 : ({ hi := s.hi, fr := s.fr, pe := s.pe ++ [(e, p)] } : SS).hi = h := HH.out
          rw [hi4]
          have BX := Lib.hid (below_one w4 (.cells #[.int .i64 h, .slice A4 n4 c4, .slice B4 m4 d4] 26))
          have HX4 := Lib.hid (box_new w4 (.int .i64 h) (.slice A4 n4 c4) (.slice B4 m4 d4))
          have S5 := Lib.hid (S4.out.kept BX.out)
          have B5 := Lib.hid (B4'.out.trans (BX.out.mono B4'.out.size))
          clear he0 hi4
          go_upto_region 7 with fail
          generalize w4.alloc (.cells #[.int .i64 h, .slice A4 n4 c4, .slice B4 m4 d4] 26) = w5 at *
          obtain ⟨a0, a1, a2⟩ := HX4.out.cells
          go_wp2_with fail
          have k6 := reclaim_any (gave s e p) h (e - 1) 1000 A4 B4 n4 c4 m4 d4 w5 HH.out S5.out (by omega) (by omega)
          have hEarly := early_not (s := s) (e := e) (p := p) HOut.out.1 (1000 : Int).toNat
          have hLate := late_in (b := (1000 : Int).toNat) HFine.out HBad.out (by have := HPL.out; omega)
          have hNil := late_nil (b := (1000 : Int).toNat) HFine.out HBad.out (by have := HPL.out; omega)
          have k8' : ∀ w7, Sp w7 A4 n4 c4 B4 m4 d4 (gave s e p) → _ := fun w7 hS => reclaim_any (gave s e p) h e 1000 A4 B4 n4 c4 m4 d4 w7 HH.out hS (by omega) (by omega)
          have hgl : (gave s e p).fr.length + (gave s e p).pe.length ≤ 700 := by have h1 := S5.out.fl; have h2 := S5.out.pl; omega
          have hU := (rec_len (gave s e p) (e - 1) (1000 : Int).toNat).1
          have hV := (rec_len (gave s e p) e (1000 : Int).toNat).1
          obtain ⟨u, hu⟩ : ∃ u, (gave s e p).reclaim (e - 1) (1000 : Int).toNat = u := ⟨_, rfl⟩
          obtain ⟨v, hv⟩ : ∃ v, (gave s e p).reclaim e (1000 : Int).toNat = v := ⟨_, rfl⟩
          rw [hu] at k6 hEarly hU
          rw [hv] at hLate hNil hV
          have HU := Lib.hid (show u.1.fr.length ≤ 700 by omega)
          have HV := Lib.hid (show v.1.fr.length ≤ 700 by omega)
          simp only [hv] at k8'
          have HEarly := Lib.hid hEarly
          have HLate := Lib.hid hLate
          have HNil := Lib.hid hNil
          have K8 := Lib.hid k8'
          clear hu hv hEarly hLate hNil k8' hU hV hgl
          refine k6.mono ?_
          rintro e' w6 ⟨_, rfl, ⟨A6, n6, c6, B6, m6, d6, rfl, s6⟩, b6⟩
          obtain ⟨z1, z2, z3⟩ := boxed b6 s6 u.1.hi
          have HX6 := Lib.hid z2
          have S6 := Lib.hid z3
          have B6' := Lib.hid z1
          have hu4 : n6 ≤ 400000 := by have h1 := S6.out.fl; have h2 := HU.out; omega
          have HX4b := Lib.hid (HX4.out.kept B6'.out)
          have S5b := Lib.hid (S5.out.kept B6'.out)
          have BB6 := Lib.hid (B5.out.trans (B6'.out.mono B5.out.size))
          clear a0 a1 a2 s6 b6 z1 z2 z3 k6
          go_upto_region 8 with fail
          generalize w6.alloc (.cells #[.int .i64 u.1.hi, .slice A6 n6 c6, .slice B6 m6 d6] 26) = w7 at *
          obtain ⟨a0, a1, a2⟩ := HX4b.out.cells
          go_wp2_with fail
          refine (K8.out w7 S5b.out).mono ?_
          rintro e' w8 ⟨_, rfl, ⟨A8, n8, c8, B8, m8, d8, rfl, s8⟩, b8⟩
          obtain ⟨z1, z2, z3⟩ := boxed b8 s8 v.1.hi
          have HX8 := Lib.hid z2
          have S8 := Lib.hid z3
          have B8' := Lib.hid z1
          have HX6b := Lib.hid (HX6.out.kept B8'.out)
          have S6b := Lib.hid (S6.out.kept B8'.out)
          have BB8 := Lib.hid (BB6.out.trans (B8'.out.mono BB6.out.size))
          clear a0 a1 a2 s8 b8 z1 z2 z3
          go_upto_region 9 with fail
          generalize w8.alloc (.cells #[.int .i64 v.1.hi, .slice A8 n8 c8, .slice B8 m8 d8] 26) = w9 at *
          obtain ⟨a0, a1, a2⟩ := HX6b.out.cells
          go_wp2_with fail
          refine (refKnown_any ⟨0, u.1.fr, []⟩ 0 p A6 none n6 c6 0 0 w9 ⟨S6b.out.fr, Ln.none_ w9 2⟩ hu4 (by omega)).mono ?_
          rintro e' w10 ⟨rfl, b10⟩
          rw [HEarly.out]
          have B10 := Lib.hid (BB8.out.trans (b10.mono BB8.out.size))
          have HX10 := Lib.hid (HX8.out.kept b10)
          have S10 := Lib.hid (S8.out.kept b10)
          clear a0 a1 a2 b10
          obtain ⟨a0, a1, a2⟩ := HX10.out.cells
          go_wp2_with fail
          refine (refKnown_any ⟨0, v.1.fr, []⟩ 0 p A8 none n8 c8 0 0 w10 ⟨S10.out.fr, Ln.none_ w10 2⟩ (by have h1 := S10.out.fl; have h2 := HV.out; omega) (by omega)).mono ?_
          rintro e' w11 ⟨rfl, b11⟩
          rw [HLate.out]
          have B11 := Lib.hid (B10.out.trans (b11.mono B10.out.size))
          have hm8 : m8 = 0 := by
            have h1 := S10.out.pl
            rw [HNil.out] at h1
            exact h1.symm
          subst hm8
          obtain ⟨f0, f1, f2⟩ := (HX10.out.kept b11).cells
          clear a0 a1 a2 b11
          go_wp2_with fail
          go_ret
          exact ⟨rfl, B11.out⟩
    · rw [hk]
      clear hk
      go_wp2_with fail
      go_ret
      exact ⟨rfl, BB3.out⟩
set_option maxRecDepth 100000 in
theorem lifted (os : Os) (started : os.Started) (H : Type) (enc : TypeId × Value → H) :
    ReturnsInHanded {} Try.checked os 8 .any (Rows.spaceWaitsSpec.pre6 enc Try.prog Try.f8 Rows.spaceWaitsRow.domain false)
      (Rows.spaceWaitsSpec.post enc Try.prog Try.f8 false true false false) := by
  refine lift_law (C := Try.checked) (tb := 4) ownKnobs started (by kernel_rfl) Try.func8
    (ChangeSpec.witness6 (enc := enc) (C := Try.checked) false ⟨#[], #[.agg #[.int .i64 0, .slice none 0 0, .slice none 0 0], .int .i64 0, .int .i64 0, .int .i64 0], []⟩ 8 (by kernel_rfl) (by kernel_rfl) (by kernel_rfl) (by kernel_rfl))
    laidOut ?_ rfl rfl Try.underlying4 ?_ ?_
  · intro t ht
    rw [Try.params8] at ht
    simp only [List.mem_cons, List.not_mem_nil, or_false] at ht
    rcases ht with rfl | rfl | rfl | rfl <;> exact ⟨by kernel_rfl, of_decide_eq_true (by kernel_rfl)⟩
  · intro vs ds W p hA
    rw [Try.params8] at hA
    obtain ⟨v0, vs0, d0, ds0, p0, q0, ha, rfl, rfl, h0, r0⟩ := trodAll_cons hA
    obtain ⟨v1, vs1, d1, ds1, p1, q1, rfl, rfl, rfl, h1, r1⟩ := trodAll_cons r0
    obtain ⟨v2, vs2, d2, ds2, p2, q2, rfl, rfl, rfl, h2, r2⟩ := trodAll_cons r1
    obtain ⟨v3, vs3, d3, ds3, p3, q3, rfl, rfl, rfl, h3, r3⟩ := trodAll_cons r2
    obtain ⟨rfl, rfl, rfl⟩ := trodAll_nil r3
    rfl
  · intro W base args ds p hval hA
    rw [Try.params8] at hA hval
    obtain ⟨v0, vs0, d0, ds0, p0, q0, ha, rfl, rfl, h0, r0⟩ := trodAll_cons hA
    obtain ⟨v1, vs1, d1, ds1, p1, q1, rfl, rfl, rfl, h1, r1⟩ := trodAll_cons r0
    obtain ⟨v2, vs2, d2, ds2, p2, q2, rfl, rfl, rfl, h2, r2⟩ := trodAll_cons r1
    obtain ⟨v3, vs3, d3, ds3, p3, q3, rfl, rfl, rfl, h3, r3⟩ := trodAll_cons r2
    obtain ⟨rfl, rfl, rfl⟩ := trodAll_nil r3
    obtain rfl : args = #[v0, v1, v2, v3] := by cases args; simp_all
    obtain ⟨s0, A0, n0, c0, B0, m0, e0, rfl, hs0, hi0⟩ := open_space (hval 0 _ v0 rfl rfl) h0
    obtain ⟨i1, rfl, lo1, hi1⟩ := open_i64 (hval 1 _ v1 rfl rfl) h1
    obtain ⟨i2, rfl, lo2, hi2⟩ := open_i64 (hval 2 _ v2 rfl rfl) h2
    obtain ⟨i3, rfl, lo3, hi3⟩ := open_i64 (hval 3 _ v3 rfl rfl) h3
    exact walk s0 A0 n0 c0 B0 m0 e0 hs0 hi0 i1 lo1 hi1 i2 lo2 hi2 i3 lo3 hi3

/-- The statement. -/
theorem proved : Rows.SpaceWaitsSaid :=
  OpenClaim.holds_of_wide 8 Try.f8 rfl rfl rfl rfl rfl rfl rfl ⟨rfl, rfl, rfl, rfl, rfl⟩ rfl rfl rfl rfl rfl (by kernel_rfl) Try.func8 (by kernel_rfl)
    (of_decide_eq_true (by kernel_rfl)) (by unfold Func.isWrapper; first | (rw [if_pos (by decide +kernel)]; kernel_rfl) | (rw [if_neg (by decide +kernel)]; exact ⟨rfl, rfl⟩))
    (fun os started H enc _ => lifted os started H enc)
#print axioms proved
end Go.Proofs.Ytlldmefjhgahdaa.spaceWaits
