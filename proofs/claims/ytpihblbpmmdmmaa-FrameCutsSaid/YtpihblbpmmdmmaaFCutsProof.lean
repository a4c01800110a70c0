/-
  FrameCuts answers true, for every kind, every place, every list of bytes, every cut and every bytes behind: a frame that is cut, or has bytes behind it, is none. Conditions: none.
-/
import Derived.Test.YtpihblbpmmdmmaaRows
import Derived.Test.YtpihblbpmmdmmaaFAwake
import Derived.Test.YtpihblbpmmdmmaaMod
import Derived.Test.YtpihblbpmmdmmaaOpenB
namespace Go.Proofs.Ytpihblbpmmdmmaa.frameCuts
open Go.ChangeShapes Go.WideShapes Go.ChangeAt Go.RowKit

theorem cut_none {k p : Int} {l : List UInt8} {i : Nat} (h : FOk k p l.length) (hi : i < l.length + 11) : unpE p ((frm k p l).take i) = 50 := by
  rw [unpE, if_neg (fun hf => isF_cut h hi hf)]

theorem more_cases {k p : Int} {l m : List UInt8} (h : FOk k p l.length) : (unpE p (frm k p l ++ m) = 0 ∧ m.length = 0) ∨ (unpE p (frm k p l ++ m) = 50 ∧ 0 < m.length) := by
  by_cases hm : m = []
  · subst hm
    rw [List.append_nil, unpE, if_pos (isF_frm h)]
    exact Or.inl ⟨rfl, rfl⟩
  · right
    rw [unpE, if_neg (fun hf => hm (isF_more h hf))]
    exact ⟨rfl, by rcases m with _ | ⟨x, m⟩ <;> simp at *⟩

set_option maxHeartbeats 1600000 in
theorem walk {W : World} (k : Int) (_ : -9223372036854775808 ≤ k) (_ : k ≤ 9223372036854775807) (p : Int) (_ : -9223372036854775808 ≤ p) (_ : p ≤ 9223372036854775807)
    (A : Option Addr) (n c : Nat) (l : List UInt8) (hl : l.length = n) (hr : Bys W W.heap.size A l) (_ : n ≤ c) (_ : c ≤ maxLen) (hz : A = none → n = 0 ∧ c = 0) (i : Int) (lo : -9223372036854775808 ≤ i) (hi : i ≤ 9223372036854775807)
    (D : Option Addr) (m d : Nat) (r : List UInt8) (hm : r.length = m) (hq : Bys W W.heap.size D r) (_ : m ≤ d) (_ : d ≤ maxLen) (hy : D = none → m = 0 ∧ d = 0) :
    Calls Try.prog 10 #[.int .i64 k, .int .i64 p, .slice A n c, .int .i64 i, .slice D m d] W fun e W' => e = .returned (.bool true) ∧ Below W.heap.size W W' := by
  obtain ⟨i0, hi5, hz0, hz1, hz2⟩ := info_parts byteInfo
  have HZ := Lib.hid hz
  have HY := Lib.hid hy
  clear hz hy
  go_enter Try.func10, Try.ntmps10
  go_wp2_with fail
  refine (awake_any _).mono ?_
  rintro e w1 ⟨rfl, b1⟩
  have h1 := Lib.hid (hr.kept b1)
  have s1 := Lib.hid (hq.kept b1)
  have B1 : Hid (Below W.heap.size W w1) := b1
  clear hr hq b1
  by_cases hn : n ≤ 2000
  · by_cases hm5 : m ≤ 50
    · go_wp2_with fail
      refine (pack_all k p A n c l _ hl h1.out HZ.out).mono ?_
      rintro e w2 ⟨v2, rfl, o2, b2⟩
      have s2 := Lib.hid (s1.out.kept b2)
      have B2 : Hid (Below W.heap.size W w2) := B1.out.trans (b2.mono B1.out.size)
      clear h1 s1 B1 b2
      by_cases hok : FOk k p l.length
      · rw [packB, if_pos hok] at o2
        rw [packE, if_pos hok]
        obtain ⟨A2, c2, rfl, e2, hc2, _, r2⟩ := Bys.of_own o2
        have HT := Lib.hid (fun (j : Nat) (hj : j < l.length + 11) => cut_none hok hj)
        have HM := Lib.hid (more_cases (m := r) hok)
        have hF : (frm k p l).length = n + 11 := by rw [frm_length, hl]
        generalize frm k p l = F at *
        obtain ⟨g2, off2, _, rfl, _, _, _⟩ := r2.at_ (k := 0) (by omega)
        obtain ⟨N, hN⟩ : ∃ N, F.length = N := ⟨_, rfl⟩
        rw [hN] at hc2 hF ⊢
        have hN0 : ¬ N = 0 := by omega
        have hNs : N ≤ 2011 := by omega
        have hnb : ((N : Int) == 0) = false := by rw [beq_eq_false_iff_ne]; omega
        have R2 := Lib.hid r2
        have HNN := Lib.hid (show l.length + 11 = N from by omega)
        clear o2 e2 r2 hok hF hl HZ
        rcases Int.lt_or_le i 0 with hi0 | hi0
        · obtain ⟨kk, hkk, hki⟩ := mod_neg i N hi0 hN0
          have HE := Lib.hid (HT.out kk (by rw [HNN.out]; exact hkk))
          have q1 : (kk : Int) ≤ (c2 : Int) := by omega
          have q2 : (0 : Int) ≤ (kk : Int) := by omega
          go_wp2_with fail
          refine (unp_all p _ kk c2 (F.take kk) _ (by rw [List.length_take]; omega) (R2.out.take kk) (by omega) (by omega)).mono ?_
          rintro e w3 ⟨v3, rfl, o3, b3⟩
          rw [HE.out]
          have R3 := Lib.hid (R2.out.kept b3)
          have S3 := Lib.hid (s2.out.kept b3)
          have B3 : Hid (Below W.heap.size W w3) := B2.out.trans (b3.mono B2.out.size)
          have hown0 := own_made w3
          have lz := Lib.hid (Lies.bys (c := c2) (R3.out.alloc (.cells #[] 5)) (n := N) (fun e => by cases e))
          clear R2 s2 B2 b3 o3 HE HT
          generalize unpK p (F.take kk) = K at *
          go_wp2_with (first
            | (at_builtin; refine wpList_append_lay _ rfl (.tmp 68) (.tmp 69) 23 rfl w3.heap.size 5 i0 _ 1 1 Try.underlying23 hi5 hz0 hz1 hz2 rfl (by decide) _ _ _ rfl hown0 (some ⟨g2, off2, none⟩) N c2 (bv F) rfl (by rw [bv_length, hN]; omega) lz.out (bv_one _) (by unfold maxLen; omega) (by omega) (by simp) ?_; intro v8 w8 hown8 hg8; have b8 : Below w3.heap.size w3 w8 := ((Below.refl _ _).alloc (Nat.le_refl _) _).grown hg8 (by simp) (fun g hg => (hown0.lt g hg).1); have z8 := b8.size; have l8 := Lib.hid (Lies.bys (S3.out.kept b8) HY.out))
            | (at_builtin; refine wpList_append_lay _ rfl (.tmp 70) (.tmp 71) 23 rfl w3.heap.size 5 i0 _ 1 1 Try.underlying23 hi5 hz0 hz1 hz2 rfl (by decide) _ _ _ rfl hown8 D m d (bv r) rfl (by rw [bv_length, hm]; omega) l8.out (bv_one _) (by unfold maxLen; omega) (by omega) z8 ?_; intro v9 w9 hown9 hg9; obtain ⟨A9, c9, rfl, e9, hc9, _, r9⟩ := Bys.of_own (bytes_join hN hm hown9)))
          have b9 : Below w3.heap.size w3 w9 := b8.grown hg9 z8 (fun g hg => (hown8.lt g hg).1)
          have B9 : Hid (Below W.heap.size W w9) := B3.out.trans (b9.mono B3.out.size)
          have R9 := Lib.hid r9
          have hl9 : (F ++ r).length = N + m := by rw [List.length_append, hN, hm]
          rw [hl9] at hc9
          clear hg9 hown9 hg8 hown8 hown0 lz l8 b8 b9 z8 B3 R3 S3 e9 r9
          refine (unp_all p A9 (N + m) c9 (F ++ r) _ hl9 R9.out hc9 (by omega)).mono ?_
          rintro e w10 ⟨v10, rfl, o10, b10⟩
          have B10 : Hid (Below W.heap.size W w10) := B9.out.trans (b10.mono B9.out.size)
          have ht := HM.out
          rw [hm] at ht
          clear R9 B9 b10 o10 HM hl9
          generalize unpK p (F ++ r) = K2 at *
          generalize unpE p (F ++ r) = E at *
          rcases ht with ⟨rfl, ht⟩ | ⟨rfl, ht⟩
          · have hmb : ((m : Int) == 0) = true := by rw [ht]; rfl
            go_wp2_with fail
            go_ret
            exact ⟨rfl, B10.out⟩
          · have hmb : ((m : Int) == 0) = false := by rw [beq_eq_false_iff_ne]; omega
            go_wp2_with fail
            go_ret
            exact ⟨rfl, B10.out⟩
        · obtain ⟨kk, hkk, hki⟩ := mod_pos i N hN0
          have HE := Lib.hid (HT.out kk (by rw [HNN.out]; exact hkk))
          have q1 : (kk : Int) ≤ (c2 : Int) := by omega
          have q2 : (0 : Int) ≤ (kk : Int) := by omega
          go_wp2_with fail
          refine (unp_all p _ kk c2 (F.take kk) _ (by rw [List.length_take]; omega) (R2.out.take kk) (by omega) (by omega)).mono ?_
          rintro e w3 ⟨v3, rfl, o3, b3⟩
          rw [HE.out]
          have R3 := Lib.hid (R2.out.kept b3)
          have S3 := Lib.hid (s2.out.kept b3)
          have B3 : Hid (Below W.heap.size W w3) := B2.out.trans (b3.mono B2.out.size)
          have hown0 := own_made w3
          have lz := Lib.hid (Lies.bys (c := c2) (R3.out.alloc (.cells #[] 5)) (n := N) (fun e => by cases e))
          clear R2 s2 B2 b3 o3 HE HT
          generalize unpK p (F.take kk) = K at *
          go_wp2_with (first
            | (at_builtin; refine wpList_append_lay _ rfl (.tmp 68) (.tmp 69) 23 rfl w3.heap.size 5 i0 _ 1 1 Try.underlying23 hi5 hz0 hz1 hz2 rfl (by decide) _ _ _ rfl hown0 (some ⟨g2, off2, none⟩) N c2 (bv F) rfl (by rw [bv_length, hN]; omega) lz.out (bv_one _) (by unfold maxLen; omega) (by omega) (by simp) ?_; intro v8 w8 hown8 hg8; have b8 : Below w3.heap.size w3 w8 := ((Below.refl _ _).alloc (Nat.le_refl _) _).grown hg8 (by simp) (fun g hg => (hown0.lt g hg).1); have z8 := b8.size; have l8 := Lib.hid (Lies.bys (S3.out.kept b8) HY.out))
            | (at_builtin; refine wpList_append_lay _ rfl (.tmp 70) (.tmp 71) 23 rfl w3.heap.size 5 i0 _ 1 1 Try.underlying23 hi5 hz0 hz1 hz2 rfl (by decide) _ _ _ rfl hown8 D m d (bv r) rfl (by rw [bv_length, hm]; omega) l8.out (bv_one _) (by unfold maxLen; omega) (by omega) z8 ?_; intro v9 w9 hown9 hg9; obtain ⟨A9, c9, rfl, e9, hc9, _, r9⟩ := Bys.of_own (bytes_join hN hm hown9)))
          have b9 : Below w3.heap.size w3 w9 := b8.grown hg9 z8 (fun g hg => (hown8.lt g hg).1)
          have B9 : Hid (Below W.heap.size W w9) := B3.out.trans (b9.mono B3.out.size)
          have R9 := Lib.hid r9
          have hl9 : (F ++ r).length = N + m := by rw [List.length_append, hN, hm]
          rw [hl9] at hc9
          clear hg9 hown9 hg8 hown8 hown0 lz l8 b8 b9 z8 B3 R3 S3 e9 r9
          refine (unp_all p A9 (N + m) c9 (F ++ r) _ hl9 R9.out hc9 (by omega)).mono ?_
          rintro e w10 ⟨v10, rfl, o10, b10⟩
          have B10 : Hid (Below W.heap.size W w10) := B9.out.trans (b10.mono B9.out.size)
          have ht := HM.out
          rw [hm] at ht
          clear R9 B9 b10 o10 HM hl9
          generalize unpK p (F ++ r) = K2 at *
          generalize unpE p (F ++ r) = E at *
          rcases ht with ⟨rfl, ht⟩ | ⟨rfl, ht⟩
          · have hmb : ((m : Int) == 0) = true := by rw [ht]; rfl
            go_wp2_with fail
            go_ret
            exact ⟨rfl, B10.out⟩
          · have hmb : ((m : Int) == 0) = false := by rw [beq_eq_false_iff_ne]; omega
            go_wp2_with fail
            go_ret
            exact ⟨rfl, B10.out⟩
      · rw [packB, if_neg hok] at o2
        rw [packE, if_neg hok]
        obtain ⟨A2, c2, rfl, e2, _, _, r2⟩ := Bys.of_own o2
        clear o2 e2 r2 hok
        go_wp2_with fail
        go_ret
        exact ⟨rfl, B2.out⟩
    · go_wp2_with fail
      go_ret
      exact ⟨rfl, B1.out⟩
  · go_wp2_with fail
    go_ret
    exact ⟨rfl, B1.out⟩

set_option maxRecDepth 100000 in
theorem lifted (os : Os) (started : os.Started) (H : Type) (enc : TypeId × Value → H) :
    ReturnsInHanded {} Try.checked os 10 .any (Rows.frameCutsSpec.pre6 enc Try.prog Try.f10 Rows.frameCutsRow.domain false)
      (Rows.frameCutsSpec.post enc Try.prog Try.f10 false true false false) := by
  refine lift_law (C := Try.checked) (tb := 4) ownKnobs started (by kernel_rfl) Try.func10
    (ChangeSpec.witness6 (enc := enc) (C := Try.checked) false ⟨#[], #[.int .i64 0, .int .i64 0, .slice none 0 0, .int .i64 0, .slice none 0 0], []⟩ 8 (by kernel_rfl) (by kernel_rfl) (by kernel_rfl) (by kernel_rfl))
    laidOut ?_ rfl rfl Try.underlying4 ?_ ?_
  · intro t ht
    rw [Try.params10] at ht
    simp only [List.mem_cons, List.not_mem_nil, or_false] at ht
    rcases ht with rfl | rfl | rfl | rfl | rfl <;> exact ⟨by kernel_rfl, of_decide_eq_true (by kernel_rfl)⟩
  · intro vs ds W p hA
    rw [Try.params10] at hA
    obtain ⟨v0, vs0, d0, ds0, p0, q0, ha, rfl, rfl, h0, r0⟩ := trodAll_cons hA
    obtain ⟨v1, vs1, d1, ds1, p1, q1, rfl, rfl, rfl, h1, r1⟩ := trodAll_cons r0
    obtain ⟨v2, vs2, d2, ds2, p2, q2, rfl, rfl, rfl, h2, r2⟩ := trodAll_cons r1
    obtain ⟨v3, vs3, d3, ds3, p3, q3, rfl, rfl, rfl, h3, r3⟩ := trodAll_cons r2
    obtain ⟨v4, vs4, d4, ds4, p4, q4, rfl, rfl, rfl, h4, r4⟩ := trodAll_cons r3
    obtain ⟨rfl, rfl, rfl⟩ := trodAll_nil r4
    rfl
  · intro W base args ds p hval hA
    rw [Try.params10] at hA hval
    obtain ⟨v0, vs0, d0, ds0, p0, q0, ha, rfl, rfl, h0, r0⟩ := trodAll_cons hA
    obtain ⟨v1, vs1, d1, ds1, p1, q1, rfl, rfl, rfl, h1, r1⟩ := trodAll_cons r0
    obtain ⟨v2, vs2, d2, ds2, p2, q2, rfl, rfl, rfl, h2, r2⟩ := trodAll_cons r1
    obtain ⟨v3, vs3, d3, ds3, p3, q3, rfl, rfl, rfl, h3, r3⟩ := trodAll_cons r2
    obtain ⟨v4, vs4, d4, ds4, p4, q4, rfl, rfl, rfl, h4, r4⟩ := trodAll_cons r3
    obtain ⟨rfl, rfl, rfl⟩ := trodAll_nil r4
    obtain rfl : args = #[v0, v1, v2, v3, v4] := by cases args; simp_all
    obtain ⟨i0, rfl, lo0, hi0⟩ := open_i64 (hval 0 _ v0 rfl rfl) h0
    obtain ⟨i1, rfl, lo1, hi1⟩ := open_i64 (hval 1 _ v1 rfl rfl) h1
    obtain ⟨A2, n2, c2, xs2, rfl, e2, hr2, y2, z2, o2⟩ := open_bytesz (hval 2 _ v2 rfl rfl) h2
    obtain ⟨i3, rfl, lo3, hi3⟩ := open_i64 (hval 3 _ v3 rfl rfl) h3
    obtain ⟨A4, n4, c4, xs4, rfl, e4, hr4, y4, z4, o4⟩ := open_bytesz (hval 4 _ v4 rfl rfl) h4
    exact walk i0 lo0 hi0 i1 lo1 hi1 A2 n2 c2 xs2 e2 hr2 y2 z2 o2 i3 lo3 hi3 A4 n4 c4 xs4 e4 hr4 y4 z4 o4

/-- The statement. -/
theorem proved : Rows.FrameCutsSaid :=
  OpenClaim.holds_of_wide 10 Try.f10 rfl rfl rfl rfl rfl rfl rfl ⟨rfl, rfl, rfl, rfl, rfl⟩ rfl rfl rfl rfl rfl (by kernel_rfl) Try.func10 (by kernel_rfl)
    (of_decide_eq_true (by kernel_rfl)) (by unfold Func.isWrapper; first | (rw [if_pos (by decide +kernel)]; kernel_rfl) | (rw [if_neg (by decide +kernel)]; exact ⟨rfl, rfl⟩))
    (fun os started H enc _ => lifted os started H enc)
#print axioms proved
end Go.Proofs.Ytpihblbpmmdmmaa.frameCuts
