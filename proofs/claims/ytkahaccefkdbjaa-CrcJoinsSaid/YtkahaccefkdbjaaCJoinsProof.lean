/-
  CrcJoins answers true, for every check sum and every two lists of bytes: a check sum goes on where bytes do, wherever they are cut. Conditions: none.
-/
import Derived.Test.YtkahaccefkdbjaaRows
import Derived.Test.YtkahaccefkdbjaaCAwake
import Derived.Test.YtkahaccefkdbjaaOwnB
import Derived.Test.YtkahaccefkdbjaaOpenB
import Derived.Test.YtkahaccefkdbjaaOpenU32
namespace Go.Proofs.Ytkahaccefkdbjaa.crcJoins
open Go.ChangeShapes Go.WideShapes Go.ChangeAt Go.RowKit

set_option maxHeartbeats 1600000 in
theorem walk {W : World} (s : Nat) (hs : s < 4294967296) (A : Option Addr) (n c : Nat) (l : List UInt8) (hl : l.length = n) (hr : Bys W W.heap.size A l) (_ : n ≤ c) (_ : c ≤ maxLen) (hz : A = none → n = 0 ∧ c = 0)
    (B : Option Addr) (m d : Nat) (k : List UInt8) (hk : k.length = m) (hq : Bys W W.heap.size B k) (_ : m ≤ d) (_ : d ≤ maxLen) (hy : B = none → m = 0 ∧ d = 0) :
    Calls Try.prog 5 #[.int .u32 (s : Int), .slice A n c, .slice B m d] W fun e W' => e = .returned (.bool true) ∧ Below W.heap.size W W' := by
  obtain ⟨i0, hi, hz0, hz1, hz2⟩ := info_parts byteInfo
  go_enter Try.func5, Try.ntmps5
  go_wp2_with fail
  refine (awake_any _).mono ?_
  rintro e w1 ⟨rfl, b1⟩
  have h1 := hr.kept b1
  have q1 := hq.kept b1
  have z1 := b1.size
  have B1 : Hid (Below W.heap.size W w1) := b1
  clear hr hq b1
  by_cases hn : n ≤ 2000
  · by_cases hn2 : m ≤ 2000
    · have hown0 := own_made w1
      have lz := Lies.bys (h1.alloc (.cells #[] 5)) hz
      have hl' : (bv l).length = n := (bv_length l).trans hl
      have hk' : (bv k).length = m := (bv_length k).trans hk
      clear hz
      go_wp2_with (first
        | (at_builtin; refine wpList_append_lay _ rfl (.tmp 19) (.tmp 20) 26 rfl w1.heap.size 5 i0 _ 1 1 Try.underlying26 hi hz0 hz1 hz2 rfl (by decide) _ _ _ rfl hown0 A n c (bv l) rfl (by omega) lz (bv_one _) (by unfold maxLen; omega) (by omega) (by simp) ?_; intro v8 w8 hown8 hg8; have b8 : Below w1.heap.size w1 w8 := ((Below.refl _ _).alloc (Nat.le_refl _) _).grown hg8 (by simp) (fun g hg => (hown0.lt g hg).1); have lq := Lies.bys (q1.kept b8) hy)
        | (at_builtin; refine wpList_append_lay _ rfl (.tmp 21) (.tmp 22) 26 rfl w1.heap.size 5 i0 _ 1 1 Try.underlying26 hi hz0 hz1 hz2 rfl (by decide) _ _ _ rfl hown8 B m d (bv k) rfl (by omega) lq (bv_one _) (by unfold maxLen; omega) (by omega) b8.size ?_; intro v9 w9 hown9 hg9))
      have b9 : Below w1.heap.size w1 w9 := b8.grown hg9 b8.size (fun g hg => (hown8.lt g hg).1)
      have o9 := bytes_join hl hk hown9
      obtain ⟨A9, c9, rfl, hl9, _, _, r9⟩ := Bys.of_own o9
      have j9 := Lib.hid r9
      have h9 := Lib.hid (h1.kept b9)
      have q9 := Lib.hid (q1.kept b9)
      have B9 : Hid (Below W.heap.size W w9) := B1.out.trans (b9.mono z1)
      have hl9' : (l ++ k).length = n + m := by rw [List.length_append]; omega
      obtain ⟨N, hN⟩ : ∃ N, (l ++ k).length = N := ⟨_, rfl⟩
      rw [hN]
      have HL := Lib.hid hN
      have hNs : N ≤ 1000000 := by omega
      have HA := Lib.hid (crcM_append s l k)
      have HA0 := Lib.hid (crcM_append 0 l k)
      have HN := Lib.hid (crcM_nil s)
      have hlt := crcM_lt hs l
      have hlt0 := crcM_lt (s := 0) (by omega) l
      clear hg9 hown9 hown8 hg8 hown0 b8 b9 o9 hl9 lz lq hl' hk' r9 h1 q1 hl9' B1 hN
      refine (more_n s hs A9 _ c9 (l ++ k) _ j9.out HL.out hNs).mono ?_
      rintro e w10 ⟨rfl, b10⟩
      have h10 := Lib.hid (h9.out.kept b10)
      have q10 := Lib.hid (q9.out.kept b10)
      have j10 := Lib.hid (j9.out.kept b10)
      have B10 : Hid (Below W.heap.size W w10) := B9.out.trans (b10.mono B9.out.size)
      clear h9 q9 j9 B9 b10
      rw [HA.out]
      generalize crcM s (l ++ k) = dead at *
      go_wp2_with fail
      refine (more_n s hs A n c l _ h10.out hl (by omega)).mono ?_
      rintro e w11 ⟨rfl, b11⟩
      have h11 := Lib.hid (h10.out.kept b11)
      have q11 := Lib.hid (q10.out.kept b11)
      have j11 := Lib.hid (j10.out.kept b11)
      have B11 : Hid (Below W.heap.size W w11) := B10.out.trans (b11.mono B10.out.size)
      clear h10 q10 j10 B10 b11
      go_wp2_with fail
      refine (more_n _ hlt B m d k _ q11.out hk (by omega)).mono ?_
      rintro e w12 ⟨rfl, b12⟩
      have h12 := Lib.hid (h11.out.kept b12)
      have q12 := Lib.hid (q11.out.kept b12)
      have j12 := Lib.hid (j11.out.kept b12)
      have B12 : Hid (Below W.heap.size W w12) := B11.out.trans (b12.mono B11.out.size)
      clear h11 q11 j11 B11 b12
      generalize crcM (crcM s l) k = x at *
      go_wp2_with fail
      refine (sum_n A9 _ c9 (l ++ k) _ j12.out HL.out hNs).mono ?_
      rintro e w13 ⟨rfl, b13⟩
      have h13 := Lib.hid (h12.out.kept b13)
      have q13 := Lib.hid (q12.out.kept b13)
      have j13 := Lib.hid (j12.out.kept b13)
      have B13 : Hid (Below W.heap.size W w13) := B12.out.trans (b13.mono B12.out.size)
      clear h12 q12 j12 B12 b13
      rw [HA0.out]
      go_wp2_with fail
      refine (sum_n A n c l _ h13.out hl (by omega)).mono ?_
      rintro e w14 ⟨rfl, b14⟩
      have h14 := Lib.hid (h13.out.kept b14)
      have q14 := Lib.hid (q13.out.kept b14)
      have j14 := Lib.hid (j13.out.kept b14)
      have B14 : Hid (Below W.heap.size W w14) := B13.out.trans (b14.mono B13.out.size)
      clear h13 q13 j13 B13 b14
      go_wp2_with fail
      refine (more_n _ hlt0 B m d k _ q14.out hk (by omega)).mono ?_
      rintro e w15 ⟨rfl, b15⟩
      have h15 := Lib.hid (h14.out.kept b15)
      have q15 := Lib.hid (q14.out.kept b15)
      have j15 := Lib.hid (j14.out.kept b15)
      have B15 : Hid (Below W.heap.size W w15) := B14.out.trans (b15.mono B14.out.size)
      clear h14 q14 j14 B14 b15
      generalize crcM (crcM 0 l) k = y at *
      go_wp2_with fail
      refine (more_n s hs none 0 0 [] _ (Bys.nil _ 0 _) rfl (by omega)).mono ?_
      rintro e w16 ⟨rfl, b16⟩
      have h16 := Lib.hid (h15.out.kept b16)
      have q16 := Lib.hid (q15.out.kept b16)
      have j16 := Lib.hid (j15.out.kept b16)
      have B16 : Hid (Below W.heap.size W w16) := B15.out.trans (b16.mono B15.out.size)
      clear h15 q15 j15 B15 b16
      rw [HN.out]
      go_wp2_with fail
      go_ret
      exact ⟨rfl, B16.out⟩
    · go_wp2_with fail
      go_ret
      exact ⟨rfl, B1.out⟩
  · go_wp2_with fail
    go_ret
    exact ⟨rfl, B1.out⟩

set_option maxRecDepth 100000 in
theorem lifted (os : Os) (started : os.Started) (H : Type) (enc : TypeId × Value → H) :
    ReturnsInHanded {} Try.checked os 5 .any (Rows.crcJoinsSpec.pre6 enc Try.prog Try.f5 Rows.crcJoinsRow.domain false)
      (Rows.crcJoinsSpec.post enc Try.prog Try.f5 false true false false) := by
  refine lift_law (C := Try.checked) (tb := 4) ownKnobs started (by kernel_rfl) Try.func5
    (ChangeSpec.witness6 (enc := enc) (C := Try.checked) false ⟨#[], #[.int .u32 0, .slice none 0 0, .slice none 0 0], []⟩ 8 (by kernel_rfl) (by kernel_rfl) (by kernel_rfl) (by kernel_rfl))
    laidOut ?_ rfl rfl Try.underlying4 ?_ ?_
  · intro t ht
    rw [Try.params5] at ht
    simp only [List.mem_cons, List.not_mem_nil, or_false] at ht
    rcases ht with rfl | rfl | rfl <;> exact ⟨by kernel_rfl, of_decide_eq_true (by kernel_rfl)⟩
  · intro vs ds W p hA
    rw [Try.params5] at hA
    obtain ⟨v0, vs0, d0, ds0, p0, q0, ha, rfl, rfl, h0, r0⟩ := trodAll_cons hA
    obtain ⟨v1, vs1, d1, ds1, p1, q1, rfl, rfl, rfl, h1, r1⟩ := trodAll_cons r0
    obtain ⟨v2, vs2, d2, ds2, p2, q2, rfl, rfl, rfl, h2, r2⟩ := trodAll_cons r1
    obtain ⟨rfl, rfl, rfl⟩ := trodAll_nil r2
    rfl
  · intro W base args ds p hval hA
    rw [Try.params5] at hA hval
    obtain ⟨v0, vs0, d0, ds0, p0, q0, ha, rfl, rfl, h0, r0⟩ := trodAll_cons hA
    obtain ⟨v1, vs1, d1, ds1, p1, q1, rfl, rfl, rfl, h1, r1⟩ := trodAll_cons r0
    obtain ⟨v2, vs2, d2, ds2, p2, q2, rfl, rfl, rfl, h2, r2⟩ := trodAll_cons r1
    obtain ⟨rfl, rfl, rfl⟩ := trodAll_nil r2
    obtain rfl : args = #[v0, v1, v2] := by cases args; simp_all
    obtain ⟨x0, rfl, hx0⟩ := open_u32 (hval 0 _ v0 rfl rfl) h0
    obtain ⟨A1, n1, c1, xs1, rfl, e1, hr1, y1, z1, o1⟩ := open_bytesz (hval 1 _ v1 rfl rfl) h1
    obtain ⟨A2, n2, c2, xs2, rfl, e2, hr2, y2, z2, o2⟩ := open_bytesz (hval 2 _ v2 rfl rfl) h2
    exact walk x0 hx0 A1 n1 c1 xs1 e1 hr1 y1 z1 o1 A2 n2 c2 xs2 e2 hr2 y2 z2 o2

/-- The statement. -/
theorem proved : Rows.CrcJoinsSaid :=
  OpenClaim.holds_of_wide 5 Try.f5 rfl rfl rfl rfl rfl rfl rfl ⟨rfl, rfl, rfl, rfl, rfl⟩ rfl rfl rfl rfl rfl (by kernel_rfl) Try.func5 (by kernel_rfl)
    (of_decide_eq_true (by kernel_rfl)) (by unfold Func.isWrapper; first | (rw [if_pos (by decide +kernel)]; kernel_rfl) | (rw [if_neg (by decide +kernel)]; exact ⟨rfl, rfl⟩))
    (fun os started H enc _ => lifted os started H enc)
#print axioms proved
end Go.Proofs.Ytkahaccefkdbjaa.crcJoins
