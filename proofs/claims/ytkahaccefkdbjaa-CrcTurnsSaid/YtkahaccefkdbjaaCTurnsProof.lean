/-
  CrcTurns answers true, for every list of bytes, every place and byte, every two check sums: bytes one of which is another one have another check sum; unlike check sums are unlike behind the same bytes. Conditions: none.
-/
import Derived.Test.YtkahaccefkdbjaaRows
import Derived.Test.YtkahaccefkdbjaaCAwake
import Derived.Test.YtkahaccefkdbjaaOwnB
import Derived.Test.YtkahaccefkdbjaaOpenB
import Derived.Test.YtkahaccefkdbjaaOpenU32
namespace Go.Proofs.Ytkahaccefkdbjaa.crcTurns
open Go.ChangeShapes Go.WideShapes Go.ChangeAt Go.RowKit

theorem xor_spell (z b : UInt8) : bits .xor .u8 (z.toNat : Int) (b.toNat : Int) = (((z ^^^ b).toNat : Nat) : Int) := by
  rw [UInt8.toNat_xor]
  exact u8_xor_nat _ _ (UInt8.toNat_lt z) (UInt8.toNat_lt b)

theorem turn_eq {l : List UInt8} {k : Nat} {z : UInt8} (b : UInt8) (h : l[k]? = some z) : (((crcM 0 l : Nat) : Int) == ((crcM 0 (l.set k (z ^^^ b)) : Nat) : Int)) = ((b.toNat : Int) == 0) := by
  by_cases hb : b = 0
  · subst hb
    rw [UInt8.xor_zero]
    have e : l.set k z = l := by
      apply List.ext_getElem?
      intro j
      rw [List.getElem?_set]
      by_cases hj : k = j
      · subst hj
        rw [if_pos rfl, h]
        have hk : k < l.length := (List.getElem?_eq_some_iff.1 h).1
        rw [if_pos hk]
      · rw [if_neg hj]
    rw [e]
    simp
  · have h1 : ¬ crcM 0 l = crcM 0 (l.set k (z ^^^ b)) := fun e => hb (by
      have h2 := crcM_set (s := 0) (by omega) h e
      have h3 : z ^^^ z = z ^^^ (z ^^^ b) := congrArg (z ^^^ ·) h2
      rw [UInt8.xor_self, ← UInt8.xor_assoc, UInt8.xor_self, UInt8.zero_xor] at h3
      exact h3.symm)
    have h2 : ((b.toNat : Int) == 0) = false := byte_not (d := 0) hb
    rw [h2, beq_eq_false_iff_ne]
    intro e
    exact h1 (by omega)

theorem sums_eq {l : List UInt8} {x y : Nat} (hx : x < 4294967296) (hy : y < 4294967296) : (((crcM x l : Nat) : Int) == ((crcM y l : Nat) : Int)) = ((x : Int) == (y : Int)) := by
  by_cases h : x = y
  · subst h
    simp
  · have h1 : ¬ crcM x l = crcM y l := fun e => h (crcM_inj hx hy e)
    have h2 : ((x : Int) == (y : Int)) = false := by rw [beq_eq_false_iff_ne]; omega
    rw [h2, beq_eq_false_iff_ne]
    omega

theorem at_neg (i : Int) (n : Nat) (hi : i < 0) (hn : ¬ n = 0) : ∃ k : Nat, k < n ∧ -((i + 1).tmod (n : Int)) = (k : Int) := by
  have h : -((i + 1).tmod (n : Int)) = (-(i + 1)) % (n : Int) := by
    rw [← Int.neg_tmod, Int.tmod_eq_emod_of_nonneg (by omega)]
  have h1 := Int.emod_nonneg (-(i + 1)) (show (n : Int) ≠ 0 by omega)
  have h2 := Int.emod_lt_of_pos (-(i + 1)) (show (0 : Int) < n by omega)
  refine ⟨(-(i + 1) % (n : Int)).toNat, by omega, ?_⟩
  rw [h]
  omega

theorem at_pos (i : Int) (n : Nat) (hn : ¬ n = 0) : ∃ k : Nat, k < n ∧ i % (n : Int) = (k : Int) := by
  have h1 := Int.emod_nonneg i (show (n : Int) ≠ 0 by omega)
  have h2 := Int.emod_lt_of_pos i (show (0 : Int) < n by omega)
  exact ⟨(i % (n : Int)).toNat, by omega, by omega⟩

theorem turned {w : World} {base : Nat} {v : Value} {l : List UInt8} {k : Nat} (b : UInt8) (h : Own w base v l) (hk : k < l.length) :
    ∃ (g cap : Nat) (z d : UInt8), v = .slice (some ⟨g, 0, none⟩) l.length cap ∧ w.cell? ⟨g, k, none⟩ = some (.int .u8 z.toNat) ∧ w.frozen? ⟨g, k, none⟩ = false ∧ base ≤ g ∧
      Own (w.setCell ⟨g, k, none⟩ (.int .u8 d.toNat)) base v (l.set k d) ∧ bits .xor .u8 (z.toNat : Int) (b.toNat : Int) = (d.toNat : Int) ∧
      Hid ((((crcM 0 l : Nat) : Int) == ((crcM 0 (l.set k d) : Nat) : Int)) = ((b.toNat : Int) == 0)) := by
  obtain ⟨g, cap, z, e, hz, h1, h2, h3, h4⟩ := own_store h hk
  exact ⟨g, cap, z, z ^^^ b, e, h1, h2, h3, h4 _, xor_spell z b, Lib.hid (turn_eq b hz)⟩

set_option maxHeartbeats 1600000 in
theorem walk {W : World} (A : Option Addr) (n c : Nat) (l : List UInt8) (hl : l.length = n) (hr : Bys W W.heap.size A l) (_ : n ≤ c) (_ : c ≤ maxLen) (hz : A = none → n = 0 ∧ c = 0)
    (i : Int) (lo : -9223372036854775808 ≤ i) (hi : i ≤ 9223372036854775807) (by_ : UInt8) (x : Nat) (hx : x < 4294967296) (y : Nat) (hy : y < 4294967296) :
    Calls Try.prog 6 #[.slice A n c, .int .i64 i, .int .u8 by_.toNat, .int .u32 (x : Int), .int .u32 (y : Int)] W fun e W' => e = .returned (.bool true) ∧ Below W.heap.size W W' := by
  obtain ⟨i0, hi5, hz0, hz1, hz2⟩ := info_parts byteInfo
  go_enter Try.func6, Try.ntmps6
  go_wp2_with fail
  refine (awake_any _).mono ?_
  rintro e w1 ⟨rfl, b1⟩
  have h1 := hr.kept b1
  have z1 := b1.size
  have B1 : Hid (Below W.heap.size W w1) := b1
  clear hr b1
  by_cases hn : n ≤ 2000
  · by_cases hn0 : n = 0
    · subst hn0
      go_wp2_with fail
      go_ret
      exact ⟨rfl, B1.out⟩
    · have hnb : ((n : Int) == 0) = false := by rw [beq_eq_false_iff_ne]; omega
      have hown0 := own_made w1
      have lz := Lies.bys (h1.alloc (.cells #[] 5)) hz
      have hl' : (bv l).length = n := (bv_length l).trans hl
      clear hz
      rcases Int.lt_or_le i 0 with hi0 | hi0
      · obtain ⟨k, hk, hki⟩ := at_neg i n hi0 hn0
        go_wp2_with (at_builtin; refine wpList_append_lay _ rfl (.tmp 32) (.tmp 33) 26 rfl w1.heap.size 5 i0 _ 1 1 Try.underlying26 hi5 hz0 hz1 hz2 rfl (by decide) _ _ _ rfl hown0 A n c (bv l) rfl (by omega) lz (bv_one _) (by unfold maxLen; omega) (by omega) (by simp) ?_; intro v8 w8 hown8 hg8; obtain ⟨g, cap, z, dd, rfl, hcell, hfr, hbg, hst, hxr, HQ⟩ := turned (k := k) by_ (bytes_one hl hown8) (by omega))
        have b9 : Below w1.heap.size w1 (w8.setCell ⟨g, k, none⟩ (.int .u8 dd.toNat)) := (((Below.refl _ _).alloc (Nat.le_refl _) _).grown hg8 (by simp) (fun g hg => (hown0.lt g hg).1)).setCell hbg _
        have j9 := Lib.hid (own_bys hst)
        have HL := Lib.hid (show (l.set k dd).length = n from by rw [List.length_set]; exact hl)
        clear hcell hfr hst hxr hg8 hown8 hown0 lz hl' hki
        generalize w8.setCell ⟨g, k, none⟩ (.int .u8 dd.toNat) = w9 at *
        have h9 := Lib.hid (h1.kept b9)
        have B9 : Hid (Below W.heap.size W w9) := B1.out.trans (b9.mono z1)
        clear b9 h1 B1
        refine (sum_n A n c l _ h9.out hl (by omega)).mono ?_
        rintro e w10 ⟨rfl, b10⟩
        have h10 := Lib.hid (h9.out.kept b10)
        have j10 := Lib.hid (j9.out.kept b10)
        have B10 : Hid (Below W.heap.size W w10) := B9.out.trans (b10.mono B9.out.size)
        clear h9 j9 B9 b10
        go_wp2_with fail
        refine (sum_n _ n _ (l.set k dd) _ j10.out HL.out (by omega)).mono ?_
        rintro e w11 ⟨rfl, b11⟩
        have h11 := Lib.hid (h10.out.kept b11)
        have B11 : Hid (Below W.heap.size W w11) := B10.out.trans (b11.mono B10.out.size)
        have hq := HQ.out
        clear h10 j10 B10 b11 HQ HL
        generalize crcM 0 l = s1 at *
        generalize crcM 0 (l.set k dd) = s2 at *
        go_wp2_with fail
        refine (more_n x hx A n c l _ h11.out hl (by omega)).mono ?_
        rintro e w12 ⟨rfl, b12⟩
        have h12 := Lib.hid (h11.out.kept b12)
        have B12 : Hid (Below W.heap.size W w12) := B11.out.trans (b12.mono B11.out.size)
        clear h11 B11 b12
        go_wp2_with fail
        refine (more_n y hy A n c l _ h12.out hl (by omega)).mono ?_
        rintro e w13 ⟨rfl, b13⟩
        have B13 : Hid (Below W.heap.size W w13) := B12.out.trans (b13.mono B12.out.size)
        have hs := sums_eq (l := l) hx hy
        clear h12 B12 b13
        generalize crcM x l = s3 at *
        generalize crcM y l = s4 at *
        go_wp2_with fail
        go_ret
        exact ⟨rfl, B13.out⟩
      · obtain ⟨k, hk, hki⟩ := at_pos i n hn0
        go_wp2_with (at_builtin; refine wpList_append_lay _ rfl (.tmp 32) (.tmp 33) 26 rfl w1.heap.size 5 i0 _ 1 1 Try.underlying26 hi5 hz0 hz1 hz2 rfl (by decide) _ _ _ rfl hown0 A n c (bv l) rfl (by omega) lz (bv_one _) (by unfold maxLen; omega) (by omega) (by simp) ?_; intro v8 w8 hown8 hg8; obtain ⟨g, cap, z, dd, rfl, hcell, hfr, hbg, hst, hxr, HQ⟩ := turned (k := k) by_ (bytes_one hl hown8) (by omega))
        have b9 : Below w1.heap.size w1 (w8.setCell ⟨g, k, none⟩ (.int .u8 dd.toNat)) := (((Below.refl _ _).alloc (Nat.le_refl _) _).grown hg8 (by simp) (fun g hg => (hown0.lt g hg).1)).setCell hbg _
        have j9 := Lib.hid (own_bys hst)
        have HL := Lib.hid (show (l.set k dd).length = n from by rw [List.length_set]; exact hl)
        clear hcell hfr hst hxr hg8 hown8 hown0 lz hl' hki
        generalize w8.setCell ⟨g, k, none⟩ (.int .u8 dd.toNat) = w9 at *
        have h9 := Lib.hid (h1.kept b9)
        have B9 : Hid (Below W.heap.size W w9) := B1.out.trans (b9.mono z1)
        clear b9 h1 B1
        refine (sum_n A n c l _ h9.out hl (by omega)).mono ?_
        rintro e w10 ⟨rfl, b10⟩
        have h10 := Lib.hid (h9.out.kept b10)
        have j10 := Lib.hid (j9.out.kept b10)
        have B10 : Hid (Below W.heap.size W w10) := B9.out.trans (b10.mono B9.out.size)
        clear h9 j9 B9 b10
        go_wp2_with fail
        refine (sum_n _ n _ (l.set k dd) _ j10.out HL.out (by omega)).mono ?_
        rintro e w11 ⟨rfl, b11⟩
        have h11 := Lib.hid (h10.out.kept b11)
        have B11 : Hid (Below W.heap.size W w11) := B10.out.trans (b11.mono B10.out.size)
        have hq := HQ.out
        clear h10 j10 B10 b11 HQ HL
        generalize crcM 0 l = s1 at *
        generalize crcM 0 (l.set k dd) = s2 at *
        go_wp2_with fail
        refine (more_n x hx A n c l _ h11.out hl (by omega)).mono ?_
        rintro e w12 ⟨rfl, b12⟩
        have h12 := Lib.hid (h11.out.kept b12)
        have B12 : Hid (Below W.heap.size W w12) := B11.out.trans (b12.mono B11.out.size)
        clear h11 B11 b12
        go_wp2_with fail
        refine (more_n y hy A n c l _ h12.out hl (by omega)).mono ?_
        rintro e w13 ⟨rfl, b13⟩
        have B13 : Hid (Below W.heap.size W w13) := B12.out.trans (b13.mono B12.out.size)
        have hs := sums_eq (l := l) hx hy
        clear h12 B12 b13
        generalize crcM x l = s3 at *
        generalize crcM y l = s4 at *
        go_wp2_with fail
        go_ret
        exact ⟨rfl, B13.out⟩
  · go_wp2_with fail
    go_ret
    exact ⟨rfl, B1.out⟩

set_option maxRecDepth 100000 in
theorem lifted (os : Os) (started : os.Started) (H : Type) (enc : TypeId × Value → H) :
    ReturnsInHanded {} Try.checked os 6 .any (Rows.crcTurnsSpec.pre6 enc Try.prog Try.f6 Rows.crcTurnsRow.domain false)
      (Rows.crcTurnsSpec.post enc Try.prog Try.f6 false true false false) := by
  refine lift_law (C := Try.checked) (tb := 4) ownKnobs started (by kernel_rfl) Try.func6
    (ChangeSpec.witness6 (enc := enc) (C := Try.checked) false ⟨#[], #[.slice none 0 0, .int .i64 0, .int .u8 0, .int .u32 0, .int .u32 0], []⟩ 8 (by kernel_rfl) (by kernel_rfl) (by kernel_rfl) (by kernel_rfl))
    laidOut ?_ rfl rfl Try.underlying4 ?_ ?_
  · intro t ht
    rw [Try.params6] at ht
    simp only [List.mem_cons, List.not_mem_nil, or_false] at ht
    rcases ht with rfl | rfl | rfl | rfl | rfl <;> exact ⟨by kernel_rfl, of_decide_eq_true (by kernel_rfl)⟩
  · intro vs ds W p hA
    rw [Try.params6] at hA
    obtain ⟨v0, vs0, d0, ds0, p0, q0, ha, rfl, rfl, h0, r0⟩ := trodAll_cons hA
    obtain ⟨v1, vs1, d1, ds1, p1, q1, rfl, rfl, rfl, h1, r1⟩ := trodAll_cons r0
    obtain ⟨v2, vs2, d2, ds2, p2, q2, rfl, rfl, rfl, h2, r2⟩ := trodAll_cons r1
    obtain ⟨v3, vs3, d3, ds3, p3, q3, rfl, rfl, rfl, h3, r3⟩ := trodAll_cons r2
    obtain ⟨v4, vs4, d4, ds4, p4, q4, rfl, rfl, rfl, h4, r4⟩ := trodAll_cons r3
    obtain ⟨rfl, rfl, rfl⟩ := trodAll_nil r4
    rfl
  · intro W base args ds p hval hA
    rw [Try.params6] at hA hval
    obtain ⟨v0, vs0, d0, ds0, p0, q0, ha, rfl, rfl, h0, r0⟩ := trodAll_cons hA
    obtain ⟨v1, vs1, d1, ds1, p1, q1, rfl, rfl, rfl, h1, r1⟩ := trodAll_cons r0
    obtain ⟨v2, vs2, d2, ds2, p2, q2, rfl, rfl, rfl, h2, r2⟩ := trodAll_cons r1
    obtain ⟨v3, vs3, d3, ds3, p3, q3, rfl, rfl, rfl, h3, r3⟩ := trodAll_cons r2
    obtain ⟨v4, vs4, d4, ds4, p4, q4, rfl, rfl, rfl, h4, r4⟩ := trodAll_cons r3
    obtain ⟨rfl, rfl, rfl⟩ := trodAll_nil r4
    obtain rfl : args = #[v0, v1, v2, v3, v4] := by cases args; simp_all
    obtain ⟨A0, n0, c0, xs0, rfl, e0, hr0, y0, z0, o0⟩ := open_bytesz (hval 0 _ v0 rfl rfl) h0
    obtain ⟨i1, rfl, lo1, hi1⟩ := open_i64 (hval 1 _ v1 rfl rfl) h1
    obtain ⟨b2, rfl⟩ := open_u8 (hval 2 _ v2 rfl rfl) h2
    obtain ⟨x3, rfl, hx3⟩ := open_u32 (hval 3 _ v3 rfl rfl) h3
    obtain ⟨x4, rfl, hx4⟩ := open_u32 (hval 4 _ v4 rfl rfl) h4
    exact walk A0 n0 c0 xs0 e0 hr0 y0 z0 o0 i1 lo1 hi1 b2 x3 hx3 x4 hx4

/-- The statement. -/
theorem proved : Rows.CrcTurnsSaid :=
  OpenClaim.holds_of_wide 6 Try.f6 rfl rfl rfl rfl rfl rfl rfl ⟨rfl, rfl, rfl, rfl, rfl⟩ rfl rfl rfl rfl rfl (by kernel_rfl) Try.func6 (by kernel_rfl)
    (of_decide_eq_true (by kernel_rfl)) (by unfold Func.isWrapper; first | (rw [if_pos (by decide +kernel)]; kernel_rfl) | (rw [if_neg (by decide +kernel)]; exact ⟨rfl, rfl⟩))
    (fun os started H enc _ => lifted os started H enc)
#print axioms proved
end Go.Proofs.Ytkahaccefkdbjaa.crcTurns
