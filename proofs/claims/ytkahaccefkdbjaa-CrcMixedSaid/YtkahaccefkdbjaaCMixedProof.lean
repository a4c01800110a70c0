/-
  CrcMixed answers true, for every three lists of bytes: of three lists of as many bytes the check sum of all three's difference is the difference of the check sums. Conditions: none.
-/
import Derived.Test.YtkahaccefkdbjaaRows
import Derived.Test.YtkahaccefkdbjaaCAwake
import Derived.Test.YtkahaccefkdbjaaOwnB
import Derived.Test.YtkahaccefkdbjaaOpenB
import Derived.Deep.RegionHeld3
import Derived.Deep.AppendLies
namespace Go.Proofs.Ytkahaccefkdbjaa.crcMixed
open Go.ChangeShapes Go.WideShapes Go.ChangeAt Go.RowKit

theorem xor_spell (z b : UInt8) : bits .xor .u8 (z.toNat : Int) (b.toNat : Int) = (((z ^^^ b).toNat : Nat) : Int) := by
  rw [UInt8.toNat_xor]
  exact u8_xor_nat _ _ (UInt8.toNat_lt z) (UInt8.toNat_lt b)

set_option maxHeartbeats 1600000 in
theorem walk {W : World} (A : Option Addr) (n c : Nat) (l : List UInt8) (hl : l.length = n) (hr : Bys W W.heap.size A l) (_ : n ≤ c) (_ : c ≤ maxLen)
    (B : Option Addr) (m d : Nat) (k : List UInt8) (hk : k.length = m) (hq : Bys W W.heap.size B k) (_ : m ≤ d) (_ : d ≤ maxLen)
    (C : Option Addr) (p f : Nat) (q : List UInt8) (hp : q.length = p) (hs : Bys W W.heap.size C q) (_ : p ≤ f) (_ : f ≤ maxLen) :
    Calls Try.prog 8 #[.slice A n c, .slice B m d, .slice C p f] W fun e W' => e = .returned (.bool true) ∧ Below W.heap.size W W' := by
  obtain ⟨i0, hi5, hz0, hz1, hz2⟩ := info_parts byteInfo
  go_enter Try.func8, Try.ntmps8
  go_wp2_with fail
  refine (awake_any _).mono ?_
  rintro e w1 ⟨rfl, b1⟩
  have h1 := Lib.hid (hr.kept b1)
  have q1 := Lib.hid (hq.kept b1)
  have s1 := Lib.hid (hs.kept b1)
  have z1 := b1.size
  have B1 : Hid (Below W.heap.size W w1) := b1
  clear hr hq hs b1
  by_cases hn : n ≤ 2000
  · by_cases hnm : n = m
    · by_cases hnp : n = p
      · subst hnm
        subst hnp
        have hb1 : ((n : Int) != (n : Int)) = false := by simp
        go_wp2_with fail
        have hX := mix3_length l k q (by omega) (by omega)
        have HX := Lib.hid hX
        have hM := Lib.hid (crcM_mix l k q (by omega) (by omega))
        go_loopw [8, 9] (fun v i wr => ∃ j : Nat, j ≤ n ∧ i = .int .i64 j ∧ Own wr w1.heap.size v ((mix3 l k q).take j) ∧ Below w1.heap.size w1 wr) (fun _ i _ => n - (intOf i).toNat)
        case atStart => exact ⟨0, by omega, rfl, by rw [List.take_zero]; exact own_nil _ _, Below.refl _ _⟩
        case round =>
          obtain ⟨j, hj, rfl, hown, hb⟩ := hrel
          by_cases hlt : j < n
          · obtain ⟨ba, oa, xa, rfl, _, ea, ca⟩ := (h1.out.kept hb).at_ (k := j) (by omega)
            obtain ⟨bb, ob, xb, rfl, _, eb, cb⟩ := (q1.out.kept hb).at_ (k := j) (by omega)
            obtain ⟨bc, oc, xc, rfl, _, ec, cc⟩ := (s1.out.kept hb).at_ (k := j) (by omega)
            have HE := Lib.hid (mix3_at l k q j xa xb xc ea eb ec)
            have hx1 := xor_spell xa xb
            have hx2 := xor_spell (xa ^^^ xb) xc
            generalize hxx : xa ^^^ xb = xab at *
            clear ea eb ec hxx
            generalize hxy : xab ^^^ xc = xabc at *
            clear hxy
            have hj0 : (0 : Int) ≤ (j : Int) := by omega
            have hj1 : (j : Int) < (n : Int) := by omega
            have hlj : ((mix3 l k q).take j).length = j := by rw [List.length_take]; omega
            have hown' : wr.ownsRow w1.heap.size 5 1 u8 j (bv ((mix3 l k q).take j)) := by
              unfold Own at hown
              rw [hlj] at hown
              exact hown
            have HLJ := Lib.hid hlj
            have na : u8.ownBlock ≠ some ba := fun e => by have := (hown'.lt _ e).1; omega
            have nb : u8.ownBlock ≠ some bb := fun e => by have := (hown'.lt _ e).1; omega
            have nc : u8.ownBlock ≠ some bc := fun e => by have := (hown'.lt _ e).1; omega
            have ga := World.block_lt_of_cell? wr _ ca
            have gb := World.block_lt_of_cell? wr _ cb
            have gc := World.block_lt_of_cell? wr _ cc
            have hbs := hb.size
            clear hown hlj
            go_wp2_with fail
            go_region_held3 (fun w' => w'.cell? ⟨ba, oa + j, none⟩ = some (.int .u8 xa.toNat) ∧ w'.cell? ⟨bb, ob + j, none⟩ = some (.int .u8 xb.toNat) ∧ w'.cell? ⟨bc, oc + j, none⟩ = some (.int .u8 xc.toNat))
              (first
                | go_keep
                | (go_split_ands
                   refine ⟨?_, ?_, ?_⟩
                   · (rw [hgrow.cell_far _ (by simp; omega) (Ne.symm na)]; assumption)
                   · (rw [hgrow.cell_far _ (by simp; omega) (Ne.symm nb)]; assumption)
                   · (rw [hgrow.cell_far _ (by simp; omega) (Ne.symm nc)]; assumption)))
              ((refine step_append_lies _ (by rfl) _ _ _ (by rfl) w1.heap.size 5 i0 _ 1 1 Try.underlying26 hi5 hz0 hz1 hz2 rfl (by omega) u8 j (bv ((mix3 l k q).take j)) (by rfl) ((hown'.alloc _).drew)
                  ⟨wr.heap.size, 0, none⟩ 1 1 [.int .u8 xabc.toNat] (by rfl) (by rfl) (World.news_of_block (cs := #[.int .u8 xabc.toNat]) (t := 5) (fr := (0, 0)) (heap_alloc_new wr _)) (by simp [Value.oneCell'])
                  (by omega) (by unfold maxLen; omega) (by omega) (by simp; omega) (wr.heap.size + 1) (by simp) ?_; intro gg cap w2 hown2 hgrow hat hlt2))
            have b2 : Below w1.heap.size w1 w2 := ((hb.alloc hb.size _).drew).grown hgrow (by simp; omega) (fun g hg => (hown'.lt g hg).1)
            have o2 : Own w2 w1.heap.size (.slice (some ⟨gg, 0, none⟩) (j + 1) cap) ((mix3 l k q).take (j + 1)) := by
              rw [List.take_add_one, HE.out, Option.toList_some]
              refine own_push rfl ?_
              rw [HLJ.out]
              exact hown2
            clear hgrow hown2 hown' na nb nc ca cb cc hat
            go_wp2_with fail
            go_roundw
            case rel => exact ⟨j + 1, by omega, by go_num, o2, b2⟩
            case measure => simp [intOf]; omega
          · obtain rfl : j = n := by omega
            have hlj : (mix3 l k q).take j = mix3 l k q := List.take_of_length_le (by omega)
            rw [hlj] at hown
            obtain ⟨A2, c2, rfl, hl2, _, _, r2⟩ := Bys.of_own hown
            obtain ⟨N, hN⟩ : ∃ N, (mix3 l k q).length = N := ⟨_, rfl⟩
            rw [hN]
            have hNs : N ≤ 1000000 := by omega
            have HN := Lib.hid hN
            have x2 := Lib.hid r2
            have h2 := Lib.hid (h1.out.kept hb)
            have q2 := Lib.hid (q1.out.kept hb)
            have s2 := Lib.hid (s1.out.kept hb)
            have B2 : Hid (Below W.heap.size W wr) := B1.out.trans (hb.mono z1)
            have t1 := crcM_lt (s := 0) (by omega) l
            have t2 := crcM_lt (s := 0) (by omega) k
            have t3 := crcM_lt (s := 0) (by omega) q
            have e1 := u32_xor_nat _ _ t1 t2
            have t4 := xor_lt32 t1 t2
            have e2 := u32_xor_nat _ _ t4 t3
            clear h1 q1 s1 B1 hown hb hl2 hN hX HX r2 hlj
            go_wp2_with fail
            refine (sum_n A2 N c2 (mix3 l k q) _ x2.out HN.out hNs).mono ?_
            rintro e w10 ⟨rfl, b10⟩
            have h10 := Lib.hid (h2.out.kept b10)
            have q10 := Lib.hid (q2.out.kept b10)
            have s10 := Lib.hid (s2.out.kept b10)
            have B10 : Hid (Below W.heap.size W w10) := B2.out.trans (b10.mono B2.out.size)
            rw [hM.out]
            clear h2 q2 s2 x2 B2 b10 HN hM
            go_wp2_with fail
            refine (sum_n A j c l _ h10.out hl (by omega)).mono ?_
            rintro e w11 ⟨rfl, b11⟩
            have q11 := Lib.hid (q10.out.kept b11)
            have s11 := Lib.hid (s10.out.kept b11)
            have B11 : Hid (Below W.heap.size W w11) := B10.out.trans (b11.mono B10.out.size)
            clear h10 q10 s10 B10 b11
            go_wp2_with fail
            refine (sum_n B j d k _ q11.out hk (by omega)).mono ?_
            rintro e w12 ⟨rfl, b12⟩
            have s12 := Lib.hid (s11.out.kept b12)
            have B12 : Hid (Below W.heap.size W w12) := B11.out.trans (b12.mono B11.out.size)
            clear q11 s11 B11 b12
            generalize crcM 0 l = y1 at *
            generalize crcM 0 k = y2 at *
            generalize y1 ^^^ y2 = y4 at *
            go_wp2_with fail
            refine (sum_n C j f q _ s12.out hp (by omega)).mono ?_
            rintro e w13 ⟨rfl, b13⟩
            have B13 : Hid (Below W.heap.size W w13) := B12.out.trans (b13.mono B12.out.size)
            clear s12 B12 b13
            generalize crcM 0 q = y3 at *
            generalize y4 ^^^ y3 = y5 at *
            go_wp2_with fail
            go_ret
            exact ⟨rfl, B13.out⟩
      · have hb2 : ((n : Int) != (p : Int)) = true := by simp; omega
        subst hnm
        go_wp2_with fail
        go_ret
        exact ⟨rfl, B1.out⟩
    · have hb1 : ((n : Int) != (m : Int)) = true := by simp; omega
      go_wp2_with fail
      go_ret
      exact ⟨rfl, B1.out⟩
  · go_wp2_with fail
    go_ret
    exact ⟨rfl, B1.out⟩

set_option maxRecDepth 100000 in
theorem lifted (os : Os) (started : os.Started) (H : Type) (enc : TypeId × Value → H) :
    ReturnsInHanded {} Try.checked os 8 .any (Rows.crcMixedSpec.pre6 enc Try.prog Try.f8 Rows.crcMixedRow.domain false)
      (Rows.crcMixedSpec.post enc Try.prog Try.f8 false true false false) := by
  refine lift_law (C := Try.checked) (tb := 4) ownKnobs started (by kernel_rfl) Try.func8
    (ChangeSpec.witness6 (enc := enc) (C := Try.checked) false ⟨#[], #[.slice none 0 0, .slice none 0 0, .slice none 0 0], []⟩ 8 (by kernel_rfl) (by kernel_rfl) (by kernel_rfl) (by kernel_rfl))
    laidOut ?_ rfl rfl Try.underlying4 ?_ ?_
  · intro t ht
    rw [Try.params8] at ht
    simp only [List.mem_cons, List.not_mem_nil, or_false] at ht
    rcases ht with rfl | rfl | rfl <;> exact ⟨by kernel_rfl, of_decide_eq_true (by kernel_rfl)⟩
  · intro vs ds W p hA
    rw [Try.params8] at hA
    obtain ⟨v0, vs0, d0, ds0, p0, q0, ha, rfl, rfl, h0, r0⟩ := trodAll_cons hA
    obtain ⟨v1, vs1, d1, ds1, p1, q1, rfl, rfl, rfl, h1, r1⟩ := trodAll_cons r0
    obtain ⟨v2, vs2, d2, ds2, p2, q2, rfl, rfl, rfl, h2, r2⟩ := trodAll_cons r1
    obtain ⟨rfl, rfl, rfl⟩ := trodAll_nil r2
    rfl
  · intro W base args ds p hval hA
    rw [Try.params8] at hA hval
    obtain ⟨v0, vs0, d0, ds0, p0, q0, ha, rfl, rfl, h0, r0⟩ := trodAll_cons hA
    obtain ⟨v1, vs1, d1, ds1, p1, q1, rfl, rfl, rfl, h1, r1⟩ := trodAll_cons r0
    obtain ⟨v2, vs2, d2, ds2, p2, q2, rfl, rfl, rfl, h2, r2⟩ := trodAll_cons r1
    obtain ⟨rfl, rfl, rfl⟩ := trodAll_nil r2
    obtain rfl : args = #[v0, v1, v2] := by cases args; simp_all
    obtain ⟨A0, n0, c0, xs0, rfl, e0, hr0, y0, z0⟩ := open_bytes (hval 0 _ v0 rfl rfl) h0
    obtain ⟨A1, n1, c1, xs1, rfl, e1, hr1, y1, z1⟩ := open_bytes (hval 1 _ v1 rfl rfl) h1
    obtain ⟨A2, n2, c2, xs2, rfl, e2, hr2, y2, z2⟩ := open_bytes (hval 2 _ v2 rfl rfl) h2
    exact walk A0 n0 c0 xs0 e0 hr0 y0 z0 A1 n1 c1 xs1 e1 hr1 y1 z1 A2 n2 c2 xs2 e2 hr2 y2 z2

/-- The statement. -/
theorem proved : Rows.CrcMixedSaid :=
  OpenClaim.holds_of_wide 8 Try.f8 rfl rfl rfl rfl rfl rfl rfl ⟨rfl, rfl, rfl, rfl, rfl⟩ rfl rfl rfl rfl rfl (by kernel_rfl) Try.func8 (by kernel_rfl)
    (of_decide_eq_true (by kernel_rfl)) (by unfold Func.isWrapper; first | (rw [if_pos (by decide +kernel)]; kernel_rfl) | (rw [if_neg (by decide +kernel)]; exact ⟨rfl, rfl⟩))
    (fun os started H enc _ => lifted os started H enc)
#print axioms proved
end Go.Proofs.Ytkahaccefkdbjaa.crcMixed
