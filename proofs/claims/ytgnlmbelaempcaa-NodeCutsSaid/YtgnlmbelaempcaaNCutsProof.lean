/-
  NodeCuts answers true, whatever node, cut and bytes: a node's bytes that are cut, or have more behind them, are no node. Conditions: none.
-/
import Derived.Test.YtgnlmbelaempcaaRows
import Derived.Test.YtgnlmbelaempcaaNAwake
import Derived.Test.YtgnlmbelaempcaaNFew
import Derived.Test.YtgnlmbelaempcaaNLaw
import Derived.Test.YtgnlmbelaempcaaOpenB
namespace Go.Proofs.Ytgnlmbelaempcaa.nodeCuts
open Go.ChangeShapes Go.WideShapes Go.ChangeAt Go.RowKit

/-- What stays: the argument's block, the bytes that come in. -/
structure Mid (W w : World) (s : ND) (A : Option Addr) (n c : Nat) (B : Option Addr) (m d : Nat) (C : Option Addr) (k e : Nat) (T : Option Addr) (l : List UInt8) : Prop where
  box : NBox w W.heap.size (.bool s.leaf) (.slice A n c) (.slice B m d) (.slice C k e)
  nd : Nd w A n c B m d C k e s
  bys : Bys w w.heap.size T l
  below : Below W.heap.size W w
theorem Mid.next {W w w' : World} {s : ND} {A B C T : Option Addr} {n c m d k e : Nat} {l : List UInt8} (h : Mid W w s A n c B m d C k e T l) (b : Below w.heap.size w w') : Mid W w' s A n c B m d C k e T l :=
  ⟨h.box.kept b, h.nd.kept b, (h.bys.kept b).more b.size, chainN b h.below⟩

theorem bys_at {w : World} {R : Nat} {A : Option Addr} {l : List UInt8} (h : Bys w R A l) (hl : 0 < l.length) : ∃ b off, A = some ⟨b, off, none⟩ ∧ b < R ∧ True := by
  obtain ⟨b, off, _, h1, h2, _⟩ := h.at_ hl
  exact ⟨b, off, h1, h2, trivial⟩
theorem enc_pos {s : ND} (h : s.encE = 0) : 2 ≤ s.encB.length ∧ s.encB.length ≤ 1000 := by
  obtain ⟨_, ho, hz⟩ := ND.fits_of h
  rw [ND.encB_of h, ND.enc_length ho]
  unfold ND.size at hz ⊢
  omega
theorem encE_ways (s : ND) : s.encE = 0 ∨ s.encE = 100 ∨ s.encE = 101 := by
  unfold ND.encE
  split
  · split <;> omega
  · omega

set_option maxRecDepth 20000 in
set_option maxHeartbeats 6400000 in
theorem walk {W : World} (s : ND) (A : Option Addr) (n c : Nat) (B : Option Addr) (m d : Nat) (C : Option Addr) (k e : Nat) (hs : Nd W A n c B m d C k e s) (z : Int) (hz0 : -9223372036854775808 ≤ z) (hz1 : z ≤ 9223372036854775807)
    (T : Option Addr) (j e0 : Nat) (l : List UInt8) (hl : l.length = j) (hb : Bys W W.heap.size T l) (hj : j ≤ e0) (_ : e0 ≤ maxLen) (hnil : T = none → j = 0 ∧ e0 = 0) :
    Calls Try.prog 8 #[.agg #[.bool s.leaf, .slice A n c, .slice B m d, .slice C k e], .int .i64 z, .slice T j e0] W fun e w' => e = .returned (.bool true) ∧ Below W.heap.size W w' := by
  obtain ⟨i0, hi, hy0, hy1, hy2⟩ := info_parts byteInfo
  have b0 := below_one W (.cells #[.bool s.leaf, .slice A n c, .slice B m d, .slice C k e] 26)
  have M0 : Hid (Mid W (W.alloc (.cells #[.bool s.leaf, .slice A n c, .slice B m d, .slice C k e] 26)) s A n c B m d C k e T l) := Lib.hid ⟨nbox_new W _ _ _ _, hs.kept b0, (hb.kept b0).more b0.size, b0⟩
  have HL := Lib.hid hl
  have HNil := Lib.hid hnil
  clear hs hb hl b0 hnil
  go_enter Try.func8, Try.ntmps8
  go_upto_region 1 with fail
  generalize W.alloc (.cells #[.bool s.leaf, .slice A n c, .slice B m d, .slice C k e] 26) = w0 at *
  go_wp2_with fail
  refine (awake_any _).mono ?_
  rintro e w1 ⟨rfl, b1⟩
  have M1 := Lib.hid (M0.out.next b1)
  obtain ⟨c0, c1, c2, c3⟩ := M1.out.box.cells
  clear b1 M0
  go_wp2_with fail
  refine (nfew_any _ A n c B m d C k _ s w1 M1.out.nd).mono ?_
  rintro e w2 ⟨r, rfl, hr, b2⟩
  have M2 := Lib.hid (M1.out.next b2)
  clear b2 M1 c0 c1 c2 c3
  obtain ⟨c0, c1, c2, c3⟩ := M2.out.box.cells
  cases r with
  | false =>
    clear hr
    go_wp2_with fail
    go_ret
    exact ⟨rfl, M2.out.below⟩
  | true =>
    have hS := hr rfl
    have HSm := Lib.hid hS
    clear hr hS
    by_cases hj2 : j ≤ 50
    case neg =>
      have hj3 : 50 < j := by omega
      clear hj2
      go_wp2_with fail
      go_ret
      exact ⟨rfl, M2.out.below⟩
    go_wp2_with fail
    refine (nencode_any s.leaf A n c B m d C k _ s w2 M2.out.nd rfl (by have := HSm.out.size; omega)).mono ?_
    rintro e w3 ⟨v3, rfl, o3, b3⟩
    have M3 := Lib.hid (M2.out.next b3)
    obtain ⟨A3, c3', rfl, _, hc3, hm3, y3⟩ := Bys.of_own o3
    have Y3 := Lib.hid y3
    clear b3 M2 o3 y3 c0 c1 c2 c3
    obtain ⟨E, hE⟩ : ∃ E, s.encB = E := ⟨_, rfl⟩
    obtain ⟨N, hN⟩ : ∃ N, E.length = N := ⟨_, rfl⟩
    obtain ⟨K, hK⟩ : ∃ K, s.encK = K := ⟨_, rfl⟩
    rw [hE] at Y3 hc3 ⊢
    rw [hN] at hc3 ⊢
    rw [hK]
    have HE := Lib.hid hE
    have HN := Lib.hid hN
    have HK := Lib.hid hK
    rcases encE_ways s with he | he | he
    rotate_left
    · rw [he]
      clear he hE hN hK
      go_wp2_with fail
      go_ret
      exact ⟨rfl, M3.out.below⟩
    · rw [he]
      clear he hE hN hK
      go_wp2_with fail
      go_ret
      exact ⟨rfl, M3.out.below⟩
    have hpos := enc_pos he
    rw [hE, hN] at hpos
    obtain ⟨hp1, hp2⟩ := hpos
    have HEz := Lib.hid he
    have hN0 := int_nz (a := N) (by omega)
    rw [he]
    clear he hE hN hK
    by_cases hneg : z < 0
    · have hyl : 0 ≤ -(z + 1) := by omega
      have hyu : -(z + 1) ≤ 9223372036854775807 := by omega
      go_upto_region 9 with fail
      generalize -(z + 1) = y at *
      obtain ⟨q, hq, hqN⟩ : ∃ q : Nat, y % (N : Int) = (q : Int) ∧ q < N := ⟨(y % (N : Int)).toNat, by rw [Int.toNat_of_nonneg (Int.emod_nonneg _ (by omega))], by have := Int.emod_lt_of_pos y (show (0 : Int) < (N : Int) by omega); have := Int.emod_nonneg y (show (N : Int) ≠ 0 by omega); omega⟩
      have ht : y.tmod (N : Int) = (q : Int) := by rw [Int.tmod_eq_emod_of_nonneg hyl]; exact hq
      have HDc := Lib.hid (ND.dec_none (show ND.dec K (E.take q) = none from by
        have := ND.dec_cut HEz.out (c := q) (by rw [HE.out, HN.out]; exact hqN)
        rw [HK.out, HE.out] at this
        exact this))
      have HTL : Hid ((E.take q).length = q) := Lib.hid (by rw [List.length_take, HN.out]; omega)
      have q1 : (q : Int) ≤ (c3' : Int) := by omega
      go_wp2_with fail
      refine (ndecode_any K A3 q c3' (E.take q) w3 HTL.out (Y3.out.take q) (by omega) hm3).mono ?_
      rintro e w4 ⟨v4, rfl, s4, b4⟩
      rw [HDc.out.1]
      rw [HDc.out.2] at s4
      obtain ⟨Ak, nk, ck, Av, nv, cw, Ac, nc, cc, rfl, n4, _, _, _⟩ := s4
      obtain ⟨z1, z2, _⟩ := nboxed b4 n4 (.bool ND.zero.leaf)
      have M4 := Lib.hid (M3.out.next z1)
      have Y4 := Lib.hid (Y3.out.kept z1)
      clear z1 z2 b4 n4 M3 Y3 hq ht q1
      go_upto_region 10 with fail
      generalize w4.alloc (.cells #[.bool ND.zero.leaf, .slice Ak nk ck, .slice Av nv cw, .slice Ac nc cc] 26) = w5 at *
      obtain ⟨ba, oa, rfl, _, _⟩ := bys_at Y4.out (by rw [HN.out]; omega)
      have om := own_made w5
      have bm := below_one w5 (.cells #[] 5)
      have L1 : Lies (w5.alloc (.cells #[] 5)) (some ⟨ba, oa, none⟩) N c3' (bv E) := Lies.bys (Y4.out.kept bm) (fun e => by cases e)
      have l1 : (bv E).length = N * 1 := by rw [bv_length, HN.out, Nat.mul_one]
      have l2 : (bv l).length = j * 1 := by rw [bv_length, HL.out, Nat.mul_one]
      have bs : w5.heap.size ≤ (w5.alloc (.cells #[] 5)).heap.size := bm.size
      go_wp2_with (first
        | (at_builtin; refine wpList_append_lay _ rfl (.tmp 61) (.tmp 62) 28 rfl w5.heap.size 5 i0 (.int .u8 0) 1 1 Try.underlying28 hi hy0 hy1 hy2 rfl (by decide) _ _ _ rfl om (some ⟨ba, oa, none⟩) N c3' (bv E) rfl l1 L1 (bv_one _) (by unfold maxLen; omega) (by omega) bs ?_; intro v6 w6 hown6 hg6; have B6 : Below w5.heap.size w5 w6 := bm.grown hg6 bs (fun g hg => (om.lt g hg).1); have L2 := Lies.bys ((M4.out.bys.kept B6)) HNil.out; have bs6 := B6.size)
        | (at_builtin; refine wpList_append_lay _ rfl (.tmp 63) (.tmp 64) 28 rfl w5.heap.size 5 i0 (.int .u8 0) 1 1 Try.underlying28 hi hy0 hy1 hy2 rfl (by decide) _ _ _ rfl hown6 T j e0 (bv l) rfl l2 L2 (bv_one _) (by unfold maxLen; omega) (by omega) bs6 ?_; intro v7 w7 hown7 hg7; have B7 : Below w5.heap.size w5 w7 := B6.grown hg7 bs6 (fun g hg => (hown6.lt g hg).1)))
      have o7 := bytes_join HN.out HL.out hown7
      have M7 := Lib.hid (M4.out.next B7)
      obtain ⟨A7, c7, rfl, _, hc7, hm7, y7⟩ := Bys.of_own o7
      have HLEN : Hid ((E ++ l).length = N + j) := Lib.hid (by rw [List.length_append, HN.out, HL.out])
      have Y7 := Lib.hid y7
      rw [HLEN.out] at hc7 ⊢
      clear om bm L1 l1 l2 bs hown6 hg6 B6 L2 bs6 hown7 hg7 B7 o7 y7 M4 Y4
      refine (ndecode_any K A7 (N + j) c7 (E ++ l) w7 HLEN.out Y7.out hc7 hm7).mono ?_
      rintro e w8 ⟨v8, rfl, s8, b8⟩
      obtain ⟨D, hD⟩ : ∃ D, ND.decS K (E ++ l) = D := ⟨_, rfl⟩
      rw [hD] at s8
      clear hD
      obtain ⟨Ak8, nk8, ck8, Av8, nv8, cw8, Ac8, nc8, cc8, rfl, n8, _, _, _⟩ := s8
      obtain ⟨z1, z2, _⟩ := nboxed b8 n8 (.bool D.leaf)
      have M8 := Lib.hid (M7.out.next z1)
      clear z1 z2 b8 n8 M7 Y7
      by_cases hj0 : j = 0
      · subst hj0
        have HX : Hid (ND.decE K (E ++ l) = 0) := Lib.hid (by
          obtain rfl : l = [] := List.eq_nil_of_length_eq_zero HL.out
          rw [List.append_nil]
          have := ND.dec_enc HEz.out
          rw [HK.out, HE.out] at this
          exact (ND.dec_some this).1)
        rw [HX.out]
        go_upto_region 11 with fail
        generalize w8.alloc (.cells #[.bool D.leaf, .slice Ak8 nk8 ck8, .slice Av8 nv8 cw8, .slice Ac8 nc8 cc8] 26) = w9 at *
        go_wp2_with fail
        go_ret
        exact ⟨rfl, M8.out.below⟩
      · have HX : Hid (ND.decE K (E ++ l) = 100) := Lib.hid (by
          have := ND.dec_more HEz.out (x := l) (by rw [HL.out]; exact hj0)
          rw [HK.out, HE.out] at this
          exact (ND.dec_none this).1)
        rw [HX.out]
        have hjq := int_nz hj0
        clear hj0
        go_upto_region 11 with fail
        generalize w8.alloc (.cells #[.bool D.leaf, .slice Ak8 nk8 ck8, .slice Av8 nv8 cw8, .slice Ac8 nc8 cc8] 26) = w9 at *
        go_wp2_with fail
        go_ret
        exact ⟨rfl, M8.out.below⟩
    · have hyl : 0 ≤ z := by omega
      obtain ⟨y, hyz⟩ : ∃ y, z = y := ⟨_, rfl⟩
      subst hyz
      go_upto_region 9 with fail
      obtain ⟨q, hq, hqN⟩ : ∃ q : Nat, z % (N : Int) = (q : Int) ∧ q < N := ⟨(z % (N : Int)).toNat, by rw [Int.toNat_of_nonneg (Int.emod_nonneg _ (by omega))], by have := Int.emod_lt_of_pos z (show (0 : Int) < (N : Int) by omega); have := Int.emod_nonneg z (show (N : Int) ≠ 0 by omega); omega⟩
      have ht : z.tmod (N : Int) = (q : Int) := by rw [Int.tmod_eq_emod_of_nonneg hyl]; exact hq
      have HDc := Lib.hid (ND.dec_none (show ND.dec K (E.take q) = none from by
        have := ND.dec_cut HEz.out (c := q) (by rw [HE.out, HN.out]; exact hqN)
        rw [HK.out, HE.out] at this
        exact this))
      have HTL : Hid ((E.take q).length = q) := Lib.hid (by rw [List.length_take, HN.out]; omega)
      have q1 : (q : Int) ≤ (c3' : Int) := by omega
      go_wp2_with fail
      refine (ndecode_any K A3 q c3' (E.take q) w3 HTL.out (Y3.out.take q) (by omega) hm3).mono ?_
      rintro e w4 ⟨v4, rfl, s4, b4⟩
      rw [HDc.out.1]
      rw [HDc.out.2] at s4
      obtain ⟨Ak, nk, ck, Av, nv, cw, Ac, nc, cc, rfl, n4, _, _, _⟩ := s4
      obtain ⟨z1, z2, _⟩ := nboxed b4 n4 (.bool ND.zero.leaf)
      have M4 := Lib.hid (M3.out.next z1)
      have Y4 := Lib.hid (Y3.out.kept z1)
      clear z1 z2 b4 n4 M3 Y3 hq ht q1
      go_upto_region 10 with fail
      generalize w4.alloc (.cells #[.bool ND.zero.leaf, .slice Ak nk ck, .slice Av nv cw, .slice Ac nc cc] 26) = w5 at *
      obtain ⟨ba, oa, rfl, _, _⟩ := bys_at Y4.out (by rw [HN.out]; omega)
      have om := own_made w5
      have bm := below_one w5 (.cells #[] 5)
      have L1 : Lies (w5.alloc (.cells #[] 5)) (some ⟨ba, oa, none⟩) N c3' (bv E) := Lies.bys (Y4.out.kept bm) (fun e => by cases e)
      have l1 : (bv E).length = N * 1 := by rw [bv_length, HN.out, Nat.mul_one]
      have l2 : (bv l).length = j * 1 := by rw [bv_length, HL.out, Nat.mul_one]
      have bs : w5.heap.size ≤ (w5.alloc (.cells #[] 5)).heap.size := bm.size
      go_wp2_with (first
        | (at_builtin; refine wpList_append_lay _ rfl (.tmp 61) (.tmp 62) 28 rfl w5.heap.size 5 i0 (.int .u8 0) 1 1 Try.underlying28 hi hy0 hy1 hy2 rfl (by decide) _ _ _ rfl om (some ⟨ba, oa, none⟩) N c3' (bv E) rfl l1 L1 (bv_one _) (by unfold maxLen; omega) (by omega) bs ?_; intro v6 w6 hown6 hg6; have B6 : Below w5.heap.size w5 w6 := bm.grown hg6 bs (fun g hg => (om.lt g hg).1); have L2 := Lies.bys ((M4.out.bys.kept B6)) HNil.out; have bs6 := B6.size)
        | (at_builtin; refine wpList_append_lay _ rfl (.tmp 63) (.tmp 64) 28 rfl w5.heap.size 5 i0 (.int .u8 0) 1 1 Try.underlying28 hi hy0 hy1 hy2 rfl (by decide) _ _ _ rfl hown6 T j e0 (bv l) rfl l2 L2 (bv_one _) (by unfold maxLen; omega) (by omega) bs6 ?_; intro v7 w7 hown7 hg7; have B7 : Below w5.heap.size w5 w7 := B6.grown hg7 bs6 (fun g hg => (hown6.lt g hg).1)))
      have o7 := bytes_join HN.out HL.out hown7
      have M7 := Lib.hid (M4.out.next B7)
      obtain ⟨A7, c7, rfl, _, hc7, hm7, y7⟩ := Bys.of_own o7
      have HLEN : Hid ((E ++ l).length = N + j) := Lib.hid (by rw [List.length_append, HN.out, HL.out])
      have Y7 := Lib.hid y7
      rw [HLEN.out] at hc7 ⊢
      clear om bm L1 l1 l2 bs hown6 hg6 B6 L2 bs6 hown7 hg7 B7 o7 y7 M4 Y4
      refine (ndecode_any K A7 (N + j) c7 (E ++ l) w7 HLEN.out Y7.out hc7 hm7).mono ?_
      rintro e w8 ⟨v8, rfl, s8, b8⟩
      obtain ⟨D, hD⟩ : ∃ D, ND.decS K (E ++ l) = D := ⟨_, rfl⟩
      rw [hD] at s8
      clear hD
      obtain ⟨Ak8, nk8, ck8, Av8, nv8, cw8, Ac8, nc8, cc8, rfl, n8, _, _, _⟩ := s8
      obtain ⟨z1, z2, _⟩ := nboxed b8 n8 (.bool D.leaf)
      have M8 := Lib.hid (M7.out.next z1)
      clear z1 z2 b8 n8 M7 Y7
      by_cases hj0 : j = 0
      · subst hj0
        have HX : Hid (ND.decE K (E ++ l) = 0) := Lib.hid (by
          obtain rfl : l = [] := List.eq_nil_of_length_eq_zero HL.out
          rw [List.append_nil]
          have := ND.dec_enc HEz.out
          rw [HK.out, HE.out] at this
          exact (ND.dec_some this).1)
        rw [HX.out]
        go_upto_region 11 with fail
        generalize w8.alloc (.cells #[.bool D.leaf, .slice Ak8 nk8 ck8, .slice Av8 nv8 cw8, .slice Ac8 nc8 cc8] 26) = w9 at *
        go_wp2_with fail
        go_ret
        exact ⟨rfl, M8.out.below⟩
      · have HX : Hid (ND.decE K (E ++ l) = 100) := Lib.hid (by
          have := ND.dec_more HEz.out (x := l) (by rw [HL.out]; exact hj0)
          rw [HK.out, HE.out] at this
          exact (ND.dec_none this).1)
        rw [HX.out]
        have hjq := int_nz hj0
        clear hj0
        go_upto_region 11 with fail
        generalize w8.alloc (.cells #[.bool D.leaf, .slice Ak8 nk8 ck8, .slice Av8 nv8 cw8, .slice Ac8 nc8 cc8] 26) = w9 at *
        go_wp2_with fail
        go_ret
        exact ⟨rfl, M8.out.below⟩

set_option maxRecDepth 100000 in
theorem lifted (os : Os) (started : os.Started) (H : Type) (enc : TypeId × Value → H) :
    ReturnsInHanded {} Try.checked os 8 .any (Rows.nodeCutsSpec.pre6 enc Try.prog Try.f8 Rows.nodeCutsRow.domain false)
      (Rows.nodeCutsSpec.post enc Try.prog Try.f8 false true false false) := by
  refine lift_law (C := Try.checked) (tb := 4) ownKnobs started (by kernel_rfl) Try.func8
    (ChangeSpec.witness6 (enc := enc) (C := Try.checked) false ⟨#[], #[.agg #[.bool false, .slice none 0 0, .slice none 0 0, .slice none 0 0], .int .i64 0, .slice none 0 0], []⟩ 8 (by kernel_rfl) (by kernel_rfl) (by kernel_rfl) (by kernel_rfl))
    laidOut ?_ rfl rfl Try.underlying4 ?_ ?_
  · intro t ht
    rw [Try.params8] at ht
    simp only [List.mem_cons, List.not_mem_nil, or_false] at ht
    rcases ht with rfl | rfl | rfl <;> exact ⟨by kernel_rfl, of_decide_eq_true (by kernel_rfl)⟩
  · intro vs ds W p hA
    rw [Try.params8] at hA
    obtain ⟨v0, vs0, d0, ds0, p0, q0, ha, rfl, rfl, h0, r0⟩ := trodAll_cons hA
    obtain ⟨v1, vs1, d1, ds1, p1, q1, rfl, rfl, rfl, h1, r1⟩ := trodAll_cons r0
    obtain ⟨v2, vs2, d2, ds2, p2, q2, rfl, rfl, rfl, h2, r2⟩ := trodAll_cons r1
    obtain ⟨rfl, rfl, rfl⟩ := trodAll_nil r2
    rfl
  · intro W base args ds p hval hA
    rw [Try.params8] at hA hval
    obtain ⟨v0, vs0, d0, ds0, p0, q0, ha, rfl, rfl, h0, r0⟩ := trodAll_cons hA
    obtain ⟨v1, vs1, d1, ds1, p1, q1, rfl, rfl, rfl, h1, r1⟩ := trodAll_cons r0
    obtain ⟨v2, vs2, d2, ds2, p2, q2, rfl, rfl, rfl, h2, r2⟩ := trodAll_cons r1
    obtain ⟨rfl, rfl, rfl⟩ := trodAll_nil r2
    obtain rfl : args = #[v0, v1, v2] := by cases args; simp_all
    obtain ⟨s0, A0, n0, c0, B0, m0, d0, C0, k0, e0, rfl, hs0, _⟩ := open_node (hval 0 _ v0 rfl rfl) h0
    obtain ⟨i1, rfl, lo1, hi1⟩ := open_i64 (hval 1 _ v1 rfl rfl) h1
    obtain ⟨A2, n2, c2, xs2, rfl, e2, hr2, y2, z2, o2⟩ := open_bytesz (hval 2 _ v2 rfl rfl) h2
    exact walk s0 A0 n0 c0 B0 m0 d0 C0 k0 e0 hs0 i1 lo1 hi1 A2 n2 c2 xs2 e2 hr2 y2 z2 o2

/-- The statement. -/
theorem proved : Rows.NodeCutsSaid :=
  OpenClaim.holds_of_wide 8 Try.f8 rfl rfl rfl rfl rfl rfl rfl ⟨rfl, rfl, rfl, rfl, rfl⟩ rfl rfl rfl rfl rfl (by kernel_rfl) Try.func8 (by kernel_rfl)
    (of_decide_eq_true (by kernel_rfl)) (by unfold Func.isWrapper; first | (rw [if_pos (by decide +kernel)]; kernel_rfl) | (rw [if_neg (by decide +kernel)]; exact ⟨rfl, rfl⟩))
    (fun os started H enc _ => lifted os started H enc)
#print axioms proved
end Go.Proofs.Ytgnlmbelaempcaa.nodeCuts
