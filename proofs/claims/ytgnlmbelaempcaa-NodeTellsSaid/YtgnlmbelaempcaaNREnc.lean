/-
  What the document's own four, text and Encode come to (package tailraceref10).
-/
import Derived.Test.YtgnlmbelaempcaaNEnc
import Derived.Test.YtgnlmbelaempcaaNRSize
import Derived.Test.YtgnlmbelaempcaaNRCheck
namespace Go.Proofs.Ytgnlmbelaempcaa
open Go.RowKit

theorem own_row4 (w : World) (a b c d : UInt8) : Own (w.alloc (.cells #[.int .u8 a.toNat, .int .u8 b.toNat, .int .u8 c.toNat, .int .u8 d.toNat] 5)) w.heap.size (.slice (some ⟨w.heap.size, 0, none⟩) 4 4) [a, b, c, d] :=
  ⟨rfl, Or.inr ⟨w.heap.size, 4, _, rfl, Nat.le_refl _, heap_alloc_new w _, Nat.le_refl _, by unfold maxLen; omega, rfl, rfl⟩⟩
theorem own_row2 (w : World) (a b : UInt8) : Own (w.alloc (.cells #[.int .u8 a.toNat, .int .u8 b.toNat] 5)) w.heap.size (.slice (some ⟨w.heap.size, 0, none⟩) 2 2) [a, b] :=
  ⟨rfl, Or.inr ⟨w.heap.size, 2, _, rfl, Nat.le_refl _, heap_alloc_new w _, Nat.le_refl _, by unfold maxLen; omega, rfl, rfl⟩⟩
theorem own_row1 (w : World) (a : UInt8) : Own (w.alloc (.cells #[.int .u8 a.toNat] 5)) w.heap.size (.slice (some ⟨w.heap.size, 0, none⟩) 1 1) [a] :=
  ⟨rfl, Or.inr ⟨w.heap.size, 1, _, rfl, Nat.le_refl _, heap_alloc_new w _, Nat.le_refl _, by unfold maxLen; omega, rfl, rfl⟩⟩

set_option maxRecDepth 20000 in
theorem four_any (z : Int) (w : World) :
    Calls Try.prog 22 #[.int .i64 z] w (Owned w.heap.size w (ND.kd z)) := by
  have e0 := nshift z 16777216 (by omega)
  have e1 := nshift z 65536 (by omega)
  have e2 := nshift z 256 (by omega)
  have e3 : z % 256 = ((UInt8.ofNat (mod32 z)).toNat : Int) := by rw [ofNat_toNat]; unfold mod32; omega
  have E : Hid (Own (w.alloc (.cells #[.int .u8 (z / 16777216 % 256), .int .u8 (z / 65536 % 256), .int .u8 (z / 256 % 256), .int .u8 (z % 256)] 5)) w.heap.size (.slice (some ⟨w.heap.size, 0, none⟩) 4 4) (ND.kd z)) := Lib.hid (by
    have := own_row4 w (UInt8.ofNat (mod32 z / 16777216)) (UInt8.ofNat (mod32 z / 65536)) (UInt8.ofNat (mod32 z / 256)) (UInt8.ofNat (mod32 z))
    rw [← e3, ← show z / 16777216 % 256 = _ from e0, ← show z / 65536 % 256 = _ from e1, ← show z / 256 % 256 = _ from e2] at this
    exact this)
  clear e0 e1 e2 e3
  go_enter Try.func22, Try.ntmps22
  go_wp2_with fail
  go_ret
  exact ⟨_, rfl, E.out, below_one _ _⟩

set_option maxRecDepth 20000 in
set_option maxHeartbeats 800000 in
theorem rtext_any (s : ByteArray) (w : World) (hs : s.size ≤ 1000000) :
    Calls Try.prog 23 #[.string s] w (Owned w.heap.size w (ND.tx s.toList)) := by
  obtain ⟨i0, hi, hz0, hz1, hz2⟩ := info_parts byteInfo
  have e3 : (s.size : Int) % 256 = ((UInt8.ofNat (mod32 (s.size : Int))).toNat : Int) := by rw [ofNat_toNat]; unfold mod32; omega
  have o0 : (w.alloc (.cells #[.int .u8 ((s.size : Int) % 256)] 5)).ownsRow w.heap.size 5 1 (.slice (some ⟨w.heap.size, 0, none⟩) 1 1) 1 (bv ([] ++ be 1 (mod32 (s.size : Int)))) := by
    have := own_row1 w (UInt8.ofNat (mod32 (s.size : Int)))
    rw [← e3] at this
    exact this
  clear e3
  go_enter Try.func23, Try.ntmps23
  go_wp2_with (at_builtin; refine Lib.wpList_append_own_string _ rfl (.tmp 6) (.tmp 7) 28 9 rfl w.heap.size 5 i0 Try.underlying28 Try.underlying9 hi hz0 hz1 hz2 _ _ _ rfl o0 s rfl (by unfold maxLen; omega) (by omega) (by simp) ?_; intro v3 w3 hown3 hg3 _)
  have O3 := Lib.hid (own_text (xs := []) (N := 1) (by simp [be_one]) hown3)
  have B3 := Lib.hid ((below_one w (.cells #[.int .u8 ((s.size : Int) % 256)] 5)).grown hg3 (by simp) (fun g hg => (o0.lt g hg).1))
  clear o0 hown3 hg3
  go_ret
  exact ⟨_, rfl, O3.out, B3.out⟩

/-- One list of bytes behind another. -/
theorem own_more {w : World} {base n m : Nat} {v : Value} {xs ys : List UInt8} (hn : xs.length = n) (hm : ys.length = m) (h : w.ownsRow base 5 1 v (n + m) (bv xs ++ bv ys)) : Own w base v (xs ++ ys) := by
  unfold Own
  rw [bv_append, List.length_append, hn, hm]
  exact h

set_option maxRecDepth 20000 in
set_option maxHeartbeats 6400000 in
theorem rencode_any (lf : Bool) (A : Option Addr) (n c : Nat) (B : Option Addr) (m d : Nat) (C : Option Addr) (k e : Nat) (s : ND) (w : World) (h : Nd w A n c B m d C k e s) (hl : s.leaf = lf) (hz : s.size ≤ 1000000) :
    Calls Try.prog 12 #[.agg #[.bool lf, .slice A n c, .slice B m d, .slice C k e]] w (NEncEnd w s) := by
  obtain ⟨i0, hi, hz0, hz1, hz2⟩ := info_parts byteInfo
  have HB := Lib.hid (nbox_new w (.bool lf) (.slice A n c) (.slice B m d) (.slice C k e))
  have b1 := below_one w (.cells #[.bool lf, .slice A n c, .slice B m d, .slice C k e] 26)
  have B1 := Lib.hid b1
  have H1 := Lib.hid (h.kept b1)
  have hn : n ≤ 1000000 := by have := h.kn; unfold ND.size ND.tsz at hz; omega
  have hm : m ≤ 1000000 := by have := h.vn; unfold ND.size ND.tsz at hz; omega
  have hk : k ≤ 1000000 := by have := h.cn; unfold ND.size ND.tsz at hz; omega
  have HKN := Lib.hid h.kn
  have HVN := Lib.hid h.vn
  have HCN := Lib.hid h.cn
  have HL := Lib.hid hl
  clear b1 h hl
  go_enter Try.func12, Try.ntmps12
  go_upto_region 1 with fail
  generalize w.alloc (.cells #[.bool lf, .slice A n c, .slice B m d, .slice C k e] 26) = w1 at *
  obtain ⟨c0, c1, c2, c3⟩ := HB.out.cells
  go_wp2_with fail
  refine (rcheck_any lf A n c B m d C k e s w1 H1.out HL.out (by omega) (by omega) (by omega)).mono ?_
  rintro e2 w2 ⟨rfl, b2⟩
  have B2 := Lib.hid (B1.out.trans (b2.mono B1.out.size))
  have HB2 := Lib.hid (HB.out.kept b2)
  have H2 := Lib.hid (H1.out.kept b2)
  clear b2 c0 c1 c2 c3 HB H1
  obtain ⟨c0, c1, c2, c3⟩ := HB2.out.cells
  cases hk : s.ok with
  | false =>
    rw [ncheck_bad hk]
    have HE := Lib.hid (nenc_bad hk B2.out)
    clear hk
    go_wp2_with fail
    go_ret3
    exact HE.out
  | true =>
    rw [ncheck_good hk]
    have HO := Lib.hid hk
    clear hk
    go_wp2_with fail
    refine (rsize_any lf A n c B m d C k e s w2 H2.out (by omega)).mono ?_
    rintro e3 w3 ⟨rfl, b3⟩
    have B3 := Lib.hid (B2.out.trans (b3.mono B2.out.size))
    have HB3 := Lib.hid (HB2.out.kept b3)
    have H3 := Lib.hid (H2.out.kept b3)
    clear b3 c0 c1 c2 c3 HB2 H2
    obtain ⟨c0, c1, c2, c3⟩ := HB3.out.cells
    by_cases hbig : s.size ≤ 1000
    case neg =>
      have HE := Lib.hid (nenc_big HO.out hbig B3.out)
      have hb : 1000 < s.size := by omega
      go_wp2_with fail
      go_ret3
      exact HE.out
    have HBig := Lib.hid hbig
    have Bs := B3.out.size
    have q1 : (n : Int) / 256 % 256 = ((UInt8.ofNat (n / 256)).toNat : Int) := by rw [ofNat_toNat]; omega
    have q3 : (n : Int) % 256 = ((UInt8.ofNat n).toNat : Int) := by rw [ofNat_toNat]; omega
    have o4 := own_row2 w3 (UInt8.ofNat (n / 256)) (UInt8.ofNat n)
    rw [← be_two, ← q1, ← q3, ← HKN.out] at o4
    rw [HKN.out] at o4
    have O4 : Hid (Own (w3.alloc (.cells #[.int .u8 ((n : Int) / 256 % 256), .int .u8 ((n : Int) % 256)] 5)) w3.heap.size (.slice (some ⟨w3.heap.size, 0, none⟩) 2 2) (be 2 s.keys.length)) := Lib.hid (by rw [HKN.out]; exact o4)
    have B4 := Lib.hid (below_one w3 (.cells #[.int .u8 ((n : Int) / 256 % 256), .int .u8 ((n : Int) % 256)] 5))
    clear q1 q3 o4
    go_upto_region 6 with fail
    generalize hw4 : w3.alloc (.cells #[.int .u8 ((n : Int) / 256 % 256), .int .u8 ((n : Int) % 256)] 5) = w4 at *
    clear hw4 c0 c1 c2 c3
    obtain ⟨c0, c1, c2, c3⟩ := (HB3.out.kept B4.out).cells
    cases lf with
    | true =>
      have hu := fun j => upL_length HO.out HL.out j
      have HU := Lib.hid hu
      have HA := Lib.hid (upL_all HO.out HL.out)
      have hmn : m = n := by have := (ND.ok_leaf HO.out HL.out).1; rw [HVN.out, HKN.out] at this; exact this
      subst hmn
      clear hu
      go_wp2_with fail
      go_loopw [5, 7] (fun v i wr => ∃ j : Nat, j ≤ m ∧ i = .int .i64 j ∧ Hid (Own wr w3.heap.size v (upL s j)) ∧ Hid (Below w3.heap.size w3 wr)) (fun _ i _ => m - (intOf i).toNat)
      case atStart => exact ⟨0, Nat.zero_le _, rfl, Lib.hid (by rw [upL_zero]; exact O4.out), B4⟩
      case round =>
        obtain ⟨j, hj, rfl, HOj, HBj⟩ := hrel
        clear c0 c1 c2 c3
        obtain ⟨c0, c1, c2, c3⟩ := (HB3.out.kept HBj.out).cells
        by_cases hlt : j < m
        · obtain ⟨b, off, s1, rfl, hv, f3⟩ := H3.out.ke.strAt hlt
          obtain ⟨b', off', s2, rfl, hv', g3⟩ := H3.out.va.strAt hlt
          have HN := Lib.hid (upL_next hv hv')
          have z1 := nkey_small HO.out hv
          have z2 := nval_small HO.out hv'
          have z3 := HU.out j
          have z4 : s1.size ≤ 120 := by have := ND.ok_keys HO.out _ (List.mem_of_getElem? hv); rw [toList_length] at this; exact this
          have z5 : s2.size ≤ 100 := by have := ND.ok_vals HO.out _ (List.mem_of_getElem? hv'); rw [toList_length] at this; exact this
          have HG := Lib.hid g3
          have f0 := cell_on HBj.out f3
          clear hv hv' f3 g3
          go_wp2_with fail
          refine (rtext_any s1 _ z1).mono ?_
          rintro e5 w5 ⟨v5, rfl, o5, b5⟩
          obtain ⟨A5, c5, rfl, _, L5⟩ := Ln.of_own o5
          have ou := own_below HOj.out b5
          have B5 := Lib.hid (HBj.out.trans (b5.mono HBj.out.size))
          obtain ⟨N, hN⟩ : ∃ N, (upL s j).length = N := ⟨_, rfl⟩
          have hT : (ND.tx s1.toList).length = 1 + s1.size := by rw [ND.tx_length, toList_length]
          unfold Own at ou
          rw [hN] at ou z3
          rw [hT] at L5 ⊢
          have HT := Lib.hid hT
          have HNN := Lib.hid hN
          have bs5 := B5.out.size
          clear o5 b5 c0 c1 c2 c3 f0 hT hN
          obtain ⟨c0, c1, c2, c3⟩ := (HB3.out.kept B5.out).cells
          go_wp2_with (at_builtin; refine wpList_append_lay _ rfl (.tmp 42) (.tmp 48) 28 rfl w3.heap.size 5 i0 (.int .u8 0) 1 1 Try.underlying28 hi hz0 hz1 hz2 rfl (by decide) _ _ _ rfl ou A5 (1 + s1.size) c5 (bv (ND.tx s1.toList)) rfl L5.len L5.lies (bv_one _) (by unfold maxLen; omega) (by omega) bs5 ?_; intro v6 w6 hown6 hg6; have O6 := Lib.hid (own_more HNN.out HT.out hown6); have B6 := Lib.hid (B5.out.grown hg6 bs5 (fun g hg => (ou.lt g hg).1)); obtain ⟨d0, d1, d2, d3⟩ := (HB3.out.kept B6.out).cells; have g0 := cell_on B6.out HG.out)
          refine (rtext_any s2 _ z2).mono ?_
          rintro e7 w7 ⟨v7, rfl, o7, b7⟩
          obtain ⟨A7, c7, rfl, _, L7⟩ := Ln.of_own o7
          have ou2 := own_below O6.out b7
          have B7 := Lib.hid (B6.out.trans (b7.mono B6.out.size))
          have hN2 : (upL s j ++ ND.tx s1.toList).length = N + (1 + s1.size) := by rw [List.length_append, HNN.out, HT.out]
          have hT2 : (ND.tx s2.toList).length = 1 + s2.size := by rw [ND.tx_length, toList_length]
          unfold Own at ou2
          rw [hN2] at ou2
          rw [hT2] at L7 ⊢
          have HT2 := Lib.hid hT2
          have HN2 := Lib.hid hN2
          have bs7 := B7.out.size
          clear ou o7 b7 c0 c1 c2 c3 d0 d1 d2 d3 g0 hT2 hN2 L5 bs5 hg6 hown6
          go_wp2_with (at_builtin; refine wpList_append_lay _ rfl (.tmp 52) (.tmp 58) 28 rfl w3.heap.size 5 i0 (.int .u8 0) 1 1 Try.underlying28 hi hz0 hz1 hz2 rfl (by decide) _ _ _ rfl ou2 A7 (1 + s2.size) c7 (bv (ND.tx s2.toList)) rfl L7.len L7.lies (bv_one _) (by unfold maxLen; omega) (by omega) bs7 ?_; intro v8 w8 hown8 hg8; have O8 := Lib.hid (own_more HN2.out HT2.out hown8); have B8 := Lib.hid (B7.out.grown hg8 bs7 (fun g hg => (ou2.lt g hg).1)))
          have O9 := O8.out
          rw [← HN.out] at O9
          go_roundw
          case rel => exact ⟨j + 1, by omega, by go_num, Lib.hid O9, B8⟩
          case measure => simp [intOf]; omega
        · obtain rfl : m = j := by omega
          have o5 := HOj.out
          rw [← HKN.out, HA.out] at o5
          have HE := Lib.hid (nenc_good HO.out HBig.out o5 Bs (B3.out.trans (HBj.out.mono Bs)))
          rw [HL.out] at HE
          clear o5
          go_wp2_with fail
          go_ret3
          exact HE.out
    | false =>
      have hu := fun j => upI_length HO.out HL.out j
      have HU := Lib.hid hu
      have HA := Lib.hid (upI_all HO.out HL.out)
      have hkn : k = n + 1 := by have := (ND.ok_inner HO.out HL.out).2.1; rw [HKN.out, HCN.out] at this; exact this
      subst hkn
      clear hu
      obtain ⟨bk, ok, z, rfl, hv0, f3⟩ := H3.out.ki.intAt (k := 0) (by omega)
      rw [Nat.add_zero] at f3
      have HZ := Lib.hid (upI_zero hv0)
      have q0 := cell_on B4.out f3
      clear hv0 f3
      go_wp2_with fail
      refine (four_any z _).mono ?_
      rintro e5 w5 ⟨v5, rfl, o5, b5⟩
      obtain ⟨A5, c5, rfl, _, L5⟩ := Ln.of_own o5
      have ou := own_below O4.out b5
      have B5 := Lib.hid (B4.out.trans (b5.mono B4.out.size))
      have hT : (ND.kd z).length = 4 := ND.kd_length z
      have hN : (be 2 s.keys.length).length = 2 := be_length _ (by omega)
      unfold Own at ou
      rw [hN] at ou
      rw [hT] at L5 ⊢
      have HT := Lib.hid hT
      have HNN := Lib.hid hN
      have bs5 := B5.out.size
      clear o5 b5 c0 c1 c2 c3 q0 hT hN
      obtain ⟨c0, c1, c2, c3⟩ := (HB3.out.kept B5.out).cells
      go_wp2_with (at_builtin; refine wpList_append_lay _ rfl (.tmp 28) (.tmp 33) 28 rfl w3.heap.size 5 i0 (.int .u8 0) 1 1 Try.underlying28 hi hz0 hz1 hz2 rfl (by decide) _ _ _ rfl ou A5 4 c5 (bv (ND.kd z)) rfl L5.len L5.lies (bv_one _) (by unfold maxLen; omega) (by omega) bs5 ?_; intro v6 w6 hown6 hg6; have O6 := Lib.hid (own_more HNN.out HT.out hown6); have B6 := Lib.hid (B5.out.grown hg6 bs5 (fun g hg => (ou.lt g hg).1)))
      have O7 := O6.out
      rw [← HZ.out] at O7
      have O8 := Lib.hid O7
      clear ou hown6 hg6 L5 bs5 c0 c1 c2 c3 O7 O6
      go_loopw [5, 7] (fun v i wr => ∃ j : Nat, j ≤ n ∧ i = .int .i64 j ∧ Hid (Own wr w3.heap.size v (upI s j)) ∧ Hid (Below w3.heap.size w3 wr)) (fun _ i _ => n - (intOf i).toNat)
      case atStart => exact ⟨0, Nat.zero_le _, rfl, O8, B6⟩
      case round =>
        obtain ⟨j, hj, rfl, HOj, HBj⟩ := hrel
        obtain ⟨c0, c1, c2, c3⟩ := (HB3.out.kept HBj.out).cells
        by_cases hlt : j < n
        · obtain ⟨b, off, s1, rfl, hv, f3⟩ := H3.out.ke.strAt hlt
          obtain ⟨b', off', z2, hA, hv', g3⟩ := H3.out.ki.intAt (k := j + 1) (by omega)
          obtain ⟨rfl, rfl⟩ : bk = b' ∧ ok = off' := by
            have := Option.some.inj hA
            injection this with h1 h2
            exact ⟨h1, h2⟩
          have HN := Lib.hid (upI_next hv hv')
          have z1 := nkey_small HO.out hv
          have z3 := HU.out j
          have z4 : s1.size ≤ 120 := by have := ND.ok_keys HO.out _ (List.mem_of_getElem? hv); rw [toList_length] at this; exact this
          have HG := Lib.hid g3
          have f0 := cell_on HBj.out f3
          clear hv hv' f3 g3 hA
          go_wp2_with fail
          refine (rtext_any s1 _ z1).mono ?_
          rintro e5 w5 ⟨v5, rfl, o5, b5⟩
          obtain ⟨A5, c5, rfl, _, L5⟩ := Ln.of_own o5
          have ou := own_below HOj.out b5
          have B5 := Lib.hid (HBj.out.trans (b5.mono HBj.out.size))
          obtain ⟨N, hN⟩ : ∃ N, (upI s j).length = N := ⟨_, rfl⟩
          have hT : (ND.tx s1.toList).length = 1 + s1.size := by rw [ND.tx_length, toList_length]
          unfold Own at ou
          rw [hN] at ou z3
          rw [hT] at L5 ⊢
          have HT := Lib.hid hT
          have HNN := Lib.hid hN
          have bs5 := B5.out.size
          clear o5 b5 c0 c1 c2 c3 f0 hT hN
          obtain ⟨c0, c1, c2, c3⟩ := (HB3.out.kept B5.out).cells
          go_wp2_with (at_builtin; refine wpList_append_lay _ rfl (.tmp 42) (.tmp 48) 28 rfl w3.heap.size 5 i0 (.int .u8 0) 1 1 Try.underlying28 hi hz0 hz1 hz2 rfl (by decide) _ _ _ rfl ou A5 (1 + s1.size) c5 (bv (ND.tx s1.toList)) rfl L5.len L5.lies (bv_one _) (by unfold maxLen; omega) (by omega) bs5 ?_; intro v6 w6 hown6 hg6; have O6 := Lib.hid (own_more HNN.out HT.out hown6); have B6 := Lib.hid (B5.out.grown hg6 bs5 (fun g hg => (ou.lt g hg).1)); obtain ⟨d0, d1, d2, d3⟩ := (HB3.out.kept B6.out).cells; have g0 := cell_on B6.out HG.out)
          refine (four_any z2 _).mono ?_
          rintro e7 w7 ⟨v7, rfl, o7, b7⟩
          obtain ⟨A7, c7, rfl, _, L7⟩ := Ln.of_own o7
          have ou2 := own_below O6.out b7
          have B7 := Lib.hid (B6.out.trans (b7.mono B6.out.size))
          have hN2 : (upI s j ++ ND.tx s1.toList).length = N + (1 + s1.size) := by rw [List.length_append, HNN.out, HT.out]
          have hT2 : (ND.kd z2).length = 4 := ND.kd_length z2
          unfold Own at ou2
          rw [hN2] at ou2
          rw [hT2] at L7 ⊢
          have HT2 := Lib.hid hT2
          have HN2 := Lib.hid hN2
          have bs7 := B7.out.size
          clear ou o7 b7 c0 c1 c2 c3 d0 d1 d2 d3 g0 hT2 hN2 L5 bs5 hg6 hown6
          go_wp2_with (at_builtin; refine wpList_append_lay _ rfl (.tmp 60) (.tmp 67) 28 rfl w3.heap.size 5 i0 (.int .u8 0) 1 1 Try.underlying28 hi hz0 hz1 hz2 rfl (by decide) _ _ _ rfl ou2 A7 4 c7 (bv (ND.kd z2)) rfl L7.len L7.lies (bv_one _) (by unfold maxLen; omega) (by omega) bs7 ?_; intro v8 w8 hown8 hg8; have O8 := Lib.hid (own_more HN2.out HT2.out hown8); have B8 := Lib.hid (B7.out.grown hg8 bs7 (fun g hg => (ou2.lt g hg).1)))
          have O9 := O8.out
          rw [← HN.out] at O9
          go_roundw
          case rel => exact ⟨j + 1, by omega, by go_num, Lib.hid O9, B8⟩
          case measure => simp [intOf]; omega
        · obtain rfl : n = j := by omega
          have o5 := HOj.out
          rw [← HKN.out, HA.out] at o5
          have HE := Lib.hid (nenc_good HO.out HBig.out o5 Bs (B3.out.trans (HBj.out.mono Bs)))
          rw [HL.out] at HE
          clear o5
          go_wp2_with fail
          go_ret3
          exact HE.out
end Go.Proofs.Ytgnlmbelaempcaa
