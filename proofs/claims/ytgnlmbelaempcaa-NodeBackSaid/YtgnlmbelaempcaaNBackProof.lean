/-
  NodeBack answers true, whatever node, kind and bytes: nodes that may be, and have room, are decoded as themselves; bytes that are a node's are its; a node has as many bytes as its size says. Conditions: none.
-/
import Derived.Test.YtgnlmbelaempcaaRows
import Derived.Test.YtgnlmbelaempcaaNAwake
import Derived.Test.YtgnlmbelaempcaaNFew
import Derived.Test.YtgnlmbelaempcaaNLaw
import Derived.Test.YtgnlmbelaempcaaOpenB
namespace Go.Proofs.Ytgnlmbelaempcaa.nodeBack
open Go.ChangeShapes Go.WideShapes Go.ChangeAt Go.RowKit

/-- What stays: the argument's block, the bytes that come in. -/
structure Mid (W w : World) (s : ND) (A : Option Addr) (n c : Nat) (B : Option Addr) (m d : Nat) (C : Option Addr) (k e : Nat) (T : Option Addr) (l : List UInt8) : Prop where
  box : NBox w W.heap.size (.bool s.leaf) (.slice A n c) (.slice B m d) (.slice C k e)
  nd : Nd w A n c B m d C k e s
  bys : Bys w w.heap.size T l
  below : Below W.heap.size W w
theorem Mid.next {W w w' : World} {s : ND} {A B C T : Option Addr} {n c m d k e : Nat} {l : List UInt8} (h : Mid W w s A n c B m d C k e T l) (b : Below w.heap.size w w') : Mid W w' s A n c B m d C k e T l :=
  ⟨h.box.kept b, h.nd.kept b, (h.bys.kept b).more b.size, chainN b h.below⟩

set_option maxRecDepth 20000 in
set_option maxHeartbeats 3200000 in
theorem walk {W : World} (s : ND) (A : Option Addr) (n c : Nat) (B : Option Addr) (m d : Nat) (C : Option Addr) (k ec : Nat) (hs : Nd W A n c B m d C k ec s) (kd : Int) (_ : -9223372036854775808 ≤ kd) (_ : kd ≤ 9223372036854775807)
    (T : Option Addr) (j e0 : Nat) (l : List UInt8) (hl : l.length = j) (hb : Bys W W.heap.size T l) (hj : j ≤ e0) (hm : e0 ≤ maxLen) :
    Calls Try.prog 6 #[.agg #[.bool s.leaf, .slice A n c, .slice B m d, .slice C k ec], .int .i64 kd, .slice T j e0] W fun e w' => e = .returned (.bool true) ∧ Below W.heap.size W w' := by
  have b0 := below_one W (.cells #[.bool s.leaf, .slice A n c, .slice B m d, .slice C k ec] 26)
  have M0 : Hid (Mid W (W.alloc (.cells #[.bool s.leaf, .slice A n c, .slice B m d, .slice C k ec] 26)) s A n c B m d C k ec T l) := Lib.hid ⟨nbox_new W _ _ _ _, hs.kept b0, (hb.kept b0).more b0.size, b0⟩
  have HL := Lib.hid hl
  have HM := Lib.hid hm
  clear hs hb hl b0 hm
  go_enter Try.func6, Try.ntmps6
  go_upto_region 1 with fail
  generalize W.alloc (.cells #[.bool s.leaf, .slice A n c, .slice B m d, .slice C k ec] 26) = w0 at *
  go_wp2_with fail
  refine (awake_any _).mono ?_
  rintro e w1 ⟨rfl, b1⟩
  have M1 := Lib.hid (M0.out.next b1)
  obtain ⟨c0, c1, c2, c3⟩ := M1.out.box.cells
  clear b1 M0
  go_wp2_with fail
  refine (nfew_any _ A n c B m d C k ec s w1 M1.out.nd).mono ?_
  rintro e w2 ⟨r, rfl, hr, b2⟩
  have M2 := Lib.hid (M1.out.next b2)
  clear b2 M1 c0 c1 c2 c3
  obtain ⟨c0, c1, c2, c3⟩ := M2.out.box.cells
  cases r with
  | false =>
    clear hr
    go_wp2_with fail
    go_ret
    exact ⟨rfl, M2.out.below⟩
  | true =>
    have hS := hr rfl
    have HSm := Lib.hid hS
    clear hr hS
    by_cases hj2 : j ≤ 2000
    case neg =>
      have hj3 : 2000 < j := by omega
      clear hj2
      go_wp2_with fail
      go_ret
      exact ⟨rfl, M2.out.below⟩
    have hn : n ≤ 300 := by have := HSm.out.1; rw [M2.out.nd.kn] at this; exact this
    have hmm : m ≤ 300 := by have := HSm.out.2.1; rw [M2.out.nd.vn] at this; exact this
    have hkk : k ≤ 300 := by have := HSm.out.2.2.1; rw [M2.out.nd.cn] at this; exact this
    go_wp2_with fail
    refine (nencode_any s.leaf A n c B m d C k ec s w2 M2.out.nd rfl (by have := HSm.out.size; omega)).mono ?_
    rintro e w3 ⟨v3, rfl, o3, b3⟩
    have M3 := Lib.hid (M2.out.next b3)
    obtain ⟨A3, c3', rfl, _, hc3, hm3, y3⟩ := Bys.of_own o3
    have Y3 := Lib.hid y3
    clear b3 M2 o3 y3 c0 c1 c2 c3
    obtain ⟨Z, hZ⟩ : ∃ Z, s.size = Z := ⟨_, rfl⟩
    have HZ := Lib.hid hZ
    have hZ2 : Z ≤ 200000 := by rw [← hZ]; exact HSm.out.size
    have HSZ : Hid (∀ (w : World), Nd w A n c B m d C k ec s → Calls Try.prog 15 #[.agg #[.bool s.leaf, .slice A n c, .slice B m d, .slice C k ec]] w fun e w' => e = .returned (.int .i64 (Z : Int)) ∧ Below w.heap.size w w') := Lib.hid (fun w h => by
      have := nsize_any s.leaf A n c B m d C k ec s w h (by omega)
      rw [hZ] at this
      exact this)
    cases hok : s.ok with
    | false =>
      have he : s.encE = 100 := if_neg (by rw [hok]; decide)
      have hck := ncheck_bad hok
      have HCK := Lib.hid hck
      rw [he]
      clear he hok hck hZ
      obtain ⟨c0, c1, c2, c3⟩ := M3.out.box.cells
      go_wp2_with fail
      refine (ncheck_any s.leaf A n c B m d C k ec s w3 M3.out.nd rfl (by omega) (by omega) (by omega)).mono ?_
      rintro e w4 ⟨rfl, b4⟩
      rw [HCK.out]
      have M4 := Lib.hid (M3.out.next b4)
      clear b4 M3 Y3 c0 c1 c2 c3
      go_wp2_with fail
      refine (ndecode_any kd T j e0 l w4 HL.out M4.out.bys hj HM.out).mono ?_
      rintro e wa ⟨va, rfl, sa, ba⟩
      cases hd : ND.dec kd l with
      | none =>
        rw [(ND.dec_none hd).1]
        rw [(ND.dec_none hd).2] at sa
        obtain ⟨Aa, na, ca, Ab, nb, cb, Ad, nd, cd, rfl, na1, _, _, _⟩ := sa
        obtain rfl : 0 = na := na1.kn
        obtain rfl : 0 = nb := na1.vn
        obtain rfl : 0 = nd := na1.cn
        obtain ⟨z1, z2, z3⟩ := nboxed ba na1 (.bool ND.zero.leaf)
        have HXa := Lib.hid z2
        have Ma := Lib.hid (M4.out.next z1)
        clear z1 z2 z3 ba na1 hd M4
        go_upto_region 13 with fail
        generalize hwb : wa.alloc (.cells #[.bool ND.zero.leaf, .slice Aa 0 ca, .slice Ab 0 cb, .slice Ad 0 cd] 26) = wb at *
        clear hwb
        generalize wa.heap.size = ga at *
        obtain ⟨x0, x1, x2, x3⟩ := HXa.out.cells
        go_wp2_with fail
        go_ret
        exact ⟨rfl, Ma.out.below⟩
      | some t =>
        rw [(ND.dec_some hd).1]
        rw [(ND.dec_some hd).2] at sa
        obtain ⟨t1, t2, t3⟩ := ND.dec_back hd
        have HT1 := Lib.hid t1
        have HT2 := Lib.hid t2
        have HT3 := Lib.hid t3
        have htz : t.size ≤ 1000 := (ND.fits_of t1).2.2
        clear t1 t2 t3
        obtain ⟨Aa, na, ca, Ab, nb, cb, Ad, nd, cd, rfl, na1, _, _, _⟩ := sa
        obtain ⟨z1, z2, z3⟩ := nboxed ba na1 (.bool t.leaf)
        have HXa := Lib.hid z2
        have HNa := Lib.hid z3
        have Ma := Lib.hid (M4.out.next z1)
        clear z1 z2 z3 ba na1 hd M4
        go_upto_region 13 with fail
        generalize hwb : wa.alloc (.cells #[.bool t.leaf, .slice Aa na ca, .slice Ab nb cb, .slice Ad nd cd] 26) = wb at *
        clear hwb
        generalize wa.heap.size = ga at *
        obtain ⟨x0, x1, x2, x3⟩ := HXa.out.cells
        go_wp2_with fail
        refine (nencode_any t.leaf Aa na ca Ab nb cb Ad nd cd t wb HNa.out rfl (by omega)).mono ?_
        rintro e wc ⟨vc, rfl, oc, bc⟩
        have Mc := Lib.hid (Ma.out.next bc)
        rw [HT3.out] at oc
        rw [HT1.out, HT2.out]
        obtain ⟨Ac9, cc9, rfl, _, _, _, yc⟩ := Bys.of_own oc
        have u1 := run_text (P := Try.prog) (w := wc) yc 28 9 5 l.length cc9 rfl Try.underlying28 Try.underlying5 Try.underlying9
        have u2 := run_text (P := Try.prog) (w := wc) Mc.out.bys 28 9 5 j e0 HL.out Try.underlying28 Try.underlying5 Try.underlying9
        clear x0 x1 x2 x3 HXa HNa oc bc yc
        generalize (⟨l.toArray⟩ : ByteArray) = S at *
        generalize l.length = kk at *
        go_wp2_with fail
        go_ret
        exact ⟨rfl, Mc.out.below⟩
    | true =>
      by_cases hbig : Z ≤ 1000
      case neg =>
        have he : s.encE = 101 := by unfold ND.encE; rw [if_pos hok, if_neg (by omega)]
        have hck := ncheck_good hok
        have HCK := Lib.hid hck
        have hb2 : 1000 < Z := by omega
        have hb3 : decide ((1000 : Int) < (Z : Int)) = true := decide_eq_true (by omega)
        rw [he]
        clear he hok hck hZ hbig
        obtain ⟨c0, c1, c2, c3⟩ := M3.out.box.cells
        go_wp2_with fail
        refine (ncheck_any s.leaf A n c B m d C k ec s w3 M3.out.nd rfl (by omega) (by omega) (by omega)).mono ?_
        rintro e w4 ⟨rfl, b4⟩
        rw [HCK.out]
        have M4 := Lib.hid (M3.out.next b4)
        clear b4 M3 Y3 c0 c1 c2 c3
        obtain ⟨c0, c1, c2, c3⟩ := M4.out.box.cells
        go_wp2_with fail
        refine (HSZ.out w4 M4.out.nd).mono ?_
        rintro e w5 ⟨rfl, b5⟩
        have M5 := Lib.hid (M4.out.next b5)
        clear b5 M4 c0 c1 c2 c3
        go_wp2_with fail
        refine (ndecode_any kd T j e0 l w5 HL.out M5.out.bys hj HM.out).mono ?_
        rintro e wa ⟨va, rfl, sa, ba⟩
        cases hd : ND.dec kd l with
        | none =>
          rw [(ND.dec_none hd).1]
          rw [(ND.dec_none hd).2] at sa
          obtain ⟨Aa, na, ca, Ab, nb, cb, Ad, nd, cd, rfl, na1, _, _, _⟩ := sa
          obtain rfl : 0 = na := na1.kn
          obtain rfl : 0 = nb := na1.vn
          obtain rfl : 0 = nd := na1.cn
          obtain ⟨z1, z2, z3⟩ := nboxed ba na1 (.bool ND.zero.leaf)
          have HXa := Lib.hid z2
          have Ma := Lib.hid (M5.out.next z1)
          clear z1 z2 z3 ba na1 hd M5
          go_upto_region 13 with fail
          generalize hwb : wa.alloc (.cells #[.bool ND.zero.leaf, .slice Aa 0 ca, .slice Ab 0 cb, .slice Ad 0 cd] 26) = wb at *
          clear hwb
          generalize wa.heap.size = ga at *
          obtain ⟨x0, x1, x2, x3⟩ := HXa.out.cells
          go_wp2_with fail
          go_ret
          exact ⟨rfl, Ma.out.below⟩
        | some t =>
          rw [(ND.dec_some hd).1]
          rw [(ND.dec_some hd).2] at sa
          obtain ⟨t1, t2, t3⟩ := ND.dec_back hd
          have HT1 := Lib.hid t1
          have HT2 := Lib.hid t2
          have HT3 := Lib.hid t3
          have htz : t.size ≤ 1000 := (ND.fits_of t1).2.2
          clear t1 t2 t3
          obtain ⟨Aa, na, ca, Ab, nb, cb, Ad, nd, cd, rfl, na1, _, _, _⟩ := sa
          obtain ⟨z1, z2, z3⟩ := nboxed ba na1 (.bool t.leaf)
          have HXa := Lib.hid z2
          have HNa := Lib.hid z3
          have Ma := Lib.hid (M5.out.next z1)
          clear z1 z2 z3 ba na1 hd M5
          go_upto_region 13 with fail
          generalize hwb : wa.alloc (.cells #[.bool t.leaf, .slice Aa na ca, .slice Ab nb cb, .slice Ad nd cd] 26) = wb at *
          clear hwb
          generalize wa.heap.size = ga at *
          obtain ⟨x0, x1, x2, x3⟩ := HXa.out.cells
          go_wp2_with fail
          refine (nencode_any t.leaf Aa na ca Ab nb cb Ad nd cd t wb HNa.out rfl (by omega)).mono ?_
          rintro e wc ⟨vc, rfl, oc, bc⟩
          have Mc := Lib.hid (Ma.out.next bc)
          rw [HT3.out] at oc
          rw [HT1.out, HT2.out]
          obtain ⟨Ac9, cc9, rfl, _, _, _, yc⟩ := Bys.of_own oc
          have u1 := run_text (P := Try.prog) (w := wc) yc 28 9 5 l.length cc9 rfl Try.underlying28 Try.underlying5 Try.underlying9
          have u2 := run_text (P := Try.prog) (w := wc) Mc.out.bys 28 9 5 j e0 HL.out Try.underlying28 Try.underlying5 Try.underlying9
          clear x0 x1 x2 x3 HXa HNa oc bc yc
          generalize (⟨l.toArray⟩ : ByteArray) = S at *
          generalize l.length = kk at *
          go_wp2_with fail
          go_ret
          exact ⟨rfl, Mc.out.below⟩
      have he := ND.encE_fits hok (by omega : s.size ≤ 1000)
      have hkw := ND.encK_of he
      have hen : s.encB.length = Z := by rw [ND.encB_of he, ND.enc_length hok, hZ]
      obtain ⟨E, hE⟩ : ∃ E, s.encB = E := ⟨_, rfl⟩
      obtain ⟨K, hK⟩ : ∃ K, s.encK = K := ⟨_, rfl⟩
      have hde := ND.dec_some (ND.dec_enc he)
      rw [hE, hK] at hde
      rw [hE] at Y3 hc3 hen ⊢
      rw [hen] at hc3 ⊢
      rw [hK] at hkw ⊢
      rw [he]
      have HEN := Lib.hid hen
      have HDE := Lib.hid hde
      have HKW := Lib.hid hkw
      clear he hok hE hK hen hde hZ hkw
      go_wp2_with fail
      refine (ndecode_any K A3 Z c3' E w3 HEN.out Y3.out hc3 hm3).mono ?_
      rintro e w4 ⟨v4, rfl, s4, b4⟩
      rw [HDE.out.1]
      rw [HDE.out.2] at s4
      obtain ⟨Ak, nk, ck, Av, nv, cw, Ac, nc, cc, rfl, n4, _, _, _⟩ := s4
      obtain rfl : n = nk := M3.out.nd.kn.symm.trans n4.kn
      obtain rfl : m = nv := M3.out.nd.vn.symm.trans n4.vn
      obtain rfl : k = nc := M3.out.nd.cn.symm.trans n4.cn
      obtain ⟨z1, z2, z3⟩ := nboxed b4 n4 (.bool s.leaf)
      have HX := Lib.hid z2
      have HN := Lib.hid z3
      have M4 := Lib.hid (M3.out.next z1)
      clear z1 z2 z3 b4 n4 M3 Y3
      go_upto_region 7 with fail
      generalize hw5 : w4.alloc (.cells #[.bool s.leaf, .slice Ak n ck, .slice Av m cw, .slice Ac k cc] 26) = w5 at *
      clear hw5
      generalize w4.heap.size = g4 at *
      obtain ⟨x0, x1, x2, x3⟩ := HX.out.cells
      obtain ⟨c0, c1, c2, c3⟩ := M4.out.box.cells
      go_wp2_with fail
      refine (nsame_any s.leaf Ak n ck Av m cw Ac k cc s s.leaf A n c B m d C k ec s w5 HN.out M4.out.nd rfl rfl (by omega) (by omega) (by omega)).mono ?_
      rintro e w6 ⟨r, rfl, hr, b6⟩
      have hr := hr rfl
      subst hr
      have M6 := Lib.hid (M4.out.next b6)
      clear b6 x0 x1 x2 x3 c0 c1 c2 c3 HX HN M4
      obtain ⟨c0, c1, c2, c3⟩ := M6.out.box.cells
      have hzz : ((Z : Int) != (Z : Int)) = false := bne_self_eq_false _
      cases hlf : s.leaf with
      | true =>
        have hk2 : K = 2 := by rw [HKW.out, hlf]; rfl
        clear HKW
        subst hk2
        rw [hlf] at HSZ
        go_wp2_with fail
        refine (HSZ.out w6 M6.out.nd).mono ?_
        rintro e w7 ⟨rfl, b7⟩
        have M7 := Lib.hid (M6.out.next b7)
        clear b7 c0 c1 c2 c3 M6
        go_wp2_with fail
        refine (ndecode_any kd T j e0 l w7 HL.out M7.out.bys hj HM.out).mono ?_
        rintro e wa ⟨va, rfl, sa, ba⟩
        cases hd : ND.dec kd l with
        | none =>
          rw [(ND.dec_none hd).1]
          rw [(ND.dec_none hd).2] at sa
          obtain ⟨Aa, na, ca, Ab, nb, cb, Ad, nd, cd, rfl, na1, _, _, _⟩ := sa
          obtain rfl : 0 = na := na1.kn
          obtain rfl : 0 = nb := na1.vn
          obtain rfl : 0 = nd := na1.cn
          obtain ⟨z1, z2, z3⟩ := nboxed ba na1 (.bool ND.zero.leaf)
          have HXa := Lib.hid z2
          have Ma := Lib.hid (M7.out.next z1)
          clear z1 z2 z3 ba na1 hd M7
          go_upto_region 13 with fail
          generalize hwb : wa.alloc (.cells #[.bool ND.zero.leaf, .slice Aa 0 ca, .slice Ab 0 cb, .slice Ad 0 cd] 26) = wb at *
          clear hwb
          generalize wa.heap.size = ga at *
          obtain ⟨x0, x1, x2, x3⟩ := HXa.out.cells
          go_wp2_with fail
          go_ret
          exact ⟨rfl, Ma.out.below⟩
        | some t =>
          rw [(ND.dec_some hd).1]
          rw [(ND.dec_some hd).2] at sa
          obtain ⟨t1, t2, t3⟩ := ND.dec_back hd
          have HT1 := Lib.hid t1
          have HT2 := Lib.hid t2
          have HT3 := Lib.hid t3
          have htz : t.size ≤ 1000 := (ND.fits_of t1).2.2
          clear t1 t2 t3
          obtain ⟨Aa, na, ca, Ab, nb, cb, Ad, nd, cd, rfl, na1, _, _, _⟩ := sa
          obtain ⟨z1, z2, z3⟩ := nboxed ba na1 (.bool t.leaf)
          have HXa := Lib.hid z2
          have HNa := Lib.hid z3
          have Ma := Lib.hid (M7.out.next z1)
          clear z1 z2 z3 ba na1 hd M7
          go_upto_region 13 with fail
          generalize hwb : wa.alloc (.cells #[.bool t.leaf, .slice Aa na ca, .slice Ab nb cb, .slice Ad nd cd] 26) = wb at *
          clear hwb
          generalize wa.heap.size = ga at *
          obtain ⟨x0, x1, x2, x3⟩ := HXa.out.cells
          go_wp2_with fail
          refine (nencode_any t.leaf Aa na ca Ab nb cb Ad nd cd t wb HNa.out rfl (by omega)).mono ?_
          rintro e wc ⟨vc, rfl, oc, bc⟩
          have Mc := Lib.hid (Ma.out.next bc)
          rw [HT3.out] at oc
          rw [HT1.out, HT2.out]
          obtain ⟨Ac9, cc9, rfl, _, _, _, yc⟩ := Bys.of_own oc
          have u1 := run_text (P := Try.prog) (w := wc) yc 28 9 5 l.length cc9 rfl Try.underlying28 Try.underlying5 Try.underlying9
          have u2 := run_text (P := Try.prog) (w := wc) Mc.out.bys 28 9 5 j e0 HL.out Try.underlying28 Try.underlying5 Try.underlying9
          clear x0 x1 x2 x3 HXa HNa oc bc yc
          generalize (⟨l.toArray⟩ : ByteArray) = S at *
          generalize l.length = kk at *
          go_wp2_with fail
          go_ret
          exact ⟨rfl, Mc.out.below⟩
      | false =>
        have hk2 : K = 3 := by rw [HKW.out, hlf]; rfl
        clear HKW
        subst hk2
        rw [hlf] at HSZ
        go_wp2_with fail
        refine (HSZ.out w6 M6.out.nd).mono ?_
        rintro e w7 ⟨rfl, b7⟩
        have M7 := Lib.hid (M6.out.next b7)
        clear b7 c0 c1 c2 c3 M6
        obtain ⟨c0, c1, c2, c3⟩ := M7.out.box.cells
        go_wp2_with fail
        refine (ndecode_any kd T j e0 l w7 HL.out M7.out.bys hj HM.out).mono ?_
        rintro e wa ⟨va, rfl, sa, ba⟩
        cases hd : ND.dec kd l with
        | none =>
          rw [(ND.dec_none hd).1]
          rw [(ND.dec_none hd).2] at sa
          obtain ⟨Aa, na, ca, Ab, nb, cb, Ad, nd, cd, rfl, na1, _, _, _⟩ := sa
          obtain rfl : 0 = na := na1.kn
          obtain rfl : 0 = nb := na1.vn
          obtain rfl : 0 = nd := na1.cn
          obtain ⟨z1, z2, z3⟩ := nboxed ba na1 (.bool ND.zero.leaf)
          have HXa := Lib.hid z2
          have Ma := Lib.hid (M7.out.next z1)
          clear z1 z2 z3 ba na1 hd M7
          go_upto_region 13 with fail
          generalize hwb : wa.alloc (.cells #[.bool ND.zero.leaf, .slice Aa 0 ca, .slice Ab 0 cb, .slice Ad 0 cd] 26) = wb at *
          clear hwb
          generalize wa.heap.size = ga at *
          obtain ⟨x0, x1, x2, x3⟩ := HXa.out.cells
          go_wp2_with fail
          go_ret
          exact ⟨rfl, Ma.out.below⟩
        | some t =>
          rw [(ND.dec_some hd).1]
          rw [(ND.dec_some hd).2] at sa
          obtain ⟨t1, t2, t3⟩ := ND.dec_back hd
          have HT1 := Lib.hid t1
          have HT2 := Lib.hid t2
          have HT3 := Lib.hid t3
          have htz : t.size ≤ 1000 := (ND.fits_of t1).2.2
          clear t1 t2 t3
          obtain ⟨Aa, na, ca, Ab, nb, cb, Ad, nd, cd, rfl, na1, _, _, _⟩ := sa
          obtain ⟨z1, z2, z3⟩ := nboxed ba na1 (.bool t.leaf)
          have HXa := Lib.hid z2
          have HNa := Lib.hid z3
          have Ma := Lib.hid (M7.out.next z1)
          clear z1 z2 z3 ba na1 hd M7
          go_upto_region 13 with fail
          generalize hwb : wa.alloc (.cells #[.bool t.leaf, .slice Aa na ca, .slice Ab nb cb, .slice Ad nd cd] 26) = wb at *
          clear hwb
          generalize wa.heap.size = ga at *
          obtain ⟨x0, x1, x2, x3⟩ := HXa.out.cells
          go_wp2_with fail
          refine (nencode_any t.leaf Aa na ca Ab nb cb Ad nd cd t wb HNa.out rfl (by omega)).mono ?_
          rintro e wc ⟨vc, rfl, oc, bc⟩
          have Mc := Lib.hid (Ma.out.next bc)
          rw [HT3.out] at oc
          rw [HT1.out, HT2.out]
          obtain ⟨Ac9, cc9, rfl, _, _, _, yc⟩ := Bys.of_own oc
          have u1 := run_text (P := Try.prog) (w := wc) yc 28 9 5 l.length cc9 rfl Try.underlying28 Try.underlying5 Try.underlying9
          have u2 := run_text (P := Try.prog) (w := wc) Mc.out.bys 28 9 5 j e0 HL.out Try.underlying28 Try.underlying5 Try.underlying9
          clear x0 x1 x2 x3 HXa HNa oc bc yc
          generalize (⟨l.toArray⟩ : ByteArray) = S at *
          generalize l.length = kk at *
          go_wp2_with fail
          go_ret
          exact ⟨rfl, Mc.out.below⟩

set_option maxRecDepth 100000 in
theorem lifted (os : Os) (started : os.Started) (H : Type) (enc : TypeId × Value → H) :
    ReturnsInHanded {} Try.checked os 6 .any (Rows.nodeBackSpec.pre6 enc Try.prog Try.f6 Rows.nodeBackRow.domain false)
      (Rows.nodeBackSpec.post enc Try.prog Try.f6 false true false false) := by
  refine lift_law (C := Try.checked) (tb := 4) ownKnobs started (by kernel_rfl) Try.func6
    (ChangeSpec.witness6 (enc := enc) (C := Try.checked) false ⟨#[], #[.agg #[.bool false, .slice none 0 0, .slice none 0 0, .slice none 0 0], .int .i64 0, .slice none 0 0], []⟩ 8 (by kernel_rfl) (by kernel_rfl) (by kernel_rfl) (by kernel_rfl))
    laidOut ?_ rfl rfl Try.underlying4 ?_ ?_
  · intro t ht
    rw [Try.params6] at ht
    simp only [List.mem_cons, List.not_mem_nil, or_false] at ht
    rcases ht with rfl | rfl | rfl <;> exact ⟨by kernel_rfl, of_decide_eq_true (by kernel_rfl)⟩
  · intro vs ds W p hA
    rw [Try.params6] at hA
    obtain ⟨v0, vs0, d0, ds0, p0, q0, ha, rfl, rfl, h0, r0⟩ := trodAll_cons hA
    obtain ⟨v1, vs1, d1, ds1, p1, q1, rfl, rfl, rfl, h1, r1⟩ := trodAll_cons r0
    obtain ⟨v2, vs2, d2, ds2, p2, q2, rfl, rfl, rfl, h2, r2⟩ := trodAll_cons r1
    obtain ⟨rfl, rfl, rfl⟩ := trodAll_nil r2
    rfl
  · intro W base args ds p hval hA
    rw [Try.params6] at hA hval
    obtain ⟨v0, vs0, d0, ds0, p0, q0, ha, rfl, rfl, h0, r0⟩ := trodAll_cons hA
    obtain ⟨v1, vs1, d1, ds1, p1, q1, rfl, rfl, rfl, h1, r1⟩ := trodAll_cons r0
    obtain ⟨v2, vs2, d2, ds2, p2, q2, rfl, rfl, rfl, h2, r2⟩ := trodAll_cons r1
    obtain ⟨rfl, rfl, rfl⟩ := trodAll_nil r2
    obtain rfl : args = #[v0, v1, v2] := by cases args; simp_all
    obtain ⟨s0, A0, n0, c0, B0, m0, d0, C0, k0, e0, rfl, hs0, _⟩ := open_node (hval 0 _ v0 rfl rfl) h0
    obtain ⟨i1, rfl, lo1, hi1⟩ := open_i64 (hval 1 _ v1 rfl rfl) h1
    obtain ⟨A2, n2, c2, xs2, rfl, e2, hr2, y2, z2⟩ := open_bytes (hval 2 _ v2 rfl rfl) h2
    exact walk s0 A0 n0 c0 B0 m0 d0 C0 k0 e0 hs0 i1 lo1 hi1 A2 n2 c2 xs2 e2 hr2 y2 z2

/-- The statement. -/
theorem proved : Rows.NodeBackSaid :=
  OpenClaim.holds_of_wide 6 Try.f6 rfl rfl rfl rfl rfl rfl rfl ⟨rfl, rfl, rfl, rfl, rfl⟩ rfl rfl rfl rfl rfl (by kernel_rfl) Try.func6 (by kernel_rfl)
    (of_decide_eq_true (by kernel_rfl)) (by unfold Func.isWrapper; first | (rw [if_pos (by decide +kernel)]; kernel_rfl) | (rw [if_neg (by decide +kernel)]; exact ⟨rfl, rfl⟩))
    (fun os started H enc _ => lifted os started H enc)
#print axioms proved
end Go.Proofs.Ytgnlmbelaempcaa.nodeBack
