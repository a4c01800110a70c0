/-
  What the laws' awake comes to.
-/
import Derived.Test.YtgnlmbelaempcaaNDec
import Derived.Test.YtgnlmbelaempcaaNSame
import Derived.Test.YtgnlmbelaempcaaText
namespace Go.Proofs.Ytgnlmbelaempcaa
open Go.RowKit

def leafA : ND := ⟨true, [[97]], [[120, 121]], []⟩
theorem leafA_ok : leafA.ok = true := by decide +kernel
theorem leafA_size : leafA.size = 7 := by decide +kernel
theorem leafA_encE : leafA.encE = 0 := by decide +kernel
theorem leafA_encK : leafA.encK = 2 := by decide +kernel
theorem leafA_encB : leafA.encB = [0, 1, 1, 97, 2, 120, 121] := by decide +kernel
theorem leafA_dec : ND.decE 2 [0, 1, 1, 97, 2, 120, 121] = 0 ∧ ND.decS 2 [0, 1, 1, 97, 2, 120, 121] = leafA := by
  have := ND.dec_enc leafA_encE
  rw [leafA_encK, leafA_encB] at this
  exact ND.dec_some this
theorem innerA_dec : ND.decE 3 [0, 0, 0, 0, 0, 5] = 100 ∧ ND.decS 3 [0, 0, 0, 0, 0, 5] = ND.zero := by
  have h : ND.prs false [0, 0, 0, 0, 0, 5] = some ⟨false, [], [], [5]⟩ := by kernel_rfl
  refine ND.dec_none ?_
  rw [dec_at (Or.inr rfl) (by decide), show decide ((3 : Int) = 2) = false from rfl, h]
  rfl
theorem zero_bad : ND.zero.ok = false := by decide +kernel

theorem leaf_mem (w : World) : Nd ((w.alloc (.cells #[.string ⟨#[97]⟩] 9)).alloc (.cells #[.string ⟨#[120, 121]⟩] 9)) (some ⟨w.heap.size, 0, none⟩) 1 1 (some ⟨w.heap.size + 1, 0, none⟩) 1 1 none 0 0 leafA := by
  refine ⟨⟨rfl, Nat.le_refl _, fun e => (by cases e), fun ad e j u hu => ?_⟩, ⟨rfl, Nat.le_refl _, fun e => (by cases e), fun ad e j u hu => ?_⟩, Ln.none_ _ 1⟩
  · obtain rfl := Option.some.inj e
    rw [addr_add]
    match j, hu with
    | 0, hu =>
      obtain rfl := Option.some.inj hu
      simp
      rfl
  · obtain rfl := Option.some.inj e
    rw [addr_add]
    match j, hu with
    | 0, hu =>
      obtain rfl := Option.some.inj hu
      simp
      rfl

theorem six_bytes (w : World) : Bys (w.alloc (.cells #[.int .u8 0, .int .u8 0, .int .u8 0, .int .u8 0, .int .u8 0, .int .u8 5] 5)) (w.alloc (.cells #[.int .u8 0, .int .u8 0, .int .u8 0, .int .u8 0, .int .u8 0, .int .u8 5] 5)).heap.size (some ⟨w.heap.size, 0, none⟩) [0, 0, 0, 0, 0, 5] := bys_lit w [0, 0, 0, 0, 0, 5] 5

set_option maxRecDepth 20000 in
set_option maxHeartbeats 3200000 in
theorem awake_any (w : World) :
    Calls Try.prog 9 #[] w fun e w' => e = .returned (.bool true) ∧ Below w.heap.size w w' := by
  have b0 := below_two w (.cells #[.string ⟨#[97]⟩] 9) (.cells #[.string ⟨#[120, 121]⟩] 9)
  have bx := below_one ((w.alloc (.cells #[.string ⟨#[97]⟩] 9)).alloc (.cells #[.string ⟨#[120, 121]⟩] 9)) (.cells #[.bool true, .slice (some ⟨w.heap.size, 0, none⟩) 1 1, .slice (some ⟨w.heap.size + 1, 0, none⟩) 1 1, .slice none 0 0] 26)
  have B0 := Lib.hid (b0.trans (bx.mono b0.size))
  have H0 := Lib.hid ((leaf_mem w).kept bx)
  have X0 := nbox_new ((w.alloc (.cells #[.string ⟨#[97]⟩] 9)).alloc (.cells #[.string ⟨#[120, 121]⟩] 9)) (.bool true) (.slice (some ⟨w.heap.size, 0, none⟩) 1 1) (.slice (some ⟨w.heap.size + 1, 0, none⟩) 1 1) (.slice none 0 0)
  rw [show ((w.alloc (.cells #[.string ⟨#[97]⟩] 9)).alloc (.cells #[.string ⟨#[120, 121]⟩] 9)).heap.size = w.heap.size + 1 + 1 by simp] at X0
  have HX := Lib.hid X0
  clear b0 bx X0
  go_enter Try.func9, Try.ntmps9
  go_upto_region 2 with fail
  generalize hw0 : ((w.alloc (.cells #[.string ⟨#[97]⟩] 9)).alloc (.cells #[.string ⟨#[120, 121]⟩] 9)).alloc (.cells #[.bool true, .slice (some ⟨w.heap.size, 0, none⟩) 1 1, .slice (some ⟨w.heap.size + 1, 0, none⟩) 1 1, .slice none 0 0] 26) = w0 at *
  clear hw0
  generalize w.heap.size + 1 + 1 = g1 at *
  generalize w.heap.size + 1 = a1 at *
  obtain ⟨c0, c1, c2, c3⟩ := HX.out.cells
  go_wp2_with fail
  refine (nencode_any true _ 1 1 _ 1 1 none 0 0 leafA w0 H0.out rfl (by rw [leafA_size]; omega)).mono ?_
  rintro e w1 ⟨v1, rfl, o1, b1⟩
  rw [leafA_encB] at o1
  rw [leafA_encE, leafA_encK]
  obtain ⟨A1, c1', rfl, _, hc1, hm1, y1⟩ := Bys.of_own o1
  have B1 := Lib.hid (B0.out.trans (b1.mono B0.out.size))
  have HX1 := Lib.hid (HX.out.kept b1)
  have H1 := Lib.hid (H0.out.kept b1)
  have Y1 := Lib.hid y1
  have HC1 := Lib.hid hc1
  have HM1 := Lib.hid hm1
  clear o1 b1 y1 c0 c1 c2 c3 HX H0 B0 hc1 hm1
  rw [show ([0, 1, 1, 97, 2, 120, 121] : List UInt8).length = 7 from rfl]
  go_wp2_with fail
  refine (ndecode_any 2 A1 7 c1' [0, 1, 1, 97, 2, 120, 121] w1 rfl Y1.out HC1.out HM1.out).mono ?_
  rintro e w2 ⟨v2, rfl, s2, b2⟩
  rw [leafA_dec.2] at s2
  rw [leafA_dec.1]
  obtain ⟨Ak, nk, ck, Av, nv, cw, Ac, nc, cc, rfl, n2, _, _, _⟩ := s2
  obtain rfl : 1 = nk := n2.kn
  obtain rfl : 1 = nv := n2.vn
  obtain rfl : 0 = nc := n2.cn
  have bz := below_one w2 (.cells #[.bool leafA.leaf, .slice Ak 1 ck, .slice Av 1 cw, .slice Ac 0 cc] 26)
  have HZ := Lib.hid (nbox_new w2 (.bool leafA.leaf) (.slice Ak 1 ck) (.slice Av 1 cw) (.slice Ac 0 cc))
  have HN := Lib.hid (n2.kept bz)
  have b2' := b2.trans (bz.mono b2.size)
  have B2 := Lib.hid (B1.out.trans (b2'.mono B1.out.size))
  have HX2 := Lib.hid (HX1.out.kept b2')
  have H2 := Lib.hid (H1.out.kept b2')
  have Y2 := Lib.hid (Y1.out.kept b2')
  clear bz n2 b2 b2' HX1 H1 Y1 B1
  go_upto_region 4 with fail
  generalize hw3 : w2.alloc (.cells #[.bool leafA.leaf, .slice Ak 1 ck, .slice Av 1 cw, .slice Ac 0 cc] 26) = w3 at *
  clear hw3
  generalize w2.heap.size = g2 at *
  have B3 := Lib.hid (B2.out.trans ((below_one w3 (.cells #[.int .u8 0, .int .u8 0, .int .u8 0, .int .u8 0, .int .u8 0, .int .u8 5] 5)).mono B2.out.size))
  have HX3 := Lib.hid (HX2.out.kept (below_one w3 (.cells #[.int .u8 0, .int .u8 0, .int .u8 0, .int .u8 0, .int .u8 0, .int .u8 5] 5)))
  have HZ3 := Lib.hid (HZ.out.kept (below_one w3 (.cells #[.int .u8 0, .int .u8 0, .int .u8 0, .int .u8 0, .int .u8 0, .int .u8 5] 5)))
  have HN3 := Lib.hid (HN.out.kept (below_one w3 (.cells #[.int .u8 0, .int .u8 0, .int .u8 0, .int .u8 0, .int .u8 0, .int .u8 5] 5)))
  have H3 := Lib.hid (H2.out.kept (below_one w3 (.cells #[.int .u8 0, .int .u8 0, .int .u8 0, .int .u8 0, .int .u8 0, .int .u8 5] 5)))
  have Y3 := Lib.hid (Y2.out.kept (below_one w3 (.cells #[.int .u8 0, .int .u8 0, .int .u8 0, .int .u8 0, .int .u8 0, .int .u8 5] 5)))
  have Y6 := Lib.hid (six_bytes w3)
  clear B2 HX2 HZ HN H2 Y2
  go_wp2_with fail
  refine (ndecode_any 3 _ 6 6 [0, 0, 0, 0, 0, 5] _ rfl Y6.out (Nat.le_refl _) (by unfold maxLen; omega)).mono ?_
  rintro e w5 ⟨v5, rfl, s5, b5⟩
  rw [innerA_dec.2] at s5
  rw [innerA_dec.1]
  obtain ⟨Ak5, nk5, ck5, Av5, nv5, cw5, Ac5, nc5, cc5, rfl, n5, _, _, _⟩ := s5
  obtain rfl : 0 = nk5 := n5.kn
  obtain rfl : 0 = nv5 := n5.vn
  obtain rfl : 0 = nc5 := n5.cn
  have bz := below_one w5 (.cells #[.bool ND.zero.leaf, .slice Ak5 0 ck5, .slice Av5 0 cw5, .slice Ac5 0 cc5] 26)
  have b5' := b5.trans (bz.mono b5.size)
  have B5 := Lib.hid (B3.out.trans (b5'.mono B3.out.size))
  have HX5 := Lib.hid (HX3.out.kept b5')
  have HZ5 := Lib.hid (HZ3.out.kept b5')
  have HN5 := Lib.hid (HN3.out.kept b5')
  have H5 := Lib.hid (H3.out.kept b5')
  have Y5 := Lib.hid (Y3.out.kept b5')
  clear bz n5 b5 b5' B3 HX3 HZ3 HN3 H3 Y3 Y6
  go_upto_region 5 with fail
  generalize w5.alloc (.cells #[.bool ND.zero.leaf, .slice Ak5 0 ck5, .slice Av5 0 cw5, .slice Ac5 0 cc5] 26) = w6 at *
  obtain ⟨c0, c1, c2, c3⟩ := HX5.out.cells
  obtain ⟨d0, d1, d2, d3⟩ := HZ5.out.cells
  go_wp2_with fail
  refine (nsame_any leafA.leaf Ak 1 ck Av 1 cw Ac 0 cc leafA true (some ⟨w.heap.size, 0, none⟩) 1 1 (some ⟨a1, 0, none⟩) 1 1 none 0 0 leafA w6 HN5.out H5.out rfl rfl (by omega) (by omega) (by omega)).mono ?_
  rintro e w7 ⟨r, rfl, hr, b7⟩
  have hr := hr rfl
  subst hr
  have B7 := Lib.hid (B5.out.trans (b7.mono B5.out.size))
  have HX7 := Lib.hid (HX5.out.kept b7)
  have H7 := Lib.hid (H5.out.kept b7)
  have Y7 := Lib.hid (Y5.out.kept b7)
  clear b7 c0 c1 c2 c3 d0 d1 d2 d3 B5 HX5 HZ5 HN5 H5 Y5
  obtain ⟨c0, c1, c2, c3⟩ := HX7.out.cells
  have ct := run_text (P := Try.prog) (w := w7) Y7.out 28 9 5 7 c1' rfl Try.underlying28 Try.underlying5 Try.underlying9
  go_wp2_with fail
  refine (nsize_any true _ 1 1 _ 1 1 none 0 0 leafA w7 H7.out (by rw [leafA_size]; omega)).mono ?_
  rintro e w8 ⟨rfl, b8⟩
  rw [leafA_size]
  have B8 := Lib.hid (B7.out.trans (b8.mono B7.out.size))
  have HX8 := Lib.hid (HX7.out.kept b8)
  have H8 := Lib.hid (H7.out.kept b8)
  clear b8 c0 c1 c2 c3 B7 HX7 H7 ct
  obtain ⟨c0, c1, c2, c3⟩ := HX8.out.cells
  go_wp2_with fail
  refine (ncheck_any true _ 1 1 _ 1 1 none 0 0 leafA w8 H8.out rfl (by omega) (by omega) (by omega)).mono ?_
  rintro e w9 ⟨rfl, b9⟩
  rw [ncheck_good leafA_ok]
  have B9 := Lib.hid (B8.out.trans (b9.mono B8.out.size))
  clear b9 c0 c1 c2 c3 B8 HX8 H8
  go_wp2_with fail
  refine (ncheck_any false none 0 0 none 0 0 none 0 0 ND.zero w9 ⟨Ln.none_ _ 1, Ln.none_ _ 1, Ln.none_ _ 1⟩ rfl (by omega) (by omega) (by omega)).mono ?_
  rintro e w10 ⟨rfl, b10⟩
  rw [ncheck_bad zero_bad]
  have B10 := Lib.hid (B9.out.trans (b10.mono B9.out.size))
  clear b10 B9
  go_wp2_with fail
  go_ret
  exact ⟨rfl, B10.out⟩
end Go.Proofs.Ytgnlmbelaempcaa
