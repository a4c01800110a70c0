/-
  What the laws' awake comes to.
-/
import Derived.Test.YtcdfjaldnelfjaaEMay
import Derived.Test.YtcdfjaldnelfjaaERem
import Derived.Test.YtcdfjaldnelfjaaESplit
import Derived.Test.YtcdfjaldnelfjaaERepl
import Derived.Test.YtcdfjaldnelfjaaEBox
import Derived.Deep.RegionHeld3
namespace Go.Proofs.Ytcdfjaldnelfjaa
open Go.RowKit

def leafC : ND := ⟨true, [[97], [99]], [[], []], []⟩
def innerC : ND := ⟨false, [[98]], [], [5, 6]⟩
def partC : ND := ⟨true, [[97]], [[]], []⟩
def restC : ND := ⟨true, [[99]], [[]], []⟩
def bareC : ND := ⟨true, [], [], []⟩
def moreC : ND := ⟨true, [[97], [98], [99]], [[], [120], []], []⟩
def kidsC : ND := ⟨false, [[97], [98]], [], [7, 8, 6]⟩
theorem leafC_ok : leafC.ok = true := by decide +kernel
theorem bareC_ok : bareC.ok = true := by decide +kernel
theorem moreC_ok : moreC.ok = true := by decide +kernel
theorem innerC_ok : innerC.ok = true := by decide +kernel
theorem leafC_find : ND.findN [98] leafC.keys = 1 ∧ ND.isAt [98] leafC.keys = false := by decide +kernel
theorem leafC_split : leafC.splitE = 0 ∧ leafC.splitK = [99] := by decide +kernel
theorem leafC_splitL : leafC.splitL = partC := by
  have h : leafC.splitAt = 1 := by decide +kernel
  unfold ND.splitL
  rw [h]
  rfl
theorem leafC_splitR : leafC.splitR = restC := by
  have h : leafC.splitAt = 1 := by decide +kernel
  unfold ND.splitR
  rw [h]
  rfl
theorem bareC_split : bareC.splitE = 100 := by decide +kernel
theorem leafC_put : leafC.put [98] [120] = moreC := by
  obtain ⟨h1, h2⟩ := leafC_find
  rw [ND.put_new _ h2, h1]
  rfl
theorem moreC_at : ND.isAt [98] moreC.keys = true ∧ ND.findN [98] moreC.keys = 1 := by decide +kernel
theorem moreC_rem : moreC.remove [98] = leafC := by
  obtain ⟨h1, h2⟩ := moreC_at
  rw [ND.remove_old h1]
  unfold ND.removed
  rw [h2]
  rfl
theorem innerC_repl : innerC.replace 0 1 [7, 8] [[97]] = kidsC := by
  have := replace_yes (s := innerC) (f := 0) (t := 0) (ks := [7, 8]) (zs := [[97]]) (by decide) (by decide) (by decide)
  exact this
theorem partC_join : partC.join [99] restC = leafC := rfl
theorem innerC_kid : ND.kidN [98] innerC.keys = 1 := by decide +kernel
theorem leafC_size : leafC.size = 8 := by decide +kernel

theorem ln_strs2 (w : World) (a b : ByteArray) : Ln (w.alloc (.cells #[.string a, .string b] 9)) 1 (some ⟨w.heap.size, 0, none⟩) 2 2 (strVals [a.toList, b.toList]) :=
  ⟨rfl, Nat.le_refl _, fun e => (by cases e), fun ad e j u hu => by
    obtain rfl := Option.some.inj e
    refine cell_two_new w _ _ _ j u ?_
    unfold strVals at hu
    simp only [List.map_cons, List.map_nil, tb_back] at hu
    exact hu⟩
theorem ln_str1e (w : World) (x : ByteArray) : Ln (w.alloc (.cells #[.string x] 9)) 1 (some ⟨w.heap.size, 0, none⟩) 1 1 (strVals [x.toList]) := by
  obtain ⟨A9, c9, e9, l9, _⟩ := ln_str w x
  injection e9 with e9 _ e10
  subst e9
  subst e10
  rw [← str_one]
  exact l9
theorem byte_text (c : UInt8) : ByteArray.toList ⟨#[c]⟩ = [c] := by rw [toList_data]
theorem no_text : ByteArray.toList ⟨#[]⟩ = [] := by rw [toList_data]

set_option maxRecDepth 20000 in
set_option maxHeartbeats 6400000 in
theorem awake_any (w : World) :
    Calls Try.prog 11 #[] w fun e w' => e = .returned (.bool true) ∧ Below w.heap.size w w' := by
  go_enter Try.func11, Try.ntmps11
  have hn1 := nbox_new ((w.alloc (.cells #[.string ⟨#[97]⟩, .string ⟨#[99]⟩] 9)).alloc (.cells #[.string ⟨#[]⟩, .string ⟨#[]⟩] 9)) (.bool true) (.slice (some ⟨w.heap.size, 0, none⟩) 2 2) (.slice (some ⟨w.heap.size + 1, 0, none⟩) 2 2) (.slice none 0 0)
  rw [show ((w.alloc (.cells #[.string ⟨#[97]⟩, .string ⟨#[99]⟩] 9)).alloc (.cells #[.string ⟨#[]⟩, .string ⟨#[]⟩] 9)).heap.size = w.heap.size + 1 + 1 by simp] at hn1
  have bb := below_two w (.cells #[.string ⟨#[97]⟩, .string ⟨#[99]⟩] 9) (.cells #[.string ⟨#[]⟩, .string ⟨#[]⟩] 9)
  have bc := below_one ((w.alloc (.cells #[.string ⟨#[97]⟩, .string ⟨#[99]⟩] 9)).alloc (.cells #[.string ⟨#[]⟩, .string ⟨#[]⟩] 9)) (.cells #[.bool true, .slice (some ⟨w.heap.size, 0, none⟩) 2 2, .slice (some ⟨w.heap.size + 1, 0, none⟩) 2 2, .slice none 0 0] 25)
  have hk1 := ((ln_strs2 w ⟨#[97]⟩ ⟨#[99]⟩).kept (below_one _ (.cells #[.string ⟨#[]⟩, .string ⟨#[]⟩] 9))).kept bc
  have hk2 := (ln_strs2 (w.alloc (.cells #[.string ⟨#[97]⟩, .string ⟨#[99]⟩] 9)) ⟨#[]⟩ ⟨#[]⟩).kept bc
  rw [show (w.alloc (.cells #[.string ⟨#[97]⟩, .string ⟨#[99]⟩] 9)).heap.size = w.heap.size + 1 by simp] at hk2
  rw [byte_text, byte_text] at hk1
  rw [no_text] at hk2
  have NDl : Hid (Nd (((w.alloc (.cells #[.string ⟨#[97]⟩, .string ⟨#[99]⟩] 9)).alloc (.cells #[.string ⟨#[]⟩, .string ⟨#[]⟩] 9)).alloc (.cells #[.bool true, .slice (some ⟨w.heap.size, 0, none⟩) 2 2, .slice (some ⟨w.heap.size + 1, 0, none⟩) 2 2, .slice none 0 0] 25)) (some ⟨w.heap.size, 0, none⟩) 2 2 (some ⟨w.heap.size + 1, 0, none⟩) 2 2 none 0 0 leafC) := Lib.hid ⟨hk1, hk2, Ln.none_ _ 1⟩
  have NBl := Lib.hid hn1
  have BB := Lib.hid (chainN bc bb)
  clear hn1 bb bc hk1 hk2
  go_upto_region 2 with fail
  generalize ((w.alloc (.cells #[.string ⟨#[97]⟩, .string ⟨#[99]⟩] 9)).alloc (.cells #[.string ⟨#[]⟩, .string ⟨#[]⟩] 9)).alloc (.cells #[.bool true, .slice (some ⟨w.heap.size, 0, none⟩) 2 2, .slice (some ⟨w.heap.size + 1, 0, none⟩) 2 2, .slice none 0 0] 25) = w1 at *
  generalize (some ⟨w.heap.size, 0, none⟩ : Option Addr) = A at *
  generalize (some ⟨w.heap.size + 1, 0, none⟩ : Option Addr) = B at *
  generalize w.heap.size + 1 + 1 = gl at *
  have hi1 := nbox_new ((w1.alloc (.cells #[.string ⟨#[98]⟩] 9)).alloc (.cells #[.int .i64 5, .int .i64 6] 3)) (.bool false) (.slice (some ⟨w1.heap.size, 0, none⟩) 1 1) (.slice none 0 0) (.slice (some ⟨w1.heap.size + 1, 0, none⟩) 2 2)
  rw [show ((w1.alloc (.cells #[.string ⟨#[98]⟩] 9)).alloc (.cells #[.int .i64 5, .int .i64 6] 3)).heap.size = w1.heap.size + 1 + 1 by simp] at hi1
  have bb := below_two w1 (.cells #[.string ⟨#[98]⟩] 9) (.cells #[.int .i64 5, .int .i64 6] 3)
  have bc := below_one ((w1.alloc (.cells #[.string ⟨#[98]⟩] 9)).alloc (.cells #[.int .i64 5, .int .i64 6] 3)) (.cells #[.bool false, .slice (some ⟨w1.heap.size, 0, none⟩) 1 1, .slice none 0 0, .slice (some ⟨w1.heap.size + 1, 0, none⟩) 2 2] 25)
  have hk1 := ((ln_str1e w1 ⟨#[98]⟩).kept (below_one _ (.cells #[.int .i64 5, .int .i64 6] 3))).kept bc
  have hk2 := (ln_two (w1.alloc (.cells #[.string ⟨#[98]⟩] 9)) 5 6 3).kept bc
  rw [show (w1.alloc (.cells #[.string ⟨#[98]⟩] 9)).heap.size = w1.heap.size + 1 by simp] at hk2
  rw [byte_text] at hk1
  have NDi : Hid (Nd (((w1.alloc (.cells #[.string ⟨#[98]⟩] 9)).alloc (.cells #[.int .i64 5, .int .i64 6] 3)).alloc (.cells #[.bool false, .slice (some ⟨w1.heap.size, 0, none⟩) 1 1, .slice none 0 0, .slice (some ⟨w1.heap.size + 1, 0, none⟩) 2 2] 25)) (some ⟨w1.heap.size, 0, none⟩) 1 1 none 0 0 (some ⟨w1.heap.size + 1, 0, none⟩) 2 2 innerC) := Lib.hid ⟨hk1, Ln.none_ _ 1, hk2⟩
  have NBi := Lib.hid hi1
  have bz := chainN bc bb
  have NDl' := Lib.hid (NDl.out.kept bz)
  have NBl' := Lib.hid (NBl.out.kept bz)
  clear NDl NBl
  have NDl := NDl'
  have NBl := NBl'
  clear NDl' NBl'
  have BB2 := Lib.hid (chainN bz BB.out)
  clear BB hi1 bb bc hk1 hk2 bz
  go_upto_region 3 with fail
  generalize ((w1.alloc (.cells #[.string ⟨#[98]⟩] 9)).alloc (.cells #[.int .i64 5, .int .i64 6] 3)).alloc (.cells #[.bool false, .slice (some ⟨w1.heap.size, 0, none⟩) 1 1, .slice none 0 0, .slice (some ⟨w1.heap.size + 1, 0, none⟩) 2 2] 25) = w2 at *
  generalize (some ⟨w1.heap.size, 0, none⟩ : Option Addr) = Ai at *
  generalize (some ⟨w1.heap.size + 1, 0, none⟩ : Option Addr) = Ci at *
  generalize w1.heap.size + 1 + 1 = gi at *
  obtain ⟨c0, c1, c2, c3⟩ := NBl.out.cells
  have hcall := find_any true A 2 2 B 2 2 none 0 0 leafC ⟨#[98]⟩ w2 NDl.out (ND.ok_rise leafC_ok) (by omega)
  rw [byte_text, leafC_find.1, leafC_find.2] at hcall
  have HC := Lib.hid hcall
  clear hcall
  go_wp2_with fail
  refine HC.out.mono ?_
  rintro e w3 ⟨rfl, b3⟩
  have BB3 := Lib.hid (chainN b3 BB2.out)
  have NDl' := Lib.hid (NDl.out.kept b3)
  have NBl' := Lib.hid (NBl.out.kept b3)
  have NDi' := Lib.hid (NDi.out.kept b3)
  have NBi' := Lib.hid (NBi.out.kept b3)
  clear NDl NBl NDi NBi
  have NDl := NDl'
  have NBl := NBl'
  have NDi := NDi'
  have NBi := NBi'
  clear NDl' NBl' NDi' NBi'
  clear b3 HC BB2 c0 c1 c2 c3
  obtain ⟨c0, c1, c2, c3⟩ := NBl.out.cells
  have HC := Lib.hid (split_leaf A 2 2 B 2 2 none 0 0 leafC w3 NDl.out rfl leafC_ok (by rw [leafC_size]; omega) (by decide +kernel))
  go_wp2_with fail
  refine HC.out.mono ?_
  rintro e w4 ⟨v, u, rfl, hv, hu, b4⟩
  rw [leafC_splitL] at hv
  rw [leafC_splitR] at hu
  rw [leafC_split.1, leafC_split.2, show tb [99] = (⟨#[99]⟩ : ByteArray) from rfl]
  obtain ⟨A4, n4, c4, B4, m4, d4, C4, k4, e4, rfl, nv, _⟩ := hv
  obtain ⟨A5, n5, c5, B5, m5, d5, C5, k5, e5, rfl, nu, _⟩ := hu
  obtain rfl : 1 = n4 := nv.kn
  obtain rfl : 1 = m4 := nv.vn
  obtain rfl : 0 = k4 := nv.cn
  obtain rfl : 1 = n5 := nu.kn
  obtain rfl : 1 = m5 := nu.vn
  obtain rfl : 0 = k5 := nu.cn
  have b4' := chainN (below_two w4 (.cells #[.bool partC.leaf, .slice A4 1 c4, .slice B4 1 d4, .slice C4 0 e4] 25) (.cells #[.bool restC.leaf, .slice A5 1 c5, .slice B5 1 d5, .slice C5 0 e5] 25)) b4
  have NDp := Lib.hid (nv.kept (below_two w4 (.cells #[.bool partC.leaf, .slice A4 1 c4, .slice B4 1 d4, .slice C4 0 e4] 25) (.cells #[.bool restC.leaf, .slice A5 1 c5, .slice B5 1 d5, .slice C5 0 e5] 25)))
  have NDr := Lib.hid (nu.kept (below_two w4 (.cells #[.bool partC.leaf, .slice A4 1 c4, .slice B4 1 d4, .slice C4 0 e4] 25) (.cells #[.bool restC.leaf, .slice A5 1 c5, .slice B5 1 d5, .slice C5 0 e5] 25)))
  obtain ⟨hx1, hx2⟩ := nbox_two w4 (.bool partC.leaf) (.slice A4 1 c4) (.slice B4 1 d4) (.slice C4 0 e4) (.bool restC.leaf) (.slice A5 1 c5) (.slice B5 1 d5) (.slice C5 0 e5)
  have NBp := Lib.hid hx1
  have NBr := Lib.hid hx2
  have BB4 := Lib.hid (chainN b4' BB3.out)
  have NDl' := Lib.hid (NDl.out.kept b4')
  have NBl' := Lib.hid (NBl.out.kept b4')
  have NDi' := Lib.hid (NDi.out.kept b4')
  have NBi' := Lib.hid (NBi.out.kept b4')
  clear NDl NBl NDi NBi
  have NDl := NDl'
  have NBl := NBl'
  have NDi := NDi'
  have NBi := NBi'
  clear NDl' NBl' NDi' NBi'
  clear b4 b4' HC BB3 c0 c1 c2 c3 hx1 hx2 nv nu
  go_upto_region 5 with fail
  generalize (w4.alloc (.cells #[.bool partC.leaf, .slice A4 1 c4, .slice B4 1 d4, .slice C4 0 e4] 25)).alloc (.cells #[.bool restC.leaf, .slice A5 1 c5, .slice B5 1 d5, .slice C5 0 e5] 25) = w5 at *
  generalize w4.heap.size + 1 = gr at *
  generalize w4.heap.size = gp at *
  have HC := Lib.hid (split_leaf none 0 0 none 0 0 none 0 0 bareC w5 ⟨Ln.none_ _ 1, Ln.none_ _ 1, Ln.none_ _ 1⟩ rfl bareC_ok (by decide +kernel) (by decide +kernel))
  go_wp2_with fail
  refine HC.out.mono ?_
  rintro e w6 ⟨v, u, rfl, hv, hu, b6⟩
  rw [bareC_split]
  obtain ⟨A6, n6, c6, B6, m6, d6, C6, k6, e6, rfl, _, _⟩ := hv
  obtain ⟨A7, n7, c7, B7, m7, d7, C7, k7, e7, rfl, _, _⟩ := hu
  have b6' := chainN (below_two w6 (.cells #[.bool bareC.splitL.leaf, .slice A6 n6 c6, .slice B6 m6 d6, .slice C6 k6 e6] 25) (.cells #[.bool bareC.splitR.leaf, .slice A7 n7 c7, .slice B7 m7 d7, .slice C7 k7 e7] 25)) b6
  have BB6 := Lib.hid (chainN b6' BB4.out)
  have NDl' := Lib.hid (NDl.out.kept b6')
  have NBl' := Lib.hid (NBl.out.kept b6')
  have NDi' := Lib.hid (NDi.out.kept b6')
  have NBi' := Lib.hid (NBi.out.kept b6')
  have NDp' := Lib.hid (NDp.out.kept b6')
  have NBp' := Lib.hid (NBp.out.kept b6')
  have NDr' := Lib.hid (NDr.out.kept b6')
  have NBr' := Lib.hid (NBr.out.kept b6')
  clear NDl NBl NDi NBi NDp NBp NDr NBr
  have NDl := NDl'
  have NBl := NBl'
  have NDi := NDi'
  have NBi := NBi'
  have NDp := NDp'
  have NBp := NBp'
  have NDr := NDr'
  have NBr := NBr'
  clear NDl' NBl' NDi' NBi' NDp' NBp' NDr' NBr'
  clear b6 b6' HC BB4
  go_upto_region 6 with fail
  generalize (w6.alloc (.cells #[.bool bareC.splitL.leaf, .slice A6 n6 c6, .slice B6 m6 d6, .slice C6 k6 e6] 25)).alloc (.cells #[.bool bareC.splitR.leaf, .slice A7 n7 c7, .slice B7 m7 d7, .slice C7 k7 e7] 25) = w7 at *
  obtain ⟨c0, c1, c2, c3⟩ := NBl.out.cells
  have hcall := put_any true A 2 2 B 2 2 none 0 0 leafC ⟨#[98]⟩ ⟨#[120]⟩ w7 NDl.out rfl leafC_ok rfl (by omega)
  rw [byte_text, byte_text, leafC_put] at hcall
  have HC := Lib.hid hcall
  clear hcall
  go_wp2_with fail
  refine HC.out.mono ?_
  rintro e w8 ⟨v, rfl, hv, b8⟩
  obtain ⟨A8, n8, c8, B8, m8, d8, C8, k8, e8, rfl, nv, _⟩ := hv
  obtain rfl : 3 = n8 := nv.kn
  obtain rfl : 3 = m8 := nv.vn
  obtain rfl : 0 = k8 := nv.cn
  have b8' := chainN (below_one w8 (.cells #[.bool moreC.leaf, .slice A8 3 c8, .slice B8 3 d8, .slice C8 0 e8] 25)) b8
  have NDu := Lib.hid (nv.kept (below_one w8 (.cells #[.bool moreC.leaf, .slice A8 3 c8, .slice B8 3 d8, .slice C8 0 e8] 25)))
  have NBu := Lib.hid (nbox_new w8 (.bool moreC.leaf) (.slice A8 3 c8) (.slice B8 3 d8) (.slice C8 0 e8))
  have BB8 := Lib.hid (chainN b8' BB6.out)
  have NDl' := Lib.hid (NDl.out.kept b8')
  have NBl' := Lib.hid (NBl.out.kept b8')
  have NDi' := Lib.hid (NDi.out.kept b8')
  have NBi' := Lib.hid (NBi.out.kept b8')
  have NDp' := Lib.hid (NDp.out.kept b8')
  have NBp' := Lib.hid (NBp.out.kept b8')
  have NDr' := Lib.hid (NDr.out.kept b8')
  have NBr' := Lib.hid (NBr.out.kept b8')
  clear NDl NBl NDi NBi NDp NBp NDr NBr
  have NDl := NDl'
  have NBl := NBl'
  have NDi := NDi'
  have NBi := NBi'
  have NDp := NDp'
  have NBp := NBp'
  have NDr := NDr'
  have NBr := NBr'
  clear NDl' NBl' NDi' NBi' NDp' NBp' NDr' NBr'
  clear b8 b8' HC BB6 c0 c1 c2 c3 nv
  go_upto_region 7 with fail
  generalize w8.alloc (.cells #[.bool moreC.leaf, .slice A8 3 c8, .slice B8 3 d8, .slice C8 0 e8] 25) = w9 at *
  generalize w8.heap.size = gu at *
  obtain ⟨c0, c1, c2, c3⟩ := NBu.out.cells
  have hcall := remove_any A8 3 c8 B8 3 d8 C8 0 e8 moreC ⟨#[98]⟩ w9 NDu.out rfl moreC_ok (by omega)
  rw [byte_text, moreC_rem, moreC_at.1] at hcall
  have HC := Lib.hid hcall
  clear hcall
  go_wp2_with fail
  refine HC.out.mono ?_
  rintro e w10 ⟨v, rfl, hv, b10⟩
  obtain ⟨A9, n9, c9, B9, m9, d9, C9, k9, e9, rfl, nv, _⟩ := hv
  obtain rfl : 2 = n9 := nv.kn
  obtain rfl : 2 = m9 := nv.vn
  obtain rfl : 0 = k9 := nv.cn
  have b10' := chainN (below_one w10 (.cells #[.bool leafC.leaf, .slice A9 2 c9, .slice B9 2 d9, .slice C9 0 e9] 25)) b10
  have NDq := Lib.hid (nv.kept (below_one w10 (.cells #[.bool leafC.leaf, .slice A9 2 c9, .slice B9 2 d9, .slice C9 0 e9] 25)))
  have NBq := Lib.hid (nbox_new w10 (.bool leafC.leaf) (.slice A9 2 c9) (.slice B9 2 d9) (.slice C9 0 e9))
  have BB10 := Lib.hid (chainN b10' BB8.out)
  have NDl' := Lib.hid (NDl.out.kept b10')
  have NBl' := Lib.hid (NBl.out.kept b10')
  have NDi' := Lib.hid (NDi.out.kept b10')
  have NBi' := Lib.hid (NBi.out.kept b10')
  have NDp' := Lib.hid (NDp.out.kept b10')
  have NBp' := Lib.hid (NBp.out.kept b10')
  have NDr' := Lib.hid (NDr.out.kept b10')
  have NBr' := Lib.hid (NBr.out.kept b10')
  have NDu' := Lib.hid (NDu.out.kept b10')
  have NBu' := Lib.hid (NBu.out.kept b10')
  clear NDl NBl NDi NBi NDp NBp NDr NBr NDu NBu
  have NDl := NDl'
  have NBl := NBl'
  have NDi := NDi'
  have NBi := NBi'
  have NDp := NDp'
  have NBp := NBp'
  have NDr := NDr'
  have NBr := NBr'
  have NDu := NDu'
  have NBu := NBu'
  clear NDl' NBl' NDi' NBi' NDp' NBp' NDr' NBr' NDu' NBu'
  clear b10 b10' HC BB8 c0 c1 c2 c3 nv
  go_upto_region 8 with fail
  generalize w10.alloc (.cells #[.bool leafC.leaf, .slice A9 2 c9, .slice B9 2 d9, .slice C9 0 e9] 25) = w11 at *
  generalize w10.heap.size = gq at *
  obtain ⟨c0, c1, c2, c3⟩ := NBi.out.cells
  have bx := below_two w11 (.cells #[.int .i64 7, .int .i64 8] 3) (.cells #[.string ⟨#[97]⟩] 9)
  have lx1 := (ln_two w11 7 8 3).kept (below_one _ (.cells #[.string ⟨#[97]⟩] 9))
  have lx2 := ln_str1e (w11.alloc (.cells #[.int .i64 7, .int .i64 8] 3)) ⟨#[97]⟩
  rw [show (w11.alloc (.cells #[.int .i64 7, .int .i64 8] 3)).heap.size = w11.heap.size + 1 by simp, byte_text] at lx2
  have hcall := replace_any Ai 1 1 none 0 0 Ci 2 2 innerC 0 1 _ 2 2 [7, 8] _ 1 1 [[97]] _ (NDi.out.kept bx) lx1 lx2 rfl innerC_ok (by omega) (by omega) (by omega) (by omega) (by omega)
  rw [innerC_repl] at hcall
  have HC := Lib.hid hcall
  have BX := Lib.hid bx
  clear hcall lx1 lx2 bx
  go_wp2_with fail
  refine HC.out.mono ?_
  rintro e w12 ⟨v, rfl, hv, b12⟩
  obtain ⟨A3, n3, c3', B3, m3, d3, C3, k3, e3, rfl, nv, _⟩ := hv
  obtain rfl : 3 = k3 := nv.cn
  have b12' := chainN (below_one w12 (.cells #[.bool kidsC.leaf, .slice A3 n3 c3', .slice B3 m3 d3, .slice C3 3 e3] 25)) (chainN b12 BX.out)
  have NDx := Lib.hid (nv.kept (below_one w12 (.cells #[.bool kidsC.leaf, .slice A3 n3 c3', .slice B3 m3 d3, .slice C3 3 e3] 25)))
  have NBx := Lib.hid (nbox_new w12 (.bool kidsC.leaf) (.slice A3 n3 c3') (.slice B3 m3 d3) (.slice C3 3 e3))
  have BB12 := Lib.hid (chainN b12' BB10.out)
  have NDl' := Lib.hid (NDl.out.kept b12')
  have NBl' := Lib.hid (NBl.out.kept b12')
  have NDi' := Lib.hid (NDi.out.kept b12')
  have NBi' := Lib.hid (NBi.out.kept b12')
  have NDp' := Lib.hid (NDp.out.kept b12')
  have NBp' := Lib.hid (NBp.out.kept b12')
  have NDr' := Lib.hid (NDr.out.kept b12')
  have NBr' := Lib.hid (NBr.out.kept b12')
  have NDu' := Lib.hid (NDu.out.kept b12')
  have NBu' := Lib.hid (NBu.out.kept b12')
  have NDq' := Lib.hid (NDq.out.kept b12')
  have NBq' := Lib.hid (NBq.out.kept b12')
  clear NDl NBl NDi NBi NDp NBp NDr NBr NDu NBu NDq NBq
  have NDl := NDl'
  have NBl := NBl'
  have NDi := NDi'
  have NBi := NBi'
  have NDp := NDp'
  have NBp := NBp'
  have NDr := NDr'
  have NBr := NBr'
  have NDu := NDu'
  have NBu := NBu'
  have NDq := NDq'
  have NBq := NBq'
  clear NDl' NBl' NDi' NBi' NDp' NBp' NDr' NBr' NDu' NBu' NDq' NBq'
  clear b12 b12' HC BB10 c0 c1 c2 c3 nv BX
  go_upto_region 9 with fail
  generalize w12.alloc (.cells #[.bool kidsC.leaf, .slice A3 n3 c3', .slice B3 m3 d3, .slice C3 3 e3] 25) = w13 at *
  generalize w12.heap.size = gx at *
  obtain ⟨c0, c1, c2, c3⟩ := NBl.out.cells
  obtain ⟨y0, y1, y2, y3⟩ := NBq.out.cells
  go_wp2_with fail
  refine (nsame_any true A9 2 c9 B9 2 d9 C9 0 e9 leafC true A 2 2 B 2 2 none 0 0 leafC w13 NDq.out NDl.out rfl rfl (by omega) (by omega) (by omega)).mono ?_
  rintro e w14 ⟨r9, rfl, hr9, b14⟩
  obtain rfl := hr9 rfl
  have BB14 := Lib.hid (chainN b14 BB12.out)
  have NDl' := Lib.hid (NDl.out.kept b14)
  have NBl' := Lib.hid (NBl.out.kept b14)
  have NDi' := Lib.hid (NDi.out.kept b14)
  have NBi' := Lib.hid (NBi.out.kept b14)
  have NDp' := Lib.hid (NDp.out.kept b14)
  have NBp' := Lib.hid (NBp.out.kept b14)
  have NDr' := Lib.hid (NDr.out.kept b14)
  have NBr' := Lib.hid (NBr.out.kept b14)
  have NDu' := Lib.hid (NDu.out.kept b14)
  have NBu' := Lib.hid (NBu.out.kept b14)
  have NDq' := Lib.hid (NDq.out.kept b14)
  have NBq' := Lib.hid (NBq.out.kept b14)
  have NDx' := Lib.hid (NDx.out.kept b14)
  have NBx' := Lib.hid (NBx.out.kept b14)
  clear NDl NBl NDi NBi NDp NBp NDr NBr NDu NBu NDq NBq NDx NBx
  have NDl := NDl'
  have NBl := NBl'
  have NDi := NDi'
  have NBi := NBi'
  have NDp := NDp'
  have NBp := NBp'
  have NDr := NDr'
  have NBr := NBr'
  have NDu := NDu'
  have NBu := NBu'
  have NDq := NDq'
  have NBq := NBq'
  have NDx := NDx'
  have NBx := NBx'
  clear NDl' NBl' NDi' NBi' NDp' NBp' NDr' NBr' NDu' NBu' NDq' NBq' NDx' NBx'
  clear b14 BB12 c0 c1 c2 c3 y0 y1 y2 y3 hr9
  have KK : Hid (∀ X : World, Below w14.heap.size w14 X → (X.cell? ⟨gl, 0, none⟩ = some (.bool true) ∧ X.cell? ⟨gl, 1, none⟩ = some (.slice A 2 2) ∧ X.cell? ⟨gl, 2, none⟩ = some (.slice B 2 2) ∧ X.cell? ⟨gl, 3, none⟩ = some (.slice none 0 0)) ∧
      (X.cell? ⟨gp, 0, none⟩ = some (.bool partC.leaf) ∧ X.cell? ⟨gp, 1, none⟩ = some (.slice A4 1 c4) ∧ X.cell? ⟨gp, 2, none⟩ = some (.slice B4 1 d4) ∧ X.cell? ⟨gp, 3, none⟩ = some (.slice C4 0 e4)) ∧
      (X.cell? ⟨gr, 0, none⟩ = some (.bool restC.leaf) ∧ X.cell? ⟨gr, 1, none⟩ = some (.slice A5 1 c5) ∧ X.cell? ⟨gr, 2, none⟩ = some (.slice B5 1 d5) ∧ X.cell? ⟨gr, 3, none⟩ = some (.slice C5 0 e5))) := Lib.hid (fun X hb => ⟨(NBl.out.kept hb).cells, (NBp.out.kept hb).cells, (NBr.out.kept hb).cells⟩)
  have BD := Lib.hid ((Below.refl w14.heap.size w14).drew)
  go_wp2_with fail
  go_region_held3 (fun X => (X.cell? ⟨gl, 0, none⟩ = some (.bool true) ∧ X.cell? ⟨gl, 1, none⟩ = some (.slice A 2 2) ∧ X.cell? ⟨gl, 2, none⟩ = some (.slice B 2 2) ∧ X.cell? ⟨gl, 3, none⟩ = some (.slice none 0 0)) ∧
      (X.cell? ⟨gp, 0, none⟩ = some (.bool partC.leaf) ∧ X.cell? ⟨gp, 1, none⟩ = some (.slice A4 1 c4) ∧ X.cell? ⟨gp, 2, none⟩ = some (.slice B4 1 d4) ∧ X.cell? ⟨gp, 3, none⟩ = some (.slice C4 0 e4)) ∧
      (X.cell? ⟨gr, 0, none⟩ = some (.bool restC.leaf) ∧ X.cell? ⟨gr, 1, none⟩ = some (.slice A5 1 c5) ∧ X.cell? ⟨gr, 2, none⟩ = some (.slice B5 1 d5) ∧ X.cell? ⟨gr, 3, none⟩ = some (.slice C5 0 e5)))
    (first | exact KK.out _ B2.out | exact KK.out _ B1.out | exact KK.out _ BD.out)
    (first
      | (go_at_call 30; refine (join_any true A4 1 c4 B4 1 d4 C4 0 e4 partC true A5 1 c5 B5 1 d5 C5 0 e5 restC ⟨#[99]⟩ _ (NDp.out.kept BD.out) (NDr.out.kept BD.out) rfl (by omega) (by omega) (by omega) (by omega) (by omega) (by omega)).mono ?_; rintro e w15 ⟨v, rfl, hv, b15⟩; rw [byte_text, partC_join] at hv; obtain ⟨A15, n15, c15, B15, m15, d15, C15, k15, e15, rfl, nv, _⟩ := hv; obtain rfl : 2 = n15 := nv.kn; obtain rfl : 2 = m15 := nv.vn; obtain rfl : 0 = k15 := nv.cn; have B1 := Lib.hid (chainN b15 BD.out); have NV := Lib.hid nv; clear nv b15)
      | (go_at_call 23; refine (nsame_any true A15 2 c15 B15 2 d15 C15 0 e15 leafC true A 2 2 B 2 2 none 0 0 leafC _ NV.out (NDl.out.kept B1.out) rfl rfl (by omega) (by omega) (by omega)).mono ?_; rintro e w16 ⟨r16, rfl, hr16, b16⟩; obtain rfl := hr16 rfl; have B2 := Lib.hid (chainN b16 B1.out); clear b16 hr16)
      | fail)
  have b17 := B2.out
  have BB16 := Lib.hid (chainN b17 BB14.out)
  have NDl' := Lib.hid (NDl.out.kept b17)
  have NBl' := Lib.hid (NBl.out.kept b17)
  have NDi' := Lib.hid (NDi.out.kept b17)
  have NBi' := Lib.hid (NBi.out.kept b17)
  have NDp' := Lib.hid (NDp.out.kept b17)
  have NBp' := Lib.hid (NBp.out.kept b17)
  have NDr' := Lib.hid (NDr.out.kept b17)
  have NBr' := Lib.hid (NBr.out.kept b17)
  have NDu' := Lib.hid (NDu.out.kept b17)
  have NBu' := Lib.hid (NBu.out.kept b17)
  have NDq' := Lib.hid (NDq.out.kept b17)
  have NBq' := Lib.hid (NBq.out.kept b17)
  have NDx' := Lib.hid (NDx.out.kept b17)
  have NBx' := Lib.hid (NBx.out.kept b17)
  clear NDl NBl NDi NBi NDp NBp NDr NBr NDu NBu NDq NBq NDx NBx
  have NDl := NDl'
  have NBl := NBl'
  have NDi := NDi'
  have NBi := NBi'
  have NDp := NDp'
  have NBp := NBp'
  have NDr := NDr'
  have NBr := NBr'
  have NDu := NDu'
  have NBu := NBu'
  have NDq := NDq'
  have NBq := NBq'
  have NDx := NDx'
  have NBx := NBx'
  clear NDl' NBl' NDi' NBi' NDp' NBp' NDr' NBr' NDu' NBu' NDq' NBq' NDx' NBx'
  clear b17 BB14 KK BD B1 B2 NV
  obtain ⟨x0, x1, x2, x3⟩ := NBi.out.cells
  obtain ⟨c0, c1, c2, c3⟩ := NBl.out.cells
  obtain ⟨y0, y1, y2, y3⟩ := NBu.out.cells
  obtain ⟨z0, z1, z2, z3⟩ := NBx.out.cells
  have hcall := kid_any false Ai 1 1 none 0 0 Ci 2 2 innerC ⟨#[98]⟩ w16 NDi.out (ND.ok_rise innerC_ok) (by omega)
  rw [byte_text, innerC_kid] at hcall
  have HC := Lib.hid hcall
  clear hcall
  go_wp2_with fail
  refine HC.out.mono ?_
  rintro e w17 ⟨rfl, b17⟩
  have BB17 := Lib.hid (chainN b17 BB16.out)
  have NDl' := Lib.hid (NDl.out.kept b17)
  have NBl' := Lib.hid (NBl.out.kept b17)
  have NDi' := Lib.hid (NDi.out.kept b17)
  have NBi' := Lib.hid (NBi.out.kept b17)
  have NDp' := Lib.hid (NDp.out.kept b17)
  have NBp' := Lib.hid (NBp.out.kept b17)
  have NDr' := Lib.hid (NDr.out.kept b17)
  have NBr' := Lib.hid (NBr.out.kept b17)
  have NDu' := Lib.hid (NDu.out.kept b17)
  have NBu' := Lib.hid (NBu.out.kept b17)
  have NDq' := Lib.hid (NDq.out.kept b17)
  have NBq' := Lib.hid (NBq.out.kept b17)
  have NDx' := Lib.hid (NDx.out.kept b17)
  have NBx' := Lib.hid (NBx.out.kept b17)
  clear NDl NBl NDi NBi NDp NBp NDr NBr NDu NBu NDq NBq NDx NBx
  have NDl := NDl'
  have NBl := NBl'
  have NDi := NDi'
  have NBi := NBi'
  have NDp := NDp'
  have NBp := NBp'
  have NDr := NDr'
  have NBr := NBr'
  have NDu := NDu'
  have NBu := NBu'
  have NDq := NDq'
  have NBq := NBq'
  have NDx := NDx'
  have NBx := NBx'
  clear NDl' NBl' NDi' NBi' NDp' NBp' NDr' NBr' NDu' NBu' NDq' NBq' NDx' NBx'
  clear b17 BB16 HC x0 x1 x2 x3 c0 c1 c2 c3 y0 y1 y2 y3 z0 z1 z2 z3
  obtain ⟨c0, c1, c2, c3⟩ := NBl.out.cells
  obtain ⟨y0, y1, y2, y3⟩ := NBu.out.cells
  obtain ⟨z0, z1, z2, z3⟩ := NBx.out.cells
  have hcall := fits_any true A 2 2 B 2 2 none 0 0 leafC w17 NDl.out (by rw [leafC_size]; omega)
  rw [leafC_size] at hcall
  have HC := Lib.hid hcall
  clear hcall
  go_wp2_with fail
  refine HC.out.mono ?_
  rintro e w18 ⟨rfl, b18⟩
  have BB18 := Lib.hid (chainN b18 BB17.out)
  have NDl' := Lib.hid (NDl.out.kept b18)
  have NBl' := Lib.hid (NBl.out.kept b18)
  have NDi' := Lib.hid (NDi.out.kept b18)
  have NBi' := Lib.hid (NBi.out.kept b18)
  have NDp' := Lib.hid (NDp.out.kept b18)
  have NBp' := Lib.hid (NBp.out.kept b18)
  have NDr' := Lib.hid (NDr.out.kept b18)
  have NBr' := Lib.hid (NBr.out.kept b18)
  have NDu' := Lib.hid (NDu.out.kept b18)
  have NBu' := Lib.hid (NBu.out.kept b18)
  have NDq' := Lib.hid (NDq.out.kept b18)
  have NBq' := Lib.hid (NBq.out.kept b18)
  have NDx' := Lib.hid (NDx.out.kept b18)
  have NBx' := Lib.hid (NBx.out.kept b18)
  clear NDl NBl NDi NBi NDp NBp NDr NBr NDu NBu NDq NBq NDx NBx
  have NDl := NDl'
  have NBl := NBl'
  have NDi := NDi'
  have NBi := NBi'
  have NDp := NDp'
  have NBp := NBp'
  have NDr := NDr'
  have NBr := NBr'
  have NDu := NDu'
  have NBu := NBu'
  have NDq := NDq'
  have NBq := NBq'
  have NDx := NDx'
  have NBx := NBx'
  clear NDl' NBl' NDi' NBi' NDp' NBp' NDr' NBr' NDu' NBu' NDq' NBq' NDx' NBx'
  clear b18 BB17 HC c0 c1 c2 c3 y0 y1 y2 y3 z0 z1 z2 z3
  obtain ⟨c0, c1, c2, c3⟩ := NBl.out.cells
  have hcall := low_any true A 2 2 B 2 2 none 0 0 leafC w18 NDl.out (by rw [leafC_size]; omega)
  rw [leafC_size] at hcall
  have HC := Lib.hid hcall
  clear hcall
  go_wp2_with fail
  refine HC.out.mono ?_
  rintro e w19 ⟨rfl, b19⟩
  have BB19 := Lib.hid (chainN b19 BB18.out)
  clear b19
  go_wp2_with fail
  go_ret
  exact ⟨rfl, BB19.out⟩
end Go.Proofs.Ytcdfjaldnelfjaa
