/-
  What the document's own Put and Remove come to (package tailraceref11).
-/
import Derived.Test.YtcdfjaldnelfjaaERFind
import Derived.Test.YtcdfjaldnelfjaaERWith
import Derived.Test.YtcdfjaldnelfjaaEBox
import Derived.Test.YtcdfjaldnelfjaaERem
import Derived.Deep.RegionHeld3
import Derived.Deep.Cut
namespace Go.Proofs.Ytcdfjaldnelfjaa
open Go.RowKit

set_option maxRecDepth 20000 in
set_option maxHeartbeats 6400000 in
theorem rput_any (A : Option Addr) (n c : Nat) (B : Option Addr) (m d : Nat) (C : Option Addr) (k e : Nat) (s : ND) (x y : ByteArray) (w : World) (h : Nd w A n c B m d C k e s) (hl : s.leaf = true) (ho : s.ok = true) (hn : n ≤ 300000) :
    Calls Try.prog 25 #[.agg #[.bool true, .slice A n c, .slice B m d, .slice C k e], .string x, .string y] w (NfEnd w (s.put x.toList y.toList)) := by
  obtain rfl : n = m := by rw [← h.vn, ← h.kn]; exact (ND.ok_leaf ho hl).1.symm
  have HKN := Lib.hid h.kn
  have HVN := Lib.hid h.vn
  obtain ⟨tb1, tb2, tb3⟩ := nbox_pair w (.bool true) (.slice A n c) (.slice B n d) (.slice C k e)
  have HS := Lib.hid (h.kept tb3)
  have HB := Lib.hid tb1
  have HR := Lib.hid tb2
  have B0 := Lib.hid tb3
  clear h hl ho tb1 tb2 tb3
  go_enter Try.func25, Try.ntmps25
  go_upto_region 1 with fail
  generalize (w.alloc (.cells #[.bool true, .slice A n c, .slice B n d, .slice C k e] 25)).alloc (.cells #[.bool false, .slice none 0 0, .slice none 0 0, .slice none 0 0] 25) = w0 at *
  obtain ⟨c0, c1, c2, c3⟩ := HB.out.cells
  go_wp2_with fail
  refine (rfind_any true A n c B n d C k e s x w0 HS.out (by omega)).mono ?_
  rintro e1 w1 ⟨rfl, b1⟩
  have B1 := Lib.hid (chainN b1 B0.out)
  have HB1 := Lib.hid (HB.out.kept b1)
  have HR1 := Lib.hid (HR.out.kept b1)
  have HS1 := Lib.hid (HS.out.kept b1)
  have hfn := ND.findN_le x.toList s.keys
  rw [HS1.out.kn] at hfn
  clear b1 c0 c1 c2 c3 HB HR HS B0
  obtain ⟨c0, c1, c2, c3⟩ := HB1.out.cells
  cases his : ND.isAt x.toList s.keys with
  | true =>
    have HP := Lib.hid (ND.put_old y.toList his)
    have hfl := ND.isAt_lt his
    rw [HS1.out.kn] at hfl
    clear his hfn
    generalize ND.findN x.toList s.keys = f at *
    have HQ1 : Hid (ND.rep (ND.rep s.keys f (f + 1) []) f f [x.toList] = ND.rep s.keys f (f + 1) [x.toList]) := Lib.hid (ND.rep_rep (by omega) (by rw [HKN.out]; omega))
    have HQ2 : Hid (ND.rep (ND.rep s.vals f (f + 1) []) f f [y.toList] = ND.rep s.vals f (f + 1) [y.toList]) := Lib.hid (ND.rep_rep (by omega) (by rw [HVN.out]; omega))
    go_wp2_with fail
    refine (without_any A n c s.keys f w1 HS1.out.ke hfl (by omega)).mono ?_
    rintro e1 w2 ⟨v2, rfl, o2, b2⟩
    have B2 := Lib.hid (chainN b2 B1.out)
    have HB2 := Lib.hid (HB1.out.kept b2)
    have HR2 := Lib.hid (HR1.out.kept b2)
    have HS2 := Lib.hid (HS1.out.kept b2)
    obtain ⟨A2, a2, rfl, l2, _⟩ := wrow o2 (Below.refl _ _)
    have L2 := Lib.hid l2
    clear o2 l2 b2 c0 c1 c2 c3 HB1 HR1 HS1 B1
    obtain ⟨c0, c1, c2, c3⟩ := HB2.out.cells
    go_wp2_with fail
    refine (without_any B n d s.vals f w2 HS2.out.va hfl (by omega)).mono ?_
    rintro e1 w3 ⟨v3, rfl, o3, b3⟩
    have B3 := Lib.hid (chainN b3 B2.out)
    have HR3 := Lib.hid (HR2.out.kept b3)
    have L3 := Lib.hid (L2.out.kept b3)
    obtain ⟨A3, a3, rfl, l3, _⟩ := wrow o3 (Below.refl _ _)
    have M3 := Lib.hid l3
    clear o3 l3 b3 c0 c1 c2 c3 HB2 HR2 HS2 B2 L2
    go_wp2_with fail
    refine (with_any A2 (n - 1) a2 _ f x w3 L3.out (by omega) (by omega)).mono ?_
    rintro e1 w4 ⟨v4, rfl, o4, b4⟩
    have B4 := Lib.hid (chainN b4 B3.out)
    have HR4 := Lib.hid (HR3.out.kept b4)
    have M4 := Lib.hid (M3.out.kept b4)
    rw [HQ1.out] at o4
    obtain ⟨A4, a4, rfl, l4, _⟩ := wrow o4 (Below.refl _ _)
    have N4 := Lib.hid l4
    clear o4 l4 b4 HR3 B3 L3 M3
    go_wp2_with fail
    refine (with_any A3 (n - 1) a3 _ f y w4 M4.out (by omega) (by omega)).mono ?_
    rintro e1 w5 ⟨v5, rfl, o5, b5⟩
    have B5 := Lib.hid (chainN b5 B4.out)
    have HR5 := Lib.hid (HR4.out.kept b5)
    have N5 := Lib.hid (N4.out.kept b5)
    rw [HQ2.out] at o5
    obtain ⟨A5, a5, rfl, l5, _⟩ := wrow o5 (Below.refl _ _)
    have HND : Hid (Nd w5 A4 (n - 1 + 1) a4 A5 (n - 1 + 1) a5 none 0 0 ⟨true, ND.rep s.keys f (f + 1) [x.toList], ND.rep s.vals f (f + 1) [y.toList], []⟩) := Lib.hid ⟨N5.out, l5, Ln.none_ _ 1⟩
    clear o5 l5 b5 HR4 B4 M4 N4
    have HD := Lib.hid (nf_done B5.out (Nat.le_succ _) HND.out HR5.out)
    have hE := (HR5.out.put (.bool true) (.slice A4 (n - 1 + 1) a4) (.slice A5 (n - 1 + 1) a5) (.slice none 0 0)).cells
    have HE := Lib.hid hE
    clear hE
    obtain ⟨x0, x1, x2, x3⟩ := HR5.out.cells
    obtain ⟨f0, f1, f2, f3⟩ := HR5.out.free
    generalize n - 1 + 1 = nn at *
    go_wp2_with fail
    obtain ⟨y0, y1, y2, y3⟩ := HE.out
    refine bodyPost_ret (v := .agg #[.bool true, .slice A4 nn a4, .slice A5 nn a5, .slice none 0 0]) (by simp [results, Try.results25, go_sem, y0, y1, y2, y3]) rfl ?_
    exact ⟨_, rfl, by rw [HP.out]; exact HD.out.1, HD.out.2⟩
  | false =>
    have HP := Lib.hid (ND.put_new y.toList his)
    clear his
    generalize ND.findN x.toList s.keys = f at *
    go_wp2_with fail
    refine (with_any A n c _ f x w1 HS1.out.ke hfn (by omega)).mono ?_
    rintro e1 w4 ⟨v4, rfl, o4, b4⟩
    have B4 := Lib.hid (chainN b4 B1.out)
    have HR4 := Lib.hid (HR1.out.kept b4)
    have M4 := Lib.hid (HS1.out.kept b4)
    obtain ⟨A4, a4, rfl, l4, _⟩ := wrow o4 (Below.refl _ _)
    have N4 := Lib.hid l4
    clear o4 l4 b4 HR1 B1 HS1 HB1 c0 c1 c2 c3
    go_wp2_with fail
    refine (with_any B n d _ f y w4 M4.out.va hfn (by omega)).mono ?_
    rintro e1 w5 ⟨v5, rfl, o5, b5⟩
    have B5 := Lib.hid (chainN b5 B4.out)
    have HR5 := Lib.hid (HR4.out.kept b5)
    have N5 := Lib.hid (N4.out.kept b5)
    obtain ⟨A5, a5, rfl, l5, _⟩ := wrow o5 (Below.refl _ _)
    have HND : Hid (Nd w5 A4 (n + 1) a4 A5 (n + 1) a5 none 0 0 ⟨true, ND.rep s.keys f f [x.toList], ND.rep s.vals f f [y.toList], []⟩) := Lib.hid ⟨N5.out, l5, Ln.none_ _ 1⟩
    clear o5 l5 b5 HR4 B4 M4 N4
    have HD := Lib.hid (nf_done B5.out (Nat.le_succ _) HND.out HR5.out)
    have hE := (HR5.out.put (.bool true) (.slice A4 (n + 1) a4) (.slice A5 (n + 1) a5) (.slice none 0 0)).cells
    have HE := Lib.hid hE
    clear hE
    obtain ⟨x0, x1, x2, x3⟩ := HR5.out.cells
    obtain ⟨f0, f1, f2, f3⟩ := HR5.out.free
    generalize n + 1 = nn at *
    go_wp2_with fail
    obtain ⟨y0, y1, y2, y3⟩ := HE.out
    refine bodyPost_ret (v := .agg #[.bool true, .slice A4 nn a4, .slice A5 nn a5, .slice none 0 0]) (by simp [results, Try.results25, go_sem, y0, y1, y2, y3]) rfl ?_
    exact ⟨_, rfl, by rw [HP.out]; exact HD.out.1, HD.out.2⟩

/-- What each operation of the region leaves. -/
def rremF (g : Nat) (A : Option Addr) (n c : Nat) (B : Option Addr) (d : Nat) (f : Nat) (s : ND) : List SP :=
  [.is (.pointer (some ⟨g, 1, none⟩)), .is (.slice A n c), .is (.int .i64 f), .ln 0 (n - 1) (strVals (ND.rep s.keys f (f + 1) [])),
    .is (.pointer (some ⟨g, 2, none⟩)), .is (.slice B n d), .is (.int .i64 f), .ln 0 (n - 1) (strVals (ND.rep s.vals f (f + 1) [])), .nd 0 ⟨true, ND.rep s.keys f (f + 1) [], ND.rep s.vals f (f + 1) [], []⟩]

set_option maxRecDepth 20000 in
set_option maxHeartbeats 6400000 in
theorem rremove_any (A : Option Addr) (n c : Nat) (B : Option Addr) (m d : Nat) (C : Option Addr) (k e : Nat) (s : ND) (x : ByteArray) (w : World) (h : Nd w A n c B m d C k e s) (hl : s.leaf = true) (ho : s.ok = true) (hn : n ≤ 300000) :
    Calls Try.prog 22 #[.agg #[.bool true, .slice A n c, .slice B m d, .slice C k e], .string x] w (NfBEnd w (s.remove x.toList) (ND.isAt x.toList s.keys)) := by
  obtain rfl : n = m := by rw [← h.vn, ← h.kn]; exact (ND.ok_leaf ho hl).1.symm
  have H0 := Lib.hid h
  obtain ⟨tb1, tb2, tb3⟩ := nbox_pair w (.bool true) (.slice A n c) (.slice B n d) (.slice C k e)
  have HS := Lib.hid (h.kept tb3)
  have HB := Lib.hid tb1
  have HR := Lib.hid tb2
  have B0 := Lib.hid tb3
  have HL := Lib.hid hl
  clear h hl ho tb1 tb2 tb3
  go_enter Try.func22, Try.ntmps22
  go_upto_region 1 with fail
  generalize (w.alloc (.cells #[.bool true, .slice A n c, .slice B n d, .slice C k e] 25)).alloc (.cells #[.bool false, .slice none 0 0, .slice none 0 0, .slice none 0 0] 25) = w0 at *
  obtain ⟨c0, c1, c2, c3⟩ := HB.out.cells
  go_wp2_with fail
  refine (rfind_any true A n c B n d C k e s x w0 HS.out (by omega)).mono ?_
  rintro e1 w1 ⟨rfl, b1⟩
  have B1 := Lib.hid (chainN b1 B0.out)
  have HB1 := Lib.hid (HB.out.kept b1)
  have HR1 := Lib.hid (HR.out.kept b1)
  have HS1 := Lib.hid (HS.out.kept b1)
  clear b1 c0 c1 c2 c3 HB HR HS B0
  obtain ⟨c0, c1, c2, c3⟩ := HB1.out.cells
  cases his : ND.isAt x.toList s.keys with
  | true =>
    have HP := Lib.hid (ND.remove_old his)
    have hfl := ND.isAt_lt his
    rw [HS1.out.kn] at hfl
    have HRD : Hid (s.removed x.toList = ⟨true, ND.rep s.keys (ND.findN x.toList s.keys) (ND.findN x.toList s.keys + 1) [], ND.rep s.vals (ND.findN x.toList s.keys) (ND.findN x.toList s.keys + 1) [], []⟩) := Lib.hid rfl
    have HI := Lib.hid his
    clear his
    generalize ND.findN x.toList s.keys = f at *
    go_upto_region 4 with fail
    clear c0 c1 c2 c3
    rename_i KK HM
    refine wp_region_flow 9 2 (SP.at_ (rremF w.heap.size A n c B d f s)) (by kernel_rfl) rfl (by kernel_rfl) (by kernel_rfl) (by kernel_rfl) (SP.at_st _) ?_ ?_
    · intro i o L a wx hi ho h hd
      have e2 : a.eval (.tmp 2) = .pointer (some ⟨w.heap.size, 0, none⟩) := (h.old 2 (by kernel_rfl)).trans rfl
      have e6 : a.eval (.tmp 6) = .int .i64 (f : Int) := (h.old 6 (by kernel_rfl)).trans rfl
      obtain ⟨c0, c1, c2, c3⟩ := (HB1.out.kept h.below).cells
      match i, hi, ho, hd with
      | 0, _, ho, hd =>
        obtain rfl := Option.some.inj ho
        refine wpOp_step rfl (fun K hK => ?_)
        refine (if_pos (by rfl)).mpr ?_
        have q0 := got e2
        go_simp
        exact hK _ _ ⟨_, _, rfl, rfl, rfl, Below.refl _ _⟩
      | 1, _, ho, hd =>
        obtain rfl := Option.some.inj ho
        refine wpOp_step rfl (fun K hK => ?_)
        refine (if_pos (by rfl)).mpr ?_
        have q0 := got (h.got 0 _ _ rfl (by decide) (hd ⟨0, .data⟩ (by simp) rfl) rfl)
        go_simp
        exact hK _ _ ⟨_, _, rfl, rfl, rfl, Below.refl _ _⟩
      | 2, _, ho, hd =>
        obtain rfl := Option.some.inj ho
        refine wpOp_step rfl (fun K hK => ?_)
        refine (if_pos (by rfl)).mpr ?_
        have q0 := got e6
        go_simp
        exact hK _ _ ⟨_, _, rfl, rfl, rfl, Below.refl _ _⟩
      | 3, _, ho, hd =>
        obtain rfl := Option.some.inj ho
        refine wpOp_step rfl (fun K hK => ?_)
        refine (if_pos (by rfl)).mpr ?_
        have q0 := got (h.got 1 _ _ rfl (by decide) (hd ⟨1, .data⟩ (by simp) rfl) rfl)
        have q1 := got (h.got 2 _ _ rfl (by decide) (hd ⟨2, .data⟩ (by simp) rfl) rfl)
        go_simp
        refine (without_any A n c s.keys f wx (HS1.out.ke.kept h.below) hfl (by omega)).mono ?_
        rintro e w3 ⟨v3, rfl, o3, b3⟩
        exact hK _ _ ⟨v3, _, rfl, rfl, ln_of_row o3 rfl (Nat.zero_le _), b3⟩
      | 4, _, ho, hd =>
        obtain rfl := Option.some.inj ho
        refine wpOp_step rfl (fun K hK => ?_)
        refine (if_pos (by rfl)).mpr ?_
        have q0 := got e2
        go_simp
        exact hK _ _ ⟨_, _, rfl, rfl, rfl, Below.refl _ _⟩
      | 5, _, ho, hd =>
        obtain rfl := Option.some.inj ho
        refine wpOp_step rfl (fun K hK => ?_)
        refine (if_pos (by rfl)).mpr ?_
        have q0 := got (h.got 4 _ _ rfl (by decide) (hd ⟨4, .data⟩ (by simp) rfl) rfl)
        go_simp
        exact hK _ _ ⟨_, _, rfl, rfl, rfl, Below.refl _ _⟩
      | 6, _, ho, hd =>
        obtain rfl := Option.some.inj ho
        refine wpOp_step rfl (fun K hK => ?_)
        refine (if_pos (by rfl)).mpr ?_
        have q0 := got e6
        go_simp
        exact hK _ _ ⟨_, _, rfl, rfl, rfl, Below.refl _ _⟩
      | 7, _, ho, hd =>
        obtain rfl := Option.some.inj ho
        refine wpOp_step rfl (fun K hK => ?_)
        refine (if_pos (by rfl)).mpr ?_
        have q0 := got (h.got 5 _ _ rfl (by decide) (hd ⟨5, .data⟩ (by simp) rfl) rfl)
        have q1 := got (h.got 6 _ _ rfl (by decide) (hd ⟨6, .data⟩ (by simp) rfl) rfl)
        go_simp
        refine (without_any B n d s.vals f wx (HS1.out.va.kept h.below) hfl (by omega)).mono ?_
        rintro e w3 ⟨v3, rfl, o3, b3⟩
        exact hK _ _ ⟨v3, _, rfl, rfl, ln_of_row o3 rfl (Nat.zero_le _), b3⟩
      | 8, _, ho, hd =>
        obtain rfl := Option.some.inj ho
        refine wpOp_step rfl (fun K hK => ?_)
        refine (if_pos (by rfl)).mpr ?_
        obtain ⟨A1, a1, z1, l1, i1, _⟩ := (h.got 3 _ _ rfl (by decide) (hd ⟨3, .data⟩ (by simp) rfl) rfl)
        obtain ⟨A2, a2, z2, l2, i2, _⟩ := (h.got 7 _ _ rfl (by decide) (hd ⟨7, .data⟩ (by simp) rfl) rfl)
        have y1 := got z1
        have y2 := got z2
        go_simp
        exact hK _ _ ⟨_, _, rfl, rfl, ⟨A1, _, a1, A2, _, a2, none, 0, 0, rfl, ⟨l1, l2, Ln.none_ _ 1⟩, i1, i2, NHi.none_ _⟩, Below.refl _ _⟩
      | j + 9, hi, _, _ => exact absurd hi (by omega)
    · intro mm L a wx h hd
      obtain ⟨A', n', c', B', m', d', C', k', e', ev, hN, _, _, _⟩ := h.got 8 _ _ rfl (by decide) (hd 8 (by decide)) rfl
      have q := got ev
      have q2 := got ((h.old 4 (by kernel_rfl)).trans rfl : a.eval (.tmp 4) = .pointer (some ⟨w.heap.size + 1, 0, none⟩))
      have HR2 := Lib.hid (HR1.out.kept h.below)
      have HD := Lib.hid (nf_done (chainN h.below B1.out) (Nat.le_succ _) hN HR2.out)
      have hsz : 5 < a.tmps.size := by rw [h.sz]; show 5 < 26; decide
      refine wpAny_ready (rs := [9]) (by decide +kernel) (by simp) (AllReady.cons rfl (fun K hK => ?_) AllReady.nil)
      refine (if_pos (by rfl)).mpr ?_
      obtain ⟨x0, x1, x2, x3⟩ := HR2.out.cells
      obtain ⟨f0, f1, f2, f3⟩ := HR2.out.free
      go_simp
      refine hK _ _ ?_
      clear hK K x0 x1 x2 x3 f0 f1 f2 f3
      refine wpAny_ready (rs := [10]) (by decide +kernel) (by simp) (AllReady.cons rfl (fun K hK => ?_) AllReady.nil)
      refine (if_pos (by rfl)).mpr ?_
      go_simp
      refine hK _ _ ?_
      refine wpAny_done (by decide +kernel) ?_ _
      obtain ⟨y0, y1, y2, y3⟩ := (HR2.out.put (.bool true) (.slice A' n' c') (.slice B' m' d') (.slice C' k' e')).cells
      refine HM _ _ ?_
      refine wp_ret ?_
      refine bodyPost_ret (v := .tuple #[.agg #[.bool true, .slice A' n' c', .slice B' m' d', .slice C' k' e'], .bool true]) (by simp [results, Try.results22, go_sem, q2, y0, y1, y2, y3, hsz]) (h.df.trans rfl) ?_
      exact ⟨_, by rw [HI.out], by rw [HP.out, HRD.out]; exact HD.out.1, HD.out.2⟩
  | false =>
    have HP := Lib.hid (ND.remove_new his)
    have HI := Lib.hid his
    clear his
    obtain ⟨sl, sk, sv, si⟩ := s
    obtain rfl : sl = true := HL.out
    have HD := Lib.hid (nf_done B1.out (Nat.le_succ _) HS1.out HR1.out)
    have hE := (HR1.out.put (.bool true) (.slice A n c) (.slice B n d) (.slice C k e)).cells
    have HE := Lib.hid hE
    clear hE
    obtain ⟨x0, x1, x2, x3⟩ := HR1.out.cells
    obtain ⟨f0, f1, f2, f3⟩ := HR1.out.free
    go_wp2_with fail
    obtain ⟨y0, y1, y2, y3⟩ := HE.out
    refine bodyPost_ret (v := .tuple #[.agg #[.bool true, .slice A n c, .slice B n d, .slice C k e], .bool false]) (by simp [results, Try.results22, go_sem, y0, y1, y2, y3]) rfl ?_
    exact ⟨_, by rw [HI.out], by rw [HP.out]; exact HD.out.1, HD.out.2⟩
end Go.Proofs.Ytcdfjaldnelfjaa
