/-
  What cell's Remove comes to.
-/
import Derived.Test.YtcdfjaldnelfjaaEPut
import Derived.Deep.Cut
import Derived.IntWalk
namespace Go.Proofs.Ytcdfjaldnelfjaa
open Go.RowKit

/-- What each operation leaves. -/
def remF (g r : Nat) (A : Option Addr) (n c : Nat) (B : Option Addr) (d : Nat) (f : Nat) (u : ND) : List SP :=
  [.is (.pointer (some ⟨g, 1, none⟩)), .is (.slice A n c), .is (.int .i64 f), .is (.int .i64 f), .is (.int .i64 ((f + 1 : Nat) : Int)), .ln (r + 1) (f + 0 + (n - (f + 1))) (strVals u.keys),
    .is (.pointer (some ⟨g, 2, none⟩)), .is (.slice B n d), .is (.int .i64 f), .is (.int .i64 f), .is (.int .i64 ((f + 1 : Nat) : Int)), .ln (r + 1) (f + 0 + (n - (f + 1))) (strVals u.vals), .nd (r + 1) u]

/-- A node that is answered by another call, laid into the answer's block. -/
theorem nd_pass {w w1 wf : World} {r : Nat} {v : Value} {s : ND} (hb : Below w.heap.size w w1) (hr : w.heap.size ≤ r) (hr1 : r < w1.heap.size) (h : NdV wf w1.heap.size v s) (b : Below w1.heap.size w1 wf) (x y z p : Value) :
    NdV ((((wf.setCell ⟨r, 0, none⟩ x).setCell ⟨r, 1, none⟩ y).setCell ⟨r, 2, none⟩ z).setCell ⟨r, 3, none⟩ p) w.heap.size v s ∧ Below w.heap.size w ((((wf.setCell ⟨r, 0, none⟩ x).setCell ⟨r, 1, none⟩ y).setCell ⟨r, 2, none⟩ z).setCell ⟨r, 3, none⟩ p) :=
  nd_done (chainN b hb) hr (h.low hr1) x y z p

set_option maxRecDepth 20000 in
set_option maxHeartbeats 6400000 in
theorem remove_any (A : Option Addr) (n c : Nat) (B : Option Addr) (m d : Nat) (C : Option Addr) (k e : Nat) (s : ND) (x : ByteArray) (w : World) (h : Nd w A n c B m d C k e s) (hl : s.leaf = true) (ho : s.ok = true) (hn : n ≤ 300000) :
    Calls Try.prog 21 #[.agg #[.bool true, .slice A n c, .slice B m d, .slice C k e], .string x] w (NdBEnd w (s.remove x.toList) (ND.isAt x.toList s.keys)) := by
  obtain rfl : n = m := by rw [← h.vn, ← h.kn]; exact (ND.ok_leaf ho hl).1.symm
  obtain rfl : 0 = k := by rw [← h.cn, (ND.ok_leaf ho hl).2.2]; rfl
  have HO := Lib.hid ho
  clear ho
  obtain ⟨tb1, tb2, tb3⟩ := nbox_pair w (.bool true) (.slice A n c) (.slice B n d) (.slice C 0 e)
  have HS := Lib.hid (h.kept tb3)
  have HB := Lib.hid tb1
  have HR := Lib.hid tb2
  have B0 := Lib.hid tb3
  have HL := Lib.hid hl
  clear h hl tb1 tb2 tb3
  go_enter Try.func21, Try.ntmps21
  go_upto_region 1 with fail
  generalize (w.alloc (.cells #[.bool true, .slice A n c, .slice B n d, .slice C 0 e] 25)).alloc (.cells #[.bool false, .slice none 0 0, .slice none 0 0, .slice none 0 0] 25) = w0 at *
  obtain ⟨c0, c1, c2, c3⟩ := HB.out.cells
  go_wp2_with fail
  refine (find_any true A n c B n d C 0 e s x w0 HS.out (ND.ok_rise HO.out) (by omega)).mono ?_
  rintro e1 w1 ⟨rfl, b1⟩
  have B1 := Lib.hid (chainN b1 B0.out)
  have HB1 := Lib.hid (HB.out.kept b1)
  have HR1 := Lib.hid (HR.out.kept b1)
  have HS1 := Lib.hid (HS.out.kept b1)
  clear b1 c0 c1 c2 c3 HB HR HS B0
  have hg := HB1.out.lt
  have hr := HR1.out.lt
  cases his : ND.isAt x.toList s.keys with
  | true =>
    have HP := Lib.hid (ND.remove_old his)
    have hfl := ND.isAt_lt his
    rw [HS1.out.kn] at hfl
    have HRD : Hid (s.removed x.toList = ⟨true, ND.rep s.keys (ND.findN x.toList s.keys) (ND.findN x.toList s.keys + 1) [], ND.rep s.vals (ND.findN x.toList s.keys) (ND.findN x.toList s.keys + 1) [], []⟩) := Lib.hid rfl
    have HI := Lib.hid his
    clear his
    generalize ND.findN x.toList s.keys = f at *
    have hw1 : IntKind.i64.wrap ((f : Int) + 1) = (f : Int) + 1 := IntWalk.i64_in _ (by omega)
    have HW1 := Lib.hid hw1
    clear hw1
    obtain ⟨c0, c1, c2, c3⟩ := HB1.out.cells
    go_upto_region 4 with fail
    clear c0 c1 c2 c3
    rename_i KK HM
    refine wp_region_flow 13 2 (SP.at_ (remF w.heap.size (w.heap.size + 1) A n c B d f ⟨true, ND.rep s.keys f (f + 1) [], ND.rep s.vals f (f + 1) [], []⟩)) (by kernel_rfl) rfl (by kernel_rfl) (by kernel_rfl) (by kernel_rfl) (SP.at_st _) ?_ ?_
    · intro i o L a wx hi ho h hd
      have e2 : a.eval (.tmp 2) = .pointer (some ⟨w.heap.size, 0, none⟩) := (h.old 2 (by kernel_rfl)).trans rfl
      have e6 : a.eval (.tmp 6) = .int .i64 (f : Int) := (h.old 6 (by kernel_rfl)).trans rfl
      obtain ⟨c0, c1, c2, c3⟩ := (HB1.out.kept h.below).cells
      match i, hi, ho, hd with
      | 0, _, ho, hd =>
        obtain rfl := Option.some.inj ho
        refine wpOp_step rfl (fun K hK => ?_)
        refine (if_pos (by rfl)).mpr ?_
        have q0 := got e2
        go_simp
        exact hK _ _ ⟨_, _, rfl, rfl, rfl, Below.refl _ _⟩
      | 1, _, ho, hd =>
        obtain rfl := Option.some.inj ho
        refine wpOp_step rfl (fun K hK => ?_)
        refine (if_pos (by rfl)).mpr ?_
        have q0 := got (h.got 0 _ _ rfl (by decide) (hd ⟨0, .data⟩ (by simp) rfl) rfl)
        go_simp
        exact hK _ _ ⟨_, _, rfl, rfl, rfl, Below.refl _ _⟩
      | 2, _, ho, hd =>
        obtain rfl := Option.some.inj ho
        refine wpOp_step rfl (fun K hK => ?_)
        refine (if_pos (by rfl)).mpr ?_
        have q0 := got e6
        go_simp
        exact hK _ _ ⟨_, _, rfl, rfl, rfl, Below.refl _ _⟩
      | 3, _, ho, hd =>
        obtain rfl := Option.some.inj ho
        refine wpOp_step rfl (fun K hK => ?_)
        refine (if_pos (by rfl)).mpr ?_
        have q0 := got e6
        go_simp
        exact hK _ _ ⟨_, _, rfl, rfl, rfl, Below.refl _ _⟩
      | 4, _, ho, hd =>
        obtain rfl := Option.some.inj ho
        refine wpOp_step rfl (fun K hK => ?_)
        refine (if_pos (by rfl)).mpr ?_
        have q0 := got (h.got 3 _ _ rfl (by decide) (hd ⟨3, .data⟩ (by simp) rfl) rfl)
        have hw := HW1.out
        go_simp
        exact hK _ _ ⟨_, _, rfl, rfl, rfl, Below.refl _ _⟩
      | 5, _, ho, hd =>
        obtain rfl := Option.some.inj ho
        refine wpOp_step rfl (fun K hK => ?_)
        refine (if_pos (by rfl)).mpr ?_
        have q0 := got (h.got 1 _ _ rfl (by decide) (hd ⟨1, .data⟩ (by simp) rfl) rfl)
        have q1 := got (h.got 2 _ _ rfl (by decide) (hd ⟨2, .data⟩ (by simp) rfl) rfl)
        have q2 := got (h.got 4 _ _ rfl (by decide) (hd ⟨4, .data⟩ (by simp) rfl) rfl)
        have hbs := h.below.size
        go_simp
        refine (ereplaced_S A n c (strVals s.keys) f (f + 1) none 0 0 [] wx (HS1.out.ke.kept h.below) (strVals_one _) (Ln.none_ _ 1) (fun u hu => by simp at hu) (by omega) (by omega) hn (by omega)).mono ?_
        rintro e w3 ⟨v3, rfl, o3, b3⟩
        rw [show ([] : List Value) = strVals [] from rfl, str_rep] at o3
        exact hK _ _ ⟨v3, _, rfl, rfl, ln_of_row o3 rfl (by omega), b3⟩
      | 6, _, ho, hd =>
        obtain rfl := Option.some.inj ho
        refine wpOp_step rfl (fun K hK => ?_)
        refine (if_pos (by rfl)).mpr ?_
        have q0 := got e2
        go_simp
        exact hK _ _ ⟨_, _, rfl, rfl, rfl, Below.refl _ _⟩
      | 7, _, ho, hd =>
        obtain rfl := Option.some.inj ho
        refine wpOp_step rfl (fun K hK => ?_)
        refine (if_pos (by rfl)).mpr ?_
        have q0 := got (h.got 6 _ _ rfl (by decide) (hd ⟨6, .data⟩ (by simp) rfl) rfl)
        go_simp
        exact hK _ _ ⟨_, _, rfl, rfl, rfl, Below.refl _ _⟩
      | 8, _, ho, hd =>
        obtain rfl := Option.some.inj ho
        refine wpOp_step rfl (fun K hK => ?_)
        refine (if_pos (by rfl)).mpr ?_
        have q0 := got e6
        go_simp
        exact hK _ _ ⟨_, _, rfl, rfl, rfl, Below.refl _ _⟩
      | 9, _, ho, hd =>
        obtain rfl := Option.some.inj ho
        refine wpOp_step rfl (fun K hK => ?_)
        refine (if_pos (by rfl)).mpr ?_
        have q0 := got e6
        go_simp
        exact hK _ _ ⟨_, _, rfl, rfl, rfl, Below.refl _ _⟩
      | 10, _, ho, hd =>
        obtain rfl := Option.some.inj ho
        refine wpOp_step rfl (fun K hK => ?_)
        refine (if_pos (by rfl)).mpr ?_
        have q0 := got (h.got 9 _ _ rfl (by decide) (hd ⟨9, .data⟩ (by simp) rfl) rfl)
        have hw := HW1.out
        go_simp
        exact hK _ _ ⟨_, _, rfl, rfl, rfl, Below.refl _ _⟩
      | 11, _, ho, hd =>
        obtain rfl := Option.some.inj ho
        refine wpOp_step rfl (fun K hK => ?_)
        refine (if_pos (by rfl)).mpr ?_
        have q0 := got (h.got 7 _ _ rfl (by decide) (hd ⟨7, .data⟩ (by simp) rfl) rfl)
        have q1 := got (h.got 8 _ _ rfl (by decide) (hd ⟨8, .data⟩ (by simp) rfl) rfl)
        have q2 := got (h.got 10 _ _ rfl (by decide) (hd ⟨10, .data⟩ (by simp) rfl) rfl)
        have hbs := h.below.size
        go_simp
        refine (ereplaced_S B n d (strVals s.vals) f (f + 1) none 0 0 [] wx (HS1.out.va.kept h.below) (strVals_one _) (Ln.none_ _ 1) (fun u hu => by simp at hu) (by omega) (by omega) hn (by omega)).mono ?_
        rintro e w3 ⟨v3, rfl, o3, b3⟩
        rw [show ([] : List Value) = strVals [] from rfl, str_rep] at o3
        exact hK _ _ ⟨v3, _, rfl, rfl, ln_of_row o3 rfl (by omega), b3⟩
      | 12, _, ho, hd =>
        obtain rfl := Option.some.inj ho
        refine wpOp_step rfl (fun K hK => ?_)
        refine (if_pos (by rfl)).mpr ?_
        obtain ⟨A1, a1, z1, l1, i1, _⟩ := (h.got 5 _ _ rfl (by decide) (hd ⟨5, .data⟩ (by simp) rfl) rfl)
        obtain ⟨A2, a2, z2, l2, i2, _⟩ := (h.got 11 _ _ rfl (by decide) (hd ⟨11, .data⟩ (by simp) rfl) rfl)
        have y1 := got z1
        have y2 := got z2
        go_simp
        exact hK _ _ ⟨_, _, rfl, rfl, ⟨A1, _, a1, A2, _, a2, none, 0, 0, rfl, ⟨l1, l2, Ln.none_ _ 1⟩, i1, i2, NHi.none_ _⟩, Below.refl _ _⟩
      | j + 13, hi, _, _ => exact absurd hi (by omega)
    · intro mm L a wx h hd
      refine wpAny_ready (rs := [13]) (by decide +kernel) (by simp) (AllReady.cons rfl (fun K hK => ?_) AllReady.nil)
      refine (if_pos (by rfl)).mpr ?_
      have hn4 := h.got 12 _ _ rfl (by decide) (hd 12 (by decide)) rfl
      obtain ⟨A', n', c', B', m', d', C', k', e', ev, _, _, _, _⟩ := id hn4
      have q := got ev
      have q2 := got ((h.old 4 (by kernel_rfl)).trans rfl : a.eval (.tmp 4) = .pointer (some ⟨w.heap.size + 1, 0, none⟩))
      have HR2 := Lib.hid (HR1.out.kept h.below)
      obtain ⟨x0, x1, x2, x3⟩ := HR2.out.cells
      obtain ⟨f0, f1, f2, f3⟩ := HR2.out.free
      go_simp
      refine hK _ _ ?_
      refine wpAny_ready (rs := [14]) (by decide +kernel) (by simp) (AllReady.cons rfl (fun K hK => ?_) AllReady.nil)
      refine (if_pos (by rfl)).mpr ?_
      go_simp
      refine hK _ _ ?_
      refine wpAny_done (by decide +kernel) ?_ _
      have HD := Lib.hid (nd_done (chainN h.below B1.out) (Nat.le_succ _) hn4 (.bool (⟨true, ND.rep s.keys f (f + 1) [], ND.rep s.vals f (f + 1) [], []⟩ : ND).leaf) (.slice A' n' c') (.slice B' m' d') (.slice C' k' e'))
      rw [ev] at HD
      obtain ⟨y0, y1, y2, y3⟩ := (HR2.out.put (.bool (⟨true, ND.rep s.keys f (f + 1) [], ND.rep s.vals f (f + 1) [], []⟩ : ND).leaf) (.slice A' n' c') (.slice B' m' d') (.slice C' k' e')).cells
      refine HM _ _ ?_
      refine wp_ret ?_
      have hsz : 5 < a.tmps.size := by rw [h.sz]; show 5 < 36; decide
      refine bodyPost_ret (v := .tuple #[.agg #[.bool (⟨true, ND.rep s.keys f (f + 1) [], ND.rep s.vals f (f + 1) [], []⟩ : ND).leaf, .slice A' n' c', .slice B' m' d', .slice C' k' e'], .bool true]) (by simp [results, Try.results21, go_sem, q2, y0, y1, y2, y3, hsz]) (h.df.trans rfl) ?_
      exact ⟨_, by rw [HI.out], by rw [HP.out, HRD.out]; exact HD.out.1, HD.out.2⟩
  | false =>
    have HP := Lib.hid (ND.remove_new his)
    have HI := Lib.hid his
    clear his
    obtain ⟨c0, c1, c2, c3⟩ := HB1.out.cells
    go_wp2_with fail
    refine (copied_any true A n c B n d C 0 e s w1 HS1.out HL.out (by omega) (by omega) (by omega)).mono ?_
    rintro e2 w2 ⟨v2, rfl, n2, b2⟩
    have N2 := Lib.hid n2
    obtain ⟨A', n', c', B', m', d', C', k', e', rfl, _, _, _, _⟩ := n2
    have HR2 := Lib.hid (HR1.out.kept b2)
    have HD := Lib.hid (nd_pass B1.out (Nat.le_succ _) HR1.out.lt N2.out b2 (.bool s.leaf) (.slice A' n' c') (.slice B' m' d') (.slice C' k' e'))
    obtain ⟨y0, y1, y2, y3⟩ := (HR2.out.put (.bool s.leaf) (.slice A' n' c') (.slice B' m' d') (.slice C' k' e')).cells
    obtain ⟨f0, f1, f2, f3⟩ := HR2.out.free
    obtain ⟨x0, x1, x2, x3⟩ := HR2.out.cells
    clear b2 c0 c1 c2 c3
    go_wp2_with fail
    refine bodyPost_ret (v := .tuple #[.agg #[.bool s.leaf, .slice A' n' c', .slice B' m' d', .slice C' k' e'], .bool false]) (by simp [results, Try.results21, go_sem, y0, y1, y2, y3]) rfl ?_
    exact ⟨_, by rw [HI.out], by rw [HP.out]; exact HD.out.1, HD.out.2⟩
end Go.Proofs.Ytcdfjaldnelfjaa
