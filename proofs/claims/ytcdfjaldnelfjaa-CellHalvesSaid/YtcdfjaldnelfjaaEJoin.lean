/-
  What cell's Join comes to.
-/
import Derived.Test.YtcdfjaldnelfjaaEPut
import Derived.Deep.Cut
import Derived.IntWalk
namespace Go.Proofs.Ytcdfjaldnelfjaa
open Go.RowKit

/-- The arguments' blocks, and the answer's. -/
theorem nbox_three (w : World) (x y z p x' y' z' p' : Value) : NBox (((w.alloc (.cells #[x, y, z, p] 25)).alloc (.cells #[x', y', z', p'] 25)).alloc (.cells #[.bool false, .slice none 0 0, .slice none 0 0, .slice none 0 0] 25)) w.heap.size x y z p ∧
    NBox (((w.alloc (.cells #[x, y, z, p] 25)).alloc (.cells #[x', y', z', p'] 25)).alloc (.cells #[.bool false, .slice none 0 0, .slice none 0 0, .slice none 0 0] 25)) (w.heap.size + 1) x' y' z' p' ∧
    NBox (((w.alloc (.cells #[x, y, z, p] 25)).alloc (.cells #[x', y', z', p'] 25)).alloc (.cells #[.bool false, .slice none 0 0, .slice none 0 0, .slice none 0 0] 25)) (w.heap.size + 1 + 1) (.bool false) (.slice none 0 0) (.slice none 0 0) (.slice none 0 0) ∧
    Below w.heap.size w (((w.alloc (.cells #[x, y, z, p] 25)).alloc (.cells #[x', y', z', p'] 25)).alloc (.cells #[.bool false, .slice none 0 0, .slice none 0 0, .slice none 0 0] 25)) := by
  have e : (w.alloc (.cells #[x, y, z, p] 25)).heap.size = w.heap.size + 1 := by simp
  obtain ⟨h1, h2, h3⟩ := nbox_pair (w.alloc (.cells #[x, y, z, p] 25)) x' y' z' p'
  rw [e] at h1 h2
  exact ⟨((nbox_new w x y z p).kept (below_one _ _)).kept (below_one _ _), h1, h2, chainN h3 (below_one _ _)⟩

theorem int_app (a b : List Int) : intVals a ++ intVals b = intVals (a ++ b) := (sIntVals_append a b).symm
/-- What each operation leaves. -/
def joinF (g r : Nat) (A : Option Addr) (n c : Nat) (B : Option Addr) (m d : Nat) (C : Option Addr) (k e : Nat) (s : ND) (A' : Option Addr) (n' c' : Nat) (B' : Option Addr) (m' d' : Nat) (C' : Option Addr) (k' e' : Nat) (t : ND) (lf : Bool) (K : Option Addr) (q : Nat) (bl : List (List UInt8)) : List SP :=
  [.is (.pointer (some ⟨g, 0, none⟩)), .is (.bool lf), .is (.pointer (some ⟨g, 1, none⟩)), .is (.slice A n c), .is (.slice K q q), .is (.pointer (some ⟨g + 1, 1, none⟩)), .is (.slice A' n' c'), .pile 3 [⟨A, n, c, strVals s.keys⟩, ⟨K, q, q, strVals bl⟩, ⟨A', n', c', strVals t.keys⟩], .ln (r + 1) (n + q + n') (strVals (s.keys ++ bl ++ t.keys)),
    .is (.pointer (some ⟨g, 2, none⟩)), .is (.slice B m d), .is (.pointer (some ⟨g + 1, 2, none⟩)), .is (.slice B' m' d'), .pile 2 [⟨B, m, d, strVals s.vals⟩, ⟨B', m', d', strVals t.vals⟩], .ln (r + 1) (m + m') (strVals (s.vals ++ t.vals)),
    .is (.pointer (some ⟨g, 3, none⟩)), .is (.slice C k e), .is (.pointer (some ⟨g + 1, 3, none⟩)), .is (.slice C' k' e'), .pile 2 [⟨C, k, e, intVals s.kids⟩, ⟨C', k', e', intVals t.kids⟩], .ln (r + 1) (k + k') (intVals (s.kids ++ t.kids)),
    .nd (r + 1) ⟨lf, s.keys ++ bl ++ t.keys, s.vals ++ t.vals, s.kids ++ t.kids⟩]

set_option maxRecDepth 20000 in
set_option maxHeartbeats 12800000 in
theorem join_any (lf : Bool) (A : Option Addr) (n c : Nat) (B : Option Addr) (m d : Nat) (C : Option Addr) (k e : Nat) (s : ND) (lf' : Bool) (A' : Option Addr) (n' c' : Nat) (B' : Option Addr) (m' d' : Nat) (C' : Option Addr) (k' e' : Nat) (t : ND) (x : ByteArray) (w : World)
    (h : Nd w A n c B m d C k e s) (g : Nd w A' n' c' B' m' d' C' k' e' t) (hl : s.leaf = lf) (hn : n ≤ 300000) (hm : m ≤ 300000) (hk : k ≤ 300000) (hn' : n' ≤ 300000) (hm' : m' ≤ 300000) (hk' : k' ≤ 300000) :
    Calls Try.prog 30 #[.agg #[.bool lf, .slice A n c, .slice B m d, .slice C k e], .string x, .agg #[.bool lf', .slice A' n' c', .slice B' m' d', .slice C' k' e']] w (NdEnd w (s.join x.toList t)) := by
  obtain ⟨tb1, tb2, tb3, tb4⟩ := nbox_three w (.bool lf) (.slice A n c) (.slice B m d) (.slice C k e) (.bool lf') (.slice A' n' c') (.slice B' m' d') (.slice C' k' e')
  have HS := Lib.hid (h.kept tb4)
  have GS := Lib.hid (g.kept tb4)
  have HB := Lib.hid tb1
  have GB := Lib.hid tb2
  have HR := Lib.hid tb3
  have B0 := Lib.hid tb4
  have HL := Lib.hid hl
  clear h g hl tb1 tb2 tb3 tb4
  go_enter Try.func30, Try.ntmps30
  go_upto_region 1 with fail
  generalize ((w.alloc (.cells #[.bool lf, .slice A n c, .slice B m d, .slice C k e] 25)).alloc (.cells #[.bool lf', .slice A' n' c', .slice B' m' d', .slice C' k' e'] 25)).alloc (.cells #[.bool false, .slice none 0 0, .slice none 0 0, .slice none 0 0] 25) = w0 at *
  have b1 := below_one w0 (.cells #[.string x] 9)
  have B1 := Lib.hid (chainN b1 B0.out)
  have HB1 := Lib.hid (HB.out.kept b1)
  have GB1 := Lib.hid (GB.out.kept b1)
  have HR1 := Lib.hid (HR.out.kept b1)
  have HS1 := Lib.hid (HS.out.kept b1)
  have GS1 := Lib.hid (GS.out.kept b1)
  have LX : Hid (Ln (w0.alloc (.cells #[.string x] 9)) 1 (some ⟨w0.heap.size, 0, none⟩) 1 1 (strVals [x.toList])) := Lib.hid (by
    obtain ⟨A9, c9, e9, l9, _⟩ := ln_str w0 x
    injection e9 with e9 _ e10
    subst e9
    subst e10
    rw [← str_one]
    exact l9)
  clear b1 HB GB HR HS GS B0
  go_upto_region 2 with fail
  generalize w0.alloc (.cells #[.string x] 9) = w1 at *
  generalize w0.heap.size = gx at *
  have hg := HB1.out.lt
  have hg2 := GB1.out.lt
  have hr := HR1.out.lt
  obtain ⟨c0, c1, c2, c3⟩ := HB1.out.cells
  cases lf with
  | true =>
    have LN : Hid (Ln w1 1 none 0 0 (strVals [])) := Lib.hid (Ln.none_ _ 1)
    have HJ : Hid (s.join x.toList t = ⟨true, s.keys ++ [] ++ t.keys, s.vals ++ t.vals, s.kids ++ t.kids⟩) := Lib.hid (by unfold ND.join; rw [HL.out]; rfl)
    go_upto_region 4 with fail
    clear c0 c1 c2 c3
    rename_i KK HM
    refine wp_region_flow 22 1 (SP.at_ (joinF w.heap.size (w.heap.size + 1 + 1) A n c B m d C k e s A' n' c' B' m' d' C' k' e' t true none 0 [])) (by kernel_rfl) rfl (by kernel_rfl) (by kernel_rfl) (by kernel_rfl) (SP.at_st _) ?_ ?_
    · intro i o L a wx hi ho h hd
      have e3 : a.eval (.tmp 3) = .pointer (some ⟨w.heap.size, 0, none⟩) := (h.old 3 (by kernel_rfl)).trans rfl
      have e5 : a.eval (.tmp 5) = .pointer (some ⟨w.heap.size + 1, 0, none⟩) := (h.old 5 (by kernel_rfl)).trans rfl
      have e7 : a.eval (.tmp 7) = .slice none 0 0 := (h.old 7 (by kernel_rfl)).trans rfl
      obtain ⟨c0, c1, c2, c3⟩ := (HB1.out.kept h.below).cells
      obtain ⟨d0, d1, d2, d3⟩ := (GB1.out.kept h.below).cells
      match i, hi, ho, hd with
      | 0, _, ho, hd =>
        obtain rfl := Option.some.inj ho
        refine wpOp_step rfl (fun K hK => ?_)
        refine (if_pos (by rfl)).mpr ?_
        have q0 := got e3
        go_simp
        exact hK _ _ ⟨_, _, rfl, rfl, rfl, Below.refl _ _⟩
      | 1, _, ho, hd =>
        obtain rfl := Option.some.inj ho
        refine wpOp_step rfl (fun K hK => ?_)
        refine (if_pos (by rfl)).mpr ?_
        have q0 := got (h.got 0 _ _ rfl (by decide) (hd ⟨0, .data⟩ (by simp) rfl) rfl)
        go_simp
        exact hK _ _ ⟨_, _, rfl, rfl, rfl, Below.refl _ _⟩
      | 2, _, ho, hd =>
        obtain rfl := Option.some.inj ho
        refine wpOp_step rfl (fun K hK => ?_)
        refine (if_pos (by rfl)).mpr ?_
        have q0 := got e3
        go_simp
        exact hK _ _ ⟨_, _, rfl, rfl, rfl, Below.refl _ _⟩
      | 3, _, ho, hd =>
        obtain rfl := Option.some.inj ho
        refine wpOp_step rfl (fun K hK => ?_)
        refine (if_pos (by rfl)).mpr ?_
        have q0 := got (h.got 2 _ _ rfl (by decide) (hd ⟨2, .data⟩ (by simp) rfl) rfl)
        go_simp
        exact hK _ _ ⟨_, _, rfl, rfl, rfl, Below.refl _ _⟩
      | 4, _, ho, hd =>
        obtain rfl := Option.some.inj ho
        refine wpOp_step rfl (fun K hK => ?_)
        refine (if_pos (by rfl)).mpr ?_
        have q0 := got e7
        go_simp
        exact hK _ _ ⟨_, _, rfl, rfl, rfl, Below.refl _ _⟩
      | 5, _, ho, hd =>
        obtain rfl := Option.some.inj ho
        refine wpOp_step rfl (fun K hK => ?_)
        refine (if_pos (by rfl)).mpr ?_
        have q0 := got e5
        go_simp
        exact hK _ _ ⟨_, _, rfl, rfl, rfl, Below.refl _ _⟩
      | 6, _, ho, hd =>
        obtain rfl := Option.some.inj ho
        refine wpOp_step rfl (fun K hK => ?_)
        refine (if_pos (by rfl)).mpr ?_
        have q0 := got (h.got 5 _ _ rfl (by decide) (hd ⟨5, .data⟩ (by simp) rfl) rfl)
        go_simp
        exact hK _ _ ⟨_, _, rfl, rfl, rfl, Below.refl _ _⟩
      | 7, _, ho, hd =>
        obtain rfl := Option.some.inj ho
        refine wpOp_step rfl (fun K hK => ?_)
        refine (if_pos (by rfl)).mpr ?_
        have q3 := got (h.got 3 _ _ rfl (by decide) (hd ⟨3, .data⟩ (by simp) rfl) rfl)
        have q4 := got (h.got 4 _ _ rfl (by decide) (hd ⟨4, .data⟩ (by simp) rfl) rfl)
        have q6 := got (h.got 6 _ _ rfl (by decide) (hd ⟨6, .data⟩ (by simp) rfl) rfl)
        go_simp
        exact hK _ _ ⟨_, _, rfl, rfl, ⟨_, rfl, pile_three (HS1.out.ke.kept h.below) (strVals_one _) (LN.out.kept h.below) (strVals_one _) (GS1.out.ke.kept h.below) (strVals_one _) _⟩, below_one _ _⟩
      | 8, _, ho, hd =>
        obtain rfl := Option.some.inj ho
        refine wpOp_step rfl (fun K hK => ?_)
        refine (if_pos (by rfl)).mpr ?_
        obtain ⟨p, ep, hp⟩ := (h.got 7 _ _ rfl (by decide) (hd ⟨7, .data⟩ (by simp) rfl) rfl)
        have q0 := got ep
        have hbs := h.below.size
        go_simp
        refine (ejoin_S _ 3 3 (n + 0 + n') _ wx hp rfl (by simp [tot] <;> omega) (by omega) (by decide)).mono ?_
        rintro e w3 ⟨v3, rfl, o3, b3⟩
        rw [epcs_three] at o3
        dsimp only at o3
        rw [← strVals_append, ← strVals_append] at o3
        exact hK _ _ ⟨v3, _, rfl, rfl, ln_of_row o3 rfl (by omega), b3⟩
      | 9, _, ho, hd =>
        obtain rfl := Option.some.inj ho
        refine wpOp_step rfl (fun K hK => ?_)
        refine (if_pos (by rfl)).mpr ?_
        have q0 := got e3
        go_simp
        exact hK _ _ ⟨_, _, rfl, rfl, rfl, Below.refl _ _⟩
      | 10, _, ho, hd =>
        obtain rfl := Option.some.inj ho
        refine wpOp_step rfl (fun K hK => ?_)
        refine (if_pos (by rfl)).mpr ?_
        have q0 := got (h.got 9 _ _ rfl (by decide) (hd ⟨9, .data⟩ (by simp) rfl) rfl)
        go_simp
        exact hK _ _ ⟨_, _, rfl, rfl, rfl, Below.refl _ _⟩
      | 11, _, ho, hd =>
        obtain rfl := Option.some.inj ho
        refine wpOp_step rfl (fun K hK => ?_)
        refine (if_pos (by rfl)).mpr ?_
        have q0 := got e5
        go_simp
        exact hK _ _ ⟨_, _, rfl, rfl, rfl, Below.refl _ _⟩
      | 12, _, ho, hd =>
        obtain rfl := Option.some.inj ho
        refine wpOp_step rfl (fun K hK => ?_)
        refine (if_pos (by rfl)).mpr ?_
        have q0 := got (h.got 11 _ _ rfl (by decide) (hd ⟨11, .data⟩ (by simp) rfl) rfl)
        go_simp
        exact hK _ _ ⟨_, _, rfl, rfl, rfl, Below.refl _ _⟩
      | 13, _, ho, hd =>
        obtain rfl := Option.some.inj ho
        refine wpOp_step rfl (fun K hK => ?_)
        refine (if_pos (by rfl)).mpr ?_
        have q10 := got (h.got 10 _ _ rfl (by decide) (hd ⟨10, .data⟩ (by simp) rfl) rfl)
        have q12 := got (h.got 12 _ _ rfl (by decide) (hd ⟨12, .data⟩ (by simp) rfl) rfl)
        go_simp
        exact hK _ _ ⟨_, _, rfl, rfl, ⟨_, rfl, pile_two (HS1.out.va.kept h.below) (strVals_one _) (GS1.out.va.kept h.below) (strVals_one _) _⟩, below_one _ _⟩
      | 14, _, ho, hd =>
        obtain rfl := Option.some.inj ho
        refine wpOp_step rfl (fun K hK => ?_)
        refine (if_pos (by rfl)).mpr ?_
        obtain ⟨p, ep, hp⟩ := (h.got 13 _ _ rfl (by decide) (hd ⟨13, .data⟩ (by simp) rfl) rfl)
        have q0 := got ep
        have hbs := h.below.size
        go_simp
        refine (ejoin_S _ 2 2 (m + m') _ wx hp rfl (by simp [tot]) (by omega) (by decide)).mono ?_
        rintro e w3 ⟨v3, rfl, o3, b3⟩
        rw [epcs_two] at o3
        dsimp only at o3
        rw [← strVals_append] at o3
        exact hK _ _ ⟨v3, _, rfl, rfl, ln_of_row o3 rfl (by omega), b3⟩
      | 15, _, ho, hd =>
        obtain rfl := Option.some.inj ho
        refine wpOp_step rfl (fun K hK => ?_)
        refine (if_pos (by rfl)).mpr ?_
        have q0 := got e3
        go_simp
        exact hK _ _ ⟨_, _, rfl, rfl, rfl, Below.refl _ _⟩
      | 16, _, ho, hd =>
        obtain rfl := Option.some.inj ho
        refine wpOp_step rfl (fun K hK => ?_)
        refine (if_pos (by rfl)).mpr ?_
        have q0 := got (h.got 15 _ _ rfl (by decide) (hd ⟨15, .data⟩ (by simp) rfl) rfl)
        go_simp
        exact hK _ _ ⟨_, _, rfl, rfl, rfl, Below.refl _ _⟩
      | 17, _, ho, hd =>
        obtain rfl := Option.some.inj ho
        refine wpOp_step rfl (fun K hK => ?_)
        refine (if_pos (by rfl)).mpr ?_
        have q0 := got e5
        go_simp
        exact hK _ _ ⟨_, _, rfl, rfl, rfl, Below.refl _ _⟩
      | 18, _, ho, hd =>
        obtain rfl := Option.some.inj ho
        refine wpOp_step rfl (fun K hK => ?_)
        refine (if_pos (by rfl)).mpr ?_
        have q0 := got (h.got 17 _ _ rfl (by decide) (hd ⟨17, .data⟩ (by simp) rfl) rfl)
        go_simp
        exact hK _ _ ⟨_, _, rfl, rfl, rfl, Below.refl _ _⟩
      | 19, _, ho, hd =>
        obtain rfl := Option.some.inj ho
        refine wpOp_step rfl (fun K hK => ?_)
        refine (if_pos (by rfl)).mpr ?_
        have q16 := got (h.got 16 _ _ rfl (by decide) (hd ⟨16, .data⟩ (by simp) rfl) rfl)
        have q18 := got (h.got 18 _ _ rfl (by decide) (hd ⟨18, .data⟩ (by simp) rfl) rfl)
        go_simp
        exact hK _ _ ⟨_, _, rfl, rfl, ⟨_, rfl, pile_two (HS1.out.ki.kept h.below) (intVals_one _) (GS1.out.ki.kept h.below) (intVals_one _) _⟩, below_one _ _⟩
      | 20, _, ho, hd =>
        obtain rfl := Option.some.inj ho
        refine wpOp_step rfl (fun K hK => ?_)
        refine (if_pos (by rfl)).mpr ?_
        obtain ⟨p, ep, hp⟩ := (h.got 19 _ _ rfl (by decide) (hd ⟨19, .data⟩ (by simp) rfl) rfl)
        have q0 := got ep
        have hbs := h.below.size
        go_simp
        refine (ejoin_I _ 2 2 (k + k') _ wx hp rfl (by simp [tot]) (by omega) (by decide)).mono ?_
        rintro e w3 ⟨v3, rfl, o3, b3⟩
        rw [epcs_two] at o3
        dsimp only at o3
        rw [int_app] at o3
        exact hK _ _ ⟨v3, _, rfl, rfl, ln_of_row o3 rfl (by omega), b3⟩
      | 21, _, ho, hd =>
        obtain rfl := Option.some.inj ho
        refine wpOp_step rfl (fun K hK => ?_)
        refine (if_pos (by rfl)).mpr ?_
        have q1 := got (h.got 1 _ _ rfl (by decide) (hd ⟨1, .data⟩ (by simp) rfl) rfl)
        obtain ⟨A1, a1, z1, l1, i1, _⟩ := (h.got 8 _ _ rfl (by decide) (hd ⟨8, .data⟩ (by simp) rfl) rfl)
        obtain ⟨A2, a2, z2, l2, i2, _⟩ := (h.got 14 _ _ rfl (by decide) (hd ⟨14, .data⟩ (by simp) rfl) rfl)
        obtain ⟨A3, a3, z3, l3, i3, _⟩ := (h.got 20 _ _ rfl (by decide) (hd ⟨20, .data⟩ (by simp) rfl) rfl)
        have y1 := got z1
        have y2 := got z2
        have y3 := got z3
        go_simp
        exact hK _ _ ⟨_, _, rfl, rfl, ⟨A1, _, a1, A2, _, a2, A3, _, a3, rfl, ⟨l1, l2, l3⟩, i1, i2, i3⟩, Below.refl _ _⟩
      | j + 22, hi, _, _ => exact absurd hi (by omega)
    · intro mm L a wx h hd
      refine wpAny_ready (rs := [22]) (by decide +kernel) (by simp) (AllReady.cons rfl (fun K hK => ?_) AllReady.nil)
      refine (if_pos (by rfl)).mpr ?_
      have hn4 := h.got 21 _ _ rfl (by decide) (hd 21 (by decide)) rfl
      obtain ⟨A6, n6, c6, B6, m6, d6, C6, k6, e6, ev, _, _, _, _⟩ := id hn4
      have q := got ev
      have q2 := got ((h.old 6 (by kernel_rfl)).trans rfl : a.eval (.tmp 6) = .pointer (some ⟨w.heap.size + 1 + 1, 0, none⟩))
      have HR2 := Lib.hid (HR1.out.kept h.below)
      obtain ⟨x0, x1, x2, x3⟩ := HR2.out.cells
      obtain ⟨f0, f1, f2, f3⟩ := HR2.out.free
      go_simp
      refine hK _ _ ?_
      refine wpAny_done (by decide +kernel) ?_ _
      have HD := Lib.hid (nd_done (chainN h.below B1.out) (by omega) hn4 (.bool (⟨true, s.keys ++ [] ++ t.keys, s.vals ++ t.vals, s.kids ++ t.kids⟩ : ND).leaf) (.slice A6 n6 c6) (.slice B6 m6 d6) (.slice C6 k6 e6))
      rw [ev] at HD
      obtain ⟨y0, y1, y2, y3⟩ := (HR2.out.put (.bool (⟨true, s.keys ++ [] ++ t.keys, s.vals ++ t.vals, s.kids ++ t.kids⟩ : ND).leaf) (.slice A6 n6 c6) (.slice B6 m6 d6) (.slice C6 k6 e6)).cells
      refine HM _ _ ?_
      refine wp_ret ?_
      refine bodyPost_ret (v := .agg #[.bool (⟨true, s.keys ++ [] ++ t.keys, s.vals ++ t.vals, s.kids ++ t.kids⟩ : ND).leaf, .slice A6 n6 c6, .slice B6 m6 d6, .slice C6 k6 e6]) (by simp [results, Try.results30, go_sem, q2, y0, y1, y2, y3]) (h.df.trans rfl) ?_
      exact ⟨_, rfl, by rw [HJ.out]; exact HD.out.1, HD.out.2⟩
  | false =>
    have LN := LX
    have HJ : Hid (s.join x.toList t = ⟨false, s.keys ++ [x.toList] ++ t.keys, s.vals ++ t.vals, s.kids ++ t.kids⟩) := Lib.hid (by unfold ND.join; rw [HL.out]; rfl)
    go_upto_region 4 with fail
    clear c0 c1 c2 c3
    rename_i KK HM
    refine wp_region_flow 22 1 (SP.at_ (joinF w.heap.size (w.heap.size + 1 + 1) A n c B m d C k e s A' n' c' B' m' d' C' k' e' t false (some ⟨gx, 0, none⟩) 1 [x.toList])) (by kernel_rfl) rfl (by kernel_rfl) (by kernel_rfl) (by kernel_rfl) (SP.at_st _) ?_ ?_
    · intro i o L a wx hi ho h hd
      have e3 : a.eval (.tmp 3) = .pointer (some ⟨w.heap.size, 0, none⟩) := (h.old 3 (by kernel_rfl)).trans rfl
      have e5 : a.eval (.tmp 5) = .pointer (some ⟨w.heap.size + 1, 0, none⟩) := (h.old 5 (by kernel_rfl)).trans rfl
      have e7 : a.eval (.tmp 7) = .slice (some ⟨gx, 0, none⟩) 1 1 := (h.old 7 (by kernel_rfl)).trans rfl
      obtain ⟨c0, c1, c2, c3⟩ := (HB1.out.kept h.below).cells
      obtain ⟨d0, d1, d2, d3⟩ := (GB1.out.kept h.below).cells
      match i, hi, ho, hd with
      | 0, _, ho, hd =>
        obtain rfl := Option.some.inj ho
        refine wpOp_step rfl (fun K hK => ?_)
        refine (if_pos (by rfl)).mpr ?_
        have q0 := got e3
        go_simp
        exact hK _ _ ⟨_, _, rfl, rfl, rfl, Below.refl _ _⟩
      | 1, _, ho, hd =>
        obtain rfl := Option.some.inj ho
        refine wpOp_step rfl (fun K hK => ?_)
        refine (if_pos (by rfl)).mpr ?_
        have q0 := got (h.got 0 _ _ rfl (by decide) (hd ⟨0, .data⟩ (by simp) rfl) rfl)
        go_simp
        exact hK _ _ ⟨_, _, rfl, rfl, rfl, Below.refl _ _⟩
      | 2, _, ho, hd =>
        obtain rfl := Option.some.inj ho
        refine wpOp_step rfl (fun K hK => ?_)
        refine (if_pos (by rfl)).mpr ?_
        have q0 := got e3
        go_simp
        exact hK _ _ ⟨_, _, rfl, rfl, rfl, Below.refl _ _⟩
      | 3, _, ho, hd =>
        obtain rfl := Option.some.inj ho
        refine wpOp_step rfl (fun K hK => ?_)
        refine (if_pos (by rfl)).mpr ?_
        have q0 := got (h.got 2 _ _ rfl (by decide) (hd ⟨2, .data⟩ (by simp) rfl) rfl)
        go_simp
        exact hK _ _ ⟨_, _, rfl, rfl, rfl, Below.refl _ _⟩
      | 4, _, ho, hd =>
        obtain rfl := Option.some.inj ho
        refine wpOp_step rfl (fun K hK => ?_)
        refine (if_pos (by rfl)).mpr ?_
        have q0 := got e7
        go_simp
        exact hK _ _ ⟨_, _, rfl, rfl, rfl, Below.refl _ _⟩
      | 5, _, ho, hd =>
        obtain rfl := Option.some.inj ho
        refine wpOp_step rfl (fun K hK => ?_)
        refine (if_pos (by rfl)).mpr ?_
        have q0 := got e5
        go_simp
        exact hK _ _ ⟨_, _, rfl, rfl, rfl, Below.refl _ _⟩
      | 6, _, ho, hd =>
        obtain rfl := Option.some.inj ho
        refine wpOp_step rfl (fun K hK => ?_)
        refine (if_pos (by rfl)).mpr ?_
        have q0 := got (h.got 5 _ _ rfl (by decide) (hd ⟨5, .data⟩ (by simp) rfl) rfl)
        go_simp
        exact hK _ _ ⟨_, _, rfl, rfl, rfl, Below.refl _ _⟩
      | 7, _, ho, hd =>
        obtain rfl := Option.some.inj ho
        refine wpOp_step rfl (fun K hK => ?_)
        refine (if_pos (by rfl)).mpr ?_
        have q3 := got (h.got 3 _ _ rfl (by decide) (hd ⟨3, .data⟩ (by simp) rfl) rfl)
        have q4 := got (h.got 4 _ _ rfl (by decide) (hd ⟨4, .data⟩ (by simp) rfl) rfl)
        have q6 := got (h.got 6 _ _ rfl (by decide) (hd ⟨6, .data⟩ (by simp) rfl) rfl)
        go_simp
        exact hK _ _ ⟨_, _, rfl, rfl, ⟨_, rfl, pile_three (HS1.out.ke.kept h.below) (strVals_one _) (LN.out.kept h.below) (strVals_one _) (GS1.out.ke.kept h.below) (strVals_one _) _⟩, below_one _ _⟩
      | 8, _, ho, hd =>
        obtain rfl := Option.some.inj ho
        refine wpOp_step rfl (fun K hK => ?_)
        refine (if_pos (by rfl)).mpr ?_
        obtain ⟨p, ep, hp⟩ := (h.got 7 _ _ rfl (by decide) (hd ⟨7, .data⟩ (by simp) rfl) rfl)
        have q0 := got ep
        have hbs := h.below.size
        go_simp
        refine (ejoin_S _ 3 3 (n + 1 + n') _ wx hp rfl (by simp [tot] <;> omega) (by omega) (by decide)).mono ?_
        rintro e w3 ⟨v3, rfl, o3, b3⟩
        rw [epcs_three] at o3
        dsimp only at o3
        rw [← strVals_append, ← strVals_append] at o3
        exact hK _ _ ⟨v3, _, rfl, rfl, ln_of_row o3 rfl (by omega), b3⟩
      | 9, _, ho, hd =>
        obtain rfl := Option.some.inj ho
        refine wpOp_step rfl (fun K hK => ?_)
        refine (if_pos (by rfl)).mpr ?_
        have q0 := got e3
        go_simp
        exact hK _ _ ⟨_, _, rfl, rfl, rfl, Below.refl _ _⟩
      | 10, _, ho, hd =>
        obtain rfl := Option.some.inj ho
        refine wpOp_step rfl (fun K hK => ?_)
        refine (if_pos (by rfl)).mpr ?_
        have q0 := got (h.got 9 _ _ rfl (by decide) (hd ⟨9, .data⟩ (by simp) rfl) rfl)
        go_simp
        exact hK _ _ ⟨_, _, rfl, rfl, rfl, Below.refl _ _⟩
      | 11, _, ho, hd =>
        obtain rfl := Option.some.inj ho
        refine wpOp_step rfl (fun K hK => ?_)
        refine (if_pos (by rfl)).mpr ?_
        have q0 := got e5
        go_simp
        exact hK _ _ ⟨_, _, rfl, rfl, rfl, Below.refl _ _⟩
      | 12, _, ho, hd =>
        obtain rfl := Option.some.inj ho
        refine wpOp_step rfl (fun K hK => ?_)
        refine (if_pos (by rfl)).mpr ?_
        have q0 := got (h.got 11 _ _ rfl (by decide) (hd ⟨11, .data⟩ (by simp) rfl) rfl)
        go_simp
        exact hK _ _ ⟨_, _, rfl, rfl, rfl, Below.refl _ _⟩
      | 13, _, ho, hd =>
        obtain rfl := Option.some.inj ho
        refine wpOp_step rfl (fun K hK => ?_)
        refine (if_pos (by rfl)).mpr ?_
        have q10 := got (h.got 10 _ _ rfl (by decide) (hd ⟨10, .data⟩ (by simp) rfl) rfl)
        have q12 := got (h.got 12 _ _ rfl (by decide) (hd ⟨12, .data⟩ (by simp) rfl) rfl)
        go_simp
        exact hK _ _ ⟨_, _, rfl, rfl, ⟨_, rfl, pile_two (HS1.out.va.kept h.below) (strVals_one _) (GS1.out.va.kept h.below) (strVals_one _) _⟩, below_one _ _⟩
      | 14, _, ho, hd =>
        obtain rfl := Option.some.inj ho
        refine wpOp_step rfl (fun K hK => ?_)
        refine (if_pos (by rfl)).mpr ?_
        obtain ⟨p, ep, hp⟩ := (h.got 13 _ _ rfl (by decide) (hd ⟨13, .data⟩ (by simp) rfl) rfl)
        have q0 := got ep
        have hbs := h.below.size
        go_simp
        refine (ejoin_S _ 2 2 (m + m') _ wx hp rfl (by simp [tot]) (by omega) (by decide)).mono ?_
        rintro e w3 ⟨v3, rfl, o3, b3⟩
        rw [epcs_two] at o3
        dsimp only at o3
        rw [← strVals_append] at o3
        exact hK _ _ ⟨v3, _, rfl, rfl, ln_of_row o3 rfl (by omega), b3⟩
      | 15, _, ho, hd =>
        obtain rfl := Option.some.inj ho
        refine wpOp_step rfl (fun K hK => ?_)
        refine (if_pos (by rfl)).mpr ?_
        have q0 := got e3
        go_simp
        exact hK _ _ ⟨_, _, rfl, rfl, rfl, Below.refl _ _⟩
      | 16, _, ho, hd =>
        obtain rfl := Option.some.inj ho
        refine wpOp_step rfl (fun K hK => ?_)
        refine (if_pos (by rfl)).mpr ?_
        have q0 := got (h.got 15 _ _ rfl (by decide) (hd ⟨15, .data⟩ (by simp) rfl) rfl)
        go_simp
        exact hK _ _ ⟨_, _, rfl, rfl, rfl, Below.refl _ _⟩
      | 17, _, ho, hd =>
        obtain rfl := Option.some.inj ho
        refine wpOp_step rfl (fun K hK => ?_)
        refine (if_pos (by rfl)).mpr ?_
        have q0 := got e5
        go_simp
        exact hK _ _ ⟨_, _, rfl, rfl, rfl, Below.refl _ _⟩
      | 18, _, ho, hd =>
        obtain rfl := Option.some.inj ho
        refine wpOp_step rfl (fun K hK => ?_)
        refine (if_pos (by rfl)).mpr ?_
        have q0 := got (h.got 17 _ _ rfl (by decide) (hd ⟨17, .data⟩ (by simp) rfl) rfl)
        go_simp
        exact hK _ _ ⟨_, _, rfl, rfl, rfl, Below.refl _ _⟩
      | 19, _, ho, hd =>
        obtain rfl := Option.some.inj ho
        refine wpOp_step rfl (fun K hK => ?_)
        refine (if_pos (by rfl)).mpr ?_
        have q16 := got (h.got 16 _ _ rfl (by decide) (hd ⟨16, .data⟩ (by simp) rfl) rfl)
        have q18 := got (h.got 18 _ _ rfl (by decide) (hd ⟨18, .data⟩ (by simp) rfl) rfl)
        go_simp
        exact hK _ _ ⟨_, _, rfl, rfl, ⟨_, rfl, pile_two (HS1.out.ki.kept h.below) (intVals_one _) (GS1.out.ki.kept h.below) (intVals_one _) _⟩, below_one _ _⟩
      | 20, _, ho, hd =>
        obtain rfl := Option.some.inj ho
        refine wpOp_step rfl (fun K hK => ?_)
        refine (if_pos (by rfl)).mpr ?_
        obtain ⟨p, ep, hp⟩ := (h.got 19 _ _ rfl (by decide) (hd ⟨19, .data⟩ (by simp) rfl) rfl)
        have q0 := got ep
        have hbs := h.below.size
        go_simp
        refine (ejoin_I _ 2 2 (k + k') _ wx hp rfl (by simp [tot]) (by omega) (by decide)).mono ?_
        rintro e w3 ⟨v3, rfl, o3, b3⟩
        rw [epcs_two] at o3
        dsimp only at o3
        rw [int_app] at o3
        exact hK _ _ ⟨v3, _, rfl, rfl, ln_of_row o3 rfl (by omega), b3⟩
      | 21, _, ho, hd =>
        obtain rfl := Option.some.inj ho
        refine wpOp_step rfl (fun K hK => ?_)
        refine (if_pos (by rfl)).mpr ?_
        have q1 := got (h.got 1 _ _ rfl (by decide) (hd ⟨1, .data⟩ (by simp) rfl) rfl)
        obtain ⟨A1, a1, z1, l1, i1, _⟩ := (h.got 8 _ _ rfl (by decide) (hd ⟨8, .data⟩ (by simp) rfl) rfl)
        obtain ⟨A2, a2, z2, l2, i2, _⟩ := (h.got 14 _ _ rfl (by decide) (hd ⟨14, .data⟩ (by simp) rfl) rfl)
        obtain ⟨A3, a3, z3, l3, i3, _⟩ := (h.got 20 _ _ rfl (by decide) (hd ⟨20, .data⟩ (by simp) rfl) rfl)
        have y1 := got z1
        have y2 := got z2
        have y3 := got z3
        go_simp
        exact hK _ _ ⟨_, _, rfl, rfl, ⟨A1, _, a1, A2, _, a2, A3, _, a3, rfl, ⟨l1, l2, l3⟩, i1, i2, i3⟩, Below.refl _ _⟩
      | j + 22, hi, _, _ => exact absurd hi (by omega)
    · intro mm L a wx h hd
      refine wpAny_ready (rs := [22]) (by decide +kernel) (by simp) (AllReady.cons rfl (fun K hK => ?_) AllReady.nil)
      refine (if_pos (by rfl)).mpr ?_
      have hn4 := h.got 21 _ _ rfl (by decide) (hd 21 (by decide)) rfl
      obtain ⟨A6, n6, c6, B6, m6, d6, C6, k6, e6, ev, _, _, _, _⟩ := id hn4
      have q := got ev
      have q2 := got ((h.old 6 (by kernel_rfl)).trans rfl : a.eval (.tmp 6) = .pointer (some ⟨w.heap.size + 1 + 1, 0, none⟩))
      have HR2 := Lib.hid (HR1.out.kept h.below)
      obtain ⟨x0, x1, x2, x3⟩ := HR2.out.cells
      obtain ⟨f0, f1, f2, f3⟩ := HR2.out.free
      go_simp
      refine hK _ _ ?_
      refine wpAny_done (by decide +kernel) ?_ _
      have HD := Lib.hid (nd_done (chainN h.below B1.out) (by omega) hn4 (.bool (⟨false, s.keys ++ [x.toList] ++ t.keys, s.vals ++ t.vals, s.kids ++ t.kids⟩ : ND).leaf) (.slice A6 n6 c6) (.slice B6 m6 d6) (.slice C6 k6 e6))
      rw [ev] at HD
      obtain ⟨y0, y1, y2, y3⟩ := (HR2.out.put (.bool (⟨false, s.keys ++ [x.toList] ++ t.keys, s.vals ++ t.vals, s.kids ++ t.kids⟩ : ND).leaf) (.slice A6 n6 c6) (.slice B6 m6 d6) (.slice C6 k6 e6)).cells
      refine HM _ _ ?_
      refine wp_ret ?_
      refine bodyPost_ret (v := .agg #[.bool (⟨false, s.keys ++ [x.toList] ++ t.keys, s.vals ++ t.vals, s.kids ++ t.kids⟩ : ND).leaf, .slice A6 n6 c6, .slice B6 m6 d6, .slice C6 k6 e6]) (by simp [results, Try.results30, go_sem, q2, y0, y1, y2, y3]) (h.df.trans rfl) ?_
      exact ⟨_, rfl, by rw [HJ.out]; exact HD.out.1, HD.out.2⟩
end Go.Proofs.Ytcdfjaldnelfjaa
