/-
  What cell's copied comes to.
-/
import Derived.Test.YtcdfjaldnelfjaaECutS
import Derived.Test.YtcdfjaldnelfjaaECutI
import Derived.Test.YtcdfjaldnelfjaaESp
namespace Go.Proofs.Ytcdfjaldnelfjaa
open Go.RowKit

/-- What each operation leaves. -/
def copF (g r : Nat) (lf : Bool) (A : Option Addr) (n c : Nat) (B : Option Addr) (m d : Nat) (C : Option Addr) (k e : Nat) (s : ND) : List SP :=
  [.is (.pointer (some ⟨g, 0, none⟩)), .is (.bool lf), .is (.pointer (some ⟨g, 1, none⟩)), .is (.slice A n c), .pile 1 [⟨A, n, c, strVals s.keys⟩], .ln (r + 1) n (strVals s.keys),
    .is (.pointer (some ⟨g, 2, none⟩)), .is (.slice B m d), .pile 1 [⟨B, m, d, strVals s.vals⟩], .ln (r + 1) m (strVals s.vals),
    .is (.pointer (some ⟨g, 3, none⟩)), .is (.slice C k e), .pile 1 [⟨C, k, e, intVals s.kids⟩], .ln (r + 1) k (intVals s.kids), .nd (r + 1) s]

set_option maxRecDepth 20000 in
set_option maxHeartbeats 3200000 in
theorem copied_any (lf : Bool) (A : Option Addr) (n c : Nat) (B : Option Addr) (m d : Nat) (C : Option Addr) (k e : Nat) (s : ND) (w : World) (h : Nd w A n c B m d C k e s) (hl : s.leaf = lf) (hn : n ≤ 1000000) (hm : m ≤ 1000000) (hk : k ≤ 1000000) :
    Calls Try.prog 39 #[.agg #[.bool lf, .slice A n c, .slice B m d, .slice C k e]] w (NdEnd w s) := by
  obtain ⟨tb1, tb2, tb3⟩ := nbox_pair w (.bool lf) (.slice A n c) (.slice B m d) (.slice C k e)
  have HS := Lib.hid (h.kept tb3)
  have HB := Lib.hid tb1
  have HR := Lib.hid tb2
  have B0 := Lib.hid tb3
  have HL := Lib.hid hl
  clear h hl tb1 tb2 tb3
  go_enter Try.func39, Try.ntmps39
  go_wp2_with fail
  generalize (w.alloc (.cells #[.bool lf, .slice A n c, .slice B m d, .slice C k e] 25)).alloc (.cells #[.bool false, .slice none 0 0, .slice none 0 0, .slice none 0 0] 25) = w0 at *
  have hg := HB.out.lt
  have hr := HR.out.lt
  rename_i KK HM
  refine wp_region_flow 15 1 (SP.at_ (copF w.heap.size (w.heap.size + 1) lf A n c B m d C k e s)) (by kernel_rfl) rfl (by kernel_rfl) (by kernel_rfl) (by kernel_rfl) (SP.at_st _) ?_ ?_
  · intro i o L a wx hi ho h hd
    have e1 : a.eval (.tmp 1) = .pointer (some ⟨w.heap.size, 0, none⟩) := (h.old 1 (by kernel_rfl)).trans rfl
    obtain ⟨c0, c1, c2, c3⟩ := (HB.out.kept h.below).cells
    match i, hi, ho, hd with
    | 0, _, ho, hd =>
      obtain rfl := Option.some.inj ho
      refine wpOp_step rfl (fun K hK => ?_)
      refine (if_pos (by rfl)).mpr ?_
      have q0 := got e1
      go_simp
      exact hK _ _ ⟨_, _, rfl, rfl, rfl, Below.refl _ _⟩
    | 1, _, ho, hd =>
      obtain rfl := Option.some.inj ho
      refine wpOp_step rfl (fun K hK => ?_)
      refine (if_pos (by rfl)).mpr ?_
      have q0 := got (h.got 0 _ _ rfl (by decide) (hd ⟨0, .data⟩ (by simp) rfl) rfl)
      go_simp
      exact hK _ _ ⟨_, _, rfl, rfl, rfl, Below.refl _ _⟩
    | 2, _, ho, hd =>
      obtain rfl := Option.some.inj ho
      refine wpOp_step rfl (fun K hK => ?_)
      refine (if_pos (by rfl)).mpr ?_
      have q0 := got e1
      go_simp
      exact hK _ _ ⟨_, _, rfl, rfl, rfl, Below.refl _ _⟩
    | 3, _, ho, hd =>
      obtain rfl := Option.some.inj ho
      refine wpOp_step rfl (fun K hK => ?_)
      refine (if_pos (by rfl)).mpr ?_
      have q0 := got (h.got 2 _ _ rfl (by decide) (hd ⟨2, .data⟩ (by simp) rfl) rfl)
      go_simp
      exact hK _ _ ⟨_, _, rfl, rfl, rfl, Below.refl _ _⟩
    | 4, _, ho, hd =>
      obtain rfl := Option.some.inj ho
      refine wpOp_step rfl (fun K hK => ?_)
      refine (if_pos (by rfl)).mpr ?_
      have q3 := got (h.got 3 _ _ rfl (by decide) (hd ⟨3, .data⟩ (by simp) rfl) rfl)
      go_simp
      exact hK _ _ ⟨_, _, rfl, rfl, ⟨_, rfl, pile_one (HS.out.ke.kept h.below) (strVals_one _) _⟩, below_one _ _⟩
    | 5, _, ho, hd =>
      obtain rfl := Option.some.inj ho
      refine wpOp_step rfl (fun K hK => ?_)
      refine (if_pos (by rfl)).mpr ?_
      obtain ⟨p, ep, hp⟩ := (h.got 4 _ _ rfl (by decide) (hd ⟨4, .data⟩ (by simp) rfl) rfl)
      have q := got ep
      have hbs := h.below.size
      go_simp
      refine (ejoin_S _ 1 1 n _ wx hp rfl (by simp [tot]) (by omega) (by decide)).mono ?_
      rintro e w3 ⟨v3, rfl, o3, b3⟩
      rw [epcs_one] at o3
      exact hK _ _ ⟨v3, _, rfl, rfl, ln_of_row o3 rfl (by omega), b3⟩
    | 6, _, ho, hd =>
      obtain rfl := Option.some.inj ho
      refine wpOp_step rfl (fun K hK => ?_)
      refine (if_pos (by rfl)).mpr ?_
      have q0 := got e1
      go_simp
      exact hK _ _ ⟨_, _, rfl, rfl, rfl, Below.refl _ _⟩
    | 7, _, ho, hd =>
      obtain rfl := Option.some.inj ho
      refine wpOp_step rfl (fun K hK => ?_)
      refine (if_pos (by rfl)).mpr ?_
      have q0 := got (h.got 6 _ _ rfl (by decide) (hd ⟨6, .data⟩ (by simp) rfl) rfl)
      go_simp
      exact hK _ _ ⟨_, _, rfl, rfl, rfl, Below.refl _ _⟩
    | 8, _, ho, hd =>
      obtain rfl := Option.some.inj ho
      refine wpOp_step rfl (fun K hK => ?_)
      refine (if_pos (by rfl)).mpr ?_
      have q7 := got (h.got 7 _ _ rfl (by decide) (hd ⟨7, .data⟩ (by simp) rfl) rfl)
      go_simp
      exact hK _ _ ⟨_, _, rfl, rfl, ⟨_, rfl, pile_one (HS.out.va.kept h.below) (strVals_one _) _⟩, below_one _ _⟩
    | 9, _, ho, hd =>
      obtain rfl := Option.some.inj ho
      refine wpOp_step rfl (fun K hK => ?_)
      refine (if_pos (by rfl)).mpr ?_
      obtain ⟨p, ep, hp⟩ := (h.got 8 _ _ rfl (by decide) (hd ⟨8, .data⟩ (by simp) rfl) rfl)
      have q := got ep
      have hbs := h.below.size
      go_simp
      refine (ejoin_S _ 1 1 m _ wx hp rfl (by simp [tot]) (by omega) (by decide)).mono ?_
      rintro e w3 ⟨v3, rfl, o3, b3⟩
      rw [epcs_one] at o3
      exact hK _ _ ⟨v3, _, rfl, rfl, ln_of_row o3 rfl (by omega), b3⟩
    | 10, _, ho, hd =>
      obtain rfl := Option.some.inj ho
      refine wpOp_step rfl (fun K hK => ?_)
      refine (if_pos (by rfl)).mpr ?_
      have q0 := got e1
      go_simp
      exact hK _ _ ⟨_, _, rfl, rfl, rfl, Below.refl _ _⟩
    | 11, _, ho, hd =>
      obtain rfl := Option.some.inj ho
      refine wpOp_step rfl (fun K hK => ?_)
      refine (if_pos (by rfl)).mpr ?_
      have q0 := got (h.got 10 _ _ rfl (by decide) (hd ⟨10, .data⟩ (by simp) rfl) rfl)
      go_simp
      exact hK _ _ ⟨_, _, rfl, rfl, rfl, Below.refl _ _⟩
    | 12, _, ho, hd =>
      obtain rfl := Option.some.inj ho
      refine wpOp_step rfl (fun K hK => ?_)
      refine (if_pos (by rfl)).mpr ?_
      have q11 := got (h.got 11 _ _ rfl (by decide) (hd ⟨11, .data⟩ (by simp) rfl) rfl)
      go_simp
      exact hK _ _ ⟨_, _, rfl, rfl, ⟨_, rfl, pile_one (HS.out.ki.kept h.below) (intVals_one _) _⟩, below_one _ _⟩
    | 13, _, ho, hd =>
      obtain rfl := Option.some.inj ho
      refine wpOp_step rfl (fun K hK => ?_)
      refine (if_pos (by rfl)).mpr ?_
      obtain ⟨p, ep, hp⟩ := (h.got 12 _ _ rfl (by decide) (hd ⟨12, .data⟩ (by simp) rfl) rfl)
      have q := got ep
      have hbs := h.below.size
      go_simp
      refine (ejoin_I _ 1 1 k _ wx hp rfl (by simp [tot]) (by omega) (by decide)).mono ?_
      rintro e w3 ⟨v3, rfl, o3, b3⟩
      rw [epcs_one] at o3
      exact hK _ _ ⟨v3, _, rfl, rfl, ln_of_row o3 rfl (by omega), b3⟩
    | 14, _, ho, hd =>
      obtain rfl := Option.some.inj ho
      refine wpOp_step rfl (fun K hK => ?_)
      refine (if_pos (by rfl)).mpr ?_
      have q1 := got (h.got 1 _ _ rfl (by decide) (hd ⟨1, .data⟩ (by simp) rfl) rfl)
      obtain ⟨A1, a1, z1, l1, i1, _⟩ := (h.got 5 _ _ rfl (by decide) (hd ⟨5, .data⟩ (by simp) rfl) rfl)
      obtain ⟨A2, a2, z2, l2, i2, _⟩ := (h.got 9 _ _ rfl (by decide) (hd ⟨9, .data⟩ (by simp) rfl) rfl)
      obtain ⟨A3, a3, z3, l3, i3, _⟩ := (h.got 13 _ _ rfl (by decide) (hd ⟨13, .data⟩ (by simp) rfl) rfl)
      have y1 := got z1
      have y2 := got z2
      have y3 := got z3
      go_simp
      exact hK _ _ ⟨_, _, rfl, rfl, ⟨A1, n, a1, A2, m, a2, A3, k, a3, by rw [HL.out], ⟨l1, l2, l3⟩, i1, i2, i3⟩, Below.refl _ _⟩
  · intro mm L a wx h hd
    refine wpAny_ready (rs := [15]) (by decide +kernel) (by simp) (AllReady.cons rfl (fun K hK => ?_) AllReady.nil)
    refine (if_pos (by rfl)).mpr ?_
    have hn4 := h.got 14 _ _ rfl (by decide) (hd 14 (by decide)) rfl
    obtain ⟨A', n', c', B', m', d', C', k', e', ev, _, _, _, _⟩ := id hn4
    have q := got ev
    have q2 := got ((h.old 2 (by kernel_rfl)).trans rfl : a.eval (.tmp 2) = .pointer (some ⟨w.heap.size + 1, 0, none⟩))
    have HR2 := Lib.hid (HR.out.kept h.below)
    obtain ⟨x0, x1, x2, x3⟩ := HR2.out.cells
    obtain ⟨f0, f1, f2, f3⟩ := HR2.out.free
    go_simp
    refine hK _ _ ?_
    refine wpAny_done (by decide +kernel) ?_ _
    have HD := Lib.hid (nd_done (chainN h.below B0.out) (Nat.le_succ _) hn4 (.bool s.leaf) (.slice A' n' c') (.slice B' m' d') (.slice C' k' e'))
    rw [ev] at HD
    obtain ⟨y0, y1, y2, y3⟩ := (HR2.out.put (.bool s.leaf) (.slice A' n' c') (.slice B' m' d') (.slice C' k' e')).cells
    refine HM _ _ ?_
    refine wp_ret ?_
    refine bodyPost_ret (v := .agg #[.bool s.leaf, .slice A' n' c', .slice B' m' d', .slice C' k' e']) (by simp [results, Try.results39, go_sem, q2, y0, y1, y2, y3]) (h.df.trans rfl) ?_
    exact ⟨_, rfl, HD.out.1, HD.out.2⟩
end Go.Proofs.Ytcdfjaldnelfjaa
