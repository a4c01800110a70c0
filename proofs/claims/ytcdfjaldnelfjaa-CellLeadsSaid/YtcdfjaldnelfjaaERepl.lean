/-
  What cell's Replace comes to.
-/
import Derived.Test.YtcdfjaldnelfjaaERem
import Derived.Deep.Cut
import Derived.IntWalk
namespace Go.Proofs.Ytcdfjaldnelfjaa
open Go.RowKit

/-- What each operation leaves. -/
def replF (g r : Nat) (A : Option Addr) (n c : Nat) (B : Option Addr) (m d : Nat) (C : Option Addr) (k e : Nat) (s : ND) (f t : Nat) (D : Option Addr) (q dq : Nat) (E : Option Addr) (p ep : Nat) (u : ND) : List SP :=
  [.is (.pointer (some ⟨g, 0, none⟩)), .is (.bool false), .is (.pointer (some ⟨g, 1, none⟩)), .is (.slice A n c), .is (.int .i64 f), .is (.int .i64 ((t + 1 : Nat) : Int)), .is (.int .i64 t), .is (.slice E p ep), .ln (r + 1) (f + p + (n - t)) (strVals u.keys),
    .is (.pointer (some ⟨g, 2, none⟩)), .is (.slice B m d), .pile 1 [⟨B, m, d, strVals s.vals⟩], .ln (r + 1) m (strVals s.vals),
    .is (.pointer (some ⟨g, 3, none⟩)), .is (.slice C k e), .is (.int .i64 f), .is (.int .i64 ((t + 1 : Nat) : Int)), .is (.slice D q dq), .ln (r + 1) (f + q + (k - (t + 1))) (intVals u.kids), .nd (r + 1) u]

theorem mayR_iff {s : ND} {f t : Int} {ks : List Int} {zs : List (List UInt8)} : s.mayR f t ks zs = true ↔ 0 ≤ f ∧ f < t ∧ t ≤ s.kids.length ∧ zs.length + 1 = ks.length := by
  unfold ND.mayR
  rw [Bool.and_eq_true, Bool.and_eq_true, Bool.and_eq_true, decide_eq_true_eq, decide_eq_true_eq, decide_eq_true_eq, decide_eq_true_eq]
theorem replace_no {s : ND} {f t : Int} {ks : List Int} {zs : List (List UInt8)} (h : ¬ (0 ≤ f ∧ f < t ∧ t ≤ s.kids.length ∧ zs.length + 1 = ks.length)) : s.replace f t ks zs = s := by
  unfold ND.replace
  rw [if_neg (fun e => h (mayR_iff.1 e))]
theorem replace_yes {s : ND} {f t : Nat} {ks : List Int} {zs : List (List UInt8)} (h1 : f ≤ t) (h2 : t + 1 ≤ s.kids.length) (h3 : zs.length + 1 = ks.length) : s.replace (f : Int) ((t + 1 : Nat) : Int) ks zs = ⟨s.leaf, ND.rep s.keys f t zs, s.vals, ND.rep s.kids f (t + 1) ks⟩ := by
  unfold ND.replace
  rw [if_pos (mayR_iff.2 ⟨by omega, by omega, by omega, h3⟩)]
  rfl

set_option maxRecDepth 20000 in
set_option maxHeartbeats 12800000 in
theorem replace_any (A : Option Addr) (n c : Nat) (B : Option Addr) (m d : Nat) (C : Option Addr) (k e : Nat) (s : ND) (f t : Int) (D : Option Addr) (q dq : Nat) (ks : List Int) (E : Option Addr) (p ep : Nat) (zs : List (List UInt8)) (w : World)
    (h : Nd w A n c B m d C k e s) (g1 : Ln w 1 D q dq (intVals ks)) (g2 : Ln w 1 E p ep (strVals zs)) (hl : s.leaf = false) (ho : s.ok = true) (hn : n ≤ 300000) (hq : q ≤ 10) (hp : p ≤ 10) (hm : m ≤ 300000) (hk : k ≤ 300000) :
    Calls Try.prog 28 #[.agg #[.bool false, .slice A n c, .slice B m d, .slice C k e], .int .i64 f, .int .i64 t, .slice D q dq, .slice E p ep] w (NdEnd w (s.replace f t ks zs)) := by
  have hkn : k = n + 1 := by rw [← h.cn, ← h.kn]; exact (ND.ok_inner ho hl).2.1
  have HKN : k ≤ n + 1 ∧ n + 1 ≤ k := by omega
  have HQ := Lib.hid g1.intN
  have HPn := Lib.hid g2.strN
  have HC := Lib.hid h.cn
  have G10 := Lib.hid g1
  have G20 := Lib.hid g2
  clear ho hkn g1 g2
  obtain ⟨tb1, tb2, tb3⟩ := nbox_pair w (.bool false) (.slice A n c) (.slice B m d) (.slice C k e)
  have HS := Lib.hid (h.kept tb3)
  have HB := Lib.hid tb1
  have HR := Lib.hid tb2
  have B0 := Lib.hid tb3
  have HL := Lib.hid hl
  clear h hl tb1 tb2 tb3
  have G1 := Lib.hid (G10.out.kept B0.out)
  have G2 := Lib.hid (G20.out.kept B0.out)
  clear G10 G20
  go_enter Try.func28, Try.ntmps28
  go_upto_region 1 with fail
  generalize (w.alloc (.cells #[.bool false, .slice A n c, .slice B m d, .slice C k e] 25)).alloc (.cells #[.bool false, .slice none 0 0, .slice none 0 0, .slice none 0 0] 25) = w0 at *
  obtain ⟨c0, c1, c2, c3⟩ := HB.out.cells
  have hg := HB.out.lt
  have hr := HR.out.lt
  by_cases h1 : 0 ≤ f
  case neg =>
    have h1' : f < 0 := by omega
    have z1 : decide (0 ≤ f) = false := decide_eq_false h1
    clear h1
    have HP := Lib.hid (replace_no (s := s) (f := f) (t := t) (ks := ks) (zs := zs) (by rw [HC.out, HPn.out, HQ.out]; omega))
    go_wp2_with fail
    refine (copied_any false A n c B m d C k e s w0 HS.out HL.out (by omega) (by omega) (by omega)).mono ?_
    rintro e2 w2 ⟨v2, rfl, n2, b2⟩
    have N2 := Lib.hid n2
    obtain ⟨A', n', c', B', m', d', C', k', e', rfl, _, _, _, _⟩ := n2
    have HR2 := Lib.hid (HR.out.kept b2)
    have HD := Lib.hid (nd_pass B0.out (Nat.le_succ _) HR.out.lt N2.out b2 (.bool s.leaf) (.slice A' n' c') (.slice B' m' d') (.slice C' k' e'))
    obtain ⟨y0, y1, y2, y3⟩ := (HR2.out.put (.bool s.leaf) (.slice A' n' c') (.slice B' m' d') (.slice C' k' e')).cells
    obtain ⟨f0, f1, f2, f3⟩ := HR2.out.free
    obtain ⟨x0, x1, x2, x3⟩ := HR2.out.cells
    clear b2 c0 c1 c2 c3
    go_wp2_with fail
    refine bodyPost_ret (v := .agg #[.bool s.leaf, .slice A' n' c', .slice B' m' d', .slice C' k' e']) (by simp [results, Try.results28, go_sem, y0, y1, y2, y3]) rfl ?_
    exact ⟨_, rfl, by rw [HP.out]; exact HD.out.1, HD.out.2⟩
  by_cases h2 : f < t
  case neg =>
    have h2' : t ≤ f := by omega
    have z1 : decide (0 ≤ f) = true := decide_eq_true h1
    have z2 : decide (f < t) = false := decide_eq_false h2
    clear h2
    have HP := Lib.hid (replace_no (s := s) (f := f) (t := t) (ks := ks) (zs := zs) (by rw [HC.out, HPn.out, HQ.out]; omega))
    go_wp2_with fail
    refine (copied_any false A n c B m d C k e s w0 HS.out HL.out (by omega) (by omega) (by omega)).mono ?_
    rintro e2 w2 ⟨v2, rfl, n2, b2⟩
    have N2 := Lib.hid n2
    obtain ⟨A', n', c', B', m', d', C', k', e', rfl, _, _, _, _⟩ := n2
    have HR2 := Lib.hid (HR.out.kept b2)
    have HD := Lib.hid (nd_pass B0.out (Nat.le_succ _) HR.out.lt N2.out b2 (.bool s.leaf) (.slice A' n' c') (.slice B' m' d') (.slice C' k' e'))
    obtain ⟨y0, y1, y2, y3⟩ := (HR2.out.put (.bool s.leaf) (.slice A' n' c') (.slice B' m' d') (.slice C' k' e')).cells
    obtain ⟨f0, f1, f2, f3⟩ := HR2.out.free
    obtain ⟨x0, x1, x2, x3⟩ := HR2.out.cells
    clear b2 c0 c1 c2 c3
    go_wp2_with fail
    refine bodyPost_ret (v := .agg #[.bool s.leaf, .slice A' n' c', .slice B' m' d', .slice C' k' e']) (by simp [results, Try.results28, go_sem, y0, y1, y2, y3]) rfl ?_
    exact ⟨_, rfl, by rw [HP.out]; exact HD.out.1, HD.out.2⟩
  by_cases h3 : t ≤ (k : Int)
  case neg =>
    have h3' : (k : Int) < t := by omega
    have z1 : decide (0 ≤ f) = true := decide_eq_true h1
    have z2 : decide (f < t) = true := decide_eq_true h2
    have z3 : decide (t ≤ (k : Int)) = false := decide_eq_false h3
    clear h3
    have HP := Lib.hid (replace_no (s := s) (f := f) (t := t) (ks := ks) (zs := zs) (by rw [HC.out, HPn.out, HQ.out]; omega))
    go_wp2_with fail
    refine (copied_any false A n c B m d C k e s w0 HS.out HL.out (by omega) (by omega) (by omega)).mono ?_
    rintro e2 w2 ⟨v2, rfl, n2, b2⟩
    have N2 := Lib.hid n2
    obtain ⟨A', n', c', B', m', d', C', k', e', rfl, _, _, _, _⟩ := n2
    have HR2 := Lib.hid (HR.out.kept b2)
    have HD := Lib.hid (nd_pass B0.out (Nat.le_succ _) HR.out.lt N2.out b2 (.bool s.leaf) (.slice A' n' c') (.slice B' m' d') (.slice C' k' e'))
    obtain ⟨y0, y1, y2, y3⟩ := (HR2.out.put (.bool s.leaf) (.slice A' n' c') (.slice B' m' d') (.slice C' k' e')).cells
    obtain ⟨f0, f1, f2, f3⟩ := HR2.out.free
    obtain ⟨x0, x1, x2, x3⟩ := HR2.out.cells
    clear b2 c0 c1 c2 c3
    go_wp2_with fail
    refine bodyPost_ret (v := .agg #[.bool s.leaf, .slice A' n' c', .slice B' m' d', .slice C' k' e']) (by simp [results, Try.results28, go_sem, y0, y1, y2, y3]) rfl ?_
    exact ⟨_, rfl, by rw [HP.out]; exact HD.out.1, HD.out.2⟩
  by_cases h4 : p + 1 = q
  case neg =>
    have z1 : decide (0 ≤ f) = true := decide_eq_true h1
    have z2 : decide (f < t) = true := decide_eq_true h2
    have z3 : decide (t ≤ (k : Int)) = true := decide_eq_true h3
    have z4 : ((p : Int) != (q : Int) - 1) = true := by rw [bne_iff_ne]; omega
    have z5 : ¬ (p : Int) = (q : Int) - 1 := by omega
    have h4' : p + 1 < q ∨ q < p + 1 := by omega
    clear h4
    have HP := Lib.hid (replace_no (s := s) (f := f) (t := t) (ks := ks) (zs := zs) (by rw [HC.out, HPn.out, HQ.out]; omega))
    go_wp2_with fail
    refine (copied_any false A n c B m d C k e s w0 HS.out HL.out (by omega) (by omega) (by omega)).mono ?_
    rintro e2 w2 ⟨v2, rfl, n2, b2⟩
    have N2 := Lib.hid n2
    obtain ⟨A', n', c', B', m', d', C', k', e', rfl, _, _, _, _⟩ := n2
    have HR2 := Lib.hid (HR.out.kept b2)
    have HD := Lib.hid (nd_pass B0.out (Nat.le_succ _) HR.out.lt N2.out b2 (.bool s.leaf) (.slice A' n' c') (.slice B' m' d') (.slice C' k' e'))
    obtain ⟨y0, y1, y2, y3⟩ := (HR2.out.put (.bool s.leaf) (.slice A' n' c') (.slice B' m' d') (.slice C' k' e')).cells
    obtain ⟨f0, f1, f2, f3⟩ := HR2.out.free
    obtain ⟨x0, x1, x2, x3⟩ := HR2.out.cells
    clear b2 c0 c1 c2 c3
    go_wp2_with fail
    refine bodyPost_ret (v := .agg #[.bool s.leaf, .slice A' n' c', .slice B' m' d', .slice C' k' e']) (by simp [results, Try.results28, go_sem, y0, y1, y2, y3]) rfl ?_
    exact ⟨_, rfl, by rw [HP.out]; exact HD.out.1, HD.out.2⟩
  obtain ⟨f, rfl⟩ : ∃ f' : Nat, f = (f' : Int) := ⟨f.toNat, by omega⟩
  obtain ⟨t, rfl⟩ : ∃ t' : Nat, t = ((t' + 1 : Nat) : Int) := ⟨t.toNat - 1, by omega⟩
  have HP := Lib.hid (replace_yes (s := s) (f := f) (t := t) (ks := ks) (zs := zs) (by omega) (by rw [HC.out]; omega) (by rw [HPn.out, HQ.out]; exact h4))
  have z1 : decide (0 ≤ (f : Int)) = true := decide_eq_true h1
  have z2 : decide ((f : Int) < ((t + 1 : Nat) : Int)) = true := decide_eq_true h2
  have z3 : decide (((t + 1 : Nat) : Int) ≤ (k : Int)) = true := decide_eq_true h3
  have z4 : ((p : Int) != (q : Int) - 1) = false := by rw [bne_eq_false_iff_eq]; omega
  have hft : f ≤ t := by omega
  have htk : t + 1 ≤ k := by omega
  have hw1 : IntKind.i64.wrap (t : Int) = (t : Int) := IntWalk.i64_in _ (by omega)
  have HW1 := Lib.hid hw1
  clear hw1 h1 h2 h3 h4
  generalize hT : ((t + 1 : Nat) : Int) = T at *
  have HT := Lib.hid hT
  clear hT
  go_upto_region 4 with fail
  clear c0 c1 c2 c3 z1 z2 z3 z4
  rename_i KK HM
  refine wp_region_flow 20 1 (SP.at_ (replF w.heap.size (w.heap.size + 1) A n c B m d C k e s f t D q dq E p ep ⟨s.leaf, ND.rep s.keys f t zs, s.vals, ND.rep s.kids f (t + 1) ks⟩)) (by kernel_rfl) rfl (by kernel_rfl) (by kernel_rfl) (by kernel_rfl) (SP.at_st _) ?_ ?_
  · intro i o L a wx hi ho h hd
    have e5 : a.eval (.tmp 5) = .pointer (some ⟨w.heap.size, 0, none⟩) := (h.old 5 (by kernel_rfl)).trans rfl
    have e1 : a.eval (.tmp 1) = .int .i64 (f : Int) := (h.old 1 (by kernel_rfl)).trans rfl
    have e2 : a.eval (.tmp 2) = .int .i64 ((t + 1 : Nat) : Int) := (h.old 2 (by kernel_rfl)).trans (by rw [HT.out]; rfl)
    have e3 : a.eval (.tmp 3) = .slice D q dq := (h.old 3 (by kernel_rfl)).trans rfl
    have e4 : a.eval (.tmp 4) = .slice E p ep := (h.old 4 (by kernel_rfl)).trans rfl
    obtain ⟨c0, c1, c2, c3⟩ := (HB.out.kept h.below).cells
    match i, hi, ho, hd with
    | 0, _, ho, hd =>
      obtain rfl := Option.some.inj ho
      refine wpOp_step rfl (fun K hK => ?_)
      refine (if_pos (by rfl)).mpr ?_
      have q0 := got e5
      go_simp
      exact hK _ _ ⟨_, _, rfl, rfl, rfl, Below.refl _ _⟩
    | 1, _, ho, hd =>
      obtain rfl := Option.some.inj ho
      refine wpOp_step rfl (fun K hK => ?_)
      refine (if_pos (by rfl)).mpr ?_
      have q0 := got (h.got 0 _ _ rfl (by decide) (hd ⟨0, .data⟩ (by simp) rfl) rfl)
      go_simp
      exact hK _ _ ⟨_, _, rfl, rfl, rfl, Below.refl _ _⟩
    | 2, _, ho, hd =>
      obtain rfl := Option.some.inj ho
      refine wpOp_step rfl (fun K hK => ?_)
      refine (if_pos (by rfl)).mpr ?_
      have q0 := got e5
      go_simp
      exact hK _ _ ⟨_, _, rfl, rfl, rfl, Below.refl _ _⟩
    | 3, _, ho, hd =>
      obtain rfl := Option.some.inj ho
      refine wpOp_step rfl (fun K hK => ?_)
      refine (if_pos (by rfl)).mpr ?_
      have q0 := got (h.got 2 _ _ rfl (by decide) (hd ⟨2, .data⟩ (by simp) rfl) rfl)
      go_simp
      exact hK _ _ ⟨_, _, rfl, rfl, rfl, Below.refl _ _⟩
    | 4, _, ho, hd =>
      obtain rfl := Option.some.inj ho
      refine wpOp_step rfl (fun K hK => ?_)
      refine (if_pos (by rfl)).mpr ?_
      have q0 := got e1
      go_simp
      exact hK _ _ ⟨_, _, rfl, rfl, rfl, Below.refl _ _⟩
    | 5, _, ho, hd =>
      obtain rfl := Option.some.inj ho
      refine wpOp_step rfl (fun K hK => ?_)
      refine (if_pos (by rfl)).mpr ?_
      have q0 := got e2
      go_simp
      exact hK _ _ ⟨_, _, rfl, rfl, rfl, Below.refl _ _⟩
    | 6, _, ho, hd =>
      obtain rfl := Option.some.inj ho
      refine wpOp_step rfl (fun K hK => ?_)
      refine (if_pos (by rfl)).mpr ?_
      have q0 := got (h.got 5 _ _ rfl (by decide) (hd ⟨5, .data⟩ (by simp) rfl) rfl)
      have hw := HW1.out
      go_simp
      exact hK _ _ ⟨_, _, rfl, rfl, rfl, Below.refl _ _⟩
    | 7, _, ho, hd =>
      obtain rfl := Option.some.inj ho
      refine wpOp_step rfl (fun K hK => ?_)
      refine (if_pos (by rfl)).mpr ?_
      have q0 := got e4
      go_simp
      exact hK _ _ ⟨_, _, rfl, rfl, rfl, Below.refl _ _⟩
    | 8, _, ho, hd =>
      obtain rfl := Option.some.inj ho
      refine wpOp_step rfl (fun K hK => ?_)
      refine (if_pos (by rfl)).mpr ?_
      have q0 := got (h.got 3 _ _ rfl (by decide) (hd ⟨3, .data⟩ (by simp) rfl) rfl)
      have q1 := got (h.got 4 _ _ rfl (by decide) (hd ⟨4, .data⟩ (by simp) rfl) rfl)
      have q2 := got (h.got 6 _ _ rfl (by decide) (hd ⟨6, .data⟩ (by simp) rfl) rfl)
      have q3 := got (h.got 7 _ _ rfl (by decide) (hd ⟨7, .data⟩ (by simp) rfl) rfl)
      have hbs := h.below.size
      go_simp
      refine (ereplaced_S A n c (strVals s.keys) f t E p ep (strVals zs) wx (HS.out.ke.kept h.below) (strVals_one _) (G2.out.kept h.below) (strVals_one _) (by omega) (by omega) hn (by omega)).mono ?_
      rintro e w3 ⟨v3, rfl, o3, b3⟩
      rw [str_rep] at o3
      exact hK _ _ ⟨v3, _, rfl, rfl, ln_of_row o3 rfl (by omega), b3⟩
    | 9, _, ho, hd =>
      obtain rfl := Option.some.inj ho
      refine wpOp_step rfl (fun K hK => ?_)
      refine (if_pos (by rfl)).mpr ?_
      have q0 := got e5
      go_simp
      exact hK _ _ ⟨_, _, rfl, rfl, rfl, Below.refl _ _⟩
    | 10, _, ho, hd =>
      obtain rfl := Option.some.inj ho
      refine wpOp_step rfl (fun K hK => ?_)
      refine (if_pos (by rfl)).mpr ?_
      have q0 := got (h.got 9 _ _ rfl (by decide) (hd ⟨9, .data⟩ (by simp) rfl) rfl)
      go_simp
      exact hK _ _ ⟨_, _, rfl, rfl, rfl, Below.refl _ _⟩
    | 11, _, ho, hd =>
      obtain rfl := Option.some.inj ho
      refine wpOp_step rfl (fun K hK => ?_)
      refine (if_pos (by rfl)).mpr ?_
      have q10 := got (h.got 10 _ _ rfl (by decide) (hd ⟨10, .data⟩ (by simp) rfl) rfl)
      go_simp
      exact hK _ _ ⟨_, _, rfl, rfl, ⟨_, rfl, pile_one (HS.out.va.kept h.below) (strVals_one _) _⟩, below_one _ _⟩
    | 12, _, ho, hd =>
      obtain rfl := Option.some.inj ho
      refine wpOp_step rfl (fun K hK => ?_)
      refine (if_pos (by rfl)).mpr ?_
      obtain ⟨p9, ep9, hp9⟩ := (h.got 11 _ _ rfl (by decide) (hd ⟨11, .data⟩ (by simp) rfl) rfl)
      have q0 := got ep9
      have hbs := h.below.size
      go_simp
      refine (ejoin_S _ 1 1 m _ wx hp9 rfl (by simp [tot]) (by omega) (by decide)).mono ?_
      rintro e w3 ⟨v3, rfl, o3, b3⟩
      rw [epcs_one] at o3
      exact hK _ _ ⟨v3, _, rfl, rfl, ln_of_row o3 rfl (by omega), b3⟩
    | 13, _, ho, hd =>
      obtain rfl := Option.some.inj ho
      refine wpOp_step rfl (fun K hK => ?_)
      refine (if_pos (by rfl)).mpr ?_
      have q0 := got e5
      go_simp
      exact hK _ _ ⟨_, _, rfl, rfl, rfl, Below.refl _ _⟩
    | 14, _, ho, hd =>
      obtain rfl := Option.some.inj ho
      refine wpOp_step rfl (fun K hK => ?_)
      refine (if_pos (by rfl)).mpr ?_
      have q0 := got (h.got 13 _ _ rfl (by decide) (hd ⟨13, .data⟩ (by simp) rfl) rfl)
      go_simp
      exact hK _ _ ⟨_, _, rfl, rfl, rfl, Below.refl _ _⟩
    | 15, _, ho, hd =>
      obtain rfl := Option.some.inj ho
      refine wpOp_step rfl (fun K hK => ?_)
      refine (if_pos (by rfl)).mpr ?_
      have q0 := got e1
      go_simp
      exact hK _ _ ⟨_, _, rfl, rfl, rfl, Below.refl _ _⟩
    | 16, _, ho, hd =>
      obtain rfl := Option.some.inj ho
      refine wpOp_step rfl (fun K hK => ?_)
      refine (if_pos (by rfl)).mpr ?_
      have q0 := got e2
      go_simp
      exact hK _ _ ⟨_, _, rfl, rfl, rfl, Below.refl _ _⟩
    | 17, _, ho, hd =>
      obtain rfl := Option.some.inj ho
      refine wpOp_step rfl (fun K hK => ?_)
      refine (if_pos (by rfl)).mpr ?_
      have q0 := got e3
      go_simp
      exact hK _ _ ⟨_, _, rfl, rfl, rfl, Below.refl _ _⟩
    | 18, _, ho, hd =>
      obtain rfl := Option.some.inj ho
      refine wpOp_step rfl (fun K hK => ?_)
      refine (if_pos (by rfl)).mpr ?_
      have q0 := got (h.got 14 _ _ rfl (by decide) (hd ⟨14, .data⟩ (by simp) rfl) rfl)
      have q1 := got (h.got 15 _ _ rfl (by decide) (hd ⟨15, .data⟩ (by simp) rfl) rfl)
      have q2 := got (h.got 16 _ _ rfl (by decide) (hd ⟨16, .data⟩ (by simp) rfl) rfl)
      have q3 := got (h.got 17 _ _ rfl (by decide) (hd ⟨17, .data⟩ (by simp) rfl) rfl)
      have hbs := h.below.size
      go_simp
      refine (ereplaced_I C k e (intVals s.kids) f (t + 1) D q dq (intVals ks) wx (HS.out.ki.kept h.below) (intVals_one _) (G1.out.kept h.below) (intVals_one _) (by omega) (by omega) hk (by omega)).mono ?_
      rintro e w3 ⟨v3, rfl, o3, b3⟩
      rw [int_rep] at o3
      exact hK _ _ ⟨v3, _, rfl, rfl, ln_of_row o3 rfl (by omega), b3⟩
    | 19, _, ho, hd =>
      obtain rfl := Option.some.inj ho
      refine wpOp_step rfl (fun K hK => ?_)
      refine (if_pos (by rfl)).mpr ?_
      have q1 := got (h.got 1 _ _ rfl (by decide) (hd ⟨1, .data⟩ (by simp) rfl) rfl)
      obtain ⟨A1, a1, z1, l1, i1, _⟩ := (h.got 8 _ _ rfl (by decide) (hd ⟨8, .data⟩ (by simp) rfl) rfl)
      obtain ⟨A2, a2, z2, l2, i2, _⟩ := (h.got 12 _ _ rfl (by decide) (hd ⟨12, .data⟩ (by simp) rfl) rfl)
      obtain ⟨A3, a3, z3, l3, i3, _⟩ := (h.got 18 _ _ rfl (by decide) (hd ⟨18, .data⟩ (by simp) rfl) rfl)
      have y1 := got z1
      have y2 := got z2
      have y3 := got z3
      go_simp
      exact hK _ _ ⟨_, _, rfl, rfl, ⟨A1, _, a1, A2, _, a2, A3, _, a3, by rw [HL.out], ⟨l1, l2, l3⟩, i1, i2, i3⟩, Below.refl _ _⟩
    | j + 20, hi, _, _ => exact absurd hi (by omega)
  · intro mm L a wx h hd
    refine wpAny_ready (rs := [20]) (by decide +kernel) (by simp) (AllReady.cons rfl (fun K hK => ?_) AllReady.nil)
    refine (if_pos (by rfl)).mpr ?_
    have hn4 := h.got 19 _ _ rfl (by decide) (hd 19 (by decide)) rfl
    obtain ⟨A', n', c', B', m', d', C', k', e', ev, _, _, _, _⟩ := id hn4
    have q := got ev
    have q2 := got ((h.old 10 (by kernel_rfl)).trans rfl : a.eval (.tmp 10) = .pointer (some ⟨w.heap.size + 1, 0, none⟩))
    have HR2 := Lib.hid (HR.out.kept h.below)
    obtain ⟨x0, x1, x2, x3⟩ := HR2.out.cells
    obtain ⟨f0, f1, f2, f3⟩ := HR2.out.free
    go_simp
    refine hK _ _ ?_
    refine wpAny_done (by decide +kernel) ?_ _
    have HD := Lib.hid (nd_done (chainN h.below B0.out) (Nat.le_succ _) hn4 (.bool (⟨s.leaf, ND.rep s.keys f t zs, s.vals, ND.rep s.kids f (t + 1) ks⟩ : ND).leaf) (.slice A' n' c') (.slice B' m' d') (.slice C' k' e'))
    rw [ev] at HD
    obtain ⟨y0, y1, y2, y3⟩ := (HR2.out.put (.bool (⟨s.leaf, ND.rep s.keys f t zs, s.vals, ND.rep s.kids f (t + 1) ks⟩ : ND).leaf) (.slice A' n' c') (.slice B' m' d') (.slice C' k' e')).cells
    refine HM _ _ ?_
    refine wp_ret ?_
    refine bodyPost_ret (v := .agg #[.bool (⟨s.leaf, ND.rep s.keys f t zs, s.vals, ND.rep s.kids f (t + 1) ks⟩ : ND).leaf, .slice A' n' c', .slice B' m' d', .slice C' k' e']) (by simp [results, Try.results28, go_sem, q2, y0, y1, y2, y3]) (h.df.trans rfl) ?_
    exact ⟨_, rfl, by rw [HP.out]; exact HD.out.1, HD.out.2⟩
end Go.Proofs.Ytcdfjaldnelfjaa
