/-
  What cell's Put comes to.
-/
import Derived.Test.YtcdfjaldnelfjaaECopy
import Derived.Test.YtcdfjaldnelfjaaEFind
import Derived.Deep.Cut
import Derived.IntWalk
namespace Go.Proofs.Ytcdfjaldnelfjaa
open Go.RowKit

/-- What each operation leaves. -/
def putF (g r : Nat) (A : Option Addr) (n c : Nat) (B : Option Addr) (m d : Nat) (f t : Nat) (x y : ByteArray) (u : ND) : List SP :=
  [.is (.pointer (some ⟨g, 1, none⟩)), .is (.slice A n c), .is (.int .i64 f), .is (.int .i64 t), .is (.string x), .ln 0 1 [.string x], .ln (r + 1) (f + 1 + (n - t)) (strVals u.keys),
    .is (.pointer (some ⟨g, 2, none⟩)), .is (.slice B m d), .is (.int .i64 f), .is (.int .i64 t), .is (.string y), .ln 0 1 [.string y], .ln (r + 1) (f + 1 + (m - t)) (strVals u.vals), .nd (r + 1) u]

theorem str_rep (l o : List (List UInt8)) (f t : Nat) : ND.rep (strVals l) f t (strVals o) = strVals (ND.rep l f t o) := by
  unfold ND.rep strVals
  rw [List.map_append, List.map_append, List.map_take, List.map_drop]
theorem int_rep (l o : List Int) (f t : Nat) : ND.rep (intVals l) f t (intVals o) = intVals (ND.rep l f t o) := by
  unfold ND.rep intVals
  rw [List.map_append, List.map_append, List.map_take, List.map_drop]
theorem str_one (x : ByteArray) : [Value.string x] = strVals [x.toList] := by
  unfold strVals
  simp [tb_back]
theorem ln_str (w : World) (x : ByteArray) : (SP.ln 0 1 [.string x]).p (.slice (some ⟨w.heap.size, 0, none⟩) 1 1) (w.alloc (.cells #[.string x] 9)) :=
  ⟨_, 1, rfl, ⟨rfl, Nat.le_refl _, fun e => (by cases e), fun ad e j u hu => by
    obtain rfl := Option.some.inj e
    rw [addr_add]
    match j, hu with
    | 0, hu =>
      obtain rfl := Option.some.inj hu
      simp⟩, fun _ _ => Nat.zero_le _, by unfold maxLen; omega⟩
theorem one_str (x : ByteArray) : ∀ u ∈ [Value.string x], u.oneCell' = true := by
  intro u hu
  rw [List.mem_singleton.1 hu]
  rfl

set_option maxRecDepth 20000 in
set_option maxHeartbeats 6400000 in
theorem put_any (lf : Bool) (A : Option Addr) (n c : Nat) (B : Option Addr) (m d : Nat) (C : Option Addr) (k e : Nat) (s : ND) (x y : ByteArray) (w : World) (h : Nd w A n c B m d C k e s) (hl : s.leaf = lf) (ho : s.ok = true) (hlf : lf = true) (hn : n ≤ 300000) :
    Calls Try.prog 24 #[.agg #[.bool lf, .slice A n c, .slice B m d, .slice C k e], .string x, .string y] w (NdEnd w (s.put x.toList y.toList)) := by
  subst hlf
  obtain rfl : n = m := by rw [← h.vn, ← h.kn]; exact (ND.ok_leaf ho hl).1.symm
  have HO := Lib.hid ho
  clear ho
  obtain ⟨tb1, tb2, tb3⟩ := nbox_pair w (.bool true) (.slice A n c) (.slice B n d) (.slice C k e)
  have HS := Lib.hid (h.kept tb3)
  have HB := Lib.hid tb1
  have HR := Lib.hid tb2
  have B0 := Lib.hid tb3
  have HL := Lib.hid hl
  clear h hl tb1 tb2 tb3
  go_enter Try.func24, Try.ntmps24
  go_upto_region 1 with fail
  generalize (w.alloc (.cells #[.bool true, .slice A n c, .slice B n d, .slice C k e] 25)).alloc (.cells #[.bool false, .slice none 0 0, .slice none 0 0, .slice none 0 0] 25) = w0 at *
  obtain ⟨c0, c1, c2, c3⟩ := HB.out.cells
  go_wp2_with fail
  refine (find_any true A n c B n d C k e s x w0 HS.out (ND.ok_rise HO.out) (by omega)).mono ?_
  rintro e1 w1 ⟨rfl, b1⟩
  have B1 := Lib.hid (chainN b1 B0.out)
  have HB1 := Lib.hid (HB.out.kept b1)
  have HR1 := Lib.hid (HR.out.kept b1)
  have HS1 := Lib.hid (HS.out.kept b1)
  have hfn := ND.findN_le x.toList s.keys
  rw [HS1.out.kn] at hfn
  clear b1 c0 c1 c2 c3 HB HR HS B0
  have hg := HB1.out.lt
  have hr := HR1.out.lt
  cases his : ND.isAt x.toList s.keys with
  | true =>
    have HP := Lib.hid (ND.put_old y.toList his)
    have hfl := ND.isAt_lt his
    rw [HS1.out.kn] at hfl
    clear his hfn
    generalize ND.findN x.toList s.keys = f at *
    go_upto_region 7 with fail
    rename_i KK HM
    refine wp_region_flow 15 1 (SP.at_ (putF w.heap.size (w.heap.size + 1) A n c B n d f (f + 1) x y ⟨true, ND.rep s.keys f (f + 1) [x.toList], ND.rep s.vals f (f + 1) [y.toList], []⟩)) (by kernel_rfl) rfl (by kernel_rfl) (by kernel_rfl) (by kernel_rfl) (SP.at_st _) ?_ ?_
    · intro i o L a wx hi ho h hd
      have e3 : a.eval (.tmp 3) = .pointer (some ⟨w.heap.size, 0, none⟩) := (h.old 3 (by kernel_rfl)).trans rfl
      have e7 : a.eval (.tmp 7) = .int .i64 (f : Int) := (h.old 7 (by kernel_rfl)).trans rfl
      have e9 : a.eval (.tmp 9) = .int .i64 ((f + 1 : Nat) : Int) := (h.old 9 (by kernel_rfl)).trans rfl
      have ek : a.eval (.tmp 1) = .string x := (h.old 1 (by kernel_rfl)).trans rfl
      have ey : a.eval (.tmp 2) = .string y := (h.old 2 (by kernel_rfl)).trans rfl
      obtain ⟨c0, c1, c2, c3⟩ := (HB1.out.kept h.below).cells
      match i, hi, ho, hd with
      | 0, _, ho, hd =>
        obtain rfl := Option.some.inj ho
        refine wpOp_step rfl (fun K hK => ?_)
        refine (if_pos (by rfl)).mpr ?_
        have q0 := got e3
        go_simp
        exact hK _ _ ⟨_, _, rfl, rfl, rfl, Below.refl _ _⟩
      | 1, _, ho, hd =>
        obtain rfl := Option.some.inj ho
        refine wpOp_step rfl (fun K hK => ?_)
        refine (if_pos (by rfl)).mpr ?_
        have q0 := got (h.got 0 _ _ rfl (by decide) (hd ⟨0, .data⟩ (by simp) rfl) rfl)
        go_simp
        exact hK _ _ ⟨_, _, rfl, rfl, rfl, Below.refl _ _⟩
      | 2, _, ho, hd =>
        obtain rfl := Option.some.inj ho
        refine wpOp_step rfl (fun K hK => ?_)
        refine (if_pos (by rfl)).mpr ?_
        have q0 := got e7
        go_simp
        exact hK _ _ ⟨_, _, rfl, rfl, rfl, Below.refl _ _⟩
      | 3, _, ho, hd =>
        obtain rfl := Option.some.inj ho
        refine wpOp_step rfl (fun K hK => ?_)
        refine (if_pos (by rfl)).mpr ?_
        have q0 := got e9
        go_simp
        exact hK _ _ ⟨_, _, rfl, rfl, rfl, Below.refl _ _⟩
      | 4, _, ho, hd =>
        obtain rfl := Option.some.inj ho
        refine wpOp_step rfl (fun K hK => ?_)
        refine (if_pos (by rfl)).mpr ?_
        have q0 := got ek
        go_simp
        exact hK _ _ ⟨_, _, rfl, rfl, rfl, Below.refl _ _⟩
      | 5, _, ho, hd =>
        obtain rfl := Option.some.inj ho
        refine wpOp_step rfl (fun K hK => ?_)
        refine (if_pos (by rfl)).mpr ?_
        have q0 := got (h.got 4 _ _ rfl (by decide) (hd ⟨4, .data⟩ (by simp) rfl) rfl)
        go_simp
        exact hK _ _ ⟨_, _, rfl, rfl, ln_str wx x, below_one _ _⟩
      | 6, _, ho, hd =>
        obtain rfl := Option.some.inj ho
        refine wpOp_step rfl (fun K hK => ?_)
        refine (if_pos (by rfl)).mpr ?_
        have q0 := got (h.got 1 _ _ rfl (by decide) (hd ⟨1, .data⟩ (by simp) rfl) rfl)
        have q1 := got (h.got 2 _ _ rfl (by decide) (hd ⟨2, .data⟩ (by simp) rfl) rfl)
        have q2 := got (h.got 3 _ _ rfl (by decide) (hd ⟨3, .data⟩ (by simp) rfl) rfl)
        obtain ⟨Z, z, ez, hz, _, _⟩ := (h.got 5 _ _ rfl (by decide) (hd ⟨5, .data⟩ (by simp) rfl) rfl)
        have q3 := got ez
        have hbs := h.below.size
        go_simp
        refine (ereplaced_S A n c (strVals s.keys) f (f + 1) Z 1 z _ wx (HS1.out.ke.kept h.below) (strVals_one _) hz (one_str _) (by omega) (by omega) hn (by omega)).mono ?_
        rintro e w3 ⟨v3, rfl, o3, b3⟩
        rw [str_one, str_rep] at o3
        exact hK _ _ ⟨v3, _, rfl, rfl, ln_of_row o3 rfl (by omega), b3⟩
      | 7, _, ho, hd =>
        obtain rfl := Option.some.inj ho
        refine wpOp_step rfl (fun K hK => ?_)
        refine (if_pos (by rfl)).mpr ?_
        have q0 := got e3
        go_simp
        exact hK _ _ ⟨_, _, rfl, rfl, rfl, Below.refl _ _⟩
      | 8, _, ho, hd =>
        obtain rfl := Option.some.inj ho
        refine wpOp_step rfl (fun K hK => ?_)
        refine (if_pos (by rfl)).mpr ?_
        have q0 := got (h.got 7 _ _ rfl (by decide) (hd ⟨7, .data⟩ (by simp) rfl) rfl)
        go_simp
        exact hK _ _ ⟨_, _, rfl, rfl, rfl, Below.refl _ _⟩
      | 9, _, ho, hd =>
        obtain rfl := Option.some.inj ho
        refine wpOp_step rfl (fun K hK => ?_)
        refine (if_pos (by rfl)).mpr ?_
        have q0 := got e7
        go_simp
        exact hK _ _ ⟨_, _, rfl, rfl, rfl, Below.refl _ _⟩
      | 10, _, ho, hd =>
        obtain rfl := Option.some.inj ho
        refine wpOp_step rfl (fun K hK => ?_)
        refine (if_pos (by rfl)).mpr ?_
        have q0 := got e9
        go_simp
        exact hK _ _ ⟨_, _, rfl, rfl, rfl, Below.refl _ _⟩
      | 11, _, ho, hd =>
        obtain rfl := Option.some.inj ho
        refine wpOp_step rfl (fun K hK => ?_)
        refine (if_pos (by rfl)).mpr ?_
        have q0 := got ey
        go_simp
        exact hK _ _ ⟨_, _, rfl, rfl, rfl, Below.refl _ _⟩
      | 12, _, ho, hd =>
        obtain rfl := Option.some.inj ho
        refine wpOp_step rfl (fun K hK => ?_)
        refine (if_pos (by rfl)).mpr ?_
        have q0 := got (h.got 11 _ _ rfl (by decide) (hd ⟨11, .data⟩ (by simp) rfl) rfl)
        go_simp
        exact hK _ _ ⟨_, _, rfl, rfl, ln_str wx y, below_one _ _⟩
      | 13, _, ho, hd =>
        obtain rfl := Option.some.inj ho
        refine wpOp_step rfl (fun K hK => ?_)
        refine (if_pos (by rfl)).mpr ?_
        have q0 := got (h.got 8 _ _ rfl (by decide) (hd ⟨8, .data⟩ (by simp) rfl) rfl)
        have q1 := got (h.got 9 _ _ rfl (by decide) (hd ⟨9, .data⟩ (by simp) rfl) rfl)
        have q2 := got (h.got 10 _ _ rfl (by decide) (hd ⟨10, .data⟩ (by simp) rfl) rfl)
        obtain ⟨Z, z, ez, hz, _, _⟩ := (h.got 12 _ _ rfl (by decide) (hd ⟨12, .data⟩ (by simp) rfl) rfl)
        have q3 := got ez
        have hbs := h.below.size
        go_simp
        refine (ereplaced_S B n d (strVals s.vals) f (f + 1) Z 1 z _ wx (HS1.out.va.kept h.below) (strVals_one _) hz (one_str _) (by omega) (by omega) hn (by omega)).mono ?_
        rintro e w3 ⟨v3, rfl, o3, b3⟩
        rw [str_one, str_rep] at o3
        exact hK _ _ ⟨v3, _, rfl, rfl, ln_of_row o3 rfl (by omega), b3⟩
      | 14, _, ho, hd =>
        obtain rfl := Option.some.inj ho
        refine wpOp_step rfl (fun K hK => ?_)
        refine (if_pos (by rfl)).mpr ?_
        obtain ⟨A1, a1, z1, l1, i1, _⟩ := (h.got 6 _ _ rfl (by decide) (hd ⟨6, .data⟩ (by simp) rfl) rfl)
        obtain ⟨A2, a2, z2, l2, i2, _⟩ := (h.got 13 _ _ rfl (by decide) (hd ⟨13, .data⟩ (by simp) rfl) rfl)
        have y1 := got z1
        have y2 := got z2
        go_simp
        exact hK _ _ ⟨_, _, rfl, rfl, ⟨A1, _, a1, A2, _, a2, none, 0, 0, rfl, ⟨l1, l2, Ln.none_ _ 1⟩, i1, i2, NHi.none_ _⟩, Below.refl _ _⟩
      | j + 15, hi, _, _ => exact absurd hi (by omega)
    · intro mm L a wx h hd
      refine wpAny_ready (rs := [15]) (by decide +kernel) (by simp) (AllReady.cons rfl (fun K hK => ?_) AllReady.nil)
      refine (if_pos (by rfl)).mpr ?_
      have hn4 := h.got 14 _ _ rfl (by decide) (hd 14 (by decide)) rfl
      obtain ⟨A', n', c', B', m', d', C', k', e', ev, _, _, _, _⟩ := id hn4
      have q := got ev
      have q2 := got ((h.old 6 (by kernel_rfl)).trans rfl : a.eval (.tmp 6) = .pointer (some ⟨w.heap.size + 1, 0, none⟩))
      have HR2 := Lib.hid (HR1.out.kept h.below)
      obtain ⟨x0, x1, x2, x3⟩ := HR2.out.cells
      obtain ⟨f0, f1, f2, f3⟩ := HR2.out.free
      go_simp
      refine hK _ _ ?_
      refine wpAny_done (by decide +kernel) ?_ _
      have HD := Lib.hid (nd_done (chainN h.below B1.out) (Nat.le_succ _) hn4 (.bool (⟨true, ND.rep s.keys f (f + 1) [x.toList], ND.rep s.vals f (f + 1) [y.toList], []⟩ : ND).leaf) (.slice A' n' c') (.slice B' m' d') (.slice C' k' e'))
      rw [ev] at HD
      obtain ⟨y0, y1, y2, y3⟩ := (HR2.out.put (.bool (⟨true, ND.rep s.keys f (f + 1) [x.toList], ND.rep s.vals f (f + 1) [y.toList], []⟩ : ND).leaf) (.slice A' n' c') (.slice B' m' d') (.slice C' k' e')).cells
      refine HM _ _ ?_
      refine wp_ret ?_
      refine bodyPost_ret (v := .agg #[.bool (⟨true, ND.rep s.keys f (f + 1) [x.toList], ND.rep s.vals f (f + 1) [y.toList], []⟩ : ND).leaf, .slice A' n' c', .slice B' m' d', .slice C' k' e']) (by simp [results, Try.results24, go_sem, q2, y0, y1, y2, y3]) (h.df.trans rfl) ?_
      exact ⟨_, rfl, by rw [HP.out]; exact HD.out.1, HD.out.2⟩
  | false =>
    have HP := Lib.hid (ND.put_new y.toList his)
    clear his
    generalize ND.findN x.toList s.keys = f at *
    go_upto_region 7 with fail
    rename_i KK HM
    refine wp_region_flow 15 1 (SP.at_ (putF w.heap.size (w.heap.size + 1) A n c B n d f (f) x y ⟨true, ND.rep s.keys f (f) [x.toList], ND.rep s.vals f (f) [y.toList], []⟩)) (by kernel_rfl) rfl (by kernel_rfl) (by kernel_rfl) (by kernel_rfl) (SP.at_st _) ?_ ?_
    · intro i o L a wx hi ho h hd
      have e3 : a.eval (.tmp 3) = .pointer (some ⟨w.heap.size, 0, none⟩) := (h.old 3 (by kernel_rfl)).trans rfl
      have e7 : a.eval (.tmp 7) = .int .i64 (f : Int) := (h.old 7 (by kernel_rfl)).trans rfl
      have e9 : a.eval (.tmp 9) = .int .i64 ((f : Nat) : Int) := (h.old 9 (by kernel_rfl)).trans rfl
      have ek : a.eval (.tmp 1) = .string x := (h.old 1 (by kernel_rfl)).trans rfl
      have ey : a.eval (.tmp 2) = .string y := (h.old 2 (by kernel_rfl)).trans rfl
      obtain ⟨c0, c1, c2, c3⟩ := (HB1.out.kept h.below).cells
      match i, hi, ho, hd with
      | 0, _, ho, hd =>
        obtain rfl := Option.some.inj ho
        refine wpOp_step rfl (fun K hK => ?_)
        refine (if_pos (by rfl)).mpr ?_
        have q0 := got e3
        go_simp
        exact hK _ _ ⟨_, _, rfl, rfl, rfl, Below.refl _ _⟩
      | 1, _, ho, hd =>
        obtain rfl := Option.some.inj ho
        refine wpOp_step rfl (fun K hK => ?_)
        refine (if_pos (by rfl)).mpr ?_
        have q0 := got (h.got 0 _ _ rfl (by decide) (hd ⟨0, .data⟩ (by simp) rfl) rfl)
        go_simp
        exact hK _ _ ⟨_, _, rfl, rfl, rfl, Below.refl _ _⟩
      | 2, _, ho, hd =>
        obtain rfl := Option.some.inj ho
        refine wpOp_step rfl (fun K hK => ?_)
        refine (if_pos (by rfl)).mpr ?_
        have q0 := got e7
        go_simp
        exact hK _ _ ⟨_, _, rfl, rfl, rfl, Below.refl _ _⟩
      | 3, _, ho, hd =>
        obtain rfl := Option.some.inj ho
        refine wpOp_step rfl (fun K hK => ?_)
        refine (if_pos (by rfl)).mpr ?_
        have q0 := got e9
        go_simp
        exact hK _ _ ⟨_, _, rfl, rfl, rfl, Below.refl _ _⟩
      | 4, _, ho, hd =>
        obtain rfl := Option.some.inj ho
        refine wpOp_step rfl (fun K hK => ?_)
        refine (if_pos (by rfl)).mpr ?_
        have q0 := got ek
        go_simp
        exact hK _ _ ⟨_, _, rfl, rfl, rfl, Below.refl _ _⟩
      | 5, _, ho, hd =>
        obtain rfl := Option.some.inj ho
        refine wpOp_step rfl (fun K hK => ?_)
        refine (if_pos (by rfl)).mpr ?_
        have q0 := got (h.got 4 _ _ rfl (by decide) (hd ⟨4, .data⟩ (by simp) rfl) rfl)
        go_simp
        exact hK _ _ ⟨_, _, rfl, rfl, ln_str wx x, below_one _ _⟩
      | 6, _, ho, hd =>
        obtain rfl := Option.some.inj ho
        refine wpOp_step rfl (fun K hK => ?_)
        refine (if_pos (by rfl)).mpr ?_
        have q0 := got (h.got 1 _ _ rfl (by decide) (hd ⟨1, .data⟩ (by simp) rfl) rfl)
        have q1 := got (h.got 2 _ _ rfl (by decide) (hd ⟨2, .data⟩ (by simp) rfl) rfl)
        have q2 := got (h.got 3 _ _ rfl (by decide) (hd ⟨3, .data⟩ (by simp) rfl) rfl)
        obtain ⟨Z, z, ez, hz, _, _⟩ := (h.got 5 _ _ rfl (by decide) (hd ⟨5, .data⟩ (by simp) rfl) rfl)
        have q3 := got ez
        have hbs := h.below.size
        go_simp
        refine (ereplaced_S A n c (strVals s.keys) f (f) Z 1 z _ wx (HS1.out.ke.kept h.below) (strVals_one _) hz (one_str _) (by omega) (by omega) hn (by omega)).mono ?_
        rintro e w3 ⟨v3, rfl, o3, b3⟩
        rw [str_one, str_rep] at o3
        exact hK _ _ ⟨v3, _, rfl, rfl, ln_of_row o3 rfl (by omega), b3⟩
      | 7, _, ho, hd =>
        obtain rfl := Option.some.inj ho
        refine wpOp_step rfl (fun K hK => ?_)
        refine (if_pos (by rfl)).mpr ?_
        have q0 := got e3
        go_simp
        exact hK _ _ ⟨_, _, rfl, rfl, rfl, Below.refl _ _⟩
      | 8, _, ho, hd =>
        obtain rfl := Option.some.inj ho
        refine wpOp_step rfl (fun K hK => ?_)
        refine (if_pos (by rfl)).mpr ?_
        have q0 := got (h.got 7 _ _ rfl (by decide) (hd ⟨7, .data⟩ (by simp) rfl) rfl)
        go_simp
        exact hK _ _ ⟨_, _, rfl, rfl, rfl, Below.refl _ _⟩
      | 9, _, ho, hd =>
        obtain rfl := Option.some.inj ho
        refine wpOp_step rfl (fun K hK => ?_)
        refine (if_pos (by rfl)).mpr ?_
        have q0 := got e7
        go_simp
        exact hK _ _ ⟨_, _, rfl, rfl, rfl, Below.refl _ _⟩
      | 10, _, ho, hd =>
        obtain rfl := Option.some.inj ho
        refine wpOp_step rfl (fun K hK => ?_)
        refine (if_pos (by rfl)).mpr ?_
        have q0 := got e9
        go_simp
        exact hK _ _ ⟨_, _, rfl, rfl, rfl, Below.refl _ _⟩
      | 11, _, ho, hd =>
        obtain rfl := Option.some.inj ho
        refine wpOp_step rfl (fun K hK => ?_)
        refine (if_pos (by rfl)).mpr ?_
        have q0 := got ey
        go_simp
        exact hK _ _ ⟨_, _, rfl, rfl, rfl, Below.refl _ _⟩
      | 12, _, ho, hd =>
        obtain rfl := Option.some.inj ho
        refine wpOp_step rfl (fun K hK => ?_)
        refine (if_pos (by rfl)).mpr ?_
        have q0 := got (h.got 11 _ _ rfl (by decide) (hd ⟨11, .data⟩ (by simp) rfl) rfl)
        go_simp
        exact hK _ _ ⟨_, _, rfl, rfl, ln_str wx y, below_one _ _⟩
      | 13, _, ho, hd =>
        obtain rfl := Option.some.inj ho
        refine wpOp_step rfl (fun K hK => ?_)
        refine (if_pos (by rfl)).mpr ?_
        have q0 := got (h.got 8 _ _ rfl (by decide) (hd ⟨8, .data⟩ (by simp) rfl) rfl)
        have q1 := got (h.got 9 _ _ rfl (by decide) (hd ⟨9, .data⟩ (by simp) rfl) rfl)
        have q2 := got (h.got 10 _ _ rfl (by decide) (hd ⟨10, .data⟩ (by simp) rfl) rfl)
        obtain ⟨Z, z, ez, hz, _, _⟩ := (h.got 12 _ _ rfl (by decide) (hd ⟨12, .data⟩ (by simp) rfl) rfl)
        have q3 := got ez
        have hbs := h.below.size
        go_simp
        refine (ereplaced_S B n d (strVals s.vals) f (f) Z 1 z _ wx (HS1.out.va.kept h.below) (strVals_one _) hz (one_str _) (by omega) (by omega) hn (by omega)).mono ?_
        rintro e w3 ⟨v3, rfl, o3, b3⟩
        rw [str_one, str_rep] at o3
        exact hK _ _ ⟨v3, _, rfl, rfl, ln_of_row o3 rfl (by omega), b3⟩
      | 14, _, ho, hd =>
        obtain rfl := Option.some.inj ho
        refine wpOp_step rfl (fun K hK => ?_)
        refine (if_pos (by rfl)).mpr ?_
        obtain ⟨A1, a1, z1, l1, i1, _⟩ := (h.got 6 _ _ rfl (by decide) (hd ⟨6, .data⟩ (by simp) rfl) rfl)
        obtain ⟨A2, a2, z2, l2, i2, _⟩ := (h.got 13 _ _ rfl (by decide) (hd ⟨13, .data⟩ (by simp) rfl) rfl)
        have y1 := got z1
        have y2 := got z2
        go_simp
        exact hK _ _ ⟨_, _, rfl, rfl, ⟨A1, _, a1, A2, _, a2, none, 0, 0, rfl, ⟨l1, l2, Ln.none_ _ 1⟩, i1, i2, NHi.none_ _⟩, Below.refl _ _⟩
      | j + 15, hi, _, _ => exact absurd hi (by omega)
    · intro mm L a wx h hd
      refine wpAny_ready (rs := [15]) (by decide +kernel) (by simp) (AllReady.cons rfl (fun K hK => ?_) AllReady.nil)
      refine (if_pos (by rfl)).mpr ?_
      have hn4 := h.got 14 _ _ rfl (by decide) (hd 14 (by decide)) rfl
      obtain ⟨A', n', c', B', m', d', C', k', e', ev, _, _, _, _⟩ := id hn4
      have q := got ev
      have q2 := got ((h.old 6 (by kernel_rfl)).trans rfl : a.eval (.tmp 6) = .pointer (some ⟨w.heap.size + 1, 0, none⟩))
      have HR2 := Lib.hid (HR1.out.kept h.below)
      obtain ⟨x0, x1, x2, x3⟩ := HR2.out.cells
      obtain ⟨f0, f1, f2, f3⟩ := HR2.out.free
      go_simp
      refine hK _ _ ?_
      refine wpAny_done (by decide +kernel) ?_ _
      have HD := Lib.hid (nd_done (chainN h.below B1.out) (Nat.le_succ _) hn4 (.bool (⟨true, ND.rep s.keys f (f) [x.toList], ND.rep s.vals f (f) [y.toList], []⟩ : ND).leaf) (.slice A' n' c') (.slice B' m' d') (.slice C' k' e'))
      rw [ev] at HD
      obtain ⟨y0, y1, y2, y3⟩ := (HR2.out.put (.bool (⟨true, ND.rep s.keys f (f) [x.toList], ND.rep s.vals f (f) [y.toList], []⟩ : ND).leaf) (.slice A' n' c') (.slice B' m' d') (.slice C' k' e')).cells
      refine HM _ _ ?_
      refine wp_ret ?_
      refine bodyPost_ret (v := .agg #[.bool (⟨true, ND.rep s.keys f (f) [x.toList], ND.rep s.vals f (f) [y.toList], []⟩ : ND).leaf, .slice A' n' c', .slice B' m' d', .slice C' k' e']) (by simp [results, Try.results24, go_sem, q2, y0, y1, y2, y3]) (h.df.trans rfl) ?_
      exact ⟨_, rfl, by rw [HP.out]; exact HD.out.1, HD.out.2⟩
end Go.Proofs.Ytcdfjaldnelfjaa
