/-
  A part of the proof: what its texts say stands at the head of each. Conditions: none.
-/
import Derived.Deep.Cut
import Derived.Deep.QuietTactic
import Derived.BigQuiet
import Derived.Test.YtnmiccagkfpkiaaGreatZD2
import Derived.Test.YtnmiccagkfpkiaaGreatZD3
import Derived.Test.YtnmiccagkfpkiaaGreatZD4
import Derived.Test.YtnmiccagkfpkiaaGreatZD5

/-
  A script of calls that comes in.
-/
namespace Go.Proofs.YtnmiccagkfpkiaaGreat
open Go.ChangeShapes Go.WideShapes Go.ChangeAt Go.RowKit Go.Joins Go.Deep

/-- One call of a script: its superblock, and where its list lies, and what is done to the disk. -/
structure UCl where
  kind : Int
  s : SB
  A : Option Addr
  n : Nat
  c : Nat
  d : Cl

def UCl.vals (u : UCl) : List Value := .int .i64 u.kind :: ([.int .i64 u.s.ep, .int .i64 u.s.ro, .int .i64 u.s.he, .slice u.A u.n u.c, .int .i64 u.s.ct] ++ u.d.vals)

structure UClAt (w : World) (u : UCl) : Prop where
  kind : In64 u.kind
  ln : Ln w 1 u.A u.n u.c (intVals u.s.pg)
  d : ClAt w w.heap.size u.d

/-- A script. -/
def UScript (w : World) (A : Option Addr) (l : List UCl) : Prop :=
  l = [] ∨ ∃ b off, A = some ⟨b, off, none⟩ ∧ b < w.heap.size ∧ ∀ i u, l[i]? = some u → UClAt w u ∧ ∀ j, j < 12 → w.cell? ⟨b, off + i * 12 + j, none⟩ = u.vals[j]?

theorem UScript.at_ {w : World} {A : Option Addr} {l : List UCl} (h : UScript w A l) {k : Nat} (hk : k < l.length) :
    ∃ b off u, A = some ⟨b, off, none⟩ ∧ b < w.heap.size ∧ UClAt w u ∧ ∀ j, j < 12 → w.cell? ⟨b, off + k * 12 + j, none⟩ = u.vals[j]? := by
  rcases h with rfl | ⟨b, off, rfl, hR, hc⟩
  · exact absurd hk (by simp)
  · obtain ⟨h1, h2⟩ := hc k _ (List.getElem?_eq_getElem hk)
    exact ⟨b, off, l[k], rfl, hR, h1, h2⟩

section
variable {H : Type} {enc : TypeId × Value → H} {w : World} {base : Nat} {spare : Nat → Bool} {held : Bool}

set_option maxRecDepth 20000 in
theorem ucallCells12 : Tryz.prog.cellsOf 38 = 12 := by kernel_rfl

set_option maxRecDepth 20000 in
theorem ucall_of {fuel : Nat} {cs : List Value} {x : DataW H × List MemPlace} (h : DataW.trod enc Tryz.prog w base spare held fuel 38 cs = some x) :
    ∃ u : UCl, cs = u.vals ∧ UClAt w u := by
  obtain ⟨ys, n, _, _, hlen, hys, hf⟩ := DataW.trod_struct Tryz.underlying38 h
  rw [ucallCells12] at hlen
  obtain ⟨y0, y1, y2, rfl⟩ : ∃ a b c, ys = [a, b, c] := by
    match ys, hys with
    | [a, b, c], _ => exact ⟨a, b, c, rfl⟩
  have h0 : DataW.trod enc Tryz.prog w base spare held n 3 ((cs.drop 0).take (Tryz.prog.cellsOf 3)) = some y0 := hf 0 _ rfl
  have h1 : DataW.trod enc Tryz.prog w base spare held n 33 ((cs.drop 1).take (Tryz.prog.cellsOf 33)) = some y1 := hf 1 _ rfl
  have h2 : DataW.trod enc Tryz.prog w base spare held n 36 ((cs.drop 6).take (Tryz.prog.cellsOf 36)) = some y2 := hf 2 _ rfl
  rw [numCells1] at h0
  rw [superCells5] at h1
  rw [callCells6] at h2
  obtain ⟨z0, e0, _, w0⟩ := DataW.trod_int Tryz.underlying3 h0
  obtain ⟨s, A, m, k, e1, l1, _, _⟩ := super_of h1
  obtain ⟨c, e2, hc⟩ := call_of h2
  have hcs : cs = (cs.drop 0).take 1 ++ ((cs.drop 1).take 5 ++ (cs.drop 6).take 6) := by
    have a1 : (cs.drop 6).take 6 = cs.drop 6 := List.take_of_length_le (by rw [List.length_drop]; omega)
    have a2 : cs.drop 6 = (cs.drop 1).drop 5 := by rw [List.drop_drop]
    rw [a1, a2, List.take_append_drop, List.drop_zero, List.take_append_drop]
  refine ⟨⟨z0, s, A, m, k, c⟩, ?_, ⟨in64_of w0, l1, hc⟩⟩
  rw [hcs, e0, e1, e2]
  rfl

set_option maxRecDepth 20000 in
/-- A script that comes in. -/
theorem open_ucalls {v : Value} {d : DataW H} {p : List MemPlace} {r : Reach} {b0 : Nat} (hv : Value.okWide Tryz.prog w r b0 22 v) (h : DataW.Trod enc Tryz.prog w base spare held 22 v d p) :
    ∃ (A : Option Addr) (n c : Nat) (l : List UCl), v = .slice A n c ∧ l.length = n ∧ UScript w A l ∧ n ≤ maxLen := by
  obtain ⟨A, n, c, rfl⟩ := okWide_slice Tryz.underlying22 hv
  obtain ⟨fuel, hf⟩ := h
  rcases open_slice Tryz.underlying22 hf with ⟨hcs, _⟩ | ⟨a, len, cap, m, f, D, Pl, hcs, _, hl, hcm, hm, _, hi⟩
  · simp [Value.cells] at hcs
    obtain ⟨rfl, rfl, rfl⟩ := hcs
    exact ⟨none, 0, 0, [], rfl, rfl, Or.inl rfl, Nat.zero_le _⟩
  · simp [Value.cells] at hcs
    obtain ⟨rfl, rfl, rfl⟩ := hcs
    have hlm : n ≤ m := by rw [hm]; split <;> omega
    have each : ∀ i, i < n → ∃ u : UCl, UClAt w u ∧ ∀ j, j < 12 → w.cell? ((a.add (i * 12)).add j) = u.vals[j]? := by
      intro i hin
      obtain ⟨cs', hc, ht⟩ := hi i (by omega)
      rw [ucallCells12] at hc
      obtain ⟨u, rfl, hua⟩ := ucall_of ht
      obtain ⟨_, _, hat⟩ := World.cells?_some hc
      exact ⟨u, hua, fun j hj => hat j hj⟩
    obtain ⟨xs, hlen, hx⟩ := pick_each (fun i (u : UCl) => UClAt w u ∧ ∀ j, j < 12 → w.cell? ((a.add (i * 12)).add j) = u.vals[j]?) (fun v => v) n each
    refine ⟨_, _, _, xs, rfl, hlen, ?_, Nat.le_trans hl hcm⟩
    by_cases hx0 : xs = []
    · exact Or.inl hx0
    · right
      obtain ⟨b, off, spot⟩ := a
      have hpos : 0 < xs.length := by
        rcases xs with _ | ⟨y, ys⟩
        · exact absurd rfl hx0
        · simp
      have h00 := (hx 0 _ (List.getElem?_eq_getElem hpos)).2 0 (by omega)
      have h01 : w.cell? (((⟨b, off, spot⟩ : Addr).add (0 * 12)).add 0) = some (.int .i64 xs[0].kind) := h00
      have hs : spot = none := by
        simpa [Addr.add] using World.cell?_spot h01
      subst hs
      refine ⟨b, off, rfl, ?_, fun i u hu => ?_⟩
      · rw [addr_add, addr_add] at h01
        exact World.block_lt_of_cell? _ _ h01
      · obtain ⟨h0, h1⟩ := hx i u hu
        refine ⟨h0, fun j hj => ?_⟩
        have := h1 j hj
        rw [addr_add, addr_add] at this
        exact this
end
end Go.Proofs.YtnmiccagkfpkiaaGreat

/-
  What the document's own Same comes to (package tailraceref09).
-/
namespace Go.Proofs.YtnmiccagkfpkiaaGreat
open Go.RowKit

/-- What Same answers. -/
def USame (w : World) (s t : SB) (e : Ending) (w' : World) : Prop := ∃ r : Bool, e = .returned (.bool r) ∧ (s = t → r = true) ∧ Below w.heap.size w w'

set_option maxRecDepth 20000 in
set_option maxHeartbeats 3200000 in
theorem usame_any (ep ro he ct ep' ro' he' ct' : Int) (A B : Option Addr) (n c m d : Nat) (pg pg' : List Int) (w : World) (hz : Ln w 1 A n c (intVals pg)) (hy : Ln w 1 B m d (intVals pg')) (hn : n ≤ 1000000) :
    Calls Tryz.prog 13 #[.agg #[.int .i64 ep, .int .i64 ro, .int .i64 he, .slice A n c, .int .i64 ct], .agg #[.int .i64 ep', .int .i64 ro', .int .i64 he', .slice B m d, .int .i64 ct']] w (USame w ⟨ep, ro, he, ct, pg⟩ ⟨ep', ro', he', ct', pg'⟩) := by
  have b1 := below_two w (.cells #[.int .i64 ep, .int .i64 ro, .int .i64 he, .slice A n c, .int .i64 ct] 33) (.cells #[.int .i64 ep', .int .i64 ro', .int .i64 he', .slice B m d, .int .i64 ct'] 33)
  have HB := Lib.hid ((ubox_new w (.int .i64 ep) (.int .i64 ro) (.int .i64 he) (.slice A n c) (.int .i64 ct)).kept (below_one _ (.cells #[.int .i64 ep', .int .i64 ro', .int .i64 he', .slice B m d, .int .i64 ct'] 33)))
  have HC : UBox ((w.alloc (.cells #[.int .i64 ep, .int .i64 ro, .int .i64 he, .slice A n c, .int .i64 ct] 33)).alloc (.cells #[.int .i64 ep', .int .i64 ro', .int .i64 he', .slice B m d, .int .i64 ct'] 33)) (w.heap.size + 1) (.int .i64 ep') (.int .i64 ro') (.int .i64 he') (.slice B m d) (.int .i64 ct') := by
    have := ubox_new (w.alloc (.cells #[.int .i64 ep, .int .i64 ro, .int .i64 he, .slice A n c, .int .i64 ct] 33)) (.int .i64 ep') (.int .i64 ro') (.int .i64 he') (.slice B m d) (.int .i64 ct')
    rw [show (w.alloc (.cells #[.int .i64 ep, .int .i64 ro, .int .i64 he, .slice A n c, .int .i64 ct] 33)).heap.size = w.heap.size + 1 by simp] at this
    exact this
  have HC := Lib.hid HC
  have B1 := Lib.hid b1
  have HZ := Lib.hid (hz.kept b1)
  have HY := Lib.hid (hy.kept b1)
  have HN := Lib.hid hz.intN
  have HM := Lib.hid hy.intN
  clear hz hy b1
  go_enter Tryz.func13, Tryz.ntmps13
  go_upto_region 1 with fail
  generalize (w.alloc (.cells #[.int .i64 ep, .int .i64 ro, .int .i64 he, .slice A n c, .int .i64 ct] 33)).alloc (.cells #[.int .i64 ep', .int .i64 ro', .int .i64 he', .slice B m d, .int .i64 ct'] 33) = w1 at *
  obtain ⟨c0, c1, c2, c3, c4⟩ := HB.out.cells
  obtain ⟨d0, d1, d2, d3, d4⟩ := HC.out.cells
  by_cases h0 : ep = ep'
  case neg =>
    have hb : (ep != ep') = true := by rw [bne_iff_ne]; exact h0
    have HE : Hid (∀ pg pg', ¬ (SB.mk ep ro he ct pg = SB.mk ep' ro' he' ct' pg')) := Lib.hid (fun _ _ e => h0 (congrArg SB.ep e))
    clear h0
    go_wp2_with fail
    go_ret
    exact ⟨_, rfl, fun e => absurd e (HE.out _ _), B1.out⟩
  by_cases h1 : ro = ro'
  case neg =>
    have ha : (ep != ep') = false := by rw [h0]; exact bne_self_eq_false _
    have hb : (ro != ro') = true := by rw [bne_iff_ne]; exact h1
    have HE : Hid (∀ pg pg', ¬ (SB.mk ep ro he ct pg = SB.mk ep' ro' he' ct' pg')) := Lib.hid (fun _ _ e => h1 (congrArg SB.ro e))
    clear h0 h1
    go_wp2_with fail
    go_ret
    exact ⟨_, rfl, fun e => absurd e (HE.out _ _), B1.out⟩
  by_cases h2 : he = he'
  case neg =>
    have ha : (ep != ep') = false := by rw [h0]; exact bne_self_eq_false _
    have hb : (ro != ro') = false := by rw [h1]; exact bne_self_eq_false _
    have hc : (he != he') = true := by rw [bne_iff_ne]; exact h2
    have HE : Hid (∀ pg pg', ¬ (SB.mk ep ro he ct pg = SB.mk ep' ro' he' ct' pg')) := Lib.hid (fun _ _ e => h2 (congrArg SB.he e))
    clear h0 h1 h2
    go_wp2_with fail
    go_ret
    exact ⟨_, rfl, fun e => absurd e (HE.out _ _), B1.out⟩
  by_cases h3 : ct = ct'
  case neg =>
    have ha : (ep != ep') = false := by rw [h0]; exact bne_self_eq_false _
    have hb : (ro != ro') = false := by rw [h1]; exact bne_self_eq_false _
    have hc : (he != he') = false := by rw [h2]; exact bne_self_eq_false _
    have hd : (ct != ct') = true := by rw [bne_iff_ne]; exact h3
    have HE : Hid (∀ pg pg', ¬ (SB.mk ep ro he ct pg = SB.mk ep' ro' he' ct' pg')) := Lib.hid (fun _ _ e => h3 (congrArg SB.ct e))
    clear h0 h1 h2 h3
    go_wp2_with fail
    go_ret
    exact ⟨_, rfl, fun e => absurd e (HE.out _ _), B1.out⟩
  have ha : (ep != ep') = false := by rw [h0]; exact bne_self_eq_false _
  have hb : (ro != ro') = false := by rw [h1]; exact bne_self_eq_false _
  have hc : (he != he') = false := by rw [h2]; exact bne_self_eq_false _
  have hd : (ct != ct') = false := by rw [h3]; exact bne_self_eq_false _
  clear h0 h1 h2 h3
  by_cases h4 : n = m
  case neg =>
    have hlen : ((n : Int) != (m : Int)) = true := by rw [bne_iff_ne]; omega
    have HE : Hid (¬ (SB.mk ep ro he ct pg = SB.mk ep' ro' he' ct' pg')) := Lib.hid (fun e => by
      have h5 : pg = pg' := congrArg SB.pg e
      have := HN.out
      have := HM.out
      rw [h5] at HN
      exact h4 (HN.out.symm.trans HM.out))
    clear h4
    go_wp2_with fail
    go_ret
    exact ⟨_, rfl, fun e => absurd e HE.out, B1.out⟩
  subst h4
  go_wp2_with fail
  clear c0 c1 c2 c3 c4 d0 d1 d2 d3 d4 ha hb hc hd
  obtain ⟨wo, hwo⟩ : ∃ wo : World, wo = w1 := ⟨_, rfl⟩
  subst hwo
  go_loopw [5] (fun i wk => ∃ k : Nat, k ≤ n ∧ i = .int .i64 k ∧ Hid (Below w.heap.size w wk) ∧ Hid (Below wo.heap.size wo wk)) (fun i _ => n - (RowKit.intOf i).toNat)
  case atStart => exact ⟨0, Nat.zero_le _, rfl, B1, Lib.hid (Below.refl _ _)⟩
  case round =>
    obtain ⟨k, hk, rfl, BK, BL⟩ := hrel
    obtain ⟨c0, c1, c2, c3, c4⟩ := (HB.out.kept BL.out).cells
    obtain ⟨d0, d1, d2, d3, d4⟩ := (HC.out.kept BL.out).cells
    by_cases hlt : k < n
    · obtain ⟨b, off, x, rfl, hv, f0⟩ := (HZ.out.kept BL.out).intAt hlt
      obtain ⟨b', off', y, rfl, hv', g0⟩ := (HY.out.kept BL.out).intAt hlt
      have BK2 := Lib.hid (belowN BK.out 1)
      have BL2 := Lib.hid (belowN BL.out 1)
      by_cases hx : x = y
      · have hb : (x != y) = false := by rw [hx]; exact bne_self_eq_false _
        clear hx hv hv'
        go_wp2_with fail
        go_quiet (fail)
        go_wp2_with fail
        go_roundw
        case rel => exact ⟨k + 1, by omega, by go_num, by first | exact BK2 | exact BK | exact Lib.hid ⟨BK.out.os, BK.out.tape, BK.out.output, BK.out.size, BK.out.block⟩, by first | exact BL2 | exact BL | exact Lib.hid ⟨BL.out.os, BL.out.tape, BL.out.output, BL.out.size, BL.out.block⟩⟩
        case measure => simp [RowKit.intOf]; omega
      · have hb : (x != y) = true := by rw [bne_iff_ne]; exact hx
        have HE : Hid (¬ (SB.mk ep ro he ct pg = SB.mk ep' ro' he' ct' pg')) := Lib.hid (fun e => by
          have h5 : pg = pg' := congrArg SB.pg e
          rw [h5, hv'] at hv
          exact hx (Option.some.inj hv).symm)
        clear hx hv hv'
        go_wp2_with fail
        go_quiet (fail)
        go_wp2_with fail
        go_ret
        exact ⟨_, rfl, fun e => absurd e HE.out, by first | exact BK2.out | exact BK.out | exact ⟨BK.out.os, BK.out.tape, BK.out.output, BK.out.size, BK.out.block⟩⟩
    · obtain rfl : n = k := by omega
      go_wp2_with fail
      go_ret
      exact ⟨_, rfl, fun _ => rfl, BK.out⟩
end Go.Proofs.YtnmiccagkfpkiaaGreat

/-
  What the laws' few comes to, and what a block for an answer adds.
-/
namespace Go.Proofs.YtnmiccagkfpkiaaGreat
open Go.RowKit

set_option maxRecDepth 20000 in
theorem ufew_any (x y z p : Value) (A : Option Addr) (n c : Nat) (w : World) :
    Calls Tryz.prog 8 #[.agg #[x, y, z, .slice A n c, p]] w fun e w' => e = .returned (.bool (decide (n ≤ 200))) ∧ Below w.heap.size w w' := by
  have HB := Lib.hid (ubox_new w x y z (.slice A n c) p)
  have B1 := Lib.hid (below_one w (.cells #[x, y, z, .slice A n c, p] 33))
  go_enter Tryz.func8, Tryz.ntmps8
  go_upto_region 1 with fail
  generalize w.alloc (.cells #[x, y, z, .slice A n c, p] 33) = w1 at *
  obtain ⟨c0, c1, c2, c3, c4⟩ := HB.out.cells
  go_wp2_with fail
  go_ret
  refine ⟨ret_bool ?_, B1.out⟩
  apply decide_eq_decide.2
  omega

theorem chainU {w1 wx w3 : World} (b : Below wx.heap.size wx w3) (h : Below w1.heap.size w1 wx) : Below w1.heap.size w1 w3 := h.trans (b.mono h.size)
/-- A block for an answer. -/
theorem uboxed {w1 w6 : World} {A : Option Addr} {n c : Nat} {pg : List Int} (b : Below w1.heap.size w1 w6) (l : Ln w6 1 A n c (intVals pg)) (ep ro he ct : Int) :
    Below w1.heap.size w1 (w6.alloc (.cells #[.int .i64 ep, .int .i64 ro, .int .i64 he, .slice A n c, .int .i64 ct] 33)) ∧
    UBox (w6.alloc (.cells #[.int .i64 ep, .int .i64 ro, .int .i64 he, .slice A n c, .int .i64 ct] 33)) w6.heap.size (.int .i64 ep) (.int .i64 ro) (.int .i64 he) (.slice A n c) (.int .i64 ct) ∧
    Ln (w6.alloc (.cells #[.int .i64 ep, .int .i64 ro, .int .i64 he, .slice A n c, .int .i64 ct] 33)) 1 A n c (intVals pg) :=
  ⟨chainU (below_one w6 _) b, ubox_new w6 _ _ _ _ _, l.kept (below_one w6 _)⟩
end Go.Proofs.YtnmiccagkfpkiaaGreat

/-
  What the document's own within and Check come to (package tailraceref09).
-/
namespace Go.Proofs.YtnmiccagkfpkiaaGreat
open Go.RowKit

set_option maxRecDepth 20000 in
theorem refWithin_any (z lo hi : Int) (w : World) : Calls Tryz.prog 70 #[.int .i64 z, .int .i64 lo, .int .i64 hi] w fun e w' => e = .returned (.bool (rng z lo hi)) ∧ w' = w := by
  by_cases h1 : lo ≤ z
  · go_enter Tryz.func70, Tryz.ntmps70
    go_wp2_with fail
    go_ret
    refine ⟨ret_bool ?_, rfl⟩
    unfold rng
    simp [h1]
  · have h2 : z < lo := by omega
    go_enter Tryz.func70, Tryz.ntmps70
    go_wp2_with fail
    go_ret
    refine ⟨ret_bool ?_, rfl⟩
    unfold rng
    symm
    exact decide_eq_false (fun h => by omega)

theorem tree_high {he ro : Int} (h : rng he 0 20 = false) : SB.treeB he ro = false := by
  have h1 : ¬ (0 ≤ he ∧ he ≤ 20) := fun e => by rw [rng_iff.2 e] at h; cases h
  unfold SB.treeB
  rw [if_neg (by omega)]
  have : rng he 1 20 = false := decide_eq_false (by omega)
  rw [this]
  rfl
theorem tree_in {he ro : Int} (h : rng he 0 20 = true) (h0 : 0 < he) : SB.treeB he ro = SB.pageB ro := by
  have h1 := rng_iff.1 h
  unfold SB.treeB
  rw [if_neg (by omega)]
  have : rng he 1 20 = true := rng_iff.2 (by omega)
  rw [this]
  rfl
theorem not_ok {s : SB} (h : rng s.ep 0 2147483647 = false ∨ rng s.ct 0 2147483647 = false ∨ SB.treeB s.he s.ro = false ∨ SB.pagesB s.pg = false) : s.checkE = 90 := by
  refine checkE_bad ?_
  cases e : s.okB with
  | false => rfl
  | true =>
    obtain ⟨h1, h2, h3, h4⟩ := SB.okB_iff.1 e
    rw [h1, h2, h3, h4] at h
    simp at h

set_option maxRecDepth 20000 in
set_option maxHeartbeats 6400000 in
theorem refCheck_any (ep ro he ct : Int) (A : Option Addr) (n c : Nat) (pg : List Int) (w : World) (hz : Ln w 1 A n c (intVals pg)) (hn : n ≤ 1000000) :
    Calls Tryz.prog 53 #[.agg #[.int .i64 ep, .int .i64 ro, .int .i64 he, .slice A n c, .int .i64 ct]] w fun e w' => e = .returned (.int .i64 (SB.checkE ⟨ep, ro, he, ct, pg⟩)) ∧ Below w.heap.size w w' := by
  have HB := Lib.hid (ubox_new w (.int .i64 ep) (.int .i64 ro) (.int .i64 he) (.slice A n c) (.int .i64 ct))
  have b1 := below_one w (.cells #[.int .i64 ep, .int .i64 ro, .int .i64 he, .slice A n c, .int .i64 ct] 33)
  have B1 := Lib.hid b1
  have HZ := Lib.hid (hz.kept b1)
  have HN := Lib.hid hz.intN
  clear hz b1
  go_enter Tryz.func53, Tryz.ntmps53
  go_upto_region 1 with fail
  generalize w.alloc (.cells #[.int .i64 ep, .int .i64 ro, .int .i64 he, .slice A n c, .int .i64 ct] 33) = w1 at *
  obtain ⟨c0, c1, c2, c3, c4⟩ := HB.out.cells
  rcases (show he = 0 ∧ ro = 0 ∨ he = 0 ∧ ¬ ro = 0 ∨ 0 < he ∧ SB.pageB ro = true ∨ 0 < he ∧ SB.pageB ro = false ∨ he < 0 by
    rcases (show he = 0 ∨ 0 < he ∨ he < 0 by omega) with h | h | h
    · by_cases hr : ro = 0
      · exact Or.inl ⟨h, hr⟩
      · exact Or.inr (Or.inl ⟨h, hr⟩)
    · cases hp : SB.pageB ro with
      | true => exact Or.inr (Or.inr (Or.inl ⟨h, rfl⟩))
      | false => exact Or.inr (Or.inr (Or.inr (Or.inl ⟨h, rfl⟩)))
    · exact Or.inr (Or.inr (Or.inr (Or.inr h)))) with ⟨rfl, rfl⟩ | ⟨rfl, hr⟩ | ⟨hh, hp⟩ | ⟨hh, hp⟩ | hh
  · go_wp2_with fail
    refine (refWithin_any ep 0 2147483647 _).mono ?_
    rintro e w2 ⟨rfl, rfl⟩
    cases h1 : rng ep 0 2147483647 with
    | false =>
      go_wp2_with fail
      go_ret
      exact ⟨ret_int (not_ok (Or.inl h1)).symm, B1.out⟩
    | true =>
      have H1 := Lib.hid h1
      clear h1
      go_wp2_with fail
      refine (refWithin_any ct 0 2147483647 _).mono ?_
      rintro e w3 ⟨rfl, rfl⟩
      cases h2 : rng ct 0 2147483647 with
      | false =>
        go_wp2_with fail
        go_ret
        exact ⟨ret_int (not_ok (Or.inr (Or.inl h2))).symm, B1.out⟩
      | true =>
        have H2 := Lib.hid h2
        clear h2
        go_wp2_with fail
        refine (refWithin_any 0 0 20 _).mono ?_
        rintro e w4 ⟨rfl, rfl⟩
        cases h3 : rng 0 0 20 with
        | false =>
          go_wp2_with fail
          go_ret
          exact ⟨ret_int (not_ok (Or.inr (Or.inr (Or.inl (tree_high h3))))).symm, B1.out⟩
        | true =>
          have HT : Hid (SB.treeB 0 0 = true) := Lib.hid rfl
          go_wp2_with fail
          refine (refWithin_any _ 1 100 _).mono ?_
          rintro e w9 ⟨rfl, rfl⟩
          cases h5 : rng (n : Int) 1 100 with
          | false =>
            have HE := Lib.hid (not_ok (s := ⟨ep, 0, 0, ct, pg⟩) (Or.inr (Or.inr (Or.inr (show SB.pagesB pg = false by unfold SB.pagesB; rw [HN.out, h5]; rfl)))))
            clear h5
            go_wp2_with fail
            go_ret
            exact ⟨ret_int HE.out.symm, B1.out⟩
          | true =>
            have HPg : Hid (SB.pagesB pg = pg.all SB.pageB) := Lib.hid (by unfold SB.pagesB; rw [HN.out, h5]; rfl)
            clear h5
            go_wp2_with fail
            clear c0 c1 c2 c3 c4
            obtain ⟨wo, hwo⟩ : ∃ wo : World, wo = w9 := ⟨_, rfl⟩
            subst hwo
            go_loopw [5] (fun i wk => ∃ k : Nat, k ≤ n ∧ i = .int .i64 k ∧ Hid (UPgs pg k) ∧ wk = wo) (fun i _ => n - (RowKit.intOf i).toNat)
            case atStart => exact ⟨0, Nat.zero_le _, rfl, Lib.hid rfl, rfl⟩
            case round =>
              obtain ⟨k, hk, rfl, HL, hw⟩ := hrel
              have hw' := hw.symm
              subst hw'
              clear hw
              obtain ⟨c0, c1, c2, c3, c4⟩ := HB.out.cells
              by_cases hlt : k < n
              · obtain ⟨b, off, x, rfl, hv, d0⟩ := HZ.out.intAt hlt
                cases hx : SB.pageB x with
                | true =>
                  have HM := Lib.hid (HL.out.more hv hx)
                  have HX : Hid (rng x 2 2147483647 = true) := Lib.hid hx
                  clear hv HL hx
                  go_wp2_with fail
                  refine (refWithin_any x 2 2147483647 _).mono ?_
                  rintro e w10 ⟨rfl, rfl⟩
                  rw [HX.out]
                  go_wp2_with fail
                  go_roundw
                  case rel => exact ⟨k + 1, by omega, by go_num, HM, trivial⟩
                  case measure => simp [RowKit.intOf]; omega
                | false =>
                  have HE := Lib.hid (not_ok (s := ⟨ep, 0, 0, ct, pg⟩) (Or.inr (Or.inr (Or.inr (HPg.out.trans (upgs_hit hv hx))))))
                  have HX : Hid (rng x 2 2147483647 = false) := Lib.hid hx
                  clear hv HL hx
                  go_wp2_with fail
                  refine (refWithin_any x 2 2147483647 _).mono ?_
                  rintro e w10 ⟨rfl, rfl⟩
                  rw [HX.out]
                  go_wp2_with fail
                  go_ret
                  exact ⟨ret_int HE.out.symm, B1.out⟩
              · obtain rfl : n = k := by omega
                have hm := HL.out
                unfold UPgs at hm
                rw [List.take_of_length_le (by rw [HN.out]; exact Nat.le_refl _)] at hm
                have HE := Lib.hid (checkE_good (s := ⟨ep, 0, 0, ct, pg⟩) (SB.okB_iff.2 ⟨H1.out, H2.out, HT.out, HPg.out.trans hm⟩))
                clear hm
                go_wp2_with fail
                go_ret
                exact ⟨ret_int HE.out.symm, B1.out⟩
  · have hb : (ro == 0) = false := by rw [beq_eq_false_iff_ne]; exact hr
    go_wp2_with fail
    refine (refWithin_any ep 0 2147483647 _).mono ?_
    rintro e w2 ⟨rfl, rfl⟩
    cases h1 : rng ep 0 2147483647 with
    | false =>
      go_wp2_with fail
      go_ret
      exact ⟨ret_int (not_ok (Or.inl h1)).symm, B1.out⟩
    | true =>
      have H1 := Lib.hid h1
      clear h1
      go_wp2_with fail
      refine (refWithin_any ct 0 2147483647 _).mono ?_
      rintro e w3 ⟨rfl, rfl⟩
      cases h2 : rng ct 0 2147483647 with
      | false =>
        go_wp2_with fail
        go_ret
        exact ⟨ret_int (not_ok (Or.inr (Or.inl h2))).symm, B1.out⟩
      | true =>
        have H2 := Lib.hid h2
        clear h2
        go_wp2_with fail
        refine (refWithin_any 0 0 20 _).mono ?_
        rintro e w4 ⟨rfl, rfl⟩
        cases h3 : rng 0 0 20 with
        | false =>
          go_wp2_with fail
          go_ret
          exact ⟨ret_int (not_ok (Or.inr (Or.inr (Or.inl (tree_high h3))))).symm, B1.out⟩
        | true =>
          go_wp2_with fail
          go_ret
          exact ⟨ret_int (not_ok (Or.inr (Or.inr (Or.inl (show SB.treeB 0 ro = false from decide_eq_false hr))))).symm, B1.out⟩
  · have HP := Lib.hid hp
    clear hp
    have hb : (he == 0) = false := by rw [beq_eq_false_iff_ne]; omega
    go_wp2_with fail
    refine (refWithin_any ep 0 2147483647 _).mono ?_
    rintro e w2 ⟨rfl, rfl⟩
    cases h1 : rng ep 0 2147483647 with
    | false =>
      go_wp2_with fail
      refine (refWithin_any _ _ _ _).mono ?_
      rintro e w8 ⟨rfl, rfl⟩
      rw [show rng ro 2 2147483647 = true from HP.out]
      go_wp2_with fail
      go_ret
      exact ⟨ret_int (not_ok (Or.inl h1)).symm, B1.out⟩
    | true =>
      have H1 := Lib.hid h1
      clear h1
      go_wp2_with fail
      refine (refWithin_any ct 0 2147483647 _).mono ?_
      rintro e w3 ⟨rfl, rfl⟩
      cases h2 : rng ct 0 2147483647 with
      | false =>
        go_wp2_with fail
        refine (refWithin_any _ _ _ _).mono ?_
        rintro e w8 ⟨rfl, rfl⟩
        rw [show rng ro 2 2147483647 = true from HP.out]
        go_wp2_with fail
        go_ret
        exact ⟨ret_int (not_ok (Or.inr (Or.inl h2))).symm, B1.out⟩
      | true =>
        have H2 := Lib.hid h2
        clear h2
        go_wp2_with fail
        refine (refWithin_any he 0 20 _).mono ?_
        rintro e w4 ⟨rfl, rfl⟩
        cases h3 : rng he 0 20 with
        | false =>
          go_wp2_with fail
          refine (refWithin_any _ _ _ _).mono ?_
          rintro e w8 ⟨rfl, rfl⟩
          rw [show rng ro 2 2147483647 = true from HP.out]
          go_wp2_with fail
          go_ret
          exact ⟨ret_int (not_ok (Or.inr (Or.inr (Or.inl (tree_high h3))))).symm, B1.out⟩
        | true =>
          have HT : Hid (SB.treeB he ro = true) := Lib.hid ((tree_in h3 hh).trans HP.out)
          clear h3
          go_wp2_with fail
          refine (refWithin_any _ _ _ _).mono ?_
          rintro e w8 ⟨rfl, rfl⟩
          rw [show rng ro 2 2147483647 = true from HP.out]
          go_wp2_with fail
          refine (refWithin_any _ 1 100 _).mono ?_
          rintro e w9 ⟨rfl, rfl⟩
          cases h5 : rng (n : Int) 1 100 with
          | false =>
            have HE := Lib.hid (not_ok (s := ⟨ep, ro, he, ct, pg⟩) (Or.inr (Or.inr (Or.inr (show SB.pagesB pg = false by unfold SB.pagesB; rw [HN.out, h5]; rfl)))))
            clear h5
            go_wp2_with fail
            go_ret
            exact ⟨ret_int HE.out.symm, B1.out⟩
          | true =>
            have HPg : Hid (SB.pagesB pg = pg.all SB.pageB) := Lib.hid (by unfold SB.pagesB; rw [HN.out, h5]; rfl)
            clear h5
            go_wp2_with fail
            clear c0 c1 c2 c3 c4
            obtain ⟨wo, hwo⟩ : ∃ wo : World, wo = w9 := ⟨_, rfl⟩
            subst hwo
            go_loopw [5] (fun i wk => ∃ k : Nat, k ≤ n ∧ i = .int .i64 k ∧ Hid (UPgs pg k) ∧ wk = wo) (fun i _ => n - (RowKit.intOf i).toNat)
            case atStart => exact ⟨0, Nat.zero_le _, rfl, Lib.hid rfl, rfl⟩
            case round =>
              obtain ⟨k, hk, rfl, HL, hw⟩ := hrel
              have hw' := hw.symm
              subst hw'
              clear hw
              obtain ⟨c0, c1, c2, c3, c4⟩ := HB.out.cells
              by_cases hlt : k < n
              · obtain ⟨b, off, x, rfl, hv, d0⟩ := HZ.out.intAt hlt
                cases hx : SB.pageB x with
                | true =>
                  have HM := Lib.hid (HL.out.more hv hx)
                  have HX : Hid (rng x 2 2147483647 = true) := Lib.hid hx
                  clear hv HL hx
                  go_wp2_with fail
                  refine (refWithin_any x 2 2147483647 _).mono ?_
                  rintro e w10 ⟨rfl, rfl⟩
                  rw [HX.out]
                  go_wp2_with fail
                  go_roundw
                  case rel => exact ⟨k + 1, by omega, by go_num, HM, trivial⟩
                  case measure => simp [RowKit.intOf]; omega
                | false =>
                  have HE := Lib.hid (not_ok (s := ⟨ep, ro, he, ct, pg⟩) (Or.inr (Or.inr (Or.inr (HPg.out.trans (upgs_hit hv hx))))))
                  have HX : Hid (rng x 2 2147483647 = false) := Lib.hid hx
                  clear hv HL hx
                  go_wp2_with fail
                  refine (refWithin_any x 2 2147483647 _).mono ?_
                  rintro e w10 ⟨rfl, rfl⟩
                  rw [HX.out]
                  go_wp2_with fail
                  go_ret
                  exact ⟨ret_int HE.out.symm, B1.out⟩
              · obtain rfl : n = k := by omega
                have hm := HL.out
                unfold UPgs at hm
                rw [List.take_of_length_le (by rw [HN.out]; exact Nat.le_refl _)] at hm
                have HE := Lib.hid (checkE_good (s := ⟨ep, ro, he, ct, pg⟩) (SB.okB_iff.2 ⟨H1.out, H2.out, HT.out, HPg.out.trans hm⟩))
                clear hm
                go_wp2_with fail
                go_ret
                exact ⟨ret_int HE.out.symm, B1.out⟩
  · have HP := Lib.hid hp
    clear hp
    have hb : (he == 0) = false := by rw [beq_eq_false_iff_ne]; omega
    go_wp2_with fail
    refine (refWithin_any ep 0 2147483647 _).mono ?_
    rintro e w2 ⟨rfl, rfl⟩
    cases h1 : rng ep 0 2147483647 with
    | false =>
      go_wp2_with fail
      refine (refWithin_any _ _ _ _).mono ?_
      rintro e w8 ⟨rfl, rfl⟩
      rw [show rng ro 2 2147483647 = false from HP.out]
      go_wp2_with fail
      go_ret
      exact ⟨ret_int (not_ok (Or.inl h1)).symm, B1.out⟩
    | true =>
      have H1 := Lib.hid h1
      clear h1
      go_wp2_with fail
      refine (refWithin_any ct 0 2147483647 _).mono ?_
      rintro e w3 ⟨rfl, rfl⟩
      cases h2 : rng ct 0 2147483647 with
      | false =>
        go_wp2_with fail
        refine (refWithin_any _ _ _ _).mono ?_
        rintro e w8 ⟨rfl, rfl⟩
        rw [show rng ro 2 2147483647 = false from HP.out]
        go_wp2_with fail
        go_ret
        exact ⟨ret_int (not_ok (Or.inr (Or.inl h2))).symm, B1.out⟩
      | true =>
        have H2 := Lib.hid h2
        clear h2
        go_wp2_with fail
        refine (refWithin_any he 0 20 _).mono ?_
        rintro e w4 ⟨rfl, rfl⟩
        cases h3 : rng he 0 20 with
        | false =>
          go_wp2_with fail
          refine (refWithin_any _ _ _ _).mono ?_
          rintro e w8 ⟨rfl, rfl⟩
          rw [show rng ro 2 2147483647 = false from HP.out]
          go_wp2_with fail
          go_ret
          exact ⟨ret_int (not_ok (Or.inr (Or.inr (Or.inl (tree_high h3))))).symm, B1.out⟩
        | true =>
          go_wp2_with fail
          refine (refWithin_any _ _ _ _).mono ?_
          rintro e w8 ⟨rfl, rfl⟩
          rw [show rng ro 2 2147483647 = false from HP.out]
          go_wp2_with fail
          go_ret
          exact ⟨ret_int (not_ok (Or.inr (Or.inr (Or.inl ((tree_in h3 hh).trans HP.out))))).symm, B1.out⟩
  · have hb : (he == 0) = false := by rw [beq_eq_false_iff_ne]; omega
    go_wp2_with fail
    refine (refWithin_any ep 0 2147483647 _).mono ?_
    rintro e w2 ⟨rfl, rfl⟩
    cases h1 : rng ep 0 2147483647 with
    | false =>
      go_wp2_with fail
      go_ret
      exact ⟨ret_int (not_ok (Or.inl h1)).symm, B1.out⟩
    | true =>
      have H1 := Lib.hid h1
      clear h1
      go_wp2_with fail
      refine (refWithin_any ct 0 2147483647 _).mono ?_
      rintro e w3 ⟨rfl, rfl⟩
      cases h2 : rng ct 0 2147483647 with
      | false =>
        go_wp2_with fail
        go_ret
        exact ⟨ret_int (not_ok (Or.inr (Or.inl h2))).symm, B1.out⟩
      | true =>
        have H2 := Lib.hid h2
        clear h2
        go_wp2_with fail
        refine (refWithin_any he 0 20 _).mono ?_
        rintro e w4 ⟨rfl, rfl⟩
        cases h3 : rng he 0 20 with
        | false =>
          go_wp2_with fail
          go_ret
          exact ⟨ret_int (not_ok (Or.inr (Or.inr (Or.inl (tree_high h3))))).symm, B1.out⟩
        | true =>
          exact absurd (rng_iff.1 h3).1 (by omega)
end Go.Proofs.YtnmiccagkfpkiaaGreat

/-
  What the document's own Encode comes to (package tailraceref09).
-/
namespace Go.Proofs.YtnmiccagkfpkiaaGreat
open Go.RowKit

set_option maxRecDepth 20000 in
set_option maxHeartbeats 1600000 in
theorem refEncode_any (ep ro he ct : Int) (A : Option Addr) (n c : Nat) (pg : List Int) (w : World) (hz : Ln w 1 A n c (intVals pg)) (hn : n ≤ 1000000) :
    Calls Tryz.prog 21 #[.agg #[.int .i64 ep, .int .i64 ro, .int .i64 he, .slice A n c, .int .i64 ct]] w (UEncEnd w ⟨ep, ro, he, ct, pg⟩) := by
  obtain ⟨i0, hi, hz0, hz1, hz2⟩ := info_parts intInfo
  have HB := Lib.hid (ubox_new w (.int .i64 ep) (.int .i64 ro) (.int .i64 he) (.slice A n c) (.int .i64 ct))
  have b1 := below_one w (.cells #[.int .i64 ep, .int .i64 ro, .int .i64 he, .slice A n c, .int .i64 ct] 33)
  have B1 := Lib.hid b1
  have HZ := Lib.hid (hz.kept b1)
  have HN := Lib.hid hz.intN
  clear hz b1
  go_enter Tryz.func21, Tryz.ntmps21
  go_upto_region 1 with fail
  generalize w.alloc (.cells #[.int .i64 ep, .int .i64 ro, .int .i64 he, .slice A n c, .int .i64 ct] 33) = w1 at *
  obtain ⟨c0, c1, c2, c3, c4⟩ := HB.out.cells
  go_wp2_with fail
  refine (refCheck_any ep ro he ct A n c pg w1 HZ.out hn).mono ?_
  rintro e w2 ⟨rfl, b2⟩
  have B2 := Lib.hid (B1.out.trans (b2.mono B1.out.size))
  have HB2 := Lib.hid (HB.out.kept b2)
  have HZ2 := Lib.hid (HZ.out.kept b2)
  clear b2 c0 c1 c2 c3 c4 HB HZ
  obtain ⟨c0, c1, c2, c3, c4⟩ := HB2.out.cells
  cases hk : (SB.mk ep ro he ct pg).okB with
  | false =>
    rw [checkE_bad hk]
    have HE := Lib.hid (uenc_bad hk B2.out)
    clear hk
    go_wp2_with fail
    go_ret2
    exact HE.out
  | true =>
    have HK := Lib.hid hk
    have h100 : n ≤ 100 := by have h1 : pg.length ≤ 100 := (SB.pg_ok hk).2; have := HN.out; omega
    rw [checkE_good hk]
    clear hk
    have o1 := four_ints w2 ep ro he ct 3
    have L1 := HZ2.out.kept (below_one w2 (.cells #[.int .i64 ep, .int .i64 ro, .int .i64 he, .int .i64 ct] 3))
    have bs : w2.heap.size ≤ (w2.alloc (.cells #[.int .i64 ep, .int .i64 ro, .int .i64 he, .int .i64 ct] 3)).heap.size := (below_one w2 _).size
    have d3 := ((HB2.out.kept (below_one w2 (.cells #[.int .i64 ep, .int .i64 ro, .int .i64 he, .int .i64 ct] 3))).cells).2.2.2.1
    go_wp2_with (at_builtin; refine wpList_append_lay _ rfl (.tmp 15) (.tmp 17) 31 rfl w2.heap.size 3 i0 (.int .i64 0) 1 8 Tryz.underlying31 hi hz0 hz1 hz2 rfl (by decide) _ _ _ rfl o1 A n c (intVals pg) rfl L1.len L1.lies (intVals_one _) (by unfold maxLen; omega) (by omega) bs ?_; intro v3 w3 hown3 hg3; have B3 := Lib.hid (B2.out.trans (((below_one w2 (.cells #[.int .i64 ep, .int .i64 ro, .int .i64 he, .int .i64 ct] 3)).grown hg3 bs (fun k hk => (o1.lt k hk).1)).mono B2.out.size)); obtain ⟨A3, e3, rfl, _, l3⟩ := Ln.of_own hown3)

    have L3 : Hid (Ints w3 A3 (SB.mk ep ro he ct pg).nums) := Lib.hid (Ln.ints (by rw [← sIntVals_append] at l3; exact l3))
    have h4 : (SB.mk ep ro he ct pg).nums.length = 4 + n := by rw [SB.nums_length, HN.out]; omega
    clear hown3 l3 bs L1 o1 d3 c0 c1 c2 c3 c4
    refine (refNumbers_n A3 (4 + n) e3 _ w3 L3.out h4 (by omega)).mono ?_
    rintro e w4 ⟨v4, rfl, o4, b4⟩
    have O4 := Lib.hid o4
    have B4 := Lib.hid (B3.out.trans (b4.mono B3.out.size))
    clear o4 b4 h4
    go_wp2_with fail
    go_ret2
    refine ⟨v4, by rw [checkE_good HK.out]; rfl, ?_, B4.out⟩
    have : (SB.mk ep ro he ct pg).encB = numB (SB.mk ep ro he ct pg).nums := if_pos HK.out
    rw [this]
    exact own_low O4.out B3.out.size
end Go.Proofs.YtnmiccagkfpkiaaGreat

/-
  The document's eight steps.
-/
namespace Go.Proofs.YtnmiccagkfpkiaaGreat
open Go.RowKit

set_option maxRecDepth 20000 in
set_option maxHeartbeats 800000 in
theorem refSteps (x : Nat) (hx : x < 4294967296) (w : World) :
    Calls Tryz.prog 80 #[.int .u32 (x : Int)] w fun e w' => e = .returned (.int .u32 ((steps8 x : Nat) : Int)) ∧ w = w' := by
  go_enter Tryz.func80, Tryz.ntmps80
  go_wp2_with fail
  go_loopw [0, 3] (fun v i wr => ∃ k : Nat, k ≤ 8 ∧ i = .int .i64 k ∧ v = .int .u32 ((stepN k x : Nat) : Int) ∧ wr = w) (fun _ i _ => 8 - (RowKit.intOf i).toNat)
  case atStart => exact ⟨0, by omega, rfl, rfl, rfl⟩
  case round =>
    obtain ⟨k, hk, rfl, rfl, rfl⟩ := hrel
    by_cases hlt : k < 8
    · have hn : stepN k x < 4294967296 := stepN_lt k hx
      have hs : stepN (k + 1) x = step1 (stepN k x) := rfl
      have HS := Lib.hid hs
      clear hs
      generalize stepN k x = y at *
      by_cases ho : y % 2 = 1
      · have HO := Lib.hid (step_odd hn ho)
        go_wp2_with fail
        refine ⟨⟨k + 1, by omega, by go_num, ?_, trivial⟩, by simp [RowKit.intOf]; omega⟩
        rw [HO.out, HS.out]
      · have HO := Lib.hid (step_even ho)
        go_wp2_with fail
        refine ⟨⟨k + 1, by omega, by go_num, ?_, trivial⟩, by simp [RowKit.intOf]; omega⟩
        rw [HO.out, HS.out]
    · obtain rfl : k = 8 := by omega
      go_wp2_with fail
      go_ret
      exact ⟨rfl, rfl⟩
end Go.Proofs.YtnmiccagkfpkiaaGreat

/-
  What the document's own answers for layer 3 come to.
-/
namespace Go.Proofs.YtnmiccagkfpkiaaGreat
open Go.RowKit

theorem crcR_spell {x : Nat} (h : x < 4294967296) (c : UInt8) : bits .xor .u32 (x : Int) ((c.toNat : Int) % 4294967296) = ((x ^^^ c.toNat : Nat) : Int) := by
  have hc := UInt8.toNat_lt c
  rw [show (c.toNat : Int) % 4294967296 = (c.toNat : Int) from by omega]
  exact u32_xor_nat x c.toNat h (by omega)

set_option maxRecDepth 20000 in
set_option maxHeartbeats 800000 in
theorem refMore_any (s : Nat) (hs : s < 4294967296) {R : Nat} (A : Option Addr) (c : Nat) (l : List UInt8) (w : World) (hby : Bys w R A l) (hn : l.length ≤ 1000000) :
    Calls Tryz.prog 71 #[.int .u32 (s : Int), .slice A l.length c] w fun e w' => e = .returned (.int .u32 ((crcM s l : Nat) : Int)) ∧ w = w' := by
  have hv := inv_lt hs
  have HE := Lib.hid (show crcM s l = inv (crcF (inv s) l) from rfl)
  have hsp := not_spell hs
  generalize inv s = v at *
  go_enter Tryz.func71, Tryz.ntmps71
  go_wp2_with fail
  clear hsp
  go_loopw [5, 6] (fun x i wr => ∃ k : Nat, k ≤ l.length ∧ i = .int .i64 k ∧ x = .int .u32 ((crcF v (l.take k) : Nat) : Int) ∧ wr = w) (fun _ i _ => l.length - (RowKit.intOf i).toNat)
  case atStart => exact ⟨0, by omega, rfl, rfl, rfl⟩
  case round =>
    obtain ⟨k, hk, rfl, rfl, rfl⟩ := hrel
    by_cases hlt : k < l.length
    · obtain ⟨b, off, z, rfl, hb, hz, hc⟩ := hby.at_ hlt
      have HN := Lib.hid (crcF_take v hz)
      have hx := crcF_lt (l.take k) hv
      generalize crcF v (l.take k) = x at *
      have hix := crcR_spell hx z
      have hil : x ^^^ z.toNat < 4294967296 := xor_lt32 hx (by have := UInt8.toNat_lt z; omega)
      have HX := Lib.hid (show crcB x z = steps8 (x ^^^ z.toNat) from rfl)
      clear hz
      generalize x ^^^ z.toNat = y at *
      go_wp2_with fail
      refine (refSteps y hil _).mono ?_
      rintro e w1 ⟨rfl, rfl⟩
      go_wp2_with fail
      refine ⟨⟨k + 1, by omega, by go_num, ?_, trivial⟩, by simp [RowKit.intOf]; omega⟩
      rw [HN.out, HX.out]
    · obtain rfl : k = l.length := by omega
      rw [List.take_length]
      have hx := crcF_lt l hv
      have HX := Lib.hid (not_spell hx)
      generalize crcF v l = x at *
      go_wp2_with fail
      go_ret
      refine ⟨ret_num ?_, rfl⟩
      rw [HX.out, HE.out]

set_option maxRecDepth 20000 in
theorem refMore_n (s : Nat) (hs : s < 4294967296) {R : Nat} (A : Option Addr) (n c : Nat) (l : List UInt8) (w : World) (h : Bys w R A l) (hl : l.length = n) (hn : n ≤ 1000000) :
    Calls Tryz.prog 71 #[.int .u32 (s : Int), .slice A n c] w fun e w' => e = .returned (.int .u32 ((crcM s l : Nat) : Int)) ∧ w = w' := by
  subst hl
  exact refMore_any s hs A c l w h hn

set_option maxRecDepth 20000 in
set_option maxHeartbeats 400000 in
theorem refSum_n {R : Nat} (A : Option Addr) (n c : Nat) (l : List UInt8) (w : World) (h : Bys w R A l) (hl : l.length = n) (hn : n ≤ 1000000) :
    Calls Tryz.prog 56 #[.slice A n c] w fun e w' => e = .returned (.int .u32 ((crcM 0 l : Nat) : Int)) ∧ w = w' := by
  have HM := Lib.hid (refMore_n 0 (by omega) A n c l w h hl hn)
  generalize crcM 0 l = x at *
  go_enter Tryz.func56, Tryz.ntmps56
  go_wp2_with fail
  refine HM.out.mono ?_
  rintro e w1 ⟨rfl, rfl⟩
  go_wp2_with fail
  go_ret
  exact ⟨rfl, rfl⟩
end Go.Proofs.YtnmiccagkfpkiaaGreat

/-
  What the document's own Pack comes to (package tailraceref05).
-/
namespace Go.Proofs.YtnmiccagkfpkiaaGreat
open Go.RowKit

theorem kind_cell (w : World) {k : Nat} (h : k ≤ 4) (t : TypeId) : w.alloc (.cells #[.int .u8 (k : Int)] t) = w.alloc (.cells (bv (be 1 k)).toArray t) := by
  rw [be_one]
  show _ = w.alloc (.cells #[.int .u8 ((UInt8.ofNat k).toNat : Int)] t)
  rw [ofNat_toNat, show ((k % 256 : Nat) : Int) = (k : Int) from by omega]

set_option maxRecDepth 20000 in
theorem own_lit (w : World) (l : List UInt8) (hl : l.length ≤ maxLen) : Own (w.alloc (.cells (bv l).toArray 5)) w.heap.size (.slice (some ⟨w.heap.size, 0, none⟩) l.length l.length) l := by
  refine ⟨by rw [bv_length]; omega, Or.inr ⟨w.heap.size, l.length, (bv l).toArray, rfl, Nat.le_refl _, heap_alloc_new w _, Nat.le_refl _, hl, by simp [bv_length], ?_⟩⟩
  rw [Nat.mul_one, List.take_of_length_le (by simp [bv_length])]

theorem two_spell {n : Nat} (h : n ≤ 1000) : [Value.int .u8 ((n : Int) / 256), .int .u8 ((n : Int) % 256)] = bv (be 2 n) := by
  rw [be_two]
  show _ = [Value.int .u8 ((UInt8.ofNat (n / 256)).toNat : Int), .int .u8 ((UInt8.ofNat n).toNat : Int)]
  rw [ofNat_toNat, ofNat_toNat]
  simp only [List.cons.injEq, Value.int.injEq, and_true, true_and]
  omega

set_option maxRecDepth 20000 in
set_option maxHeartbeats 1600000 in
theorem refPack_yes {R : Nat} (k p : Nat) (A : Option Addr) (n c : Nat) (l : List UInt8) (w : World) (hl : l.length = n) (hr : Bys w R A l) (hz : A = none → n = 0 ∧ c = 0) (h : FOk k p l.length) :
    Calls Tryz.prog 22 #[.int .i64 k, .int .i64 p, .slice A n c] w (PackEnd w k p l) := by
  have HP : Hid (packE k p l = 0 ∧ packB k p l = frm k p l) := by
    unfold packE packB
    rw [if_pos h, if_pos h]
    exact Lib.hid ⟨rfl, rfl⟩
  have hk1 : 1 ≤ k := by have := h.1; omega
  have hk4 : k ≤ 4 := by have := h.2.1; omega
  have hp4 : p ≤ 2147483647 := by have := h.2.2.2.1; omega
  have hn : n ≤ 1000 := by have := h.2.2.2.2; omega
  obtain ⟨i0, hi, hz0, hz1, hz2⟩ := info_parts byteInfo
  have HL := Lib.hid hl
  have HR := Lib.hid hr
  have HZ := Lib.hid hz
  clear h hl hr hz
  go_enter Tryz.func22, Tryz.ntmps22
  go_wp2_with fail
  rw [kind_cell w hk4]
  refine (four_any p (by omega) _).mono ?_
  rintro e w1 ⟨rfl, rfl⟩
  have o1 : ((w.alloc (.cells (bv (be 1 k)).toArray 5)).alloc (.cells (bv (be4 p)).toArray 5)).ownsRow w.heap.size 5 1 (.slice (some ⟨w.heap.size, 0, none⟩) 1 1) 1 (bv (be 1 k)) := World.ownsRow.alloc (own_lit w (be 1 k) (by rw [be_one]; unfold maxLen; simp)) _
  have hnew : Hid (∀ j u, (bv (be4 p))[j]? = some u → ((w.alloc (.cells (bv (be 1 k)).toArray 5)).alloc (.cells (bv (be4 p)).toArray 5)).cell? ((⟨(w.alloc (.cells (bv (be 1 k)).toArray 5)).heap.size, 0, none⟩ : Addr).add j) = some u) := (bys_new (w.alloc (.cells (bv (be 1 k)).toArray 5)) (be4 p) 5).cells
  have B1 := Lib.hid (below_two w (.cells (bv (be 1 k)).toArray 5) (.cells (bv (be4 p)).toArray 5))
  have b1 := B1.out.size
  generalize (w.alloc (.cells (bv (be 1 k)).toArray 5)).heap.size = g2 at *
  generalize (w.alloc (.cells (bv (be 1 k)).toArray 5)).alloc (.cells (bv (be4 p)).toArray 5) = w1 at *
  go_wp2_with (first
    | (at_builtin; refine wpList_append_own _ rfl (.tmp 30) (.tmp 33) 34 rfl w.heap.size 5 i0 (.int .u8 0) 1 1 Tryz.underlying34 hi hz0 hz1 hz2 rfl (by decide) _ _ _ rfl o1 ⟨g2, 0, none⟩ 4 4 (bv (be4 p)) rfl rfl hnew.out (bv_one _) (by unfold maxLen; omega) (by omega) (by omega) ?_; intro v2 w2 hown2 hg2 _; have b2 : Below w.heap.size w w2 := B1.out.grown hg2 b1 (fun g hg => (o1.lt g hg).1))
    | (at_builtin; refine wpList_append_own _ rfl (.tmp 35) (.tmp 44) 34 rfl w.heap.size 5 i0 (.int .u8 0) 1 1 Tryz.underlying34 hi hz0 hz1 hz2 rfl (by decide) _ _ _ rfl (hown2.alloc _) ⟨w2.heap.size, 0, none⟩ 2 2 [_, _] rfl rfl (cell_two_new _ _ _ _) (by simp [Value.oneCell']) (by unfold maxLen; omega) (by omega) (by have := b2.size; simp; omega) ?_; intro v3 w3 hown3 hg3 _; have b3 : Below w.heap.size w w3 := (b2.alloc b2.size _).grown hg3 (by have := b2.size; simp; omega) (fun g hg => (hown2.lt g hg).1); rw [two_spell hn, ← bv_append, ← bv_append] at hown3; have z3 := b3.size; have lz := Lies.bys (HR.out.kept b3) HZ.out)
    | (at_builtin; refine wpList_append_lay _ rfl (.tmp 46) (.tmp 47) 34 rfl w.heap.size 5 i0 _ 1 1 Tryz.underlying34 hi hz0 hz1 hz2 rfl (by decide) _ _ _ rfl hown3 A n c (bv l) rfl (by rw [bv_length, HL.out]; omega) lz (bv_one _) (by unfold maxLen; omega) (by omega) z3 ?_; intro v4 w4 hown4 hg4; obtain ⟨A4, c4, rfl, o4, r4⟩ := own_grown hown4))
  have HD : Hid (be 1 k ++ be4 p ++ be 2 n ++ l = bod (k : Int) (p : Int) l) := by
    rw [← HL.out]
    exact Lib.hid rfl
  have h7 : (be 1 k ++ be4 p ++ be 2 n ++ l).length = 7 + n := by simp [be_length, be4_length, HL.out]; omega
  have B4 : Hid (Below w.heap.size w w4) := b3.grown hg4 z3 (fun g hg => (hown3.lt g hg).1)
  have R4 := Lib.hid r4
  have O4 := Lib.hid o4
  clear hg4 hown4 hg3 hown3 hg2 hown2 lz z3 b3 b2 o1 hnew B1 b1 r4 o4
  generalize be 1 k ++ be4 p ++ be 2 n ++ l = bd at *
  have H7 := Lib.hid h7
  have HX := Lib.hid (crcM_lt (s := 0) (by omega) bd)
  refine (refSum_n A4 (1 + 4 + 2 + n) c4 bd _ R4.out (by omega) (by omega)).mono ?_
  rintro e w5 ⟨rfl, rfl⟩
  have HF : Hid (bd ++ be4 (crcM 0 bd) = frm (k : Int) (p : Int) l) := by
    rw [HD.out]
    exact Lib.hid rfl
  clear HD h7 R4
  generalize crcM 0 bd = x at *
  go_wp2_with fail
  refine (four_any x HX.out _).mono ?_
  rintro e w6 ⟨rfl, rfl⟩
  have o5 : (w4.alloc (.cells (bv (be4 x)).toArray 5)).ownsRow w.heap.size 5 1 (.slice A4 (1 + 4 + 2 + n) c4) (7 + n) (bv bd) := by
    have := World.ownsRow.alloc O4.out (.cells (bv (be4 x)).toArray 5)
    rw [H7.out] at this
    exact this
  have hnew : Hid (∀ j u, (bv (be4 x))[j]? = some u → (w4.alloc (.cells (bv (be4 x)).toArray 5)).cell? ((⟨w4.heap.size, 0, none⟩ : Addr).add j) = some u) := (bys_new w4 (be4 x) 5).cells
  have B5 := Lib.hid (B4.out.alloc B4.out.size (.cells (bv (be4 x)).toArray 5))
  have b5 := B5.out.size
  clear O4 B4
  go_wp2_with (at_builtin; refine wpList_append_own _ rfl (.tmp 49) (.tmp 52) 34 rfl w.heap.size 5 i0 (.int .u8 0) 1 1 Tryz.underlying34 hi hz0 hz1 hz2 rfl (by decide) _ _ _ rfl o5 ⟨w4.heap.size, 0, none⟩ 4 4 (bv (be4 x)) rfl rfl hnew.out (bv_one _) (by unfold maxLen; omega) (by omega) (by omega) ?_; intro v6 w6 hown6 hg6 _)
  have B6 := Lib.hid (B5.out.grown hg6 b5 (fun g hg => (o5.lt g hg).1))
  have O6 : Hid (Own w6 w.heap.size v6 (frm (k : Int) (p : Int) l)) := by
    rw [← HF.out]
    unfold Own
    rw [List.length_append, H7.out, bv_append]
    exact Lib.hid hown6
  clear hg6 hown6 hnew B5 b5 o5 HF
  go_ret2
  refine ⟨v6, ?_, ?_, B6.out⟩
  · rw [HP.out.1]
    rfl
  · rw [HP.out.2]
    exact O6.out

set_option maxRecDepth 20000 in
set_option maxHeartbeats 800000 in
theorem refPack_no (k p : Int) (A : Option Addr) (n c : Nat) (l : List UInt8) (w : World) (hl : l.length = n) (h : ¬ FOk k p l.length) :
    Calls Tryz.prog 22 #[.int .i64 k, .int .i64 p, .slice A n c] w (PackEnd w k p l) := by
  have HP := Lib.hid (fun w' => pack_bad (k := k) (p := p) (l := l) h w w')
  have HN := Lib.hid (show ¬ (1 ≤ k ∧ k ≤ 4 ∧ 0 ≤ p ∧ p ≤ 2147483647 ∧ n ≤ 1000) from by rw [← hl]; exact h)
  clear h hl
  by_cases h1 : k < 1
  · go_enter Tryz.func22, Tryz.ntmps22
    go_wp2_with fail
    go_ret2
    exact HP.out _ rfl
  by_cases h2 : k > 4
  · go_enter Tryz.func22, Tryz.ntmps22
    go_wp2_with fail
    go_ret2
    exact HP.out _ rfl
  by_cases h3 : p < 0
  · go_enter Tryz.func22, Tryz.ntmps22
    go_wp2_with fail
    go_ret2
    exact HP.out _ rfl
  by_cases h4 : p > 2147483647
  · go_enter Tryz.func22, Tryz.ntmps22
    go_wp2_with fail
    go_ret2
    exact HP.out _ rfl
  have h5 : n > 1000 := by
    have := HN.out
    omega
  go_enter Tryz.func22, Tryz.ntmps22
  go_wp2_with fail
  go_ret2
  exact HP.out _ rfl

set_option maxRecDepth 20000 in
/-- The document's own Pack, whatever is handed in. -/
theorem refPack_all {R : Nat} (k p : Int) (A : Option Addr) (n c : Nat) (l : List UInt8) (w : World) (hl : l.length = n) (hr : Bys w R A l) (hz : A = none → n = 0 ∧ c = 0) :
    Calls Tryz.prog 22 #[.int .i64 k, .int .i64 p, .slice A n c] w (PackEnd w k p l) := by
  by_cases h : FOk k p l.length
  · obtain ⟨k', rfl⟩ : ∃ k' : Nat, k = k' := ⟨k.toNat, by have := h.1; omega⟩
    obtain ⟨p', rfl⟩ : ∃ p' : Nat, p = p' := ⟨p.toNat, by have := h.2.2.1; omega⟩
    exact refPack_yes k' p' A n c l w hl hr hz h
  · exact refPack_no k p A n c l w hl h
end Go.Proofs.YtnmiccagkfpkiaaGreat

/-
  Lists of sectors with their bytes, in memory.
-/
namespace Go.Proofs.YtnmiccagkfpkiaaGreat
open Go.RowKit Go.Maps

set_option maxRecDepth 20000 in
theorem heldInfo : (Tryz.prog.info? 91).map (fun i => (i.zero, i.size, i.bytes)) = some (some (.agg #[.int .i64 0, .slice none 0 0]), 2, 32) := by kernel_rfl

/-- A sector, the value of its bytes, its bytes. -/
abbrev Hd := Int × Value × List UInt8

def hdVals : List Hd → List Value
  | [] => []
  | p :: ps => .int .i64 p.1 :: p.2.1 :: hdVals ps

theorem hdVals_length : ∀ ps : List Hd, (hdVals ps).length = ps.length * 2
  | [] => rfl
  | p :: ps => by simp only [hdVals, List.length_cons, hdVals_length ps]; omega
theorem hdVals_append : ∀ ps qs : List Hd, hdVals (ps ++ qs) = hdVals ps ++ hdVals qs
  | [], _ => rfl
  | p :: ps, qs => by simp only [List.cons_append, hdVals, hdVals_append ps qs]
theorem hdVals_at : ∀ (ps : List Hd) (i : Nat) (p : Hd), ps[i]? = some p → (hdVals ps)[i * 2]? = some (.int .i64 p.1) ∧ (hdVals ps)[i * 2 + 1]? = some p.2.1
  | [], i, p, h => by simp at h
  | x :: ps, 0, p, h => by
    obtain rfl : x = p := by simpa using h
    exact ⟨rfl, rfl⟩
  | x :: ps, i + 1, p, h => by
    have := hdVals_at ps i p (by simpa using h)
    have e : (i + 1) * 2 = i * 2 + 1 + 1 := by omega
    rw [e]
    simpa [hdVals] using this

/-- A list of one's own. -/
structure HOwn (w : World) (base : Nat) (v : Value) (ps : List Hd) : Prop where
  row : w.ownsRow base 91 2 v ps.length (hdVals ps)
  own : ∀ p ∈ ps, Own w base p.2.1 p.2.2

theorem hown_nil (w : World) (base : Nat) : HOwn w base (.slice none 0 0) [] := ⟨World.ownsRow_nil _ _ _ _, fun p hp => by simp at hp⟩

theorem row_cells {w : World} {base n : Nat} {e : TypeId} {sz : Nat} {v : Value} {xs : List Value} {k : Nat} (h : w.ownsRow base e sz v n xs) (hk : v.ownBlock = some k) : ∃ cur, w.heap[k]? = some (.cells cur e (0, 0)) := by
  rcases h.2 with ⟨rfl, _⟩ | ⟨g, cap, cur, hv, hg, hh, r⟩
  · cases hk
  · rw [hv] at hk
    injection hk with hk
    subst hk
    exact ⟨cur, hh⟩

theorem row_of_block {w w' : World} {base n : Nat} {e : TypeId} {sz : Nat} {v : Value} {xs : List Value} (h : w.ownsRow base e sz v n xs) (hk : ∀ k, v.ownBlock = some k → w'.heap[k]? = w.heap[k]?) : w'.ownsRow base e sz v n xs := by
  obtain ⟨h1, h2⟩ := h
  refine ⟨h1, ?_⟩
  rcases h2 with h2 | ⟨g, cap, cur, hv, hg, hh, r⟩
  · exact Or.inl h2
  · exact Or.inr ⟨g, cap, cur, hv, hg, by rw [hk g (by rw [hv]; rfl)]; exact hh, r⟩

/-- Rows of unlike elements lie in unlike blocks. -/
theorem rows_apart {w : World} {base base' n n' : Nat} {e e' : TypeId} {sz sz' : Nat} {v v' : Value} {xs xs' : List Value} (hne : e ≠ e') (h : w.ownsRow base e sz v n xs) (h' : w.ownsRow base' e' sz' v' n' xs') {k : Nat} (hk : v.ownBlock = some k) : v'.ownBlock ≠ some k := by
  intro hk'
  obtain ⟨c, h1⟩ := row_cells h hk
  obtain ⟨c', h2⟩ := row_cells h' hk'
  rw [h1] at h2
  injection h2 with h2
  injection h2 with _ h2
  exact hne h2

theorem grown_apart {w w' : World} {base base' n n' : Nat} {e e' : TypeId} {sz sz' : Nat} {v v' : Value} {xs xs' : List Value} (hne : e ≠ e') (h : w.ownsRow base e sz v n xs) (h' : w.ownsRow base' e' sz' v' n' xs') (hg : w.grownBy w' v'.ownBlock) : w'.ownsRow base e sz v n xs :=
  row_of_block h (fun k hk => hg.block k (h.lt k hk).2 (fun e1 => rows_apart hne h h' hk e1.symm))

theorem HOwn.below {w w' : World} {base : Nat} {v : Value} {ps : List Hd} (h : HOwn w base v ps) (hb : Below w.heap.size w w') : HOwn w' base v ps :=
  ⟨row_of_block h.row (fun k hk => hb.block k (h.row.lt k hk).2), fun p hp => own_of_block (h.own p hp) (fun k hk => hb.block k ((h.own p hp).lt k hk).2)⟩

set_option maxRecDepth 20000 in
/-- One more is appended. -/
theorem HOwn.push {w w' : World} {base : Nat} {v v' : Value} {ps : List Hd} {p : Hd} (h : HOwn w base v ps) (ho : Own w base p.2.1 p.2.2) (hr : w'.ownsRow base 91 2 v' (ps.length + 1) (hdVals ps ++ [.int .i64 p.1, p.2.1])) (hg : w.grownBy w' v.ownBlock) :
    HOwn w' base v' (ps ++ [p]) := by
  refine ⟨?_, fun q hq => ?_⟩
  · rw [hdVals_append, List.length_append]
    exact hr
  · have hq' : Own w base q.2.1 q.2.2 := by
      rcases List.mem_append.1 hq with h1 | h1
      · exact h.own q h1
      · obtain rfl : q = p := by simpa using h1
        exact ho
    exact grown_apart (by decide) hq' h.row hg

/-- A list that lies outside of F. -/
def HOut (w : World) (F : Nat → Prop) (A : Option Addr) (qs : List (Int × List UInt8)) : Prop :=
  qs = [] ∨ ∃ b off, A = some ⟨b, off, none⟩ ∧ ¬ F b ∧ ∀ i q, qs[i]? = some q → w.cell? ⟨b, off + i * 2, none⟩ = some (.int .i64 q.1) ∧
    ∃ A' c', w.cell? ⟨b, off + i * 2 + 1, none⟩ = some (.slice A' q.2.length c') ∧ Out w F A' q.2

theorem HOwn.out {w : World} {F : Nat → Prop} {base : Nat} {v : Value} {ps : List Hd} (h : HOwn w base v ps) (hF : ∀ k, F k → k < base) :
    ∃ A c, v = .slice A ps.length c ∧ ps.length ≤ c ∧ HOut w F A (ps.map fun p => (p.1, p.2.2)) := by
  have hlt := h.row.lt
  rcases h.row.2 with ⟨rfl, h0⟩ | ⟨g, cap, cur, rfl, hb, hh, hnc, hm, _⟩
  · refine ⟨none, 0, by rw [h0], by omega, Or.inl ?_⟩
    rw [List.eq_nil_of_length_eq_zero h0]
    rfl
  · refine ⟨_, _, rfl, hnc, Or.inr ⟨g, 0, rfl, fun hg => by have := hF g hg; omega, fun i q hq => ?_⟩⟩
    rw [List.getElem?_map] at hq
    obtain ⟨p, hp, rfl⟩ := Option.map_eq_some_iff.1 hq
    obtain ⟨e1, e2⟩ := hdVals_at ps i p hp
    have c1 := h.row.cells (g := g) rfl _ _ e1
    have c2 := h.row.cells (g := g) rfl _ _ e2
    rw [addr_add] at c1 c2
    have ho := h.own p (List.mem_of_getElem? hp)
    obtain ⟨A', c', hv, _, _⟩ := own_slice ho
    refine ⟨c1, A', c', by rw [← hv]; exact c2, ?_⟩
    rw [hv] at ho
    rcases own_bys ho with hx | ⟨b, off, e, _, hc⟩
    · exact Or.inl hx
    · refine Or.inr ⟨b, off, e, fun hF' => ?_, hc⟩
      have h1 := hF b hF'
      have h2 := (ho.lt b (by rw [e]; rfl)).1
      omega

theorem Moves.hout {w w' : World} {F F' : Nat → Prop} {A : Option Addr} {qs : List (Int × List UInt8)} (h : Moves w F w' F') (o : HOut w F A qs) : HOut w' F' A qs := by
  rcases qs with _ | ⟨y, l⟩
  · exact Or.inl rfl
  · rcases o with o | ⟨b, off, e, hb, hc⟩
    · cases o
    · have hlt : b < w.heap.size := World.block_lt_of_cell? _ _ (hc 0 y rfl).1
      obtain ⟨h1, h2⟩ := h.block hlt hb
      refine Or.inr ⟨b, off, e, h2, fun i q hq => ?_⟩
      obtain ⟨c1, A', c', c2, ho⟩ := hc i q hq
      exact ⟨(World.cell?_of_block (w := w) h1).trans c1, A', c', (World.cell?_of_block (w := w) h1).trans c2, h.out ho⟩

theorem HOut.at_ {w : World} {F : Nat → Prop} {A : Option Addr} {qs : List (Int × List UInt8)} (h : HOut w F A qs) {k : Nat} (hk : k < qs.length) :
    ∃ b off q A' c', A = some ⟨b, off, none⟩ ∧ ¬ F b ∧ qs[k]? = some q ∧ w.cell? ⟨b, off + k * 2, none⟩ = some (.int .i64 q.1) ∧ w.cell? ⟨b, off + k * 2 + 1, none⟩ = some (.slice A' q.2.length c') ∧ Out w F A' q.2 := by
  rcases h with rfl | ⟨b, off, rfl, hb, hc⟩
  · exact absurd hk (by simp)
  · obtain ⟨c1, A', c', c2, ho⟩ := hc k _ (List.getElem?_eq_getElem hk)
    exact ⟨b, off, qs[k], A', c', rfl, hb, List.getElem?_eq_getElem hk, c1, c2, ho⟩

end Go.Proofs.YtnmiccagkfpkiaaGreat

/-
  What is meant by the document's own disk in memory.
-/
namespace Go.Proofs.YtnmiccagkfpkiaaGreat
open Go.RowKit Go.Maps

abbrev Rw := List (Value × List UInt8)

def rowOf (r : Rw) : Array Value := (r.map Prod.fst).toArray
def boolsOf (r : List Bool) : Array Value := (r.map Value.bool).toArray

def refCells (s : PS) (lb wb ib : Nat) (left : Int) : Array Value :=
  #[.slice (some ⟨lb, 0, none⟩) s.size s.size, .slice (some ⟨wb, 0, none⟩) s.size s.size, .slice (some ⟨ib, 0, none⟩) s.size s.size, .bool s.down, .bool s.fused, .int .i64 left]

structure RefAt (w : World) (G : Nat → Prop) (rb lb wb ib : Nat) (left : Int) (rL rW : Rw) (rI : List Bool) (s : PS) : Prop where
  str : w.heap[rb]? = some (.cells (refCells s lb wb ib left) 58 (0, 0))
  bL : w.heap[lb]? = some (.cells (rowOf rL) 34 (0, 0))
  bW : w.heap[wb]? = some (.cells (rowOf rW) 34 (0, 0))
  bI : w.heap[ib]? = some (.cells (boolsOf rI) 4 (0, 0))
  ne : lb ≠ wb
  nL : rL.length = s.size
  nW : rW.length = s.size
  nI : rI.length = s.size
  gr : G rb
  gl : G lb
  gw : G wb
  gi : G ib
  lt : ∀ k, G k → k < w.heap.size
  oL : ∀ (i : Nat) (p : Value × List UInt8), rL[i]? = some p → Own w 0 p.1 p.2 ∧ p.2.length ≤ 1024 ∧ (∀ k, p.1.ownBlock = some k → G k)
  oW : ∀ (i : Nat) (p : Value × List UInt8), rW[i]? = some p → Own w 0 p.1 p.2 ∧ p.2.length ≤ 1024 ∧ (∀ k, p.1.ownBlock = some k → G k)
  sL : ∀ (i : Nat) (p : Value × List UInt8), rL[i]? = some p → s.L (i : Int) = p.2
  sW : ∀ (i : Nat) (p : Value × List UInt8) (b : Bool), rW[i]? = some p → rI[i]? = some b → s.W (i : Int) = if b then some p.2 else none
  s2 : 2 ≤ s.size
  s4 : s.size ≤ 4096
  lf : s.fused = true → left = (s.fuse : Int)
  l1 : -9223372036854775808 ≤ left
  l2 : left ≤ 9223372036854775807

/-- The document's disk. -/
def Rk (w : World) (G : Nat → Prop) (rb : Nat) (s : PS) : Prop := ∃ lb wb ib left rL rW rI, RefAt w G rb lb wb ib left rL rW rI s

def RGoes (w : World) (G : Nat → Prop) (rb : Nat) (s' : PS) (v : Value) (e : Ending) (w' : World) : Prop :=
  e = .returned v ∧ ∃ G', Rk w' G' rb s' ∧ (∀ k, G' k → G k ∨ w.heap.size ≤ k) ∧ Kept G w w'

section
variable {w w' : World} {G G' : Nat → Prop} {rb lb wb ib : Nat} {left : Int} {rL rW : Rw} {rI : List Bool} {s : PS}

theorem RefAt.same (h : RefAt w G rb lb wb ib left rL rW rI s) (e : ∀ k, G k → w'.heap[k]? = w.heap[k]?) (hs : w.heap.size ≤ w'.heap.size) : RefAt w' G rb lb wb ib left rL rW rI s :=
  { h with
    str := (e _ h.gr).trans h.str
    bL := (e _ h.gl).trans h.bL
    bW := (e _ h.gw).trans h.bW
    bI := (e _ h.gi).trans h.bI
    lt := fun k hk => Nat.lt_of_lt_of_le (h.lt k hk) hs
    oL := fun i p hi => by
      obtain ⟨o, r1, r2⟩ := h.oL i p hi
      exact ⟨own_of_block o (fun k hk => e k (r2 k hk)), r1, r2⟩
    oW := fun i p hi => by
      obtain ⟨o, r1, r2⟩ := h.oW i p hi
      exact ⟨own_of_block o (fun k hk => e k (r2 k hk)), r1, r2⟩ }

theorem RefAt.more (h : RefAt w G rb lb wb ib left rL rW rI s) (hG : ∀ k, G k → G' k) (hl : ∀ k, G' k → k < w.heap.size) : RefAt w G' rb lb wb ib left rL rW rI s :=
  { h with
    gr := hG _ h.gr
    gl := hG _ h.gl
    gw := hG _ h.gw
    gi := hG _ h.gi
    lt := hl
    oL := fun i p hi => by
      obtain ⟨o, r1, r2⟩ := h.oL i p hi
      exact ⟨o, r1, fun k hk => hG k (r2 k hk)⟩
    oW := fun i p hi => by
      obtain ⟨o, r1, r2⟩ := h.oW i p hi
      exact ⟨o, r1, fun k hk => hG k (r2 k hk)⟩ }

theorem Rk.kept {F : Nat → Prop} (h : Rk w G rb s) (hk : Kept F w w') (hd : ∀ k, G k → ¬ F k) : Rk w' G rb s := by
  obtain ⟨lb, wb, ib, left, rL, rW, rI, h⟩ := h
  exact ⟨lb, wb, ib, left, rL, rW, rI, h.same (fun k hG => hk.block k (h.lt k hG) (hd k hG)) hk.size⟩

theorem Rk.below (h : Rk w G rb s) (hb : Below w.heap.size w w') : Rk w' G rb s := by
  obtain ⟨lb, wb, ib, left, rL, rW, rI, h⟩ := h
  exact ⟨lb, wb, ib, left, rL, rW, rI, h.same (fun k hG => hb.block k (h.lt k hG)) hb.size⟩

theorem Rk.lt (h : Rk w G rb s) : ∀ k, G k → k < w.heap.size := by
  obtain ⟨lb, wb, ib, left, rL, rW, rI, h⟩ := h
  exact h.lt

theorem RefAt.cell (h : RefAt w G rb lb wb ib left rL rW rI s) (j : Nat) {v : Value} (e : (refCells s lb wb ib left)[j]? = some v) : w.cell? ⟨rb, j, none⟩ = some v := (cell_of_row w rb j _ _ _ h.str).trans e
theorem RefAt.free (h : RefAt w G rb lb wb ib left rL rW rI s) (j : Nat) : w.frozen? ⟨rb, j, none⟩ = false := frozen_of_row w rb j _ _ h.str

theorem rowOf_at {r : Rw} {i : Nat} {p : Value × List UInt8} (h : r[i]? = some p) : (rowOf r)[i]? = some p.1 := by
  unfold rowOf
  rw [List.getElem?_toArray, List.getElem?_map, h]
  rfl
theorem boolsOf_at {r : List Bool} {i : Nat} {b : Bool} (h : r[i]? = some b) : (boolsOf r)[i]? = some (.bool b) := by
  unfold boolsOf
  rw [List.getElem?_toArray, List.getElem?_map, h]
  rfl
theorem rowOf_set (r : Rw) (i : Nat) (p : Value × List UInt8) : (rowOf r).setIfInBounds i p.1 = rowOf (r.set i p) := by
  unfold rowOf
  rw [List.setIfInBounds_toArray, List.map_set]
theorem boolsOf_set (r : List Bool) (i : Nat) (b : Bool) : (boolsOf r).setIfInBounds i (.bool b) = boolsOf (r.set i b) := by
  unfold boolsOf
  rw [List.setIfInBounds_toArray, List.map_set]

/-- A sector of it. -/
theorem RefAt.at_ (h : RefAt w G rb lb wb ib left rL rW rI s) {i : Nat} (hi : i < s.size) :
    ∃ p q b, rL[i]? = some p ∧ rW[i]? = some q ∧ rI[i]? = some b ∧ w.cell? ⟨lb, i, none⟩ = some p.1 ∧ w.cell? ⟨wb, i, none⟩ = some q.1 ∧ w.cell? ⟨ib, i, none⟩ = some (.bool b) ∧
      w.frozen? ⟨lb, i, none⟩ = false ∧ w.frozen? ⟨wb, i, none⟩ = false ∧ w.frozen? ⟨ib, i, none⟩ = false := by
  have e1 := List.getElem?_eq_getElem (l := rL) (i := i) (by rw [h.nL]; exact hi)
  have e2 := List.getElem?_eq_getElem (l := rW) (i := i) (by rw [h.nW]; exact hi)
  have e3 := List.getElem?_eq_getElem (l := rI) (i := i) (by rw [h.nI]; exact hi)
  exact ⟨_, _, _, e1, e2, e3, (cell_of_row w lb i _ _ _ h.bL).trans (rowOf_at e1), (cell_of_row w wb i _ _ _ h.bW).trans (rowOf_at e2), (cell_of_row w ib i _ _ _ h.bI).trans (boolsOf_at e3), frozen_of_row w lb i _ _ h.bL, frozen_of_row w wb i _ _ h.bW, frozen_of_row w ib i _ _ h.bI⟩

set_option maxRecDepth 20000 in
theorem own_row_ne {v : Value} {l : List UInt8} {k b : Nat} {cs : Array Value} {t : TypeId} (ht : t ≠ 5) (o : Own w 0 v l) (hk : v.ownBlock = some k) (hb : w.heap[b]? = some (.cells cs t (0, 0))) : k ≠ b := by
  intro e
  subst e
  obtain ⟨cur, hc⟩ := own_cells o hk
  rw [hb] at hc
  injection hc with hc
  injection hc with _ hc
  exact ht hc

theorem RefAt.nes (h : RefAt w G rb lb wb ib left rL rW rI s) : rb ≠ lb ∧ rb ≠ wb ∧ rb ≠ ib ∧ lb ≠ ib ∧ wb ≠ ib := by
  refine ⟨fun e => ?_, fun e => ?_, fun e => ?_, fun e => ?_, fun e => ?_⟩
  · have := h.bL
    rw [← e, h.str] at this
    injection this with this
    injection this with _ this
    exact absurd this (by decide)
  · have := h.bW
    rw [← e, h.str] at this
    injection this with this
    injection this with _ this
    exact absurd this (by decide)
  · have := h.bI
    rw [← e, h.str] at this
    injection this with this
    injection this with _ this
    exact absurd this (by decide)
  · have := h.bI
    rw [← e, h.bL] at this
    injection this with this
    injection this with _ this
    exact absurd this (by decide)
  · have := h.bI
    rw [← e, h.bW] at this
    injection this with this
    injection this with _ this
    exact absurd this (by decide)

set_option maxRecDepth 20000 in
/-- Its own fields are written. -/
theorem RefAt.field (h : RefAt w G rb lb wb ib left rL rW rI s) {d f : Bool} {n : Nat} {left' : Int} (hf : f = true → left' = (n : Int)) (h1 : -9223372036854775808 ≤ left') (h2 : left' ≤ 9223372036854775807)
    (hd : w'.heap[rb]? = some (.cells (refCells { s with down := d, fused := f, fuse := n } lb wb ib left') 58 (0, 0))) (ho : ∀ k, k ≠ rb → w'.heap[k]? = w.heap[k]?) (hs : w.heap.size ≤ w'.heap.size) :
    RefAt w' G rb lb wb ib left' rL rW rI { s with down := d, fused := f, fuse := n } :=
  { h with
    str := hd
    bL := (ho _ h.nes.1.symm).trans h.bL
    bW := (ho _ h.nes.2.1.symm).trans h.bW
    bI := (ho _ h.nes.2.2.1.symm).trans h.bI
    lt := fun k hk => Nat.lt_of_lt_of_le (h.lt k hk) hs
    oL := fun i p hi => by
      obtain ⟨o, r⟩ := h.oL i p hi
      exact ⟨own_of_block o (fun k hk => ho k (own_row_ne (by decide) o hk h.str)), r⟩
    oW := fun i p hi => by
      obtain ⟨o, r⟩ := h.oW i p hi
      exact ⟨own_of_block o (fun k hk => ho k (own_row_ne (by decide) o hk h.str)), r⟩
    lf := hf
    l1 := h1
    l2 := h2 }

/-- What lasts in a sector is written. -/
theorem RefAt.putL (h : RefAt w G rb lb wb ib left rL rW rI s) {i : Nat} {p : Value × List UInt8} {L' : Int → List UInt8} (ho : Own w 0 p.1 p.2 ∧ p.2.length ≤ 1024 ∧ (∀ k, p.1.ownBlock = some k → G k)) (hL : ∀ j : Nat, j < s.size → L' j = if j = i then p.2 else s.L j) :
    RefAt (w.setCell ⟨lb, i, none⟩ p.1) G rb lb wb ib left (rL.set i p) rW rI { s with L := L' } := by
  have hk : ∀ k, k ≠ lb → (w.setCell ⟨lb, i, none⟩ p.1).heap[k]? = w.heap[k]? := fun k hk => Below.heap_setCell _ _ _ _ hk
  exact
    { h with
      str := (hk _ h.nes.1).trans h.str
      bL := by rw [Joins.block_setCell h.bL, rowOf_set]
      bW := (hk _ h.ne.symm).trans h.bW
      bI := (hk _ h.nes.2.2.2.1.symm).trans h.bI
      nL := by rw [List.length_set]; exact h.nL
      lt := fun k hk => by simpa [World.setCell] using h.lt k hk
      oL := fun j q hj => by
        have : Own w 0 q.1 q.2 ∧ q.2.length ≤ 1024 ∧ (∀ k, q.1.ownBlock = some k → G k) := by
          rw [List.getElem?_set] at hj
          split at hj
          · split at hj
            · obtain rfl : p = q := by simpa using hj
              exact ho
            · cases hj
          · exact h.oL j q hj
        exact ⟨own_of_block this.1 (fun k hk' => hk k (own_row_ne (by decide) this.1 hk' h.bL)), this.2⟩
      oW := fun j q hj => by
        obtain ⟨o, r⟩ := h.oW j q hj
        exact ⟨own_of_block o (fun k hk' => hk k (own_row_ne (by decide) o hk' h.bL)), r⟩
      sL := fun j q hj => by
        have hjs : j < s.size := by
          have := (List.getElem?_eq_some_iff.1 hj).1
          rw [List.length_set, h.nL] at this
          exact this
        show L' j = q.2
        rw [hL j hjs]
        rw [List.getElem?_set] at hj
        by_cases e : i = j
        · rw [if_pos e, if_pos (by rw [h.nL, e]; exact hjs)] at hj
          rw [if_pos e.symm]
          obtain rfl : p = q := by simpa using hj
          rfl
        · rw [if_neg e] at hj
          rw [if_neg (fun e' => e e'.symm)]
          exact h.sL j q hj }

/-- What waits in a sector is written. -/
theorem RefAt.putW (h : RefAt w G rb lb wb ib left rL rW rI s) {i : Nat} {p : Value × List UInt8} {W' : Int → Option (List UInt8)} (ho : Own w 0 p.1 p.2 ∧ p.2.length ≤ 1024 ∧ (∀ k, p.1.ownBlock = some k → G k))
    (hW : ∀ (j : Nat) b, rI[j]? = some b → W' j = if b then (if j = i then some p.2 else s.W j) else none) :
    RefAt (w.setCell ⟨wb, i, none⟩ p.1) G rb lb wb ib left rL (rW.set i p) rI { s with W := W' } := by
  have hk : ∀ k, k ≠ wb → (w.setCell ⟨wb, i, none⟩ p.1).heap[k]? = w.heap[k]? := fun k hk => Below.heap_setCell _ _ _ _ hk
  exact
    { h with
      str := (hk _ h.nes.2.1).trans h.str
      bL := (hk _ h.ne).trans h.bL
      bW := by rw [Joins.block_setCell h.bW, rowOf_set]
      bI := (hk _ h.nes.2.2.2.2.symm).trans h.bI
      nW := by rw [List.length_set]; exact h.nW
      lt := fun k hk => by simpa [World.setCell] using h.lt k hk
      oW := fun j q hj => by
        have : Own w 0 q.1 q.2 ∧ q.2.length ≤ 1024 ∧ (∀ k, q.1.ownBlock = some k → G k) := by
          rw [List.getElem?_set] at hj
          split at hj
          · split at hj
            · obtain rfl : p = q := by simpa using hj
              exact ho
            · cases hj
          · exact h.oW j q hj
        exact ⟨own_of_block this.1 (fun k hk' => hk k (own_row_ne (by decide) this.1 hk' h.bW)), this.2⟩
      oL := fun j q hj => by
        obtain ⟨o, r⟩ := h.oL j q hj
        exact ⟨own_of_block o (fun k hk' => hk k (own_row_ne (by decide) o hk' h.bW)), r⟩
      sW := fun j q b hj hb => by
        show W' j = _
        rw [hW j b hb]
        rw [List.getElem?_set] at hj
        have hjs : j < s.size := by
          have := (List.getElem?_eq_some_iff.1 hb).1
          rw [h.nI] at this
          exact this
        cases b with
        | false => rfl
        | true =>
          show (if j = i then some p.2 else s.W j) = some q.2
          by_cases e : i = j
          · rw [if_pos e, if_pos (by rw [h.nW, e]; exact hjs)] at hj
            rw [if_pos e.symm]
            obtain rfl : p = q := by simpa using hj
            rfl
          · rw [if_neg e] at hj
            rw [if_neg (fun e' => e e'.symm)]
            exact h.sW j q true hj hb }

/-- Whether something waits is written. -/
theorem RefAt.putI (h : RefAt w G rb lb wb ib left rL rW rI s) {i : Nat} {b : Bool} {W' : Int → Option (List UInt8)}
    (hW : ∀ (j : Nat) (q : Value × List UInt8) (c : Bool), rW[j]? = some q → (rI.set i b)[j]? = some c → W' j = if c then some q.2 else none) :
    RefAt (w.setCell ⟨ib, i, none⟩ (.bool b)) G rb lb wb ib left rL rW (rI.set i b) { s with W := W' } := by
  have hk : ∀ k, k ≠ ib → (w.setCell ⟨ib, i, none⟩ (.bool b)).heap[k]? = w.heap[k]? := fun k hk => Below.heap_setCell _ _ _ _ hk
  exact
    { h with
      str := (hk _ h.nes.2.2.1).trans h.str
      bL := (hk _ h.nes.2.2.2.1).trans h.bL
      bW := (hk _ h.nes.2.2.2.2).trans h.bW
      bI := by rw [Joins.block_setCell h.bI, boolsOf_set]
      nI := by rw [List.length_set]; exact h.nI
      lt := fun k hk => by simpa [World.setCell] using h.lt k hk
      oL := fun j q hj => by
        obtain ⟨o, r⟩ := h.oL j q hj
        exact ⟨own_of_block o (fun k hk' => hk k (own_row_ne (by decide) o hk' h.bI)), r⟩
      oW := fun j q hj => by
        obtain ⟨o, r⟩ := h.oW j q hj
        exact ⟨own_of_block o (fun k hk' => hk k (own_row_ne (by decide) o hk' h.bI)), r⟩
      sW := fun j q c hj hc => hW j q c hj hc }

theorem RefAt.rk (h : RefAt w G rb lb wb ib left rL rW rI s) : Rk w G rb s := ⟨lb, wb, ib, left, rL, rW, rI, h⟩

theorem RefAt.drew (h : RefAt w G rb lb wb ib left rL rW rI s) : RefAt w.drew G rb lb wb ib left rL rW rI s := h.same (fun _ _ => rfl) (Nat.le_refl _)
end
end Go.Proofs.YtnmiccagkfpkiaaGreat
