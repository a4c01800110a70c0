/-
  What the document's own Texts and Same come to (package tailraceref10).
-/
import Derived.Test.YtcdfjaldnelfjaaNMem
import Derived.Deep.Cut
import Derived.Deep.QuietTactic
import Derived.BigQuiet
namespace Go.Proofs.Ytcdfjaldnelfjaa
open Go.RowKit

/-- What Texts and Same answer. -/
def TxEnd (w : World) (P : Prop) (e : Ending) (w' : World) : Prop := ∃ r : Bool, e = .returned (.bool r) ∧ (P → r = true) ∧ Below w.heap.size w w'

set_option maxRecDepth 20000 in
set_option maxHeartbeats 1600000 in
theorem ntexts_any (A B : Option Addr) (n c m d : Nat) (x y : List (List UInt8)) (w : World) (hx : Ln w 1 A n c (strVals x)) (hy : Ln w 1 B m d (strVals y)) (hn : n ≤ 1000000) :
    Calls Try.prog 42 #[.slice A n c, .slice B m d] w (TxEnd w (x = y)) := by
  have HX := Lib.hid hx
  have HY := Lib.hid hy
  by_cases hnm : n = m
  case neg =>
    have hb : ((n : Int) != (m : Int)) = true := by rw [bne_iff_ne]; omega
    have HE : Hid (¬ x = y) := Lib.hid (fun e => hnm (by rw [← hx.strN, ← hy.strN, e]))
    clear hx hy hnm
    go_enter Try.func42, Try.ntmps42
    go_wp2_with fail
    go_ret
    exact ⟨_, rfl, fun e => absurd e HE.out, Below.refl _ _⟩
  subst hnm
  have hb : ((n : Int) != (n : Int)) = false := bne_self_eq_false _
  clear hx hy
  go_enter Try.func42, Try.ntmps42
  go_wp2_with fail
  go_loopw [5] (fun i wk => ∃ k : Nat, k ≤ n ∧ i = .int .i64 k ∧ Hid (Below w.heap.size w wk)) (fun i _ => n - (RowKit.intOf i).toNat)
  case atStart => exact ⟨0, Nat.zero_le _, rfl, Lib.hid (Below.refl _ _)⟩
  case round =>
    obtain ⟨k, hk, rfl, BK⟩ := hrel
    by_cases hlt : k < n
    · obtain ⟨b, off, s, rfl, hv, f0⟩ := (HX.out.kept BK.out).strAt hlt
      obtain ⟨b', off', t, rfl, hv', g0⟩ := (HY.out.kept BK.out).strAt hlt
      by_cases hx : s.toList = t.toList
      · have hq : (s.toList == t.toList) = true := by rw [beq_iff_eq]; exact hx
        clear hx hv hv'
        go_wp2_with fail
        go_quiet (fail)
        go_wp2_with fail
        go_roundw
        case rel => exact ⟨k + 1, by omega, by go_num, Lib.hid (belowN BK.out _)⟩
        case measure => simp [RowKit.intOf]; omega
      · have hq : (s.toList == t.toList) = false := by rw [beq_eq_false_iff_ne]; exact hx
        have HE : Hid (¬ x = y) := Lib.hid (fun e => by rw [e, hv'] at hv; exact hx (Option.some.inj hv).symm)
        clear hx hv hv'
        go_wp2_with fail
        go_quiet (fail)
        go_wp2_with fail
        go_ret
        exact ⟨_, rfl, fun e => absurd e HE.out, belowN BK.out _⟩
    · obtain rfl : n = k := by omega
      go_wp2_with fail
      go_ret
      exact ⟨_, rfl, fun _ => rfl, BK.out⟩

theorem nbox_two (w : World) (x y z p x' y' z' p' : Value) :
    NBox ((w.alloc (.cells #[x, y, z, p] 25)).alloc (.cells #[x', y', z', p'] 25)) w.heap.size x y z p ∧
    NBox ((w.alloc (.cells #[x, y, z, p] 25)).alloc (.cells #[x', y', z', p'] 25)) (w.heap.size + 1) x' y' z' p' := by
  refine ⟨(nbox_new w x y z p).kept (below_one _ _), ?_⟩
  have := nbox_new (w.alloc (.cells #[x, y, z, p] 25)) x' y' z' p'
  rw [show (w.alloc (.cells #[x, y, z, p] 25)).heap.size = w.heap.size + 1 by simp] at this
  exact this

set_option maxRecDepth 20000 in
set_option maxHeartbeats 3200000 in
theorem nsame_any (lf : Bool) (A : Option Addr) (n c : Nat) (B : Option Addr) (m d : Nat) (C : Option Addr) (k e : Nat) (s : ND) (lf' : Bool) (A' : Option Addr) (n' c' : Nat) (B' : Option Addr) (m' d' : Nat) (C' : Option Addr) (k' e' : Nat) (t : ND) (w : World)
    (h : Nd w A n c B m d C k e s) (g : Nd w A' n' c' B' m' d' C' k' e' t) (hl : s.leaf = lf) (hl' : t.leaf = lf') (hn : n ≤ 1000000) (hm : m ≤ 1000000) (hk : k ≤ 1000000) :
    Calls Try.prog 23 #[.agg #[.bool lf, .slice A n c, .slice B m d, .slice C k e], .agg #[.bool lf', .slice A' n' c', .slice B' m' d', .slice C' k' e']] w (TxEnd w (s = t)) := by
  obtain ⟨hb1, hb2⟩ := nbox_two w (.bool lf) (.slice A n c) (.slice B m d) (.slice C k e) (.bool lf') (.slice A' n' c') (.slice B' m' d') (.slice C' k' e')
  have b1 := below_two w (.cells #[.bool lf, .slice A n c, .slice B m d, .slice C k e] 25) (.cells #[.bool lf', .slice A' n' c', .slice B' m' d', .slice C' k' e'] 25)
  have HB := Lib.hid hb1
  have HC := Lib.hid hb2
  have B1 := Lib.hid b1
  have H1 := Lib.hid (h.kept b1)
  have G1 := Lib.hid (g.kept b1)
  have HKK := Lib.hid h.cn
  have HKK' := Lib.hid g.cn
  have HL : Hid (s = t → lf = lf') := Lib.hid (fun e => by rw [← hl, ← hl', e])
  clear h g b1 hb1 hb2 hl hl'
  go_enter Try.func23, Try.ntmps23
  go_upto_region 1 with fail
  generalize (w.alloc (.cells #[.bool lf, .slice A n c, .slice B m d, .slice C k e] 25)).alloc (.cells #[.bool lf', .slice A' n' c', .slice B' m' d', .slice C' k' e'] 25) = w1 at *
  obtain ⟨c0, c1, c2, c3⟩ := HB.out.cells
  obtain ⟨d0, d1, d2, d3⟩ := HC.out.cells
  go_wp2_with fail
  refine (ntexts_any A A' n c n' c' s.keys t.keys w1 H1.out.ke G1.out.ke hn).mono ?_
  rintro e1 w2 ⟨r1, rfl, hr1, b2⟩
  have HR1 : Hid (s = t → r1 = true) := Lib.hid (fun e => hr1 (by rw [e]))
  have B2 := Lib.hid (B1.out.trans (b2.mono B1.out.size))
  have HB2 := Lib.hid (HB.out.kept b2)
  have HC2 := Lib.hid (HC.out.kept b2)
  have H2 := Lib.hid (H1.out.kept b2)
  have G2 := Lib.hid (G1.out.kept b2)
  clear hr1 b2 c0 c1 c2 c3 d0 d1 d2 d3 HB HC H1 G1 B1
  obtain ⟨c0, c1, c2, c3⟩ := HB2.out.cells
  obtain ⟨d0, d1, d2, d3⟩ := HC2.out.cells
  go_wp2_with fail
  refine (ntexts_any B B' m d m' d' s.vals t.vals w2 H2.out.va G2.out.va hm).mono ?_
  rintro e2 w3 ⟨r2, rfl, hr2, b3⟩
  have HR2 : Hid (s = t → r2 = true) := Lib.hid (fun e => hr2 (by rw [e]))
  have B3 := Lib.hid (B2.out.trans (b3.mono B2.out.size))
  have HB3 := Lib.hid (HB2.out.kept b3)
  have HC3 := Lib.hid (HC2.out.kept b3)
  have H3 := Lib.hid (H2.out.kept b3)
  have G3 := Lib.hid (G2.out.kept b3)
  clear hr2 b3 c0 c1 c2 c3 d0 d1 d2 d3 HB2 HC2 H2 G2 B2
  obtain ⟨c0, c1, c2, c3⟩ := HB3.out.cells
  obtain ⟨d0, d1, d2, d3⟩ := HC3.out.cells
  cases r1 with
  | false =>
    go_wp2_with fail
    go_ret
    exact ⟨_, rfl, fun e => absurd (HR1.out e) (by decide), B3.out⟩
  | true =>
    cases r2 with
    | false =>
      go_wp2_with fail
      go_ret
      exact ⟨_, rfl, fun e => absurd (HR2.out e) (by decide), B3.out⟩
    | true =>
      by_cases hlf : lf = lf'
      case neg =>
        have HE : Hid (¬ s = t) := Lib.hid (fun e => hlf (HL.out e))
        have hq : (lf != lf') = true := by rw [bne_iff_ne]; exact hlf
        clear HL
        cases lf <;> cases lf' <;> first | (exact absurd rfl hlf) | skip
        all_goals
          clear hlf hq
          go_wp2_with fail
          go_ret
          exact ⟨_, rfl, fun e => absurd e HE.out, B3.out⟩
      subst hlf
      clear HL
      by_cases hkk : k = k'
      case neg =>
        have HE : Hid (¬ s = t) := Lib.hid (fun e => hkk (by rw [← HKK.out, ← HKK'.out, e]))
        have hq : ((k : Int) != (k' : Int)) = true := by rw [bne_iff_ne]; omega
        clear hkk
        cases lf
        all_goals
          go_wp2_with fail
          go_ret
          exact ⟨_, rfl, fun e => absurd e HE.out, B3.out⟩
      subst hkk
      have hq : ((k : Int) != (k : Int)) = false := bne_self_eq_false _
      obtain ⟨wo, hwo⟩ : ∃ wo : World, wo = w3 := ⟨_, rfl⟩
      subst hwo
      cases lf
      all_goals
        go_wp2_with fail
        go_loopw [7] (fun i wk => ∃ j : Nat, j ≤ k ∧ i = .int .i64 j ∧ Hid (Below wo.heap.size wo wk)) (fun i _ => k - (RowKit.intOf i).toNat)
        case atStart => exact ⟨0, Nat.zero_le _, rfl, Lib.hid (Below.refl _ _)⟩
        case round =>
          obtain ⟨j, hj, rfl, BL⟩ := hrel
          clear c0 c1 c2 c3 d0 d1 d2 d3
          obtain ⟨c0, c1, c2, c3⟩ := (HB3.out.kept BL.out).cells
          obtain ⟨d0, d1, d2, d3⟩ := (HC3.out.kept BL.out).cells
          by_cases hlt : j < k
          · obtain ⟨b, off, x, rfl, hv, f0⟩ := (H3.out.kept BL.out).ki.intAt hlt
            obtain ⟨b', off', y, rfl, hv', g0⟩ := (G3.out.kept BL.out).ki.intAt hlt
            by_cases hx : x = y
            · have hb : (x != y) = false := by rw [hx]; exact bne_self_eq_false _
              clear hx hv hv'
              go_wp2_with fail
              go_quiet (fail)
              go_wp2_with fail
              go_roundw
              case rel => exact ⟨j + 1, by omega, by go_num, Lib.hid (belowN BL.out _)⟩
              case measure => simp [RowKit.intOf]; omega
            · have hb : (x != y) = true := by rw [bne_iff_ne]; exact hx
              have HE : Hid (¬ s = t) := Lib.hid (fun e => by rw [e, hv'] at hv; exact hx (Option.some.inj hv).symm)
              clear hx hv hv'
              go_wp2_with fail
              go_quiet (fail)
              go_wp2_with fail
              go_ret
              exact ⟨_, rfl, fun e => absurd e HE.out, belowN (B3.out.trans (BL.out.mono B3.out.size)) _⟩
          · obtain rfl : k = j := by omega
            go_wp2_with fail
            go_ret
            exact ⟨_, rfl, fun _ => rfl, B3.out.trans (BL.out.mono B3.out.size)⟩
end Go.Proofs.Ytcdfjaldnelfjaa
