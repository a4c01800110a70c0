/-
  What the document's own Check comes to (package tailraceref10).
-/
import Derived.Test.YtgnlmbelaempcaaNEnc
import Derived.Deep.Cut
import Derived.Deep.QuietTactic
import Derived.BigQuiet
import Derived.IntWalk
namespace Go.Proofs.Ytgnlmbelaempcaa
open Go.RowKit

theorem rise_get {l : List (List UInt8)} {k : Nat} {t : List UInt8} (h : l[k]? = some t) : (l.take (k + 1)).getLastD [] = t := (rise_next h).2

/-- Whether a key may stand behind the ones ahead of it. -/
def stepB (l : List (List UInt8)) (k : Nat) (t : List UInt8) : Bool := decide (1 ≤ t.length) && (decide (t.length ≤ 120) && (decide (k = 0) || Op.bytesLess ((l.take k).getLastD []) t))
theorem step_rise {l : List (List UInt8)} {k : Nat} {t : List UInt8} (h : l[k]? = some t) (h0 : ND.rise [] (l.take k) = true) : ND.rise [] (l.take (k + 1)) = stepB l k t := by
  rw [(rise_next h).1, h0, Bool.true_and]
  unfold stepB
  by_cases hk : k = 0
  · subst hk
    rw [List.take_zero]
    show (Op.bytesLess [] t && decide (t.length ≤ 120)) = _
    rw [ND.less_nil]
    simp
  · rw [decide_eq_false hk, Bool.false_or]
    cases hb : Op.bytesLess ((l.take k).getLastD []) t with
    | false => simp
    | true =>
      rw [decide_eq_true (ND.less_len hb)]
      simp

theorem check_rise {s : ND} (h : ND.rise [] s.keys = false) : s.checkE = 100 := ncheck_bad (by unfold ND.ok; rw [h]; rfl)

set_option maxRecDepth 20000 in
set_option maxHeartbeats 6400000 in
theorem rcheck_any (lf : Bool) (A : Option Addr) (n c : Nat) (B : Option Addr) (m d : Nat) (C : Option Addr) (k e : Nat) (s : ND) (w : World) (h : Nd w A n c B m d C k e s) (hl : s.leaf = lf) (hn : n ≤ 1000000000) (hm : m ≤ 1000000000) (hk : k ≤ 1000000000) :
    Calls Try.prog 14 #[.agg #[.bool lf, .slice A n c, .slice B m d, .slice C k e]] w fun e w' => e = .returned (.int .i64 s.checkE) ∧ Below w.heap.size w w' := by
  have HB := Lib.hid (nbox_new w (.bool lf) (.slice A n c) (.slice B m d) (.slice C k e))
  have b1 := below_one w (.cells #[.bool lf, .slice A n c, .slice B m d, .slice C k e] 26)
  have B1 := Lib.hid b1
  have H1 := Lib.hid (h.kept b1)
  have HKN := Lib.hid h.kn
  have HVN := Lib.hid h.vn
  have HCN := Lib.hid h.cn
  have HL := Lib.hid hl
  clear b1 h hl
  go_enter Try.func14, Try.ntmps14
  go_upto_region 1 with fail
  generalize w.alloc (.cells #[.bool lf, .slice A n c, .slice B m d, .slice C k e] 26) = w1 at *
  obtain ⟨wo, hwo⟩ : ∃ wo : World, wo = w1 := ⟨_, rfl⟩
  subst hwo
  obtain ⟨c0, c1, c2, c3⟩ := HB.out.cells
  go_wp2_with fail
  go_loopw [3] (fun i wk => ∃ j : Nat, j ≤ n ∧ i = .int .i64 j ∧ Hid (ND.rise [] (s.keys.take j) = true) ∧ Hid (Below wo.heap.size wo wk)) (fun i _ => n - (intOf i).toNat)
  case atStart => exact ⟨0, Nat.zero_le _, rfl, Lib.hid rfl, Lib.hid (Below.refl _ _)⟩
  case round =>
    obtain ⟨j, hj, rfl, HR, BL⟩ := hrel
    clear c0 c1 c2 c3
    obtain ⟨c0, c1, c2, c3⟩ := (HB.out.kept BL.out).cells
    by_cases hlt : j < n
    · obtain ⟨b, off, t, rfl, hv, f0⟩ := (H1.out.kept BL.out).ke.strAt hlt
      have hs := step_rise hv HR.out
      have HV := Lib.hid hv
      unfold stepB at hs
      rw [toList_length] at hs
      have BE := Lib.hid (B1.out.trans (BL.out.mono B1.out.size))
      by_cases h1 : 1 ≤ t.size
      case neg =>
        have HE : Hid (s.checkE = 100) := Lib.hid (check_rise (rise_stop (k := j + 1) (by rw [hs, decide_eq_false h1]; rfl)))
        have k1 : decide ((t.size : Int) < 1) = true := decide_eq_true (by omega)
        have k2 : t.size = 0 := by omega
        clear hv hs h1
        go_wp2_with fail
        go_quiet (fail)
        go_wp2_with fail
        go_ret
        exact ⟨ret_int HE.out.symm, belowN BE.out _⟩
      by_cases h2 : t.size ≤ 120
      case neg =>
        have HE : Hid (s.checkE = 100) := Lib.hid (check_rise (rise_stop (k := j + 1) (by rw [hs, decide_eq_false h2]; simp)))
        have k1 : decide ((t.size : Int) < 1) = false := decide_eq_false (by omega)
        have k2 : decide ((120 : Int) < (t.size : Int)) = true := decide_eq_true (by omega)
        clear hv hs
        go_wp2_with fail
        go_quiet (fail)
        go_wp2_with fail
        go_ret
        exact ⟨ret_int HE.out.symm, belowN BE.out _⟩
      rw [decide_eq_true h1, decide_eq_true h2, Bool.true_and, Bool.true_and] at hs
      have k1 : decide ((t.size : Int) < 1) = false := decide_eq_false (by omega)
      have k2 : decide ((120 : Int) < (t.size : Int)) = false := decide_eq_false (by omega)
      by_cases hj0 : j = 0
      · subst hj0
        have HE : Hid (ND.rise [] (s.keys.take (0 + 1)) = true) := Lib.hid (by rw [hs]; rfl)
        clear hv hs h1 h2
        rw [Nat.add_zero] at f0
        have k3 : decide ((0 : Int) < ((0 : Nat) : Int)) = false := rfl
        go_wp2_with fail
        go_quiet (fail)
        go_wp2_with fail
        go_roundw
        case rel => exact ⟨0 + 1, by omega, by go_num, HE, Lib.hid (belowN BL.out _)⟩
        case measure => simp [RowKit.intOf]; omega
      rw [decide_eq_false hj0, Bool.false_or] at hs
      obtain ⟨q, rfl⟩ : ∃ q, j = q + 1 := ⟨j - 1, by omega⟩
      obtain ⟨b', off', p, hA, hp, g0⟩ := (H1.out.kept BL.out).ke.strAt (k := q) (by omega)
      obtain ⟨rfl, rfl⟩ : b = b' ∧ off = off' := by
        have := Option.some.inj hA
        injection this with h1 h2
        exact ⟨h1, h2⟩
      rw [rise_get hp] at hs
      have HS := Lib.hid hs
      have k3 : decide ((0 : Int) < ((q + 1 : Nat) : Int)) = true := decide_eq_true (by omega)
      have k4 : decide ((0 : Int) < (q : Int) + 1) = true := decide_eq_true (by omega)
      have k5 : IntKind.i64.wrap ((q : Int) + 1 - 1) = (q : Int) := by rw [show (q : Int) + 1 - 1 = (q : Int) by omega]; exact IntWalk.i64_in _ (by omega)
      have k6 : (q : Int) < (n : Int) := by omega
      have k7 : (0 : Int) ≤ (q : Int) := by omega
      have k8 : (q : Int) + 1 < (n : Int) := by omega
      have k9 : q < n := by omega
      clear hv hs h1 h2 hA hp hj0
      cases hb : Op.bytesLess p.toList t.toList with
      | true =>
        obtain ⟨a1, a2⟩ := less_not hb
        have HE : Hid (ND.rise [] (s.keys.take (q + 1 + 1)) = true) := Lib.hid (HS.out.trans hb)
        clear hb
        go_wp2_with fail
        go_quiet (fail)
        go_wp2_with fail
        go_roundw
        case rel => exact ⟨q + 1 + 1, by omega, by go_num, HE, Lib.hid (belowN BL.out _)⟩
        case measure => simp [RowKit.intOf]; omega
      | false =>
        have HE : Hid (s.checkE = 100) := Lib.hid (check_rise (rise_stop (k := q + 1 + 1) (HS.out.trans hb)))
        rcases not_less hb with a1 | ⟨a1, a2⟩
        all_goals
          clear hb
          go_wp2_with fail
          go_quiet (fail)
          go_wp2_with fail
          go_ret
          exact ⟨ret_int HE.out.symm, belowN BE.out _⟩
    · obtain rfl : n = j := by omega
      have BE := Lib.hid (B1.out.trans (BL.out.mono B1.out.size))
      have HRA : Hid (ND.rise [] s.keys = true) := Lib.hid (by have := HR.out; rw [List.take_of_length_le (by rw [HKN.out]; omega)] at this; exact this)
      clear HR hlt hj
      cases lf with
      | true =>
        have HCK : Hid (s.checkE = if s.leafB then 0 else 100) := Lib.hid (by rw [checkE_leaf HL.out, HRA.out, Bool.true_and])
        have HLB : Hid (s.leafB = (decide (m = n) && (s.vals.all ND.valB && decide (k = 0)))) := Lib.hid (by unfold ND.leafB; rw [HKN.out, HVN.out, HCN.out])
        by_cases hmn : m = n
        case neg =>
          have HE : Hid (s.checkE = 100) := Lib.hid (by rw [HCK.out, HLB.out, decide_eq_false hmn]; rfl)
          have hq : ((m : Int) != (n : Int)) = true := by rw [bne_iff_ne]; omega
          clear hmn
          go_wp2_with fail
          go_ret
          exact ⟨ret_int HE.out.symm, BE.out⟩
        subst hmn
        have hq : ((m : Int) != (m : Int)) = false := bne_self_eq_false _
        by_cases hk0 : k = 0
        case neg =>
          have HE : Hid (s.checkE = 100) := Lib.hid (by rw [HCK.out, HLB.out, decide_eq_false hk0]; simp)
          have hk1 : 0 < k := by omega
          clear hk0
          go_wp2_with fail
          go_ret
          exact ⟨ret_int HE.out.symm, BE.out⟩
        subst hk0
        obtain ⟨wp, hwp⟩ : ∃ wp : World, wp = wr := ⟨_, rfl⟩
        subst hwp
        go_wp2_with fail
        go_loop [4] (fun i => ∃ j : Nat, j ≤ m ∧ i = .int .i64 j ∧ Hid ((s.vals.take j).all ND.valB = true)) (fun i => m - (RowKit.intOf i).toNat)
        case atStart => exact ⟨0, Nat.zero_le _, rfl, Lib.hid rfl⟩
        case round =>
          obtain ⟨j, hj, rfl, HA⟩ := hrel
          by_cases hlt : j < m
          · obtain ⟨b, off, t, rfl, hv, f0⟩ := (H1.out.kept BL.out).va.strAt hlt
            by_cases hz : t.size ≤ 100
            · have HE := Lib.hid (all_next (f := ND.valB) hv (show ND.valB t.toList = true from by unfold ND.valB; rw [toList_length]; exact decide_eq_true hz) HA.out)
              clear hv
              go_wp2_with fail
              go_round
              case rel => exact ⟨j + 1, by omega, by go_num, HE⟩
              case measure => simp [RowKit.intOf]; omega
            · have HE : Hid (s.checkE = 100) := Lib.hid (by
                have := all_stop (f := ND.valB) hv (show ND.valB t.toList = false from by unfold ND.valB; rw [toList_length]; exact decide_eq_false hz)
                rw [HCK.out, HLB.out, this]
                simp)
              have hz2 : 100 < t.size := by omega
              clear hv hz
              go_wp2_with fail
              go_ret
              exact ⟨ret_int HE.out.symm, BE.out⟩
          · obtain rfl : m = j := by omega
            have HE : Hid (s.checkE = 0) := Lib.hid (by
              have := HA.out
              rw [List.take_of_length_le (by rw [HVN.out]; omega)] at this
              rw [HCK.out, HLB.out, this]
              simp)
            go_wp2_with fail
            go_ret
            exact ⟨ret_int HE.out.symm, BE.out⟩
      | false =>
        have HCK : Hid (s.checkE = if s.innerB then 0 else 100) := Lib.hid (by rw [checkE_inner HL.out, HRA.out, Bool.true_and])
        have HLB : Hid (s.innerB = (decide (0 < n) && (decide (k = n + 1) && (s.kids.all ND.kidB && decide (m = 0))))) := Lib.hid (by unfold ND.innerB; rw [HKN.out, HVN.out, HCN.out])
        by_cases hn0 : n = 0
        case pos =>
          subst hn0
          have HE : Hid (s.checkE = 100) := Lib.hid (by rw [HCK.out, HLB.out]; rfl)
          go_wp2_with fail
          go_ret
          exact ⟨ret_int HE.out.symm, BE.out⟩
        have hn1 : 0 < n := by omega
        have hn2 : ¬ (n : Int) < 1 := by omega
        by_cases hkn : k = n + 1
        case neg =>
          have HE : Hid (s.checkE = 100) := Lib.hid (by rw [HCK.out, HLB.out, decide_eq_false hkn]; simp)
          have hq : ((k : Int) != (n : Int) + 1) = true := by rw [bne_iff_ne]; omega
          clear hkn hn0
          go_wp2_with fail
          go_ret
          exact ⟨ret_int HE.out.symm, BE.out⟩
        have hq : ((k : Int) != (n : Int) + 1) = false := by rw [hkn]; simp
        have HKI := Lib.hid hkn
        clear hkn hn0
        by_cases hm0 : m = 0
        case neg =>
          have HE : Hid (s.checkE = 100) := Lib.hid (by rw [HCK.out, HLB.out, decide_eq_false hm0]; simp)
          have hm1 : 0 < m := by omega
          clear hm0
          go_wp2_with fail
          go_ret
          exact ⟨ret_int HE.out.symm, BE.out⟩
        subst hm0
        obtain ⟨wp, hwp⟩ : ∃ wp : World, wp = wr := ⟨_, rfl⟩
        subst hwp
        go_wp2_with fail
        go_loop [5] (fun i => ∃ j : Nat, j ≤ k ∧ i = .int .i64 j ∧ Hid ((s.kids.take j).all ND.kidB = true)) (fun i => k - (RowKit.intOf i).toNat)
        case atStart => exact ⟨0, Nat.zero_le _, rfl, Lib.hid rfl⟩
        case round =>
          obtain ⟨j, hj, rfl, HA⟩ := hrel
          by_cases hlt : j < k
          · obtain ⟨b, off, z, rfl, hv, f0⟩ := (H1.out.kept BL.out).ki.intAt hlt
            cases hz : ND.kidB z with
            | true =>
              have HE := Lib.hid (all_next (f := ND.kidB) hv hz HA.out)
              have hz2 : 2 ≤ z ∧ z ≤ 2147483647 := by unfold ND.kidB at hz; rw [Bool.and_eq_true, decide_eq_true_eq, decide_eq_true_eq] at hz; exact hz
              obtain ⟨y1, y2⟩ := hz2
              clear hv hz
              go_wp2_with fail
              go_round
              case rel => exact ⟨j + 1, by omega, by go_num, HE⟩
              case measure => simp [RowKit.intOf]; omega
            | false =>
              have HE : Hid (s.checkE = 100) := Lib.hid (by
                have := all_stop (f := ND.kidB) hv hz
                rw [HCK.out, HLB.out, this]
                simp)
              have hz2 : z < 2 ∨ (2 ≤ z ∧ 2147483647 < z) := by
                unfold ND.kidB at hz
                by_cases h1 : 2 ≤ z
                · rw [decide_eq_true h1, Bool.true_and, decide_eq_false_iff_not] at hz
                  omega
                · omega
              clear hv hz
              rcases hz2 with y1 | ⟨y1, y2⟩
              all_goals
                go_wp2_with fail
                go_ret
                exact ⟨ret_int HE.out.symm, BE.out⟩
          · obtain rfl : k = j := by omega
            have HE : Hid (s.checkE = 0) := Lib.hid (by
              have := HA.out
              rw [List.take_of_length_le (by rw [HCN.out]; omega)] at this
              rw [HCK.out, HLB.out, this, decide_eq_true hn1, decide_eq_true HKI.out]
              rfl)
            go_wp2_with fail
            go_ret
            exact ⟨ret_int HE.out.symm, BE.out⟩
end Go.Proofs.Ytgnlmbelaempcaa
