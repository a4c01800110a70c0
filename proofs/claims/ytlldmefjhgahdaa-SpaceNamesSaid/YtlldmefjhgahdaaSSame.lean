/-
  What the document's own Same comes to, at two pages' lists.
-/
import Derived.Test.YtlldmefjhgahdaaSBox
import Derived.Deep.QuietTactic
import Derived.BigQuiet
namespace Go.Proofs.Ytlldmefjhgahdaa
open Go.RowKit

open Classical in
/-- Two lists alike. -/
noncomputable def sameS (a b : SS) : Bool := decide (a.hi = b.hi ∧ a.fr = b.fr ∧ a.pe = b.pe)
theorem sameS_refl (a : SS) : sameS a a = true := by
  unfold sameS
  simp
theorem sameS_eq {a b : SS} (h : sameS a b = true) : a = b := by
  unfold sameS at h
  obtain ⟨h1, h2, h3⟩ := of_decide_eq_true h
  obtain ⟨x, y, z⟩ := a
  obtain ⟨x', y', z'⟩ := b
  simp only at h1 h2 h3
  rw [h1, h2, h3]
theorem sameS_no {a b : SS} (h : ¬ (a.hi = b.hi ∧ a.fr = b.fr ∧ a.pe = b.pe)) : sameS a b = false := by
  unfold sameS
  exact decide_eq_false h
theorem sameS_yes {a b : SS} (h : a.hi = b.hi ∧ a.fr = b.fr ∧ a.pe = b.pe) : sameS a b = true := by
  unfold sameS
  exact decide_eq_true h

set_option maxRecDepth 20000 in
set_option maxHeartbeats 3200000 in
theorem same_any (s t : SS) (h g : Int) (A B C D : Option Addr) (n c m d n' c' m' d' : Nat) (w : World) (hh : s.hi = h) (hg : t.hi = g) (hs : Sp w A n c B m d s) (ht : Sp w C n' c' D m' d' t) (hn : n ≤ 400000) (hm : m ≤ 400000) :
    Calls Try.prog 20 #[.agg #[.int .i64 h, .slice A n c, .slice B m d], .agg #[.int .i64 g, .slice C n' c', .slice D m' d']] w fun e w' => e = .returned (.bool (sameS s t)) ∧ Below w.heap.size w w' := by
  obtain ⟨tb1, tb2, tb3⟩ := two_boxes w (.int .i64 h) (.slice A n c) (.slice B m d) (.int .i64 g) (.slice C n' c') (.slice D m' d')
  have HX := Lib.hid tb1
  have HY := Lib.hid tb2
  have B0 := Lib.hid tb3
  have HS := Lib.hid (hs.kept tb3)
  have HT := Lib.hid (ht.kept tb3)
  have HH := Lib.hid hh
  have HG := Lib.hid hg
  have n1 := hs.fl
  have n2 := hs.pl
  have n3 := ht.fl
  have n4 := ht.pl
  by_cases q1 : h = g
  rotate_left
  · have HF : Hid (sameS s t = false) := Lib.hid (sameS_no (fun e => q1 (by rw [← hh, ← hg]; exact e.1)))
    have b1 : (h != g) = true := by simpa using q1
    clear q1 hs ht hh hg n1 n2 n3 n4 tb1 tb2 tb3
    go_enter Try.func20, Try.ntmps20
    go_wp2_with fail
    go_ret
    exact ⟨ret_bool HF.out.symm, B0.out⟩
  have b1 : (h != g) = false := by simpa using q1
  by_cases q2 : n = n'
  rotate_left
  · have HF : Hid (sameS s t = false) := Lib.hid (sameS_no (fun e => q2 (by rw [← n1, ← n3, e.2.1])))
    have b2 : ((n : Int) != (n' : Int)) = true := by simp; omega
    clear q1 q2 hs ht hh hg n1 n2 n3 n4 tb1 tb2 tb3
    go_enter Try.func20, Try.ntmps20
    go_wp2_with fail
    go_ret
    exact ⟨ret_bool HF.out.symm, B0.out⟩
  have b2 : ((n : Int) != (n' : Int)) = false := by simp; omega
  by_cases q3 : m = m'
  rotate_left
  · have HF : Hid (sameS s t = false) := Lib.hid (sameS_no (fun e => q3 (by rw [← n2, ← n4, e.2.2])))
    have b3 : ((m : Int) != (m' : Int)) = true := by simp; omega
    clear q1 q2 q3 hs ht hh hg n1 n2 n3 n4 tb1 tb2 tb3
    go_enter Try.func20, Try.ntmps20
    go_wp2_with fail
    go_ret
    exact ⟨ret_bool HF.out.symm, B0.out⟩
  have b3 : ((m : Int) != (m' : Int)) = false := by simp; omega
  have HQ := Lib.hid (show h = g ∧ n = n' ∧ m = m' ∧ s.fr.length = n ∧ s.pe.length = m ∧ t.fr.length = n' ∧ t.pe.length = m' from ⟨q1, q2, q3, n1, n2, n3, n4⟩)
  clear q1 q2 q3 hs ht hh hg n1 n2 n3 n4 tb1 tb2 tb3
  go_enter Try.func20, Try.ntmps20
  go_wp2_with fail
  generalize (w.alloc (.cells #[.int .i64 h, .slice A n c, .slice B m d] 26)).alloc (.cells #[.int .i64 g, .slice C n' c', .slice D m' d'] 26) = w0 at *
  clear b1 b2 b3
  go_loopw [5] (fun i wr => ∃ k : Nat, k ≤ n ∧ i = .int .i64 k ∧ Hid (s.fr.take k = t.fr.take k) ∧ Hid (Below w0.heap.size w0 wr)) (fun i _ => n - (intOf i).toNat)
  case atStart => exact ⟨0, Nat.zero_le _, rfl, Lib.hid (by simp), Lib.hid (Below.refl _ _)⟩
  case round =>
    obtain ⟨k, hk, rfl, hpre, B1⟩ := hrel
    obtain ⟨a0, a1, a2⟩ := (HX.out.kept B1.out).cells
    obtain ⟨y0, y1, y2⟩ := (HY.out.kept B1.out).cells
    by_cases hlt : k < n
    · have hlt2 : k < n' := by rw [← HQ.out.2.1]; exact hlt
      obtain ⟨b, off, x, rfl, hx, c0⟩ := (HS.out.fr.kept B1.out).intAt hlt
      obtain ⟨b', off', y, rfl, hy, c1⟩ := (HT.out.fr.kept B1.out).intAt hlt2
      have i0 : (0 : Int) ≤ (k : Int) := by omega
      have HP := Lib.hid hx
      have HQ' := Lib.hid hy
      clear hx hy
      by_cases hxy : x = y
      · subst hxy
        have HM := Lib.hid (take_more hpre.out HP.out HQ'.out)
        clear HP HQ' hpre
        go_wp2_with fail
        go_quiet (fail)
        go_wp2_with fail
        go_roundw
        case rel => exact ⟨k + 1, by omega, by go_num, HM, Lib.hid (belowN B1.out _)⟩
        case measure => simp [intOf]; omega
      · have bx : (x != y) = true := by simpa using hxy
        have HF : Hid (sameS s t = false) := Lib.hid (sameS_no (fun e => hxy (by have h1 := HP.out; rw [e.2.1, HQ'.out] at h1; exact (Option.some.inj h1).symm)))
        have B2 := Lib.hid (B0.out.trans (B1.out.mono B0.out.size))
        clear hxy
        go_wp2_with fail
        go_quiet (fail)
        go_wp2_with fail
        go_ret
        exact ⟨ret_bool HF.out.symm, belowN B2.out _⟩
    · obtain rfl : n = k := by omega
      have HFR : Hid (s.fr = t.fr) := Lib.hid (by
        obtain ⟨_, e2, _, e4, _, e6, _⟩ := HQ.out
        have := hpre.out
        rw [List.take_of_length_le (by omega), List.take_of_length_le (by omega)] at this
        exact this)
      go_wp2_with fail
      clear a0 a1 a2 y0 y1 y2
      go_loopw [6] (fun i wk => ∃ k : Nat, k ≤ m ∧ i = .int .i64 k ∧ Hid (s.pe.take k = t.pe.take k) ∧ Hid (Below w0.heap.size w0 wk)) (fun i _ => m - (intOf i).toNat)
      case atStart => exact ⟨0, Nat.zero_le _, rfl, Lib.hid (by simp), B1⟩
      case round =>
        obtain ⟨k, hk, rfl, hpre2, B2⟩ := hrel
        obtain ⟨a0, a1, a2⟩ := (HX.out.kept B2.out).cells
        obtain ⟨y0, y1, y2⟩ := (HY.out.kept B2.out).cells
        by_cases hlt : k < m
        · have hlt2 : k < m' := by rw [← HQ.out.2.2.1]; exact hlt
          obtain ⟨b, off, x, y, rfl, hx, c0, c1⟩ := (HS.out.pe.kept B2.out).prAt hlt
          obtain ⟨b', off', x', y', rfl, hy, d0, d1⟩ := (HT.out.pe.kept B2.out).prAt hlt2
          have i0 : (0 : Int) ≤ (k : Int) := by omega
          have HP := Lib.hid hx
          have HQ' := Lib.hid hy
          clear hx hy
          by_cases hxy : x = x'
          · subst hxy
            by_cases hyy : y = y'
            · subst hyy
              have HM := Lib.hid (take_more hpre2.out HP.out HQ'.out)
              clear HP HQ' hpre2
              go_wp2_with fail
              go_quiet (fail)
              go_wp2_with fail
              go_roundw
              case rel => exact ⟨k + 1, by omega, by go_num, HM, Lib.hid (belowN B2.out _)⟩
              case measure => simp [intOf]; omega
            · have bx : (y == y') = false := by simpa using hyy
              have HF : Hid (sameS s t = false) := Lib.hid (sameS_no (fun e => hyy (by have h1 := HP.out; rw [e.2.2, HQ'.out] at h1; exact (Prod.mk.inj (Option.some.inj h1)).2.symm)))
              have B3 := Lib.hid (B0.out.trans (B2.out.mono B0.out.size))
              clear hyy
              go_wp2_with fail
              go_quiet (fail)
              go_wp2_with fail
              go_ret
              exact ⟨ret_bool HF.out.symm, belowN B3.out _⟩
          · have bx : (x == x') = false := by simpa using hxy
            have HF : Hid (sameS s t = false) := Lib.hid (sameS_no (fun e => hxy (by have h1 := HP.out; rw [e.2.2, HQ'.out] at h1; exact (Prod.mk.inj (Option.some.inj h1)).1.symm)))
            have B3 := Lib.hid (B0.out.trans (B2.out.mono B0.out.size))
            clear hxy
            go_wp2_with fail
            go_quiet (fail)
            go_wp2_with fail
            go_ret
            exact ⟨ret_bool HF.out.symm, belowN B3.out _⟩
        · obtain rfl : m = k := by omega
          have HF : Hid (sameS s t = true) := Lib.hid (sameS_yes (by
            obtain ⟨e1, _, e3, _, e5, _, e7⟩ := HQ.out
            have := hpre2.out
            rw [List.take_of_length_le (by omega), List.take_of_length_le (by omega)] at this
            exact ⟨by rw [HH.out, HG.out, e1], HFR.out, this⟩))
          have B3 := Lib.hid (B0.out.trans (B2.out.mono B0.out.size))
          go_wp2_with fail
          go_ret
          exact ⟨ret_bool HF.out.symm, B3.out⟩
end Go.Proofs.Ytlldmefjhgahdaa
