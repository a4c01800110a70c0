/-
  What the document's own CmpRow and Same come to (rows at most 2147483647 long).
-/
import Derived.Test.YtcjcahgeaffjmaaCmpRow
import Derived.Deep.QuietTactic
import Derived.BigQuiet
namespace Go.Proofs.Ytcjcahgeaffjmaa
open Go.RowKit

set_option maxHeartbeats 1600000 in
theorem refCmpRow_any (A B : Option Addr) (c d : Nat) (xs ys : List Val) (w : World) (hx : Row w A xs) (hy : Row w B ys) (hn : xs.length ≤ 2147483647) (_hm : ys.length ≤ 2147483647) :
    Calls Try.prog 32 #[.slice A xs.length c, .slice B ys.length d] w
      fun e w' => e = .returned (.int .i64 (cmpR xs ys)) ∧ Below w.heap.size w w' := by
  go_enter Try.func32, Try.ntmps32
  go_wp2_with fail
  go_loopw [5] (fun i wr => ∃ k : Nat, k ≤ xs.length ∧ k ≤ ys.length ∧ i = .int .i64 k ∧ Hid (xs.take k = ys.take k) ∧ Below w.heap.size w wr) (fun i _ => xs.length - (intOf i).toNat)
  case atStart => exact ⟨0, Nat.zero_le _, Nat.zero_le _, rfl, Lib.hid (by simp), Below.refl _ _⟩
  case round =>
    obtain ⟨k, hkx, hky, rfl, hpre, hb⟩ := hrel
    by_cases hlt : k < xs.length ∧ k < ys.length
    · obtain ⟨h1, h2⟩ := hlt
      obtain ⟨b, off, u, rfl, hu, c0, c1, c2⟩ := (hx.below hb).at_ h1
      obtain ⟨b', off', v, rfl, hv, d0, d1, d2⟩ := (hy.below hb).at_ h2
      have hU := Lib.hid hu
      have hV := Lib.hid hv
      clear hu hv
      go_wp2_with fail
      go_region_with (go_at_call 41; refine (refCmp_any u.k u.n v.k v.n u.s v.s _).mono ?_; rintro e w1 ⟨rfl, hb1⟩)
      all_goals
        have hb' : Below w.heap.size w w1 := hb.trans ((Below.refl _ _).drew.trans (hb1.mono hb.size))
        by_cases h : cmpV u v = 0
        · have H := Lib.hid h
          have h0 : (vcmp u.k u.n u.s.toList v.k v.n v.s.toList != 0) = false := by unfold cmpV at h; simp [h]
          clear h
          go_wp2_with fail
          go_roundw
          case rel => exact ⟨k + 1, by omega, by omega, by go_num, Lib.hid (cmpV_take hpre.out hU.out hV.out H.out), hb'⟩
          case measure => simp [intOf]; omega
        · have H := Lib.hid h
          have h0 : (vcmp u.k u.n u.s.toList v.k v.n v.s.toList != 0) = true := by unfold cmpV at h; simp [h]
          clear h
          go_wp2_with fail
          go_ret
          exact ⟨ret_int (cmpR_at hpre.out hU.out hV.out H.out).symm, hb'⟩
    · have hend : k = xs.length ∨ k = ys.length := by omega
      have hfin := cmpR_end hpre.out hkx hky hend
      unfold icmp at hfin
      rcases Nat.lt_trichotomy xs.length ys.length with hc | hc | hc
      · rw [if_pos (by omega)] at hfin
        have HF := Lib.hid hfin
        have hge : xs.length ≤ k := by omega
        clear hfin hend hlt
        go_wp2_with fail
        go_ret
        exact ⟨ret_int HF.out.symm, hb⟩
      · rw [if_neg (by omega), if_neg (by omega)] at hfin
        have HF := Lib.hid hfin
        have hge : xs.length ≤ k := by omega
        have hl1 : xs.length ≤ ys.length := by omega
        have hl2 : ys.length ≤ xs.length := by omega
        clear hfin hend hlt hc
        go_wp2_with fail
        go_ret
        exact ⟨ret_int HF.out.symm, hb⟩
      · rw [if_neg (by omega), if_pos (by omega)] at hfin
        have HF := Lib.hid hfin
        have hge : ys.length ≤ k := by omega
        have hlt' : k < xs.length := by omega
        clear hfin hend hlt
        go_wp2_with fail
        go_ret
        exact ⟨ret_int HF.out.symm, hb⟩

set_option maxHeartbeats 400000 in
theorem same_any (A B : Option Addr) (c d : Nat) (xs ys : List Val) (w : World) (hx : Row w A xs) (hy : Row w B ys) (hn : xs.length ≤ 2147483647) (hm : ys.length ≤ 2147483647) :
    Calls Try.prog 17 #[.slice A xs.length c, .slice B ys.length d] w
      fun e w' => e = .returned (.bool (cmpR xs ys == 0)) ∧ Below w.heap.size w w' := by
  go_enter Try.func17, Try.ntmps17
  go_wp2_with fail
  refine (refCmpRow_any A B c d xs ys _ hx hy hn hm).mono ?_
  rintro e w1 ⟨rfl, hb1⟩
  go_wp2_with fail
  go_ret
  exact ⟨rfl, hb1⟩

theorem refCmpRow_n (A B : Option Addr) (n m c d : Nat) (xs ys : List Val) (w : World) (hx : Row w A xs) (hy : Row w B ys) (e1 : xs.length = n) (e2 : ys.length = m) (hn : n ≤ 2147483647) (hm : m ≤ 2147483647) :
    Calls Try.prog 32 #[.slice A n c, .slice B m d] w
      fun e w' => e = .returned (.int .i64 (cmpR xs ys)) ∧ Below w.heap.size w w' := by
  subst e1
  subst e2
  exact refCmpRow_any A B c d xs ys w hx hy hn hm
theorem same_n (A B : Option Addr) (n m c d : Nat) (xs ys : List Val) (w : World) (hx : Row w A xs) (hy : Row w B ys) (e1 : xs.length = n) (e2 : ys.length = m) (hn : n ≤ 2147483647) (hm : m ≤ 2147483647) :
    Calls Try.prog 17 #[.slice A n c, .slice B m d] w
      fun e w' => e = .returned (.bool (cmpR xs ys == 0)) ∧ Below w.heap.size w w' := by
  subst e1
  subst e2
  exact same_any A B c d xs ys w hx hy hn hm

end Go.Proofs.Ytcjcahgeaffjmaa
