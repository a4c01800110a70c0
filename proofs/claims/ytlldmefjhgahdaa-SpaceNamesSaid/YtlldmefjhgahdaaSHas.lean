/-
  What slices.Contains comes to at a list of ints.
-/
import Derived.Test.YtlldmefjhgahdaaSMem
namespace Go.Proofs.Ytlldmefjhgahdaa
open Go.RowKit

/-- It is not among the first k. -/
def NotIn (zs : List Int) (k : Nat) (p : Int) : Prop := p ∉ zs.take k
theorem NotIn.more {zs : List Int} {k : Nat} {p x : Int} (h : NotIn zs k p) (hv : zs[k]? = some x) (hx : ¬ p = x) : NotIn zs (k + 1) p := by
  unfold NotIn
  rw [List.take_add_one, hv, Option.toList_some, List.mem_append]
  rintro (h1 | h1)
  · exact h h1
  · exact hx (by simpa using h1)

set_option maxRecDepth 20000 in
set_option maxHeartbeats 800000 in
theorem index_any (A : Option Addr) (n c : Nat) (zs : List Int) (p : Int) (w : World) (hz : Ln w 1 A n c (intVals zs)) (hn : n ≤ 1000000) :
    Calls Try.prog 60 #[.slice A n c, .int .i64 p] w fun e w' => (∃ r : Int, e = .returned (.int .i64 r) ∧ (decide (r ≥ 0)) = decide (p ∈ zs)) ∧ w' = w := by
  have HZ := Lib.hid hz
  have HN := Lib.hid hz.intN
  clear hz
  go_enter Try.func60, Try.ntmps60
  go_wp2_with fail
  obtain ⟨wo, rfl⟩ : ∃ wo : World, wo = w := ⟨_, rfl⟩
  go_loopw [8] (fun i wk => ∃ k : Nat, k ≤ n ∧ i = .int .i64 k ∧ Hid (NotIn zs k p) ∧ wk = wo) (fun i _ => n - (intOf i).toNat)
  case atStart => exact ⟨0, Nat.zero_le _, rfl, Lib.hid (by simp [NotIn]), rfl⟩
  case round =>
    obtain ⟨k, hk, rfl, HL, hw⟩ := hrel
    have hw' := hw.symm
    subst hw'
    clear hw
    by_cases hlt : k < n
    · obtain ⟨b, off, x, rfl, hv, c0⟩ := HZ.out.intAt hlt
      by_cases hx : p = x
      · have HM := Lib.hid (List.mem_of_getElem? hv)
        subst hx
        clear hv HL
        go_wp2_with fail
        go_ret
        exact ⟨⟨_, rfl, by rw [decide_eq_true HM.out, decide_eq_true (by omega)]⟩, rfl⟩
      · have HM := Lib.hid (HL.out.more hv hx)
        have hb : (p == x) = false := by simpa using hx
        clear hv HL hx
        go_wp2_with fail
        go_roundw
        case rel => exact ⟨k + 1, by omega, by go_num, HM, trivial⟩
        case measure => simp [intOf]; omega
    · obtain rfl : n = k := by omega
      have hm := HL.out
      unfold NotIn at hm
      rw [List.take_of_length_le (by rw [HN.out]; exact Nat.le_refl _)] at hm
      have HM := Lib.hid hm
      clear hm
      go_wp2_with fail
      go_ret
      exact ⟨⟨_, rfl, by rw [decide_eq_false HM.out]; rfl⟩, rfl⟩

set_option maxRecDepth 20000 in
set_option maxHeartbeats 400000 in
theorem contains_any (A : Option Addr) (n c : Nat) (zs : List Int) (p : Int) (w : World) (hz : Ln w 1 A n c (intVals zs)) (hn : n ≤ 1000000) :
    Calls Try.prog 52 #[.slice A n c, .int .i64 p] w fun e w' => e = .returned (.bool (decide (p ∈ zs))) ∧ w' = w := by
  have HZ := Lib.hid hz
  clear hz
  go_enter Try.func52, Try.ntmps52
  go_wp2_with fail
  refine (index_any A n c zs p w HZ.out hn).mono ?_
  rintro e w2 ⟨⟨r, rfl, hr⟩, rfl⟩
  go_wp2_with fail
  go_ret
  exact ⟨rfl, rfl⟩
end Go.Proofs.Ytlldmefjhgahdaa
