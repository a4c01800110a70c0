/-
  What rises, agesStand and lastEpoch come to.
-/
import Derived.Test.YtlldmefjhgahdaaSMem
import Derived.Test.YtlldmefjhgahdaaSPlace
import Derived.Deep.QuietTactic
import Derived.BigQuiet
import Derived.IntWalk
namespace Go.Proofs.Ytlldmefjhgahdaa
open Go.RowKit

theorem rises_more {zs : List Int} {k : Nat} {x y : Int} (h : (zs.take (k + 1)).Pairwise (· < ·)) (hx : zs[k]? = some x) (hy : zs[k + 1]? = some y) (hlt : x < y) : (zs.take (k + 2)).Pairwise (· < ·) := by
  rw [List.take_add_one, hy, Option.toList_some]
  refine List.pairwise_append.2 ⟨h, by simp, fun a ha b hb => ?_⟩
  obtain rfl : b = y := by simpa using hb
  rw [List.take_add_one, hx, Option.toList_some] at ha h
  rcases List.mem_append.1 ha with h1 | h1
  · have := (List.pairwise_append.1 h).2.2 a h1 x (by simp)
    omega
  · obtain rfl : a = x := by simpa using h1
    exact hlt
theorem rises_not {zs : List Int} {k : Nat} {x y : Int} (hx : zs[k]? = some x) (hy : zs[k + 1]? = some y) (hge : ¬ x < y) : SS.rises zs = false := by
  refine decide_eq_false (fun h => hge ?_)
  obtain ⟨h1, rfl⟩ := List.getElem?_eq_some_iff.1 hx
  obtain ⟨h2, rfl⟩ := List.getElem?_eq_some_iff.1 hy
  exact List.pairwise_iff_getElem.1 h k (k + 1) h1 h2 (by omega)
theorem rises_all {zs : List Int} {n : Nat} (hn : zs.length ≤ n) (h : (zs.take n).Pairwise (· < ·)) : SS.rises zs = true := by
  rw [List.take_of_length_le hn] at h
  exact decide_eq_true h

set_option maxRecDepth 20000 in
set_option maxHeartbeats 1600000 in
theorem rises_any (A : Option Addr) (n c : Nat) (zs : List Int) (w : World) (hz : Ln w 1 A n c (intVals zs)) (hn : n ≤ 1000000) :
    Calls Try.prog 39 #[.slice A n c] w fun e w' => e = .returned (.bool (SS.rises zs)) ∧ Below w.heap.size w w' := by
  have HZ := Lib.hid hz
  have HN := Lib.hid hz.intN
  clear hz
  go_enter Try.func39, Try.ntmps39
  go_wp2_with fail
  go_loopw [3] (fun i wk => ∃ k : Nat, (k = 0 ∨ k + 1 ≤ n) ∧ i = .int .i64 ((k : Int) + 1) ∧ Hid ((zs.take (k + 1)).Pairwise (· < ·)) ∧ Hid (Below w.heap.size w wk)) (fun i _ => n - (intOf i).toNat)
  case atStart =>
    refine ⟨0, Or.inl rfl, rfl, Lib.hid ?_, Lib.hid (Below.refl _ _)⟩
    match zs with
    | [] => simp
    | z :: zs => simp
  case round =>
    obtain ⟨k, hk, rfl, HR, B1⟩ := hrel
    by_cases hlt : k + 1 < n
    · obtain ⟨b, off, x, rfl, hx, c0⟩ := (HZ.out.kept B1.out).intAt (k := k) (by omega)
      obtain ⟨b', off', y, e0, hy, c1⟩ := (HZ.out.kept B1.out).intAt (k := k + 1) hlt
      have e1 := Option.some.inj e0
      injection e1 with e1 e2
      subst e1
      subst e2
      clear e0
      have i0 : (k : Int) + 1 < (n : Int) := by omega
      have i1 : (0 : Int) ≤ (k : Int) := by omega
      have i2 : (0 : Int) ≤ (k : Int) + 1 := by omega
      have i3 : (k : Int) < (n : Int) := by omega
      have i4 : IntKind.i64.wrap ((k : Int) + 1 - 1) = (k : Int) := by
        rw [Int.add_sub_cancel]
        exact IntWalk.i64_in _ (by omega)
      by_cases hxy : x < y
      · have hM := Lib.hid (rises_more HR.out hx hy hxy)
        have hb : (decide (x ≥ y)) = false := decide_eq_false (by omega)
        clear hx hy HR
        go_wp2_with fail
        go_quiet (fail)
        go_wp2_with fail
        go_roundw
        case rel => exact ⟨k + 1, Or.inr (by omega), by go_num, hM, Lib.hid (belowN B1.out _)⟩
        case measure => simp [intOf]; omega
      · have hM := Lib.hid (rises_not hx hy hxy)
        have hb : (decide (x ≥ y)) = true := decide_eq_true (by omega)
        clear hx hy HR
        go_wp2_with fail
        go_quiet (fail)
        go_wp2_with fail
        go_ret
        exact ⟨ret_bool hM.out.symm, belowN B1.out _⟩
    · have hM := Lib.hid (rises_all (n := k + 1) (by rw [HN.out]; omega) HR.out)
      have i0 : ¬ (k : Int) + 1 < (n : Int) := by omega
      go_wp2_with fail
      go_ret
      exact ⟨ret_bool hM.out.symm, B1.out⟩
end Go.Proofs.Ytlldmefjhgahdaa
