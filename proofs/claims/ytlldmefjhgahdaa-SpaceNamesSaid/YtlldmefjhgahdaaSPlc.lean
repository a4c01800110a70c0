/-
  What place comes to, with slices.IndexFunc at its closure.
-/
import Derived.Test.YtlldmefjhgahdaaSMem
import Derived.Test.YtlldmefjhgahdaaSPlace
namespace Go.Proofs.Ytlldmefjhgahdaa
open Go.RowKit

set_option maxRecDepth 20000 in
set_option maxHeartbeats 400000 in
theorem placeFn_any (z p : Int) (g : Nat) (w : World) (hc : w.cell? ⟨g, 0, none⟩ = some (.int .i64 p)) :
    Calls Try.prog 64 #[.int .i64 z, .pointer (some ⟨g, 0, none⟩)] w fun e w' => e = .returned (.bool (decide (z ≥ p))) ∧ w' = w := by
  go_enter Try.func64, Try.ntmps64
  go_wp2_with fail
  go_ret
  exact ⟨rfl, rfl⟩

/-- None of the first k is as great as p. -/
def Lows (zs : List Int) (k : Nat) (p : Int) : Prop := ∀ j z, j < k → zs[j]? = some z → z < p
theorem Lows.more {zs : List Int} {k : Nat} {p x : Int} (h : Lows zs k p) (hv : zs[k]? = some x) (hx : x < p) : Lows zs (k + 1) p := by
  intro j z hj hz
  by_cases e : j = k
  · subst e
    rw [hv] at hz
    obtain rfl := Option.some.inj hz
    exact hx
  · exact h j z (by omega) hz
theorem Lows.hit {zs : List Int} {k : Nat} {p x : Int} (h : Lows zs k p) (hv : zs[k]? = some x) (hx : ¬ x < p) : SS.place p zs = k := by
  obtain ⟨hk, _⟩ := List.getElem?_eq_some_iff.1 hv
  refine SS.place_at h (fun z hz => ?_) (by omega)
  rw [hv] at hz
  obtain rfl := Option.some.inj hz
  exact hx
theorem Lows.miss {zs : List Int} {p : Int} {n : Nat} (h : Lows zs n p) (hn : zs.length = n) : SS.place p zs = n := by
  refine SS.place_at h (fun z hz => ?_) (by omega)
  rw [List.getElem?_eq_none (by omega)] at hz
  cases hz

/-- Where it is, or that it is nowhere. -/
def placeR (p : Int) (zs : List Int) (n : Nat) : Int := if SS.place p zs = n then -1 else (SS.place p zs : Nat)

set_option maxRecDepth 20000 in
set_option maxHeartbeats 800000 in
theorem indexP_any (A : Option Addr) (n c : Nat) (zs : List Int) (p : Int) (g : Nat) (w : World) (hz : Ln w 1 A n c (intVals zs)) (hc : w.cell? ⟨g, 0, none⟩ = some (.int .i64 p)) (hn : n ≤ 1000000) :
    Calls Try.prog 63 #[.slice A n c, .func (.func 64) #[] #[.pointer (some ⟨g, 0, none⟩)]] w fun e w' => e = .returned (.int .i64 (placeR p zs n)) ∧ w' = w := by
  have HZ := Lib.hid hz
  have HN := Lib.hid hz.intN
  have HF := Lib.hid (fun z => placeFn_any z p g w hc)
  clear hz hc
  go_enter Try.func63, Try.ntmps63
  go_wp2_with fail
  obtain ⟨wo, rfl⟩ : ∃ wo : World, wo = w := ⟨_, rfl⟩
  go_loopw [8] (fun i wk => ∃ k : Nat, k ≤ n ∧ i = .int .i64 k ∧ Hid (Lows zs k p) ∧ wk = wo) (fun i _ => n - (intOf i).toNat)
  case atStart => exact ⟨0, Nat.zero_le _, rfl, Lib.hid (fun j z hj => absurd hj (Nat.not_lt_zero _)), rfl⟩
  case round =>
    obtain ⟨k, hk, rfl, HL, hw⟩ := hrel
    have hw' := hw.symm
    subst hw'
    clear hw
    by_cases hlt : k < n
    · obtain ⟨b, off, x, rfl, hv, c0⟩ := HZ.out.intAt hlt
      by_cases hx : x < p
      · have HM := Lib.hid (HL.out.more hv hx)
        have hb : decide (x ≥ p) = false := decide_eq_false (by omega)
        clear hv HL hx
        go_wp2_with fail
        refine (HF.out x).mono ?_
        rintro e w1 ⟨rfl, rfl⟩
        go_wp2_with fail
        go_roundw
        case rel => exact ⟨k + 1, by omega, by go_num, HM, trivial⟩
        case measure => simp [intOf]; omega
      · have hp := HL.out.hit hv hx
        have HM : Hid (placeR p zs n = (k : Int)) := Lib.hid (by unfold placeR; rw [if_neg (by omega), hp])
        have hb : decide (x ≥ p) = true := decide_eq_true (by omega)
        clear hv HL hx hp
        go_wp2_with fail
        refine (HF.out x).mono ?_
        rintro e w1 ⟨rfl, rfl⟩
        go_wp2_with fail
        go_ret
        exact ⟨ret_int HM.out.symm, rfl⟩
    · obtain rfl : n = k := by omega
      have hp := HL.out.miss HN.out
      have HM : Hid (placeR p zs n = -1) := Lib.hid (by unfold placeR; rw [if_pos hp])
      clear hp
      go_wp2_with fail
      go_ret
      exact ⟨ret_int HM.out.symm, rfl⟩

set_option maxRecDepth 20000 in
set_option maxHeartbeats 400000 in
theorem place_any (A : Option Addr) (n c : Nat) (zs : List Int) (p : Int) (w : World) (hz : Ln w 1 A n c (intVals zs)) (hn : n ≤ 1000000) :
    Calls Try.prog 55 #[.slice A n c, .int .i64 p] w fun e w' => e = .returned (.int .i64 (SS.place p zs : Nat)) ∧ Below w.heap.size w w' := by
  have hmf : ∀ (fn : Fn) (first cap : Array Value) (w : World), (Instr.makeFunc fn first cap).run Try.prog w = .ok (.func fn first cap) w := fun _ _ _ _ => rfl
  have HZ := Lib.hid (hz.kept (below_one w (.cells #[.int .i64 p] 3)))
  have HN := Lib.hid hz.intN
  have B1 := Lib.hid (below_one w (.cells #[.int .i64 p] 3))
  have hc : (w.alloc (.cells #[.int .i64 p] 3)).cell? ⟨w.heap.size, 0, none⟩ = some (.int .i64 p) := by simp
  clear hz
  go_enter Try.func55, Try.ntmps55
  go_wp2_with fail
  generalize w.alloc (.cells #[.int .i64 p] 3) = w1 at *
  refine (indexP_any A n c zs p w.heap.size w1 HZ.out hc hn).mono ?_
  rintro e w2 ⟨rfl, rfl⟩
  have hle : SS.place p zs ≤ n := by have := SS.place_le p zs; rw [HN.out] at this; exact this
  by_cases hp : SS.place p zs = n
  · have HR : placeR p zs n = -1 := by unfold placeR; rw [if_pos hp]
    have HP := Lib.hid hp
    rw [HR]
    clear HR hp hc
    go_wp2_with fail
    go_ret
    exact ⟨ret_int (by rw [HP.out]), B1.out⟩
  · have HR : placeR p zs n = (SS.place p zs : Nat) := by unfold placeR; rw [if_neg hp]
    obtain ⟨k, hk⟩ : ∃ k, SS.place p zs = k := ⟨_, rfl⟩
    rw [HR, hk]
    have HK := Lib.hid hk
    clear HR hp hc hk hle
    have i0 : ¬ ((k : Int) < 0) := by omega
    go_wp2_with fail
    go_ret
    exact ⟨ret_int (by rw [HK.out]), B1.out⟩
end Go.Proofs.Ytlldmefjhgahdaa
