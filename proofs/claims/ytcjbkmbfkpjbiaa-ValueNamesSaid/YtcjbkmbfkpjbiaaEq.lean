/-
  What slices.Equal comes to at two lists of ints; and what is meant by a list of ints in memory.
-/
import Derived.Test.YtcjbkmbfkpjbiaaRow
import Derived.Deep.QuietTactic
import Derived.BigQuiet
namespace Go.Proofs.Ytcjbkmbfkpjbiaa
open Go.RowKit

/-- A slice of ints, at address A, whose elements are zs. -/
def Ints (w : World) (A : Option Addr) (zs : List Int) : Prop :=
  zs = [] ∨ ∃ b off, A = some ⟨b, off, none⟩ ∧ ∀ i z, zs[i]? = some z → w.cell? ⟨b, off + i, none⟩ = some (.int .i64 z)

theorem Ints.below {w w' : World} {A : Option Addr} {zs : List Int} (h : Ints w A zs) (hb : Below w.heap.size w w') : Ints w' A zs := by
  rcases h with rfl | ⟨b, off, rfl, hc⟩
  · exact Or.inl rfl
  · refine Or.inr ⟨b, off, rfl, fun i z hz => ?_⟩
    have h0 := hc i z hz
    have hlt : b < w.heap.size := World.block_lt_of_cell? _ _ h0
    exact (hb.cell (p := ⟨b, _, none⟩) hlt).trans h0

theorem Ints.at_ {w : World} {A : Option Addr} {zs : List Int} (h : Ints w A zs) {k : Nat} (hk : k < zs.length) :
    ∃ b off z, A = some ⟨b, off, none⟩ ∧ zs[k]? = some z ∧ w.cell? ⟨b, off + k, none⟩ = some (.int .i64 z) := by
  rcases h with rfl | ⟨b, off, rfl, hc⟩
  · exact absurd hk (by simp)
  · exact ⟨b, off, zs[k], rfl, List.getElem?_eq_getElem hk, hc k _ (List.getElem?_eq_getElem hk)⟩

theorem belowN {B : Nat} {a w : World} (h : Below B a w) (n : Nat) : Below B a (w.drewN n) := ⟨h.os, h.tape, h.output, h.size, h.block⟩

theorem ret_bool {a b : Bool} (h : a = b) : Ending.returned (.bool a) = .returned (.bool b) := by rw [h]
theorem ret_int {a b : Int} (h : a = b) : Ending.returned (.int .i64 a) = .returned (.int .i64 b) := by rw [h]

theorem take_more {α : Type} {xs ys : List α} {k : Nat} {z : α} (h : xs.take k = ys.take k) (hx : xs[k]? = some z) (hy : ys[k]? = some z) : xs.take (k + 1) = ys.take (k + 1) := by
  rw [List.take_add_one, List.take_add_one, h, hx, hy]

set_option maxHeartbeats 400000 in
theorem equal_any (A B : Option Addr) (c d : Nat) (xs ys : List Int) (w : World) (hx : Ints w A xs) (hy : Ints w B ys) (hn : xs.length ≤ 2147483647) :
    Calls Try.prog 27 #[.slice A xs.length c, .slice B ys.length d] w
      fun e w' => e = .returned (.bool (decide (xs = ys))) ∧ Below w.heap.size w w' := by
  by_cases hl : xs.length = ys.length
  · have hl' : ((xs.length : Int) != (ys.length : Int)) = false := by simp [hl]
    have HL := Lib.hid hl
    have hlx : xs.length ≤ ys.length := by omega
    have hly : ys.length ≤ xs.length := by omega
    clear hl
    go_enter Try.func27, Try.ntmps27
    go_wp2_with fail
    go_loopw [13] (fun i wr => ∃ k : Nat, k ≤ xs.length ∧ i = .int .i64 k ∧ Hid (xs.take k = ys.take k) ∧ Below w.heap.size w wr) (fun i _ => xs.length - (intOf i).toNat)
    case atStart => exact ⟨0, Nat.zero_le _, rfl, Lib.hid (by simp), Below.refl _ _⟩
    case round =>
      obtain ⟨k, hk, rfl, hpre, hb⟩ := hrel
      by_cases hlt : k < xs.length
      · obtain ⟨b, off, z, rfl, hv, c0⟩ := (hx.below hb).at_ hlt
        obtain ⟨b', off', z', rfl, hv', c0'⟩ := (hy.below hb).at_ (k := k) (by omega)
        have hV := Lib.hid hv
        have hV' := Lib.hid hv'
        clear hv hv'
        have i0 : (0 : Int) ≤ (k : Int) := by omega
        by_cases hz : z = z'
        · subst hz
          go_wp2_with fail
          go_quiet (fail)
          go_wp2_with fail
          go_roundw
          case rel => exact ⟨k + 1, by omega, by go_num, Lib.hid (take_more hpre.out hV.out hV'.out), belowN hb _⟩
          case measure => simp [intOf]; omega
        · have hz' : (z != z') = true := by simpa using hz
          clear hz
          go_wp2_with fail
          go_quiet (fail)
          go_wp2_with fail
          go_ret
          refine ⟨ret_bool (decide_eq_false (fun e => ?_)).symm, belowN hb _⟩
          have h1 := hV.out
          rw [e, hV'.out] at h1
          simp at h1
          exact absurd h1.symm (by simpa using hz')
      · obtain rfl : k = xs.length := by omega
        go_wp2_with fail
        go_ret
        refine ⟨ret_bool (decide_eq_true ?_).symm, hb⟩
        have := hpre.out
        rw [List.take_length, HL.out, List.take_length] at this
        exact this
  · have hl' : ((xs.length : Int) != (ys.length : Int)) = true := by simp; omega
    have hfin : decide (xs = ys) = false := decide_eq_false (fun e => hl (by rw [e]))
    rw [hfin]
    clear hfin
    go_enter Try.func27, Try.ntmps27
    go_wp2_with fail
    go_ret
    exact ⟨rfl, Below.refl _ _⟩
end Go.Proofs.Ytcjbkmbfkpjbiaa
