/-
  What slices.Sort comes to at a list of ints of one's own.
-/
import Derived.Test.YtlldmefjhgahdaaShelfS
import Derived.Test.YtlldmefjhgahdaaSMem
import Derived.Sort.OwnSortedInts
namespace Go.Proofs.Ytlldmefjhgahdaa
open Go.RowKit Go.Sort Go.Shelf

/-- The numbers of a list in their order, in its own memory. -/
def SortEnd (w : World) (base : Nat) (v : Value) (n : Nat) (zs : List Int) (e : Ending) (w' : World) : Prop :=
  ∃ ms : List Int, e = .returned (.tuple #[]) ∧ ms.Perm zs ∧ ms.Pairwise (· ≤ ·) ∧ w'.ownsRow base 3 1 v n (intVals ms) ∧ w.grownBy w' v.ownBlock

set_option maxRecDepth 20000 in
theorem sort_any (base : Nat) (A : Option Addr) (n c : Nat) (zs : List Int) (w : World) (h : w.ownsRow base 3 1 (.slice A n c) n (intVals zs)) (hn : n ≤ 1000000) :
    Calls Try.prog 54 #[.slice A n c] w (SortEnd w base (.slice A n c) n zs) := by
  have hl : zs.length = n := by
    have := h.1
    rw [intVals_length] at this
    omega
  rcases h.2 with ⟨hv, h0⟩ | ⟨g, cap, cur, hv, hb, hh, hnc, hm, hsz, ht⟩
  · injection hv with e1 e2 e3
    subst e1
    subst e2
    subst e3
    refine (AnyM.slices_Sort_int_none Try.sortA none 0 w).mono ?_
    rintro e w' ⟨rfl, rfl⟩
    obtain rfl : zs = [] := List.eq_nil_of_length_eq_zero hl
    exact ⟨[], rfl, List.Perm.refl _, List.Pairwise.nil, h, World.grownBy.refl _ _⟩
  · injection hv with e1 e2 e3
    subst e1
    subst e3
    rw [Nat.mul_one, ← hl] at ht
    have hH : Holds (Value.int .i64) w g 0 zs.toArray := holds_of_blockI hh ht
    have hg : g < w.heap.size := (Array.getElem?_eq_some_iff.1 hh).1
    have hc := AnyM.slices_Sort_int Try.sortA g 0 c zs w hH hg (by omega)
    rw [hl] at hc
    refine hc.mono ?_
    rintro e w' ⟨rfl, m, os, rfl⟩
    have hlen : (zs.mergeSort fun x y => decide (x ≤ y)).length = zs.length := List.length_mergeSort _
    refine ⟨zs.mergeSort fun x y => decide (x ≤ y), rfl, List.mergeSort_perm _ _, ?_, ?_, grownBy_sortedI _⟩
    · exact (List.pairwise_mergeSort (le := fun x y : Int => decide (x ≤ y)) (fun a b c h1 h2 => by simp only [decide_eq_true_eq] at *; omega) (fun a b => by simp only [Bool.or_eq_true, decide_eq_true_eq]; omega) zs).imp (fun h => of_decide_eq_true h)
    · have := ownsRow_sortedI (n := m) (os := os) hlen hb hh (by omega) hm hsz
      rw [hl] at this
      exact this
end Go.Proofs.Ytlldmefjhgahdaa
