/-
  What slices.SortFunc comes to at pointers to frames, by their sectors.
-/
import Derived.Test.YtgkdlbcpckdmkaaShelfF
import Derived.Test.YtgkdlbcpckdmkaaPool
import Derived.BigQuiet
namespace Go.Proofs.Ytgkdlbcpckdmkaa
open Go.RowKit Go.Sort Go.Shelf

def cmpI (x y : Int) : Int := if x < y then -1 else if y < x then 1 else 0

set_option maxRecDepth 20000 in
theorem nan_any (x : Int) (w : World) : Calls Try.prog 63 #[.int .i64 x] w fun e w' => e = .returned (.bool false) ∧ w = w' := by
  go_enter Try.func63, Try.ntmps63
  go_wp2_with fail
  go_ret
  exact ⟨rfl, rfl⟩

set_option maxRecDepth 20000 in
theorem cmpint_any (x y : Int) (w : World) : Calls Try.prog 48 #[.int .i64 x, .int .i64 y] w fun e w' => e = .returned (.int .i64 (cmpI x y)) ∧ w = w' := by
  unfold cmpI
  by_cases h1 : x < y
  · rw [if_pos h1]
    go_enter Try.func48, Try.ntmps48
    go_wp2_with (refine (nan_any _ _).mono ?_; rintro e w' ⟨rfl, rfl⟩)
    go_ret
    exact ⟨rfl, rfl⟩
  · by_cases h2 : y < x
    · rw [if_neg h1, if_pos h2]
      go_enter Try.func48, Try.ntmps48
      go_wp2_with (refine (nan_any _ _).mono ?_; rintro e w' ⟨rfl, rfl⟩)
      go_ret
      exact ⟨rfl, rfl⟩
    · rw [if_neg h1, if_neg h2]
      have h3 : y ≤ x := by omega
      have h4 : x ≤ y := by omega
      go_enter Try.func48, Try.ntmps48
      go_wp2_with (refine (nan_any _ _).mono ?_; rintro e w' ⟨rfl, rfl⟩)
      go_ret
      exact ⟨rfl, rfl⟩

set_option maxRecDepth 20000 in
theorem bysec_any (fb i j : Nat) (x y : Int) (w : World) (h1 : w.cell? ⟨fb, i * 4 + 1, none⟩ = some (.int .i64 x)) (h2 : w.cell? ⟨fb, j * 4 + 1, none⟩ = some (.int .i64 y)) :
    Calls Try.prog 47 #[.pointer (some ⟨fb, i * 4, none⟩), .pointer (some ⟨fb, j * 4, none⟩)] w fun e w' => e = .returned (.int .i64 (cmpI x y)) ∧ ∃ q, w' = w.drewN q := by
  go_enter Try.func47, Try.ntmps47
  go_wp2_with fail
  go_quiet ((go_at_call 48; exact Calls.quiet_of_same ((cmpint_any _ _ _).mono fun _ _ h => ⟨h.1, h.2.symm⟩)))
  go_wp2_with fail
  go_ret
  exact ⟨rfl, _, rfl⟩

theorem ltI (x y : Int) : decide (cmpI x y < 0) = decide (x < y) := by
  unfold cmpI
  by_cases h1 : x < y
  · simp [h1]
  · by_cases h2 : y < x <;> simp [h1, h2]

/-- Frames are in order by what is in their sectors' cells. -/
theorem swoF (m : Nat) (S : Nat → Int) : SWO (ltOf fun x y : Nat => cmpI (S (x % m)) (S (y % m))) where
  irrefl x := by unfold ltOf; rw [ltI]; simp
  trans x y z h1 h2 := by unfold ltOf at *; rw [ltI] at *; simp at *; omega
  ntrans x y z h1 h2 := by unfold ltOf at *; rw [ltI] at *; simp at *; omega

theorem bitslen_any (n : Nat) (w : World) (h : n ≤ 12) : Calls Try.prog 62 #[.int .u64 n] w fun e w' => (∃ l : Int, e = .returned (.int .i64 l)) ∧ w' = w :=
  (Any.bits_Len Try.bitsLen n w (by omega) (by omega)).mono fun _ _ ⟨he, hw⟩ => ⟨⟨_, he⟩, hw⟩

/-- A pointer to a frame. -/
def ptrF (fb m : Nat) (j : Nat) : Value := .pointer (some ⟨fb, j % m * 4, none⟩)

theorem below_putRow {α : Type} [Inhabited α] (enc : α → Value) (w : World) {B blk : Nat} (off : Nat) (d : Array α) (h : B ≤ blk) : RowKit.Below B w (putRow enc w blk off d) :=
  ⟨rfl, rfl, rfl, by simp, fun k hk => by
    unfold putRow mapBlock
    show (w.heap.modify blk _)[k]? = _
    rw [Array.getElem?_modify]
    rw [if_neg (by omega)]⟩

theorem cell_sortWorld {α : Type} [Inhabited α] (enc : α → Value) (w : World) (blk off m : Nat) (d : Array α) (os : Array Obj) {b o : Nat} (h : b ≠ blk) (hb : b < w.heap.size) : (sortWorld enc w blk off m d os).cell? ⟨b, o, none⟩ = w.cell? ⟨b, o, none⟩ := by
  unfold sortWorld
  rw [cell?_grow _ _ _ (by simp; exact hb), cell?_putRow_other _ _ _ _ _ _ (Or.inl h)]
  rfl

set_option maxRecDepth 20000 in
set_option maxHeartbeats 800000 in
/-- Some frames are put in order. -/
theorem sortF_any (fb m blk cap : Nat) (S : Nat → Int) (d : Array Nat) (w : World) (hm : 1 ≤ m) (hS : ∀ i, i < m → w.cell? ⟨fb, i * 4 + 1, none⟩ = some (.int .i64 (S i))) (hne : fb ≠ blk)
    (hH : Holds (ptrF fb m) w blk 0 d) (h12 : d.size ≤ 12) :
    Calls Try.prog 46 #[.slice (some ⟨blk, 0, none⟩) d.size cap, .func (.func 47) #[] #[]] w
      fun e w' => e = .returned (.tuple #[]) ∧ ∃ d' n, PermIn 0 d.size d d' ∧ SortedIn (ltOf fun x y : Nat => cmpI (S (x % m)) (S (y % m))) 0 d.size d' ∧ w' = (putRow (ptrF fb m) w blk 0 d').drewN n := by
  have hlt : fb < w.heap.size := World.block_lt_of_cell? _ _ (hS 0 (by omega))
  have hC : CmpReads Try.prog 47 #[] (ptrF fb m) (fun x y : Nat => cmpI (S (x % m)) (S (y % m))) blk 0 d.size w := fun k os dk _ x y => by
    refine (bysec_any fb (x % m) (y % m) _ _ _ ?_ ?_)
    · rw [cell_sortWorld _ _ _ _ _ _ _ hne hlt]
      exact hS _ (Nat.mod_lt _ (by omega))
    · rw [cell_sortWorld _ _ _ _ _ _ _ hne hlt]
      exact hS _ (Nat.mod_lt _ (by omega))
  exact Any.slices_SortFunc_small_sorted Try.sortF (ptrF fb m) (fun _ => rfl) _ (swoF m S) 47 #[] blk 0 cap d w (enters_of Try.func47 (by kernel_rfl) rfl) hC hH h12 (fun n W h => bitslen_any n W h)

set_option maxRecDepth 20000 in
theorem insert_none (fv : Value) (w : World) : Calls Try.prog 72 #[.slice none 0 0, .int .i64 0, .int .i64 0, fv] w fun e w' => e = .returned (.tuple #[]) ∧ w' = w := by
  go_enter Try.func72, Try.ntmps72
  go_wp2
  refine wp_loop_rounds 1 ?_
  rw [rounds_succ]
  go_wp2
  go_end0
  exact ⟨rfl, rfl⟩

set_option maxRecDepth 20000 in
theorem pdq_none (lim : Int) (fv : Value) (w : World) : Calls Try.prog 61 #[.slice none 0 0, .int .i64 0, .int .i64 0, .int .i64 lim, fv] w fun e w' => e = .returned (.tuple #[]) ∧ w' = w := by
  have hi := insert_none fv
  go_enter Try.func61, Try.ntmps61
  go_wp2
  refine wp_loop_rounds 1 ?_
  rw [rounds_succ]
  go_wp2_with (refine (hi _).mono ?_; rintro e w' ⟨rfl, rfl⟩)
  (try simp only [Exit.inBlock, Exit.then]); refine bodyPost_ret (results_none rfl _ _ _) rfl ?_
  exact ⟨rfl, rfl⟩

set_option maxRecDepth 20000 in
theorem sortF_none (fv : Value) (w : World) : Calls Try.prog 46 #[.slice none 0 0, fv] w fun e w' => e = .returned (.tuple #[]) ∧ w' = w := by
  have hp := fun lim => pdq_none lim fv
  have hl := fun W => bitslen_any 0 W (by omega)
  go_enter Try.func46, Try.ntmps46
  go_wp2_with (first | (refine (hl _).mono ?_; rintro e w' ⟨⟨l, rfl⟩, rfl⟩) | (refine (hp _ _).mono ?_; rintro e w' ⟨rfl, rfl⟩))
  go_end0
  exact ⟨rfl, rfl⟩
end Go.Proofs.Ytgkdlbcpckdmkaa
