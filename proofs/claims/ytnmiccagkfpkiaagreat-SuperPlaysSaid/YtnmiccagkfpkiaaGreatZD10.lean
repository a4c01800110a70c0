/-
  A part of the proof: what its texts say stands at the head of each. Conditions: none.
-/
import Derived.Laws.MakeOwn
import Derived.BigRegion
import Derived.Test.YtnmiccagkfpkiaaGreatZD7

/-
  What the document's own New comes to.
-/
namespace Go.Proofs.YtnmiccagkfpkiaaGreat
open Go.RowKit Go.Maps

set_option maxRecDepth 20000 in
theorem rowsInfo : (Tryz.prog.info? 34).map (fun i => (i.zero, i.size, i.bytes)) = some (some (.slice none 0 0), 1, 24) := by kernel_rfl
set_option maxRecDepth 20000 in
theorem boolInfo : (Tryz.prog.info? 4).map (fun i => (i.zero, i.size, i.bytes)) = some (some (.bool false), 1, 1) := by kernel_rfl

theorem madeCells_one (z : Value) (n : Nat) : madeCells #[z] (n * 1) = (List.replicate n z).toArray := by
  apply Array.ext
  · rw [size_madeCells]
    simp
  · intro i h1 h2
    unfold madeCells
    simp [Nat.mod_one]

set_option maxRecDepth 20000 in
theorem make_rows (w : World) (n : Nat) (hn : n ≤ 4096) : (Instr.makeSlice 55 (.int .i64 (n : Int)) (.int .i64 (n : Int))).run Tryz.prog w = .ok (.slice (some ⟨w.heap.size, 0, none⟩) n n) (w.alloc (.cells (List.replicate n (.slice none 0 0)).toArray 34)) := by
  obtain ⟨i0, hi, hz0, hz1, hz2⟩ := info_parts rowsInfo
  have := run_makeSlice (P := Tryz.prog) (w := w) 55 34 i0 _ Tryz.underlying55 hi hz0 .i64 .i64 (n : Int) (n : Int) (by omega) (by omega) (by rw [hz1]; simp; omega) (by rw [hz2]; omega) (by omega)
  rw [this, hz1]
  simp only [Int.toNat_natCast]
  rw [show (Value.slice none 0 0).cells = #[.slice none 0 0] from rfl, madeCells_one]

set_option maxRecDepth 20000 in
theorem make_bools (w : World) (n : Nat) (hn : n ≤ 4096) : (Instr.makeSlice 56 (.int .i64 (n : Int)) (.int .i64 (n : Int))).run Tryz.prog w = .ok (.slice (some ⟨w.heap.size, 0, none⟩) n n) (w.alloc (.cells (List.replicate n (.bool false)).toArray 4)) := by
  obtain ⟨i0, hi, hz0, hz1, hz2⟩ := info_parts boolInfo
  have := run_makeSlice (P := Tryz.prog) (w := w) 56 4 i0 _ Tryz.underlying56 hi hz0 .i64 .i64 (n : Int) (n : Int) (by omega) (by omega) (by rw [hz1]; simp; omega) (by rw [hz2]; omega) (by omega)
  rw [this, hz1]
  simp only [Int.toNat_natCast]
  rw [show (Value.bool false).cells = #[.bool false] from rfl, madeCells_one]

def RMade (w : World) (n : Nat) (e : Ending) (w' : World) : Prop :=
  ∃ rb G, e = .returned (.tuple #[.pointer (some ⟨rb, 0, none⟩), .int .i64 0]) ∧ Rk w' G rb (PS.new n) ∧ (∀ k, G k → w.heap.size ≤ k) ∧ Below w.heap.size w w'

set_option maxRecDepth 20000 in
theorem refNew_bad (w : World) (n : Int) (h : n < 2 ∨ 4096 < n) : Calls Tryz.prog 6 #[.int .i64 n] w fun e w' => e = .returned (.tuple #[.pointer none, .int .i64 1]) ∧ w = w' := by
  by_cases h0 : n < 2
  · go_enter Tryz.func6, Tryz.ntmps6
    go_wp2_with fail
    go_ret2
    exact ⟨rfl, rfl⟩
  · have h1 : 4096 < n := by omega
    clear h
    go_enter Tryz.func6, Tryz.ntmps6
    go_wp2_with fail
    go_ret2
    exact ⟨rfl, rfl⟩

theorem below_four (w : World) (a b c d : Obj) : Below w.heap.size w ((((w.alloc a).alloc b).alloc c).alloc d).drew :=
  (((((Below.refl _ _).alloc (Nat.le_refl _) _).alloc (by simp) _).alloc (by simp; omega) _).alloc (by simp; omega) _).drew

theorem four_heap (w : World) (a b c d : Obj) : ((((w.alloc a).alloc b).alloc c).alloc d).drew.heap[w.heap.size]? = some a ∧ ((((w.alloc a).alloc b).alloc c).alloc d).drew.heap[w.heap.size + 1]? = some b ∧
    ((((w.alloc a).alloc b).alloc c).alloc d).drew.heap[w.heap.size + 1 + 1]? = some c ∧ ((((w.alloc a).alloc b).alloc c).alloc d).drew.heap[w.heap.size + 1 + 1 + 1]? = some d ∧ ((((w.alloc a).alloc b).alloc c).alloc d).drew.heap.size = w.heap.size + 4 := by
  have s1 : (w.alloc a).heap.size = w.heap.size + 1 := by simp
  have s2 : ((w.alloc a).alloc b).heap.size = w.heap.size + 1 + 1 := by simp
  have s3 : (((w.alloc a).alloc b).alloc c).heap.size = w.heap.size + 1 + 1 + 1 := by simp
  have hh : ∀ (W : World) (o : Obj) (k : Nat), k < W.heap.size → (W.alloc o).heap[k]? = W.heap[k]? := fun W o k hk => Below.heap_alloc _ _ _ hk
  refine ⟨?_, ?_, ?_, ?_, by simp⟩
  · show ((((w.alloc a).alloc b).alloc c).alloc d).heap[w.heap.size]? = some a
    rw [hh _ _ _ (by omega), hh _ _ _ (by omega), hh _ _ _ (by omega)]
    exact heap_alloc_new w a
  · show ((((w.alloc a).alloc b).alloc c).alloc d).heap[w.heap.size + 1]? = some b
    rw [hh _ _ _ (by omega), hh _ _ _ (by omega), ← s1]
    exact heap_alloc_new _ b
  · show ((((w.alloc a).alloc b).alloc c).alloc d).heap[w.heap.size + 1 + 1]? = some c
    rw [hh _ _ _ (by omega), ← s2]
    exact heap_alloc_new _ c
  · show ((((w.alloc a).alloc b).alloc c).alloc d).heap[w.heap.size + 1 + 1 + 1]? = some d
    rw [← s3]
    exact heap_alloc_new _ d

set_option maxRecDepth 20000 in
theorem ref_made {w w' : World} {n : Nat} (h2 : 2 ≤ n) (h4 : n ≤ 4096) (rb lb wb ib : Nat) (hsz : w'.heap.size = w.heap.size + 4) (hin : w.heap.size ≤ rb ∧ rb < w.heap.size + 4 ∧ w.heap.size ≤ lb ∧ lb < w.heap.size + 4 ∧ w.heap.size ≤ wb ∧ wb < w.heap.size + 4 ∧ w.heap.size ≤ ib ∧ ib < w.heap.size + 4) (hne : lb ≠ wb)
    (hr : w'.heap[rb]? = some (.cells #[.slice (some ⟨lb, 0, none⟩) n n, .slice (some ⟨wb, 0, none⟩) n n, .slice (some ⟨ib, 0, none⟩) n n, .bool false, .bool false, .int .i64 0] 58 (0, 0)))
    (hl : w'.heap[lb]? = some (.cells (Array.replicate n (.slice none 0 0)) 34 (0, 0))) (hw : w'.heap[wb]? = some (.cells (Array.replicate n (.slice none 0 0)) 34 (0, 0))) (hi : w'.heap[ib]? = some (.cells (Array.replicate n (.bool false)) 4 (0, 0))) :
    Rk w' (fun k => w.heap.size ≤ k ∧ k < w.heap.size + 4) rb (PS.new n) := by
  have er : rowOf (List.replicate n (.slice none 0 0, [])) = Array.replicate n (.slice none 0 0) := by
    unfold rowOf
    rw [List.map_replicate, List.toArray_replicate]
  have eb : boolsOf (List.replicate n false) = Array.replicate n (.bool false) := by
    unfold boolsOf
    rw [List.map_replicate, List.toArray_replicate]
  have hm : ∀ (i : Nat) (p : Value × List UInt8), (List.replicate n ((.slice none 0 0 : Value), ([] : List UInt8)))[i]? = some p → p = (.slice none 0 0, []) := fun i p hp => List.eq_of_mem_replicate (List.mem_of_getElem? hp)
  refine ⟨lb, wb, ib, 0, List.replicate n (.slice none 0 0, []), List.replicate n (.slice none 0 0, []), List.replicate n false, ?_⟩
  exact
    { str := hr
      bL := by rw [er]; exact hl
      bW := by rw [er]; exact hw
      bI := by rw [eb]; exact hi
      ne := hne
      nL := by simp; rfl
      nW := by simp; rfl
      nI := by simp; rfl
      gr := by omega
      gl := by omega
      gw := by omega
      gi := by omega
      lt := fun k hk => by omega
      oL := fun i p hp => by
        rw [hm i p hp]
        exact ⟨own_nil _ _, by simp, fun k hk => by cases hk⟩
      oW := fun i p hp => by
        rw [hm i p hp]
        exact ⟨own_nil _ _, by simp, fun k hk => by cases hk⟩
      sL := fun i p hp => by
        rw [hm i p hp]
        rfl
      sW := fun i p b _ hb => by
        obtain rfl : b = false := List.eq_of_mem_replicate (List.mem_of_getElem? hb)
        rfl
      s2 := h2
      s4 := h4
      lf := fun e => by cases e
      l1 := by omega
      l2 := by omega }

set_option maxRecDepth 20000 in
set_option maxHeartbeats 1600000 in
theorem refNew_good (w : World) (n : Nat) (h2 : 2 ≤ n) (h4 : n ≤ 4096) : Calls Tryz.prog 6 #[.int .i64 n] w (RMade w n) := by
  have m1 := fun w => make_rows w n h4
  have m2 := fun w => make_bools w n h4
  go_enter Tryz.func6, Tryz.ntmps6
  go_wp2_with fail
  go_region
  all_goals
    clear m1 m2
    go_wp2_with fail
    go_ret2
    first
      | (refine ⟨_, _, rfl, ref_made (w := w) h2 h4 (w.heap.size + 1 + 1 + 1) w.heap.size (w.heap.size + 1) (w.heap.size + 1 + 1) ?_ ?_ ?_ ?_ ?_ ?_ ?_, fun k hk => hk.1, below_four _ _ _ _ _⟩ <;> first | omega | exact (four_heap _ _ _ _ _).1 | exact (four_heap _ _ _ _ _).2.1 | exact (four_heap _ _ _ _ _).2.2.1 | exact (four_heap _ _ _ _ _).2.2.2.1 | exact (four_heap _ _ _ _ _).2.2.2.2)
      | (refine ⟨_, _, rfl, ref_made (w := w) h2 h4 (w.heap.size + 1 + 1 + 1) w.heap.size (w.heap.size + 1 + 1) (w.heap.size + 1) ?_ ?_ ?_ ?_ ?_ ?_ ?_, fun k hk => hk.1, below_four _ _ _ _ _⟩ <;> first | omega | exact (four_heap _ _ _ _ _).1 | exact (four_heap _ _ _ _ _).2.1 | exact (four_heap _ _ _ _ _).2.2.1 | exact (four_heap _ _ _ _ _).2.2.2.1 | exact (four_heap _ _ _ _ _).2.2.2.2)
      | (refine ⟨_, _, rfl, ref_made (w := w) h2 h4 (w.heap.size + 1 + 1 + 1) (w.heap.size + 1) w.heap.size (w.heap.size + 1 + 1) ?_ ?_ ?_ ?_ ?_ ?_ ?_, fun k hk => hk.1, below_four _ _ _ _ _⟩ <;> first | omega | exact (four_heap _ _ _ _ _).1 | exact (four_heap _ _ _ _ _).2.1 | exact (four_heap _ _ _ _ _).2.2.1 | exact (four_heap _ _ _ _ _).2.2.2.1 | exact (four_heap _ _ _ _ _).2.2.2.2)
      | (refine ⟨_, _, rfl, ref_made (w := w) h2 h4 (w.heap.size + 1 + 1 + 1) (w.heap.size + 1) (w.heap.size + 1 + 1) w.heap.size ?_ ?_ ?_ ?_ ?_ ?_ ?_, fun k hk => hk.1, below_four _ _ _ _ _⟩ <;> first | omega | exact (four_heap _ _ _ _ _).1 | exact (four_heap _ _ _ _ _).2.1 | exact (four_heap _ _ _ _ _).2.2.1 | exact (four_heap _ _ _ _ _).2.2.2.1 | exact (four_heap _ _ _ _ _).2.2.2.2)
      | (refine ⟨_, _, rfl, ref_made (w := w) h2 h4 (w.heap.size + 1 + 1 + 1) (w.heap.size + 1 + 1) w.heap.size (w.heap.size + 1) ?_ ?_ ?_ ?_ ?_ ?_ ?_, fun k hk => hk.1, below_four _ _ _ _ _⟩ <;> first | omega | exact (four_heap _ _ _ _ _).1 | exact (four_heap _ _ _ _ _).2.1 | exact (four_heap _ _ _ _ _).2.2.1 | exact (four_heap _ _ _ _ _).2.2.2.1 | exact (four_heap _ _ _ _ _).2.2.2.2)
      | (refine ⟨_, _, rfl, ref_made (w := w) h2 h4 (w.heap.size + 1 + 1 + 1) (w.heap.size + 1 + 1) (w.heap.size + 1) w.heap.size ?_ ?_ ?_ ?_ ?_ ?_ ?_, fun k hk => hk.1, below_four _ _ _ _ _⟩ <;> first | omega | exact (four_heap _ _ _ _ _).1 | exact (four_heap _ _ _ _ _).2.1 | exact (four_heap _ _ _ _ _).2.2.1 | exact (four_heap _ _ _ _ _).2.2.2.1 | exact (four_heap _ _ _ _ _).2.2.2.2)
end Go.Proofs.YtnmiccagkfpkiaaGreat
