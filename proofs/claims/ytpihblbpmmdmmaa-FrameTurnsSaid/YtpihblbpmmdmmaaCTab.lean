/-
  What Table comes to.
-/
import Derived.Test.YtpihblbpmmdmmaaCFill
import Derived.Deep.WholeRow
import Derived.Laws.CopyOwn
namespace Go.Proofs.Ytpihblbpmmdmmaa
open Go.RowKit

/-- The table's cells, of which the first k are filled. -/
def tabC (k : Nat) : Array Value := ((List.range 256).map (fun i => Value.int .u32 (if i < k then ((steps8 i : Nat) : Int) else 0))).toArray

theorem tabC_size (k : Nat) : (tabC k).size = 256 := by unfold tabC; simp
theorem tabC_at (k : Nat) {i : Nat} (h : i < 256) : (tabC k)[i]? = some (Value.int .u32 (if i < k then ((steps8 i : Nat) : Int) else 0)) := by
  unfold tabC
  rw [List.getElem?_toArray, List.getElem?_map, List.getElem?_range h]
  rfl
theorem tabC_set {k : Nat} (hk : k < 256) : (tabC k).setIfInBounds k (.int .u32 ((steps8 k : Nat) : Int)) = tabC (k + 1) := by
  apply Array.ext_getElem?
  intro i
  by_cases hi : i < 256
  · rw [Array.getElem?_setIfInBounds, tabC_at (k + 1) hi]
    by_cases e : k = i
    · subst e
      rw [if_pos rfl, if_pos (by rw [tabC_size]; exact hk), if_pos (by omega)]
    · rw [if_neg e, tabC_at k hi]
      by_cases hl : i < k
      · rw [if_pos hl, if_pos (by omega)]
      · rw [if_neg hl, if_neg (by omega)]
  · rw [Array.getElem?_eq_none (by rw [Array.size_setIfInBounds, tabC_size]; omega), Array.getElem?_eq_none (by rw [tabC_size]; omega)]

theorem tabC_one (k : Nat) : (tabC k).all (·.oneCell') = true := by
  rw [Array.all_eq_true_iff_forall_mem]
  intro v hv
  unfold tabC at hv
  rw [List.mem_toArray] at hv
  obtain ⟨i, _, rfl⟩ := List.mem_map.1 hv
  rfl

theorem two_blocks (w : World) (c d : Array Value) (t : TypeId) :
    ((w.alloc (.cells c t)).alloc (.cells d t)).heap[w.heap.size + 1]? = some (.cells d t) ∧ ((w.alloc (.cells c t)).alloc (.cells d t)).heap[w.heap.size]? = some (.cells c t) := by
  have hs : (w.alloc (.cells c t)).heap.size = w.heap.size + 1 := by simp
  constructor
  · have := heap_alloc_new (w.alloc (.cells c t)) (.cells d t)
    rw [hs] at this
    exact this
  · rw [heap_alloc_old _ _ (by rw [hs]; omega)]
    exact heap_alloc_new w _

theorem tabInfo : (Try.prog.info? 52).map (fun i => (i.zero, i.size)) = some (some (.agg (tabC 0)), 256) := by kernel_rfl

theorem tab_cell (w : World) (k : Nat) (hk : k < 256) (t : TypeId) : (w.alloc (.cells (tabC k) t)).cell? ⟨w.heap.size, k, none⟩ = some (.int .u32 0) := by
  rw [cell_of_row _ w.heap.size k _ t (0, 0) (heap_alloc_new w _), tabC_at k hk, if_neg (by omega)]
theorem tab_free (w : World) (k j : Nat) (t : TypeId) : (w.alloc (.cells (tabC k) t)).frozen? ⟨w.heap.size, j, none⟩ = false := by simp
theorem tab_set (w : World) (k : Nat) (hk : k < 256) (t : TypeId) : (w.alloc (.cells (tabC k) t)).setCell ⟨w.heap.size, k, none⟩ (.int .u32 ((steps8 k : Nat) : Int)) = w.alloc (.cells (tabC (k + 1)) t) := by
  rw [World.setCell_alloc_at _ _ _ _ _ rfl, tabC_set hk]

theorem tab_fill (w : World) (o : Obj) (k : Nat) (hk : k < 256) (t : TypeId) :
    Calls Try.prog 33 #[.int .i64 k, .pointer (some ⟨w.heap.size + 1, 0, none⟩)] ((w.alloc o).alloc (.cells (tabC k) t)) fun e w' => e = .returned (.tuple #[]) ∧ w' = (w.alloc o).alloc (.cells (tabC (k + 1)) t) := by
  have hs : w.heap.size + 1 = (w.alloc o).heap.size := by simp
  rw [hs]
  refine (fill_any k _ hk _ _ (tab_cell (w.alloc o) k hk t) (tab_free _ _ _ _)).mono ?_
  rintro e w' ⟨rfl, rfl⟩
  exact ⟨rfl, tab_set _ _ hk _⟩

set_option maxHeartbeats 800000 in
set_option maxRecDepth 20000 in
theorem table_any (w : World) :
    Calls Try.prog 31 #[] w fun e w' => e = .returned (.agg (tabC 256)) ∧ Below w.heap.size w w' := by
  obtain ⟨hz, hsz⟩ := zero_of_info tabInfo
  obtain ⟨F, hF⟩ : ∃ F, F = tabC := ⟨_, rfl⟩
  rw [← hF] at hz ⊢
  have hfill : ∀ k : Nat, k < 256 → Calls Try.prog 33 #[.int .i64 (k : Int), .pointer (some ⟨w.heap.size + 1, 0, none⟩)] ((w.alloc (.cells (F 0) 52)).alloc (.cells (F k) 52))
      fun e w' => e = .returned (.tuple #[]) ∧ w' = (w.alloc (.cells (F 0) 52)).alloc (.cells (F (k + 1)) 52) := by
    rw [hF]
    exact fun k hk => tab_fill w _ k hk _
  have HF := Lib.hid hfill
  have hsF : ∀ k, (F k).size = 256 := by rw [hF]; exact tabC_size
  have HS := Lib.hid hsF
  have hiF : ∀ k, (Try.prog.info? 52).map (·.size) = some (F k).size := fun k => by rw [hsF k]; exact hsz
  have HI := Lib.hid hiF
  have hoF : ∀ k, (F k).all (·.oneCell') = true := by rw [hF]; exact tabC_one
  have HO := Lib.hid hoF
  clear hfill hF hsF hiF hoF hsz
  have hmf : ∀ (fn : Fn) (first cap : Array Value) (w : World), (Instr.makeFunc fn first cap).run Try.prog w = .ok (.func fn first cap) w := fun _ _ _ _ => rfl
  go_enter Try.func31, Try.ntmps31
  go_wp2_with fail
  go_loopw [5] (fun i wr => ∃ k : Nat, k ≤ 256 ∧ i = .int .i64 k ∧ wr = (w.alloc (.cells (F 0) 52)).alloc (.cells (F k) 52)) (fun i _ => 256 - (intOf i).toNat)
  case atStart => exact ⟨0, by omega, rfl, rfl⟩
  case round =>
    obtain ⟨k, hk, rfl, rfl⟩ := hrel
    by_cases hlt : k < 256
    · go_wp2_with fail
      refine (HF.out k hlt).mono ?_
      rintro e w1 ⟨rfl, rfl⟩
      go_wp2_with fail
      exact ⟨⟨k + 1, by omega, by go_num, rfl⟩, by simp [intOf]; omega⟩
    · obtain rfl : k = 256 := by omega
      obtain ⟨g1, g0⟩ := two_blocks w (F 0) (F 256) 52
      have G1 := Lib.hid g1
      have G0 := Lib.hid g0
      clear g1 g0
      go_wp2_with fail
      refine wp_load_row 52 (.tmp 1) rfl (w.heap.size + 1) rfl 52 (F 256) (0, 0) _ G1.out Try.underlying52 rfl (HI.out 256) ?_
      rename_i hK
      refine hK _ _ ?_
      refine wpList_store_row rfl 52 (.tmp 0) (.tmp 12) rfl w.heap.size (F 256) rfl rfl 52 (F 0) G0.out (HI.out 256) ((HS.out 0).trans (HS.out 256).symm) (HO.out 256) ?_
      go_wp2_with fail
      refine bodyPost_ret (v := .agg (F 256)) (results_cell_row rfl _ _ w.heap.size 52 (F 256) (0, 0) _ rfl (setRow_heap _ _ _ _ _ _ G0.out) Try.underlying52 rfl (HI.out 256)) rfl ⟨rfl, ?_⟩
      exact below_setRow (below_two _ _ _) (Nat.le_refl _) _
end Go.Proofs.Ytpihblbpmmdmmaa
