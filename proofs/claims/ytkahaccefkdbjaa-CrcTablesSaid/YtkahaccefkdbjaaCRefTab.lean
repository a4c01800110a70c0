/-
  What the document's own table comes to.
-/
import Derived.Test.YtkahaccefkdbjaaCMore
namespace Go.Proofs.Ytkahaccefkdbjaa
open Go.RowKit

/-- One place of the table is filled by a store. -/
theorem tab_put (w : World) (o : Obj) (k : Nat) (hk : k < 256) (t : TypeId) :
    ((w.alloc o).alloc (.cells (tabC k) t)).cell? ⟨w.heap.size + 1, k, none⟩ = some (.int .u32 0) ∧ ((w.alloc o).alloc (.cells (tabC k) t)).frozen? ⟨w.heap.size + 1, k, none⟩ = false ∧
      ((w.alloc o).alloc (.cells (tabC k) t)).setCell ⟨w.heap.size + 1, k, none⟩ (.int .u32 ((steps8 k : Nat) : Int)) = (w.alloc o).alloc (.cells (tabC (k + 1)) t) := by
  have hs : w.heap.size + 1 = (w.alloc o).heap.size := by simp
  rw [hs]
  exact ⟨tab_cell (w.alloc o) k hk t, tab_free _ _ _ _, tab_set _ _ hk _⟩

set_option maxHeartbeats 1600000 in
set_option maxRecDepth 20000 in
theorem refTable_any (w : World) :
    Calls Try.prog 11 #[] w fun e w' => e = .returned (.agg (tabC 256)) ∧ Below w.heap.size w w' := by
  obtain ⟨hz, hsz⟩ := zero_of_info tabInfo
  obtain ⟨F, hF⟩ : ∃ F, F = tabC := ⟨_, rfl⟩
  rw [← hF] at hz ⊢
  have hput : ∀ (o : Obj) (k : Nat), k < 256 → ((w.alloc o).alloc (.cells (F k) 24)).cell? ⟨w.heap.size + 1, k, none⟩ = some (.int .u32 0) ∧ ((w.alloc o).alloc (.cells (F k) 24)).frozen? ⟨w.heap.size + 1, k, none⟩ = false ∧
      ((w.alloc o).alloc (.cells (F k) 24)).setCell ⟨w.heap.size + 1, k, none⟩ (.int .u32 ((steps8 k : Nat) : Int)) = (w.alloc o).alloc (.cells (F (k + 1)) 24) := by
    rw [hF]
    exact fun o k hk => tab_put w o k hk _
  have HP := Lib.hid hput
  have hsF : ∀ k, (F k).size = 256 := by rw [hF]; exact tabC_size
  have HS := Lib.hid hsF
  have hiF : ∀ k, (Try.prog.info? 24).map (·.size) = some (F k).size := fun k => by rw [hsF k]; exact hsz
  have HI := Lib.hid hiF
  have hoF : ∀ k, (F k).all (·.oneCell') = true := by rw [hF]; exact tabC_one
  have HO := Lib.hid hoF
  clear hput hF hsF hiF hoF hsz
  go_enter Try.func11, Try.ntmps11
  go_wp2_with fail
  go_loopw [2] (fun i wr => ∃ k : Nat, k ≤ 256 ∧ i = .int .i64 k ∧ wr = (w.alloc (.cells (F 0) 24)).alloc (.cells (F k) 24)) (fun i _ => 256 - (intOf i).toNat)
  case atStart => exact ⟨0, by omega, rfl, rfl⟩
  case round =>
    obtain ⟨k, hk, rfl, rfl⟩ := hrel
    by_cases hlt : k < 256
    · obtain ⟨hc, hf, hst⟩ := HP.out (.cells (F 0) 24) k hlt
      have HT := Lib.hid hst
      clear hst
      obtain ⟨wr, hwr⟩ : ∃ wr, wr = (w.alloc (.cells (F 0) 24)).alloc (.cells (F k) 24) := ⟨_, rfl⟩
      rw [← hwr] at hc hf HT ⊢
      clear hwr
      go_wp2_with fail
      refine (refSteps k (by omega) _).mono ?_
      rintro e w1 ⟨rfl, rfl⟩
      go_wp2_with fail
      exact ⟨⟨k + 1, by omega, by go_num, HT.out⟩, by simp [intOf]; omega⟩
    · obtain rfl : k = 256 := by omega
      obtain ⟨g1, g0⟩ := two_blocks w (F 0) (F 256) 24
      have G1 := Lib.hid g1
      have G0 := Lib.hid g0
      clear g1 g0
      go_wp2_with fail
      refine wp_load_row 24 (.tmp 1) rfl (w.heap.size + 1) rfl 24 (F 256) (0, 0) _ G1.out Try.underlying24 rfl (HI.out 256) ?_
      rename_i hK
      refine hK _ _ ?_
      refine wpList_store_row rfl 24 (.tmp 0) (.tmp 12) rfl w.heap.size (F 256) rfl rfl 24 (F 0) G0.out (HI.out 256) ((HS.out 0).trans (HS.out 256).symm) (HO.out 256) ?_
      go_wp2_with fail
      refine bodyPost_ret (v := .agg (F 256)) (results_cell_row rfl _ _ w.heap.size 24 (F 256) (0, 0) _ rfl (setRow_heap _ _ _ _ _ _ G0.out) Try.underlying24 rfl (HI.out 256)) rfl ⟨rfl, ?_⟩
      exact below_setRow (below_two _ _ _) (Nat.le_refl _) _
end Go.Proofs.Ytkahaccefkdbjaa
