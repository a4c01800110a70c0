/-
  The head of all laws of layer 3, awake, answers true.
-/
import Derived.Test.YtkahaccefkdbjaaCMore
import Derived.Lib.SlBytesConst
namespace Go.Proofs.Ytkahaccefkdbjaa
open Go.RowKit

theorem bys_mark (w : World) (l : List UInt8) (t : TypeId) (fr : Nat × Nat) : Bys (w.alloc (.cells (bv l).toArray t fr)) (w.heap.size + 1) (some ⟨w.heap.size, 0, none⟩) l := by
  refine Or.inr ⟨w.heap.size, 0, rfl, by omega, fun i z hz => ?_⟩
  have h : (bv l).toArray[i]? = some (.int .u8 z.toNat) := by
    rw [List.getElem?_toArray]
    unfold bv
    rw [List.getElem?_map, hz]
    rfl
  rw [Nat.zero_add, cell_of_row _ w.heap.size i _ t fr (heap_alloc_new w _)]
  exact h

theorem aw_sum (w : World) (n : Nat) (hn : n = w.heap.size) (fr : Nat × Nat) : Calls Try.prog 14 #[.slice (some ⟨n, 0, none⟩) 9 9] (w.alloc (.cells #[.int .u8 49, .int .u8 50, .int .u8 51, .int .u8 52, .int .u8 53, .int .u8 54, .int .u8 55, .int .u8 56, .int .u8 57] 5 fr))
    fun e w' => e = .returned (.int .u32 3421780262) ∧ Below w.heap.size w w' := by
  subst hn
  have h := sum_n _ 9 9 [49, 50, 51, 52, 53, 54, 55, 56, 57] _ (bys_mark w [49, 50, 51, 52, 53, 54, 55, 56, 57] 5 fr) rfl (by omega)
  rw [awake_sum] at h
  refine h.mono ?_
  rintro e w' ⟨rfl, hb⟩
  exact ⟨rfl, (below_one _ _).trans (hb.mono (by simp))⟩

theorem aw_nil (w : World) : Calls Try.prog 14 #[.slice none 0 0] w
    fun e w' => e = .returned (.int .u32 0) ∧ Below w.heap.size w w' := by
  have h := sum_n none 0 0 [] w (Bys.nil w 0 _) rfl (by omega)
  rw [awake_nil] at h
  exact h

theorem Tab.one {w : World} {tb : Nat} (h : Tab w tb) : w.cell? ⟨tb, 1, none⟩ = some (.int .u32 1996959894) := by
  have := h 1 (by omega)
  rw [awake_1] at this
  exact this
theorem Tab.two7 {w : World} {tb : Nat} (h : Tab w tb) : w.cell? ⟨tb, 128, none⟩ = some (.int .u32 3988292384) := by
  have := h 128 (by omega)
  rw [awake_128] at this
  exact this

set_option maxHeartbeats 1600000 in
set_option maxRecDepth 20000 in
theorem awake_any (w : World) :
    Calls Try.prog 9 #[] w fun e w' => e = .returned (.bool true) ∧ Below w.heap.size w w' := by
  obtain ⟨Z, T, hz, hi, hZT, h1, hT, hcall⟩ := tab_is
  have HI := Lib.hid hi
  have HZ := Lib.hid hZT
  have H1 := Lib.hid h1
  have HT := Lib.hid hT
  have HC := Lib.hid hcall
  clear hi hZT h1 hT hcall
  go_enter Try.func9, Try.ntmps9
  go_wp2_with fail
  refine (HC.out _).mono ?_
  rintro e w1 ⟨rfl, b1⟩
  have kc : ∀ (C : Array Value) (n c : Nat), (convert 26 26 (.slice (some ⟨w1.heap.size + 1, 0, none⟩) n c)).run Try.prog ((w1.alloc (.cells T 24)).alloc (.cells C 5)) =
      .ok (.slice (some ⟨w1.heap.size + 1, 0, none⟩) n c) ((w1.alloc (.cells T 24)).alloc (.cells C 5 (C.size, C.size + 1))) := by
    intro C n c
    have := Lib.run_convert_bytes_const (P := Try.prog) (w1.alloc (.cells T 24)) 26 5 C n c Try.underlying26 Try.underlying5
    rw [show (w1.alloc (.cells T 24)).heap.size = w1.heap.size + 1 from by simp] at this
    exact this
  go_wp2_with (refine wpList_store_row rfl 24 (.tmp 1) (.tmp 2) rfl w1.heap.size T rfl rfl 24 Z (heap_alloc_new w1 _) HI.out HZ.out H1.out ?_; rw [World.setRow_alloc_new])
  have T2 := HT.out w1
  have b2 : Hid (Below w.heap.size w (w1.alloc (.cells T 24))) := b1.alloc b1.size _
  clear HT HC H1 HZ HI hz b1 kc
  refine (aw_sum _ _ (by simp) _).mono ?_
  generalize w1.alloc (.cells T 24) = w2 at *
  generalize w1.heap.size = tb at *
  rintro e w3 ⟨rfl, b3⟩
  have T3 := T2.below b3
  have B3 : Hid (Below w.heap.size w w3) := b2.out.trans (b3.mono b2.out.size)
  clear T2 b2 b3
  go_wp2_with fail
  refine (aw_nil _).mono ?_
  rintro e w4 ⟨rfl, b4⟩
  have T4 := T3.below b4
  have B4 : Hid (Below w.heap.size w w4) := B3.out.trans (b4.mono B3.out.size)
  have c1 := T4.one
  have c2 := T4.two7
  clear T3 T4 B3 b4
  go_wp2_with fail
  go_ret
  exact ⟨rfl, B4.out⟩
end Go.Proofs.Ytkahaccefkdbjaa
