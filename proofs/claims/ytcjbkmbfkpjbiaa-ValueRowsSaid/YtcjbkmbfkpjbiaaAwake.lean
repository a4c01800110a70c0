/-
  The head of all laws of layer 1, awake, answers true.
-/
import Derived.Test.YtcjbkmbfkpjbiaaCmpRow
namespace Go.Proofs.Ytcjbkmbfkpjbiaa
open Go.RowKit

def vFive : Val := ⟨1, 5, ⟨#[]⟩⟩
def vA : Val := ⟨2, 0, ⟨#[97]⟩⟩

/-- The two values that awake lays, at blocks B and B + 1. -/
def Both (w : World) (B : Nat) : Prop :=
  w.cell? ⟨B, 0, none⟩ = some (.int .i64 1) ∧ w.cell? ⟨B, 1, none⟩ = some (.int .i64 5) ∧ w.cell? ⟨B, 2, none⟩ = some (.string ⟨#[]⟩) ∧
  w.cell? ⟨B + 1, 0, none⟩ = some (.int .i64 2) ∧ w.cell? ⟨B + 1, 1, none⟩ = some (.int .i64 0) ∧ w.cell? ⟨B + 1, 2, none⟩ = some (.string ⟨#[97]⟩)

theorem Both.below {w w' : World} {B : Nat} (h : Both w B) (hb : Below w.heap.size w w') : Both w' B := by
  obtain ⟨h0, h1, h2, h3, h4, h5⟩ := h
  have l0 : B < w.heap.size := World.block_lt_of_cell? _ _ h0
  have l1 : B + 1 < w.heap.size := World.block_lt_of_cell? _ _ h3
  exact ⟨(hb.cell (p := ⟨B, _, none⟩) l0).trans h0, (hb.cell (p := ⟨B, _, none⟩) l0).trans h1, (hb.cell (p := ⟨B, _, none⟩) l0).trans h2,
    (hb.cell (p := ⟨B + 1, _, none⟩) l1).trans h3, (hb.cell (p := ⟨B + 1, _, none⟩) l1).trans h4, (hb.cell (p := ⟨B + 1, _, none⟩) l1).trans h5⟩

theorem both_new (w : World) (t u : TypeId) : Both ((w.alloc (.cells #[.int .i64 1, .int .i64 5, .string ⟨#[]⟩] t)).alloc (.cells #[.int .i64 2, .int .i64 0, .string ⟨#[97]⟩] u)) w.heap.size := by
  unfold Both
  simp

theorem laid_two (w : World) (o : Obj) : (w.alloc o).heap.size = w.heap.size + 1 := by simp

theorem below_back {w w' : World} {o o' : Obj} (h : Below ((w.alloc o).alloc o').heap.size ((w.alloc o).alloc o') w') : Below w.heap.size w w' :=
  (below_two w o o').trans (h.mono (by simp; omega))

theorem chkR_fit : chkR [vFive, vA] [1, 2] = 0 := by
  have h1 : chkV vFive = 0 := chk_num (by rw [show vFive.s.toList = [] from by rw [toList_data]; rfl]; decide)
  have h2 : chkV vA = 0 := chk_text (by rw [show vA.s.toList = [97] from by rw [toList_data]; rfl]; decide)
  unfold chkR
  rw [if_pos (by simp [h1, h2]), if_pos (by simp [vFive, vA])]
theorem chkR_other : chkR [vFive] [2] = 11 := by
  have h1 : chkV vFive = 0 := chk_num (by rw [show vFive.s.toList = [] from by rw [toList_data]; rfl]; decide)
  unfold chkR
  rw [if_pos (by simp [h1]), if_neg (by simp [vFive])]

theorem aw_fit (w : World) : Calls Try.prog 17 #[.slice (some ⟨w.heap.size, 0, none⟩) 2 2, .slice (some ⟨w.heap.size + 1, 0, none⟩) 2 2]
    ((w.alloc (.cells #[.int .i64 1, .int .i64 5, .string ⟨#[]⟩, .int .i64 2, .int .i64 0, .string ⟨#[97]⟩] 24)).alloc (.cells #[.int .i64 1, .int .i64 2] 3))
    fun e w' => e = .returned (.int .i64 0) ∧ Below w.heap.size w w' := by
  have hr := (row_two w 24 vFive vA).alloc (.cells #[.int .i64 1, .int .i64 2] 3)
  have hz := ints_two (w.alloc (.cells #[.int .i64 1, .int .i64 5, .string ⟨#[]⟩, .int .i64 2, .int .i64 0, .string ⟨#[97]⟩] 24)) 3 1 2
  rw [laid_two] at hz
  have h := checkRow_n _ _ 2 2 2 2 [vFive, vA] [1, 2] _ hr hz rfl rfl (by omega)
  rw [chkR_fit] at h
  exact h.mono fun _ _ ⟨h1, h2⟩ => ⟨h1, below_back h2⟩

theorem aw_other (w : World) : Calls Try.prog 17 #[.slice (some ⟨w.heap.size, 0, none⟩) 1 1, .slice (some ⟨w.heap.size + 1, 0, none⟩) 1 1]
    ((w.alloc (.cells #[.int .i64 1, .int .i64 5, .string ⟨#[]⟩] 24)).alloc (.cells #[.int .i64 2] 3))
    fun e w' => e = .returned (.int .i64 11) ∧ Below w.heap.size w w' := by
  have hr := (row_one w 24 vFive).alloc (.cells #[.int .i64 2] 3)
  have hz := ints_one (w.alloc (.cells #[.int .i64 1, .int .i64 5, .string ⟨#[]⟩] 24)) 3 2
  rw [laid_two] at hz
  have h := checkRow_n _ _ 1 1 1 1 [vFive] [2] _ hr hz rfl rfl (by omega)
  rw [chkR_other] at h
  exact h.mono fun _ _ ⟨h1, h2⟩ => ⟨h1, below_back h2⟩

theorem aw_first (w : World) : Calls Try.prog 19 #[.slice (some ⟨w.heap.size, 0, none⟩) 1 1, .slice (some ⟨w.heap.size + 1, 0, none⟩) 2 2]
    ((w.alloc (.cells #[.int .i64 1, .int .i64 5, .string ⟨#[]⟩] 24)).alloc (.cells #[.int .i64 1, .int .i64 5, .string ⟨#[]⟩, .int .i64 2, .int .i64 0, .string ⟨#[97]⟩] 24))
    fun e w' => e = .returned (.int .i64 (-1)) ∧ Below w.heap.size w w' := by
  have hr := (row_one w 24 vFive).alloc (.cells #[.int .i64 1, .int .i64 5, .string ⟨#[]⟩, .int .i64 2, .int .i64 0, .string ⟨#[97]⟩] 24)
  have hz := row_two (w.alloc (.cells #[.int .i64 1, .int .i64 5, .string ⟨#[]⟩] 24)) 24 vFive vA
  rw [laid_two] at hz
  have h := cmpRow_n _ _ 1 2 1 2 [vFive] [vFive, vA] _ hr hz rfl rfl (by omega) (by omega)
  rw [show cmpR [vFive] [vFive, vA] = -1 from cmpR_snoc [vFive] vA] at h
  exact h.mono fun _ _ ⟨h1, h2⟩ => ⟨h1, below_back h2⟩

theorem aw_kinds (w : World) : Calls Try.prog 15 #[.slice (some ⟨w.heap.size, 0, none⟩) 1 1]
    (w.alloc (.cells #[.int .i64 2, .int .i64 0, .string ⟨#[97]⟩] 24))
    fun e w' => e = .returned (.slice (some ⟨w.heap.size + 1, 0, none⟩) 1 1) ∧ Below w.heap.size w w' := by
  have hr := row_one w 24 vA
  have h := kinds_n _ 1 1 [vA] _ hr rfl (by omega)
  rw [laid_two] at h
  exact h.mono fun _ _ ⟨h1, _, h2⟩ => ⟨h1, (below_one _ _).trans (h2.mono (by omega))⟩

set_option maxHeartbeats 1600000 in
theorem awake_any (w : World) :
    Calls Try.prog 9 #[] w fun e w' => e = .returned (.bool true) ∧ Below w.heap.size w w' := by
  go_enter Try.func9, Try.ntmps9
  go_wp2_with fail
  refine (cmp_any _ _ _ _ _ _ _).mono ?_
  rintro e w1 ⟨rfl, hb1⟩
  have hB1 : Hid (Below w.heap.size w w1) := (below_two _ _ _).trans (hb1.mono (by simp; omega))
  have H1 := (both_new w _ _).below hb1
  clear hb1
  rw [show vcmp 1 5 (ByteArray.mk #[]).toList 2 0 (ByteArray.mk #[97]).toList = -1 from by unfold vcmp; rw [if_neg (by decide)]; rfl]
  have hT := H1
  obtain ⟨h0, h1, h2, h3, h4, h5⟩ := hT
  go_wp2_with fail
  refine (check_any _ _ _ _).mono ?_
  rintro e w2 ⟨rfl, hb2⟩
  have hB2 : Hid (Below w.heap.size w w2) := hB1.out.trans (hb2.mono hB1.out.size)
  have H2 := H1.below hb2
  rw [show chk 3 0 (ByteArray.mk #[]).toList = 10 from chk_no (decide_eq_false (by decide)) (decide_eq_false (by decide))]
  clear h0 h1 h2 h3 h4 h5 hb2 H1 hB1
  have hT := H2
  obtain ⟨h0, h1, h2, h3, h4, h5⟩ := hT
  go_wp2_with fail
  refine (aw_fit _).mono ?_
  rintro e w3 ⟨rfl, hb3⟩
  have hB3 : Hid (Below w.heap.size w w3) := hB2.out.trans (hb3.mono hB2.out.size)
  have H3 := H2.below hb3
  clear h0 h1 h2 h3 h4 h5 hb3 H2 hB2
  have hT := H3
  obtain ⟨h0, h1, h2, h3, h4, h5⟩ := hT
  go_wp2_with fail
  refine (aw_other _).mono ?_
  rintro e w4 ⟨rfl, hb4⟩
  have hB4 : Hid (Below w.heap.size w w4) := hB3.out.trans (hb4.mono hB3.out.size)
  have H4 := H3.below hb4
  clear h0 h1 h2 h3 h4 h5 hb4 H3 hB3
  have hT := H4
  obtain ⟨h0, h1, h2, h3, h4, h5⟩ := hT
  have s0 : w.heap.size < w4.heap.size := World.block_lt_of_cell? _ _ h0
  have s1 : w.heap.size + 1 < w4.heap.size := World.block_lt_of_cell? _ _ h3
  go_wp2_with fail
  refine (aw_first _).mono ?_
  rintro e w5 ⟨rfl, hb5⟩
  have hB5 : Hid (Below w.heap.size w w5) := hB4.out.trans (hb5.mono hB4.out.size)
  have H5 := H4.below hb5
  clear h0 h1 h2 h3 h4 h5 hb5 H4 hB4 s0 s1
  have hT := H5
  obtain ⟨h0, h1, h2, h3, h4, h5⟩ := hT
  go_wp2_with fail
  refine (aw_kinds _).mono ?_
  rintro e w6 ⟨rfl, hb6⟩
  have hB6 : Hid (Below w.heap.size w w6) := hB5.out.trans (hb6.mono hB5.out.size)
  clear h0 h1 h2 h3 h4 h5 hb6 H5 hB5
  go_wp2_with fail
  go_ret
  exact ⟨rfl, hB6.out⟩
end Go.Proofs.Ytcjbkmbfkpjbiaa
