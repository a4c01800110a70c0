/-
  The head of all laws of layer 2, awake, answers true.
-/
import Derived.Test.YtcjcahgeaffjmaaKDec
import Derived.Test.YtcjcahgeaffjmaaKCmp
import Derived.Test.YtcjcahgeaffjmaaKNext
namespace Go.Proofs.Ytcjcahgeaffjmaa
open Go.RowKit

def vA : Val := ⟨2, 0, ⟨#[97]⟩⟩

theorem vA_bytes : rowB [vA] = [2, 97, 0, 0] := by
  unfold rowB valB
  simp only [List.flatMap_cons, List.flatMap_nil, List.append_nil]
  rw [if_neg (by decide), if_pos (by rfl)]
  rw [show vA.s.toList = [97] from by rw [toList_data]; rfl]
  rfl
theorem cut_none : dec [2, 97, 0] = none := by
  rw [dec_none (by simp)]
  decide

/-- Bytes that some value is. -/
def IsB (w : World) (v : Value) (l : List UInt8) : Prop := ∃ A c, v = .slice A l.length c ∧ Bys w w.heap.size A l

theorem IsB.below {w w' : World} {v : Value} {l : List UInt8} (h : IsB w v l) (hb : Below w.heap.size w w') : IsB w' v l := by
  obtain ⟨A, c, e, h1⟩ := h
  exact ⟨A, c, e, (h1.kept hb).more hb.size⟩

theorem aw_row (w : World) : Calls Try.prog 15 #[.slice (some ⟨w.heap.size, 0, none⟩) 1 1] (w.alloc (.cells #[.int .i64 2, .int .i64 0, .string ⟨#[97]⟩] 38))
    fun e w' => ∃ v, e = .returned v ∧ IsB w' v [2, 97, 0, 0] ∧ Below w.heap.size w w' := by
  have hr := row_one w 38 vA
  have h := keysRow_n _ 1 1 [vA] _ hr rfl (by omega) (by rw [vA_bytes]; simp) (by intro v hv; rw [List.mem_singleton.1 hv]; decide)
  rw [vA_bytes] at h
  refine h.mono ?_
  rintro e w' ⟨v, rfl, ho, hb⟩
  obtain ⟨A, c, rfl, _, _, _, h1⟩ := Bys.of_own ho
  exact ⟨_, rfl, ⟨A, c, rfl, h1⟩, (below_one _ _).trans (hb.mono (by simp))⟩

theorem bys_lit (w : World) (l : List UInt8) (t : TypeId) : Bys (w.alloc (.cells (bv l).toArray t)) (w.alloc (.cells (bv l).toArray t)).heap.size (some ⟨w.heap.size, 0, none⟩) l := by
  have := bys_new w l t
  rwa [show w.heap.size + 1 = (w.alloc (.cells (bv l).toArray t)).heap.size from by simp] at this

theorem aw_cut (w : World) : Calls Try.prog 12 #[.slice (some ⟨w.heap.size, 0, none⟩) 3 3] (w.alloc (.cells #[.int .u8 2, .int .u8 97, .int .u8 0] 5))
    fun e w' => ∃ A c, e = .returned (.tuple #[.slice A 0 c, .int .i64 20]) ∧ Below w.heap.size w w' := by
  have h := dec_any _ 3 [2, 97, 0] _ (bys_lit w [2, 97, 0] 5) (Nat.le_refl _) (by unfold maxLen; omega) (by simp)
  refine h.mono ?_
  rintro e w' ⟨A, c, he, _, hb⟩
  unfold errB at he
  rw [cut_none] at he
  exact ⟨A, c, he, (below_one _ _).trans (hb.mono (by simp))⟩

theorem aw_nil (w : World) : Calls Try.prog 12 #[.slice none 0 0] w
    fun e w' => ∃ A c, e = .returned (.tuple #[.slice A 0 c, .int .i64 0]) ∧ Below w.heap.size w w' := by
  have h := dec_any none 0 [] w (Bys.nil _ _ _) (Nat.le_refl _) (by unfold maxLen; omega) (by simp)
  refine h.mono ?_
  rintro e w' ⟨A, c, he, _, hb⟩
  unfold errB at he
  rw [dec_nil] at he
  exact ⟨A, c, he, hb⟩

theorem aw_next (w : World) : Calls Try.prog 18 #[.slice (some ⟨w.heap.size, 0, none⟩) 2 2] (w.alloc (.cells #[.int .u8 1, .int .u8 255] 5))
    fun e w' => ∃ v, e = .returned (.tuple #[v, .bool true]) ∧ IsB w' v [2] ∧ Below w.heap.size w w' := by
  have h := next_any _ 2 _ [1, 255] _ (bys_lit w [1, 255] 5) (Nat.le_refl _) (by simp)
  refine h.mono ?_
  rintro e w' ⟨A, c, he, h1, hb⟩
  exact ⟨_, he, ⟨A, c, rfl, h1⟩, (below_one _ _).trans (hb.mono (by simp))⟩

theorem aw_top (w : World) : Calls Try.prog 18 #[.slice (some ⟨w.heap.size, 0, none⟩) 1 1] (w.alloc (.cells #[.int .u8 255] 5))
    fun e w' => ∃ v, e = .returned (.tuple #[v, .bool false]) ∧ Below w.heap.size w w' := by
  have h := next_any _ 1 _ [255] _ (bys_lit w [255] 5) (Nat.le_refl _) (by simp)
  refine h.mono ?_
  rintro e w' ⟨A, c, he, h1, hb⟩
  exact ⟨_, he, (below_one _ _).trans (hb.mono (by simp))⟩

theorem aw_same (w : World) (A : Option Addr) (c : Nat) (h : Bys w w.heap.size A [2, 97, 0, 0]) : Calls Try.prog 14 #[.slice A 4 c, .slice (some ⟨w.heap.size, 0, none⟩) 4 4] (w.alloc (.cells #[.int .u8 2, .int .u8 97, .int .u8 0, .int .u8 0] 5))
    fun e w' => e = .returned (.bool true) ∧ Below w.heap.size w w' := by
  have h := sameB_any (h.alloc _) (bys_lit w [2, 97, 0, 0] 5) 4 c 4 4 rfl rfl
  refine h.mono ?_
  rintro e w' ⟨rfl, rfl⟩
  exact ⟨rfl, below_one _ _⟩

theorem aw_two (w : World) (A : Option Addr) (c : Nat) (h : Bys w w.heap.size A [2]) : Calls Try.prog 14 #[.slice A 1 c, .slice (some ⟨w.heap.size, 0, none⟩) 1 1] (w.alloc (.cells #[.int .u8 2] 5))
    fun e w' => e = .returned (.bool true) ∧ Below w.heap.size w w' := by
  have h := sameB_any (h.alloc _) (bys_lit w [2] 5) 1 c 1 1 rfl rfl
  refine h.mono ?_
  rintro e w' ⟨rfl, rfl⟩
  exact ⟨rfl, below_one _ _⟩

theorem aw_cmp (w : World) : Calls Try.prog 20 #[.slice (some ⟨w.heap.size, 0, none⟩) 1 1, .slice (some ⟨w.heap.size + 1, 0, none⟩) 1 1] ((w.alloc (.cells #[.int .u8 1] 5)).alloc (.cells #[.int .u8 2] 5))
    fun e w' => e = .returned (.int .i64 (-1)) ∧ Below w.heap.size w w' := by
  have hz := bys_lit (w.alloc (.cells (bv [1]).toArray 5)) [2] 5
  have hs : (w.alloc (.cells (bv [1]).toArray 5)).heap.size = w.heap.size + 1 := by simp
  rw [show (some ⟨(w.alloc (.cells (bv [1]).toArray 5)).heap.size, 0, none⟩ : Option Addr) = some ⟨w.heap.size + 1, 0, none⟩ from by rw [hs]] at hz
  have h := keysCmp_any ((bys_lit w [1] 5).alloc (.cells (bv [2]).toArray 5)) hz 1 1 1 1 rfl rfl
  refine h.mono ?_
  rintro e w' ⟨rfl, rfl⟩
  exact ⟨rfl, below_two _ _ _⟩

set_option maxHeartbeats 1600000 in
theorem awake_any (w : World) :
    Calls Try.prog 10 #[] w fun e w' => e = .returned (.bool true) ∧ Below w.heap.size w w' := by
  go_enter Try.func10, Try.ntmps10
  go_wp2_with fail
  refine (aw_row _).mono ?_
  rintro e w1 ⟨v1, rfl, i1, b1⟩
  have B1 : Hid (Below w.heap.size w w1) := Lib.hid b1
  clear b1
  go_wp2_with fail
  refine (aw_cut _).mono ?_
  rintro e w2 ⟨A2, c2, rfl, b2⟩
  have B2 : Hid (Below w.heap.size w w2) := B1.out.trans (b2.mono B1.out.size)
  have i2 := i1.below b2
  clear b2 i1 B1
  go_wp2_with fail
  refine (aw_nil _).mono ?_
  rintro e w3 ⟨A3, c3, rfl, b3⟩
  have B3 : Hid (Below w.heap.size w w3) := B2.out.trans (b3.mono B2.out.size)
  have i3 := i2.below b3
  clear b3 i2 B2
  go_wp2_with fail
  refine (aw_next _).mono ?_
  rintro e w4 ⟨v4, rfl, j4, b4⟩
  have B4 : Hid (Below w.heap.size w w4) := B3.out.trans (b4.mono B3.out.size)
  have i4 := i3.below b4
  clear b4 i3 B3
  go_wp2_with fail
  refine (aw_top _).mono ?_
  rintro e w5 ⟨v5, rfl, b5⟩
  have B5 : Hid (Below w.heap.size w w5) := B4.out.trans (b5.mono B4.out.size)
  have i5 := i4.below b5
  have j5 := j4.below b5
  clear b5 i4 j4 B4
  obtain ⟨A1, c1, rfl, hb1⟩ := i5
  obtain ⟨A4, c4, rfl, hb4⟩ := j5
  go_wp2_with fail
  refine (aw_same _ A1 c1 hb1).mono ?_
  rintro e w6 ⟨rfl, b6⟩
  have B6 : Hid (Below w.heap.size w w6) := B5.out.trans (b6.mono B5.out.size)
  have hb6 := (hb4.kept b6).more b6.size
  clear b6 hb1 hb4 B5
  go_wp2_with fail
  refine (aw_two _ A4 c4 hb6).mono ?_
  rintro e w7 ⟨rfl, b7⟩
  have B7 : Hid (Below w.heap.size w w7) := B6.out.trans (b7.mono B6.out.size)
  clear b7 hb6 B6
  go_wp2_with fail
  refine (aw_cmp _).mono ?_
  rintro e w8 ⟨rfl, b8⟩
  have B8 : Hid (Below w.heap.size w w8) := B7.out.trans (b8.mono B7.out.size)
  clear b8 B7
  go_wp2_with fail
  go_ret
  exact ⟨rfl, B8.out⟩
end Go.Proofs.Ytcjcahgeaffjmaa
