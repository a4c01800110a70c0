/-
  TreeNil answers true, for every text and every number: calls on none answer ErrArg, or nothing. Conditions: none.
-/
import Derived.Test.YtccphijgcapeoaaGreatRows
import Derived.Test.YtccphijgcapeoaaGreatZQ15
import Derived.Test.YtccphijgcapeoaaGreatZQ10
namespace Go.Proofs.YtccphijgcapeoaaGreat.treeNil
open Go.ChangeShapes Go.WideShapes Go.ChangeAt Go.RowKit Go.Maps

set_option maxRecDepth 20000 in
set_option maxHeartbeats 6400000 in
theorem walk (key : ByteArray) (n : Int) (_h1 : -9223372036854775808 ≤ n) (_h2 : n ≤ 9223372036854775807) (W : World) : Calls Tryz.prog 9 #[.string key, .int .i64 n] W fun e w' => e = .returned (.bool true) ∧ Below W.heap.size W w' := by
  have hfield := superField
  go_enter Tryz.func9, Tryz.ntmps9
  go_wp2_with fail
  refine (awake_live _).mono ?_
  rintro e w1 ⟨rfl, b1⟩
  have B1 := Lib.hid b1
  clear b1
  go_wp2_with fail
  refine (nil_get w1 key).mono ?_
  rintro e w2 ⟨rfl, b2⟩
  have B2 := Lib.hid (chainN b2 B1.out)
  clear b2
  go_wp2_with fail
  refine (nil_del w2 key).mono ?_
  rintro e w3 ⟨rfl, b3⟩
  have B3 := Lib.hid (chainN b3 B2.out)
  clear b3
  go_wp2_with fail
  refine (nil_node w3 n).mono ?_
  rintro e w4 ⟨rfl, b4⟩
  have B4 := Lib.hid (chainN b4 B3.out)
  have b5 := below_one w4 (.cells #[.bool false, .slice none 0 0, .slice none 0 0, .slice none 0 0] 68)
  have HN := Lib.hid (nbox_new w4 (.bool false) (.slice none 0 0) (.slice none 0 0) (.slice none 0 0))
  have B5 := Lib.hid (chainN b5 B4.out)
  clear b4 b5
  go_upto_region 8 with fail
  generalize hw5 : w4.alloc (.cells #[.bool false, .slice none 0 0, .slice none 0 0, .slice none 0 0] 68) = w5 at *
  generalize w4.heap.size = g12 at *
  clear hw5
  go_wp2_with fail
  refine (nil_take w5).mono ?_
  rintro e w6 ⟨rfl, b6⟩
  have B6 := Lib.hid (chainN b6 B5.out)
  have HN6 := Lib.hid (HN.out.kept b6)
  clear b6 HN
  go_wp2_with fail
  refine (nil_open w6 _ _ _ _ _ _ _ _ _).mono ?_
  rintro e w7 ⟨rfl, b7⟩
  have B7 := Lib.hid (chainN b7 B6.out)
  have HN7 := Lib.hid (HN6.out.kept b7)
  clear b7 HN6
  go_wp2_with fail
  refine (nil_space w7).mono ?_
  rintro e w8 ⟨rfl, b8⟩
  have b9 := below_one w8 (.cells #[.int .i64 0, .slice none 0 0, .slice none 0 0] 49)
  have B9 := Lib.hid (chainN (chainN b9 b8) B7.out)
  have HN9 := Lib.hid (HN7.out.kept (chainN b9 b8))
  have HS := Lib.hid (box_new w8 (.int .i64 0) (.slice none 0 0) (.slice none 0 0))
  clear b8 b9 HN7
  go_upto_region 11 with fail
  generalize hw9 : w8.alloc (.cells #[.int .i64 0, .slice none 0 0, .slice none 0 0] 49) = w9 at *
  generalize w8.heap.size = g18 at *
  clear hw9
  go_wp2_with fail
  refine (nil_put w9 key key).mono ?_
  rintro e w10 ⟨rfl, b10⟩
  have B10 := Lib.hid (chainN b10 B9.out)
  have HN10 := Lib.hid (HN9.out.kept b10)
  have HS10 := Lib.hid (HS.out.kept b10)
  obtain ⟨_, n1, _, _⟩ := HN10.out.cells
  clear b10 HN9 HS
  go_wp2_with fail
  refine (nil_drop w10 n).mono ?_
  rintro e w11 ⟨rfl, b11⟩
  have B11 := Lib.hid (chainN b11 B10.out)
  have HS11 := Lib.hid (HS10.out.kept b11)
  clear b11 HS10 n1
  go_wp2_with fail
  refine (nil_at w11).mono ?_
  rintro e w12 ⟨rfl, b12⟩
  have B12 := Lib.hid (chainN b12 B11.out)
  obtain ⟨s0, _, _⟩ := (HS11.out.kept b12).cells
  clear b12
  go_wp2_with fail
  go_ret
  exact ⟨rfl, B12.out⟩

set_option maxRecDepth 100000 in
theorem lifted (os : Os) (started : os.Started) (H : Type) (enc : TypeId × Value → H) :
    ReturnsInHanded {} Tryz.checked os 9 .any (Rows.treeNilSpec.pre6 enc Tryz.prog Tryz.f9 Rows.treeNilRow.domain false)
      (Rows.treeNilSpec.post enc Tryz.prog Tryz.f9 false true false false) := by
  refine lift_law (C := Tryz.checked) (tb := 4) ownKnobs started (by kernel_rfl) Tryz.func9
    (ChangeSpec.witness6 (enc := enc) (C := Tryz.checked) false ⟨#[], #[.string ⟨#[]⟩, .int .i64 0], []⟩ 8 (by kernel_rfl) (by kernel_rfl) (by kernel_rfl) (by kernel_rfl))
    laidOut ?_ rfl rfl Tryz.underlying4 ?_ ?_
  · intro t ht
    rw [Tryz.params9] at ht
    simp only [List.mem_cons, List.not_mem_nil, or_false] at ht
    rcases ht with rfl | rfl <;> exact ⟨by kernel_rfl, of_decide_eq_true (by kernel_rfl)⟩
  · intro vs ds W p hA
    rw [Tryz.params9] at hA
    obtain ⟨v0, vs0, d0, ds0, p0, q0, ha, rfl, rfl, h0, r0⟩ := trodAll_cons hA
    obtain ⟨v1, vs1, d1, ds1, p1, q1, rfl, rfl, rfl, h1, r1⟩ := trodAll_cons r0
    obtain ⟨rfl, rfl, rfl⟩ := trodAll_nil r1
    rfl
  · intro W base args ds p hval hA
    rw [Tryz.params9] at hA hval
    obtain ⟨v0, vs0, d0, ds0, p0, q0, ha, rfl, rfl, h0, r0⟩ := trodAll_cons hA
    obtain ⟨v1, vs1, d1, ds1, p1, q1, rfl, rfl, rfl, h1, r1⟩ := trodAll_cons r0
    obtain ⟨rfl, rfl, rfl⟩ := trodAll_nil r1
    obtain rfl : args = #[v0, v1] := by cases args; simp_all
    obtain ⟨t0, rfl⟩ := open_text (hval 0 _ v0 rfl rfl) h0
    obtain ⟨i1, rfl, lo1, hi1⟩ := open_i64 (hval 1 _ v1 rfl rfl) h1
    exact walk t0 i1 lo1 hi1 W

/-- The statement. -/
theorem proved : Rows.TreeNilSaid :=
  OpenClaim.holds_of_wide 9 Tryz.f9 rfl rfl rfl rfl rfl rfl rfl ⟨rfl, rfl, rfl, rfl, rfl⟩ rfl rfl rfl rfl rfl (by kernel_rfl) Tryz.func9 (by kernel_rfl)
    (of_decide_eq_true (by kernel_rfl)) (by unfold Func.isWrapper; first | (rw [if_pos (by decide +kernel)]; kernel_rfl) | (rw [if_neg (by decide +kernel)]; exact ⟨rfl, rfl⟩))
    (fun os started H enc _ => lifted os started H enc)
#print axioms proved
end Go.Proofs.YtccphijgcapeoaaGreat.treeNil
