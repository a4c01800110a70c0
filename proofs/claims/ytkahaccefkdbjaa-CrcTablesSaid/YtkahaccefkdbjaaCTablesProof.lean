/-
  CrcTables answers true: the steps by single bytes are what the document says. Conditions: none.
-/
import Derived.Test.YtkahaccefkdbjaaRows
import Derived.Test.YtkahaccefkdbjaaCAwake
import Derived.Test.YtkahaccefkdbjaaCRefTab
import Derived.Test.YtkahaccefkdbjaaLift
import Derived.DeepKeys
namespace Go.Proofs.Ytkahaccefkdbjaa.crcTables
open Go.ChangeShapes Go.WideShapes Go.ChangeAt Go.RowKit

/-- Two tables that are the same one are alike. -/
theorem tab_lits : (Try.prog.keyLits 3 24 (tabC 256).toList).isSome = true := by kernel_rfl

theorem tab_alike (w : World) : (Op.equalIn 10000 24 (.agg (tabC 256)) (.agg (tabC 256))).run Try.prog w = .ok true w := by
  obtain ⟨lx, hl⟩ := Option.isSome_iff_exists.1 tab_lits
  have hk : Try.prog.keyTypeAt 2 24 = true := by kernel_rfl
  have hf : (Value.agg (tabC 256)).formed Try.prog 24 = true := by kernel_rfl
  obtain ⟨r, hr, hiff⟩ := run_equalIn_deep 9998 2 _ hk w 3 3 (.agg (tabC 256)) (.agg (tabC 256)) lx lx hf hf hl hl
  rw [hiff.2 rfl] at hr
  exact hr

set_option maxHeartbeats 1600000 in
set_option maxRecDepth 20000 in
theorem walk (W : World) :
    Calls Try.prog 3 #[] W fun e W' => e = .returned (.bool true) ∧ Below W.heap.size W W' := by
  have H1 := Lib.hid table_any
  have H2 := Lib.hid refTable_any
  have he := tab_alike
  generalize tabC 256 = T at *
  go_enter Try.func3, Try.ntmps3
  go_wp2_with fail
  refine (awake_any _).mono ?_
  rintro e w1 ⟨rfl, b1⟩
  have B1 : Hid (Below W.heap.size W w1) := b1
  clear b1
  go_wp2_with fail
  refine (H1.out _).mono ?_
  rintro e w2 ⟨rfl, b2⟩
  have B2 : Hid (Below W.heap.size W w2) := B1.out.trans (b2.mono B1.out.size)
  clear B1 b2
  go_wp2_with fail
  refine (H2.out _).mono ?_
  rintro e w3 ⟨rfl, b3⟩
  have B3 : Hid (Below W.heap.size W w3) := B2.out.trans (b3.mono B2.out.size)
  clear B2 b3
  go_wp2_with fail
  go_ret
  exact ⟨rfl, B3.out⟩

set_option maxRecDepth 100000 in
theorem lifted (os : Os) (started : os.Started) (H : Type) (enc : TypeId × Value → H) :
    ReturnsInHanded {} Try.checked os 3 .any (Rows.crcTablesSpec.pre6 enc Try.prog Try.f3 Rows.crcTablesRow.domain false)
      (Rows.crcTablesSpec.post enc Try.prog Try.f3 false true false false) := by
  refine lift_law (C := Try.checked) (tb := 4) ownKnobs started (by kernel_rfl) Try.func3
    (ChangeSpec.witness6 (enc := enc) (C := Try.checked) false ⟨#[], #[], []⟩ 8 (by kernel_rfl) (by kernel_rfl) (by kernel_rfl) (by kernel_rfl))
    laidOut ?_ rfl rfl Try.underlying4 ?_ ?_
  · intro t ht
    rw [Try.params3] at ht
    simp at ht
  · intro vs ds W p hA
    rw [Try.params3] at hA
    obtain ⟨ha, rfl, rfl⟩ := trodAll_nil hA
    rfl
  · intro W base args ds p hval hA
    rw [Try.params3] at hA hval
    obtain ⟨ha, rfl, rfl⟩ := trodAll_nil hA
    obtain rfl : args = #[] := by cases args; simp_all
    exact walk  W

/-- The statement. -/
theorem proved : Rows.CrcTablesSaid :=
  OpenClaim.holds_of_wide 3 Try.f3 rfl rfl rfl rfl rfl rfl rfl ⟨rfl, rfl, rfl, rfl, rfl⟩ rfl rfl rfl rfl rfl (by kernel_rfl) Try.func3 (by kernel_rfl)
    (of_decide_eq_true (by kernel_rfl)) (by unfold Func.isWrapper; first | (rw [if_pos (by decide +kernel)]; kernel_rfl) | (rw [if_neg (by decide +kernel)]; exact ⟨rfl, rfl⟩))
    (fun os started H enc _ => lifted os started H enc)
#print axioms proved
end Go.Proofs.Ytkahaccefkdbjaa.crcTables
