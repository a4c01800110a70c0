/-
  CrcSums answers true, for every check sum and every list of bytes: any bytes' check sum, behind any other one, is what the document says. Conditions: none.
-/
import Derived.Test.YtkahaccefkdbjaaRows
import Derived.Test.YtkahaccefkdbjaaCAwake
import Derived.Test.YtkahaccefkdbjaaCRef
import Derived.Test.YtkahaccefkdbjaaOpenB
import Derived.Test.YtkahaccefkdbjaaOpenU32
namespace Go.Proofs.Ytkahaccefkdbjaa.crcSums
open Go.ChangeShapes Go.WideShapes Go.ChangeAt Go.RowKit

set_option maxHeartbeats 1600000 in
theorem walk {W : World} (s : Nat) (hs : s < 4294967296) (A : Option Addr) (n c : Nat) (l : List UInt8) (hl : l.length = n) (hr : Bys W W.heap.size A l) (_ : n ≤ c) (_ : c ≤ maxLen) :
    Calls Try.prog 4 #[.int .u32 (s : Int), .slice A n c] W fun e W' => e = .returned (.bool true) ∧ Below W.heap.size W W' := by
  go_enter Try.func4, Try.ntmps4
  go_wp2_with fail
  refine (awake_any _).mono ?_
  rintro e w1 ⟨rfl, b1⟩
  have h1 := Lib.hid (hr.kept b1)
  have B1 : Hid (Below W.heap.size W w1) := b1
  clear hr b1
  by_cases hn : n ≤ 2000
  · go_wp2_with fail
    refine (more_n s hs A n c l _ h1.out hl (by omega)).mono ?_
    rintro e w2 ⟨rfl, b2⟩
    have h2 := Lib.hid (h1.out.kept b2)
    have B2 : Hid (Below W.heap.size W w2) := B1.out.trans (b2.mono B1.out.size)
    clear h1 B1 b2
    go_wp2_with fail
    refine (refMore_n s hs A n c l _ h2.out hl (by omega)).mono ?_
    rintro e w3 ⟨rfl, rfl⟩
    generalize crcM s l = x
    go_wp2_with fail
    refine (sum_n A n c l _ h2.out hl (by omega)).mono ?_
    rintro e w4 ⟨rfl, b4⟩
    have h4 := Lib.hid (h2.out.kept b4)
    have B4 : Hid (Below W.heap.size W w4) := B2.out.trans (b4.mono B2.out.size)
    clear h2 B2 b4
    go_wp2_with fail
    refine (refSum_n A n c l _ h4.out hl (by omega)).mono ?_
    rintro e w5 ⟨rfl, rfl⟩
    generalize crcM 0 l = y
    go_wp2_with fail
    go_ret
    exact ⟨rfl, B4.out⟩
  · go_wp2_with fail
    go_ret
    exact ⟨rfl, B1.out⟩

set_option maxRecDepth 100000 in
theorem lifted (os : Os) (started : os.Started) (H : Type) (enc : TypeId × Value → H) :
    ReturnsInHanded {} Try.checked os 4 .any (Rows.crcSumsSpec.pre6 enc Try.prog Try.f4 Rows.crcSumsRow.domain false)
      (Rows.crcSumsSpec.post enc Try.prog Try.f4 false true false false) := by
  refine lift_law (C := Try.checked) (tb := 4) ownKnobs started (by kernel_rfl) Try.func4
    (ChangeSpec.witness6 (enc := enc) (C := Try.checked) false ⟨#[], #[.int .u32 0, .slice none 0 0], []⟩ 8 (by kernel_rfl) (by kernel_rfl) (by kernel_rfl) (by kernel_rfl))
    laidOut ?_ rfl rfl Try.underlying4 ?_ ?_
  · intro t ht
    rw [Try.params4] at ht
    simp only [List.mem_cons, List.not_mem_nil, or_false] at ht
    rcases ht with rfl | rfl <;> exact ⟨by kernel_rfl, of_decide_eq_true (by kernel_rfl)⟩
  · intro vs ds W p hA
    rw [Try.params4] at hA
    obtain ⟨v0, vs0, d0, ds0, p0, q0, ha, rfl, rfl, h0, r0⟩ := trodAll_cons hA
    obtain ⟨v1, vs1, d1, ds1, p1, q1, rfl, rfl, rfl, h1, r1⟩ := trodAll_cons r0
    obtain ⟨rfl, rfl, rfl⟩ := trodAll_nil r1
    rfl
  · intro W base args ds p hval hA
    rw [Try.params4] at hA hval
    obtain ⟨v0, vs0, d0, ds0, p0, q0, ha, rfl, rfl, h0, r0⟩ := trodAll_cons hA
    obtain ⟨v1, vs1, d1, ds1, p1, q1, rfl, rfl, rfl, h1, r1⟩ := trodAll_cons r0
    obtain ⟨rfl, rfl, rfl⟩ := trodAll_nil r1
    obtain rfl : args = #[v0, v1] := by cases args; simp_all
    obtain ⟨x0, rfl, hx0⟩ := open_u32 (hval 0 _ v0 rfl rfl) h0
    obtain ⟨A1, n1, c1, xs1, rfl, e1, hr1, y1, z1⟩ := open_bytes (hval 1 _ v1 rfl rfl) h1
    exact walk x0 hx0 A1 n1 c1 xs1 e1 hr1 y1 z1

/-- The statement. -/
theorem proved : Rows.CrcSumsSaid :=
  OpenClaim.holds_of_wide 4 Try.f4 rfl rfl rfl rfl rfl rfl rfl ⟨rfl, rfl, rfl, rfl, rfl⟩ rfl rfl rfl rfl rfl (by kernel_rfl) Try.func4 (by kernel_rfl)
    (of_decide_eq_true (by kernel_rfl)) (by unfold Func.isWrapper; first | (rw [if_pos (by decide +kernel)]; kernel_rfl) | (rw [if_neg (by decide +kernel)]; exact ⟨rfl, rfl⟩))
    (fun os started H enc _ => lifted os started H enc)
#print axioms proved
end Go.Proofs.Ytkahaccefkdbjaa.crcSums
