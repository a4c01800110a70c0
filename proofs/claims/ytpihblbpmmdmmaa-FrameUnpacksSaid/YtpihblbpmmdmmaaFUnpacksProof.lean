/-
  FrameUnpacks answers true, for every place and every list of bytes: what Unpack answers is what the document says. Conditions: none.
-/
import Derived.Test.YtpihblbpmmdmmaaRows
import Derived.Test.YtpihblbpmmdmmaaFAwake
import Derived.Test.YtpihblbpmmdmmaaFRefUnp
import Derived.Test.YtpihblbpmmdmmaaOpenB
namespace Go.Proofs.Ytpihblbpmmdmmaa.frameUnpacks
open Go.ChangeShapes Go.WideShapes Go.ChangeAt Go.RowKit

set_option maxHeartbeats 1600000 in
theorem walk {W : World} (p : Int) (_ : -9223372036854775808 ≤ p) (_ : p ≤ 9223372036854775807)
    (A : Option Addr) (n c : Nat) (l : List UInt8) (hl : l.length = n) (hr : Bys W W.heap.size A l) (hnc : n ≤ c) (_ : c ≤ maxLen) (_ : A = none → n = 0 ∧ c = 0) :
    Calls Try.prog 5 #[.int .i64 p, .slice A n c] W fun e W' => e = .returned (.bool true) ∧ Below W.heap.size W W' := by
  go_enter Try.func5, Try.ntmps5
  go_wp2_with fail
  refine (awake_any _).mono ?_
  rintro e w1 ⟨rfl, b1⟩
  have h1 := Lib.hid (hr.kept b1)
  have B1 : Hid (Below W.heap.size W w1) := b1
  clear hr b1
  by_cases hn : n ≤ 2000
  · go_wp2_with fail
    refine (unp_all p A n c l _ hl h1.out hnc (by omega)).mono ?_
    rintro e w2 ⟨v2, rfl, o2, b2⟩
    have h2 := Lib.hid (h1.out.kept b2)
    have B2 : Hid (Below W.heap.size W w2) := B1.out.trans (b2.mono B1.out.size)
    have O2 := Lib.hid o2
    clear h1 B1 b2 o2
    go_wp2_with fail
    refine (refUnp_all p A n c l _ hl h2.out hnc (by omega)).mono ?_
    rintro e w3 ⟨v3, rfl, o3, b3⟩
    have B3 : Hid (Below W.heap.size W w3) := B2.out.trans (b3.mono B2.out.size)
    obtain ⟨A2, c2, rfl, e2, _, _, r2⟩ := Bys.of_own (own_below O2.out b3)
    obtain ⟨A3, c3, rfl, e3, _, _, r3⟩ := Bys.of_own o3
    have t2 := run_text (P := Try.prog) r2 23 9 5 _ c2 rfl Try.underlying23 Try.underlying5 Try.underlying9
    have t3 := run_text (P := Try.prog) r3 23 9 5 _ c3 rfl Try.underlying23 Try.underlying5 Try.underlying9
    clear O2 B2 h2 b3 o3 r2 r3 hl
    generalize unpB p l = L at *
    generalize unpE p l = E at *
    generalize unpK p l = K at *
    obtain ⟨N, hN⟩ : ∃ N, L.length = N := ⟨_, rfl⟩
    rw [hN] at t2 t3 ⊢
    clear hN
    go_wp2_with fail
    go_ret
    exact ⟨rfl, B3.out⟩
  · go_wp2_with fail
    go_ret
    exact ⟨rfl, B1.out⟩

set_option maxRecDepth 100000 in
theorem lifted (os : Os) (started : os.Started) (H : Type) (enc : TypeId × Value → H) :
    ReturnsInHanded {} Try.checked os 5 .any (Rows.frameUnpacksSpec.pre6 enc Try.prog Try.f5 Rows.frameUnpacksRow.domain false)
      (Rows.frameUnpacksSpec.post enc Try.prog Try.f5 false true false false) := by
  refine lift_law (C := Try.checked) (tb := 4) ownKnobs started (by kernel_rfl) Try.func5
    (ChangeSpec.witness6 (enc := enc) (C := Try.checked) false ⟨#[], #[.int .i64 0, .slice none 0 0], []⟩ 8 (by kernel_rfl) (by kernel_rfl) (by kernel_rfl) (by kernel_rfl))
    laidOut ?_ rfl rfl Try.underlying4 ?_ ?_
  · intro t ht
    rw [Try.params5] at ht
    simp only [List.mem_cons, List.not_mem_nil, or_false] at ht
    rcases ht with rfl | rfl <;> exact ⟨by kernel_rfl, of_decide_eq_true (by kernel_rfl)⟩
  · intro vs ds W p hA
    rw [Try.params5] at hA
    obtain ⟨v0, vs0, d0, ds0, p0, q0, ha, rfl, rfl, h0, r0⟩ := trodAll_cons hA
    obtain ⟨v1, vs1, d1, ds1, p1, q1, rfl, rfl, rfl, h1, r1⟩ := trodAll_cons r0
    obtain ⟨rfl, rfl, rfl⟩ := trodAll_nil r1
    rfl
  · intro W base args ds p hval hA
    rw [Try.params5] at hA hval
    obtain ⟨v0, vs0, d0, ds0, p0, q0, ha, rfl, rfl, h0, r0⟩ := trodAll_cons hA
    obtain ⟨v1, vs1, d1, ds1, p1, q1, rfl, rfl, rfl, h1, r1⟩ := trodAll_cons r0
    obtain ⟨rfl, rfl, rfl⟩ := trodAll_nil r1
    obtain rfl : args = #[v0, v1] := by cases args; simp_all
    obtain ⟨i0, rfl, lo0, hi0⟩ := open_i64 (hval 0 _ v0 rfl rfl) h0
    obtain ⟨A1, n1, c1, xs1, rfl, e1, hr1, y1, z1, o1⟩ := open_bytesz (hval 1 _ v1 rfl rfl) h1
    exact walk i0 lo0 hi0 A1 n1 c1 xs1 e1 hr1 y1 z1 o1

/-- The statement. -/
theorem proved : Rows.FrameUnpacksSaid :=
  OpenClaim.holds_of_wide 5 Try.f5 rfl rfl rfl rfl rfl rfl rfl ⟨rfl, rfl, rfl, rfl, rfl⟩ rfl rfl rfl rfl rfl (by kernel_rfl) Try.func5 (by kernel_rfl)
    (of_decide_eq_true (by kernel_rfl)) (by unfold Func.isWrapper; first | (rw [if_pos (by decide +kernel)]; kernel_rfl) | (rw [if_neg (by decide +kernel)]; exact ⟨rfl, rfl⟩))
    (fun os started H enc _ => lifted os started H enc)
#print axioms proved
end Go.Proofs.Ytpihblbpmmdmmaa.frameUnpacks
