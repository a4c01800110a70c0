/-
  FramePacks answers true, for every kind, every place and every list of bytes: what Pack answers is what the document says, and a frame fits into a sector. Conditions: none.
-/
import Derived.Test.YtpihblbpmmdmmaaRows
import Derived.Test.YtpihblbpmmdmmaaFAwake
import Derived.Test.YtpihblbpmmdmmaaFRefPack
import Derived.Test.YtpihblbpmmdmmaaOpenB
namespace Go.Proofs.Ytpihblbpmmdmmaa.framePacks
open Go.ChangeShapes Go.WideShapes Go.ChangeAt Go.RowKit

theorem pack_cases (k p : Int) (l : List UInt8) : (packE k p l = 0 ∧ (packB k p l).length ≤ 1011) ∨ (packE k p l = 1 ∧ (packB k p l).length ≤ 1011) := by
  unfold packE packB
  by_cases h : FOk k p l.length
  · rw [if_pos h, if_pos h, frm_length]
    exact Or.inl ⟨rfl, by have := h.2.2.2.2; omega⟩
  · rw [if_neg h, if_neg h]
    exact Or.inr ⟨rfl, by simp⟩

set_option maxHeartbeats 1600000 in
theorem walk {W : World} (k : Int) (_ : -9223372036854775808 ≤ k) (_ : k ≤ 9223372036854775807) (p : Int) (_ : -9223372036854775808 ≤ p) (_ : p ≤ 9223372036854775807)
    (A : Option Addr) (n c : Nat) (l : List UInt8) (hl : l.length = n) (hr : Bys W W.heap.size A l) (_ : n ≤ c) (_ : c ≤ maxLen) (hz : A = none → n = 0 ∧ c = 0) :
    Calls Try.prog 4 #[.int .i64 k, .int .i64 p, .slice A n c] W fun e W' => e = .returned (.bool true) ∧ Below W.heap.size W W' := by
  have HZ := Lib.hid hz
  clear hz
  go_enter Try.func4, Try.ntmps4
  go_wp2_with fail
  refine (awake_any _).mono ?_
  rintro e w1 ⟨rfl, b1⟩
  have h1 := Lib.hid (hr.kept b1)
  have B1 : Hid (Below W.heap.size W w1) := b1
  clear hr b1
  by_cases hn : n ≤ 2000
  · go_wp2_with fail
    refine (pack_all k p A n c l _ hl h1.out HZ.out).mono ?_
    rintro e w2 ⟨v2, rfl, o2, b2⟩
    have h2 := Lib.hid (h1.out.kept b2)
    have B2 : Hid (Below W.heap.size W w2) := B1.out.trans (b2.mono B1.out.size)
    have O2 := Lib.hid o2
    clear h1 B1 b2 o2
    go_wp2_with fail
    refine (refPack_all k p A n c l _ hl h2.out HZ.out).mono ?_
    rintro e w3 ⟨v3, rfl, o3, b3⟩
    have B3 : Hid (Below W.heap.size W w3) := B2.out.trans (b3.mono B2.out.size)
    obtain ⟨A2, c2, rfl, e2, _, _, r2⟩ := Bys.of_own (own_below O2.out b3)
    obtain ⟨A3, c3, rfl, e3, _, _, r3⟩ := Bys.of_own o3
    have t2 := run_text (P := Try.prog) r2 23 9 5 _ c2 rfl Try.underlying23 Try.underlying5 Try.underlying9
    have t3 := run_text (P := Try.prog) r3 23 9 5 _ c3 rfl Try.underlying23 Try.underlying5 Try.underlying9
    have HC := Lib.hid (pack_cases k p l)
    clear O2 B2 h2 b3 o3 r2 r3 hl
    generalize packB k p l = L at *
    generalize packE k p l = E at *
    obtain ⟨N, hN⟩ : ∃ N, L.length = N := ⟨_, rfl⟩
    rw [hN] at HC t2 t3 ⊢
    rcases HC.out with ⟨rfl, hc⟩ | ⟨rfl, hc⟩
    · have hd : decide ((N : Int) ≤ 1024) = true := decide_eq_true (by omega)
      clear HC hN
      go_wp2_with fail
      go_ret
      exact ⟨rfl, B3.out⟩
    · clear HC hN
      go_wp2_with fail
      go_ret
      exact ⟨rfl, B3.out⟩
  · go_wp2_with fail
    go_ret
    exact ⟨rfl, B1.out⟩

set_option maxRecDepth 100000 in
theorem lifted (os : Os) (started : os.Started) (H : Type) (enc : TypeId × Value → H) :
    ReturnsInHanded {} Try.checked os 4 .any (Rows.framePacksSpec.pre6 enc Try.prog Try.f4 Rows.framePacksRow.domain false)
      (Rows.framePacksSpec.post enc Try.prog Try.f4 false true false false) := by
  refine lift_law (C := Try.checked) (tb := 4) ownKnobs started (by kernel_rfl) Try.func4
    (ChangeSpec.witness6 (enc := enc) (C := Try.checked) false ⟨#[], #[.int .i64 0, .int .i64 0, .slice none 0 0], []⟩ 8 (by kernel_rfl) (by kernel_rfl) (by kernel_rfl) (by kernel_rfl))
    laidOut ?_ rfl rfl Try.underlying4 ?_ ?_
  · intro t ht
    rw [Try.params4] at ht
    simp only [List.mem_cons, List.not_mem_nil, or_false] at ht
    rcases ht with rfl | rfl | rfl <;> exact ⟨by kernel_rfl, of_decide_eq_true (by kernel_rfl)⟩
  · intro vs ds W p hA
    rw [Try.params4] at hA
    obtain ⟨v0, vs0, d0, ds0, p0, q0, ha, rfl, rfl, h0, r0⟩ := trodAll_cons hA
    obtain ⟨v1, vs1, d1, ds1, p1, q1, rfl, rfl, rfl, h1, r1⟩ := trodAll_cons r0
    obtain ⟨v2, vs2, d2, ds2, p2, q2, rfl, rfl, rfl, h2, r2⟩ := trodAll_cons r1
    obtain ⟨rfl, rfl, rfl⟩ := trodAll_nil r2
    rfl
  · intro W base args ds p hval hA
    rw [Try.params4] at hA hval
    obtain ⟨v0, vs0, d0, ds0, p0, q0, ha, rfl, rfl, h0, r0⟩ := trodAll_cons hA
    obtain ⟨v1, vs1, d1, ds1, p1, q1, rfl, rfl, rfl, h1, r1⟩ := trodAll_cons r0
    obtain ⟨v2, vs2, d2, ds2, p2, q2, rfl, rfl, rfl, h2, r2⟩ := trodAll_cons r1
    obtain ⟨rfl, rfl, rfl⟩ := trodAll_nil r2
    obtain rfl : args = #[v0, v1, v2] := by cases args; simp_all
    obtain ⟨i0, rfl, lo0, hi0⟩ := open_i64 (hval 0 _ v0 rfl rfl) h0
    obtain ⟨i1, rfl, lo1, hi1⟩ := open_i64 (hval 1 _ v1 rfl rfl) h1
    obtain ⟨A2, n2, c2, xs2, rfl, e2, hr2, y2, z2, o2⟩ := open_bytesz (hval 2 _ v2 rfl rfl) h2
    exact walk i0 lo0 hi0 i1 lo1 hi1 A2 n2 c2 xs2 e2 hr2 y2 z2 o2

/-- The statement. -/
theorem proved : Rows.FramePacksSaid :=
  OpenClaim.holds_of_wide 4 Try.f4 rfl rfl rfl rfl rfl rfl rfl ⟨rfl, rfl, rfl, rfl, rfl⟩ rfl rfl rfl rfl rfl (by kernel_rfl) Try.func4 (by kernel_rfl)
    (of_decide_eq_true (by kernel_rfl)) (by unfold Func.isWrapper; first | (rw [if_pos (by decide +kernel)]; kernel_rfl) | (rw [if_neg (by decide +kernel)]; exact ⟨rfl, rfl⟩))
    (fun os started H enc _ => lifted os started H enc)
#print axioms proved
end Go.Proofs.Ytpihblbpmmdmmaa.framePacks
