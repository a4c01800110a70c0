/-
  FrameBack answers true, for every kind, every two places and every list of bytes: what is packed is unpacked at its place alone, with its kind and its data, and has eleven bytes more than these. Conditions: none.
-/
import Derived.Test.YtpihblbpmmdmmaaRows
import Derived.Test.YtpihblbpmmdmmaaFAwake
import Derived.Test.YtpihblbpmmdmmaaOpenB
namespace Go.Proofs.Ytpihblbpmmdmmaa.frameBack
open Go.ChangeShapes Go.WideShapes Go.ChangeAt Go.RowKit

/-- Unpack of what was packed, at its place. -/
theorem unp_here {k p : Int} {l : List UInt8} {R c : Nat} {A : Option Addr} (w : World) (h : FOk k p l.length) (n : Nat) (hl : l.length = n) (hn : n ≤ 2000) (hr : Bys w R A (frm k p l)) (hc : n + 11 ≤ c) :
    Calls Try.prog 14 #[.int .i64 p, .slice A (n + 11) c] w
      fun e w' => ∃ A' c', e = .returned (.tuple #[.int .i64 k, .slice A' n c', .int .i64 0]) ∧ Hid (Bys w' w'.heap.size A' l) ∧ Below w.heap.size w w' := by
  refine (unp_all p A (n + 11) c _ w (by rw [frm_length, hl]) hr hc (by omega)).mono ?_
  rintro e w' ⟨v, rfl, ho, hb⟩
  have hf := isF_frm h
  rw [unpB, if_pos hf, frm_dat] at ho
  rw [unpK, unpE, if_pos hf, if_pos hf, frm_kin (by have := h.1; omega) (by have := h.2.1; omega)]
  obtain ⟨A', c', rfl, hl', _, _, r⟩ := Bys.of_own ho
  rw [hl]
  exact ⟨A', c', rfl, r, hb⟩

/-- Unpack at another place. -/
theorem unp_else {k p q : Int} {l : List UInt8} {R c : Nat} {A : Option Addr} (w : World) (h : FOk k p l.length) (hq : ¬ q = p) (n : Nat) (hl : l.length = n) (hn : n ≤ 2000) (hr : Bys w R A (frm k p l)) (hc : n + 11 ≤ c) :
    Calls Try.prog 14 #[.int .i64 q, .slice A (n + 11) c] w
      fun e w' => ∃ A' c', e = .returned (.tuple #[.int .i64 0, .slice A' 0 c', .int .i64 50]) ∧ Below w.heap.size w w' := by
  refine (unp_all q A (n + 11) c _ w (by rw [frm_length, hl]) hr hc (by omega)).mono ?_
  rintro e w' ⟨v, rfl, ho, hb⟩
  have hf : ¬ IsF q (frm k p l) := fun hf => hq (isF_place h hf)
  rw [unpB, if_neg hf] at ho
  rw [unpK, unpE, if_neg hf, if_neg hf]
  obtain ⟨A', c', rfl, hl', _, _, r⟩ := Bys.of_own ho
  exact ⟨A', c', rfl, hb⟩

set_option maxHeartbeats 1600000 in
theorem walk {W : World} (k : Int) (_ : -9223372036854775808 ≤ k) (_ : k ≤ 9223372036854775807) (p : Int) (_ : -9223372036854775808 ≤ p) (_ : p ≤ 9223372036854775807)
    (A : Option Addr) (n c : Nat) (l : List UInt8) (hl : l.length = n) (hr : Bys W W.heap.size A l) (_ : n ≤ c) (_ : c ≤ maxLen) (hz : A = none → n = 0 ∧ c = 0) (q : Int) (_ : -9223372036854775808 ≤ q) (_ : q ≤ 9223372036854775807) :
    Calls Try.prog 7 #[.int .i64 k, .int .i64 p, .slice A n c, .int .i64 q] W fun e W' => e = .returned (.bool true) ∧ Below W.heap.size W W' := by
  have HZ := Lib.hid hz
  clear hz
  go_enter Try.func7, Try.ntmps7
  go_wp2_with fail
  refine (awake_any _).mono ?_
  rintro e w1 ⟨rfl, b1⟩
  have h1 := Lib.hid (hr.kept b1)
  have B1 : Hid (Below W.heap.size W w1) := b1
  clear hr b1
  by_cases hn : n ≤ 2000
  · go_wp2_with fail
    refine (pack_all k p A n c l _ hl h1.out HZ.out).mono ?_
    rintro e w2 ⟨v2, rfl, o2, b2⟩
    have h2 := Lib.hid (h1.out.kept b2)
    have B2 : Hid (Below W.heap.size W w2) := B1.out.trans (b2.mono B1.out.size)
    clear h1 B1 b2
    by_cases hok : FOk k p l.length
    · rw [packB, if_pos hok] at o2
      rw [packE, if_pos hok]
      obtain ⟨A2, c2, rfl, e2, hc2, _, r2⟩ := Bys.of_own o2
      rw [frm_length, hl] at hc2 ⊢
      have R2 := Lib.hid r2
      have HOK := Lib.hid hok
      clear o2 e2 r2 hok
      go_wp2_with fail
      refine (unp_here _ HOK.out n hl hn R2.out hc2).mono ?_
      rintro e w3 ⟨A3, c3, rfl, r3, b3⟩
      have h3 := Lib.hid (h2.out.kept b3)
      have R3 := Lib.hid (R2.out.kept b3)
      have B3 : Hid (Below W.heap.size W w3) := B2.out.trans (b3.mono B2.out.size)
      clear h2 R2 B2 b3
      by_cases hq : q = p
      · subst hq
        go_wp2_with fail
        refine (unp_here _ HOK.out n hl hn R3.out hc2).mono ?_
        rintro e w4 ⟨A4, c4, rfl, r4, b4⟩
        have t3 := run_text (P := Try.prog) (r3.out.kept b4) 23 9 5 _ c3 hl Try.underlying23 Try.underlying5 Try.underlying9
        have t4 := run_text (P := Try.prog) (h3.out.kept b4) 23 9 5 _ c hl Try.underlying23 Try.underlying5 Try.underlying9
        have B4 : Hid (Below W.heap.size W w4) := B3.out.trans (b4.mono B3.out.size)
        clear h3 R3 B3 b4 r3 r4 hl
        go_wp2_with fail
        go_ret
        exact ⟨rfl, B4.out⟩
      · have hq' : (q == p) = false := by rw [beq_eq_false_iff_ne]; exact hq
        go_wp2_with fail
        refine (unp_else _ HOK.out hq n hl hn R3.out hc2).mono ?_
        rintro e w4 ⟨A4, c4, rfl, b4⟩
        have t3 := run_text (P := Try.prog) (r3.out.kept b4) 23 9 5 _ c3 hl Try.underlying23 Try.underlying5 Try.underlying9
        have t4 := run_text (P := Try.prog) (h3.out.kept b4) 23 9 5 _ c hl Try.underlying23 Try.underlying5 Try.underlying9
        have B4 : Hid (Below W.heap.size W w4) := B3.out.trans (b4.mono B3.out.size)
        clear h3 R3 B3 b4 r3 hl
        go_wp2_with fail
        go_ret
        exact ⟨rfl, B4.out⟩
    · rw [packB, if_neg hok] at o2
      rw [packE, if_neg hok]
      obtain ⟨A2, c2, rfl, e2, _, _, r2⟩ := Bys.of_own o2
      clear o2 e2 r2 hok h2
      go_wp2_with fail
      go_ret
      exact ⟨rfl, B2.out⟩
  · go_wp2_with fail
    go_ret
    exact ⟨rfl, B1.out⟩

set_option maxRecDepth 100000 in
theorem lifted (os : Os) (started : os.Started) (H : Type) (enc : TypeId × Value → H) :
    ReturnsInHanded {} Try.checked os 7 .any (Rows.frameBackSpec.pre6 enc Try.prog Try.f7 Rows.frameBackRow.domain false)
      (Rows.frameBackSpec.post enc Try.prog Try.f7 false true false false) := by
  refine lift_law (C := Try.checked) (tb := 4) ownKnobs started (by kernel_rfl) Try.func7
    (ChangeSpec.witness6 (enc := enc) (C := Try.checked) false ⟨#[], #[.int .i64 0, .int .i64 0, .slice none 0 0, .int .i64 0], []⟩ 8 (by kernel_rfl) (by kernel_rfl) (by kernel_rfl) (by kernel_rfl))
    laidOut ?_ rfl rfl Try.underlying4 ?_ ?_
  · intro t ht
    rw [Try.params7] at ht
    simp only [List.mem_cons, List.not_mem_nil, or_false] at ht
    rcases ht with rfl | rfl | rfl | rfl <;> exact ⟨by kernel_rfl, of_decide_eq_true (by kernel_rfl)⟩
  · intro vs ds W p hA
    rw [Try.params7] at hA
    obtain ⟨v0, vs0, d0, ds0, p0, q0, ha, rfl, rfl, h0, r0⟩ := trodAll_cons hA
    obtain ⟨v1, vs1, d1, ds1, p1, q1, rfl, rfl, rfl, h1, r1⟩ := trodAll_cons r0
    obtain ⟨v2, vs2, d2, ds2, p2, q2, rfl, rfl, rfl, h2, r2⟩ := trodAll_cons r1
    obtain ⟨v3, vs3, d3, ds3, p3, q3, rfl, rfl, rfl, h3, r3⟩ := trodAll_cons r2
    obtain ⟨rfl, rfl, rfl⟩ := trodAll_nil r3
    rfl
  · intro W base args ds p hval hA
    rw [Try.params7] at hA hval
    obtain ⟨v0, vs0, d0, ds0, p0, q0, ha, rfl, rfl, h0, r0⟩ := trodAll_cons hA
    obtain ⟨v1, vs1, d1, ds1, p1, q1, rfl, rfl, rfl, h1, r1⟩ := trodAll_cons r0
    obtain ⟨v2, vs2, d2, ds2, p2, q2, rfl, rfl, rfl, h2, r2⟩ := trodAll_cons r1
    obtain ⟨v3, vs3, d3, ds3, p3, q3, rfl, rfl, rfl, h3, r3⟩ := trodAll_cons r2
    obtain ⟨rfl, rfl, rfl⟩ := trodAll_nil r3
    obtain rfl : args = #[v0, v1, v2, v3] := by cases args; simp_all
    obtain ⟨i0, rfl, lo0, hi0⟩ := open_i64 (hval 0 _ v0 rfl rfl) h0
    obtain ⟨i1, rfl, lo1, hi1⟩ := open_i64 (hval 1 _ v1 rfl rfl) h1
    obtain ⟨A2, n2, c2, xs2, rfl, e2, hr2, y2, z2, o2⟩ := open_bytesz (hval 2 _ v2 rfl rfl) h2
    obtain ⟨i3, rfl, lo3, hi3⟩ := open_i64 (hval 3 _ v3 rfl rfl) h3
    exact walk i0 lo0 hi0 i1 lo1 hi1 A2 n2 c2 xs2 e2 hr2 y2 z2 o2 i3 lo3 hi3

/-- The statement. -/
theorem proved : Rows.FrameBackSaid :=
  OpenClaim.holds_of_wide 7 Try.f7 rfl rfl rfl rfl rfl rfl rfl ⟨rfl, rfl, rfl, rfl, rfl⟩ rfl rfl rfl rfl rfl (by kernel_rfl) Try.func7 (by kernel_rfl)
    (of_decide_eq_true (by kernel_rfl)) (by unfold Func.isWrapper; first | (rw [if_pos (by decide +kernel)]; kernel_rfl) | (rw [if_neg (by decide +kernel)]; exact ⟨rfl, rfl⟩))
    (fun os started H enc _ => lifted os started H enc)
#print axioms proved
end Go.Proofs.Ytpihblbpmmdmmaa.frameBack
