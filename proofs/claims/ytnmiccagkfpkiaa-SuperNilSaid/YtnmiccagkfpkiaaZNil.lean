/-
  SuperNil answers true: calls on no disk answer ErrArg. Conditions: none.
-/
import Derived.Test.YtnmiccagkfpkiaaRows
import Derived.Test.YtnmiccagkfpkiaaZC
namespace Go.Proofs.Ytnmiccagkfpkiaa.superNil
open Go.ChangeShapes Go.WideShapes Go.ChangeAt Go.RowKit Go.Maps

set_option maxRecDepth 20000 in
theorem write_nil (x y z p c : Value) (w : World) : Calls Try.prog 19 #[.pointer none, .agg #[x, y, z, p, c]] w fun e w' => e = .returned (.int .i64 1) ∧ Below w.heap.size w w' := by
  have B1 := Lib.hid (below_one w (.cells #[x, y, z, p, c] 25))
  go_enter Try.func19, Try.ntmps19
  go_upto_region 1 with fail
  generalize w.alloc (.cells #[x, y, z, p, c] 25) = w1 at *
  go_wp2_with fail
  go_ret
  exact ⟨rfl, B1.out⟩

set_option maxRecDepth 20000 in
theorem read_nil (w : World) : Calls Try.prog 37 #[.pointer none, .int .i64 0] w fun e w' => e = .returned (.tuple #[.slice none 0 0, .int .i64 1]) ∧ w' = w := by
  go_enter Try.func37, Try.ntmps37
  go_wp2_with fail
  go_ret2
  exact ⟨rfl, rfl⟩

set_option maxRecDepth 20000 in
set_option maxHeartbeats 1600000 in
theorem choose_nil (w : World) : Calls Try.prog 22 #[.pointer none] w fun e w' => e = .returned (.tuple #[.agg #[.int .i64 0, .int .i64 0, .int .i64 0, .slice none 0 0, .int .i64 0], .int .i64 1]) ∧ Below w.heap.size w w' := by
  have b0 := below_two w (.cells #[.int .i64 0, .int .i64 0, .int .i64 0, .slice none 0 0, .int .i64 0] 25) (.cells #[.int .i64 0, .int .i64 0, .int .i64 0, .slice none 0 0, .int .i64 0, .int .i64 0, .int .i64 0, .int .i64 0, .slice none 0 0, .int .i64 0] 58)
  have B0 := Lib.hid b0
  have HR := Lib.hid ((ubox_new w (.int .i64 0) (.int .i64 0) (.int .i64 0) (.slice none 0 0) (.int .i64 0)).kept (below_one _ (.cells #[.int .i64 0, .int .i64 0, .int .i64 0, .slice none 0 0, .int .i64 0, .int .i64 0, .int .i64 0, .int .i64 0, .slice none 0 0, .int .i64 0] 58)))
  clear b0
  go_enter Try.func22, Try.ntmps22
  go_upto_region 2 with fail
  generalize (w.alloc (.cells #[.int .i64 0, .int .i64 0, .int .i64 0, .slice none 0 0, .int .i64 0] 25)).alloc (.cells #[.int .i64 0, .int .i64 0, .int .i64 0, .slice none 0 0, .int .i64 0, .int .i64 0, .int .i64 0, .int .i64 0, .slice none 0 0, .int .i64 0] 58) = w0 at *
  go_wp2_with fail
  go_loopw [11] (fun i wr => i = .int .i64 0 ∧ wr = w0) (fun i _ => 2 - (RowKit.intOf i).toNat)
  case atStart => exact ⟨rfl, rfl⟩
  case round =>
    obtain ⟨rfl, rfl⟩ := hrel
    go_wp2_with fail
    refine (read_nil _).mono ?_
    rintro e w1 ⟨rfl, rfl⟩
    have HZ := Lib.hid (below_uput B0.out (Nat.le_refl w.heap.size) (.int .i64 0) (.int .i64 0) (.int .i64 0) (.slice none 0 0) (.int .i64 0))
    obtain ⟨q0, q1, q2, q3, q4⟩ := HR.out.cells
    obtain ⟨f0, f1, f2, f3, f4⟩ := HR.out.free
    obtain ⟨e0, e1, e2, e3, e4⟩ := (Lib.hid (HR.out.put (.int .i64 0) (.int .i64 0) (.int .i64 0) (.slice none 0 0) (.int .i64 0))).out.cells
    go_wp2_with fail
    refine bodyPost_ret (v := .tuple #[.agg #[.int .i64 0, .int .i64 0, .int .i64 0, .slice none 0 0, .int .i64 0], .int .i64 1]) (by simp [results, Try.results22, go_sem, e0, e1, e2, e3, e4]) rfl ?_
    exact ⟨rfl, HZ.out⟩

set_option maxRecDepth 20000 in
set_option maxHeartbeats 1600000 in
theorem walk {w : World} (s : SB) (A : Option Addr) (n c : Nat) (_ : Ln w 1 A n c (intVals s.pg)) (_ : In64 s.ep) :
    Calls Try.prog 8 #[.agg #[.int .i64 s.ep, .int .i64 s.ro, .int .i64 s.he, .slice A n c, .int .i64 s.ct]] w fun e w' => e = .returned (.bool true) ∧ Below w.heap.size w w' := by
  have HB := Lib.hid (ubox_new w (.int .i64 s.ep) (.int .i64 s.ro) (.int .i64 s.he) (.slice A n c) (.int .i64 s.ct))
  have B1 := Lib.hid (below_one w (.cells #[.int .i64 s.ep, .int .i64 s.ro, .int .i64 s.he, .slice A n c, .int .i64 s.ct] 25))
  go_enter Try.func8, Try.ntmps8
  go_upto_region 1 with fail
  generalize w.alloc (.cells #[.int .i64 s.ep, .int .i64 s.ro, .int .i64 s.he, .slice A n c, .int .i64 s.ct] 25) = w1 at *
  go_wp2_with fail
  refine (awake_any _).mono ?_
  rintro e w2 ⟨rfl, b2⟩
  have HB2 := Lib.hid (HB.out.kept b2)
  have B2 := Lib.hid (B1.out.trans (b2.mono B1.out.size))
  clear b2
  go_wp2_with fail
  refine (choose_nil _).mono ?_
  rintro e w3 ⟨rfl, b3⟩
  have bx := below_one w3 (.cells #[.int .i64 0, .int .i64 0, .int .i64 0, .slice none 0 0, .int .i64 0] 25)
  have HB3 := Lib.hid ((HB2.out.kept b3).kept bx)
  have B3 := Lib.hid ((B2.out.trans (b3.mono B2.out.size)).trans (bx.mono (Nat.le_trans B2.out.size b3.size)))
  have HX := Lib.hid (ubox_new w3 (.int .i64 0) (.int .i64 0) (.int .i64 0) (.slice none 0 0) (.int .i64 0))
  clear b3 bx
  go_upto_region 3 with fail
  generalize w3.alloc (.cells #[.int .i64 0, .int .i64 0, .int .i64 0, .slice none 0 0, .int .i64 0] 25) = w4 at *
  obtain ⟨c0, c1, c2, c3, c4⟩ := HB3.out.cells
  obtain ⟨x0, _, _, _, _⟩ := HX.out.cells
  go_wp2_with fail
  refine (write_nil _ _ _ _ _ _).mono ?_
  rintro e w5 ⟨rfl, b5⟩
  have B5 := Lib.hid (B3.out.trans (b5.mono B3.out.size))
  clear b5
  go_wp2_with fail
  go_ret
  exact ⟨rfl, B5.out⟩

set_option maxRecDepth 100000 in
theorem lifted (os : Os) (started : os.Started) (H : Type) (enc : TypeId × Value → H) :
    ReturnsInHanded {} Try.checked os 8 .any (Rows.superNilSpec.pre6 enc Try.prog Try.f8 Rows.superNilRow.domain false)
      (Rows.superNilSpec.post enc Try.prog Try.f8 false true false false) := by
  refine lift_law (C := Try.checked) (tb := 4) ownKnobs started (by kernel_rfl) Try.func8
    (ChangeSpec.witness6 (enc := enc) (C := Try.checked) false ⟨#[], #[.agg #[.int .i64 0, .int .i64 0, .int .i64 0, .slice none 0 0, .int .i64 0]], []⟩ 8 (by kernel_rfl) (by kernel_rfl) (by kernel_rfl) (by kernel_rfl))
    laidOut ?_ rfl rfl Try.underlying4 ?_ ?_
  · intro t ht
    rw [Try.params8] at ht
    simp only [List.mem_cons, List.not_mem_nil, or_false] at ht
    subst ht
    exact ⟨by kernel_rfl, of_decide_eq_true (by kernel_rfl)⟩
  · intro vs ds W p hA
    rw [Try.params8] at hA
    obtain ⟨v0, vs0, d0, ds0, p0, q0, ha, rfl, rfl, h0, r0⟩ := trodAll_cons hA
    obtain ⟨rfl, rfl, rfl⟩ := trodAll_nil r0
    rfl
  · intro W base args ds p hval hA
    rw [Try.params8] at hA hval
    obtain ⟨v0, vs0, d0, ds0, p0, q0, ha, rfl, rfl, h0, r0⟩ := trodAll_cons hA
    obtain ⟨rfl, rfl, rfl⟩ := trodAll_nil r0
    obtain rfl : args = #[v0] := by cases args; simp_all
    obtain ⟨s0, A0, n0, c0, rfl, hs0, hi0⟩ := open_super (hval 0 _ v0 rfl rfl) h0
    exact walk s0 A0 n0 c0 hs0 hi0

/-- The statement. -/
theorem proved : Rows.SuperNilSaid :=
  OpenClaim.holds_of_wide 8 Try.f8 rfl rfl rfl rfl rfl rfl rfl ⟨rfl, rfl, rfl, rfl, rfl⟩ rfl rfl rfl rfl rfl (by kernel_rfl) Try.func8 (by kernel_rfl)
    (of_decide_eq_true (by kernel_rfl)) (by unfold Func.isWrapper; first | (rw [if_pos (by decide +kernel)]; kernel_rfl) | (rw [if_neg (by decide +kernel)]; exact ⟨rfl, rfl⟩))
    (fun os started H enc _ => lifted os started H enc)
#print axioms proved
end Go.Proofs.Ytnmiccagkfpkiaa.superNil
