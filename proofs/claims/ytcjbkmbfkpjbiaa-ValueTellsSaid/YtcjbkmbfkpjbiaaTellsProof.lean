/-
  ValueTells answers true, for every two values: whether a value may be, and the order of two, are what the document says. Conditions: none.
-/
import Derived.Test.YtcjbkmbfkpjbiaaRows
import Derived.Test.YtcjbkmbfkpjbiaaAwake
import Derived.Test.YtcjbkmbfkpjbiaaOpen
import Derived.Deep.RegionHeld3
namespace Go.Proofs.Ytcjbkmbfkpjbiaa.valueTells
open Go.ChangeShapes Go.WideShapes Go.ChangeAt Go.RowKit

/-- Two values, each in a block of its own from B on. -/
def Laid (w : World) (B : Nat) (a b : Val) : Prop :=
  w.cell? ⟨B, 0, none⟩ = some (.int .i64 a.k) ∧ w.cell? ⟨B, 1, none⟩ = some (.int .i64 a.n) ∧ w.cell? ⟨B, 2, none⟩ = some (.string a.s) ∧
  w.cell? ⟨B + 1, 0, none⟩ = some (.int .i64 b.k) ∧ w.cell? ⟨B + 1, 1, none⟩ = some (.int .i64 b.n) ∧ w.cell? ⟨B + 1, 2, none⟩ = some (.string b.s)

theorem Laid.below {w w' : World} {B : Nat} {a b : Val} (h : Laid w B a b) (hb : Below w.heap.size w w') : Laid w' B a b := by
  obtain ⟨h0, h1, h2, h3, h4, h5⟩ := h
  have l0 : B < w.heap.size := World.block_lt_of_cell? _ _ h0
  have l1 : B + 1 < w.heap.size := World.block_lt_of_cell? _ _ h3
  exact ⟨(hb.cell (p := ⟨B, _, none⟩) l0).trans h0, (hb.cell (p := ⟨B, _, none⟩) l0).trans h1, (hb.cell (p := ⟨B, _, none⟩) l0).trans h2,
    (hb.cell (p := ⟨B + 1, _, none⟩) l1).trans h3, (hb.cell (p := ⟨B + 1, _, none⟩) l1).trans h4, (hb.cell (p := ⟨B + 1, _, none⟩) l1).trans h5⟩

set_option maxHeartbeats 1600000 in
theorem walk (a b : Val) (w : World) : Calls Try.prog 4
    #[.agg #[.int .i64 a.k, .int .i64 a.n, .string a.s], .agg #[.int .i64 b.k, .int .i64 b.n, .string b.s]] w
    fun e w' => e = .returned (.bool true) ∧ Below w.heap.size w w' := by
  go_enter Try.func4, Try.ntmps4
  go_wp2_with fail
  have L0 : Laid ((w.alloc (.cells #[.int .i64 a.k, .int .i64 a.n, .string a.s] 24)).alloc (.cells #[.int .i64 b.k, .int .i64 b.n, .string b.s] 24)) w.heap.size a b := by
    unfold Laid
    go_simp
  refine (awake_any _).mono ?_
  rintro e w1 ⟨rfl, hb1⟩
  have K0 := L0.below hb1
  have B1 : Hid (Below w.heap.size w w1) := (below_two _ _ _).trans (hb1.mono (by simp; omega))
  clear L0 hb1
  have T := K0
  obtain ⟨h0, h1, h2, h3, h4, h5⟩ := T
  go_wp2_with fail
  go_region_held3 (fun w' => w'.cell? ⟨w.heap.size, 0, none⟩ = some (.int .i64 a.k) ∧ w'.cell? ⟨w.heap.size, 1, none⟩ = some (.int .i64 a.n) ∧ w'.cell? ⟨w.heap.size, 2, none⟩ = some (.string a.s) ∧
      w'.cell? ⟨w.heap.size + 1, 0, none⟩ = some (.int .i64 b.k) ∧ w'.cell? ⟨w.heap.size + 1, 1, none⟩ = some (.int .i64 b.n) ∧ w'.cell? ⟨w.heap.size + 1, 2, none⟩ = some (.string b.s))
    (first | exact K4 | exact K3 | exact K2 | exact K1 | exact K0)
    (first
      | (go_at_call 10; refine (check_any _ _ _ _).mono ?_; rintro e w2 ⟨rfl, hb2⟩; have K1 := Laid.below (w := w1.drew) K0 hb2)
      | (go_at_call 11; refine (refCheck_any _ _ _ _).mono ?_; rintro e w3 ⟨rfl, hb3⟩; have K2 := Laid.below K1 hb3)
      | (go_at_call 12; refine (cmp_any _ _ _ _ _ _ _).mono ?_; rintro e w4 ⟨rfl, hb4⟩; have K3 := Laid.below K2 hb4)
      | (go_at_call 13; refine (refCmp_any _ _ _ _ _ _ _).mono ?_; rintro e w5 ⟨rfl, hb5⟩; have K4 := Laid.below K3 hb5))
  have B2 : Below w.heap.size w w2 := B1.out.drew.trans (hb2.mono B1.out.size)
  have B3 : Below w.heap.size w w3 := B2.trans (hb3.mono B2.size)
  have B4 : Below w.heap.size w w4 := B3.trans (hb4.mono B3.size)
  have B5 : Hid (Below w.heap.size w w5) := B4.trans (hb5.mono B4.size)
  clear B1 B2 B3 B4 hb2 hb3 hb4 hb5 K0 K1 K2 K3 K4
  go_wp2_with fail
  go_ret
  exact ⟨rfl, B5.out⟩

set_option maxRecDepth 100000 in
theorem lifted (os : Os) (started : os.Started) (H : Type) (enc : TypeId × Value → H) :
    ReturnsInHanded {} Try.checked os 4 .any (Rows.valueTellsSpec.pre6 enc Try.prog Try.f4 Rows.valueTellsRow.domain false)
      (Rows.valueTellsSpec.post enc Try.prog Try.f4 false true false false) := by
  refine lift_law (C := Try.checked) (tb := 4) ownKnobs started (by kernel_rfl) Try.func4
    (ChangeSpec.witness6 (enc := enc) (C := Try.checked) false ⟨#[], #[.agg #[.int .i64 0, .int .i64 0, .string ⟨#[]⟩], .agg #[.int .i64 0, .int .i64 0, .string ⟨#[]⟩]], []⟩ 8 (by kernel_rfl) (by kernel_rfl) (by kernel_rfl) (by kernel_rfl))
    laidOut ?_ rfl rfl Try.underlying4 ?_ ?_
  · intro t ht
    rw [Try.params4] at ht
    simp only [List.mem_cons, List.not_mem_nil, or_false] at ht
    rcases ht with rfl | rfl <;> exact ⟨by kernel_rfl, of_decide_eq_true (by kernel_rfl)⟩
  · intro vs ds W p hA
    rw [Try.params4] at hA
    obtain ⟨v0, vs0, d0, ds0, p0, q0, ha, rfl, rfl, h0, r0⟩ := trodAll_cons hA
    obtain ⟨v1, vs1, d1, ds1, p1, q1, rfl, rfl, rfl, h1, r1⟩ := trodAll_cons r0
    obtain ⟨rfl, rfl, rfl⟩ := trodAll_nil r1
    rfl
  · intro W base args ds p hval hA
    rw [Try.params4] at hA hval
    obtain ⟨v0, vs0, d0, ds0, p0, q0, ha, rfl, rfl, h0, r0⟩ := trodAll_cons hA
    obtain ⟨v1, vs1, d1, ds1, p1, q1, rfl, rfl, rfl, h1, r1⟩ := trodAll_cons r0
    obtain ⟨rfl, rfl, rfl⟩ := trodAll_nil r1
    obtain rfl : args = #[v0, v1] := by cases args; simp_all
    obtain ⟨a0, rfl⟩ := open_val (hval 0 _ v0 rfl rfl) h0
    obtain ⟨a1, rfl⟩ := open_val (hval 1 _ v1 rfl rfl) h1
    exact walk a0 a1 W

/-- The statement. -/
theorem proved : Rows.ValueTellsSaid :=
  OpenClaim.holds_of_wide 4 Try.f4 rfl rfl rfl rfl rfl rfl rfl ⟨rfl, rfl, rfl, rfl, rfl⟩ rfl rfl rfl rfl rfl (by kernel_rfl) Try.func4 (by kernel_rfl)
    (of_decide_eq_true (by kernel_rfl)) (by unfold Func.isWrapper; first | (rw [if_pos (by decide +kernel)]; kernel_rfl) | (rw [if_neg (by decide +kernel)]; exact ⟨rfl, rfl⟩))
    (fun os started H enc _ => lifted os started H enc)
#print axioms proved
end Go.Proofs.Ytcjbkmbfkpjbiaa.valueTells
