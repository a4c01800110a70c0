/-
  ValueLine answers true, for every three values: values stand in one line, and two neither of which is first are the same. Conditions: none.
-/
import Derived.Test.YtcjbkmbfkpjbiaaRows
import Derived.Test.YtcjbkmbfkpjbiaaAwake
import Derived.Test.YtcjbkmbfkpjbiaaOpen
namespace Go.Proofs.Ytcjbkmbfkpjbiaa.valueLine
open Go.ChangeShapes Go.WideShapes Go.ChangeAt Go.RowKit

/-- Three values, each in a block of its own from B on. -/
def Laid (w : World) (B : Nat) (a b c : Val) : Prop :=
  (w.cell? ⟨B, 0, none⟩ = some (.int .i64 a.k) ∧ w.cell? ⟨B, 1, none⟩ = some (.int .i64 a.n) ∧ w.cell? ⟨B, 2, none⟩ = some (.string a.s)) ∧
  (w.cell? ⟨B + 1, 0, none⟩ = some (.int .i64 b.k) ∧ w.cell? ⟨B + 1, 1, none⟩ = some (.int .i64 b.n) ∧ w.cell? ⟨B + 1, 2, none⟩ = some (.string b.s)) ∧
  (w.cell? ⟨B + 1 + 1, 0, none⟩ = some (.int .i64 c.k) ∧ w.cell? ⟨B + 1 + 1, 1, none⟩ = some (.int .i64 c.n) ∧ w.cell? ⟨B + 1 + 1, 2, none⟩ = some (.string c.s))

theorem Laid.below {w w' : World} {B : Nat} {a b c : Val} (h : Laid w B a b c) (hb : Below w.heap.size w w') : Laid w' B a b c := by
  obtain ⟨⟨h0, h1, h2⟩, ⟨h3, h4, h5⟩, ⟨h6, h7, h8⟩⟩ := h
  have l0 : B < w.heap.size := World.block_lt_of_cell? _ _ h0
  have l1 : B + 1 < w.heap.size := World.block_lt_of_cell? _ _ h3
  have l2 : B + 1 + 1 < w.heap.size := World.block_lt_of_cell? _ _ h6
  exact ⟨⟨(hb.cell (p := ⟨B, _, none⟩) l0).trans h0, (hb.cell (p := ⟨B, _, none⟩) l0).trans h1, (hb.cell (p := ⟨B, _, none⟩) l0).trans h2⟩,
    ⟨(hb.cell (p := ⟨B + 1, _, none⟩) l1).trans h3, (hb.cell (p := ⟨B + 1, _, none⟩) l1).trans h4, (hb.cell (p := ⟨B + 1, _, none⟩) l1).trans h5⟩,
    ⟨(hb.cell (p := ⟨B + 1 + 1, _, none⟩) l2).trans h6, (hb.cell (p := ⟨B + 1 + 1, _, none⟩) l2).trans h7, (hb.cell (p := ⟨B + 1 + 1, _, none⟩) l2).trans h8⟩⟩

theorem below_three (w : World) (o o' o'' : Obj) : Below w.heap.size w (((w.alloc o).alloc o').alloc o'') :=
  (((Below.refl _ _).alloc (Nat.le_refl _) _).alloc (by simp) _).alloc (by simp; omega) _

set_option maxHeartbeats 800000 in
theorem walk (a b c : Val) (w : World) : Calls Try.prog 6
    #[.agg #[.int .i64 a.k, .int .i64 a.n, .string a.s], .agg #[.int .i64 b.k, .int .i64 b.n, .string b.s], .agg #[.int .i64 c.k, .int .i64 c.n, .string c.s]] w
    fun e w' => e = .returned (.bool true) ∧ Below w.heap.size w w' := by
  go_enter Try.func6, Try.ntmps6
  go_wp2_with fail
  have L0 : Laid (((w.alloc (.cells #[.int .i64 a.k, .int .i64 a.n, .string a.s] 24)).alloc (.cells #[.int .i64 b.k, .int .i64 b.n, .string b.s] 24)).alloc (.cells #[.int .i64 c.k, .int .i64 c.n, .string c.s] 24)) w.heap.size a b c := by
    unfold Laid
    go_simp
  refine (awake_any _).mono ?_
  rintro e w1 ⟨rfl, hb1⟩
  have L1 := L0.below hb1
  have B1 : Hid (Below w.heap.size w w1) := (below_three _ _ _ _).trans (hb1.mono (by simp; omega))
  clear L0 hb1
  have T := L1
  obtain ⟨⟨h0, h1, h2⟩, ⟨h3, h4, h5⟩, ⟨h6, h7, h8⟩⟩ := T
  go_wp2_with fail
  refine (cmp_any _ _ _ _ _ _ _).mono ?_
  rintro e w2 ⟨rfl, hb2⟩
  have L2 := L1.below hb2
  have B2 : Hid (Below w.heap.size w w2) := B1.out.trans (hb2.mono B1.out.size)
  clear L1 hb2 B1 h0 h1 h2 h3 h4 h5 h6 h7 h8
  have T := L2
  obtain ⟨⟨h0, h1, h2⟩, ⟨h3, h4, h5⟩, ⟨h6, h7, h8⟩⟩ := T
  go_wp2_with fail
  refine (cmp_any _ _ _ _ _ _ _).mono ?_
  rintro e w3 ⟨rfl, hb3⟩
  have L3 := L2.below hb3
  have B3 : Hid (Below w.heap.size w w3) := B2.out.trans (hb3.mono B2.out.size)
  clear L2 hb3 B2 h0 h1 h2 h3 h4 h5 h6 h7 h8
  have T := L3
  obtain ⟨⟨h0, h1, h2⟩, ⟨h3, h4, h5⟩, ⟨h6, h7, h8⟩⟩ := T
  go_wp2_with fail
  refine (cmp_any _ _ _ _ _ _ _).mono ?_
  rintro e w4 ⟨rfl, hb4⟩
  have L4 := L3.below hb4
  have B4 : Hid (Below w.heap.size w w4) := B3.out.trans (hb4.mono B3.out.size)
  clear L3 hb4 B3 h0 h1 h2 h3 h4 h5 h6 h7 h8
  have T := L4
  obtain ⟨⟨h0, h1, h2⟩, ⟨h3, h4, h5⟩, ⟨h6, h7, h8⟩⟩ := T
  have ht := cmpV_line.turn a b
  unfold cmpV at ht
  have hle := cmpV_line.le_trans a b c
  have hlt := cmpV_line.lt_trans a b c
  unfold cmpV at hle hlt
  generalize vcmp b.k b.n b.s.toList c.k c.n c.s.toList = y at *
  generalize vcmp a.k a.n a.s.toList c.k c.n c.s.toList = z at *
  have HT := Lib.hid ht
  have HLE := Lib.hid hle
  have HLT := Lib.hid hlt
  clear ht hle hlt
  rcases vcmp_ways a.k a.n b.k b.n a.s.toList b.s.toList with ⟨hv, g⟩ | ⟨hv, g⟩ | ⟨hv, g1, g⟩ | ⟨hv, g1, g⟩ | ⟨hv, g1, g2, g⟩ | ⟨hv, g1, g2, g⟩ | ⟨hv, g1, g2, g3, g4⟩
  case' inl =>
    have q : (a.k == b.k) = false := beq_eq_false_iff_ne.2 (by omega)
    clear g
    rcases Int.lt_or_le 0 y with hy | hy
    case' inr => have hz : z < 0 := HLT.out (by omega) hy
  case' inr.inl =>
    have q : (a.k == b.k) = false := beq_eq_false_iff_ne.2 (by omega)
    clear g
  case' inr.inr.inl =>
    have q : (a.n == b.n) = false := beq_eq_false_iff_ne.2 (by omega)
    clear g g1
    rcases Int.lt_or_le 0 y with hy | hy
    case' inr => have hz : z < 0 := HLT.out (by omega) hy
  case' inr.inr.inr.inl =>
    have q : (a.n == b.n) = false := beq_eq_false_iff_ne.2 (by omega)
    clear g g1
  case' inr.inr.inr.inr.inl =>
    have q : (a.s.toList == b.s.toList) = false := beq_eq_false_iff_ne.2 (fun e => by rw [e, less_irrefl] at g; cases g)
    clear g g1 g2
    rcases Int.lt_or_le 0 y with hy | hy
    case' inr => have hz : z < 0 := HLT.out (by omega) hy
  case' inr.inr.inr.inr.inr.inl =>
    obtain rfl : a = b := Val.ext' g1 g2 (bytes_ext g)
    clear g g1 g2
    rcases Int.lt_or_le 0 y with hy | hy
    case' inr => have hz : z ≤ 0 := HLE.out (by omega) hy
  case' inr.inr.inr.inr.inr.inr =>
    have q : (a.s.toList == b.s.toList) = false := beq_eq_false_iff_ne.2 g4
    clear g1 g2 g3 g4
  all_goals
    have HV := Lib.hid hv
    rw [hv]
    clear hv
    go_wp2_with fail
    refine (cmp_any _ _ _ _ _ _ _).mono ?_
    rintro e w5 ⟨rfl, hb5⟩
    rw [HT.out, HV.out]
    have L5 := L4.below hb5
    have B5 : Hid (Below w.heap.size w w5) := B4.out.trans (hb5.mono B4.out.size)
    clear L4 hb5 B4 h0 h1 h2 h3 h4 h5 h6 h7 h8
    obtain ⟨⟨h0, h1, h2⟩, ⟨h3, h4, h5⟩, ⟨h6, h7, h8⟩⟩ := L5
    go_wp2_with fail
    go_ret
    exact ⟨rfl, B5.out⟩

set_option maxRecDepth 100000 in
theorem lifted (os : Os) (started : os.Started) (H : Type) (enc : TypeId × Value → H) :
    ReturnsInHanded {} Try.checked os 6 .any (Rows.valueLineSpec.pre6 enc Try.prog Try.f6 Rows.valueLineRow.domain false)
      (Rows.valueLineSpec.post enc Try.prog Try.f6 false true false false) := by
  refine lift_law (C := Try.checked) (tb := 4) ownKnobs started (by kernel_rfl) Try.func6
    (ChangeSpec.witness6 (enc := enc) (C := Try.checked) false ⟨#[], #[.agg #[.int .i64 0, .int .i64 0, .string ⟨#[]⟩], .agg #[.int .i64 0, .int .i64 0, .string ⟨#[]⟩], .agg #[.int .i64 0, .int .i64 0, .string ⟨#[]⟩]], []⟩ 8 (by kernel_rfl) (by kernel_rfl) (by kernel_rfl) (by kernel_rfl))
    laidOut ?_ rfl rfl Try.underlying4 ?_ ?_
  · intro t ht
    rw [Try.params6] at ht
    simp only [List.mem_cons, List.not_mem_nil, or_false] at ht
    rcases ht with rfl | rfl | rfl <;> exact ⟨by kernel_rfl, of_decide_eq_true (by kernel_rfl)⟩
  · intro vs ds W p hA
    rw [Try.params6] at hA
    obtain ⟨v0, vs0, d0, ds0, p0, q0, ha, rfl, rfl, h0, r0⟩ := trodAll_cons hA
    obtain ⟨v1, vs1, d1, ds1, p1, q1, rfl, rfl, rfl, h1, r1⟩ := trodAll_cons r0
    obtain ⟨v2, vs2, d2, ds2, p2, q2, rfl, rfl, rfl, h2, r2⟩ := trodAll_cons r1
    obtain ⟨rfl, rfl, rfl⟩ := trodAll_nil r2
    rfl
  · intro W base args ds p hval hA
    rw [Try.params6] at hA hval
    obtain ⟨v0, vs0, d0, ds0, p0, q0, ha, rfl, rfl, h0, r0⟩ := trodAll_cons hA
    obtain ⟨v1, vs1, d1, ds1, p1, q1, rfl, rfl, rfl, h1, r1⟩ := trodAll_cons r0
    obtain ⟨v2, vs2, d2, ds2, p2, q2, rfl, rfl, rfl, h2, r2⟩ := trodAll_cons r1
    obtain ⟨rfl, rfl, rfl⟩ := trodAll_nil r2
    obtain rfl : args = #[v0, v1, v2] := by cases args; simp_all
    obtain ⟨a0, rfl⟩ := open_val (hval 0 _ v0 rfl rfl) h0
    obtain ⟨a1, rfl⟩ := open_val (hval 1 _ v1 rfl rfl) h1
    obtain ⟨a2, rfl⟩ := open_val (hval 2 _ v2 rfl rfl) h2
    exact walk a0 a1 a2 W

/-- The statement. -/
theorem proved : Rows.ValueLineSaid :=
  OpenClaim.holds_of_wide 6 Try.f6 rfl rfl rfl rfl rfl rfl rfl ⟨rfl, rfl, rfl, rfl, rfl⟩ rfl rfl rfl rfl rfl (by kernel_rfl) Try.func6 (by kernel_rfl)
    (of_decide_eq_true (by kernel_rfl)) (by unfold Func.isWrapper; first | (rw [if_pos (by decide +kernel)]; kernel_rfl) | (rw [if_neg (by decide +kernel)]; exact ⟨rfl, rfl⟩))
    (fun os started H enc _ => lifted os started H enc)
#print axioms proved
end Go.Proofs.Ytcjbkmbfkpjbiaa.valueLine
