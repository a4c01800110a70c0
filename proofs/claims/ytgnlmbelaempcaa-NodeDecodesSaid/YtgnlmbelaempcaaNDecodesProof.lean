/-
  NodeDecodes answers true, whatever kind and whatever bytes: the node of any bytes is what the document says, or its error. Conditions: none.
-/
import Derived.Test.YtgnlmbelaempcaaRows
import Derived.Test.YtgnlmbelaempcaaNAwake
import Derived.Test.YtgnlmbelaempcaaNRDec
import Derived.Test.YtgnlmbelaempcaaNLaw
import Derived.Test.YtgnlmbelaempcaaOpenB
namespace Go.Proofs.Ytgnlmbelaempcaa.nodeDecodes
open Go.ChangeShapes Go.WideShapes Go.ChangeAt Go.RowKit

set_option maxRecDepth 20000 in
set_option maxHeartbeats 3200000 in
theorem walk {W : World} (kd : Int) (_ : -9223372036854775808 ≤ kd) (_ : kd ≤ 9223372036854775807) (T : Option Addr) (k e0 : Nat) (l : List UInt8) (hl : l.length = k) (hb : Bys W W.heap.size T l) (hk : k ≤ e0) (hm : e0 ≤ maxLen) :
    Calls Try.prog 5 #[.int .i64 kd, .slice T k e0] W fun e w' => e = .returned (.bool true) ∧ Below W.heap.size W w' := by
  have HL := Lib.hid hl
  have HM := Lib.hid hm
  have HY := Lib.hid hb
  clear hl hb hm
  go_enter Try.func5, Try.ntmps5
  go_wp2_with fail
  refine (awake_any _).mono ?_
  rintro e w1 ⟨rfl, b1⟩
  have B1 := Lib.hid b1
  have HY1 := Lib.hid ((HY.out.kept b1).more b1.size)
  clear b1 HY
  by_cases hk2 : k ≤ 2000
  case neg =>
    have hk3 : 2000 < k := by omega
    clear hk2
    go_wp2_with fail
    go_ret
    exact ⟨rfl, B1.out⟩
  go_wp2_with fail
  refine (ndecode_any kd T k e0 l w1 HL.out HY1.out hk HM.out).mono ?_
  rintro e w2 ⟨v2, rfl, s2, b2⟩
  obtain ⟨D, hD⟩ : ∃ D, ND.decS kd l = D := ⟨_, rfl⟩
  obtain ⟨G, hG⟩ : ∃ G, ND.decE kd l = G := ⟨_, rfl⟩
  have HDK := Lib.hid (dec_few (k := kd) (b := l))
  rw [hD] at s2 HDK
  rw [hG]
  have HD := Lib.hid hD
  have HG := Lib.hid hG
  clear hD hG
  obtain ⟨Ak, nk, ck, Av, nv, cw, Ac, nc, cc, rfl, n2, _, _, _⟩ := s2
  have hj1 : nk ≤ 1000 := by rw [← n2.kn]; exact HDK.out.1
  have hj2 : nv ≤ 1000 := by rw [← n2.vn]; exact HDK.out.2.1
  have hj3 : nc ≤ 1001 := by rw [← n2.cn]; exact HDK.out.2.2
  obtain ⟨z1, z2, z3⟩ := nboxed b2 n2 (.bool D.leaf)
  have HX := Lib.hid z2
  have HN := Lib.hid z3
  have B2 := Lib.hid (B1.out.trans (z1.mono B1.out.size))
  have HY2 := Lib.hid ((HY1.out.kept z1).more z1.size)
  clear z1 z2 z3 b2 n2 B1 HY1
  go_upto_region 5 with fail
  generalize hw3 : w2.alloc (.cells #[.bool D.leaf, .slice Ak nk ck, .slice Av nv cw, .slice Ac nc cc] 26) = w3 at *
  clear hw3
  generalize w2.heap.size = g2 at *
  go_wp2_with fail
  refine (rdecode_any kd T k e0 l w3 HL.out HY2.out hk HM.out).mono ?_
  rintro e w4 ⟨v4, rfl, s4, b4⟩
  rw [HD.out] at s4
  rw [HG.out]
  obtain ⟨Ak4, nk4, ck4, Av4, nv4, cw4, Ac4, nc4, cc4, rfl, n4, _, _, _⟩ := s4
  obtain ⟨z1, z2, z3⟩ := nboxed b4 n4 (.bool D.leaf)
  have HX4 := Lib.hid z2
  have HN4 := Lib.hid z3
  have B4 := Lib.hid (B2.out.trans (z1.mono B2.out.size))
  have HX3 := Lib.hid (HX.out.kept z1)
  have HN3 := Lib.hid (HN.out.kept z1)
  clear z1 z2 z3 b4 n4 B2 HX HN HY2
  go_upto_region 6 with fail
  generalize hw5 : w4.alloc (.cells #[.bool D.leaf, .slice Ak4 nk4 ck4, .slice Av4 nv4 cw4, .slice Ac4 nc4 cc4] 26) = w5 at *
  clear hw5
  generalize w4.heap.size = g4 at *
  obtain ⟨x0, x1, x2, x3⟩ := HX3.out.cells
  obtain ⟨y0, y1, y2, y3⟩ := HX4.out.cells
  go_wp2_with fail
  refine (nsame_any D.leaf Ak nk ck Av nv cw Ac nc cc D D.leaf Ak4 nk4 ck4 Av4 nv4 cw4 Ac4 nc4 cc4 D w5 HN3.out HN4.out rfl rfl (by omega) (by omega) (by omega)).mono ?_
  rintro e w6 ⟨r, rfl, hr, b6⟩
  have hr := hr rfl
  subst hr
  have B6 := Lib.hid (B4.out.trans (b6.mono B4.out.size))
  clear b6 x0 x1 x2 x3 y0 y1 y2 y3 B4 HX3 HX4 HN3 HN4
  have hq : (G == G) = true := beq_self_eq_true _
  go_wp2_with fail
  go_ret
  exact ⟨rfl, B6.out⟩

set_option maxRecDepth 100000 in
theorem lifted (os : Os) (started : os.Started) (H : Type) (enc : TypeId × Value → H) :
    ReturnsInHanded {} Try.checked os 5 .any (Rows.nodeDecodesSpec.pre6 enc Try.prog Try.f5 Rows.nodeDecodesRow.domain false)
      (Rows.nodeDecodesSpec.post enc Try.prog Try.f5 false true false false) := by
  refine lift_law (C := Try.checked) (tb := 4) ownKnobs started (by kernel_rfl) Try.func5
    (ChangeSpec.witness6 (enc := enc) (C := Try.checked) false ⟨#[], #[.int .i64 0, .slice none 0 0], []⟩ 8 (by kernel_rfl) (by kernel_rfl) (by kernel_rfl) (by kernel_rfl))
    laidOut ?_ rfl rfl Try.underlying4 ?_ ?_
  · intro t ht
    rw [Try.params5] at ht
    simp only [List.mem_cons, List.not_mem_nil, or_false] at ht
    rcases ht with rfl | rfl <;> exact ⟨by kernel_rfl, of_decide_eq_true (by kernel_rfl)⟩
  · intro vs ds W p hA
    rw [Try.params5] at hA
    obtain ⟨v0, vs0, d0, ds0, p0, q0, ha, rfl, rfl, h0, r0⟩ := trodAll_cons hA
    obtain ⟨v1, vs1, d1, ds1, p1, q1, rfl, rfl, rfl, h1, r1⟩ := trodAll_cons r0
    obtain ⟨rfl, rfl, rfl⟩ := trodAll_nil r1
    rfl
  · intro W base args ds p hval hA
    rw [Try.params5] at hA hval
    obtain ⟨v0, vs0, d0, ds0, p0, q0, ha, rfl, rfl, h0, r0⟩ := trodAll_cons hA
    obtain ⟨v1, vs1, d1, ds1, p1, q1, rfl, rfl, rfl, h1, r1⟩ := trodAll_cons r0
    obtain ⟨rfl, rfl, rfl⟩ := trodAll_nil r1
    obtain rfl : args = #[v0, v1] := by cases args; simp_all
    obtain ⟨i0, rfl, lo0, hi0⟩ := open_i64 (hval 0 _ v0 rfl rfl) h0
    obtain ⟨A1, n1, c1, xs1, rfl, e1, hr1, y1, z1⟩ := open_bytes (hval 1 _ v1 rfl rfl) h1
    exact walk i0 lo0 hi0 A1 n1 c1 xs1 e1 hr1 y1 z1

/-- The statement. -/
theorem proved : Rows.NodeDecodesSaid :=
  OpenClaim.holds_of_wide 5 Try.f5 rfl rfl rfl rfl rfl rfl rfl ⟨rfl, rfl, rfl, rfl, rfl⟩ rfl rfl rfl rfl rfl (by kernel_rfl) Try.func5 (by kernel_rfl)
    (of_decide_eq_true (by kernel_rfl)) (by unfold Func.isWrapper; first | (rw [if_pos (by decide +kernel)]; kernel_rfl) | (rw [if_neg (by decide +kernel)]; exact ⟨rfl, rfl⟩))
    (fun os started H enc _ => lifted os started H enc)
#print axioms proved
end Go.Proofs.Ytgnlmbelaempcaa.nodeDecodes
