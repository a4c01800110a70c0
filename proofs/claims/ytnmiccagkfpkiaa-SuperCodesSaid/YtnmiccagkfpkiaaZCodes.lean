/-
  SuperCodes answers true, whatever superblock and whatever bytes: whether it may be, its bytes, and that of the bytes, are what the document says. Conditions: none.
-/
import Derived.Test.YtnmiccagkfpkiaaRows
import Derived.Test.YtnmiccagkfpkiaaZC
import Derived.Deep.RegionHeld3
namespace Go.Proofs.Ytnmiccagkfpkiaa.superCodes
open Go.ChangeShapes Go.WideShapes Go.ChangeAt Go.RowKit Go.Maps

/-- What stays: the argument's block, b's bytes. -/
structure Mid (W : World) (w : World) (s : SB) (A : Option Addr) (n c : Nat) (T : Option Addr) (l : List UInt8) : Prop where
  box : UBox w W.heap.size (.int .i64 s.ep) (.int .i64 s.ro) (.int .i64 s.he) (.slice A n c) (.int .i64 s.ct)
  ln : Ln w 1 A n c (intVals s.pg)
  bys : Bys w w.heap.size T l
  below : Below W.heap.size W w
theorem Mid.next {W w w' : World} {s : SB} {A T : Option Addr} {n c : Nat} {l : List UInt8} (h : Mid W w s A n c T l) (b : Below w.heap.size w w') : Mid W w' s A n c T l :=
  ⟨h.box.kept b, h.ln.kept b, (h.bys.kept b).more b.size, chainU b h.below⟩

set_option maxRecDepth 20000 in
set_option maxHeartbeats 12800000 in
theorem walk {W : World} (s : SB) (A : Option Addr) (n c : Nat) (hs : Ln W 1 A n c (intVals s.pg)) (_ : In64 s.ep) (T : Option Addr) (k e0 : Nat) (l : List UInt8) (hl : l.length = k) (hb : Bys W W.heap.size T l) (hk : k ≤ e0) (_ : e0 ≤ maxLen) :
    Calls Try.prog 4 #[.agg #[.int .i64 s.ep, .int .i64 s.ro, .int .i64 s.he, .slice A n c, .int .i64 s.ct], .slice T k e0] W fun e w' => e = .returned (.bool true) ∧ Below W.heap.size W w' := by
  have b0 := below_one W (.cells #[.int .i64 s.ep, .int .i64 s.ro, .int .i64 s.he, .slice A n c, .int .i64 s.ct] 25)
  have M0 : Hid (Mid W (W.alloc (.cells #[.int .i64 s.ep, .int .i64 s.ro, .int .i64 s.he, .slice A n c, .int .i64 s.ct] 25)) s A n c T l) := Lib.hid ⟨ubox_new W _ _ _ _ _, hs.kept b0, (hb.kept b0).more b0.size, b0⟩
  have HL := Lib.hid hl
  clear hs hb hl b0
  go_enter Try.func4, Try.ntmps4
  go_upto_region 1 with fail
  generalize W.alloc (.cells #[.int .i64 s.ep, .int .i64 s.ro, .int .i64 s.he, .slice A n c, .int .i64 s.ct] 25) = w0 at *
  go_wp2_with fail
  refine (awake_any _).mono ?_
  rintro e w1 ⟨rfl, b1⟩
  have M1 := Lib.hid (M0.out.next b1)
  obtain ⟨c0, c1, c2, c3, c4⟩ := M1.out.box.cells
  clear b1 M0
  go_wp2_with fail
  refine (ufew_any _ _ _ _ A n c w1).mono ?_
  rintro e w2 ⟨rfl, b2⟩
  have M2 := Lib.hid (M1.out.next b2)
  clear b2 M1 c0 c1 c2 c3 c4
  obtain ⟨c0, c1, c2, c3, c4⟩ := M2.out.box.cells
  by_cases hn : n ≤ 200
  case neg =>
    rw [decide_eq_false hn]
    clear hn
    go_wp2_with fail
    go_ret
    exact ⟨rfl, M2.out.below⟩
  rw [decide_eq_true hn]
  by_cases hk2 : k ≤ 2000
  case neg =>
    go_wp2_with fail
    go_ret
    exact ⟨rfl, M2.out.below⟩
  go_wp2_with fail
  refine (uencode_any s.ep s.ro s.he s.ct A n c s.pg w2 M2.out.ln (by omega)).mono ?_
  rintro e w3 ⟨v3, rfl, o3, b3⟩
  obtain ⟨q, hq⟩ : ∃ q, q = s := ⟨_, rfl⟩
  rw [show (SB.mk s.ep s.ro s.he s.ct s.pg) = q from hq.symm] at o3 ⊢
  have HQ := Lib.hid hq
  have M3 := Lib.hid (M2.out.next b3)
  obtain ⟨A3, c3', rfl, _, _, _, y3⟩ := Bys.of_own o3
  have Y3 := Lib.hid y3
  clear b3 M2 o3 c0 c1 c2 c3 c4 hq y3
  obtain ⟨c0, c1, c2, c3, c4⟩ := M3.out.box.cells
  obtain ⟨E, hE⟩ : ∃ E, q.encB = E := ⟨_, rfl⟩
  rw [hE] at Y3 ⊢
  obtain ⟨L, hL⟩ : ∃ L, E.length = L := ⟨_, rfl⟩
  rw [hL]
  have HE := Lib.hid hE
  have HLn := Lib.hid hL
  obtain ⟨C, hC⟩ : ∃ C, q.checkE = C := ⟨_, rfl⟩
  rw [hC]
  have HC := Lib.hid hC
  clear hE hL hC
  go_wp2_with fail
  refine (refEncode_any s.ep s.ro s.he s.ct A n c s.pg w3 M3.out.ln (by omega)).mono ?_
  rintro e w4 ⟨v4, rfl, o4, b4⟩
  rw [show (SB.mk s.ep s.ro s.he s.ct s.pg) = q from HQ.out.symm] at o4 ⊢
  rw [HE.out] at o4
  rw [HC.out]
  have M4 := Lib.hid (M3.out.next b4)
  have Y3' := Lib.hid ((Y3.out.kept b4).more b4.size)
  obtain ⟨A4, c4', rfl, _, _, _, y4⟩ := Bys.of_own o4
  rw [HLn.out]
  have Y4 := Lib.hid y4
  clear b4 M3 o4 c0 c1 c2 c3 c4 y4 Y3
  go_wp2_with fail
  refine (udecode_any T k e0 l w4 HL.out M4.out.bys hk (by omega)).mono ?_
  rintro e w5 ⟨v5, rfl, s5, b5⟩
  obtain ⟨D, hD⟩ : ∃ D, SB.decS l = D := ⟨_, rfl⟩
  obtain ⟨G, hG⟩ : ∃ G, SB.decE l = G := ⟨_, rfl⟩
  rw [hD] at s5
  rw [hG]
  have HD := Lib.hid hD
  have HG := Lib.hid hG
  have h100 : D.pg.length ≤ 100 := by
    rw [← hD]
    unfold SB.decS
    cases h : SB.dec l with
    | none => exact Nat.zero_le _
    | some d => exact (SB.pg_ok (SB.bytes_dec h).1).2
  obtain ⟨A5, c5, rfl, l5, _⟩ := s5
  obtain ⟨z1, z2, z3⟩ := uboxed b5 l5 D.ep D.ro D.he D.ct
  have HX5 := Lib.hid z2
  have HL5 := Lib.hid z3
  have M5 := Lib.hid (M4.out.next z1)
  have Y5 := Lib.hid ((Y3'.out.kept z1).more z1.size)
  have Z5 := Lib.hid ((Y4.out.kept z1).more z1.size)
  obtain ⟨m, hm⟩ : ∃ m, D.pg.length = m := ⟨_, rfl⟩
  rw [hm] at HX5 HL5 M5 Y5 Z5 h100 ⊢
  have HM := Lib.hid hm
  clear z1 z2 z3 b5 l5 hD hG hm M4 Y3' Y4
  go_upto_region 7 with fail
  generalize hw6 : w5.alloc (.cells #[.int .i64 D.ep, .int .i64 D.ro, .int .i64 D.he, .slice A5 m c5, .int .i64 D.ct] 25) = w6 at *
  clear hw6
  generalize w5.heap.size = r5 at *
  go_wp2_with fail
  refine (refDecode_any T k e0 l w6 HL.out M5.out.bys (by omega)).mono ?_
  rintro e w7 ⟨v7, rfl, s7, b7⟩
  rw [HD.out] at s7
  rw [HG.out]
  obtain ⟨A7, c7, rfl, l7, _⟩ := s7
  obtain ⟨z1, z2, z3⟩ := uboxed b7 l7 D.ep D.ro D.he D.ct
  have HX7 := Lib.hid z2
  have HL7 := Lib.hid z3
  have M7 := Lib.hid (M5.out.next z1)
  have Y7 := Lib.hid ((Y5.out.kept z1).more z1.size)
  have Z7 := Lib.hid ((Z5.out.kept z1).more z1.size)
  have HX6 := Lib.hid (HX5.out.kept z1)
  have HL6 := Lib.hid (HL5.out.kept z1)
  rw [HM.out] at HX7 HL7 HX6 HL6 M7 Y7 Z7 ⊢
  clear z1 z2 z3 b7 l7 M5 Y5 Z5 HX5 HL5
  go_upto_region 8 with fail
  generalize hw8 : w7.alloc (.cells #[.int .i64 D.ep, .int .i64 D.ro, .int .i64 D.he, .slice A7 m c7, .int .i64 D.ct] 25) = w8 at *
  clear hw8
  generalize w7.heap.size = r7 at *
  obtain ⟨x0, x1, x2, x3, x4⟩ := HX6.out.cells
  obtain ⟨y0, y1, y2, y3, y4⟩ := HX7.out.cells
  go_wp2_with fail
  refine (usame_any D.ep D.ro D.he D.ct D.ep D.ro D.he D.ct A5 A7 m c5 m c7 D.pg D.pg w8 HL6.out HL7.out (by omega)).mono ?_
  rintro e w9 ⟨r, rfl, hr, b9⟩
  have hr := hr rfl
  subst hr
  have M9 := Lib.hid (M7.out.next b9)
  have Y9 := Lib.hid ((Y7.out.kept b9).more b9.size)
  have Z9 := Lib.hid ((Z7.out.kept b9).more b9.size)
  clear x0 x1 x2 x3 x4 y0 y1 y2 y3 y4 b9 M7 Y7 Z7 HX6 HX7 HL6 HL7
  have KC : Hid (∀ X : World, Below w9.heap.size w9 X → X.cell? ⟨W.heap.size, 0, none⟩ = some (.int .i64 s.ep) ∧ X.cell? ⟨W.heap.size, 1, none⟩ = some (.int .i64 s.ro) ∧ X.cell? ⟨W.heap.size, 2, none⟩ = some (.int .i64 s.he) ∧ X.cell? ⟨W.heap.size, 3, none⟩ = some (.slice A n c) ∧ X.cell? ⟨W.heap.size, 4, none⟩ = some (.int .i64 s.ct)) := Lib.hid (fun X hb => (M9.out.box.kept hb).cells)
  have KL : Hid (∀ X : World, Below w9.heap.size w9 X → Ln X 1 A n c (intVals s.pg)) := Lib.hid (fun X hb => M9.out.ln.kept hb)
  have KT : Hid (∀ X : World, Below w9.heap.size w9 X → (convert 26 9 (.slice A3 L c3')).run Try.prog X = .ok (.string ⟨E.toArray⟩) X ∧ (convert 26 9 (.slice A4 L c4')).run Try.prog X = .ok (.string ⟨E.toArray⟩) X) := Lib.hid (fun X hb =>
    ⟨run_text (P := Try.prog) (w := X) (Y9.out.kept hb) 26 9 5 L c3' HLn.out Try.underlying26 Try.underlying5 Try.underlying9,
     run_text (P := Try.prog) (w := X) (Z9.out.kept hb) 26 9 5 L c4' HLn.out Try.underlying26 Try.underlying5 Try.underlying9⟩)
  have BD := Lib.hid ((Below.refl w9.heap.size w9).drew)
  have HCC : Hid (∀ X, SB.checkE ⟨s.ep, s.ro, s.he, s.ct, s.pg⟩ = X → X = C) := Lib.hid (fun X h => by rw [← h, ← HC.out, HQ.out])
  generalize (⟨E.toArray⟩ : ByteArray) = S at *
  have KK : Hid (∀ X : World, Below w9.heap.size w9 X → X.cell? ⟨W.heap.size, 0, none⟩ = some (.int .i64 s.ep) ∧ X.cell? ⟨W.heap.size, 1, none⟩ = some (.int .i64 s.ro) ∧ X.cell? ⟨W.heap.size, 2, none⟩ = some (.int .i64 s.he) ∧ X.cell? ⟨W.heap.size, 3, none⟩ = some (.slice A n c) ∧ X.cell? ⟨W.heap.size, 4, none⟩ = some (.int .i64 s.ct) ∧ (convert 26 9 (.slice A3 L c3')).run Try.prog X = .ok (.string S) X ∧ (convert 26 9 (.slice A4 L c4')).run Try.prog X = .ok (.string S) X) := Lib.hid (fun X hb => ⟨(KC.out X hb).1, (KC.out X hb).2.1, (KC.out X hb).2.2.1, (KC.out X hb).2.2.2.1, (KC.out X hb).2.2.2.2, KT.out X hb⟩)
  have K0 := KK.out _ BD.out
  clear KC KT
  clear Y9 Z9 h100 HL
  go_wp2_with fail
  go_region_held3 (fun w' => w'.cell? ⟨W.heap.size, 0, none⟩ = some (.int .i64 s.ep) ∧ w'.cell? ⟨W.heap.size, 1, none⟩ = some (.int .i64 s.ro) ∧ w'.cell? ⟨W.heap.size, 2, none⟩ = some (.int .i64 s.he) ∧ w'.cell? ⟨W.heap.size, 3, none⟩ = some (.slice A n c) ∧ w'.cell? ⟨W.heap.size, 4, none⟩ = some (.int .i64 s.ct) ∧ (convert 26 9 (.slice A3 L c3')).run Try.prog w' = .ok (.string S) w' ∧ (convert 26 9 (.slice A4 L c4')).run Try.prog w' = .ok (.string S) w')
    (first | exact K2 | exact K1 | exact K0)
    (first
      | (go_at_call 16; refine (ucheck_any s.ep s.ro s.he s.ct A n c s.pg _ (KL.out _ (by first | exact Ba.out | exact BD.out)) (by omega)).mono ?_; rintro e1 wa ⟨rfl, ba⟩; rw [HCC.out _ rfl]; first | (have Bc := Lib.hid (chainU ba Ba.out); have K2 := KK.out _ Bc.out) | (have Ba := Lib.hid (chainU ba BD.out); have K1 := KK.out _ Ba.out))
      | (go_at_call 17; refine (refCheck_any s.ep s.ro s.he s.ct A n c s.pg _ (KL.out _ (by first | exact Ba.out | exact BD.out)) (by omega)).mono ?_; rintro e1 wa ⟨rfl, ba⟩; rw [HCC.out _ rfl]; first | (have Bc := Lib.hid (chainU ba Ba.out); have K2 := KK.out _ Bc.out) | (have Ba := Lib.hid (chainU ba BD.out); have K1 := KK.out _ Ba.out))
      | fail)
  all_goals (
    have BE := Lib.hid (chainU Bc.out M9.out.below)
    clear K0 K1 K2
    go_wp2_with fail
    go_ret
    exact ⟨rfl, BE.out⟩)

set_option maxRecDepth 100000 in
theorem lifted (os : Os) (started : os.Started) (H : Type) (enc : TypeId × Value → H) :
    ReturnsInHanded {} Try.checked os 4 .any (Rows.superCodesSpec.pre6 enc Try.prog Try.f4 Rows.superCodesRow.domain false)
      (Rows.superCodesSpec.post enc Try.prog Try.f4 false true false false) := by
  refine lift_law (C := Try.checked) (tb := 4) ownKnobs started (by kernel_rfl) Try.func4
    (ChangeSpec.witness6 (enc := enc) (C := Try.checked) false ⟨#[], #[.agg #[.int .i64 0, .int .i64 0, .int .i64 0, .slice none 0 0, .int .i64 0], .slice none 0 0], []⟩ 8 (by kernel_rfl) (by kernel_rfl) (by kernel_rfl) (by kernel_rfl))
    laidOut ?_ rfl rfl Try.underlying4 ?_ ?_
  · intro t ht
    rw [Try.params4] at ht
    simp only [List.mem_cons, List.not_mem_nil, or_false] at ht
    rcases ht with rfl | rfl <;> exact ⟨by kernel_rfl, of_decide_eq_true (by kernel_rfl)⟩
  · intro vs ds W p hA
    rw [Try.params4] at hA
    obtain ⟨v0, vs0, d0, ds0, p0, q0, ha, rfl, rfl, h0, r0⟩ := trodAll_cons hA
    obtain ⟨v1, vs1, d1, ds1, p1, q1, rfl, rfl, rfl, h1, r1⟩ := trodAll_cons r0
    obtain ⟨rfl, rfl, rfl⟩ := trodAll_nil r1
    rfl
  · intro W base args ds p hval hA
    rw [Try.params4] at hA hval
    obtain ⟨v0, vs0, d0, ds0, p0, q0, ha, rfl, rfl, h0, r0⟩ := trodAll_cons hA
    obtain ⟨v1, vs1, d1, ds1, p1, q1, rfl, rfl, rfl, h1, r1⟩ := trodAll_cons r0
    obtain ⟨rfl, rfl, rfl⟩ := trodAll_nil r1
    obtain rfl : args = #[v0, v1] := by cases args; simp_all
    obtain ⟨s0, A0, n0, c0, rfl, hs0, hi0⟩ := open_super (hval 0 _ v0 rfl rfl) h0
    obtain ⟨A1, n1, c1, xs1, rfl, e1, hr1, y1, z1⟩ := open_bytes (hval 1 _ v1 rfl rfl) h1
    exact walk s0 A0 n0 c0 hs0 hi0 A1 n1 c1 xs1 e1 hr1 y1 z1

/-- The statement. -/
theorem proved : Rows.SuperCodesSaid :=
  OpenClaim.holds_of_wide 4 Try.f4 rfl rfl rfl rfl rfl rfl rfl ⟨rfl, rfl, rfl, rfl, rfl⟩ rfl rfl rfl rfl rfl (by kernel_rfl) Try.func4 (by kernel_rfl)
    (of_decide_eq_true (by kernel_rfl)) (by unfold Func.isWrapper; first | (rw [if_pos (by decide +kernel)]; kernel_rfl) | (rw [if_neg (by decide +kernel)]; exact ⟨rfl, rfl⟩))
    (fun os started H enc _ => lifted os started H enc)
#print axioms proved
end Go.Proofs.Ytnmiccagkfpkiaa.superCodes
