/-
  TreeSound answers true, for every number of frames and every script: a tree that was played keeps what the document asks of its shape. Conditions: none.
-/
import Derived.Test.YtccphijgcapeoaaGreatRows
import Derived.Test.YtccphijgcapeoaaGreatZC15
import Derived.Test.YtccphijgcapeoaaGreatZC16
import Derived.Test.YtccphijgcapeoaaGreatZC10
namespace Go.Proofs.YtccphijgcapeoaaGreat.treeSound
open Go.ChangeShapes Go.WideShapes Go.ChangeAt Go.RowKit Go.Maps

set_option maxRecDepth 20000 in
set_option maxHeartbeats 12800000 in
theorem good (fr : Nat) (f1 : 1 ≤ fr) (f2 : fr ≤ 10) (A : Option Addr) (n c : Nat) (l : List TCl) (hl : l.length = n) {W : World} (hs : TScript W W.heap.size A l) (hn : n ≤ maxLen) :
    Calls Tryz.prog 5 #[.int .i64 ((fr : Nat) : Int), .slice A n c] W fun e W' => e = .returned (.bool true) ∧ Below W.heap.size W W' := by
  have HGR := Lib.hid (fun (w : World) (F : Nat → Prop) (tb pb db g : Nat) (nd : Int → Option ND) (t : TS) (h : PlAt W [] nd tb pb db g F t [] [] w) (hz : t.z = 1000) => grown_live (a := 0) w A n c 200 l hl hs hn h (Nat.le_refl _) (by rw [hz]; decide) (by decide))
  have g1 : ¬ ((fr : Nat) : Int) < 1 := by omega
  have g2 : ¬ (10 : Int) < ((fr : Nat) : Int) := by omega
  clear hs hl hn
  go_enter Tryz.func5, Tryz.ntmps5
  go_wp2_with fail
  refine (awake_live _).mono ?_
  rintro e w1 ⟨rfl, b1⟩
  have B1 := Lib.hid b1
  clear b1
  have LN := lnew_live (W := W) w1 1000 fr (by decide) (by decide) f1 (by omega) B1.out
  rw [show (((1000 : Nat) : Int)) = 1000 from rfl] at LN
  have HLN := Lib.hid LN
  clear LN
  go_wp2_with fail
  refine HLN.out.mono ?_
  rintro e w2 ⟨tb, mb, pb, db, TA, tk, tc, TB, tm, td, G, F, f, nd, rfl, ht, b2, hF⟩
  have GR := HGR.out (w2.alloc (.cells #[.slice none 0 0] 31)) F tb pb db w2.heap.size nd (TS.new nd 1000)
    ⟨ht.tree.kept (below_one _ _), mat_new (es := []) (Ln.none_ w2 2) ht.tree.lt (fun h => absurd h (by decide)), TS.new_tr nd 1000 (by decide) (by decide), ht.tree.below.size⟩ rfl
  rw [show (((200 : Nat) : Int)) = 200 from rfl] at GR
  have HG := Lib.hid GR
  clear ht b2 hF HLN B1 HGR GR
  go_wp2_with fail
  generalize hw3 : w2.alloc (.cells #[.slice none 0 0] 31) = w3 at *
  generalize w2.heap.size = g at *
  clear hw3
  refine HG.out.mono ?_
  rintro e w4 ⟨rfl, F4, t4, es, L4, h4, m4, z4, p4, l4⟩
  have H4 := Lib.hid h4
  have HLE : Hid (es.length ≤ 511) := Lib.hid (by omega)
  clear h4 m4 z4 p4 l4 HG
  go_wp2_with fail
  refine (soundT w4 H4.out.tr HLE.out H4.out.tree).mono ?_
  rintro e w5 ⟨rfl, F5, h5, m5⟩
  have HB := Lib.hid h5.below
  clear h5 m5
  go_wp2_with fail
  go_ret
  exact ⟨rfl, HB.out⟩

set_option maxRecDepth 20000 in
set_option maxHeartbeats 1600000 in
theorem walk (z : Int) (_ : -9223372036854775808 ≤ z) (_ : z ≤ 9223372036854775807) (A : Option Addr) (n c : Nat) (l : List TCl) (hl : l.length = n) {W : World} (hs : TScript W W.heap.size A l) (hn : n ≤ maxLen) :
    Calls Tryz.prog 5 #[.int .i64 z, .slice A n c] W fun e W' => e = .returned (.bool true) ∧ Below W.heap.size W W' := by
  by_cases h1 : z < 1
  · clear hs hl
    go_enter Tryz.func5, Tryz.ntmps5
    go_wp2_with fail
    refine (awake_live _).mono ?_
    rintro e w1 ⟨rfl, b1⟩
    have B1 := Lib.hid b1
    clear b1
    go_wp2_with fail
    go_ret
    exact ⟨rfl, B1.out⟩
  · by_cases h2 : 10 < z
    · clear hs hl
      go_enter Tryz.func5, Tryz.ntmps5
      go_wp2_with fail
      refine (awake_live _).mono ?_
      rintro e w1 ⟨rfl, b1⟩
      have B1 := Lib.hid b1
      clear b1
      go_wp2_with fail
      go_ret
      exact ⟨rfl, B1.out⟩
    · obtain ⟨fr, rfl⟩ : ∃ fr : Nat, z = (fr : Int) := ⟨z.toNat, by omega⟩
      exact good fr (by omega) (by omega) A n c l hl hs hn

set_option maxRecDepth 100000 in
theorem lifted (os : Os) (started : os.Started) (H : Type) (enc : TypeId × Value → H) :
    ReturnsInHanded {} Tryz.checked os 5 .any (Rows.treeSoundSpec.pre6 enc Tryz.prog Tryz.f5 Rows.treeSoundRow.domain false)
      (Rows.treeSoundSpec.post enc Tryz.prog Tryz.f5 false true false false) := by
  refine lift_law (C := Tryz.checked) (tb := 4) ownKnobs started (by kernel_rfl) Tryz.func5
    (ChangeSpec.witness6 (enc := enc) (C := Tryz.checked) false ⟨#[], #[.int .i64 0, .slice none 0 0], []⟩ 8 (by kernel_rfl) (by kernel_rfl) (by kernel_rfl) (by kernel_rfl))
    laidOut ?_ rfl rfl Tryz.underlying4 ?_ ?_
  · intro t ht
    rw [Tryz.params5] at ht
    simp only [List.mem_cons, List.not_mem_nil, or_false] at ht
    rcases ht with rfl | rfl <;> exact ⟨by kernel_rfl, of_decide_eq_true (by kernel_rfl)⟩
  · intro vs ds W p hA
    rw [Tryz.params5] at hA
    obtain ⟨v0, vs0, d0, ds0, p0, q0, ha, rfl, rfl, h0, r0⟩ := trodAll_cons hA
    obtain ⟨v1, vs1, d1, ds1, p1, q1, rfl, rfl, rfl, h1, r1⟩ := trodAll_cons r0
    obtain ⟨rfl, rfl, rfl⟩ := trodAll_nil r1
    rfl
  · intro W base args ds p hval hA
    rw [Tryz.params5] at hA hval
    obtain ⟨v0, vs0, d0, ds0, p0, q0, ha, rfl, rfl, h0, r0⟩ := trodAll_cons hA
    obtain ⟨v1, vs1, d1, ds1, p1, q1, rfl, rfl, rfl, h1, r1⟩ := trodAll_cons r0
    obtain ⟨rfl, rfl, rfl⟩ := trodAll_nil r1
    obtain rfl : args = #[v0, v1] := by cases args; simp_all
    obtain ⟨i0, rfl, lo0, hi0⟩ := open_i64 (hval 0 _ v0 rfl rfl) h0
    obtain ⟨A1, n1, c1, xs1, rfl, e1, hr1, y1⟩ := open_tcalls (hval 1 _ v1 rfl rfl) h1
    exact walk i0 lo0 hi0 A1 n1 c1 xs1 e1 hr1 y1

/-- The statement. -/
theorem proved : Rows.TreeSoundSaid :=
  OpenClaim.holds_of_wide 5 Tryz.f5 rfl rfl rfl rfl rfl rfl rfl ⟨rfl, rfl, rfl, rfl, rfl⟩ rfl rfl rfl rfl rfl (by kernel_rfl) Tryz.func5 (by kernel_rfl)
    (of_decide_eq_true (by kernel_rfl)) (by unfold Func.isWrapper; first | (rw [if_pos (by decide +kernel)]; kernel_rfl) | (rw [if_neg (by decide +kernel)]; exact ⟨rfl, rfl⟩))
    (fun os started H enc _ => lifted os started H enc)
#print axioms proved
end Go.Proofs.YtccphijgcapeoaaGreat.treeSound
