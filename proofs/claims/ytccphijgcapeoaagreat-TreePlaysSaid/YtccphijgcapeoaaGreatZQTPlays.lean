/-
  TreePlays answers true, for every number of frames and every script: a tree answers what entries in order do, and counts them. Conditions: none.
-/
import Derived.Test.YtccphijgcapeoaaGreatRows
import Derived.Test.YtccphijgcapeoaaGreatZQ15
import Derived.Test.YtccphijgcapeoaaGreatZQ16
import Derived.Test.YtccphijgcapeoaaGreatZQ10
import Derived.Deep.QuietTactic
import Derived.BigQuiet
import Derived.IntWalk
namespace Go.Proofs.YtccphijgcapeoaaGreat.treePlays
open Go.ChangeShapes Go.WideShapes Go.ChangeAt Go.RowKit Go.Maps

/-- While the script goes on. -/
def PlR (W : World) (nd0 : Int → Option ND) (tb pb db g : Nat) (j : Nat) (w : World) : Prop := ∃ F t es L, PlAt W [] nd0 tb pb db g F t es L w ∧ es.length ≤ j ∧ t.z = 1000
/-- While all entries are asked. -/
def PlE (W : World) (nd0 : Int → Option ND) (tb pb db g : Nat) (es : List TT.E) (w : World) : Prop := ∃ F t L, PlAt W [] nd0 tb pb db g F t es L w ∧ t.z = 1000
theorem PlR.below {W : World} {nd0 : Int → Option ND} {tb pb db g j : Nat} {w : World} (h : PlR W nd0 tb pb db g j w) : Below W.heap.size W w := by
  obtain ⟨F, t, es, L, h, _⟩ := h
  exact h.tree.below
theorem PlE.below {W : World} {nd0 : Int → Option ND} {tb pb db g : Nat} {es : List TT.E} {w : World} (h : PlE W nd0 tb pb db g es w) : Below W.heap.size W w := by
  obtain ⟨F, t, L, h, _⟩ := h
  exact h.tree.below

set_option maxRecDepth 20000 in
set_option maxHeartbeats 12800000 in
theorem good (fr : Nat) (f1 : 1 ≤ fr) (f2 : fr ≤ 10) (A : Option Addr) (n c : Nat) (l : List TCl) (hl : l.length = n) {W : World} (hs : TScript W W.heap.size A l) (hn : n ≤ maxLen) :
    Calls Tryz.prog 4 #[.int .i64 ((fr : Nat) : Int), .slice A n c] W fun e W' => e = .returned (.bool true) ∧ Below W.heap.size W W' := by
  have HS := Lib.hid hs
  have HL := Lib.hid hl
  have hn2 : n ≤ 9223372036854775807 := by unfold maxLen at hn; omega
  have g1 : ¬ ((fr : Nat) : Int) < 1 := by omega
  have g2 : ¬ (10 : Int) < ((fr : Nat) : Int) := by omega
  clear hs hl hn
  go_enter Tryz.func4, Tryz.ntmps4
  go_wp2_with fail
  refine (awake_live _).mono ?_
  rintro e w1 ⟨rfl, b1⟩
  have B1 := Lib.hid b1
  clear b1
  have LN := lnew_live (W := W) w1 1000 fr (by decide) (by decide) f1 (by omega) B1.out
  rw [show (((1000 : Nat) : Int)) = 1000 from rfl] at LN
  have HLN := Lib.hid LN
  clear LN
  go_wp2_with fail
  refine HLN.out.mono ?_
  rintro e w2 ⟨tb, mb, pb, db, TA, tk, tc, TB, tm, td, G, F, f, nd, rfl, ht, b2, hF⟩
  have HR : Hid (PlR W nd tb pb db w2.heap.size 0 (w2.alloc (.cells #[.slice none 0 0] 31))) := Lib.hid
    ⟨F, _, [], [], ⟨ht.tree.kept (below_one _ _), mat_new (es := []) (Ln.none_ w2 2) ht.tree.lt (fun h => absurd h (by decide)), TS.new_tr nd 1000 (by decide) (by decide), ht.tree.below.size⟩, Nat.le_refl _, rfl⟩
  clear ht b2 hF HLN B1
  go_wp2_with fail
  generalize hw3 : w2.alloc (.cells #[.slice none 0 0] 31) = w3 at *
  generalize w2.heap.size = g at *
  clear hw3
  go_loopw [9] (fun i wr => ∃ j : Nat, j ≤ n ∧ j ≤ 200 ∧ i = .int .i64 j ∧ Hid (PlR W nd tb pb db g j wr)) (fun i _ => n - (RowKit.intOf i).toNat)
  case atStart => exact ⟨0, Nat.zero_le _, Nat.zero_le _, rfl, HR⟩
  case round =>
    obtain ⟨j, hj, hj2, rfl, hrel⟩ := hrel
    have HRR := hrel
    clear hrel HR
    by_cases hgo : j < n ∧ j < 200
    · obtain ⟨q1, q2⟩ := hgo
      have hbel := HRR.out.below
      obtain ⟨b, off, cl, rfl, hbl, hcl, _, d0, d1, d2⟩ := (HS.out.below hbel).at_ (k := j) (by rw [HL.out]; exact q1)
      obtain ⟨kd, x, y⟩ := cl
      have HSM := Lib.hid (fun (wx : World) => tsmall_any ⟨kd, x, y⟩ wx)
      have HCL := Lib.hid hcl
      unfold TCl.agg at HSM
      clear hbel hbl hcl
      dsimp only at d0 d1 d2
      go_wp2_with fail
      refine (HSM.out _).mono ?_
      rintro e w4 ⟨rfl, b4⟩
      have HR4 : Hid (PlR W nd tb pb db g j w4) := Lib.hid (by
        obtain ⟨F, t, es, L, h, h1, h2⟩ := HRR.out
        exact ⟨F, t, es, L, h.kept b4, h1, h2⟩)
      clear b4 d0 d1 d2 HSM HRR
      cases hsm : TCl.small ⟨kd, x, y⟩ with
      | false =>
        clear hsm
        go_wp2_with fail
        go_roundw
        case rel =>
          refine ⟨j + 1, by omega, by omega, by go_num, ?_⟩
          obtain ⟨F, t, es, L, h, h1, h2⟩ := HR4.out
          exact Lib.hid ⟨F, t, es, L, h, by omega, h2⟩
        case measure => simp [RowKit.intOf]; omega
      | true =>
        clear hsm
        obtain ⟨F, t, es, L, h, h1, h2⟩ := HR4.out
        have hlen := step_len ⟨kd, x, y⟩ es
        have DL := Lib.hid (did_live ⟨kd, x, y⟩ w4 h (by rw [h2]; simp; omega) (by omega))
        obtain ⟨_, off2, c2, e2, _, hc2, _, d0, d1, d2⟩ := (HS.out.below h.tree.below).at_ (k := j) (by rw [HL.out]; exact q1)
        injection e2 with e2
        injection e2 with e3 e4 e5
        subst e3 e4
        obtain rfl : TCl.mk kd x y = c2 := Option.some.inj (HCL.out.symm.trans hc2)
        have H2 := Lib.hid h2
        have HLE : Hid ((TCl.step ⟨kd, x, y⟩ es).length ≤ j + 1) := Lib.hid (by omega)
        clear h h1 h2 hc2 e5 HR4 hlen
        obtain ⟨es1, hes1⟩ : ∃ es1, TCl.step ⟨kd, x, y⟩ es = es1 := ⟨_, rfl⟩
        rw [hes1] at DL HLE
        unfold TCl.agg at DL
        dsimp only at d0 d1 d2
        clear hes1
        go_wp2_with fail
        refine DL.out.mono ?_
        rintro e w5 ⟨rfl, F5, t5, L5, h5, m5, z5, ep5⟩
        have H5 := Lib.hid h5
        have HZ5 : Hid (t5.z = 1000) := Lib.hid (z5.trans H2.out)
        obtain ⟨MA, mn, mc, hmi⟩ := h5.map
        obtain rfl : es1.length = mn := hmi.ln.ln.entN
        have HMI := Lib.hid hmi
        clear h5 m5 z5 ep5 d0 d1 d2 DL hmi
        have BD := Lib.hid ((Below.refl w5.heap.size w5).drew)
        have K0 := (HMI.out.box.kept BD.out).cell
        have hcount := superCount
        go_upto_region 15 with fail
        go_region_held3 (fun w' => w'.cell? ⟨g, 0, none⟩ = some (.slice MA es1.length mc))
          (first | exact K0 | exact K6)
          (first
            | (go_at_call 14; refine (tat_live _ (H5.out.tree.kept BD.out)).mono ?_; rintro e6 w6 ⟨rfl, b6⟩; have B6 := Lib.hid (chainN b6 BD.out); have K6 := (HMI.out.box.kept B6.out).cell; unfold atV; rw [H5.out.tr.ct]; clear b6)
            | fail)
        all_goals (
          have HR6 : Hid (PlR W nd tb pb db g (j + 1) w6) := Lib.hid ⟨F5, t5, es1, L5, H5.out.kept B6.out, HLE.out, HZ5.out⟩
          clear K0 K6 hcount
          go_wp2_with fail
          go_roundw
          case rel => exact ⟨j + 1, by omega, by omega, by go_num, HR6⟩
          case measure => simp [RowKit.intOf]; omega)
    · obtain ⟨F, t, es, L, h, h1, h2⟩ := HRR.out
      have HE : Hid (PlE W nd tb pb db g es wr) := Lib.hid ⟨F, t, L, h, h2⟩
      obtain ⟨MA, mn, mc, hmi⟩ := h.map
      have hen : es.length = mn := hmi.ln.ln.entN
      have HLE : Hid (es.length ≤ 200) := Lib.hid (by omega)
      clear h h1 h2 HRR hmi hen
      have hcase : (n ≤ j) ∨ (j < n ∧ 200 ≤ j) := by omega
      clear hgo
      rcases hcase with hx | ⟨hx, hy⟩
      all_goals
        go_wp2_with fail
        go_loopw [11] (fun i wi => ∃ k : Nat, k ≤ es.length ∧ i = .int .i64 k ∧ Hid (PlE W nd tb pb db g es wi)) (fun i _ => es.length - (RowKit.intOf i).toNat)
        case atStart => exact ⟨0, Nat.zero_le _, rfl, HE⟩
        case round =>
          obtain ⟨k, hk, rfl, hrel⟩ := hrel
          have HEE := hrel
          clear hrel
          obtain ⟨F2, t2, L2, h2, hz2⟩ := HEE.out
          obtain ⟨NA, nn, nc, hni⟩ := h2.map
          obtain rfl : es.length = nn := hni.ln.ln.entN
          have c0 := hni.box.cell
          have hle := HLE.out
          by_cases hgo2 : k < es.length
          · obtain ⟨b, off, x, y, rfl, hxy, d0, d1⟩ := hni.ln.ln.entAt hgo2
            have DL := did_live ⟨3, x, ⟨#[]⟩⟩ _ h2 (by rw [hz2]; simp; omega) (by omega)
            rw [show TCl.step ⟨3, x, ⟨#[]⟩⟩ es = es from rfl] at DL
            unfold TCl.agg at DL
            have HDL := Lib.hid DL
            have HZ2 := Lib.hid hz2
            clear h2 hz2 hni hxy d1 DL HEE
            go_wp2_with fail
            refine HDL.out.mono ?_
            rintro e w5 ⟨rfl, F5, t5, L5, h5, m5, z5, ep5⟩
            have HE5 : Hid (PlE W nd tb pb db g es w5) := Lib.hid ⟨F5, t5, L5, h5, z5.trans HZ2.out⟩
            clear h5 m5 z5 ep5 c0 d0 HDL
            go_wp2_with fail
            go_roundw
            case rel => exact ⟨k + 1, by omega, by go_num, HE5⟩
            case measure => simp [RowKit.intOf]; omega
          · have HB := Lib.hid HEE.out.below
            have hk2 : es.length ≤ k := by omega
            clear h2 hz2 hni
            go_wp2_with fail
            go_ret
            exact ⟨rfl, HB.out⟩

set_option maxRecDepth 20000 in
set_option maxHeartbeats 1600000 in
theorem walk (z : Int) (_ : -9223372036854775808 ≤ z) (_ : z ≤ 9223372036854775807) (A : Option Addr) (n c : Nat) (l : List TCl) (hl : l.length = n) {W : World} (hs : TScript W W.heap.size A l) (hn : n ≤ maxLen) :
    Calls Tryz.prog 4 #[.int .i64 z, .slice A n c] W fun e W' => e = .returned (.bool true) ∧ Below W.heap.size W W' := by
  by_cases h1 : z < 1
  · clear hs hl
    go_enter Tryz.func4, Tryz.ntmps4
    go_wp2_with fail
    refine (awake_live _).mono ?_
    rintro e w1 ⟨rfl, b1⟩
    have B1 := Lib.hid b1
    clear b1
    go_wp2_with fail
    go_ret
    exact ⟨rfl, B1.out⟩
  · by_cases h2 : 10 < z
    · clear hs hl
      go_enter Tryz.func4, Tryz.ntmps4
      go_wp2_with fail
      refine (awake_live _).mono ?_
      rintro e w1 ⟨rfl, b1⟩
      have B1 := Lib.hid b1
      clear b1
      go_wp2_with fail
      go_ret
      exact ⟨rfl, B1.out⟩
    · obtain ⟨fr, rfl⟩ : ∃ fr : Nat, z = (fr : Int) := ⟨z.toNat, by omega⟩
      exact good fr (by omega) (by omega) A n c l hl hs hn

set_option maxRecDepth 100000 in
theorem lifted (os : Os) (started : os.Started) (H : Type) (enc : TypeId × Value → H) :
    ReturnsInHanded {} Tryz.checked os 4 .any (Rows.treePlaysSpec.pre6 enc Tryz.prog Tryz.f4 Rows.treePlaysRow.domain false)
      (Rows.treePlaysSpec.post enc Tryz.prog Tryz.f4 false true false false) := by
  refine lift_law (C := Tryz.checked) (tb := 4) ownKnobs started (by kernel_rfl) Tryz.func4
    (ChangeSpec.witness6 (enc := enc) (C := Tryz.checked) false ⟨#[], #[.int .i64 0, .slice none 0 0], []⟩ 8 (by kernel_rfl) (by kernel_rfl) (by kernel_rfl) (by kernel_rfl))
    laidOut ?_ rfl rfl Tryz.underlying4 ?_ ?_
  · intro t ht
    rw [Tryz.params4] at ht
    simp only [List.mem_cons, List.not_mem_nil, or_false] at ht
    rcases ht with rfl | rfl <;> exact ⟨by kernel_rfl, of_decide_eq_true (by kernel_rfl)⟩
  · intro vs ds W p hA
    rw [Tryz.params4] at hA
    obtain ⟨v0, vs0, d0, ds0, p0, q0, ha, rfl, rfl, h0, r0⟩ := trodAll_cons hA
    obtain ⟨v1, vs1, d1, ds1, p1, q1, rfl, rfl, rfl, h1, r1⟩ := trodAll_cons r0
    obtain ⟨rfl, rfl, rfl⟩ := trodAll_nil r1
    rfl
  · intro W base args ds p hval hA
    rw [Tryz.params4] at hA hval
    obtain ⟨v0, vs0, d0, ds0, p0, q0, ha, rfl, rfl, h0, r0⟩ := trodAll_cons hA
    obtain ⟨v1, vs1, d1, ds1, p1, q1, rfl, rfl, rfl, h1, r1⟩ := trodAll_cons r0
    obtain ⟨rfl, rfl, rfl⟩ := trodAll_nil r1
    obtain rfl : args = #[v0, v1] := by cases args; simp_all
    obtain ⟨i0, rfl, lo0, hi0⟩ := open_i64 (hval 0 _ v0 rfl rfl) h0
    obtain ⟨A1, n1, c1, xs1, rfl, e1, hr1, y1⟩ := open_tcalls (hval 1 _ v1 rfl rfl) h1
    exact walk i0 lo0 hi0 A1 n1 c1 xs1 e1 hr1 y1

/-- The statement. -/
theorem proved : Rows.TreePlaysSaid :=
  OpenClaim.holds_of_wide 4 Tryz.f4 rfl rfl rfl rfl rfl rfl rfl ⟨rfl, rfl, rfl, rfl, rfl⟩ rfl rfl rfl rfl rfl (by kernel_rfl) Tryz.func4 (by kernel_rfl)
    (of_decide_eq_true (by kernel_rfl)) (by unfold Func.isWrapper; first | (rw [if_pos (by decide +kernel)]; kernel_rfl) | (rw [if_neg (by decide +kernel)]; exact ⟨rfl, rfl⟩))
    (fun os started H enc _ => lifted os started H enc)
#print axioms proved
end Go.Proofs.YtccphijgcapeoaaGreat.treePlays
