/-
  TreeFull answers true, for every number of sectors and every script: a tree that finds no page tells ErrFull, and that from then on; till then it answers as ever. Conditions: none.
-/
import Derived.Test.YtccphijgcapeoaaGreatRows
import Derived.Test.YtccphijgcapeoaaGreatZQ15
import Derived.Test.YtccphijgcapeoaaGreatZQ16
import Derived.Test.YtccphijgcapeoaaGreatZQ10
import Derived.IntWalk
namespace Go.Proofs.YtccphijgcapeoaaGreat.treeFull
open Go.ChangeShapes Go.WideShapes Go.ChangeAt Go.RowKit Go.Maps

/-- While the script goes on. -/
def FuR (W : World) (nd0 : Int → Option ND) (tb pb db g : Nat) (lost : Bool) (j : Nat) (w : World) : Prop :=
  ∃ F t es, Tree W F w tb pb db t ∧ MAt w F g es ∧ W.heap.size ≤ g ∧ es.length ≤ j ∧ ((lost = true ∧ t.lost = 81) ∨ (lost = false ∧ ∃ L, TT.Tr [] nd0 t es L))

theorem fu_step {nd0 : Int → Option ND} {t : TS} {es : List TT.E} {lost : Bool} (h : (lost = true ∧ t.lost = 81) ∨ (lost = false ∧ ∃ L, TT.Tr [] nd0 t es L)) (key val : List UInt8) :
    ∃ r t', t.put key val = (r, t') ∧
      ((lost = true ∧ r = 81 ∧ t'.lost = 81 ∧ TS.badE key val = true) ∨ (lost = true ∧ r = 81 ∧ t'.lost = 81 ∧ TS.badE key val = false) ∨ (lost = false ∧ r = 120 ∧ TS.badE key val = true ∧ ∃ L, TT.Tr [] nd0 t' es L) ∨
        (lost = false ∧ r = 81 ∧ TS.badE key val = false ∧ t'.lost = 81) ∨ (lost = false ∧ r = 0 ∧ TS.badE key val = false ∧ ∃ L, TT.Tr [] nd0 t' (TT.putE key val es) L)) := by
  rcases h with ⟨rfl, h⟩ | ⟨rfl, L, h⟩
  · refine ⟨81, t, ?_, ?_⟩
    · unfold TS.put
      rw [if_pos (by rw [h]; decide), h]
    · cases hb : TS.badE key val with
      | true => exact Or.inl ⟨rfl, rfl, h, rfl⟩
      | false => exact Or.inr (Or.inl ⟨rfl, rfl, h, rfl⟩)
  · cases hb : TS.badE key val with
    | true =>
      refine ⟨120, t, ?_, Or.inr (Or.inr (Or.inl ⟨rfl, rfl, rfl, L, h⟩))⟩
      unfold TS.put
      rw [if_neg (by rw [h.lost]; decide), hb, if_pos rfl]
    | false =>
      rcases h.put1 hb with ⟨t', e, e2, _⟩ | ⟨t', L', e, r, _⟩
      · exact ⟨81, t', e, Or.inr (Or.inr (Or.inr (Or.inl ⟨rfl, rfl, rfl, e2⟩)))⟩
      · exact ⟨0, t', e, Or.inr (Or.inr (Or.inr (Or.inr ⟨rfl, rfl, rfl, L', r⟩)))⟩

section
variable {W w w' : World} {F F' : Nat → Prop} {tb pb db : Nat} {t t' : TS}
set_option maxRecDepth 20000 in
theorem get_lost (w : World) (key : ByteArray) (hl : ¬ t.lost = 0) (h : Tree W F w tb pb db t) :
    Calls Tryz.prog 23 #[.pointer (some ⟨tb, 0, none⟩), .string key] w fun e w' => e = .returned (.tuple #[.string ⟨#[]⟩, .bool false, .int .i64 t.lost]) ∧ Below w.heap.size w w' := by
  have HR := Lib.hid (refusal_live w h)
  have hb : (t.lost != 0) = true := bne_iff_ne.2 hl
  clear hl h
  go_enter Tryz.func23, Tryz.ntmps23
  go_wp2_with fail
  refine HR.out.mono ?_
  rintro e w0 ⟨rfl, rfl⟩
  go_wp2_with fail
  refine bodyPost_ret (v := .tuple #[.string ⟨#[]⟩, .bool false, .int .i64 t.lost]) (by simp [results, Tryz.results23, go_sem]) rfl ?_
  exact ⟨rfl, Below.refl _ _⟩
end

set_option maxRecDepth 20000 in
set_option maxHeartbeats 12800000 in
theorem good (sec : Nat) (f1 : 2 ≤ sec) (f2 : sec ≤ 60) (A : Option Addr) (n c : Nat) (l : List TCl) (hl : l.length = n) {W : World} (hs : TScript W W.heap.size A l) (hn : n ≤ maxLen) :
    Calls Tryz.prog 7 #[.int .i64 ((sec : Nat) : Int), .slice A n c] W fun e W' => e = .returned (.bool true) ∧ Below W.heap.size W W' := by
  have HS := Lib.hid hs
  have HL := Lib.hid hl
  have hn2 : n ≤ 9223372036854775807 := by unfold maxLen at hn; omega
  have g1 : ¬ ((sec : Nat) : Int) < 2 := by omega
  have g2 : ¬ (60 : Int) < ((sec : Nat) : Int) := by omega
  clear hs hl hn
  go_enter Tryz.func7, Tryz.ntmps7
  go_wp2_with fail
  refine (awake_live _).mono ?_
  rintro e w1 ⟨rfl, b1⟩
  have B1 := Lib.hid b1
  clear b1
  have LN := lnew_live (W := W) w1 sec 3 f1 (by omega) (by decide) (by decide) B1.out
  rw [show (((3 : Nat) : Int)) = 3 from rfl] at LN
  have HLN := Lib.hid LN
  clear LN
  go_wp2_with fail
  refine HLN.out.mono ?_
  rintro e w2 ⟨tb, mb, pb, db, TA, tk, tc, TB, tm, td, G, F, f, nd, rfl, ht, b2, hF⟩
  have HR : Hid (FuR W nd tb pb db w2.heap.size false 0 (w2.alloc (.cells #[.slice none 0 0] 31))) := Lib.hid
    ⟨F, _, [], ht.tree.kept (below_one _ _), mat_new (es := []) (Ln.none_ w2 2) ht.tree.lt (fun h => absurd h (by decide)), ht.tree.below.size, Nat.le_refl _, Or.inr ⟨rfl, [], TS.new_tr nd sec f1 (by omega)⟩⟩
  clear ht b2 hF HLN B1
  go_wp2_with fail
  generalize hw3 : w2.alloc (.cells #[.slice none 0 0] 31) = w3 at *
  generalize w2.heap.size = g at *
  clear hw3
  go_loopw [9, 10] (fun s i wr => ∃ (j : Nat) (lost : Bool), j ≤ n ∧ j ≤ 200 ∧ s = .bool lost ∧ i = .int .i64 j ∧ Hid (FuR W nd tb pb db g lost j wr)) (fun _ i _ => n - (RowKit.intOf i).toNat)
  case atStart => exact ⟨0, false, Nat.zero_le _, Nat.zero_le _, rfl, rfl, HR⟩
  case round =>
    obtain ⟨j, lost, hj, hj2, rfl, rfl, hrel⟩ := hrel
    have HRR := hrel
    clear hrel HR
    by_cases hgo : j < n ∧ j < 200
    · obtain ⟨q1, q2⟩ := hgo
      obtain ⟨F, t, es, h1, h2, h3, h4, h5⟩ := HRR.out
      obtain ⟨b, off, cl, rfl, hbl, hcl, hk64, d0, d1, d2⟩ := (HS.out.below h1.below).at_ (k := j) (by rw [HL.out]; exact q1)
      obtain ⟨kd, x, y⟩ := cl
      have HSM := Lib.hid (fun (wx : World) => tsmall_any ⟨kd, x, y⟩ wx)
      unfold TCl.agg at HSM
      dsimp only at d0 d1 d2
      have b3 := below_one wr (.cells #[.int .i64 kd, .string x, .string y] 34)
      have HB3 := Lib.hid (cbox_new wr kd x y)
      have H1 := Lib.hid (h1.kept b3)
      have H2 := Lib.hid (h2.kept b3)
      have NF := Lib.hid (h1.new (Nat.le_refl wr.heap.size))
      have H3 := Lib.hid h3
      have H4 := Lib.hid h4
      have H5 := Lib.hid h5
      have HGL := Lib.hid h2.lt
      clear h1 h2 h3 h4 h5 hbl hcl hk64 b3 HRR
      go_upto_region 15 with fail
      clear d0 d1 d2
      generalize hw3 : wr.alloc (.cells #[.int .i64 kd, .string x, .string y] 34) = w4 at *
      generalize wr.heap.size = q at *
      clear hw3
      obtain ⟨c0, c1, c2⟩ := HB3.out.cells
      go_wp2_with fail
      refine (HSM.out _).mono ?_
      rintro e w5 ⟨rfl, b5⟩
      have HB5 := Lib.hid (HB3.out.kept b5)
      have H15 := Lib.hid (H1.out.kept b5)
      have H25 := Lib.hid (H2.out.kept b5)
      have HRS : Hid (FuR W nd tb pb db g lost (j + 1) w5) := Lib.hid ⟨F, t, es, H15.out, H25.out, H3.out, by have := H4.out; omega, H5.out⟩
      clear b5 c0 c1 c2 HSM HB3 H1 H2
      obtain ⟨c0, c1, c2⟩ := HB5.out.cells
      cases hsm : TCl.small ⟨kd, x, y⟩ with
      | false =>
        clear hsm
        go_wp2_with fail
        go_roundw
        case rel => exact ⟨j + 1, lost, by omega, by omega, rfl, by go_num, HRS⟩
        case measure => simp [RowKit.intOf]; omega
      | true =>
        clear hsm
        by_cases hk1 : kd = 1
        · subst hk1
          obtain ⟨r, t', hput, hcase⟩ := fu_step H5.out x.toList y.toList
          have CP := aPut_live w5 x y (fun hl0 hb => by
            rcases H5.out with ⟨_, h⟩ | ⟨_, L, h⟩
            · rw [h] at hl0
              exact absurd hl0 (by decide)
            · exact h.chgPut (by have := H4.out; omega) hb) H15.out
          rw [hput] at CP
          have HCP := Lib.hid CP
          have HCS := Lib.hid hcase
          have hle : es.length ≤ 500000 := by have := H4.out; omega
          have HMP := Lib.hid (fun (wx : World) (Fx : Nat → Prop) (hm : MAt wx Fx g es) (hF : ∀ k, Fx k → k < wx.heap.size) => mput_any wx x y hm hF hle)
          have HPL : Hid ((if TS.badE x.toList y.toList = true then es else TT.putE x.toList y.toList es).length ≤ j + 1) := Lib.hid (by
            have := H4.out
            split
            · omega
            · rw [TT.put_len]
              split <;> omega)
          clear hput CP hcase HRS
          go_wp2_with fail
          refine HCP.out.mono ?_
          rintro e w6 ⟨rfl, F6, h6, m6⟩
          have H6 := Lib.hid h6
          have HM6 := Lib.hid (H25.out.moves m6)
          have HB6 := Lib.hid (HB5.out.moves m6 NF.out)
          clear h6 m6 c0 c1 c2 HCP HB5 H15 H25
          obtain ⟨c0, c1, c2⟩ := HB6.out.cells
          go_wp2_with fail
          refine (HMP.out w6 F6 HM6.out H6.out.lt).mono ?_
          rintro e w7 ⟨rfl, g7, mp7⟩
          have H7 := Lib.hid (H6.out.grown g7 (fun k e => by obtain rfl := Option.some.inj e; exact ⟨HM6.out.out, H3.out⟩))
          have MP7 := Lib.hid mp7
          clear g7 mp7 c0 c1 c2 HMP HM6 H6 HB6
          rcases HCS.out with ⟨rfl, rfl, hl, hb⟩ | ⟨rfl, rfl, hl, hb⟩ | ⟨rfl, rfl, hb, L, htr⟩ | ⟨rfl, rfl, hb, hl⟩ | ⟨rfl, rfl, hb, L, htr⟩
          · rw [hb, if_pos rfl] at MP7 HPL
            rw [hb, if_pos rfl]
            have HX : Hid (FuR W nd tb pb db g true (j + 1) w7) := Lib.hid ⟨F6, t', _, H7.out, MP7.out, H3.out, HPL.out, Or.inl ⟨rfl, hl⟩⟩
            clear hb hl
            go_wp2_with fail
            go_roundw
            case rel => exact ⟨j + 1, true, by omega, by omega, rfl, by go_num, HX⟩
            case measure => simp [RowKit.intOf]; omega
          · rw [hb, if_neg (by decide)] at MP7 HPL
            rw [hb, if_neg (by decide)]
            have HX : Hid (FuR W nd tb pb db g true (j + 1) w7) := Lib.hid ⟨F6, t', _, H7.out, MP7.out, H3.out, HPL.out, Or.inl ⟨rfl, hl⟩⟩
            clear hb hl
            go_wp2_with fail
            go_roundw
            case rel => exact ⟨j + 1, true, by omega, by omega, rfl, by go_num, HX⟩
            case measure => simp [RowKit.intOf]; omega
          · rw [hb, if_pos rfl] at MP7 HPL
            rw [hb, if_pos rfl]
            have HX : Hid (FuR W nd tb pb db g false (j + 1) w7) := Lib.hid ⟨F6, t', _, H7.out, MP7.out, H3.out, HPL.out, Or.inr ⟨rfl, L, htr⟩⟩
            clear hb htr
            go_wp2_with fail
            go_roundw
            case rel => exact ⟨j + 1, false, by omega, by omega, rfl, by go_num, HX⟩
            case measure => simp [RowKit.intOf]; omega
          · rw [hb, if_neg (by decide)] at MP7 HPL
            rw [hb, if_neg (by decide)]
            have HX : Hid (FuR W nd tb pb db g true (j + 1) w7) := Lib.hid ⟨F6, t', _, H7.out, MP7.out, H3.out, HPL.out, Or.inl ⟨rfl, hl⟩⟩
            clear hb hl
            go_wp2_with fail
            go_roundw
            case rel => exact ⟨j + 1, true, by omega, by omega, rfl, by go_num, HX⟩
            case measure => simp [RowKit.intOf]; omega
          · rw [hb, if_neg (by decide)] at MP7 HPL
            rw [hb, if_neg (by decide)]
            have HX : Hid (FuR W nd tb pb db g false (j + 1) w7) := Lib.hid ⟨F6, t', _, H7.out, MP7.out, H3.out, HPL.out, Or.inr ⟨rfl, L, htr⟩⟩
            clear hb htr
            go_wp2_with fail
            go_roundw
            case rel => exact ⟨j + 1, false, by omega, by omega, rfl, by go_num, HX⟩
            case measure => simp [RowKit.intOf]; omega
        · have hk2 : (kd != 1) = true := bne_iff_ne.2 hk1
          clear hk1
          go_wp2_with fail
          go_roundw
          case rel => exact ⟨j + 1, lost, by omega, by omega, rfl, by go_num, HRS⟩
          case measure => simp [RowKit.intOf]; omega
    · obtain ⟨F, t, es, h1, h2, h3, h4, h5⟩ := HRR.out
      have hcase : (n ≤ j) ∨ (j < n ∧ 200 ≤ j) := by omega
      clear hgo HRR
      have H1 := Lib.hid h1
      rcases h5 with ⟨rfl, hlost⟩ | ⟨rfl, L, htr⟩
      · have GL := get_lost wr ⟨#[97]⟩ (by rw [hlost]; decide) h1
        rw [hlost] at GL
        have HGL := Lib.hid GL
        clear GL h1 h2 h3 h4 hlost
        rcases hcase with hx | ⟨hx, hy⟩
        all_goals
          go_wp2_with fail
          refine HGL.out.mono ?_
          rintro e w5 ⟨rfl, b5⟩
          have HB := Lib.hid (H1.out.kept b5).below
          clear b5
          go_wp2_with fail
          go_ret
          exact ⟨rfl, HB.out⟩
      · have GL := aGet_live wr ⟨#[97]⟩ (htr.wayIn _) (by have := htr.low (by omega); omega) h1
        rw [htr.get] at GL
        unfold TGot at GL
        dsimp only at GL
        have HGL := Lib.hid GL
        clear GL h1 h2 h3 h4 htr
        generalize Go.Proofs.YtccphijgcapeoaaGreat.tb (TT.getE (ByteArray.toList ⟨#[97]⟩) es) = gv at *
        generalize TT.isE (ByteArray.toList ⟨#[97]⟩) es = is at *
        rcases hcase with hx | ⟨hx, hy⟩
        all_goals
          go_wp2_with fail
          refine HGL.out.mono ?_
          rintro e w5 ⟨rfl, F5, h5, m5⟩
          have HB := Lib.hid h5.below
          clear h5 m5
          go_wp2_with fail
          go_ret
          exact ⟨rfl, HB.out⟩

set_option maxRecDepth 20000 in
set_option maxHeartbeats 1600000 in
theorem walk (z : Int) (_ : -9223372036854775808 ≤ z) (_ : z ≤ 9223372036854775807) (A : Option Addr) (n c : Nat) (l : List TCl) (hl : l.length = n) {W : World} (hs : TScript W W.heap.size A l) (hn : n ≤ maxLen) :
    Calls Tryz.prog 7 #[.int .i64 z, .slice A n c] W fun e W' => e = .returned (.bool true) ∧ Below W.heap.size W W' := by
  by_cases h1 : z < 2
  · clear hs hl
    go_enter Tryz.func7, Tryz.ntmps7
    go_wp2_with fail
    refine (awake_live _).mono ?_
    rintro e w1 ⟨rfl, b1⟩
    have B1 := Lib.hid b1
    clear b1
    go_wp2_with fail
    go_ret
    exact ⟨rfl, B1.out⟩
  · by_cases h2 : 60 < z
    · clear hs hl
      go_enter Tryz.func7, Tryz.ntmps7
      go_wp2_with fail
      refine (awake_live _).mono ?_
      rintro e w1 ⟨rfl, b1⟩
      have B1 := Lib.hid b1
      clear b1
      go_wp2_with fail
      go_ret
      exact ⟨rfl, B1.out⟩
    · obtain ⟨sec, rfl⟩ : ∃ sec : Nat, z = (sec : Int) := ⟨z.toNat, by omega⟩
      exact good sec (by omega) (by omega) A n c l hl hs hn

set_option maxRecDepth 100000 in
theorem lifted (os : Os) (started : os.Started) (H : Type) (enc : TypeId × Value → H) :
    ReturnsInHanded {} Tryz.checked os 7 .any (Rows.treeFullSpec.pre6 enc Tryz.prog Tryz.f7 Rows.treeFullRow.domain false)
      (Rows.treeFullSpec.post enc Tryz.prog Tryz.f7 false true false false) := by
  refine lift_law (C := Tryz.checked) (tb := 4) ownKnobs started (by kernel_rfl) Tryz.func7
    (ChangeSpec.witness6 (enc := enc) (C := Tryz.checked) false ⟨#[], #[.int .i64 0, .slice none 0 0], []⟩ 8 (by kernel_rfl) (by kernel_rfl) (by kernel_rfl) (by kernel_rfl))
    laidOut ?_ rfl rfl Tryz.underlying4 ?_ ?_
  · intro t ht
    rw [Tryz.params7] at ht
    simp only [List.mem_cons, List.not_mem_nil, or_false] at ht
    rcases ht with rfl | rfl <;> exact ⟨by kernel_rfl, of_decide_eq_true (by kernel_rfl)⟩
  · intro vs ds W p hA
    rw [Tryz.params7] at hA
    obtain ⟨v0, vs0, d0, ds0, p0, q0, ha, rfl, rfl, h0, r0⟩ := trodAll_cons hA
    obtain ⟨v1, vs1, d1, ds1, p1, q1, rfl, rfl, rfl, h1, r1⟩ := trodAll_cons r0
    obtain ⟨rfl, rfl, rfl⟩ := trodAll_nil r1
    rfl
  · intro W base args ds p hval hA
    rw [Tryz.params7] at hA hval
    obtain ⟨v0, vs0, d0, ds0, p0, q0, ha, rfl, rfl, h0, r0⟩ := trodAll_cons hA
    obtain ⟨v1, vs1, d1, ds1, p1, q1, rfl, rfl, rfl, h1, r1⟩ := trodAll_cons r0
    obtain ⟨rfl, rfl, rfl⟩ := trodAll_nil r1
    obtain rfl : args = #[v0, v1] := by cases args; simp_all
    obtain ⟨i0, rfl, lo0, hi0⟩ := open_i64 (hval 0 _ v0 rfl rfl) h0
    obtain ⟨A1, n1, c1, xs1, rfl, e1, hr1, y1⟩ := open_tcalls (hval 1 _ v1 rfl rfl) h1
    exact walk i0 lo0 hi0 A1 n1 c1 xs1 e1 hr1 y1

/-- The statement. -/
theorem proved : Rows.TreeFullSaid :=
  OpenClaim.holds_of_wide 7 Tryz.f7 rfl rfl rfl rfl rfl rfl rfl ⟨rfl, rfl, rfl, rfl, rfl⟩ rfl rfl rfl rfl rfl (by kernel_rfl) Tryz.func7 (by kernel_rfl)
    (of_decide_eq_true (by kernel_rfl)) (by unfold Func.isWrapper; first | (rw [if_pos (by decide +kernel)]; kernel_rfl) | (rw [if_neg (by decide +kernel)]; exact ⟨rfl, rfl⟩))
    (fun os started H enc _ => lifted os started H enc)
#print axioms proved
end Go.Proofs.YtccphijgcapeoaaGreat.treeFull
