/-
  TreeCopies answers true, for every number of frames and every two scripts: a tree that was flushed stays as it was, whatever a tree that was opened over its pages does. Conditions: none.
-/
import Derived.Test.YtccphijgcapeoaaGreatRows
import Derived.Test.YtccphijgcapeoaaGreatZC15
import Derived.Test.YtccphijgcapeoaaGreatZC16
import Derived.Test.YtccphijgcapeoaaGreatZC10
import Derived.Deep.QuietTactic
import Derived.BigQuiet
import Derived.IntWalk
namespace Go.Proofs.YtccphijgcapeoaaGreat.treeCopies
open Go.ChangeShapes Go.WideShapes Go.ChangeAt Go.RowKit Go.Maps

section
variable {w : World} {F : Nat → Prop} {g : Nat} {es : List TT.E}
set_option maxRecDepth 20000 in
set_option maxHeartbeats 6400000 in
theorem mcopy_new (w : World) (hm : MAt w F g es) (hF : ∀ k, F k → k < w.heap.size) (hn : es.length ≤ 500000) :
    Calls Tryz.prog 20 #[.pointer (some ⟨g, 0, none⟩)] w (fun e w' => ∃ g', e = .returned (.pointer (some ⟨g', 0, none⟩)) ∧ MAt w' F g' es ∧ Below w.heap.size w w' ∧ w.heap.size ≤ g') := by
  obtain ⟨A, n, c, hm⟩ := hm
  have HM := Lib.hid hm
  have HF := Lib.hid hF
  have hn2 : n ≤ 500000 := by rw [← hm.ln.ln.entN]; exact hn
  clear hm hF hn
  obtain ⟨i0, hi, hz0, hz1, hz2⟩ := info_parts entInfo
  have c0 := HM.out.box.cell
  have BE := Lib.hid (below_one w (.cells #[] 41))
  have c1 := (HM.out.box.kept BE.out).cell
  have OE : Hid ((w.alloc (.cells #[] 41)).ownsRow w.heap.size 41 2 (.slice (some ⟨w.heap.size, 0, none⟩) 0 0) 0 []) := Lib.hid (own_empty (empty_new w _) (Nat.le_refl _))
  have HZ : Hid (∀ k', (Value.slice (some ⟨w.heap.size, 0, none⟩) 0 0).ownBlock = some k' → w.heap.size ≤ k') := Lib.hid (fun k' e' => (OE.out.lt k' e').1)
  go_enter Tryz.func20, Tryz.ntmps20
  go_wp2_with (first
    | (at_builtin; refine wpList_append_lay _ rfl (.tmp 3) (.tmp 7) 29 rfl w.heap.size 41 i0 _ 2 32 Tryz.underlying29 hi hz0 hz1 hz2 rfl (by decide) _ 0 [] rfl OE.out A n c (entVals es) rfl HM.out.ln.ln.len (HM.out.ln.ln.lies.kept BE.out) (entVals_one _) (by unfold maxLen; omega) (by omega) BE.out.size ?_; intro v8 w8 o8 g8; rw [List.nil_append, Nat.zero_add] at o8; have b8 := Below.grown (B := w.heap.size) (a := w) BE.out g8 BE.out.size HZ.out; obtain ⟨A8, c8, rfl⟩ := shape_own o8; have B8 := Lib.hid b8; have O8 := Lib.hid o8; clear o8 g8 b8)
    | fail)
  go_ret
  obtain ⟨A2, c2, e, _, l⟩ := Ln.of_own O8.out
  injection e with e1 e2 e3
  subst e1 e3
  have hh := NHi.of_own O8.out
  exact ⟨_, rfl, mat_new l (fun k hk => Nat.lt_of_lt_of_le (HF.out k hk) B8.out.size) (fun _ ad e hk => by have := hh ad e; have := HF.out _ hk; omega), chainN (below_one w8 _) B8.out, B8.out.size⟩
end

/-- While all entries are asked. -/
def CoE (W : World) (O : List Int) (nd0 : Int → Option ND) (tb pb db g : Nat) (es : List TT.E) (w : World) : Prop := ∃ F t L, PlAt W O nd0 tb pb db g F t es L w ∧ t.z = 1000

set_option maxRecDepth 20000 in
set_option maxHeartbeats 12800000 in
theorem good (fr : Nat) (f1 : 1 ≤ fr) (f2 : fr ≤ 10) (A : Option Addr) (n c : Nat) (l : List TCl) (hl : l.length = n) {W : World} (hs : TScript W W.heap.size A l) (hn : n ≤ maxLen) (A2 : Option Addr) (n2 c2 : Nat) (l2 : List TCl) (hl2 : l2.length = n2) (hs2 : TScript W W.heap.size A2 l2) (hn2 : n2 ≤ maxLen) :
    Calls Tryz.prog 6 #[.int .i64 ((fr : Nat) : Int), .slice A n c, .slice A2 n2 c2] W fun e W' => e = .returned (.bool true) ∧ Below W.heap.size W W' := by
  have HGR := Lib.hid (fun (w : World) (F : Nat → Prop) (tb pb db g : Nat) (nd : Int → Option ND) (t : TS) (h : PlAt W [] nd tb pb db g F t [] [] w) (hz : t.z = 1000) => grown_live (a := 0) w A n c 100 l hl hs hn h (Nat.le_refl _) (by rw [hz]; decide) (by decide))
  have HGR2 := Lib.hid (fun (w : World) (F : Nat → Prop) (tb pb db g : Nat) (nd : Int → Option ND) (t : TS) (O L : List Int) (es : List TT.E) (h : PlAt W O nd tb pb db g F t es L w) (ha : es.length ≤ 100) (hz : t.z = 1000) (hO : O.length ≤ 200) => grown_live (a := 100) w A2 n2 c2 100 l2 hl2 hs2 hn2 h ha (by rw [hz]; omega) (by decide))
  have g1 : ¬ ((fr : Nat) : Int) < 1 := by omega
  have g2 : ¬ (10 : Int) < ((fr : Nat) : Int) := by omega
  clear hs hl hn hs2 hl2 hn2
  go_enter Tryz.func6, Tryz.ntmps6
  go_wp2_with fail
  refine (awake_live _).mono ?_
  rintro e w1 ⟨rfl, b1⟩
  have B1 := Lib.hid b1
  clear b1
  have LN := lnew_live (W := W) w1 1000 fr (by decide) (by decide) f1 (by omega) B1.out
  rw [show (((1000 : Nat) : Int)) = 1000 from rfl] at LN
  have HLN := Lib.hid LN
  clear LN
  go_wp2_with fail
  refine HLN.out.mono ?_
  rintro e w2 ⟨tb, mb, pb, db, TA, tk, tc, TB, tm, td, G, F, f, nd, rfl, ht, b2, hF⟩
  have GR := HGR.out (w2.alloc (.cells #[.slice none 0 0] 31)) F tb pb db w2.heap.size nd (TS.new nd 1000)
    ⟨ht.tree.kept (below_one _ _), mat_new (es := []) (Ln.none_ w2 2) ht.tree.lt (fun h => absurd h (by decide)), TS.new_tr nd 1000 (by decide) (by decide), ht.tree.below.size⟩ rfl
  rw [show (((100 : Nat) : Int)) = 100 from rfl] at GR
  have HG := Lib.hid GR
  clear ht b2 hF HLN B1 HGR GR
  go_wp2_with fail
  generalize hw3 : w2.alloc (.cells #[.slice none 0 0] 31) = w3 at *
  generalize w2.heap.size = g at *
  clear hw3
  refine HG.out.mono ?_
  rintro e w4 ⟨rfl, F4, t, es, L, h4, m4, z4, p4, l4⟩
  have HTR := Lib.hid h4.tr
  have HBS := Lib.hid h4.base
  have H4 := Lib.hid h4
  have HLE : Hid (es.length ≤ 100) := Lib.hid (by omega)
  have HZ : Hid (t.z = 1000) := Lib.hid z4
  clear h4 m4 z4 p4 l4 HG
  go_wp2_with fail
  refine (tflush_live w4 H4.out.tree).mono ?_
  rintro e w5 ⟨rfl, F5, h5, m5⟩
  have H5 := Lib.hid h5.tree
  have HM5 := Lib.hid (H4.out.map.moves m5)
  clear h5 m5 H4
  go_wp2_with fail
  refine (tat_live w5 H5.out).mono ?_
  rintro e w6 ⟨rfl, b6⟩
  have b7 := below_one w6 (.cells #[.int .i64 t.ep, .int .i64 t.rt, .int .i64 ((t.ht : Nat) : Int), .slice none 0 0, .int .i64 t.ct] 38)
  have HU := Lib.hid (ubx_new w6 (.int .i64 t.ep) (.int .i64 t.rt) (.int .i64 ((t.ht : Nat) : Int)) (.slice none 0 0) (.int .i64 t.ct))
  have NFU : Hid (¬ F5 w6.heap.size) := Lib.hid (H5.out.new b6.size)
  have H7 := Lib.hid (H5.out.kept (chainN b7 b6))
  have HM7 := Lib.hid (HM5.out.kept (chainN b7 b6))
  clear b6 b7 H5 HM5
  unfold atV
  go_upto_region 14 with fail
  generalize hw7 : w6.alloc (.cells #[.int .i64 t.ep, .int .i64 t.rt, .int .i64 ((t.ht : Nat) : Int), .slice none 0 0, .int .i64 t.ct] 38) = w7 at *
  generalize w6.heap.size = gu at *
  clear hw7
  go_wp2_with fail
  refine (tspace_live w7 H7.out).mono ?_
  rintro e w8 ⟨v, rfl, ⟨SA, sn, sc, SB, sm, sd, rfl, s8, i1, i2⟩, b8⟩
  have b9 := below_one w8 (.cells #[.int .i64 t.sp.hi, .slice SA sn sc, .slice SB sm sd] 49)
  have H9 := Lib.hid (H7.out.kept (chainN b9 b8))
  have HM9 := Lib.hid (HM7.out.kept (chainN b9 b8))
  have HB9 : Hid (Bsd (w8.alloc (.cells #[.int .i64 t.sp.hi, .slice SA sn sc, .slice SB sm sd] 49)) F5 gu (.int .i64 t.ep) (.int .i64 t.rt) (.int .i64 ((t.ht : Nat) : Int)) (.slice none 0 0) (.int .i64 t.ct) w8.heap.size SA sn sc SB sm sd t.sp) := Lib.hid
    ⟨HU.out.kept (chainN b9 b8), box_new w8 (.int .i64 t.sp.hi) (.slice SA sn sc) (.slice SB sm sd), ⟨s8.fr.kept b9, fun _ ad e => H7.out.new (i1 ad e)⟩, ⟨s8.pe.kept b9, fun _ ad e => H7.out.new (i2 ad e)⟩, NFU.out, H7.out.new b8.size⟩
  clear b8 b9 s8 i1 i2 H7 HM7 HU NFU
  go_upto_region 15 with fail
  generalize hw9 : w8.alloc (.cells #[.int .i64 t.sp.hi, .slice SA sn sc, .slice SB sm sd] 49) = w9 at *
  generalize w8.heap.size = gs at *
  clear hw9
  have HLW : Hid (t.ht ≤ 9) := Lib.hid (HTR.out.low (by have := HLE.out; omega))
  have HL2 : Hid (L.length ≤ 200) := Lib.hid (by
    have h1 := HTR.out.used_le
    have h2 := HLE.out
    unfold TS.used at h1
    simp at h1
    omega)
  obtain ⟨u0, u1, u2, u3, u4⟩ := HB9.out.up.cells
  obtain ⟨s0, s1, s2⟩ := HB9.out.box.cells
  go_wp2_with fail
  refine (reopen_live w9 H9.out t rfl HTR.out.acc.fine (by have := HLW.out; omega) HTR.out.flat2 HB9.out.lists t.ep).mono ?_
  rintro e w10 ⟨ub, Ga, FU, rfl, hG, mU, hU⟩
  have HT10 := Lib.hid hU
  have HB10 := Lib.hid ((HB9.out.fewer hG).moves mU)
  have HM10 := Lib.hid ((HM9.out.fewer hG).moves mU)
  clear hG mU hU u0 u1 u2 u3 u4 s0 s1 s2 H9 HM9 HB9
  go_wp2_with fail
  refine (mcopy_new w10 HM10.out HT10.out.lt (by have := HLE.out; omega)).mono ?_
  rintro e w11 ⟨gc, rfl, mc, b11, hgc⟩
  have HB11 := Lib.hid (HB10.out.apart b11 hgc)
  have HM11 := Lib.hid (HM10.out.apart b11 hgc)
  have GR2 := HGR2.out w11 FU ub pb db gc t.nd (TT.opnT t t.nd 2) L L es ⟨HT10.out.kept b11, mc, HTR.out.reopen (fun _ _ => rfl) (by decide), Nat.le_trans HT10.out.below.size hgc⟩ HLE.out HZ.out HL2.out
  rw [show (((100 : Nat) : Int)) = 100 from rfl] at GR2
  have HG2 := Lib.hid GR2
  clear GR2 mc b11 hgc HT10 HB10 HM10 HGR2
  go_wp2_with fail
  refine HG2.out.mono ?_
  rintro e w12 ⟨rfl, F12, t12, es12, L12, h12, m12, z12, p12, l12⟩
  have H12 := Lib.hid h12
  have HZ12 : Hid (t.z = t12.z) := Lib.hid z12.symm
  have HB12 := Lib.hid ((HB11.out.moves m12).fewer (G := F12) (fun k hk => Or.inl hk))
  have HM12 := Lib.hid ((HM11.out.moves m12).fewer (G := F12) (fun k hk => Or.inl hk))
  have HL12 : Hid (es12.length ≤ 511) := Lib.hid (by omega)
  clear h12 m12 z12 p12 l12 HB11 HM11 HG2
  go_wp2_with fail
  refine (soundT w12 H12.out.tr HL12.out H12.out.tree).mono ?_
  rintro e w13 ⟨rfl, F13, h13, m13⟩
  have H13 := Lib.hid h13
  have HB13 := Lib.hid (HB12.out.moves m13)
  have HM13 := Lib.hid (HM12.out.moves m13)
  clear h13 m13 HB12 HM12
  obtain ⟨u0, u1, u2, u3, u4⟩ := HB13.out.up.cells
  obtain ⟨s0, s1, s2⟩ := HB13.out.box.cells
  go_wp2_with fail
  refine (reopen_live w13 H13.out t HZ12.out HTR.out.acc.fine (by have := HLW.out; omega) HTR.out.flat2 HB13.out.lists t.ep).mono ?_
  rintro e w14 ⟨ob, Gb, FO, rfl, hG, mO, hO⟩
  have HR : Hid (CoE W L t12.nd ob pb db g es w14) := Lib.hid ⟨FO, TT.opnT t t12.nd 2, L, ⟨hO, (HM13.out.fewer hG).moves mO, HTR.out.reopen (fun q hq => (H12.out.tr.acc.old q hq).2.2) (by decide), HBS.out⟩, HZ.out⟩
  clear hG mO hO u0 u1 u2 u3 u4 s0 s1 s2 H13 HM13 HB13 H12 HZ12 HL12
  generalize t12.nd = nd9 at *
  go_wp2_with fail
  go_loopw [21] (fun i wi => ∃ k : Nat, k ≤ es.length ∧ i = .int .i64 k ∧ Hid (CoE W L nd9 ob pb db g es wi)) (fun i _ => es.length - (RowKit.intOf i).toNat)
  case atStart => exact ⟨0, Nat.zero_le _, rfl, HR⟩
  case round =>
    obtain ⟨k, hk, rfl, hrel⟩ := hrel
    have HEE := hrel
    clear hrel HR
    obtain ⟨F2, t2, L2, h2, hz2⟩ := HEE.out
    obtain ⟨NA, nn, nc, hni⟩ := h2.map
    obtain rfl : es.length = nn := hni.ln.ln.entN
    have c0 := hni.box.cell
    have hle := HLE.out
    have hl2 := HL2.out
    by_cases hgo2 : k < es.length
    · obtain ⟨b, off, x, y, rfl, hxy, d0, d1⟩ := hni.ln.ln.entAt hgo2
      have DL := did_live ⟨3, x, ⟨#[]⟩⟩ _ h2 (by rw [hz2]; omega) (by omega)
      rw [show TCl.step ⟨3, x, ⟨#[]⟩⟩ es = es from rfl] at DL
      unfold TCl.agg at DL
      have HDL := Lib.hid DL
      have HZ2 := Lib.hid hz2
      clear h2 hz2 hni hxy d1 DL HEE
      go_wp2_with fail
      refine HDL.out.mono ?_
      rintro e w5 ⟨rfl, F5, t5, L5, h5, m5, z5, ep5⟩
      have HE5 : Hid (CoE W L nd9 ob pb db g es w5) := Lib.hid ⟨F5, t5, L5, h5, z5.trans HZ2.out⟩
      clear h5 m5 z5 ep5 c0 d0 HDL
      go_wp2_with fail
      go_roundw
      case rel => exact ⟨k + 1, by omega, by go_num, HE5⟩
      case measure => simp [RowKit.intOf]; omega
    · have hk2 : es.length ≤ k := by omega
      have CS := Lib.hid (soundT _ h2.tr (by omega) h2.tree)
      clear h2 hz2 hni HEE
      go_wp2_with fail
      refine CS.out.mono ?_
      rintro e w15 ⟨rfl, F15, h15, m15⟩
      have HB := Lib.hid h15.below
      clear h15 m15
      go_wp2_with fail
      go_ret
      exact ⟨rfl, HB.out⟩

set_option maxRecDepth 20000 in
set_option maxHeartbeats 1600000 in
theorem walk (z : Int) (_ : -9223372036854775808 ≤ z) (_ : z ≤ 9223372036854775807) (A : Option Addr) (n c : Nat) (l : List TCl) (hl : l.length = n) {W : World} (hs : TScript W W.heap.size A l) (hn : n ≤ maxLen) (A2 : Option Addr) (n2 c2 : Nat) (l2 : List TCl) (hl2 : l2.length = n2) (hs2 : TScript W W.heap.size A2 l2) (hn2 : n2 ≤ maxLen) :
    Calls Tryz.prog 6 #[.int .i64 z, .slice A n c, .slice A2 n2 c2] W fun e W' => e = .returned (.bool true) ∧ Below W.heap.size W W' := by
  by_cases h1 : z < 1
  · clear hs hl hs2 hl2
    go_enter Tryz.func6, Tryz.ntmps6
    go_wp2_with fail
    refine (awake_live _).mono ?_
    rintro e w1 ⟨rfl, b1⟩
    have B1 := Lib.hid b1
    clear b1
    go_wp2_with fail
    go_ret
    exact ⟨rfl, B1.out⟩
  · by_cases h2 : 10 < z
    · clear hs hl hs2 hl2
      go_enter Tryz.func6, Tryz.ntmps6
      go_wp2_with fail
      refine (awake_live _).mono ?_
      rintro e w1 ⟨rfl, b1⟩
      have B1 := Lib.hid b1
      clear b1
      go_wp2_with fail
      go_ret
      exact ⟨rfl, B1.out⟩
    · obtain ⟨fr, rfl⟩ : ∃ fr : Nat, z = (fr : Int) := ⟨z.toNat, by omega⟩
      exact good fr (by omega) (by omega) A n c l hl hs hn A2 n2 c2 l2 hl2 hs2 hn2

set_option maxRecDepth 100000 in
theorem lifted (os : Os) (started : os.Started) (H : Type) (enc : TypeId × Value → H) :
    ReturnsInHanded {} Tryz.checked os 6 .any (Rows.treeCopiesSpec.pre6 enc Tryz.prog Tryz.f6 Rows.treeCopiesRow.domain false)
      (Rows.treeCopiesSpec.post enc Tryz.prog Tryz.f6 false true false false) := by
  refine lift_law (C := Tryz.checked) (tb := 4) ownKnobs started (by kernel_rfl) Tryz.func6
    (ChangeSpec.witness6 (enc := enc) (C := Tryz.checked) false ⟨#[], #[.int .i64 0, .slice none 0 0, .slice none 0 0], []⟩ 8 (by kernel_rfl) (by kernel_rfl) (by kernel_rfl) (by kernel_rfl))
    laidOut ?_ rfl rfl Tryz.underlying4 ?_ ?_
  · intro t ht
    rw [Tryz.params6] at ht
    simp only [List.mem_cons, List.not_mem_nil, or_false] at ht
    rcases ht with rfl | rfl | rfl <;> exact ⟨by kernel_rfl, of_decide_eq_true (by kernel_rfl)⟩
  · intro vs ds W p hA
    rw [Tryz.params6] at hA
    obtain ⟨v0, vs0, d0, ds0, p0, q0, ha, rfl, rfl, h0, r0⟩ := trodAll_cons hA
    obtain ⟨v1, vs1, d1, ds1, p1, q1, rfl, rfl, rfl, h1, r1⟩ := trodAll_cons r0
    obtain ⟨v2, vs2, d2, ds2, p2, q2, rfl, rfl, rfl, h2, r2⟩ := trodAll_cons r1
    obtain ⟨rfl, rfl, rfl⟩ := trodAll_nil r2
    rfl
  · intro W base args ds p hval hA
    rw [Tryz.params6] at hA hval
    obtain ⟨v0, vs0, d0, ds0, p0, q0, ha, rfl, rfl, h0, r0⟩ := trodAll_cons hA
    obtain ⟨v1, vs1, d1, ds1, p1, q1, rfl, rfl, rfl, h1, r1⟩ := trodAll_cons r0
    obtain ⟨v2, vs2, d2, ds2, p2, q2, rfl, rfl, rfl, h2, r2⟩ := trodAll_cons r1
    obtain ⟨rfl, rfl, rfl⟩ := trodAll_nil r2
    obtain rfl : args = #[v0, v1, v2] := by cases args; simp_all
    obtain ⟨i0, rfl, lo0, hi0⟩ := open_i64 (hval 0 _ v0 rfl rfl) h0
    obtain ⟨A1, n1, c1, xs1, rfl, e1, hr1, y1⟩ := open_tcalls (hval 1 _ v1 rfl rfl) h1
    obtain ⟨A2, n2, c2, xs2, rfl, e2, hr2, y2⟩ := open_tcalls (hval 2 _ v2 rfl rfl) h2
    exact walk i0 lo0 hi0 A1 n1 c1 xs1 e1 hr1 y1 A2 n2 c2 xs2 e2 hr2 y2

/-- The statement. -/
theorem proved : Rows.TreeCopiesSaid :=
  OpenClaim.holds_of_wide 6 Tryz.f6 rfl rfl rfl rfl rfl rfl rfl ⟨rfl, rfl, rfl, rfl, rfl⟩ rfl rfl rfl rfl rfl (by kernel_rfl) Tryz.func6 (by kernel_rfl)
    (of_decide_eq_true (by kernel_rfl)) (by unfold Func.isWrapper; first | (rw [if_pos (by decide +kernel)]; kernel_rfl) | (rw [if_neg (by decide +kernel)]; exact ⟨rfl, rfl⟩))
    (fun os started H enc _ => lifted os started H enc)
#print axioms proved
end Go.Proofs.YtccphijgcapeoaaGreat.treeCopies
