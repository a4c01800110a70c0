/-
  TreeTurned answers true, for every script, every byte that is turned and every keys: a tree over a changed page tells ErrTree, or answers what it was given. Conditions: none.
-/
import Derived.Test.YtccphijgcapeoaaGreatRows
import Derived.Test.YtccphijgcapeoaaGreatZQ16
import Derived.Test.YtccphijgcapeoaaGreatZQ10
import Derived.IntWalk
namespace Go.Proofs.YtccphijgcapeoaaGreat.treeTurned
open Go.ChangeShapes Go.WideShapes Go.ChangeAt Go.RowKit Go.Maps Go.Joins

/-- While keys are asked. -/
def TuR (W : World) (tb pb db g : Nat) (T : TS) (es : List TT.E) (w : World) : Prop := ∃ F, Tree W F w tb pb db T ∧ MAt w F g es ∧ W.heap.size ≤ g
theorem TuR.kept {W w w' : World} {tb pb db g : Nat} {T : TS} {es : List TT.E} (h : TuR W tb pb db g T es w) (hb : Below w.heap.size w w') : TuR W tb pb db g T es w' := by
  obtain ⟨F, h1, h2, h3⟩ := h
  exact ⟨F, h1.kept hb, h2.kept hb, h3⟩
theorem TuR.below {W w : World} {tb pb db g : Nat} {T : TS} {es : List TT.E} (h : TuR W tb pb db g T es w) : Below W.heap.size W w := by
  obtain ⟨F, h1, h2, h3⟩ := h
  exact h1.below

/-- What the opened tree comes to. -/
structure Lost (T : TS) (es : List TT.E) : Prop where
  get : ∀ key, (TT.lostT T T.nd 2).get key = (TT.getE key es, TT.isE key es, 0, TT.lostT T T.nd 2) ∨ (TT.lostT T T.nd 2).get key = ([], false, 121, (TT.lostT T T.nd 2).told 121)
  way : ∀ key, TS.wayIn T.nd key T.z T.ht T.rt
  ht : T.ht ≤ 9
  flat : (T.rt == 0) = (((T.ht : Nat) : Int) == 0)
  few : es.length ≤ 1000

/-- Opening it anew, and asking it. -/
def OpnR (W : World) (tb pb db g : Nat) (T : TS) (es : List TT.E) (e : Ending) (w : World) : Prop :=
  ∃ ub F G F2, e = .returned (.tuple #[.pointer (some ⟨ub, 0, none⟩), .int .i64 0]) ∧ (∃ w0 mb A n c B m d f, TAt W G F w0 tb mb pb db A n c B m d f T ∧ MAt w0 F g es ∧ Moves w0 G w F2) ∧ W.heap.size ≤ g ∧ Tree W F2 w ub pb db (TT.lostT T T.nd 2)

section
variable {W w : World} {tb pb db g : Nat} {T : TS} {es : List TT.E}
set_option maxRecDepth 20000 in
theorem opn_live (hl : Lost T es) (h : TuR W tb pb db g T es w) {v : Value} (hv : SpVH w 0 v T.sp) :
    Calls Tryz.prog 19 #[.pointer (some ⟨pb, 0, none⟩), atV T, v, .int .i64 2] w (OpnR W tb pb db g T es) := by
  obtain ⟨F, ⟨G, mb, A, n, c, B, m, d, f, h1⟩, h2, h3⟩ := h
  obtain ⟨SA, sn, sc, SB, sm, sd, rfl, hs, _, _⟩ := hv
  have hfw := h1.box.fit.few
  have l1 := hs.fr.len
  have l2 := hs.pe.len
  refine (open_live (W := W) (G := G) (db := db) (f := f) w T.ep T.rt T.ct 2 T.ht none 0 0 SA sn sc SB sm sd T.sp T.z T.nd h1.pool h1.nds (fun k hk => h1.base k ((h1.hF k).2 (Or.inl hk))) h1.below hs h1.box.fit.fine h1.box.fit.z4 (by decide) (by decide) (by have := hl.ht; omega) hl.flat
    (by simp [intVals] at l1; omega) (by
      have : (prVals T.sp.pe).length = T.sp.pe.length * 2 := prVals_length _
      omega)).mono ?_
  rintro e w' ⟨ub, mb2, A2, n2, c2, B2, m2, d2, F2, rfl, ht, hm, _, _, _⟩
  exact ⟨ub, F, G, F2, rfl, ⟨w, mb, A, n, c, B, m, d, f, h1, h2, hm⟩, h3, ht.tree⟩

/-- What it answers. -/
def AskR (W : World) (tb pb db g : Nat) (T : TS) (es : List TT.E) (key : ByteArray) (e : Ending) (w : World) : Prop :=
  (e = .returned (.tuple #[.string (Go.Proofs.YtccphijgcapeoaaGreat.tb (TT.getE key.toList es)), .bool (TT.isE key.toList es), .int .i64 0]) ∨ e = .returned (.tuple #[.string ⟨#[]⟩, .bool false, .int .i64 121])) ∧ TuR W tb pb db g T es w

set_option maxRecDepth 20000 in
theorem ask_live {ub : Nat} (key : ByteArray) (hl : Lost T es) (h : ∃ F G F2, (∃ w0 mb A n c B m d f, TAt W G F w0 tb mb pb db A n c B m d f T ∧ MAt w0 F g es ∧ Moves w0 G w F2) ∧ W.heap.size ≤ g ∧ Tree W F2 w ub pb db (TT.lostT T T.nd 2)) :
    Calls Tryz.prog 23 #[.pointer (some ⟨ub, 0, none⟩), .string key] w (AskR W tb pb db g T es key) := by
  obtain ⟨F, G, F2, ⟨w0, mb, A, n, c, B, m, d, f, h1, h2, h3⟩, h4, h5⟩ := h
  refine (aGet_live (t := TT.lostT T T.nd 2) w key (hl.way _) (by show T.ht ≤ 1000; have := hl.ht; omega) h5).mono ?_
  rintro e w' ⟨rfl, F3, h6, m6⟩
  rcases hl.get key.toList with e | e
  · rw [e] at h6 ⊢
    obtain ⟨F4, h7, m7⟩ := h1.aside (h3.trans m6) h6 rfl rfl
    exact ⟨Or.inl rfl, F4, h7, h2.moves m7, h4⟩
  · rw [e] at h6 ⊢
    obtain ⟨F4, h7, m7⟩ := h1.aside (h3.trans m6) h6 rfl rfl
    exact ⟨Or.inr rfl, F4, h7, h2.moves m7, h4⟩

set_option maxRecDepth 20000 in
theorem doc_live (key : ByteArray) (hl : Lost T es) (h : TuR W tb pb db g T es w) :
    Calls Tryz.prog 27 #[.pointer (some ⟨g, 0, none⟩), .string key] w fun e w' => e = .returned (.tuple #[.string (Go.Proofs.YtccphijgcapeoaaGreat.tb (TT.getE key.toList es)), .bool (TT.isE key.toList es)]) ∧ TuR W tb pb db g T es w' := by
  obtain ⟨F, h1, h2, h3⟩ := h
  obtain ⟨A, n, c, hm⟩ := h2
  refine (mget_any w key hm.box hm.ln.ln (by rw [← hm.ln.ln.entN]; have := hl.few; omega)).mono ?_
  rintro e w' ⟨rfl, hb⟩
  exact ⟨rfl, F, h1.kept hb, ⟨A, n, c, hm.kept hb⟩, h3⟩
end

set_option maxRecDepth 20000 in
set_option maxHeartbeats 12800000 in
theorem walk (A : Option Addr) (n c : Nat) (l : List TCl) (hl : l.length = n) {W : World} (hs : TScript W W.heap.size A l) (hn : n ≤ maxLen) (p : Int) (p1 : -9223372036854775808 ≤ p) (p2 : p ≤ 9223372036854775807) (q : Int) (q1 : -9223372036854775808 ≤ q) (q2 : q ≤ 9223372036854775807) (by_ : UInt8)
    (KA : Option Addr) (kn kc : Nat) (ks : List (List UInt8)) (hk : Ln W 1 KA kn kc (strVals ks)) (hkc : kc ≤ maxLen) :
    Calls Tryz.prog 8 #[.slice A n c, .int .i64 p, .int .i64 q, .int .u8 by_.toNat, .slice KA kn kc] W fun e W' => e = .returned (.bool true) ∧ Below W.heap.size W W' := by
  have HK := Lib.hid hk
  have HGR := Lib.hid (fun (w : World) (F : Nat → Prop) (tb pb db g : Nat) (nd : Int → Option ND) (t : TS) (h : PlAt W [] nd tb pb db g F t [] [] w) (hz : t.z = 1000) => grown_live (a := 0) w A n c 100 l hl hs hn h (Nat.le_refl _) (by rw [hz]; decide) (by decide))
  have hkn : kn ≤ 9223372036854775807 := by have := hk.le; unfold maxLen at hkc; omega
  clear hs hl hk
  go_enter Tryz.func8, Tryz.ntmps8
  go_wp2_with fail
  refine (awake_live _).mono ?_
  rintro e w1 ⟨rfl, b1⟩
  have B1 := Lib.hid b1
  clear b1
  have LN := lnew_live (W := W) w1 1000 3 (by decide) (by decide) (by decide) (by decide) B1.out
  rw [show (((1000 : Nat) : Int)) = 1000 from rfl, show (((3 : Nat) : Int)) = 3 from rfl] at LN
  have HLN := Lib.hid LN
  clear LN
  go_wp2_with fail
  refine HLN.out.mono ?_
  rintro e w2 ⟨tb, mb, pb, db, TA, tk, tc, TB, tm, td, G, F, f, nd, rfl, ht, b2, hF⟩
  have GR := HGR.out (w2.alloc (.cells #[.slice none 0 0] 31)) F tb pb db w2.heap.size nd (TS.new nd 1000)
    ⟨ht.tree.kept (below_one _ _), mat_new (es := []) (Ln.none_ w2 2) ht.tree.lt (fun h => absurd h (by decide)), TS.new_tr nd 1000 (by decide) (by decide), ht.tree.below.size⟩ rfl
  rw [show (((100 : Nat) : Int)) = 100 from rfl] at GR
  have HG := Lib.hid GR
  clear ht b2 hF HLN B1 HGR GR
  go_wp2_with fail
  generalize hw3 : w2.alloc (.cells #[.slice none 0 0] 31) = w3 at *
  generalize w2.heap.size = g at *
  clear hw3
  refine HG.out.mono ?_
  rintro e w4 ⟨rfl, F4, t4, es, L4, h4, m4, z4, p4, l4⟩
  have H4 := Lib.hid h4
  have HLE : Hid (es.length ≤ 100) := Lib.hid (by omega)
  have HZ4 : Hid (t4.z = 1000) := Lib.hid z4
  clear h4 m4 z4 p4 l4 HG
  go_wp2_with fail
  refine (tflush_live w4 H4.out.tree).mono ?_
  rintro e w5 ⟨rfl, F5, h5, m5⟩
  have H5 := Lib.hid h5
  have HM5 := Lib.hid (H4.out.map.moves m5)
  clear h5 m5
  go_wp2_with fail
  refine (tdrop_live w5 H5.out).mono ?_
  rintro e w6 ⟨rfl, F6, h6, m6⟩
  have H6 := Lib.hid h6
  have HM6 := Lib.hid (HM5.out.moves m6)
  clear h6 m6 H5 HM5
  go_wp2_with fail
  refine (tdisk_live w6 H6.out.tree).mono ?_
  rintro e w7 ⟨rfl, rfl⟩
  go_wp2_with fail
  refine (tturn_live w6 p p1 p2 q q1 q2 by_ H6.out).mono ?_
  rintro e w7 ⟨⟨r, rfl⟩, F7, nd3, h7, m7, hx⟩
  obtain ⟨T, hT⟩ : ∃ T, T = { t4 with nd := nd3 } := ⟨_, rfl⟩
  have HX : ∀ x ∈ L4, (∃ m, t4.nd x = some m) → nd3 x = t4.nd x ∨ nd3 x = none := fun x hx1 hx2 => by
    have := H4.out.tr.acc.top hx1
    exact hx x (by omega) (by omega) hx2
  have HL : Hid (Lost T es) := Lib.hid (by
    subst hT
    have hle := HLE.out
    exact ⟨fun key => H4.out.tr.lostGet HX key 2, fun key => H4.out.tr.lostIn HX key, H4.out.tr.low (by omega), H4.out.tr.flat, by omega⟩)
  have HR : Hid (TuR W tb pb db g T es w7) := Lib.hid ⟨F7, by rw [hT]; exact h7, HM6.out.moves m7, H4.out.base⟩
  clear h7 m7 hx HX hT H6 HM6 HLE HZ4 H4
  go_wp2_with fail
  go_loopw [16] (fun i wr => ∃ j : Nat, j ≤ kn ∧ j ≤ 20 ∧ i = .int .i64 j ∧ Hid (TuR W tb pb db g T es wr)) (fun i _ => kn - (RowKit.intOf i).toNat)
  case atStart => exact ⟨0, Nat.zero_le _, Nat.zero_le _, rfl, HR⟩
  case round =>
    obtain ⟨j, hj, hj2, rfl, hrel⟩ := hrel
    have HRR := hrel
    clear hrel HR
    by_cases hgo : j < kn ∧ j < 20
    · obtain ⟨hg1, hg2⟩ := hgo
      obtain ⟨b, off, s, rfl, _, f0⟩ := HK.out.strAt hg1
      have FK := Lib.hid (fun (wx : World) (hb : Below W.heap.size W wx) => (hb.cell (p := ⟨b, off + j, none⟩) (World.block_lt_of_cell? _ _ f0)).trans f0)
      clear f0
      have f0 := FK.out _ HRR.out.below
      by_cases hsz : s.size ≤ 200
      · go_wp2_with fail
        refine (tat_live wr HRR.out.choose_spec.1).mono ?_
        rintro e w8 ⟨rfl, b8⟩
        have H8 := Lib.hid (HRR.out.kept b8)
        clear b8 f0
        go_wp2_with fail
        refine (tspace_live w8 H8.out.choose_spec.1).mono ?_
        rintro e w9 ⟨v9, rfl, s9, b9⟩
        have H9 := Lib.hid (H8.out.kept b9)
        have HS9 : Hid (SpVH w9 0 v9 T.sp) := Lib.hid (by
          obtain ⟨SA, sn, sc, SB, sm, sd, e, hs, i1, i2⟩ := s9
          exact ⟨SA, sn, sc, SB, sm, sd, e, hs, fun ad _ => Nat.zero_le _, fun ad _ => Nat.zero_le _⟩)
        clear b9 s9
        generalize hav : atV T = av at *
        go_wp2_with fail
        subst hav
        refine (opn_live HL.out H9.out HS9.out).mono ?_
        rintro e w10 ⟨ub, Fa, Ga, Fb, rfl, hop⟩
        have HO := Lib.hid hop
        have f0 : w10.cell? ⟨b, off + j, none⟩ = some (.string s) := FK.out _ hop.2.2.below
        clear hop H8 H9 HS9
        go_wp2_with fail
        refine (ask_live s HL.out ⟨Fa, Ga, Fb, HO.out⟩).mono ?_
        rintro e w11 ⟨he, h11⟩
        have H11 := Lib.hid h11
        clear h11 HO f0
        have DG := Lib.hid (doc_live s HL.out H11.out)
        obtain ⟨gv, hgv⟩ : ∃ gv, Go.Proofs.YtccphijgcapeoaaGreat.tb (TT.getE s.toList es) = gv := ⟨_, rfl⟩
        obtain ⟨is, his⟩ : ∃ is, TT.isE s.toList es = is := ⟨_, rfl⟩
        rw [hgv, his] at he DG
        clear hgv his
        have f0 : w11.cell? ⟨b, off + j, none⟩ = some (.string s) := FK.out _ H11.out.below
        rcases he with rfl | rfl
        all_goals
          go_wp2_with fail
          refine DG.out.mono ?_
          rintro e w12 ⟨rfl, h12⟩
          have H12 := Lib.hid h12
          clear h12 f0
          cases is
          all_goals
            go_wp2_with fail
            go_roundw
            case rel => exact ⟨j + 1, by omega, by omega, by go_num, H12⟩
            case measure => simp [RowKit.intOf]; omega
      · have hsz2 : 200 < s.size := by omega
        clear hsz
        go_wp2_with fail
        go_roundw
        case rel => exact ⟨j + 1, by omega, by omega, by go_num, HRR⟩
        case measure => simp [RowKit.intOf]; omega
    · have hcase : (kn ≤ j) ∨ (j < kn ∧ 20 ≤ j) := by omega
      have HB := Lib.hid HRR.out.below
      clear hgo HRR
      rcases hcase with hx | ⟨hx, hy⟩
      all_goals
        go_wp2_with fail
        go_ret
        exact ⟨rfl, HB.out⟩
set_option maxRecDepth 100000 in
theorem lifted (os : Os) (started : os.Started) (H : Type) (enc : TypeId × Value → H) :
    ReturnsInHanded {} Tryz.checked os 8 .any (Rows.treeTurnedSpec.pre6 enc Tryz.prog Tryz.f8 Rows.treeTurnedRow.domain false)
      (Rows.treeTurnedSpec.post enc Tryz.prog Tryz.f8 false true false false) := by
  refine lift_law (C := Tryz.checked) (tb := 4) ownKnobs started (by kernel_rfl) Tryz.func8
    (ChangeSpec.witness6 (enc := enc) (C := Tryz.checked) false ⟨#[], #[.slice none 0 0, .int .i64 0, .int .i64 0, .int .u8 0, .slice none 0 0], []⟩ 8 (by kernel_rfl) (by kernel_rfl) (by kernel_rfl) (by kernel_rfl))
    laidOut ?_ rfl rfl Tryz.underlying4 ?_ ?_
  · intro t ht
    rw [Tryz.params8] at ht
    simp only [List.mem_cons, List.not_mem_nil, or_false] at ht
    rcases ht with rfl | rfl | rfl | rfl | rfl <;> exact ⟨by kernel_rfl, of_decide_eq_true (by kernel_rfl)⟩
  · intro vs ds W p hA
    rw [Tryz.params8] at hA
    obtain ⟨v0, vs0, d0, ds0, p0, q0, ha, rfl, rfl, h0, r0⟩ := trodAll_cons hA
    obtain ⟨v1, vs1, d1, ds1, p1, q1, rfl, rfl, rfl, h1, r1⟩ := trodAll_cons r0
    obtain ⟨v2, vs2, d2, ds2, p2, q2, rfl, rfl, rfl, h2, r2⟩ := trodAll_cons r1
    obtain ⟨v3, vs3, d3, ds3, p3, q3, rfl, rfl, rfl, h3, r3⟩ := trodAll_cons r2
    obtain ⟨v4, vs4, d4, ds4, p4, q4, rfl, rfl, rfl, h4, r4⟩ := trodAll_cons r3
    obtain ⟨rfl, rfl, rfl⟩ := trodAll_nil r4
    rfl
  · intro W base args ds p hval hA
    rw [Tryz.params8] at hA hval
    obtain ⟨v0, vs0, d0, ds0, p0, q0, ha, rfl, rfl, h0, r0⟩ := trodAll_cons hA
    obtain ⟨v1, vs1, d1, ds1, p1, q1, rfl, rfl, rfl, h1, r1⟩ := trodAll_cons r0
    obtain ⟨v2, vs2, d2, ds2, p2, q2, rfl, rfl, rfl, h2, r2⟩ := trodAll_cons r1
    obtain ⟨v3, vs3, d3, ds3, p3, q3, rfl, rfl, rfl, h3, r3⟩ := trodAll_cons r2
    obtain ⟨v4, vs4, d4, ds4, p4, q4, rfl, rfl, rfl, h4, r4⟩ := trodAll_cons r3
    obtain ⟨rfl, rfl, rfl⟩ := trodAll_nil r4
    obtain rfl : args = #[v0, v1, v2, v3, v4] := by cases args; simp_all
    obtain ⟨A0, n0, c0, xs0, rfl, e0, hr0, y0⟩ := open_tcalls (hval 0 _ v0 rfl rfl) h0
    obtain ⟨i1, rfl, lo1, hi1⟩ := open_i64 (hval 1 _ v1 rfl rfl) h1
    obtain ⟨i2, rfl, lo2, hi2⟩ := open_i64 (hval 2 _ v2 rfl rfl) h2
    obtain ⟨b3, rfl⟩ := open_u8 (hval 3 _ v3 rfl rfl) h3
    obtain ⟨A4, n4, c4, l4, rfl, hl4, hc4⟩ := open_nstrs (hval 4 _ v4 rfl rfl) h4
    exact walk A0 n0 c0 xs0 e0 hr0 y0 i1 lo1 hi1 i2 lo2 hi2 b3 A4 n4 c4 l4 hl4 hc4

/-- The statement. -/
theorem proved : Rows.TreeTurnedSaid :=
  OpenClaim.holds_of_wide 8 Tryz.f8 rfl rfl rfl rfl rfl rfl rfl ⟨rfl, rfl, rfl, rfl, rfl⟩ rfl rfl rfl rfl rfl (by kernel_rfl) Tryz.func8 (by kernel_rfl)
    (of_decide_eq_true (by kernel_rfl)) (by unfold Func.isWrapper; first | (rw [if_pos (by decide +kernel)]; kernel_rfl) | (rw [if_neg (by decide +kernel)]; exact ⟨rfl, rfl⟩))
    (fun os started H enc _ => lifted os started H enc)
#print axioms proved
