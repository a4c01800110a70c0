/-
  A part of the proof: what its texts say stands at the head of each. Conditions: none.
-/
import Derived.Deep.Cut
import Derived.Deep.QuietTactic
import Derived.BigQuiet
import Derived.RegionTactic
import Derived.ChangeAlike
import Derived.BigRegion
import Derived.Laws.BitsAll
import Derived.Test.YtnmiccagkfpkiaaZC1
import Derived.Test.YtnmiccagkfpkiaaZC2
import Derived.Test.YtnmiccagkfpkiaaZC3
import Derived.Test.YtnmiccagkfpkiaaZC4
import Derived.Test.YtnmiccagkfpkiaaZC5

/-
  What the laws' few comes to, and what a block for an answer adds.
-/
namespace Go.Proofs.Ytnmiccagkfpkiaa
open Go.RowKit

set_option maxRecDepth 20000 in
theorem ufew_any (x y z p : Value) (A : Option Addr) (n c : Nat) (w : World) :
    Calls Try.prog 10 #[.agg #[x, y, z, .slice A n c, p]] w fun e w' => e = .returned (.bool (decide (n ≤ 200))) ∧ Below w.heap.size w w' := by
  have HB := Lib.hid (ubox_new w x y z (.slice A n c) p)
  have B1 := Lib.hid (below_one w (.cells #[x, y, z, .slice A n c, p] 25))
  go_enter Try.func10, Try.ntmps10
  go_upto_region 1 with fail
  generalize w.alloc (.cells #[x, y, z, .slice A n c, p] 25) = w1 at *
  obtain ⟨c0, c1, c2, c3, c4⟩ := HB.out.cells
  go_wp2_with fail
  go_ret
  refine ⟨ret_bool ?_, B1.out⟩
  apply decide_eq_decide.2
  omega

theorem chainU {w1 wx w3 : World} (b : Below wx.heap.size wx w3) (h : Below w1.heap.size w1 wx) : Below w1.heap.size w1 w3 := h.trans (b.mono h.size)
/-- A block for an answer. -/
theorem uboxed {w1 w6 : World} {A : Option Addr} {n c : Nat} {pg : List Int} (b : Below w1.heap.size w1 w6) (l : Ln w6 1 A n c (intVals pg)) (ep ro he ct : Int) :
    Below w1.heap.size w1 (w6.alloc (.cells #[.int .i64 ep, .int .i64 ro, .int .i64 he, .slice A n c, .int .i64 ct] 25)) ∧
    UBox (w6.alloc (.cells #[.int .i64 ep, .int .i64 ro, .int .i64 he, .slice A n c, .int .i64 ct] 25)) w6.heap.size (.int .i64 ep) (.int .i64 ro) (.int .i64 he) (.slice A n c) (.int .i64 ct) ∧
    Ln (w6.alloc (.cells #[.int .i64 ep, .int .i64 ro, .int .i64 he, .slice A n c, .int .i64 ct] 25)) 1 A n c (intVals pg) :=
  ⟨chainU (below_one w6 _) b, ubox_new w6 _ _ _ _ _, l.kept (below_one w6 _)⟩
end Go.Proofs.Ytnmiccagkfpkiaa

/-
  What the document's own within and Check come to (package tailraceref09).
-/
namespace Go.Proofs.Ytnmiccagkfpkiaa
open Go.RowKit

set_option maxRecDepth 20000 in
theorem refWithin_any (z lo hi : Int) (w : World) : Calls Try.prog 31 #[.int .i64 z, .int .i64 lo, .int .i64 hi] w fun e w' => e = .returned (.bool (rng z lo hi)) ∧ w' = w := by
  by_cases h1 : lo ≤ z
  · go_enter Try.func31, Try.ntmps31
    go_wp2_with fail
    go_ret
    refine ⟨ret_bool ?_, rfl⟩
    unfold rng
    simp [h1]
  · have h2 : z < lo := by omega
    go_enter Try.func31, Try.ntmps31
    go_wp2_with fail
    go_ret
    refine ⟨ret_bool ?_, rfl⟩
    unfold rng
    symm
    exact decide_eq_false (fun h => by omega)

theorem tree_high {he ro : Int} (h : rng he 0 20 = false) : SB.treeB he ro = false := by
  have h1 : ¬ (0 ≤ he ∧ he ≤ 20) := fun e => by rw [rng_iff.2 e] at h; cases h
  unfold SB.treeB
  rw [if_neg (by omega)]
  have : rng he 1 20 = false := decide_eq_false (by omega)
  rw [this]
  rfl
theorem tree_in {he ro : Int} (h : rng he 0 20 = true) (h0 : 0 < he) : SB.treeB he ro = SB.pageB ro := by
  have h1 := rng_iff.1 h
  unfold SB.treeB
  rw [if_neg (by omega)]
  have : rng he 1 20 = true := rng_iff.2 (by omega)
  rw [this]
  rfl
theorem not_ok {s : SB} (h : rng s.ep 0 2147483647 = false ∨ rng s.ct 0 2147483647 = false ∨ SB.treeB s.he s.ro = false ∨ SB.pagesB s.pg = false) : s.checkE = 90 := by
  refine checkE_bad ?_
  cases e : s.okB with
  | false => rfl
  | true =>
    obtain ⟨h1, h2, h3, h4⟩ := SB.okB_iff.1 e
    rw [h1, h2, h3, h4] at h
    simp at h

set_option maxRecDepth 20000 in
set_option maxHeartbeats 6400000 in
theorem refCheck_any (ep ro he ct : Int) (A : Option Addr) (n c : Nat) (pg : List Int) (w : World) (hz : Ln w 1 A n c (intVals pg)) (hn : n ≤ 1000000) :
    Calls Try.prog 17 #[.agg #[.int .i64 ep, .int .i64 ro, .int .i64 he, .slice A n c, .int .i64 ct]] w fun e w' => e = .returned (.int .i64 (SB.checkE ⟨ep, ro, he, ct, pg⟩)) ∧ Below w.heap.size w w' := by
  have HB := Lib.hid (ubox_new w (.int .i64 ep) (.int .i64 ro) (.int .i64 he) (.slice A n c) (.int .i64 ct))
  have b1 := below_one w (.cells #[.int .i64 ep, .int .i64 ro, .int .i64 he, .slice A n c, .int .i64 ct] 25)
  have B1 := Lib.hid b1
  have HZ := Lib.hid (hz.kept b1)
  have HN := Lib.hid hz.intN
  clear hz b1
  go_enter Try.func17, Try.ntmps17
  go_upto_region 1 with fail
  generalize w.alloc (.cells #[.int .i64 ep, .int .i64 ro, .int .i64 he, .slice A n c, .int .i64 ct] 25) = w1 at *
  obtain ⟨c0, c1, c2, c3, c4⟩ := HB.out.cells
  rcases (show he = 0 ∧ ro = 0 ∨ he = 0 ∧ ¬ ro = 0 ∨ 0 < he ∧ SB.pageB ro = true ∨ 0 < he ∧ SB.pageB ro = false ∨ he < 0 by
    rcases (show he = 0 ∨ 0 < he ∨ he < 0 by omega) with h | h | h
    · by_cases hr : ro = 0
      · exact Or.inl ⟨h, hr⟩
      · exact Or.inr (Or.inl ⟨h, hr⟩)
    · cases hp : SB.pageB ro with
      | true => exact Or.inr (Or.inr (Or.inl ⟨h, rfl⟩))
      | false => exact Or.inr (Or.inr (Or.inr (Or.inl ⟨h, rfl⟩)))
    · exact Or.inr (Or.inr (Or.inr (Or.inr h)))) with ⟨rfl, rfl⟩ | ⟨rfl, hr⟩ | ⟨hh, hp⟩ | ⟨hh, hp⟩ | hh
  · go_wp2_with fail
    refine (refWithin_any ep 0 2147483647 _).mono ?_
    rintro e w2 ⟨rfl, rfl⟩
    cases h1 : rng ep 0 2147483647 with
    | false =>
      go_wp2_with fail
      go_ret
      exact ⟨ret_int (not_ok (Or.inl h1)).symm, B1.out⟩
    | true =>
      have H1 := Lib.hid h1
      clear h1
      go_wp2_with fail
      refine (refWithin_any ct 0 2147483647 _).mono ?_
      rintro e w3 ⟨rfl, rfl⟩
      cases h2 : rng ct 0 2147483647 with
      | false =>
        go_wp2_with fail
        go_ret
        exact ⟨ret_int (not_ok (Or.inr (Or.inl h2))).symm, B1.out⟩
      | true =>
        have H2 := Lib.hid h2
        clear h2
        go_wp2_with fail
        refine (refWithin_any 0 0 20 _).mono ?_
        rintro e w4 ⟨rfl, rfl⟩
        cases h3 : rng 0 0 20 with
        | false =>
          go_wp2_with fail
          go_ret
          exact ⟨ret_int (not_ok (Or.inr (Or.inr (Or.inl (tree_high h3))))).symm, B1.out⟩
        | true =>
          have HT : Hid (SB.treeB 0 0 = true) := Lib.hid rfl
          go_wp2_with fail
          refine (refWithin_any _ 1 100 _).mono ?_
          rintro e w9 ⟨rfl, rfl⟩
          cases h5 : rng (n : Int) 1 100 with
          | false =>
            have HE := Lib.hid (not_ok (s := ⟨ep, 0, 0, ct, pg⟩) (Or.inr (Or.inr (Or.inr (show SB.pagesB pg = false by unfold SB.pagesB; rw [HN.out, h5]; rfl)))))
            clear h5
            go_wp2_with fail
            go_ret
            exact ⟨ret_int HE.out.symm, B1.out⟩
          | true =>
            have HPg : Hid (SB.pagesB pg = pg.all SB.pageB) := Lib.hid (by unfold SB.pagesB; rw [HN.out, h5]; rfl)
            clear h5
            go_wp2_with fail
            clear c0 c1 c2 c3 c4
            obtain ⟨wo, hwo⟩ : ∃ wo : World, wo = w9 := ⟨_, rfl⟩
            subst hwo
            go_loopw [5] (fun i wk => ∃ k : Nat, k ≤ n ∧ i = .int .i64 k ∧ Hid (UPgs pg k) ∧ wk = wo) (fun i _ => n - (RowKit.intOf i).toNat)
            case atStart => exact ⟨0, Nat.zero_le _, rfl, Lib.hid rfl, rfl⟩
            case round =>
              obtain ⟨k, hk, rfl, HL, hw⟩ := hrel
              have hw' := hw.symm
              subst hw'
              clear hw
              obtain ⟨c0, c1, c2, c3, c4⟩ := HB.out.cells
              by_cases hlt : k < n
              · obtain ⟨b, off, x, rfl, hv, d0⟩ := HZ.out.intAt hlt
                cases hx : SB.pageB x with
                | true =>
                  have HM := Lib.hid (HL.out.more hv hx)
                  have HX : Hid (rng x 2 2147483647 = true) := Lib.hid hx
                  clear hv HL hx
                  go_wp2_with fail
                  refine (refWithin_any x 2 2147483647 _).mono ?_
                  rintro e w10 ⟨rfl, rfl⟩
                  rw [HX.out]
                  go_wp2_with fail
                  go_roundw
                  case rel => exact ⟨k + 1, by omega, by go_num, HM, trivial⟩
                  case measure => simp [RowKit.intOf]; omega
                | false =>
                  have HE := Lib.hid (not_ok (s := ⟨ep, 0, 0, ct, pg⟩) (Or.inr (Or.inr (Or.inr (HPg.out.trans (upgs_hit hv hx))))))
                  have HX : Hid (rng x 2 2147483647 = false) := Lib.hid hx
                  clear hv HL hx
                  go_wp2_with fail
                  refine (refWithin_any x 2 2147483647 _).mono ?_
                  rintro e w10 ⟨rfl, rfl⟩
                  rw [HX.out]
                  go_wp2_with fail
                  go_ret
                  exact ⟨ret_int HE.out.symm, B1.out⟩
              · obtain rfl : n = k := by omega
                have hm := HL.out
                unfold UPgs at hm
                rw [List.take_of_length_le (by rw [HN.out]; exact Nat.le_refl _)] at hm
                have HE := Lib.hid (checkE_good (s := ⟨ep, 0, 0, ct, pg⟩) (SB.okB_iff.2 ⟨H1.out, H2.out, HT.out, HPg.out.trans hm⟩))
                clear hm
                go_wp2_with fail
                go_ret
                exact ⟨ret_int HE.out.symm, B1.out⟩
  · have hb : (ro == 0) = false := by rw [beq_eq_false_iff_ne]; exact hr
    go_wp2_with fail
    refine (refWithin_any ep 0 2147483647 _).mono ?_
    rintro e w2 ⟨rfl, rfl⟩
    cases h1 : rng ep 0 2147483647 with
    | false =>
      go_wp2_with fail
      go_ret
      exact ⟨ret_int (not_ok (Or.inl h1)).symm, B1.out⟩
    | true =>
      have H1 := Lib.hid h1
      clear h1
      go_wp2_with fail
      refine (refWithin_any ct 0 2147483647 _).mono ?_
      rintro e w3 ⟨rfl, rfl⟩
      cases h2 : rng ct 0 2147483647 with
      | false =>
        go_wp2_with fail
        go_ret
        exact ⟨ret_int (not_ok (Or.inr (Or.inl h2))).symm, B1.out⟩
      | true =>
        have H2 := Lib.hid h2
        clear h2
        go_wp2_with fail
        refine (refWithin_any 0 0 20 _).mono ?_
        rintro e w4 ⟨rfl, rfl⟩
        cases h3 : rng 0 0 20 with
        | false =>
          go_wp2_with fail
          go_ret
          exact ⟨ret_int (not_ok (Or.inr (Or.inr (Or.inl (tree_high h3))))).symm, B1.out⟩
        | true =>
          go_wp2_with fail
          go_ret
          exact ⟨ret_int (not_ok (Or.inr (Or.inr (Or.inl (show SB.treeB 0 ro = false from decide_eq_false hr))))).symm, B1.out⟩
  · have HP := Lib.hid hp
    clear hp
    have hb : (he == 0) = false := by rw [beq_eq_false_iff_ne]; omega
    go_wp2_with fail
    refine (refWithin_any ep 0 2147483647 _).mono ?_
    rintro e w2 ⟨rfl, rfl⟩
    cases h1 : rng ep 0 2147483647 with
    | false =>
      go_wp2_with fail
      refine (refWithin_any _ _ _ _).mono ?_
      rintro e w8 ⟨rfl, rfl⟩
      rw [show rng ro 2 2147483647 = true from HP.out]
      go_wp2_with fail
      go_ret
      exact ⟨ret_int (not_ok (Or.inl h1)).symm, B1.out⟩
    | true =>
      have H1 := Lib.hid h1
      clear h1
      go_wp2_with fail
      refine (refWithin_any ct 0 2147483647 _).mono ?_
      rintro e w3 ⟨rfl, rfl⟩
      cases h2 : rng ct 0 2147483647 with
      | false =>
        go_wp2_with fail
        refine (refWithin_any _ _ _ _).mono ?_
        rintro e w8 ⟨rfl, rfl⟩
        rw [show rng ro 2 2147483647 = true from HP.out]
        go_wp2_with fail
        go_ret
        exact ⟨ret_int (not_ok (Or.inr (Or.inl h2))).symm, B1.out⟩
      | true =>
        have H2 := Lib.hid h2
        clear h2
        go_wp2_with fail
        refine (refWithin_any he 0 20 _).mono ?_
        rintro e w4 ⟨rfl, rfl⟩
        cases h3 : rng he 0 20 with
        | false =>
          go_wp2_with fail
          refine (refWithin_any _ _ _ _).mono ?_
          rintro e w8 ⟨rfl, rfl⟩
          rw [show rng ro 2 2147483647 = true from HP.out]
          go_wp2_with fail
          go_ret
          exact ⟨ret_int (not_ok (Or.inr (Or.inr (Or.inl (tree_high h3))))).symm, B1.out⟩
        | true =>
          have HT : Hid (SB.treeB he ro = true) := Lib.hid ((tree_in h3 hh).trans HP.out)
          clear h3
          go_wp2_with fail
          refine (refWithin_any _ _ _ _).mono ?_
          rintro e w8 ⟨rfl, rfl⟩
          rw [show rng ro 2 2147483647 = true from HP.out]
          go_wp2_with fail
          refine (refWithin_any _ 1 100 _).mono ?_
          rintro e w9 ⟨rfl, rfl⟩
          cases h5 : rng (n : Int) 1 100 with
          | false =>
            have HE := Lib.hid (not_ok (s := ⟨ep, ro, he, ct, pg⟩) (Or.inr (Or.inr (Or.inr (show SB.pagesB pg = false by unfold SB.pagesB; rw [HN.out, h5]; rfl)))))
            clear h5
            go_wp2_with fail
            go_ret
            exact ⟨ret_int HE.out.symm, B1.out⟩
          | true =>
            have HPg : Hid (SB.pagesB pg = pg.all SB.pageB) := Lib.hid (by unfold SB.pagesB; rw [HN.out, h5]; rfl)
            clear h5
            go_wp2_with fail
            clear c0 c1 c2 c3 c4
            obtain ⟨wo, hwo⟩ : ∃ wo : World, wo = w9 := ⟨_, rfl⟩
            subst hwo
            go_loopw [5] (fun i wk => ∃ k : Nat, k ≤ n ∧ i = .int .i64 k ∧ Hid (UPgs pg k) ∧ wk = wo) (fun i _ => n - (RowKit.intOf i).toNat)
            case atStart => exact ⟨0, Nat.zero_le _, rfl, Lib.hid rfl, rfl⟩
            case round =>
              obtain ⟨k, hk, rfl, HL, hw⟩ := hrel
              have hw' := hw.symm
              subst hw'
              clear hw
              obtain ⟨c0, c1, c2, c3, c4⟩ := HB.out.cells
              by_cases hlt : k < n
              · obtain ⟨b, off, x, rfl, hv, d0⟩ := HZ.out.intAt hlt
                cases hx : SB.pageB x with
                | true =>
                  have HM := Lib.hid (HL.out.more hv hx)
                  have HX : Hid (rng x 2 2147483647 = true) := Lib.hid hx
                  clear hv HL hx
                  go_wp2_with fail
                  refine (refWithin_any x 2 2147483647 _).mono ?_
                  rintro e w10 ⟨rfl, rfl⟩
                  rw [HX.out]
                  go_wp2_with fail
                  go_roundw
                  case rel => exact ⟨k + 1, by omega, by go_num, HM, trivial⟩
                  case measure => simp [RowKit.intOf]; omega
                | false =>
                  have HE := Lib.hid (not_ok (s := ⟨ep, ro, he, ct, pg⟩) (Or.inr (Or.inr (Or.inr (HPg.out.trans (upgs_hit hv hx))))))
                  have HX : Hid (rng x 2 2147483647 = false) := Lib.hid hx
                  clear hv HL hx
                  go_wp2_with fail
                  refine (refWithin_any x 2 2147483647 _).mono ?_
                  rintro e w10 ⟨rfl, rfl⟩
                  rw [HX.out]
                  go_wp2_with fail
                  go_ret
                  exact ⟨ret_int HE.out.symm, B1.out⟩
              · obtain rfl : n = k := by omega
                have hm := HL.out
                unfold UPgs at hm
                rw [List.take_of_length_le (by rw [HN.out]; exact Nat.le_refl _)] at hm
                have HE := Lib.hid (checkE_good (s := ⟨ep, ro, he, ct, pg⟩) (SB.okB_iff.2 ⟨H1.out, H2.out, HT.out, HPg.out.trans hm⟩))
                clear hm
                go_wp2_with fail
                go_ret
                exact ⟨ret_int HE.out.symm, B1.out⟩
  · have HP := Lib.hid hp
    clear hp
    have hb : (he == 0) = false := by rw [beq_eq_false_iff_ne]; omega
    go_wp2_with fail
    refine (refWithin_any ep 0 2147483647 _).mono ?_
    rintro e w2 ⟨rfl, rfl⟩
    cases h1 : rng ep 0 2147483647 with
    | false =>
      go_wp2_with fail
      refine (refWithin_any _ _ _ _).mono ?_
      rintro e w8 ⟨rfl, rfl⟩
      rw [show rng ro 2 2147483647 = false from HP.out]
      go_wp2_with fail
      go_ret
      exact ⟨ret_int (not_ok (Or.inl h1)).symm, B1.out⟩
    | true =>
      have H1 := Lib.hid h1
      clear h1
      go_wp2_with fail
      refine (refWithin_any ct 0 2147483647 _).mono ?_
      rintro e w3 ⟨rfl, rfl⟩
      cases h2 : rng ct 0 2147483647 with
      | false =>
        go_wp2_with fail
        refine (refWithin_any _ _ _ _).mono ?_
        rintro e w8 ⟨rfl, rfl⟩
        rw [show rng ro 2 2147483647 = false from HP.out]
        go_wp2_with fail
        go_ret
        exact ⟨ret_int (not_ok (Or.inr (Or.inl h2))).symm, B1.out⟩
      | true =>
        have H2 := Lib.hid h2
        clear h2
        go_wp2_with fail
        refine (refWithin_any he 0 20 _).mono ?_
        rintro e w4 ⟨rfl, rfl⟩
        cases h3 : rng he 0 20 with
        | false =>
          go_wp2_with fail
          refine (refWithin_any _ _ _ _).mono ?_
          rintro e w8 ⟨rfl, rfl⟩
          rw [show rng ro 2 2147483647 = false from HP.out]
          go_wp2_with fail
          go_ret
          exact ⟨ret_int (not_ok (Or.inr (Or.inr (Or.inl (tree_high h3))))).symm, B1.out⟩
        | true =>
          go_wp2_with fail
          refine (refWithin_any _ _ _ _).mono ?_
          rintro e w8 ⟨rfl, rfl⟩
          rw [show rng ro 2 2147483647 = false from HP.out]
          go_wp2_with fail
          go_ret
          exact ⟨ret_int (not_ok (Or.inr (Or.inr (Or.inl ((tree_in h3 hh).trans HP.out))))).symm, B1.out⟩
  · have hb : (he == 0) = false := by rw [beq_eq_false_iff_ne]; omega
    go_wp2_with fail
    refine (refWithin_any ep 0 2147483647 _).mono ?_
    rintro e w2 ⟨rfl, rfl⟩
    cases h1 : rng ep 0 2147483647 with
    | false =>
      go_wp2_with fail
      go_ret
      exact ⟨ret_int (not_ok (Or.inl h1)).symm, B1.out⟩
    | true =>
      have H1 := Lib.hid h1
      clear h1
      go_wp2_with fail
      refine (refWithin_any ct 0 2147483647 _).mono ?_
      rintro e w3 ⟨rfl, rfl⟩
      cases h2 : rng ct 0 2147483647 with
      | false =>
        go_wp2_with fail
        go_ret
        exact ⟨ret_int (not_ok (Or.inr (Or.inl h2))).symm, B1.out⟩
      | true =>
        have H2 := Lib.hid h2
        clear h2
        go_wp2_with fail
        refine (refWithin_any he 0 20 _).mono ?_
        rintro e w4 ⟨rfl, rfl⟩
        cases h3 : rng he 0 20 with
        | false =>
          go_wp2_with fail
          go_ret
          exact ⟨ret_int (not_ok (Or.inr (Or.inr (Or.inl (tree_high h3))))).symm, B1.out⟩
        | true =>
          exact absurd (rng_iff.1 h3).1 (by omega)
end Go.Proofs.Ytnmiccagkfpkiaa

/-
  What the document's own Encode comes to (package tailraceref09).
-/
namespace Go.Proofs.Ytnmiccagkfpkiaa
open Go.RowKit

set_option maxRecDepth 20000 in
set_option maxHeartbeats 1600000 in
theorem refEncode_any (ep ro he ct : Int) (A : Option Addr) (n c : Nat) (pg : List Int) (w : World) (hz : Ln w 1 A n c (intVals pg)) (hn : n ≤ 1000000) :
    Calls Try.prog 12 #[.agg #[.int .i64 ep, .int .i64 ro, .int .i64 he, .slice A n c, .int .i64 ct]] w (UEncEnd w ⟨ep, ro, he, ct, pg⟩) := by
  obtain ⟨i0, hi, hz0, hz1, hz2⟩ := info_parts intInfo
  have HB := Lib.hid (ubox_new w (.int .i64 ep) (.int .i64 ro) (.int .i64 he) (.slice A n c) (.int .i64 ct))
  have b1 := below_one w (.cells #[.int .i64 ep, .int .i64 ro, .int .i64 he, .slice A n c, .int .i64 ct] 25)
  have B1 := Lib.hid b1
  have HZ := Lib.hid (hz.kept b1)
  have HN := Lib.hid hz.intN
  clear hz b1
  go_enter Try.func12, Try.ntmps12
  go_upto_region 1 with fail
  generalize w.alloc (.cells #[.int .i64 ep, .int .i64 ro, .int .i64 he, .slice A n c, .int .i64 ct] 25) = w1 at *
  obtain ⟨c0, c1, c2, c3, c4⟩ := HB.out.cells
  go_wp2_with fail
  refine (refCheck_any ep ro he ct A n c pg w1 HZ.out hn).mono ?_
  rintro e w2 ⟨rfl, b2⟩
  have B2 := Lib.hid (B1.out.trans (b2.mono B1.out.size))
  have HB2 := Lib.hid (HB.out.kept b2)
  have HZ2 := Lib.hid (HZ.out.kept b2)
  clear b2 c0 c1 c2 c3 c4 HB HZ
  obtain ⟨c0, c1, c2, c3, c4⟩ := HB2.out.cells
  cases hk : (SB.mk ep ro he ct pg).okB with
  | false =>
    rw [checkE_bad hk]
    have HE := Lib.hid (uenc_bad hk B2.out)
    clear hk
    go_wp2_with fail
    go_ret2
    exact HE.out
  | true =>
    have HK := Lib.hid hk
    have h100 : n ≤ 100 := by have h1 : pg.length ≤ 100 := (SB.pg_ok hk).2; have := HN.out; omega
    rw [checkE_good hk]
    clear hk
    have o1 := four_ints w2 ep ro he ct 3
    have L1 := HZ2.out.kept (below_one w2 (.cells #[.int .i64 ep, .int .i64 ro, .int .i64 he, .int .i64 ct] 3))
    have bs : w2.heap.size ≤ (w2.alloc (.cells #[.int .i64 ep, .int .i64 ro, .int .i64 he, .int .i64 ct] 3)).heap.size := (below_one w2 _).size
    have d3 := ((HB2.out.kept (below_one w2 (.cells #[.int .i64 ep, .int .i64 ro, .int .i64 he, .int .i64 ct] 3))).cells).2.2.2.1
    go_wp2_with (at_builtin; refine wpList_append_lay _ rfl (.tmp 15) (.tmp 17) 23 rfl w2.heap.size 3 i0 (.int .i64 0) 1 8 Try.underlying23 hi hz0 hz1 hz2 rfl (by decide) _ _ _ rfl o1 A n c (intVals pg) rfl L1.len L1.lies (intVals_one _) (by unfold maxLen; omega) (by omega) bs ?_; intro v3 w3 hown3 hg3; have B3 := Lib.hid (B2.out.trans (((below_one w2 (.cells #[.int .i64 ep, .int .i64 ro, .int .i64 he, .int .i64 ct] 3)).grown hg3 bs (fun k hk => (o1.lt k hk).1)).mono B2.out.size)); obtain ⟨A3, e3, rfl, _, l3⟩ := Ln.of_own hown3)

    have L3 : Hid (Ints w3 A3 (SB.mk ep ro he ct pg).nums) := Lib.hid (Ln.ints (by rw [← sIntVals_append] at l3; exact l3))
    have h4 : (SB.mk ep ro he ct pg).nums.length = 4 + n := by rw [SB.nums_length, HN.out]; omega
    clear hown3 l3 bs L1 o1 d3 c0 c1 c2 c3 c4
    refine (refNumbers_n A3 (4 + n) e3 _ w3 L3.out h4 (by omega)).mono ?_
    rintro e w4 ⟨v4, rfl, o4, b4⟩
    have O4 := Lib.hid o4
    have B4 := Lib.hid (B3.out.trans (b4.mono B3.out.size))
    clear o4 b4 h4
    go_wp2_with fail
    go_ret2
    refine ⟨v4, by rw [checkE_good HK.out]; rfl, ?_, B4.out⟩
    have : (SB.mk ep ro he ct pg).encB = numB (SB.mk ep ro he ct pg).nums := if_pos HK.out
    rw [this]
    exact own_low O4.out B3.out.size
end Go.Proofs.Ytnmiccagkfpkiaa

/-
  What the document's own Read comes to (package tailraceref05).
-/
namespace Go.Proofs.Ytnmiccagkfpkiaa
open Go.RowKit

/-- What it holds while the place k is to come. -/
def RRel (w : World) (n : Nat) (l : List UInt8) (g : Nat) (v i : Value) (wr : World) : Prop :=
  ∃ (k : Nat) (ys : List Int), i = .int .i64 k ∧ k + g = n ∧ k % 4 = 0 ∧ 4 * ys.length = k ∧ Hid (Rds l ys (l.drop k)) ∧ Hid (OwnI wr w.heap.size v ys) ∧ Hid (Below w.heap.size w wr)

theorem wrap64_small {n : Int} (h0 : -9223372036854775808 ≤ n) (h1 : n ≤ 9223372036854775807) : wrap64 n = n := by
  unfold wrap64
  omega

theorem sum_spell (x y z u : UInt8) : wrap64 (wrap64 (wrap64 (wrap64 (wrap64 (x.toNat : Int) * 16777216) + wrap64 (wrap64 (y.toNat : Int) * 65536)) + wrap64 (wrap64 (z.toNat : Int) * 256)) + wrap64 (u.toNat : Int)) = ((num4 x y z u : Nat) : Int) := by
  have := byte_lt x
  have := byte_lt y
  have := byte_lt z
  have := byte_lt u
  rw [wrap64_small (n := (x.toNat : Int)) (by omega) (by omega), wrap64_small (n := (y.toNat : Int)) (by omega) (by omega), wrap64_small (n := (z.toNat : Int)) (by omega) (by omega), wrap64_small (n := (u.toNat : Int)) (by omega) (by omega),
    wrap64_small (n := (x.toNat : Int) * 16777216) (by omega) (by omega), wrap64_small (n := (y.toNat : Int) * 65536) (by omega) (by omega), wrap64_small (n := (z.toNat : Int) * 256) (by omega) (by omega),
    wrap64_small (n := (x.toNat : Int) * 16777216 + (y.toNat : Int) * 65536) (by omega) (by omega), wrap64_small (n := (x.toNat : Int) * 16777216 + (y.toNat : Int) * 65536 + (z.toNat : Int) * 256) (by omega) (by omega),
    wrap64_small (n := (x.toNat : Int) * 16777216 + (y.toNat : Int) * 65536 + (z.toNat : Int) * 256 + (u.toNat : Int)) (by omega) (by omega)]
  unfold num4
  omega

set_option maxRecDepth 20000 in
theorem RRel.next {w wr w3 : World} {n k g q : Nat} {l : List UInt8} {u4 v3 : Value} {ys : List Int} {T : TypeId} {C : Array Value} (hkg : k + g = n) (hlt : k + 4 ≤ n) (h4 : k % 4 = 0) (hyk : 4 * ys.length = k)
    (hs : Rds l (ys ++ [(q : Int)]) (l.drop (k + 4))) (o1 : wr.ownsRow w.heap.size 3 1 u4 ys.length (intVals ys)) (HW : Below w.heap.size w wr)
    (hown3 : w3.ownsRow w.heap.size 3 1 v3 (ys.length + 1) (intVals ys ++ [.int .i64 (q : Int)])) (hg3 : (wr.alloc (.cells C T)).grownBy w3 u4.ownBlock) : RRel w n l (g - 4) v3 (.int .i64 ((k : Int) + 4)) w3 := by
  have bs := HW.size
  refine ⟨k + 4, ys ++ [(q : Int)], by go_num, by omega, by omega, ?_, hs, ?_, ?_⟩
  · rw [List.length_append, List.length_singleton]
    omega
  · show w3.ownsRow _ _ _ _ _ _
    rw [List.length_append, intVals_append]
    exact hown3
  · exact (HW.alloc bs _).grown hg3 (by simp; omega) (fun g hg => (o1.lt g hg).1)

set_option maxRecDepth 20000 in
set_option maxHeartbeats 3200000 in
theorem frefRead_any {R : Nat} (A : Option Addr) (n c : Nat) (l : List UInt8) (w : World) (hl : l.length = n) (hr : Bys w R A l) (hn : n ≤ 1000000) :
    Calls Try.prog 27 #[.slice A n c] w (FReadEnd w l) := by
  by_cases h4 : n % 4 = 0
  · obtain ⟨i0, hi, hz0, hz1, hz2⟩ := info_parts intInfo
    have hm : ((n : Int) % 4 != 0) = false := by
      simp
      omega
    have HS : Hid (Rds l [] (l.drop 0)) := Lib.hid (Rds.start l)
    have HR := Lib.hid hr
    have HL := Lib.hid hl
    clear hr
    go_enter Try.func27, Try.ntmps27
    go_wp2_with fail
    go_loopg [4, 5] n (fun g v i wr => RRel w n l g v i wr)
    case atStart => exact ⟨0, [], rfl, by omega, rfl, rfl, HS, Lib.hid (ownI_nil _ _), Lib.hid (Below.refl _ _)⟩
    case round =>
      obtain ⟨k, ys, rfl, hkg, hk4, hyk, HD, HO, HW⟩ := hrel
      by_cases hlt : k < n
      · obtain ⟨x, y, z, u, ex, ey, ez, eu, ed⟩ := four_of (l := l) (k := k) (by omega)
        obtain ⟨b, off, rfl, _, hc⟩ := (HR.out.kept HW.out).resolve_left (fun e => by rw [e] at hl; simp at hl; omega)
        have cx := hc k x ex
        have cy := hc (k + 1) y ey
        have cz := hc (k + 2) z ez
        have cu := hc (k + 3) u eu
        have j0 : (0 : Int) ≤ (k : Int) := by omega
        have j1 : (k : Int) + 1 < (n : Int) := by omega
        have j2 : (k : Int) + 2 < (n : Int) := by omega
        have j3 : (k : Int) + 3 < (n : Int) := by omega
        have j4 : (0 : Int) ≤ (k : Int) + 1 := by omega
        have j5 : (0 : Int) ≤ (k : Int) + 2 := by omega
        have j6 : (0 : Int) ≤ (k : Int) + 3 := by omega
        rw [ed] at HD
        clear ex ey ez eu ed hc
        go_wp2_with fail
        go_quiet (fail)
        rw [sum_spell]
        have HW2 := Lib.hid (belowN HW.out nq)
        have o1 : (wr.drewN nq).ownsRow w.heap.size 3 1 u4 ys.length (intVals ys) := HO.out
        clear HW HO cx cy cz cu j0 j1 j2 j3 j4 j5 j6
        generalize wr.drewN nq = wq at *
        have HLT := Lib.hid (num4_lt x y z u)
        have bs := HW2.out.size
        by_cases hle : num4 x y z u ≤ 2147483647
        · have HS2 := Lib.hid (HD.out.step hle)
          generalize num4 x y z u = q at *
          go_wp2_with (at_builtin; refine wpList_append_own _ rfl (.tmp 48) (.tmp 50) 23 rfl w.heap.size 3 i0 (.int .i64 0) 1 8 Try.underlying23 hi hz0 hz1 hz2 rfl (by decide) _ _ _ rfl (o1.alloc _) ⟨wq.heap.size, 0, none⟩ 1 1 [.int .i64 (q : Int)] rfl rfl (cell_one_new _ _ _) (by simp [Value.oneCell']) (by unfold maxLen; omega) (by omega) (by simp; omega) ?_; intro v3 w3 hown3 hg3 _)
          have HM := Lib.hid (RRel.next (w3 := w3) hkg (by omega) hk4 hyk HS2.out o1 HW2.out hown3 hg3)
          clear hown3 hg3 o1
          go_roundg (gk - 4)
          case measure => omega
          case rel => exact HM.out
        · have HP := Lib.hid (read_bad (HD.out.bad hle) HW2.out)
          generalize num4 x y z u = q at *
          go_wp2_with fail
          go_ret2
          exact HP.out
      · obtain rfl : k = n := by omega
        have hD := HD.out
        rw [List.drop_of_length_le (by rw [HL.out]; omega)] at hD
        have HP := Lib.hid (read_good hD.done HW.out HO.out)
        clear hD
        go_wp2_with fail
        go_ret2
        exact HP.out
  · have HP := Lib.hid (read_bad (w := w) (w' := w) (rd_bad l (by rw [hl]; exact h4)) (Below.refl _ _))
    have hm : ¬ ((n : Int) % 4 = 0) := by omega
    clear h4 hl hr
    go_enter Try.func27, Try.ntmps27
    go_wp2_with fail
    go_ret2
    exact HP.out
end Go.Proofs.Ytnmiccagkfpkiaa

/-
  What the document's own Decode comes to (package tailraceref09).
-/
namespace Go.Proofs.Ytnmiccagkfpkiaa
open Go.RowKit

set_option maxRecDepth 20000 in
set_option maxHeartbeats 3200000 in
theorem refDecode_any {R : Nat} (A : Option Addr) (n c : Nat) (b : List UInt8) (w : World) (hl : b.length = n) (hr : Bys w R A b) (hn : n ≤ 1000000) :
    Calls Try.prog 14 #[.slice A n c] w (UEnd w (SB.decE b) (SB.decS b)) := by
  have b0 := below_one w (.cells #[.int .i64 0, .int .i64 0, .int .i64 0, .slice none 0 0, .int .i64 0] 25)
  have B0 := Lib.hid b0
  have HR := Lib.hid (ubox_new w (.int .i64 0) (.int .i64 0) (.int .i64 0) (.slice none 0 0) (.int .i64 0))
  have HY := Lib.hid (hr.kept b0)
  have HL := Lib.hid hl
  clear hr hl b0
  go_enter Try.func14, Try.ntmps14
  go_upto_region 1 with fail
  generalize w.alloc (.cells #[.int .i64 0, .int .i64 0, .int .i64 0, .slice none 0 0, .int .i64 0] 25) = w0 at *
  go_wp2_with fail
  refine (frefRead_any A n c b w0 HL.out HY.out hn).mono ?_
  rintro e w2 ⟨v2, rfl, o2, b2⟩
  have B2 := Lib.hid (B0.out.trans (b2.mono B0.out.size))
  have HR2 := Lib.hid (HR.out.kept b2)
  have O2 := Lib.hid o2
  have Z0 := Lib.hid HR.out.lt
  clear o2 b2 HR
  cases hrd : rd b with
  | none =>
    have HE : rdE b = 50 := by unfold rdE; rw [hrd]; rfl
    rw [HE]
    have HZ := Lib.hid (udec_zero (show SB.dec b = none by unfold SB.dec; rw [hrd]; rfl) B2.out)
    obtain ⟨q0, q1, q2, q3, q4⟩ := HR2.out.cells
    obtain ⟨f0, f1, f2, f3, f4⟩ := HR2.out.free
    obtain ⟨e0, e1, e2, e3, e4⟩ := (Lib.hid (HR2.out.put (.int .i64 0) (.int .i64 0) (.int .i64 0) (.slice none 0 0) (.int .i64 0))).out.cells
    clear HE hrd
    go_wp2_with fail
    refine bodyPost_ret (v := .tuple #[.agg #[.int .i64 0, .int .i64 0, .int .i64 0, .slice none 0 0, .int .i64 0], .int .i64 90]) (by simp [results, Try.results14, go_sem, e0, e1, e2, e3, e4]) rfl ?_
    exact HZ.out
  | some l =>
    have HE : rdE b = 0 := by unfold rdE; rw [hrd]; rfl
    rw [HE]
    have o2 := O2.out
    rw [show rdL b = l by unfold rdL; rw [hrd]; rfl] at o2
    obtain ⟨A2, c2, rfl, _, l2⟩ := Ln.of_own o2
    have L2 := Lib.hid l2
    have HD : Hid (SB.dec b = SB.ofNums l) := Lib.hid (by unfold SB.dec; rw [hrd]; rfl)
    have hO : Hid (UHi (w.heap.size + 1) A2) := Lib.hid ((UHi.of_own o2).low Z0.out)
    have hll : l.length ≤ 250000 := by
      have := rd_length hrd
      have := HL.out
      omega
    clear HE o2 l2 O2 hrd
    by_cases h4 : l.length < 4
    · have HZ := Lib.hid (udec_zero (HD.out.trans (SB.ofNums_few h4)) B2.out)
      obtain ⟨q0, q1, q2, q3, q4⟩ := HR2.out.cells
      obtain ⟨f0, f1, f2, f3, f4⟩ := HR2.out.free
      obtain ⟨e0, e1, e2, e3, e4⟩ := (Lib.hid (HR2.out.put (.int .i64 0) (.int .i64 0) (.int .i64 0) (.slice none 0 0) (.int .i64 0))).out.cells
      obtain ⟨Q, hQ⟩ : ∃ Q, l.length = Q := ⟨_, rfl⟩
      rw [hQ] at h4 ⊢
      clear hQ L2 hll hO
      go_wp2_with fail
      refine bodyPost_ret (v := .tuple #[.agg #[.int .i64 0, .int .i64 0, .int .i64 0, .slice none 0 0, .int .i64 0], .int .i64 90]) (by simp [results, Try.results14, go_sem, e0, e1, e2, e3, e4]) rfl ?_
      exact HZ.out
    · obtain ⟨ep, ro, he, ct, pg, rfl⟩ := four_more (by omega : 4 ≤ l.length)
      obtain ⟨Q, hQ⟩ : ∃ Q, (ep :: ro :: he :: ct :: pg).length = Q := ⟨_, rfl⟩
      obtain ⟨bb, off, z, rfl, hz, c0⟩ := L2.out.intAt (k := 0) (by omega)
      obtain rfl : ep = z := by simpa using hz
      have c1 := L2.out.cell (j := 1) (u := .int .i64 ro) rfl
      have c2' := L2.out.cell (j := 2) (u := .int .i64 he) rfl
      have c3 := L2.out.cell (j := 3) (u := .int .i64 ct) rfl
      have hle := L2.out.le
      have HT := Lib.hid (ln_tail L2.out)
      have HO4 : Hid (UHi (w.heap.size + 1) (some ⟨bb, off + 4, none⟩)) := Lib.hid hO.out.next
      have HDD : Hid (SB.ofNums (ep :: ro :: he :: ct :: pg) = if (SB.mk ep ro he ct pg).okB = true then some ⟨ep, ro, he, ct, pg⟩ else none) := Lib.hid rfl
      rw [hQ] at L2 hle HT h4 hll ⊢
      clear hz hQ L2 hO
      rw [Nat.add_zero] at c0
      have bx := below_one w2 (.cells #[.int .i64 0, .int .i64 0, .int .i64 0, .slice none 0 0, .int .i64 0] 25)
      have hbb : bb < w2.heap.size := World.block_lt_of_cell? _ _ c0
      have d0 := (bx.cell (p := ⟨bb, off, none⟩) hbb).trans c0
      have d1 := (bx.cell (p := ⟨bb, off + 1, none⟩) hbb).trans c1
      have d2 := (bx.cell (p := ⟨bb, off + 2, none⟩) hbb).trans c2'
      have d3 := (bx.cell (p := ⟨bb, off + 3, none⟩) hbb).trans c3
      clear bx
      go_wp2_with fail
      go_region
      have L4 := Lib.hid (ln_rest HT.out)
      have O4 : Hid (UHi (w.heap.size + 1) (restA bb off c2)) := Lib.hid (uhi_rest HO4.out)
      rw [show (if c2 = 4 then some (⟨bb, off, none⟩ : Addr) else some ⟨bb, off + 4, none⟩) = restA bb off c2 from rfl]
      clear c0 c1 c2' c3 d0 d1 d2 d3 HT HO4
      generalize restA bb off c2 = A4 at *
      have HX : Hid (UBox (w2.alloc (.cells #[.int .i64 ep, .int .i64 ro, .int .i64 he, .slice A4 (Q - 4) (c2 - 4), .int .i64 ct] 25)).drew w2.heap.size (.int .i64 ep) (.int .i64 ro) (.int .i64 he) (.slice A4 (Q - 4) (c2 - 4)) (.int .i64 ct)) :=
        Lib.hid (UBox.block (ubox_new w2 (.int .i64 ep) (.int .i64 ro) (.int .i64 he) (.slice A4 (Q - 4) (c2 - 4)) (.int .i64 ct)) rfl)
      have bx : Below w2.heap.size w2 (w2.alloc (.cells #[.int .i64 ep, .int .i64 ro, .int .i64 he, .slice A4 (Q - 4) (c2 - 4), .int .i64 ct] 25)).drew := (below_one w2 _).trans ⟨rfl, rfl, rfl, Nat.le_refl _, fun _ _ => rfl⟩
      have L5 := Lib.hid (L4.out.kept bx)
      have B5 := Lib.hid (B2.out.trans (bx.mono B2.out.size))
      have HR5 := Lib.hid (HR2.out.kept bx)
      clear bx L4 HR2 B2
      generalize (w2.alloc (.cells #[.int .i64 ep, .int .i64 ro, .int .i64 he, .slice A4 (Q - 4) (c2 - 4), .int .i64 ct] 25)).drew = w5 at *
      obtain ⟨x0, x1, x2, x3, x4⟩ := HX.out.cells
      go_wp2_with fail
      refine (refCheck_any ep ro he ct A4 (Q - 4) (c2 - 4) pg w5 L5.out (by omega)).mono ?_
      rintro e w6 ⟨rfl, b6⟩
      have B6 := Lib.hid (B5.out.trans (b6.mono B5.out.size))
      have HR6 := Lib.hid (HR5.out.kept b6)
      have HX6 := Lib.hid (HX.out.kept b6)
      have L6 := Lib.hid (L5.out.kept b6)
      clear x0 x1 x2 x3 x4 HX b6 HR5 L5
      obtain ⟨q0, q1, q2, q3, q4⟩ := HR6.out.cells
      obtain ⟨f0, f1, f2, f3, f4⟩ := HR6.out.free
      cases hk : (SB.mk ep ro he ct pg).okB with
      | false =>
        rw [checkE_bad hk]
        have HZ := Lib.hid (udec_zero (HD.out.trans (HDD.out.trans (if_neg (by rw [hk]; decide)))) B6.out)
        obtain ⟨e0, e1, e2, e3, e4⟩ := (Lib.hid (HR6.out.put (.int .i64 0) (.int .i64 0) (.int .i64 0) (.slice none 0 0) (.int .i64 0))).out.cells
        clear hk
        go_wp2_with fail
        refine bodyPost_ret (v := .tuple #[.agg #[.int .i64 0, .int .i64 0, .int .i64 0, .slice none 0 0, .int .i64 0], .int .i64 90]) (by simp [results, Try.results14, go_sem, e0, e1, e2, e3, e4]) rfl ?_
        exact HZ.out
      | true =>
        rw [checkE_good hk]
        have HDS := Lib.hid (SB.dec_some (HD.out.trans (HDD.out.trans (if_pos hk))))
        obtain ⟨x0, x1, x2, x3, x4⟩ := HX6.out.cells
        obtain ⟨e0, e1, e2, e3, e4⟩ := (Lib.hid (HR6.out.put (.int .i64 ep) (.int .i64 ro) (.int .i64 he) (.slice A4 (Q - 4) (c2 - 4)) (.int .i64 ct))).out.cells
        have HZ := Lib.hid (uput_done (ep := ep) (ro := ro) (he := he) (ct := ct) (err := 0) B6.out (Nat.le_refl w.heap.size) L6.out O4.out (.int .i64 ep) (.int .i64 ro) (.int .i64 he) (.slice A4 (Q - 4) (c2 - 4)) (.int .i64 ct))
        clear hk
        go_wp2_with fail
        refine bodyPost_ret (v := .tuple #[.agg #[.int .i64 ep, .int .i64 ro, .int .i64 he, .slice A4 (Q - 4) (c2 - 4), .int .i64 ct], .int .i64 0]) (by simp [results, Try.results14, go_sem, e0, e1, e2, e3, e4]) rfl ?_
        rw [HDS.out.1, HDS.out.2]
        exact HZ.out
end Go.Proofs.Ytnmiccagkfpkiaa

/-
  A superblock one of whose bytes is turned, plainly. Nothing here names the program.
-/
namespace Go.Proofs.Ytnmiccagkfpkiaa
open SB

theorem mod_set {l : List UInt8} {i : Nat} {z : UInt8} (f : UInt8 → UInt8) (h : l[i]? = some z) : l.modify i f = l.set i (f z) := by
  apply List.ext_getElem?
  intro j
  rw [List.getElem?_modify, List.getElem?_set]
  by_cases hj : i = j
  · subst hj
    rw [if_pos rfl, if_pos (List.getElem?_eq_some_iff.1 h).1, h]
    simp
  · rw [if_neg hj]
    cases l[j]? <;> simp [hj]

theorem lie_twist {s : SB} (n at_ : Int) {by_ : UInt8} (h : by_ ≠ 0) : SB.lie n (PS.twist s.fr at_ by_) = none := by
  have hl := fr_length s
  have hi : (at_ % (s.fr.length : Int)).toNat < s.fr.length := by
    have := Int.emod_nonneg at_ (b := (s.fr.length : Int)) (by omega)
    have := Int.emod_lt_of_pos at_ (b := (s.fr.length : Int)) (by omega)
    omega
  unfold PS.twist
  generalize (at_ % (s.fr.length : Int)).toNat = i at *
  have hz : s.fr[i]? = some s.fr[i] := List.getElem?_eq_getElem hi
  generalize s.fr[i] = z at *
  rw [mod_set _ hz]
  refine SB.lie_none1 (fun hf => h ?_)
  have e := isF_turn (k := 1) (p := s.ep % 2) (l := s.bytes) hz hf
  have e2 : z ^^^ (z ^^^ by_) = z ^^^ z := by rw [e]
  rwa [← UInt8.xor_assoc, UInt8.xor_self, UInt8.zero_xor] at e2

theorem turn_ends {s t : SB} (hs : s.okB = true) (ht : t.okB = true) (m : Nat) (hm : 2 ≤ m) (at_ : Int) (h0 : 0 ≤ at_) {by_ : UInt8} (hb : by_ ≠ 0) :
    (PS.new m).superE s = 0 ∧ ((PS.new m).supered s).superE t = 0 ∧ (((PS.new m).supered s).supered t).turnE (t.ep % 2) at_ = 0 ∧
    (s.ep % 2 = t.ep % 2 → ((((PS.new m).supered s).supered t).turned (t.ep % 2) at_ by_).chooseE = 91) ∧
    (s.ep % 2 ≠ t.ep % 2 → ((((PS.new m).supered s).supered t).turned (t.ep % 2) at_ by_).chooseE = 0 ∧ ((((PS.new m).supered s).supered t).turned (t.ep % 2) at_ by_).chooseS = s) := by
  have c0 := Calm.new hm
  obtain ⟨e1, f1⟩ := c0.lays hs
  rw [f1]
  have c1 := c0.put (s.ep % 2) s.fr
  obtain ⟨e2, f2⟩ := c1.lays ht
  rw [f2]
  have c2 := c1.put (t.ep % 2) t.fr
  refine ⟨e1, e2, ?_⟩
  generalize hd : ((PS.new m).put (s.ep % 2) s.fr).put (t.ep % 2) t.fr = d at *
  have hsz : 2 ≤ d.size := c2.s2
  have l1 : d.L (t.ep % 2) = t.fr := by rw [← hd]; exact PS.put_at _ _ _
  have l2 : s.ep % 2 ≠ t.ep % 2 → d.L (s.ep % 2) = s.fr := fun h => by rw [← hd, PS.put_off _ _ h]; exact PS.put_at _ _ _
  have l3 : ∀ n, n ≠ s.ep % 2 → n ≠ t.ep % 2 → d.L n = [] := fun n a b => by rw [← hd, PS.put_off _ _ b, PS.put_off _ _ a]; rfl
  clear hd f1 f2 e1 e2 c0 c1
  have hh : d.has (t.ep % 2) = true := PS.has_two hsz (par t.ep).1 (par t.ep).2
  have hne : ¬ (d.held (t.ep % 2) = [] ∨ at_ < 0) := by
    rw [PS.held_none (c2.w0 _), l1]
    intro h
    rcases h with h | h
    · have := fr_length t
      rw [h] at this
      simp at this
    · omega
  have e3 : d.turnE (t.ep % 2) at_ = 0 := by
    unfold PS.turnE
    rw [hh, if_pos rfl, if_neg hne]
  have e4 : d.turned (t.ep % 2) at_ by_ = d.put (t.ep % 2) (PS.twist t.fr at_ by_) := by
    unfold PS.turned
    rw [hh, if_pos rfl, if_neg hne, c2.w0 (t.ep % 2)]
    show PS.mk _ _ _ _ _ _ = _
    unfold PS.put
    rw [l1]
  refine ⟨e3, ?_⟩
  rw [e4]
  have c3 := c2.put (t.ep % 2) (PS.twist t.fr at_ by_)
  have l4 := PS.put_at d (t.ep % 2) (PS.twist t.fr at_ by_)
  have l5 : ∀ n, n ≠ t.ep % 2 → (d.put (t.ep % 2) (PS.twist t.fr at_ by_)).L n = d.L n := fun n hn => PS.put_off _ _ hn
  generalize d.put (t.ep % 2) (PS.twist t.fr at_ by_) = r at *
  constructor
  · intro h
    refine (PS.choose_up_none c3.up (c3.none_ (fun n => ?_))).1
    by_cases hn : n = t.ep % 2
    · rw [hn, l4]
      exact lie_twist _ _ hb
    · rw [l5 n hn, l3 n (by rw [h]; exact hn) hn]
      exact lie_nil _
  · intro h
    refine PS.choose_up c3.up (c3.one (s := s) ?_ (fun n hn => ?_))
    · rw [l5 _ h, l2 h]
      exact SB.lie_fr hs
    · by_cases hq : n = t.ep % 2
      · rw [hq, l4]
        exact lie_twist _ _ hb
      · rw [l5 n hq, l3 n hn hq]
        exact lie_nil _
end Go.Proofs.Ytnmiccagkfpkiaa

/-
  What the disk's Fuse comes to.
-/
namespace Go.Proofs.Ytnmiccagkfpkiaa
open Go.RowKit Go.Maps

section
variable {F : Nat → Prop} {db : Nat} {s : PS}

theorem fuse_end {bl bw : Nat} {gL gW : Ghost} (w : World) (k z : Int) (b : Bool) (hb : b = decide (0 ≤ k)) (hz : z = (k.toNat : Int)) (h2 : k ≤ 9223372036854775807) (h : DiskAt w F (fun _ => False) db bl bw gL gW s) :
    Goes w F db (s.fusing k) (.tuple #[]) (.returned (.tuple #[])) ((w.setCell ⟨db, 4, none⟩ (.bool b)).setCell ⟨db, 5, none⟩ (.int .i64 z)) := by
  subst hz
  subst hb
  refine ⟨rfl, F, ⟨bl, bw, gL, gW, ?_⟩, fun k hk => Or.inl hk, (Kept.setCell w h.fd _).next (Kept.setCell _ h.fd _)⟩
  have e1 := Joins.block_setCell (i := 4) h.str (.bool (decide (0 ≤ k)))
  exact h.field (d := s.down) (f := decide (0 ≤ k)) (n := k.toNat) (by omega) (by rw [Joins.block_setCell e1]; rfl) (fun j hj => (Below.heap_setCell _ _ _ _ hj).trans (Below.heap_setCell _ _ _ _ hj)) (by simp [World.setCell])

set_option maxRecDepth 20000 in
theorem fuse_any (w : World) (k : Int) (h1 : -9223372036854775808 ≤ k) (h2 : k ≤ 9223372036854775807) (h : Dk w F db s) :
    Calls Try.prog 20 #[.pointer (some ⟨db, 0, none⟩), .int .i64 k] w (Goes w F db (s.fusing k) (.tuple #[])) := by
  obtain ⟨bl, bw, gL, gW, h⟩ := h
  have c4 := h.cell 4 (v := .bool s.fused) rfl
  have c5 := h.cell 5 (v := .int .i64 s.fuse) rfl
  have f4 := h.free 4
  have f5 := h.free 5
  have HD := Lib.hid h
  clear h
  go_enter Try.func20, Try.ntmps20
  go_wp2_with fail
  all_goals
    go_end0
    refine fuse_end w k _ _ ?_ ?_ h2 HD.out
    · first | rfl | (rw [eq_comm, decide_eq_true_iff]; omega)
    · omega
end
end Go.Proofs.Ytnmiccagkfpkiaa

/-
  What the disk's Restart comes to.
-/
namespace Go.Proofs.Ytnmiccagkfpkiaa
open Go.RowKit Go.Maps

section
variable {F : Nat → Prop} {db bl bw : Nat} {gL gW : Ghost} {s : PS}

theorem keep_step {s : PS} {keep : List Int} {k : Nat} {x : Int} (hx : keep[k]? = some x) : (s.kept (keep.take k)).settled x = s.kept (keep.take (k + 1)) := by
  have e : (s.kept (keep.take k)).held x = s.held x := by
    unfold PS.held PS.kept
    dsimp only
    cases h : s.W x with
    | some l => rfl
    | none => simp [PS.held, h]
  have e2 : keep.take (k + 1) = keep.take k ++ [x] := by rw [List.take_add_one, hx]; rfl
  unfold PS.settled
  rw [e]
  show ({ s with L := fun j => if j = x then s.held x else (s.kept (keep.take k)).L j } : PS) = _
  unfold PS.kept
  congr 1
  funext j
  rw [e2]
  by_cases hj : j = x
  · rw [if_pos hj, if_pos (by simp [hj]), hj]
  · rw [if_neg hj]
    show (if j ∈ keep.take k then s.held j else s.L j) = _
    by_cases hm : j ∈ keep.take k
    · rw [if_pos hm, if_pos (by simp [hm])]
    · rw [if_neg hm, if_neg (by simp [hm, hj])]

theorem keep_none (s : PS) : s.kept [] = s := by
  unfold PS.kept
  simp

def RestartRel (w : World) (F : Nat → Prop) (db bl bw : Nat) (gW : Ghost) (s : PS) (keep : List Int) (k : Nat) (wr : World) : Prop :=
  ∃ gL' S, DiskAt wr F S db bl bw gL' gW (s.kept (keep.take k)) ∧ Kept F w wr

set_option maxRecDepth 20000 in
set_option maxHeartbeats 1600000 in
theorem restart_any (w : World) (A : Option Addr) (m c : Nat) (keep : List Int) (hl : keep.length = m) (hm : m ≤ 1000000) (hx : OutN w F A keep) (h : Dk w F db s) :
    Calls Try.prog 21 #[.pointer (some ⟨db, 0, none⟩), .slice A m c] w (Goes w F db (s.restarted keep) (.tuple #[])) := by
  obtain ⟨bl, bw, gL, gW, h⟩ := h
  have HD := Lib.hid h
  have HX := Lib.hid hx
  have HL := Lib.hid hl
  clear h hx hl
  go_enter Try.func21, Try.ntmps21
  go_wp2_with fail
  go_loopw [5, 10] (fun _ i wr => ∃ k : Nat, k ≤ m ∧ i = .int .i64 k ∧ RestartRel w F db bl bw gW s keep k wr) (fun _ i _ => m - (RowKit.intOf i).toNat)
  case atStart =>
    refine ⟨0, Nat.zero_le _, rfl, gL, fun _ => False, ?_, Kept.refl _ _⟩
    rw [List.take_zero, keep_none]
    exact HD.out
  case round =>
    obtain ⟨k, hk, rfl, gL', S, hd2, hk2⟩ := hrel
    have HD2 := Lib.hid hd2
    have HK2 := Lib.hid hk2
    by_cases hlt : k < m
    · obtain ⟨b, off, x, rfl, hx, hc, hx1, hx2⟩ := (HX.out.kept hk2).at_ (k := k) (by rw [HL.out]; exact hlt)
      have HXX := Lib.hid hx
      clear hd2 hk2 hx
      go_wp2_with fail
      refine (settle_any wr x hx1 hx2 HD2.out).mono ?_
      rintro e w3 ⟨rfl, gL3, hd4, row, hg3, hrow⟩
      rw [keep_step HXX.out] at hd4
      have HD4 := Lib.hid hd4
      have HK4 : Hid (Kept F w w3) := HK2.out.next ⟨hg3.os, hg3.tape, hg3.output, hg3.size, fun j hj hn => hg3.block j hj (fun e => hn (by rw [hrow j e.symm]; exact HD.out.fl))⟩
      clear hd4 hg3 hrow hc
      go_wp2_with fail
      go_roundw
      case rel => exact ⟨k + 1, by omega, by go_num, gL3, _, HD4.out, HK4.out⟩
      case measure => simp [RowKit.intOf]; omega
    · have hkm : k = m := by omega
      have c2r := hd2.cell 2 (v := .map (some bw)) rfl
      have HKM := Lib.hid hkm
      clear hd2 hk2 hkm
      go_wp2_with (refine wpList_clear_at _ rfl (.tmp 21) rfl bw _ rfl HD2.out.mW ?_; intro w4 hm4 hg4; have hd4 := HD2.out.cleared hm4 hg4; have d3 := hd4.cell 3 (v := .bool s.down) rfl; have d4 := hd4.cell 4 (v := .bool s.fused) rfl; have d5 := hd4.cell 5 (v := .int .i64 s.fuse) rfl; have f3 := hd4.free 3; have f4 := hd4.free 4; have f5 := hd4.free 5; have HD4 := Lib.hid hd4; have HK4 : Hid (Kept F w w4) := HK2.out.next (Kept.grown hg4 HD.out.fw); clear hd4 hg4 hm4)
      go_end0
      have h4 := HD4.out
      have e3 := Joins.block_setCell (i := 3) h4.str (.bool false)
      have e4 := Joins.block_setCell (i := 4) e3 (.bool false)
      have e5 := Joins.block_setCell (i := 5) e4 (.int .i64 0)
      have h5 := h4.field (d := false) (f := false) (n := 0) (by omega) e5 (fun j hj => (Below.heap_setCell _ _ _ _ hj).trans ((Below.heap_setCell _ _ _ _ hj).trans (Below.heap_setCell _ _ _ _ hj))) (by simp [World.setCell])
      refine ⟨rfl, F, ?_, fun k hk => Or.inl hk, HK4.out.next ((Kept.setCell w4 HD.out.fd _).next ((Kept.setCell _ HD.out.fd _).next (Kept.setCell _ HD.out.fd _)))⟩
      have e6 : keep.take k = keep := List.take_of_length_le (by rw [HL.out, HKM.out]; exact Nat.le_refl _)
      rw [e6] at h5
      exact h5.rest
end
end Go.Proofs.Ytnmiccagkfpkiaa

/-
  What the disk's Turn comes to.
-/
namespace Go.Proofs.Ytnmiccagkfpkiaa
open Go.RowKit Go.Maps

theorem modify_set {l : List UInt8} {k : Nat} {z : UInt8} (f : UInt8 → UInt8) (h : l[k]? = some z) : l.modify k f = l.set k (f z) := by
  apply List.ext_getElem?
  intro j
  rw [List.getElem?_modify, List.getElem?_set]
  by_cases hj : k = j
  · subst hj
    have hk : k < l.length := (List.getElem?_eq_some_iff.1 h).1
    rw [if_pos rfl, if_pos hk, h]
    simp
  · rw [if_neg hj]
    cases l[j]? <;> simp [hj]

section
variable {F : Nat → Prop} {db bl bw : Nat} {gL gW : Ghost} {s : PS}

theorem vals_same {g : Ghost} {n : Int} {v : Value} {l m : List UInt8} (h : g n = some (v, l)) : vals (updG g n (some (v, m))) = vals g := by
  funext j
  unfold vals updG
  by_cases e : j = n
  · rw [if_pos e, e, h]
    rfl
  · rw [if_neg e]

/-- One byte of what waits is written. -/
theorem DiskAt.pokeW {w w' : World} {n : Int} {v : Value} {l m : List UInt8} {g : Nat} (h : DiskAt w F (fun _ => False) db bl bw gL gW s) (hn : gW n = some (v, l)) (hg : v.ownBlock = some g) (hm : m.length = l.length)
    (ho : Own w' 0 v m) (hk : ∀ k, k ≠ g → w'.heap[k]? = w.heap[k]?) (hs : w.heap.size ≤ w'.heap.size) :
    DiskAt w' F (fun _ => False) db bl bw gL (updG gW n (some (v, m))) (s.lay n m) := by
  obtain ⟨o, r2, r3, r4⟩ := h.oW n v l hn
  have hne := h.own_ne o hg
  exact
    { h with
      str := (hk _ hne.1.symm).trans h.str
      mL := h.mL.block (hk _ hne.2.1.symm)
      mW := by rw [vals_same hn]; exact h.mW.block (hk _ hne.2.2.symm)
      lt := fun k hF => Nat.lt_of_lt_of_le (h.lt k hF) hs
      oL := fun i u q hi => by
        obtain ⟨o', q1, q2, q3, q4⟩ := h.oL i u q hi
        exact ⟨own_of_block o' (fun k hk' => hk k (fun e => (h.aX i n u q v l k hi hn hk' (by rw [e]; exact hg)).2)), q1, q2, q3, q4⟩
      oW := fun i u q hi => by
        rcases updG_some hi with ⟨rfl, e⟩ | ⟨hne, e⟩
        · injection e with e
          injection e with e1 e2
          subst e1
          subst e2
          exact ⟨ho, by rw [hm]; exact r2, r3, r4⟩
        · obtain ⟨o', q2, q3, q4⟩ := h.oW i u q e
          exact ⟨own_of_block o' (fun k hk' => hk k (fun e' => hne (h.aW i n u q v l k e hn hk' (by rw [e']; exact hg)))), q2, q3, q4⟩
      aW := fun i j v1 l1 u q k h1 h2 h3 h4 => by
        rcases updG_some h1 with ⟨e0, e⟩ | ⟨n1, e1⟩ <;> rcases updG_some h2 with ⟨e0', e'⟩ | ⟨n2, e2⟩
        · exact e0.trans e0'.symm
        · injection e with e
          injection e with e3 e4
          subst e3
          exact absurd (h.aW j n u q v l k e2 hn h4 h3) n2
        · injection e' with e'
          injection e' with e3 e4
          subst e3
          exact absurd (h.aW i n v1 l1 v l k e1 hn h3 h4) n1
        · exact h.aW i j v1 l1 u q k e1 e2 h3 h4
      aX := fun i j v1 l1 u q k h1 h2 h3 h4 => by
        rcases updG_some h2 with ⟨e0, e⟩ | ⟨n1, e1⟩
        · injection e with e
          injection e with e3 e4
          subst e3
          exact ((h.aX i n v1 l1 v l k h1 hn h3 h4).2).elim
        · exact h.aX i j v1 l1 u q k h1 e1 h3 h4
      sW := fun i => by
        show (if i = n then some m else s.W i) = _
        unfold updG
        by_cases e : i = n
        · rw [if_pos e, if_pos e]
          rfl
        · rw [if_neg e, if_neg e]
          exact h.sW i }

/-- One byte of what lasts is written. -/
theorem DiskAt.pokeL {w w' : World} {n : Int} {v : Value} {l m : List UInt8} {g : Nat} (h : DiskAt w F (fun _ => False) db bl bw gL gW s) (hn : gL n = some (v, l)) (hg : v.ownBlock = some g) (hm : m.length = l.length)
    (ho : Own w' 0 v m) (hk : ∀ k, k ≠ g → w'.heap[k]? = w.heap[k]?) (hs : w.heap.size ≤ w'.heap.size) :
    DiskAt w' F (fun _ => False) db bl bw (updG gL n (some (v, m))) gW { s with L := fun j => if j = n then m else s.L j } := by
  obtain ⟨o, r1, r2, r3, r4⟩ := h.oL n v l hn
  have hne := h.own_ne o hg
  exact
    { h with
      str := (hk _ hne.1.symm).trans h.str
      mL := by rw [vals_same hn]; exact h.mL.block (hk _ hne.2.1.symm)
      mW := h.mW.block (hk _ hne.2.2.symm)
      lt := fun k hF => Nat.lt_of_lt_of_le (h.lt k hF) hs
      oW := fun i u q hi => by
        obtain ⟨o', q2, q3, q4⟩ := h.oW i u q hi
        exact ⟨own_of_block o' (fun k hk' => hk k (fun e => (h.aX n i v l u q k hn hi (by rw [e]; exact hg) hk').2)), q2, q3, q4⟩
      oL := fun i u q hi => by
        rcases updG_some hi with ⟨rfl, e⟩ | ⟨hne, e⟩
        · injection e with e
          injection e with e1 e2
          subst e1
          subst e2
          refine ⟨ho, fun e => r1 ?_, by rw [hm]; exact r2, r3, r4⟩
          rw [e] at hm
          exact List.eq_nil_of_length_eq_zero hm.symm
        · obtain ⟨o', q1, q2, q3, q4⟩ := h.oL i u q e
          exact ⟨own_of_block o' (fun k hk' => hk k (fun e' => hne (h.aL i n u q v l k e hn hk' (by rw [e']; exact hg)))), q1, q2, q3, q4⟩
      aL := fun i j v1 l1 u q k h1 h2 h3 h4 => by
        rcases updG_some h1 with ⟨e0, e⟩ | ⟨n1, e1⟩ <;> rcases updG_some h2 with ⟨e0', e'⟩ | ⟨n2, e2⟩
        · exact e0.trans e0'.symm
        · injection e with e
          injection e with e3 e4
          subst e3
          exact absurd (h.aL j n u q v l k e2 hn h4 h3) n2
        · injection e' with e'
          injection e' with e3 e4
          subst e3
          exact absurd (h.aL i n v1 l1 v l k e1 hn h3 h4) n1
        · exact h.aL i j v1 l1 u q k e1 e2 h3 h4
      aX := fun i j v1 l1 u q k h1 h2 h3 h4 => by
        rcases updG_some h1 with ⟨e0, e⟩ | ⟨n1, e1⟩
        · injection e with e
          injection e with e3 e4
          subst e3
          exact ((h.aX n j v l u q k hn h2 h3 h4).2).elim
        · exact h.aX i j v1 l1 u q k e1 h2 h3 h4
      sL := fun i => by
        show (if i = n then m else s.L i) = _
        unfold updG
        by_cases e : i = n
        · rw [if_pos e, if_pos e]
          rfl
        · rw [if_neg e, if_neg e]
          exact h.sL i }

theorem xor_u8 (z b : UInt8) : bits .xor .u8 (z.toNat : Int) (b.toNat : Int) = (((z ^^^ b).toNat : Nat) : Int) := by
  rw [UInt8.toNat_xor]
  exact u8_xor_nat _ _ (UInt8.toNat_lt z) (UInt8.toNat_lt b)

theorem spot_of (i : Int) (n : Nat) (hn : ¬ n = 0) : ∃ k : Nat, k < n ∧ i % (n : Int) = (k : Int) := by
  have h1 := Int.emod_nonneg i (show (n : Int) ≠ 0 by omega)
  have h2 := Int.emod_lt_of_pos i (show (0 : Int) < n by omega)
  exact ⟨(i % (n : Int)).toNat, by omega, by omega⟩

/-- The byte that is turned, and the disk behind it. -/
theorem DiskAt.turn_at {w : World} (n at_ : Int) (by_ : UInt8) (h : DiskAt w F (fun _ => False) db bl bw gL gW s) (hh : s.has n = true) (hl : s.held n ≠ []) (h0 : 0 ≤ at_) :
    ∃ g cap k z, heldV gL gW n = .slice (some ⟨g, 0, none⟩) (s.held n).length cap ∧ k < (s.held n).length ∧ (s.held n).length ≤ cap ∧ at_ % ((s.held n).length : Int) = (k : Int) ∧ w.cell? ⟨g, k, none⟩ = some (.int .u8 (z : UInt8).toNat) ∧ w.frozen? ⟨g, k, none⟩ = false ∧
      Hid (Dk (w.setCell ⟨g, k, none⟩ (.int .u8 (z ^^^ by_).toNat)) F db (s.turned n at_ by_) ∧ Kept F w (w.setCell ⟨g, k, none⟩ (.int .u8 (z ^^^ by_).toNat))) := by
  have hp : ¬ (s.held n).length = 0 := fun e => hl (List.eq_nil_of_length_eq_zero e)
  obtain ⟨k, hk, hki⟩ := spot_of at_ _ hp
  obtain ⟨o, hF⟩ := h.held_own n
  obtain ⟨g, cap, z, hv, hz, h1, h2, _, h4⟩ := own_store o hk
  have hgF : F g := hF g (by rw [hv]; rfl)
  have hcap : (s.held n).length ≤ cap := by
    obtain ⟨A, c, e, hc, _⟩ := own_slice o
    rw [hv] at e
    injection e with _ _ e
    rw [e]
    exact hc
  refine ⟨g, cap, k, z, hv, hk, hcap, hki, h1, h2, ?_, Kept.setCell _ hgF _⟩
  have ho := h4 (z ^^^ by_)
  have hkb : ∀ j, j ≠ g → (w.setCell ⟨g, k, none⟩ (.int .u8 (z ^^^ by_).toNat)).heap[j]? = w.heap[j]? := fun j hj => Below.heap_setCell _ _ _ _ hj
  have hsz : w.heap.size ≤ (w.setCell ⟨g, k, none⟩ (.int .u8 (z ^^^ by_).toNat)).heap.size := by simp [World.setCell]
  have etw : PS.twist (s.held n) at_ by_ = (s.held n).set k (z ^^^ by_) := by
    unfold PS.twist
    rw [hki]
    exact modify_set _ hz
  have eT : s.turned n at_ by_ = (match s.W n with
    | some l => s.lay n (PS.twist l at_ by_)
    | none => { s with L := fun j => if j = n then PS.twist (s.L n) at_ by_ else s.L j }) := by
    unfold PS.turned
    rw [if_pos hh, if_neg (by rintro (e | e); exact hl e; omega)]
    cases s.W n <;> rfl
  rw [eT]
  have hob : (heldV gL gW n).ownBlock = some g := by rw [hv]; rfl
  cases hW : gW n with
  | some p =>
    obtain ⟨v, l⟩ := p
    have e1 : s.W n = some l := by rw [h.sW, hW]; rfl
    have e2 : s.held n = l := by unfold PS.held; rw [e1]; rfl
    have e3 : heldV gL gW n = v := by unfold heldV vals; rw [hW]; rfl
    rw [e3] at ho hob
    rw [e2] at ho etw
    rw [e1]
    have hp := h.pokeW hW hob (by simp) ho hkb hsz
    rw [← etw] at hp
    exact ⟨bl, bw, gL, _, hp⟩
  | none =>
    have e1 : s.W n = none := by rw [h.sW, hW]; rfl
    have e2 : s.held n = s.L n := by unfold PS.held; rw [e1]; rfl
    cases hL : gL n with
    | none =>
      rw [e2, h.sL, hL] at hl
      exact absurd rfl hl
    | some p =>
      obtain ⟨v, l⟩ := p
      have e4 : s.L n = l := by rw [h.sL, hL]; rfl
      have e3 : heldV gL gW n = v := by unfold heldV vals; rw [hW, hL]; rfl
      rw [e3] at ho hob
      rw [e2, e4] at ho etw
      rw [e1]
      have hp := h.pokeL hL hob (by simp) ho hkb hsz
      rw [← etw, ← e4] at hp
      exact ⟨bl, bw, _, gW, hp⟩

set_option maxRecDepth 20000 in
set_option maxHeartbeats 800000 in
theorem turn_any (w : World) (n : Int) (h1 : -9223372036854775808 ≤ n) (h2 : n ≤ 9223372036854775807) (at_ : Int) (h3 : -9223372036854775808 ≤ at_) (h4 : at_ ≤ 9223372036854775807) (by_ : UInt8) (h : Dk w F db s) :
    Calls Try.prog 23 #[.pointer (some ⟨db, 0, none⟩), .int .i64 n, .int .i64 at_, .int .u8 by_.toNat] w (Goes w F db (s.turned n at_ by_) (.int .i64 (s.turnE n at_))) := by
  have H0 := Lib.hid h
  obtain ⟨bl, bw, gL, gW, h⟩ := h
  have c0 := h.cell 0 (v := .int .i64 s.size) rfl
  have HD := Lib.hid h
  by_cases hh : s.has n = true
  · have HC : Hid (Calls Try.prog 40 #[.pointer (some ⟨db, 0, none⟩), .int .i64 n] w fun e w' => e = .returned (.bool true) ∧ w = w') := hh ▸ has_any w db s n c0
    have hle := PS.held_le h.ok n
    by_cases hg : s.held n = [] ∨ at_ < 0
    · have eB : s.turned n at_ by_ = s := by unfold PS.turned; rw [if_pos hh, if_pos hg]
      have eE : s.turnE n at_ = 1 := by unfold PS.turnE; rw [if_pos hh, if_pos hg]
      rw [eB, eE]
      by_cases hl : s.held n = []
      · have HL := Lib.hid hl
        clear h eB eE hh hg hl hle
        go_enter Try.func23, Try.ntmps23
        go_wp2_with fail
        refine HC.out.mono ?_
        rintro e w' ⟨rfl, rfl⟩
        go_wp2_with fail
        refine (held_any w n h1 h2 HD.out).mono ?_
        rintro e w' ⟨rfl, rfl⟩
        have ho := (HD.out.held_own n).1
        generalize heldV gL gW n = v at *
        obtain ⟨A, c, rfl, hc, hz⟩ := own_slice ho
        rw [HL.out]
        clear ho hz hc
        go_wp2_with fail
        go_ret
        exact ⟨rfl, F, H0.out, fun k hk => Or.inl hk, Kept.refl _ _⟩
      · have h0 : at_ < 0 := hg.resolve_left hl
        have hl0 : (((s.held n).length : Int) == 0) = false := by
          rw [beq_eq_false_iff_ne]
          intro e
          exact hl (List.eq_nil_of_length_eq_zero (by omega))
        clear h eB eE hh hg hl hle
        go_enter Try.func23, Try.ntmps23
        go_wp2_with fail
        refine HC.out.mono ?_
        rintro e w' ⟨rfl, rfl⟩
        go_wp2_with fail
        refine (held_any w n h1 h2 HD.out).mono ?_
        rintro e w' ⟨rfl, rfl⟩
        have ho := (HD.out.held_own n).1
        generalize heldV gL gW n = v at *
        obtain ⟨A, c, rfl, hc, hz⟩ := own_slice ho
        clear ho hz hc
        go_wp2_with fail
        go_ret
        exact ⟨rfl, F, H0.out, fun k hk => Or.inl hk, Kept.refl _ _⟩
    · have hl : ¬ s.held n = [] := fun e => hg (Or.inl e)
      have h0 : 0 ≤ at_ := by
        by_cases e : at_ < 0
        · exact absurd (Or.inr e) hg
        · omega
      have eE : s.turnE n at_ = 0 := by unfold PS.turnE; rw [if_pos hh, if_neg hg]
      rw [eE]
      have hl0 : (((s.held n).length : Int) == 0) = false := by
        rw [beq_eq_false_iff_ne]
        intro e
        exact hl (List.eq_nil_of_length_eq_zero (by omega))
      have hl1 : 1 ≤ (s.held n).length := by
        rcases Nat.eq_zero_or_pos (s.held n).length with e | e
        · exact absurd (List.eq_nil_of_length_eq_zero e) hl
        · exact e
      obtain ⟨g, cap, k, z, hv, hk, hcap, hki, hc, hf, HT⟩ := h.turn_at n at_ by_ hh hl h0
      have hx := xor_u8 z by_
      have HV := Lib.hid hv
      clear h eE hh hg hl hv
      go_enter Try.func23, Try.ntmps23
      go_wp2_with fail
      refine HC.out.mono ?_
      rintro e w' ⟨rfl, rfl⟩
      go_wp2_with fail
      refine (held_any w n h1 h2 HD.out).mono ?_
      rintro e w' ⟨rfl, rfl⟩
      rw [HV.out]
      generalize (s.held n).length = m at *
      go_wp2_with fail
      go_ret
      exact ⟨rfl, F, HT.out.1, fun k hk => Or.inl hk, HT.out.2⟩
  · have hh' : s.has n = false := by simpa using hh
    have HC : Hid (Calls Try.prog 40 #[.pointer (some ⟨db, 0, none⟩), .int .i64 n] w fun e w' => e = .returned (.bool false) ∧ w = w') := hh' ▸ has_any w db s n c0
    have eB : s.turned n at_ by_ = s := by unfold PS.turned; rw [if_neg hh]
    have eE : s.turnE n at_ = 41 := by unfold PS.turnE; rw [if_neg hh]
    rw [eB, eE]
    clear h eB eE hh hh'
    go_enter Try.func23, Try.ntmps23
    go_wp2_with fail
    refine HC.out.mono ?_
    rintro e w' ⟨rfl, rfl⟩
    go_wp2_with fail
    go_ret
    exact ⟨rfl, F, H0.out, fun k hk => Or.inl hk, Kept.refl _ _⟩
end
end Go.Proofs.Ytnmiccagkfpkiaa

/-
  A disk in the midst of a law: Fuse, Restart, Turn.
-/
namespace Go.Proofs.Ytnmiccagkfpkiaa
open Go.RowKit Go.Maps

section
variable {W : World} {F : Nat → Prop} {db : Nat} {s : PS}

set_option maxRecDepth 20000 in
theorem fuse_live (w : World) (k : Int) (h1 : -9223372036854775808 ≤ k) (h2 : k ≤ 9223372036854775807) (h : Live W F w db s) :
    Calls Try.prog 20 #[.pointer (some ⟨db, 0, none⟩), .int .i64 k] w (LGoes W F w db (s.fusing k) (.tuple #[])) :=
  (fuse_any w k h1 h2 h.dk).mono fun _ _ g => h.goes g
set_option maxRecDepth 20000 in
theorem restart_live (w : World) (A : Option Addr) (m c : Nat) (keep : List Int) (hl : keep.length = m) (hm : m ≤ 1000000) (hx : OutN w F A keep) (h : Live W F w db s) :
    Calls Try.prog 21 #[.pointer (some ⟨db, 0, none⟩), .slice A m c] w (LGoes W F w db (s.restarted keep) (.tuple #[])) :=
  (restart_any w A m c keep hl hm hx h.dk).mono fun _ _ g => h.goes g
set_option maxRecDepth 20000 in
theorem turn_live (w : World) (n : Int) (h1 : -9223372036854775808 ≤ n) (h2 : n ≤ 9223372036854775807) (at_ : Int) (h3 : -9223372036854775808 ≤ at_) (h4 : at_ ≤ 9223372036854775807) (by_ : UInt8) (h : Live W F w db s) :
    Calls Try.prog 23 #[.pointer (some ⟨db, 0, none⟩), .int .i64 n, .int .i64 at_, .int .u8 by_.toNat] w (LGoes W F w db (s.turned n at_ by_) (.int .i64 (s.turnE n at_))) :=
  (turn_any w n h1 h2 at_ h3 h4 by_ h.dk).mono fun _ _ g => h.goes g

end
end Go.Proofs.Ytnmiccagkfpkiaa
