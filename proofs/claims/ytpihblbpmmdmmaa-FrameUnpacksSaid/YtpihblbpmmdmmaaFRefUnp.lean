/-
  What the document's own Unpack comes to (package tailraceref05).
-/
import Derived.Test.YtpihblbpmmdmmaaFRefPack
import Derived.Test.YtpihblbpmmdmmaaFUnp
namespace Go.Proofs.Ytpihblbpmmdmmaa
open Go.RowKit

theorem own_nilz {w : World} {base n c : Nat} {A : Option Addr} {l : List UInt8} (h : Own w base (.slice A n c) l) : A = none → n = 0 ∧ c = 0 := by
  intro e
  subst e
  rcases h.2 with ⟨e, _⟩ | ⟨g, cap, cur, e, _⟩
  · injection e with _ e1 e2
    exact ⟨e1, e2⟩
  · injection e with e1
    cases e1

set_option maxHeartbeats 400000 in
theorem refUnp_short (p : Int) (A : Option Addr) (n c : Nat) (l : List UInt8) (w : World) (hl : l.length = n) (h : n < 11) :
    Calls Try.prog 15 #[.int .i64 p, .slice A n c] w (UnpEnd w p l) := by
  have HP := Lib.hid (unp_bad (w := w) (w' := w) (p := p) (b := l) (fun hf => by have := hf.1; omega) (Below.refl _ _))
  clear hl
  go_enter Try.func15, Try.ntmps15
  go_wp2_with fail
  go_ret3
  exact HP.out

set_option maxHeartbeats 1600000 in
theorem refUnp_long {R : Nat} (p : Int) (A : Option Addr) (n c : Nat) (l : List UInt8) (w : World) (hl : l.length = n) (hr : Bys w R A l) (hnc : n ≤ c) (hn : n ≤ 1000000) (h : ¬ n < 11) :
    Calls Try.prog 15 #[.int .i64 p, .slice A n c] w (UnpEnd w p l) := by
  obtain ⟨i0, hi, hz0, hz1, hz2⟩ := info_parts byteInfo
  obtain ⟨b, off, z, rfl, hbR, hz, c0⟩ := hr.at_ (k := 0) (by omega)
  have HZ := Lib.hid (kin_at hz)
  have HR := Lib.hid hr
  have HL := Lib.hid hl
  have hdl : (dat l).length = n - 4 - 7 := by rw [dat_length, hl]
  have HDL := Lib.hid hdl
  have HN : Hid (n - 4 - 7 ≤ 1000000 ∧ n ≤ 1000000 ∧ 11 ≤ n) := ⟨by omega, hn, by omega⟩
  rw [Nat.add_zero] at c0
  have q1 : (7 : Int) ≤ (n : Int) - 4 := by omega
  have q2 : (n : Int) - 4 ≤ (c : Int) := by omega
  have q3 : (0 : Int) ≤ (n : Int) - 4 := by omega
  have q4 : ¬ c = 7 := by omega
  have hw : wrap64 (z.toNat : Int) = (z.toNat : Int) := by unfold wrap64; have := UInt8.toNat_lt z; omega
  have hown0 := own_made w
  have lz := Lib.hid (Lies.bys (c := c - 7) ((dat_bys hr).alloc (.cells #[] 5)) (n := n - 4 - 7) (fun e => by cases e))
  clear hl hr hz hbR hdl
  go_enter Try.func15, Try.ntmps15
  go_wp2_with (at_builtin; refine wpList_append_lay _ rfl (.tmp 13) (.tmp 18) 23 rfl w.heap.size 5 i0 _ 1 1 Try.underlying23 hi hz0 hz1 hz2 rfl (by decide) _ _ _ rfl hown0 (some ⟨b, off + 7, none⟩) (n - 4 - 7) (c - 7) (bv (dat l)) rfl (by rw [bv_length, HDL.out]; omega) lz.out (bv_one _) (by unfold maxLen; omega) (by omega) (by simp) ?_; intro v1 w1 hown1 hg1; have ow1 := bytes_one HDL.out hown1; obtain ⟨A1, c1, rfl, e1, hc1, _, r1⟩ := Bys.of_own ow1; have b1 : Below w.heap.size w w1 := ((Below.refl _ _).alloc (Nat.le_refl _) _).grown hg1 (by simp) (fun g hg => (hown0.lt g hg).1); have c1' := (b1.cell (p := ⟨b, off, none⟩) (World.block_lt_of_cell? _ _ c0)).trans c0)
  have R1 := Lib.hid r1
  have O1 := Lib.hid ow1
  have B1 := Lib.hid b1
  have L1 := Lib.hid (HR.out.kept b1)
  clear hg1 hown1 hown0 lz r1 ow1 b1 c0 q1 q2 q3 q4
  refine (refPack_all (z.toNat : Int) p A1 (dat l).length c1 (dat l) _ rfl R1.out (own_nilz O1.out)).mono ?_
  rintro e w2 ⟨v, rfl, o2, b2⟩
  rw [← HZ.out] at o2 ⊢
  have B2 : Hid (Below w.heap.size w w2) := B1.out.trans (b2.mono B1.out.size)
  have L2 := L1.out.kept b2
  have O2 := Lib.hid (own_below O1.out b2)
  have c2' := (b2.cell (p := ⟨b, off, none⟩) (World.block_lt_of_cell? _ _ c1')).trans c1'
  rw [← HZ.out] at c2'
  clear R1 O1 B1 L1 b2 c1'
  by_cases hok : FOk (kin l) p (dat l).length
  · have e1 : packE (kin l) p (dat l) = 0 := by unfold packE; rw [if_pos hok]
    have e2 : packB (kin l) p (dat l) = frm (kin l) p (dat l) := by unfold packB; rw [if_pos hok]
    rw [e1]
    rw [e2] at o2
    obtain ⟨A3, c3, rfl, hl3, _, _, r3⟩ := Bys.of_own o2
    have t3 := run_text (P := Try.prog) r3 23 9 5 _ c3 rfl Try.underlying23 Try.underlying5 Try.underlying9
    have t4 := run_text (P := Try.prog) L2 23 9 5 n c HL.out Try.underlying23 Try.underlying5 Try.underlying9
    by_cases hfr : frm (kin l) p (dat l) = l
    · have hf : IsF p l := ⟨by rw [HL.out]; exact HN.out.2.2, hok, hfr⟩
      have HP : Hid (unpK p l = kin l ∧ unpE p l = 0 ∧ unpB p l = dat l) := by
        unfold unpK unpE unpB
        rw [if_pos hf, if_pos hf, if_pos hf]
        exact Lib.hid ⟨rfl, rfl, rfl⟩
      have hkw : wrap64 (kin l) = kin l := by rw [HZ.out]; exact hw
      rw [hfr] at t3 ⊢
      rw [HL.out] at t3 ⊢
      clear e1 e2 o2 hok hl3 hfr hf r3 L2 hw HZ
      generalize kin l = kk at *
      go_wp2_with fail
      go_ret3
      refine ⟨.slice A1 (dat l).length c1, ?_, ?_, B2.out⟩
      · show Ending.returned (.tuple #[.int .i64 (wrap64 kk), .slice A1 (dat l).length c1, .int .i64 0]) = _
        rw [hkw, HP.out.1, HP.out.2.1]
      · rw [HP.out.2.2]
        exact O2.out
    · have hne : (frm (kin l) p (dat l) == l) = false := by simpa using hfr
      have HP := Lib.hid (unp_bad (p := p) (b := l) (fun hf => hfr hf.2.2) B2.out)
      generalize frm (kin l) p (dat l) = F at *
      obtain ⟨N, hN⟩ : ∃ N, F.length = N := ⟨_, rfl⟩
      rw [hN] at t3 ⊢
      clear e1 e2 o2 hok hl3 hfr r3 L2 hN
      generalize kin l = kk at *
      go_wp2_with fail
      go_ret3
      exact HP.out
  · have e1 : packE (kin l) p (dat l) = 1 := by unfold packE; rw [if_neg hok]
    have HP := Lib.hid (unp_bad (p := p) (b := l) (fun hf => hok hf.2.1) B2.out)
    rw [e1]
    clear e1 o2 hok L2
    generalize kin l = kk at *
    go_wp2_with fail
    go_ret3
    exact HP.out

/-- The document's own Unpack, whatever is handed in. -/
theorem refUnp_all {R : Nat} (p : Int) (A : Option Addr) (n c : Nat) (l : List UInt8) (w : World) (hl : l.length = n) (hr : Bys w R A l) (hnc : n ≤ c) (hn : n ≤ 1000000) :
    Calls Try.prog 15 #[.int .i64 p, .slice A n c] w (UnpEnd w p l) := by
  by_cases h : n < 11
  · exact refUnp_short p A n c l w hl h
  · exact refUnp_long p A n c l w hl hr hnc hn h
end Go.Proofs.Ytpihblbpmmdmmaa
