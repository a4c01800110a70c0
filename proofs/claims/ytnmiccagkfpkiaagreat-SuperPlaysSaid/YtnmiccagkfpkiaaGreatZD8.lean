/-
  A part of the proof: what its texts say stands at the head of each. Conditions: none.
-/
import Derived.RegionTactic
import Derived.ChangeAlike
import Derived.BigRegion
import Derived.Shelf.SlIterI.Nil
import Derived.Shelf.SortM.Plain
import Derived.Shelf.SortM.SortNone
import Derived.Ground.GgzProg
import Derived.Ground.SlgmProg
import Derived.Test.YtnmiccagkfpkiaaGreatProg
import Derived.Test.YtnmiccagkfpkiaaGreatZD1
import Derived.Test.YtnmiccagkfpkiaaGreatZD3
import Derived.Test.YtnmiccagkfpkiaaGreatZD4
import Derived.Test.YtnmiccagkfpkiaaGreatZD5
import Derived.Test.YtnmiccagkfpkiaaGreatZD6
import Derived.Test.YtnmiccagkfpkiaaGreatZD7

/-
  What the document's own Decode comes to (package tailraceref09).
-/
namespace Go.Proofs.YtnmiccagkfpkiaaGreat
open Go.RowKit

set_option maxRecDepth 20000 in
set_option maxHeartbeats 3200000 in
theorem refDecode_any {R : Nat} (A : Option Addr) (n c : Nat) (b : List UInt8) (w : World) (hl : b.length = n) (hr : Bys w R A b) (hn : n ≤ 1000000) :
    Calls Tryz.prog 30 #[.slice A n c] w (UEnd w (SB.decE b) (SB.decS b)) := by
  have b0 := below_one w (.cells #[.int .i64 0, .int .i64 0, .int .i64 0, .slice none 0 0, .int .i64 0] 33)
  have B0 := Lib.hid b0
  have HR := Lib.hid (ubox_new w (.int .i64 0) (.int .i64 0) (.int .i64 0) (.slice none 0 0) (.int .i64 0))
  have HY := Lib.hid (hr.kept b0)
  have HL := Lib.hid hl
  clear hr hl b0
  go_enter Tryz.func30, Tryz.ntmps30
  go_upto_region 1 with fail
  generalize w.alloc (.cells #[.int .i64 0, .int .i64 0, .int .i64 0, .slice none 0 0, .int .i64 0] 33) = w0 at *
  go_wp2_with fail
  refine (frefRead_any A n c b w0 HL.out HY.out hn).mono ?_
  rintro e w2 ⟨v2, rfl, o2, b2⟩
  have B2 := Lib.hid (B0.out.trans (b2.mono B0.out.size))
  have HR2 := Lib.hid (HR.out.kept b2)
  have O2 := Lib.hid o2
  have Z0 := Lib.hid HR.out.lt
  clear o2 b2 HR
  cases hrd : rd b with
  | none =>
    have HE : rdE b = 50 := by unfold rdE; rw [hrd]; rfl
    rw [HE]
    have HZ := Lib.hid (udec_zero (show SB.dec b = none by unfold SB.dec; rw [hrd]; rfl) B2.out)
    obtain ⟨q0, q1, q2, q3, q4⟩ := HR2.out.cells
    obtain ⟨f0, f1, f2, f3, f4⟩ := HR2.out.free
    obtain ⟨e0, e1, e2, e3, e4⟩ := (Lib.hid (HR2.out.put (.int .i64 0) (.int .i64 0) (.int .i64 0) (.slice none 0 0) (.int .i64 0))).out.cells
    clear HE hrd
    go_wp2_with fail
    refine bodyPost_ret (v := .tuple #[.agg #[.int .i64 0, .int .i64 0, .int .i64 0, .slice none 0 0, .int .i64 0], .int .i64 90]) (by simp [results, Tryz.results30, go_sem, e0, e1, e2, e3, e4]) rfl ?_
    exact HZ.out
  | some l =>
    have HE : rdE b = 0 := by unfold rdE; rw [hrd]; rfl
    rw [HE]
    have o2 := O2.out
    rw [show rdL b = l by unfold rdL; rw [hrd]; rfl] at o2
    obtain ⟨A2, c2, rfl, _, l2⟩ := Ln.of_own o2
    have L2 := Lib.hid l2
    have HD : Hid (SB.dec b = SB.ofNums l) := Lib.hid (by unfold SB.dec; rw [hrd]; rfl)
    have hO : Hid (UHi (w.heap.size + 1) A2) := Lib.hid ((UHi.of_own o2).low Z0.out)
    have hll : l.length ≤ 250000 := by
      have := rd_length hrd
      have := HL.out
      omega
    clear HE o2 l2 O2 hrd
    by_cases h4 : l.length < 4
    · have HZ := Lib.hid (udec_zero (HD.out.trans (SB.ofNums_few h4)) B2.out)
      obtain ⟨q0, q1, q2, q3, q4⟩ := HR2.out.cells
      obtain ⟨f0, f1, f2, f3, f4⟩ := HR2.out.free
      obtain ⟨e0, e1, e2, e3, e4⟩ := (Lib.hid (HR2.out.put (.int .i64 0) (.int .i64 0) (.int .i64 0) (.slice none 0 0) (.int .i64 0))).out.cells
      obtain ⟨Q, hQ⟩ : ∃ Q, l.length = Q := ⟨_, rfl⟩
      rw [hQ] at h4 ⊢
      clear hQ L2 hll hO
      go_wp2_with fail
      refine bodyPost_ret (v := .tuple #[.agg #[.int .i64 0, .int .i64 0, .int .i64 0, .slice none 0 0, .int .i64 0], .int .i64 90]) (by simp [results, Tryz.results30, go_sem, e0, e1, e2, e3, e4]) rfl ?_
      exact HZ.out
    · obtain ⟨ep, ro, he, ct, pg, rfl⟩ := four_more (by omega : 4 ≤ l.length)
      obtain ⟨Q, hQ⟩ : ∃ Q, (ep :: ro :: he :: ct :: pg).length = Q := ⟨_, rfl⟩
      obtain ⟨bb, off, z, rfl, hz, c0⟩ := L2.out.intAt (k := 0) (by omega)
      obtain rfl : ep = z := by simpa using hz
      have c1 := L2.out.cell (j := 1) (u := .int .i64 ro) rfl
      have c2' := L2.out.cell (j := 2) (u := .int .i64 he) rfl
      have c3 := L2.out.cell (j := 3) (u := .int .i64 ct) rfl
      have hle := L2.out.le
      have HT := Lib.hid (ln_tail L2.out)
      have HO4 : Hid (UHi (w.heap.size + 1) (some ⟨bb, off + 4, none⟩)) := Lib.hid hO.out.next
      have HDD : Hid (SB.ofNums (ep :: ro :: he :: ct :: pg) = if (SB.mk ep ro he ct pg).okB = true then some ⟨ep, ro, he, ct, pg⟩ else none) := Lib.hid rfl
      rw [hQ] at L2 hle HT h4 hll ⊢
      clear hz hQ L2 hO
      rw [Nat.add_zero] at c0
      have bx := below_one w2 (.cells #[.int .i64 0, .int .i64 0, .int .i64 0, .slice none 0 0, .int .i64 0] 33)
      have hbb : bb < w2.heap.size := World.block_lt_of_cell? _ _ c0
      have d0 := (bx.cell (p := ⟨bb, off, none⟩) hbb).trans c0
      have d1 := (bx.cell (p := ⟨bb, off + 1, none⟩) hbb).trans c1
      have d2 := (bx.cell (p := ⟨bb, off + 2, none⟩) hbb).trans c2'
      have d3 := (bx.cell (p := ⟨bb, off + 3, none⟩) hbb).trans c3
      clear bx
      go_wp2_with fail
      go_region
      have L4 := Lib.hid (ln_rest HT.out)
      have O4 : Hid (UHi (w.heap.size + 1) (restA bb off c2)) := Lib.hid (uhi_rest HO4.out)
      rw [show (if c2 = 4 then some (⟨bb, off, none⟩ : Addr) else some ⟨bb, off + 4, none⟩) = restA bb off c2 from rfl]
      clear c0 c1 c2' c3 d0 d1 d2 d3 HT HO4
      generalize restA bb off c2 = A4 at *
      have HX : Hid (UBox (w2.alloc (.cells #[.int .i64 ep, .int .i64 ro, .int .i64 he, .slice A4 (Q - 4) (c2 - 4), .int .i64 ct] 33)).drew w2.heap.size (.int .i64 ep) (.int .i64 ro) (.int .i64 he) (.slice A4 (Q - 4) (c2 - 4)) (.int .i64 ct)) :=
        Lib.hid (UBox.block (ubox_new w2 (.int .i64 ep) (.int .i64 ro) (.int .i64 he) (.slice A4 (Q - 4) (c2 - 4)) (.int .i64 ct)) rfl)
      have bx : Below w2.heap.size w2 (w2.alloc (.cells #[.int .i64 ep, .int .i64 ro, .int .i64 he, .slice A4 (Q - 4) (c2 - 4), .int .i64 ct] 33)).drew := (below_one w2 _).trans ⟨rfl, rfl, rfl, Nat.le_refl _, fun _ _ => rfl⟩
      have L5 := Lib.hid (L4.out.kept bx)
      have B5 := Lib.hid (B2.out.trans (bx.mono B2.out.size))
      have HR5 := Lib.hid (HR2.out.kept bx)
      clear bx L4 HR2 B2
      generalize (w2.alloc (.cells #[.int .i64 ep, .int .i64 ro, .int .i64 he, .slice A4 (Q - 4) (c2 - 4), .int .i64 ct] 33)).drew = w5 at *
      obtain ⟨x0, x1, x2, x3, x4⟩ := HX.out.cells
      go_wp2_with fail
      refine (refCheck_any ep ro he ct A4 (Q - 4) (c2 - 4) pg w5 L5.out (by omega)).mono ?_
      rintro e w6 ⟨rfl, b6⟩
      have B6 := Lib.hid (B5.out.trans (b6.mono B5.out.size))
      have HR6 := Lib.hid (HR5.out.kept b6)
      have HX6 := Lib.hid (HX.out.kept b6)
      have L6 := Lib.hid (L5.out.kept b6)
      clear x0 x1 x2 x3 x4 HX b6 HR5 L5
      obtain ⟨q0, q1, q2, q3, q4⟩ := HR6.out.cells
      obtain ⟨f0, f1, f2, f3, f4⟩ := HR6.out.free
      cases hk : (SB.mk ep ro he ct pg).okB with
      | false =>
        rw [checkE_bad hk]
        have HZ := Lib.hid (udec_zero (HD.out.trans (HDD.out.trans (if_neg (by rw [hk]; decide)))) B6.out)
        obtain ⟨e0, e1, e2, e3, e4⟩ := (Lib.hid (HR6.out.put (.int .i64 0) (.int .i64 0) (.int .i64 0) (.slice none 0 0) (.int .i64 0))).out.cells
        clear hk
        go_wp2_with fail
        refine bodyPost_ret (v := .tuple #[.agg #[.int .i64 0, .int .i64 0, .int .i64 0, .slice none 0 0, .int .i64 0], .int .i64 90]) (by simp [results, Tryz.results30, go_sem, e0, e1, e2, e3, e4]) rfl ?_
        exact HZ.out
      | true =>
        rw [checkE_good hk]
        have HDS := Lib.hid (SB.dec_some (HD.out.trans (HDD.out.trans (if_pos hk))))
        obtain ⟨x0, x1, x2, x3, x4⟩ := HX6.out.cells
        obtain ⟨e0, e1, e2, e3, e4⟩ := (Lib.hid (HR6.out.put (.int .i64 ep) (.int .i64 ro) (.int .i64 he) (.slice A4 (Q - 4) (c2 - 4)) (.int .i64 ct))).out.cells
        have HZ := Lib.hid (uput_done (ep := ep) (ro := ro) (he := he) (ct := ct) (err := 0) B6.out (Nat.le_refl w.heap.size) L6.out O4.out (.int .i64 ep) (.int .i64 ro) (.int .i64 he) (.slice A4 (Q - 4) (c2 - 4)) (.int .i64 ct))
        clear hk
        go_wp2_with fail
        refine bodyPost_ret (v := .tuple #[.agg #[.int .i64 ep, .int .i64 ro, .int .i64 he, .slice A4 (Q - 4) (c2 - 4), .int .i64 ct], .int .i64 0]) (by simp [results, Tryz.results30, go_sem, e0, e1, e2, e3, e4]) rfl ?_
        rw [HDS.out.1, HDS.out.2]
        exact HZ.out
end Go.Proofs.YtnmiccagkfpkiaaGreat

/-
  What the document's own Unpack comes to (package tailraceref05).
-/
namespace Go.Proofs.YtnmiccagkfpkiaaGreat
open Go.RowKit

theorem own_nilz {w : World} {base n c : Nat} {A : Option Addr} {l : List UInt8} (h : Own w base (.slice A n c) l) : A = none → n = 0 ∧ c = 0 := by
  intro e
  subst e
  rcases h.2 with ⟨e, _⟩ | ⟨g, cap, cur, e, _⟩
  · injection e with _ e1 e2
    exact ⟨e1, e2⟩
  · injection e with e1
    cases e1

set_option maxRecDepth 20000 in
set_option maxHeartbeats 400000 in
theorem refUnp_short (p : Int) (A : Option Addr) (n c : Nat) (l : List UInt8) (w : World) (hl : l.length = n) (h : n < 11) :
    Calls Tryz.prog 29 #[.int .i64 p, .slice A n c] w (UnpEnd w p l) := by
  have HP := Lib.hid (unp_bad (w := w) (w' := w) (p := p) (b := l) (fun hf => by have := hf.1; omega) (Below.refl _ _))
  clear hl
  go_enter Tryz.func29, Tryz.ntmps29
  go_wp2_with fail
  go_ret3
  exact HP.out

set_option maxRecDepth 20000 in
set_option maxHeartbeats 1600000 in
theorem refUnp_long {R : Nat} (p : Int) (A : Option Addr) (n c : Nat) (l : List UInt8) (w : World) (hl : l.length = n) (hr : Bys w R A l) (hnc : n ≤ c) (hn : n ≤ 1000000) (h : ¬ n < 11) :
    Calls Tryz.prog 29 #[.int .i64 p, .slice A n c] w (UnpEnd w p l) := by
  obtain ⟨i0, hi, hz0, hz1, hz2⟩ := info_parts byteInfo
  obtain ⟨b, off, z, rfl, hbR, hz, c0⟩ := hr.at_ (k := 0) (by omega)
  have HZ := Lib.hid (kin_at hz)
  have HR := Lib.hid hr
  have HL := Lib.hid hl
  have hdl : (dat l).length = n - 4 - 7 := by rw [dat_length, hl]
  have HDL := Lib.hid hdl
  have HN : Hid (n - 4 - 7 ≤ 1000000 ∧ n ≤ 1000000 ∧ 11 ≤ n) := ⟨by omega, hn, by omega⟩
  rw [Nat.add_zero] at c0
  have q1 : (7 : Int) ≤ (n : Int) - 4 := by omega
  have q2 : (n : Int) - 4 ≤ (c : Int) := by omega
  have q3 : (0 : Int) ≤ (n : Int) - 4 := by omega
  have q4 : ¬ c = 7 := by omega
  have hw : wrap64 (z.toNat : Int) = (z.toNat : Int) := by unfold wrap64; have := UInt8.toNat_lt z; omega
  have hown0 := own_made w
  have lz := Lib.hid (Lies.bys (c := c - 7) ((dat_bys hr).alloc (.cells #[] 5)) (n := n - 4 - 7) (fun e => by cases e))
  clear hl hr hz hbR hdl
  go_enter Tryz.func29, Tryz.ntmps29
  go_wp2_with (at_builtin; refine wpList_append_lay _ rfl (.tmp 13) (.tmp 18) 34 rfl w.heap.size 5 i0 _ 1 1 Tryz.underlying34 hi hz0 hz1 hz2 rfl (by decide) _ _ _ rfl hown0 (some ⟨b, off + 7, none⟩) (n - 4 - 7) (c - 7) (bv (dat l)) rfl (by rw [bv_length, HDL.out]; omega) lz.out (bv_one _) (by unfold maxLen; omega) (by omega) (by simp) ?_; intro v1 w1 hown1 hg1; have ow1 := bytes_one HDL.out hown1; obtain ⟨A1, c1, rfl, e1, hc1, _, r1⟩ := Bys.of_own ow1; have b1 : Below w.heap.size w w1 := ((Below.refl _ _).alloc (Nat.le_refl _) _).grown hg1 (by simp) (fun g hg => (hown0.lt g hg).1); have c1' := (b1.cell (p := ⟨b, off, none⟩) (World.block_lt_of_cell? _ _ c0)).trans c0)
  have R1 := Lib.hid r1
  have O1 := Lib.hid ow1
  have B1 := Lib.hid b1
  have L1 := Lib.hid (HR.out.kept b1)
  clear hg1 hown1 hown0 lz r1 ow1 b1 c0 q1 q2 q3 q4
  refine (refPack_all (z.toNat : Int) p A1 (dat l).length c1 (dat l) _ rfl R1.out (own_nilz O1.out)).mono ?_
  rintro e w2 ⟨v, rfl, o2, b2⟩
  rw [← HZ.out] at o2 ⊢
  have B2 : Hid (Below w.heap.size w w2) := B1.out.trans (b2.mono B1.out.size)
  have L2 := L1.out.kept b2
  have O2 := Lib.hid (own_below O1.out b2)
  have c2' := (b2.cell (p := ⟨b, off, none⟩) (World.block_lt_of_cell? _ _ c1')).trans c1'
  rw [← HZ.out] at c2'
  clear R1 O1 B1 L1 b2 c1'
  by_cases hok : FOk (kin l) p (dat l).length
  · have e1 : packE (kin l) p (dat l) = 0 := by unfold packE; rw [if_pos hok]
    have e2 : packB (kin l) p (dat l) = frm (kin l) p (dat l) := by unfold packB; rw [if_pos hok]
    rw [e1]
    rw [e2] at o2
    obtain ⟨A3, c3, rfl, hl3, _, _, r3⟩ := Bys.of_own o2
    have t3 := run_text (P := Tryz.prog) r3 34 9 5 _ c3 rfl Tryz.underlying34 Tryz.underlying5 Tryz.underlying9
    have t4 := run_text (P := Tryz.prog) L2 34 9 5 n c HL.out Tryz.underlying34 Tryz.underlying5 Tryz.underlying9
    by_cases hfr : frm (kin l) p (dat l) = l
    · have hf : IsF p l := ⟨by rw [HL.out]; exact HN.out.2.2, hok, hfr⟩
      have HP : Hid (unpK p l = kin l ∧ unpE p l = 0 ∧ unpB p l = dat l) := by
        unfold unpK unpE unpB
        rw [if_pos hf, if_pos hf, if_pos hf]
        exact Lib.hid ⟨rfl, rfl, rfl⟩
      have hkw : wrap64 (kin l) = kin l := by rw [HZ.out]; exact hw
      rw [hfr] at t3 ⊢
      rw [HL.out] at t3 ⊢
      clear e1 e2 o2 hok hl3 hfr hf r3 L2 hw HZ
      generalize kin l = kk at *
      go_wp2_with fail
      go_ret3
      refine ⟨.slice A1 (dat l).length c1, ?_, ?_, B2.out⟩
      · show Ending.returned (.tuple #[.int .i64 (wrap64 kk), .slice A1 (dat l).length c1, .int .i64 0]) = _
        rw [hkw, HP.out.1, HP.out.2.1]
      · rw [HP.out.2.2]
        exact O2.out
    · have hne : (frm (kin l) p (dat l) == l) = false := by simpa using hfr
      have HP := Lib.hid (unp_bad (p := p) (b := l) (fun hf => hfr hf.2.2) B2.out)
      generalize frm (kin l) p (dat l) = F at *
      obtain ⟨N, hN⟩ : ∃ N, F.length = N := ⟨_, rfl⟩
      rw [hN] at t3 ⊢
      clear e1 e2 o2 hok hl3 hfr r3 L2 hN
      generalize kin l = kk at *
      go_wp2_with fail
      go_ret3
      exact HP.out
  · have e1 : packE (kin l) p (dat l) = 1 := by unfold packE; rw [if_neg hok]
    have HP := Lib.hid (unp_bad (p := p) (b := l) (fun hf => hok hf.2.1) B2.out)
    rw [e1]
    clear e1 o2 hok L2
    generalize kin l = kk at *
    go_wp2_with fail
    go_ret3
    exact HP.out

set_option maxRecDepth 20000 in
/-- The document's own Unpack, whatever is handed in. -/
theorem refUnp_all {R : Nat} (p : Int) (A : Option Addr) (n c : Nat) (l : List UInt8) (w : World) (hl : l.length = n) (hr : Bys w R A l) (hnc : n ≤ c) (hn : n ≤ 1000000) :
    Calls Tryz.prog 29 #[.int .i64 p, .slice A n c] w (UnpEnd w p l) := by
  by_cases h : n < 11
  · exact refUnp_short p A n c l w hl h
  · exact refUnp_long p A n c l w hl hr hnc hn h
end Go.Proofs.YtnmiccagkfpkiaaGreat

/-
  What the document's disk answers to Read, with the room of what it answers.
-/
namespace Go.Proofs.YtnmiccagkfpkiaaGreat
open Go.RowKit Go.Maps

/-- What its Read answers. -/
def RReadC (w : World) (l : List UInt8) (err : Int) (e : Ending) (w' : World) : Prop :=
  ∃ A c, e = .returned (.tuple #[.slice A l.length c, .int .i64 err]) ∧ Bys w w.heap.size A l ∧ l.length ≤ c ∧ w = w'

section
variable {G : Nat → Prop} {rb : Nat} {s : PS}
set_option maxRecDepth 20000 in
theorem refRead_cap (w : World) (n : Int) (h : Rk w G rb s) :
    Calls Tryz.prog 28 #[.pointer (some ⟨rb, 0, none⟩), .int .i64 n] w (RReadC w (s.readB n) (s.readE n)) := by
  obtain ⟨lb, wb, ib, left, rL, rW, rI, h⟩ := h
  have c0 := h.cell 0 (v := .slice (some ⟨lb, 0, none⟩) s.size s.size) rfl
  have c1 := h.cell 1 (v := .slice (some ⟨wb, 0, none⟩) s.size s.size) rfl
  have c2 := h.cell 2 (v := .slice (some ⟨ib, 0, none⟩) s.size s.size) rfl
  have c3 := h.cell 3 (v := .bool s.down) rfl
  have HD := Lib.hid h
  by_cases hd : s.down = true
  · rw [hd] at c3
    have eB : s.readB n = [] := by unfold PS.readB; rw [if_pos hd]
    have eE : s.readE n = 40 := by unfold PS.readE; rw [if_pos hd]
    rw [eB, eE]
    clear h eB eE hd c0
    go_enter Tryz.func28, Tryz.ntmps28
    go_wp2_with fail
    go_ret2
    exact ⟨none, 0, rfl, Or.inl rfl, Nat.le_refl _, rfl⟩
  · have hd' : s.down = false := by simpa using hd
    rw [hd'] at c3
    by_cases hh : s.has n = true
    · have eB : s.readB n = s.held n := by unfold PS.readB; rw [if_neg hd, if_pos hh]
      have eE : s.readE n = 0 := by unfold PS.readE; rw [if_neg hd, if_pos hh]
      rw [eB, eE]
      obtain ⟨hn0, hn1⟩ := PS.has_iff.1 hh
      obtain ⟨i, rfl⟩ : ∃ i : Nat, n = (i : Int) := ⟨n.toNat, by omega⟩
      have his : i < s.size := by omega
      have HC : Hid (Calls Tryz.prog 57 #[.pointer (some ⟨rb, 0, none⟩), .int .i64 (i : Int)] w fun e w' => e = .returned (.bool true) ∧ w = w') := hh ▸ refIs_any w i _ c0
      obtain ⟨p, q, b, e1, e2, e3, k1, k2, k3, -, -, -⟩ := h.at_ his
      have hs4 := h.s4
      rw [h.held_at e1 e2 e3]
      cases b with
      | true =>
        obtain ⟨A, c, hv, hcap, _⟩ := own_slice (h.oW i q e2).1
        have HCp := Lib.hid hcap
        have HB := Lib.hid (show Bys w w.heap.size A q.2 from by have := (h.oW i q e2).1; rw [hv] at this; exact own_bys this)
        rw [hv] at k2
        clear h eB eE hd hd' hh e1 e2 e3 hv hcap
        go_enter Tryz.func28, Tryz.ntmps28
        go_wp2_with fail
        refine HC.out.mono ?_
        rintro e w' ⟨rfl, rfl⟩
        go_wp2_with fail
        go_ret2
        exact ⟨A, c, rfl, HB.out, HCp.out, rfl⟩
      | false =>
        obtain ⟨A, c, hv, hcap, _⟩ := own_slice (h.oL i p e1).1
        have HCp := Lib.hid hcap
        have HB := Lib.hid (show Bys w w.heap.size A p.2 from by have := (h.oL i p e1).1; rw [hv] at this; exact own_bys this)
        rw [hv] at k1
        clear h eB eE hd hd' hh e1 e2 e3 hv hcap
        go_enter Tryz.func28, Tryz.ntmps28
        go_wp2_with fail
        refine HC.out.mono ?_
        rintro e w' ⟨rfl, rfl⟩
        go_wp2_with fail
        go_ret2
        exact ⟨A, c, rfl, HB.out, HCp.out, rfl⟩
    · have hh' : s.has n = false := by simpa using hh
      have eB : s.readB n = [] := by unfold PS.readB; rw [if_neg hd, if_neg hh]
      have eE : s.readE n = 41 := by unfold PS.readE; rw [if_neg hd, if_neg hh]
      rw [eB, eE]
      have HC : Hid (Calls Tryz.prog 57 #[.pointer (some ⟨rb, 0, none⟩), .int .i64 n] w fun e w' => e = .returned (.bool false) ∧ w = w') := hh' ▸ refIs_any w n _ c0
      clear h eB eE hd hd' hh hh'
      go_enter Tryz.func28, Tryz.ntmps28
      go_wp2_with fail
      refine HC.out.mono ?_
      rintro e w' ⟨rfl, rfl⟩
      go_wp2_with fail
      go_ret2
      exact ⟨none, 0, rfl, Or.inl rfl, Nat.le_refl _, rfl⟩

end
end Go.Proofs.YtnmiccagkfpkiaaGreat

/-
  What the document's own Choose comes to (package tailraceref09).
-/
namespace Go.Proofs.YtnmiccagkfpkiaaGreat
open Go.RowKit Go.Maps

theorem lie_no_dec {n : Int} {b : List UInt8} (h : SB.dec (dat b) = none) : SB.lie n b = none := by
  by_cases h1 : IsF n b
  · by_cases h2 : kin b = 1
    · rw [SB.lie_dec h1 h2, h]
      rfl
    · exact SB.lie_none2 h2
  · exact SB.lie_none1 h1
theorem lie_at {n : Int} {b : List UInt8} {t : SB} (h1 : IsF n b) (h2 : kin b = 1) (h : SB.dec (dat b) = some t) (h3 : t.ep % 2 = n) : SB.lie n b = some t := by
  rw [SB.lie_dec h1 h2, h]
  exact if_pos h3
theorem lie_off {n : Int} {b : List UInt8} {t : SB} (h : SB.dec (dat b) = some t) (h3 : ¬ t.ep % 2 = n) : SB.lie n b = none := by
  by_cases h1 : IsF n b
  · by_cases h2 : kin b = 1
    · rw [SB.lie_dec h1 h2, h]
      exact if_neg h3
    · exact SB.lie_none2 h2
  · exact SB.lie_none1 h1
theorem dec_nil : SB.dec [] = none := rfl
theorem choose_none_r (o : Option SB) : SB.choose o none = o := by cases o <;> rfl

/-- What the loop keeps: the best so far, and the answer's block. -/
def UBest (w : World) (s : SB) (wr : World) : Prop :=
  ∃ A n c, UBox wr (w.heap.size + 1) (.int .i64 s.ep) (.int .i64 s.ro) (.int .i64 s.he) (.slice A n c) (.int .i64 s.ct) ∧ Ln wr 1 A n c (intVals s.pg) ∧ UHi (w.heap.size + 1 + 1) A ∧
    UBox wr w.heap.size (.int .i64 0) (.int .i64 0) (.int .i64 0) (.slice none 0 0) (.int .i64 0) ∧ Below w.heap.size w wr
theorem UBest.kept {w wr w' : World} {s : SB} (h : UBest w s wr) (hb : Below wr.heap.size wr w') : UBest w s w' := by
  obtain ⟨A, n, c, h1, h2, h3, h4, h5⟩ := h
  exact ⟨A, n, c, h1.kept hb, h2.kept hb, h3, h4.kept hb, chainU hb h5⟩
theorem UBest.put {w wr : World} {s : SB} (h : UBest w s wr) {ep ro he ct : Int} {A : Option Addr} {n c : Nat} {pg : List Int} (hl : Ln wr 1 A n c (intVals pg)) (hh : UHi (w.heap.size + 1 + 1) A) :
    UBest w ⟨ep, ro, he, ct, pg⟩ (((((wr.setCell ⟨w.heap.size + 1, 0, none⟩ (.int .i64 ep)).setCell ⟨w.heap.size + 1, 1, none⟩ (.int .i64 ro)).setCell ⟨w.heap.size + 1, 2, none⟩ (.int .i64 he)).setCell ⟨w.heap.size + 1, 3, none⟩ (.slice A n c)).setCell ⟨w.heap.size + 1, 4, none⟩ (.int .i64 ct)) := by
  obtain ⟨A', n', c', h1, h2, h3, h4, h5⟩ := h
  exact ⟨A, n, c, h1.put _ _ _ _ _, hl.ubut (UBut.put wr _ _ _ _ _ _) hh, hh, h4.but (UBut.put wr _ _ _ _ _ _) (by omega), below_uput h5 (by omega) _ _ _ _ _⟩

/-- What is answered where nothing counts. -/
theorem uzeroR {w w1 : World} {er : Int} (hb : Below w.heap.size w w1) : UEnd w er SB.zero (.returned (.tuple #[.agg #[.int .i64 0, .int .i64 0, .int .i64 0, .slice none 0 0, .int .i64 0], .int .i64 er])) (((((w1.setCell ⟨w.heap.size, 0, none⟩ (.int .i64 0)).setCell ⟨w.heap.size, 1, none⟩ (.int .i64 0)).setCell ⟨w.heap.size, 2, none⟩ (.int .i64 0)).setCell ⟨w.heap.size, 3, none⟩ (.slice none 0 0)).setCell ⟨w.heap.size, 4, none⟩ (.int .i64 0)) :=
  uput_done (pg := []) hb (Nat.le_refl _) (Ln.none_ w1 1) (UHi.none_ _) _ _ _ _ _

set_option maxRecDepth 20000 in
set_option maxHeartbeats 25600000 in
theorem refChoose_any {G : Nat → Prop} {rb : Nat} {d : PS} (w : World) (hok : d.Ok) (h : Rk w G rb d) :
    Calls Tryz.prog 12 #[.pointer (some ⟨rb, 0, none⟩)] w (UEnd w d.chooseE d.chooseS) := by
  have b0 := below_two w (.cells #[.int .i64 0, .int .i64 0, .int .i64 0, .slice none 0 0, .int .i64 0] 33) (.cells #[.int .i64 0, .int .i64 0, .int .i64 0, .slice none 0 0, .int .i64 0] 33)
  have HR := (ubox_new w (.int .i64 0) (.int .i64 0) (.int .i64 0) (.slice none 0 0) (.int .i64 0)).kept (below_one _ (.cells #[.int .i64 0, .int .i64 0, .int .i64 0, .slice none 0 0, .int .i64 0] 33))
  have HA : UBox ((w.alloc (.cells #[.int .i64 0, .int .i64 0, .int .i64 0, .slice none 0 0, .int .i64 0] 33)).alloc (.cells #[.int .i64 0, .int .i64 0, .int .i64 0, .slice none 0 0, .int .i64 0] 33)) (w.heap.size + 1) (.int .i64 0) (.int .i64 0) (.int .i64 0) (.slice none 0 0) (.int .i64 0) := by
    have := ubox_new (w.alloc (.cells #[.int .i64 0, .int .i64 0, .int .i64 0, .slice none 0 0, .int .i64 0] 33)) (.int .i64 0) (.int .i64 0) (.int .i64 0) (.slice none 0 0) (.int .i64 0)
    rw [show (w.alloc (.cells #[.int .i64 0, .int .i64 0, .int .i64 0, .slice none 0 0, .int .i64 0] 33)).heap.size = w.heap.size + 1 by simp] at this
    exact this
  have HD := Lib.hid h
  have HU0 : Hid (UBest w SB.zero _) := Lib.hid ⟨none, 0, 0, HA, Ln.none_ _ 1, UHi.none_ _, HR, b0⟩
  have HOK := Lib.hid hok
  have HS2 : Hid (2 ≤ d.size) := by obtain ⟨_, _, _, _, _, _, _, h⟩ := h; exact Lib.hid h.s2
  clear h HR HA b0 hok
  go_enter Tryz.func12, Tryz.ntmps12
  go_upto_region 2 with fail
  generalize (w.alloc (.cells #[.int .i64 0, .int .i64 0, .int .i64 0, .slice none 0 0, .int .i64 0] 33)).alloc (.cells #[.int .i64 0, .int .i64 0, .int .i64 0, .slice none 0 0, .int .i64 0] 33) = w0 at *
  have REL : Hid (∀ wr, UBest w SB.zero wr → Below w.heap.size w wr) := Lib.hid (fun _ h => by obtain ⟨_, _, _, _, _, _, _, h⟩ := h; exact h)
  clear REL
  go_wp2_with fail
  go_loopw [5, 6] (fun fd i wr => ∃ (k : Nat) (z : Int) (o : Option SB), (k = 0 ∧ z = 0 ∧ o = none ∨ k = 1 ∧ z = 1 ∧ o = SB.lie 0 (d.readB 0) ∨ k = 2 ∧ z = 2 ∧ o = d.chosen) ∧ (d.down = true → k = 0) ∧ i = .int .i64 z ∧ fd = .bool o.isSome ∧ Hid (UBest w (o.getD SB.zero) wr)) (fun _ i _ => 2 - (RowKit.intOf i).toNat)
  case atStart => exact ⟨0, 0, none, Or.inl ⟨rfl, rfl, rfl⟩, fun _ => rfl, rfl, rfl, HU0⟩
  case round =>
    obtain ⟨k, z, o, hk, hdn, rfl, rfl, UB⟩ := hrel
    clear HU0
    rcases hk with ⟨rfl, rfl, rfl⟩ | ⟨rfl, rfl, ho⟩ | ⟨rfl, rfl, ho⟩
    · have HD9 := (fun wr (b : Below w.heap.size w wr) => HD.out.below b) wr (by obtain ⟨_, _, _, _, _, _, _, h⟩ := UB.out; exact h)
      by_cases hd : d.down = true
      · go_wp2_with fail
        refine (refRead_cap wr 0 HD9).mono ?_
        rintro e w1 ⟨A1, c1, rfl, -, -, rfl⟩
        rw [PS.readE_down hd]
        obtain ⟨_, _, _, _, _, _, br, bw⟩ := UB.out
        have HZ := Lib.hid (uzeroR (er := 40) bw)
        have HQ := Lib.hid (PS.choose_down hd)
        obtain ⟨q0, q1, q2, q3, q4⟩ := br.cells
        obtain ⟨f0, f1, f2, f3, f4⟩ := br.free
        obtain ⟨e0, e1, e2, e3, e4⟩ := (Lib.hid (br.put (.int .i64 0) (.int .i64 0) (.int .i64 0) (.slice none 0 0) (.int .i64 0))).out.cells
        clear br bw hd hdn
        go_wp2_with fail
        refine bodyPost_ret (v := .tuple #[.agg #[.int .i64 0, .int .i64 0, .int .i64 0, .slice none 0 0, .int .i64 0], .int .i64 40]) (by simp [results, Tryz.results12, go_sem, e0, e1, e2, e3, e4]) rfl ?_
        rw [HQ.out.1, HQ.out.2]
        exact HZ.out
      · have hd' : d.down = false := by simpa using hd
        have HDN := Lib.hid hd
        go_wp2_with fail
        refine (refRead_cap wr 0 HD9).mono ?_
        rintro e w1 ⟨A1, c1, rfl, y1, hcap, rfl⟩
        rw [PS.readE_up hd' (by omega) (by have := HS2.out; omega)]
        have Y1 := Lib.hid y1
        have hle := PS.readB_le HOK.out 0
        have HBQ : Hid (∀ b : List UInt8, d.readB 0 = b → d.readB 0 = b) := Lib.hid (fun _ h => h)
        clear HBQ
        obtain ⟨b, hb⟩ : ∃ b, d.readB 0 = b := ⟨_, rfl⟩
        rw [hb] at Y1 hle hcap ⊢
        have HCT : Hid (∀ o, SB.lie 0 b = o → o = SB.lie 0 (d.readB 0)) := Lib.hid (fun o h => by rw [hb]; exact h.symm)
        obtain ⟨m, hm⟩ : ∃ m, b.length = m := ⟨_, rfl⟩
        rw [hm] at hle hcap ⊢
        have HM := Lib.hid hm
        clear hd hd' hdn y1 hm hb
        go_wp2_with fail
        refine (refUnp_all 0 A1 m c1 b _ HM.out Y1.out hcap (by omega)).mono ?_
        rintro e w2 ⟨v2, rfl, o2, b2⟩
        have UB2 := Lib.hid (UB.out.kept b2)
        have O2 := Lib.hid o2
        clear b2 o2 Y1 UB
        by_cases hf : IsF 0 b
        · have e1 : unpK 0 b = kin b := if_pos hf
          have e2 : unpE 0 b = 0 := if_pos hf
          have e3 : unpB 0 b = dat b := if_pos hf
          rw [e3] at O2
          rw [e1, e2]
          have HF := Lib.hid hf
          clear e1 e2 e3 hf
          obtain ⟨A2, c2, rfl, _, _, _, y2⟩ := Bys.of_own O2.out
          have hdl : (dat b).length ≤ 1100 := by have := dat_length b; have := HM.out; omega
          obtain ⟨m2, hm2⟩ : ∃ m2, (dat b).length = m2 := ⟨_, rfl⟩
          rw [hm2] at hdl ⊢
          have HM2 := Lib.hid hm2
          have Y2 := Lib.hid y2
          clear hm2 y2 O2
          go_wp2_with fail
          refine (refDecode_any A2 m2 c2 (dat b) w2 HM2.out Y2.out (by omega)).mono ?_
          rintro e w3 ⟨v3, rfl, s3, b3⟩
          have UB3 := Lib.hid (UB2.out.kept b3)
          have W2 : Hid (w.heap.size + 1 + 1 ≤ w2.heap.size) := Lib.hid (by obtain ⟨_, _, _, h1, _⟩ := UB2.out; have := h1.lt; omega)
          obtain ⟨A3, c3, rfl, l3, i3⟩ := s3
          have I3 := Lib.hid (i3.low W2.out)
          have L3 := Lib.hid l3
          clear b3 l3 i3 UB2 W2
          cases hdc : SB.dec (dat b) with
          | none =>
            rw [(SB.dec_none hdc).2]
            rw [(SB.dec_none hdc).1] at L3 ⊢
            simp only [SB.zero, List.length_nil] at L3 ⊢
            have HLI := Lib.hid (lie_no_dec (n := 0) hdc)
            clear hdc
            have bx := below_one w3 (.cells #[.int .i64 0, .int .i64 0, .int .i64 0, .slice A3 0 c3, .int .i64 0] 33)
            have UB4 := Lib.hid (UB3.out.kept bx)
            have HX := Lib.hid (ubox_new w3 (.int .i64 0) (.int .i64 0) (.int .i64 0) (.slice A3 0 c3) (.int .i64 0))
            have L4 := Lib.hid (L3.out.kept bx)
            clear bx UB3 L3
            go_upto_region 11 with fail
            generalize w3.alloc (.cells #[.int .i64 0, .int .i64 0, .int .i64 0, .slice A3 0 c3, .int .i64 0] 33) = w4 at *
            obtain ⟨x0, x1, x2, x3, x4⟩ := HX.out.cells
            go_wp2_with fail
            go_roundw
            case rel => exact ⟨1, 1, none, Or.inr (Or.inl ⟨rfl, rfl, (HCT.out _ HLI.out)⟩), fun h => absurd h HDN.out, by go_num, rfl, UB4⟩
            case measure => simp [RowKit.intOf]
          | some t =>
            rw [(SB.dec_some hdc).2]
            rw [(SB.dec_some hdc).1] at L3 ⊢
            have HDC := Lib.hid hdc
            have hep := (SB.ep_ok (SB.bytes_dec hdc).1).1
            obtain ⟨ep, ro, he, ct, pg⟩ := t
            obtain ⟨q, hq⟩ : ∃ q, pg.length = q := ⟨_, rfl⟩
            simp only [hq] at L3 hep ⊢
            clear hdc hq
            have bx := below_one w3 (.cells #[.int .i64 ep, .int .i64 ro, .int .i64 he, .slice A3 q c3, .int .i64 ct] 33)
            have UB4 := Lib.hid (UB3.out.kept bx)
            have HX := Lib.hid (ubox_new w3 (.int .i64 ep) (.int .i64 ro) (.int .i64 he) (.slice A3 q c3) (.int .i64 ct))
            have L4 := Lib.hid (L3.out.kept bx)
            clear bx UB3 L3
            go_upto_region 11 with fail
            generalize w3.alloc (.cells #[.int .i64 ep, .int .i64 ro, .int .i64 he, .slice A3 q c3, .int .i64 ct] 33) = w4 at *
            obtain ⟨x0, x1, x2, x3, x4⟩ := HX.out.cells
            have tq := Int.tmod_eq_emod_of_nonneg (b := 2) hep
            by_cases hk : kin b = 1
            · have HK := Lib.hid hk
              rw [hk]
              clear hk
              by_cases hp : ep % 2 = 0
              · have HLI := Lib.hid (lie_at HF.out HK.out HDC.out hp)
                have hp1 : (ep % 2 != 0) = false := by rw [hp]; exact bne_self_eq_false _
                have hp2 : (Int.tmod ep 2 != 0) = false := by rw [tq, hp]; exact bne_self_eq_false _
                clear hp tq
                obtain ⟨_, _, _, bb, _, _, _, _⟩ := UB4.out
                have P4 := Lib.hid (UB4.out.put (ep := ep) (ro := ro) (he := he) (ct := ct) L4.out I3.out)
                obtain ⟨q0, q1, q2, q3, q4⟩ := bb.cells
                obtain ⟨f0, f1, f2, f3, f4⟩ := bb.free
                clear bb
                go_wp2_with fail
                go_roundw
                case rel => exact ⟨1, 1, some ⟨ep, ro, he, ct, pg⟩, Or.inr (Or.inl ⟨rfl, rfl, (HCT.out _ HLI.out)⟩), fun h => absurd h HDN.out, by go_num, rfl, P4⟩
                case measure => simp [RowKit.intOf]
              · have HLI := Lib.hid (lie_off (n := 0) HDC.out hp)
                have hp1 : (ep % 2 != 0) = true := by rw [bne_iff_ne]; exact hp
                have hp2 : (Int.tmod ep 2 != 0) = true := by rw [tq, bne_iff_ne]; exact hp
                clear hp tq
                go_wp2_with fail
                go_roundw
                case rel => exact ⟨1, 1, none, Or.inr (Or.inl ⟨rfl, rfl, (HCT.out _ HLI.out)⟩), fun h => absurd h HDN.out, by go_num, rfl, UB4⟩
                case measure => simp [RowKit.intOf]
            · have HLI := Lib.hid (SB.lie_none2 (n := 0) hk)
              have hk1 : (kin b != 1) = true := by rw [bne_iff_ne]; exact hk
              generalize kin b = kb at *
              clear hk tq
              go_wp2_with fail
              go_roundw
              case rel => exact ⟨1, 1, none, Or.inr (Or.inl ⟨rfl, rfl, (HCT.out _ HLI.out)⟩), fun h => absurd h HDN.out, by go_num, rfl, UB4⟩
              case measure => simp [RowKit.intOf]
        · have e1 : unpK 0 b = 0 := if_neg hf
          have e2 : unpE 0 b = 50 := if_neg hf
          have e3 : unpB 0 b = [] := if_neg hf
          rw [e3] at O2
          rw [e1, e2]
          have HLI := Lib.hid (SB.lie_none1 hf)
          clear e1 e2 e3 hf
          obtain ⟨A2, c2, rfl, _, _, _, y2⟩ := Bys.of_own O2.out
          have Y2 := Lib.hid y2
          clear y2 O2
          simp only [List.length_nil]
          go_wp2_with fail
          refine (refDecode_any A2 0 c2 [] w2 rfl Y2.out (by omega)).mono ?_
          rintro e w3 ⟨v3, rfl, s3, b3⟩
          have UB3 := Lib.hid (UB2.out.kept b3)
          rw [(SB.dec_none dec_nil).2]
          rw [(SB.dec_none dec_nil).1] at s3
          obtain ⟨A3, c3, rfl, l3, _⟩ := s3
          have L3 := Lib.hid l3
          clear b3 l3 UB2
          simp only [SB.zero, List.length_nil] at L3 ⊢
          have bx := below_one w3 (.cells #[.int .i64 0, .int .i64 0, .int .i64 0, .slice A3 0 c3, .int .i64 0] 33)
          have UB4 := Lib.hid (UB3.out.kept bx)
          have HX := Lib.hid (ubox_new w3 (.int .i64 0) (.int .i64 0) (.int .i64 0) (.slice A3 0 c3) (.int .i64 0))
          have L4 := Lib.hid (L3.out.kept bx)
          clear bx UB3 L3
          go_upto_region 11 with fail
          generalize w3.alloc (.cells #[.int .i64 0, .int .i64 0, .int .i64 0, .slice A3 0 c3, .int .i64 0] 33) = w4 at *
          obtain ⟨x0, x1, x2, x3, x4⟩ := HX.out.cells
          go_wp2_with fail
          go_roundw
          case rel => exact ⟨1, 1, none, Or.inr (Or.inl ⟨rfl, rfl, (HCT.out _ HLI.out)⟩), fun h => absurd h HDN.out, by go_num, rfl, UB4⟩
          case measure => simp [RowKit.intOf]

    · rcases o with _ | ⟨sp, sr, sh, sc, sl⟩
      · have HD9 := (fun wr (b : Below w.heap.size w wr) => HD.out.below b) wr (by obtain ⟨_, _, _, _, _, _, _, h⟩ := UB.out; exact h)
        by_cases hd : d.down = true
        · go_wp2_with fail
          refine (refRead_cap wr 1 HD9).mono ?_
          rintro e w1 ⟨A1, c1, rfl, -, -, rfl⟩
          rw [PS.readE_down hd]
          obtain ⟨_, _, _, _, _, _, br, bw⟩ := UB.out
          have HZ := Lib.hid (uzeroR (er := 40) bw)
          have HQ := Lib.hid (PS.choose_down hd)
          obtain ⟨q0, q1, q2, q3, q4⟩ := br.cells
          obtain ⟨f0, f1, f2, f3, f4⟩ := br.free
          obtain ⟨e0, e1, e2, e3, e4⟩ := (Lib.hid (br.put (.int .i64 0) (.int .i64 0) (.int .i64 0) (.slice none 0 0) (.int .i64 0))).out.cells
          clear br bw hd hdn
          go_wp2_with fail
          refine bodyPost_ret (v := .tuple #[.agg #[.int .i64 0, .int .i64 0, .int .i64 0, .slice none 0 0, .int .i64 0], .int .i64 40]) (by simp [results, Tryz.results12, go_sem, e0, e1, e2, e3, e4]) rfl ?_
          rw [HQ.out.1, HQ.out.2]
          exact HZ.out
        · have hd' : d.down = false := by simpa using hd
          have HDN := Lib.hid hd
          go_wp2_with fail
          refine (refRead_cap wr 1 HD9).mono ?_
          rintro e w1 ⟨A1, c1, rfl, y1, hcap, rfl⟩
          rw [PS.readE_up hd' (by omega) (by have := HS2.out; omega)]
          have Y1 := Lib.hid y1
          have hle := PS.readB_le HOK.out 1
          have HBQ : Hid (∀ b : List UInt8, d.readB 1 = b → d.readB 1 = b) := Lib.hid (fun _ h => h)
          clear HBQ
          obtain ⟨b, hb⟩ : ∃ b, d.readB 1 = b := ⟨_, rfl⟩
          rw [hb] at Y1 hle hcap ⊢
          have HCT : Hid (∀ o, SB.lie 1 b = o → o = d.chosen) := Lib.hid (fun o h => by unfold PS.chosen; rw [← ho, hb, h]; rfl)
          clear ho
          obtain ⟨m, hm⟩ : ∃ m, b.length = m := ⟨_, rfl⟩
          rw [hm] at hle hcap ⊢
          have HM := Lib.hid hm
          clear hd hd' hdn y1 hm hb
          go_wp2_with fail
          refine (refUnp_all 1 A1 m c1 b _ HM.out Y1.out hcap (by omega)).mono ?_
          rintro e w2 ⟨v2, rfl, o2, b2⟩
          have UB2 := Lib.hid (UB.out.kept b2)
          have O2 := Lib.hid o2
          clear b2 o2 Y1 UB
          by_cases hf : IsF 1 b
          · have e1 : unpK 1 b = kin b := if_pos hf
            have e2 : unpE 1 b = 0 := if_pos hf
            have e3 : unpB 1 b = dat b := if_pos hf
            rw [e3] at O2
            rw [e1, e2]
            have HF := Lib.hid hf
            clear e1 e2 e3 hf
            obtain ⟨A2, c2, rfl, _, _, _, y2⟩ := Bys.of_own O2.out
            have hdl : (dat b).length ≤ 1100 := by have := dat_length b; have := HM.out; omega
            obtain ⟨m2, hm2⟩ : ∃ m2, (dat b).length = m2 := ⟨_, rfl⟩
            rw [hm2] at hdl ⊢
            have HM2 := Lib.hid hm2
            have Y2 := Lib.hid y2
            clear hm2 y2 O2
            go_wp2_with fail
            refine (refDecode_any A2 m2 c2 (dat b) w2 HM2.out Y2.out (by omega)).mono ?_
            rintro e w3 ⟨v3, rfl, s3, b3⟩
            have UB3 := Lib.hid (UB2.out.kept b3)
            have W2 : Hid (w.heap.size + 1 + 1 ≤ w2.heap.size) := Lib.hid (by obtain ⟨_, _, _, h1, _⟩ := UB2.out; have := h1.lt; omega)
            obtain ⟨A3, c3, rfl, l3, i3⟩ := s3
            have I3 := Lib.hid (i3.low W2.out)
            have L3 := Lib.hid l3
            clear b3 l3 i3 UB2 W2
            cases hdc : SB.dec (dat b) with
            | none =>
              rw [(SB.dec_none hdc).2]
              rw [(SB.dec_none hdc).1] at L3 ⊢
              simp only [SB.zero, List.length_nil] at L3 ⊢
              have HLI := Lib.hid (lie_no_dec (n := 1) hdc)
              clear hdc
              have bx := below_one w3 (.cells #[.int .i64 0, .int .i64 0, .int .i64 0, .slice A3 0 c3, .int .i64 0] 33)
              have UB4 := Lib.hid (UB3.out.kept bx)
              have HX := Lib.hid (ubox_new w3 (.int .i64 0) (.int .i64 0) (.int .i64 0) (.slice A3 0 c3) (.int .i64 0))
              have L4 := Lib.hid (L3.out.kept bx)
              clear bx UB3 L3
              go_upto_region 11 with fail
              generalize w3.alloc (.cells #[.int .i64 0, .int .i64 0, .int .i64 0, .slice A3 0 c3, .int .i64 0] 33) = w4 at *
              obtain ⟨x0, x1, x2, x3, x4⟩ := HX.out.cells
              go_wp2_with fail
              go_roundw
              case rel => exact ⟨2, 2, none, Or.inr (Or.inr ⟨rfl, rfl, (HCT.out _ HLI.out)⟩), fun h => absurd h HDN.out, by go_num, rfl, UB4⟩
              case measure => simp [RowKit.intOf]
            | some t =>
              rw [(SB.dec_some hdc).2]
              rw [(SB.dec_some hdc).1] at L3 ⊢
              have HDC := Lib.hid hdc
              have hep := (SB.ep_ok (SB.bytes_dec hdc).1).1
              obtain ⟨ep, ro, he, ct, pg⟩ := t
              obtain ⟨q, hq⟩ : ∃ q, pg.length = q := ⟨_, rfl⟩
              simp only [hq] at L3 hep ⊢
              clear hdc hq
              have bx := below_one w3 (.cells #[.int .i64 ep, .int .i64 ro, .int .i64 he, .slice A3 q c3, .int .i64 ct] 33)
              have UB4 := Lib.hid (UB3.out.kept bx)
              have HX := Lib.hid (ubox_new w3 (.int .i64 ep) (.int .i64 ro) (.int .i64 he) (.slice A3 q c3) (.int .i64 ct))
              have L4 := Lib.hid (L3.out.kept bx)
              clear bx UB3 L3
              go_upto_region 11 with fail
              generalize w3.alloc (.cells #[.int .i64 ep, .int .i64 ro, .int .i64 he, .slice A3 q c3, .int .i64 ct] 33) = w4 at *
              obtain ⟨x0, x1, x2, x3, x4⟩ := HX.out.cells
              have tq := Int.tmod_eq_emod_of_nonneg (b := 2) hep
              by_cases hk : kin b = 1
              · have HK := Lib.hid hk
                rw [hk]
                clear hk
                by_cases hp : ep % 2 = 1
                · have HLI := Lib.hid (lie_at HF.out HK.out HDC.out hp)
                  have hp1 : (ep % 2 != 1) = false := by rw [hp]; exact bne_self_eq_false _
                  have hp2 : (Int.tmod ep 2 != 1) = false := by rw [tq, hp]; exact bne_self_eq_false _
                  clear hp tq
                  obtain ⟨_, _, _, bb, _, _, _, _⟩ := UB4.out
                  have P4 := Lib.hid (UB4.out.put (ep := ep) (ro := ro) (he := he) (ct := ct) L4.out I3.out)
                  obtain ⟨q0, q1, q2, q3, q4⟩ := bb.cells
                  obtain ⟨f0, f1, f2, f3, f4⟩ := bb.free
                  clear bb
                  go_wp2_with fail
                  go_roundw
                  case rel => exact ⟨2, 2, some ⟨ep, ro, he, ct, pg⟩, Or.inr (Or.inr ⟨rfl, rfl, (HCT.out _ HLI.out)⟩), fun h => absurd h HDN.out, by go_num, rfl, P4⟩
                  case measure => simp [RowKit.intOf]
                · have HLI := Lib.hid (lie_off (n := 1) HDC.out hp)
                  have hp1 : (ep % 2 != 1) = true := by rw [bne_iff_ne]; exact hp
                  have hp2 : (Int.tmod ep 2 != 1) = true := by rw [tq, bne_iff_ne]; exact hp
                  clear hp tq
                  go_wp2_with fail
                  go_roundw
                  case rel => exact ⟨2, 2, none, Or.inr (Or.inr ⟨rfl, rfl, (HCT.out _ HLI.out)⟩), fun h => absurd h HDN.out, by go_num, rfl, UB4⟩
                  case measure => simp [RowKit.intOf]
              · have HLI := Lib.hid (SB.lie_none2 (n := 1) hk)
                have hk1 : (kin b != 1) = true := by rw [bne_iff_ne]; exact hk
                generalize kin b = kb at *
                clear hk tq
                go_wp2_with fail
                go_roundw
                case rel => exact ⟨2, 2, none, Or.inr (Or.inr ⟨rfl, rfl, (HCT.out _ HLI.out)⟩), fun h => absurd h HDN.out, by go_num, rfl, UB4⟩
                case measure => simp [RowKit.intOf]
          · have e1 : unpK 1 b = 0 := if_neg hf
            have e2 : unpE 1 b = 50 := if_neg hf
            have e3 : unpB 1 b = [] := if_neg hf
            rw [e3] at O2
            rw [e1, e2]
            have HLI := Lib.hid (SB.lie_none1 hf)
            clear e1 e2 e3 hf
            obtain ⟨A2, c2, rfl, _, _, _, y2⟩ := Bys.of_own O2.out
            have Y2 := Lib.hid y2
            clear y2 O2
            simp only [List.length_nil]
            go_wp2_with fail
            refine (refDecode_any A2 0 c2 [] w2 rfl Y2.out (by omega)).mono ?_
            rintro e w3 ⟨v3, rfl, s3, b3⟩
            have UB3 := Lib.hid (UB2.out.kept b3)
            rw [(SB.dec_none dec_nil).2]
            rw [(SB.dec_none dec_nil).1] at s3
            obtain ⟨A3, c3, rfl, l3, _⟩ := s3
            have L3 := Lib.hid l3
            clear b3 l3 UB2
            simp only [SB.zero, List.length_nil] at L3 ⊢
            have bx := below_one w3 (.cells #[.int .i64 0, .int .i64 0, .int .i64 0, .slice A3 0 c3, .int .i64 0] 33)
            have UB4 := Lib.hid (UB3.out.kept bx)
            have HX := Lib.hid (ubox_new w3 (.int .i64 0) (.int .i64 0) (.int .i64 0) (.slice A3 0 c3) (.int .i64 0))
            have L4 := Lib.hid (L3.out.kept bx)
            clear bx UB3 L3
            go_upto_region 11 with fail
            generalize w3.alloc (.cells #[.int .i64 0, .int .i64 0, .int .i64 0, .slice A3 0 c3, .int .i64 0] 33) = w4 at *
            obtain ⟨x0, x1, x2, x3, x4⟩ := HX.out.cells
            go_wp2_with fail
            go_roundw
            case rel => exact ⟨2, 2, none, Or.inr (Or.inr ⟨rfl, rfl, (HCT.out _ HLI.out)⟩), fun h => absurd h HDN.out, by go_num, rfl, UB4⟩
            case measure => simp [RowKit.intOf]

      · have HD9 := (fun wr (b : Below w.heap.size w wr) => HD.out.below b) wr (by obtain ⟨_, _, _, _, _, _, _, h⟩ := UB.out; exact h)
        have HPAR : Hid (sp % 2 = 0) := Lib.hid (SB.lie_ok ho.symm).2
        by_cases hd : d.down = true
        · go_wp2_with fail
          refine (refRead_cap wr 1 HD9).mono ?_
          rintro e w1 ⟨A1, c1, rfl, -, -, rfl⟩
          rw [PS.readE_down hd]
          obtain ⟨_, _, _, _, _, _, br, bw⟩ := UB.out
          have HZ := Lib.hid (uzeroR (er := 40) bw)
          have HQ := Lib.hid (PS.choose_down hd)
          obtain ⟨q0, q1, q2, q3, q4⟩ := br.cells
          obtain ⟨f0, f1, f2, f3, f4⟩ := br.free
          obtain ⟨e0, e1, e2, e3, e4⟩ := (Lib.hid (br.put (.int .i64 0) (.int .i64 0) (.int .i64 0) (.slice none 0 0) (.int .i64 0))).out.cells
          clear br bw hd hdn
          go_wp2_with fail
          refine bodyPost_ret (v := .tuple #[.agg #[.int .i64 0, .int .i64 0, .int .i64 0, .slice none 0 0, .int .i64 0], .int .i64 40]) (by simp [results, Tryz.results12, go_sem, e0, e1, e2, e3, e4]) rfl ?_
          rw [HQ.out.1, HQ.out.2]
          exact HZ.out
        · have hd' : d.down = false := by simpa using hd
          have HDN := Lib.hid hd
          go_wp2_with fail
          refine (refRead_cap wr 1 HD9).mono ?_
          rintro e w1 ⟨A1, c1, rfl, y1, hcap, rfl⟩
          rw [PS.readE_up hd' (by omega) (by have := HS2.out; omega)]
          have Y1 := Lib.hid y1
          have hle := PS.readB_le HOK.out 1
          have HBQ : Hid (∀ b : List UInt8, d.readB 1 = b → d.readB 1 = b) := Lib.hid (fun _ h => h)
          clear HBQ
          obtain ⟨b, hb⟩ : ∃ b, d.readB 1 = b := ⟨_, rfl⟩
          rw [hb] at Y1 hle hcap ⊢
          have HCT : Hid (∀ o, SB.lie 1 b = o → SB.choose (some ⟨sp, sr, sh, sc, sl⟩) o = d.chosen) := Lib.hid (fun o h => by unfold PS.chosen; rw [← ho, hb, h])
          clear ho
          obtain ⟨m, hm⟩ : ∃ m, b.length = m := ⟨_, rfl⟩
          rw [hm] at hle hcap ⊢
          have HM := Lib.hid hm
          clear hd hd' hdn y1 hm hb
          go_wp2_with fail
          refine (refUnp_all 1 A1 m c1 b _ HM.out Y1.out hcap (by omega)).mono ?_
          rintro e w2 ⟨v2, rfl, o2, b2⟩
          have UB2 := Lib.hid (UB.out.kept b2)
          have O2 := Lib.hid o2
          clear b2 o2 Y1 UB
          by_cases hf : IsF 1 b
          · have e1 : unpK 1 b = kin b := if_pos hf
            have e2 : unpE 1 b = 0 := if_pos hf
            have e3 : unpB 1 b = dat b := if_pos hf
            rw [e3] at O2
            rw [e1, e2]
            have HF := Lib.hid hf
            clear e1 e2 e3 hf
            obtain ⟨A2, c2, rfl, _, _, _, y2⟩ := Bys.of_own O2.out
            have hdl : (dat b).length ≤ 1100 := by have := dat_length b; have := HM.out; omega
            obtain ⟨m2, hm2⟩ : ∃ m2, (dat b).length = m2 := ⟨_, rfl⟩
            rw [hm2] at hdl ⊢
            have HM2 := Lib.hid hm2
            have Y2 := Lib.hid y2
            clear hm2 y2 O2
            go_wp2_with fail
            refine (refDecode_any A2 m2 c2 (dat b) w2 HM2.out Y2.out (by omega)).mono ?_
            rintro e w3 ⟨v3, rfl, s3, b3⟩
            have UB3 := Lib.hid (UB2.out.kept b3)
            have W2 : Hid (w.heap.size + 1 + 1 ≤ w2.heap.size) := Lib.hid (by obtain ⟨_, _, _, h1, _⟩ := UB2.out; have := h1.lt; omega)
            obtain ⟨A3, c3, rfl, l3, i3⟩ := s3
            have I3 := Lib.hid (i3.low W2.out)
            have L3 := Lib.hid l3
            clear b3 l3 i3 UB2 W2
            cases hdc : SB.dec (dat b) with
            | none =>
              rw [(SB.dec_none hdc).2]
              rw [(SB.dec_none hdc).1] at L3 ⊢
              simp only [SB.zero, List.length_nil] at L3 ⊢
              have HLI := Lib.hid (lie_no_dec (n := 1) hdc)
              clear hdc
              have bx := below_one w3 (.cells #[.int .i64 0, .int .i64 0, .int .i64 0, .slice A3 0 c3, .int .i64 0] 33)
              have UB4 := Lib.hid (UB3.out.kept bx)
              have HX := Lib.hid (ubox_new w3 (.int .i64 0) (.int .i64 0) (.int .i64 0) (.slice A3 0 c3) (.int .i64 0))
              have L4 := Lib.hid (L3.out.kept bx)
              clear bx UB3 L3
              go_upto_region 11 with fail
              generalize w3.alloc (.cells #[.int .i64 0, .int .i64 0, .int .i64 0, .slice A3 0 c3, .int .i64 0] 33) = w4 at *
              obtain ⟨x0, x1, x2, x3, x4⟩ := HX.out.cells
              go_wp2_with fail
              go_roundw
              case rel => exact ⟨2, 2, some ⟨sp, sr, sh, sc, sl⟩, Or.inr (Or.inr ⟨rfl, rfl, (HCT.out _ HLI.out)⟩), fun h => absurd h HDN.out, by go_num, rfl, UB4⟩
              case measure => simp [RowKit.intOf]
            | some t =>
              rw [(SB.dec_some hdc).2]
              rw [(SB.dec_some hdc).1] at L3 ⊢
              have HDC := Lib.hid hdc
              have hep := (SB.ep_ok (SB.bytes_dec hdc).1).1
              obtain ⟨ep, ro, he, ct, pg⟩ := t
              obtain ⟨q, hq⟩ : ∃ q, pg.length = q := ⟨_, rfl⟩
              simp only [hq] at L3 hep ⊢
              clear hdc hq
              have bx := below_one w3 (.cells #[.int .i64 ep, .int .i64 ro, .int .i64 he, .slice A3 q c3, .int .i64 ct] 33)
              have UB4 := Lib.hid (UB3.out.kept bx)
              have HX := Lib.hid (ubox_new w3 (.int .i64 ep) (.int .i64 ro) (.int .i64 he) (.slice A3 q c3) (.int .i64 ct))
              have L4 := Lib.hid (L3.out.kept bx)
              clear bx UB3 L3
              go_upto_region 11 with fail
              generalize w3.alloc (.cells #[.int .i64 ep, .int .i64 ro, .int .i64 he, .slice A3 q c3, .int .i64 ct] 33) = w4 at *
              obtain ⟨x0, x1, x2, x3, x4⟩ := HX.out.cells
              have tq := Int.tmod_eq_emod_of_nonneg (b := 2) hep
              by_cases hk : kin b = 1
              · have HK := Lib.hid hk
                rw [hk]
                clear hk
                by_cases hp : ep % 2 = 1
                · have HLI := Lib.hid (lie_at HF.out HK.out HDC.out hp)
                  have hp1 : (ep % 2 != 1) = false := by rw [hp]; exact bne_self_eq_false _
                  have hp2 : (Int.tmod ep 2 != 1) = false := by rw [tq, hp]; exact bne_self_eq_false _
                  have HEQ : Hid (ep ≠ sp) := Lib.hid (by have := HPAR.out; omega)
                  clear hp tq
                  obtain ⟨_, _, _, bb, _, _, _, _⟩ := UB4.out
                  have P4 := Lib.hid (UB4.out.put (ep := ep) (ro := ro) (he := he) (ct := ct) L4.out I3.out)
                  obtain ⟨q0, q1, q2, q3, q4⟩ := bb.cells
                  obtain ⟨f0, f1, f2, f3, f4⟩ := bb.free
                  clear bb
                  have HCH : Hid ((if ep < sp then some (SB.mk sp sr sh sc sl) else some ⟨ep, ro, he, ct, pg⟩) = d.chosen) := Lib.hid (HCT.out _ HLI.out)
                  by_cases hgt : ep > sp
                  · have HC2 := Lib.hid ((if_neg (by omega)).symm.trans HCH.out)
                    clear HCH
                    go_wp2_with fail
                    go_roundw
                    case rel => exact ⟨2, 2, some ⟨ep, ro, he, ct, pg⟩, Or.inr (Or.inr ⟨rfl, rfl, HC2.out⟩), fun h => absurd h HDN.out, by go_num, rfl, P4⟩
                    case measure => simp [RowKit.intOf]
                  · have hne : ep < sp := by have := HEQ.out; omega
                    have HC2 := Lib.hid ((if_pos hne).symm.trans HCH.out)
                    clear HCH hne
                    go_wp2_with fail
                    go_roundw
                    case rel => exact ⟨2, 2, some ⟨sp, sr, sh, sc, sl⟩, Or.inr (Or.inr ⟨rfl, rfl, HC2.out⟩), fun h => absurd h HDN.out, by go_num, rfl, UB4⟩
                    case measure => simp [RowKit.intOf]
                · have HLI := Lib.hid (lie_off (n := 1) HDC.out hp)
                  have hp1 : (ep % 2 != 1) = true := by rw [bne_iff_ne]; exact hp
                  have hp2 : (Int.tmod ep 2 != 1) = true := by rw [tq, bne_iff_ne]; exact hp
                  clear hp tq
                  go_wp2_with fail
                  go_roundw
                  case rel => exact ⟨2, 2, some ⟨sp, sr, sh, sc, sl⟩, Or.inr (Or.inr ⟨rfl, rfl, (HCT.out _ HLI.out)⟩), fun h => absurd h HDN.out, by go_num, rfl, UB4⟩
                  case measure => simp [RowKit.intOf]
              · have HLI := Lib.hid (SB.lie_none2 (n := 1) hk)
                have hk1 : (kin b != 1) = true := by rw [bne_iff_ne]; exact hk
                generalize kin b = kb at *
                clear hk tq
                go_wp2_with fail
                go_roundw
                case rel => exact ⟨2, 2, some ⟨sp, sr, sh, sc, sl⟩, Or.inr (Or.inr ⟨rfl, rfl, (HCT.out _ HLI.out)⟩), fun h => absurd h HDN.out, by go_num, rfl, UB4⟩
                case measure => simp [RowKit.intOf]
          · have e1 : unpK 1 b = 0 := if_neg hf
            have e2 : unpE 1 b = 50 := if_neg hf
            have e3 : unpB 1 b = [] := if_neg hf
            rw [e3] at O2
            rw [e1, e2]
            have HLI := Lib.hid (SB.lie_none1 hf)
            clear e1 e2 e3 hf
            obtain ⟨A2, c2, rfl, _, _, _, y2⟩ := Bys.of_own O2.out
            have Y2 := Lib.hid y2
            clear y2 O2
            simp only [List.length_nil]
            go_wp2_with fail
            refine (refDecode_any A2 0 c2 [] w2 rfl Y2.out (by omega)).mono ?_
            rintro e w3 ⟨v3, rfl, s3, b3⟩
            have UB3 := Lib.hid (UB2.out.kept b3)
            rw [(SB.dec_none dec_nil).2]
            rw [(SB.dec_none dec_nil).1] at s3
            obtain ⟨A3, c3, rfl, l3, _⟩ := s3
            have L3 := Lib.hid l3
            clear b3 l3 UB2
            simp only [SB.zero, List.length_nil] at L3 ⊢
            have bx := below_one w3 (.cells #[.int .i64 0, .int .i64 0, .int .i64 0, .slice A3 0 c3, .int .i64 0] 33)
            have UB4 := Lib.hid (UB3.out.kept bx)
            have HX := Lib.hid (ubox_new w3 (.int .i64 0) (.int .i64 0) (.int .i64 0) (.slice A3 0 c3) (.int .i64 0))
            have L4 := Lib.hid (L3.out.kept bx)
            clear bx UB3 L3
            go_upto_region 11 with fail
            generalize w3.alloc (.cells #[.int .i64 0, .int .i64 0, .int .i64 0, .slice A3 0 c3, .int .i64 0] 33) = w4 at *
            obtain ⟨x0, x1, x2, x3, x4⟩ := HX.out.cells
            go_wp2_with fail
            go_roundw
            case rel => exact ⟨2, 2, some ⟨sp, sr, sh, sc, sl⟩, Or.inr (Or.inr ⟨rfl, rfl, (HCT.out _ HLI.out)⟩), fun h => absurd h HDN.out, by go_num, rfl, UB4⟩
            case measure => simp [RowKit.intOf]

    · have hd : d.down = false := by
        cases h : d.down with
        | false => rfl
        | true => exact absurd (hdn h) (by decide)
      rcases o with _ | ⟨sp, sr, sh, sc, sl⟩
      · have HR := Lib.hid (PS.choose_up_none hd ho.symm)
        obtain ⟨_, _, _, _, _, _, br, bw⟩ := UB.out
        have HZ := Lib.hid (uzeroR (er := 91) bw)
        obtain ⟨q0, q1, q2, q3, q4⟩ := br.cells
        obtain ⟨f0, f1, f2, f3, f4⟩ := br.free
        obtain ⟨e0, e1, e2, e3, e4⟩ := (Lib.hid (br.put (.int .i64 0) (.int .i64 0) (.int .i64 0) (.slice none 0 0) (.int .i64 0))).out.cells
        clear br bw hd hdn ho
        go_wp2_with fail
        refine bodyPost_ret (v := .tuple #[.agg #[.int .i64 0, .int .i64 0, .int .i64 0, .slice none 0 0, .int .i64 0], .int .i64 91]) (by simp [results, Tryz.results12, go_sem, e0, e1, e2, e3, e4]) rfl ?_
        rw [HR.out.1, HR.out.2]
        exact HZ.out
      · have HR := Lib.hid (PS.choose_up hd ho.symm)
        obtain ⟨A, n, c, bb, bl, bh, br, bw⟩ := UB.out
        have bb : UBox wr (w.heap.size + 1) (.int .i64 sp) (.int .i64 sr) (.int .i64 sh) (.slice A n c) (.int .i64 sc) := bb
        have bl : Ln wr 1 A n c (intVals sl) := bl
        have HZ := Lib.hid (uput_done (ep := sp) (ro := sr) (he := sh) (ct := sc) (err := 0) bw (Nat.le_refl w.heap.size) bl (bh.low (by omega)) (.int .i64 sp) (.int .i64 sr) (.int .i64 sh) (.slice A n c) (.int .i64 sc))
        obtain ⟨x0, x1, x2, x3, x4⟩ := bb.cells
        obtain ⟨q0, q1, q2, q3, q4⟩ := br.cells
        obtain ⟨f0, f1, f2, f3, f4⟩ := br.free
        obtain ⟨e0, e1, e2, e3, e4⟩ := (Lib.hid (br.put (.int .i64 sp) (.int .i64 sr) (.int .i64 sh) (.slice A n c) (.int .i64 sc))).out.cells
        clear br bw bb bl bh hd hdn ho
        go_wp2_with fail
        refine bodyPost_ret (v := .tuple #[.agg #[.int .i64 sp, .int .i64 sr, .int .i64 sh, .slice A n c, .int .i64 sc], .int .i64 0]) (by simp [results, Tryz.results12, go_sem, e0, e1, e2, e3, e4]) rfl ?_
        rw [HR.out.1, HR.out.2]
        exact HZ.out
end Go.Proofs.YtnmiccagkfpkiaaGreat

/-
  What the disk's Down comes to.
-/
namespace Go.Proofs.YtnmiccagkfpkiaaGreat
open Go.RowKit Go.Maps

section
variable {F : Nat → Prop} {db : Nat} {s : PS}

set_option maxRecDepth 20000 in
theorem down_any (w : World) (h : Dk w F db s) : Calls Tryz.prog 42 #[.pointer (some ⟨db, 0, none⟩)] w fun e w' => e = .returned (.bool s.down) ∧ w = w' := by
  obtain ⟨bl, bw, gL, gW, h⟩ := h
  have c3 := h.cell 3 (v := .bool s.down) rfl
  clear h
  go_enter Tryz.func42, Tryz.ntmps42
  go_wp2_with fail
  go_ret
  exact ⟨rfl, rfl⟩

end
end Go.Proofs.YtnmiccagkfpkiaaGreat

/-
  What the disk's Fuse comes to.
-/
namespace Go.Proofs.YtnmiccagkfpkiaaGreat
open Go.RowKit Go.Maps

section
variable {F : Nat → Prop} {db : Nat} {s : PS}

theorem fuse_end {bl bw : Nat} {gL gW : Ghost} (w : World) (k z : Int) (b : Bool) (hb : b = decide (0 ≤ k)) (hz : z = (k.toNat : Int)) (h2 : k ≤ 9223372036854775807) (h : DiskAt w F (fun _ => False) db bl bw gL gW s) :
    Goes w F db (s.fusing k) (.tuple #[]) (.returned (.tuple #[])) ((w.setCell ⟨db, 4, none⟩ (.bool b)).setCell ⟨db, 5, none⟩ (.int .i64 z)) := by
  subst hz
  subst hb
  refine ⟨rfl, F, ⟨bl, bw, gL, gW, ?_⟩, fun k hk => Or.inl hk, (Kept.setCell w h.fd _).next (Kept.setCell _ h.fd _)⟩
  have e1 := Joins.block_setCell (i := 4) h.str (.bool (decide (0 ≤ k)))
  exact h.field (d := s.down) (f := decide (0 ≤ k)) (n := k.toNat) (by omega) (by rw [Joins.block_setCell e1]; rfl) (fun j hj => (Below.heap_setCell _ _ _ _ hj).trans (Below.heap_setCell _ _ _ _ hj)) (by simp [World.setCell])

set_option maxRecDepth 20000 in
theorem fuse_any (w : World) (k : Int) (_h1 : -9223372036854775808 ≤ k) (h2 : k ≤ 9223372036854775807) (h : Dk w F db s) :
    Calls Tryz.prog 31 #[.pointer (some ⟨db, 0, none⟩), .int .i64 k] w (Goes w F db (s.fusing k) (.tuple #[])) := by
  obtain ⟨bl, bw, gL, gW, h⟩ := h
  have c4 := h.cell 4 (v := .bool s.fused) rfl
  have c5 := h.cell 5 (v := .int .i64 s.fuse) rfl
  have f4 := h.free 4
  have f5 := h.free 5
  have HD := Lib.hid h
  clear h
  go_enter Tryz.func31, Tryz.ntmps31
  go_wp2_with fail
  all_goals
    go_end0
    refine fuse_end w k _ _ ?_ ?_ h2 HD.out
    · first | rfl | (rw [eq_comm, decide_eq_true_iff]; omega)
    · omega
end
end Go.Proofs.YtnmiccagkfpkiaaGreat

/-
  What the disk's Restart comes to.
-/
namespace Go.Proofs.YtnmiccagkfpkiaaGreat
open Go.RowKit Go.Maps

section
variable {F : Nat → Prop} {db bl bw : Nat} {gL gW : Ghost} {s : PS}

theorem keep_step {s : PS} {keep : List Int} {k : Nat} {x : Int} (hx : keep[k]? = some x) : (s.kept (keep.take k)).settled x = s.kept (keep.take (k + 1)) := by
  have e : (s.kept (keep.take k)).held x = s.held x := by
    unfold PS.held PS.kept
    dsimp only
    cases h : s.W x with
    | some l => rfl
    | none => simp [PS.held, h]
  have e2 : keep.take (k + 1) = keep.take k ++ [x] := by rw [List.take_add_one, hx]; rfl
  unfold PS.settled
  rw [e]
  show ({ s with L := fun j => if j = x then s.held x else (s.kept (keep.take k)).L j } : PS) = _
  unfold PS.kept
  congr 1
  funext j
  rw [e2]
  by_cases hj : j = x
  · rw [if_pos hj, if_pos (by simp [hj]), hj]
  · rw [if_neg hj]
    show (if j ∈ keep.take k then s.held j else s.L j) = _
    by_cases hm : j ∈ keep.take k
    · rw [if_pos hm, if_pos (by simp [hm])]
    · rw [if_neg hm, if_neg (by simp [hm, hj])]

theorem keep_none (s : PS) : s.kept [] = s := by
  unfold PS.kept
  simp

def RestartRel (w : World) (F : Nat → Prop) (db bl bw : Nat) (gW : Ghost) (s : PS) (keep : List Int) (k : Nat) (wr : World) : Prop :=
  ∃ gL' S, DiskAt wr F S db bl bw gL' gW (s.kept (keep.take k)) ∧ Kept F w wr

set_option maxRecDepth 20000 in
set_option maxHeartbeats 1600000 in
theorem restart_any (w : World) (A : Option Addr) (m c : Nat) (keep : List Int) (hl : keep.length = m) (hm : m ≤ 1000000) (hx : OutN w F A keep) (h : Dk w F db s) :
    Calls Tryz.prog 33 #[.pointer (some ⟨db, 0, none⟩), .slice A m c] w (Goes w F db (s.restarted keep) (.tuple #[])) := by
  obtain ⟨bl, bw, gL, gW, h⟩ := h
  have HD := Lib.hid h
  have HX := Lib.hid hx
  have HL := Lib.hid hl
  clear h hx hl
  go_enter Tryz.func33, Tryz.ntmps33
  go_wp2_with fail
  go_loopw [5, 10] (fun _ i wr => ∃ k : Nat, k ≤ m ∧ i = .int .i64 k ∧ RestartRel w F db bl bw gW s keep k wr) (fun _ i _ => m - (RowKit.intOf i).toNat)
  case atStart =>
    refine ⟨0, Nat.zero_le _, rfl, gL, fun _ => False, ?_, Kept.refl _ _⟩
    rw [List.take_zero, keep_none]
    exact HD.out
  case round =>
    obtain ⟨k, hk, rfl, gL', S, hd2, hk2⟩ := hrel
    have HD2 := Lib.hid hd2
    have HK2 := Lib.hid hk2
    by_cases hlt : k < m
    · obtain ⟨b, off, x, rfl, hx, hc, hx1, hx2⟩ := (HX.out.kept hk2).at_ (k := k) (by rw [HL.out]; exact hlt)
      have HXX := Lib.hid hx
      clear hd2 hk2 hx
      go_wp2_with fail
      refine (settle_any wr x hx1 hx2 HD2.out).mono ?_
      rintro e w3 ⟨rfl, gL3, hd4, row, hg3, hrow⟩
      rw [keep_step HXX.out] at hd4
      have HD4 := Lib.hid hd4
      have HK4 : Hid (Kept F w w3) := HK2.out.next ⟨hg3.os, hg3.tape, hg3.output, hg3.size, fun j hj hn => hg3.block j hj (fun e => hn (by rw [hrow j e.symm]; exact HD.out.fl))⟩
      clear hd4 hg3 hrow hc
      go_wp2_with fail
      go_roundw
      case rel => exact ⟨k + 1, by omega, by go_num, gL3, _, HD4.out, HK4.out⟩
      case measure => simp [RowKit.intOf]; omega
    · have hkm : k = m := by omega
      have c2r := hd2.cell 2 (v := .map (some bw)) rfl
      have HKM := Lib.hid hkm
      clear hd2 hk2 hkm
      go_wp2_with (refine wpList_clear_at _ rfl (.tmp 21) rfl bw _ rfl HD2.out.mW ?_; intro w4 hm4 hg4; have hd4 := HD2.out.cleared hm4 hg4; have d3 := hd4.cell 3 (v := .bool s.down) rfl; have d4 := hd4.cell 4 (v := .bool s.fused) rfl; have d5 := hd4.cell 5 (v := .int .i64 s.fuse) rfl; have f3 := hd4.free 3; have f4 := hd4.free 4; have f5 := hd4.free 5; have HD4 := Lib.hid hd4; have HK4 : Hid (Kept F w w4) := HK2.out.next (Kept.grown hg4 HD.out.fw); clear hd4 hg4 hm4)
      go_end0
      have h4 := HD4.out
      have e3 := Joins.block_setCell (i := 3) h4.str (.bool false)
      have e4 := Joins.block_setCell (i := 4) e3 (.bool false)
      have e5 := Joins.block_setCell (i := 5) e4 (.int .i64 0)
      have h5 := h4.field (d := false) (f := false) (n := 0) (by omega) e5 (fun j hj => (Below.heap_setCell _ _ _ _ hj).trans ((Below.heap_setCell _ _ _ _ hj).trans (Below.heap_setCell _ _ _ _ hj))) (by simp [World.setCell])
      refine ⟨rfl, F, ?_, fun k hk => Or.inl hk, HK4.out.next ((Kept.setCell w4 HD.out.fd _).next ((Kept.setCell _ HD.out.fd _).next (Kept.setCell _ HD.out.fd _)))⟩
      have e6 : keep.take k = keep := List.take_of_length_le (by rw [HL.out, HKM.out]; exact Nat.le_refl _)
      rw [e6] at h5
      exact h5.rest
end
end Go.Proofs.YtnmiccagkfpkiaaGreat

/-
  A disk in the midst of a law: Fuse, Restart, Turn.
-/
namespace Go.Proofs.YtnmiccagkfpkiaaGreat
open Go.RowKit Go.Maps

section
variable {W : World} {F : Nat → Prop} {db : Nat} {s : PS}

set_option maxRecDepth 20000 in
theorem fuse_live (w : World) (k : Int) (h1 : -9223372036854775808 ≤ k) (h2 : k ≤ 9223372036854775807) (h : Live W F w db s) :
    Calls Tryz.prog 31 #[.pointer (some ⟨db, 0, none⟩), .int .i64 k] w (LGoes W F w db (s.fusing k) (.tuple #[])) :=
  (fuse_any w k h1 h2 h.dk).mono fun _ _ g => h.goes g
set_option maxRecDepth 20000 in
theorem restart_live (w : World) (A : Option Addr) (m c : Nat) (keep : List Int) (hl : keep.length = m) (hm : m ≤ 1000000) (hx : OutN w F A keep) (h : Live W F w db s) :
    Calls Tryz.prog 33 #[.pointer (some ⟨db, 0, none⟩), .slice A m c] w (LGoes W F w db (s.restarted keep) (.tuple #[])) :=
  (restart_any w A m c keep hl hm hx h.dk).mono fun _ _ g => h.goes g
set_option maxRecDepth 20000 in
theorem turn_live (w : World) (n : Int) (h1 : -9223372036854775808 ≤ n) (h2 : n ≤ 9223372036854775807) (at_ : Int) (h3 : -9223372036854775808 ≤ at_) (h4 : at_ ≤ 9223372036854775807) (by_ : UInt8) (h : Live W F w db s) :
    Calls Tryz.prog 35 #[.pointer (some ⟨db, 0, none⟩), .int .i64 n, .int .i64 at_, .int .u8 by_.toNat] w (LGoes W F w db (s.turned n at_ by_) (.int .i64 (s.turnE n at_))) :=
  (turn_any w n h1 h2 at_ h3 h4 by_ h.dk).mono fun _ _ g => h.goes g

end
end Go.Proofs.YtnmiccagkfpkiaaGreat

/-
  A disk's size.
-/
namespace Go.Proofs.YtnmiccagkfpkiaaGreat
open Go.RowKit Go.Maps
section
variable {F : Nat → Prop} {db : Nat} {s : PS}

set_option maxRecDepth 20000 in
theorem size_any (w : World) (h : Dk w F db s) : Calls Tryz.prog 43 #[.pointer (some ⟨db, 0, none⟩)] w fun e w' => e = .returned (.int .i64 s.size) ∧ w = w' := by
  obtain ⟨bl, bw, gL, gW, h⟩ := h
  have c0 := h.cell 0 (v := .int .i64 s.size) rfl
  clear h
  go_enter Tryz.func43, Tryz.ntmps43
  go_wp2_with fail
  go_ret
  exact ⟨rfl, rfl⟩

end
end Go.Proofs.YtnmiccagkfpkiaaGreat

/-
  The library functions that put a map's keys in order are, in this program, those that the library's contracts speak of. Conditions: none.
-/
namespace Go.Proofs.YtnmiccagkfpkiaaGreat
open Go.Shelf
def Tryz.keysA_ren : Go.Shelf.Ren := ⟨fun | 7 => 75 | 10 => 83 | n => n, fun | 23 => 52 | 26 => 3 | 3 => 34 | 28 => 102 | 0 => 0 | 27 => 101 | 33 => 66 | 4 => 4 | n => n, fun | n => n⟩
theorem Tryz.keysA : Go.Proofs.SlLaysZI.n7 Tryz.prog Tryz.keysA_ren := {
  mixed := by kernel_rfl
  f7 := ⟨Tryz.f75.name, by decide, Tryz.func75.trans (congrArg some (by kernel_rfl))⟩
  f10 := ⟨Tryz.f83.name, by decide, Tryz.func83.trans (congrArg some (by kernel_rfl))⟩
  t0 := Tryz.underlying0
  a0 := Tryz.isAgg0
  z0 := Tryz.sizeOf0
  v0 := Tryz.zeroValue0
  t4 := Tryz.underlying4
  a4 := Tryz.isAgg4
  z4 := Tryz.sizeOf4
  v4 := Tryz.zeroValue4
  t23 := Tryz.underlying52
  a23 := Tryz.isAgg52
  z23 := Tryz.sizeOf52
  v23 := Tryz.zeroValue52
  t26 := Tryz.underlying3
  a26 := Tryz.isAgg3
  z26 := Tryz.sizeOf3
  v26 := Tryz.zeroValue3
  t27 := Tryz.underlying101
  a27 := Tryz.isAgg101
  z27 := Tryz.sizeOf101
  v27 := Tryz.zeroValue101
  t28 := Tryz.underlying102
  a28 := Tryz.isAgg102
  z28 := Tryz.sizeOf102
  v28 := Tryz.zeroValue102
  t33 := Tryz.underlying66
  a33 := Tryz.isAgg66
  z33 := Tryz.sizeOf66
  v33 := Tryz.zeroValue66 }
def Tryz.sortedA_ren : Go.Shelf.Ren := ⟨fun | 6 => 74 | 8 => 81 | 9 => 82 | 11 => 87 | 13 => 89 | 12 => 88 | 23 => 99 | 24 => 100 | 14 => 90 | 15 => 91 | 16 => 92 | 17 => 93 | 18 => 94 | 19 => 95 | 20 => 96 | 21 => 97 | 22 => 98 | 25 => 101 | 26 => 102 | 27 => 103 | 28 => 104 | 29 => 105 | 30 => 106 | 31 => 107 | n => n, fun | 26 => 3 | 28 => 102 | 24 => 31 | 0 => 0 | 3 => 3 | 37 => 96 | 48 => 82 | 50 => 123 | 4 => 4 | 40 => 114 | 39 => 113 | 45 => 119 | 5 => 5 | 9 => 9 | 51 => 124 | 55 => 128 | 57 => 130 | 58 => 131 | 33 => 66 | n => n, fun | n => n⟩
theorem Tryz.sortedA : Go.Proofs.SlLaysZI.n6 Tryz.prog Tryz.sortedA_ren := {
  mixed := by kernel_rfl
  f6 := ⟨Tryz.f74.name, by decide, Tryz.func74.trans (congrArg some (by kernel_rfl))⟩
  f8 := ⟨Tryz.f81.name, by decide, Tryz.func81.trans (congrArg some (by kernel_rfl))⟩
  f11 := ⟨Tryz.f87.name, by decide, Tryz.func87.trans (congrArg some (by kernel_rfl))⟩
  t0 := Tryz.underlying0
  a0 := Tryz.isAgg0
  z0 := Tryz.sizeOf0
  v0 := Tryz.zeroValue0
  t24 := Tryz.underlying31
  a24 := Tryz.isAgg31
  z24 := Tryz.sizeOf31
  v24 := Tryz.zeroValue31
  t26 := Tryz.underlying3
  a26 := Tryz.isAgg3
  z26 := Tryz.sizeOf3
  v26 := Tryz.zeroValue3
  t28 := Tryz.underlying102
  a28 := Tryz.isAgg102
  z28 := Tryz.sizeOf102
  v28 := Tryz.zeroValue102
  i26 := by kernel_rfl }
def Tryz.sortA_ren : Go.Shelf.Ren := ⟨fun | 5 => 82 | 8 => 89 | 7 => 88 | 19 => 99 | 20 => 100 | 10 => 90 | 11 => 91 | 12 => 92 | 13 => 93 | 14 => 94 | 15 => 95 | 16 => 96 | 17 => 97 | 18 => 98 | 30 => 101 | 31 => 102 | 32 => 103 | 33 => 104 | 34 => 105 | 35 => 106 | 40 => 107 | n => n, fun | 23 => 31 | 25 => 3 | 3 => 3 | 32 => 96 | 22 => 31 | 0 => 0 | 44 => 82 | 46 => 123 | 4 => 4 | 36 => 114 | 35 => 113 | 41 => 119 | 5 => 5 | 9 => 9 | 53 => 124 | 57 => 128 | 63 => 130 | 64 => 131 | n => n, fun | n => n⟩
theorem Tryz.sortA : Go.Proofs.SlLaysM.n5 Tryz.prog Tryz.sortA_ren := {
  mixed := by kernel_rfl
  f5 := ⟨Tryz.f82.name, by decide, Tryz.func82.trans (congrArg some (by kernel_rfl))⟩
  f7 := ⟨Tryz.f88.name, by decide, Tryz.func88.trans (congrArg some (by kernel_rfl))⟩
  f8 := Tryz.func89.trans (congrArg some (by kernel_rfl))
  f10 := ⟨Tryz.f90.name, by decide, Tryz.func90.trans (congrArg some (by kernel_rfl))⟩
  f11 := ⟨Tryz.f91.name, by decide, Tryz.func91.trans (congrArg some (by kernel_rfl))⟩
  f12 := ⟨Tryz.f92.name, by decide, Tryz.func92.trans (congrArg some (by kernel_rfl))⟩
  f13 := ⟨Tryz.f93.name, by decide, Tryz.func93.trans (congrArg some (by kernel_rfl))⟩
  f14 := ⟨Tryz.f94.name, by decide, Tryz.func94.trans (congrArg some (by kernel_rfl))⟩
  f15 := ⟨Tryz.f95.name, by decide, Tryz.func95.trans (congrArg some (by kernel_rfl))⟩
  f16 := ⟨Tryz.f96.name, by decide, Tryz.func96.trans (congrArg some (by kernel_rfl))⟩
  f17 := ⟨Tryz.f97.name, by decide, Tryz.func97.trans (congrArg some (by kernel_rfl))⟩
  f18 := ⟨Tryz.f98.name, by decide, Tryz.func98.trans (congrArg some (by kernel_rfl))⟩
  f19 := Tryz.func99.trans (congrArg some (by kernel_rfl))
  f20 := Tryz.func100.trans (congrArg some (by kernel_rfl))
  f30 := ⟨Tryz.f101.name, by decide, Tryz.func101.trans (congrArg some (by kernel_rfl))⟩
  f31 := Tryz.func102.trans (congrArg some (by kernel_rfl))
  f32 := Tryz.func103.trans (congrArg some (by kernel_rfl))
  f33 := ⟨Tryz.f104.name, by decide, Tryz.func104.trans (congrArg some (by kernel_rfl))⟩
  f34 := ⟨Tryz.f105.name, by decide, Tryz.func105.trans (congrArg some (by kernel_rfl))⟩
  f35 := ⟨Tryz.f106.name, by decide, Tryz.func106.trans (congrArg some (by kernel_rfl))⟩
  f40 := ⟨Tryz.f107.name, by decide, Tryz.func107.trans (congrArg some (by kernel_rfl))⟩
  t0 := Tryz.underlying0
  a0 := Tryz.isAgg0
  z0 := Tryz.sizeOf0
  v0 := Tryz.zeroValue0
  t3 := Tryz.underlying3
  a3 := Tryz.isAgg3
  z3 := Tryz.sizeOf3
  v3 := Tryz.zeroValue3
  t4 := Tryz.underlying4
  a4 := Tryz.isAgg4
  z4 := Tryz.sizeOf4
  v4 := Tryz.zeroValue4
  t5 := Tryz.underlying5
  a5 := Tryz.isAgg5
  z5 := Tryz.sizeOf5
  v5 := Tryz.zeroValue5
  t9 := Tryz.underlying9
  a9 := Tryz.isAgg9
  z9 := Tryz.sizeOf9
  v9 := Tryz.zeroValue9
  t22 := Tryz.underlying31
  a22 := Tryz.isAgg31
  z22 := Tryz.sizeOf31
  v22 := Tryz.zeroValue31
  t23 := Tryz.underlying31
  a23 := Tryz.isAgg31
  z23 := Tryz.sizeOf31
  v23 := Tryz.zeroValue31
  t25 := Tryz.underlying3
  a25 := Tryz.isAgg3
  z25 := Tryz.sizeOf3
  v25 := Tryz.zeroValue3
  t32 := Tryz.underlying96
  a32 := Tryz.isAgg96
  z32 := Tryz.sizeOf96
  v32 := Tryz.zeroValue96
  t35 := Tryz.underlying113
  a35 := Tryz.isAgg113
  z35 := Tryz.sizeOf113
  v35 := Tryz.zeroValue113
  t36 := Tryz.underlying114
  a36 := Tryz.isAgg114
  z36 := Tryz.sizeOf114
  v36 := Tryz.zeroValue114
  t41 := Tryz.underlying119
  a41 := Tryz.isAgg119
  z41 := Tryz.sizeOf119
  v41 := Tryz.zeroValue119
  t44 := Tryz.underlying82
  a44 := Tryz.isAgg82
  z44 := Tryz.sizeOf82
  v44 := Tryz.zeroValue82
  t46 := Tryz.underlying123
  a46 := Tryz.isAgg123
  z46 := Tryz.sizeOf123
  v46 := Tryz.zeroValue123
  t53 := Tryz.underlying124
  a53 := Tryz.isAgg124
  z53 := Tryz.sizeOf124
  v53 := Tryz.zeroValue124
  t57 := Tryz.underlying128
  a57 := Tryz.isAgg128
  z57 := Tryz.sizeOf128
  v57 := Tryz.zeroValue128
  t63 := Tryz.underlying130
  a63 := Tryz.isAgg130
  z63 := Tryz.sizeOf130
  v63 := Tryz.zeroValue130
  t64 := Tryz.underlying131
  a64 := Tryz.isAgg131
  z64 := Tryz.sizeOf131
  v64 := Tryz.zeroValue131 }
end Go.Proofs.YtnmiccagkfpkiaaGreat

/-
  What slices.Sorted(maps.Keys(m)) comes to: a map's keys, in order.
-/
namespace Go.Proofs.YtnmiccagkfpkiaaGreat
open Go.RowKit Go.Maps Go.Sort Go.Shelf

set_option maxRecDepth 20000 in
theorem sortsAt (m : Nat) : AnyZI.SortsIn Tryz.prog Tryz.sortedA_ren Fence.wide m :=
  ⟨fun blk off cap ss W hH hblk hsz => callsIn_wide.2 (AnyM.slices_Sort_int Tryz.sortA blk off cap ss W hH hblk hsz),
   fun p cap W => callsIn_wide.2 (AnyM.slices_Sort_int_none Tryz.sortA p cap W)⟩

set_option maxRecDepth 20000 in
theorem keys_any (mb : Option Nat) (W : World) : Calls Tryz.prog 75 #[.map mb] W fun e w' => e = .returned (.func (.func 83) #[] #[.pointer (some ⟨W.heap.size, 0, none⟩)]) ∧ w' = W.alloc (.cells #[.map mb] 52) :=
  (callsIn_wide (n := 5)).1 (AnyZI.keys_in Tryz.keysA Fence.wide 5 trivial rfl mb W)

set_option maxRecDepth 20000 in
theorem sorted_any (w : World) (B b n : Nat) (es : List (Lit × DataW Value)) (hB : B < w.heap.size) (hm : w.cell? ⟨B, 0, none⟩ = some (.map (some b))) (hown : w.ownsMap Tryz.prog 3 heldR b n (.map es)) (hl : es.length ≤ 4096) :
    Calls Tryz.prog 74 #[.func (.func 83) #[] #[.pointer (some ⟨B, 0, none⟩)]] w fun e w' => ∃ (v : Value) (ss : List Int), e = .returned v ∧ ss.Perm (intKeys (DataW.map es)) ∧
      w'.ownsRow w.heap.size 3 1 v ss.length ((ss.mergeSort (fun x y => decide (x ≤ y))).map encZ) ∧ Below w.heap.size w w' := by
  refine (callsIn_wide (n := 5)).1 ?_
  have hseq : SeqGives Fence.wide 2 Tryz.prog 83 #[.pointer (some ⟨B, 0, none⟩)] encZ (fun ss => ss.Perm (intKeys (DataW.map es))) (Maps.size (DataW.map es)) w :=
    AnyZI.keys_gives (ρ := Tryz.keysA_ren) { Tryz.keysA with } Fence.wide _ trivial rfl (by omega) B b n _ _ hB hm hown
  have cS := AnyZI.sorted_in Tryz.sortedA Fence.wide 5 trivial trivial trivial trivial rfl (by omega) (sortsAt _) (enters_of Tryz.func82 (by kernel_rfl) rfl) 83 #[.pointer (some ⟨B, 0, none⟩)] trivial (enters_of Tryz.func83 (by kernel_rfl) rfl) _ _ (by show es.length ≤ _; unfold maxLen; omega) (by show es.length * 8 ≤ _; omega) _ hseq
  change CallsIn _ _ Tryz.prog 74 _ _ _ at cS
  refine cS.mono ?_
  rintro e w' ⟨v, ss, he, hp, ho, _, hb⟩
  exact ⟨v, ss, he, hp, ho, hb⟩

end Go.Proofs.YtnmiccagkfpkiaaGreat
