/-
  What the document's own Join of inner nodes comes to (package tailraceref11).
-/
import Derived.Test.YtcdfjaldnelfjaaEJoin
import Derived.Test.YtcdfjaldnelfjaaERWith
import Derived.Test.YtcdfjaldnelfjaaEBox
import Derived.Deep.DeepCutAuto
import Derived.Deep.RegionHeld3
namespace Go.Proofs.Ytcdfjaldnelfjaa
open Go.RowKit

section
variable {w w' : World} {base sz n q : Nat} {t : TypeId} {v x y z p : Value} {xs : List Value}
/-- A node's block stays where a row of another kind grows. -/
theorem enbox_grown (h : w.ownsRow base t sz v n xs) (ht : t ≠ 25) (hg : w.grownBy w' v.ownBlock) (hb : NBox w q x y z p) : NBox w' q x y z p := by
  refine hb.block (hg.block q hb.lt ?_)
  intro e
  rcases h.2 with ⟨rfl, _⟩ | ⟨g1, cap, cur, rfl, _, h3, _⟩
  · cases e
  · have e1 : q = g1 := by simpa [Value.ownBlock] using e
    subst e1
    unfold NBox at hb
    rw [hb] at h3
    injection h3 with h3
    injection h3 with _ h3 _
    exact absurd h3.symm ht
/-- A row stays where a node's block is written. -/
theorem erow_but (h : w.ownsRow base t sz v n xs) (ht : t ≠ 25) (hb : NBox w q x y z p) (hn : NBut q w w') : w'.ownsRow base t sz v n xs := by
  rcases h with ⟨h1, ⟨e1, e2⟩ | ⟨g1, cap, cur, e1, e2, e3, e4⟩⟩
  · exact ⟨h1, Or.inl ⟨e1, e2⟩⟩
  · refine ⟨h1, Or.inr ⟨g1, cap, cur, e1, e2, (hn.2 g1 ?_).trans e3, e4⟩⟩
    intro e
    subst e
    unfold NBox at hb
    rw [hb] at e3
    injection e3 with e3
    injection e3 with _ e3 _
    exact absurd e3.symm ht
theorem ln_of (h : w.ownsRow base t 1 v n xs) {A : Option Addr} {c : Nat} (e : v = .slice A n c) : Ln w 1 A n c xs := by
  obtain ⟨A', c', e', _, hl⟩ := Ln.of_own h
  rw [e] at e'
  injection e' with e1 _ e2
  subst e1
  subst e2
  exact hl
end
theorem sne : (9 : TypeId) ≠ 25 := by decide
theorem ine : (3 : TypeId) ≠ 25 := by decide

/-- What the first statement leaves: a node's block with its keys, a row of their own. -/
def OutR (w0 wx : World) (n : Nat) (cs : List Value) (u : Value) : Prop :=
  ∃ q K ck, u = .pointer (some ⟨q, 0, none⟩) ∧ NBox wx q (.bool false) (.slice K n ck) (.slice none 0 0) (.slice none 0 0) ∧ wx.ownsRow w0.heap.size 9 1 (.slice K n ck) n cs ∧ w0.heap.size ≤ q ∧ Below w0.heap.size w0 wx

set_option maxRecDepth 20000 in
set_option maxHeartbeats 12800000 in
theorem rjoin_any (A : Option Addr) (n c : Nat) (B : Option Addr) (m d : Nat) (C : Option Addr) (k e : Nat) (s : ND) (lf' : Bool) (A' : Option Addr) (n' c' : Nat) (B' : Option Addr) (m' d' : Nat) (C' : Option Addr) (k' e' : Nat) (t : ND) (x : ByteArray) (w : World)
    (h : Nd w A n c B m d C k e s) (g : Nd w A' n' c' B' m' d' C' k' e' t) (hl : s.leaf = false) (hn : n ≤ 300000) (hm : m ≤ 300000) (hk : k ≤ 300000) (hn' : n' ≤ 300000) (hm' : m' ≤ 300000) (hk' : k' ≤ 300000) :
    Calls Try.prog 31 #[.agg #[.bool false, .slice A n c, .slice B m d, .slice C k e], .string x, .agg #[.bool lf', .slice A' n' c', .slice B' m' d', .slice C' k' e']] w (NfEnd w (s.join x.toList t)) := by
  obtain ⟨i1, hi1, hy0, hy1, hy2⟩ := info_parts eInfoS
  obtain ⟨i2, hi2, hz0, hz1, hz2⟩ := info_parts eInfoI
  obtain ⟨tb1, tb2, tb3, tb4⟩ := nbox_three w (.bool false) (.slice A n c) (.slice B m d) (.slice C k e) (.bool lf') (.slice A' n' c') (.slice B' m' d') (.slice C' k' e')
  have HS := Lib.hid (h.kept tb4)
  have GS := Lib.hid (g.kept tb4)
  have HB := Lib.hid tb1
  have GB := Lib.hid tb2
  have HR := Lib.hid tb3
  have B0 := Lib.hid tb4
  have HJ : Hid (s.join x.toList t = ⟨false, s.keys ++ [x.toList] ++ t.keys, s.vals ++ t.vals, s.kids ++ t.kids⟩) := Lib.hid (by unfold ND.join; rw [hl]; rfl)
  clear h g hl tb1 tb2 tb3 tb4
  go_enter Try.func31, Try.ntmps31
  go_upto_region 1 with fail
  generalize ((w.alloc (.cells #[.bool false, .slice A n c, .slice B m d, .slice C k e] 25)).alloc (.cells #[.bool lf', .slice A' n' c', .slice B' m' d', .slice C' k' e'] 25)).alloc (.cells #[.bool false, .slice none 0 0, .slice none 0 0, .slice none 0 0] 25) = w0 at *
  have gr : w.heap.size ≤ w.heap.size + 1 + 1 := by omega
  have gr2 : w.heap.size < w.heap.size + 1 := by omega
  generalize w.heap.size + 1 + 1 = r at *
  generalize w.heap.size + 1 = g2 at *
  have hg := HB.out.lt
  have hg2 := GB.out.lt
  have hr := HR.out.lt
  obtain ⟨c0, c1, c2, c3⟩ := HB.out.cells
  have hs1 : (w0.alloc (.cells #[] 9)).heap.size = w0.heap.size + 1 := by simp
  have hs2 : (w0.alloc (.cells #[.bool false, .slice none 0 0, .slice none 0 0, .slice none 0 0] 25)).heap.size = w0.heap.size + 1 := by simp
  have BE := Lib.hid ((below_one w0 (.cells #[] 9)).drew)
  have BEP := Lib.hid ((below_two w0 (.cells #[] 9) (.cells #[.bool false, .slice none 0 0, .slice none 0 0, .slice none 0 0] 25)).drew)
  have BPE := Lib.hid ((below_two w0 (.cells #[.bool false, .slice none 0 0, .slice none 0 0, .slice none 0 0] 25) (.cells #[] 9)).drew)
  have OE : Hid (((w0.alloc (.cells #[] 9)).drew).ownsRow w0.heap.size 9 1 (.slice (some ⟨w0.heap.size, 0, none⟩) 0 0) 0 []) := Lib.hid (own_empty (empty_new w0 _) (Nat.le_refl _))
  have OEP : Hid ((((w0.alloc (.cells #[] 9)).alloc (.cells #[.bool false, .slice none 0 0, .slice none 0 0, .slice none 0 0] 25)).drew).ownsRow w0.heap.size 9 1 (.slice (some ⟨w0.heap.size, 0, none⟩) 0 0) 0 []) := Lib.hid (row_below (show (w0.alloc (.cells #[] 9)).ownsRow w0.heap.size 9 1 (.slice (some ⟨w0.heap.size, 0, none⟩) 0 0) 0 [] from OE.out) ((below_one _ _).drew))
  have OPE : Hid ((((w0.alloc (.cells #[.bool false, .slice none 0 0, .slice none 0 0, .slice none 0 0] 25)).alloc (.cells #[] 9)).drew).ownsRow w0.heap.size 9 1 (.slice (some ⟨w0.heap.size + 1, 0, none⟩) 0 0) 0 []) := Lib.hid (own_empty (by have := empty_new (w0.alloc (.cells #[.bool false, .slice none 0 0, .slice none 0 0, .slice none 0 0] 25)) 9; rw [hs2] at this; exact this) (Nat.le_succ _))
  have QEP : Hid (NBox (((w0.alloc (.cells #[] 9)).alloc (.cells #[.bool false, .slice none 0 0, .slice none 0 0, .slice none 0 0] 25)).drew) (w0.heap.size + 1) (.bool false) (.slice none 0 0) (.slice none 0 0) (.slice none 0 0)) := Lib.hid (by have := (nbox_new (w0.alloc (.cells #[] 9)) (.bool false) (.slice none 0 0) (.slice none 0 0) (.slice none 0 0)).kept ((Below.refl _ _).drew); rw [hs1] at this; exact this)
  have QPE : Hid (NBox (((w0.alloc (.cells #[.bool false, .slice none 0 0, .slice none 0 0, .slice none 0 0] 25)).alloc (.cells #[] 9)).drew) w0.heap.size (.bool false) (.slice none 0 0) (.slice none 0 0) (.slice none 0 0)) := Lib.hid ((nbox_new w0 (.bool false) (.slice none 0 0) (.slice none 0 0) (.slice none 0 0)).kept ((below_one _ _).drew))
  clear hs1 hs2
  have BD := Lib.hid ((Below.refl w0.heap.size w0).drew)
  have BZ := Lib.hid ((below_one w0 (.cells #[.bool false, .slice none 0 0, .slice none 0 0, .slice none 0 0] 25)).drew)
  have KK : Hid (∀ X : World, Below w0.heap.size w0 X → X.cell? ⟨w.heap.size, 0, none⟩ = some (.bool false) ∧ X.cell? ⟨w.heap.size, 1, none⟩ = some (.slice A n c)) := Lib.hid (fun X hb => ⟨(HB.out.kept hb).cells.1, (HB.out.kept hb).cells.2.1⟩)
  go_cut [7] (fun s7 wx => OutR w0 wx n (strVals s.keys) s7)
  case first =>
    go_region_held3 (fun X => X.cell? ⟨w.heap.size, 0, none⟩ = some (.bool false) ∧ X.cell? ⟨w.heap.size, 1, none⟩ = some (.slice A n c)) (first | exact KK.out _ BS.out | exact KK.out _ BT.out | exact KK.out _ B1.out | exact KK.out _ BD.out | exact KK.out _ BE.out | exact KK.out _ BEP.out | exact KK.out _ BPE.out | exact KK.out _ BZ.out)
      (first
        | (refine step_append_ls _ (by rfl) _ _ _ (by rfl) w0.heap.size 9 i1 _ 1 16 Try.underlying22 hi1 hy0 hy1 hy2 rfl (by omega) _ 0 _ [] (by rfl) (by first | exact OE.out | exact OEP.out | exact OPE.out) _ n _ (strVals s.keys) (by rfl) (HS.out.ke.kept (by first | exact BE.out | exact BEP.out | exact BPE.out)) (strVals_one _) (by unfold maxLen; omega) (by omega) ((by first | exact BE.out | exact BEP.out | exact BPE.out) : Below w0.heap.size w0 _).size ?_; intro K1 k1 w1 o1 g1; rw [Nat.zero_add, List.nil_append] at o1; rw [Nat.zero_add]; have B1 := Lib.hid (Below.grown (B := w0.heap.size) (a := w0) (by first | exact BE.out | exact BEP.out | exact BPE.out) g1 ((by first | exact BE.out | exact BEP.out | exact BPE.out) : Below w0.heap.size w0 _).size (by intro k' e'; have := e'; simp [Value.ownBlock] at this; omega)); have O1 := Lib.hid o1; clear o1; first | (have QX := Lib.hid (enbox_grown OEP.out sne g1 QEP.out); have hq9 : w0.heap.size ≤ w0.heap.size + 1 := Nat.le_succ _; obtain ⟨x0, x1, x2, x3⟩ := QX.out.cells; obtain ⟨f0, f1, f2, f3⟩ := QX.out.free; have BS := Lib.hid (below_nput B1.out hq9 (.bool false) (.slice K1 n k1) (.slice none 0 0) (.slice none 0 0)); clear g1) | (have QX := Lib.hid (enbox_grown OPE.out sne g1 QPE.out); have hq9 : w0.heap.size ≤ w0.heap.size := Nat.le_refl _; obtain ⟨x0, x1, x2, x3⟩ := QX.out.cells; obtain ⟨f0, f1, f2, f3⟩ := QX.out.free; have BS := Lib.hid (below_nput B1.out hq9 (.bool false) (.slice K1 n k1) (.slice none 0 0) (.slice none 0 0)); clear g1) | (have QX := Lib.hid (nbox_new w1 (.bool false) (.slice K1 n k1) (.slice none 0 0) (.slice none 0 0)); have BX := Lib.hid (below_one w1 (.cells #[.bool false, .slice K1 n k1, .slice none 0 0, .slice none 0 0] 25)); have BS := Lib.hid (chainN BX.out B1.out); have BT := Lib.hid (chainN (below_one w1 (.cells #[.bool false, .slice none 0 0, .slice none 0 0, .slice none 0 0] 25)) B1.out); have hq9 := B1.out.size; clear g1))
        | fail)
    all_goals (
      go_wp2_with fail
      go_meet
      first
        | exact ⟨_, K1, k1, rfl, QX.out, row_below O1.out BX.out, hq9, chainN BX.out B1.out⟩
        | exact ⟨_, K1, k1, rfl, QX.out.put _ _ _ _, erow_but O1.out sne QX.out (NBut.put _ _ _ _ _ _), hq9, below_nput B1.out hq9 _ _ _ _⟩)
  case rest =>
    obtain ⟨q, K1, k1, rfl, hq, ho, hqb, hbel⟩ := hcut
    have Q1 := Lib.hid hq
    have O1 := Lib.hid ho
    have B1 := Lib.hid hbel
    obtain ⟨w1, hw1⟩ : ∃ w1 : World, w1 = wc := ⟨_, rfl⟩
    subst hw1
    have hql := hq.lt
    have hbz := hbel.size
    clear hq ho hbel c0 c1 c2 c3 BE BEP BPE OE OEP OPE QEP QPE
    obtain ⟨c0, c1, c2, c3⟩ := (HB.out.kept B1.out).cells
    obtain ⟨x0, x1, x2, x3⟩ := Q1.out.cells
    have LX := Lib.hid (ln_str1 w1 x)
    go_upto_region 4 with (at_builtin; refine wpList_append_lay _ rfl (.tmp 19) (.tmp 21) 22 rfl w0.heap.size 9 i1 _ 1 16 Try.underlying22 hi1 hy0 hy1 hy2 rfl (by omega) _ n (strVals s.keys) rfl (row_below O1.out (below_one w1 (.cells #[.string x] 9))) _ 1 1 (strVals [x.toList]) rfl (by rfl) LX.out.lies (strVals_one _) (by unfold maxLen; omega) (by omega) (by simp; omega) ?_; intro v3 w3 hown3 hg3; obtain ⟨K3, k3, rfl⟩ := shape_own hown3; have Q3 := Lib.hid (enbox_grown (row_below O1.out (below_one w1 (.cells #[.string x] 9))) sne hg3 (Q1.out.kept (below_one w1 (.cells #[.string x] 9)))); have O3 := Lib.hid hown3; have B3 := Lib.hid ((B1.out.trans ((below_one w1 (.cells #[.string x] 9)).mono hbz)).grown hg3 (by simp; omega) (fun g hg => ((row_below O1.out (below_one w1 (.cells #[.string x] 9))).lt g hg).1)); clear hown3 hg3 x0 x1 x2 x3 c0 c1 c2 c3; obtain ⟨x0, x1, x2, x3⟩ := Q3.out.cells; obtain ⟨f0, f1, f2, f3⟩ := Q3.out.free)
    have Q4 := Q3.out.set1 (.slice K3 (n + 1) k3)
    have O4 := erow_but O3.out sne Q3.out ((NBut.refl q w3).set 1 (.slice K3 (n + 1) k3))
    have B4 := B3.out.setCell (p := ⟨q, 1, none⟩) hqb (.slice K3 (n + 1) k3)
    have HQ4 := Lib.hid Q4
    have HO4 := Lib.hid O4
    have HB4 := Lib.hid B4
    clear Q4 O4 B4 x0 x1 x2 x3 f0 f1 f2 f3 Q3 O3 B3 Q1 O1 LX
    generalize hw4 : w3.setCell ⟨q, 1, none⟩ (.slice K3 (n + 1) k3) = w4 at *
    clear hw4
    have hb4 := HB4.out.size
    obtain ⟨x0, x1, x2, x3⟩ := HQ4.out.cells
    obtain ⟨y0, y1, y2, y3⟩ := (GB.out.kept HB4.out).cells
    have LT := Lib.hid (GS.out.ke.kept HB4.out)
    go_upto_region 5 with (at_builtin; refine wpList_append_lay _ rfl (.tmp 25) (.tmp 27) 22 rfl w0.heap.size 9 i1 _ 1 16 Try.underlying22 hi1 hy0 hy1 hy2 rfl (by omega) _ (n + 1) (strVals s.keys ++ strVals [x.toList]) rfl HO4.out _ n' c' (strVals t.keys) rfl LT.out.len LT.out.lies (strVals_one _) (by unfold maxLen; omega) (by omega) hb4 ?_; intro v5 w5 hown5 hg5; obtain ⟨K5, k5, rfl⟩ := shape_own hown5; have Q5 := Lib.hid (enbox_grown HO4.out sne hg5 HQ4.out); have O5 := Lib.hid hown5; have B5 := Lib.hid (HB4.out.grown hg5 hb4 (fun g hg => (HO4.out.lt g hg).1)); clear hown5 hg5 x0 x1 x2 x3 y0 y1 y2 y3; obtain ⟨x0, x1, x2, x3⟩ := Q5.out.cells; obtain ⟨f0, f1, f2, f3⟩ := Q5.out.free)
    have w6Q : Hid (NBox (w5.setCell ⟨q, 1, none⟩ (.slice K5 (n + 1 + n') k5)) q (.bool false) (.slice K5 (n + 1 + n') k5) (.slice none 0 0) (.slice none 0 0)) := Lib.hid (Q5.out.set1 (.slice K5 (n + 1 + n') k5))
    have w6B : Hid (Below w0.heap.size w0 (w5.setCell ⟨q, 1, none⟩ (.slice K5 (n + 1 + n') k5))) := Lib.hid (B5.out.setCell (p := ⟨q, 1, none⟩) hqb (.slice K5 (n + 1 + n') k5))
    have L6 : Hid (Ln (w5.setCell ⟨q, 1, none⟩ (.slice K5 (n + 1 + n') k5)) 1 K5 (n + 1 + n') k5 (strVals (s.keys ++ [x.toList] ++ t.keys))) := Lib.hid (by
      have := ln_of (erow_but O5.out sne Q5.out ((NBut.refl q w5).set 1 (.slice K5 (n + 1 + n') k5))) rfl
      rw [← strVals_append, ← strVals_append] at this
      exact this)
    clear x0 x1 x2 x3 f0 f1 f2 f3 Q5 O5 B5 HQ4 HO4 HB4 hb4 LT
    generalize w5.setCell ⟨q, 1, none⟩ (.slice K5 (n + 1 + n') k5) = w6 at *
    have KK2 : Hid (∀ X : World, Below w0.heap.size w0 X → X.cell? ⟨w.heap.size, 2, none⟩ = some (.slice B m d) ∧ X.cell? ⟨g2, 2, none⟩ = some (.slice B' m' d')) := Lib.hid (fun X hb => ⟨(HB.out.kept hb).cells.2.2.1, (GB.out.kept hb).cells.2.2.1⟩)
    have BD2 := Lib.hid (w6B.out.drew)
    have BE2 := Lib.hid ((below_one w6 (.cells #[] 9)).drew)
    have BF2 := Lib.hid (chainN BE2.out w6B.out)
    have OE2 : Hid (((w6.alloc (.cells #[] 9)).drew).ownsRow w6.heap.size 9 1 (.slice (some ⟨w6.heap.size, 0, none⟩) 0 0) 0 []) := Lib.hid (own_empty (empty_new w6 _) (Nat.le_refl _))
    have LS2 := Lib.hid (HS.out.va.kept w6B.out)
    have LT2 := Lib.hid (GS.out.va.kept w6B.out)
    go_region_held3 (fun X => X.cell? ⟨w.heap.size, 2, none⟩ = some (.slice B m d) ∧ X.cell? ⟨g2, 2, none⟩ = some (.slice B' m' d')) (first | exact KK2.out _ BS2.out | exact KK2.out _ BV2.out | exact KK2.out _ BU2.out | exact KK2.out _ BF2.out | exact KK2.out _ BD2.out)
      (first
        | (refine step_append_ls _ (by rfl) _ _ _ (by rfl) w6.heap.size 9 i1 _ 1 16 Try.underlying22 hi1 hy0 hy1 hy2 rfl (by omega) _ 0 _ [] (by rfl) OE2.out _ m _ (strVals s.vals) (by rfl) (LS2.out.kept BE2.out) (strVals_one _) (by unfold maxLen; omega) (by omega) BE2.out.size ?_; intro V2 v2 x2 o2 g2; rw [Nat.zero_add, List.nil_append] at o2; rw [Nat.zero_add]; have B12 := Lib.hid (Below.grown (B := w6.heap.size) (a := w6) BE2.out g2 BE2.out.size (by intro k' e'; have := e'; simp [Value.ownBlock] at this; omega)); have BU2 := Lib.hid (chainN B12.out w6B.out); clear g2)
        | (refine step_append_ls _ (by rfl) _ _ _ (by rfl) w6.heap.size 9 i1 _ 1 16 Try.underlying22 hi1 hy0 hy1 hy2 rfl (by omega) _ m _ (strVals s.vals) (by rfl) o2 _ m' _ (strVals t.vals) (by rfl) (LT2.out.kept B12.out) (strVals_one _) (by unfold maxLen; omega) (by omega) B12.out.size ?_; intro U2 u2 y2 p2 h2; have B22 := Lib.hid (own_grown_hi B12.out B12.out.size o2 (Nat.le_refl _) h2); have BV2 := Lib.hid (chainN B22.out w6B.out); have P2 := Lib.hid p2; have Q2y := Lib.hid (w6Q.out.kept B22.out); have BS2 := Lib.hid (BV2.out.setCell (p := ⟨q, 2, none⟩) hqb (.slice U2 (m + m') u2)); clear p2 h2 o2; obtain ⟨a0, a1, a2, a3⟩ := Q2y.out.cells; obtain ⟨f0, f1, f2, f3⟩ := Q2y.out.free)
        | fail)
    have w8Q := Lib.hid (Q2y.out.set2 (.slice U2 (m + m') u2))
    have w8B := BS2
    have L8 : Hid (Ln (y2.setCell ⟨q, 2, none⟩ (.slice U2 (m + m') u2)) 1 K5 (n + 1 + n') k5 (strVals (s.keys ++ [x.toList] ++ t.keys))) := Lib.hid ((L6.out.kept B22.out).strBut Q2y.out ((NBut.refl q y2).set 2 _))
    have M8 : Hid (Ln (y2.setCell ⟨q, 2, none⟩ (.slice U2 (m + m') u2)) 1 U2 (m + m') u2 (strVals (s.vals ++ t.vals))) := Lib.hid (by
      have := (ln_of P2.out rfl)
      rw [← strVals_append] at this
      exact this.strBut Q2y.out ((NBut.refl q y2).set 2 _))
    clear a0 a1 a2 a3 f0 f1 f2 f3 KK2 BD2 BE2 BF2 OE2 LS2 LT2 B12 BU2 B22 BV2 P2 Q2y BS2 w6Q w6B L6
    go_upto_region 6 with fail
    generalize y2.setCell ⟨q, 2, none⟩ (.slice U2 (m + m') u2) = w8 at *
    have KK3 : Hid (∀ X : World, Below w0.heap.size w0 X → X.cell? ⟨w.heap.size, 3, none⟩ = some (.slice C k e) ∧ X.cell? ⟨g2, 3, none⟩ = some (.slice C' k' e')) := Lib.hid (fun X hb => ⟨(HB.out.kept hb).cells.2.2.2, (GB.out.kept hb).cells.2.2.2⟩)
    have BD3 := Lib.hid (w8B.out.drew)
    have BE3 := Lib.hid ((below_one w8 (.cells #[] 3)).drew)
    have BF3 := Lib.hid (chainN BE3.out w8B.out)
    have OE3 : Hid (((w8.alloc (.cells #[] 3)).drew).ownsRow w8.heap.size 3 1 (.slice (some ⟨w8.heap.size, 0, none⟩) 0 0) 0 []) := Lib.hid (own_empty (empty_new w8 _) (Nat.le_refl _))
    have LS3 := Lib.hid (HS.out.ki.kept w8B.out)
    have LT3 := Lib.hid (GS.out.ki.kept w8B.out)
    go_region_held3 (fun X => X.cell? ⟨w.heap.size, 3, none⟩ = some (.slice C k e) ∧ X.cell? ⟨g2, 3, none⟩ = some (.slice C' k' e')) (first | exact KK3.out _ BS3.out | exact KK3.out _ BV3.out | exact KK3.out _ BU3.out | exact KK3.out _ BF3.out | exact KK3.out _ BD3.out)
      (first
        | (refine step_append_ls _ (by rfl) _ _ _ (by rfl) w8.heap.size 3 i2 _ 1 8 Try.underlying23 hi2 hz0 hz1 hz2 rfl (by omega) _ 0 _ [] (by rfl) OE3.out _ k _ (intVals s.kids) (by rfl) (LS3.out.kept BE3.out) (intVals_one _) (by unfold maxLen; omega) (by omega) BE3.out.size ?_; intro V3 v3 x3 o3 g3; rw [Nat.zero_add, List.nil_append] at o3; rw [Nat.zero_add]; have B13 := Lib.hid (Below.grown (B := w8.heap.size) (a := w8) BE3.out g3 BE3.out.size (by intro k' e'; have := e'; simp [Value.ownBlock] at this; omega)); have BU3 := Lib.hid (chainN B13.out w8B.out); clear g3)
        | (refine step_append_ls _ (by rfl) _ _ _ (by rfl) w8.heap.size 3 i2 _ 1 8 Try.underlying23 hi2 hz0 hz1 hz2 rfl (by omega) _ k _ (intVals s.kids) (by rfl) o3 _ k' _ (intVals t.kids) (by rfl) (LT3.out.kept B13.out) (intVals_one _) (by unfold maxLen; omega) (by omega) B13.out.size ?_; intro U3 u3 y3 p3 h3; have B23 := Lib.hid (own_grown_hi B13.out B13.out.size o3 (Nat.le_refl _) h3); have BV3 := Lib.hid (chainN B23.out w8B.out); have P3 := Lib.hid p3; have Q3y := Lib.hid (w8Q.out.kept B23.out); have BS3 := Lib.hid (BV3.out.setCell (p := ⟨q, 3, none⟩) hqb (.slice U3 (k + k') u3)); clear p3 h3 o3; obtain ⟨a0, a1, a2, a3⟩ := Q3y.out.cells; obtain ⟨f0, f1, f2, f3⟩ := Q3y.out.free)
        | fail)
    have w9Q := Lib.hid (Q3y.out.set3 (.slice U3 (k + k') u3))
    have w9B := BS3
    have L9 : Hid (Nd (y3.setCell ⟨q, 3, none⟩ (.slice U3 (k + k') u3)) K5 (n + 1 + n') k5 U2 (m + m') u2 U3 (k + k') u3 ⟨false, s.keys ++ [x.toList] ++ t.keys, s.vals ++ t.vals, s.kids ++ t.kids⟩) := Lib.hid (by
      have h3 := (ln_of P3.out rfl)
      rw [← sIntVals_append] at h3
      exact ⟨(L8.out.kept B23.out).strBut Q3y.out ((NBut.refl q y3).set 3 _), (M8.out.kept B23.out).strBut Q3y.out ((NBut.refl q y3).set 3 _), h3.intBut Q3y.out ((NBut.refl q y3).set 3 _)⟩)
    clear a0 a1 a2 a3 f0 f1 f2 f3 KK3 BD3 BE3 BF3 OE3 LS3 LT3 B13 BU3 B23 BV3 P3 Q3y BS3 w8Q w8B L8 M8
    go_upto_region 7 with fail
    generalize y3.setCell ⟨q, 3, none⟩ (.slice U3 (k + k') u3) = w9 at *
    have HR9 := Lib.hid (HR.out.kept w9B.out)
    have HD := Lib.hid (nf_done (chainN w9B.out B0.out) gr L9.out HR9.out)
    have HE := Lib.hid (HR9.out.put (.bool false) (.slice K5 (n + 1 + n') k5) (.slice U2 (m + m') u2) (.slice U3 (k + k') u3)).cells
    obtain ⟨a0, a1, a2, a3⟩ := w9Q.out.cells
    obtain ⟨x0, x1, x2, x3⟩ := HR9.out.cells
    obtain ⟨f0, f1, f2, f3⟩ := HR9.out.free
    go_wp2_with fail
    obtain ⟨y0, y1, y2, y3⟩ := HE.out
    refine bodyPost_ret (v := .agg #[.bool false, .slice K5 (n + 1 + n') k5, .slice U2 (m + m') u2, .slice U3 (k + k') u3]) (by simp [results, Try.results31, go_sem, y0, y1, y2, y3]) rfl ?_
    exact ⟨_, rfl, by rw [HJ.out]; exact HD.out.1, HD.out.2⟩
end Go.Proofs.Ytcdfjaldnelfjaa
