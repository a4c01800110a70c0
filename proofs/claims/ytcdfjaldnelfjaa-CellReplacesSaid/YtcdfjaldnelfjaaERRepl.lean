/-
  What the document's own Replace comes to (package tailraceref11).
-/
import Derived.Test.YtcdfjaldnelfjaaERepl
import Derived.Test.YtcdfjaldnelfjaaERJoin
namespace Go.Proofs.Ytcdfjaldnelfjaa
open Go.RowKit

/-- What the first statement leaves: a node's block with its kids, a row of their own. -/
def OutK (w0 wx : World) (n : Nat) (cs : List Value) (u : Value) : Prop :=
  ∃ q K ck, u = .pointer (some ⟨q, 0, none⟩) ∧ NBox wx q (.bool false) (.slice none 0 0) (.slice none 0 0) (.slice K n ck) ∧ Ln wx 1 K n ck cs ∧ w0.heap.size ≤ q ∧ Below w0.heap.size w0 wx

/-- A node's block that is empty, at base or above. -/
def ZBox (b : Nat) (w : World) (q : Nat) : Prop := NBox w q (.bool false) (.slice none 0 0) (.slice none 0 0) (.slice none 0 0) ∧ b ≤ q
theorem ZBox.grown {w w' : World} {b base sz n q : Nat} {t : TypeId} {v : Value} {xs : List Value} (h : w.ownsRow base t sz v n xs) (ht : t ≠ 25) (hg : w.grownBy w' v.ownBlock) (hb : ZBox b w q) : ZBox b w' q := ⟨enbox_grown h ht hg hb.1, hb.2⟩

set_option maxRecDepth 20000 in
set_option maxHeartbeats 25600000 in
theorem rreplace_any (A : Option Addr) (n c : Nat) (B : Option Addr) (m d : Nat) (C : Option Addr) (k e : Nat) (s : ND) (f t : Int) (D : Option Addr) (q dq : Nat) (ks : List Int) (E : Option Addr) (p ep : Nat) (zs : List (List UInt8)) (w : World)
    (h : Nd w A n c B m d C k e s) (g1 : Ln w 1 D q dq (intVals ks)) (g2 : Ln w 1 E p ep (strVals zs)) (hl : s.leaf = false) (ho : s.ok = true) (hn : n ≤ 300000) (hq : q ≤ 10) (hp : p ≤ 10) (hk : k ≤ 300000) :
    Calls Try.prog 29 #[.agg #[.bool false, .slice A n c, .slice B m d, .slice C k e], .int .i64 f, .int .i64 t, .slice D q dq, .slice E p ep] w (NfEnd w (s.replace f t ks zs)) := by
  obtain ⟨i1, hi1, hy0, hy1, hy2⟩ := info_parts eInfoS
  obtain ⟨i2, hi2, hz0, hz1, hz2⟩ := info_parts eInfoI
  have hkn : k = n + 1 := by rw [← h.cn, ← h.kn]; exact (ND.ok_inner ho hl).2.1
  have HVI := Lib.hid (ND.ok_inner ho hl).2.2.2
  have HKN : k ≤ n + 1 ∧ n + 1 ≤ k := by omega
  have HQ := Lib.hid g1.intN
  have HPn := Lib.hid g2.strN
  have HC := Lib.hid h.cn
  have HL := Lib.hid hl
  obtain ⟨tb1, tb2, tb3⟩ := nbox_pair w (.bool false) (.slice A n c) (.slice B m d) (.slice C k e)
  have HS := Lib.hid (h.kept tb3)
  have HB := Lib.hid tb1
  have HR := Lib.hid tb2
  have B0 := Lib.hid tb3
  have G1 := Lib.hid (g1.kept tb3)
  have G2 := Lib.hid (g2.kept tb3)
  clear ho hkn h g1 g2 hl tb1 tb2 tb3
  go_enter Try.func29, Try.ntmps29
  go_upto_region 1 with fail
  generalize (w.alloc (.cells #[.bool false, .slice A n c, .slice B m d, .slice C k e] 25)).alloc (.cells #[.bool false, .slice none 0 0, .slice none 0 0, .slice none 0 0] 25) = w0 at *
  have gr : w.heap.size ≤ w.heap.size + 1 := Nat.le_succ _
  generalize w.heap.size + 1 = r at *
  obtain ⟨c0, c1, c2, c3⟩ := HB.out.cells
  have hg := HB.out.lt
  have hr := HR.out.lt
  by_cases h1 : 0 ≤ f
  case neg =>
    have h1' : f < 0 := by omega
    have z1 : decide (f < 0) = true := decide_eq_true h1'
    clear h1
    have HP := Lib.hid (replace_no (s := s) (f := f) (t := t) (ks := ks) (zs := zs) (by rw [HC.out, HPn.out, HQ.out]; omega))
    have HD := Lib.hid (nf_done B0.out gr HS.out HR.out)
    rw [HL.out] at HD
    have HE := Lib.hid (HR.out.put (.bool false) (.slice A n c) (.slice B m d) (.slice C k e)).cells
    obtain ⟨x0, x1, x2, x3⟩ := HR.out.cells
    obtain ⟨f0, f1, f2, f3⟩ := HR.out.free
    go_wp2_with fail
    obtain ⟨y0, y1, y2, y3⟩ := HE.out
    refine bodyPost_ret (v := .agg #[.bool false, .slice A n c, .slice B m d, .slice C k e]) (by simp [results, Try.results29, go_sem, y0, y1, y2, y3]) rfl ?_
    exact ⟨_, rfl, by rw [HP.out]; exact HD.out.1, HD.out.2⟩
  by_cases h2 : f < t
  case neg =>
    have h2' : t ≤ f := by omega
    have z1 : decide (f < 0) = false := decide_eq_false (by omega)
    have z2 : decide (t ≤ f) = true := decide_eq_true h2'
    clear h2
    have HP := Lib.hid (replace_no (s := s) (f := f) (t := t) (ks := ks) (zs := zs) (by rw [HC.out, HPn.out, HQ.out]; omega))
    have HD := Lib.hid (nf_done B0.out gr HS.out HR.out)
    rw [HL.out] at HD
    have HE := Lib.hid (HR.out.put (.bool false) (.slice A n c) (.slice B m d) (.slice C k e)).cells
    obtain ⟨x0, x1, x2, x3⟩ := HR.out.cells
    obtain ⟨f0, f1, f2, f3⟩ := HR.out.free
    go_wp2_with fail
    obtain ⟨y0, y1, y2, y3⟩ := HE.out
    refine bodyPost_ret (v := .agg #[.bool false, .slice A n c, .slice B m d, .slice C k e]) (by simp [results, Try.results29, go_sem, y0, y1, y2, y3]) rfl ?_
    exact ⟨_, rfl, by rw [HP.out]; exact HD.out.1, HD.out.2⟩
  by_cases h3 : t ≤ (k : Int)
  case neg =>
    have h3' : (k : Int) < t := by omega
    have z1 : decide (f < 0) = false := decide_eq_false (by omega)
    have z2 : decide (t ≤ f) = false := decide_eq_false (by omega)
    have z3 : decide ((k : Int) < t) = true := decide_eq_true h3'
    clear h3
    have HP := Lib.hid (replace_no (s := s) (f := f) (t := t) (ks := ks) (zs := zs) (by rw [HC.out, HPn.out, HQ.out]; omega))
    have HD := Lib.hid (nf_done B0.out gr HS.out HR.out)
    rw [HL.out] at HD
    have HE := Lib.hid (HR.out.put (.bool false) (.slice A n c) (.slice B m d) (.slice C k e)).cells
    obtain ⟨x0, x1, x2, x3⟩ := HR.out.cells
    obtain ⟨f0, f1, f2, f3⟩ := HR.out.free
    go_wp2_with fail
    obtain ⟨y0, y1, y2, y3⟩ := HE.out
    refine bodyPost_ret (v := .agg #[.bool false, .slice A n c, .slice B m d, .slice C k e]) (by simp [results, Try.results29, go_sem, y0, y1, y2, y3]) rfl ?_
    exact ⟨_, rfl, by rw [HP.out]; exact HD.out.1, HD.out.2⟩
  by_cases h4 : p + 1 = q
  case neg =>
    have z1 : decide (f < 0) = false := decide_eq_false (by omega)
    have z2 : decide (t ≤ f) = false := decide_eq_false (by omega)
    have z3 : decide ((k : Int) < t) = false := decide_eq_false (by omega)
    have z4 : ((p : Int) + 1 != (q : Int)) = true := by rw [bne_iff_ne]; omega
    have z5 : ¬ (p : Int) + 1 = (q : Int) := by omega
    have h4' : p + 1 < q ∨ q < p + 1 := by omega
    clear h4
    have HP := Lib.hid (replace_no (s := s) (f := f) (t := t) (ks := ks) (zs := zs) (by rw [HC.out, HPn.out, HQ.out]; omega))
    have HD := Lib.hid (nf_done B0.out gr HS.out HR.out)
    rw [HL.out] at HD
    have HE := Lib.hid (HR.out.put (.bool false) (.slice A n c) (.slice B m d) (.slice C k e)).cells
    obtain ⟨x0, x1, x2, x3⟩ := HR.out.cells
    obtain ⟨f0, f1, f2, f3⟩ := HR.out.free
    go_wp2_with fail
    obtain ⟨y0, y1, y2, y3⟩ := HE.out
    refine bodyPost_ret (v := .agg #[.bool false, .slice A n c, .slice B m d, .slice C k e]) (by simp [results, Try.results29, go_sem, y0, y1, y2, y3]) rfl ?_
    exact ⟨_, rfl, by rw [HP.out]; exact HD.out.1, HD.out.2⟩
  obtain ⟨f, rfl⟩ : ∃ f' : Nat, f = (f' : Int) := ⟨f.toNat, by omega⟩
  obtain ⟨t, rfl⟩ : ∃ t' : Nat, t = (t' : Int) + 1 := ⟨t.toNat - 1, by omega⟩
  have HP := Lib.hid (replace_yes (s := s) (f := f) (t := t) (ks := ks) (zs := zs) (by omega) (by rw [HC.out]; omega) (by rw [HPn.out, HQ.out]; exact h4))
  have z1 : decide ((f : Int) < 0) = false := decide_eq_false (by omega)
  have z2 : decide ((t : Int) + 1 ≤ (f : Int)) = false := decide_eq_false (by omega)
  have z3 : decide ((k : Int) < (t : Int) + 1) = false := decide_eq_false (by omega)
  have z4 : ((p : Int) + 1 != (q : Int)) = false := by rw [bne_eq_false_iff_eq]; omega
  have hft : f ≤ t := by omega
  have htk : t + 1 ≤ k := by omega
  have hqp : q = p + 1 := h4.symm
  have HQP := Lib.hid hqp
  have hck := HS.out.ki.le
  have hcn := HS.out.ke.le
  have i1' : (0 : Int) ≤ (f : Int) := by omega
  have i2' : (f : Int) < (t : Int) + 1 := by omega
  have i3' : (t : Int) + 1 ≤ (k : Int) := by omega
  clear h1 h2 h3 h4 hqp
  go_upto_region 3 with fail
  clear z1 z2 z3 z4
  have hs1 : (w0.alloc (.cells #[] 3)).heap.size = w0.heap.size + 1 := by simp
  have hs2 : (w0.alloc (.cells #[.bool false, .slice none 0 0, .slice none 0 0, .slice none 0 0] 25)).heap.size = w0.heap.size + 1 := by simp
  have BD := Lib.hid ((Below.refl w0.heap.size w0).drew)
  have BZ := Lib.hid ((below_one w0 (.cells #[.bool false, .slice none 0 0, .slice none 0 0, .slice none 0 0] 25)).drew)
  have BE := Lib.hid ((below_one w0 (.cells #[] 3)).drew)
  have BEP := Lib.hid ((below_two w0 (.cells #[] 3) (.cells #[.bool false, .slice none 0 0, .slice none 0 0, .slice none 0 0] 25)).drew)
  have BPE := Lib.hid ((below_two w0 (.cells #[.bool false, .slice none 0 0, .slice none 0 0, .slice none 0 0] 25) (.cells #[] 3)).drew)
  have OE : Hid (((w0.alloc (.cells #[] 3)).drew).ownsRow w0.heap.size 3 1 (.slice (some ⟨w0.heap.size, 0, none⟩) 0 0) 0 []) := Lib.hid (own_empty (empty_new w0 _) (Nat.le_refl _))
  have OEP : Hid ((((w0.alloc (.cells #[] 3)).alloc (.cells #[.bool false, .slice none 0 0, .slice none 0 0, .slice none 0 0] 25)).drew).ownsRow w0.heap.size 3 1 (.slice (some ⟨w0.heap.size, 0, none⟩) 0 0) 0 []) := Lib.hid (row_below (show (w0.alloc (.cells #[] 3)).ownsRow w0.heap.size 3 1 (.slice (some ⟨w0.heap.size, 0, none⟩) 0 0) 0 [] from OE.out) ((below_one _ _).drew))
  have OPE : Hid ((((w0.alloc (.cells #[.bool false, .slice none 0 0, .slice none 0 0, .slice none 0 0] 25)).alloc (.cells #[] 3)).drew).ownsRow w0.heap.size 3 1 (.slice (some ⟨w0.heap.size + 1, 0, none⟩) 0 0) 0 []) := Lib.hid (own_empty (by have := empty_new (w0.alloc (.cells #[.bool false, .slice none 0 0, .slice none 0 0, .slice none 0 0] 25)) 3; rw [hs2] at this; exact this) (Nat.le_succ _))
  have QEP : Hid (ZBox w0.heap.size (((w0.alloc (.cells #[] 3)).alloc (.cells #[.bool false, .slice none 0 0, .slice none 0 0, .slice none 0 0] 25)).drew) (w0.heap.size + 1)) := Lib.hid (by have := (nbox_new (w0.alloc (.cells #[] 3)) (.bool false) (.slice none 0 0) (.slice none 0 0) (.slice none 0 0)).kept ((Below.refl _ _).drew); rw [hs1] at this; exact ⟨this, Nat.le_succ _⟩)
  have QPE : Hid (ZBox w0.heap.size (((w0.alloc (.cells #[.bool false, .slice none 0 0, .slice none 0 0, .slice none 0 0] 25)).alloc (.cells #[] 3)).drew) w0.heap.size) := Lib.hid (⟨(nbox_new w0 (.bool false) (.slice none 0 0) (.slice none 0 0) (.slice none 0 0)).kept ((below_one _ _).drew), Nat.le_refl _⟩)
  clear hs1 hs2
  have KK : Hid (∀ X : World, Below w0.heap.size w0 X → X.cell? ⟨w.heap.size, 3, none⟩ = some (.slice C k e)) := Lib.hid (fun X hb => (HB.out.kept hb).cells.2.2.2)
  have LT := Lib.hid (HS.out.ki.intTake (show f ≤ k by omega))
  have LD := Lib.hid (lnI_drop HS.out.ki htk)
  have U1 := fun w => upto_I (n := k) (c := e) (k := f) C (by omega) hck w
  have U2 := fun w => from_I1 (n := k) (c := e) (k := t) C htk w
  have HV : Hid (intVals (s.kids.take f) ++ intVals ks ++ intVals (s.kids.drop (t + 1)) = intVals (ND.rep s.kids f (t + 1) ks)) := Lib.hid (by unfold ND.rep; rw [← sIntVals_append, ← sIntVals_append])
  obtain ⟨M, hM⟩ : ∃ M, f + q + (k - (t + 1)) = M := ⟨_, rfl⟩
  have HMM := Lib.hid hM
  clear hM
  go_cut [11] (fun s11 wx => OutK w0 wx M (intVals (ND.rep s.kids f (t + 1) ks)) s11)
  case first =>
    go_region_held3 (fun X => X.cell? ⟨w.heap.size, 3, none⟩ = some (.slice C k e)) (first | exact KK.out _ BS.out | exact KK.out _ BX.out | exact KK.out _ BZ3.out | exact KK.out _ B3.out | exact KK.out _ BZ2.out | exact KK.out _ B2.out | exact KK.out _ BZ1.out | exact KK.out _ B1.out | exact KK.out _ BEP.out | exact KK.out _ BPE.out | exact KK.out _ BE.out | exact KK.out _ BZ.out | exact KK.out _ BD.out)
      (first
        | (refine step_append_ls _ (by rfl) _ _ _ (by rfl) w0.heap.size 3 i2 _ 1 8 Try.underlying23 hi2 hz0 hz1 hz2 rfl (by omega) _ 0 _ [] (by rfl) (by first | exact OE.out | exact OEP.out | exact OPE.out) _ f _ (intVals (s.kids.take f)) (by rfl) (LT.out.kept (by first | exact BE.out | exact BEP.out | exact BPE.out)) (intVals_one _) (by unfold maxLen; omega) (by omega) ((by first | exact BE.out | exact BEP.out | exact BPE.out) : Below w0.heap.size w0 _).size ?_; intro K1 k1 w1 o1 g1; rw [Nat.zero_add, List.nil_append] at o1; rw [Nat.zero_add]; have B1 := Lib.hid (Below.grown (B := w0.heap.size) (a := w0) (by first | exact BE.out | exact BEP.out | exact BPE.out) g1 ((by first | exact BE.out | exact BEP.out | exact BPE.out) : Below w0.heap.size w0 _).size (by intro k' e'; have := e'; simp [Value.ownBlock] at this; omega)); have O1 := Lib.hid o1; have BZ1 := Lib.hid (chainN (below_one w1 (.cells #[.bool false, .slice none 0 0, .slice none 0 0, .slice none 0 0] 25)) B1.out); have OZ1 := Lib.hid (row_below o1 (below_one w1 (.cells #[.bool false, .slice none 0 0, .slice none 0 0, .slice none 0 0] 25))); have QZ1 : Hid (ZBox w0.heap.size (w1.alloc (.cells #[.bool false, .slice none 0 0, .slice none 0 0, .slice none 0 0] 25)) w1.heap.size) := Lib.hid ⟨nbox_new w1 _ _ _ _, B1.out.size⟩; first | (have Q1 := Lib.hid (ZBox.grown OEP.out ine g1 QEP.out)) | (have Q1 := Lib.hid (ZBox.grown OPE.out ine g1 QPE.out)) | skip; clear g1 o1)
        | (refine step_append_ls _ (by rfl) _ _ _ (by rfl) w0.heap.size 3 i2 _ 1 8 Try.underlying23 hi2 hz0 hz1 hz2 rfl (by omega) _ f _ (intVals (s.kids.take f)) (by rfl) (by first | exact O1.out | exact OZ1.out) _ q _ (intVals ks) (by rfl) (G1.out.kept (by first | exact B1.out | exact BZ1.out)) (intVals_one _) (by unfold maxLen; omega) (by omega) ((by first | exact B1.out | exact BZ1.out) : Below w0.heap.size w0 _).size ?_; intro K2 k2 w2 o2 g2; have B2 := Lib.hid (own_grown_hi (B := w0.heap.size) (a := w0) (by first | exact B1.out | exact BZ1.out) (by first | exact B1.out.size | exact BZ1.out.size) (by first | exact O1.out | exact OZ1.out) (Nat.le_refl _) g2); have O2 := Lib.hid o2; have BZ2 := Lib.hid (chainN (below_one w2 (.cells #[.bool false, .slice none 0 0, .slice none 0 0, .slice none 0 0] 25)) B2.out); have OZ2 := Lib.hid (row_below o2 (below_one w2 (.cells #[.bool false, .slice none 0 0, .slice none 0 0, .slice none 0 0] 25))); have QZ2 : Hid (ZBox w0.heap.size (w2.alloc (.cells #[.bool false, .slice none 0 0, .slice none 0 0, .slice none 0 0] 25)) w2.heap.size) := Lib.hid ⟨nbox_new w2 _ _ _ _, B2.out.size⟩; first | (have Q2 := Lib.hid (ZBox.grown O1.out ine g2 Q1.out)) | (have Q2 := Lib.hid (ZBox.grown OZ1.out ine g2 QZ1.out)) | skip; clear g2 o2)
        | (refine step_append_ls _ (by rfl) _ _ _ (by rfl) w0.heap.size 3 i2 _ 1 8 Try.underlying23 hi2 hz0 hz1 hz2 rfl (by omega) _ (f + q) _ (intVals (s.kids.take f) ++ intVals ks) (by rfl) (by first | exact O2.out | exact OZ2.out) _ (k - (t + 1)) _ (intVals (s.kids.drop (t + 1))) (by rfl) (LD.out.kept (by first | exact B2.out | exact BZ2.out)) (intVals_one _) (by unfold maxLen; omega) (by omega) ((by first | exact B2.out | exact BZ2.out) : Below w0.heap.size w0 _).size ?_; intro K3 k3 w3 o3 g3; rw [HV.out, HMM.out] at o3; rw [HMM.out]; have B3 := Lib.hid (own_grown_hi (B := w0.heap.size) (a := w0) (by first | exact B2.out | exact BZ2.out) (by first | exact B2.out.size | exact BZ2.out.size) (by first | exact O2.out | exact OZ2.out) (Nat.le_refl _) g3); have O3 := Lib.hid o3; first | (have Q3 := Lib.hid (ZBox.grown O2.out ine g3 Q2.out); obtain ⟨x0, x1, x2, x3⟩ := Q3.out.1.cells; obtain ⟨f0, f1, f2, f3⟩ := Q3.out.1.free; have BS := Lib.hid (below_nput B3.out Q3.out.2 (.bool false) (.slice none 0 0) (.slice none 0 0) (.slice K3 M k3))) | (have Q3 := Lib.hid (ZBox.grown OZ2.out ine g3 QZ2.out); obtain ⟨x0, x1, x2, x3⟩ := Q3.out.1.cells; obtain ⟨f0, f1, f2, f3⟩ := Q3.out.1.free; have BS := Lib.hid (below_nput B3.out Q3.out.2 (.bool false) (.slice none 0 0) (.slice none 0 0) (.slice K3 M k3))) | (have BX := Lib.hid (chainN (below_one w3 (.cells #[.bool false, .slice none 0 0, .slice none 0 0, .slice K3 M k3] 25)) B3.out); have BZ3 := Lib.hid (chainN (below_one w3 (.cells #[.bool false, .slice none 0 0, .slice none 0 0, .slice none 0 0] 25)) B3.out)); clear g3 o3)
        | fail)
    all_goals (
      go_wp2_with fail
      go_meet
      first
        | exact ⟨_, K3, k3, rfl, Q3.out.1.put _ _ _ _, (ln_of O3.out rfl).intBut Q3.out.1 (NBut.put _ _ _ _ _ _), Q3.out.2, BS.out⟩
        | exact ⟨_, K3, k3, rfl, nbox_new w3 _ _ _ _, (ln_of O3.out rfl).kept (below_one _ _), B3.out.size, BX.out⟩)
  case rest =>
    obtain ⟨qq, K3, k3, rfl, hq9, hk9, hqb, hbel⟩ := hcut
    have Q1 := Lib.hid hq9
    have L1 := Lib.hid hk9
    have B1 := Lib.hid hbel
    clear hq9 hk9 hbel c0 c1 c2 c3 BD BZ BE BEP BPE OE OEP OPE QEP QPE KK LT LD U1 U2
    obtain ⟨w1, hw1⟩ : ∃ w1 : World, w1 = wc := ⟨_, rfl⟩
    subst hw1
    have BD := Lib.hid (B1.out.drew)
    have BE := Lib.hid ((below_one w1 (.cells #[] 9)).drew)
    have BF := Lib.hid (chainN BE.out B1.out)
    have OE : Hid (((w1.alloc (.cells #[] 9)).drew).ownsRow w1.heap.size 9 1 (.slice (some ⟨w1.heap.size, 0, none⟩) 0 0) 0 []) := Lib.hid (own_empty (empty_new w1 _) (Nat.le_refl _))
    have KK : Hid (∀ X : World, Below w0.heap.size w0 X → X.cell? ⟨w.heap.size, 1, none⟩ = some (.slice A n c)) := Lib.hid (fun X hb => (HB.out.kept hb).cells.2.1)
    have LT := Lib.hid ((HS.out.ke.kept B1.out).strTake (show f ≤ n by omega))
    have LD := Lib.hid (lnS_drop (HS.out.ke.kept B1.out) (show t ≤ n by omega))
    have LM := Lib.hid (G2.out.kept B1.out)
    have U1 := fun w => upto_S (n := n) (c := c) (k := f) A (by omega) hcn w
    have U2 := fun w => from_S (n := n) (c := c) (k := t) A (by omega) w
    have HW : IntKind.i64.wrap (t : Int) = (t : Int) := IntWalk.i64_in _ (by omega)
    have HW2 : IntKind.i64.wrap ((t : Int) + 1 - 1) = (t : Int) := by rw [IntWalk.i64_in _ (by omega)]; omega
    have HV2 : Hid (strVals (s.keys.take f) ++ strVals zs ++ strVals (s.keys.drop t) = strVals (ND.rep s.keys f t zs)) := Lib.hid (by unfold ND.rep; rw [← strVals_append, ← strVals_append])
    obtain ⟨M2, hM2⟩ : ∃ M2, f + p + (n - t) = M2 := ⟨_, rfl⟩
    have HMM2 := Lib.hid hM2
    clear hM2
    go_upto_region 4 with fail
    go_region_held3 (fun X => X.cell? ⟨w.heap.size, 1, none⟩ = some (.slice A n c)) (first | exact KK.out _ BS.out | exact KK.out _ BV3.out | exact KK.out _ BV2.out | exact KK.out _ BV1.out | exact KK.out _ BF.out | exact KK.out _ BD.out)
      (first
        | (refine step_append_ls _ (by rfl) _ _ _ (by rfl) w1.heap.size 9 i1 _ 1 16 Try.underlying22 hi1 hy0 hy1 hy2 rfl (by omega) _ 0 _ [] (by rfl) OE.out _ f _ (strVals (s.keys.take f)) (by rfl) (LT.out.kept BE.out) (strVals_one _) (by unfold maxLen; omega) (by omega) BE.out.size ?_; intro V1 v1 x1 o1 g1; rw [Nat.zero_add, List.nil_append] at o1; rw [Nat.zero_add]; have BB1 := Lib.hid (Below.grown (B := w1.heap.size) (a := w1) BE.out g1 BE.out.size (by intro k' e'; have := e'; simp [Value.ownBlock] at this; omega)); have BV1 := Lib.hid (chainN BB1.out B1.out); clear g1)
        | (refine step_append_ls _ (by rfl) _ _ _ (by rfl) w1.heap.size 9 i1 _ 1 16 Try.underlying22 hi1 hy0 hy1 hy2 rfl (by omega) _ f _ (strVals (s.keys.take f)) (by rfl) o1 _ p _ (strVals zs) (by rfl) (LM.out.kept BB1.out) (strVals_one _) (by unfold maxLen; omega) (by omega) BB1.out.size ?_; intro V2 v2 x2 o2 g2; have BB2 := Lib.hid (own_grown_hi BB1.out BB1.out.size o1 (Nat.le_refl _) g2); have BV2 := Lib.hid (chainN BB2.out B1.out); clear g2 o1)
        | (refine step_append_ls _ (by rfl) _ _ _ (by rfl) w1.heap.size 9 i1 _ 1 16 Try.underlying22 hi1 hy0 hy1 hy2 rfl (by omega) _ (f + p) _ (strVals (s.keys.take f) ++ strVals zs) (by rfl) o2 _ (n - t) _ (strVals (s.keys.drop t)) (by rfl) (LD.out.kept BB2.out) (strVals_one _) (by unfold maxLen; omega) (by omega) BB2.out.size ?_; intro V3 v3 x3 o3 g3; rw [HV2.out, HMM2.out] at o3; rw [HMM2.out]; have BB3 := Lib.hid (own_grown_hi BB2.out BB2.out.size o2 (Nat.le_refl _) g3); have BV3 := Lib.hid (chainN BB3.out B1.out); have O3 := Lib.hid o3; have Q3 := Lib.hid (Q1.out.kept BB3.out); have BS := Lib.hid (BV3.out.setCell (p := ⟨qq, 1, none⟩) hqb (.slice V3 M2 v3)); clear g3 o3 o2; obtain ⟨a0, a1, a2, a3⟩ := Q3.out.cells; obtain ⟨f0, f1, f2, f3⟩ := Q3.out.free)
        | fail)
    have Q9 := Lib.hid (Q3.out.set1 (.slice V3 M2 v3))
    have L9 : Hid (Nd (x3.setCell ⟨qq, 1, none⟩ (.slice V3 M2 v3)) V3 M2 v3 none 0 0 K3 M k3 ⟨false, ND.rep s.keys f t zs, [], ND.rep s.kids f (t + 1) ks⟩) := Lib.hid ⟨(ln_of O3.out rfl).strBut Q3.out ((NBut.refl qq x3).set 1 _), Ln.none_ _ 1, (L1.out.kept BB3.out).intBut Q3.out ((NBut.refl qq x3).set 1 _)⟩
    have B9 := BS
    clear a0 a1 a2 a3 f0 f1 f2 f3 KK BD BE BF OE LT LD LM U1 U2 BB1 BB2 BB3 BV1 BV2 BV3 O3 Q3 BS L1 Q1 HW HW2
    go_upto_region 5 with fail
    generalize x3.setCell ⟨qq, 1, none⟩ (.slice V3 M2 v3) = w9 at *
    have HR9 := Lib.hid (HR.out.kept B9.out)
    have HD := Lib.hid (nf_done (chainN B9.out B0.out) gr L9.out HR9.out)
    have HE := Lib.hid (HR9.out.put (.bool false) (.slice V3 M2 v3) (.slice none 0 0) (.slice K3 M k3)).cells
    obtain ⟨a0, a1, a2, a3⟩ := Q9.out.cells
    obtain ⟨x0, x1', x2', x3'⟩ := HR9.out.cells
    obtain ⟨f0, f1, f2, f3⟩ := HR9.out.free
    go_wp2_with fail
    obtain ⟨y0, y1, y2, y3⟩ := HE.out
    refine bodyPost_ret (v := .agg #[.bool false, .slice V3 M2 v3, .slice none 0 0, .slice K3 M k3]) (by simp [results, Try.results29, go_sem, y0, y1, y2, y3]) rfl ?_
    exact ⟨_, rfl, by have e9 := HP.out; rw [show ((t + 1 : Nat) : Int) = (t : Int) + 1 by omega, HL.out, HVI.out] at e9; rw [e9]; exact HD.out.1, HD.out.2⟩
end Go.Proofs.Ytcdfjaldnelfjaa
