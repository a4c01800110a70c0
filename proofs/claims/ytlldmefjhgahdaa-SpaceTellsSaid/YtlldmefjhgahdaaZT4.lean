/-
  A part of the proof: what its texts say stands at the head of each. Conditions: none.
-/
import Derived.Deep.RegionHeld3
import Derived.Deep.CutBlock
import Derived.Deep.RegionLaw
import Derived.Deep.AppendLies
import Derived.Laws.AppendOwnNone
import Derived.Deep.DeepCutAuto
import Derived.Deep.RegionWith
import Derived.Deep.QuietTactic
import Derived.BigQuiet
import Derived.IntWalk
import Derived.Test.YtlldmefjhgahdaaZT1
import Derived.Test.YtlldmefjhgahdaaZT2
import Derived.Test.YtlldmefjhgahdaaZT3

/-
  What the document's own Own comes to: lists in memory of their own.
-/
namespace Go.Proofs.Ytlldmefjhgahdaa
open Go.RowKit

set_option maxRecDepth 20000 in
theorem frInfo : (Try.prog.info? 49).map (fun i => (i.zero, i.size, i.bytes)) = some (some (.agg #[.int .i64 0, .int .i64 0]), 2, 16) := by kernel_rfl

theorem shape_own {w : World} {base n sz : Nat} {e : TypeId} {v : Value} {xs : List Value} (h : w.ownsRow base e sz v n xs) : ∃ A c, v = .slice A n c := by
  obtain ⟨A, c, h1, _⟩ := Ln.of_own h
  exact ⟨A, c, h1⟩

/-- append, as one step of a drawn region, from a list that may be nil. -/
theorem step_append_ln {P : Program} (w : World) {ops : Array Oper} {o : Oper} {a : Act} {K : Act → World → Prop} {Q : Exit → Act → World → Prop} {E : Prop} (hgd : o.guard = none) (s x : Operand) (t : TypeId)
    (ho : o.op = .call { callee := .builtin .append, args := #[s, x], argTypes := #[t, t] })
    (base : Nat) (e : TypeId) (i : TypeInfo) (z : Value) (size bytes : Nat) (ht : P.underlying t = some (.slice e)) (hi : P.info? e = some i) (hz : i.zero = some z)
    (hsize : i.size = size) (hby : i.bytes = bytes) (hzs : z.cells.size = size) (hsz : 0 < size)
    (v : Value) (n : Nat) (xs : List Value) (hs : a.eval s = v) (hown : w.ownsRow base e size v n xs)
    (A : Option Addr) (m c : Nat) (news : List Value) (hx : a.eval x = .slice A m c) (hl : Ln w size A m c news) (h1 : ∀ u ∈ news, u.oneCell' = true)
    (h63 : n + m ≤ maxLen) (hbytes : (n + m) * bytes ≤ 140737488355328) (hbase : base ≤ w.heap.size)
    (h : ∀ A' c' w', w'.ownsRow base e size (.slice A' (n + m) c') (n + m) (xs ++ news) → w.grownBy w' v.ownBlock → K (a.put o.dst (.slice A' (n + m) c')) w') :
    if Region.wanted o (yielded ops a.tmps) = true then Oper.wp P o a w K Q else E := by
  have hw : Region.wanted o (yielded ops a.tmps) = true := by simp [Region.wanted, hgd]
  rw [if_pos hw]
  rcases A with _ | ad
  · obtain ⟨rfl, rfl⟩ := hl.lies.1 rfl
    obtain rfl : news = [] := List.eq_nil_of_length_eq_zero (by have := hl.len; omega)
    have hrun := run_append_owned_none (P := P) (w := w) base t o.type e i size ht hi v n xs hown
    obtain ⟨A', c', rfl⟩ := shape_own hown
    unfold Oper.wp
    simp [execOp, ho, resolve, invoke, builtin, hs, hx, hrun, Result.andThen]
    exact h A' c' w (by simpa using hown) (World.grownBy.refl _ _)
  · refine wp_append_own w s x t ho base e i z size bytes ht hi hz hsize hby hzs hsz v n xs hs hown ad m c news hx hl.len (hl.lies.2 ad rfl) h1 h63 hbytes hbase (fun v' w' h2 h3 _ => ?_)
    obtain ⟨A', c', rfl⟩ := shape_own h2
    exact h A' c' w' h2 h3

theorem own_empty {w : World} {base g sz : Nat} {t : TypeId} (h : w.heap[g]? = some (.cells #[] t (0, 0))) (hb : base ≤ g) : w.ownsRow base t sz (.slice (some ⟨g, 0, none⟩) 0 0) 0 [] :=
  ⟨by simp, .inr ⟨g, 0, #[], rfl, hb, h, Nat.le_refl _, Nat.zero_le _, by simp, by simp⟩⟩
theorem empty_new (w : World) (t : TypeId) : (w.alloc (.cells #[] t)).heap[w.heap.size]? = some (.cells #[] t (0, 0)) := heap_alloc_new w _
theorem own_apart {w w' : World} {base base' n n' : Nat} {e e' : TypeId} {sz sz' : Nat} {v v' : Value} {xs xs' : List Value} (hne : e ≠ e') (h : w.ownsRow base e sz v n xs) (h' : w.ownsRow base' e' sz' v' n' xs') (hg : w.grownBy w' v'.ownBlock) : w'.ownsRow base e sz v n xs := by
  refine h.kept hg ?_
  rcases h.2 with ⟨rfl, _⟩ | ⟨g, cap, cur, rfl, _, hh, _⟩
  · exact Or.inl rfl
  · refine Or.inr (fun hk => ?_)
    rcases h'.2 with ⟨rfl, _⟩ | ⟨g', cap', cur', rfl, _, hh', _⟩
    · cases hk
    · injection hk with hk
      subst hk
      rw [hh] at hh'
      injection hh' with hh'
      injection hh' with _ hh'
      exact hne hh'

/-- Lists in memory of their own. -/
structure OwnS (w : World) (base : Nat) (A : Option Addr) (n c : Nat) (B : Option Addr) (m d : Nat) (s : SS) : Prop where
  fr : w.ownsRow base 3 1 (.slice A n c) n (intVals s.fr)
  pe : w.ownsRow base 49 2 (.slice B m d) m (prVals s.pe)
def OwnEnd (w : World) (s : SS) (n m : Nat) (e : Ending) (w' : World) : Prop :=
  ∃ A c B d, e = .returned (.agg #[.int .i64 s.hi, .slice A n c, .slice B m d]) ∧ OwnS w' w.heap.size A n c B m d s ∧ Below w.heap.size w w'

theorem own_done {w wf : World} {r n c m d : Nat} {h : Int} {A B : Option Addr} {s : SS} {base : Nat} (hb : Below w.heap.size w wf) (hr : w.heap.size ≤ r) (hbase : r < base) (hh : s.hi = h)
    (o1 : wf.ownsRow base 3 1 (.slice A n c) n (intVals s.fr)) (o2 : wf.ownsRow base 49 2 (.slice B m d) m (prVals s.pe)) (x y z : Value) :
    OwnEnd w s n m (.returned (.agg #[.int .i64 h, .slice A n c, .slice B m d])) (((wf.setCell ⟨r, 0, none⟩ x).setCell ⟨r, 1, none⟩ y).setCell ⟨r, 2, none⟩ z) :=
  ⟨A, c, B, d, by rw [hh], ⟨own_base_low (ownsRow_setCell_below (ownsRow_setCell_below (ownsRow_setCell_below o1 hbase _) hbase _) hbase _) (by omega), own_base_low (ownsRow_setCell_below (ownsRow_setCell_below (ownsRow_setCell_below o2 hbase _) hbase _) hbase _) (by omega)⟩, below_put hb hr x y z⟩

set_option maxRecDepth 20000 in
set_option maxHeartbeats 6400000 in
theorem refOwn_any (s : SS) (h : Int) (A B : Option Addr) (n c m d : Nat) (w : World) (hh : s.hi = h) (hs : Sp w A n c B m d s) (hn : n ≤ 400000) (hm : m ≤ 400000) :
    Calls Try.prog 32 #[.agg #[.int .i64 h, .slice A n c, .slice B m d]] w (OwnEnd w s n m) := by
  obtain ⟨i1, hi1, hy0, hy1, hy2⟩ := info_parts intInfo
  obtain ⟨i2, hi2, hz0, hz1, hz2⟩ := info_parts frInfo
  obtain ⟨tb1, tb2, tb3⟩ := two_boxes w (.int .i64 h) (.slice A n c) (.slice B m d) (.int .i64 0) (.slice none 0 0) (.slice none 0 0)
  have HS := Lib.hid (hs.kept tb3)
  have HB := Lib.hid tb1
  have HR := Lib.hid tb2
  have B0 := Lib.hid tb3
  have HH := Lib.hid hh
  clear hs hh tb1 tb2 tb3
  go_enter Try.func32, Try.ntmps32
  go_upto_region 1 with fail
  generalize (w.alloc (.cells #[.int .i64 h, .slice A n c, .slice B m d] 26)).alloc (.cells #[.int .i64 0, .slice none 0 0, .slice none 0 0] 26) = w0 at *
  have BA0 := Lib.hid ((Below.refl w0.heap.size w0).drew)
  have BA1 := Lib.hid ((below_one w0 (.cells #[] 3)).drew)
  have BA2 := Lib.hid ((below_one w0 (.cells #[] 49)).drew)
  have BA12 := Lib.hid ((below_two w0 (.cells #[] 3) (.cells #[] 49)).drew)
  have BA21 := Lib.hid ((below_two w0 (.cells #[] 49) (.cells #[] 3)).drew)
  have hsz1 : (w0.alloc (.cells #[] 3)).heap.size = w0.heap.size + 1 := by simp
  have hsz2 : (w0.alloc (.cells #[] 49)).heap.size = w0.heap.size + 1 := by simp
  have O1 : Hid (((w0.alloc (.cells #[] 3)).drew).ownsRow w0.heap.size 3 1 (.slice (some ⟨w0.heap.size, 0, none⟩) 0 0) 0 []) := Lib.hid (own_empty (empty_new w0 _) (Nat.le_refl _))
  have Q2 : Hid (((w0.alloc (.cells #[] 49)).drew).ownsRow w0.heap.size 49 2 (.slice (some ⟨w0.heap.size, 0, none⟩) 0 0) 0 []) := Lib.hid (own_empty (empty_new w0 _) (Nat.le_refl _))
  have O12 : Hid ((((w0.alloc (.cells #[] 3)).alloc (.cells #[] 49)).drew).ownsRow w0.heap.size 3 1 (.slice (some ⟨w0.heap.size, 0, none⟩) 0 0) 0 []) := Lib.hid (row_below (show (w0.alloc (.cells #[] 3)).ownsRow w0.heap.size 3 1 (.slice (some ⟨w0.heap.size, 0, none⟩) 0 0) 0 [] from O1.out) ((below_one (w0.alloc (.cells #[] 3)) (.cells #[] 49)).drew))
  have Q21 : Hid ((((w0.alloc (.cells #[] 49)).alloc (.cells #[] 3)).drew).ownsRow w0.heap.size 49 2 (.slice (some ⟨w0.heap.size, 0, none⟩) 0 0) 0 []) := Lib.hid (row_below (show (w0.alloc (.cells #[] 49)).ownsRow w0.heap.size 49 2 (.slice (some ⟨w0.heap.size, 0, none⟩) 0 0) 0 [] from Q2.out) ((below_one (w0.alloc (.cells #[] 49)) (.cells #[] 3)).drew))
  have Q12 : Hid ((((w0.alloc (.cells #[] 3)).alloc (.cells #[] 49)).drew).ownsRow w0.heap.size 49 2 (.slice (some ⟨w0.heap.size + 1, 0, none⟩) 0 0) 0 []) := Lib.hid (own_empty (by have := empty_new (w0.alloc (.cells #[] 3)) 49; rw [hsz1] at this; exact this) (Nat.le_succ _))
  have O21 : Hid ((((w0.alloc (.cells #[] 49)).alloc (.cells #[] 3)).drew).ownsRow w0.heap.size 3 1 (.slice (some ⟨w0.heap.size + 1, 0, none⟩) 0 0) 0 []) := Lib.hid (own_empty (by have := empty_new (w0.alloc (.cells #[] 49)) 3; rw [hsz2] at this; exact this) (Nat.le_succ _))
  have KF : Hid (∀ w' : World, Below w0.heap.size w0 w' → w'.cell? ⟨w.heap.size, 0, none⟩ = some (.int .i64 h) ∧ w'.cell? ⟨w.heap.size, 1, none⟩ = some (.slice A n c) ∧ w'.cell? ⟨w.heap.size, 2, none⟩ = some (.slice B m d)) := Lib.hid (fun w' hb => (HB.out.kept hb).cells)
  obtain ⟨x0, x1, x2⟩ := KF.out w0.drew BA0.out
  clear hsz1 hsz2
  go_region_held3 (fun w' => w'.cell? ⟨w.heap.size, 0, none⟩ = some (.int .i64 h) ∧ w'.cell? ⟨w.heap.size, 1, none⟩ = some (.slice A n c) ∧ w'.cell? ⟨w.heap.size, 2, none⟩ = some (.slice B m d))
    (first | exact KF.out _ (by first | exact BA0.out | exact BA1.out | exact BA2.out | exact BA12.out | exact BA21.out | exact BI.out | exact BF.out | exact BI2.out | exact BF2.out | exact BZ.out) | exact K9)
    (first
      | (refine step_append_ln _ (by rfl) _ _ _ (by rfl) w0.heap.size 3 i1 _ 1 8 Try.underlying23 hi1 hy0 hy1 hy2 rfl (by omega) (.slice (some ⟨w0.heap.size, 0, none⟩) 0 0) 0 [] (by rfl) (by first | exact O1.out | exact O12.out | exact O21.out | exact OJ.out | exact OJ2.out) A n c (intVals s.fr) (by rfl) (HS.out.fr.kept (by first | exact BA0.out | exact BA1.out | exact BA2.out | exact BA12.out | exact BA21.out | exact BI.out | exact BF.out | exact BI2.out | exact BF2.out | exact BZ.out)) (intVals_one _) (by unfold maxLen; omega) (by omega) ((by first | exact BA0.out | exact BA1.out | exact BA2.out | exact BA12.out | exact BA21.out | exact BI.out | exact BF.out | exact BI2.out | exact BF2.out | exact BZ.out) : Below w0.heap.size w0 _).size ?_; intro A1 c1 wi oi gi; rw [Nat.zero_add, List.nil_append] at oi; rw [Nat.zero_add]; first | (have hwz := BF.out.size; have BZ := Lib.hid (Below.grown (B := w0.heap.size) (a := w0) (by first | exact BA0.out | exact BA1.out | exact BA2.out | exact BA12.out | exact BA21.out | exact BI.out | exact BF.out | exact BI2.out | exact BF2.out | exact BZ.out) gi (by first | exact BF.out.size | exact BF2.out.size) (by intro k e; have := e; simp [Value.ownBlock] at this; omega)); (first | (have QZ := Lib.hid (own_apart (by decide) of OJ.out gi)) | (have QZ := Lib.hid (own_apart (by decide) (row_below of (below_one wf (.cells #[] 3))) OJ2.out gi))); have OZ := Lib.hid oi; have HRz := Lib.hid (HR.out.kept BZ.out); obtain ⟨q0, q1, q2⟩ := HRz.out.cells; obtain ⟨f0, f1, f2⟩ := HRz.out.free; have KZ := KF.out wi BZ.out; have hlr := HR.out.lt; have PU := But.put wi (w.heap.size + 1) (.int .i64 h) (.slice A1 n c1) (.slice B1 m d1); have K9 := (show _ ∧ _ ∧ _ from ⟨(PU.cell (k := w.heap.size) (by omega) 0).trans KZ.1, (PU.cell (k := w.heap.size) (by omega) 1).trans KZ.2.1, (PU.cell (k := w.heap.size) (by omega) 2).trans KZ.2.2⟩); have HD := Lib.hid (own_done (s := s) (h := h) (B0.out.trans (BZ.out.mono B0.out.size)) (Nat.le_add_right w.heap.size 1) hlr HH.out OZ.out QZ.out (.int .i64 h) (.slice A1 n c1) (.slice B1 m d1)); have HQz := Lib.hid (HRz.out.put (.int .i64 h) (.slice A1 n c1) (.slice B1 m d1)); clear PU KZ hlr hwz) | (have BI := Lib.hid (Below.grown (B := w0.heap.size) (a := w0) (by first | exact BA0.out | exact BA1.out | exact BA2.out | exact BA12.out | exact BA21.out | exact BI.out | exact BF.out | exact BI2.out | exact BF2.out | exact BZ.out) gi ((by first | exact BA0.out | exact BA1.out | exact BA2.out | exact BA12.out | exact BA21.out | exact BI.out | exact BF.out | exact BI2.out | exact BF2.out | exact BZ.out) : Below w0.heap.size w0 _).size (by intro k e; have := e; simp [Value.ownBlock] at this; omega)); have BI2 := Lib.hid (BI.out.alloc BI.out.size (.cells #[] 49)); have QJ2 := Lib.hid (own_empty (base := w0.heap.size) (sz := 2) (empty_new wi 49) BI.out.size); first | (have QJ := Lib.hid (Q12.out.kept gi (Or.inr (by simp [Value.ownBlock])))) | (have QJ := Lib.hid (Q21.out.kept gi (Or.inr (by simp [Value.ownBlock])))) | skip))
      | (refine step_append_ln _ (by rfl) _ _ _ (by rfl) w0.heap.size 3 i1 _ 1 8 Try.underlying23 hi1 hy0 hy1 hy2 rfl (by omega) (.slice (some ⟨w0.heap.size + 1, 0, none⟩) 0 0) 0 [] (by rfl) (by first | exact O1.out | exact O12.out | exact O21.out | exact OJ.out | exact OJ2.out) A n c (intVals s.fr) (by rfl) (HS.out.fr.kept (by first | exact BA0.out | exact BA1.out | exact BA2.out | exact BA12.out | exact BA21.out | exact BI.out | exact BF.out | exact BI2.out | exact BF2.out | exact BZ.out)) (intVals_one _) (by unfold maxLen; omega) (by omega) ((by first | exact BA0.out | exact BA1.out | exact BA2.out | exact BA12.out | exact BA21.out | exact BI.out | exact BF.out | exact BI2.out | exact BF2.out | exact BZ.out) : Below w0.heap.size w0 _).size ?_; intro A1 c1 wi oi gi; rw [Nat.zero_add, List.nil_append] at oi; rw [Nat.zero_add]; first | (have hwz := BF.out.size; have BZ := Lib.hid (Below.grown (B := w0.heap.size) (a := w0) (by first | exact BA0.out | exact BA1.out | exact BA2.out | exact BA12.out | exact BA21.out | exact BI.out | exact BF.out | exact BI2.out | exact BF2.out | exact BZ.out) gi (by first | exact BF.out.size | exact BF2.out.size) (by intro k e; have := e; simp [Value.ownBlock] at this; omega)); (first | (have QZ := Lib.hid (own_apart (by decide) of OJ.out gi)) | (have QZ := Lib.hid (own_apart (by decide) (row_below of (below_one wf (.cells #[] 3))) OJ2.out gi))); have OZ := Lib.hid oi; have HRz := Lib.hid (HR.out.kept BZ.out); obtain ⟨q0, q1, q2⟩ := HRz.out.cells; obtain ⟨f0, f1, f2⟩ := HRz.out.free; have KZ := KF.out wi BZ.out; have hlr := HR.out.lt; have PU := But.put wi (w.heap.size + 1) (.int .i64 h) (.slice A1 n c1) (.slice B1 m d1); have K9 := (show _ ∧ _ ∧ _ from ⟨(PU.cell (k := w.heap.size) (by omega) 0).trans KZ.1, (PU.cell (k := w.heap.size) (by omega) 1).trans KZ.2.1, (PU.cell (k := w.heap.size) (by omega) 2).trans KZ.2.2⟩); have HD := Lib.hid (own_done (s := s) (h := h) (B0.out.trans (BZ.out.mono B0.out.size)) (Nat.le_add_right w.heap.size 1) hlr HH.out OZ.out QZ.out (.int .i64 h) (.slice A1 n c1) (.slice B1 m d1)); have HQz := Lib.hid (HRz.out.put (.int .i64 h) (.slice A1 n c1) (.slice B1 m d1)); clear PU KZ hlr hwz) | (have BI := Lib.hid (Below.grown (B := w0.heap.size) (a := w0) (by first | exact BA0.out | exact BA1.out | exact BA2.out | exact BA12.out | exact BA21.out | exact BI.out | exact BF.out | exact BI2.out | exact BF2.out | exact BZ.out) gi ((by first | exact BA0.out | exact BA1.out | exact BA2.out | exact BA12.out | exact BA21.out | exact BI.out | exact BF.out | exact BI2.out | exact BF2.out | exact BZ.out) : Below w0.heap.size w0 _).size (by intro k e; have := e; simp [Value.ownBlock] at this; omega)); have BI2 := Lib.hid (BI.out.alloc BI.out.size (.cells #[] 49)); have QJ2 := Lib.hid (own_empty (base := w0.heap.size) (sz := 2) (empty_new wi 49) BI.out.size); first | (have QJ := Lib.hid (Q12.out.kept gi (Or.inr (by simp [Value.ownBlock])))) | (have QJ := Lib.hid (Q21.out.kept gi (Or.inr (by simp [Value.ownBlock])))) | skip))
      | (refine step_append_ln _ (by rfl) _ _ _ (by rfl) w0.heap.size 3 i1 _ 1 8 Try.underlying23 hi1 hy0 hy1 hy2 rfl (by omega) (.slice (some ⟨wf.heap.size, 0, none⟩) 0 0) 0 [] (by rfl) (by first | exact O1.out | exact O12.out | exact O21.out | exact OJ.out | exact OJ2.out) A n c (intVals s.fr) (by rfl) (HS.out.fr.kept (by first | exact BA0.out | exact BA1.out | exact BA2.out | exact BA12.out | exact BA21.out | exact BI.out | exact BF.out | exact BI2.out | exact BF2.out | exact BZ.out)) (intVals_one _) (by unfold maxLen; omega) (by omega) ((by first | exact BA0.out | exact BA1.out | exact BA2.out | exact BA12.out | exact BA21.out | exact BI.out | exact BF.out | exact BI2.out | exact BF2.out | exact BZ.out) : Below w0.heap.size w0 _).size ?_; intro A1 c1 wi oi gi; rw [Nat.zero_add, List.nil_append] at oi; rw [Nat.zero_add]; first | (have hwz := BF.out.size; have BZ := Lib.hid (Below.grown (B := w0.heap.size) (a := w0) (by first | exact BA0.out | exact BA1.out | exact BA2.out | exact BA12.out | exact BA21.out | exact BI.out | exact BF.out | exact BI2.out | exact BF2.out | exact BZ.out) gi (by first | exact BF.out.size | exact BF2.out.size) (by intro k e; have := e; simp [Value.ownBlock] at this; omega)); (first | (have QZ := Lib.hid (own_apart (by decide) of OJ.out gi)) | (have QZ := Lib.hid (own_apart (by decide) (row_below of (below_one wf (.cells #[] 3))) OJ2.out gi))); have OZ := Lib.hid oi; have HRz := Lib.hid (HR.out.kept BZ.out); obtain ⟨q0, q1, q2⟩ := HRz.out.cells; obtain ⟨f0, f1, f2⟩ := HRz.out.free; have KZ := KF.out wi BZ.out; have hlr := HR.out.lt; have PU := But.put wi (w.heap.size + 1) (.int .i64 h) (.slice A1 n c1) (.slice B1 m d1); have K9 := (show _ ∧ _ ∧ _ from ⟨(PU.cell (k := w.heap.size) (by omega) 0).trans KZ.1, (PU.cell (k := w.heap.size) (by omega) 1).trans KZ.2.1, (PU.cell (k := w.heap.size) (by omega) 2).trans KZ.2.2⟩); have HD := Lib.hid (own_done (s := s) (h := h) (B0.out.trans (BZ.out.mono B0.out.size)) (Nat.le_add_right w.heap.size 1) hlr HH.out OZ.out QZ.out (.int .i64 h) (.slice A1 n c1) (.slice B1 m d1)); have HQz := Lib.hid (HRz.out.put (.int .i64 h) (.slice A1 n c1) (.slice B1 m d1)); clear PU KZ hlr hwz) | (have BI := Lib.hid (Below.grown (B := w0.heap.size) (a := w0) (by first | exact BA0.out | exact BA1.out | exact BA2.out | exact BA12.out | exact BA21.out | exact BI.out | exact BF.out | exact BI2.out | exact BF2.out | exact BZ.out) gi ((by first | exact BA0.out | exact BA1.out | exact BA2.out | exact BA12.out | exact BA21.out | exact BI.out | exact BF.out | exact BI2.out | exact BF2.out | exact BZ.out) : Below w0.heap.size w0 _).size (by intro k e; have := e; simp [Value.ownBlock] at this; omega)); have BI2 := Lib.hid (BI.out.alloc BI.out.size (.cells #[] 49)); have QJ2 := Lib.hid (own_empty (base := w0.heap.size) (sz := 2) (empty_new wi 49) BI.out.size); first | (have QJ := Lib.hid (Q12.out.kept gi (Or.inr (by simp [Value.ownBlock])))) | (have QJ := Lib.hid (Q21.out.kept gi (Or.inr (by simp [Value.ownBlock])))) | skip))
      | (refine step_append_ln _ (by rfl) _ _ _ (by rfl) w0.heap.size 49 i2 _ 2 16 Try.underlying24 hi2 hz0 hz1 hz2 rfl (by omega) (.slice (some ⟨w0.heap.size, 0, none⟩) 0 0) 0 [] (by rfl) (by first | exact Q2.out | exact Q12.out | exact Q21.out | exact QJ.out | exact QJ2.out) B m d (prVals s.pe) (by rfl) (HS.out.pe.kept (by first | exact BA0.out | exact BA1.out | exact BA2.out | exact BA12.out | exact BA21.out | exact BI.out | exact BF.out | exact BI2.out | exact BF2.out | exact BZ.out)) (prVals_one _) (by unfold maxLen; omega) (by omega) ((by first | exact BA0.out | exact BA1.out | exact BA2.out | exact BA12.out | exact BA21.out | exact BI.out | exact BF.out | exact BI2.out | exact BF2.out | exact BZ.out) : Below w0.heap.size w0 _).size ?_; intro B1 d1 wf of gf; rw [Nat.zero_add, List.nil_append] at of; rw [Nat.zero_add]; first | (have hwz := BI.out.size; have BZ := Lib.hid (Below.grown (B := w0.heap.size) (a := w0) (by first | exact BA0.out | exact BA1.out | exact BA2.out | exact BA12.out | exact BA21.out | exact BI.out | exact BF.out | exact BI2.out | exact BF2.out | exact BZ.out) gf (by first | exact BI.out.size | exact BI2.out.size) (by intro k e; have := e; simp [Value.ownBlock] at this; omega)); (first | (have OZ := Lib.hid (own_apart (by decide) oi QJ.out gf)) | (have OZ := Lib.hid (own_apart (by decide) (row_below oi (below_one wi (.cells #[] 49))) QJ2.out gf))); have QZ := Lib.hid of; have HRz := Lib.hid (HR.out.kept BZ.out); obtain ⟨q0, q1, q2⟩ := HRz.out.cells; obtain ⟨f0, f1, f2⟩ := HRz.out.free; have KZ := KF.out wf BZ.out; have hlr := HR.out.lt; have PU := But.put wf (w.heap.size + 1) (.int .i64 h) (.slice A1 n c1) (.slice B1 m d1); have K9 := (show _ ∧ _ ∧ _ from ⟨(PU.cell (k := w.heap.size) (by omega) 0).trans KZ.1, (PU.cell (k := w.heap.size) (by omega) 1).trans KZ.2.1, (PU.cell (k := w.heap.size) (by omega) 2).trans KZ.2.2⟩); have HD := Lib.hid (own_done (s := s) (h := h) (B0.out.trans (BZ.out.mono B0.out.size)) (Nat.le_add_right w.heap.size 1) hlr HH.out OZ.out QZ.out (.int .i64 h) (.slice A1 n c1) (.slice B1 m d1)); have HQz := Lib.hid (HRz.out.put (.int .i64 h) (.slice A1 n c1) (.slice B1 m d1)); clear PU KZ hlr hwz) | (have BF := Lib.hid (Below.grown (B := w0.heap.size) (a := w0) (by first | exact BA0.out | exact BA1.out | exact BA2.out | exact BA12.out | exact BA21.out | exact BI.out | exact BF.out | exact BI2.out | exact BF2.out | exact BZ.out) gf ((by first | exact BA0.out | exact BA1.out | exact BA2.out | exact BA12.out | exact BA21.out | exact BI.out | exact BF.out | exact BI2.out | exact BF2.out | exact BZ.out) : Below w0.heap.size w0 _).size (by intro k e; have := e; simp [Value.ownBlock] at this; omega)); have BF2 := Lib.hid (BF.out.alloc BF.out.size (.cells #[] 3)); have OJ2 := Lib.hid (own_empty (base := w0.heap.size) (sz := 1) (empty_new wf 3) BF.out.size); first | (have OJ := Lib.hid (O12.out.kept gf (Or.inr (by simp [Value.ownBlock])))) | (have OJ := Lib.hid (O21.out.kept gf (Or.inr (by simp [Value.ownBlock])))) | skip))
      | (refine step_append_ln _ (by rfl) _ _ _ (by rfl) w0.heap.size 49 i2 _ 2 16 Try.underlying24 hi2 hz0 hz1 hz2 rfl (by omega) (.slice (some ⟨w0.heap.size + 1, 0, none⟩) 0 0) 0 [] (by rfl) (by first | exact Q2.out | exact Q12.out | exact Q21.out | exact QJ.out | exact QJ2.out) B m d (prVals s.pe) (by rfl) (HS.out.pe.kept (by first | exact BA0.out | exact BA1.out | exact BA2.out | exact BA12.out | exact BA21.out | exact BI.out | exact BF.out | exact BI2.out | exact BF2.out | exact BZ.out)) (prVals_one _) (by unfold maxLen; omega) (by omega) ((by first | exact BA0.out | exact BA1.out | exact BA2.out | exact BA12.out | exact BA21.out | exact BI.out | exact BF.out | exact BI2.out | exact BF2.out | exact BZ.out) : Below w0.heap.size w0 _).size ?_; intro B1 d1 wf of gf; rw [Nat.zero_add, List.nil_append] at of; rw [Nat.zero_add]; first | (have hwz := BI.out.size; have BZ := Lib.hid (Below.grown (B := w0.heap.size) (a := w0) (by first | exact BA0.out | exact BA1.out | exact BA2.out | exact BA12.out | exact BA21.out | exact BI.out | exact BF.out | exact BI2.out | exact BF2.out | exact BZ.out) gf (by first | exact BI.out.size | exact BI2.out.size) (by intro k e; have := e; simp [Value.ownBlock] at this; omega)); (first | (have OZ := Lib.hid (own_apart (by decide) oi QJ.out gf)) | (have OZ := Lib.hid (own_apart (by decide) (row_below oi (below_one wi (.cells #[] 49))) QJ2.out gf))); have QZ := Lib.hid of; have HRz := Lib.hid (HR.out.kept BZ.out); obtain ⟨q0, q1, q2⟩ := HRz.out.cells; obtain ⟨f0, f1, f2⟩ := HRz.out.free; have KZ := KF.out wf BZ.out; have hlr := HR.out.lt; have PU := But.put wf (w.heap.size + 1) (.int .i64 h) (.slice A1 n c1) (.slice B1 m d1); have K9 := (show _ ∧ _ ∧ _ from ⟨(PU.cell (k := w.heap.size) (by omega) 0).trans KZ.1, (PU.cell (k := w.heap.size) (by omega) 1).trans KZ.2.1, (PU.cell (k := w.heap.size) (by omega) 2).trans KZ.2.2⟩); have HD := Lib.hid (own_done (s := s) (h := h) (B0.out.trans (BZ.out.mono B0.out.size)) (Nat.le_add_right w.heap.size 1) hlr HH.out OZ.out QZ.out (.int .i64 h) (.slice A1 n c1) (.slice B1 m d1)); have HQz := Lib.hid (HRz.out.put (.int .i64 h) (.slice A1 n c1) (.slice B1 m d1)); clear PU KZ hlr hwz) | (have BF := Lib.hid (Below.grown (B := w0.heap.size) (a := w0) (by first | exact BA0.out | exact BA1.out | exact BA2.out | exact BA12.out | exact BA21.out | exact BI.out | exact BF.out | exact BI2.out | exact BF2.out | exact BZ.out) gf ((by first | exact BA0.out | exact BA1.out | exact BA2.out | exact BA12.out | exact BA21.out | exact BI.out | exact BF.out | exact BI2.out | exact BF2.out | exact BZ.out) : Below w0.heap.size w0 _).size (by intro k e; have := e; simp [Value.ownBlock] at this; omega)); have BF2 := Lib.hid (BF.out.alloc BF.out.size (.cells #[] 3)); have OJ2 := Lib.hid (own_empty (base := w0.heap.size) (sz := 1) (empty_new wf 3) BF.out.size); first | (have OJ := Lib.hid (O12.out.kept gf (Or.inr (by simp [Value.ownBlock])))) | (have OJ := Lib.hid (O21.out.kept gf (Or.inr (by simp [Value.ownBlock])))) | skip))
      | (refine step_append_ln _ (by rfl) _ _ _ (by rfl) w0.heap.size 49 i2 _ 2 16 Try.underlying24 hi2 hz0 hz1 hz2 rfl (by omega) (.slice (some ⟨wi.heap.size, 0, none⟩) 0 0) 0 [] (by rfl) (by first | exact Q2.out | exact Q12.out | exact Q21.out | exact QJ.out | exact QJ2.out) B m d (prVals s.pe) (by rfl) (HS.out.pe.kept (by first | exact BA0.out | exact BA1.out | exact BA2.out | exact BA12.out | exact BA21.out | exact BI.out | exact BF.out | exact BI2.out | exact BF2.out | exact BZ.out)) (prVals_one _) (by unfold maxLen; omega) (by omega) ((by first | exact BA0.out | exact BA1.out | exact BA2.out | exact BA12.out | exact BA21.out | exact BI.out | exact BF.out | exact BI2.out | exact BF2.out | exact BZ.out) : Below w0.heap.size w0 _).size ?_; intro B1 d1 wf of gf; rw [Nat.zero_add, List.nil_append] at of; rw [Nat.zero_add]; first | (have hwz := BI.out.size; have BZ := Lib.hid (Below.grown (B := w0.heap.size) (a := w0) (by first | exact BA0.out | exact BA1.out | exact BA2.out | exact BA12.out | exact BA21.out | exact BI.out | exact BF.out | exact BI2.out | exact BF2.out | exact BZ.out) gf (by first | exact BI.out.size | exact BI2.out.size) (by intro k e; have := e; simp [Value.ownBlock] at this; omega)); (first | (have OZ := Lib.hid (own_apart (by decide) oi QJ.out gf)) | (have OZ := Lib.hid (own_apart (by decide) (row_below oi (below_one wi (.cells #[] 49))) QJ2.out gf))); have QZ := Lib.hid of; have HRz := Lib.hid (HR.out.kept BZ.out); obtain ⟨q0, q1, q2⟩ := HRz.out.cells; obtain ⟨f0, f1, f2⟩ := HRz.out.free; have KZ := KF.out wf BZ.out; have hlr := HR.out.lt; have PU := But.put wf (w.heap.size + 1) (.int .i64 h) (.slice A1 n c1) (.slice B1 m d1); have K9 := (show _ ∧ _ ∧ _ from ⟨(PU.cell (k := w.heap.size) (by omega) 0).trans KZ.1, (PU.cell (k := w.heap.size) (by omega) 1).trans KZ.2.1, (PU.cell (k := w.heap.size) (by omega) 2).trans KZ.2.2⟩); have HD := Lib.hid (own_done (s := s) (h := h) (B0.out.trans (BZ.out.mono B0.out.size)) (Nat.le_add_right w.heap.size 1) hlr HH.out OZ.out QZ.out (.int .i64 h) (.slice A1 n c1) (.slice B1 m d1)); have HQz := Lib.hid (HRz.out.put (.int .i64 h) (.slice A1 n c1) (.slice B1 m d1)); clear PU KZ hlr hwz) | (have BF := Lib.hid (Below.grown (B := w0.heap.size) (a := w0) (by first | exact BA0.out | exact BA1.out | exact BA2.out | exact BA12.out | exact BA21.out | exact BI.out | exact BF.out | exact BI2.out | exact BF2.out | exact BZ.out) gf ((by first | exact BA0.out | exact BA1.out | exact BA2.out | exact BA12.out | exact BA21.out | exact BI.out | exact BF.out | exact BI2.out | exact BF2.out | exact BZ.out) : Below w0.heap.size w0 _).size (by intro k e; have := e; simp [Value.ownBlock] at this; omega)); have BF2 := Lib.hid (BF.out.alloc BF.out.size (.cells #[] 3)); have OJ2 := Lib.hid (own_empty (base := w0.heap.size) (sz := 1) (empty_new wf 3) BF.out.size); first | (have OJ := Lib.hid (O12.out.kept gf (Or.inr (by simp [Value.ownBlock])))) | (have OJ := Lib.hid (O21.out.kept gf (Or.inr (by simp [Value.ownBlock])))) | skip))
      | fail)
  all_goals (
    obtain ⟨e0, e1, e2⟩ := HQz.out.cells
    go_wp2_with fail
    refine bodyPost_ret (v := .agg #[.int .i64 h, .slice A1 n c1, .slice B1 m d1]) (by simp [results, Try.results32, go_sem, e0, e1, e2]) rfl ?_
    exact HD.out)
end Go.Proofs.Ytlldmefjhgahdaa

/-
  A block of pages' lists that a function makes for itself, and the lists of its own in it.
-/
namespace Go.Proofs.Ytlldmefjhgahdaa
open Go.RowKit

theorem t_box (w : World) (x y z x' y' z' : Value) : Box ((((w.alloc (.cells #[x, y, z] 26)).setCell ⟨w.heap.size, 0, none⟩ x').setCell ⟨w.heap.size, 1, none⟩ y').setCell ⟨w.heap.size, 2, none⟩ z') w.heap.size x' y' z' ∧
    Below w.heap.size w ((((w.alloc (.cells #[x, y, z] 26)).setCell ⟨w.heap.size, 0, none⟩ x').setCell ⟨w.heap.size, 1, none⟩ y').setCell ⟨w.heap.size, 2, none⟩ z') :=
  ⟨(box_new w x y z).put x' y' z', below_put (below_one w _) (Nat.le_refl _) _ _ _⟩

theorem ln_own {w : World} {base sz n c : Nat} {e : TypeId} {A : Option Addr} {cs : List Value} (h : w.ownsRow base e sz (.slice A n c) n cs) : Ln w sz A n c cs := by
  obtain ⟨A1, c1, e1, _, l⟩ := Ln.of_own h
  cases e1
  exact l
section
variable {w : World} {base n c m d : Nat} {A B : Option Addr} {s : SS}
theorem OwnS.hiA (h : OwnS w base A n c B m d s) : Hi base A := Hi.of_own h.fr
theorem OwnS.hiB (h : OwnS w base A n c B m d s) : Hi base B := Hi.of_own h.pe
theorem OwnS.sp (h : OwnS w base A n c B m d s) : Sp w A n c B m d s := by
  obtain ⟨A1, c1, e, _, l⟩ := Ln.of_own h.fr
  obtain ⟨B1, d1, e', _, l'⟩ := Ln.of_own h.pe
  cases e
  cases e'
  exact ⟨l, l'⟩
end
theorem grown_set (w : World) (g j : Nat) (u : Value) : w.grownBy (w.setCell ⟨g, j, none⟩ u) (some g) :=
  ⟨rfl, rfl, rfl, Nat.le_of_eq (by simp [World.setCell]), fun k _ hk => Below.heap_setCell _ _ _ k (fun e => hk (by rw [e]))⟩
section
variable {w w' : World} {base g n sz : Nat} {e : TypeId} {v x y z : Value} {xs : List Value}
/-- No list of its own lies in such a block, unless its elements are such. -/
theorem Box.not_own (hb : Box w g x y z) (h : w.ownsRow base e sz v n xs) (hne : e ≠ 26) : some g ≠ v.ownBlock := by
  rcases h.2 with ⟨rfl, _⟩ | ⟨g', cap, cur, rfl, _, hh, _⟩
  · simp [Value.ownBlock]
  · intro e1
    obtain rfl : g = g' := by simpa [Value.ownBlock] using e1
    have := (show w.heap[g]? = _ from hb).symm.trans hh
    simp at this
    exact hne this.2.symm
theorem Box.grown (hb : Box w g x y z) (h : w.ownsRow base e sz v n xs) (hne : e ≠ 26) (hg : w.grownBy w' v.ownBlock) : Box w' g x y z := (hg.block g hb.lt (hb.not_own h hne)).trans hb
theorem own_set (h : w.ownsRow base e sz v n xs) (hb : Box w g x y z) (hne : e ≠ 26) (j : Nat) (u : Value) : (w.setCell ⟨g, j, none⟩ u).ownsRow base e sz v n xs :=
  h.kept (grown_set w g j u) (Or.inr (fun e1 => hb.not_own h hne e1.symm))
end
/-- A list that lies from base on, but below top. -/
theorem ln_lt {w : World} {sz n c : Nat} {b off : Nat} {cs : List Value} (h : Ln w sz (some ⟨b, off, none⟩) n c cs) (hn : 0 < cs.length) : b < w.heap.size := by
  obtain ⟨b', off', e, hb⟩ := h.spot hn
  cases e
  exact hb
end Go.Proofs.Ytlldmefjhgahdaa

/-
  What the document's own Take comes to.
-/
namespace Go.Proofs.Ytlldmefjhgahdaa
open Go.RowKit

/-- What is answered out of a block of the function's own, x, y and z in it. -/
theorem t_done {w w1 : World} {r n c m d : Nat} {h : Int} {A B : Option Addr} {s : SS} (hb : Below w.heap.size w w1) (hr : w.heap.size ≤ r) (hs : Sp w1 A n c B m d s) (hA : Hi (r + 1) A) (hB : Hi (r + 1) B) (hh : s.hi = h) (u x y : Value) :
    SpV ((((w1.alloc (.cells #[u, x, y] 26)).setCell ⟨r, 0, none⟩ (.int .i64 h)).setCell ⟨r, 1, none⟩ (.slice A n c)).setCell ⟨r, 2, none⟩ (.slice B m d)) (.agg #[.int .i64 h, .slice A n c, .slice B m d]) s ∧ Below w.heap.size w ((((w1.alloc (.cells #[u, x, y] 26)).setCell ⟨r, 0, none⟩ (.int .i64 h)).setCell ⟨r, 1, none⟩ (.slice A n c)).setCell ⟨r, 2, none⟩ (.slice B m d)) :=
  put_done (hb.alloc hb.size _) hr (hs.kept (below_one w1 _)) hA hB hh _ _ _

set_option maxRecDepth 20000 in
set_option maxHeartbeats 3200000 in
theorem refTake_any (s : SS) (t : Int) (A B : Option Addr) (n c m d : Nat) (w : World) (hs : Sp w A n c B m d s) (hn : n ≤ 400000) (hm : m ≤ 400000) (g1 : -9223372036854775808 ≤ s.hi) (g2 : t ≤ 9223372036854775807) :
    Calls Try.prog 13 #[.agg #[.int .i64 s.hi, .slice A n c, .slice B m d], .int .i64 t] w (TakeEnd w (s.take t)) := by
  obtain ⟨tb1, tb2, tb3⟩ := two_boxes w (.int .i64 s.hi) (.slice A n c) (.slice B m d) (.int .i64 0) (.slice none 0 0) (.slice none 0 0)
  have HS := Lib.hid (hs.kept tb3)
  have HB := Lib.hid tb1
  have HR := Lib.hid tb2
  have B0 := Lib.hid tb3
  clear hs tb1 tb2 tb3
  go_enter Try.func13, Try.ntmps13
  go_wp2_with fail
  generalize (w.alloc (.cells #[.int .i64 s.hi, .slice A n c, .slice B m d] 26)).alloc (.cells #[.int .i64 0, .slice none 0 0, .slice none 0 0] 26) = w0 at *
  refine (refOwn_any s s.hi A B n c m d w0 rfl HS.out hn hm).mono ?_
  rintro e w1 ⟨A1, c1, B1, d1, rfl, o1, b1⟩
  have HS1 := Lib.hid o1.sp
  have HIA : Hid (Hi (w.heap.size + 1 + 1) A1) := Lib.hid (o1.hiA.low (by have := HR.out.lt; omega))
  have HIB : Hid (Hi (w.heap.size + 1 + 1) B1) := Lib.hid (o1.hiB.low (by have := HR.out.lt; omega))
  have HR1 := Lib.hid (HR.out.kept b1)
  have B1' := Lib.hid (B0.out.trans (b1.mono B0.out.size))
  clear o1 b1 HB HR HS B0
  by_cases hn0 : n = 0
  · subst hn0
    have HFL := Lib.hid HS1.out.fl
    by_cases hlt : s.hi < t
    · have i1 : IntKind.i64.wrap (s.hi + 1) = s.hi + 1 := IntWalk.i64_in _ (by omega)
      have i2 : IntKind.i64.wrap s.hi = s.hi := IntWalk.i64_in _ (by omega)
      have HT := Lib.hid (take_new HFL.out hlt)
      have hz : s.fr = [] := List.eq_nil_of_length_eq_zero HFL.out
      have HL : Hid (Sp w1 A1 0 c1 B1 m d1 ⟨s.hi + 1, [], s.pe⟩) := Lib.hid ⟨by have := HS1.out.fr; rw [hz] at this; exact this, HS1.out.pe⟩
      clear hz
      have HD := Lib.hid (t_done (h := s.hi + 1) B1'.out (Nat.le_succ _) HL.out HIA.out HIB.out rfl (.int .i64 (s.hi + 1)) (.slice A1 0 c1) (.slice B1 m d1))
      have HR2 := Lib.hid (HR1.out.kept (below_one w1 (.cells #[.int .i64 (s.hi + 1), .slice A1 0 c1, .slice B1 m d1] 26)))
      have HX2 := Lib.hid (box_new w1 (.int .i64 (s.hi + 1)) (.slice A1 0 c1) (.slice B1 m d1))
      have hlr := HR1.out.lt
      have PU := But.put (w1.alloc (.cells #[.int .i64 (s.hi + 1), .slice A1 0 c1, .slice B1 m d1] 26)) (w.heap.size + 1) (.int .i64 (s.hi + 1)) (.slice A1 0 c1) (.slice B1 m d1)
      have K1 := ((HX2.out.but PU (by omega))).cells
      clear PU hlr
      have K0 : ((w1.alloc (.cells #[.int .i64 (s.hi + 1), .slice A1 0 c1, .slice B1 m d1] 26)).drew).cell? ⟨w1.heap.size, 0, none⟩ = some (.int .i64 (s.hi + 1)) ∧ ((w1.alloc (.cells #[.int .i64 (s.hi + 1), .slice A1 0 c1, .slice B1 m d1] 26)).drew).cell? ⟨w1.heap.size, 1, none⟩ = some (.slice A1 0 c1) ∧ ((w1.alloc (.cells #[.int .i64 (s.hi + 1), .slice A1 0 c1, .slice B1 m d1] 26)).drew).cell? ⟨w1.heap.size, 2, none⟩ = some (.slice B1 m d1) := HX2.out.cells
      obtain ⟨q0, q1, q2⟩ := HR2.out.cells
      obtain ⟨f0, f1, f2⟩ := HR2.out.free
      obtain ⟨e0, e1, e2⟩ := (HR2.out.put (.int .i64 (s.hi + 1)) (.slice A1 0 c1) (.slice B1 m d1)).cells
      go_wp2_with fail
      go_region_held3 (fun w' => w'.cell? ⟨w1.heap.size, 0, none⟩ = some (.int .i64 (s.hi + 1)) ∧ w'.cell? ⟨w1.heap.size, 1, none⟩ = some (.slice A1 0 c1) ∧ w'.cell? ⟨w1.heap.size, 2, none⟩ = some (.slice B1 m d1)) (first | exact K1 | exact K0) (fail)
      go_wp2_with fail
      refine bodyPost_ret (v := .tuple #[.agg #[.int .i64 (s.hi + 1), .slice A1 0 c1, .slice B1 m d1], .int .i64 s.hi, .int .i64 0]) (by simp [results, Try.results13, go_sem, e0, e1, e2]) rfl ?_
      rw [HT.out]
      exact ⟨_, rfl, HD.out.1.kept ((Below.refl _ _).drew), HD.out.2.drew⟩
    · have HT := Lib.hid (take_full HFL.out hlt)
      have HD := Lib.hid (t_done (h := 0) B1'.out (Nat.le_succ _) (Sp.zero w1) (Hi.none_ _) (Hi.none_ _) rfl (.int .i64 s.hi) (.slice A1 0 c1) (.slice B1 m d1))
      have HR2 := Lib.hid (HR1.out.kept (below_one w1 (.cells #[.int .i64 s.hi, .slice A1 0 c1, .slice B1 m d1] 26)))
      obtain ⟨q0, q1, q2⟩ := HR2.out.cells
      obtain ⟨f0, f1, f2⟩ := HR2.out.free
      obtain ⟨e0, e1, e2⟩ := (HR2.out.put (.int .i64 0) (.slice none 0 0) (.slice none 0 0)).cells
      go_wp2_with fail
      refine bodyPost_ret (v := .tuple #[.agg #[.int .i64 0, .slice none 0 0, .slice none 0 0], .int .i64 0, .int .i64 81]) (by simp [results, Try.results13, go_sem, e0, e1, e2]) rfl ?_
      rw [HT.out]
      exact ⟨_, rfl, HD.out.1, HD.out.2⟩
  · obtain ⟨b, off, z, rfl, hv, hz⟩ := HS1.out.fr.intAt (k := 0) (by omega)
    have HT := Lib.hid (take_some (t := t) hv)
    have hbz : b < w1.heap.size := World.block_lt_of_cell? _ _ hz
    have hz2 : (w1.alloc (.cells #[.int .i64 s.hi, .slice (some ⟨b, off, none⟩) n c1, .slice B1 m d1] 26)).cell? ⟨b, off, none⟩ = some (.int .i64 z) := ((below_one w1 _).cell (p := ⟨b, off, none⟩) hbz).trans hz
    have n0 : (0 : Int) < (n : Int) := by omega
    have n1 : (1 : Int) ≤ (n : Int) := by omega
    have n2 : (n : Int) ≤ (c1 : Int) := by have := HS1.out.fr.le; omega
    clear hv hz
    by_cases hc1 : 1 < c1
    · have n3 : (1 : Int) < (c1 : Int) := by omega
      have n4 : ¬ c1 = 1 := by omega
      have n5 : (1 : Int) ≤ (c1 : Int) := by omega
      have HIA' : Hid (Hi (w.heap.size + 1 + 1) (some ⟨b, off + 1, none⟩)) := Lib.hid (fun ad e => by obtain rfl := Option.some.inj e; exact HIA.out ⟨b, off, none⟩ rfl)
      have HL : Hid (Sp w1 (some ⟨b, off + 1, none⟩) (n - 1) (c1 - 1) B1 m d1 { s with fr := s.fr.drop 1 }) := Lib.hid ⟨HS1.out.fr.intDrop (k := 1) (by omega), HS1.out.pe⟩
      have HD := Lib.hid (t_done (h := s.hi) B1'.out (Nat.le_succ _) HL.out HIA'.out HIB.out rfl (.int .i64 s.hi) (.slice (some ⟨b, off + 1, none⟩) (n - 1) (c1 - 1)) (.slice B1 m d1))
      have HR2 := Lib.hid (HR1.out.kept (below_one w1 (.cells #[.int .i64 s.hi, .slice (some ⟨b, off + 1, none⟩) (n - 1) (c1 - 1), .slice B1 m d1] 26)))
      obtain ⟨q0, q1, q2⟩ := HR2.out.cells
      obtain ⟨f0, f1, f2⟩ := HR2.out.free
      obtain ⟨e0, e1, e2⟩ := (HR2.out.put (.int .i64 s.hi) (.slice (some ⟨b, off + 1, none⟩) (n - 1) (c1 - 1)) (.slice B1 m d1)).cells
      go_wp2_with fail
      refine bodyPost_ret (v := .tuple #[.agg #[.int .i64 s.hi, .slice (some ⟨b, off + 1, none⟩) (n - 1) (c1 - 1), .slice B1 m d1], .int .i64 z, .int .i64 0]) (by simp [results, Try.results13, go_sem, e0, e1, e2]) rfl ?_
      rw [HT.out]
      exact ⟨_, rfl, HD.out.1, HD.out.2⟩
    · obtain rfl : c1 = 1 := by have := HS1.out.fr.le; omega
      obtain rfl : n = 1 := by omega
      have HIA' : Hid (Hi (w.heap.size + 1 + 1) (some ⟨b, off, none⟩)) := HIA
      have HL : Hid (Sp w1 (some ⟨b, off, none⟩) 0 0 B1 m d1 { s with fr := s.fr.drop 1 }) := Lib.hid ⟨by have := HS1.out.fr.intN; rw [List.drop_of_length_le (by omega)]; exact Ln.empty _ _ _ _, HS1.out.pe⟩
      have HD := Lib.hid (t_done (h := s.hi) B1'.out (Nat.le_succ _) HL.out HIA'.out HIB.out rfl (.int .i64 s.hi) (.slice (some ⟨b, off, none⟩) 0 0) (.slice B1 m d1))
      have HR2 := Lib.hid (HR1.out.kept (below_one w1 (.cells #[.int .i64 s.hi, .slice (some ⟨b, off, none⟩) 0 0, .slice B1 m d1] 26)))
      obtain ⟨q0, q1, q2⟩ := HR2.out.cells
      obtain ⟨f0, f1, f2⟩ := HR2.out.free
      obtain ⟨e0, e1, e2⟩ := (HR2.out.put (.int .i64 s.hi) (.slice (some ⟨b, off, none⟩) 0 0) (.slice B1 m d1)).cells
      go_wp2_with fail
      refine bodyPost_ret (v := .tuple #[.agg #[.int .i64 s.hi, .slice (some ⟨b, off, none⟩) 0 0, .slice B1 m d1], .int .i64 z, .int .i64 0]) (by simp [results, Try.results13, go_sem, e0, e1, e2]) rfl ?_
      rw [HT.out]
      exact ⟨_, rfl, HD.out.1, HD.out.2⟩
end Go.Proofs.Ytlldmefjhgahdaa

/-
  What the document's own Give comes to.
-/
namespace Go.Proofs.Ytlldmefjhgahdaa
open Go.RowKit

set_option maxRecDepth 20000 in
set_option maxHeartbeats 6400000 in
theorem refGive_any (s : SS) (e p : Int) (A B : Option Addr) (n c m d : Nat) (w : World) (hs : Sp w A n c B m d s) (hn : n ≤ 300000) (hm : m ≤ 300000) :
    Calls Try.prog 15 #[.agg #[.int .i64 s.hi, .slice A n c, .slice B m d], .int .i64 e, .int .i64 p] w (SpEnd w (s.give e p).1 (s.give e p).2) := by
  obtain ⟨i0, hi, hz0, hz1, hz2⟩ := info_parts frInfo
  obtain ⟨tb1, tb2, tb3⟩ := two_boxes w (.int .i64 s.hi) (.slice A n c) (.slice B m d) (.int .i64 0) (.slice none 0 0) (.slice none 0 0)
  have HS := Lib.hid (hs.kept tb3)
  have HB := Lib.hid tb1
  have HR := Lib.hid tb2
  have B0 := Lib.hid tb3
  clear hs tb1 tb2 tb3
  go_enter Try.func15, Try.ntmps15
  go_wp2_with fail
  generalize (w.alloc (.cells #[.int .i64 s.hi, .slice A n c, .slice B m d] 26)).alloc (.cells #[.int .i64 0, .slice none 0 0, .slice none 0 0] 26) = w0 at *
  refine (refMay_any s s.hi p A B n c m d w0 rfl).mono ?_
  rintro e1 wa ⟨rfl, ba⟩
  have HBa := Lib.hid (HB.out.kept ba)
  have Ba := Lib.hid ba
  clear ba
  obtain ⟨a0, a1, a2⟩ := HBa.out.cells
  go_wp2_with fail
  refine (refKnown_any s s.hi p A B n c m d wa (HS.out.kept Ba.out) (by omega) (by omega)).mono ?_
  rintro e2 wb ⟨rfl, bb⟩
  have BK := Lib.hid (Ba.out.trans (bb.mono Ba.out.size))
  have HS1 := Lib.hid (HS.out.kept BK.out)
  have HB1 := Lib.hid (HB.out.kept BK.out)
  have HR1 := Lib.hid (HR.out.kept BK.out)
  have B1' := Lib.hid (B0.out.trans (BK.out.mono B0.out.size))
  clear bb a0 a1 a2 HS HB HR HBa Ba BK B0
  obtain ⟨a0, a1, a2⟩ := HB1.out.cells
  cases hp : s.may p with
  | false =>
    have HT := Lib.hid (give_ill (giveBad_may (e := e) (p := p) (s := s) (by rw [hp]; rfl)))
    clear hp
    have HD := Lib.hid (give_zero B1'.out (Nat.le_add_right w.heap.size 1))
    obtain ⟨z0, z1, z2⟩ := (Lib.hid (HR1.out.put (.int .i64 0) (.slice none 0 0) (.slice none 0 0))).out.cells
    obtain ⟨q0, q1, q2⟩ := HR1.out.cells
    obtain ⟨f0, f1, f2⟩ := HR1.out.free
    go_wp2_with fail
    refine bodyPost_ret (v := .tuple #[.agg #[.int .i64 0, .slice none 0 0, .slice none 0 0], .int .i64 1]) (by simp [results, Try.results15, go_sem, z0, z1, z2]) rfl ?_
    rw [HT.out]
    exact HD.out
  | true =>
    cases hk : s.known p with
    | true =>
      have HT := Lib.hid (give_ill (giveBad_may (e := e) (p := p) (s := s) (by rw [hp, hk]; rfl)))
      clear hp hk
      have HD := Lib.hid (give_zero B1'.out (Nat.le_add_right w.heap.size 1))
      obtain ⟨z0, z1, z2⟩ := (Lib.hid (HR1.out.put (.int .i64 0) (.slice none 0 0) (.slice none 0 0))).out.cells
      obtain ⟨q0, q1, q2⟩ := HR1.out.cells
      obtain ⟨f0, f1, f2⟩ := HR1.out.free
      go_wp2_with fail
      refine bodyPost_ret (v := .tuple #[.agg #[.int .i64 0, .slice none 0 0, .slice none 0 0], .int .i64 1]) (by simp [results, Try.results15, go_sem, z0, z1, z2]) rfl ?_
      rw [HT.out]
      exact HD.out
    | false =>
      have HMK := Lib.hid (show (s.may p && !(s.known p)) = true by rw [hp, hk]; rfl)
      clear hp hk
      by_cases he : e < 0
      · have HT := Lib.hid (give_ill (giveBad_age (s := s) (e := e) (p := p) (Or.inl he)))
        have HD := Lib.hid (give_zero B1'.out (Nat.le_add_right w.heap.size 1))
        obtain ⟨z0, z1, z2⟩ := (Lib.hid (HR1.out.put (.int .i64 0) (.slice none 0 0) (.slice none 0 0))).out.cells
        obtain ⟨q0, q1, q2⟩ := HR1.out.cells
        obtain ⟨f0, f1, f2⟩ := HR1.out.free
        go_wp2_with fail
        refine bodyPost_ret (v := .tuple #[.agg #[.int .i64 0, .slice none 0 0, .slice none 0 0], .int .i64 1]) (by simp [results, Try.results15, go_sem, z0, z1, z2]) rfl ?_
        rw [HT.out]
        exact HD.out
      · rcases m with _ | k
        · have HL := Lib.hid (last_nil HS1.out.pl)
          have HT := Lib.hid (give_well (giveBad_no HMK.out he (by rw [HL.out]; exact he)))
          go_wp2_with fail
          refine (refOwn_any s s.hi A B n c 0 d wb rfl HS1.out (by omega) (by omega)).mono ?_
          rintro e3 w1 ⟨A1, c1, B1, d1, rfl, o1, b1⟩
          have O1f := Lib.hid o1.fr
          have O1p := Lib.hid o1.pe
          have HIA : Hid (Hi (w.heap.size + 1 + 1) A1) := Lib.hid (o1.hiA.low (by have := HR1.out.lt; omega))
          have HR2 := Lib.hid (HR1.out.kept b1)
          have B2 := Lib.hid (B1'.out.trans (b1.mono B1'.out.size))
          have HB2 := Lib.hid b1
          have HSZ := Lib.hid b1.size
          have hlr := HR1.out.lt
          have HTB := Lib.hid (box_new w1 (.int .i64 s.hi) (.slice A1 n c1) (.slice B1 0 d1))
          have BL := Lib.hid (below_two w1 (.cells #[.int .i64 s.hi, .slice A1 n c1, .slice B1 0 d1] 26) (.cells #[.int .i64 e, .int .i64 p] 49))
          have o2 := row_below O1p.out BL.out
          have bs : wb.heap.size ≤ ((w1.alloc (.cells #[.int .i64 s.hi, .slice A1 n c1, .slice B1 0 d1] 26)).alloc (.cells #[.int .i64 e, .int .i64 p] 49)).heap.size := Nat.le_trans HSZ.out BL.out.size
          have bs' : (0 + 1) * 16 ≤ 140737488355328 := by omega
          have bm : 0 + 1 ≤ maxLen := by unfold maxLen; omega
          clear o1 b1
          go_wp2_with (at_builtin; (refine wpList_append_own _ rfl (.tmp 49) (.tmp 53) 24 rfl wb.heap.size 49 i0 (.agg #[.int .i64 0, .int .i64 0]) 2 16 Try.underlying24 hi hz0 hz1 hz2 rfl (by decide) _ _ _ rfl o2 ⟨w1.heap.size + 1, 0, none⟩ 1 1 [.int .i64 e, .int .i64 p] rfl rfl (cell_two_two _ _ _ _ _) (by simp [Value.oneCell']) bm bs' bs ?_; intro v3 w3 hown3 hg3 _; obtain ⟨B3, d3, rfl⟩ := shape_own hown3; have HT2 := (HTB.out.kept (below_one _ _)).grown o2 (by decide) hg3; obtain ⟨q0, q1, q2⟩ := HT2.cells; obtain ⟨f0, f1, f2⟩ := HT2.free; obtain ⟨u0, u1, u2⟩ := (HT2.set2 (.slice B3 (0 + 1) d3)).cells; have BW3 := Below.grown (B := wb.heap.size) (a := wb) (HB2.out.trans (BL.out.mono HSZ.out)) hg3 bs (fun k hk => (o2.lt k hk).1); have HR3 := (HR1.out.kept BW3).but ((But.refl _ _).set (r := w1.heap.size) 2 (.slice B3 (0 + 1) d3)) (by have := HSZ.out; omega); obtain ⟨r0, r1, r2⟩ := HR3.cells; obtain ⟨t0, t1, t2⟩ := HR3.free; obtain ⟨z0, z1, z2⟩ := (HR3.put (.int .i64 s.hi) (.slice A1 n c1) (.slice B3 (0 + 1) d3)).cells))
          have OF3 := own_set (own_apart (by decide) (row_below O1f.out BL.out) o2 hg3) HT2 (by decide) 2 (.slice B3 (0 + 1) d3)
          have OP3 := own_set hown3 HT2 (by decide) 2 (.slice B3 (0 + 1) d3)
          refine bodyPost_ret (v := .tuple #[.agg #[.int .i64 s.hi, .slice A1 n c1, .slice B3 (0 + 1) d3], .int .i64 0]) (by simp [results, Try.results15, go_sem, z0, z1, z2]) rfl ?_
          have HSp := (OwnS.sp (s := { s with pe := s.pe ++ [(e, p)] }) ⟨OF3, by rw [prVals_append]; exact OP3⟩)
          have HD := put_done (h := s.hi) ((B1'.out.trans (BW3.mono B1'.out.size)).setCell (p := ⟨w1.heap.size, 2, none⟩) (show w.heap.size ≤ w1.heap.size by have := HSZ.out; omega) _) (Nat.le_add_right w.heap.size 1) HSp HIA.out ((Hi.of_own OP3).low (by omega)) rfl (.int .i64 s.hi) (.slice A1 n c1) (.slice B3 (0 + 1) d3)
          rw [HT.out]
          exact ⟨_, rfl, HD.1, HD.2⟩
        · obtain ⟨b, off, x, y, rfl, hv, c0, c1⟩ := HS1.out.pe.prAt (k := k) (by omega)
          have HL := Lib.hid (last_at HS1.out.pl hv)
          have e1 : wrap64 (((k + 1 : Nat) : Int) - 1) = (k : Int) := by unfold wrap64; omega
          have e2 : ((k + 1 : Nat) : Int) = (k : Int) + 1 := by omega
          clear hv
          by_cases hx : e < x
          · have HT := Lib.hid (give_ill (giveBad_age (s := s) (e := e) (p := p) (Or.inr (by rw [HL.out]; exact hx))))
            have HD := Lib.hid (give_zero B1'.out (Nat.le_add_right w.heap.size 1))
            obtain ⟨z0, z1, z2⟩ := (Lib.hid (HR1.out.put (.int .i64 0) (.slice none 0 0) (.slice none 0 0))).out.cells
            obtain ⟨q0, q1, q2⟩ := HR1.out.cells
            obtain ⟨f0, f1, f2⟩ := HR1.out.free
            go_wp2_with fail
            refine bodyPost_ret (v := .tuple #[.agg #[.int .i64 0, .slice none 0 0, .slice none 0 0], .int .i64 1]) (by simp [results, Try.results15, go_sem, z0, z1, z2]) rfl ?_
            rw [HT.out]
            exact HD.out
          · have HT := Lib.hid (give_well (giveBad_no HMK.out he (by rw [HL.out]; exact hx)))
            go_wp2_with fail
            refine (refOwn_any s s.hi A (some ⟨b, off, none⟩) n c (k + 1) d wb rfl HS1.out (by omega) (by omega)).mono ?_
            rintro e3 w1 ⟨A1, c1, B1, d1, rfl, o1, b1⟩
            have O1f := Lib.hid o1.fr
            have O1p := Lib.hid o1.pe
            have HIA : Hid (Hi (w.heap.size + 1 + 1) A1) := Lib.hid (o1.hiA.low (by have := HR1.out.lt; omega))
            have HR2 := Lib.hid (HR1.out.kept b1)
            have B2 := Lib.hid (B1'.out.trans (b1.mono B1'.out.size))
            have HB2 := Lib.hid b1
            have HSZ := Lib.hid b1.size
            have hlr := HR1.out.lt
            have HTB := Lib.hid (box_new w1 (.int .i64 s.hi) (.slice A1 n c1) (.slice B1 (k + 1) d1))
            have BL := Lib.hid (below_two w1 (.cells #[.int .i64 s.hi, .slice A1 n c1, .slice B1 (k + 1) d1] 26) (.cells #[.int .i64 e, .int .i64 p] 49))
            have o2 := row_below O1p.out BL.out
            have bs : wb.heap.size ≤ ((w1.alloc (.cells #[.int .i64 s.hi, .slice A1 n c1, .slice B1 (k + 1) d1] 26)).alloc (.cells #[.int .i64 e, .int .i64 p] 49)).heap.size := Nat.le_trans HSZ.out BL.out.size
            have bs' : ((k + 1) + 1) * 16 ≤ 140737488355328 := by omega
            have bm : (k + 1) + 1 ≤ maxLen := by unfold maxLen; omega
            clear o1 b1
            go_wp2_with (at_builtin; (refine wpList_append_own _ rfl (.tmp 49) (.tmp 53) 24 rfl wb.heap.size 49 i0 (.agg #[.int .i64 0, .int .i64 0]) 2 16 Try.underlying24 hi hz0 hz1 hz2 rfl (by decide) _ _ _ rfl o2 ⟨w1.heap.size + 1, 0, none⟩ 1 1 [.int .i64 e, .int .i64 p] rfl rfl (cell_two_two _ _ _ _ _) (by simp [Value.oneCell']) bm bs' bs ?_; intro v3 w3 hown3 hg3 _; obtain ⟨B3, d3, rfl⟩ := shape_own hown3; have HT2 := (HTB.out.kept (below_one _ _)).grown o2 (by decide) hg3; obtain ⟨q0, q1, q2⟩ := HT2.cells; obtain ⟨f0, f1, f2⟩ := HT2.free; obtain ⟨u0, u1, u2⟩ := (HT2.set2 (.slice B3 ((k + 1) + 1) d3)).cells; have BW3 := Below.grown (B := wb.heap.size) (a := wb) (HB2.out.trans (BL.out.mono HSZ.out)) hg3 bs (fun k hk => (o2.lt k hk).1); have HR3 := (HR1.out.kept BW3).but ((But.refl _ _).set (r := w1.heap.size) 2 (.slice B3 ((k + 1) + 1) d3)) (by have := HSZ.out; omega); obtain ⟨r0, r1, r2⟩ := HR3.cells; obtain ⟨t0, t1, t2⟩ := HR3.free; obtain ⟨z0, z1, z2⟩ := (HR3.put (.int .i64 s.hi) (.slice A1 n c1) (.slice B3 ((k + 1) + 1) d3)).cells))
            have OF3 := own_set (own_apart (by decide) (row_below O1f.out BL.out) o2 hg3) HT2 (by decide) 2 (.slice B3 ((k + 1) + 1) d3)
            have OP3 := own_set hown3 HT2 (by decide) 2 (.slice B3 ((k + 1) + 1) d3)
            refine bodyPost_ret (v := .tuple #[.agg #[.int .i64 s.hi, .slice A1 n c1, .slice B3 ((k + 1) + 1) d3], .int .i64 0]) (by simp [results, Try.results15, go_sem, z0, z1, z2]) rfl ?_
            have HSp := (OwnS.sp (s := { s with pe := s.pe ++ [(e, p)] }) ⟨OF3, by rw [prVals_append]; exact OP3⟩)
            have HD := put_done (h := s.hi) ((B1'.out.trans (BW3.mono B1'.out.size)).setCell (p := ⟨w1.heap.size, 2, none⟩) (show w.heap.size ≤ w1.heap.size by have := HSZ.out; omega) _) (Nat.le_add_right w.heap.size 1) HSp HIA.out ((Hi.of_own OP3).low (by omega)) rfl (.int .i64 s.hi) (.slice A1 n c1) (.slice B3 ((k + 1) + 1) d3)
            rw [HT.out]
            exact ⟨_, rfl, HD.1, HD.2⟩
end Go.Proofs.Ytlldmefjhgahdaa

/-
  What the document's own with comes to: a list, and one page more at its place.
-/
namespace Go.Proofs.Ytlldmefjhgahdaa
open Go.RowKit

theorem Ln.grown {w w' : World} {sz b off n c : Nat} {cs : List Value} {row : Option Nat} (h : Ln w sz (some ⟨b, off, none⟩) n c cs) (hg : w.grownBy w' row) (hne : some b ≠ row) : Ln w' sz (some ⟨b, off, none⟩) n c cs :=
  ⟨h.len, h.le, h.lies.1, fun ad e j u hu => by
    have h0 := h.lies.2 ad e j u hu
    obtain rfl := Option.some.inj e
    rw [addr_add] at h0 ⊢
    exact hg.cell h0 hne⟩

/-- append, as one step of a drawn region, to a list that is written out. -/
theorem step_append_ls {P : Program} (w : World) {ops : Array Oper} {o : Oper} {a : Act} {K : Act → World → Prop} {Q : Exit → Act → World → Prop} {E : Prop} (hgd : o.guard = none) (s x : Operand) (t : TypeId)
    (ho : o.op = .call { callee := .builtin .append, args := #[s, x], argTypes := #[t, t] })
    (base : Nat) (e : TypeId) (i : TypeInfo) (z : Value) (size bytes : Nat) (ht : P.underlying t = some (.slice e)) (hi : P.info? e = some i) (hz : i.zero = some z)
    (hsize : i.size = size) (hby : i.bytes = bytes) (hzs : z.cells.size = size) (hsz : 0 < size)
    (S : Option Addr) (n d : Nat) (xs : List Value) (hs : a.eval s = .slice S n d) (hown : w.ownsRow base e size (.slice S n d) n xs)
    (A : Option Addr) (m c : Nat) (news : List Value) (hx : a.eval x = .slice A m c) (hl : Ln w size A m c news) (h1 : ∀ u ∈ news, u.oneCell' = true)
    (h63 : n + m ≤ maxLen) (hbytes : (n + m) * bytes ≤ 140737488355328) (hbase : base ≤ w.heap.size)
    (h : ∀ A' c' w', w'.ownsRow base e size (.slice A' (n + m) c') (n + m) (xs ++ news) → w.grownBy w' (Value.slice S n d).ownBlock → K (a.put o.dst (.slice A' (n + m) c')) w') :
    if Region.wanted o (yielded ops a.tmps) = true then Oper.wp P o a w K Q else E :=
  step_append_ln w hgd s x t ho base e i z size bytes ht hi hz hsize hby hzs hsz _ n xs hs hown A m c news hx hl h1 h63 hbytes hbase h

theorem own_grown_hi {w a : World} {B : Nat} {w' : World} {base sz n : Nat} {e : TypeId} {v : Value} {xs : List Value} (hb : Below B a w) (hB : B ≤ w.heap.size) (h : w.ownsRow base e sz v n xs) (hbase : B ≤ base) (hg : w.grownBy w' v.ownBlock) : Below B a w' :=
  Below.grown hb hg hB (fun k hk => Nat.le_trans hbase (h.lt k hk).1)

theorem ins_parts {p : Int} {zs : List Int} {k : Nat} (h : SS.place p zs = k) : intVals (zs.take k) ++ intVals [p] ++ intVals (zs.drop k) = intVals (SS.ins p zs) := by
  subst h
  conv => rhs; rw [SS.ins_place p zs]
  rw [sIntVals_append, List.append_assoc]
  rfl

set_option maxRecDepth 20000 in
set_option maxHeartbeats 6400000 in
theorem with_any (A : Option Addr) (n c : Nat) (zs : List Int) (p : Int) (w : World) (hl : Ln w 1 A n c (intVals zs)) (hn : n ≤ 700000) :
    Calls Try.prog 37 #[.slice A n c, .int .i64 p] w (JoinEnd w 3 1 (n + 1) (intVals (SS.ins p zs))) := by
  obtain ⟨i1, hi1, hy0, hy1, hy2⟩ := info_parts intInfo
  have HL := Lib.hid hl
  have HN := Lib.hid hl.intN
  clear hl
  go_enter Try.func37, Try.ntmps37
  go_upto_block 0 with fail
  go_cut [5] (fun s5 wx => ∃ k : Nat, k ≤ n ∧ s5 = .int .i64 k ∧ Hid (SS.place p zs = k) ∧ wx = w)
  case first =>
    go_wp2_with fail
    go_loopw [5] (fun i wk => ∃ k : Nat, k ≤ n ∧ i = .int .i64 k ∧ Hid (∀ j z, j < k → zs[j]? = some z → z < p) ∧ wk = w) (fun i _ => n - (intOf i).toNat)
    case atStart => exact ⟨0, Nat.zero_le _, rfl, Lib.hid (fun j z hj => absurd hj (by omega)), rfl⟩
    case round =>
      obtain ⟨k, hk, rfl, HSo, hw⟩ := hrel
      have hw' := hw.symm
      subst hw'
      clear hw
      by_cases hlt : k < n
      · obtain ⟨b, off, x, rfl, hv, c0⟩ := HL.out.intAt hlt
        by_cases hx : x < p
        · have HM : Hid (∀ j z, j < k + 1 → zs[j]? = some z → z < p) := Lib.hid (fun j z hj hz => by
            by_cases hjk : j = k
            · subst hjk
              rw [hv] at hz
              obtain rfl := Option.some.inj hz
              exact hx
            · exact HSo.out j z (by omega) hz)
          clear hv HSo
          go_wp2_with fail
          go_roundw
          case rel => exact ⟨k + 1, by omega, by go_num, HM, trivial⟩
          case measure => simp [intOf]; omega
        · have HC := Lib.hid (SS.place_at HSo.out (fun z hz => by rw [hv] at hz; obtain rfl := Option.some.inj hz; exact hx) (by rw [HN.out]; exact hk))
          clear hv HSo
          go_wp2_with fail
          go_meet
          exact ⟨k, hk, rfl, HC, rfl⟩
      · have HC := Lib.hid (SS.place_at HSo.out (fun z hz => by have := (List.getElem?_eq_some_iff.1 hz).1; rw [HN.out] at this; omega) (by rw [HN.out]; exact hk))
        clear HSo
        go_wp2_with fail
        go_meet
        exact ⟨k, hk, rfl, HC, rfl⟩
  case rest =>
    obtain ⟨k, hk, rfl, HC, hw⟩ := hcut
    have hw' := hw.symm
    subst hw'
    clear hw
    have HV := Lib.hid (ins_parts HC.out)
    clear HC
    have BE := Lib.hid ((below_one w (.cells #[] 3)).drew)
    have BEP := Lib.hid ((below_two w (.cells #[] 3) (.cells #[.int .i64 p] 3)).drew)
    have BPE := Lib.hid ((below_two w (.cells #[.int .i64 p] 3) (.cells #[] 3)).drew)
    have hs1 : (w.alloc (.cells #[] 3)).heap.size = w.heap.size + 1 := by simp
    have hs2 : (w.alloc (.cells #[.int .i64 p] 3)).heap.size = w.heap.size + 1 := by simp
    have OE : Hid (((w.alloc (.cells #[] 3)).drew).ownsRow w.heap.size 3 1 (.slice (some ⟨w.heap.size, 0, none⟩) 0 0) 0 []) := Lib.hid (own_empty (empty_new w _) (Nat.le_refl _))
    have OEP : Hid ((((w.alloc (.cells #[] 3)).alloc (.cells #[.int .i64 p] 3)).drew).ownsRow w.heap.size 3 1 (.slice (some ⟨w.heap.size, 0, none⟩) 0 0) 0 []) := Lib.hid (row_below (show (w.alloc (.cells #[] 3)).ownsRow w.heap.size 3 1 (.slice (some ⟨w.heap.size, 0, none⟩) 0 0) 0 [] from OE.out) ((below_one (w.alloc (.cells #[] 3)) (.cells #[.int .i64 p] 3)).drew))
    have OPE : Hid ((((w.alloc (.cells #[.int .i64 p] 3)).alloc (.cells #[] 3)).drew).ownsRow w.heap.size 3 1 (.slice (some ⟨w.heap.size + 1, 0, none⟩) 0 0) 0 []) := Lib.hid (own_empty (by have := empty_new (w.alloc (.cells #[.int .i64 p] 3)) 3; rw [hs2] at this; exact this) (Nat.le_succ _))
    have LEP : Hid (Ln (((w.alloc (.cells #[] 3)).alloc (.cells #[.int .i64 p] 3)).drew) 1 (some ⟨w.heap.size + 1, 0, none⟩) 1 1 (intVals [p])) := Lib.hid (by have := (ln_one (w.alloc (.cells #[] 3)) p 3).kept ((Below.refl _ _).drew); rw [hs1] at this; exact this)
    have LPE : Hid (Ln (((w.alloc (.cells #[.int .i64 p] 3)).alloc (.cells #[] 3)).drew) 1 (some ⟨w.heap.size, 0, none⟩) 1 1 (intVals [p])) := Lib.hid ((ln_one w p 3).kept ((below_one _ (.cells #[] 3)).drew))
    clear hs1 hs2
    have hnc := HL.out.le
    have hnil := HL.out.lies.1
    have HLT := Lib.hid (HL.out.intTake hk)
    rcases A with _ | ad
    · obtain ⟨rfl, rfl⟩ := hnil rfl
      obtain rfl : k = 0 := by omega
      have HLD : Hid (Ln w 1 none 0 0 (intVals (zs.drop 0))) := HL
      go_wp2_with fail
      go_region_held3 (fun _ => True) (exact trivial)
        (first
          | (refine step_append_ls _ (by rfl) _ _ _ (by rfl) w.heap.size 3 i1 _ 1 8 Try.underlying23 hi1 hy0 hy1 hy2 rfl (by omega) _ 0 _ [] (by rfl) (by first | exact OE.out | exact OEP.out | exact OPE.out) _ 0 _ (intVals (zs.take 0)) (by rfl) (HLT.out.kept (by first | exact BE.out | exact BEP.out | exact BPE.out)) (intVals_one _) (by unfold maxLen; omega) (by omega) ((by first | exact BE.out | exact BEP.out | exact BPE.out) : Below w.heap.size w _).size ?_; intro A1 c1 w1 o1 g1; rw [Nat.zero_add, List.nil_append] at o1; rw [Nat.zero_add]; have B1 := Lib.hid (Below.grown (B := w.heap.size) (a := w) (by first | exact BE.out | exact BEP.out | exact BPE.out) g1 ((by first | exact BE.out | exact BEP.out | exact BPE.out) : Below w.heap.size w _).size (by intro k' e'; have := e'; simp [Value.ownBlock] at this; omega)); first | (have LP1 := Lib.hid (LEP.out.grown g1 (by simp [Value.ownBlock]))) | (have LP1 := Lib.hid (LPE.out.grown g1 (by simp [Value.ownBlock]))) | (have LP1 := Lib.hid (ln_one w1 p 3); have B1P := Lib.hid (B1.out.alloc B1.out.size (.cells #[.int .i64 p] 3)); have O1P := Lib.hid (row_below o1 (below_one w1 (.cells #[.int .i64 p] 3)))))
          | (refine step_append_ls _ (by rfl) _ _ _ (by rfl) w.heap.size 3 i1 _ 1 8 Try.underlying23 hi1 hy0 hy1 hy2 rfl (by omega) _ 0 _ (intVals (zs.take 0)) (by rfl) (by first | exact o1 | exact O1P.out) _ 1 _ (intVals [p]) (by rfl) LP1.out (intVals_one _) (by unfold maxLen; omega) (by omega) (by first | exact B1.out.size | exact B1P.out.size) ?_; intro A2 c2 w2 o2 g2; have B2 := Lib.hid (own_grown_hi (B := w.heap.size) (a := w) (by first | exact B1.out | exact B1P.out) (by first | exact B1.out.size | exact B1P.out.size) (by first | exact o1 | exact O1P.out) (Nat.le_refl _) g2))
          | (refine step_append_ls _ (by rfl) _ _ _ (by rfl) w.heap.size 3 i1 _ 1 8 Try.underlying23 hi1 hy0 hy1 hy2 rfl (by omega) _ (0 + 1) _ (intVals (zs.take 0) ++ intVals [p]) (by rfl) o2 _ 0 _ (intVals (zs.drop 0)) (by rfl) (HLD.out.kept B2.out) (intVals_one _) (by unfold maxLen; omega) (by omega) B2.out.size ?_; intro A3 c3 w3 o3 g3; rw [HV.out] at o3; have B3 := Lib.hid (own_grown_hi B2.out B2.out.size o2 (Nat.le_refl _) g3); have hN : 0 + 1 + 0 = 0 + 1 := (by omega); have O3 : Hid (w3.ownsRow w.heap.size 3 1 (.slice A3 (0 + 1) c3) (0 + 1) (intVals (SS.ins p zs))) := (by rw [hN] at o3; exact Lib.hid o3))
          | fail)
      all_goals (
        go_wp2_with fail
        go_ret
        exact ⟨.slice A3 (0 + 1) c3, by first | rfl | rw [hN] | simp, O3.out, B3.out⟩)
    · clear hnil
      by_cases hn0 : n = 0
      · subst hn0
        obtain rfl : k = 0 := by omega
        have HLD : Hid (Ln w 1 (some ad) 0 c (intVals (zs.drop 0))) := HL
        go_wp2_with fail
        go_region_held3 (fun _ => True) (exact trivial)
          (first
            | (refine step_append_ls _ (by rfl) _ _ _ (by rfl) w.heap.size 3 i1 _ 1 8 Try.underlying23 hi1 hy0 hy1 hy2 rfl (by omega) _ 0 _ [] (by rfl) (by first | exact OE.out | exact OEP.out | exact OPE.out) _ 0 _ (intVals (zs.take 0)) (by rfl) (HLT.out.kept (by first | exact BE.out | exact BEP.out | exact BPE.out)) (intVals_one _) (by unfold maxLen; omega) (by omega) ((by first | exact BE.out | exact BEP.out | exact BPE.out) : Below w.heap.size w _).size ?_; intro A1 c1 w1 o1 g1; rw [Nat.zero_add, List.nil_append] at o1; rw [Nat.zero_add]; have B1 := Lib.hid (Below.grown (B := w.heap.size) (a := w) (by first | exact BE.out | exact BEP.out | exact BPE.out) g1 ((by first | exact BE.out | exact BEP.out | exact BPE.out) : Below w.heap.size w _).size (by intro k' e'; have := e'; simp [Value.ownBlock] at this; omega)); first | (have LP1 := Lib.hid (LEP.out.grown g1 (by simp [Value.ownBlock]))) | (have LP1 := Lib.hid (LPE.out.grown g1 (by simp [Value.ownBlock]))) | (have LP1 := Lib.hid (ln_one w1 p 3); have B1P := Lib.hid (B1.out.alloc B1.out.size (.cells #[.int .i64 p] 3)); have O1P := Lib.hid (row_below o1 (below_one w1 (.cells #[.int .i64 p] 3)))))
            | (refine step_append_ls _ (by rfl) _ _ _ (by rfl) w.heap.size 3 i1 _ 1 8 Try.underlying23 hi1 hy0 hy1 hy2 rfl (by omega) _ 0 _ (intVals (zs.take 0)) (by rfl) (by first | exact o1 | exact O1P.out) _ 1 _ (intVals [p]) (by rfl) LP1.out (intVals_one _) (by unfold maxLen; omega) (by omega) (by first | exact B1.out.size | exact B1P.out.size) ?_; intro A2 c2 w2 o2 g2; have B2 := Lib.hid (own_grown_hi (B := w.heap.size) (a := w) (by first | exact B1.out | exact B1P.out) (by first | exact B1.out.size | exact B1P.out.size) (by first | exact o1 | exact O1P.out) (Nat.le_refl _) g2))
            | (refine step_append_ls _ (by rfl) _ _ _ (by rfl) w.heap.size 3 i1 _ 1 8 Try.underlying23 hi1 hy0 hy1 hy2 rfl (by omega) _ (0 + 1) _ (intVals (zs.take 0) ++ intVals [p]) (by rfl) o2 _ 0 _ (intVals (zs.drop 0)) (by rfl) (HLD.out.kept B2.out) (intVals_one _) (by unfold maxLen; omega) (by omega) B2.out.size ?_; intro A3 c3 w3 o3 g3; rw [HV.out] at o3; have B3 := Lib.hid (own_grown_hi B2.out B2.out.size o2 (Nat.le_refl _) g3); have hN : 0 + 1 + 0 = 0 + 1 := (by omega); have O3 : Hid (w3.ownsRow w.heap.size 3 1 (.slice A3 (0 + 1) c3) (0 + 1) (intVals (SS.ins p zs))) := (by rw [hN] at o3; exact Lib.hid o3))
            | fail)
        all_goals (
          go_wp2_with fail
          go_ret
          exact ⟨.slice A3 (0 + 1) c3, by first | rfl | rw [hN] | simp, O3.out, B3.out⟩)
      · obtain ⟨b, off, e0, _⟩ := HL.out.spot (by rw [intVals_length, HN.out]; omega)
        obtain rfl := Option.some.inj e0
        by_cases hkc : k = c
        · subst hkc
          obtain rfl : n = k := by omega
          have j1 : (0 : Int) ≤ (n : Int) := by omega
          have HLD : Hid (Ln w 1 (some ⟨b, off, none⟩) 0 0 (intVals (zs.drop n))) := Lib.hid (by rw [List.drop_of_length_le (by rw [HN.out]; exact Nat.le_refl _)]; exact Ln.empty _ _ _ _)
          go_wp2_with fail
          go_region_held3 (fun _ => True) (exact trivial)
            (first
              | (refine step_append_ls _ (by rfl) _ _ _ (by rfl) w.heap.size 3 i1 _ 1 8 Try.underlying23 hi1 hy0 hy1 hy2 rfl (by omega) _ 0 _ [] (by rfl) (by first | exact OE.out | exact OEP.out | exact OPE.out) _ n _ (intVals (zs.take n)) (by rfl) (HLT.out.kept (by first | exact BE.out | exact BEP.out | exact BPE.out)) (intVals_one _) (by unfold maxLen; omega) (by omega) ((by first | exact BE.out | exact BEP.out | exact BPE.out) : Below w.heap.size w _).size ?_; intro A1 c1 w1 o1 g1; rw [Nat.zero_add, List.nil_append] at o1; rw [Nat.zero_add]; have B1 := Lib.hid (Below.grown (B := w.heap.size) (a := w) (by first | exact BE.out | exact BEP.out | exact BPE.out) g1 ((by first | exact BE.out | exact BEP.out | exact BPE.out) : Below w.heap.size w _).size (by intro k' e'; have := e'; simp [Value.ownBlock] at this; omega)); first | (have LP1 := Lib.hid (LEP.out.grown g1 (by simp [Value.ownBlock]))) | (have LP1 := Lib.hid (LPE.out.grown g1 (by simp [Value.ownBlock]))) | (have LP1 := Lib.hid (ln_one w1 p 3); have B1P := Lib.hid (B1.out.alloc B1.out.size (.cells #[.int .i64 p] 3)); have O1P := Lib.hid (row_below o1 (below_one w1 (.cells #[.int .i64 p] 3)))))
              | (refine step_append_ls _ (by rfl) _ _ _ (by rfl) w.heap.size 3 i1 _ 1 8 Try.underlying23 hi1 hy0 hy1 hy2 rfl (by omega) _ n _ (intVals (zs.take n)) (by rfl) (by first | exact o1 | exact O1P.out) _ 1 _ (intVals [p]) (by rfl) LP1.out (intVals_one _) (by unfold maxLen; omega) (by omega) (by first | exact B1.out.size | exact B1P.out.size) ?_; intro A2 c2 w2 o2 g2; have B2 := Lib.hid (own_grown_hi (B := w.heap.size) (a := w) (by first | exact B1.out | exact B1P.out) (by first | exact B1.out.size | exact B1P.out.size) (by first | exact o1 | exact O1P.out) (Nat.le_refl _) g2))
              | (refine step_append_ls _ (by rfl) _ _ _ (by rfl) w.heap.size 3 i1 _ 1 8 Try.underlying23 hi1 hy0 hy1 hy2 rfl (by omega) _ (n + 1) _ (intVals (zs.take n) ++ intVals [p]) (by rfl) o2 _ 0 _ (intVals (zs.drop n)) (by rfl) (HLD.out.kept B2.out) (intVals_one _) (by unfold maxLen; omega) (by omega) B2.out.size ?_; intro A3 c3 w3 o3 g3; rw [HV.out] at o3; have B3 := Lib.hid (own_grown_hi B2.out B2.out.size o2 (Nat.le_refl _) g3); have hN : n + 1 + 0 = n + 1 := (by omega); have O3 : Hid (w3.ownsRow w.heap.size 3 1 (.slice A3 (n + 1) c3) (n + 1) (intVals (SS.ins p zs))) := (by rw [hN] at o3; exact Lib.hid o3))
              | fail)
          all_goals (
            go_wp2_with fail
            go_ret
            exact ⟨.slice A3 (n + 1) c3, by first | rfl | rw [hN] | simp, O3.out, B3.out⟩)
        · have j1 : (0 : Int) ≤ (k : Int) := by omega
          have j2 : (k : Int) ≤ (n : Int) := by omega
          have j3 : (n : Int) ≤ (c : Int) := by omega
          have j4 : (k : Int) < (c : Int) := by omega
          have j5 : ¬ c = k := by omega
          have j6 : (k : Int) ≤ (c : Int) := by omega
          have HLD : Hid (Ln w 1 (some ⟨b, off + k, none⟩) (n - k) (c - k) (intVals (zs.drop k))) := Lib.hid (HL.out.intDrop hk)
          go_wp2_with fail
          go_region_held3 (fun _ => True) (exact trivial)
            (first
              | (refine step_append_ls _ (by rfl) _ _ _ (by rfl) w.heap.size 3 i1 _ 1 8 Try.underlying23 hi1 hy0 hy1 hy2 rfl (by omega) _ 0 _ [] (by rfl) (by first | exact OE.out | exact OEP.out | exact OPE.out) _ k _ (intVals (zs.take k)) (by rfl) (HLT.out.kept (by first | exact BE.out | exact BEP.out | exact BPE.out)) (intVals_one _) (by unfold maxLen; omega) (by omega) ((by first | exact BE.out | exact BEP.out | exact BPE.out) : Below w.heap.size w _).size ?_; intro A1 c1 w1 o1 g1; rw [Nat.zero_add, List.nil_append] at o1; rw [Nat.zero_add]; have B1 := Lib.hid (Below.grown (B := w.heap.size) (a := w) (by first | exact BE.out | exact BEP.out | exact BPE.out) g1 ((by first | exact BE.out | exact BEP.out | exact BPE.out) : Below w.heap.size w _).size (by intro k' e'; have := e'; simp [Value.ownBlock] at this; omega)); first | (have LP1 := Lib.hid (LEP.out.grown g1 (by simp [Value.ownBlock]))) | (have LP1 := Lib.hid (LPE.out.grown g1 (by simp [Value.ownBlock]))) | (have LP1 := Lib.hid (ln_one w1 p 3); have B1P := Lib.hid (B1.out.alloc B1.out.size (.cells #[.int .i64 p] 3)); have O1P := Lib.hid (row_below o1 (below_one w1 (.cells #[.int .i64 p] 3)))))
              | (refine step_append_ls _ (by rfl) _ _ _ (by rfl) w.heap.size 3 i1 _ 1 8 Try.underlying23 hi1 hy0 hy1 hy2 rfl (by omega) _ k _ (intVals (zs.take k)) (by rfl) (by first | exact o1 | exact O1P.out) _ 1 _ (intVals [p]) (by rfl) LP1.out (intVals_one _) (by unfold maxLen; omega) (by omega) (by first | exact B1.out.size | exact B1P.out.size) ?_; intro A2 c2 w2 o2 g2; have B2 := Lib.hid (own_grown_hi (B := w.heap.size) (a := w) (by first | exact B1.out | exact B1P.out) (by first | exact B1.out.size | exact B1P.out.size) (by first | exact o1 | exact O1P.out) (Nat.le_refl _) g2))
              | (refine step_append_ls _ (by rfl) _ _ _ (by rfl) w.heap.size 3 i1 _ 1 8 Try.underlying23 hi1 hy0 hy1 hy2 rfl (by omega) _ (k + 1) _ (intVals (zs.take k) ++ intVals [p]) (by rfl) o2 _ (n - k) _ (intVals (zs.drop k)) (by rfl) (HLD.out.kept B2.out) (intVals_one _) (by unfold maxLen; omega) (by omega) B2.out.size ?_; intro A3 c3 w3 o3 g3; rw [HV.out] at o3; have B3 := Lib.hid (own_grown_hi B2.out B2.out.size o2 (Nat.le_refl _) g3); have hN : k + 1 + (n - k) = n + 1 := (by omega); have O3 : Hid (w3.ownsRow w.heap.size 3 1 (.slice A3 (n + 1) c3) (n + 1) (intVals (SS.ins p zs))) := (by rw [hN] at o3; exact Lib.hid o3))
              | fail)
          all_goals (
            go_wp2_with fail
            go_ret
            exact ⟨.slice A3 (n + 1) c3, by first | rfl | rw [hN] | simp, O3.out, B3.out⟩)
end Go.Proofs.Ytlldmefjhgahdaa

/-
  What the document's own Back comes to.
-/
namespace Go.Proofs.Ytlldmefjhgahdaa
open Go.RowKit

set_option maxRecDepth 20000 in
set_option maxHeartbeats 6400000 in
theorem refBack_any (s : SS) (p : Int) (A B : Option Addr) (n c m d : Nat) (w : World) (hs : Sp w A n c B m d s) (hn : n ≤ 300000) (hm : m ≤ 300000) :
    Calls Try.prog 17 #[.agg #[.int .i64 s.hi, .slice A n c, .slice B m d], .int .i64 p] w (SpEnd w (s.back p).1 (s.back p).2) := by
  obtain ⟨tb1, tb2, tb3⟩ := two_boxes w (.int .i64 s.hi) (.slice A n c) (.slice B m d) (.int .i64 0) (.slice none 0 0) (.slice none 0 0)
  have HS := Lib.hid (hs.kept tb3)
  have HB := Lib.hid tb1
  have HR := Lib.hid tb2
  have B0 := Lib.hid tb3
  clear hs tb1 tb2 tb3
  go_enter Try.func17, Try.ntmps17
  go_wp2_with fail
  generalize (w.alloc (.cells #[.int .i64 s.hi, .slice A n c, .slice B m d] 26)).alloc (.cells #[.int .i64 0, .slice none 0 0, .slice none 0 0] 26) = w0 at *
  refine (refMay_any s s.hi p A B n c m d w0 rfl).mono ?_
  rintro e1 wa ⟨rfl, ba⟩
  have HBa := Lib.hid (HB.out.kept ba)
  have Ba := Lib.hid ba
  clear ba
  obtain ⟨a0, a1, a2⟩ := HBa.out.cells
  go_wp2_with fail
  refine (refKnown_any s s.hi p A B n c m d wa (HS.out.kept Ba.out) (by omega) (by omega)).mono ?_
  rintro e2 wb ⟨rfl, bb⟩
  have BK := Lib.hid (Ba.out.trans (bb.mono Ba.out.size))
  have HS1 := Lib.hid (HS.out.kept BK.out)
  have HB1 := Lib.hid (HB.out.kept BK.out)
  have HR1 := Lib.hid (HR.out.kept BK.out)
  have B1' := Lib.hid (B0.out.trans (BK.out.mono B0.out.size))
  clear bb a0 a1 a2 HS HB HR HBa Ba BK B0
  obtain ⟨a0, a1, a2⟩ := HB1.out.cells
  cases hp : s.may p with
  | false =>
    have HT := Lib.hid (back_ill (p := p) (s := s) (by rw [hp]; rfl))
    clear hp
    have HD := Lib.hid (back_zero B1'.out (Nat.le_add_right w.heap.size 1))
    obtain ⟨z0, z1, z2⟩ := (Lib.hid (HR1.out.put (.int .i64 0) (.slice none 0 0) (.slice none 0 0))).out.cells
    obtain ⟨q0, q1, q2⟩ := HR1.out.cells
    obtain ⟨f0, f1, f2⟩ := HR1.out.free
    go_wp2_with fail
    refine bodyPost_ret (v := .tuple #[.agg #[.int .i64 0, .slice none 0 0, .slice none 0 0], .int .i64 1]) (by simp [results, Try.results17, go_sem, z0, z1, z2]) rfl ?_
    rw [HT.out]
    exact HD.out
  | true =>
    cases hk : s.known p with
    | true =>
      have HT := Lib.hid (back_ill (p := p) (s := s) (by rw [hp, hk]; rfl))
      clear hp hk
      have HD := Lib.hid (back_zero B1'.out (Nat.le_add_right w.heap.size 1))
      obtain ⟨z0, z1, z2⟩ := (Lib.hid (HR1.out.put (.int .i64 0) (.slice none 0 0) (.slice none 0 0))).out.cells
      obtain ⟨q0, q1, q2⟩ := HR1.out.cells
      obtain ⟨f0, f1, f2⟩ := HR1.out.free
      go_wp2_with fail
      refine bodyPost_ret (v := .tuple #[.agg #[.int .i64 0, .slice none 0 0, .slice none 0 0], .int .i64 1]) (by simp [results, Try.results17, go_sem, z0, z1, z2]) rfl ?_
      rw [HT.out]
      exact HD.out
    | false =>
      have HT := Lib.hid (back_well (p := p) (s := s) (by rw [hp, hk]; rfl))
      clear hp hk
      go_wp2_with fail
      refine (refOwn_any s s.hi A B n c m d wb rfl HS1.out (by omega) (by omega)).mono ?_
      rintro e3 w1 ⟨A1, c1, B1, d1, rfl, o1, b1⟩
      have O1p := Lib.hid o1.pe
      have HS2 := Lib.hid o1.sp
      have HIB : Hid (Hi (w.heap.size + 1 + 1) B1) := Lib.hid (o1.hiB.low (by have := HR1.out.lt; omega))
      have HSZ := Lib.hid b1.size
      have hlr := HR1.out.lt
      have HTB := Lib.hid (box_new w1 (.int .i64 s.hi) (.slice A1 n c1) (.slice B1 m d1))
      have HR2 := Lib.hid ((HR1.out.kept b1).kept (below_one w1 (.cells #[.int .i64 s.hi, .slice A1 n c1, .slice B1 m d1] 26)))
      have B2 := Lib.hid ((B1'.out.trans (b1.mono B1'.out.size)).alloc (B1'.out.trans (b1.mono B1'.out.size)).size (.cells #[.int .i64 s.hi, .slice A1 n c1, .slice B1 m d1] 26))
      clear o1 b1
      go_wp2_with fail
      refine (with_any A1 n c1 s.fr p _ (HS2.out.fr.kept (below_one _ _)) (by omega)).mono ?_
      rintro e4 w3 ⟨v3, rfl, o3, b3⟩
      obtain ⟨B3, d3, rfl⟩ := shape_own o3
      have HT2 := Lib.hid (HTB.out.kept b3)
      have OP2 := Lib.hid (row_below (row_below O1p.out (below_one w1 (.cells #[.int .i64 s.hi, .slice A1 n c1, .slice B1 m d1] 26))) b3)
      have O3 := Lib.hid o3
      have hg1 : (w1.alloc (.cells #[.int .i64 s.hi, .slice A1 n c1, .slice B1 m d1] 26)).heap.size = w1.heap.size + 1 := by simp
      have HR3 := Lib.hid ((HR2.out.kept b3).but ((But.refl _ _).set (r := w1.heap.size) 1 (.slice B3 (n + 1) d3)) (by have := HSZ.out; omega))
      have B3' := Lib.hid (B2.out.trans (b3.mono B2.out.size))
      have HI3 : Hid (Hi (w.heap.size + 1 + 1) (B3)) := Lib.hid ((Hi.of_own o3).low (by have := HSZ.out; omega))
      clear o3 b3 hg1
      obtain ⟨q0, q1, q2⟩ := HT2.out.cells
      obtain ⟨f0, f1, f2⟩ := HT2.out.free
      obtain ⟨u0, u1, u2⟩ := (HT2.out.set1 (.slice B3 (n + 1) d3)).cells
      obtain ⟨r0, r1, r2⟩ := HR3.out.cells
      obtain ⟨t0, t1, t2⟩ := HR3.out.free
      obtain ⟨z0, z1, z2⟩ := (HR3.out.put (.int .i64 s.hi) (.slice B3 (n + 1) d3) (.slice B1 m d1)).cells
      go_wp2_with fail
      refine bodyPost_ret (v := .tuple #[.agg #[.int .i64 s.hi, .slice B3 (n + 1) d3, .slice B1 m d1], .int .i64 0]) (by simp [results, Try.results17, go_sem, z0, z1, z2]) rfl ?_
      have OF3 := own_set O3.out HT2.out (by decide) 1 (.slice B3 (n + 1) d3)
      have OP3 := own_set OP2.out HT2.out (by decide) 1 (.slice B3 (n + 1) d3)
      have HSp : Sp (w3.setCell ⟨w1.heap.size, 1, none⟩ (.slice B3 (n + 1) d3)) B3 (n + 1) d3 B1 m d1 { s with fr := SS.ins p s.fr } := ⟨ln_own OF3, ln_own OP3⟩
      have HD := put_done (h := s.hi) (B3'.out.setCell (p := ⟨w1.heap.size, 1, none⟩) (show w.heap.size ≤ w1.heap.size by have := HSZ.out; omega) _) (Nat.le_add_right w.heap.size 1) HSp HI3.out HIB.out rfl (.int .i64 s.hi) (.slice B3 (n + 1) d3) (.slice B1 m d1)
      rw [HT.out]
      exact ⟨_, rfl, HD.1, HD.2⟩
end Go.Proofs.Ytlldmefjhgahdaa

/-
  What the document's own Reclaim comes to.
-/
namespace Go.Proofs.Ytlldmefjhgahdaa
open Go.RowKit

theorem insL_snoc (y : Int) (f : List Int) : ∀ l : List Int, SS.insL (l ++ [y]) f = SS.ins y (SS.insL l f)
  | [] => rfl
  | p :: l => by
    show SS.ins p (SS.insL (l ++ [y]) f) = SS.ins y (SS.ins p (SS.insL l f))
    rw [insL_snoc y f l, SS.ins_comm]
theorem Ln.set {w : World} {sz n c g : Nat} {A : Option Addr} {cs : List Value} (h : Ln w sz A n c cs) (hne : ∀ ad, A = some ad → ad.block ≠ g) (j : Nat) (u : Value) : Ln (w.setCell ⟨g, j, none⟩ u) sz A n c cs :=
  ⟨h.len, h.le, h.lies.1, fun ad e i v hv => by
    have h0 := h.lies.2 ad e i v hv
    have hblk : (ad.add i).block = ad.block := by unfold Addr.add; split <;> rfl
    rw [((But.refl g w).set j u |> fun b => World.cell?_of_block (w := w) (b.2 (ad.add i).block (by rw [hblk]; exact hne ad e)))]
    exact h0⟩

/-- In the midst: k pages have gone over. -/
structure RecAt (w wk : World) (g : Nat) (s : SS) (n m k N : Nat) (A : Option Addr) (c : Nat) (B : Option Addr) (d : Nat) : Prop where
  t : Box wk g (.int .i64 s.hi) (.slice A (n + k) c) (.slice B N d)
  r : Box wk (w.heap.size + 1) (.int .i64 0) (.slice none 0 0) (.slice none 0 0)
  fr : wk.ownsRow (w.heap.size + 1 + 1) 3 1 (.slice A (n + k) c) (n + k) (intVals (SS.insL ((s.pe.take k).map (·.2)) s.fr))
  pe : Ln wk 2 B N d (prVals (s.pe.drop k))
  ne : ∀ ad, B = some ad → ad.block ≠ g ∧ w.heap.size + 1 + 1 ≤ ad.block
  lo : w.heap.size + 1 < g
  bl : Below w.heap.size w wk
  hm : N + k = m

section
variable {w wk w3 : World} {g n m k N N' c d d' c3 : Nat} {s : SS} {A B A3 B' : Option Addr} {x y : Int}
theorem rec_step (H : RecAt w wk g s n m k N A c B d) (o3 : w3.ownsRow wk.heap.size 3 1 (.slice A3 (n + k + 1) c3) (n + k + 1) (intVals (SS.ins y (SS.insL ((s.pe.take k).map (·.2)) s.fr)))) (b3 : Below wk.heap.size wk w3)
    (hv : s.pe[k]? = some (x, y)) (hpe : Ln wk 2 B' N' d' (prVals (s.pe.drop (k + 1)))) (hne : ∀ ad, B' = some ad → ad.block ≠ g ∧ w.heap.size + 1 + 1 ≤ ad.block) (hN : N' + (k + 1) = m) :
    RecAt w ((w3.setCell ⟨g, 1, none⟩ (.slice A3 (n + k + 1) c3)).setCell ⟨g, 2, none⟩ (.slice B' N' d')) g s n m (k + 1) N' A3 c3 B' d' := by
  have hlo := H.lo
  have hrl := H.r.lt
  have T3 := H.t.kept b3
  have T4 := T3.set1 (.slice A3 (n + k + 1) c3)
  refine ⟨T4.set2 _, ?_, ?_, ?_, hne, hlo, ?_, hN⟩
  · exact (H.r.kept b3).but (((But.refl g w3).set 1 _).set 2 _) (by omega)
  · rw [List.take_add_one, hv, Option.toList_some, List.map_append]
    show World.ownsRow _ _ _ _ _ _ (intVals (SS.insL ((s.pe.take k).map (·.2) ++ [y]) s.fr))
    rw [insL_snoc]
    exact own_base_low (own_set (own_set o3 T3 (by decide) 1 _) T4 (by decide) 2 _) (by omega)
  · exact ((hpe.kept b3).set (fun ad e => (hne ad e).1) 1 _).set (fun ad e => (hne ad e).1) 2 _
  · exact ((H.bl.trans (b3.mono H.bl.size)).setCell (p := ⟨g, 1, none⟩) (show w.heap.size ≤ g by omega) _).setCell (p := ⟨g, 2, none⟩) (show w.heap.size ≤ g by omega) _
theorem rec_first {w1 : World} {base : Nat} (b : Below w.heap.size w w1) (hR : Box w1 (w.heap.size + 1) (.int .i64 0) (.slice none 0 0) (.slice none 0 0)) (h : OwnS w1 base A n c B m d s) (hb : w.heap.size + 1 + 1 ≤ base) :
    RecAt w (w1.alloc (.cells #[.int .i64 s.hi, .slice A n c, .slice B m d] 26)) w1.heap.size s n m 0 m A c B d := by
  have hlt := hR.lt
  refine ⟨box_new _ _ _ _, hR.kept (below_one _ _), ?_, ?_, ?_, by omega, b.alloc b.size _, by omega⟩
  · exact own_base_low (row_below h.fr (below_one _ _)) hb
  · exact h.sp.pe.kept (below_one _ _)
  · intro ad e
    subst e
    have := h.pe.lt ad.block rfl
    omega
theorem RecAt.sp (H : RecAt w wk g s n m k N A c B d) : Sp wk A (n + k) c B N d { s with fr := SS.insL ((s.pe.take k).map (·.2)) s.fr, pe := s.pe.drop k } := ⟨ln_own H.fr, H.pe⟩
theorem RecAt.hiA (H : RecAt w wk g s n m k N A c B d) : Hi (w.heap.size + 1 + 1) A := Hi.of_own H.fr
theorem RecAt.hiB (H : RecAt w wk g s n m k N A c B d) : Hi (w.heap.size + 1 + 1) B := fun ad e => (H.ne ad e).2
end

set_option maxRecDepth 20000 in
set_option maxHeartbeats 6400000 in
theorem refReclaim_any (s : SS) (e bud : Int) (A B : Option Addr) (n c m d : Nat) (w : World) (hs : Sp w A n c B m d s) (hn : n ≤ 300000) (hm : m ≤ 300000) :
    Calls Try.prog 19 #[.agg #[.int .i64 s.hi, .slice A n c, .slice B m d], .int .i64 e, .int .i64 bud] w (SpEnd w (s.reclaim e bud.toNat).2 (s.reclaim e bud.toNat).1) := by
  obtain ⟨tb1, tb2, tb3⟩ := two_boxes w (.int .i64 s.hi) (.slice A n c) (.slice B m d) (.int .i64 0) (.slice none 0 0) (.slice none 0 0)
  have HS := Lib.hid (hs.kept tb3)
  have HB := Lib.hid tb1
  have HR := Lib.hid tb2
  have B0 := Lib.hid tb3
  have HPL := Lib.hid hs.pl
  clear hs tb1 tb2 tb3
  go_enter Try.func19, Try.ntmps19
  go_wp2_with fail
  generalize (w.alloc (.cells #[.int .i64 s.hi, .slice A n c, .slice B m d] 26)).alloc (.cells #[.int .i64 0, .slice none 0 0, .slice none 0 0] 26) = w0 at *
  refine (refOwn_any s s.hi A B n c m d w0 rfl HS.out (by omega) (by omega)).mono ?_
  rintro e1 w1 ⟨A1, c1, B1, d1, rfl, o1, b1⟩
  have HF := Lib.hid (rec_first (B0.out.trans (b1.mono B0.out.size)) (HR.out.kept b1) o1 (by have := HR.out.lt; omega))
  clear o1 b1 HR HS HB B0
  generalize hg : w1.heap.size = g at *
  go_upto_block 0 with fail
  go_cut [9] (fun s9 wx => ∃ (k N : Nat) (A : Option Addr) (c : Nat) (B : Option Addr) (d : Nat), s9 = .int .i64 k ∧ Hid (SS.count e bud.toNat s.pe = k) ∧ Hid (RecAt w wx g s n m k N A c B d))
  case first =>
    go_wp2_with fail
    go_loopw [9] (fun i wk => ∃ (k N : Nat) (A : Option Addr) (c : Nat) (B : Option Addr) (d : Nat), k ≤ m ∧ (k = 0 ∨ (k : Int) ≤ bud) ∧ i = .int .i64 k ∧ Hid (Soon s.pe k e) ∧ Hid (RecAt w wk g s n m k N A c B d)) (fun i _ => m - (intOf i).toNat)
    case atStart => exact ⟨0, m, A1, c1, B1, d1, Nat.zero_le _, Or.inl rfl, rfl, Lib.hid (fun x hx => absurd hx (by simp)), HF⟩
    case round =>
      obtain ⟨k, N, A2, c2, B2, d2, hk, hkb, rfl, HSo, HA⟩ := hrel
      have hkb' : k ≤ bud.toNat := by omega
      have hNk := HA.out.hm
      obtain ⟨y0, y1, y2⟩ := HA.out.t.cells
      by_cases hlb : (k : Int) < bud
      · by_cases hlt : 0 < N
        · obtain ⟨b, off, x, y, rfl, hv0, z0, z1⟩ := HA.out.pe.prAt hlt
          have hv : s.pe[k]? = some (x, y) := by simpa using hv0
          have c0 : wr.cell? ⟨b, off, none⟩ = some (.int .i64 x) := z0
          have c1 : wr.cell? ⟨b, off + 1, none⟩ = some (.int .i64 y) := z1
          have HV := Lib.hid hv
          clear hv0 z0 z1
          by_cases hx : x ≤ e
          · have HM := Lib.hid (HSo.out.more hv hx)
            clear hv HSo
            have hbg := (HA.out.ne _ rfl)
            have LF := Lib.hid ((ln_own HA.out.fr).kept ((Below.refl wr.heap.size wr).drew))
            have hcl : b < wr.heap.size := World.block_lt_of_cell? _ _ c1
            have C1 := Lib.hid c1
            have hNd := HA.out.pe.le
            have n0 : (0 : Int) < (N : Int) := by omega
            have n1 : (1 : Int) ≤ (N : Int) := by omega
            have n2 : (N : Int) ≤ (d2 : Int) := by omega
            have x2 : wr.drew.cell? ⟨g, 2, none⟩ = some (.slice (some ⟨b, off, none⟩) N d2) := y2
            have x3 : wr.drew.cell? ⟨b, off + 1, none⟩ = some (.int .i64 y) := c1
            have x1 : wr.drew.cell? ⟨g, 1, none⟩ = some (.slice A2 (n + k) c2) := y1
            go_wp2_with fail
            clear y0 y1 y2 c0 c1
            go_region_with (go_at_call 37; refine (with_any A2 (n + k) c2 _ y _ LF.out (by omega)).mono ?_; rintro e3 w3 ⟨v3, rfl, o3, b3⟩; obtain ⟨A3, c3, rfl⟩ := shape_own o3; have B3 := Lib.hid (chainR b3 ((Below.refl wr.heap.size wr).drew)); have HT3 := Lib.hid (HA.out.t.kept B3.out); obtain ⟨q0, q1, q2⟩ := HT3.out.cells; obtain ⟨f0, f1, f2⟩ := HT3.out.free)
            all_goals (
              have O3 := Lib.hid o3
              have HT4 := Lib.hid (HT3.out.set1 (.slice A3 (n + k + 1) c3))
              clear C1 x1 x2 x3 q0 q1 q2 f0 f1 f2 o3 b3
              obtain ⟨q0, q1, q2⟩ := HT4.out.cells
              obtain ⟨f0, f1, f2⟩ := HT4.out.free
              by_cases hd1 : 1 < d2
              · have n3 : (1 : Int) < (d2 : Int) := by omega
                have n4 : ¬ d2 = 1 := by omega
                have n5 : (1 : Int) ≤ (d2 : Int) := by omega
                have HP : Hid (Ln wr 2 (some ⟨b, off + 2, none⟩) (N - 1) (d2 - 1) (prVals (s.pe.drop (k + 1)))) := Lib.hid (by have h := HA.out.pe.prDrop (k := 1) hlt; rw [List.drop_drop] at h; exact h)
                have HX := Lib.hid (rec_step HA.out O3.out B3.out HV.out HP.out (fun ad e => by obtain rfl := Option.some.inj e; exact hbg) (by omega))
                go_wp2_with fail
                go_roundw
                case rel => exact ⟨k + 1, N - 1, A3, c3, some ⟨b, off + 2, none⟩, d2 - 1, by omega, Or.inr (by omega), by go_num, HM, HX⟩
                case measure => simp [intOf]; omega
              · obtain rfl : d2 = 1 := by omega
                obtain rfl : N = 1 := by omega
                have HP : Hid (Ln wr 2 (some ⟨b, off, none⟩) 0 0 (prVals (s.pe.drop (k + 1)))) := Lib.hid (by rw [List.drop_of_length_le (by rw [HPL.out]; omega)]; exact Ln.empty _ _ _ _)
                have HX := Lib.hid (rec_step HA.out O3.out B3.out HV.out HP.out (fun ad e => by obtain rfl := Option.some.inj e; exact hbg) (by omega))
                go_wp2_with fail
                go_roundw
                case rel => exact ⟨k + 1, 0, A3, c3, some ⟨b, off, none⟩, 0, by omega, Or.inr (by omega), by go_num, HM, HX⟩
                case measure => simp [intOf]; omega)
          · have HC := Lib.hid (count_at (e := e) (b := bud.toNat) HSo.out hkb' (by rw [HPL.out]; exact hk) (Or.inr (Or.inr ⟨x, y, hv, hx⟩)))
            clear hv HSo
            go_wp2_with fail
            go_meet
            exact ⟨k, N, A2, c2, _, d2, rfl, HC, HA⟩
        · obtain rfl : N = 0 := by omega
          have HC := Lib.hid (count_at (e := e) (b := bud.toNat) HSo.out hkb' (by rw [HPL.out]; exact hk) (Or.inl (by rw [HPL.out]; omega)))
          clear HSo
          go_wp2_with fail
          go_meet
          exact ⟨k, 0, A2, c2, B2, d2, rfl, HC, HA⟩
      · have HC := Lib.hid (count_at (e := e) (b := bud.toNat) HSo.out hkb' (by rw [HPL.out]; exact hk) (Or.inr (Or.inl (by omega))))
        clear HSo
        go_wp2_with fail
        go_meet
        exact ⟨k, N, A2, c2, B2, d2, rfl, HC, HA⟩
  case rest =>
    obtain ⟨k, N, A2, c2, B2, d2, rfl, HC, HA⟩ := hcut
    have HT := Lib.hid (rec_at HC.out)
    clear HC
    obtain ⟨y0, y1, y2⟩ := HA.out.t.cells
    obtain ⟨q0, q1, q2⟩ := HA.out.r.cells
    obtain ⟨f0, f1, f2⟩ := HA.out.r.free
    obtain ⟨z0, z1, z2⟩ := (HA.out.r.put (.int .i64 s.hi) (.slice A2 (n + k) c2) (.slice B2 N d2)).cells
    have HD := Lib.hid (put_done (h := s.hi) HA.out.bl (Nat.le_add_right w.heap.size 1) HA.out.sp HA.out.hiA HA.out.hiB rfl (.int .i64 s.hi) (.slice A2 (n + k) c2) (.slice B2 N d2))
    go_wp2_with fail
    refine bodyPost_ret (v := .tuple #[.agg #[.int .i64 s.hi, .slice A2 (n + k) c2, .slice B2 N d2], .int .i64 ((k : Nat) : Int)]) (by simp [results, Try.results19, go_sem, z0, z1, z2]) rfl ?_
    rw [HT.out]
    exact ⟨_, rfl, HD.out.1, HD.out.2⟩
end Go.Proofs.Ytlldmefjhgahdaa

/-
  The lists that may be, told one by one.
-/
namespace Go.Proofs.Ytlldmefjhgahdaa
open Go.RowKit

/-- The first k free pages may be; the first k that pend may be. -/
def UpF (s : SS) (k : Nat) : Prop := (s.fr.take k).Pairwise (· < ·) ∧ ∀ p ∈ s.fr.take k, 2 ≤ p ∧ p < s.hi
structure UpP (s : SS) (k : Nat) : Prop where
  ups : (s.pe.take k).Pairwise (fun x y => x.1 ≤ y.1)
  all : ∀ x ∈ s.pe.take k, 0 ≤ x.1 ∧ (2 ≤ x.2 ∧ x.2 < s.hi) ∧ x.2 ∉ s.fr
  once : ((s.pe.take k).map (·.2)).Nodup
theorem may_iff {s : SS} {x : Int} (h : s.may x = true) : 2 ≤ x ∧ x < s.hi := of_decide_eq_true h
theorem may_not {s : SS} {x : Int} (h : s.may x = false) : ¬ (2 ≤ x ∧ x < s.hi) := of_decide_eq_false h
theorem UpF.start (s : SS) : UpF s 0 := ⟨by simp, by simp⟩
theorem UpP.start (s : SS) : UpP s 0 := ⟨by simp, by simp, by simp⟩
theorem UpF.more {s : SS} {k : Nat} {x : Int} (h : UpF s k) (hv : s.fr[k]? = some x) (hm : s.may x = true) (hp : ∀ a ∈ s.fr.take k, a < x) : UpF s (k + 1) := by
  unfold UpF
  rw [List.take_add_one, hv, Option.toList_some]
  refine ⟨List.pairwise_append.2 ⟨h.1, by simp, fun a ha b hb => ?_⟩, fun p hp' => ?_⟩
  · obtain rfl : b = x := by simpa using hb
    exact hp a ha
  · rcases List.mem_append.1 hp' with h1 | h1
    · exact h.2 p h1
    · obtain rfl : p = x := by simpa using h1
      exact may_iff hm
theorem UpF.last {s : SS} {k : Nat} {x y : Int} (h : UpF s (k + 1)) (hy : s.fr[k]? = some y) (hlt : y < x) : ∀ a ∈ s.fr.take (k + 1), a < x := by
  obtain ⟨h1, _⟩ := h
  rw [List.take_add_one, hy, Option.toList_some] at h1 ⊢
  intro a ha
  rcases List.mem_append.1 ha with h2 | h2
  · have := (List.pairwise_append.1 h1).2.2 a h2 y (by simp)
    omega
  · obtain rfl : a = y := by simpa using h2
    exact hlt
theorem bad_may {s : SS} {t x : Int} {k : Nat} (hv : s.fr[k]? = some x) (hm : s.may x = false) : s.check t = 80 := SS.check_bad (fun f => may_not hm (f.inF x (List.mem_of_getElem? hv)))
theorem bad_up {s : SS} {t x y : Int} {k : Nat} (hv : s.fr[k + 1]? = some x) (hy : s.fr[k]? = some y) (hle : x ≤ y) : s.check t = 80 := SS.check_bad (fun f => by
  obtain ⟨h1, rfl⟩ := List.getElem?_eq_some_iff.1 hy
  obtain ⟨h2, rfl⟩ := List.getElem?_eq_some_iff.1 hv
  have := List.pairwise_iff_getElem.1 f.up k (k + 1) h1 h2 (by omega)
  omega)
theorem bad_mayP {s : SS} {t x y : Int} {k : Nat} (hv : s.pe[k]? = some (x, y)) (hm : s.may y = false) : s.check t = 80 := SS.check_bad (fun f => may_not hm (f.inP (x, y) (List.mem_of_getElem? hv)))
theorem bad_pos {s : SS} {t x y : Int} {k : Nat} (hv : s.pe[k]? = some (x, y)) (hx : x < 0) : s.check t = 80 := SS.check_bad (fun f => by
  have : 0 ≤ x := f.pos (x, y) (List.mem_of_getElem? hv)
  omega)
theorem bad_age {s : SS} {t x y x' y' : Int} {k : Nat} (hv : s.pe[k + 1]? = some (x, y)) (hy : s.pe[k]? = some (x', y')) (hlt : x < x') : s.check t = 80 := SS.check_bad (fun f => by
  obtain ⟨h1, e1⟩ := List.getElem?_eq_some_iff.1 hy
  obtain ⟨h2, e2⟩ := List.getElem?_eq_some_iff.1 hv
  have := List.pairwise_iff_getElem.1 f.ups k (k + 1) h1 h2 (by omega)
  rw [e1, e2] at this
  have h3 : x' ≤ x := this
  omega)
theorem take_snoc {s : SS} {x y : Int} {k : Nat} (hv : s.pe[k]? = some (x, y)) : (s.pe.take (k + 1)).map (·.2) = (s.pe.take k).map (·.2) ++ [y] := by
  rw [List.take_add_one, hv, Option.toList_some, List.map_append]
  rfl
theorem bad_known {s : SS} {t x y : Int} {k : Nat} (hv : s.pe[k]? = some (x, y)) (hk : SS.known ⟨0, s.fr, s.pe.take k⟩ y = true) : s.check t = 80 := SS.check_bad (fun f => by
  rcases (SS.known_iff _ y).1 hk with h | h
  · exact f.out (x, y) (List.mem_of_getElem? hv) h
  · have h1 : ((s.pe.take (k + 1)).map (·.2)).Nodup := ((List.take_sublist (k + 1) s.pe).map _).nodup f.once
    rw [take_snoc hv] at h1
    exact (List.nodup_append.1 h1).2.2 y h y (by simp) rfl)
theorem UpP.more {s : SS} {k : Nat} {x y : Int} (h : UpP s k) (hv : s.pe[k]? = some (x, y)) (hm : s.may y = true) (hk : SS.known ⟨0, s.fr, s.pe.take k⟩ y = false) (hx : ¬ x < 0) (hp : ∀ a ∈ s.pe.take k, a.1 ≤ x) : UpP s (k + 1) := by
  obtain ⟨k1, k2⟩ := SS.known_no hk
  refine ⟨?_, ?_, ?_⟩
  · rw [List.take_add_one, hv, Option.toList_some]
    refine List.pairwise_append.2 ⟨h.ups, by simp, fun a ha b hb => ?_⟩
    obtain rfl : b = (x, y) := by simpa using hb
    exact hp a ha
  · rw [List.take_add_one, hv, Option.toList_some]
    intro a ha
    rcases List.mem_append.1 ha with h1 | h1
    · exact h.all a h1
    · obtain rfl : a = (x, y) := by simpa using h1
      exact ⟨by show 0 ≤ x; omega, may_iff hm, k1⟩
  · rw [take_snoc hv]
    refine List.nodup_append.2 ⟨h.once, by simp, fun a ha b hb => ?_⟩
    obtain rfl : b = y := by simpa using hb
    intro e
    subst e
    exact k2 ha
theorem UpP.last {s : SS} {k : Nat} {x x' y' : Int} (h : UpP s (k + 1)) (hy : s.pe[k]? = some (x', y')) (hle : ¬ x < x') : ∀ a ∈ s.pe.take (k + 1), a.1 ≤ x := by
  have h1 := h.ups
  rw [List.take_add_one, hy, Option.toList_some] at h1 ⊢
  intro a ha
  rcases List.mem_append.1 ha with h2 | h2
  · have : a.1 ≤ x' := (List.pairwise_append.1 h1).2.2 a h2 (x', y') (by simp)
    omega
  · obtain rfl : a = (x', y') := by simpa using h2
    show x' ≤ x
    omega
theorem check_good {s : SS} {t : Int} {n m : Nat} (h1 : ¬ s.hi < 2) (h2 : ¬ t < s.hi) (hf : UpF s n) (hp : UpP s m) (hn : s.fr.length ≤ n) (hm : s.pe.length ≤ m) : s.check t = 0 := by
  obtain ⟨f1, f2⟩ := hf
  obtain ⟨p1, p2, p3⟩ := hp
  rw [List.take_of_length_le hn] at f1 f2
  rw [List.take_of_length_le hm] at p1 p2 p3
  exact SS.check_ok ⟨by omega, by omega, f1, f2, p1, fun x hx => (p2 x hx).1, fun x hx => (p2 x hx).2.1, fun x hx => (p2 x hx).2.2, p3⟩

end Go.Proofs.Ytlldmefjhgahdaa

/-
  What the document's own Check comes to.
-/
namespace Go.Proofs.Ytlldmefjhgahdaa
open Go.RowKit

set_option maxRecDepth 20000 in
set_option maxHeartbeats 6400000 in
theorem refCheck_any (s : SS) (t : Int) (A B : Option Addr) (n c m d : Nat) (w : World) (hs : Sp w A n c B m d s) (hn : n ≤ 400000) (hm : m ≤ 400000) :
    Calls Try.prog 22 #[.agg #[.int .i64 s.hi, .slice A n c, .slice B m d], .int .i64 t] w fun e w' => e = .returned (.int .i64 (s.check t)) ∧ Below w.heap.size w w' := by
  by_cases h1 : s.hi < 2
  · have HX := Lib.hid (SS.check_bad (s := s) (top := t) (fun f => by have := f.lo; omega))
    clear hs
    go_enter Try.func22, Try.ntmps22
    go_wp2_with fail
    go_ret
    exact ⟨ret_int HX.out.symm, below_one _ _⟩
  by_cases h2 : t < s.hi
  · have HX := Lib.hid (SS.check_bad (s := s) (top := t) (fun f => by have := f.hi; omega))
    clear hs
    go_enter Try.func22, Try.ntmps22
    go_wp2_with fail
    go_ret
    exact ⟨ret_int HX.out.symm, below_one _ _⟩
  have HS := Lib.hid (hs.kept (below_one w (.cells #[.int .i64 s.hi, .slice A n c, .slice B m d] 26)))
  have HB := Lib.hid (box_new w (.int .i64 s.hi) (.slice A n c) (.slice B m d))
  have B0 := Lib.hid (below_one w (.cells #[.int .i64 s.hi, .slice A n c, .slice B m d] 26))
  have HFL := Lib.hid hs.fl
  have HPL := Lib.hid hs.pl
  have HMD := Lib.hid hs.pe.le
  clear hs
  go_enter Try.func22, Try.ntmps22
  go_wp2_with fail
  generalize w.alloc (.cells #[.int .i64 s.hi, .slice A n c, .slice B m d] 26) = w0 at *
  go_loopw [5] (fun i wk => ∃ k : Nat, k ≤ n ∧ i = .int .i64 k ∧ Hid (UpF s k) ∧ Hid (Below w0.heap.size w0 wk)) (fun i _ => n - (intOf i).toNat)
  case atStart => exact ⟨0, Nat.zero_le _, rfl, Lib.hid (UpF.start s), Lib.hid (Below.refl _ _)⟩
  case round =>
    obtain ⟨k, hk, rfl, HU, B1⟩ := hrel
    obtain ⟨a0, a1, a2⟩ := (HB.out.kept B1.out).cells
    by_cases hlt : k < n
    · obtain ⟨b, off, x, rfl, hv, c0⟩ := (HS.out.fr.kept B1.out).intAt hlt
      have C0 := Lib.hid c0
      have HV := Lib.hid hv
      have hcl : b < wr.heap.size := World.block_lt_of_cell? _ _ c0
      have i1 : (0 : Int) ≤ (k : Int) := by omega
      have i2 : (k : Int) < (n : Int) := by omega
      have K0 : wr.drew.cell? ⟨w.heap.size, 0, none⟩ = some (.int .i64 s.hi) ∧ wr.drew.cell? ⟨w.heap.size, 1, none⟩ = some (.slice (some ⟨b, off, none⟩) n c) ∧ wr.drew.cell? ⟨w.heap.size, 2, none⟩ = some (.slice B m d) ∧ wr.drew.cell? ⟨b, off + k, none⟩ = some (.int .i64 x) := ⟨a0, a1, a2, c0⟩
      clear hv c0
      go_wp2_with fail
      clear a0 a1 a2
      go_region_held3 (fun w' => w'.cell? ⟨w.heap.size, 0, none⟩ = some (.int .i64 s.hi) ∧ w'.cell? ⟨w.heap.size, 1, none⟩ = some (.slice (some ⟨b, off, none⟩) n c) ∧ w'.cell? ⟨w.heap.size, 2, none⟩ = some (.slice B m d) ∧ w'.cell? ⟨b, off + k, none⟩ = some (.int .i64 x))
        (first | exact K2 | exact K0)
        (first
          | (go_at_call 35; refine (refMay_any s s.hi x (some ⟨b, off, none⟩) B n c m d _ rfl).mono ?_; rintro e1 wa ⟨rfl, ba⟩; have BA := Lib.hid ((Below.refl wr.heap.size wr).drew.trans (ba.mono (Nat.le_refl _))); have B2 := Lib.hid (B1.out.trans (BA.out.mono B1.out.size)); obtain ⟨e0, e1, e2⟩ := (HB.out.kept B2.out).cells; have K2 : wa.cell? ⟨w.heap.size, 0, none⟩ = some (.int .i64 s.hi) ∧ wa.cell? ⟨w.heap.size, 1, none⟩ = some (.slice (some ⟨b, off, none⟩) n c) ∧ wa.cell? ⟨w.heap.size, 2, none⟩ = some (.slice B m d) ∧ wa.cell? ⟨b, off + k, none⟩ = some (.int .i64 x) := ⟨e0, e1, e2, (BA.out.cell (p := ⟨b, off + k, none⟩) hcl).trans C0.out⟩)
          | fail)
      clear K0
      obtain ⟨_, _, _, c0⟩ := K2
      cases hp : s.may x with
      | false =>
        have HX := Lib.hid (bad_may (t := t) HV.out hp)
        clear hp
        go_wp2_with fail
        go_quiet (fail)
        go_wp2_with fail
        go_ret
        exact ⟨ret_int HX.out.symm, belowN (B0.out.trans (B2.out.mono B0.out.size)) _⟩
      | true =>
        have HP := Lib.hid hp
        clear hp
        rcases k with _ | j
        · have HM := Lib.hid (HU.out.more HV.out HP.out (fun a ha => absurd ha (by simp)))
          go_wp2_with fail
          go_quiet (fail)
          go_wp2_with fail
          go_roundw
          case rel => exact ⟨1, by omega, by go_num, HM, Lib.hid (belowN B2.out _)⟩
          case measure => simp [intOf]; omega
        · obtain ⟨b', off', y, e9, hy, c1⟩ := (HS.out.fr.kept B2.out).intAt (k := j) (by omega)
          have e8 := Option.some.inj e9
          injection e8 with e6 e7
          subst e6
          subst e7
          clear e9
          have HY := Lib.hid hy
          clear hy
          have j1 : wrap64 (((j + 1 : Nat) : Int) - 1) = (j : Int) := by unfold wrap64; omega
          have j2 : IntKind.i64.wrap (((j + 1 : Nat) : Int) - 1) = (j : Int) := by rw [show ((j + 1 : Nat) : Int) - 1 = (j : Int) by omega]; exact IntWalk.i64_in _ (by omega)
          have j3 : (0 : Int) ≤ (j : Int) := by omega
          have j4 : (j : Int) < (n : Int) := by omega
          have j5 : decide ((0 : Int) < ((j + 1 : Nat) : Int)) = true := decide_eq_true (by omega)
          by_cases hxy : y < x
          · have HM := Lib.hid (HU.out.more HV.out HP.out (HU.out.last HY.out hxy))
            have hb : (decide (x ≤ y)) = false := decide_eq_false (by omega)
            go_wp2_with fail
            go_quiet (fail)
            go_wp2_with fail
            go_roundw
            case rel => exact ⟨j + 2, by omega, by go_num, HM, Lib.hid (belowN B2.out _)⟩
            case measure => simp [intOf]; omega
          · have HX := Lib.hid (bad_up (t := t) HV.out HY.out (by omega))
            have hb : (decide (x ≤ y)) = true := decide_eq_true (by omega)
            go_wp2_with fail
            go_quiet (fail)
            go_wp2_with fail
            go_ret
            exact ⟨ret_int HX.out.symm, belowN (B0.out.trans (B2.out.mono B0.out.size)) _⟩
    · obtain rfl : n = k := by omega
      go_wp2_with fail
      go_loopw [7] (fun i wk => ∃ k : Nat, k ≤ m ∧ i = .int .i64 k ∧ Hid (UpP s k) ∧ Hid (Below w0.heap.size w0 wk)) (fun i _ => m - (intOf i).toNat)
      case atStart => exact ⟨0, Nat.zero_le _, rfl, Lib.hid (UpP.start s), B1⟩
      case round =>
        clear a0 a1 a2 B1
        obtain ⟨k, hk, rfl, HQ, B1⟩ := hrel
        obtain ⟨a0, a1, a2⟩ := (HB.out.kept B1.out).cells
        by_cases hlt : k < m
        · obtain ⟨b, off, x, y, rfl, hv, c0, c1⟩ := (HS.out.pe.kept B1.out).prAt hlt
          have C0 := Lib.hid c0
          have C1 := Lib.hid c1
          have HV := Lib.hid hv
          have hmd := HMD.out
          have hcl : b < wr.heap.size := World.block_lt_of_cell? _ _ c0
          have i1 : (0 : Int) ≤ (k : Int) := by omega
          have i2 : (k : Int) < (m : Int) := by omega
          have i3 : (k : Int) ≤ (d : Int) := by omega
          have i4 : (k : Int) ≤ (m : Int) := by omega
          have HSK : Hid (Sp w0 A n c (some ⟨b, off, none⟩) k d ⟨0, s.fr, s.pe.take k⟩) := Lib.hid ⟨HS.out.fr, HS.out.pe.prTake hk⟩
          have K0 : wr.drew.cell? ⟨w.heap.size, 0, none⟩ = some (.int .i64 s.hi) ∧ wr.drew.cell? ⟨w.heap.size, 1, none⟩ = some (.slice A n c) ∧ wr.drew.cell? ⟨w.heap.size, 2, none⟩ = some (.slice (some ⟨b, off, none⟩) m d) ∧ wr.drew.cell? ⟨b, off + k * 2 + 1, none⟩ = some (.int .i64 y) := ⟨a0, a1, a2, c1⟩
          clear hv c0 c1
          go_wp2_with fail
          clear a0 a1 a2
          go_region_held3 (fun w' => w'.cell? ⟨w.heap.size, 0, none⟩ = some (.int .i64 s.hi) ∧ w'.cell? ⟨w.heap.size, 1, none⟩ = some (.slice A n c) ∧ w'.cell? ⟨w.heap.size, 2, none⟩ = some (.slice (some ⟨b, off, none⟩) m d) ∧ w'.cell? ⟨b, off + k * 2 + 1, none⟩ = some (.int .i64 y))
            (first | exact K2 | exact K0)
            (first
              | (go_at_call 35; refine (refMay_any s s.hi y A (some ⟨b, off, none⟩) n c m d _ rfl).mono ?_; rintro e1 wa ⟨rfl, ba⟩; have BA := Lib.hid ((Below.refl wr.heap.size wr).drew.trans (ba.mono (Nat.le_refl _))); have B2 := Lib.hid (B1.out.trans (BA.out.mono B1.out.size)); obtain ⟨e0, e1, e2⟩ := (HB.out.kept B2.out).cells; have K2 : wa.cell? ⟨w.heap.size, 0, none⟩ = some (.int .i64 s.hi) ∧ wa.cell? ⟨w.heap.size, 1, none⟩ = some (.slice A n c) ∧ wa.cell? ⟨w.heap.size, 2, none⟩ = some (.slice (some ⟨b, off, none⟩) m d) ∧ wa.cell? ⟨b, off + k * 2 + 1, none⟩ = some (.int .i64 y) := ⟨e0, e1, e2, (BA.out.cell (p := ⟨b, off + k * 2 + 1, none⟩) hcl).trans C1.out⟩)
              | fail)
          clear K0 K2 e0 e1 e2
          have hca : b < wa.heap.size := Nat.lt_of_lt_of_le hcl BA.out.size
          have C0a := Lib.hid ((BA.out.cell (p := ⟨b, off + k * 2, none⟩) hcl).trans C0.out)
          have C1a := Lib.hid ((BA.out.cell (p := ⟨b, off + k * 2 + 1, none⟩) hcl).trans C1.out)
          obtain ⟨a0, a1, a2⟩ := (HB.out.kept B2.out).cells
          have K0 : wa.drew.cell? ⟨w.heap.size, 1, none⟩ = some (.slice A n c) ∧ wa.drew.cell? ⟨w.heap.size, 2, none⟩ = some (.slice (some ⟨b, off, none⟩) m d) ∧ wa.drew.cell? ⟨b, off + k * 2 + 1, none⟩ = some (.int .i64 y) := ⟨a1, a2, C1a.out⟩
          go_wp2_with fail
          clear a0 a1 a2
          go_region_held3 (fun w' => w'.cell? ⟨w.heap.size, 1, none⟩ = some (.slice A n c) ∧ w'.cell? ⟨w.heap.size, 2, none⟩ = some (.slice (some ⟨b, off, none⟩) m d) ∧ w'.cell? ⟨b, off + k * 2 + 1, none⟩ = some (.int .i64 y))
            (first | exact K2 | exact K0)
            (first
              | (go_at_call 29; refine (refKnown_any ⟨0, s.fr, s.pe.take k⟩ 0 y A (some ⟨b, off, none⟩) n c k d _ (HSK.out.kept (B2.out.drew)) (by omega) (by omega)).mono ?_; rintro e1 wc ⟨rfl, bc⟩; have BC := Lib.hid ((Below.refl wa.heap.size wa).drew.trans (bc.mono (Nat.le_refl _))); have B3 := Lib.hid (B2.out.trans (BC.out.mono B2.out.size)); obtain ⟨e0, e1, e2⟩ := (HB.out.kept B3.out).cells; have K2 : wc.cell? ⟨w.heap.size, 1, none⟩ = some (.slice A n c) ∧ wc.cell? ⟨w.heap.size, 2, none⟩ = some (.slice (some ⟨b, off, none⟩) m d) ∧ wc.cell? ⟨b, off + k * 2 + 1, none⟩ = some (.int .i64 y) := ⟨e1, e2, (BC.out.cell (p := ⟨b, off + k * 2 + 1, none⟩) hca).trans C1a.out⟩)
              | fail)
          clear K0 K2
          have c0 := (BC.out.cell (p := ⟨b, off + k * 2, none⟩) hca).trans C0a.out
          have B4 := Lib.hid (B0.out.trans (B3.out.mono B0.out.size))
          cases hp : s.may y with
          | false =>
            have HX := Lib.hid (bad_mayP (t := t) HV.out hp)
            clear hp
            go_wp2_with fail
            go_quiet (fail)
            go_wp2_with fail
            go_ret
            exact ⟨ret_int HX.out.symm, belowN B4.out _⟩
          | true =>
            have HP := Lib.hid hp
            clear hp
            cases hkn : SS.known ⟨0, s.fr, s.pe.take k⟩ y with
            | true =>
              have HX := Lib.hid (bad_known (t := t) HV.out hkn)
              clear hkn
              go_wp2_with fail
              go_quiet (fail)
              go_wp2_with fail
              go_ret
              exact ⟨ret_int HX.out.symm, belowN B4.out _⟩
            | false =>
              have HK := Lib.hid hkn
              clear hkn
              by_cases hx0 : x < 0
              · have HX := Lib.hid (bad_pos (t := t) HV.out hx0)
                have hb : (decide (x < 0)) = true := decide_eq_true hx0
                go_wp2_with fail
                go_quiet (fail)
                go_wp2_with fail
                go_ret
                exact ⟨ret_int HX.out.symm, belowN B4.out _⟩
              · have hb : (decide (x < 0)) = false := decide_eq_false hx0
                rcases k with _ | j
                · have HM := Lib.hid (HQ.out.more HV.out HP.out HK.out hx0 (fun a ha => absurd ha (by simp)))
                  have c0' : wc.cell? ⟨b, off, none⟩ = some (.int .i64 x) := c0
                  go_wp2_with fail
                  go_quiet (fail)
                  go_wp2_with fail
                  go_roundw
                  case rel => exact ⟨1, by omega, by go_num, HM, Lib.hid (belowN B3.out _)⟩
                  case measure => simp [intOf]; omega
                · obtain ⟨b', off', x', y', e9, hy, c2, _⟩ := (HS.out.pe.kept B3.out).prAt (k := j) (by omega)
                  have e8 := Option.some.inj e9
                  injection e8 with e6 e7
                  subst e6
                  subst e7
                  clear e9
                  have HY := Lib.hid hy
                  clear hy
                  have j1 : wrap64 (((j + 1 : Nat) : Int) - 1) = (j : Int) := by unfold wrap64; omega
                  have j2 : IntKind.i64.wrap (((j + 1 : Nat) : Int) - 1) = (j : Int) := by rw [show ((j + 1 : Nat) : Int) - 1 = (j : Int) by omega]; exact IntWalk.i64_in _ (by omega)
                  have j3 : (0 : Int) ≤ (j : Int) := by omega
                  have j4 : (j : Int) < (m : Int) := by omega
                  by_cases hxy : x < x'
                  · have HX := Lib.hid (bad_age (t := t) HV.out HY.out hxy)
                    have hb' : (decide (x < x')) = true := decide_eq_true hxy
                    go_wp2_with fail
                    go_quiet (fail)
                    go_wp2_with fail
                    go_ret
                    exact ⟨ret_int HX.out.symm, belowN B4.out _⟩
                  · have HM := Lib.hid (HQ.out.more HV.out HP.out HK.out hx0 (HQ.out.last HY.out hxy))
                    have hb' : (decide (x < x')) = false := decide_eq_false hxy
                    go_wp2_with fail
                    go_quiet (fail)
                    go_wp2_with fail
                    go_roundw
                    case rel => exact ⟨j + 2, by omega, by go_num, HM, Lib.hid (belowN B3.out _)⟩
                    case measure => simp [intOf]; omega
        · obtain rfl : m = k := by omega
          have HX := Lib.hid (check_good (t := t) (by omega) (by omega) HU.out HQ.out (by rw [HFL.out]; exact Nat.le_refl _) (by rw [HPL.out]; exact Nat.le_refl _))
          go_wp2_with fail
          go_ret
          exact ⟨ret_int HX.out.symm, B0.out.trans (B1.out.mono B0.out.size)⟩
end Go.Proofs.Ytlldmefjhgahdaa
