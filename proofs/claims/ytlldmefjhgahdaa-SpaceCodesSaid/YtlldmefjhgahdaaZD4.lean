/-
  A part of the proof: what its texts say stands at the head of each. Conditions: none.
-/
import Derived.Deep.RegionHeld3
import Derived.Deep.CutBlock
import Derived.Deep.RegionLaw
import Derived.Deep.AppendLies
import Derived.Laws.AppendOwnNone
import Derived.Deep.QuietTactic
import Derived.BigQuiet
import Derived.Deep.DeepCutAuto
import Derived.Deep.LoopGhost
import Derived.IntWalk
import Derived.Test.YtlldmefjhgahdaaZD1
import Derived.Test.YtlldmefjhgahdaaZD2
import Derived.Test.YtlldmefjhgahdaaZD3

/-
  What the document's own Own comes to: lists in memory of their own.
-/
namespace Go.Proofs.Ytlldmefjhgahdaa
open Go.RowKit

set_option maxRecDepth 20000 in
theorem frInfo : (Try.prog.info? 49).map (fun i => (i.zero, i.size, i.bytes)) = some (some (.agg #[.int .i64 0, .int .i64 0]), 2, 16) := by kernel_rfl

theorem shape_own {w : World} {base n sz : Nat} {e : TypeId} {v : Value} {xs : List Value} (h : w.ownsRow base e sz v n xs) : ∃ A c, v = .slice A n c := by
  obtain ⟨A, c, h1, _⟩ := Ln.of_own h
  exact ⟨A, c, h1⟩

/-- append, as one step of a drawn region, from a list that may be nil. -/
theorem step_append_ln {P : Program} (w : World) {ops : Array Oper} {o : Oper} {a : Act} {K : Act → World → Prop} {Q : Exit → Act → World → Prop} {E : Prop} (hgd : o.guard = none) (s x : Operand) (t : TypeId)
    (ho : o.op = .call { callee := .builtin .append, args := #[s, x], argTypes := #[t, t] })
    (base : Nat) (e : TypeId) (i : TypeInfo) (z : Value) (size bytes : Nat) (ht : P.underlying t = some (.slice e)) (hi : P.info? e = some i) (hz : i.zero = some z)
    (hsize : i.size = size) (hby : i.bytes = bytes) (hzs : z.cells.size = size) (hsz : 0 < size)
    (v : Value) (n : Nat) (xs : List Value) (hs : a.eval s = v) (hown : w.ownsRow base e size v n xs)
    (A : Option Addr) (m c : Nat) (news : List Value) (hx : a.eval x = .slice A m c) (hl : Ln w size A m c news) (h1 : ∀ u ∈ news, u.oneCell' = true)
    (h63 : n + m ≤ maxLen) (hbytes : (n + m) * bytes ≤ 140737488355328) (hbase : base ≤ w.heap.size)
    (h : ∀ A' c' w', w'.ownsRow base e size (.slice A' (n + m) c') (n + m) (xs ++ news) → w.grownBy w' v.ownBlock → K (a.put o.dst (.slice A' (n + m) c')) w') :
    if Region.wanted o (yielded ops a.tmps) = true then Oper.wp P o a w K Q else E := by
  have hw : Region.wanted o (yielded ops a.tmps) = true := by simp [Region.wanted, hgd]
  rw [if_pos hw]
  rcases A with _ | ad
  · obtain ⟨rfl, rfl⟩ := hl.lies.1 rfl
    obtain rfl : news = [] := List.eq_nil_of_length_eq_zero (by have := hl.len; omega)
    have hrun := run_append_owned_none (P := P) (w := w) base t o.type e i size ht hi v n xs hown
    obtain ⟨A', c', rfl⟩ := shape_own hown
    unfold Oper.wp
    simp [execOp, ho, resolve, invoke, builtin, hs, hx, hrun, Result.andThen]
    exact h A' c' w (by simpa using hown) (World.grownBy.refl _ _)
  · refine wp_append_own w s x t ho base e i z size bytes ht hi hz hsize hby hzs hsz v n xs hs hown ad m c news hx hl.len (hl.lies.2 ad rfl) h1 h63 hbytes hbase (fun v' w' h2 h3 _ => ?_)
    obtain ⟨A', c', rfl⟩ := shape_own h2
    exact h A' c' w' h2 h3

theorem own_empty {w : World} {base g sz : Nat} {t : TypeId} (h : w.heap[g]? = some (.cells #[] t (0, 0))) (hb : base ≤ g) : w.ownsRow base t sz (.slice (some ⟨g, 0, none⟩) 0 0) 0 [] :=
  ⟨by simp, .inr ⟨g, 0, #[], rfl, hb, h, Nat.le_refl _, Nat.zero_le _, by simp, by simp⟩⟩
theorem empty_new (w : World) (t : TypeId) : (w.alloc (.cells #[] t)).heap[w.heap.size]? = some (.cells #[] t (0, 0)) := heap_alloc_new w _
theorem own_apart {w w' : World} {base base' n n' : Nat} {e e' : TypeId} {sz sz' : Nat} {v v' : Value} {xs xs' : List Value} (hne : e ≠ e') (h : w.ownsRow base e sz v n xs) (h' : w.ownsRow base' e' sz' v' n' xs') (hg : w.grownBy w' v'.ownBlock) : w'.ownsRow base e sz v n xs := by
  refine h.kept hg ?_
  rcases h.2 with ⟨rfl, _⟩ | ⟨g, cap, cur, rfl, _, hh, _⟩
  · exact Or.inl rfl
  · refine Or.inr (fun hk => ?_)
    rcases h'.2 with ⟨rfl, _⟩ | ⟨g', cap', cur', rfl, _, hh', _⟩
    · cases hk
    · injection hk with hk
      subst hk
      rw [hh] at hh'
      injection hh' with hh'
      injection hh' with _ hh'
      exact hne hh'

/-- Lists in memory of their own. -/
structure OwnS (w : World) (base : Nat) (A : Option Addr) (n c : Nat) (B : Option Addr) (m d : Nat) (s : SS) : Prop where
  fr : w.ownsRow base 3 1 (.slice A n c) n (intVals s.fr)
  pe : w.ownsRow base 49 2 (.slice B m d) m (prVals s.pe)
def OwnEnd (w : World) (s : SS) (n m : Nat) (e : Ending) (w' : World) : Prop :=
  ∃ A c B d, e = .returned (.agg #[.int .i64 s.hi, .slice A n c, .slice B m d]) ∧ OwnS w' w.heap.size A n c B m d s ∧ Below w.heap.size w w'

theorem own_done {w wf : World} {r n c m d : Nat} {h : Int} {A B : Option Addr} {s : SS} {base : Nat} (hb : Below w.heap.size w wf) (hr : w.heap.size ≤ r) (hbase : r < base) (hh : s.hi = h)
    (o1 : wf.ownsRow base 3 1 (.slice A n c) n (intVals s.fr)) (o2 : wf.ownsRow base 49 2 (.slice B m d) m (prVals s.pe)) (x y z : Value) :
    OwnEnd w s n m (.returned (.agg #[.int .i64 h, .slice A n c, .slice B m d])) (((wf.setCell ⟨r, 0, none⟩ x).setCell ⟨r, 1, none⟩ y).setCell ⟨r, 2, none⟩ z) :=
  ⟨A, c, B, d, by rw [hh], ⟨own_base_low (ownsRow_setCell_below (ownsRow_setCell_below (ownsRow_setCell_below o1 hbase _) hbase _) hbase _) (by omega), own_base_low (ownsRow_setCell_below (ownsRow_setCell_below (ownsRow_setCell_below o2 hbase _) hbase _) hbase _) (by omega)⟩, below_put hb hr x y z⟩

set_option maxRecDepth 20000 in
set_option maxHeartbeats 6400000 in
theorem refOwn_any (s : SS) (h : Int) (A B : Option Addr) (n c m d : Nat) (w : World) (hh : s.hi = h) (hs : Sp w A n c B m d s) (hn : n ≤ 400000) (hm : m ≤ 400000) :
    Calls Try.prog 32 #[.agg #[.int .i64 h, .slice A n c, .slice B m d]] w (OwnEnd w s n m) := by
  obtain ⟨i1, hi1, hy0, hy1, hy2⟩ := info_parts intInfo
  obtain ⟨i2, hi2, hz0, hz1, hz2⟩ := info_parts frInfo
  obtain ⟨tb1, tb2, tb3⟩ := two_boxes w (.int .i64 h) (.slice A n c) (.slice B m d) (.int .i64 0) (.slice none 0 0) (.slice none 0 0)
  have HS := Lib.hid (hs.kept tb3)
  have HB := Lib.hid tb1
  have HR := Lib.hid tb2
  have B0 := Lib.hid tb3
  have HH := Lib.hid hh
  clear hs hh tb1 tb2 tb3
  go_enter Try.func32, Try.ntmps32
  go_upto_region 1 with fail
  generalize (w.alloc (.cells #[.int .i64 h, .slice A n c, .slice B m d] 26)).alloc (.cells #[.int .i64 0, .slice none 0 0, .slice none 0 0] 26) = w0 at *
  have BA0 := Lib.hid ((Below.refl w0.heap.size w0).drew)
  have BA1 := Lib.hid ((below_one w0 (.cells #[] 3)).drew)
  have BA2 := Lib.hid ((below_one w0 (.cells #[] 49)).drew)
  have BA12 := Lib.hid ((below_two w0 (.cells #[] 3) (.cells #[] 49)).drew)
  have BA21 := Lib.hid ((below_two w0 (.cells #[] 49) (.cells #[] 3)).drew)
  have hsz1 : (w0.alloc (.cells #[] 3)).heap.size = w0.heap.size + 1 := by simp
  have hsz2 : (w0.alloc (.cells #[] 49)).heap.size = w0.heap.size + 1 := by simp
  have O1 : Hid (((w0.alloc (.cells #[] 3)).drew).ownsRow w0.heap.size 3 1 (.slice (some ⟨w0.heap.size, 0, none⟩) 0 0) 0 []) := Lib.hid (own_empty (empty_new w0 _) (Nat.le_refl _))
  have Q2 : Hid (((w0.alloc (.cells #[] 49)).drew).ownsRow w0.heap.size 49 2 (.slice (some ⟨w0.heap.size, 0, none⟩) 0 0) 0 []) := Lib.hid (own_empty (empty_new w0 _) (Nat.le_refl _))
  have O12 : Hid ((((w0.alloc (.cells #[] 3)).alloc (.cells #[] 49)).drew).ownsRow w0.heap.size 3 1 (.slice (some ⟨w0.heap.size, 0, none⟩) 0 0) 0 []) := Lib.hid (row_below (show (w0.alloc (.cells #[] 3)).ownsRow w0.heap.size 3 1 (.slice (some ⟨w0.heap.size, 0, none⟩) 0 0) 0 [] from O1.out) ((below_one (w0.alloc (.cells #[] 3)) (.cells #[] 49)).drew))
  have Q21 : Hid ((((w0.alloc (.cells #[] 49)).alloc (.cells #[] 3)).drew).ownsRow w0.heap.size 49 2 (.slice (some ⟨w0.heap.size, 0, none⟩) 0 0) 0 []) := Lib.hid (row_below (show (w0.alloc (.cells #[] 49)).ownsRow w0.heap.size 49 2 (.slice (some ⟨w0.heap.size, 0, none⟩) 0 0) 0 [] from Q2.out) ((below_one (w0.alloc (.cells #[] 49)) (.cells #[] 3)).drew))
  have Q12 : Hid ((((w0.alloc (.cells #[] 3)).alloc (.cells #[] 49)).drew).ownsRow w0.heap.size 49 2 (.slice (some ⟨w0.heap.size + 1, 0, none⟩) 0 0) 0 []) := Lib.hid (own_empty (by have := empty_new (w0.alloc (.cells #[] 3)) 49; rw [hsz1] at this; exact this) (Nat.le_succ _))
  have O21 : Hid ((((w0.alloc (.cells #[] 49)).alloc (.cells #[] 3)).drew).ownsRow w0.heap.size 3 1 (.slice (some ⟨w0.heap.size + 1, 0, none⟩) 0 0) 0 []) := Lib.hid (own_empty (by have := empty_new (w0.alloc (.cells #[] 49)) 3; rw [hsz2] at this; exact this) (Nat.le_succ _))
  have KF : Hid (∀ w' : World, Below w0.heap.size w0 w' → w'.cell? ⟨w.heap.size, 0, none⟩ = some (.int .i64 h) ∧ w'.cell? ⟨w.heap.size, 1, none⟩ = some (.slice A n c) ∧ w'.cell? ⟨w.heap.size, 2, none⟩ = some (.slice B m d)) := Lib.hid (fun w' hb => (HB.out.kept hb).cells)
  obtain ⟨x0, x1, x2⟩ := KF.out w0.drew BA0.out
  clear hsz1 hsz2
  go_region_held3 (fun w' => w'.cell? ⟨w.heap.size, 0, none⟩ = some (.int .i64 h) ∧ w'.cell? ⟨w.heap.size, 1, none⟩ = some (.slice A n c) ∧ w'.cell? ⟨w.heap.size, 2, none⟩ = some (.slice B m d))
    (first | exact KF.out _ (by first | exact BA0.out | exact BA1.out | exact BA2.out | exact BA12.out | exact BA21.out | exact BI.out | exact BF.out | exact BI2.out | exact BF2.out | exact BZ.out) | exact K9)
    (first
      | (refine step_append_ln _ (by rfl) _ _ _ (by rfl) w0.heap.size 3 i1 _ 1 8 Try.underlying23 hi1 hy0 hy1 hy2 rfl (by omega) (.slice (some ⟨w0.heap.size, 0, none⟩) 0 0) 0 [] (by rfl) (by first | exact O1.out | exact O12.out | exact O21.out | exact OJ.out | exact OJ2.out) A n c (intVals s.fr) (by rfl) (HS.out.fr.kept (by first | exact BA0.out | exact BA1.out | exact BA2.out | exact BA12.out | exact BA21.out | exact BI.out | exact BF.out | exact BI2.out | exact BF2.out | exact BZ.out)) (intVals_one _) (by unfold maxLen; omega) (by omega) ((by first | exact BA0.out | exact BA1.out | exact BA2.out | exact BA12.out | exact BA21.out | exact BI.out | exact BF.out | exact BI2.out | exact BF2.out | exact BZ.out) : Below w0.heap.size w0 _).size ?_; intro A1 c1 wi oi gi; rw [Nat.zero_add, List.nil_append] at oi; rw [Nat.zero_add]; first | (have hwz := BF.out.size; have BZ := Lib.hid (Below.grown (B := w0.heap.size) (a := w0) (by first | exact BA0.out | exact BA1.out | exact BA2.out | exact BA12.out | exact BA21.out | exact BI.out | exact BF.out | exact BI2.out | exact BF2.out | exact BZ.out) gi (by first | exact BF.out.size | exact BF2.out.size) (by intro k e; have := e; simp [Value.ownBlock] at this; omega)); (first | (have QZ := Lib.hid (own_apart (by decide) of OJ.out gi)) | (have QZ := Lib.hid (own_apart (by decide) (row_below of (below_one wf (.cells #[] 3))) OJ2.out gi))); have OZ := Lib.hid oi; have HRz := Lib.hid (HR.out.kept BZ.out); obtain ⟨q0, q1, q2⟩ := HRz.out.cells; obtain ⟨f0, f1, f2⟩ := HRz.out.free; have KZ := KF.out wi BZ.out; have hlr := HR.out.lt; have PU := But.put wi (w.heap.size + 1) (.int .i64 h) (.slice A1 n c1) (.slice B1 m d1); have K9 := (show _ ∧ _ ∧ _ from ⟨(PU.cell (k := w.heap.size) (by omega) 0).trans KZ.1, (PU.cell (k := w.heap.size) (by omega) 1).trans KZ.2.1, (PU.cell (k := w.heap.size) (by omega) 2).trans KZ.2.2⟩); have HD := Lib.hid (own_done (s := s) (h := h) (B0.out.trans (BZ.out.mono B0.out.size)) (Nat.le_add_right w.heap.size 1) hlr HH.out OZ.out QZ.out (.int .i64 h) (.slice A1 n c1) (.slice B1 m d1)); have HQz := Lib.hid (HRz.out.put (.int .i64 h) (.slice A1 n c1) (.slice B1 m d1)); clear PU KZ hlr hwz) | (have BI := Lib.hid (Below.grown (B := w0.heap.size) (a := w0) (by first | exact BA0.out | exact BA1.out | exact BA2.out | exact BA12.out | exact BA21.out | exact BI.out | exact BF.out | exact BI2.out | exact BF2.out | exact BZ.out) gi ((by first | exact BA0.out | exact BA1.out | exact BA2.out | exact BA12.out | exact BA21.out | exact BI.out | exact BF.out | exact BI2.out | exact BF2.out | exact BZ.out) : Below w0.heap.size w0 _).size (by intro k e; have := e; simp [Value.ownBlock] at this; omega)); have BI2 := Lib.hid (BI.out.alloc BI.out.size (.cells #[] 49)); have QJ2 := Lib.hid (own_empty (base := w0.heap.size) (sz := 2) (empty_new wi 49) BI.out.size); first | (have QJ := Lib.hid (Q12.out.kept gi (Or.inr (by simp [Value.ownBlock])))) | (have QJ := Lib.hid (Q21.out.kept gi (Or.inr (by simp [Value.ownBlock])))) | skip))
      | (refine step_append_ln _ (by rfl) _ _ _ (by rfl) w0.heap.size 3 i1 _ 1 8 Try.underlying23 hi1 hy0 hy1 hy2 rfl (by omega) (.slice (some ⟨w0.heap.size + 1, 0, none⟩) 0 0) 0 [] (by rfl) (by first | exact O1.out | exact O12.out | exact O21.out | exact OJ.out | exact OJ2.out) A n c (intVals s.fr) (by rfl) (HS.out.fr.kept (by first | exact BA0.out | exact BA1.out | exact BA2.out | exact BA12.out | exact BA21.out | exact BI.out | exact BF.out | exact BI2.out | exact BF2.out | exact BZ.out)) (intVals_one _) (by unfold maxLen; omega) (by omega) ((by first | exact BA0.out | exact BA1.out | exact BA2.out | exact BA12.out | exact BA21.out | exact BI.out | exact BF.out | exact BI2.out | exact BF2.out | exact BZ.out) : Below w0.heap.size w0 _).size ?_; intro A1 c1 wi oi gi; rw [Nat.zero_add, List.nil_append] at oi; rw [Nat.zero_add]; first | (have hwz := BF.out.size; have BZ := Lib.hid (Below.grown (B := w0.heap.size) (a := w0) (by first | exact BA0.out | exact BA1.out | exact BA2.out | exact BA12.out | exact BA21.out | exact BI.out | exact BF.out | exact BI2.out | exact BF2.out | exact BZ.out) gi (by first | exact BF.out.size | exact BF2.out.size) (by intro k e; have := e; simp [Value.ownBlock] at this; omega)); (first | (have QZ := Lib.hid (own_apart (by decide) of OJ.out gi)) | (have QZ := Lib.hid (own_apart (by decide) (row_below of (below_one wf (.cells #[] 3))) OJ2.out gi))); have OZ := Lib.hid oi; have HRz := Lib.hid (HR.out.kept BZ.out); obtain ⟨q0, q1, q2⟩ := HRz.out.cells; obtain ⟨f0, f1, f2⟩ := HRz.out.free; have KZ := KF.out wi BZ.out; have hlr := HR.out.lt; have PU := But.put wi (w.heap.size + 1) (.int .i64 h) (.slice A1 n c1) (.slice B1 m d1); have K9 := (show _ ∧ _ ∧ _ from ⟨(PU.cell (k := w.heap.size) (by omega) 0).trans KZ.1, (PU.cell (k := w.heap.size) (by omega) 1).trans KZ.2.1, (PU.cell (k := w.heap.size) (by omega) 2).trans KZ.2.2⟩); have HD := Lib.hid (own_done (s := s) (h := h) (B0.out.trans (BZ.out.mono B0.out.size)) (Nat.le_add_right w.heap.size 1) hlr HH.out OZ.out QZ.out (.int .i64 h) (.slice A1 n c1) (.slice B1 m d1)); have HQz := Lib.hid (HRz.out.put (.int .i64 h) (.slice A1 n c1) (.slice B1 m d1)); clear PU KZ hlr hwz) | (have BI := Lib.hid (Below.grown (B := w0.heap.size) (a := w0) (by first | exact BA0.out | exact BA1.out | exact BA2.out | exact BA12.out | exact BA21.out | exact BI.out | exact BF.out | exact BI2.out | exact BF2.out | exact BZ.out) gi ((by first | exact BA0.out | exact BA1.out | exact BA2.out | exact BA12.out | exact BA21.out | exact BI.out | exact BF.out | exact BI2.out | exact BF2.out | exact BZ.out) : Below w0.heap.size w0 _).size (by intro k e; have := e; simp [Value.ownBlock] at this; omega)); have BI2 := Lib.hid (BI.out.alloc BI.out.size (.cells #[] 49)); have QJ2 := Lib.hid (own_empty (base := w0.heap.size) (sz := 2) (empty_new wi 49) BI.out.size); first | (have QJ := Lib.hid (Q12.out.kept gi (Or.inr (by simp [Value.ownBlock])))) | (have QJ := Lib.hid (Q21.out.kept gi (Or.inr (by simp [Value.ownBlock])))) | skip))
      | (refine step_append_ln _ (by rfl) _ _ _ (by rfl) w0.heap.size 3 i1 _ 1 8 Try.underlying23 hi1 hy0 hy1 hy2 rfl (by omega) (.slice (some ⟨wf.heap.size, 0, none⟩) 0 0) 0 [] (by rfl) (by first | exact O1.out | exact O12.out | exact O21.out | exact OJ.out | exact OJ2.out) A n c (intVals s.fr) (by rfl) (HS.out.fr.kept (by first | exact BA0.out | exact BA1.out | exact BA2.out | exact BA12.out | exact BA21.out | exact BI.out | exact BF.out | exact BI2.out | exact BF2.out | exact BZ.out)) (intVals_one _) (by unfold maxLen; omega) (by omega) ((by first | exact BA0.out | exact BA1.out | exact BA2.out | exact BA12.out | exact BA21.out | exact BI.out | exact BF.out | exact BI2.out | exact BF2.out | exact BZ.out) : Below w0.heap.size w0 _).size ?_; intro A1 c1 wi oi gi; rw [Nat.zero_add, List.nil_append] at oi; rw [Nat.zero_add]; first | (have hwz := BF.out.size; have BZ := Lib.hid (Below.grown (B := w0.heap.size) (a := w0) (by first | exact BA0.out | exact BA1.out | exact BA2.out | exact BA12.out | exact BA21.out | exact BI.out | exact BF.out | exact BI2.out | exact BF2.out | exact BZ.out) gi (by first | exact BF.out.size | exact BF2.out.size) (by intro k e; have := e; simp [Value.ownBlock] at this; omega)); (first | (have QZ := Lib.hid (own_apart (by decide) of OJ.out gi)) | (have QZ := Lib.hid (own_apart (by decide) (row_below of (below_one wf (.cells #[] 3))) OJ2.out gi))); have OZ := Lib.hid oi; have HRz := Lib.hid (HR.out.kept BZ.out); obtain ⟨q0, q1, q2⟩ := HRz.out.cells; obtain ⟨f0, f1, f2⟩ := HRz.out.free; have KZ := KF.out wi BZ.out; have hlr := HR.out.lt; have PU := But.put wi (w.heap.size + 1) (.int .i64 h) (.slice A1 n c1) (.slice B1 m d1); have K9 := (show _ ∧ _ ∧ _ from ⟨(PU.cell (k := w.heap.size) (by omega) 0).trans KZ.1, (PU.cell (k := w.heap.size) (by omega) 1).trans KZ.2.1, (PU.cell (k := w.heap.size) (by omega) 2).trans KZ.2.2⟩); have HD := Lib.hid (own_done (s := s) (h := h) (B0.out.trans (BZ.out.mono B0.out.size)) (Nat.le_add_right w.heap.size 1) hlr HH.out OZ.out QZ.out (.int .i64 h) (.slice A1 n c1) (.slice B1 m d1)); have HQz := Lib.hid (HRz.out.put (.int .i64 h) (.slice A1 n c1) (.slice B1 m d1)); clear PU KZ hlr hwz) | (have BI := Lib.hid (Below.grown (B := w0.heap.size) (a := w0) (by first | exact BA0.out | exact BA1.out | exact BA2.out | exact BA12.out | exact BA21.out | exact BI.out | exact BF.out | exact BI2.out | exact BF2.out | exact BZ.out) gi ((by first | exact BA0.out | exact BA1.out | exact BA2.out | exact BA12.out | exact BA21.out | exact BI.out | exact BF.out | exact BI2.out | exact BF2.out | exact BZ.out) : Below w0.heap.size w0 _).size (by intro k e; have := e; simp [Value.ownBlock] at this; omega)); have BI2 := Lib.hid (BI.out.alloc BI.out.size (.cells #[] 49)); have QJ2 := Lib.hid (own_empty (base := w0.heap.size) (sz := 2) (empty_new wi 49) BI.out.size); first | (have QJ := Lib.hid (Q12.out.kept gi (Or.inr (by simp [Value.ownBlock])))) | (have QJ := Lib.hid (Q21.out.kept gi (Or.inr (by simp [Value.ownBlock])))) | skip))
      | (refine step_append_ln _ (by rfl) _ _ _ (by rfl) w0.heap.size 49 i2 _ 2 16 Try.underlying24 hi2 hz0 hz1 hz2 rfl (by omega) (.slice (some ⟨w0.heap.size, 0, none⟩) 0 0) 0 [] (by rfl) (by first | exact Q2.out | exact Q12.out | exact Q21.out | exact QJ.out | exact QJ2.out) B m d (prVals s.pe) (by rfl) (HS.out.pe.kept (by first | exact BA0.out | exact BA1.out | exact BA2.out | exact BA12.out | exact BA21.out | exact BI.out | exact BF.out | exact BI2.out | exact BF2.out | exact BZ.out)) (prVals_one _) (by unfold maxLen; omega) (by omega) ((by first | exact BA0.out | exact BA1.out | exact BA2.out | exact BA12.out | exact BA21.out | exact BI.out | exact BF.out | exact BI2.out | exact BF2.out | exact BZ.out) : Below w0.heap.size w0 _).size ?_; intro B1 d1 wf of gf; rw [Nat.zero_add, List.nil_append] at of; rw [Nat.zero_add]; first | (have hwz := BI.out.size; have BZ := Lib.hid (Below.grown (B := w0.heap.size) (a := w0) (by first | exact BA0.out | exact BA1.out | exact BA2.out | exact BA12.out | exact BA21.out | exact BI.out | exact BF.out | exact BI2.out | exact BF2.out | exact BZ.out) gf (by first | exact BI.out.size | exact BI2.out.size) (by intro k e; have := e; simp [Value.ownBlock] at this; omega)); (first | (have OZ := Lib.hid (own_apart (by decide) oi QJ.out gf)) | (have OZ := Lib.hid (own_apart (by decide) (row_below oi (below_one wi (.cells #[] 49))) QJ2.out gf))); have QZ := Lib.hid of; have HRz := Lib.hid (HR.out.kept BZ.out); obtain ⟨q0, q1, q2⟩ := HRz.out.cells; obtain ⟨f0, f1, f2⟩ := HRz.out.free; have KZ := KF.out wf BZ.out; have hlr := HR.out.lt; have PU := But.put wf (w.heap.size + 1) (.int .i64 h) (.slice A1 n c1) (.slice B1 m d1); have K9 := (show _ ∧ _ ∧ _ from ⟨(PU.cell (k := w.heap.size) (by omega) 0).trans KZ.1, (PU.cell (k := w.heap.size) (by omega) 1).trans KZ.2.1, (PU.cell (k := w.heap.size) (by omega) 2).trans KZ.2.2⟩); have HD := Lib.hid (own_done (s := s) (h := h) (B0.out.trans (BZ.out.mono B0.out.size)) (Nat.le_add_right w.heap.size 1) hlr HH.out OZ.out QZ.out (.int .i64 h) (.slice A1 n c1) (.slice B1 m d1)); have HQz := Lib.hid (HRz.out.put (.int .i64 h) (.slice A1 n c1) (.slice B1 m d1)); clear PU KZ hlr hwz) | (have BF := Lib.hid (Below.grown (B := w0.heap.size) (a := w0) (by first | exact BA0.out | exact BA1.out | exact BA2.out | exact BA12.out | exact BA21.out | exact BI.out | exact BF.out | exact BI2.out | exact BF2.out | exact BZ.out) gf ((by first | exact BA0.out | exact BA1.out | exact BA2.out | exact BA12.out | exact BA21.out | exact BI.out | exact BF.out | exact BI2.out | exact BF2.out | exact BZ.out) : Below w0.heap.size w0 _).size (by intro k e; have := e; simp [Value.ownBlock] at this; omega)); have BF2 := Lib.hid (BF.out.alloc BF.out.size (.cells #[] 3)); have OJ2 := Lib.hid (own_empty (base := w0.heap.size) (sz := 1) (empty_new wf 3) BF.out.size); first | (have OJ := Lib.hid (O12.out.kept gf (Or.inr (by simp [Value.ownBlock])))) | (have OJ := Lib.hid (O21.out.kept gf (Or.inr (by simp [Value.ownBlock])))) | skip))
      | (refine step_append_ln _ (by rfl) _ _ _ (by rfl) w0.heap.size 49 i2 _ 2 16 Try.underlying24 hi2 hz0 hz1 hz2 rfl (by omega) (.slice (some ⟨w0.heap.size + 1, 0, none⟩) 0 0) 0 [] (by rfl) (by first | exact Q2.out | exact Q12.out | exact Q21.out | exact QJ.out | exact QJ2.out) B m d (prVals s.pe) (by rfl) (HS.out.pe.kept (by first | exact BA0.out | exact BA1.out | exact BA2.out | exact BA12.out | exact BA21.out | exact BI.out | exact BF.out | exact BI2.out | exact BF2.out | exact BZ.out)) (prVals_one _) (by unfold maxLen; omega) (by omega) ((by first | exact BA0.out | exact BA1.out | exact BA2.out | exact BA12.out | exact BA21.out | exact BI.out | exact BF.out | exact BI2.out | exact BF2.out | exact BZ.out) : Below w0.heap.size w0 _).size ?_; intro B1 d1 wf of gf; rw [Nat.zero_add, List.nil_append] at of; rw [Nat.zero_add]; first | (have hwz := BI.out.size; have BZ := Lib.hid (Below.grown (B := w0.heap.size) (a := w0) (by first | exact BA0.out | exact BA1.out | exact BA2.out | exact BA12.out | exact BA21.out | exact BI.out | exact BF.out | exact BI2.out | exact BF2.out | exact BZ.out) gf (by first | exact BI.out.size | exact BI2.out.size) (by intro k e; have := e; simp [Value.ownBlock] at this; omega)); (first | (have OZ := Lib.hid (own_apart (by decide) oi QJ.out gf)) | (have OZ := Lib.hid (own_apart (by decide) (row_below oi (below_one wi (.cells #[] 49))) QJ2.out gf))); have QZ := Lib.hid of; have HRz := Lib.hid (HR.out.kept BZ.out); obtain ⟨q0, q1, q2⟩ := HRz.out.cells; obtain ⟨f0, f1, f2⟩ := HRz.out.free; have KZ := KF.out wf BZ.out; have hlr := HR.out.lt; have PU := But.put wf (w.heap.size + 1) (.int .i64 h) (.slice A1 n c1) (.slice B1 m d1); have K9 := (show _ ∧ _ ∧ _ from ⟨(PU.cell (k := w.heap.size) (by omega) 0).trans KZ.1, (PU.cell (k := w.heap.size) (by omega) 1).trans KZ.2.1, (PU.cell (k := w.heap.size) (by omega) 2).trans KZ.2.2⟩); have HD := Lib.hid (own_done (s := s) (h := h) (B0.out.trans (BZ.out.mono B0.out.size)) (Nat.le_add_right w.heap.size 1) hlr HH.out OZ.out QZ.out (.int .i64 h) (.slice A1 n c1) (.slice B1 m d1)); have HQz := Lib.hid (HRz.out.put (.int .i64 h) (.slice A1 n c1) (.slice B1 m d1)); clear PU KZ hlr hwz) | (have BF := Lib.hid (Below.grown (B := w0.heap.size) (a := w0) (by first | exact BA0.out | exact BA1.out | exact BA2.out | exact BA12.out | exact BA21.out | exact BI.out | exact BF.out | exact BI2.out | exact BF2.out | exact BZ.out) gf ((by first | exact BA0.out | exact BA1.out | exact BA2.out | exact BA12.out | exact BA21.out | exact BI.out | exact BF.out | exact BI2.out | exact BF2.out | exact BZ.out) : Below w0.heap.size w0 _).size (by intro k e; have := e; simp [Value.ownBlock] at this; omega)); have BF2 := Lib.hid (BF.out.alloc BF.out.size (.cells #[] 3)); have OJ2 := Lib.hid (own_empty (base := w0.heap.size) (sz := 1) (empty_new wf 3) BF.out.size); first | (have OJ := Lib.hid (O12.out.kept gf (Or.inr (by simp [Value.ownBlock])))) | (have OJ := Lib.hid (O21.out.kept gf (Or.inr (by simp [Value.ownBlock])))) | skip))
      | (refine step_append_ln _ (by rfl) _ _ _ (by rfl) w0.heap.size 49 i2 _ 2 16 Try.underlying24 hi2 hz0 hz1 hz2 rfl (by omega) (.slice (some ⟨wi.heap.size, 0, none⟩) 0 0) 0 [] (by rfl) (by first | exact Q2.out | exact Q12.out | exact Q21.out | exact QJ.out | exact QJ2.out) B m d (prVals s.pe) (by rfl) (HS.out.pe.kept (by first | exact BA0.out | exact BA1.out | exact BA2.out | exact BA12.out | exact BA21.out | exact BI.out | exact BF.out | exact BI2.out | exact BF2.out | exact BZ.out)) (prVals_one _) (by unfold maxLen; omega) (by omega) ((by first | exact BA0.out | exact BA1.out | exact BA2.out | exact BA12.out | exact BA21.out | exact BI.out | exact BF.out | exact BI2.out | exact BF2.out | exact BZ.out) : Below w0.heap.size w0 _).size ?_; intro B1 d1 wf of gf; rw [Nat.zero_add, List.nil_append] at of; rw [Nat.zero_add]; first | (have hwz := BI.out.size; have BZ := Lib.hid (Below.grown (B := w0.heap.size) (a := w0) (by first | exact BA0.out | exact BA1.out | exact BA2.out | exact BA12.out | exact BA21.out | exact BI.out | exact BF.out | exact BI2.out | exact BF2.out | exact BZ.out) gf (by first | exact BI.out.size | exact BI2.out.size) (by intro k e; have := e; simp [Value.ownBlock] at this; omega)); (first | (have OZ := Lib.hid (own_apart (by decide) oi QJ.out gf)) | (have OZ := Lib.hid (own_apart (by decide) (row_below oi (below_one wi (.cells #[] 49))) QJ2.out gf))); have QZ := Lib.hid of; have HRz := Lib.hid (HR.out.kept BZ.out); obtain ⟨q0, q1, q2⟩ := HRz.out.cells; obtain ⟨f0, f1, f2⟩ := HRz.out.free; have KZ := KF.out wf BZ.out; have hlr := HR.out.lt; have PU := But.put wf (w.heap.size + 1) (.int .i64 h) (.slice A1 n c1) (.slice B1 m d1); have K9 := (show _ ∧ _ ∧ _ from ⟨(PU.cell (k := w.heap.size) (by omega) 0).trans KZ.1, (PU.cell (k := w.heap.size) (by omega) 1).trans KZ.2.1, (PU.cell (k := w.heap.size) (by omega) 2).trans KZ.2.2⟩); have HD := Lib.hid (own_done (s := s) (h := h) (B0.out.trans (BZ.out.mono B0.out.size)) (Nat.le_add_right w.heap.size 1) hlr HH.out OZ.out QZ.out (.int .i64 h) (.slice A1 n c1) (.slice B1 m d1)); have HQz := Lib.hid (HRz.out.put (.int .i64 h) (.slice A1 n c1) (.slice B1 m d1)); clear PU KZ hlr hwz) | (have BF := Lib.hid (Below.grown (B := w0.heap.size) (a := w0) (by first | exact BA0.out | exact BA1.out | exact BA2.out | exact BA12.out | exact BA21.out | exact BI.out | exact BF.out | exact BI2.out | exact BF2.out | exact BZ.out) gf ((by first | exact BA0.out | exact BA1.out | exact BA2.out | exact BA12.out | exact BA21.out | exact BI.out | exact BF.out | exact BI2.out | exact BF2.out | exact BZ.out) : Below w0.heap.size w0 _).size (by intro k e; have := e; simp [Value.ownBlock] at this; omega)); have BF2 := Lib.hid (BF.out.alloc BF.out.size (.cells #[] 3)); have OJ2 := Lib.hid (own_empty (base := w0.heap.size) (sz := 1) (empty_new wf 3) BF.out.size); first | (have OJ := Lib.hid (O12.out.kept gf (Or.inr (by simp [Value.ownBlock])))) | (have OJ := Lib.hid (O21.out.kept gf (Or.inr (by simp [Value.ownBlock])))) | skip))
      | fail)
  all_goals (
    obtain ⟨e0, e1, e2⟩ := HQz.out.cells
    go_wp2_with fail
    refine bodyPost_ret (v := .agg #[.int .i64 h, .slice A1 n c1, .slice B1 m d1]) (by simp [results, Try.results32, go_sem, e0, e1, e2]) rfl ?_
    exact HD.out)
end Go.Proofs.Ytlldmefjhgahdaa

/-
  A block of pages' lists that a function makes for itself, and the lists of its own in it.
-/
namespace Go.Proofs.Ytlldmefjhgahdaa
open Go.RowKit

theorem t_box (w : World) (x y z x' y' z' : Value) : Box ((((w.alloc (.cells #[x, y, z] 26)).setCell ⟨w.heap.size, 0, none⟩ x').setCell ⟨w.heap.size, 1, none⟩ y').setCell ⟨w.heap.size, 2, none⟩ z') w.heap.size x' y' z' ∧
    Below w.heap.size w ((((w.alloc (.cells #[x, y, z] 26)).setCell ⟨w.heap.size, 0, none⟩ x').setCell ⟨w.heap.size, 1, none⟩ y').setCell ⟨w.heap.size, 2, none⟩ z') :=
  ⟨(box_new w x y z).put x' y' z', below_put (below_one w _) (Nat.le_refl _) _ _ _⟩

theorem ln_own {w : World} {base sz n c : Nat} {e : TypeId} {A : Option Addr} {cs : List Value} (h : w.ownsRow base e sz (.slice A n c) n cs) : Ln w sz A n c cs := by
  obtain ⟨A1, c1, e1, _, l⟩ := Ln.of_own h
  cases e1
  exact l
section
variable {w : World} {base n c m d : Nat} {A B : Option Addr} {s : SS}
theorem OwnS.hiA (h : OwnS w base A n c B m d s) : Hi base A := Hi.of_own h.fr
theorem OwnS.hiB (h : OwnS w base A n c B m d s) : Hi base B := Hi.of_own h.pe
theorem OwnS.sp (h : OwnS w base A n c B m d s) : Sp w A n c B m d s := by
  obtain ⟨A1, c1, e, _, l⟩ := Ln.of_own h.fr
  obtain ⟨B1, d1, e', _, l'⟩ := Ln.of_own h.pe
  cases e
  cases e'
  exact ⟨l, l'⟩
end
theorem grown_set (w : World) (g j : Nat) (u : Value) : w.grownBy (w.setCell ⟨g, j, none⟩ u) (some g) :=
  ⟨rfl, rfl, rfl, Nat.le_of_eq (by simp [World.setCell]), fun k _ hk => Below.heap_setCell _ _ _ k (fun e => hk (by rw [e]))⟩
section
variable {w w' : World} {base g n sz : Nat} {e : TypeId} {v x y z : Value} {xs : List Value}
/-- No list of its own lies in such a block, unless its elements are such. -/
theorem Box.not_own (hb : Box w g x y z) (h : w.ownsRow base e sz v n xs) (hne : e ≠ 26) : some g ≠ v.ownBlock := by
  rcases h.2 with ⟨rfl, _⟩ | ⟨g', cap, cur, rfl, _, hh, _⟩
  · simp [Value.ownBlock]
  · intro e1
    obtain rfl : g = g' := by simpa [Value.ownBlock] using e1
    have := (show w.heap[g]? = _ from hb).symm.trans hh
    simp at this
    exact hne this.2.symm
theorem Box.grown (hb : Box w g x y z) (h : w.ownsRow base e sz v n xs) (hne : e ≠ 26) (hg : w.grownBy w' v.ownBlock) : Box w' g x y z := (hg.block g hb.lt (hb.not_own h hne)).trans hb
theorem own_set (h : w.ownsRow base e sz v n xs) (hb : Box w g x y z) (hne : e ≠ 26) (j : Nat) (u : Value) : (w.setCell ⟨g, j, none⟩ u).ownsRow base e sz v n xs :=
  h.kept (grown_set w g j u) (Or.inr (fun e1 => hb.not_own h hne e1.symm))
end
/-- A list that lies from base on, but below top. -/
theorem ln_lt {w : World} {sz n c : Nat} {b off : Nat} {cs : List Value} (h : Ln w sz (some ⟨b, off, none⟩) n c cs) (hn : 0 < cs.length) : b < w.heap.size := by
  obtain ⟨b', off', e, hb⟩ := h.spot hn
  cases e
  exact hb
end Go.Proofs.Ytlldmefjhgahdaa

/-
  What the document's own Read comes to (package tailraceref05).
-/
namespace Go.Proofs.Ytlldmefjhgahdaa
open Go.RowKit

/-- What it holds while the place k is to come. -/
def RRel (w : World) (n : Nat) (l : List UInt8) (g : Nat) (v i : Value) (wr : World) : Prop :=
  ∃ (k : Nat) (ys : List Int), i = .int .i64 k ∧ k + g = n ∧ k % 4 = 0 ∧ 4 * ys.length = k ∧ Hid (Rds l ys (l.drop k)) ∧ Hid (OwnI wr w.heap.size v ys) ∧ Hid (Below w.heap.size w wr)

theorem wrap64_small {n : Int} (h0 : -9223372036854775808 ≤ n) (h1 : n ≤ 9223372036854775807) : wrap64 n = n := by
  unfold wrap64
  omega

theorem sum_spell (x y z u : UInt8) : wrap64 (wrap64 (wrap64 (wrap64 (wrap64 (x.toNat : Int) * 16777216) + wrap64 (wrap64 (y.toNat : Int) * 65536)) + wrap64 (wrap64 (z.toNat : Int) * 256)) + wrap64 (u.toNat : Int)) = ((num4 x y z u : Nat) : Int) := by
  have := byte_lt x
  have := byte_lt y
  have := byte_lt z
  have := byte_lt u
  rw [wrap64_small (n := (x.toNat : Int)) (by omega) (by omega), wrap64_small (n := (y.toNat : Int)) (by omega) (by omega), wrap64_small (n := (z.toNat : Int)) (by omega) (by omega), wrap64_small (n := (u.toNat : Int)) (by omega) (by omega),
    wrap64_small (n := (x.toNat : Int) * 16777216) (by omega) (by omega), wrap64_small (n := (y.toNat : Int) * 65536) (by omega) (by omega), wrap64_small (n := (z.toNat : Int) * 256) (by omega) (by omega),
    wrap64_small (n := (x.toNat : Int) * 16777216 + (y.toNat : Int) * 65536) (by omega) (by omega), wrap64_small (n := (x.toNat : Int) * 16777216 + (y.toNat : Int) * 65536 + (z.toNat : Int) * 256) (by omega) (by omega),
    wrap64_small (n := (x.toNat : Int) * 16777216 + (y.toNat : Int) * 65536 + (z.toNat : Int) * 256 + (u.toNat : Int)) (by omega) (by omega)]
  unfold num4
  omega

set_option maxRecDepth 20000 in
theorem RRel.next {w wr w3 : World} {n k g q : Nat} {l : List UInt8} {u4 v3 : Value} {ys : List Int} {T : TypeId} {C : Array Value} (hkg : k + g = n) (hlt : k + 4 ≤ n) (h4 : k % 4 = 0) (hyk : 4 * ys.length = k)
    (hs : Rds l (ys ++ [(q : Int)]) (l.drop (k + 4))) (o1 : wr.ownsRow w.heap.size 3 1 u4 ys.length (intVals ys)) (HW : Below w.heap.size w wr)
    (hown3 : w3.ownsRow w.heap.size 3 1 v3 (ys.length + 1) (intVals ys ++ [.int .i64 (q : Int)])) (hg3 : (wr.alloc (.cells C T)).grownBy w3 u4.ownBlock) : RRel w n l (g - 4) v3 (.int .i64 ((k : Int) + 4)) w3 := by
  have bs := HW.size
  refine ⟨k + 4, ys ++ [(q : Int)], by go_num, by omega, by omega, ?_, hs, ?_, ?_⟩
  · rw [List.length_append, List.length_singleton]
    omega
  · show w3.ownsRow _ _ _ _ _ _
    rw [List.length_append, intVals_append]
    exact hown3
  · exact (HW.alloc bs _).grown hg3 (by simp; omega) (fun g hg => (o1.lt g hg).1)

set_option maxRecDepth 20000 in
set_option maxHeartbeats 3200000 in
theorem frefRead_any {R : Nat} (A : Option Addr) (n c : Nat) (l : List UInt8) (w : World) (hl : l.length = n) (hr : Bys w R A l) (hn : n ≤ 1000000) :
    Calls Try.prog 47 #[.slice A n c] w (FReadEnd w l) := by
  by_cases h4 : n % 4 = 0
  · obtain ⟨i0, hi, hz0, hz1, hz2⟩ := info_parts intInfo
    have hm : ((n : Int) % 4 != 0) = false := by
      simp
      omega
    have HS : Hid (Rds l [] (l.drop 0)) := Lib.hid (Rds.start l)
    have HR := Lib.hid hr
    have HL := Lib.hid hl
    clear hr
    go_enter Try.func47, Try.ntmps47
    go_wp2_with fail
    go_loopg [4, 5] n (fun g v i wr => RRel w n l g v i wr)
    case atStart => exact ⟨0, [], rfl, by omega, rfl, rfl, HS, Lib.hid (ownI_nil _ _), Lib.hid (Below.refl _ _)⟩
    case round =>
      obtain ⟨k, ys, rfl, hkg, hk4, hyk, HD, HO, HW⟩ := hrel
      by_cases hlt : k < n
      · obtain ⟨x, y, z, u, ex, ey, ez, eu, ed⟩ := four_of (l := l) (k := k) (by omega)
        obtain ⟨b, off, rfl, _, hc⟩ := (HR.out.kept HW.out).resolve_left (fun e => by rw [e] at hl; simp at hl; omega)
        have cx := hc k x ex
        have cy := hc (k + 1) y ey
        have cz := hc (k + 2) z ez
        have cu := hc (k + 3) u eu
        have j0 : (0 : Int) ≤ (k : Int) := by omega
        have j1 : (k : Int) + 1 < (n : Int) := by omega
        have j2 : (k : Int) + 2 < (n : Int) := by omega
        have j3 : (k : Int) + 3 < (n : Int) := by omega
        have j4 : (0 : Int) ≤ (k : Int) + 1 := by omega
        have j5 : (0 : Int) ≤ (k : Int) + 2 := by omega
        have j6 : (0 : Int) ≤ (k : Int) + 3 := by omega
        rw [ed] at HD
        clear ex ey ez eu ed hc
        go_wp2_with fail
        go_quiet (fail)
        rw [sum_spell]
        have HW2 := Lib.hid (belowN HW.out nq)
        have o1 : (wr.drewN nq).ownsRow w.heap.size 3 1 u4 ys.length (intVals ys) := HO.out
        clear HW HO cx cy cz cu j0 j1 j2 j3 j4 j5 j6
        generalize wr.drewN nq = wq at *
        have HLT := Lib.hid (num4_lt x y z u)
        have bs := HW2.out.size
        by_cases hle : num4 x y z u ≤ 2147483647
        · have HS2 := Lib.hid (HD.out.step hle)
          generalize num4 x y z u = q at *
          go_wp2_with (at_builtin; refine wpList_append_own _ rfl (.tmp 48) (.tmp 50) 23 rfl w.heap.size 3 i0 (.int .i64 0) 1 8 Try.underlying23 hi hz0 hz1 hz2 rfl (by decide) _ _ _ rfl (o1.alloc _) ⟨wq.heap.size, 0, none⟩ 1 1 [.int .i64 (q : Int)] rfl rfl (cell_one_new _ _ _) (by simp [Value.oneCell']) (by unfold maxLen; omega) (by omega) (by simp; omega) ?_; intro v3 w3 hown3 hg3 _)
          have HM := Lib.hid (RRel.next (w3 := w3) hkg (by omega) hk4 hyk HS2.out o1 HW2.out hown3 hg3)
          clear hown3 hg3 o1
          go_roundg (gk - 4)
          case measure => omega
          case rel => exact HM.out
        · have HP := Lib.hid (read_bad (HD.out.bad hle) HW2.out)
          generalize num4 x y z u = q at *
          go_wp2_with fail
          go_ret2
          exact HP.out
      · obtain rfl : k = n := by omega
        have hD := HD.out
        rw [List.drop_of_length_le (by rw [HL.out]; omega)] at hD
        have HP := Lib.hid (read_good hD.done HW.out HO.out)
        clear hD
        go_wp2_with fail
        go_ret2
        exact HP.out
  · have HP := Lib.hid (read_bad (w := w) (w' := w) (rd_bad l (by rw [hl]; exact h4)) (Below.refl _ _))
    have hm : ¬ ((n : Int) % 4 = 0) := by omega
    clear h4 hl hr
    go_enter Try.func47, Try.ntmps47
    go_wp2_with fail
    go_ret2
    exact HP.out
end Go.Proofs.Ytlldmefjhgahdaa

/-
  The document's way to read pages' lists out of parts: what its tests say of the numbers; what is held while pairs are read.
-/
namespace Go.Proofs.Ytlldmefjhgahdaa
open Go.RowKit

theorem rds_snoc {p : List UInt8} {x : List Int} (hp : rd p = some x) : ∀ {qs : List (List UInt8)} {l : List Int}, SS.rds qs = some l → SS.rds (qs ++ [p]) = some (l ++ x)
  | [], l, h => by
    obtain rfl := Option.some.inj h
    unfold SS.rds
    simp only [List.nil_append]
    rw [hp]
    simp [SS.rds]
  | q :: qs, l, h => by
    unfold SS.rds at h
    split at h
    · cases h
    · rename_i y hy
      obtain ⟨z, hz, rfl⟩ := Option.map_eq_some_iff.1 h
      rw [List.cons_append]
      unfold SS.rds
      rw [hy]
      simp only
      rw [rds_snoc hp hz]
      simp
theorem rds_none {p : List UInt8} (hp : rd p = none) : ∀ {qs : List (List UInt8)}, p ∈ qs → SS.rds qs = none
  | [], h => by simp at h
  | q :: qs, h => by
    unfold SS.rds
    rcases List.mem_cons.1 h with rfl | h
    · rw [hp]
    · cases hq : rd q with
      | none => rfl
      | some y =>
        simp only
        rw [rds_none hp h]
        rfl
theorem dec_pnone {ps : List (List UInt8)} {l : List Int} (h : SS.rds ps = some l) (hp : SS.parse l = none) : SS.dec ps = none := by
  rw [SS.dec_rds h, hp]
theorem dec_psome {ps : List (List UInt8)} {l : List Int} {s : SS} (h : SS.rds ps = some l) (hp : SS.parse l = some s) : SS.dec ps = if s.check SS.topN = 0 ∧ s.enc = ps then some s else none := by
  rw [SS.dec_rds h, hp]
theorem parse_short {l : List Int} (h : l.length < 3) : SS.parse l = none := by
  match l, h with
  | [], _ => rfl
  | [_], _ => rfl
  | [x, y], _ =>
    unfold SS.parse
    simp only
    rw [if_neg (by simp only [List.length_nil]; omega)]
  | x :: y :: z :: r, h => simp at h; omega
theorem parse_far {l : List Int} {N : Nat} (hv : l[1]? = some (N : Int)) (h : l.length < N + 3) : SS.parse l = none := by
  match l, hv with
  | x :: y :: r, hv =>
    obtain rfl : y = (N : Int) := by simpa using hv
    unfold SS.parse
    simp only
    rw [if_neg (by simp at h; omega)]
  | [x], hv => simp at hv
  | [], hv => simp at hv
theorem parse_at {l : List Int} {h : Int} {N P : Nat} (hh : l[0]? = some h) (hv : l[1]? = some (N : Int)) (hn : N + 3 ≤ l.length) (hz : l[N + 2]? = some (P : Int)) :
    SS.parse l = if l.length = N + 3 + 2 * P then some ⟨h, (l.drop 2).take N, SS.unpairs (l.drop (N + 3))⟩ else none := by
  match l, hh, hv, hz with
  | x :: y :: r, hh, hv, hz =>
    obtain rfl : x = h := by simpa using hh
    obtain rfl : y = (N : Int) := by simpa using hv
    have hzr : r[N]? = some (P : Int) := by simpa using hz
    have hd : r.drop N = (P : Int) :: r.drop (N + 1) := by
      obtain ⟨h1, h2⟩ := List.getElem?_eq_some_iff.1 hzr
      rw [List.drop_eq_getElem_cons h1, h2]
    unfold SS.parse
    simp only
    rw [if_pos (by simp at hn; omega)]
    simp only [Int.toNat_natCast, hd]
    have hlen : (r.drop (N + 1)).length = r.length - (N + 1) := List.length_drop
    simp only [List.length_cons] at hn ⊢
    by_cases he : r.length + 1 + 1 = N + 3 + 2 * P
    · rw [if_pos (by rw [hlen]; omega), if_pos he]
      simp
    · rw [if_neg (by rw [hlen]; omega), if_neg he]
  | [x], _, hv, _ => simp at hv
  | [], hh, _, _ => simp at hh
theorem unpairs_at : ∀ (q : List Int) (k : Nat) (x y : Int), q[2 * k]? = some x → q[2 * k + 1]? = some y → (SS.unpairs q)[k]? = some (x, y)
  | [], k, x, y, h, _ => by simp at h
  | [a], 0, x, y, _, h => by simp at h
  | [a], k + 1, x, y, h, _ => by simp at h
  | a :: b :: q, 0, x, y, h, h' => by
    obtain rfl : a = x := by simpa using h
    obtain rfl : b = y := by simpa using h'
    rfl
  | a :: b :: q, k + 1, x, y, h, h' => by
    have h1 : q[2 * k]? = some x := by simpa [show 2 * (k + 1) = 2 * k + 1 + 1 by omega] using h
    have h2 : q[2 * k + 1]? = some y := by simpa [show 2 * (k + 1) + 1 = 2 * k + 1 + 1 + 1 by omega] using h'
    unfold SS.unpairs
    simpa using unpairs_at q k x y h1 h2

/-- What is held while pairs are read, one by one, into the lists' own block. -/
structure DecAt (w w4 : World) (r4 : Nat) (h : Int) (A2 : Option Addr) (N c2 : Nat) (all : List (Int × Int)) (k : Nat) (v : Value) (wk : World) : Prop where
  box : Box wk r4 (.int .i64 h) (.slice A2 N c2) v
  own : wk.ownsRow w4.heap.size 49 2 v k (prVals (all.take k))
  old : ∀ j, j < w4.heap.size → j ≠ r4 → wk.heap[j]? = w4.heap[j]?
  bel : Below w.heap.size w wk
  siz : w4.heap.size ≤ wk.heap.size

set_option maxRecDepth 20000 in
theorem DecAt.step {w w4 wr w5 : World} {r4 N c2 k gg cap : Nat} {h x y : Int} {A2 : Option Addr} {all : List (Int × Int)} {v : Value} {C : Array Value} {T : TypeId}
    (hT : DecAt w w4 r4 h A2 N c2 all k v wr) (hr4 : r4 < w4.heap.size) (hlt : w.heap.size < r4) (hv : all[k]? = some (x, y))
    (hown : w5.ownsRow w4.heap.size 49 2 (.slice (some ⟨gg, 0, none⟩) (k + 1) cap) (k + 1) (prVals (all.take k) ++ [.int .i64 x, .int .i64 y])) (hg : ((wr.alloc (.cells C T)).drew).grownBy w5 v.ownBlock) :
    DecAt w w4 r4 h A2 N c2 all (k + 1) (.slice (some ⟨gg, 0, none⟩) (k + 1) cap) (w5.setCell ⟨r4, 2, none⟩ (.slice (some ⟨gg, 0, none⟩) (k + 1) cap)) := by
  have hb : ∀ j, j < w4.heap.size → w5.heap[j]? = wr.heap[j]? := fun j hj => by
    have h1 := hT.siz
    rw [hg.block j (by show j < (wr.alloc (.cells C T)).heap.size; simp; omega) (fun e => by have := (hT.own.lt j e.symm).1; omega)]
    exact heap_alloc_old _ _ (by omega)
  have hs5 : w4.heap.size ≤ w5.heap.size := by
    have h1 := hT.siz
    have h2 := hg.size
    have h3 : ((wr.alloc (.cells C T)).drew).heap.size = wr.heap.size + 1 := by show (wr.alloc (.cells C T)).heap.size = _; simp
    omega
  have bu := (But.refl r4 w5).set 2 (.slice (some ⟨gg, 0, none⟩) (k + 1) cap)
  have hgg := hown.lt gg rfl
  refine ⟨?_, ?_, ?_, ?_, ?_⟩
  · exact Box.set2 (show Box w5 r4 _ _ _ from (hb r4 hr4).trans hT.box) _
  · rw [List.take_add_one, hv, Option.toList_some, prVals_append]
    refine ownsRow_setCell_below hown (by show r4 < w4.heap.size; exact hr4) _
  · intro j hj hne
    exact (bu.2 j hne).trans ((hb j hj).trans (hT.old j hj hne))
  · refine (((hT.bel.alloc hT.bel.size _).drew).grown hg ?_ (fun k e => ?_)).setCell (by show w.heap.size ≤ r4; omega) _
    · have := hT.bel.size
      show w.heap.size ≤ (wr.alloc (.cells C T)).heap.size
      simp
      omega
    · have := (hT.own.lt k e).1
      have := hT.bel.size
      omega
  · rw [← bu.1]
    exact hs5
section
variable {w w4 wk : World} {r4 N c2 k : Nat} {h : Int} {A2 : Option Addr} {all : List (Int × Int)} {v : Value}
theorem DecAt.ln {sz n c : Nat} {A : Option Addr} {cs : List Value} (hT : DecAt w w4 r4 h A2 N c2 all k v wk) (hl : Ln w4 sz A n c cs) (hne : ∀ ad, A = some ad → ad.block ≠ r4 ∧ ad.block < w4.heap.size) : Ln wk sz A n c cs :=
  ⟨hl.len, hl.le, hl.lies.1, fun ad e j u hu => by
    have h0 := hl.lies.2 ad e j u hu
    have hblk : (ad.add j).block = ad.block := by unfold Addr.add; split <;> rfl
    obtain ⟨h1, h2⟩ := hne ad e
    rw [World.cell?_of_block (w := w4) (hT.old (ad.add j).block (by omega) (by omega))]
    exact h0⟩
theorem DecAt.cell {b off : Nat} {u : Value} (hT : DecAt w w4 r4 h A2 N c2 all k v wk) (hc : w4.cell? ⟨b, off, none⟩ = some u) (hne : b ≠ r4) : wk.cell? ⟨b, off, none⟩ = some u :=
  (World.cell?_of_block (w := w4) (a := ⟨b, off, none⟩) (hT.old b (World.block_lt_of_cell? _ _ hc) hne)).trans hc
theorem DecAt.res {g : Nat} {x y z : Value} (hT : DecAt w w4 r4 h A2 N c2 all k v wk) (hr : Box w4 g x y z) (hne : g ≠ r4) : Box wk g x y z := (hT.old g hr.lt hne).trans hr
end
end Go.Proofs.Ytlldmefjhgahdaa

/-
  What the document's own with comes to: a list, and one page more at its place.
-/
namespace Go.Proofs.Ytlldmefjhgahdaa
open Go.RowKit

theorem Ln.grown {w w' : World} {sz b off n c : Nat} {cs : List Value} {row : Option Nat} (h : Ln w sz (some ⟨b, off, none⟩) n c cs) (hg : w.grownBy w' row) (hne : some b ≠ row) : Ln w' sz (some ⟨b, off, none⟩) n c cs :=
  ⟨h.len, h.le, h.lies.1, fun ad e j u hu => by
    have h0 := h.lies.2 ad e j u hu
    obtain rfl := Option.some.inj e
    rw [addr_add] at h0 ⊢
    exact hg.cell h0 hne⟩

/-- append, as one step of a drawn region, to a list that is written out. -/
theorem step_append_ls {P : Program} (w : World) {ops : Array Oper} {o : Oper} {a : Act} {K : Act → World → Prop} {Q : Exit → Act → World → Prop} {E : Prop} (hgd : o.guard = none) (s x : Operand) (t : TypeId)
    (ho : o.op = .call { callee := .builtin .append, args := #[s, x], argTypes := #[t, t] })
    (base : Nat) (e : TypeId) (i : TypeInfo) (z : Value) (size bytes : Nat) (ht : P.underlying t = some (.slice e)) (hi : P.info? e = some i) (hz : i.zero = some z)
    (hsize : i.size = size) (hby : i.bytes = bytes) (hzs : z.cells.size = size) (hsz : 0 < size)
    (S : Option Addr) (n d : Nat) (xs : List Value) (hs : a.eval s = .slice S n d) (hown : w.ownsRow base e size (.slice S n d) n xs)
    (A : Option Addr) (m c : Nat) (news : List Value) (hx : a.eval x = .slice A m c) (hl : Ln w size A m c news) (h1 : ∀ u ∈ news, u.oneCell' = true)
    (h63 : n + m ≤ maxLen) (hbytes : (n + m) * bytes ≤ 140737488355328) (hbase : base ≤ w.heap.size)
    (h : ∀ A' c' w', w'.ownsRow base e size (.slice A' (n + m) c') (n + m) (xs ++ news) → w.grownBy w' (Value.slice S n d).ownBlock → K (a.put o.dst (.slice A' (n + m) c')) w') :
    if Region.wanted o (yielded ops a.tmps) = true then Oper.wp P o a w K Q else E :=
  step_append_ln w hgd s x t ho base e i z size bytes ht hi hz hsize hby hzs hsz _ n xs hs hown A m c news hx hl h1 h63 hbytes hbase h

theorem own_grown_hi {w a : World} {B : Nat} {w' : World} {base sz n : Nat} {e : TypeId} {v : Value} {xs : List Value} (hb : Below B a w) (hB : B ≤ w.heap.size) (h : w.ownsRow base e sz v n xs) (hbase : B ≤ base) (hg : w.grownBy w' v.ownBlock) : Below B a w' :=
  Below.grown hb hg hB (fun k hk => Nat.le_trans hbase (h.lt k hk).1)

theorem ins_parts {p : Int} {zs : List Int} {k : Nat} (h : SS.place p zs = k) : intVals (zs.take k) ++ intVals [p] ++ intVals (zs.drop k) = intVals (SS.ins p zs) := by
  subst h
  conv => rhs; rw [SS.ins_place p zs]
  rw [sIntVals_append, List.append_assoc]
  rfl

set_option maxRecDepth 20000 in
set_option maxHeartbeats 6400000 in
theorem with_any (A : Option Addr) (n c : Nat) (zs : List Int) (p : Int) (w : World) (hl : Ln w 1 A n c (intVals zs)) (hn : n ≤ 700000) :
    Calls Try.prog 37 #[.slice A n c, .int .i64 p] w (JoinEnd w 3 1 (n + 1) (intVals (SS.ins p zs))) := by
  obtain ⟨i1, hi1, hy0, hy1, hy2⟩ := info_parts intInfo
  have HL := Lib.hid hl
  have HN := Lib.hid hl.intN
  clear hl
  go_enter Try.func37, Try.ntmps37
  go_upto_block 0 with fail
  go_cut [5] (fun s5 wx => ∃ k : Nat, k ≤ n ∧ s5 = .int .i64 k ∧ Hid (SS.place p zs = k) ∧ wx = w)
  case first =>
    go_wp2_with fail
    go_loopw [5] (fun i wk => ∃ k : Nat, k ≤ n ∧ i = .int .i64 k ∧ Hid (∀ j z, j < k → zs[j]? = some z → z < p) ∧ wk = w) (fun i _ => n - (intOf i).toNat)
    case atStart => exact ⟨0, Nat.zero_le _, rfl, Lib.hid (fun j z hj => absurd hj (by omega)), rfl⟩
    case round =>
      obtain ⟨k, hk, rfl, HSo, hw⟩ := hrel
      have hw' := hw.symm
      subst hw'
      clear hw
      by_cases hlt : k < n
      · obtain ⟨b, off, x, rfl, hv, c0⟩ := HL.out.intAt hlt
        by_cases hx : x < p
        · have HM : Hid (∀ j z, j < k + 1 → zs[j]? = some z → z < p) := Lib.hid (fun j z hj hz => by
            by_cases hjk : j = k
            · subst hjk
              rw [hv] at hz
              obtain rfl := Option.some.inj hz
              exact hx
            · exact HSo.out j z (by omega) hz)
          clear hv HSo
          go_wp2_with fail
          go_roundw
          case rel => exact ⟨k + 1, by omega, by go_num, HM, trivial⟩
          case measure => simp [intOf]; omega
        · have HC := Lib.hid (SS.place_at HSo.out (fun z hz => by rw [hv] at hz; obtain rfl := Option.some.inj hz; exact hx) (by rw [HN.out]; exact hk))
          clear hv HSo
          go_wp2_with fail
          go_meet
          exact ⟨k, hk, rfl, HC, rfl⟩
      · have HC := Lib.hid (SS.place_at HSo.out (fun z hz => by have := (List.getElem?_eq_some_iff.1 hz).1; rw [HN.out] at this; omega) (by rw [HN.out]; exact hk))
        clear HSo
        go_wp2_with fail
        go_meet
        exact ⟨k, hk, rfl, HC, rfl⟩
  case rest =>
    obtain ⟨k, hk, rfl, HC, hw⟩ := hcut
    have hw' := hw.symm
    subst hw'
    clear hw
    have HV := Lib.hid (ins_parts HC.out)
    clear HC
    have BE := Lib.hid ((below_one w (.cells #[] 3)).drew)
    have BEP := Lib.hid ((below_two w (.cells #[] 3) (.cells #[.int .i64 p] 3)).drew)
    have BPE := Lib.hid ((below_two w (.cells #[.int .i64 p] 3) (.cells #[] 3)).drew)
    have hs1 : (w.alloc (.cells #[] 3)).heap.size = w.heap.size + 1 := by simp
    have hs2 : (w.alloc (.cells #[.int .i64 p] 3)).heap.size = w.heap.size + 1 := by simp
    have OE : Hid (((w.alloc (.cells #[] 3)).drew).ownsRow w.heap.size 3 1 (.slice (some ⟨w.heap.size, 0, none⟩) 0 0) 0 []) := Lib.hid (own_empty (empty_new w _) (Nat.le_refl _))
    have OEP : Hid ((((w.alloc (.cells #[] 3)).alloc (.cells #[.int .i64 p] 3)).drew).ownsRow w.heap.size 3 1 (.slice (some ⟨w.heap.size, 0, none⟩) 0 0) 0 []) := Lib.hid (row_below (show (w.alloc (.cells #[] 3)).ownsRow w.heap.size 3 1 (.slice (some ⟨w.heap.size, 0, none⟩) 0 0) 0 [] from OE.out) ((below_one (w.alloc (.cells #[] 3)) (.cells #[.int .i64 p] 3)).drew))
    have OPE : Hid ((((w.alloc (.cells #[.int .i64 p] 3)).alloc (.cells #[] 3)).drew).ownsRow w.heap.size 3 1 (.slice (some ⟨w.heap.size + 1, 0, none⟩) 0 0) 0 []) := Lib.hid (own_empty (by have := empty_new (w.alloc (.cells #[.int .i64 p] 3)) 3; rw [hs2] at this; exact this) (Nat.le_succ _))
    have LEP : Hid (Ln (((w.alloc (.cells #[] 3)).alloc (.cells #[.int .i64 p] 3)).drew) 1 (some ⟨w.heap.size + 1, 0, none⟩) 1 1 (intVals [p])) := Lib.hid (by have := (ln_one (w.alloc (.cells #[] 3)) p 3).kept ((Below.refl _ _).drew); rw [hs1] at this; exact this)
    have LPE : Hid (Ln (((w.alloc (.cells #[.int .i64 p] 3)).alloc (.cells #[] 3)).drew) 1 (some ⟨w.heap.size, 0, none⟩) 1 1 (intVals [p])) := Lib.hid ((ln_one w p 3).kept ((below_one _ (.cells #[] 3)).drew))
    clear hs1 hs2
    have hnc := HL.out.le
    have hnil := HL.out.lies.1
    have HLT := Lib.hid (HL.out.intTake hk)
    rcases A with _ | ad
    · obtain ⟨rfl, rfl⟩ := hnil rfl
      obtain rfl : k = 0 := by omega
      have HLD : Hid (Ln w 1 none 0 0 (intVals (zs.drop 0))) := HL
      go_wp2_with fail
      go_region_held3 (fun _ => True) (exact trivial)
        (first
          | (refine step_append_ls _ (by rfl) _ _ _ (by rfl) w.heap.size 3 i1 _ 1 8 Try.underlying23 hi1 hy0 hy1 hy2 rfl (by omega) _ 0 _ [] (by rfl) (by first | exact OE.out | exact OEP.out | exact OPE.out) _ 0 _ (intVals (zs.take 0)) (by rfl) (HLT.out.kept (by first | exact BE.out | exact BEP.out | exact BPE.out)) (intVals_one _) (by unfold maxLen; omega) (by omega) ((by first | exact BE.out | exact BEP.out | exact BPE.out) : Below w.heap.size w _).size ?_; intro A1 c1 w1 o1 g1; rw [Nat.zero_add, List.nil_append] at o1; rw [Nat.zero_add]; have B1 := Lib.hid (Below.grown (B := w.heap.size) (a := w) (by first | exact BE.out | exact BEP.out | exact BPE.out) g1 ((by first | exact BE.out | exact BEP.out | exact BPE.out) : Below w.heap.size w _).size (by intro k' e'; have := e'; simp [Value.ownBlock] at this; omega)); first | (have LP1 := Lib.hid (LEP.out.grown g1 (by simp [Value.ownBlock]))) | (have LP1 := Lib.hid (LPE.out.grown g1 (by simp [Value.ownBlock]))) | (have LP1 := Lib.hid (ln_one w1 p 3); have B1P := Lib.hid (B1.out.alloc B1.out.size (.cells #[.int .i64 p] 3)); have O1P := Lib.hid (row_below o1 (below_one w1 (.cells #[.int .i64 p] 3)))))
          | (refine step_append_ls _ (by rfl) _ _ _ (by rfl) w.heap.size 3 i1 _ 1 8 Try.underlying23 hi1 hy0 hy1 hy2 rfl (by omega) _ 0 _ (intVals (zs.take 0)) (by rfl) (by first | exact o1 | exact O1P.out) _ 1 _ (intVals [p]) (by rfl) LP1.out (intVals_one _) (by unfold maxLen; omega) (by omega) (by first | exact B1.out.size | exact B1P.out.size) ?_; intro A2 c2 w2 o2 g2; have B2 := Lib.hid (own_grown_hi (B := w.heap.size) (a := w) (by first | exact B1.out | exact B1P.out) (by first | exact B1.out.size | exact B1P.out.size) (by first | exact o1 | exact O1P.out) (Nat.le_refl _) g2))
          | (refine step_append_ls _ (by rfl) _ _ _ (by rfl) w.heap.size 3 i1 _ 1 8 Try.underlying23 hi1 hy0 hy1 hy2 rfl (by omega) _ (0 + 1) _ (intVals (zs.take 0) ++ intVals [p]) (by rfl) o2 _ 0 _ (intVals (zs.drop 0)) (by rfl) (HLD.out.kept B2.out) (intVals_one _) (by unfold maxLen; omega) (by omega) B2.out.size ?_; intro A3 c3 w3 o3 g3; rw [HV.out] at o3; have B3 := Lib.hid (own_grown_hi B2.out B2.out.size o2 (Nat.le_refl _) g3); have hN : 0 + 1 + 0 = 0 + 1 := (by omega); have O3 : Hid (w3.ownsRow w.heap.size 3 1 (.slice A3 (0 + 1) c3) (0 + 1) (intVals (SS.ins p zs))) := (by rw [hN] at o3; exact Lib.hid o3))
          | fail)
      all_goals (
        go_wp2_with fail
        go_ret
        exact ⟨.slice A3 (0 + 1) c3, by first | rfl | rw [hN] | simp, O3.out, B3.out⟩)
    · clear hnil
      by_cases hn0 : n = 0
      · subst hn0
        obtain rfl : k = 0 := by omega
        have HLD : Hid (Ln w 1 (some ad) 0 c (intVals (zs.drop 0))) := HL
        go_wp2_with fail
        go_region_held3 (fun _ => True) (exact trivial)
          (first
            | (refine step_append_ls _ (by rfl) _ _ _ (by rfl) w.heap.size 3 i1 _ 1 8 Try.underlying23 hi1 hy0 hy1 hy2 rfl (by omega) _ 0 _ [] (by rfl) (by first | exact OE.out | exact OEP.out | exact OPE.out) _ 0 _ (intVals (zs.take 0)) (by rfl) (HLT.out.kept (by first | exact BE.out | exact BEP.out | exact BPE.out)) (intVals_one _) (by unfold maxLen; omega) (by omega) ((by first | exact BE.out | exact BEP.out | exact BPE.out) : Below w.heap.size w _).size ?_; intro A1 c1 w1 o1 g1; rw [Nat.zero_add, List.nil_append] at o1; rw [Nat.zero_add]; have B1 := Lib.hid (Below.grown (B := w.heap.size) (a := w) (by first | exact BE.out | exact BEP.out | exact BPE.out) g1 ((by first | exact BE.out | exact BEP.out | exact BPE.out) : Below w.heap.size w _).size (by intro k' e'; have := e'; simp [Value.ownBlock] at this; omega)); first | (have LP1 := Lib.hid (LEP.out.grown g1 (by simp [Value.ownBlock]))) | (have LP1 := Lib.hid (LPE.out.grown g1 (by simp [Value.ownBlock]))) | (have LP1 := Lib.hid (ln_one w1 p 3); have B1P := Lib.hid (B1.out.alloc B1.out.size (.cells #[.int .i64 p] 3)); have O1P := Lib.hid (row_below o1 (below_one w1 (.cells #[.int .i64 p] 3)))))
            | (refine step_append_ls _ (by rfl) _ _ _ (by rfl) w.heap.size 3 i1 _ 1 8 Try.underlying23 hi1 hy0 hy1 hy2 rfl (by omega) _ 0 _ (intVals (zs.take 0)) (by rfl) (by first | exact o1 | exact O1P.out) _ 1 _ (intVals [p]) (by rfl) LP1.out (intVals_one _) (by unfold maxLen; omega) (by omega) (by first | exact B1.out.size | exact B1P.out.size) ?_; intro A2 c2 w2 o2 g2; have B2 := Lib.hid (own_grown_hi (B := w.heap.size) (a := w) (by first | exact B1.out | exact B1P.out) (by first | exact B1.out.size | exact B1P.out.size) (by first | exact o1 | exact O1P.out) (Nat.le_refl _) g2))
            | (refine step_append_ls _ (by rfl) _ _ _ (by rfl) w.heap.size 3 i1 _ 1 8 Try.underlying23 hi1 hy0 hy1 hy2 rfl (by omega) _ (0 + 1) _ (intVals (zs.take 0) ++ intVals [p]) (by rfl) o2 _ 0 _ (intVals (zs.drop 0)) (by rfl) (HLD.out.kept B2.out) (intVals_one _) (by unfold maxLen; omega) (by omega) B2.out.size ?_; intro A3 c3 w3 o3 g3; rw [HV.out] at o3; have B3 := Lib.hid (own_grown_hi B2.out B2.out.size o2 (Nat.le_refl _) g3); have hN : 0 + 1 + 0 = 0 + 1 := (by omega); have O3 : Hid (w3.ownsRow w.heap.size 3 1 (.slice A3 (0 + 1) c3) (0 + 1) (intVals (SS.ins p zs))) := (by rw [hN] at o3; exact Lib.hid o3))
            | fail)
        all_goals (
          go_wp2_with fail
          go_ret
          exact ⟨.slice A3 (0 + 1) c3, by first | rfl | rw [hN] | simp, O3.out, B3.out⟩)
      · obtain ⟨b, off, e0, _⟩ := HL.out.spot (by rw [intVals_length, HN.out]; omega)
        obtain rfl := Option.some.inj e0
        by_cases hkc : k = c
        · subst hkc
          obtain rfl : n = k := by omega
          have j1 : (0 : Int) ≤ (n : Int) := by omega
          have HLD : Hid (Ln w 1 (some ⟨b, off, none⟩) 0 0 (intVals (zs.drop n))) := Lib.hid (by rw [List.drop_of_length_le (by rw [HN.out]; exact Nat.le_refl _)]; exact Ln.empty _ _ _ _)
          go_wp2_with fail
          go_region_held3 (fun _ => True) (exact trivial)
            (first
              | (refine step_append_ls _ (by rfl) _ _ _ (by rfl) w.heap.size 3 i1 _ 1 8 Try.underlying23 hi1 hy0 hy1 hy2 rfl (by omega) _ 0 _ [] (by rfl) (by first | exact OE.out | exact OEP.out | exact OPE.out) _ n _ (intVals (zs.take n)) (by rfl) (HLT.out.kept (by first | exact BE.out | exact BEP.out | exact BPE.out)) (intVals_one _) (by unfold maxLen; omega) (by omega) ((by first | exact BE.out | exact BEP.out | exact BPE.out) : Below w.heap.size w _).size ?_; intro A1 c1 w1 o1 g1; rw [Nat.zero_add, List.nil_append] at o1; rw [Nat.zero_add]; have B1 := Lib.hid (Below.grown (B := w.heap.size) (a := w) (by first | exact BE.out | exact BEP.out | exact BPE.out) g1 ((by first | exact BE.out | exact BEP.out | exact BPE.out) : Below w.heap.size w _).size (by intro k' e'; have := e'; simp [Value.ownBlock] at this; omega)); first | (have LP1 := Lib.hid (LEP.out.grown g1 (by simp [Value.ownBlock]))) | (have LP1 := Lib.hid (LPE.out.grown g1 (by simp [Value.ownBlock]))) | (have LP1 := Lib.hid (ln_one w1 p 3); have B1P := Lib.hid (B1.out.alloc B1.out.size (.cells #[.int .i64 p] 3)); have O1P := Lib.hid (row_below o1 (below_one w1 (.cells #[.int .i64 p] 3)))))
              | (refine step_append_ls _ (by rfl) _ _ _ (by rfl) w.heap.size 3 i1 _ 1 8 Try.underlying23 hi1 hy0 hy1 hy2 rfl (by omega) _ n _ (intVals (zs.take n)) (by rfl) (by first | exact o1 | exact O1P.out) _ 1 _ (intVals [p]) (by rfl) LP1.out (intVals_one _) (by unfold maxLen; omega) (by omega) (by first | exact B1.out.size | exact B1P.out.size) ?_; intro A2 c2 w2 o2 g2; have B2 := Lib.hid (own_grown_hi (B := w.heap.size) (a := w) (by first | exact B1.out | exact B1P.out) (by first | exact B1.out.size | exact B1P.out.size) (by first | exact o1 | exact O1P.out) (Nat.le_refl _) g2))
              | (refine step_append_ls _ (by rfl) _ _ _ (by rfl) w.heap.size 3 i1 _ 1 8 Try.underlying23 hi1 hy0 hy1 hy2 rfl (by omega) _ (n + 1) _ (intVals (zs.take n) ++ intVals [p]) (by rfl) o2 _ 0 _ (intVals (zs.drop n)) (by rfl) (HLD.out.kept B2.out) (intVals_one _) (by unfold maxLen; omega) (by omega) B2.out.size ?_; intro A3 c3 w3 o3 g3; rw [HV.out] at o3; have B3 := Lib.hid (own_grown_hi B2.out B2.out.size o2 (Nat.le_refl _) g3); have hN : n + 1 + 0 = n + 1 := (by omega); have O3 : Hid (w3.ownsRow w.heap.size 3 1 (.slice A3 (n + 1) c3) (n + 1) (intVals (SS.ins p zs))) := (by rw [hN] at o3; exact Lib.hid o3))
              | fail)
          all_goals (
            go_wp2_with fail
            go_ret
            exact ⟨.slice A3 (n + 1) c3, by first | rfl | rw [hN] | simp, O3.out, B3.out⟩)
        · have j1 : (0 : Int) ≤ (k : Int) := by omega
          have j2 : (k : Int) ≤ (n : Int) := by omega
          have j3 : (n : Int) ≤ (c : Int) := by omega
          have j4 : (k : Int) < (c : Int) := by omega
          have j5 : ¬ c = k := by omega
          have j6 : (k : Int) ≤ (c : Int) := by omega
          have HLD : Hid (Ln w 1 (some ⟨b, off + k, none⟩) (n - k) (c - k) (intVals (zs.drop k))) := Lib.hid (HL.out.intDrop hk)
          go_wp2_with fail
          go_region_held3 (fun _ => True) (exact trivial)
            (first
              | (refine step_append_ls _ (by rfl) _ _ _ (by rfl) w.heap.size 3 i1 _ 1 8 Try.underlying23 hi1 hy0 hy1 hy2 rfl (by omega) _ 0 _ [] (by rfl) (by first | exact OE.out | exact OEP.out | exact OPE.out) _ k _ (intVals (zs.take k)) (by rfl) (HLT.out.kept (by first | exact BE.out | exact BEP.out | exact BPE.out)) (intVals_one _) (by unfold maxLen; omega) (by omega) ((by first | exact BE.out | exact BEP.out | exact BPE.out) : Below w.heap.size w _).size ?_; intro A1 c1 w1 o1 g1; rw [Nat.zero_add, List.nil_append] at o1; rw [Nat.zero_add]; have B1 := Lib.hid (Below.grown (B := w.heap.size) (a := w) (by first | exact BE.out | exact BEP.out | exact BPE.out) g1 ((by first | exact BE.out | exact BEP.out | exact BPE.out) : Below w.heap.size w _).size (by intro k' e'; have := e'; simp [Value.ownBlock] at this; omega)); first | (have LP1 := Lib.hid (LEP.out.grown g1 (by simp [Value.ownBlock]))) | (have LP1 := Lib.hid (LPE.out.grown g1 (by simp [Value.ownBlock]))) | (have LP1 := Lib.hid (ln_one w1 p 3); have B1P := Lib.hid (B1.out.alloc B1.out.size (.cells #[.int .i64 p] 3)); have O1P := Lib.hid (row_below o1 (below_one w1 (.cells #[.int .i64 p] 3)))))
              | (refine step_append_ls _ (by rfl) _ _ _ (by rfl) w.heap.size 3 i1 _ 1 8 Try.underlying23 hi1 hy0 hy1 hy2 rfl (by omega) _ k _ (intVals (zs.take k)) (by rfl) (by first | exact o1 | exact O1P.out) _ 1 _ (intVals [p]) (by rfl) LP1.out (intVals_one _) (by unfold maxLen; omega) (by omega) (by first | exact B1.out.size | exact B1P.out.size) ?_; intro A2 c2 w2 o2 g2; have B2 := Lib.hid (own_grown_hi (B := w.heap.size) (a := w) (by first | exact B1.out | exact B1P.out) (by first | exact B1.out.size | exact B1P.out.size) (by first | exact o1 | exact O1P.out) (Nat.le_refl _) g2))
              | (refine step_append_ls _ (by rfl) _ _ _ (by rfl) w.heap.size 3 i1 _ 1 8 Try.underlying23 hi1 hy0 hy1 hy2 rfl (by omega) _ (k + 1) _ (intVals (zs.take k) ++ intVals [p]) (by rfl) o2 _ (n - k) _ (intVals (zs.drop k)) (by rfl) (HLD.out.kept B2.out) (intVals_one _) (by unfold maxLen; omega) (by omega) B2.out.size ?_; intro A3 c3 w3 o3 g3; rw [HV.out] at o3; have B3 := Lib.hid (own_grown_hi B2.out B2.out.size o2 (Nat.le_refl _) g3); have hN : k + 1 + (n - k) = n + 1 := (by omega); have O3 : Hid (w3.ownsRow w.heap.size 3 1 (.slice A3 (n + 1) c3) (n + 1) (intVals (SS.ins p zs))) := (by rw [hN] at o3; exact Lib.hid o3))
              | fail)
          all_goals (
            go_wp2_with fail
            go_ret
            exact ⟨.slice A3 (n + 1) c3, by first | rfl | rw [hN] | simp, O3.out, B3.out⟩)
end Go.Proofs.Ytlldmefjhgahdaa

/-
  Numbers in parts of two hundred and fifty, each part's bytes in memory of their own.
-/
namespace Go.Proofs.Ytlldmefjhgahdaa
open Go.RowKit

theorem cut_more : ∀ (g : Nat) (l : List Int), l.length ≤ g → SS.cut 250 (g + 1) l = SS.cut 250 g l
  | 0, l, h => by
    rw [List.eq_nil_of_length_eq_zero (by omega : l.length = 0)]
    rfl
  | g + 1, l, h => by
    conv => lhs; unfold SS.cut
    conv => rhs; unfold SS.cut
    split
    · rfl
    · rw [cut_more g (l.drop 250) (by rw [List.length_drop]; omega)]
theorem cut_fuel (l : List Int) : ∀ k : Nat, SS.cut 250 (l.length + k) l = SS.cut 250 l.length l
  | 0 => rfl
  | k + 1 => by rw [show l.length + (k + 1) = (l.length + k) + 1 by omega, cut_more _ _ (by omega), cut_fuel l k]
/-- Numbers' bytes in parts. -/
def cutN (l : List Int) : List (List UInt8) := (SS.cut 250 l.length l).map numB
theorem cutN_nil : cutN [] = [] := rfl
theorem cutN_step {l : List Int} (h : 0 < l.length) : cutN l = numB (l.take 250) :: cutN (l.drop 250) := by
  have h1 := cut_fuel l 1
  unfold cutN
  rw [← h1]
  conv => lhs; unfold SS.cut
  rw [if_neg (fun e => by rw [e] at h; simp at h), List.map_cons]
  have := cut_fuel (l.drop 250) (l.length - (l.drop 250).length)
  rw [show (l.drop 250).length + (l.length - (l.drop 250).length) = l.length by rw [List.length_drop]; omega] at this
  rw [this]
theorem cutN_enc (s : SS) : cutN s.nums = s.enc := SS.enc_ref s

/-- What is held while numbers are cut: w0 is the world in which the numbers lie. -/
structure NCut (w0 wk : World) (l : List Int) (A : Option Addr) (N c : Nat) (rest : List Int) (qs : List Pc) (ps : List (List UInt8)) (v : Value) : Prop where
  left : Ln w0 1 A N c (intVals rest)
  good : ∀ q ∈ qs, wk.ownsRow w0.heap.size 5 1 (.slice q.A q.n q.c) q.n q.cs
  same : qs.map Pc.cs = ps.map bv
  cut : ps ++ cutN rest = cutN l
  sum : qs.length + N ≤ l.length
  own : wk.ownsRow w0.heap.size 59 1 v qs.length (qs.map Pc.val)
  bel : Below w0.heap.size w0 wk
def NRel (w0 : World) (l : List Int) (n : Nat) (s v : Value) (wk : World) : Prop :=
  ∃ (A : Option Addr) (c : Nat) (rest : List Int) (qs : List Pc) (ps : List (List UInt8)), s = .slice A n c ∧ NCut w0 wk l A n c rest qs ps v

set_option maxRecDepth 20000 in
theorem NCut.step {w0 wr wn w3 : World} {l rest p : List Int} {A A' Q : Option Addr} {N c n' c' q qc : Nat} {qs : List Pc} {ps : List (List UInt8)} {v v3 : Value} {C : Array Value} {T : TypeId}
    (h : NCut w0 wr l A N c rest qs ps v) (hp : rest.take 250 = p) (hN0 : 0 < N) (hA : Ln w0 1 A' n' c' (intVals (rest.drop 250))) (hn' : n' < N)
    (hq : wn.ownsRow wr.heap.size 5 1 (.slice Q q qc) q (bv (numB p))) (bn : Below wr.heap.size wr wn)
    (hown : w3.ownsRow w0.heap.size 59 1 v3 (qs.length + 1) (qs.map Pc.val ++ [.slice Q q qc])) (hg : (wn.alloc (.cells C T)).grownBy w3 v.ownBlock) :
    NRel w0 l n' (.slice A' n' c') v3 w3 := by
  have hl : rest.length = N := h.left.intN
  have hbs := h.bel.size
  have hown0 : (wn.alloc (.cells C T)).ownsRow w0.heap.size 59 1 v qs.length (qs.map Pc.val) := row_below (row_below h.own bn) (below_one wn _)
  have hB : Below w0.heap.size w0 (wn.alloc (.cells C T)) := (h.bel.trans (bn.mono hbs)).alloc (by have := bn.size; omega) _
  have ap : ∀ {n1 : Nat} {v1 : Value} {xs1 : List Value} {b1 : Nat}, (wn.alloc (.cells C T)).ownsRow b1 5 1 v1 n1 xs1 → w3.ownsRow b1 5 1 v1 n1 xs1 := fun h1 => own_apart (by decide) h1 hown0 hg
  refine ⟨A', c', rest.drop 250, qs ++ [⟨Q, q, qc, bv (numB p)⟩], ps ++ [numB p], rfl, hA, fun x hx => ?_, ?_, ?_, ?_, ?_, ?_⟩
  · rcases List.mem_append.1 hx with hx | hx
    · exact ap (row_below (row_below (h.good x hx) bn) (below_one wn _))
    · obtain rfl : x = _ := by simpa using hx
      exact ap (own_base_low (row_below hq (below_one wn _)) hbs)
  · rw [List.map_append, List.map_append, h.same]
    rfl
  · rw [← h.cut, cutN_step (l := rest) (by omega), hp, List.append_assoc]
    rfl
  · have := h.sum
    rw [List.length_append, List.length_singleton]
    omega
  · rw [List.map_append, List.length_append, List.length_singleton]
    exact hown
  · exact hB.grown hg hB.size (fun g hg => (hown0.lt g hg).1)

theorem NCut.done {w w0 wk : World} {l : List Int} {A : Option Addr} {c : Nat} {rest : List Int} {qs : List Pc} {ps : List (List UInt8)} {v : Value} (h : NCut w0 wk l A 0 c rest qs ps v) (b : Below w.heap.size w w0) : PartsEnd w (cutN l) (.returned v) wk := by
  have hr : rest = [] := List.eq_nil_of_length_eq_zero h.left.intN
  have hc := h.cut
  rw [hr, cutN_nil, List.append_nil] at hc
  rw [← hc]
  have hl : qs.length = ps.length := by
    have := congrArg List.length h.same
    simpa using this
  have hbel : Below w.heap.size w wk := b.trans (h.bel.mono b.size)
  obtain ⟨B, d, rfl, _, _⟩ := Ln.of_own h.own
  refine ⟨B, d, by rw [hl], ?_, hbel⟩
  rcases ps with _ | ⟨p0, ps⟩
  · exact Or.inl rfl
  · rcases h.own.2 with ⟨hv, h0⟩ | ⟨g, cap, cur, hv, _⟩
    · rw [hl] at h0
      simp at h0
    · injection hv with e1 e2 e3
      subst e1
      refine Or.inr ⟨g, 0, rfl, fun i p hp => ?_⟩
      obtain ⟨q, hq, hqp⟩ : ∃ q, qs[i]? = some q ∧ q.cs = bv p := by
        have h1 : (qs.map Pc.cs)[i]? = ((p0 :: ps).map bv)[i]? := by rw [h.same]
        rw [List.getElem?_map, List.getElem?_map, hp] at h1
        obtain ⟨q, h2, h3⟩ := Option.map_eq_some_iff.1 h1
        exact ⟨q, h2, h3⟩
      obtain ⟨A1, c1, e4, _, hL⟩ := Ln.of_own (h.good q (List.mem_of_getElem? hq))
      injection e4 with e5 e6 e7
      subst e5
      subst e7
      rw [hqp] at hL
      have hn := hL.byteN
      refine ⟨q.A, q.c, ?_, by rw [hn]; exact hL⟩
      have := h.own.cells (g := g) rfl i q.val (by rw [List.getElem?_map, hq]; rfl)
      rw [addr_add] at this
      rw [hn]
      exact this

/-- A list that is written out: two ints of its own. -/
theorem own_two (w : World) (x y : Int) : (w.alloc (.cells #[.int .i64 x, .int .i64 y] 3)).ownsRow w.heap.size 3 1 (.slice (some ⟨w.heap.size, 0, none⟩) 2 2) 2 (intVals [x, y]) :=
  ⟨rfl, .inr ⟨w.heap.size, 2, #[.int .i64 x, .int .i64 y], rfl, Nat.le_refl _, heap_alloc_new w _, Nat.le_refl _, by unfold maxLen; omega, rfl, by simp [intVals]⟩⟩
theorem numsTo_start (s : SS) : intVals [s.hi, (s.fr.length : Int)] ++ intVals s.fr ++ intVals [(s.pe.length : Int)] = intVals (numsTo s 0) := by
  unfold numsTo
  simp [intVals, SS.pairs]
end Go.Proofs.Ytlldmefjhgahdaa

/-
  What the document's own Encode comes to.
-/
namespace Go.Proofs.Ytlldmefjhgahdaa
open Go.RowKit

set_option maxRecDepth 20000 in
set_option maxHeartbeats 6400000 in
theorem refEncode_any (s : SS) (A B : Option Addr) (n c m d : Nat) (w : World) (hs : Sp w A n c B m d s) (hn : n ≤ 50000) (hm : m ≤ 50000) :
    Calls Try.prog 28 #[.agg #[.int .i64 s.hi, .slice A n c, .slice B m d]] w (PartsEnd w s.enc) := by
  obtain ⟨i1, hi1, hy0, hy1, hy2⟩ := info_parts intInfo
  obtain ⟨i0, hi, hz0, hz1, hz2⟩ := info_parts partsInfo
  have hb1 := below_one w (.cells #[.int .i64 s.hi, .slice A n c, .slice B m d] 26)
  have HB := Lib.hid (box_new w (.int .i64 s.hi) (.slice A n c) (.slice B m d))
  have HS := Lib.hid (hs.kept hb1)
  have B0 := Lib.hid hb1
  have HPL := Lib.hid hs.pl
  have HV0 : Hid (intVals [s.hi, (n : Int)] ++ intVals s.fr ++ intVals [(m : Int)] = intVals (numsTo s 0)) := Lib.hid (by rw [← numsTo_start, hs.fl, hs.pl])
  clear hs hb1
  go_enter Try.func28, Try.ntmps28
  go_upto_region 1 with fail
  generalize w.alloc (.cells #[.int .i64 s.hi, .slice A n c, .slice B m d] 26) = w0 at *
  obtain ⟨y0, y1, y2⟩ := HB.out.cells
  have o1 := own_two w0 s.hi (n : Int)
  have bA := below_one w0 (.cells #[.int .i64 s.hi, .int .i64 (n : Int)] 3)
  have l1 := HS.out.fr.kept bA
  have bs := bA.size
  obtain ⟨x0, x1, x2⟩ := (HB.out.kept bA).cells
  go_wp2_with (first
    | (at_builtin; refine wpList_append_lay _ rfl (.tmp 12) (.tmp 14) 23 rfl w0.heap.size 3 i1 (.int .i64 0) 1 8 Try.underlying23 hi1 hy0 hy1 hy2 rfl (by decide) _ _ _ rfl o1 A n c (intVals s.fr) rfl l1.len l1.lies (intVals_one _) (by unfold maxLen; omega) (by omega) bs ?_; intro v2 w2 hown2 hg2; have B2 := Lib.hid (bA.grown hg2 bs (fun k hk => (o1.lt k hk).1)); obtain ⟨y3, y4, y5⟩ := (HB.out.kept B2.out).cells; have o2 := hown2.alloc (.cells #[.int .i64 (m : Int)] 3); have bs2 : w0.heap.size ≤ (w2.alloc (.cells #[.int .i64 (m : Int)] 3)).heap.size := Nat.le_trans B2.out.size (below_one w2 _).size)
    | (at_builtin; refine wpList_append_own _ rfl (.tmp 16) (.tmp 20) 23 rfl w0.heap.size 3 i1 (.int .i64 0) 1 8 Try.underlying23 hi1 hy0 hy1 hy2 rfl (by decide) _ _ _ rfl o2 ⟨w2.heap.size, 0, none⟩ 1 1 [.int .i64 (m : Int)] rfl rfl (cell_one_new _ _ _) (by simp [Value.oneCell']) (by unfold maxLen; omega) (by omega) bs2 ?_; intro v3 w3 hown3 hg3 _))
  have O1 : Hid (w3.ownsRow w0.heap.size 3 1 v3 (n + 3 + 2 * 0) (intVals (numsTo s 0))) := Lib.hid (by rw [← HV0.out, show n + 3 + 2 * 0 = 2 + n + 1 by omega]; exact hown3)
  have B3 := Lib.hid ((B2.out.alloc B2.out.size (.cells #[.int .i64 (m : Int)] 3)).grown hg3 bs2 (fun k hk => (o2.lt k hk).1))
  clear hown3 hg3 hown2 hg2 o1 o2 bA l1 bs bs2 x0 x1 x2 y0 y1 y2 y3 y4 y5 B2
  go_loopw [3, 4] (fun v i wk => ∃ k : Nat, k ≤ m ∧ i = .int .i64 k ∧ Hid (wk.ownsRow w0.heap.size 3 1 v (n + 3 + 2 * k) (intVals (numsTo s k))) ∧ Hid (Below w0.heap.size w0 wk)) (fun _ i _ => m - (intOf i).toNat)
  case atStart => exact ⟨0, Nat.zero_le _, rfl, O1, B3⟩
  case round =>
    clear B3 O1
    obtain ⟨k, hk, rfl, O2, B2⟩ := hrel
    obtain ⟨y0, y1, y2⟩ := (HB.out.kept B2.out).cells
    by_cases hlt : k < m
    · obtain ⟨b, off, x, y, rfl, hv, c0, c1⟩ := HS.out.pe.prAt hlt
      have HV := Lib.hid (numsTo_more hv)
      have hcl : b < w0.heap.size := World.block_lt_of_cell? _ _ c0
      have KK : Hid (∀ W : World, Below w0.heap.size w0 W → W.cell? ⟨w.heap.size, 2, none⟩ = some (.slice (some ⟨b, off, none⟩) m d) ∧ W.cell? ⟨b, off + k * 2, none⟩ = some (.int .i64 x) ∧ W.cell? ⟨b, off + k * 2 + 1, none⟩ = some (.int .i64 y)) := Lib.hid (fun W hb => ⟨(HB.out.kept hb).cells.2.2, (hb.cell (p := ⟨b, off + k * 2, none⟩) hcl).trans c0, (hb.cell (p := ⟨b, off + k * 2 + 1, none⟩) hcl).trans c1⟩)
      have bs := B2.out.size
      obtain ⟨A2, c2, rfl⟩ := shape_own O2.out
      have i1' : (0 : Int) ≤ (k : Int) := by omega
      have i2' : (k : Int) < (m : Int) := by omega
      have BA := Lib.hid ((below_one wr (.cells #[.int .i64 x, .int .i64 y] 3)).drew)
      have OA := Lib.hid (row_below O2.out BA.out)
      have LA := Lib.hid ((ln_two wr x y 3).kept ((Below.refl _ _).drew))
      have BB := Lib.hid (B2.out.trans (BA.out.mono bs))
      have K0 : wr.drew.cell? ⟨w.heap.size, 2, none⟩ = some (.slice (some ⟨b, off, none⟩) m d) ∧ wr.drew.cell? ⟨b, off + k * 2, none⟩ = some (.int .i64 x) ∧ wr.drew.cell? ⟨b, off + k * 2 + 1, none⟩ = some (.int .i64 y) := KK.out _ B2.out.drew
      have K1 : ((wr.alloc (.cells #[.int .i64 x, .int .i64 y] 3)).drew).cell? ⟨w.heap.size, 2, none⟩ = some (.slice (some ⟨b, off, none⟩) m d) ∧ ((wr.alloc (.cells #[.int .i64 x, .int .i64 y] 3)).drew).cell? ⟨b, off + k * 2, none⟩ = some (.int .i64 x) ∧ ((wr.alloc (.cells #[.int .i64 x, .int .i64 y] 3)).drew).cell? ⟨b, off + k * 2 + 1, none⟩ = some (.int .i64 y) := KK.out _ BB.out
      clear hv c0 c1
      go_wp2_with fail
      clear y0 y1 y2
      go_region_held3 (fun w' => w'.cell? ⟨w.heap.size, 2, none⟩ = some (.slice (some ⟨b, off, none⟩) m d) ∧ w'.cell? ⟨b, off + k * 2, none⟩ = some (.int .i64 x) ∧ w'.cell? ⟨b, off + k * 2 + 1, none⟩ = some (.int .i64 y))
        (first | exact K2 | exact K1 | exact K0)
        (first
          | (refine step_append_ls _ (by rfl) _ _ _ (by rfl) w0.heap.size 3 i1 _ 1 8 Try.underlying23 hi1 hy0 hy1 hy2 rfl (by omega) A2 (n + 3 + 2 * k) c2 (intVals (numsTo s k)) (by rfl) OA.out _ 2 _ (intVals [x, y]) (by rfl) LA.out (intVals_one _) (by unfold maxLen; omega) (by omega) BB.out.size ?_; intro A3 c3 w3 o3 g3; have B3 := Lib.hid (BB.out.grown g3 BB.out.size (fun k hk => (OA.out.lt k hk).1)); have K2 := KK.out w3 B3.out)
          | fail)
      have O3 : Hid (w3.ownsRow w0.heap.size 3 1 (.slice A3 (n + 3 + 2 * (k + 1)) c3) (n + 3 + 2 * (k + 1)) (intVals (numsTo s (k + 1)))) := Lib.hid (by rw [HV.out, sIntVals_append]; exact o3)
      clear K0 K1 K2 o3 g3 O2 B2 HV OA LA BA BB
      go_wp2_with fail
      go_roundw
      case rel => exact ⟨k + 1, by omega, by go_num, O3, B3⟩
      case measure => simp [intOf]; omega
    · obtain rfl : m = k := by omega
      have o2 := O2.out
      rw [numsTo_all s (by rw [HPL.out]; exact Nat.le_refl _)] at o2
      obtain ⟨A4, c4, rfl, _, l4⟩ := Ln.of_own o2
      obtain ⟨N0, hN0⟩ : ∃ N0, n + 3 + 2 * m = N0 := ⟨_, rfl⟩
      have hNb : N0 ≤ 190000 := by omega
      rw [hN0] at l4 ⊢
      have HNL := Lib.hid l4.intN
      have BL := Lib.hid (B0.out.trans (B2.out.mono B0.out.size))
      obtain ⟨wl, hwl⟩ : ∃ wl : World, wl = wr := ⟨_, rfl⟩
      subst hwl
      have H0 : Hid (NRel wl s.nums N0 (.slice A4 N0 c4) (.slice none 0 0) wl) := Lib.hid ⟨A4, c4, s.nums, [], [], rfl, l4, fun q hq => absurd hq (by simp), rfl, rfl, by simp [HNL.out], World.ownsRow_nil _ _ _ _, Below.refl _ _⟩
      clear o2 l4 O2 hN0
      go_wp2_with fail
      clear y0 y1 y2
      go_loopg [3, 5] N0 (fun g s3 v wk => g ≤ N0 ∧ Hid (NRel wl s.nums g s3 v wk))
      case atStart => exact ⟨Nat.le_refl _, H0⟩
      case round =>
        obtain ⟨hgn, HR⟩ := hrel
        obtain ⟨N, hNg⟩ : ∃ N, N = gk := ⟨_, rfl⟩
        subst hNg
        obtain ⟨A', c', rest, qs, ps, rfl, h1⟩ := HR.out
        have H1 := Lib.hid h1
        clear HR h1
        by_cases hN0 : N = 0
        · subst hN0
          go_wp2_with fail
          go_ret
          rw [← cutN_enc]
          exact H1.out.done BL.out
        · have hlen := H1.out.left.intN
          have hnc := H1.out.left.le
          have hsum := H1.out.sum
          rw [HNL.out] at hsum
          obtain ⟨b, off, rfl, _⟩ := H1.out.left.spot (by rw [intVals_length]; omega)
          have LR := Lib.hid (H1.out.left.kept H1.out.bel)
          have bsz := H1.out.bel.size
          have HLEN := Lib.hid hlen
          clear hlen
          generalize hq : qs.length = Q at *
          have HQ := Lib.hid hq
          clear hq
          have i0' : (0 : Int) < (N : Int) := by omega
          by_cases hbig : 250 < N
          · have j0 : (250 : Int) < (N : Int) := by omega
            have j1 : (250 : Int) ≤ (c' : Int) := by omega
            have j2 : (250 : Int) < (c' : Int) := by omega
            have j3 : ¬ c' = 250 := by omega
            have j4 : (N : Int) ≤ (c' : Int) := by omega
            have j5 : (250 : Int) ≤ (N : Int) := by omega
            obtain ⟨p, hp⟩ : ∃ p, rest.take 250 = p := ⟨_, rfl⟩
            have HP := Lib.hid hp
            have LP := Lib.hid (show Ln wr 1 (some ⟨b, off, none⟩) 250 c' (intVals p) from by have h := LR.out.intTake (k := 250) (by omega); rw [hp] at h; exact h)
            have LD := Lib.hid (H1.out.left.intDrop (k := 250) (by omega))
            clear hp
            go_wp2_with fail
            refine (refNumbers_n (some ⟨b, off, none⟩) 250 c' p wr LP.out.ints LP.out.intN (by omega)).mono ?_
            rintro e wn ⟨vn, rfl, on, bn⟩
            obtain ⟨AQ, qc, rfl, _, _⟩ := Ln.of_own on
            have ON := Lib.hid (show wn.ownsRow wr.heap.size 5 1 (.slice AQ (numB p).length qc) (numB p).length (bv (numB p)) from on)
            have BN := Lib.hid bn
            clear on bn
            generalize (numB p).length = q at *
            have o3 := (row_below H1.out.own BN.out).alloc (.cells #[.slice AQ q qc] 59)
            have bs3 : wl.heap.size ≤ (wn.alloc (.cells #[.slice AQ q qc] 59)).heap.size := Nat.le_trans bsz (Nat.le_trans BN.out.size (below_one wn _).size)
            rw [HQ.out] at o3
            have hQb : Q + 1 ≤ maxLen := by unfold maxLen; omega
            go_wp2_with (at_builtin; refine wpList_append_own _ rfl (.tmp 51) (.tmp 56) 39 rfl wl.heap.size 59 i0 (.slice none 0 0) 1 24 Try.underlying39 hi hz0 hz1 hz2 rfl (by decide) _ _ _ rfl o3 ⟨wn.heap.size, 0, none⟩ 1 1 [.slice AQ q qc] rfl rfl (cell_one_new _ _ _) (by simp [Value.oneCell']) hQb (by omega) bs3 ?_; intro v3 w3 hown3 hg3 _)
            have HX : Hid (NRel wl s.nums (N - 250) (.slice (some ⟨b, off + 250, none⟩) (N - 250) (c' - 250)) v3 w3) := Lib.hid (NCut.step H1.out HP.out (by omega) LD.out (by omega) ON.out BN.out (by rw [HQ.out]; exact hown3) hg3)
            clear hown3 hg3 o3
            go_roundg (N - 250)
            case measure => omega
            case rel => exact ⟨by omega, HX⟩
          · have j0 : ¬ (250 : Int) < (N : Int) := by omega
            have j1 : (0 : Int) ≤ (N : Int) := by omega
            have j4 : (N : Int) ≤ (c' : Int) := by omega
            obtain ⟨p, hp⟩ : ∃ p, rest.take 250 = p := ⟨_, rfl⟩
            have HP := Lib.hid hp
            have hT : rest.take 250 = rest := List.take_of_length_le (by rw [HLEN.out]; omega)
            have hD : rest.drop 250 = [] := List.drop_of_length_le (by rw [HLEN.out]; omega)
            have LP := Lib.hid (show Ln wr 1 (some ⟨b, off, none⟩) N c' (intVals p) from by rw [← hp, hT]; exact LR.out)
            have HD := Lib.hid hD
            clear hp hT hD
            by_cases hc : c' = N
            · subst hc
              go_wp2_with fail
              refine (refNumbers_n (some ⟨b, off, none⟩) c' c' p wr LP.out.ints LP.out.intN (by omega)).mono ?_
              rintro e wn ⟨vn, rfl, on, bn⟩
              obtain ⟨AQ, qc, rfl, _, _⟩ := Ln.of_own on
              have ON := Lib.hid (show wn.ownsRow wr.heap.size 5 1 (.slice AQ (numB p).length qc) (numB p).length (bv (numB p)) from on)
              have BN := Lib.hid bn
              clear on bn
              generalize (numB p).length = q at *
              have o3 := (row_below H1.out.own BN.out).alloc (.cells #[.slice AQ q qc] 59)
              have bs3 : wl.heap.size ≤ (wn.alloc (.cells #[.slice AQ q qc] 59)).heap.size := Nat.le_trans bsz (Nat.le_trans BN.out.size (below_one wn _).size)
              rw [HQ.out] at o3
              have hQb : Q + 1 ≤ maxLen := by unfold maxLen; omega
              go_wp2_with (at_builtin; refine wpList_append_own _ rfl (.tmp 51) (.tmp 56) 39 rfl wl.heap.size 59 i0 (.slice none 0 0) 1 24 Try.underlying39 hi hz0 hz1 hz2 rfl (by decide) _ _ _ rfl o3 ⟨wn.heap.size, 0, none⟩ 1 1 [.slice AQ q qc] rfl rfl (cell_one_new _ _ _) (by simp [Value.oneCell']) hQb (by omega) bs3 ?_; intro v3 w3 hown3 hg3 _)
              have HX : Hid (NRel wl s.nums 0 (.slice (some ⟨b, off, none⟩) 0 0) v3 w3) := Lib.hid (NCut.step H1.out HP.out (by omega) (by rw [HD.out]; exact Ln.empty _ _ _ _) (by omega) ON.out BN.out (by rw [HQ.out]; exact hown3) hg3)
              clear hown3 hg3 o3
              go_roundg 0
              case measure => omega
              case rel => exact ⟨by omega, HX⟩
            · have j5 : (N : Int) < (c' : Int) := by omega
              have j6 : ¬ c' = N := by omega
              go_wp2_with fail
              refine (refNumbers_n (some ⟨b, off, none⟩) N c' p wr LP.out.ints LP.out.intN (by omega)).mono ?_
              rintro e wn ⟨vn, rfl, on, bn⟩
              obtain ⟨AQ, qc, rfl, _, _⟩ := Ln.of_own on
              have ON := Lib.hid (show wn.ownsRow wr.heap.size 5 1 (.slice AQ (numB p).length qc) (numB p).length (bv (numB p)) from on)
              have BN := Lib.hid bn
              clear on bn
              generalize (numB p).length = q at *
              have o3 := (row_below H1.out.own BN.out).alloc (.cells #[.slice AQ q qc] 59)
              have bs3 : wl.heap.size ≤ (wn.alloc (.cells #[.slice AQ q qc] 59)).heap.size := Nat.le_trans bsz (Nat.le_trans BN.out.size (below_one wn _).size)
              rw [HQ.out] at o3
              have hQb : Q + 1 ≤ maxLen := by unfold maxLen; omega
              go_wp2_with (at_builtin; refine wpList_append_own _ rfl (.tmp 51) (.tmp 56) 39 rfl wl.heap.size 59 i0 (.slice none 0 0) 1 24 Try.underlying39 hi hz0 hz1 hz2 rfl (by decide) _ _ _ rfl o3 ⟨wn.heap.size, 0, none⟩ 1 1 [.slice AQ q qc] rfl rfl (cell_one_new _ _ _) (by simp [Value.oneCell']) hQb (by omega) bs3 ?_; intro v3 w3 hown3 hg3 _)
              have HX : Hid (NRel wl s.nums 0 (.slice (some ⟨b, off + N, none⟩) 0 (c' - N)) v3 w3) := Lib.hid (NCut.step H1.out HP.out (by omega) (by rw [HD.out]; exact Ln.empty _ _ _ _) (by omega) ON.out BN.out (by rw [HQ.out]; exact hown3) hg3)
              clear hown3 hg3 o3
              go_roundg 0
              case measure => omega
              case rel => exact ⟨by omega, HX⟩
end Go.Proofs.Ytlldmefjhgahdaa

/-
  The lists that may be, told one by one.
-/
namespace Go.Proofs.Ytlldmefjhgahdaa
open Go.RowKit

/-- The first k free pages may be; the first k that pend may be. -/
def UpF (s : SS) (k : Nat) : Prop := (s.fr.take k).Pairwise (· < ·) ∧ ∀ p ∈ s.fr.take k, 2 ≤ p ∧ p < s.hi
structure UpP (s : SS) (k : Nat) : Prop where
  ups : (s.pe.take k).Pairwise (fun x y => x.1 ≤ y.1)
  all : ∀ x ∈ s.pe.take k, 0 ≤ x.1 ∧ (2 ≤ x.2 ∧ x.2 < s.hi) ∧ x.2 ∉ s.fr
  once : ((s.pe.take k).map (·.2)).Nodup
theorem may_iff {s : SS} {x : Int} (h : s.may x = true) : 2 ≤ x ∧ x < s.hi := of_decide_eq_true h
theorem may_not {s : SS} {x : Int} (h : s.may x = false) : ¬ (2 ≤ x ∧ x < s.hi) := of_decide_eq_false h
theorem UpF.start (s : SS) : UpF s 0 := ⟨by simp, by simp⟩
theorem UpP.start (s : SS) : UpP s 0 := ⟨by simp, by simp, by simp⟩
theorem UpF.more {s : SS} {k : Nat} {x : Int} (h : UpF s k) (hv : s.fr[k]? = some x) (hm : s.may x = true) (hp : ∀ a ∈ s.fr.take k, a < x) : UpF s (k + 1) := by
  unfold UpF
  rw [List.take_add_one, hv, Option.toList_some]
  refine ⟨List.pairwise_append.2 ⟨h.1, by simp, fun a ha b hb => ?_⟩, fun p hp' => ?_⟩
  · obtain rfl : b = x := by simpa using hb
    exact hp a ha
  · rcases List.mem_append.1 hp' with h1 | h1
    · exact h.2 p h1
    · obtain rfl : p = x := by simpa using h1
      exact may_iff hm
theorem UpF.last {s : SS} {k : Nat} {x y : Int} (h : UpF s (k + 1)) (hy : s.fr[k]? = some y) (hlt : y < x) : ∀ a ∈ s.fr.take (k + 1), a < x := by
  obtain ⟨h1, _⟩ := h
  rw [List.take_add_one, hy, Option.toList_some] at h1 ⊢
  intro a ha
  rcases List.mem_append.1 ha with h2 | h2
  · have := (List.pairwise_append.1 h1).2.2 a h2 y (by simp)
    omega
  · obtain rfl : a = y := by simpa using h2
    exact hlt
theorem bad_may {s : SS} {t x : Int} {k : Nat} (hv : s.fr[k]? = some x) (hm : s.may x = false) : s.check t = 80 := SS.check_bad (fun f => may_not hm (f.inF x (List.mem_of_getElem? hv)))
theorem bad_up {s : SS} {t x y : Int} {k : Nat} (hv : s.fr[k + 1]? = some x) (hy : s.fr[k]? = some y) (hle : x ≤ y) : s.check t = 80 := SS.check_bad (fun f => by
  obtain ⟨h1, rfl⟩ := List.getElem?_eq_some_iff.1 hy
  obtain ⟨h2, rfl⟩ := List.getElem?_eq_some_iff.1 hv
  have := List.pairwise_iff_getElem.1 f.up k (k + 1) h1 h2 (by omega)
  omega)
theorem bad_mayP {s : SS} {t x y : Int} {k : Nat} (hv : s.pe[k]? = some (x, y)) (hm : s.may y = false) : s.check t = 80 := SS.check_bad (fun f => may_not hm (f.inP (x, y) (List.mem_of_getElem? hv)))
theorem bad_pos {s : SS} {t x y : Int} {k : Nat} (hv : s.pe[k]? = some (x, y)) (hx : x < 0) : s.check t = 80 := SS.check_bad (fun f => by
  have : 0 ≤ x := f.pos (x, y) (List.mem_of_getElem? hv)
  omega)
theorem bad_age {s : SS} {t x y x' y' : Int} {k : Nat} (hv : s.pe[k + 1]? = some (x, y)) (hy : s.pe[k]? = some (x', y')) (hlt : x < x') : s.check t = 80 := SS.check_bad (fun f => by
  obtain ⟨h1, e1⟩ := List.getElem?_eq_some_iff.1 hy
  obtain ⟨h2, e2⟩ := List.getElem?_eq_some_iff.1 hv
  have := List.pairwise_iff_getElem.1 f.ups k (k + 1) h1 h2 (by omega)
  rw [e1, e2] at this
  have h3 : x' ≤ x := this
  omega)
theorem take_snoc {s : SS} {x y : Int} {k : Nat} (hv : s.pe[k]? = some (x, y)) : (s.pe.take (k + 1)).map (·.2) = (s.pe.take k).map (·.2) ++ [y] := by
  rw [List.take_add_one, hv, Option.toList_some, List.map_append]
  rfl
theorem bad_known {s : SS} {t x y : Int} {k : Nat} (hv : s.pe[k]? = some (x, y)) (hk : SS.known ⟨0, s.fr, s.pe.take k⟩ y = true) : s.check t = 80 := SS.check_bad (fun f => by
  rcases (SS.known_iff _ y).1 hk with h | h
  · exact f.out (x, y) (List.mem_of_getElem? hv) h
  · have h1 : ((s.pe.take (k + 1)).map (·.2)).Nodup := ((List.take_sublist (k + 1) s.pe).map _).nodup f.once
    rw [take_snoc hv] at h1
    exact (List.nodup_append.1 h1).2.2 y h y (by simp) rfl)
theorem UpP.more {s : SS} {k : Nat} {x y : Int} (h : UpP s k) (hv : s.pe[k]? = some (x, y)) (hm : s.may y = true) (hk : SS.known ⟨0, s.fr, s.pe.take k⟩ y = false) (hx : ¬ x < 0) (hp : ∀ a ∈ s.pe.take k, a.1 ≤ x) : UpP s (k + 1) := by
  obtain ⟨k1, k2⟩ := SS.known_no hk
  refine ⟨?_, ?_, ?_⟩
  · rw [List.take_add_one, hv, Option.toList_some]
    refine List.pairwise_append.2 ⟨h.ups, by simp, fun a ha b hb => ?_⟩
    obtain rfl : b = (x, y) := by simpa using hb
    exact hp a ha
  · rw [List.take_add_one, hv, Option.toList_some]
    intro a ha
    rcases List.mem_append.1 ha with h1 | h1
    · exact h.all a h1
    · obtain rfl : a = (x, y) := by simpa using h1
      exact ⟨by show 0 ≤ x; omega, may_iff hm, k1⟩
  · rw [take_snoc hv]
    refine List.nodup_append.2 ⟨h.once, by simp, fun a ha b hb => ?_⟩
    obtain rfl : b = y := by simpa using hb
    intro e
    subst e
    exact k2 ha
theorem UpP.last {s : SS} {k : Nat} {x x' y' : Int} (h : UpP s (k + 1)) (hy : s.pe[k]? = some (x', y')) (hle : ¬ x < x') : ∀ a ∈ s.pe.take (k + 1), a.1 ≤ x := by
  have h1 := h.ups
  rw [List.take_add_one, hy, Option.toList_some] at h1 ⊢
  intro a ha
  rcases List.mem_append.1 ha with h2 | h2
  · have : a.1 ≤ x' := (List.pairwise_append.1 h1).2.2 a h2 (x', y') (by simp)
    omega
  · obtain rfl : a = (x', y') := by simpa using h2
    show x' ≤ x
    omega
theorem check_good {s : SS} {t : Int} {n m : Nat} (h1 : ¬ s.hi < 2) (h2 : ¬ t < s.hi) (hf : UpF s n) (hp : UpP s m) (hn : s.fr.length ≤ n) (hm : s.pe.length ≤ m) : s.check t = 0 := by
  obtain ⟨f1, f2⟩ := hf
  obtain ⟨p1, p2, p3⟩ := hp
  rw [List.take_of_length_le hn] at f1 f2
  rw [List.take_of_length_le hm] at p1 p2 p3
  exact SS.check_ok ⟨by omega, by omega, f1, f2, p1, fun x hx => (p2 x hx).1, fun x hx => (p2 x hx).2.1, fun x hx => (p2 x hx).2.2, p3⟩

end Go.Proofs.Ytlldmefjhgahdaa

/-
  What the document's own Check comes to.
-/
namespace Go.Proofs.Ytlldmefjhgahdaa
open Go.RowKit

set_option maxRecDepth 20000 in
set_option maxHeartbeats 6400000 in
theorem refCheck_any (s : SS) (t : Int) (A B : Option Addr) (n c m d : Nat) (w : World) (hs : Sp w A n c B m d s) (hn : n ≤ 400000) (hm : m ≤ 400000) :
    Calls Try.prog 22 #[.agg #[.int .i64 s.hi, .slice A n c, .slice B m d], .int .i64 t] w fun e w' => e = .returned (.int .i64 (s.check t)) ∧ Below w.heap.size w w' := by
  by_cases h1 : s.hi < 2
  · have HX := Lib.hid (SS.check_bad (s := s) (top := t) (fun f => by have := f.lo; omega))
    clear hs
    go_enter Try.func22, Try.ntmps22
    go_wp2_with fail
    go_ret
    exact ⟨ret_int HX.out.symm, below_one _ _⟩
  by_cases h2 : t < s.hi
  · have HX := Lib.hid (SS.check_bad (s := s) (top := t) (fun f => by have := f.hi; omega))
    clear hs
    go_enter Try.func22, Try.ntmps22
    go_wp2_with fail
    go_ret
    exact ⟨ret_int HX.out.symm, below_one _ _⟩
  have HS := Lib.hid (hs.kept (below_one w (.cells #[.int .i64 s.hi, .slice A n c, .slice B m d] 26)))
  have HB := Lib.hid (box_new w (.int .i64 s.hi) (.slice A n c) (.slice B m d))
  have B0 := Lib.hid (below_one w (.cells #[.int .i64 s.hi, .slice A n c, .slice B m d] 26))
  have HFL := Lib.hid hs.fl
  have HPL := Lib.hid hs.pl
  have HMD := Lib.hid hs.pe.le
  clear hs
  go_enter Try.func22, Try.ntmps22
  go_wp2_with fail
  generalize w.alloc (.cells #[.int .i64 s.hi, .slice A n c, .slice B m d] 26) = w0 at *
  go_loopw [5] (fun i wk => ∃ k : Nat, k ≤ n ∧ i = .int .i64 k ∧ Hid (UpF s k) ∧ Hid (Below w0.heap.size w0 wk)) (fun i _ => n - (intOf i).toNat)
  case atStart => exact ⟨0, Nat.zero_le _, rfl, Lib.hid (UpF.start s), Lib.hid (Below.refl _ _)⟩
  case round =>
    obtain ⟨k, hk, rfl, HU, B1⟩ := hrel
    obtain ⟨a0, a1, a2⟩ := (HB.out.kept B1.out).cells
    by_cases hlt : k < n
    · obtain ⟨b, off, x, rfl, hv, c0⟩ := (HS.out.fr.kept B1.out).intAt hlt
      have C0 := Lib.hid c0
      have HV := Lib.hid hv
      have hcl : b < wr.heap.size := World.block_lt_of_cell? _ _ c0
      have i1 : (0 : Int) ≤ (k : Int) := by omega
      have i2 : (k : Int) < (n : Int) := by omega
      have K0 : wr.drew.cell? ⟨w.heap.size, 0, none⟩ = some (.int .i64 s.hi) ∧ wr.drew.cell? ⟨w.heap.size, 1, none⟩ = some (.slice (some ⟨b, off, none⟩) n c) ∧ wr.drew.cell? ⟨w.heap.size, 2, none⟩ = some (.slice B m d) ∧ wr.drew.cell? ⟨b, off + k, none⟩ = some (.int .i64 x) := ⟨a0, a1, a2, c0⟩
      clear hv c0
      go_wp2_with fail
      clear a0 a1 a2
      go_region_held3 (fun w' => w'.cell? ⟨w.heap.size, 0, none⟩ = some (.int .i64 s.hi) ∧ w'.cell? ⟨w.heap.size, 1, none⟩ = some (.slice (some ⟨b, off, none⟩) n c) ∧ w'.cell? ⟨w.heap.size, 2, none⟩ = some (.slice B m d) ∧ w'.cell? ⟨b, off + k, none⟩ = some (.int .i64 x))
        (first | exact K2 | exact K0)
        (first
          | (go_at_call 35; refine (refMay_any s s.hi x (some ⟨b, off, none⟩) B n c m d _ rfl).mono ?_; rintro e1 wa ⟨rfl, ba⟩; have BA := Lib.hid ((Below.refl wr.heap.size wr).drew.trans (ba.mono (Nat.le_refl _))); have B2 := Lib.hid (B1.out.trans (BA.out.mono B1.out.size)); obtain ⟨e0, e1, e2⟩ := (HB.out.kept B2.out).cells; have K2 : wa.cell? ⟨w.heap.size, 0, none⟩ = some (.int .i64 s.hi) ∧ wa.cell? ⟨w.heap.size, 1, none⟩ = some (.slice (some ⟨b, off, none⟩) n c) ∧ wa.cell? ⟨w.heap.size, 2, none⟩ = some (.slice B m d) ∧ wa.cell? ⟨b, off + k, none⟩ = some (.int .i64 x) := ⟨e0, e1, e2, (BA.out.cell (p := ⟨b, off + k, none⟩) hcl).trans C0.out⟩)
          | fail)
      clear K0
      obtain ⟨_, _, _, c0⟩ := K2
      cases hp : s.may x with
      | false =>
        have HX := Lib.hid (bad_may (t := t) HV.out hp)
        clear hp
        go_wp2_with fail
        go_quiet (fail)
        go_wp2_with fail
        go_ret
        exact ⟨ret_int HX.out.symm, belowN (B0.out.trans (B2.out.mono B0.out.size)) _⟩
      | true =>
        have HP := Lib.hid hp
        clear hp
        rcases k with _ | j
        · have HM := Lib.hid (HU.out.more HV.out HP.out (fun a ha => absurd ha (by simp)))
          go_wp2_with fail
          go_quiet (fail)
          go_wp2_with fail
          go_roundw
          case rel => exact ⟨1, by omega, by go_num, HM, Lib.hid (belowN B2.out _)⟩
          case measure => simp [intOf]; omega
        · obtain ⟨b', off', y, e9, hy, c1⟩ := (HS.out.fr.kept B2.out).intAt (k := j) (by omega)
          have e8 := Option.some.inj e9
          injection e8 with e6 e7
          subst e6
          subst e7
          clear e9
          have HY := Lib.hid hy
          clear hy
          have j1 : wrap64 (((j + 1 : Nat) : Int) - 1) = (j : Int) := by unfold wrap64; omega
          have j2 : IntKind.i64.wrap (((j + 1 : Nat) : Int) - 1) = (j : Int) := by rw [show ((j + 1 : Nat) : Int) - 1 = (j : Int) by omega]; exact IntWalk.i64_in _ (by omega)
          have j3 : (0 : Int) ≤ (j : Int) := by omega
          have j4 : (j : Int) < (n : Int) := by omega
          have j5 : decide ((0 : Int) < ((j + 1 : Nat) : Int)) = true := decide_eq_true (by omega)
          by_cases hxy : y < x
          · have HM := Lib.hid (HU.out.more HV.out HP.out (HU.out.last HY.out hxy))
            have hb : (decide (x ≤ y)) = false := decide_eq_false (by omega)
            go_wp2_with fail
            go_quiet (fail)
            go_wp2_with fail
            go_roundw
            case rel => exact ⟨j + 2, by omega, by go_num, HM, Lib.hid (belowN B2.out _)⟩
            case measure => simp [intOf]; omega
          · have HX := Lib.hid (bad_up (t := t) HV.out HY.out (by omega))
            have hb : (decide (x ≤ y)) = true := decide_eq_true (by omega)
            go_wp2_with fail
            go_quiet (fail)
            go_wp2_with fail
            go_ret
            exact ⟨ret_int HX.out.symm, belowN (B0.out.trans (B2.out.mono B0.out.size)) _⟩
    · obtain rfl : n = k := by omega
      go_wp2_with fail
      go_loopw [7] (fun i wk => ∃ k : Nat, k ≤ m ∧ i = .int .i64 k ∧ Hid (UpP s k) ∧ Hid (Below w0.heap.size w0 wk)) (fun i _ => m - (intOf i).toNat)
      case atStart => exact ⟨0, Nat.zero_le _, rfl, Lib.hid (UpP.start s), B1⟩
      case round =>
        clear a0 a1 a2 B1
        obtain ⟨k, hk, rfl, HQ, B1⟩ := hrel
        obtain ⟨a0, a1, a2⟩ := (HB.out.kept B1.out).cells
        by_cases hlt : k < m
        · obtain ⟨b, off, x, y, rfl, hv, c0, c1⟩ := (HS.out.pe.kept B1.out).prAt hlt
          have C0 := Lib.hid c0
          have C1 := Lib.hid c1
          have HV := Lib.hid hv
          have hmd := HMD.out
          have hcl : b < wr.heap.size := World.block_lt_of_cell? _ _ c0
          have i1 : (0 : Int) ≤ (k : Int) := by omega
          have i2 : (k : Int) < (m : Int) := by omega
          have i3 : (k : Int) ≤ (d : Int) := by omega
          have i4 : (k : Int) ≤ (m : Int) := by omega
          have HSK : Hid (Sp w0 A n c (some ⟨b, off, none⟩) k d ⟨0, s.fr, s.pe.take k⟩) := Lib.hid ⟨HS.out.fr, HS.out.pe.prTake hk⟩
          have K0 : wr.drew.cell? ⟨w.heap.size, 0, none⟩ = some (.int .i64 s.hi) ∧ wr.drew.cell? ⟨w.heap.size, 1, none⟩ = some (.slice A n c) ∧ wr.drew.cell? ⟨w.heap.size, 2, none⟩ = some (.slice (some ⟨b, off, none⟩) m d) ∧ wr.drew.cell? ⟨b, off + k * 2 + 1, none⟩ = some (.int .i64 y) := ⟨a0, a1, a2, c1⟩
          clear hv c0 c1
          go_wp2_with fail
          clear a0 a1 a2
          go_region_held3 (fun w' => w'.cell? ⟨w.heap.size, 0, none⟩ = some (.int .i64 s.hi) ∧ w'.cell? ⟨w.heap.size, 1, none⟩ = some (.slice A n c) ∧ w'.cell? ⟨w.heap.size, 2, none⟩ = some (.slice (some ⟨b, off, none⟩) m d) ∧ w'.cell? ⟨b, off + k * 2 + 1, none⟩ = some (.int .i64 y))
            (first | exact K2 | exact K0)
            (first
              | (go_at_call 35; refine (refMay_any s s.hi y A (some ⟨b, off, none⟩) n c m d _ rfl).mono ?_; rintro e1 wa ⟨rfl, ba⟩; have BA := Lib.hid ((Below.refl wr.heap.size wr).drew.trans (ba.mono (Nat.le_refl _))); have B2 := Lib.hid (B1.out.trans (BA.out.mono B1.out.size)); obtain ⟨e0, e1, e2⟩ := (HB.out.kept B2.out).cells; have K2 : wa.cell? ⟨w.heap.size, 0, none⟩ = some (.int .i64 s.hi) ∧ wa.cell? ⟨w.heap.size, 1, none⟩ = some (.slice A n c) ∧ wa.cell? ⟨w.heap.size, 2, none⟩ = some (.slice (some ⟨b, off, none⟩) m d) ∧ wa.cell? ⟨b, off + k * 2 + 1, none⟩ = some (.int .i64 y) := ⟨e0, e1, e2, (BA.out.cell (p := ⟨b, off + k * 2 + 1, none⟩) hcl).trans C1.out⟩)
              | fail)
          clear K0 K2 e0 e1 e2
          have hca : b < wa.heap.size := Nat.lt_of_lt_of_le hcl BA.out.size
          have C0a := Lib.hid ((BA.out.cell (p := ⟨b, off + k * 2, none⟩) hcl).trans C0.out)
          have C1a := Lib.hid ((BA.out.cell (p := ⟨b, off + k * 2 + 1, none⟩) hcl).trans C1.out)
          obtain ⟨a0, a1, a2⟩ := (HB.out.kept B2.out).cells
          have K0 : wa.drew.cell? ⟨w.heap.size, 1, none⟩ = some (.slice A n c) ∧ wa.drew.cell? ⟨w.heap.size, 2, none⟩ = some (.slice (some ⟨b, off, none⟩) m d) ∧ wa.drew.cell? ⟨b, off + k * 2 + 1, none⟩ = some (.int .i64 y) := ⟨a1, a2, C1a.out⟩
          go_wp2_with fail
          clear a0 a1 a2
          go_region_held3 (fun w' => w'.cell? ⟨w.heap.size, 1, none⟩ = some (.slice A n c) ∧ w'.cell? ⟨w.heap.size, 2, none⟩ = some (.slice (some ⟨b, off, none⟩) m d) ∧ w'.cell? ⟨b, off + k * 2 + 1, none⟩ = some (.int .i64 y))
            (first | exact K2 | exact K0)
            (first
              | (go_at_call 29; refine (refKnown_any ⟨0, s.fr, s.pe.take k⟩ 0 y A (some ⟨b, off, none⟩) n c k d _ (HSK.out.kept (B2.out.drew)) (by omega) (by omega)).mono ?_; rintro e1 wc ⟨rfl, bc⟩; have BC := Lib.hid ((Below.refl wa.heap.size wa).drew.trans (bc.mono (Nat.le_refl _))); have B3 := Lib.hid (B2.out.trans (BC.out.mono B2.out.size)); obtain ⟨e0, e1, e2⟩ := (HB.out.kept B3.out).cells; have K2 : wc.cell? ⟨w.heap.size, 1, none⟩ = some (.slice A n c) ∧ wc.cell? ⟨w.heap.size, 2, none⟩ = some (.slice (some ⟨b, off, none⟩) m d) ∧ wc.cell? ⟨b, off + k * 2 + 1, none⟩ = some (.int .i64 y) := ⟨e1, e2, (BC.out.cell (p := ⟨b, off + k * 2 + 1, none⟩) hca).trans C1a.out⟩)
              | fail)
          clear K0 K2
          have c0 := (BC.out.cell (p := ⟨b, off + k * 2, none⟩) hca).trans C0a.out
          have B4 := Lib.hid (B0.out.trans (B3.out.mono B0.out.size))
          cases hp : s.may y with
          | false =>
            have HX := Lib.hid (bad_mayP (t := t) HV.out hp)
            clear hp
            go_wp2_with fail
            go_quiet (fail)
            go_wp2_with fail
            go_ret
            exact ⟨ret_int HX.out.symm, belowN B4.out _⟩
          | true =>
            have HP := Lib.hid hp
            clear hp
            cases hkn : SS.known ⟨0, s.fr, s.pe.take k⟩ y with
            | true =>
              have HX := Lib.hid (bad_known (t := t) HV.out hkn)
              clear hkn
              go_wp2_with fail
              go_quiet (fail)
              go_wp2_with fail
              go_ret
              exact ⟨ret_int HX.out.symm, belowN B4.out _⟩
            | false =>
              have HK := Lib.hid hkn
              clear hkn
              by_cases hx0 : x < 0
              · have HX := Lib.hid (bad_pos (t := t) HV.out hx0)
                have hb : (decide (x < 0)) = true := decide_eq_true hx0
                go_wp2_with fail
                go_quiet (fail)
                go_wp2_with fail
                go_ret
                exact ⟨ret_int HX.out.symm, belowN B4.out _⟩
              · have hb : (decide (x < 0)) = false := decide_eq_false hx0
                rcases k with _ | j
                · have HM := Lib.hid (HQ.out.more HV.out HP.out HK.out hx0 (fun a ha => absurd ha (by simp)))
                  have c0' : wc.cell? ⟨b, off, none⟩ = some (.int .i64 x) := c0
                  go_wp2_with fail
                  go_quiet (fail)
                  go_wp2_with fail
                  go_roundw
                  case rel => exact ⟨1, by omega, by go_num, HM, Lib.hid (belowN B3.out _)⟩
                  case measure => simp [intOf]; omega
                · obtain ⟨b', off', x', y', e9, hy, c2, _⟩ := (HS.out.pe.kept B3.out).prAt (k := j) (by omega)
                  have e8 := Option.some.inj e9
                  injection e8 with e6 e7
                  subst e6
                  subst e7
                  clear e9
                  have HY := Lib.hid hy
                  clear hy
                  have j1 : wrap64 (((j + 1 : Nat) : Int) - 1) = (j : Int) := by unfold wrap64; omega
                  have j2 : IntKind.i64.wrap (((j + 1 : Nat) : Int) - 1) = (j : Int) := by rw [show ((j + 1 : Nat) : Int) - 1 = (j : Int) by omega]; exact IntWalk.i64_in _ (by omega)
                  have j3 : (0 : Int) ≤ (j : Int) := by omega
                  have j4 : (j : Int) < (m : Int) := by omega
                  by_cases hxy : x < x'
                  · have HX := Lib.hid (bad_age (t := t) HV.out HY.out hxy)
                    have hb' : (decide (x < x')) = true := decide_eq_true hxy
                    go_wp2_with fail
                    go_quiet (fail)
                    go_wp2_with fail
                    go_ret
                    exact ⟨ret_int HX.out.symm, belowN B4.out _⟩
                  · have HM := Lib.hid (HQ.out.more HV.out HP.out HK.out hx0 (HQ.out.last HY.out hxy))
                    have hb' : (decide (x < x')) = false := decide_eq_false hxy
                    go_wp2_with fail
                    go_quiet (fail)
                    go_wp2_with fail
                    go_roundw
                    case rel => exact ⟨j + 2, by omega, by go_num, HM, Lib.hid (belowN B3.out _)⟩
                    case measure => simp [intOf]; omega
        · obtain rfl : m = k := by omega
          have HX := Lib.hid (check_good (t := t) (by omega) (by omega) HU.out HQ.out (by rw [HFL.out]; exact Nat.le_refl _) (by rw [HPL.out]; exact Nat.le_refl _))
          go_wp2_with fail
          go_ret
          exact ⟨ret_int HX.out.symm, B0.out.trans (B1.out.mono B0.out.size)⟩
end Go.Proofs.Ytlldmefjhgahdaa

/-
  A list of lists of bytes that comes in.
-/
namespace Go.Proofs.Ytlldmefjhgahdaa
open Go.ChangeShapes Go.WideShapes Go.ChangeAt Go.RowKit Go.Joins Go.Deep

/-- One list of bytes, and where it lies. -/
structure Tx where
  A : Option Addr
  n : Nat
  c : Nat
  l : List UInt8

structure TxAt (w : World) (R : Nat) (t : Tx) : Prop where
  len : t.l.length = t.n
  bys : Bys w R t.A t.l
  le : t.n ≤ t.c
  max : t.c ≤ maxLen
  nil : t.A = none → t.n = 0 ∧ t.c = 0

/-- Lists of bytes below R. -/
def Texts (w : World) (R : Nat) (A : Option Addr) (l : List Tx) : Prop :=
  l = [] ∨ ∃ b off, A = some ⟨b, off, none⟩ ∧ b < R ∧ ∀ i t, l[i]? = some t → TxAt w R t ∧ w.cell? ⟨b, off + i, none⟩ = some (.slice t.A t.n t.c)

section
variable {w w' : World} {R : Nat} {A : Option Addr}
theorem TxAt.below {t : Tx} (h : TxAt w R t) (hb : Below R w w') : TxAt w' R t := { h with bys := h.bys.below hb }

theorem Texts.below {l : List Tx} (h : Texts w R A l) (hb : Below R w w') : Texts w' R A l := by
  rcases h with rfl | ⟨b, off, rfl, hR, hc⟩
  · exact Or.inl rfl
  · refine Or.inr ⟨b, off, rfl, hR, fun i t hi => ?_⟩
    obtain ⟨h1, h2⟩ := hc i t hi
    exact ⟨h1.below hb, (hb.cell (p := ⟨b, _, none⟩) hR).trans h2⟩

theorem Texts.at_ {l : List Tx} (h : Texts w R A l) {k : Nat} (hk : k < l.length) :
    ∃ b off t, A = some ⟨b, off, none⟩ ∧ b < R ∧ l[k]? = some t ∧ TxAt w R t ∧ w.cell? ⟨b, off + k, none⟩ = some (.slice t.A t.n t.c) := by
  rcases h with rfl | ⟨b, off, rfl, hR, hc⟩
  · exact absurd hk (by simp)
  · exact ⟨b, off, l[k], rfl, hR, List.getElem?_eq_getElem hk, hc k _ (List.getElem?_eq_getElem hk)⟩
end

section
variable {H : Type} {enc : TypeId × Value → H} {w : World} {base : Nat} {spare : Nat → Bool} {held : Bool}

set_option maxRecDepth 20000 in
/-- Lists of bytes that come in. -/
theorem open_texts {v : Value} {d : DataW H} {p : List MemPlace} {r : Reach} {b0 : Nat} (hv : Value.okWide Try.prog w r b0 39 v) (h : DataW.Trod enc Try.prog w base spare held 39 v d p) :
    ∃ (A : Option Addr) (n c : Nat) (l : List Tx), v = .slice A n c ∧ l.length = n ∧ Texts w w.heap.size A l ∧ n ≤ maxLen := by
  obtain ⟨A, n, c, rfl⟩ := okWide_slice Try.underlying39 hv
  obtain ⟨fuel, hf⟩ := h
  rcases open_slice Try.underlying39 hf with ⟨hcs, _⟩ | ⟨a, len, cap, m, f, D, Pl, hcs, _, hl, hcm, hm, _, hi⟩
  · simp [Value.cells] at hcs
    obtain ⟨rfl, rfl, rfl⟩ := hcs
    exact ⟨none, 0, 0, [], rfl, rfl, Or.inl rfl, Nat.zero_le _⟩
  · simp [Value.cells] at hcs
    obtain ⟨rfl, rfl, rfl⟩ := hcs
    have hlm : n ≤ m := by rw [hm]; split <;> omega
    have each : ∀ i, i < n → ∃ t : Tx, TxAt w w.heap.size t ∧ w.cell? (a.add i) = some (.slice t.A t.n t.c) := by
      intro i hin
      obtain ⟨cs', hc, ht⟩ := hi i (by omega)
      rw [bytesCells1] at hc
      obtain ⟨hlen, _, hat⟩ := World.cells?_some hc
      have h0 := hat 0 (by omega)
      rw [Nat.mul_one] at h0
      obtain ⟨x, hx⟩ : ∃ x, cs' = [x] := by
        match cs', hlen with
        | [x], _ => exact ⟨x, rfl⟩
      subst hx
      obtain ⟨bA, bn, bc, bl, e, r1, r2, r3, r4, r5⟩ := bytes_of ht
      refine ⟨⟨bA, bn, bc, bl⟩, ⟨r1, r2, r3, r4, r5⟩, ?_⟩
      rw [e] at h0
      simpa [Addr.add] using h0
    obtain ⟨xs, hlen, hx⟩ := pick_each (fun i (t : Tx) => TxAt w w.heap.size t ∧ w.cell? (a.add i) = some (.slice t.A t.n t.c)) (fun v => v) n each
    refine ⟨_, _, _, xs, rfl, hlen, ?_, Nat.le_trans hl hcm⟩
    by_cases hx0 : xs = []
    · exact Or.inl hx0
    · right
      obtain ⟨b, off, spot⟩ := a
      have hpos : 0 < xs.length := by
        rcases xs with _ | ⟨y, ys⟩
        · exact absurd rfl hx0
        · simp
      have h00 := (hx 0 _ (List.getElem?_eq_getElem hpos)).2
      have hs : spot = none := by
        simpa [Addr.add] using World.cell?_spot h00
      subst hs
      refine ⟨b, off, rfl, ?_, fun i t hc => ?_⟩
      · rw [add_at] at h00
        exact World.block_lt_of_cell? _ _ h00
      · obtain ⟨g0, g1⟩ := hx i t hc
        rw [add_at] at g1
        exact ⟨g0, g1⟩
end
end Go.Proofs.Ytlldmefjhgahdaa

/-
  What the document's own Parts, and the statements' own short, come to at lists of lists of bytes.
-/
namespace Go.Proofs.Ytlldmefjhgahdaa
open Go.RowKit

theorem list_ne {l m : List UInt8} (h : ¬ l = m) : (l == m) = false := by simpa using h

set_option maxRecDepth 20000 in
set_option maxHeartbeats 1600000 in
theorem parts_any (A B : Option Addr) (n c m d : Nat) (ps qs : List (List UInt8)) (w : World) (ha : Bps w A ps) (hb : Bps w B qs) (hn : ps.length = n) (hm : qs.length = m) (hn2 : n ≤ 1000000) :
    Calls Try.prog 26 #[.slice A n c, .slice B m d] w fun e w' => e = .returned (.bool (decide (ps = qs))) ∧ Below w.heap.size w w' := by
  have HA := Lib.hid ha
  have HB := Lib.hid hb
  have HN := Lib.hid hn
  have HM := Lib.hid hm
  clear ha hb
  by_cases hl : n = m
  · have hl' : ((n : Int) != (m : Int)) = false := by simp [hl]
    have HL := Lib.hid hl
    clear hn hm
    go_enter Try.func26, Try.ntmps26
    clear hl
    go_wp2_with fail
    go_loopw [5] (fun i wr => ∃ k : Nat, k ≤ n ∧ i = .int .i64 k ∧ Hid (ps.take k = qs.take k) ∧ Hid (Below w.heap.size w wr)) (fun i _ => n - (intOf i).toNat)
    case atStart => exact ⟨0, Nat.zero_le _, rfl, Lib.hid (by simp), Lib.hid (Below.refl _ _)⟩
    case round =>
      obtain ⟨k, hk, rfl, hpre, B1⟩ := hrel
      by_cases hlt : k < n
      · obtain ⟨b, off, p, A', c', rfl, hp, c0, l0⟩ := (HA.out.kept B1.out).at_ (k := k) (by rw [HN.out]; exact hlt)
        have hlt2 : k < m := by rw [← HL.out]; exact hlt
        obtain ⟨b2, off2, q, B', d', rfl, hq, c1, l1⟩ := (HB.out.kept B1.out).at_ (k := k) (by rw [HM.out]; exact hlt2)
        have HP := Lib.hid hp
        have HQ := Lib.hid hq
        have hlt3 : (k : Int) < (m : Int) := by omega
        have i0 : (0 : Int) ≤ (k : Int) := by omega
        have t1 := fun n => run_text (P := Try.prog) (w := wr.drewN n) (R := wr.heap.size) (show Bys (wr.drewN n) wr.heap.size A' p from l0.bys) 59 9 5 p.length c' rfl Try.underlying59 Try.underlying5 Try.underlying9
        have t2 := fun n => run_text (P := Try.prog) (w := wr.drewN n) (R := wr.heap.size) (show Bys (wr.drewN n) wr.heap.size B' q from l1.bys) 59 9 5 q.length d' rfl Try.underlying59 Try.underlying5 Try.underlying9
        clear hp hq l0 l1
        by_cases hpq : p = q
        · subst hpq
          have HX := Lib.hid (bps_more hpre.out HP.out HQ.out)
          clear HP HQ hpre
          go_wp2_with fail
          go_quiet (fail)
          clear t1 t2 c0 c1
          go_wp2_with fail
          go_roundw
          case rel => exact ⟨k + 1, by omega, by go_num, HX, Lib.hid (belowN B1.out _)⟩
          case measure => simp [intOf]; omega
        · have HX : Hid (decide (ps = qs) = false) := Lib.hid (decide_eq_false (fun e => hpq (by have h1 := HP.out; rw [e, HQ.out] at h1; exact (Option.some.inj h1).symm)))
          have b1 := list_ne hpq
          clear hpq
          go_wp2_with fail
          go_quiet (fail)
          clear t1 t2 c0 c1
          go_wp2_with fail
          go_ret
          exact ⟨ret_bool HX.out.symm, belowN B1.out _⟩
      · obtain rfl : n = k := by omega
        have HX : Hid (decide (ps = qs) = true) := Lib.hid (decide_eq_true (by
          have := hpre.out
          rw [List.take_of_length_le (by rw [HN.out]; exact Nat.le_refl _), List.take_of_length_le (by rw [HM.out, HL.out]; exact Nat.le_refl _)] at this
          exact this))
        go_wp2_with fail
        go_ret
        exact ⟨ret_bool HX.out.symm, B1.out⟩
  · have hl' : ((n : Int) != (m : Int)) = true := by simp; omega
    have HX : Hid (decide (ps = qs) = false) := Lib.hid (decide_eq_false (fun e => hl (by rw [← hn, ← hm, e])))
    clear hn hm
    go_enter Try.func26, Try.ntmps26
    clear hl
    go_wp2_with fail
    go_ret
    exact ⟨ret_bool HX.out.symm, Below.refl _ _⟩

/-- At most five parts, of at most two thousand bytes each. -/
def Short (ps : List (List UInt8)) (k : Nat) : Prop := ∀ p ∈ ps.take k, p.length ≤ 2000
theorem Short.more {ps : List (List UInt8)} {k : Nat} {p : List UInt8} (h : Short ps k) (hp : ps[k]? = some p) (hl : p.length ≤ 2000) : Short ps (k + 1) := by
  unfold Short
  rw [List.take_add_one, hp, Option.toList_some]
  intro q hq
  rcases List.mem_append.1 hq with hq | hq
  · exact h q hq
  · obtain rfl : q = p := by simpa using hq
    exact hl
theorem short_flat : ∀ {ps : List (List UInt8)}, (∀ p ∈ ps, p.length ≤ 2000) → ps.flatten.length ≤ 2000 * ps.length
  | [], _ => by simp
  | p :: ps, h => by
    rw [List.flatten_cons, List.length_append, List.length_cons]
    have := short_flat (ps := ps) (fun q hq => h q (by simp [hq]))
    have := h p (by simp)
    omega

set_option maxRecDepth 20000 in
set_option maxHeartbeats 800000 in
theorem short_any (A : Option Addr) (n c : Nat) (ps : List (List UInt8)) (w : World) (ha : Bps w A ps) (hn : ps.length = n) :
    Calls Try.prog 23 #[.slice A n c] w fun e w' => (∃ r : Bool, e = .returned (.bool r) ∧ (r = true → n ≤ 5 ∧ Short ps n)) ∧ w' = w := by
  have HA := Lib.hid ha
  have HN := Lib.hid hn
  clear ha hn
  by_cases h5 : n ≤ 5
  · go_enter Try.func23, Try.ntmps23
    go_wp2_with fail
    obtain ⟨wo, rfl⟩ : ∃ wo : World, wo = w := ⟨_, rfl⟩
    go_loopw [3] (fun i wr => ∃ k : Nat, k ≤ n ∧ i = .int .i64 k ∧ Hid (Short ps k) ∧ wr = wo) (fun i _ => n - (intOf i).toNat)
    case atStart => exact ⟨0, Nat.zero_le _, rfl, Lib.hid (by simp [Short]), rfl⟩
    case round =>
      obtain ⟨k, hk, rfl, HS, hw⟩ := hrel
      have hw' := hw.symm
      subst hw'
      clear hw
      by_cases hlt : k < n
      · obtain ⟨b, off, p, A', c', rfl, hp, c0, _⟩ := HA.out.at_ (k := k) (by rw [HN.out]; exact hlt)
        by_cases hpl : p.length ≤ 2000
        · have HX := Lib.hid (HS.out.more hp hpl)
          clear hp HS
          go_wp2_with fail
          go_roundw
          case rel => exact ⟨k + 1, by omega, by go_num, HX, trivial⟩
          case measure => simp [intOf]; omega
        · clear hp HS
          go_wp2_with fail
          go_ret
          exact ⟨⟨false, rfl, fun e => by cases e⟩, rfl⟩
      · obtain rfl : n = k := by omega
        go_wp2_with fail
        go_ret
        exact ⟨⟨true, rfl, fun _ => ⟨h5, HS.out⟩⟩, rfl⟩
  · go_enter Try.func23, Try.ntmps23
    go_wp2_with fail
    go_ret
    exact ⟨⟨false, rfl, fun e => by cases e⟩, rfl⟩

/-- Lists of bytes that come in. -/
theorem Texts.bps {w : World} {R : Nat} {A : Option Addr} {l : List Tx} (h : Texts w R A l) : Bps w A (l.map Tx.l) := by
  rcases h with rfl | ⟨b, off, rfl, _, hc⟩
  · exact Or.inl rfl
  · refine Or.inr ⟨b, off, rfl, fun i p hp => ?_⟩
    rw [List.getElem?_map] at hp
    obtain ⟨t, ht, rfl⟩ := Option.map_eq_some_iff.1 hp
    obtain ⟨h1, h2⟩ := hc i t ht
    refine ⟨t.A, t.c, by rw [h1.len]; exact h2, ?_⟩
    rw [h1.len]
    refine ⟨by rw [bv_length, h1.len, Nat.mul_one], h1.le, h1.nil, fun ad e j u hu => ?_⟩
    have hb := h1.bys
    rw [e] at hb
    exact hb.cells j u hu
end Go.Proofs.Ytlldmefjhgahdaa

/-
  What the document's own Decode comes to.
-/
namespace Go.Proofs.Ytlldmefjhgahdaa
open Go.RowKit

set_option maxRecDepth 20000 in
set_option maxHeartbeats 12800000 in
theorem refDecode_any (A : Option Addr) (n c : Nat) (ps : List (List UInt8)) (w : World) (hp : Bps w A ps) (hn : ps.length = n) (hm : n ≤ 100000) (hf : ps.flatten.length ≤ 100000) :
    Calls Try.prog 25 #[.slice A n c] w (SpEnd w (SS.decE ps) (SS.decS ps)) := by
  obtain ⟨i1, hi1, hy0, hy1, hy2⟩ := info_parts intInfo
  obtain ⟨i0, hi, hz0, hz1, hz2⟩ := info_parts freedInfo
  have B0 := Lib.hid (below_one w (.cells #[.int .i64 0, .slice none 0 0, .slice none 0 0] 26))
  have HR := Lib.hid (box_new w (.int .i64 0) (.slice none 0 0) (.slice none 0 0))
  have HP0 := Lib.hid hp
  have HP := Lib.hid (hp.kept B0.out)
  have HN := Lib.hid hn
  have HF := Lib.hid hf
  clear hp hn hf
  go_enter Try.func25, Try.ntmps25
  go_upto_region 1 with fail
  generalize w.alloc (.cells #[.int .i64 0, .slice none 0 0, .slice none 0 0] 26) = w0 at *
  go_wp2_with fail
  go_loopw [4, 5] (fun v i wk => ∃ (k : Nat) (lk : List Int), k ≤ n ∧ i = .int .i64 k ∧ Hid (SS.rds (ps.take k) = some lk) ∧ Hid (wk.ownsRow w0.heap.size 3 1 v lk.length (intVals lk)) ∧ Hid (Below w0.heap.size w0 wk)) (fun _ i _ => n - (intOf i).toNat)
  case atStart => exact ⟨0, [], Nat.zero_le _, rfl, Lib.hid rfl, Lib.hid (World.ownsRow_nil _ _ _ _), Lib.hid (Below.refl _ _)⟩
  case round =>
    obtain ⟨k, lk, hk, rfl, HD, HO, B1⟩ := hrel
    have hlk : lk.length ≤ 25000 := by
      have h1 := rd_length (SS.rds_rd _ _ HD.out)
      have h2 : (ps.take k).flatten.length ≤ ps.flatten.length := by
        conv => rhs; rw [← List.take_append_drop k ps, List.flatten_append, List.length_append]
        omega
      have := HF.out
      omega
    by_cases hlt : k < n
    · obtain ⟨b, off, p, A', c', rfl, hp, c0, l0⟩ := (HP.out.kept B1.out).at_ (k := k) (by rw [HN.out]; exact hlt)
      have i0' : (0 : Int) ≤ (k : Int) := by omega
      have i2' : (k : Int) < (n : Int) := by omega
      have L0 := Lib.hid l0
      have HPk := Lib.hid hp
      have hpl : p.length ≤ 100000 := by
        have h1 : p.length ≤ ps.flatten.length := by
          obtain ⟨a, b, rfl⟩ := List.append_of_mem (List.mem_of_getElem? hp)
          simp
          omega
        have := HF.out
        omega
      clear l0 hp
      go_wp2_with fail
      refine (frefRead_any A' p.length c' p wr rfl L0.out.bys (by omega)).mono ?_
      rintro e w2 ⟨v2, rfl, o2, b2⟩
      have B2 := Lib.hid (B1.out.trans (b2.mono B1.out.size))
      have O2 := Lib.hid o2
      have HO2 := Lib.hid (row_below HO.out b2)
      clear o2 b2 c0
      cases hrd : rd p with
      | none =>
        have HE : rdE p = 50 := by unfold rdE; rw [hrd]; rfl
        rw [HE]
        have DN := Lib.hid (SS.dec_rds_none (rds_none hrd (List.mem_of_getElem? HPk.out)))
        have BZ := Lib.hid (B0.out.trans (B2.out.mono B0.out.size))
        have RZ := Lib.hid (HR.out.kept B2.out)
        clear HE hrd
        have HZ := Lib.hid (dec_zero DN.out BZ.out)
        obtain ⟨q0, q1, q2⟩ := RZ.out.cells
        obtain ⟨f0, f1, f2⟩ := RZ.out.free
        obtain ⟨e0, e1, e2⟩ := (RZ.out.put (.int .i64 0) (.slice none 0 0) (.slice none 0 0)).cells
        go_wp2_with fail
        refine bodyPost_ret (v := .tuple #[.agg #[.int .i64 0, .slice none 0 0, .slice none 0 0], .int .i64 80]) (by simp [results, Try.results25, go_sem, e0, e1, e2]) rfl ?_
        exact HZ.out
      | some x =>
        have HE : rdE p = 0 := by unfold rdE; rw [hrd]; rfl
        rw [HE]
        have o2 := O2.out
        rw [show rdL p = x by unfold rdL; rw [hrd]; rfl] at o2
        obtain ⟨A3, c3, rfl, _, l3⟩ := Ln.of_own o2
        have HS : Hid (SS.rds (ps.take (k + 1)) = some (lk ++ x)) := Lib.hid (by rw [List.take_add_one, HPk.out, Option.toList_some]; exact rds_snoc hrd HD.out)
        have hx : x.length ≤ 25000 := by
          have := rd_length hrd
          omega
        have ho := HO2.out
        have bs := B2.out.size
        clear HE hrd o2
        go_wp2_with (at_builtin; refine wpList_append_lay _ rfl (.tmp 30) (.tmp 31) 23 rfl w0.heap.size 3 i1 (.int .i64 0) 1 8 Try.underlying23 hi1 hy0 hy1 hy2 rfl (by decide) _ _ _ rfl ho A3 x.length c3 (intVals x) rfl l3.len l3.lies (intVals_one _) (by unfold maxLen; omega) (by omega) bs ?_; intro v4 w4 hown4 hg4)
        have O4 : Hid (w4.ownsRow w0.heap.size 3 1 v4 (lk ++ x).length (intVals (lk ++ x))) := Lib.hid (by rw [List.length_append, sIntVals_append]; exact hown4)
        have B4 : Hid (Below w0.heap.size w0 w4) := Lib.hid (B2.out.grown hg4 bs (fun g hg => (ho.lt g hg).1))
        clear hown4 hg4 ho HO2 O2 B2
        go_roundw
        case rel => exact ⟨k + 1, lk ++ x, by omega, by go_num, HS, O4, B4⟩
        case measure => simp [intOf]; omega
    · obtain rfl : n = k := by omega
      have HRd : Hid (SS.rds ps = some lk) := Lib.hid (by have := HD.out; rw [List.take_of_length_le (by rw [HN.out]; exact Nat.le_refl _)] at this; exact this)
      have HRg := Lib.hid (SS.rd_range _ _ (SS.rds_rd _ _ HRd.out))
      obtain ⟨wl, hwl⟩ : ∃ wl : World, wl = wr := ⟨_, rfl⟩
      subst hwl
      obtain ⟨A4, c4, rfl, _, l4⟩ := Ln.of_own HO.out
      have L4 := Lib.hid l4
      have OW := Lib.hid HO.out
      have BZ := Lib.hid (B0.out.trans (B1.out.mono B0.out.size))
      have RZ := Lib.hid (HR.out.kept B1.out)
      obtain ⟨Q, hQ⟩ : ∃ Q, lk.length = Q := ⟨_, rfl⟩
      rw [hQ] at hlk L4 OW ⊢
      have HQ := Lib.hid hQ
      clear l4 hQ HO HD
      by_cases hQ3 : Q < 3
      · have DN := Lib.hid (dec_pnone HRd.out (parse_short (by rw [HQ.out]; exact hQ3)))
        have i9 : (Q : Int) < 3 := by omega
        have HZ := Lib.hid (dec_zero DN.out BZ.out)
        obtain ⟨q0, q1, q2⟩ := RZ.out.cells
        obtain ⟨f0, f1, f2⟩ := RZ.out.free
        obtain ⟨e0, e1, e2⟩ := (RZ.out.put (.int .i64 0) (.slice none 0 0) (.slice none 0 0)).cells
        go_wp2_with fail
        refine bodyPost_ret (v := .tuple #[.agg #[.int .i64 0, .slice none 0 0, .slice none 0 0], .int .i64 80]) (by simp [results, Try.results25, go_sem, e0, e1, e2]) rfl ?_
        exact HZ.out
      obtain ⟨b, off, h, rfl, hh, c0⟩ := L4.out.intAt (k := 0) (by omega)
      obtain ⟨b', off', z1, e9, hv, c1⟩ := L4.out.intAt (k := 1) (by omega)
      have e8 := Option.some.inj e9
      injection e8 with e6 e7
      subst e6
      subst e7
      clear e9
      obtain ⟨N, rfl⟩ : ∃ N : Nat, z1 = (N : Int) := ⟨z1.toNat, by have := HRg.out z1 (List.mem_of_getElem? hv); omega⟩
      have j0 : ¬ ((Q : Int) < 3) := by omega
      have j1 : (1 : Int) < (Q : Int) := by omega
      have j2 : (0 : Int) < (Q : Int) := by omega
      have j3 : wrap64 ((Q : Int) - 3) = (Q : Int) - 3 := by unfold wrap64; omega
      have C0 : wl.cell? ⟨b, off, none⟩ = some (.int .i64 h) := c0
      have C1 : wl.cell? ⟨b, off + 1, none⟩ = some (.int .i64 (N : Int)) := c1
      have HH := Lib.hid hh
      have HV := Lib.hid hv
      clear c0 c1 hh hv
      by_cases hfar : Q < N + 3
      · have DN := Lib.hid (dec_pnone HRd.out (parse_far HV.out (by rw [HQ.out]; exact hfar)))
        have j4 : (Q : Int) - 3 < (N : Int) := by omega
        have HZ := Lib.hid (dec_zero DN.out BZ.out)
        obtain ⟨q0, q1, q2⟩ := RZ.out.cells
        obtain ⟨f0, f1, f2⟩ := RZ.out.free
        obtain ⟨e0, e1, e2⟩ := (RZ.out.put (.int .i64 0) (.slice none 0 0) (.slice none 0 0)).cells
        go_wp2_with fail
        refine bodyPost_ret (v := .tuple #[.agg #[.int .i64 0, .slice none 0 0, .slice none 0 0], .int .i64 80]) (by simp [results, Try.results25, go_sem, e0, e1, e2]) rfl ?_
        exact HZ.out
      have j4 : ¬ ((Q : Int) - 3 < (N : Int)) := by omega
      have hQc := L4.out.le
      have hN2 : N + 2 < Q := by omega
      have hN3 : N + 3 ≤ Q := by omega
      have m1 : 2 + (N : Int) ≤ (Q : Int) := by omega
      have m2 : (Q : Int) ≤ (c4 : Int) := by omega
      have m3 : 2 + (N : Int) < (c4 : Int) := by omega
      have m4 : (0 : Int) ≤ 2 + (N : Int) := by omega
      have m5 : (2 + (N : Int)).toNat = N + 2 := by omega
      have k5 : (2 : Int) ≤ 2 + (N : Int) := by omega
      have k6 : 2 + (N : Int) ≤ (c4 : Int) := by omega
      have k10 : (2 + (N : Int)).toNat - 2 = N := by omega
      have k7 : ¬ c4 = 2 := by omega
      have k9 : 0 < Q := by omega
      have k11 : IntKind.i64.wrap (2 + (N : Int)) = 2 + (N : Int) := IntWalk.i64_in _ (by omega)
      have k12 : wrap64 (2 + (N : Int)) = 2 + (N : Int) := by unfold wrap64; omega
      have k8 : (2 : Int) < (c4 : Int) := by omega
      have hbl : b < wl.heap.size := World.block_lt_of_cell? _ _ C0
      have HC0 := Lib.hid C0
      have HC1 := Lib.hid C1
      have BAd := Lib.hid ((below_one wl (.cells #[.int .i64 0, .slice none 0 0, .slice none 0 0] 26)).drew)
      have K0 : wl.drew.cell? ⟨b, off, none⟩ = some (.int .i64 h) ∧ wl.drew.cell? ⟨b, off + 1, none⟩ = some (.int .i64 (N : Int)) := ⟨C0, C1⟩
      have K1 : ((wl.alloc (.cells #[.int .i64 0, .slice none 0 0, .slice none 0 0] 26)).drew).cell? ⟨b, off, none⟩ = some (.int .i64 h) ∧ ((wl.alloc (.cells #[.int .i64 0, .slice none 0 0, .slice none 0 0] 26)).drew).cell? ⟨b, off + 1, none⟩ = some (.int .i64 (N : Int)) := ⟨(BAd.out.cell (p := ⟨b, off, none⟩) hbl).trans C0, (BAd.out.cell (p := ⟨b, off + 1, none⟩) hbl).trans C1⟩
      have K3 : ∀ x y z : Value, ((wl.alloc (.cells #[x, y, z] 26)).drew).cell? ⟨b, off, none⟩ = some (.int .i64 h) ∧ ((wl.alloc (.cells #[x, y, z] 26)).drew).cell? ⟨b, off + 1, none⟩ = some (.int .i64 (N : Int)) := fun x y z => ⟨((below_one wl (.cells #[x, y, z] 26)).cell (p := ⟨b, off, none⟩) hbl).trans HC0.out, ((below_one wl (.cells #[x, y, z] 26)).cell (p := ⟨b, off + 1, none⟩) hbl).trans HC1.out⟩
      go_upto_region 11 with fail
      go_region_held3 (fun w' => w'.cell? ⟨b, off, none⟩ = some (.int .i64 h) ∧ w'.cell? ⟨b, off + 1, none⟩ = some (.int .i64 (N : Int)))
        (first | exact K3 _ _ _ | exact K1 | exact K0) (fail)
      clear K0 K1 K3 C0 C1 BAd k5 k6 k10 k7 k8 k9 k11 k12
      have X4 : Hid (Box ((wl.alloc (.cells #[.int .i64 h, .slice (some ⟨b, off + 2, none⟩) N (c4 - 2), .slice none 0 0] 26)).drew) wl.heap.size (.int .i64 h) (.slice (some ⟨b, off + 2, none⟩) N (c4 - 2)) (.slice none 0 0)) := Lib.hid ((box_new wl (.int .i64 h) (.slice (some ⟨b, off + 2, none⟩) N (c4 - 2)) (.slice none 0 0)).kept ((Below.refl _ _).drew))
      have BX := Lib.hid ((below_one wl (.cells #[.int .i64 h, .slice (some ⟨b, off + 2, none⟩) N (c4 - 2), .slice none 0 0] 26)).drew)
      generalize (wl.alloc (.cells #[.int .i64 h, .slice (some ⟨b, off + 2, none⟩) N (c4 - 2), .slice none 0 0] 26)).drew = w4 at *
      have L4w := Lib.hid (L4.out.kept BX.out)
      have RZ5 := Lib.hid (RZ.out.kept BX.out)
      have BZ5 := Lib.hid (BZ.out.trans (BX.out.mono BZ.out.size))
      obtain ⟨b', off', z2, e9, hz, c2⟩ := L4w.out.intAt (k := N + 2) hN2
      have e8 := Option.some.inj e9
      injection e8 with e6 e7
      subst e6
      subst e7
      clear e9
      obtain ⟨P, rfl⟩ : ∃ P : Nat, z2 = (P : Int) := ⟨z2.toNat, (Int.toNat_of_nonneg (HRg.out z2 (List.mem_of_getElem? hz)).1).symm⟩
      have hPr : (P : Int) ≤ 2147483647 := (HRg.out (P : Int) (List.mem_of_getElem? hz)).2
      have C1w : w4.cell? ⟨b, off + 1, none⟩ = some (.int .i64 (N : Int)) := (BX.out.cell (p := ⟨b, off + 1, none⟩) hbl).trans HC1.out
      have C2w : w4.cell? ⟨b, off + (N + 2), none⟩ = some (.int .i64 (P : Int)) := c2
      have HPA := Lib.hid (parse_at HH.out HV.out (by rw [HQ.out]; exact hN3) hz)
      have HZ2 := Lib.hid hz
      clear c2 hz RZ BZ
      have RZ := RZ5
      have BZ := BZ5
      clear RZ5 BZ5
      go_upto_region 13 with fail
      obtain ⟨M, hM⟩ : ∃ M, Q - (N + 2) = M := ⟨_, rfl⟩
      rw [hM]
      have hMQ : M + (N + 2) = Q := by omega
      have x0 : 0 < M := by omega
      have x1 : (0 : Int) < (M : Int) := by omega
      have x2 : wrap64 (2 * (P : Int)) = 2 * (P : Int) := by unfold wrap64; omega
      have x3 : wrap64 (1 + 2 * (P : Int)) = 1 + 2 * (P : Int) := by unfold wrap64; omega
      clear hM m1 m3 m4 m5 C1w
      by_cases hMP : M = 1 + 2 * P
      rotate_left
      · have DN := Lib.hid (dec_pnone HRd.out (HPA.out.trans (if_neg (by rw [HQ.out]; omega))))
        have x4 : ((M : Int) != 1 + 2 * (P : Int)) = true := by simp; omega
        have HZ := Lib.hid (dec_zero DN.out BZ.out)
        obtain ⟨q0, q1, q2⟩ := RZ.out.cells
        obtain ⟨f0, f1, f2⟩ := RZ.out.free
        obtain ⟨e0, e1, e2⟩ := (RZ.out.put (.int .i64 0) (.slice none 0 0) (.slice none 0 0)).cells
        go_wp2_with fail
        refine bodyPost_ret (v := .tuple #[.agg #[.int .i64 0, .slice none 0 0, .slice none 0 0], .int .i64 80]) (by simp [results, Try.results25, go_sem, e0, e1, e2]) rfl ?_
        exact HZ.out
      have x4 : ((M : Int) != 1 + 2 * (P : Int)) = false := by simp; omega
      have HPS := Lib.hid (HPA.out.trans (if_pos (by rw [HQ.out]; omega)))
      have hbr : b ≠ wl.heap.size := by omega
      have hgb : w.heap.size + 1 ≤ b := by
        have h1 := (OW.out.lt b rfl).1
        have h2 := HR.out.lt
        omega
      have hr4 : wl.heap.size < w4.heap.size := X4.out.lt
      have hwr : w.heap.size < wl.heap.size := by omega
      generalize wl.heap.size = r4 at *
      obtain ⟨all, hall⟩ : ∃ all, SS.unpairs (lk.drop (N + 3)) = all := ⟨_, rfl⟩
      rw [hall] at HPS
      have HAll := Lib.hid hall
      have H0 : Hid (DecAt w w4 r4 h (some ⟨b, off + 2, none⟩) N (c4 - 2) all 0 (.slice none 0 0) w4) := Lib.hid ⟨X4.out, World.ownsRow_nil _ _ _ _, fun _ _ _ => rfl, BZ.out, Nat.le_refl _⟩
      have HAL : Hid (all.length = P) := Lib.hid (by rw [← HAll.out]; exact SS.unpairs_length P _ (by rw [List.length_drop, HQ.out]; omega))
      have hMP' : 1 + 2 * P ≤ M := by omega
      have HMP := Lib.hid hMP
      clear hall hMP
      go_wp2_with fail
      clear j0 j1 j2 j3 j4 x1 x2 x3 x4 m2
      go_loopw [10] (fun i wk => ∃ (k : Nat) (v : Value), k ≤ P ∧ i = .int .i64 k ∧ Hid (DecAt w w4 r4 h (some ⟨b, off + 2, none⟩) N (c4 - 2) all k v wk)) (fun i _ => P - (intOf i).toNat)
      case atStart => exact ⟨0, .slice none 0 0, Nat.zero_le _, rfl, H0⟩
      case round =>
        obtain ⟨k, v, hk, rfl, HA⟩ := hrel
        have c2 : wr.cell? ⟨b, off + (N + 2), none⟩ = some (.int .i64 (P : Int)) := HA.out.cell C2w hbr
        have x1 : (0 : Int) < (M : Int) := by omega
        by_cases hlt : k < P
        · obtain ⟨b', off', x, e9, hx, cx⟩ := L4w.out.intAt (k := N + 2 + (1 + 2 * k)) (by omega)
          have e8 := Option.some.inj e9
          injection e8 with e6 e7
          subst e6
          subst e7
          clear e9
          obtain ⟨b', off', y, e9, hy, cy⟩ := L4w.out.intAt (k := N + 2 + (2 + 2 * k)) (by omega)
          have e8 := Option.some.inj e9
          injection e8 with e6 e7
          subst e6
          subst e7
          clear e9
          have dx : wr.cell? ⟨b, off + (N + 2) + (1 + 2 * k), none⟩ = some (.int .i64 x) := HA.out.cell (by rw [Nat.add_assoc]; exact cx) hbr
          have dy : wr.cell? ⟨b, off + (N + 2) + (2 + 2 * k), none⟩ = some (.int .i64 y) := HA.out.cell (by rw [Nat.add_assoc]; exact cy) hbr
          have HXY : Hid (all[k]? = some (x, y)) := Lib.hid (by
            rw [← HAll.out]
            refine unpairs_at _ k x y ?_ ?_
            · rw [List.getElem?_drop, show N + 3 + 2 * k = N + 2 + (1 + 2 * k) by omega]
              exact hx
            · rw [List.getElem?_drop, show N + 3 + (2 * k + 1) = N + 2 + (2 + 2 * k) by omega]
              exact hy)
          clear cx cy hx hy
          obtain ⟨b0, b1, b2⟩ := HA.out.box.cells
          obtain ⟨f0, f1, f2⟩ := HA.out.box.free
          have o1 := HA.out.own
          have bsz := HA.out.siz
          have hr4r : r4 < wr.heap.size := Nat.lt_of_lt_of_le hr4 bsz
          have np : v.ownBlock ≠ some r4 := fun e => by have := (o1.lt r4 e).1; omega
          have n0 : (k : Int) < (P : Int) := by omega
          have n1 : IntKind.i64.wrap (2 * (k : Int)) = 2 * (k : Int) := IntWalk.i64_in _ (by omega)
          have n2 : IntKind.i64.wrap (1 + 2 * (k : Int)) = 1 + 2 * (k : Int) := IntWalk.i64_in _ (by omega)
          have n3 : IntKind.i64.wrap (2 + 2 * (k : Int)) = 2 + 2 * (k : Int) := IntWalk.i64_in _ (by omega)
          have n4 : (0 : Int) ≤ 1 + 2 * (k : Int) := by omega
          have n5 : (0 : Int) ≤ 2 + 2 * (k : Int) := by omega
          have n6 : 1 + 2 * (k : Int) < (M : Int) := by omega
          have n7 : 2 + 2 * (k : Int) < (M : Int) := by omega
          have n8 : (1 + 2 * (k : Int)).toNat = 1 + 2 * k := by omega
          have n9 : (2 + 2 * (k : Int)).toNat = 2 + 2 * k := by omega
          have hk3 : k + 1 ≤ 30000 := by omega
          go_wp2_with fail
          go_region_law
            ((refine step_append_lies _ (by rfl) _ _ _ (by rfl) w4.heap.size 49 i0 _ 2 16 Try.underlying24 hi hz0 hz1 hz2 rfl (by omega) v k (prVals (all.take k)) (by rfl) ((o1.alloc _).drew)
                ⟨wr.heap.size, 0, none⟩ 1 1 [.int .i64 x, .int .i64 y] (by rfl) (by rfl) (World.news_of_block (cs := #[.int .i64 x, .int .i64 y]) (t := 49) (fr := (0, 0)) (heap_alloc_new wr _)) (by simp [Value.oneCell'])
                (by omega) (by unfold maxLen; omega) (by omega) (by simp; omega) (wr.heap.size + 1) (by simp) ?_; intro gg cap w5 hown5 hgrow hat hlt5; have T1 : w5.cell? ⟨r4, 2, none⟩ = some v := (hgrow.cell_far _ (by simp; omega) np.symm).trans ((below_one wr _).cell (p := ⟨r4, 2, none⟩) hr4r |>.trans b2); have T2 : w5.frozen? ⟨r4, 2, none⟩ = false := (World.frozen?_of_block (a := ⟨r4, 2, none⟩) (hgrow.block r4 (by simp; omega) np.symm)).trans ((below_one wr _).frozen (p := ⟨r4, 2, none⟩) hr4r |>.trans f2)))
          all_goals (
            have HS := Lib.hid (DecAt.step HA.out hr4 hwr HXY.out hown5 hgrow)
            clear hown5 hgrow hat hlt5 T1 T2
            go_wp2_with fail
            go_roundw
            case rel => exact ⟨k + 1, _, by omega, by go_num, HS⟩
            case measure => simp [intOf]; omega)
        · obtain rfl : P = k := by omega
          have hta : all.take P = all := List.take_of_length_le (by rw [HAL.out]; exact Nat.le_refl _)
          have o9 := HA.out.own
          rw [hta] at o9
          obtain ⟨B9, d9, rfl, _, l9⟩ := Ln.of_own o9
          have RZN := Lib.hid (HA.out.res RZ.out (by omega))
          have BWN := Lib.hid HA.out.bel
          have BXN := Lib.hid HA.out.box
          have PPN := Lib.hid (HP0.out.kept HA.out.bel)
          have F4 := (L4w.out.intDrop (k := 2) (by omega)).intTake (k := N) (by omega)
          have F9 := HA.out.ln F4 (fun ad e => by obtain rfl := Option.some.inj e; exact ⟨hbr, by show b < w4.heap.size; omega⟩)
          have HI9 : Hid (Hi (w.heap.size + 1) (some ⟨b, off + 2, none⟩) ∧ Hi (w.heap.size + 1) B9) := Lib.hid ⟨fun ad e => by obtain rfl := Option.some.inj e; exact hgb, (Hi.of_own o9).low (by omega)⟩
          obtain ⟨s, hs⟩ : ∃ s : SS, (⟨h, (lk.drop 2).take N, all⟩ : SS) = s := ⟨_, rfl⟩
          have HSp : Hid (Sp wr (some ⟨b, off + 2, none⟩) N (c4 - 2) B9 P d9 s) := Lib.hid (by rw [← hs]; exact ⟨F9, l9⟩)
          have hsh : s.hi = h := by rw [← hs]
          have HDT : Hid (SS.dec ps = if s.check SS.topN = 0 ∧ s.enc = ps then some s else none) := Lib.hid (by rw [← hs]; exact dec_psome HRd.out HPS.out)
          have HSH := Lib.hid hsh
          have hN5 : N ≤ 50000 := by omega
          have hP5 : P ≤ 50000 := by omega
          obtain ⟨b0, b1, b2⟩ := BXN.out.cells
          clear hta o9 l9 F4 F9 hs hsh
          go_wp2_with fail
          have hE := refEncode_any s (some ⟨b, off + 2, none⟩) B9 N (c4 - 2) P d9 wr HSp.out hN5 hP5
          rw [HSH.out] at hE
          refine hE.mono ?_
          rintro e w6 ⟨A6, c6, rfl, p6, b6⟩
          have P6 := Lib.hid p6
          have B6 := Lib.hid b6
          obtain ⟨G, hG⟩ : ∃ G, s.enc.length = G := ⟨_, rfl⟩
          rw [hG]
          have HG := Lib.hid hG
          clear p6 b6 hG hE b0 b1 b2
          obtain ⟨b0, b1, b2⟩ := (BXN.out.kept B6.out).cells
          go_wp2_with fail
          have hC := refCheck_any s 2147483647 (some ⟨b, off + 2, none⟩) B9 N (c4 - 2) P d9 w6 (HSp.out.kept B6.out) (by omega) (by omega)
          rw [HSH.out] at hC
          refine hC.mono ?_
          rintro e w7 ⟨rfl, b7⟩
          have B7 := Lib.hid (B6.out.trans (b7.mono B6.out.size))
          have B67 := Lib.hid b7
          have BZ7 := Lib.hid (BWN.out.trans (B7.out.mono BWN.out.size))
          have RZ7 := Lib.hid (RZN.out.kept B7.out)
          have PP7 := Lib.hid (PPN.out.kept B7.out)
          have P67 := Lib.hid (P6.out.kept B67.out)
          clear b7 hC b0 b1 b2
          rcases check_or s 2147483647 with hk | hk
          rotate_left
          · rw [hk]
            have DN := Lib.hid (HDT.out.trans (if_neg (fun h => by have h1 : s.check 2147483647 = 0 := h.1; rw [hk] at h1; cases h1)))
            clear hk
            have HZ := Lib.hid (dec_zero DN.out BZ7.out)
            obtain ⟨q0, q1, q2⟩ := RZ7.out.cells
            obtain ⟨f0, f1, f2⟩ := RZ7.out.free
            obtain ⟨e0, e1, e2⟩ := (RZ7.out.put (.int .i64 0) (.slice none 0 0) (.slice none 0 0)).cells
            go_wp2_with fail
            refine bodyPost_ret (v := .tuple #[.agg #[.int .i64 0, .slice none 0 0, .slice none 0 0], .int .i64 80]) (by simp [results, Try.results25, go_sem, e0, e1, e2]) rfl ?_
            exact HZ.out
          rw [hk]
          have HK := Lib.hid hk
          clear hk
          by_cases hgn : G = n
          rotate_left
          · have hl' : ((G : Int) != (n : Int)) = true := by simp; omega
            have DN := Lib.hid (HDT.out.trans (if_neg (fun h => hgn (by rw [← HG.out, h.2, HN.out]))))
            clear hgn
            have HZ := Lib.hid (dec_zero DN.out BZ7.out)
            obtain ⟨q0, q1, q2⟩ := RZ7.out.cells
            obtain ⟨f0, f1, f2⟩ := RZ7.out.free
            obtain ⟨e0, e1, e2⟩ := (RZ7.out.put (.int .i64 0) (.slice none 0 0) (.slice none 0 0)).cells
            go_wp2_with fail
            refine bodyPost_ret (v := .tuple #[.agg #[.int .i64 0, .slice none 0 0, .slice none 0 0], .int .i64 80]) (by simp [results, Try.results25, go_sem, e0, e1, e2]) rfl ?_
            exact HZ.out
          have hl' : ((G : Int) != (n : Int)) = false := by simp [hgn]
          have HGN := Lib.hid hgn
          clear hgn
          go_wp2_with fail
          obtain ⟨wz, hwz⟩ : ∃ wz : World, wz = w7 := ⟨_, rfl⟩
          subst hwz
          clear HP0 PPN P6 B67 c2 HMP HP
          go_loopw [12] (fun i wk => ∃ k : Nat, k ≤ n ∧ i = .int .i64 k ∧ Hid (s.enc.take k = ps.take k) ∧ Hid (Below wz.heap.size wz wk)) (fun i _ => n - (intOf i).toNat)
          case atStart => exact ⟨0, Nat.zero_le _, rfl, Lib.hid (by simp), Lib.hid (Below.refl _ _)⟩
          case round =>
            obtain ⟨k, hk, rfl, hpre, B1⟩ := hrel
            by_cases hlt : k < n
            · have hlt2 : k < G := by rw [HGN.out]; exact hlt
              obtain ⟨ba, oa, p, A', c', rfl, hp, c0, l0⟩ := (P67.out.kept B1.out).at_ (k := k) (by rw [HG.out]; exact hlt2)
              obtain ⟨b2, o2, q, B', d', rfl, hq, c1, l1⟩ := (PP7.out.kept B1.out).at_ (k := k) (by rw [HN.out]; exact hlt)
              have HP := Lib.hid hp
              have HQ := Lib.hid hq
              have hlt3 : (k : Int) < (G : Int) := by omega
              have i0' : (0 : Int) ≤ (k : Int) := by omega
              have t1 := fun n => run_text (P := Try.prog) (w := wr.drewN n) (R := wr.heap.size) (show Bys (wr.drewN n) wr.heap.size A' p from l0.bys) 59 9 5 p.length c' rfl Try.underlying59 Try.underlying5 Try.underlying9
              have t2 := fun n => run_text (P := Try.prog) (w := wr.drewN n) (R := wr.heap.size) (show Bys (wr.drewN n) wr.heap.size B' q from l1.bys) 59 9 5 q.length d' rfl Try.underlying59 Try.underlying5 Try.underlying9
              clear hp hq l0 l1
              by_cases hpq : p = q
              · subst hpq
                have HX := Lib.hid (bps_more hpre.out HP.out HQ.out)
                clear HP HQ hpre
                go_wp2_with fail
                go_quiet (fail)
                clear t1 t2 c0 c1
                go_wp2_with fail
                go_roundw
                case rel => exact ⟨k + 1, by omega, by go_num, HX, Lib.hid (belowN B1.out _)⟩
                case measure => simp [intOf]; omega
              · have DN := Lib.hid (HDT.out.trans (if_neg (fun h => hpq (by have h1 := HP.out; rw [h.2, HQ.out] at h1; exact (Option.some.inj h1).symm))))
                have b1 := list_ne hpq
                have HB1 := Lib.hid (belowN B1.out)
                clear hpq
                go_wp2_with fail
                go_quiet (fail)
                clear t1 t2 c0 c1
                generalize hwn : wr.drewN _ = wn
                have BQ : Hid (Below wz.heap.size wz wn) := Lib.hid (by rw [← hwn]; exact HB1.out _)
                have BZ9 := Lib.hid (BZ7.out.trans (BQ.out.mono BZ7.out.size))
                have RZ9 := Lib.hid (RZ7.out.kept BQ.out)
                clear hwn
                have HZ := Lib.hid (dec_zero DN.out BZ9.out)
                obtain ⟨q0, q1, q2⟩ := RZ9.out.cells
                obtain ⟨f0, f1, f2⟩ := RZ9.out.free
                obtain ⟨e0, e1, e2⟩ := (RZ9.out.put (.int .i64 0) (.slice none 0 0) (.slice none 0 0)).cells
                go_wp2_with fail
                refine bodyPost_ret (v := .tuple #[.agg #[.int .i64 0, .slice none 0 0, .slice none 0 0], .int .i64 80]) (by simp [results, Try.results25, go_sem, e0, e1, e2]) rfl ?_
                exact HZ.out
            · obtain rfl : n = k := by omega
              have hep : s.enc = ps := by
                have := hpre.out
                rw [List.take_of_length_le (by rw [HG.out, HGN.out]; exact Nat.le_refl _), List.take_of_length_le (by rw [HN.out]; exact Nat.le_refl _)] at this
                exact this
              have HDS := Lib.hid (decS_some (HDT.out.trans (if_pos ⟨HK.out, hep⟩)))
              have B8 := Lib.hid (B7.out.trans (B1.out.mono B7.out.size))
              have BB := Lib.hid (BWN.out.trans (B8.out.mono BWN.out.size))
              obtain ⟨a0, a1, a2⟩ := (BXN.out.kept B8.out).cells
              have HD := Lib.hid (put_done (h := h) BB.out (Nat.le_refl w.heap.size) (HSp.out.kept B8.out) HI9.out.1 HI9.out.2 HSH.out (.int .i64 h) (.slice (some ⟨b, off + 2, none⟩) N (c4 - 2)) (.slice B9 P d9))
              have RZ9 := Lib.hid (RZN.out.kept B8.out)
              obtain ⟨q0, q1, q2⟩ := RZ9.out.cells
              obtain ⟨f0, f1, f2⟩ := RZ9.out.free
              obtain ⟨e0, e1, e2⟩ := (RZ9.out.put (.int .i64 h) (.slice (some ⟨b, off + 2, none⟩) N (c4 - 2)) (.slice B9 P d9)).cells
              clear hep
              go_wp2_with fail
              refine bodyPost_ret (v := .tuple #[.agg #[.int .i64 h, .slice (some ⟨b, off + 2, none⟩) N (c4 - 2), .slice B9 P d9], .int .i64 0]) (by simp [results, Try.results25, go_sem, e0, e1, e2]) rfl ?_
              rw [HDS.out.1, HDS.out.2]
              exact ⟨_, rfl, HD.out.1, HD.out.2⟩
end Go.Proofs.Ytlldmefjhgahdaa
