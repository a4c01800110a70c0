/-
  What the document's own parse holds while it goes on, and what it comes to (package tailraceref10).
-/
import Derived.Test.YtgnlmbelaempcaaNRRead
import Derived.Deep.AppendLies
import Derived.Deep.DeepCutAuto
import Derived.Deep.LoopGhost
namespace Go.Proofs.Ytgnlmbelaempcaa
open Go.RowKit

/-- The answer's block, and the node's that is filled. -/
structure NX (w : World) (gr gx : Nat) (s : ND) (kv vv cv : Value) : Prop where
  od : gr < gx
  res : NBox w gr (.bool false) (.slice none 0 0) (.slice none 0 0) (.slice none 0 0)
  box : NBox w gx (.bool s.leaf) kv vv cv
  ke : w.ownsRow (gx + 1) 9 1 kv s.keys.length (strVals s.keys)
  va : w.ownsRow (gx + 1) 9 1 vv s.vals.length (strVals s.vals)
  ki : w.ownsRow (gx + 1) 3 1 cv s.kids.length (intVals s.kids)
  ne : ∀ g, kv.ownBlock = some g → vv.ownBlock ≠ some g

section
variable {w w' w4 : World} {gr gx : Nat} {s s' : ND} {kv vv cv kv' vv' cv' : Value}
theorem NX.next (h : NX w gr gx s kv vv cv) (b : Below w.heap.size w w') : NX w' gr gx s kv vv cv :=
  ⟨h.od, h.res.kept b, h.box.kept b, row_same h.ke (fun g e => b.block g (h.ke.lt g e).2), row_same h.va (fun g e => b.block g (h.va.lt g e).2), row_same h.ki (fun g e => b.block g (h.ki.lt g e).2), h.ne⟩
theorem NX.put {row : Option Nat} (h : NX w gr gx s kv vv cv) (k : Kept (fun j => row = some j ∨ j = gx) w w') (hr : ∀ g, row = some g → gx + 1 ≤ g) (hb : NBox w' gx (.bool s'.leaf) kv' vv' cv')
    (hke : w'.ownsRow (gx + 1) 9 1 kv' s'.keys.length (strVals s'.keys)) (hva : w'.ownsRow (gx + 1) 9 1 vv' s'.vals.length (strVals s'.vals)) (hki : w'.ownsRow (gx + 1) 3 1 cv' s'.kids.length (intVals s'.kids))
    (hne : ∀ g, kv'.ownBlock = some g → vv'.ownBlock ≠ some g) : NX w' gr gx s' kv' vv' cv' := by
  have o1 := h.od
  have hlt : gx < w.heap.size := h.box.lt
  exact ⟨h.od, h.res.block (k.block gr (by omega) (fun e => by rcases e with e | e; (have := hr gr e; omega); omega)), hb, hke, hva, hki, hne⟩

theorem npushK {o : Obj} {g cap : Nat} {t : ByteArray} (M : NX w gr gx s kv vv cv) (o4 : w4.ownsRow (gx + 1) 9 1 (.slice (some ⟨g, 0, none⟩) (s.keys.length + 1) cap) (s.keys.length + 1) (strVals s.keys ++ [.string t]))
    (gr4 : (w.alloc o).grownBy w4 kv.ownBlock) (at4 : kv.ownBlock = some g ∨ g = (w.alloc o).heap.size) :
    w4.cell? ⟨gx, 1, none⟩ = some kv ∧ w4.frozen? ⟨gx, 1, none⟩ = false ∧
      Hid (NX (w4.setCell ⟨gx, 1, none⟩ (.slice (some ⟨g, 0, none⟩) (s.keys.length + 1) cap)) gr gx ⟨s.leaf, s.keys ++ [t.toList], s.vals, s.kids⟩ (.slice (some ⟨g, 0, none⟩) (s.keys.length + 1) cap) vv cv) ∧
      Hid (Kept (fun j => gx ≤ j) w (w4.setCell ⟨gx, 1, none⟩ (.slice (some ⟨g, 0, none⟩) (s.keys.length + 1) cap))) := by
  have hr : ∀ k, kv.ownBlock = some k → gx + 1 ≤ k := fun k e => (M.ke.lt k e).1
  have hk := push_kept (gx := gx) gr4 1 (.slice (some ⟨g, 0, none⟩) (s.keys.length + 1) cap)
  have hb := push_box M.box gr4 hr
  have hlt : ∀ k, vv.ownBlock = some k → k < w.heap.size := fun k e => (M.va.lt k e).2
  refine ⟨hb.cells.2.1, hb.free.2.1, M.put hk hr (hb.set1 _) ?_ ?_ ?_ ?_, hk.more (fun j e => ?_)⟩
  · have := ownsRow_setCell_below o4 (a := ⟨gx, 1, none⟩) (by simp) (.slice (some ⟨g, 0, none⟩) (s.keys.length + 1) cap)
    rw [strVals_append, List.length_append]
    rw [← tb_back t] at this
    exact this
  · refine row_same M.va (fun k e => hk.block k (hlt k e) ?_)
    rintro (e1 | rfl)
    · exact M.ne k e1 e
    · have := (M.va.lt _ e).1; omega
  · refine row_same M.ki (fun k e => hk.block k (M.ki.lt k e).2 ?_)
    rintro (e1 | rfl)
    · exact nrows_apart M.ke M.ki (by decide) k e1 e
    · have := (M.ki.lt _ e).1; omega
  · intro k e1 e2
    obtain rfl : g = k := by simpa [Value.ownBlock] using e1
    rcases at4 with e | e
    · exact M.ne g e e2
    · have := hlt g e2
      simp at e
      omega
  · rcases e with e | e
    · have := hr j e; omega
    · omega

theorem npushV {o : Obj} {g cap : Nat} {t : ByteArray} (M : NX w gr gx s kv vv cv) (o4 : w4.ownsRow (gx + 1) 9 1 (.slice (some ⟨g, 0, none⟩) (s.vals.length + 1) cap) (s.vals.length + 1) (strVals s.vals ++ [.string t]))
    (gr4 : (w.alloc o).grownBy w4 vv.ownBlock) (at4 : vv.ownBlock = some g ∨ g = (w.alloc o).heap.size) :
    w4.cell? ⟨gx, 2, none⟩ = some vv ∧ w4.frozen? ⟨gx, 2, none⟩ = false ∧
      Hid (NX (w4.setCell ⟨gx, 2, none⟩ (.slice (some ⟨g, 0, none⟩) (s.vals.length + 1) cap)) gr gx ⟨s.leaf, s.keys, s.vals ++ [t.toList], s.kids⟩ kv (.slice (some ⟨g, 0, none⟩) (s.vals.length + 1) cap) cv) ∧
      Hid (Kept (fun j => gx ≤ j) w (w4.setCell ⟨gx, 2, none⟩ (.slice (some ⟨g, 0, none⟩) (s.vals.length + 1) cap))) := by
  have hr : ∀ k, vv.ownBlock = some k → gx + 1 ≤ k := fun k e => (M.va.lt k e).1
  have hk := push_kept (gx := gx) gr4 2 (.slice (some ⟨g, 0, none⟩) (s.vals.length + 1) cap)
  have hb := push_box M.box gr4 hr
  have hlt : ∀ k, kv.ownBlock = some k → k < w.heap.size := fun k e => (M.ke.lt k e).2
  refine ⟨hb.cells.2.2.1, hb.free.2.2.1, M.put hk hr (hb.set2 _) ?_ ?_ ?_ ?_, hk.more (fun j e => ?_)⟩
  · refine row_same M.ke (fun k e => hk.block k (hlt k e) ?_)
    rintro (e1 | rfl)
    · exact M.ne k e e1
    · have := (M.ke.lt _ e).1; omega
  · have := ownsRow_setCell_below o4 (a := ⟨gx, 2, none⟩) (by simp) (.slice (some ⟨g, 0, none⟩) (s.vals.length + 1) cap)
    rw [strVals_append, List.length_append]
    rw [← tb_back t] at this
    exact this
  · refine row_same M.ki (fun k e => hk.block k (M.ki.lt k e).2 ?_)
    rintro (e1 | rfl)
    · exact nrows_apart M.va M.ki (by decide) k e1 e
    · have := (M.ki.lt _ e).1; omega
  · intro k e1 e2
    obtain rfl : g = k := by simpa [Value.ownBlock] using e2
    rcases at4 with e | e
    · exact M.ne g e1 e
    · have := hlt g e1
      simp at e
      omega
  · rcases e with e | e
    · have := hr j e; omega
    · omega

theorem npushC {o : Obj} {g cap : Nat} {z : Int} (M : NX w gr gx s kv vv cv) (o4 : w4.ownsRow (gx + 1) 3 1 (.slice (some ⟨g, 0, none⟩) (s.kids.length + 1) cap) (s.kids.length + 1) (intVals s.kids ++ [.int .i64 z]))
    (gr4 : (w.alloc o).grownBy w4 cv.ownBlock) :
    w4.cell? ⟨gx, 3, none⟩ = some cv ∧ w4.frozen? ⟨gx, 3, none⟩ = false ∧
      Hid (NX (w4.setCell ⟨gx, 3, none⟩ (.slice (some ⟨g, 0, none⟩) (s.kids.length + 1) cap)) gr gx ⟨s.leaf, s.keys, s.vals, s.kids ++ [z]⟩ kv vv (.slice (some ⟨g, 0, none⟩) (s.kids.length + 1) cap)) ∧
      Hid (Kept (fun j => gx ≤ j) w (w4.setCell ⟨gx, 3, none⟩ (.slice (some ⟨g, 0, none⟩) (s.kids.length + 1) cap))) := by
  have hr : ∀ k, cv.ownBlock = some k → gx + 1 ≤ k := fun k e => (M.ki.lt k e).1
  have hk := push_kept (gx := gx) gr4 3 (.slice (some ⟨g, 0, none⟩) (s.kids.length + 1) cap)
  have hb := push_box M.box gr4 hr
  refine ⟨hb.cells.2.2.2, hb.free.2.2.2, M.put hk hr (hb.set3 _) ?_ ?_ ?_ M.ne, hk.more (fun j e => ?_)⟩
  · refine row_same M.ke (fun k e => hk.block k (M.ke.lt k e).2 ?_)
    rintro (e1 | rfl)
    · exact nrows_apart M.ke M.ki (by decide) k e e1
    · have := (M.ke.lt _ e).1; omega
  · refine row_same M.va (fun k e => hk.block k (M.va.lt k e).2 ?_)
    rintro (e1 | rfl)
    · exact nrows_apart M.va M.ki (by decide) k e e1
    · have := (M.va.lt _ e).1; omega
  · have := ownsRow_setCell_below o4 (a := ⟨gx, 3, none⟩) (by simp) (.slice (some ⟨g, 0, none⟩) (s.kids.length + 1) cap)
    rw [sIntVals_append, List.length_append]
    exact this
  · rcases e with e | e
    · have := hr j e; omega
    · omega
end

/-- Where the answer is laid. -/
theorem parse_laid {w wX W4 : World} {gb gr gx nk nv nc ck cw cc : Nat} {Ak Av Ac : Option Addr} {res lf : Bool} {l : List UInt8} {s : ND} (M : NX wX gr gx s (.slice Ak nk ck) (.slice Av nv cw) (.slice Ac nc cc))
    (hb : NBut gr wX W4) (hx : NBox W4 gr (.bool s.leaf) (.slice Ak nk ck) (.slice Av nv cw) (.slice Ac nc cc)) (B : Below gb w W4) (hgr : gb ≤ gr)
    (hg : w.heap.size = gb) (hp : ∀ t, ND.prs lf l = some t → s = t) (hr : (ND.prs lf l).isSome = res) (h1 : s.keys.length ≤ 70000) (h2 : s.vals.length ≤ 70000) (h3 : s.kids.length ≤ 70000) :
    (W4.cell? ⟨gr, 0, none⟩ = some (.bool s.leaf) ∧ W4.cell? ⟨gr, 1, none⟩ = some (.slice Ak nk ck) ∧ W4.cell? ⟨gr, 2, none⟩ = some (.slice Av nv cw) ∧ W4.cell? ⟨gr, 3, none⟩ = some (.slice Ac nc cc)) ∧
    ReadEnd w lf l (.returned (.tuple #[.agg #[.bool s.leaf, .slice Ak nk ck, .slice Av nv cw, .slice Ac nc cc], .bool res])) W4 := by
  have o1 := M.od
  have el : ∀ {A : Option Addr} {n c N : Nat} {e : TypeId} {xs : List Value}, wX.ownsRow (gx + 1) e 1 (.slice A n c) N xs → n = N ∧ NHi (gx + 1) A ∧ Ln wX 1 A n c xs := by
    intro A n c N e xs h
    obtain ⟨A', c', e', _, hL⟩ := Ln.of_own h
    injection e' with e1 e2 e3
    subst e1
    subst e2
    subst e3
    exact ⟨rfl, NHi.of_own h, hL⟩
  obtain ⟨_, a2, a3⟩ := el M.ke
  obtain ⟨_, b2, b3⟩ := el M.va
  obtain ⟨_, c2, c3⟩ := el M.ki
  have d1 := a3.nbut hb (a2.low (by omega))
  have d2 := b3.nbut hb (b2.low (by omega))
  have d3 := c3.nbut hb (c2.low (by omega))
  subst hr
  subst hg
  have hv : NdV W4 w.heap.size (.agg #[.bool s.leaf, .slice Ak nk ck, .slice Av nv cw, .slice Ac nc cc]) s :=
    ⟨Ak, nk, ck, Av, nv, cw, Ac, nc, cc, rfl, ⟨d1, d2, d3⟩, a2.low (by omega), b2.low (by omega), c2.low (by omega)⟩
  exact ⟨hx.cells, _, s, rfl, hv, B, hp, h1, h2, h3⟩
theorem parse_done {w wX : World} {gb gr gx nk nv nc ck cw cc : Nat} {Ak Av Ac : Option Addr} {res lf : Bool} {l : List UInt8} {s : ND} (M : NX wX gr gx s (.slice Ak nk ck) (.slice Av nv cw) (.slice Ac nc cc))
    (hg : w.heap.size = gb) (hgr : gb ≤ gr) (B : Below gb w wX) (hp : ∀ t, ND.prs lf l = some t → s = t) (hr : (ND.prs lf l).isSome = res) (h1 : s.keys.length ≤ 70000) (h2 : s.vals.length ≤ 70000) (h3 : s.kids.length ≤ 70000) :
    (((((wX.setCell ⟨gr, 0, none⟩ (.bool s.leaf)).setCell ⟨gr, 1, none⟩ (.slice Ak nk ck)).setCell ⟨gr, 2, none⟩ (.slice Av nv cw)).setCell ⟨gr, 3, none⟩ (.slice Ac nc cc)).cell? ⟨gr, 0, none⟩ = some (.bool s.leaf) ∧ ((((wX.setCell ⟨gr, 0, none⟩ (.bool s.leaf)).setCell ⟨gr, 1, none⟩ (.slice Ak nk ck)).setCell ⟨gr, 2, none⟩ (.slice Av nv cw)).setCell ⟨gr, 3, none⟩ (.slice Ac nc cc)).cell? ⟨gr, 1, none⟩ = some (.slice Ak nk ck) ∧ ((((wX.setCell ⟨gr, 0, none⟩ (.bool s.leaf)).setCell ⟨gr, 1, none⟩ (.slice Ak nk ck)).setCell ⟨gr, 2, none⟩ (.slice Av nv cw)).setCell ⟨gr, 3, none⟩ (.slice Ac nc cc)).cell? ⟨gr, 2, none⟩ = some (.slice Av nv cw) ∧ ((((wX.setCell ⟨gr, 0, none⟩ (.bool s.leaf)).setCell ⟨gr, 1, none⟩ (.slice Ak nk ck)).setCell ⟨gr, 2, none⟩ (.slice Av nv cw)).setCell ⟨gr, 3, none⟩ (.slice Ac nc cc)).cell? ⟨gr, 3, none⟩ = some (.slice Ac nc cc)) ∧
    ReadEnd w lf l (.returned (.tuple #[.agg #[.bool s.leaf, .slice Ak nk ck, .slice Av nv cw, .slice Ac nc cc], .bool res])) ((((wX.setCell ⟨gr, 0, none⟩ (.bool s.leaf)).setCell ⟨gr, 1, none⟩ (.slice Ak nk ck)).setCell ⟨gr, 2, none⟩ (.slice Av nv cw)).setCell ⟨gr, 3, none⟩ (.slice Ac nc cc)) :=
  parse_laid M (NBut.put wX gr (.bool s.leaf) (.slice Ak nk ck) (.slice Av nv cw) (.slice Ac nc cc)) (M.res.put (.bool s.leaf) (.slice Ak nk ck) (.slice Av nv cw) (.slice Ac nc cc)) (below_nput B hgr (.bool s.leaf) (.slice Ak nk ck) (.slice Av nv cw) (.slice Ac nc cc)) hgr hg hp hr h1 h2 h3

theorem nx_start (w : World) (lf : Bool) :
    NX ((w.alloc (.cells #[.bool false, .slice none 0 0, .slice none 0 0, .slice none 0 0] 26)).alloc (.cells #[.bool lf, .slice none 0 0, .slice none 0 0, .slice none 0 0] 26)) w.heap.size (w.heap.size + 1) ⟨lf, [], [], []⟩ (.slice none 0 0) (.slice none 0 0) (.slice none 0 0) := by
  have hb := nbox_new (w.alloc (.cells #[.bool false, .slice none 0 0, .slice none 0 0, .slice none 0 0] 26)) (.bool lf) (.slice none 0 0) (.slice none 0 0) (.slice none 0 0)
  rw [show (w.alloc (.cells #[.bool false, .slice none 0 0, .slice none 0 0, .slice none 0 0] 26)).heap.size = w.heap.size + 1 by simp] at hb
  exact ⟨by omega, (nbox_new w _ _ _ _).kept (below_one _ _), hb, World.ownsRow_nil _ _ _ _, World.ownsRow_nil _ _ _ _, World.ownsRow_nil _ _ _ _, fun g e => by cases e⟩

theorem two_spell (x y : UInt8) : wrap64 (wrap64 (wrap64 (x.toNat : Int) * 256) + wrap64 (y.toNat : Int)) = ((bn [x, y] : Nat) : Int) := by
  have := byte_lt x
  have := byte_lt y
  rw [nwrap_small (n := (x.toNat : Int)) (by omega) (by omega), nwrap_small (n := (y.toNat : Int)) (by omega) (by omega), nwrap_small (n := (x.toNat : Int) * 256) (by omega) (by omega), nwrap_small (n := (x.toNat : Int) * 256 + (y.toNat : Int)) (by omega) (by omega)]
  unfold bn
  simp [List.foldl]
theorem two_get {l : List UInt8} (h : 2 ≤ l.length) : ∃ x y, l[0]? = some x ∧ l[1]? = some y ∧ l.take 2 = [x, y] := by
  match l, h with
  | x :: y :: r, _ => exact ⟨x, y, rfl, rfl, rfl⟩

/-- What stands at the loop's head. -/
structure PP (w0 w : World) (gb gr gx R : Nat) (lf : Bool) (l : List UInt8) (N k : Nat) (A : Option Addr) (n c : Nat) : Prop where
  is : ∃ r s kv vv cv, NX w gr gx s kv vv cv ∧ Below gb w0 w ∧ s.leaf = lf ∧ s.keys.length ≤ k ∧ s.vals.length ≤ k ∧ s.kids.length ≤ k + 1 ∧ r.length = n ∧ n ≤ c ∧ c ≤ maxLen ∧ Bys w R A r ∧ R ≤ gr ∧ ND.prs lf l = goOn lf (N - k) r s
end Go.Proofs.Ytgnlmbelaempcaa
