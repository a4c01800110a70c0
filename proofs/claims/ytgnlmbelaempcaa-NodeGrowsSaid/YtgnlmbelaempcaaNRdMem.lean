/-
  What node's read holds while it goes on: its blocks, and what the bytes tell from there.
-/
import Derived.Test.YtgnlmbelaempcaaNRead
import Derived.Test.YtgnlmbelaempcaaNMem
namespace Go.Proofs.Ytgnlmbelaempcaa
open Go.RowKit

theorem row_same {w w' : World} {base sz n : Nat} {e : TypeId} {v : Value} {xs : List Value} (h : w.ownsRow base e sz v n xs) (hk : ∀ g, v.ownBlock = some g → w'.heap[g]? = w.heap[g]?) : w'.ownsRow base e sz v n xs := by
  refine ⟨h.1, ?_⟩
  rcases h.2 with ⟨h1, h2⟩ | ⟨g, cap, cur, rfl, h2, h3, h4⟩
  · exact Or.inl ⟨h1, h2⟩
  · exact Or.inr ⟨g, cap, cur, rfl, h2, (hk g rfl).trans h3, h4⟩
theorem nrows_apart {w : World} {base base' sz sz' n n' : Nat} {e e' : TypeId} {v v' : Value} {xs xs' : List Value} (h : w.ownsRow base e sz v n xs) (h' : w.ownsRow base' e' sz' v' n' xs') (hne : e ≠ e') : ∀ g, v.ownBlock = some g → v'.ownBlock ≠ some g := by
  intro g h1 h2
  rcases h.2 with ⟨rfl, _⟩ | ⟨g1, cap, cur, rfl, _, h3, _⟩
  · cases h1
  · rcases h'.2 with ⟨rfl, _⟩ | ⟨g2, cap', cur', rfl, _, h4, _⟩
    · cases h2
    · have e1 : g1 = g := by simpa [Value.ownBlock] using h1
      have e2 : g2 = g := by simpa [Value.ownBlock] using h2
      subst e1
      subst e2
      rw [h3] at h4
      injection h4 with h4
      injection h4 with _ h5
      exact hne h5

/-- The reader's blocks, the answer's, and the node's that is filled. -/
structure RS (w : World) (gb gr gm gt gn gx R : Nat) (mis : Bool) (r : List UInt8) (s : ND) (kv vv cv : Value) : Prop where
  od : gb < gr ∧ gr < gm ∧ gm < gt ∧ gt < gn ∧ gn < gx
  rb : RB w gb gm R mis r
  tk : TB w gt gb gm
  nb : NB w gn gt
  res : NBox w gr (.bool false) (.slice none 0 0) (.slice none 0 0) (.slice none 0 0)
  box : NBox w gx (.bool s.leaf) kv vv cv
  ke : w.ownsRow (gx + 1) 9 1 kv s.keys.length (strVals s.keys)
  va : w.ownsRow (gx + 1) 9 1 vv s.vals.length (strVals s.vals)
  ki : w.ownsRow (gx + 1) 3 1 cv s.kids.length (intVals s.kids)
  ne : ∀ g, kv.ownBlock = some g → vv.ownBlock ≠ some g

section
variable {w w' w4 : World} {gb gr gm gt gn gx R : Nat} {mis mis' : Bool} {r r' : List UInt8} {s s' : ND} {kv vv cv kv' vv' cv' : Value}
theorem RS.same (h : RS w gb gr gm gt gn gx R mis r s kv vv cv) (e : w'.heap = w.heap) : RS w' gb gr gm gt gn gx R mis r s kv vv cv :=
  ⟨h.od, h.rb.same e, by unfold TB; rw [e]; exact h.tk, by unfold NB; rw [e]; exact h.nb, h.res.block (by rw [e]), h.box.block (by rw [e]), row_same h.ke (fun _ _ => by rw [e]), row_same h.va (fun _ _ => by rw [e]), row_same h.ki (fun _ _ => by rw [e]), h.ne⟩
theorem RS.far {F : Nat → Prop} (h : RS w gb gr gm gt gn gx R mis r s kv vv cv) (k : Kept F w w') (hF : ∀ j, F j → j = gb ∨ j = gm) (q' : RB w' gb gm R mis' r') : RS w' gb gr gm gt gn gx R mis' r' s kv vv cv := by
  obtain ⟨o1, o2, o3, o4, o5⟩ := h.od
  have hlt : gx < w.heap.size := h.box.lt
  have no : ∀ j, j < w.heap.size → j ≠ gb → j ≠ gm → w'.heap[j]? = w.heap[j]? := fun j hj h1 h2 => k.block j hj (fun e => by rcases hF j e with e | e; exact h1 e; exact h2 e)
  exact ⟨h.od, q', (no gt (by omega) (by omega) (by omega)).trans h.tk, (no gn (by omega) (by omega) (by omega)).trans h.nb, h.res.block (no gr (by omega) (by omega) (by omega)), h.box.block (no gx hlt (by omega) (by omega)),
    row_same h.ke (fun g e => by have := h.ke.lt g e; exact no g this.2 (by omega) (by omega)), row_same h.va (fun g e => by have := h.va.lt g e; exact no g this.2 (by omega) (by omega)), row_same h.ki (fun g e => by have := h.ki.lt g e; exact no g this.2 (by omega) (by omega)), h.ne⟩
theorem RS.call (h : RS w gb gr gm gt gn gx R mis r s kv vv cv) (k : Kept (RF gb gm) w w') (q' : RB w' gb gm R mis' r') : RS w' gb gr gm gt gn gx R mis' r' s kv vv cv := h.far k (fun _ e => e) q'
theorem RS.next (h : RS w gb gr gm gt gn gx R mis r s kv vv cv) (b : Below w.heap.size w w') : RS w' gb gr gm gt gn gx R mis r s kv vv cv := h.far (Kept.below b (fun _ => False)) (fun _ e => e.elim) (h.rb.kept b)
theorem RS.put {row : Option Nat} (h : RS w gb gr gm gt gn gx R mis r s kv vv cv) (k : Kept (fun j => row = some j ∨ j = gx) w w') (hr : ∀ g, row = some g → gx + 1 ≤ g) (hb : NBox w' gx (.bool s'.leaf) kv' vv' cv')
    (hke : w'.ownsRow (gx + 1) 9 1 kv' s'.keys.length (strVals s'.keys)) (hva : w'.ownsRow (gx + 1) 9 1 vv' s'.vals.length (strVals s'.vals)) (hki : w'.ownsRow (gx + 1) 3 1 cv' s'.kids.length (intVals s'.kids))
    (hne : ∀ g, kv'.ownBlock = some g → vv'.ownBlock ≠ some g) : RS w' gb gr gm gt gn gx R mis r s' kv' vv' cv' := by
  obtain ⟨o1, o2, o3, o4, o5⟩ := h.od
  have hlt : gx < w.heap.size := h.box.lt
  have no : ∀ j, j < gx → w'.heap[j]? = w.heap[j]? := fun j hj => k.block j (by omega) (fun e => by rcases e with e | e; (have := hr j e; omega); omega)
  have hR : R ≤ gb := by obtain ⟨A, c, _, _, _, _, _, h6, _⟩ := h.rb; exact h6
  refine ⟨h.od, h.rb.far k (fun j e => ?_), (no gt (by omega)).trans h.tk, (no gn (by omega)).trans h.nb, h.res.block (no gr (by omega)), hb, hke, hva, hki, hne⟩
  rcases e with e | e
  · have := hr j e
    exact ⟨by omega, by omega, by omega⟩
  · exact ⟨by omega, by omega, by omega⟩

/-- What append and the store behind it leave of other blocks. -/
theorem push_kept {o : Obj} {row : Option Nat} (gr4 : (w.alloc o).grownBy w4 row) (j : Nat) (u : Value) : Kept (fun k => row = some k ∨ k = gx) w (w4.setCell ⟨gx, j, none⟩ u) :=
  ((Kept.below (below_one w o) _).trans (F' := fun k => row = some k) ⟨gr4.os, gr4.tape, gr4.output, gr4.size, fun k hk hn => gr4.block k hk (fun e => hn e.symm)⟩ (fun _ e => Or.inl (Or.inl e))).trans (F' := fun k => k = gx) (Kept.setCell (F := fun k => k = gx) (a := ⟨gx, j, none⟩) w4 rfl u) (fun _ e => Or.inl (Or.inr e))

theorem push_box {o : Obj} {row : Option Nat} {x y z p : Value} (h : NBox w gx x y z p) (gr4 : (w.alloc o).grownBy w4 row) (hr : ∀ g, row = some g → gx + 1 ≤ g) : NBox w4 gx x y z p := by
  have hlt := h.lt
  refine (h.kept (below_one w o)).block (gr4.block gx (by simp; omega) (fun e => ?_))
  have := hr gx e.symm
  omega

theorem pushK {o : Obj} {g cap : Nat} {t : ByteArray} (M : RS w gb gr gm gt gn gx R mis r s kv vv cv) (o4 : w4.ownsRow (gx + 1) 9 1 (.slice (some ⟨g, 0, none⟩) (s.keys.length + 1) cap) (s.keys.length + 1) (strVals s.keys ++ [.string t]))
    (gr4 : (w.alloc o).grownBy w4 kv.ownBlock) (at4 : kv.ownBlock = some g ∨ g = (w.alloc o).heap.size) :
    w4.cell? ⟨gx, 1, none⟩ = some kv ∧ w4.frozen? ⟨gx, 1, none⟩ = false ∧
      Hid (RS (w4.setCell ⟨gx, 1, none⟩ (.slice (some ⟨g, 0, none⟩) (s.keys.length + 1) cap)) gb gr gm gt gn gx R mis r ⟨s.leaf, s.keys ++ [t.toList], s.vals, s.kids⟩ (.slice (some ⟨g, 0, none⟩) (s.keys.length + 1) cap) vv cv) ∧
      Hid (Kept (fun j => gx ≤ j) w (w4.setCell ⟨gx, 1, none⟩ (.slice (some ⟨g, 0, none⟩) (s.keys.length + 1) cap))) := by
  have hr : ∀ k, kv.ownBlock = some k → gx + 1 ≤ k := fun k e => (M.ke.lt k e).1
  have hk := push_kept (gx := gx) gr4 1 (.slice (some ⟨g, 0, none⟩) (s.keys.length + 1) cap)
  have hb := push_box M.box gr4 hr
  have hlt : ∀ k, vv.ownBlock = some k → k < w.heap.size := fun k e => (M.va.lt k e).2
  refine ⟨hb.cells.2.1, hb.free.2.1, M.put hk hr (hb.set1 _) ?_ ?_ ?_ ?_, hk.more (fun j e => ?_)⟩
  · have := ownsRow_setCell_below o4 (a := ⟨gx, 1, none⟩) (by simp) (.slice (some ⟨g, 0, none⟩) (s.keys.length + 1) cap)
    rw [strVals_append, List.length_append]
    rw [← tb_back t] at this
    exact this
  · refine row_same M.va (fun k e => hk.block k (hlt k e) ?_)
    rintro (e1 | rfl)
    · exact M.ne k e1 e
    · have := (M.va.lt _ e).1; omega
  · refine row_same M.ki (fun k e => hk.block k (M.ki.lt k e).2 ?_)
    rintro (e1 | rfl)
    · exact nrows_apart M.ke M.ki (by decide) k e1 e
    · have := (M.ki.lt _ e).1; omega
  · intro k e1 e2
    obtain rfl : g = k := by simpa [Value.ownBlock] using e1
    rcases at4 with e | e
    · exact M.ne g e e2
    · have := hlt g e2
      simp at e
      omega
  · rcases e with e | e
    · have := hr j e; omega
    · omega

theorem pushV {o : Obj} {g cap : Nat} {t : ByteArray} (M : RS w gb gr gm gt gn gx R mis r s kv vv cv) (o4 : w4.ownsRow (gx + 1) 9 1 (.slice (some ⟨g, 0, none⟩) (s.vals.length + 1) cap) (s.vals.length + 1) (strVals s.vals ++ [.string t]))
    (gr4 : (w.alloc o).grownBy w4 vv.ownBlock) (at4 : vv.ownBlock = some g ∨ g = (w.alloc o).heap.size) :
    w4.cell? ⟨gx, 2, none⟩ = some vv ∧ w4.frozen? ⟨gx, 2, none⟩ = false ∧
      Hid (RS (w4.setCell ⟨gx, 2, none⟩ (.slice (some ⟨g, 0, none⟩) (s.vals.length + 1) cap)) gb gr gm gt gn gx R mis r ⟨s.leaf, s.keys, s.vals ++ [t.toList], s.kids⟩ kv (.slice (some ⟨g, 0, none⟩) (s.vals.length + 1) cap) cv) ∧
      Hid (Kept (fun j => gx ≤ j) w (w4.setCell ⟨gx, 2, none⟩ (.slice (some ⟨g, 0, none⟩) (s.vals.length + 1) cap))) := by
  have hr : ∀ k, vv.ownBlock = some k → gx + 1 ≤ k := fun k e => (M.va.lt k e).1
  have hk := push_kept (gx := gx) gr4 2 (.slice (some ⟨g, 0, none⟩) (s.vals.length + 1) cap)
  have hb := push_box M.box gr4 hr
  have hlt : ∀ k, kv.ownBlock = some k → k < w.heap.size := fun k e => (M.ke.lt k e).2
  refine ⟨hb.cells.2.2.1, hb.free.2.2.1, M.put hk hr (hb.set2 _) ?_ ?_ ?_ ?_, hk.more (fun j e => ?_)⟩
  · refine row_same M.ke (fun k e => hk.block k (hlt k e) ?_)
    rintro (e1 | rfl)
    · exact M.ne k e e1
    · have := (M.ke.lt _ e).1; omega
  · have := ownsRow_setCell_below o4 (a := ⟨gx, 2, none⟩) (by simp) (.slice (some ⟨g, 0, none⟩) (s.vals.length + 1) cap)
    rw [strVals_append, List.length_append]
    rw [← tb_back t] at this
    exact this
  · refine row_same M.ki (fun k e => hk.block k (M.ki.lt k e).2 ?_)
    rintro (e1 | rfl)
    · exact nrows_apart M.va M.ki (by decide) k e1 e
    · have := (M.ki.lt _ e).1; omega
  · intro k e1 e2
    obtain rfl : g = k := by simpa [Value.ownBlock] using e2
    rcases at4 with e | e
    · exact M.ne g e1 e
    · have := hlt g e1
      simp at e
      omega
  · rcases e with e | e
    · have := hr j e; omega
    · omega

theorem pushC {o : Obj} {g cap : Nat} {z : Int} (M : RS w gb gr gm gt gn gx R mis r s kv vv cv) (o4 : w4.ownsRow (gx + 1) 3 1 (.slice (some ⟨g, 0, none⟩) (s.kids.length + 1) cap) (s.kids.length + 1) (intVals s.kids ++ [.int .i64 z]))
    (gr4 : (w.alloc o).grownBy w4 cv.ownBlock) :
    w4.cell? ⟨gx, 3, none⟩ = some cv ∧ w4.frozen? ⟨gx, 3, none⟩ = false ∧
      Hid (RS (w4.setCell ⟨gx, 3, none⟩ (.slice (some ⟨g, 0, none⟩) (s.kids.length + 1) cap)) gb gr gm gt gn gx R mis r ⟨s.leaf, s.keys, s.vals, s.kids ++ [z]⟩ kv vv (.slice (some ⟨g, 0, none⟩) (s.kids.length + 1) cap)) ∧
      Hid (Kept (fun j => gx ≤ j) w (w4.setCell ⟨gx, 3, none⟩ (.slice (some ⟨g, 0, none⟩) (s.kids.length + 1) cap))) := by
  have hr : ∀ k, cv.ownBlock = some k → gx + 1 ≤ k := fun k e => (M.ki.lt k e).1
  have hk := push_kept (gx := gx) gr4 3 (.slice (some ⟨g, 0, none⟩) (s.kids.length + 1) cap)
  have hb := push_box M.box gr4 hr
  refine ⟨hb.cells.2.2.2, hb.free.2.2.2, M.put hk hr (hb.set3 _) ?_ ?_ ?_ M.ne, hk.more (fun j e => ?_)⟩
  · refine row_same M.ke (fun k e => hk.block k (M.ke.lt k e).2 ?_)
    rintro (e1 | rfl)
    · exact nrows_apart M.ke M.ki (by decide) k e e1
    · have := (M.ke.lt _ e).1; omega
  · refine row_same M.va (fun k e => hk.block k (M.va.lt k e).2 ?_)
    rintro (e1 | rfl)
    · exact nrows_apart M.va M.ki (by decide) k e e1
    · have := (M.va.lt _ e).1; omega
  · have := ownsRow_setCell_below o4 (a := ⟨gx, 3, none⟩) (by simp) (.slice (some ⟨g, 0, none⟩) (s.kids.length + 1) cap)
    rw [sIntVals_append, List.length_append]
    exact this
  · rcases e with e | e
    · have := hr j e; omega
    · omega
end

/-! ### What the bytes tell from there -/

/-- What is told where s has been read, r is left, and m entries are to come. -/
def goOn (lf : Bool) (m : Nat) (r : List UInt8) (s : ND) : Option ND :=
  if lf then (ND.prsL m r).map (fun p => ⟨true, s.keys ++ p.1, s.vals ++ p.2, s.kids⟩) else (ND.prsI m r).map (fun p => ⟨false, s.keys ++ p.1, s.vals, s.kids ++ p.2⟩)
theorem goOn_end {lf : Bool} {r : List UInt8} {s : ND} (h : s.leaf = lf) : goOn lf 0 r s = if r.length = 0 then some s else none := by
  obtain ⟨leaf, ks, vs, cs⟩ := s
  dsimp only at h
  subst h
  have e1 : ND.prsL 0 r = if r.length = 0 then some ([], []) else none := rfl
  have e2 : ND.prsI 0 r = if r.length = 0 then some ([], []) else none := rfl
  unfold goOn
  rw [e1, e2]
  cases leaf <;> by_cases h0 : r.length = 0 <;> simp [h0]
theorem goOn_none {lf : Bool} {m : Nat} {r : List UInt8} {s : ND} (h : ND.cutT r = none) : goOn lf (m + 1) r s = none := by
  unfold goOn
  rw [ND.prsL_succ, ND.prsI_succ, h]
  cases lf <;> rfl
theorem goOn_val {m : Nat} {r r1 r2 : List UInt8} {s : ND} {a b : List UInt8} (h : ND.cutT r = some (a, r1)) (g : ND.cutT r1 = some (b, r2)) : goOn true (m + 1) r s = goOn true m r2 ⟨s.leaf, s.keys ++ [a], s.vals ++ [b], s.kids⟩ := by
  unfold goOn
  rw [if_pos rfl, if_pos rfl, ND.prsL_succ, h]
  dsimp only
  rw [g]
  dsimp only
  cases ND.prsL m r2 <;> simp
theorem goOn_noval {m : Nat} {r r1 : List UInt8} {s : ND} {a : List UInt8} (h : ND.cutT r = some (a, r1)) (g : ND.cutT r1 = none) : goOn true (m + 1) r s = none := by
  unfold goOn
  rw [if_pos rfl, ND.prsL_succ, h]
  dsimp only
  rw [g]
  rfl
theorem goOn_kid {m : Nat} {r r1 r2 : List UInt8} {s : ND} {a : List UInt8} {z : Int} (h : ND.cutT r = some (a, r1)) (g : ND.kidT r1 = some (z, r2)) : goOn false (m + 1) r s = goOn false m r2 ⟨s.leaf, s.keys ++ [a], s.vals, s.kids ++ [z]⟩ := by
  unfold goOn
  rw [if_neg (by decide), if_neg (by decide), ND.prsI_succ, h]
  dsimp only
  rw [g]
  dsimp only
  cases ND.prsI m r2 <;> simp
theorem goOn_nokid {m : Nat} {r r1 : List UInt8} {s : ND} {a : List UInt8} (h : ND.cutT r = some (a, r1)) (g : ND.kidT r1 = none) : goOn false (m + 1) r s = none := by
  unfold goOn
  rw [if_neg (by decide), ND.prsI_succ, h]
  dsimp only
  rw [g]
  rfl

theorem kid_bn {l : List UInt8} (h : 4 ≤ l.length) : ND.kidT l = some (((bn (l.take 4) : Nat) : Int), l.drop 4) := by
  match l, h with
  | a :: b :: c :: d :: r, _ =>
    show some (((num4 a b c d : Nat) : Int), r) = some (((bn [a, b, c, d] : Nat) : Int), r)
    have : bn [a, b, c, d] = num4 a b c d := by unfold bn num4; simp [List.foldl]
    rw [this]
theorem kid_short {l : List UInt8} (h : l.length < 4) : ND.kidT l = none := by
  match l, h with
  | [], _ => rfl
  | [_], _ => rfl
  | [_, _], _ => rfl
  | [_, _, _], _ => rfl
  | _ :: _ :: _ :: _ :: _, h => simp at h; omega
/-- The bytes behind the number of keys. -/
theorem prs_two {lf : Bool} {l : List UInt8} (h : 2 ≤ l.length) : bn (l.take 2) < 65536 ∧ ND.prs lf l = if lf then goOn true (bn (l.take 2)) (l.drop 2) ⟨true, [], [], []⟩ else (match ND.kidT (l.drop 2) with
    | none => none
    | some (c, r') => goOn false (bn (l.take 2)) r' ⟨false, [], [], [c]⟩) := by
  match l, h with
  | x :: y :: r, _ =>
    have e : bn [x, y] = x.toNat * 256 + y.toNat := by unfold bn; simp [List.foldl]
    have hx := byte_lt x
    have hy := byte_lt y
    refine ⟨by show bn [x, y] < _; rw [e]; omega, ?_⟩
    show _ = if lf then goOn true (bn [x, y]) r _ else match ND.kidT r with
      | none => none
      | some (c, r') => goOn false (bn [x, y]) r' ⟨false, [], [], [c]⟩
    rw [e]
    cases lf with
    | true =>
      rw [ND.prs_leaf, if_pos rfl]
      unfold goOn
      rw [if_pos rfl]
      simp
    | false =>
      rw [ND.prs_inner, if_neg (by decide)]
      cases ND.kidT r with
      | none => rfl
      | some q =>
        obtain ⟨c, r'⟩ := q
        dsimp only
        unfold goOn
        rw [if_neg (by decide)]
        simp
theorem prs_short {lf : Bool} {l : List UInt8} (h : l.length < 2) : ND.prs lf l = none := by
  match l, h with
  | [], _ => rfl
  | [_], _ => rfl
  | _ :: _ :: _, h => simp at h; omega
end Go.Proofs.Ytgnlmbelaempcaa
