/-
  What is meant by the document's own clock in memory.
-/
import Derived.Test.YtnaoibohilpcgaaKept
import Derived.Test.YtnaoibohilpcgaaInts
import Derived.Test.YtnaoibohilpcgaaGPure
import Derived.Lib.SmallJoins
namespace Go.Proofs.Ytnaoibohilpcgaa
open Go.RowKit

def rowP (s : CS) (j : Nat) : Value := .int .i64 (s.p j)
def rowU (s : CS) (j : Nat) : Value := .bool (s.u j)

structure RClk (w : World) (rb qb vb : Nat) (s : CS) : Prop where
  str : w.heap[rb]? = some (.cells #[.slice (some ⟨qb, 0, none⟩) s.n s.n, .slice (some ⟨vb, 0, none⟩) s.n s.n, .int .i64 s.h] 39 (0, 0))
  rp : w.rowIs qb 3 s.n (rowP s)
  ru : w.rowIs vb 4 s.n (rowU s)
  n1 : 1 ≤ s.n
  n2 : s.n ≤ 1000
  hn : s.h < s.n
  top : ∀ j, s.p j ≤ 9223372036854775807

/-- The blocks of it. -/
def Thr (rb qb vb : Nat) (k : Nat) : Prop := k = rb ∨ k = qb ∨ k = vb

section
variable {w w' : World} {rb qb vb : Nat} {s : CS}

theorem row_type {b : Nat} {t t' : TypeId} {n : Nat} {f : Nat → Value} {c : Array Value} {m : Nat × Nat} (h : w.rowIs b t n f) (h' : w.heap[b]? = some (.cells c t' m)) : t = t' := by
  obtain ⟨d, hb, _⟩ := h
  rw [hb] at h'
  injection h' with h'
  injection h' with _ h' _

theorem RClk.ne1 (h : RClk w rb qb vb s) : qb ≠ rb := by
  intro e
  subst e
  exact absurd (row_type h.rp h.str) (by decide)
theorem RClk.ne2 (h : RClk w rb qb vb s) : vb ≠ rb := by
  intro e
  subst e
  exact absurd (row_type h.ru h.str) (by decide)
theorem RClk.ne3 (h : RClk w rb qb vb s) : vb ≠ qb := by
  intro e
  subst e
  obtain ⟨c, hb, _⟩ := h.rp
  exact absurd (row_type h.ru hb) (by decide)

theorem RClk.lt (h : RClk w rb qb vb s) : rb < w.heap.size ∧ qb < w.heap.size ∧ vb < w.heap.size := by
  refine ⟨?_, h.rp.lt, h.ru.lt⟩
  obtain ⟨hlt, _⟩ := Array.getElem?_eq_some_iff.1 h.str
  exact hlt

theorem RClk.c0 (h : RClk w rb qb vb s) : w.cell? ⟨rb, 0, none⟩ = some (.slice (some ⟨qb, 0, none⟩) s.n s.n) := (cell_of_row w rb 0 _ _ _ h.str).trans rfl
theorem RClk.c1 (h : RClk w rb qb vb s) : w.cell? ⟨rb, 1, none⟩ = some (.slice (some ⟨vb, 0, none⟩) s.n s.n) := (cell_of_row w rb 1 _ _ _ h.str).trans rfl
theorem RClk.c2 (h : RClk w rb qb vb s) : w.cell? ⟨rb, 2, none⟩ = some (.int .i64 s.h) := (cell_of_row w rb 2 _ _ _ h.str).trans rfl
theorem RClk.f (h : RClk w rb qb vb s) (j : Nat) : w.frozen? ⟨rb, j, none⟩ = false := frozen_of_row w rb j _ _ h.str
theorem RClk.cp (h : RClk w rb qb vb s) {i : Nat} (hi : i < s.n) : w.cell? ⟨qb, i, none⟩ = some (.int .i64 (s.p i)) := h.rp.cell hi
theorem RClk.cu (h : RClk w rb qb vb s) {i : Nat} (hi : i < s.n) : w.cell? ⟨vb, i, none⟩ = some (.bool (s.u i)) := h.ru.cell hi

theorem RClk.same (h : RClk w rb qb vb s) (e1 : w'.heap[rb]? = w.heap[rb]?) (e2 : w'.heap[qb]? = w.heap[qb]?) (e3 : w'.heap[vb]? = w.heap[vb]?) : RClk w' rb qb vb s :=
  ⟨e1.trans h.str, h.rp.of_block e2, h.ru.of_block e3, h.n1, h.n2, h.hn, h.top⟩
theorem RClk.below (h : RClk w rb qb vb s) (hb : Below w.heap.size w w') : RClk w' rb qb vb s := h.same (hb.block _ h.lt.1) (hb.block _ h.lt.2.1) (hb.block _ h.lt.2.2)
theorem RClk.kept {G : Nat → Prop} (h : RClk w rb qb vb s) (hk : Kept G w w') (h1 : ¬ G rb) (h2 : ¬ G qb) (h3 : ¬ G vb) : RClk w' rb qb vb s :=
  h.same (hk.block _ h.lt.1 h1) (hk.block _ h.lt.2.1 h2) (hk.block _ h.lt.2.2 h3)
theorem RClk.drew (h : RClk w rb qb vb s) : RClk w.drew rb qb vb s := h.same rfl rfl rfl

theorem RClk.setU (h : RClk w rb qb vb s) {i : Nat} (b : Bool) : RClk (w.setCell ⟨vb, i, none⟩ (.bool b)) rb qb vb (s.setU i b) :=
  ⟨(Below.heap_setCell _ _ _ _ h.ne2.symm).trans h.str, h.rp.setOther h.ne3.symm _, (h.ru.set i (.bool b)).congr (fun k _ => by
    show (if k = i then Value.bool b else Value.bool (s.u k)) = Value.bool (if k = i then b else s.u k)
    split <;> rfl), h.n1, h.n2, h.hn, h.top⟩
theorem RClk.setP (h : RClk w rb qb vb s) {i m : Nat} (hm : m ≤ 9223372036854775807) : RClk (w.setCell ⟨qb, i, none⟩ (.int .i64 (m : Int))) rb qb vb (s.setP i m) :=
  ⟨(Below.heap_setCell _ _ _ _ h.ne1.symm).trans h.str, (h.rp.set i (.int .i64 (m : Int))).congr (fun k _ => by
    show (if k = i then Value.int .i64 (m : Int) else Value.int .i64 (s.p k : Int)) = Value.int .i64 ((if k = i then m else s.p k : Nat) : Int)
    split <;> rfl), h.ru.setOther h.ne3 _, h.n1, h.n2, h.hn, fun j => by
    show (if j = i then m else s.p j) ≤ _
    have := h.top j
    split <;> omega⟩
theorem RClk.setH (h : RClk w rb qb vb s) {m : Nat} (hm : m < s.n) : RClk (w.setCell ⟨rb, 2, none⟩ (.int .i64 (m : Int))) rb qb vb { s with h := m } :=
  ⟨by rw [Joins.block_setCell h.str]; rfl, h.rp.setOther h.ne1 _, h.ru.setOther h.ne2 _, h.n1, h.n2, hm, h.top⟩

theorem Kept.thr_r (w : World) {j : Nat} (v : Value) : Kept (Thr rb qb vb) w (w.setCell ⟨rb, j, none⟩ v) := Kept.setCell w (a := ⟨rb, j, none⟩) (Or.inl rfl) v
theorem Kept.thr_q (w : World) {j : Nat} (v : Value) : Kept (Thr rb qb vb) w (w.setCell ⟨qb, j, none⟩ v) := Kept.setCell w (a := ⟨qb, j, none⟩) (Or.inr (Or.inl rfl)) v
theorem Kept.thr_v (w : World) {j : Nat} (v : Value) : Kept (Thr rb qb vb) w (w.setCell ⟨vb, j, none⟩ v) := Kept.setCell w (a := ⟨vb, j, none⟩) (Or.inr (Or.inr rfl)) v
theorem Kept.drawn {F : Nat → Prop} (h : Kept F w w') : Kept F w w'.drew := ⟨h.os, h.tape, h.output, h.size, h.block⟩
end

/-- What a call leaves that answers v. -/
def RGoes (w : World) (rb qb vb : Nat) (s' : CS) (v : Value) (e : Ending) (w' : World) : Prop :=
  e = .returned v ∧ RClk w' rb qb vb s' ∧ Kept (Thr rb qb vb) w w'

end Go.Proofs.Ytnaoibohilpcgaa
