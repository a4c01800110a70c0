/-
  What is meant by a clock in memory.
-/
import Derived.Test.YtgkdlbcpckdmkaaKept
import Derived.Test.YtgkdlbcpckdmkaaInts
import Derived.Test.YtgkdlbcpckdmkaaGPure
import Derived.Lib.SmallJoins
namespace Go.Proofs.Ytgkdlbcpckdmkaa
open Go.RowKit

/-- What lies at place k of the places' cells: pins, and whether it was used, by turns. -/
def plc (s : CS) (k : Nat) : Value := if k % 2 = 0 then .int .i64 (s.p (k / 2)) else .bool (s.u (k / 2))

theorem plc_p (s : CS) (i : Nat) : plc s (i * 2) = .int .i64 (s.p i) := by
  unfold plc
  rw [if_pos (by omega), show i * 2 / 2 = i by omega]
theorem plc_u (s : CS) (i : Nat) : plc s (i * 2 + 1) = .bool (s.u i) := by
  unfold plc
  rw [if_neg (by omega), show (i * 2 + 1) / 2 = i by omega]
theorem plc_setU (s : CS) (i : Nat) (b : Bool) (k : Nat) : (if k = i * 2 + 1 then Value.bool b else plc s k) = plc (s.setU i b) k := by
  unfold plc CS.setU
  by_cases e : k = i * 2 + 1
  · subst e
    rw [if_pos rfl, if_neg (by omega)]
    show _ = Value.bool (if (i * 2 + 1) / 2 = i then b else _)
    rw [if_pos (by omega)]
  · rw [if_neg e]
    by_cases h : k % 2 = 0
    · rw [if_pos h, if_pos h]
    · rw [if_neg h, if_neg h]
      show _ = Value.bool (if k / 2 = i then b else _)
      rw [if_neg (by omega)]
theorem plc_setP (s : CS) (i m : Nat) (k : Nat) : (if k = i * 2 then Value.int .i64 m else plc s k) = plc (s.setP i m) k := by
  unfold plc CS.setP
  by_cases e : k = i * 2
  · subst e
    rw [if_pos rfl, if_pos (by omega)]
    show _ = Value.int .i64 ((if i * 2 / 2 = i then m else _ : Nat) : Int)
    rw [if_pos (by omega)]
  · rw [if_neg e]
    by_cases h : k % 2 = 0
    · rw [if_pos h, if_pos h]
      show _ = Value.int .i64 ((if k / 2 = i then m else _ : Nat) : Int)
      rw [if_neg (by omega)]
    · rw [if_neg h, if_neg h]

structure ClkAt (w : World) (db pb : Nat) (s : CS) : Prop where
  str : w.heap[db]? = some (.cells #[.slice (some ⟨pb, 0, none⟩) s.n s.n, .int .i64 s.h] 102 (0, 0))
  row : w.rowIs pb 99 (s.n * 2) (plc s)
  n1 : 1 ≤ s.n
  n2 : s.n ≤ 1000
  hn : s.h < s.n
  top : ∀ j, s.p j ≤ 9223372036854775807

/-- The blocks of a clock. -/
def Two (db pb : Nat) (k : Nat) : Prop := k = db ∨ k = pb

section
variable {w w' : World} {db pb : Nat} {s : CS}

set_option maxRecDepth 20000 in
theorem place_clock : (99 : TypeId) ≠ 102 := by decide

theorem ClkAt.ne (h : ClkAt w db pb s) : pb ≠ db := by
  intro e
  subst e
  obtain ⟨c, hb, _⟩ := h.row
  have := h.str
  rw [hb] at this
  injection this with this
  injection this with _ this
  exact place_clock this

theorem ClkAt.lt (h : ClkAt w db pb s) : db < w.heap.size ∧ pb < w.heap.size := by
  refine ⟨?_, h.row.lt⟩
  obtain ⟨hlt, _⟩ := Array.getElem?_eq_some_iff.1 h.str
  exact hlt

theorem ClkAt.c0 (h : ClkAt w db pb s) : w.cell? ⟨db, 0, none⟩ = some (.slice (some ⟨pb, 0, none⟩) s.n s.n) := (cell_of_row w db 0 _ _ _ h.str).trans rfl
theorem ClkAt.c1 (h : ClkAt w db pb s) : w.cell? ⟨db, 1, none⟩ = some (.int .i64 s.h) := (cell_of_row w db 1 _ _ _ h.str).trans rfl
theorem ClkAt.f (h : ClkAt w db pb s) (j : Nat) : w.frozen? ⟨db, j, none⟩ = false := frozen_of_row w db j _ _ h.str
theorem ClkAt.cp (h : ClkAt w db pb s) {i : Nat} (hi : i < s.n) : w.cell? ⟨pb, i * 2, none⟩ = some (.int .i64 (s.p i)) := by
  rw [h.row.cell (by omega), plc_p]
theorem ClkAt.cu (h : ClkAt w db pb s) {i : Nat} (hi : i < s.n) : w.cell? ⟨pb, i * 2 + 1, none⟩ = some (.bool (s.u i)) := by
  rw [h.row.cell (by omega), plc_u]

theorem ClkAt.same (h : ClkAt w db pb s) (e1 : w'.heap[db]? = w.heap[db]?) (e2 : w'.heap[pb]? = w.heap[pb]?) : ClkAt w' db pb s :=
  ⟨e1.trans h.str, h.row.of_block e2, h.n1, h.n2, h.hn, h.top⟩
theorem ClkAt.below (h : ClkAt w db pb s) (hb : Below w.heap.size w w') : ClkAt w' db pb s := h.same (hb.block _ h.lt.1) (hb.block _ h.lt.2)
theorem ClkAt.alloc (h : ClkAt w db pb s) (o : Obj) : ClkAt (w.alloc o) db pb s := h.below (below_one w o)
/-- What others do leaves a clock alone. -/
theorem ClkAt.kept {G : Nat → Prop} (h : ClkAt w db pb s) (hk : Kept G w w') (h1 : ¬ G db) (h2 : ¬ G pb) : ClkAt w' db pb s :=
  h.same (hk.block _ h.lt.1 h1) (hk.block _ h.lt.2 h2)

theorem ClkAt.setU (h : ClkAt w db pb s) {i : Nat} (b : Bool) : ClkAt (w.setCell ⟨pb, i * 2 + 1, none⟩ (.bool b)) db pb (s.setU i b) :=
  ⟨(Below.heap_setCell _ _ _ _ h.ne.symm).trans h.str, (h.row.set (i * 2 + 1) (.bool b)).congr (fun k _ => plc_setU s i b k), h.n1, h.n2, h.hn, h.top⟩
theorem ClkAt.setP (h : ClkAt w db pb s) {i m : Nat} (hm : m ≤ 9223372036854775807) : ClkAt (w.setCell ⟨pb, i * 2, none⟩ (.int .i64 (m : Int))) db pb (s.setP i m) :=
  ⟨(Below.heap_setCell _ _ _ _ h.ne.symm).trans h.str, (h.row.set (i * 2) (.int .i64 (m : Int))).congr (fun k _ => plc_setP s i m k), h.n1, h.n2, h.hn, fun j => by
    show (if j = i then m else s.p j) ≤ _
    have := h.top j
    split <;> omega⟩
theorem ClkAt.setH (h : ClkAt w db pb s) {m : Nat} (hm : m < s.n) : ClkAt (w.setCell ⟨db, 1, none⟩ (.int .i64 (m : Int))) db pb { s with h := m } :=
  ⟨by rw [Joins.block_setCell h.str]; rfl, h.row.setOther h.ne _, h.n1, h.n2, hm, h.top⟩

theorem Kept.two_db (w : World) {j : Nat} (v : Value) : Kept (Two db pb) w (w.setCell ⟨db, j, none⟩ v) := Kept.setCell w (a := ⟨db, j, none⟩) (Or.inl rfl) v
theorem Kept.two_pb (w : World) {j : Nat} (v : Value) : Kept (Two db pb) w (w.setCell ⟨pb, j, none⟩ v) := Kept.setCell w (a := ⟨pb, j, none⟩) (Or.inr rfl) v
end

/-- What a call leaves that answers v. -/
def CGoes (w : World) (db pb : Nat) (s' : CS) (v : Value) (e : Ending) (w' : World) : Prop :=
  e = .returned v ∧ ClkAt w' db pb s' ∧ Kept (Two db pb) w w'

end Go.Proofs.Ytgkdlbcpckdmkaa
