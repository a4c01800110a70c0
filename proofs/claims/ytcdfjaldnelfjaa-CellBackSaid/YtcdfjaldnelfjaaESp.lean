/-
  What an operation of a region leaves, as a property that stays where memory is made: the properties that nodes' calls need.
-/
import Derived.Test.YtcdfjaldnelfjaaFlow
import Derived.Test.YtcdfjaldnelfjaaEMore
namespace Go.Proofs.Ytcdfjaldnelfjaa
open Go.RowKit

/-- A property of a value that stays where memory is made. -/
structure SP where
  p : Value → World → Prop
  st : ∀ v w w', p v w → Below w.heap.size w w' → p v w'
namespace SP
def any : SP := ⟨fun _ _ => True, fun _ _ _ _ _ => trivial⟩
def is (u : Value) : SP := ⟨fun v _ => v = u, fun _ _ _ h _ => h⟩
/-- Lists, in one list. -/
def pile (n : Nat) (ps : List Pc) : SP := ⟨fun v w => ∃ q, v = .slice (some q) n n ∧ Pile w 1 (some q) ps, fun _ _ _ h hb => by obtain ⟨q, e, h⟩ := h; exact ⟨q, e, h.kept hb⟩⟩
/-- A list, at base or above. -/
def ln (base n : Nat) (cs : List Value) : SP := ⟨fun v w => ∃ A c, v = .slice A n c ∧ Ln w 1 A n c cs ∧ NHi base A ∧ c ≤ maxLen, fun _ _ _ h hb => by obtain ⟨A, c, e, h, h2⟩ := h; exact ⟨A, c, e, h.kept hb, h2⟩⟩
/-- A node, its lists at base or above. -/
def nd (base : Nat) (s : ND) : SP := ⟨fun v w => NdV w base v s, fun _ _ _ h hb => h.kept hb⟩
/-- The property at a place. -/
def at_ (l : List SP) (i : Nat) : Value → World → Prop := (l.getD i any).p
theorem at_st (l : List SP) : ∀ i v w w', at_ l i v w → Below w.heap.size w w' → at_ l i v w' := fun i => (l.getD i any).st
end SP

/-- A call that answers a node. -/
def NdEnd (w : World) (s : ND) (e : Ending) (w' : World) : Prop := ∃ v, e = .returned v ∧ NdV w' w.heap.size v s ∧ Below w.heap.size w w'
/-- A call that answers a node, and whether. -/
def NdBEnd (w : World) (s : ND) (r : Bool) (e : Ending) (w' : World) : Prop := ∃ v, e = .returned (.tuple #[v, .bool r]) ∧ NdV w' w.heap.size v s ∧ Below w.heap.size w w'

theorem ln_of_row {w0 w : World} {base base' n : Nat} {t : TypeId} {v : Value} {cs : List Value} (h : w.ownsRow base t 1 v n cs) (_ : w0 = w) (hb : base' ≤ base) : (SP.ln base' n cs).p v w := by
  obtain ⟨A, c, rfl, hc, hl⟩ := Ln.of_own h
  exact ⟨A, c, rfl, hl, (NHi.of_own h).low hb, hc⟩

/-- The argument's block, and the answer's. -/
theorem nbox_pair (w : World) (x y z p : Value) : NBox ((w.alloc (.cells #[x, y, z, p] 25)).alloc (.cells #[.bool false, .slice none 0 0, .slice none 0 0, .slice none 0 0] 25)) w.heap.size x y z p ∧
    NBox ((w.alloc (.cells #[x, y, z, p] 25)).alloc (.cells #[.bool false, .slice none 0 0, .slice none 0 0, .slice none 0 0] 25)) (w.heap.size + 1) (.bool false) (.slice none 0 0) (.slice none 0 0) (.slice none 0 0) ∧
    Below w.heap.size w ((w.alloc (.cells #[x, y, z, p] 25)).alloc (.cells #[.bool false, .slice none 0 0, .slice none 0 0, .slice none 0 0] 25)) := by
  refine ⟨(nbox_new w x y z p).kept (below_one _ _), ?_, below_two _ _ _⟩
  have h := nbox_new (w.alloc (.cells #[x, y, z, p] 25)) (.bool false) (.slice none 0 0) (.slice none 0 0) (.slice none 0 0)
  rw [show (w.alloc (.cells #[x, y, z, p] 25)).heap.size = w.heap.size + 1 by simp] at h
  exact h

/-- A node that is laid into the answer's block. -/
theorem nd_done {w wf : World} {r : Nat} {v : Value} {s : ND} (hb : Below w.heap.size w wf) (hr : w.heap.size ≤ r) (h : NdV wf (r + 1) v s) (x y z p : Value) :
    NdV ((((wf.setCell ⟨r, 0, none⟩ x).setCell ⟨r, 1, none⟩ y).setCell ⟨r, 2, none⟩ z).setCell ⟨r, 3, none⟩ p) w.heap.size v s ∧ Below w.heap.size w ((((wf.setCell ⟨r, 0, none⟩ x).setCell ⟨r, 1, none⟩ y).setCell ⟨r, 2, none⟩ z).setCell ⟨r, 3, none⟩ p) :=
  ⟨ndv_put h hr x y z p, below_nput hb hr x y z p⟩
end Go.Proofs.Ytcdfjaldnelfjaa
