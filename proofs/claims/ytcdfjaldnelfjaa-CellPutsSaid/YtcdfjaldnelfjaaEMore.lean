/-
  Small facts on rows of one's own, and on lists of lists.
-/
import Derived.Test.YtcdfjaldnelfjaaNChain
import Derived.Test.YtcdfjaldnelfjaaAppLn
import Derived.Test.YtcdfjaldnelfjaaEPure
namespace Go.Proofs.Ytcdfjaldnelfjaa
open Go.RowKit

theorem row_base {w : World} {base base' sz n : Nat} {e : TypeId} {v : Value} {xs : List Value} (h : w.ownsRow base e sz v n xs) (hb : base' ≤ base) : w.ownsRow base' e sz v n xs := by
  refine ⟨h.1, ?_⟩
  rcases h.2 with h0 | ⟨g, cap, cur, e1, e2, e3⟩
  · exact Or.inl h0
  · exact Or.inr ⟨g, cap, cur, e1, Nat.le_trans hb e2, e3⟩
theorem one_take {cs : List Value} (h : ∀ u ∈ cs, u.oneCell' = true) (k : Nat) : ∀ u ∈ cs.take k, u.oneCell' = true := fun u hu => h u (List.mem_of_mem_take hu)
theorem one_drop {cs : List Value} (h : ∀ u ∈ cs, u.oneCell' = true) (k : Nat) : ∀ u ∈ cs.drop k, u.oneCell' = true := fun u hu => h u (List.mem_of_mem_drop hu)
theorem one_rep {cs ds : List Value} (h : ∀ u ∈ cs, u.oneCell' = true) (g : ∀ u ∈ ds, u.oneCell' = true) (f t : Nat) : ∀ u ∈ ND.rep cs f t ds, u.oneCell' = true := by
  intro u hu
  unfold ND.rep at hu
  rcases List.mem_append.1 hu with hu | hu
  · rcases List.mem_append.1 hu with hu | hu
    · exact one_take h f u hu
    · exact g u hu
  · exact one_drop h t u hu
theorem epcs_one (p : Pc) : pcs [p] = p.cs := by simp [pcs]
theorem epcs_two (p q : Pc) : pcs [p, q] = p.cs ++ q.cs := by simp [pcs]
theorem epcs_three (p q r : Pc) : pcs [p, q, r] = p.cs ++ q.cs ++ r.cs := by simp [pcs]

/-- A call that answers two lists of its own. -/
def PartEnd (w : World) (t : TypeId) (n m : Nat) (cs ds : List Value) (e : Ending) (w' : World) : Prop :=
  ∃ v u, e = .returned (.tuple #[v, u]) ∧ w'.ownsRow w.heap.size t 1 v n cs ∧ w'.ownsRow w.heap.size t 1 u m ds ∧ Below w.heap.size w w'
end Go.Proofs.Ytcdfjaldnelfjaa
