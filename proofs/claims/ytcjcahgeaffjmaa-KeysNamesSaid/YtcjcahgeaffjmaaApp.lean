/-
  Rows of values that are made by append: what they hold.
-/
import Derived.Test.YtcjcahgeaffjmaaRow
import Derived.OwnWalk
import Derived.Laws.AppendOwn
namespace Go.Proofs.Ytcjcahgeaffjmaa
open Go.RowKit

/-- The cells of a row. -/
def rowVals : List Val → List Value
  | [] => []
  | v :: xs => .int .i64 v.k :: .int .i64 v.n :: .string v.s :: rowVals xs

theorem rowVals_length : ∀ xs : List Val, (rowVals xs).length = xs.length * 3
  | [] => rfl
  | v :: xs => by simp only [rowVals, List.length_cons, rowVals_length xs]; omega
theorem rowVals_append : ∀ xs ys : List Val, rowVals (xs ++ ys) = rowVals xs ++ rowVals ys
  | [], _ => rfl
  | v :: xs, ys => by simp only [List.cons_append, rowVals, rowVals_append xs ys]
theorem rowVals_one : ∀ (xs : List Val), ∀ u ∈ rowVals xs, u.oneCell' = true
  | [], u, h => by simp [rowVals] at h
  | v :: xs, u, h => by
    simp only [rowVals, List.mem_cons] at h
    rcases h with rfl | rfl | rfl | h
    · rfl
    · rfl
    · rfl
    · exact rowVals_one xs u h

theorem rowVals_at : ∀ (xs : List Val) (i : Nat) (v : Val), xs[i]? = some v →
    (rowVals xs)[i * 3]? = some (.int .i64 v.k) ∧ (rowVals xs)[i * 3 + 1]? = some (.int .i64 v.n) ∧ (rowVals xs)[i * 3 + 2]? = some (.string v.s)
  | [], i, v, h => by simp at h
  | x :: xs, 0, v, h => by
    obtain rfl : x = v := by simpa using h
    exact ⟨rfl, rfl, rfl⟩
  | x :: xs, i + 1, v, h => by
    have := rowVals_at xs i v (by simpa using h)
    have e : (i + 1) * 3 = i * 3 + 1 + 1 + 1 := by omega
    rw [e]
    simpa [rowVals] using this

theorem rowVals_from : ∀ (xs : List Val) (j : Nat) (u : Value), (rowVals xs)[j]? = some u →
    ∃ i v, xs[i]? = some v ∧ ((j = i * 3 ∧ u = .int .i64 v.k) ∨ (j = i * 3 + 1 ∧ u = .int .i64 v.n) ∨ (j = i * 3 + 2 ∧ u = .string v.s))
  | [], j, u, h => by simp [rowVals] at h
  | x :: xs, 0, u, h => ⟨0, x, rfl, Or.inl ⟨rfl, by simpa [rowVals] using h.symm⟩⟩
  | x :: xs, 1, u, h => ⟨0, x, rfl, Or.inr (Or.inl ⟨rfl, by simpa [rowVals] using h.symm⟩)⟩
  | x :: xs, 2, u, h => ⟨0, x, rfl, Or.inr (Or.inr ⟨rfl, by simpa [rowVals] using h.symm⟩)⟩
  | x :: xs, j + 3, u, h => by
    obtain ⟨i, v, hv, hw⟩ := rowVals_from xs j u (by simpa [rowVals] using h)
    refine ⟨i + 1, v, by simpa using hv, ?_⟩
    rcases hw with ⟨e, hu⟩ | ⟨e, hu⟩ | ⟨e, hu⟩
    · exact Or.inl ⟨by omega, hu⟩
    · exact Or.inr (Or.inl ⟨by omega, hu⟩)
    · exact Or.inr (Or.inr ⟨by omega, hu⟩)

theorem addr_add (b off n : Nat) : (⟨b, off, none⟩ : Addr).add n = ⟨b, off + n, none⟩ := by
  unfold Addr.add
  split
  · rename_i h
    have : n = 0 := by simpa using h
    subst this
    rfl
  · rfl

/-- A row's cells, at its address. -/
theorem Row.cells {w : World} {ad : Addr} {xs : List Val} (h : Row w (some ad) xs) : ∀ j u, (rowVals xs)[j]? = some u → w.cell? (ad.add j) = some u := by
  intro j u hu
  rcases h with rfl | ⟨b, off, e, hc⟩
  · simp [rowVals] at hu
  · obtain rfl : ad = ⟨b, off, none⟩ := Option.some.inj e
    rw [addr_add]
    obtain ⟨i, v, hv, hw⟩ := rowVals_from xs j u hu
    obtain ⟨h0, h1, h2⟩ := hc i v hv
    rcases hw with ⟨rfl, rfl⟩ | ⟨rfl, rfl⟩ | ⟨rfl, rfl⟩
    · exact h0
    · exact h1
    · exact h2

theorem Row.none_ {w : World} {xs : List Val} (h : Row w none xs) : xs = [] := by
  rcases h with h | ⟨b, off, e, _⟩
  · exact h
  · cases e

theorem row_of_own {w : World} {base e : Nat} {v : Value} {xs : List Val} (h : w.ownsRow base e 3 v xs.length (rowVals xs)) :
    ∃ A c, v = .slice A xs.length c ∧ Row w A xs := by
  rcases h.2 with ⟨rfl, h0⟩ | ⟨g, cap, cur, rfl, _⟩
  · have : xs = [] := List.eq_nil_of_length_eq_zero h0
    subst this
    exact ⟨none, 0, rfl, Or.inl rfl⟩
  · refine ⟨_, _, rfl, Or.inr ⟨g, 0, rfl, fun i v hv => ?_⟩⟩
    obtain ⟨h0, h1, h2⟩ := rowVals_at xs i v hv
    have k0 := h.cells (g := g) rfl _ _ h0
    have k1 := h.cells (g := g) rfl _ _ h1
    have k2 := h.cells (g := g) rfl _ _ h2
    rw [addr_add] at k0 k1 k2
    exact ⟨k0, k1, k2⟩

theorem valInfo : (Try.prog.info? 38).map (fun i => (i.zero, i.size, i.bytes)) = some (some (.agg #[.int .i64 0, .int .i64 0, .string ⟨#[]⟩]), 3, 32) := by kernel_rfl

end Go.Proofs.Ytcjcahgeaffjmaa
