/-
  A list of ints that comes in.
-/
import Derived.Test.YtpihblbpmmdmmaaLift
import Derived.Test.YtpihblbpmmdmmaaInts
namespace Go.Proofs.Ytpihblbpmmdmmaa
open Go.ChangeShapes Go.WideShapes Go.ChangeAt Go.RowKit Go.Joins Go.Deep
section
variable {H : Type} {enc : TypeId × Value → H} {w : World} {base : Nat} {spare : Nat → Bool} {held : Bool}
/-- A slice of ints that comes in. -/
theorem open_nums {v : Value} {d : DataW H} {p : List MemPlace} {r : Reach} {b0 : Nat} (hv : Value.okWide Try.prog w r b0 31 v) (h : DataW.Trod enc Try.prog w base spare held 31 v d p) :
    ∃ (A : Option Addr) (n c : Nat) (zs : List Int), v = .slice A n c ∧ zs.length = n ∧ Ints w A zs := by
  obtain ⟨A, n, c, rfl⟩ := okWide_slice Try.underlying31 hv
  obtain ⟨fuel, hf⟩ := h
  rcases open_slice Try.underlying31 hf with ⟨hcs, _⟩ | ⟨a, len, cap, m, f, D, Pl, hcs, _, hl, _, hm, _, hi⟩
  · simp [Value.cells] at hcs
    obtain ⟨rfl, rfl, rfl⟩ := hcs
    exact ⟨none, 0, 0, [], rfl, rfl, Or.inl rfl⟩
  · simp [Value.cells] at hcs
    obtain ⟨rfl, rfl, rfl⟩ := hcs
    have hlm : n ≤ m := by rw [hm]; split <;> omega
    have each : ∀ i, i < n → ∃ z : Int, w.cell? (a.add i) = some (.int .i64 z) := by
      intro i hin
      obtain ⟨cs', hc, ht⟩ := hi i (by omega)
      rw [intCells] at hc
      obtain ⟨z, rfl, _, _⟩ := DataW.trod_int Try.underlying3 ht
      obtain ⟨_, _, hat⟩ := World.cells?_some hc
      have := hat 0 (by omega)
      rw [Nat.mul_one] at this
      refine ⟨z, ?_⟩
      simpa [Addr.add] using this
    obtain ⟨zs, hlen, hx⟩ := pick_each (fun i (z : Int) => w.cell? (a.add i) = some (.int .i64 z)) (fun v => v) n each
    refine ⟨_, _, _, zs, rfl, hlen, ?_⟩
    by_cases hx0 : zs = []
    · exact Or.inl hx0
    · right
      obtain ⟨b, off, spot⟩ := a
      have hpos : 0 < zs.length := by
        rcases zs with _ | ⟨y, ys⟩
        · exact absurd rfl hx0
        · simp
      have hs : spot = none := by
        have := hx 0 _ (List.getElem?_eq_getElem hpos)
        simpa [Addr.add] using World.cell?_spot this
      subst hs
      refine ⟨b, off, rfl, fun i v hv => ?_⟩
      have h0 := hx i v hv
      rw [add_at] at h0
      exact h0
end
end Go.Proofs.Ytpihblbpmmdmmaa
