/-
  Plain facts on a place that is taken modulo a length; nothing here names a function of the program.
-/
import Derived.Test.YtpihblbpmmdmmaaOwnB
import Derived.Laws.BitsAllLaws
namespace Go.Proofs.Ytpihblbpmmdmmaa
open Go.RowKit

theorem mod_neg (i : Int) (n : Nat) (hi : i < 0) (hn : ¬ n = 0) : ∃ k : Nat, k < n ∧ -((i + 1).tmod (n : Int)) = (k : Int) := by
  have h : -((i + 1).tmod (n : Int)) = (-(i + 1)) % (n : Int) := by
    rw [← Int.neg_tmod, Int.tmod_eq_emod_of_nonneg (by omega)]
  have h1 := Int.emod_nonneg (-(i + 1)) (show (n : Int) ≠ 0 by omega)
  have h2 := Int.emod_lt_of_pos (-(i + 1)) (show (0 : Int) < n by omega)
  refine ⟨(-(i + 1) % (n : Int)).toNat, by omega, ?_⟩
  rw [h]
  omega

theorem mod_pos (i : Int) (n : Nat) (hn : ¬ n = 0) : ∃ k : Nat, k < n ∧ i % (n : Int) = (k : Int) := by
  have h1 := Int.emod_nonneg i (show (n : Int) ≠ 0 by omega)
  have h2 := Int.emod_lt_of_pos i (show (0 : Int) < n by omega)
  exact ⟨(i % (n : Int)).toNat, by omega, by omega⟩

/-- One byte of a list of one's own, and what it is turned into. -/
theorem turned_at {w : World} {base N k : Nat} {v : Value} {l : List UInt8} (b : UInt8) (h : Own w base v l) (hN : l.length = N) (hk : k < N) :
    ∃ (g cap : Nat) (z d : UInt8), v = .slice (some ⟨g, 0, none⟩) N cap ∧ w.cell? ⟨g, k, none⟩ = some (.int .u8 z.toNat) ∧ w.frozen? ⟨g, k, none⟩ = false ∧ base ≤ g ∧ N ≤ cap ∧
      Own (w.setCell ⟨g, k, none⟩ (.int .u8 d.toNat)) base (.slice (some ⟨g, 0, none⟩) N cap) (l.set k d) ∧ bits .xor .u8 (z.toNat : Int) (b.toNat : Int) = (d.toNat : Int) ∧ Hid (l[k]? = some z ∧ d = z ^^^ b) := by
  obtain ⟨g, cap, z, e, hz, h1, h2, h3, h4⟩ := own_store h (k := k) (by omega)
  obtain ⟨A', c', e', _, hc, _, _⟩ := Bys.of_own h
  rw [hN] at e e' hc
  subst e
  have ec : c' = cap := by injection e' with _ _ h; exact h.symm
  subst ec
  refine ⟨g, c', z, z ^^^ b, rfl, h1, h2, h3, hc, h4 _, ?_, Lib.hid ⟨hz, rfl⟩⟩
  rw [UInt8.toNat_xor]
  exact u8_xor_nat _ _ (UInt8.toNat_lt z) (UInt8.toNat_lt b)

end Go.Proofs.Ytpihblbpmmdmmaa
