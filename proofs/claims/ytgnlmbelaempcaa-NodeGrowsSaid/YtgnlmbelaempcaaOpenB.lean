/-
  A list of bytes that comes in.
-/
import Derived.Test.YtgnlmbelaempcaaLift
import Derived.Test.YtgnlmbelaempcaaOpenI
import Derived.Test.YtgnlmbelaempcaaByte
namespace Go.Proofs.Ytgnlmbelaempcaa
open Go.ChangeShapes Go.WideShapes Go.ChangeAt Go.RowKit Go.Joins Go.Deep
section
variable {H : Type} {enc : TypeId × Value → H} {w : World} {base : Nat} {spare : Nat → Bool} {held : Bool}

set_option maxRecDepth 20000 in
theorem byteCells1 : Try.prog.cellsOf 5 = 1 := by kernel_rfl

theorem byte_of_wf {z : Int} (h : (Lit.int .u8 z).wf = true) : ∃ b : UInt8, z = (b.toNat : Int) := by
  have h1 : 0 ≤ z ∧ z < 256 := by
    simp only [Lit.wf, Bool.and_eq_true, decide_eq_true_eq] at h
    have h1 : IntKind.u8.min = 0 := rfl
    have h2 : IntKind.u8.max = 255 := rfl
    omega
  refine ⟨UInt8.ofNat z.toNat, ?_⟩
  rw [ofNat_toNat]
  omega

set_option maxRecDepth 20000 in
/-- A slice of bytes that comes in. -/
theorem open_bytesz {v : Value} {d : DataW H} {p : List MemPlace} {r : Reach} {b0 : Nat} (hv : Value.okWide Try.prog w r b0 28 v) (h : DataW.Trod enc Try.prog w base spare held 28 v d p) :
    ∃ (A : Option Addr) (n c : Nat) (l : List UInt8), v = .slice A n c ∧ l.length = n ∧ Bys w w.heap.size A l ∧ n ≤ c ∧ c ≤ maxLen ∧ (A = none → n = 0 ∧ c = 0) := by
  obtain ⟨A, n, c, rfl⟩ := okWide_slice Try.underlying28 hv
  obtain ⟨fuel, hf⟩ := h
  rcases open_slice Try.underlying28 hf with ⟨hcs, _⟩ | ⟨a, len, cap, m, f, D, Pl, hcs, _, hl, hcm, hm, _, hi⟩
  · simp [Value.cells] at hcs
    obtain ⟨rfl, rfl, rfl⟩ := hcs
    exact ⟨none, 0, 0, [], rfl, rfl, Or.inl rfl, Nat.le_refl _, Nat.zero_le _, fun _ => ⟨rfl, rfl⟩⟩
  · simp [Value.cells] at hcs
    obtain ⟨rfl, rfl, rfl⟩ := hcs
    have hlm : n ≤ m := by rw [hm]; split <;> omega
    have each : ∀ i, i < n → ∃ z : UInt8, w.cell? (a.add i) = some (.int .u8 z.toNat) := by
      intro i hin
      obtain ⟨cs', hc, ht⟩ := hi i (by omega)
      rw [byteCells1] at hc
      obtain ⟨z, rfl, _, hwf⟩ := DataW.trod_int Try.underlying5 ht
      obtain ⟨b, rfl⟩ := byte_of_wf hwf
      obtain ⟨_, _, hat⟩ := World.cells?_some hc
      have := hat 0 (by omega)
      rw [Nat.mul_one] at this
      refine ⟨b, ?_⟩
      simpa [Addr.add] using this
    obtain ⟨zs, hlen, hx⟩ := pick_each (fun i (z : UInt8) => w.cell? (a.add i) = some (.int .u8 z.toNat)) (fun v => v) n each
    refine ⟨_, _, _, zs, rfl, hlen, ?_, hl, hcm, fun h => by cases h⟩
    by_cases hx0 : zs = []
    · exact Or.inl hx0
    · right
      obtain ⟨b, off, spot⟩ := a
      have hpos : 0 < zs.length := by
        rcases zs with _ | ⟨y, ys⟩
        · exact absurd rfl hx0
        · simp
      have h00 := hx 0 _ (List.getElem?_eq_getElem hpos)
      have hs : spot = none := by
        simpa [Addr.add] using World.cell?_spot h00
      subst hs
      refine ⟨b, off, rfl, ?_, fun i v hv => ?_⟩
      · rw [add_at] at h00
        exact World.block_lt_of_cell? _ _ h00
      · have h0 := hx i v hv
        rw [add_at] at h0
        exact h0

set_option maxRecDepth 20000 in
theorem open_bytes {v : Value} {d : DataW H} {p : List MemPlace} {r : Reach} {b0 : Nat} (hv : Value.okWide Try.prog w r b0 28 v) (h : DataW.Trod enc Try.prog w base spare held 28 v d p) :
    ∃ (A : Option Addr) (n c : Nat) (l : List UInt8), v = .slice A n c ∧ l.length = n ∧ Bys w w.heap.size A l ∧ n ≤ c ∧ c ≤ maxLen := by
  obtain ⟨A, n, c, l, h1, h2, h3, h4, h5, _⟩ := open_bytesz hv h
  exact ⟨A, n, c, l, h1, h2, h3, h4, h5⟩

set_option maxRecDepth 20000 in
/-- A byte that comes in. -/
theorem open_u8 {v : Value} {d : DataW H} {p : List MemPlace} {r : Reach} {b0 : Nat} (hv : Value.okWide Try.prog w r b0 5 v) (h : DataW.Trod enc Try.prog w base spare held 5 v d p) :
    ∃ z : UInt8, v = .int .u8 z.toNat := by
  obtain ⟨n, rfl⟩ := okWide_int Try.underlying5 hv
  obtain ⟨fuel, hf⟩ := h
  obtain ⟨m, hm, _, hwf⟩ := DataW.trod_int Try.underlying5 hf
  simp [Value.cells] at hm
  subst hm
  obtain ⟨b, rfl⟩ := byte_of_wf hwf
  exact ⟨b, rfl⟩
end
end Go.Proofs.Ytgnlmbelaempcaa
