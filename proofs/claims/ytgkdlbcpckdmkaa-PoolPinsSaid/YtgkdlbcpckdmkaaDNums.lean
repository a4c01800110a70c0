/-
  Numbers, and bytes, that come in, as a part of something.
-/
import Derived.Test.YtgkdlbcpckdmkaaOpenB
import Derived.Test.YtgkdlbcpckdmkaaDOutN
namespace Go.Proofs.Ytgkdlbcpckdmkaa
open Go.ChangeShapes Go.WideShapes Go.ChangeAt Go.RowKit Go.Joins Go.Deep

def In64 (z : Int) : Prop := -9223372036854775808 ≤ z ∧ z ≤ 9223372036854775807

/-- Numbers below R. -/
def Nums (w : World) (R : Nat) (A : Option Addr) (l : List Int) : Prop :=
  l = [] ∨ ∃ b off, A = some ⟨b, off, none⟩ ∧ b < R ∧ ∀ i z, l[i]? = some z → w.cell? ⟨b, off + i, none⟩ = some (.int .i64 z) ∧ -9223372036854775808 ≤ z ∧ z ≤ 9223372036854775807

section
variable {w w' : World} {R : Nat} {A : Option Addr}

theorem Nums.below {l : List Int} (h : Nums w R A l) (hb : Below R w w') : Nums w' R A l := by
  rcases h with rfl | ⟨b, off, rfl, hR, hc⟩
  · exact Or.inl rfl
  · exact Or.inr ⟨b, off, rfl, hR, fun i z hz => ⟨(hb.cell (p := ⟨b, _, none⟩) hR).trans (hc i z hz).1, (hc i z hz).2⟩⟩

theorem Nums.outN {l : List Int} {F : Nat → Prop} (h : Nums w R A l) (hF : ∀ k, F k → R ≤ k) : OutN w F A l := by
  rcases h with h | ⟨b, off, e, hR, hc⟩
  · exact Or.inl h
  · exact Or.inr ⟨b, off, e, fun hb => by have := hF b hb; omega, hc⟩

end

section
variable {H : Type} {enc : TypeId × Value → H} {w : World} {base : Nat} {spare : Nat → Bool} {held : Bool}

theorem in64_of {z : Int} (h : (Lit.int .i64 z).wf = true) : In64 z := by
  simp only [Lit.wf, Bool.and_eq_true, decide_eq_true_eq] at h
  have h1 : IntKind.i64.min = -9223372036854775808 := rfl
  have h2 : IntKind.i64.max = 9223372036854775807 := rfl
  exact ⟨by omega, by omega⟩

set_option maxRecDepth 20000 in
theorem numCells1 : Try.prog.cellsOf 3 = 1 := by kernel_rfl
set_option maxRecDepth 20000 in
theorem bytesCells1 : Try.prog.cellsOf 33 = 1 := by kernel_rfl
set_option maxRecDepth 20000 in
theorem numsCells1 : Try.prog.cellsOf 22 = 1 := by kernel_rfl
set_option maxRecDepth 20000 in
theorem bytes_of {fuel : Nat} {v : Value} {x : DataW H × List MemPlace} (hf : DataW.trod enc Try.prog w base spare held fuel 33 [v] = some x) :
    ∃ (A : Option Addr) (n c : Nat) (l : List UInt8), v = .slice A n c ∧ l.length = n ∧ Bys w w.heap.size A l ∧ n ≤ c ∧ c ≤ maxLen ∧ (A = none → n = 0 ∧ c = 0) := by
  rcases open_slice Try.underlying33 hf with ⟨hcs, _⟩ | ⟨a, n, c, m, f, D, Pl, hcs, _, hl, hcm, hm, _, hi⟩
  · simp at hcs
    subst hcs
    exact ⟨none, 0, 0, [], rfl, rfl, Or.inl rfl, Nat.le_refl _, Nat.zero_le _, fun _ => ⟨rfl, rfl⟩⟩
  · simp at hcs
    subst hcs
    have hlm : n ≤ m := by rw [hm]; split <;> omega
    have each : ∀ i, i < n → ∃ z : UInt8, w.cell? (a.add i) = some (.int .u8 z.toNat) := by
      intro i hin
      obtain ⟨cs', hc, ht⟩ := hi i (by omega)
      rw [byteCells1] at hc
      obtain ⟨z, rfl, _, hwf⟩ := DataW.trod_int Try.underlying5 ht
      obtain ⟨b, rfl⟩ := byte_of_wf hwf
      obtain ⟨_, _, hat⟩ := World.cells?_some hc
      have := hat 0 (by omega)
      rw [Nat.mul_one] at this
      refine ⟨b, ?_⟩
      simpa [Addr.add] using this
    obtain ⟨zs, hlen, hx⟩ := pick_each (fun i (z : UInt8) => w.cell? (a.add i) = some (.int .u8 z.toNat)) (fun v => v) n each
    refine ⟨_, _, _, zs, rfl, hlen, ?_, hl, hcm, fun h => by cases h⟩
    by_cases hx0 : zs = []
    · exact Or.inl hx0
    · right
      obtain ⟨b, off, spot⟩ := a
      have hpos : 0 < zs.length := by
        rcases zs with _ | ⟨y, ys⟩
        · exact absurd rfl hx0
        · simp
      have h00 := hx 0 _ (List.getElem?_eq_getElem hpos)
      have hs : spot = none := by
        simpa [Addr.add] using World.cell?_spot h00
      subst hs
      refine ⟨b, off, rfl, ?_, fun i v hv => ?_⟩
      · rw [add_at] at h00
        exact World.block_lt_of_cell? _ _ h00
      · have h0 := hx i v hv
        rw [add_at] at h0
        exact h0

set_option maxRecDepth 20000 in
theorem nums_of {fuel : Nat} {v : Value} {x : DataW H × List MemPlace} (hf : DataW.trod enc Try.prog w base spare held fuel 22 [v] = some x) :
    ∃ (A : Option Addr) (n c : Nat) (l : List Int), v = .slice A n c ∧ l.length = n ∧ Nums w w.heap.size A l ∧ n ≤ c ∧ c ≤ maxLen := by
  rcases open_slice Try.underlying22 hf with ⟨hcs, _⟩ | ⟨a, n, c, m, f, D, Pl, hcs, _, hl, hcm, hm, _, hi⟩
  · simp at hcs
    subst hcs
    exact ⟨none, 0, 0, [], rfl, rfl, Or.inl rfl, Nat.le_refl _, Nat.zero_le _⟩
  · simp at hcs
    subst hcs
    have hlm : n ≤ m := by rw [hm]; split <;> omega
    have each : ∀ i, i < n → ∃ z : Int, w.cell? (a.add i) = some (.int .i64 z) ∧ In64 z := by
      intro i hin
      obtain ⟨cs', hc, ht⟩ := hi i (by omega)
      rw [numCells1] at hc
      obtain ⟨z, rfl, _, hwf⟩ := DataW.trod_int Try.underlying3 ht
      obtain ⟨_, _, hat⟩ := World.cells?_some hc
      have := hat 0 (by omega)
      rw [Nat.mul_one] at this
      refine ⟨z, ?_, in64_of hwf⟩
      simpa [Addr.add] using this
    obtain ⟨zs, hlen, hx⟩ := pick_each (fun i (z : Int) => w.cell? (a.add i) = some (.int .i64 z) ∧ In64 z) (fun v => v) n each
    refine ⟨_, _, _, zs, rfl, hlen, ?_, hl, hcm⟩
    by_cases hx0 : zs = []
    · exact Or.inl hx0
    · right
      obtain ⟨b, off, spot⟩ := a
      have hpos : 0 < zs.length := by
        rcases zs with _ | ⟨y, ys⟩
        · exact absurd rfl hx0
        · simp
      have h00 := (hx 0 _ (List.getElem?_eq_getElem hpos)).1
      have hs : spot = none := by
        simpa [Addr.add] using World.cell?_spot h00
      subst hs
      refine ⟨b, off, rfl, ?_, fun i v hv => ?_⟩
      · rw [add_at] at h00
        exact World.block_lt_of_cell? _ _ h00
      · have h0 := hx i v hv
        rw [add_at] at h0
        exact h0

set_option maxRecDepth 20000 in
/-- Numbers that come in. -/
theorem open_numsR {v : Value} {d : DataW H} {p : List MemPlace} {r : Reach} {b0 : Nat} (hv : Value.okWide Try.prog w r b0 22 v) (h : DataW.Trod enc Try.prog w base spare held 22 v d p) :
    ∃ (A : Option Addr) (n c : Nat) (l : List Int), v = .slice A n c ∧ l.length = n ∧ Nums w w.heap.size A l ∧ n ≤ maxLen := by
  obtain ⟨A, n, c, rfl⟩ := okWide_slice Try.underlying22 hv
  obtain ⟨fuel, hf⟩ := h
  obtain ⟨A', n', c', l, e, h1, h2, h3, h4⟩ := nums_of (v := .slice A n c) hf
  injection e with e1 e2 e3
  subst e1
  subst e2
  exact ⟨A, n, c, l, rfl, h1, h2, Nat.le_trans h3 h4⟩
end
end Go.Proofs.Ytgkdlbcpckdmkaa
