/-
  A script of calls that comes in (layer 6).
-/
import Derived.Test.YtnaoibohilpcgaaOpenI
import Derived.Test.YtnaoibohilpcgaaGLive
namespace Go.Proofs.Ytnaoibohilpcgaa
open Go.ChangeShapes Go.WideShapes Go.ChangeAt Go.RowKit Go.Joins Go.Deep

/-- A script below R: the kinds and the numbers. -/
def GScript (w : World) (R : Nat) (A : Option Addr) (l : List (Int × Int)) : Prop :=
  l = [] ∨ ∃ b off, A = some ⟨b, off, none⟩ ∧ b < R ∧ ∀ i c, l[i]? = some c →
    w.cell? ⟨b, off + i * 2, none⟩ = some (.int .i64 c.1) ∧ w.cell? ⟨b, off + i * 2 + 1, none⟩ = some (.int .i64 c.2)

section
variable {w w' : World} {R : Nat} {A : Option Addr}
theorem GScript.below {l : List (Int × Int)} (h : GScript w R A l) (hb : Below R w w') : GScript w' R A l := by
  rcases h with rfl | ⟨b, off, rfl, hR, hc⟩
  · exact Or.inl rfl
  · refine Or.inr ⟨b, off, rfl, hR, fun i c hi => ?_⟩
    obtain ⟨h1, h2⟩ := hc i c hi
    exact ⟨(hb.cell (p := ⟨b, _, none⟩) hR).trans h1, (hb.cell (p := ⟨b, _, none⟩) hR).trans h2⟩

theorem GScript.at_ {l : List (Int × Int)} (h : GScript w R A l) {k : Nat} (hk : k < l.length) :
    ∃ b off x y, A = some ⟨b, off, none⟩ ∧ b < R ∧ l[k]? = some (x, y) ∧ w.cell? ⟨b, off + k * 2, none⟩ = some (.int .i64 x) ∧ w.cell? ⟨b, off + k * 2 + 1, none⟩ = some (.int .i64 y) := by
  rcases h with rfl | ⟨b, off, rfl, hR, hc⟩
  · exact absurd hk (by simp)
  · exact ⟨b, off, l[k].1, l[k].2, rfl, hR, List.getElem?_eq_getElem hk, hc k _ (List.getElem?_eq_getElem hk)⟩
end

section
variable {H : Type} {enc : TypeId × Value → H} {w : World} {base : Nat} {spare : Nat → Bool} {held : Bool}

theorem gcallCells2 : Try.prog.cellsOf 33 = 2 := by kernel_rfl

theorem gtwo {α : Type} {l : List α} (h : l.length = 2) : ∃ a b, l = [a, b] := by
  match l, h with
  | [a, b], _ => exact ⟨a, b, rfl⟩

theorem gcall_of {fuel : Nat} {cs : List Value} {x : DataW H × List MemPlace} (h : DataW.trod enc Try.prog w base spare held fuel 33 cs = some x) :
    ∃ c : Int × Int, cs = [.int .i64 c.1, .int .i64 c.2] := by
  obtain ⟨ys, n, _, _, hlen, hys, hf⟩ := DataW.trod_struct Try.underlying33 h
  obtain ⟨a, b, rfl⟩ := gtwo (hlen.trans gcallCells2)
  obtain ⟨y0, y1, rfl⟩ := gtwo hys
  have h0 : DataW.trod enc Try.prog w base spare held n 3 ([a, b].take (Try.prog.cellsOf 3)) = some y0 := hf 0 _ rfl
  have h1 : DataW.trod enc Try.prog w base spare held n 3 ([b].take (Try.prog.cellsOf 3)) = some y1 := hf 1 _ rfl
  rw [intCells] at h0 h1
  obtain ⟨z0, e0, _, w0⟩ := DataW.trod_int Try.underlying3 h0
  obtain ⟨z1, e1, _, w1⟩ := DataW.trod_int Try.underlying3 h1
  simp only [List.take_succ_cons, List.take_zero, List.cons.injEq, and_true] at e0 e1
  exact ⟨(z0, z1), by rw [e0, e1]⟩

/-- A script that comes in. -/
theorem open_gcalls {v : Value} {d : DataW H} {p : List MemPlace} {r : Reach} {b0 : Nat} (hv : Value.okWide Try.prog w r b0 23 v) (h : DataW.Trod enc Try.prog w base spare held 23 v d p) :
    ∃ (A : Option Addr) (n c : Nat) (l : List (Int × Int)), v = .slice A n c ∧ l.length = n ∧ GScript w w.heap.size A l ∧ n ≤ maxLen := by
  obtain ⟨A, n, c, rfl⟩ := okWide_slice Try.underlying23 hv
  obtain ⟨fuel, hf⟩ := h
  rcases open_slice Try.underlying23 hf with ⟨hcs, _⟩ | ⟨a, len, cap, m, f, D, Pl, hcs, _, hl, hcm, hm, _, hi⟩
  · simp [Value.cells] at hcs
    obtain ⟨rfl, rfl, rfl⟩ := hcs
    exact ⟨none, 0, 0, [], rfl, rfl, Or.inl rfl, Nat.zero_le _⟩
  · simp [Value.cells] at hcs
    obtain ⟨rfl, rfl, rfl⟩ := hcs
    have hlm : n ≤ m := by rw [hm]; split <;> omega
    have each : ∀ i, i < n → ∃ c : Int × Int, w.cell? ((a.add (i * 2)).add 0) = some (.int .i64 c.1) ∧ w.cell? ((a.add (i * 2)).add 1) = some (.int .i64 c.2) := by
      intro i hin
      obtain ⟨cs', hc, ht⟩ := hi i (by omega)
      rw [gcallCells2] at hc
      obtain ⟨c, rfl⟩ := gcall_of ht
      obtain ⟨_, _, hat⟩ := World.cells?_some hc
      exact ⟨c, hat 0 (by omega), hat 1 (by omega)⟩
    obtain ⟨xs, hlen, hx⟩ := pick_each (fun i (c : Int × Int) => w.cell? ((a.add (i * 2)).add 0) = some (.int .i64 c.1) ∧ w.cell? ((a.add (i * 2)).add 1) = some (.int .i64 c.2)) (fun v => v) n each
    refine ⟨_, _, _, xs, rfl, hlen, ?_, Nat.le_trans hl hcm⟩
    by_cases hx0 : xs = []
    · exact Or.inl hx0
    · right
      obtain ⟨b, off, spot⟩ := a
      have hpos : 0 < xs.length := by
        rcases xs with _ | ⟨y, ys⟩
        · exact absurd rfl hx0
        · simp
      have h01 := (hx 0 _ (List.getElem?_eq_getElem hpos)).1
      have h02 : w.cell? (((⟨b, off, spot⟩ : Addr).add (0 * 2)).add 0) = some (.int .i64 xs[0].1) := h01
      have hs : spot = none := by
        simpa [Addr.add] using World.cell?_spot h02
      subst hs
      refine ⟨b, off, rfl, ?_, fun i c hc => ?_⟩
      · rw [add_at, add_at] at h02
        exact World.block_lt_of_cell? _ _ h02
      · obtain ⟨g0, g1⟩ := hx i c hc
        rw [add_at, add_at] at g0 g1
        exact ⟨g0, g1⟩
end
end Go.Proofs.Ytnaoibohilpcgaa
