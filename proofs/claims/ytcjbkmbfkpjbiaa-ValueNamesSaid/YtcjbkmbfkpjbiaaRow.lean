/-
  What Kinds comes to, for every row; and what is meant by a row of values in memory.
-/
import Derived.Test.YtcjbkmbfkpjbiaaChk
import Derived.Deep.OwnRows
import Derived.Lib.Hide
namespace Go.Proofs.Ytcjbkmbfkpjbiaa
open Go.RowKit

/-- A slice of values, at address A, whose elements are xs: none, or its cells lie from an address on, three a value. -/
def Row (w : World) (A : Option Addr) (xs : List Val) : Prop :=
  xs = [] ∨ ∃ b off, A = some ⟨b, off, none⟩ ∧ ∀ i v, xs[i]? = some v →
    w.cell? ⟨b, off + i * 3, none⟩ = some (.int .i64 v.k) ∧ w.cell? ⟨b, off + i * 3 + 1, none⟩ = some (.int .i64 v.n) ∧ w.cell? ⟨b, off + i * 3 + 2, none⟩ = some (.string v.s)

theorem Row.below {w w' : World} {A : Option Addr} {xs : List Val} (h : Row w A xs) (hb : Below w.heap.size w w') : Row w' A xs := by
  rcases h with rfl | ⟨b, off, rfl, hc⟩
  · exact Or.inl rfl
  · refine Or.inr ⟨b, off, rfl, fun i v hv => ?_⟩
    obtain ⟨h0, h1, h2⟩ := hc i v hv
    have hlt : b < w.heap.size := World.block_lt_of_cell? _ _ h0
    exact ⟨(hb.cell (p := ⟨b, _, none⟩) hlt).trans h0, (hb.cell (p := ⟨b, _, none⟩) hlt).trans h1, (hb.cell (p := ⟨b, _, none⟩) hlt).trans h2⟩

/-- The element k of a row that is not empty there. -/
theorem Row.at_ {w : World} {A : Option Addr} {xs : List Val} (h : Row w A xs) {k : Nat} (hk : k < xs.length) :
    ∃ b off v, A = some ⟨b, off, none⟩ ∧ xs[k]? = some v ∧
      w.cell? ⟨b, off + k * 3, none⟩ = some (.int .i64 v.k) ∧ w.cell? ⟨b, off + k * 3 + 1, none⟩ = some (.int .i64 v.n) ∧ w.cell? ⟨b, off + k * 3 + 2, none⟩ = some (.string v.s) := by
  rcases h with rfl | ⟨b, off, rfl, hc⟩
  · exact absurd hk (by simp)
  · exact ⟨b, off, xs[k], rfl, List.getElem?_eq_getElem hk, hc k _ (List.getElem?_eq_getElem hk)⟩

theorem intInfo : (Try.prog.info? 3).map (fun i => (i.zero, i.size, i.bytes)) = some (some (.int .i64 0), 1, 8) := by kernel_rfl

/-- What the list of kinds holds at place j. -/
def kindAt (xs : List Val) (j : Nat) : Value := .int .i64 ((xs[j]?.map Val.k).getD 0)
/-- The same while places up to k are laid. -/
def kindTo (xs : List Val) (k j : Nat) : Value := if j < k then kindAt xs j else .int .i64 0

theorem kindTo_start (xs : List Val) (j : Nat) : kindTo xs 0 j = .int .i64 0 := by simp [kindTo]
theorem kindTo_here (xs : List Val) (k : Nat) : kindTo xs k k = .int .i64 0 := by simp [kindTo]
theorem kindTo_step {xs : List Val} {k : Nat} {v : Val} (hv : xs[k]? = some v) (j : Nat) :
    (if j = k then Value.int .i64 v.k else kindTo xs k j) = kindTo xs (k + 1) j := by
  unfold kindTo kindAt
  by_cases h : j = k
  · subst h
    rw [if_pos rfl, if_pos (by omega), hv]
    rfl
  · rw [if_neg h]
    by_cases h2 : j < k
    · rw [if_pos h2, if_pos (by omega)]
    · rw [if_neg h2, if_neg (by omega)]
theorem kindTo_end {xs : List Val} {k j : Nat} (h : j < k) : kindTo xs k j = kindAt xs j := by simp [kindTo, h]

set_option maxHeartbeats 400000 in
theorem kinds_any (A : Option Addr) (c : Nat) (xs : List Val) (w : World) (hr : Row w A xs) (hn : xs.length ≤ 2147483647) :
    Calls Try.prog 15 #[.slice A xs.length c] w
      fun e w' => e = .returned (.slice (some ⟨w.heap.size, 0, none⟩) xs.length xs.length) ∧ w'.rowIs w.heap.size 3 xs.length (kindAt xs) ∧ Below w.heap.size w w' := by
  have hmk := fun W => run_make_row' (P := Try.prog) 30 3 (.int .i64 0) 8 Try.underlying30 intInfo rfl .i64 .i64 xs.length (by omega) (by omega) W
  go_enter Try.func15, Try.ntmps15
  go_wp2_with fail
  go_loopw [11] (fun i wr => ∃ k : Nat, k ≤ xs.length ∧ i = .int .i64 k ∧ wr.rowIs w.heap.size 3 xs.length (kindTo xs k) ∧ Below w.heap.size w wr) (fun i _ => xs.length - (intOf i).toNat)
  case atStart => exact ⟨0, Nat.zero_le _, rfl, (World.rowIs_made _ _ _ _).congr (fun j _ => (kindTo_start xs j).symm), below_one _ _⟩
  case round =>
    obtain ⟨k, hk, rfl, hrow, hb⟩ := hrel
    by_cases hlt : k < xs.length
    · obtain ⟨b, off, v, rfl, hv, c0, c1, c2⟩ := (hr.below hb).at_ hlt
      have hV := Lib.hid hv
      clear hv
      have g0 := hrow.cell hlt
      rw [kindTo_here] at g0
      have g1 := hrow.frozen k
      have g2 := hrow.lt
      go_wp2_with fail
      go_roundw
      case rel =>
        refine ⟨k + 1, by omega, by go_num, ?_, ?_⟩
        · exact ((hrow.set k _).congr (fun j _ => kindTo_step hV.out j)).alloc _
        · exact (hb.setCell (p := ⟨w.heap.size, k, none⟩) (Nat.le_refl _) _).alloc (by simpa [World.setCell] using hb.size) _
      case measure => simp [intOf]; omega
    · obtain rfl : k = xs.length := by omega
      go_wp2_with fail
      go_ret
      exact ⟨rfl, hrow.congr (fun j hj => kindTo_end hj), hb⟩
end Go.Proofs.Ytcjbkmbfkpjbiaa
