/-
  What makes the closure that lays numbers, and what the closure comes to at one, two and four bytes.
-/
import Derived.Test.YtlldmefjhgahdaaFLay
namespace Go.Proofs.Ytlldmefjhgahdaa
open Go.RowKit

set_option maxRecDepth 20000 in
set_option maxHeartbeats 400000 in
theorem layer_any (fb : Nat) (w : World) :
    Calls Try.prog 58 #[.pointer (some ⟨fb, 0, none⟩)] w fun e w' => e = .returned (.func (.func 65) #[] #[.pointer (some ⟨w.heap.size, 0, none⟩)]) ∧ w' = w.alloc (.cells #[.pointer (some ⟨fb, 0, none⟩)] 80) := by
  have hmf : ∀ (fn : Fn) (first cap : Array Value) (w : World), (Instr.makeFunc fn first cap).run Try.prog w = .ok (.func fn first cap) w := fun _ _ _ _ => rfl
  go_enter Try.func58, Try.ntmps58
  go_wp2_with fail
  go_ret
  exact ⟨rfl, rfl⟩

/-- Where bytes begin to grow. -/
theorem lay_start (w : World) (t u : TypeId) : LayAt ((w.alloc (.cells #[.slice none 0 0] t)).alloc (.cells #[.pointer (some ⟨w.heap.size, 0, none⟩)] u)) w.heap.size w.heap.size (w.heap.size + 1) (w.heap.size + 2) [] := by
  have hs : (w.alloc (.cells #[.slice none 0 0] t)).heap.size = w.heap.size + 1 := by simp
  have e1 : ((w.alloc (.cells #[.slice none 0 0] t)).alloc (.cells #[.pointer (some ⟨w.heap.size, 0, none⟩)] u)).heap[w.heap.size + 1]? = some (.cells #[.pointer (some ⟨w.heap.size, 0, none⟩)] u) := by
    have := heap_alloc_new (w.alloc (.cells #[.slice none 0 0] t)) (.cells #[.pointer (some ⟨w.heap.size, 0, none⟩)] u)
    rwa [hs] at this
  have e0 : ((w.alloc (.cells #[.slice none 0 0] t)).alloc (.cells #[.pointer (some ⟨w.heap.size, 0, none⟩)] u)).heap[w.heap.size]? = some (.cells #[.slice none 0 0] t) := by
    rw [heap_alloc_old _ _ (by rw [hs]; omega)]
    exact heap_alloc_new w _
  refine ⟨Nat.le_refl _, by omega, by omega, by omega, by omega, by simp, ?_, ?_, .slice none 0 0, ?_, own_nil _ _⟩
  · rw [cell_of_row _ _ 0 _ u (0, 0) e1]; rfl
  · simp
  · rw [cell_of_row _ _ 0 _ t (0, 0) e0]; rfl

theorem own_low {w : World} {base base' : Nat} {v : Value} {l : List UInt8} (h : Own w base v l) (hb : base' ≤ base) : Own w base' v l := by
  unfold Own at h ⊢
  refine ⟨h.1, ?_⟩
  rcases h.2 with h2 | ⟨g, cap, cur, h2, h3, h4⟩
  · exact Or.inl h2
  · exact Or.inr ⟨g, cap, cur, h2, by omega, h4⟩

set_option maxRecDepth 20000 in
theorem lay1 (x : Nat) (hx : x < 4294967296) (w : World) (B fb pb base : Nat) (l : List UInt8) (h : LayAt w B fb pb base l) (hl : l.length ≤ 1000000) :
    Calls Try.prog 65 #[.int .u32 (x : Int), .int .i64 1, .pointer (some ⟨pb, 0, none⟩)] w fun e w' => e = .returned (.tuple #[]) ∧ LayAt w' B fb pb base (l ++ be 1 x) ∧ Below B w w' :=
  lay_any x hx 1 (Or.inl rfl) w B fb pb base l h hl
set_option maxRecDepth 20000 in
theorem lay2 (x : Nat) (hx : x < 4294967296) (w : World) (B fb pb base : Nat) (l : List UInt8) (h : LayAt w B fb pb base l) (hl : l.length ≤ 1000000) :
    Calls Try.prog 65 #[.int .u32 (x : Int), .int .i64 2, .pointer (some ⟨pb, 0, none⟩)] w fun e w' => e = .returned (.tuple #[]) ∧ LayAt w' B fb pb base (l ++ be 2 x) ∧ Below B w w' :=
  lay_any x hx 2 (Or.inr (Or.inl rfl)) w B fb pb base l h hl
set_option maxRecDepth 20000 in
theorem lay4 (x : Nat) (hx : x < 4294967296) (w : World) (B fb pb base : Nat) (l : List UInt8) (h : LayAt w B fb pb base l) (hl : l.length ≤ 1000000) :
    Calls Try.prog 65 #[.int .u32 (x : Int), .int .i64 4, .pointer (some ⟨pb, 0, none⟩)] w fun e w' => e = .returned (.tuple #[]) ∧ LayAt w' B fb pb base (l ++ be 4 x) ∧ Below B w w' :=
  lay_any x hx 4 (Or.inr (Or.inr rfl)) w B fb pb base l h hl

set_option maxRecDepth 20000 in
/-- What append leaves, of two lists. -/
theorem own_grown {w : World} {base n m : Nat} {v : Value} {a b : List UInt8} (h : w.ownsRow base 5 1 v (n + m) (bv a ++ bv b)) :
    ∃ A c, v = .slice A (n + m) c ∧ Own w base (.slice A (n + m) c) (a ++ b) ∧ Bys w w.heap.size A (a ++ b) := by
  rw [← bv_append] at h
  obtain ⟨A, c, rfl, hl, _, _, r⟩ := Bys.of_own h
  refine ⟨A, c, rfl, ?_, r⟩
  unfold Own
  rw [hl]
  exact h

set_option maxRecDepth 20000 in
/-- The cells at which bytes grow. -/
theorem LayAt.look {w : World} {B fb pb base : Nat} {l : List UInt8} (h : LayAt w B fb pb base l) {n : Nat} (hl : l.length = n) :
    ∃ v, w.cell? ⟨fb, 0, none⟩ = some v ∧ w.frozen? ⟨fb, 0, none⟩ = false ∧ w.ownsRow base 5 1 v n (bv l) ∧ v.ownBlock ≠ some fb ∧ fb < w.heap.size ∧ base ≤ w.heap.size := by
  obtain ⟨v, h1, h2⟩ := h.cf
  have := h.fl
  refine ⟨v, h1, h.ff, by rw [← hl]; exact h2, fun e => ?_, World.block_lt_of_cell? _ _ h1, h.sz⟩
  have := (h2.lt _ e).1
  omega

end Go.Proofs.Ytlldmefjhgahdaa
