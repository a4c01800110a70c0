/-
  Stores into a block of pages' lists, and what is left as it was.
-/
import Derived.Test.YtlldmefjhgahdaaSBox
import Derived.Lib.SmallJoins
namespace Go.Proofs.Ytlldmefjhgahdaa
open Go.RowKit Go.Maps

theorem pcs_one (A : Option Addr) (n c : Nat) (cs : List Value) : pcs [⟨A, n, c, cs⟩] = cs := by simp [pcs]

/-! ### Stores into such a block -/

section
variable {w w' : World} {g r : Nat} {x y z : Value}
theorem Box.set0 (h : Box w g x y z) (u : Value) : Box (w.setCell ⟨g, 0, none⟩ u) g u y z := by
  unfold Box at h ⊢
  rw [Joins.block_setCell h]
  rfl
theorem Box.set1 (h : Box w g x y z) (u : Value) : Box (w.setCell ⟨g, 1, none⟩ u) g x u z := by
  unfold Box at h ⊢
  rw [Joins.block_setCell h]
  rfl
theorem Box.set2 (h : Box w g x y z) (u : Value) : Box (w.setCell ⟨g, 2, none⟩ u) g x y u := by
  unfold Box at h ⊢
  rw [Joins.block_setCell h]
  rfl
theorem Box.put (h : Box w g x y z) (x' y' z' : Value) : Box (((w.setCell ⟨g, 0, none⟩ x').setCell ⟨g, 1, none⟩ y').setCell ⟨g, 2, none⟩ z') g x' y' z' := ((h.set0 x').set1 y').set2 z'
/-- All blocks but one are as they were. -/
def But (r : Nat) (w w' : World) : Prop := w.heap.size = w'.heap.size ∧ ∀ k, k ≠ r → w'.heap[k]? = w.heap[k]?
theorem But.refl (r : Nat) (w : World) : But r w w := ⟨rfl, fun _ _ => rfl⟩
theorem But.set {w w' : World} (h : But r w w') (j : Nat) (u : Value) : But r w (w'.setCell ⟨r, j, none⟩ u) := ⟨h.1.trans (by simp [World.setCell]), fun k hk => (Below.heap_setCell _ _ _ _ hk).trans (h.2 k hk)⟩
theorem But.put (w : World) (r : Nat) (x y z : Value) : But r w (((w.setCell ⟨r, 0, none⟩ x).setCell ⟨r, 1, none⟩ y).setCell ⟨r, 2, none⟩ z) := (((But.refl r w).set 0 x).set 1 y).set 2 z
theorem Box.but (h : Box w g x y z) (hb : But r w w') (hne : g ≠ r) : Box w' g x y z := (hb.2 g hne).trans h
theorem But.cell (hb : But r w w') {k : Nat} (hne : k ≠ r) (j : Nat) : w'.cell? ⟨k, j, none⟩ = w.cell? ⟨k, j, none⟩ := World.cell?_of_block (w := w) (hb.2 k hne)
theorem below_put {B : Nat} {a w : World} (h : Below B a w) (hr : B ≤ r) (x y z : Value) : Below B a (((w.setCell ⟨r, 0, none⟩ x).setCell ⟨r, 1, none⟩ y).setCell ⟨r, 2, none⟩ z) := ((h.setCell hr _).setCell hr _).setCell hr _
end

/-- A list that lies at base or above. -/
def Hi (base : Nat) (A : Option Addr) : Prop := ∀ ad, A = some ad → base ≤ ad.block
theorem Hi.low {base base' : Nat} {A : Option Addr} (h : Hi base A) (hb : base' ≤ base) : Hi base' A := fun ad e => Nat.le_trans hb (h ad e)
theorem Hi.none_ (base : Nat) : Hi base none := fun _ e => by cases e
theorem Hi.of_own {w : World} {base sz n c : Nat} {e : TypeId} {A : Option Addr} {cs : List Value} (h : w.ownsRow base e sz (.slice A n c) n cs) : Hi base A := by
  intro ad e
  subst e
  exact (h.lt ad.block rfl).1
theorem Ln.but {w w' : World} {sz r n c : Nat} {A : Option Addr} {cs : List Value} (h : Ln w sz A n c cs) (hb : But r w w') (hA : Hi (r + 1) A) : Ln w' sz A n c cs :=
  ⟨h.len, h.le, h.lies.1, fun ad e j u hu => by
    have h0 := h.lies.2 ad e j u hu
    have hlt := hA ad e
    have hblk : (ad.add j).block = ad.block := by unfold Addr.add; split <;> rfl
    rw [World.cell?_of_block (w := w) (hb.2 (ad.add j).block (by omega))]
    exact h0⟩

theorem Sp.but {w w' : World} {r n c m d : Nat} {A B : Option Addr} {s : SS} (h : Sp w A n c B m d s) (hb : But r w w') (hA : Hi (r + 1) A) (hB : Hi (r + 1) B) : Sp w' A n c B m d s := ⟨h.fr.but hb hA, h.pe.but hb hB⟩
/-- What is answered once the answer's block is written. -/
theorem put_done {w w2 : World} {r n c m d : Nat} {h : Int} {A B : Option Addr} {s : SS} (hb : Below w.heap.size w w2) (hr : w.heap.size ≤ r) (hs : Sp w2 A n c B m d s) (hA : Hi (r + 1) A) (hB : Hi (r + 1) B) (hh : s.hi = h) (x y z : Value) :
    SpV (((w2.setCell ⟨r, 0, none⟩ x).setCell ⟨r, 1, none⟩ y).setCell ⟨r, 2, none⟩ z) (.agg #[.int .i64 h, .slice A n c, .slice B m d]) s ∧ Below w.heap.size w (((w2.setCell ⟨r, 0, none⟩ x).setCell ⟨r, 1, none⟩ y).setCell ⟨r, 2, none⟩ z) :=
  ⟨⟨A, n, c, B, m, d, by rw [hh], hs.but (But.put w2 r x y z) hA hB⟩, below_put hb hr x y z⟩
end Go.Proofs.Ytlldmefjhgahdaa
