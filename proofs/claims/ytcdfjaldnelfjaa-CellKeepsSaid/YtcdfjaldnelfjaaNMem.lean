/-
  Lists of texts in memory; a node as a value, and in a block of its own.
-/
import Derived.Test.YtcdfjaldnelfjaaSMem
import Derived.Test.YtcdfjaldnelfjaaNPure
import Derived.Lib.SmallJoins
namespace Go.Proofs.Ytcdfjaldnelfjaa
open Go.RowKit

/-- A text as the program has it. -/
def tb (t : List UInt8) : ByteArray := ⟨t.toArray⟩
theorem tb_list (t : List UInt8) : (tb t).toList = t := by rw [toList_data]; rfl
theorem tb_back (s : ByteArray) : tb s.toList = s := bytes_ext (tb_list _)

/-- The cells of a list of texts. -/
def strVals (l : List (List UInt8)) : List Value := l.map (fun t => Value.string (tb t))
theorem strVals_length (l : List (List UInt8)) : (strVals l).length = l.length := List.length_map _
theorem strVals_append (a b : List (List UInt8)) : strVals (a ++ b) = strVals a ++ strVals b := List.map_append
theorem strVals_one (l : List (List UInt8)) : ∀ u ∈ strVals l, u.oneCell' = true := by
  intro u hu
  obtain ⟨b, _, rfl⟩ := List.mem_map.1 hu
  rfl
theorem strVals_at {l : List (List UInt8)} {k : Nat} {t : List UInt8} (h : l[k]? = some t) : (strVals l)[k]? = some (.string (tb t)) := by
  rw [strVals, List.getElem?_map, h]
  rfl

section
variable {w w' : World} {A : Option Addr} {n c : Nat}
theorem Ln.strN {l : List (List UInt8)} (h : Ln w 1 A n c (strVals l)) : l.length = n := by
  have := h.len
  rw [strVals_length] at this
  omega
/-- The text k of a list. -/
theorem Ln.strAt {l : List (List UInt8)} (h : Ln w 1 A n c (strVals l)) {k : Nat} (hk : k < n) :
    ∃ b off s, A = some ⟨b, off, none⟩ ∧ l[k]? = some (ByteArray.toList s) ∧ w.cell? ⟨b, off + k, none⟩ = some (.string s) := by
  have hl := h.strN
  obtain ⟨b, off, rfl, _⟩ := h.spot (by rw [strVals_length]; omega)
  have hp : l[k]? = some l[k] := List.getElem?_eq_getElem (by omega)
  exact ⟨b, off, tb l[k], rfl, by rw [tb_list]; exact hp, h.cell (strVals_at hp)⟩
theorem Ln.strTake {l : List (List UInt8)} (h : Ln w 1 A n c (strVals l)) {k : Nat} (hk : k ≤ n) : Ln w 1 A k c (strVals (l.take k)) := by
  have := h.take hk
  rw [Nat.mul_one, strVals, ← List.map_take] at this
  exact this
end

/-- A world that has the same blocks. -/
theorem Ln.same {w w' : World} {sz n c : Nat} {A : Option Addr} {cs : List Value} (h : Ln w sz A n c cs) (e : w'.heap = w.heap) : Ln w' sz A n c cs :=
  ⟨h.len, h.le, h.lies.1, fun ad ea j u hu => (World.cell?_of_block (w := w) (by rw [e])).trans (h.lies.2 ad ea j u hu)⟩

/-- A list that lies at base or above. -/
def NHi (base : Nat) (A : Option Addr) : Prop := ∀ ad, A = some ad → base ≤ ad.block
theorem NHi.low {base base' : Nat} {A : Option Addr} (h : NHi base A) (hb : base' ≤ base) : NHi base' A := fun ad e => Nat.le_trans hb (h ad e)
theorem NHi.none_ (base : Nat) : NHi base none := fun _ e => by cases e
theorem NHi.of_own {w : World} {base sz n c : Nat} {e : TypeId} {A : Option Addr} {cs : List Value} (h : w.ownsRow base e sz (.slice A n c) n cs) : NHi base A := by
  intro ad e
  subst e
  exact (h.lt ad.block rfl).1

/-- A block that holds a node. -/
def NBox (w : World) (g : Nat) (x y z p : Value) : Prop := w.heap[g]? = some (.cells #[x, y, z, p] 25 (0, 0))

section
variable {w w' : World} {g r : Nat} {x y z p : Value}
theorem NBox.lt (h : NBox w g x y z p) : g < w.heap.size := (Array.getElem?_eq_some_iff.1 h).1
theorem NBox.kept (h : NBox w g x y z p) (hb : Below w.heap.size w w') : NBox w' g x y z p := (hb.block g h.lt).trans h
theorem NBox.block (h : NBox w g x y z p) (e : w'.heap[g]? = w.heap[g]?) : NBox w' g x y z p := Eq.trans e h
theorem NBox.cells (h : NBox w g x y z p) : w.cell? ⟨g, 0, none⟩ = some x ∧ w.cell? ⟨g, 1, none⟩ = some y ∧ w.cell? ⟨g, 2, none⟩ = some z ∧ w.cell? ⟨g, 3, none⟩ = some p :=
  ⟨(cell_of_row w g 0 _ _ _ h).trans rfl, (cell_of_row w g 1 _ _ _ h).trans rfl, (cell_of_row w g 2 _ _ _ h).trans rfl, (cell_of_row w g 3 _ _ _ h).trans rfl⟩
theorem NBox.free (h : NBox w g x y z p) : w.frozen? ⟨g, 0, none⟩ = false ∧ w.frozen? ⟨g, 1, none⟩ = false ∧ w.frozen? ⟨g, 2, none⟩ = false ∧ w.frozen? ⟨g, 3, none⟩ = false :=
  ⟨frozen_of_row w g 0 _ _ h, frozen_of_row w g 1 _ _ h, frozen_of_row w g 2 _ _ h, frozen_of_row w g 3 _ _ h⟩
theorem NBox.set0 (h : NBox w g x y z p) (u : Value) : NBox (w.setCell ⟨g, 0, none⟩ u) g u y z p := by
  unfold NBox at h ⊢
  rw [Joins.block_setCell h]
  rfl
theorem NBox.set1 (h : NBox w g x y z p) (u : Value) : NBox (w.setCell ⟨g, 1, none⟩ u) g x u z p := by
  unfold NBox at h ⊢
  rw [Joins.block_setCell h]
  rfl
theorem NBox.set2 (h : NBox w g x y z p) (u : Value) : NBox (w.setCell ⟨g, 2, none⟩ u) g x y u p := by
  unfold NBox at h ⊢
  rw [Joins.block_setCell h]
  rfl
theorem NBox.set3 (h : NBox w g x y z p) (u : Value) : NBox (w.setCell ⟨g, 3, none⟩ u) g x y z u := by
  unfold NBox at h ⊢
  rw [Joins.block_setCell h]
  rfl
theorem NBox.put (h : NBox w g x y z p) (x' y' z' p' : Value) : NBox ((((w.setCell ⟨g, 0, none⟩ x').setCell ⟨g, 1, none⟩ y').setCell ⟨g, 2, none⟩ z').setCell ⟨g, 3, none⟩ p') g x' y' z' p' := (((h.set0 x').set1 y').set2 z').set3 p'
/-- All blocks but one are as they were. -/
def NBut (r : Nat) (w w' : World) : Prop := w.heap.size = w'.heap.size ∧ ∀ k, k ≠ r → w'.heap[k]? = w.heap[k]?
theorem NBut.refl (r : Nat) (w : World) : NBut r w w := ⟨rfl, fun _ _ => rfl⟩
theorem NBut.set {w w' : World} (h : NBut r w w') (j : Nat) (u : Value) : NBut r w (w'.setCell ⟨r, j, none⟩ u) := ⟨h.1.trans (by simp [World.setCell]), fun k hk => (Below.heap_setCell _ _ _ _ hk).trans (h.2 k hk)⟩
theorem NBut.put (w : World) (r : Nat) (x y z p : Value) : NBut r w ((((w.setCell ⟨r, 0, none⟩ x).setCell ⟨r, 1, none⟩ y).setCell ⟨r, 2, none⟩ z).setCell ⟨r, 3, none⟩ p) := ((((NBut.refl r w).set 0 x).set 1 y).set 2 z).set 3 p
theorem NBox.but (h : NBox w g x y z p) (hb : NBut r w w') (hne : g ≠ r) : NBox w' g x y z p := (hb.2 g hne).trans h
theorem below_nput {B : Nat} {a w : World} (h : Below B a w) (hr : B ≤ r) (x y z p : Value) : Below B a ((((w.setCell ⟨r, 0, none⟩ x).setCell ⟨r, 1, none⟩ y).setCell ⟨r, 2, none⟩ z).setCell ⟨r, 3, none⟩ p) := (((h.setCell hr _).setCell hr _).setCell hr _).setCell hr _
theorem Ln.nbut {sz n c : Nat} {A : Option Addr} {cs : List Value} (h : Ln w sz A n c cs) (hb : NBut r w w') (hA : NHi (r + 1) A) : Ln w' sz A n c cs :=
  ⟨h.len, h.le, h.lies.1, fun ad e j u hu => by
    have h0 := h.lies.2 ad e j u hu
    have hlt := hA ad e
    have hblk : (ad.add j).block = ad.block := by unfold Addr.add; split <;> rfl
    rw [World.cell?_of_block (w := w) (hb.2 (ad.add j).block (by omega))]
    exact h0⟩
end
theorem nbox_new (w : World) (x y z p : Value) : NBox (w.alloc (.cells #[x, y, z, p] 25)) w.heap.size x y z p := heap_alloc_new w _

/-- A node's three lists in memory. -/
structure Nd (w : World) (A : Option Addr) (n c : Nat) (B : Option Addr) (m d : Nat) (C : Option Addr) (k e : Nat) (s : ND) : Prop where
  ke : Ln w 1 A n c (strVals s.keys)
  va : Ln w 1 B m d (strVals s.vals)
  ki : Ln w 1 C k e (intVals s.kids)
section
variable {w w' : World} {A B C : Option Addr} {n c m d k e : Nat} {s : ND}
theorem Nd.kept (h : Nd w A n c B m d C k e s) (hb : Below w.heap.size w w') : Nd w' A n c B m d C k e s := ⟨h.ke.kept hb, h.va.kept hb, h.ki.kept hb⟩
theorem Nd.kn (h : Nd w A n c B m d C k e s) : s.keys.length = n := h.ke.strN
theorem Nd.vn (h : Nd w A n c B m d C k e s) : s.vals.length = m := h.va.strN
theorem Nd.cn (h : Nd w A n c B m d C k e s) : s.kids.length = k := h.ki.intN
end
/-- A node as a value, whose lists lie at base or above. -/
def NdV (w : World) (base : Nat) (v : Value) (s : ND) : Prop := ∃ A n c B m d C k e, v = .agg #[.bool s.leaf, .slice A n c, .slice B m d, .slice C k e] ∧ Nd w A n c B m d C k e s ∧ NHi base A ∧ NHi base B ∧ NHi base C
theorem NdV.kept {w w' : World} {base : Nat} {v : Value} {s : ND} (h : NdV w base v s) (hb : Below w.heap.size w w') : NdV w' base v s := by
  obtain ⟨A, n, c, B, m, d, C, k, e, rfl, h, hi⟩ := h
  exact ⟨A, n, c, B, m, d, C, k, e, rfl, h.kept hb, hi⟩
theorem NdV.low {w : World} {base base' : Nat} {v : Value} {s : ND} (h : NdV w base v s) (hb : base' ≤ base) : NdV w base' v s := by
  obtain ⟨A, n, c, B, m, d, C, k, e, rfl, h, h1, h2, h3⟩ := h
  exact ⟨A, n, c, B, m, d, C, k, e, rfl, h, h1.low hb, h2.low hb, h3.low hb⟩
theorem NdV.of {w : World} {A B C : Option Addr} {n c m d k e : Nat} {s : ND} (h : Nd w A n c B m d C k e s) {lf : Bool} (hl : lf = s.leaf) : NdV w 0 (.agg #[.bool lf, .slice A n c, .slice B m d, .slice C k e]) s := by
  subst hl
  exact ⟨A, n, c, B, m, d, C, k, e, rfl, h, fun _ _ => Nat.zero_le _, fun _ _ => Nat.zero_le _, fun _ _ => Nat.zero_le _⟩
theorem ndv_zero (w : World) (base : Nat) : NdV w base (.agg #[.bool false, .slice none 0 0, .slice none 0 0, .slice none 0 0]) ND.zero :=
  ⟨none, 0, 0, none, 0, 0, none, 0, 0, rfl, ⟨Ln.none_ w 1, Ln.none_ w 1, Ln.none_ w 1⟩, NHi.none_ _, NHi.none_ _, NHi.none_ _⟩
theorem ndv_put {w : World} {base r : Nat} {v : Value} {s : ND} (h : NdV w (r + 1) v s) (hr : base ≤ r) (x y z p : Value) : NdV ((((w.setCell ⟨r, 0, none⟩ x).setCell ⟨r, 1, none⟩ y).setCell ⟨r, 2, none⟩ z).setCell ⟨r, 3, none⟩ p) base v s := by
  obtain ⟨A, n, c, B, m, d, C, k, e, rfl, h, h1, h2, h3⟩ := h
  have hb := NBut.put w r x y z p
  exact ⟨A, n, c, B, m, d, C, k, e, rfl, ⟨h.ke.nbut hb h1, h.va.nbut hb h2, h.ki.nbut hb h3⟩, h1.low (by omega), h2.low (by omega), h3.low (by omega)⟩
/-- A call that answers a node and a number. -/
def NEnd (w : World) (r : Int) (s : ND) (e : Ending) (w' : World) : Prop := ∃ v, e = .returned (.tuple #[v, .int .i64 r]) ∧ NdV w' w.heap.size v s ∧ Below w.heap.size w w'
end Go.Proofs.Ytcdfjaldnelfjaa
