/-
  Lists stay where a node's block is written: no cell of theirs is a node's.
-/
import Derived.Test.YtcdfjaldnelfjaaESp
namespace Go.Proofs.Ytcdfjaldnelfjaa
open Go.RowKit

section
variable {w w' : World} {q : Nat} {b : Bool} {A1 A2 A3 : Option Addr} {n1 n2 n3 c1 c2 c3 : Nat}
/-- A cell of a node's block is no text and no number. -/
theorem box_apart (h : NBox w q (.bool b) (.slice A1 n1 c1) (.slice A2 n2 c2) (.slice A3 n3 c3)) {ad : Addr} {u : Value} (hu : w.cell? ad = some u) (hk : (∃ s, u = .string s) ∨ ∃ z, u = .int .i64 z) : ad.block ≠ q := by
  rintro rfl
  have hs := World.cell?_spot hu
  obtain ⟨bl, off, sp⟩ := ad
  obtain rfl : sp = none := hs
  have e := cell_of_row w bl off _ _ _ h
  rw [hu] at e
  match off, e with
  | 0, e => rcases hk with ⟨s, rfl⟩ | ⟨z, rfl⟩ <;> cases e
  | 1, e => rcases hk with ⟨s, rfl⟩ | ⟨z, rfl⟩ <;> cases e
  | 2, e => rcases hk with ⟨s, rfl⟩ | ⟨z, rfl⟩ <;> cases e
  | 3, e => rcases hk with ⟨s, rfl⟩ | ⟨z, rfl⟩ <;> cases e
  | j + 4, e => simp at e

theorem Ln.apart {A : Option Addr} {n c : Nat} {cs : List Value} (g : Ln w 1 A n c cs) (hk : ∀ u ∈ cs, (∃ s, u = .string s) ∨ ∃ z, u = .int .i64 z) (h : NBox w q (.bool b) (.slice A1 n1 c1) (.slice A2 n2 c2) (.slice A3 n3 c3)) (hb : NBut q w w') : Ln w' 1 A n c cs :=
  ⟨g.len, g.le, g.lies.1, fun ad e j u hu => by
    have h0 := g.lies.2 ad e j u hu
    have hne := box_apart h h0 (hk u (List.mem_of_getElem? hu))
    rw [World.cell?_of_block (w := w) (hb.2 _ hne)]
    exact h0⟩
theorem str_kind (l : List (List UInt8)) : ∀ u ∈ strVals l, (∃ s, u = .string s) ∨ ∃ z, u = .int .i64 z := by
  intro u hu
  obtain ⟨t, _, rfl⟩ := List.mem_map.1 hu
  exact Or.inl ⟨_, rfl⟩
theorem int_kind (l : List Int) : ∀ u ∈ intVals l, (∃ s, u = .string s) ∨ ∃ z, u = .int .i64 z := by
  intro u hu
  obtain ⟨t, _, rfl⟩ := List.mem_map.1 hu
  exact Or.inr ⟨_, rfl⟩
theorem Ln.strBut {A : Option Addr} {n c : Nat} {l : List (List UInt8)} (g : Ln w 1 A n c (strVals l)) (h : NBox w q (.bool b) (.slice A1 n1 c1) (.slice A2 n2 c2) (.slice A3 n3 c3)) (hb : NBut q w w') : Ln w' 1 A n c (strVals l) := g.apart (str_kind l) h hb
theorem Ln.intBut {A : Option Addr} {n c : Nat} {l : List Int} (g : Ln w 1 A n c (intVals l)) (h : NBox w q (.bool b) (.slice A1 n1 c1) (.slice A2 n2 c2) (.slice A3 n3 c3)) (hb : NBut q w w') : Ln w' 1 A n c (intVals l) := g.apart (int_kind l) h hb
theorem Nd.but {A B C : Option Addr} {n c m d k e : Nat} {s : ND} (g : Nd w A n c B m d C k e s) (h : NBox w q (.bool b) (.slice A1 n1 c1) (.slice A2 n2 c2) (.slice A3 n3 c3)) (hb : NBut q w w') : Nd w' A n c B m d C k e s :=
  ⟨g.ke.strBut h hb, g.va.strBut h hb, g.ki.intBut h hb⟩
end
/-- A block of a node, somewhere at base or above, as a pointer. -/
def SP.box (base : Nat) : SP := ⟨fun v w => ∃ q, v = .pointer (some ⟨q, 0, none⟩) ∧ NBox w q (.bool false) (.slice none 0 0) (.slice none 0 0) (.slice none 0 0) ∧ base ≤ q, fun _ _ _ h hb => by obtain ⟨q, e, h, h2⟩ := h; exact ⟨q, e, h.kept hb, h2⟩⟩

/-- A call that answers both parts of a node, the key between, and an error. -/
def SplitEnd (w : World) (s : ND) (e : Ending) (w' : World) : Prop := ∃ v u, e = .returned (.tuple #[v, .string (tb s.splitK), u, .int .i64 s.splitE]) ∧ NdV w' 0 v s.splitL ∧ NdV w' 0 u s.splitR ∧ Below w.heap.size w w'

/-- A call that answers a node, wherever its lists lie. -/
def NfEnd (w : World) (s : ND) (e : Ending) (w' : World) : Prop := ∃ v, e = .returned v ∧ NdV w' 0 v s ∧ Below w.heap.size w w'
def NfBEnd (w : World) (s : ND) (r : Bool) (e : Ending) (w' : World) : Prop := ∃ v, e = .returned (.tuple #[v, .bool r]) ∧ NdV w' 0 v s ∧ Below w.heap.size w w'
/-- A node of lists that are there, laid into a block of a node. -/
theorem nf_done {w wf : World} {r : Nat} {A B C : Option Addr} {n c m d k e : Nat} {s : ND} (hb : Below w.heap.size w wf) (hr : w.heap.size ≤ r) (h : Nd wf A n c B m d C k e s) (b : NBox wf r (.bool false) (.slice none 0 0) (.slice none 0 0) (.slice none 0 0)) :
    NdV ((((wf.setCell ⟨r, 0, none⟩ (.bool s.leaf)).setCell ⟨r, 1, none⟩ (.slice A n c)).setCell ⟨r, 2, none⟩ (.slice B m d)).setCell ⟨r, 3, none⟩ (.slice C k e)) 0 (.agg #[.bool s.leaf, .slice A n c, .slice B m d, .slice C k e]) s ∧ Below w.heap.size w ((((wf.setCell ⟨r, 0, none⟩ (.bool s.leaf)).setCell ⟨r, 1, none⟩ (.slice A n c)).setCell ⟨r, 2, none⟩ (.slice B m d)).setCell ⟨r, 3, none⟩ (.slice C k e)) :=
  ⟨NdV.of (h.but b (NBut.put wf r _ _ _ _)) rfl, below_nput hb hr _ _ _ _⟩
theorem wrow {w0 w w' : World} {n : Nat} {cs : List Value} {t : TypeId} {v : Value} (h : w.ownsRow w0.heap.size t 1 v n cs) (b : Below w.heap.size w w') : ∃ A c, v = .slice A n c ∧ Ln w' 1 A n c cs ∧ c ≤ maxLen := by
  obtain ⟨A, c, e, hc, hl⟩ := Ln.of_own h
  exact ⟨A, c, e, hl.kept b, hc⟩
end Go.Proofs.Ytcdfjaldnelfjaa
