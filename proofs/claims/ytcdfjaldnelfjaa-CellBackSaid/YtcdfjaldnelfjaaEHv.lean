/-
  Two nodes that are made side by side, each in a block of its own.
-/
import Derived.Test.YtcdfjaldnelfjaaEBox
namespace Go.Proofs.Ytcdfjaldnelfjaa
open Go.RowKit

structure Halves (w1 w : World) (q1 q2 : Nat) (lf : Bool) (A1 : Option Addr) (n1 c1 : Nat) (B1 : Option Addr) (m1 d1 : Nat) (C1 : Option Addr) (k1 e1 : Nat) (s1 : ND) (A2 : Option Addr) (n2 c2 : Nat) (B2 : Option Addr) (m2 d2 : Nat) (C2 : Option Addr) (k2 e2 : Nat) (s2 : ND) : Prop where
  b1 : NBox w q1 (.bool lf) (.slice A1 n1 c1) (.slice B1 m1 d1) (.slice C1 k1 e1)
  b2 : NBox w q2 (.bool lf) (.slice A2 n2 c2) (.slice B2 m2 d2) (.slice C2 k2 e2)
  h1 : Nd w A1 n1 c1 B1 m1 d1 C1 k1 e1 s1
  h2 : Nd w A2 n2 c2 B2 m2 d2 C2 k2 e2 s2
  ne : q1 ≠ q2
  l1 : w1.heap.size ≤ q1
  l2 : w1.heap.size ≤ q2
  bel : Below w1.heap.size w1 w

section
variable {w1 w w' : World} {q1 q2 : Nat} {lf : Bool} {A1 B1 C1 A2 B2 C2 : Option Addr} {n1 c1 m1 d1 k1 e1 n2 c2 m2 d2 k2 e2 : Nat} {s1 s2 : ND}
theorem Halves.next (h : Halves w1 w q1 q2 lf A1 n1 c1 B1 m1 d1 C1 k1 e1 s1 A2 n2 c2 B2 m2 d2 C2 k2 e2 s2) (b : Below w.heap.size w w') : Halves w1 w' q1 q2 lf A1 n1 c1 B1 m1 d1 C1 k1 e1 s1 A2 n2 c2 B2 m2 d2 C2 k2 e2 s2 :=
  ⟨h.b1.kept b, h.b2.kept b, h.h1.kept b, h.h2.kept b, h.ne, h.l1, h.l2, chainN b h.bel⟩

theorem Halves.vals {B1' B2' : Option Addr} {m1' d1' m2' d2' : Nat} {v1 v2 : List (List UInt8)} (h : Halves w1 w q1 q2 lf A1 n1 c1 B1 m1 d1 C1 k1 e1 s1 A2 n2 c2 B2 m2 d2 C2 k2 e2 s2) (g1 : Ln w 1 B1' m1' d1' (strVals v1)) (g2 : Ln w 1 B2' m2' d2' (strVals v2)) :
    Halves w1 ((w.setCell ⟨q1, 2, none⟩ (.slice B1' m1' d1')).setCell ⟨q2, 2, none⟩ (.slice B2' m2' d2')) q1 q2 lf A1 n1 c1 B1' m1' d1' C1 k1 e1 ⟨s1.leaf, s1.keys, v1, s1.kids⟩ A2 n2 c2 B2' m2' d2' C2 k2 e2 ⟨s2.leaf, s2.keys, v2, s2.kids⟩ := by
  have n1 := (NBut.refl q1 w).set 2 (.slice B1' m1' d1')
  have f2 := h.b2.but n1 (fun e => h.ne e.symm)
  have n2 := (NBut.refl q2 (w.setCell ⟨q1, 2, none⟩ (.slice B1' m1' d1'))).set 2 (.slice B2' m2' d2')
  have f1 := (h.b1.set2 (.slice B1' m1' d1')).but n2 h.ne
  exact ⟨f1, f2.set2 _, ⟨(h.h1.ke.strBut h.b1 n1).strBut f2 n2, (g1.strBut h.b1 n1).strBut f2 n2, (h.h1.ki.intBut h.b1 n1).intBut f2 n2⟩,
    ⟨(h.h2.ke.strBut h.b1 n1).strBut f2 n2, (g2.strBut h.b1 n1).strBut f2 n2, (h.h2.ki.intBut h.b1 n1).intBut f2 n2⟩, h.ne, h.l1, h.l2, (h.bel.setCell h.l1 _).setCell h.l2 _⟩
theorem Halves.kids {C1' C2' : Option Addr} {k1' e1' k2' e2' : Nat} {v1 v2 : List Int} (h : Halves w1 w q1 q2 lf A1 n1 c1 B1 m1 d1 C1 k1 e1 s1 A2 n2 c2 B2 m2 d2 C2 k2 e2 s2) (g1 : Ln w 1 C1' k1' e1' (intVals v1)) (g2 : Ln w 1 C2' k2' e2' (intVals v2)) :
    Halves w1 ((w.setCell ⟨q1, 3, none⟩ (.slice C1' k1' e1')).setCell ⟨q2, 3, none⟩ (.slice C2' k2' e2')) q1 q2 lf A1 n1 c1 B1 m1 d1 C1' k1' e1' ⟨s1.leaf, s1.keys, s1.vals, v1⟩ A2 n2 c2 B2 m2 d2 C2' k2' e2' ⟨s2.leaf, s2.keys, s2.vals, v2⟩ := by
  have n1 := (NBut.refl q1 w).set 3 (.slice C1' k1' e1')
  have f2 := h.b2.but n1 (fun e => h.ne e.symm)
  have n2 := (NBut.refl q2 (w.setCell ⟨q1, 3, none⟩ (.slice C1' k1' e1'))).set 3 (.slice C2' k2' e2')
  have f1 := (h.b1.set3 (.slice C1' k1' e1')).but n2 h.ne
  exact ⟨f1, f2.set3 _, ⟨(h.h1.ke.strBut h.b1 n1).strBut f2 n2, (h.h1.va.strBut h.b1 n1).strBut f2 n2, (g1.intBut h.b1 n1).intBut f2 n2⟩,
    ⟨(h.h2.ke.strBut h.b1 n1).strBut f2 n2, (h.h2.va.strBut h.b1 n1).strBut f2 n2, (g2.intBut h.b1 n1).intBut f2 n2⟩, h.ne, h.l1, h.l2, (h.bel.setCell h.l1 _).setCell h.l2 _⟩
end

/-- What a part's region leaves: a block with its keys. -/
def Part (w1 w : World) (lf : Bool) (n : Nat) (l : List (List UInt8)) (u : Value) : Prop :=
  ∃ q A c B d C e, u = .pointer (some ⟨q, 0, none⟩) ∧ NBox w q (.bool lf) (.slice A n c) (.slice B 0 d) (.slice C 0 e) ∧ Nd w A n c B 0 d C 0 e ⟨lf, l, [], []⟩ ∧ w1.heap.size ≤ q ∧ q < w.heap.size ∧ Below w1.heap.size w1 w
theorem part_done {w1 w : World} {lf : Bool} {n q c d e : Nat} {l : List (List UInt8)} {u : Value} {A B C : Option Addr} (hu : u = .pointer (some ⟨q, 0, none⟩)) (hb : NBox w q (.bool false) (.slice none 0 0) (.slice none 0 0) (.slice none 0 0)) (h : Nd w A n c B 0 d C 0 e ⟨lf, l, [], []⟩) (hq : w1.heap.size ≤ q) (b : Below w1.heap.size w1 w) :
    Part w1 ((((w.setCell ⟨q, 0, none⟩ (.bool lf)).setCell ⟨q, 1, none⟩ (.slice A n c)).setCell ⟨q, 2, none⟩ (.slice B 0 d)).setCell ⟨q, 3, none⟩ (.slice C 0 e)) lf n l u :=
  have hp := hb.put (.bool lf) (.slice A n c) (.slice B 0 d) (.slice C 0 e)
  ⟨q, A, c, B, d, C, e, hu, hp, h.but hb (NBut.put w q _ _ _ _), hq, hp.lt, below_nput b hq _ _ _ _⟩

/-- Both parts are laid into the answers' blocks. -/
theorem split_done {w wf : World} {r1 r2 : Nat} {v u : Value} {s1 s2 : ND} (hb : Below w.heap.size w wf) (h1 : w.heap.size ≤ r1) (h2 : w.heap.size ≤ r2) (hne : r1 ≠ r2)
    (b1 : NBox wf r1 (.bool false) (.slice none 0 0) (.slice none 0 0) (.slice none 0 0)) (b2 : NBox wf r2 (.bool false) (.slice none 0 0) (.slice none 0 0) (.slice none 0 0)) (hv : NdV wf 0 v s1) (hu : NdV wf 0 u s2) (x y z p x' y' z' p' : Value) :
    NdV ((((((((wf.setCell ⟨r1, 0, none⟩ x).setCell ⟨r1, 1, none⟩ y).setCell ⟨r1, 2, none⟩ z).setCell ⟨r1, 3, none⟩ p).setCell ⟨r2, 0, none⟩ x').setCell ⟨r2, 1, none⟩ y').setCell ⟨r2, 2, none⟩ z').setCell ⟨r2, 3, none⟩ p') 0 v s1 ∧
    NdV ((((((((wf.setCell ⟨r1, 0, none⟩ x).setCell ⟨r1, 1, none⟩ y).setCell ⟨r1, 2, none⟩ z).setCell ⟨r1, 3, none⟩ p).setCell ⟨r2, 0, none⟩ x').setCell ⟨r2, 1, none⟩ y').setCell ⟨r2, 2, none⟩ z').setCell ⟨r2, 3, none⟩ p') 0 u s2 ∧
    Below w.heap.size w ((((((((wf.setCell ⟨r1, 0, none⟩ x).setCell ⟨r1, 1, none⟩ y).setCell ⟨r1, 2, none⟩ z).setCell ⟨r1, 3, none⟩ p).setCell ⟨r2, 0, none⟩ x').setCell ⟨r2, 1, none⟩ y').setCell ⟨r2, 2, none⟩ z').setCell ⟨r2, 3, none⟩ p') := by
  have n1 := NBut.put wf r1 x y z p
  have f2 := b2.but n1 (fun e => hne e.symm)
  have n2 := NBut.put ((((wf.setCell ⟨r1, 0, none⟩ x).setCell ⟨r1, 1, none⟩ y).setCell ⟨r1, 2, none⟩ z).setCell ⟨r1, 3, none⟩ p) r2 x' y' z' p'
  obtain ⟨A, n, c, B, m, d, C, k, e, rfl, h, _⟩ := hv
  obtain ⟨A', n', c', B', m', d', C', k', e', rfl, h', _⟩ := hu
  exact ⟨⟨A, n, c, B, m, d, C, k, e, rfl, (h.but b1 n1).but f2 n2, fun _ _ => Nat.zero_le _, fun _ _ => Nat.zero_le _, fun _ _ => Nat.zero_le _⟩,
    ⟨A', n', c', B', m', d', C', k', e', rfl, (h'.but b1 n1).but f2 n2, fun _ _ => Nat.zero_le _, fun _ _ => Nat.zero_le _, fun _ _ => Nat.zero_le _⟩, below_nput (below_nput hb h1 x y z p) h2 x' y' z' p'⟩
/-- What both blocks then hold. -/
theorem split_cells {wf : World} {r1 r2 : Nat} (hne : r1 ≠ r2) {a b c d a' b' c' d' : Value} (b1 : NBox wf r1 a b c d) (b2 : NBox wf r2 a' b' c' d') (x y z p x' y' z' p' : Value) :
    NBox ((((((((wf.setCell ⟨r1, 0, none⟩ x).setCell ⟨r1, 1, none⟩ y).setCell ⟨r1, 2, none⟩ z).setCell ⟨r1, 3, none⟩ p).setCell ⟨r2, 0, none⟩ x').setCell ⟨r2, 1, none⟩ y').setCell ⟨r2, 2, none⟩ z').setCell ⟨r2, 3, none⟩ p') r1 x y z p ∧
    NBox ((((((((wf.setCell ⟨r1, 0, none⟩ x).setCell ⟨r1, 1, none⟩ y).setCell ⟨r1, 2, none⟩ z).setCell ⟨r1, 3, none⟩ p).setCell ⟨r2, 0, none⟩ x').setCell ⟨r2, 1, none⟩ y').setCell ⟨r2, 2, none⟩ z').setCell ⟨r2, 3, none⟩ p') r2 x' y' z' p' ∧
    NBox ((((wf.setCell ⟨r1, 0, none⟩ x).setCell ⟨r1, 1, none⟩ y).setCell ⟨r1, 2, none⟩ z).setCell ⟨r1, 3, none⟩ p) r2 a' b' c' d' := by
  have f2 := b2.but (NBut.put wf r1 x y z p) (fun e => hne e.symm)
  exact ⟨(b1.put x y z p).but (NBut.put _ r2 x' y' z' p') hne, f2.put x' y' z' p', f2⟩
end Go.Proofs.Ytcdfjaldnelfjaa
