/-
  What stays through a law of cells: the argument's block; and the law's last step, told once.
-/
import Derived.Test.YtcdfjaldnelfjaaEMay
namespace Go.Proofs.Ytcdfjaldnelfjaa
open Go.RowKit

/-- What stays: the argument's block. -/
structure Mid (W w : World) (s : ND) (A : Option Addr) (n c : Nat) (B : Option Addr) (m d : Nat) (C : Option Addr) (k e : Nat) : Prop where
  box : NBox w W.heap.size (.bool s.leaf) (.slice A n c) (.slice B m d) (.slice C k e)
  nd : Nd w A n c B m d C k e s
  below : Below W.heap.size W w
theorem Mid.next {W w w' : World} {s : ND} {A B C : Option Addr} {n c m d k e : Nat} (h : Mid W w s A n c B m d C k e) (b : Below w.heap.size w w') : Mid W w' s A n c B m d C k e :=
  ⟨h.box.kept b, h.nd.kept b, chainN b h.below⟩
end Go.Proofs.Ytcdfjaldnelfjaa
