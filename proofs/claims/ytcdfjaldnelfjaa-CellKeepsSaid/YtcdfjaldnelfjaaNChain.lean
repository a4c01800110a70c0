/-
  Chains of worlds; a block for an answer that is a node.
-/
import Derived.Test.YtcdfjaldnelfjaaNMem
namespace Go.Proofs.Ytcdfjaldnelfjaa
open Go.RowKit

theorem chainN {w1 wx w3 : World} (b : Below wx.heap.size wx w3) (h : Below w1.heap.size w1 wx) : Below w1.heap.size w1 w3 := h.trans (b.mono h.size)
/-- A block for an answer. -/
theorem nboxed {w1 w6 : World} {A B C : Option Addr} {n c m d k e : Nat} {s : ND} (b : Below w1.heap.size w1 w6) (l : Nd w6 A n c B m d C k e s) (lf : Value) :
    Below w1.heap.size w1 (w6.alloc (.cells #[lf, .slice A n c, .slice B m d, .slice C k e] 25)) ∧
    NBox (w6.alloc (.cells #[lf, .slice A n c, .slice B m d, .slice C k e] 25)) w6.heap.size lf (.slice A n c) (.slice B m d) (.slice C k e) ∧
    Nd (w6.alloc (.cells #[lf, .slice A n c, .slice B m d, .slice C k e] 25)) A n c B m d C k e s :=
  ⟨chainN (below_one w6 _) b, nbox_new w6 _ _ _ _, l.kept (below_one w6 _)⟩
end Go.Proofs.Ytcdfjaldnelfjaa
