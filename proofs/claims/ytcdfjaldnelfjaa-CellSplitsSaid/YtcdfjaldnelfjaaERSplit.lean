/-
  What the document's own Split comes to (package tailraceref11).
-/
import Derived.Test.YtcdfjaldnelfjaaERSplitT
import Derived.Test.YtcdfjaldnelfjaaERSplitF
namespace Go.Proofs.Ytcdfjaldnelfjaa
open Go.RowKit

theorem rsplit_any (lf : Bool) (A : Option Addr) (n c : Nat) (B : Option Addr) (m d : Nat) (C : Option Addr) (k e : Nat) (s : ND) (w : World) (h : Nd w A n c B m d C k e s) (hl : s.leaf = lf) (ho : s.ok = true) (hz : s.size ≤ 1000000) (hE : s.ents.sum ≤ 100000000) :
    Calls Try.prog 27 #[.agg #[.bool lf, .slice A n c, .slice B m d, .slice C k e]] w (SplitEnd w s) := by
  cases lf with
  | true => exact rsplit_leaf A n c B m d C k e s w h hl ho hz hE
  | false => exact rsplit_inner A n c B m d C k e s w h hl ho hz hE
end Go.Proofs.Ytcdfjaldnelfjaa
