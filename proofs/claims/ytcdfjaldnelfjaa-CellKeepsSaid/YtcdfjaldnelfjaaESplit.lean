/-
  What cell's Split comes to.
-/
import Derived.Test.YtcdfjaldnelfjaaESplitT
import Derived.Test.YtcdfjaldnelfjaaESplitF
namespace Go.Proofs.Ytcdfjaldnelfjaa
open Go.RowKit

theorem split_any (lf : Bool) (A : Option Addr) (n c : Nat) (B : Option Addr) (m d : Nat) (C : Option Addr) (k e : Nat) (s : ND) (w : World) (h : Nd w A n c B m d C k e s) (hl : s.leaf = lf) (ho : s.ok = true) (hz : s.size ≤ 1000000) (hE : s.ents.sum ≤ 100000000) :
    Calls Try.prog 26 #[.agg #[.bool lf, .slice A n c, .slice B m d, .slice C k e]] w (SplitEnd w s) := by
  cases lf with
  | true => exact split_leaf A n c B m d C k e s w h hl ho hz hE
  | false => exact split_inner A n c B m d C k e s w h hl ho hz hE
end Go.Proofs.Ytcdfjaldnelfjaa
