/-
  What the laws of nodes share.
-/
import Derived.Test.YtgnlmbelaempcaaNDec
namespace Go.Proofs.Ytgnlmbelaempcaa
open Go.RowKit

theorem chainN {w1 wx w3 : World} (b : Below wx.heap.size wx w3) (h : Below w1.heap.size w1 wx) : Below w1.heap.size w1 w3 := h.trans (b.mono h.size)
/-- A block for an answer. -/
theorem nboxed {w1 w6 : World} {A B C : Option Addr} {n c m d k e : Nat} {s : ND} (b : Below w1.heap.size w1 w6) (l : Nd w6 A n c B m d C k e s) (lf : Value) :
    Below w1.heap.size w1 (w6.alloc (.cells #[lf, .slice A n c, .slice B m d, .slice C k e] 26)) ∧
    NBox (w6.alloc (.cells #[lf, .slice A n c, .slice B m d, .slice C k e] 26)) w6.heap.size lf (.slice A n c) (.slice B m d) (.slice C k e) ∧
    Nd (w6.alloc (.cells #[lf, .slice A n c, .slice B m d, .slice C k e] 26)) A n c B m d C k e s :=
  ⟨chainN (below_one w6 _) b, nbox_new w6 _ _ _ _, l.kept (below_one w6 _)⟩
/-- What is decoded is small. -/
theorem dec_small {k : Int} {b : List UInt8} : (ND.decS k b).size ≤ 1000 := by
  unfold ND.decS
  cases h : ND.dec k b with
  | none => decide
  | some d => exact (ND.fits_of (ND.dec_back h).1).2.2
theorem dec_few {k : Int} {b : List UInt8} : (ND.decS k b).keys.length ≤ 1000 ∧ (ND.decS k b).vals.length ≤ 1000 ∧ (ND.decS k b).kids.length ≤ 1001 := by
  have h := dec_small (k := k) (b := b)
  unfold ND.size ND.tsz at h
  omega
end Go.Proofs.Ytgnlmbelaempcaa
