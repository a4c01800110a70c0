/-
  What the document's own Same comes to, at any two lists of bytes.
-/
import Derived.Test.YtillllegbgaalaaText
namespace Go.Proofs.Ytillllegbgaalaa
open Go.RowKit
section
variable {w : World} {R R' : Nat} {A B : Option Addr} {l m : List UInt8}

theorem sameB_any (h : Bys w R A l) (k : Bys w R' B m) (n c p d : Nat) (hn : l.length = n) (hp : m.length = p) :
    Calls Try.prog 20 #[.slice A n c, .slice B p d] w fun e w' => e = .returned (.bool (l == m)) ∧ w = w' := by
  have h1 := run_text (P := Try.prog) h 32 9 5 n c hn Try.underlying32 Try.underlying5 Try.underlying9
  have h2 := run_text (P := Try.prog) k 32 9 5 p d hp Try.underlying32 Try.underlying5 Try.underlying9
  clear hn hp h k
  go_enter Try.func20, Try.ntmps20
  go_wp2_with fail
  go_ret
  exact ⟨rfl, rfl⟩
end
end Go.Proofs.Ytillllegbgaalaa
