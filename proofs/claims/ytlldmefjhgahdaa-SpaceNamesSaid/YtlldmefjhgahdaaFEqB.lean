/-
  What bytes.Equal comes to.
-/
import Derived.Test.YtlldmefjhgahdaaText
import Derived.Test.YtlldmefjhgahdaaNum
import Derived.Deep.QuietTactic
import Derived.BigQuiet
namespace Go.Proofs.Ytlldmefjhgahdaa
open Go.RowKit

theorem text_eq (l m : List UInt8) : (l == m) = decide (l = m) := by
  rw [Bool.eq_iff_iff]
  simp

set_option maxRecDepth 20000 in
theorem bytesEqual_any {w : World} {R R' : Nat} {A B : Option Addr} {l m : List UInt8} (h : Bys w R A l) (k : Bys w R' B m) (n c p d : Nat) (hn : l.length = n) (hp : m.length = p) :
    Calls Try.prog 46 #[.slice A n c, .slice B p d] w fun e w' => e = .returned (.bool (decide (l = m))) ∧ w = w' := by
  have h1 := run_text (P := Try.prog) h 59 9 5 n c hn Try.underlying59 Try.underlying5 Try.underlying9
  have h2 := run_text (P := Try.prog) k 59 9 5 p d hp Try.underlying59 Try.underlying5 Try.underlying9
  have HE := Lib.hid (text_eq l m)
  clear hn hp h k
  go_enter Try.func46, Try.ntmps46
  go_wp2_with fail
  go_ret
  exact ⟨ret_bool HE.out, rfl⟩

end Go.Proofs.Ytlldmefjhgahdaa
