/-
  What the document's own Fits and Low come to (package tailraceref11).
-/
import Derived.Test.YtcdfjaldnelfjaaEMore
import Derived.Test.YtcdfjaldnelfjaaNRSize
namespace Go.Proofs.Ytcdfjaldnelfjaa
open Go.RowKit

set_option maxRecDepth 20000 in
set_option maxHeartbeats 1600000 in
theorem rfits_any (lf : Bool) (A : Option Addr) (n c : Nat) (B : Option Addr) (m d : Nat) (C : Option Addr) (k e : Nat) (s : ND) (w : World) (h : Nd w A n c B m d C k e s) (hz : s.size ≤ 1000000000) :
    Calls Try.prog 18 #[.agg #[.bool lf, .slice A n c, .slice B m d, .slice C k e]] w fun e w' => e = .returned (.bool (decide (s.size ≤ 1000))) ∧ Below w.heap.size w w' := by
  have HB := Lib.hid (nbox_new w (.bool lf) (.slice A n c) (.slice B m d) (.slice C k e))
  have b1 := below_one w (.cells #[.bool lf, .slice A n c, .slice B m d, .slice C k e] 25)
  have B1 := Lib.hid b1
  have H1 := Lib.hid (h.kept b1)
  have HZ := Lib.hid hz
  clear b1 h hz
  go_enter Try.func18, Try.ntmps18
  go_upto_region 1 with fail
  generalize w.alloc (.cells #[.bool lf, .slice A n c, .slice B m d, .slice C k e] 25) = w1 at *
  obtain ⟨c0, c1, c2, c3⟩ := HB.out.cells
  go_wp2_with fail
  refine (rsize_any lf A n c B m d C k e s w1 H1.out HZ.out).mono ?_
  rintro e1 w2 ⟨rfl, b2⟩
  have B2 := Lib.hid (chainN b2 B1.out)
  clear b2
  go_wp2_with fail
  go_ret
  exact ⟨ret_bool (by rw [Bool.eq_iff_iff]; simp; omega), B2.out⟩

set_option maxRecDepth 20000 in
set_option maxHeartbeats 1600000 in
theorem rlow_any (lf : Bool) (A : Option Addr) (n c : Nat) (B : Option Addr) (m d : Nat) (C : Option Addr) (k e : Nat) (s : ND) (w : World) (h : Nd w A n c B m d C k e s) (hz : s.size ≤ 1000000000) :
    Calls Try.prog 20 #[.agg #[.bool lf, .slice A n c, .slice B m d, .slice C k e]] w fun e w' => e = .returned (.bool (decide (s.size < 300))) ∧ Below w.heap.size w w' := by
  have HB := Lib.hid (nbox_new w (.bool lf) (.slice A n c) (.slice B m d) (.slice C k e))
  have b1 := below_one w (.cells #[.bool lf, .slice A n c, .slice B m d, .slice C k e] 25)
  have B1 := Lib.hid b1
  have H1 := Lib.hid (h.kept b1)
  have HZ := Lib.hid hz
  clear b1 h hz
  go_enter Try.func20, Try.ntmps20
  go_upto_region 1 with fail
  generalize w.alloc (.cells #[.bool lf, .slice A n c, .slice B m d, .slice C k e] 25) = w1 at *
  obtain ⟨c0, c1, c2, c3⟩ := HB.out.cells
  go_wp2_with fail
  refine (rsize_any lf A n c B m d C k e s w1 H1.out HZ.out).mono ?_
  rintro e1 w2 ⟨rfl, b2⟩
  have B2 := Lib.hid (chainN b2 B1.out)
  clear b2
  go_wp2_with fail
  go_ret
  exact ⟨ret_bool (by rw [Bool.eq_iff_iff]; simp; omega), B2.out⟩
end Go.Proofs.Ytcdfjaldnelfjaa
