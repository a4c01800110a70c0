/-
  What the laws' may comes to; nodes in blocks.
-/
import Derived.Test.YtcdfjaldnelfjaaNFew
import Derived.Test.YtcdfjaldnelfjaaNCheck
import Derived.Test.YtcdfjaldnelfjaaNSame
import Derived.Test.YtcdfjaldnelfjaaESp
namespace Go.Proofs.Ytcdfjaldnelfjaa
open Go.RowKit

theorem echeck_good {s : ND} (h : s.ok = true) : s.checkE = 0 := by unfold ND.checkE; rw [h]; rfl
theorem echeck_bad {s : ND} (h : s.ok = false) : s.checkE = 100 := by unfold ND.checkE; rw [h]; rfl

/-- What may answers. -/
def MayEnd (w : World) (s : ND) (e : Ending) (w' : World) : Prop := ∃ r : Bool, e = .returned (.bool r) ∧ (r = true → Small s ∧ s.ok = true) ∧ Below w.heap.size w w'

set_option maxRecDepth 20000 in
set_option maxHeartbeats 1600000 in
theorem may_any (lf : Bool) (A : Option Addr) (n c : Nat) (B : Option Addr) (m d : Nat) (C : Option Addr) (k e : Nat) (s : ND) (w : World) (h : Nd w A n c B m d C k e s) (hl : s.leaf = lf) :
    Calls Try.prog 12 #[.agg #[.bool lf, .slice A n c, .slice B m d, .slice C k e]] w (MayEnd w s) := by
  have HB := Lib.hid (nbox_new w (.bool lf) (.slice A n c) (.slice B m d) (.slice C k e))
  have b1 := below_one w (.cells #[.bool lf, .slice A n c, .slice B m d, .slice C k e] 25)
  have B1 := Lib.hid b1
  have H1 := Lib.hid (h.kept b1)
  have HL := Lib.hid hl
  clear b1 h hl
  go_enter Try.func12, Try.ntmps12
  go_upto_region 1 with fail
  generalize w.alloc (.cells #[.bool lf, .slice A n c, .slice B m d, .slice C k e] 25) = w1 at *
  obtain ⟨c0, c1, c2, c3⟩ := HB.out.cells
  go_wp2_with fail
  refine (nfew_any lf A n c B m d C k e s w1 H1.out).mono ?_
  rintro e1 w2 ⟨r, rfl, hr, b2⟩
  have B2 := Lib.hid (chainN b2 B1.out)
  have HR := Lib.hid hr
  have H2 := Lib.hid (H1.out.kept b2)
  have HB2 := Lib.hid (HB.out.kept b2)
  clear b2 hr c0 c1 c2 c3 HB H1 B1
  obtain ⟨c0, c1, c2, c3⟩ := HB2.out.cells
  cases r with
  | false =>
    go_wp2_with fail
    go_ret
    exact ⟨false, rfl, (fun e => by cases e), B2.out⟩
  | true =>
    have hsm := HR.out rfl
    have h1 : n ≤ 300 := by rw [← H2.out.kn]; exact hsm.1
    have h2 : m ≤ 300 := by rw [← H2.out.vn]; exact hsm.2.1
    have h3 : k ≤ 300 := by rw [← H2.out.cn]; exact hsm.2.2.1
    have HSM := Lib.hid hsm
    clear hsm HR
    go_wp2_with fail
    refine (ncheck_any lf A n c B m d C k e s w2 H2.out HL.out (by omega) (by omega) (by omega)).mono ?_
    rintro e1 w3 ⟨rfl, b3⟩
    have B3 := Lib.hid (chainN b3 B2.out)
    clear b3 c0 c1 c2 c3
    cases ho : s.ok with
    | true =>
      rw [echeck_good ho]
      have HO := Lib.hid ho
      clear ho
      go_wp2_with fail
      go_ret
      exact ⟨true, rfl, fun _ => ⟨HSM.out, HO.out⟩, B3.out⟩
    | false =>
      rw [echeck_bad ho]
      clear ho
      go_wp2_with fail
      go_ret
      exact ⟨false, rfl, (fun e => by cases e), B3.out⟩

/-- A node in a block. -/
def Bx (w : World) (g : Nat) (lf : Bool) (s : ND) : Prop := s.leaf = lf ∧ ∃ A n c B m d C k e, NBox w g (.bool lf) (.slice A n c) (.slice B m d) (.slice C k e) ∧ Nd w A n c B m d C k e s
theorem Bx.kept {w w' : World} {g : Nat} {lf : Bool} {s : ND} (h : Bx w g lf s) (b : Below w.heap.size w w') : Bx w' g lf s := by
  obtain ⟨hl, A, n, c, B, m, d, C, k, e, h1, h2⟩ := h
  exact ⟨hl, A, n, c, B, m, d, C, k, e, h1.kept b, h2.kept b⟩
/-- A node that is answered, laid into a new block. -/
theorem bx_new {w : World} {A B C : Option Addr} {n c m d k e : Nat} {s : ND} {lf : Bool} (hl : s.leaf = lf) (h : Nd w A n c B m d C k e s) : Bx (w.alloc (.cells #[.bool lf, .slice A n c, .slice B m d, .slice C k e] 25)) w.heap.size lf s :=
  ⟨hl, A, n, c, B, m, d, C, k, e, nbox_new w _ _ _ _, h.kept (below_one w _)⟩
end Go.Proofs.Ytcdfjaldnelfjaa
