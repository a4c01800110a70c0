/-
  What mayCome comes to.
-/
import Derived.Test.YtlldmefjhgahdaaSKnown
import Derived.Test.YtlldmefjhgahdaaSUsed
import Derived.Test.YtlldmefjhgahdaaSHas
namespace Go.Proofs.Ytlldmefjhgahdaa
open Go.RowKit

theorem known_dec (s : SS) (p : Int) : decide (p ∈ s.pages) = s.known p := by
  unfold SS.pages SS.known
  rw [← Bool.decide_or]
  exact decide_eq_decide.2 List.mem_append

set_option maxRecDepth 20000 in
set_option maxHeartbeats 1600000 in
theorem mayCome_any (s : SS) (h p : Int) (A B : Option Addr) (n c m d : Nat) (w : World) (hh : s.hi = h) (hs : Sp w A n c B m d s) (hn : n ≤ 400000) (hm : m ≤ 400000) :
    Calls Try.prog 33 #[.agg #[.int .i64 h, .slice A n c, .slice B m d], .int .i64 p] w fun e w' => e = .returned (.bool (s.may p && !(s.known p))) ∧ Below w.heap.size w w' := by
  have HS := Lib.hid (hs.kept (below_one w (.cells #[.int .i64 h, .slice A n c, .slice B m d] 26)))
  have HB := Lib.hid (box_new w (.int .i64 h) (.slice A n c) (.slice B m d))
  have B0 := Lib.hid (below_one w (.cells #[.int .i64 h, .slice A n c, .slice B m d] 26))
  have HH := Lib.hid hh
  clear hs hh
  go_enter Try.func33, Try.ntmps33
  go_wp2_with fail
  generalize w.alloc (.cells #[.int .i64 h, .slice A n c, .slice B m d] 26) = w0 at *
  refine (wasUsed_any s h p A B n c m d w0 HH.out).mono ?_
  rintro e w1 ⟨rfl, b1⟩
  have B1 := Lib.hid b1
  clear b1
  cases hp : s.may p with
  | false =>
    have B2 := Lib.hid (B0.out.trans (B1.out.mono B0.out.size))
    have HP := Lib.hid hp
    clear hp
    go_wp2_with fail
    go_ret
    exact ⟨ret_bool (by rw [HP.out]; rfl), B2.out⟩
  | true =>
    have HP := Lib.hid hp
    clear hp
    obtain ⟨c0, c1, c2⟩ := (HB.out.kept B1.out).cells
    go_wp2_with fail
    refine (known_any s h A B n c m d w1 (HS.out.kept B1.out) hn hm).mono ?_
    rintro e w2 ⟨v2, rfl, o2, b2⟩
    have B2 := Lib.hid (B1.out.trans (b2.mono B1.out.size))
    obtain ⟨A2, d2, rfl, hc2, l2⟩ := Ln.of_own o2
    have L2 := Lib.hid l2
    clear c0 c1 c2 b2 o2 l2
    go_wp2_with fail
    refine (contains_any A2 (n + m) d2 s.pages p w2 L2.out (by omega)).mono ?_
    rintro e w3 ⟨rfl, rfl⟩
    rw [known_dec]
    have B3 := Lib.hid (B0.out.trans (B2.out.mono B0.out.size))
    go_wp2_with fail
    go_ret
    exact ⟨ret_bool (by rw [HP.out]; rfl), B3.out⟩
end Go.Proofs.Ytlldmefjhgahdaa
