/-
  What cut, parted and replaced come to at lists of ints.
-/
import Derived.Test.YtcdfjaldnelfjaaESl
import Derived.Test.YtcdfjaldnelfjaaEJoinI
import Derived.Test.YtcdfjaldnelfjaaEMore
import Derived.Deep.QuietTactic
import Derived.BigQuiet
import Derived.Deep.Cut
namespace Go.Proofs.Ytcdfjaldnelfjaa
open Go.RowKit

set_option maxRecDepth 20000 in
set_option maxHeartbeats 1600000 in
theorem ecut_I (A : Option Addr) (n c k m : Nat) (w : World) (hm : min k n = m) (hc : n ≤ c) :
    Calls Try.prog 57 #[.slice A n c, .int .i64 k] w fun e w' => e = .returned (.tuple #[.slice A m c, .slice (dropA A c m) (n - m) (c - m)]) ∧ Below w.heap.size w w' := by
  have hmn : m ≤ n := by omega
  have HU := Lib.hid (fun w => upto_I (n := n) (c := c) (k := m) A hmn hc w)
  have HD := Lib.hid (fun w => from_I (n := n) (c := c) (k := m) A hmn w)
  rcases Nat.lt_or_ge n k with h1 | h1
  rotate_left
  · obtain rfl : k = m := by omega
    clear hm hmn
    go_enter Try.func57, Try.ntmps57
    go_wp2_with fail
    have e1 := HU.out
    have e2 := HD.out
    go_quiet (fail)
    go_wp2_with fail
    go_ret2
    exact ⟨rfl, belowN (Below.refl _ _) _⟩
  · obtain rfl : n = m := by omega
    clear hm hmn
    go_enter Try.func57, Try.ntmps57
    go_wp2_with fail
    have e1 := HU.out
    have e2 := HD.out
    go_quiet (fail)
    go_wp2_with fail
    go_ret2
    exact ⟨by rw [Nat.sub_self]; rfl, belowN (Below.refl _ _) _⟩

set_option maxRecDepth 20000 in
set_option maxHeartbeats 1600000 in
theorem eparted_I (A : Option Addr) (n c k m : Nat) (cs : List Value) (w : World) (h : Ln w 1 A n c cs) (h1 : ∀ u ∈ cs, u.oneCell' = true) (hm : min k n = m) (hn : n ≤ 1000000) :
    Calls Try.prog 47 #[.slice A n c, .int .i64 k] w (PartEnd w 3 m (n - m) (cs.take m) (cs.drop m)) := by
  have hc := h.le
  have hmn : m ≤ n := by omega
  have HL := Lib.hid h
  have H1 := Lib.hid h1
  have HT : Hid (Ln w 1 A m c (cs.take m)) := Lib.hid (by have := h.take hmn; rw [Nat.mul_one] at this; exact this)
  have HD := Lib.hid (ln_drop h hmn)
  have HM := Lib.hid hm
  clear h h1 hm
  go_enter Try.func47, Try.ntmps47
  go_wp2_with fail
  refine (ecut_I A n c k m w HM.out hc).mono ?_
  rintro e w1 ⟨rfl, b1⟩
  have B1 := Lib.hid b1
  clear b1
  go_wp2_with fail
  refine (ejoin_I _ 1 1 m _ _ (pile_one (HT.out.kept B1.out) (one_take H1.out m) 23) rfl (by simp [tot]) (by omega) (by decide)).mono ?_
  rintro e w2 ⟨v2, rfl, o2, b2⟩
  have B2 := Lib.hid (chainN (chainN b2 (below_one w1 _)) B1.out)
  rw [epcs_one] at o2
  have O2 := Lib.hid (row_base o2 (show w.heap.size ≤ _ by have := B1.out.size; simp; omega))
  clear o2 b2
  go_wp2_with fail
  refine (ejoin_I _ 1 1 (n - m) _ _ (pile_one (HD.out.kept B2.out) (one_drop H1.out m) 23) rfl (by simp [tot]) (by omega) (by decide)).mono ?_
  rintro e w3 ⟨v3, rfl, o3, b3⟩
  have B3 := Lib.hid (chainN b3 (below_one w2 _))
  rw [epcs_one] at o3
  have O3 := Lib.hid (row_base o3 (show w.heap.size ≤ _ by have := B2.out.size; simp; omega))
  have O2' := Lib.hid (row_below O2.out B3.out)
  clear o3 b3 O2
  go_wp2_with fail
  go_ret2
  exact ⟨_, _, rfl, O2'.out, O3.out, chainN B3.out B2.out⟩

set_option maxRecDepth 20000 in
set_option maxHeartbeats 1600000 in
theorem ereplaced_I (A : Option Addr) (n c : Nat) (cs : List Value) (f t : Nat) (B : Option Addr) (m d : Nat) (ds : List Value) (w : World) (h : Ln w 1 A n c cs) (h1 : ∀ u ∈ cs, u.oneCell' = true) (g : Ln w 1 B m d ds) (g1 : ∀ u ∈ ds, u.oneCell' = true)
    (hft : f ≤ t) (ht : t ≤ n) (hn : n ≤ 300000) (hm : m ≤ 300000) :
    Calls Try.prog 49 #[.slice A n c, .int .i64 f, .int .i64 t, .slice B m d] w (JoinEnd w 3 1 (f + m + (n - t)) (ND.rep cs f t ds)) := by
  have hc := h.le
  have hf1 : min f n = f := by omega
  have ht1 : min t n = t := by omega
  have HL := Lib.hid h
  have H1 := Lib.hid h1
  have HG := Lib.hid g
  have G1 := Lib.hid g1
  have HT : Hid (Ln w 1 A f c (cs.take f)) := Lib.hid (by have := h.take (k := f) (by omega); rw [Nat.mul_one] at this; exact this)
  have HD := Lib.hid (ln_drop h ht)
  have HF1 := Lib.hid hf1
  have HT1 := Lib.hid ht1
  clear h h1 g g1 hf1 ht1
  go_enter Try.func49, Try.ntmps49
  go_wp2_with fail
  refine (ecut_I A n c f f w HF1.out hc).mono ?_
  rintro e w1 ⟨rfl, b1⟩
  have B1 := Lib.hid b1
  clear b1
  go_wp2_with fail
  refine (ecut_I A n c t t w1 HT1.out hc).mono ?_
  rintro e w2 ⟨rfl, b2⟩
  have B2 := Lib.hid (chainN b2 B1.out)
  clear b2
  go_wp2_with fail
  refine (ejoin_I _ 3 3 (f + m + (n - t)) _ _ (pile_three (HT.out.kept B2.out) (one_take H1.out f) (HG.out.kept B2.out) G1.out (HD.out.kept B2.out) (one_drop H1.out t) 23) rfl (by simp [tot]; omega) (by omega) (by decide)).mono ?_
  rintro e w3 ⟨v3, rfl, o3, b3⟩
  rw [epcs_three] at o3
  have O3 := Lib.hid (row_base o3 (show w.heap.size ≤ _ by have := B2.out.size; simp; omega))
  have B3 := Lib.hid (chainN (chainN b3 (below_one w2 _)) B2.out)
  clear o3 b3
  go_wp2_with fail
  go_ret
  exact ⟨_, rfl, O3.out, B3.out⟩
end Go.Proofs.Ytcdfjaldnelfjaa
