/-
  What the clock's calls come to: at, Use, Pin, Unpin, Hand.
-/
import Derived.Test.YtgkdlbcpckdmkaaGClk
namespace Go.Proofs.Ytgkdlbcpckdmkaa
open Go.RowKit

section
variable {db pb : Nat} {s : CS}

set_option maxRecDepth 20000 in
theorem at_yes (w : World) (k : Nat) (hk : k < s.n) (h : ClkAt w db pb s) :
    Calls Try.prog 54 #[.pointer (some ⟨db, 0, none⟩), .int .i64 k] w fun e w' => e = .returned (.pointer (some ⟨pb, k * 2, none⟩)) ∧ w = w' := by
  have c0 := h.c0
  have hn := h.n2
  clear h
  go_enter Try.func54, Try.ntmps54
  go_wp2_with fail
  go_ret
  exact ⟨rfl, rfl⟩

set_option maxRecDepth 20000 in
theorem at_no (w : World) (i : Int) (hi : s.has i = false) (h : ClkAt w db pb s) :
    Calls Try.prog 54 #[.pointer (some ⟨db, 0, none⟩), .int .i64 i] w fun e w' => e = .returned (.pointer none) ∧ w = w' := by
  have c0 := h.c0
  have hn := h.n2
  clear h
  unfold CS.has at hi
  rw [decide_eq_false_iff_not] at hi
  by_cases h0 : i < 0
  · clear hi
    go_enter Try.func54, Try.ntmps54
    go_wp2_with fail
    go_ret
    exact ⟨rfl, rfl⟩
  · have h1 : (s.n : Int) ≤ i := by omega
    clear hi
    go_enter Try.func54, Try.ntmps54
    go_wp2_with fail
    go_ret
    exact ⟨rfl, rfl⟩

theorem CS.has_nat {i : Int} (h : s.has i = true) : ∃ k : Nat, i = k ∧ k < s.n := by
  unfold CS.has at h
  have := of_decide_eq_true h
  exact ⟨i.toNat, by omega, by omega⟩
theorem CS.has_of {k : Nat} (h : k < s.n) : s.has k = true := by
  unfold CS.has
  exact decide_eq_true (by omega)

set_option maxRecDepth 20000 in
theorem use_any (w : World) (i : Int) (h : ClkAt w db pb s) :
    Calls Try.prog 45 #[.pointer (some ⟨db, 0, none⟩), .int .i64 i] w (CGoes w db pb (s.useS i) (.int .i64 (s.useE i))) := by
  have H := Lib.hid h
  clear h
  cases hh : s.has i with
  | true =>
    obtain ⟨k, rfl, hk⟩ := CS.has_nat hh
    have HK := Lib.hid hk
    have f := (H.out.row).frozen (k * 2 + 1)
    have c := H.out.cu hk
    rw [show s.useS (k : Int) = s.setU k true by unfold CS.useS; rw [if_pos hh]; rfl, show s.useE (k : Int) = 0 by unfold CS.useE; rw [if_pos hh]]
    clear hh hk
    go_enter Try.func45, Try.ntmps45
    go_wp2_with fail
    refine (at_yes _ k HK.out H.out).mono ?_
    rintro e w' ⟨rfl, rfl⟩
    go_wp2_with fail
    go_ret
    exact ⟨rfl, H.out.setU true, Kept.two_pb _ _⟩
  | false =>
    rw [show s.useS i = s by unfold CS.useS; rw [if_neg (by rw [hh]; decide)], show s.useE i = 1 by unfold CS.useE; rw [if_neg (by rw [hh]; decide)]]
    have HH := Lib.hid hh
    clear hh
    go_enter Try.func45, Try.ntmps45
    go_wp2_with fail
    refine (at_no _ i HH.out H.out).mono ?_
    rintro e w' ⟨rfl, rfl⟩
    go_wp2_with fail
    go_ret
    exact ⟨rfl, H.out, Kept.refl _ _⟩

set_option maxRecDepth 20000 in
theorem pin_any (w : World) (i : Int) (hm : s.Max 9223372036854775806) (h : ClkAt w db pb s) :
    Calls Try.prog 38 #[.pointer (some ⟨db, 0, none⟩), .int .i64 i] w (CGoes w db pb (s.pinS i) (.int .i64 (s.useE i))) := by
  have H := Lib.hid h
  clear h
  cases hh : s.has i with
  | true =>
    obtain ⟨k, rfl, hk⟩ := CS.has_nat hh
    have HK := Lib.hid hk
    have f := (H.out.row).frozen (k * 2)
    have c := H.out.cp hk
    have hp := hm k
    rw [show s.pinS (k : Int) = s.setP k (s.p k + 1) by unfold CS.pinS; rw [if_pos hh]; rfl, show s.useE (k : Int) = 0 by unfold CS.useE; rw [if_pos hh]]
    clear hh hk hm
    go_enter Try.func38, Try.ntmps38
    go_wp2_with fail
    refine (at_yes _ k HK.out H.out).mono ?_
    rintro e w' ⟨rfl, rfl⟩
    go_wp2_with fail
    go_ret
    refine ⟨rfl, ?_, Kept.two_pb _ _⟩
    have := H.out.setP (i := k) (m := s.p k + 1) (by omega)
    rwa [show ((s.p k + 1 : Nat) : Int) = (s.p k : Int) + 1 by omega] at this
  | false =>
    rw [show s.pinS i = s by unfold CS.pinS; rw [if_neg (by rw [hh]; decide)], show s.useE i = 1 by unfold CS.useE; rw [if_neg (by rw [hh]; decide)]]
    have HH := Lib.hid hh
    clear hh hm
    go_enter Try.func38, Try.ntmps38
    go_wp2_with fail
    refine (at_no _ i HH.out H.out).mono ?_
    rintro e w' ⟨rfl, rfl⟩
    go_wp2_with fail
    go_ret
    exact ⟨rfl, H.out, Kept.refl _ _⟩

set_option maxRecDepth 20000 in
theorem pinned_any (w : World) (n : Nat) (b : Bool) :
    Calls Try.prog 55 #[.agg #[.int .i64 n, .bool b]] w fun e w' => e = .returned (.bool (n != 0)) ∧ Below w.heap.size w w' := by
  rcases Nat.eq_zero_or_pos n with h0 | h0
  · subst h0
    go_enter Try.func55, Try.ntmps55
    go_wp2_with fail
    go_ret
    exact ⟨rfl, below_one _ _⟩
  · have hb : (n != 0) = true := by rw [bne_iff_ne]; omega
    rw [hb]
    clear hb
    go_enter Try.func55, Try.ntmps55
    go_wp2_with fail
    go_ret
    exact ⟨rfl, below_one _ _⟩

theorem CGoes.behind {w w1 w2 : World} {v : Value} {s' : CS} {e : Ending} (hb : Below w.heap.size w w1) (g : CGoes w1 db pb s' v e w2) : CGoes w db pb s' v e w2 :=
  ⟨g.1, g.2.1, (Kept.below hb _).next g.2.2⟩

set_option maxRecDepth 20000 in
set_option maxHeartbeats 1600000 in
theorem unpin_any (w : World) (i : Int) (h : ClkAt w db pb s) :
    Calls Try.prog 39 #[.pointer (some ⟨db, 0, none⟩), .int .i64 i] w (CGoes w db pb (s.unS i) (.int .i64 (s.unE i))) := by
  have H := Lib.hid h
  clear h
  cases hh : s.has i with
  | true =>
    obtain ⟨k, rfl, hk⟩ := CS.has_nat hh
    have HK := Lib.hid hk
    have c := H.out.cp hk
    have d := H.out.cu hk
    by_cases h0 : s.p k = 0
    · rw [show s.unS (k : Int) = s by unfold CS.unS CS.un; rw [if_neg (by simp [h0])], show s.unE (k : Int) = 1 by unfold CS.unE CS.un; rw [if_neg (by simp [h0])]]
      have hb0 : (s.p k != 0) = false := by rw [h0]; rfl
      have HB0 := Lib.hid hb0
      clear hh hk h0 hb0
      go_enter Try.func39, Try.ntmps39
      go_wp2_with fail
      refine (at_yes _ k HK.out H.out).mono ?_
      rintro e w' ⟨rfl, rfl⟩
      go_wp2_with fail
      refine (pinned_any _ (s.p k) _).mono ?_
      rintro e w' ⟨rfl, hb⟩
      rw [HB0.out]
      have HB := Lib.hid hb
      clear hb
      go_wp2_with fail
      go_ret
      exact ⟨rfl, H.out.below HB.out, Kept.below HB.out _⟩
    · have hu : s.un (k : Int) = true := by
        unfold CS.un
        rw [hh]
        simp [h0]
      rw [show s.unS (k : Int) = s.setP k (s.p k - 1) by unfold CS.unS; rw [if_pos hu]; rfl, show s.unE (k : Int) = 0 by unfold CS.unE; rw [if_pos hu]]
      have hb0 : (s.p k != 0) = true := by rw [bne_iff_ne]; exact h0
      have ht := H.out.top k
      have HB0 := Lib.hid hb0
      have h0' : 0 < s.p k := by omega
      clear hh hk hu hb0 h0
      go_enter Try.func39, Try.ntmps39
      go_wp2_with fail
      refine (at_yes _ k HK.out H.out).mono ?_
      rintro e w' ⟨rfl, rfl⟩
      go_wp2_with fail
      refine (pinned_any _ (s.p k) _).mono ?_
      rintro e w1 ⟨rfl, hb⟩
      rw [HB0.out]
      have HB := Lib.hid hb
      have H1 := Lib.hid (H.out.below hb)
      clear hb c d
      have c := H1.out.cp HK.out
      have f := (H1.out.row).frozen (k * 2)
      go_wp2_with fail
      go_ret
      refine CGoes.behind HB.out ⟨rfl, ?_, Kept.two_pb _ _⟩
      have := H1.out.setP (i := k) (m := s.p k - 1) (by omega)
      rwa [show ((s.p k - 1 : Nat) : Int) = (s.p k : Int) - 1 by omega] at this
  | false =>
    rw [show s.unS i = s by unfold CS.unS CS.un; rw [if_neg (by rw [hh]; simp)], show s.unE i = 1 by unfold CS.unE CS.un; rw [if_neg (by rw [hh]; simp)]]
    have HH := Lib.hid hh
    clear hh
    go_enter Try.func39, Try.ntmps39
    go_wp2_with fail
    refine (at_no _ i HH.out H.out).mono ?_
    rintro e w' ⟨rfl, rfl⟩
    go_wp2_with fail
    go_ret
    exact ⟨rfl, H.out, Kept.refl _ _⟩

set_option maxRecDepth 20000 in
theorem hand_any (w : World) (h : ClkAt w db pb s) :
    Calls Try.prog 58 #[.pointer (some ⟨db, 0, none⟩)] w fun e w' => e = .returned (.int .i64 s.h) ∧ w = w' := by
  have c := h.c1
  clear h
  go_enter Try.func58, Try.ntmps58
  go_wp2_with fail
  go_ret
  exact ⟨rfl, rfl⟩
end
end Go.Proofs.Ytgkdlbcpckdmkaa
