/-
  What the document's own calls come to: is, Use, Pin, Unpin.
-/
import Derived.Test.YtnaoibohilpcgaaGRef
import Derived.BigRegion
namespace Go.Proofs.Ytnaoibohilpcgaa
open Go.RowKit

section
variable {rb qb vb : Nat} {s : CS}

theorem is_any (w : World) (i : Int) (h : RClk w rb qb vb s) :
    Calls Try.prog 35 #[.pointer (some ⟨rb, 0, none⟩), .int .i64 i] w fun e w' => e = .returned (.bool (s.has i)) ∧ w = w' := by
  have c0 := h.c0
  clear h
  by_cases h0 : 0 ≤ i
  · go_enter Try.func35, Try.ntmps35
    go_wp2_with fail
    go_ret
    refine ⟨ret_bool ?_, rfl⟩
    simp [CS.has, h0]
  · go_enter Try.func35, Try.ntmps35
    go_wp2_with fail
    go_ret
    refine ⟨ret_bool ?_, rfl⟩
    unfold CS.has
    rw [eq_comm, decide_eq_false_iff_not]
    omega

theorem CS.has_nat' {i : Int} (h : s.has i = true) : ∃ k : Nat, i = k ∧ k < s.n := by
  unfold CS.has at h
  have := of_decide_eq_true h
  exact ⟨i.toNat, by omega, by omega⟩

theorem refUse_any (w : World) (i : Int) (h : RClk w rb qb vb s) :
    Calls Try.prog 23 #[.pointer (some ⟨rb, 0, none⟩), .int .i64 i] w (RGoes w rb qb vb (s.useS i) (.int .i64 (s.useE i))) := by
  have H := Lib.hid h
  clear h
  cases hh : s.has i with
  | true =>
    obtain ⟨k, rfl, hk⟩ := CS.has_nat' hh
    have HH := Lib.hid hh
    have f := (H.out.ru).frozen k
    have c := H.out.cu hk
    have c1 := H.out.c1
    have hn := H.out.n2
    rw [show s.useS (k : Int) = s.setU k true by unfold CS.useS; rw [if_pos hh]; rfl, show s.useE (k : Int) = 0 by unfold CS.useE; rw [if_pos hh]]
    clear hh
    go_enter Try.func23, Try.ntmps23
    go_wp2_with fail
    refine (is_any _ k H.out).mono ?_
    rintro e w' ⟨rfl, rfl⟩
    rw [HH.out]
    go_wp2_with fail
    go_ret
    exact ⟨rfl, H.out.setU true, Kept.thr_v _ _⟩
  | false =>
    rw [show s.useS i = s by unfold CS.useS; rw [if_neg (by rw [hh]; decide)], show s.useE i = 1 by unfold CS.useE; rw [if_neg (by rw [hh]; decide)]]
    have HH := Lib.hid hh
    clear hh
    go_enter Try.func23, Try.ntmps23
    go_wp2_with fail
    refine (is_any _ i H.out).mono ?_
    rintro e w' ⟨rfl, rfl⟩
    rw [HH.out]
    go_wp2_with fail
    go_ret
    exact ⟨rfl, H.out, Kept.refl _ _⟩

set_option maxHeartbeats 800000 in
theorem refPin_any (w : World) (i : Int) (hm : s.Max 9223372036854775806) (h : RClk w rb qb vb s) :
    Calls Try.prog 24 #[.pointer (some ⟨rb, 0, none⟩), .int .i64 i] w (RGoes w rb qb vb (s.pinS i) (.int .i64 (s.useE i))) := by
  have H := Lib.hid h
  clear h
  cases hh : s.has i with
  | true =>
    obtain ⟨k, rfl, hk⟩ := CS.has_nat' hh
    have HH := Lib.hid hh
    have f := (H.out.rp).frozen k
    have c := H.out.cp hk
    have c0 := H.out.c0
    have hn := H.out.n2
    have hp := hm k
    rw [show s.pinS (k : Int) = s.setP k (s.p k + 1) by unfold CS.pinS; rw [if_pos hh]; rfl, show s.useE (k : Int) = 0 by unfold CS.useE; rw [if_pos hh]]
    clear hh hm
    go_enter Try.func24, Try.ntmps24
    go_wp2_with fail
    refine (is_any _ k H.out).mono ?_
    rintro e w' ⟨rfl, rfl⟩
    rw [HH.out]
    go_wp2_with fail
    go_region
    all_goals
      go_wp2_with fail
      go_ret
      refine ⟨rfl, ?_, (Kept.refl _ w).drawn.next (Kept.thr_q w.drew _)⟩
      have := H.out.drew.setP (i := k) (m := s.p k + 1) (by omega)
      rwa [show ((s.p k + 1 : Nat) : Int) = (s.p k : Int) + 1 by omega] at this
  | false =>
    rw [show s.pinS i = s by unfold CS.pinS; rw [if_neg (by rw [hh]; decide)], show s.useE i = 1 by unfold CS.useE; rw [if_neg (by rw [hh]; decide)]]
    have HH := Lib.hid hh
    clear hh hm
    go_enter Try.func24, Try.ntmps24
    go_wp2_with fail
    refine (is_any _ i H.out).mono ?_
    rintro e w' ⟨rfl, rfl⟩
    rw [HH.out]
    go_wp2_with fail
    go_ret
    exact ⟨rfl, H.out, Kept.refl _ _⟩

set_option maxHeartbeats 800000 in
theorem refUnpin_any (w : World) (i : Int) (h : RClk w rb qb vb s) :
    Calls Try.prog 25 #[.pointer (some ⟨rb, 0, none⟩), .int .i64 i] w (RGoes w rb qb vb (s.unS i) (.int .i64 (s.unE i))) := by
  have H := Lib.hid h
  clear h
  cases hh : s.has i with
  | true =>
    obtain ⟨k, rfl, hk⟩ := CS.has_nat' hh
    have HH := Lib.hid hh
    have f := (H.out.rp).frozen k
    have c := H.out.cp hk
    have c0 := H.out.c0
    have hn := H.out.n2
    by_cases h0 : s.p k = 0
    · rw [show s.unS (k : Int) = s by unfold CS.unS CS.un; rw [if_neg (by simp [h0])], show s.unE (k : Int) = 1 by unfold CS.unE CS.un; rw [if_neg (by simp [h0])]]
      rw [h0] at c
      clear hh h0
      go_enter Try.func25, Try.ntmps25
      go_wp2_with fail
      refine (is_any _ k H.out).mono ?_
      rintro e w' ⟨rfl, rfl⟩
      rw [HH.out]
      go_wp2_with fail
      go_ret
      exact ⟨rfl, H.out, Kept.refl _ _⟩
    · have hu : s.un (k : Int) = true := by
        unfold CS.un
        rw [hh]
        simp [h0]
      rw [show s.unS (k : Int) = s.setP k (s.p k - 1) by unfold CS.unS; rw [if_pos hu]; rfl, show s.unE (k : Int) = 0 by unfold CS.unE; rw [if_pos hu]]
      have ht := H.out.top k
      have hb0 : ((s.p k : Int) == 0) = false := by rw [beq_eq_false_iff_ne]; omega
      have h0' : 0 < s.p k := by omega
      clear hh hu h0
      go_enter Try.func25, Try.ntmps25
      go_wp2_with fail
      refine (is_any _ k H.out).mono ?_
      rintro e w' ⟨rfl, rfl⟩
      rw [HH.out]
      go_wp2_with fail
      go_region
      all_goals
        go_wp2_with fail
        go_ret
        refine ⟨rfl, ?_, (Kept.refl _ w).drawn.next (Kept.thr_q w.drew _)⟩
        have := H.out.drew.setP (i := k) (m := s.p k - 1) (by omega)
        rwa [show ((s.p k - 1 : Nat) : Int) = (s.p k : Int) - 1 by omega] at this
  | false =>
    rw [show s.unS i = s by unfold CS.unS CS.un; rw [if_neg (by rw [hh]; simp)], show s.unE i = 1 by unfold CS.unE CS.un; rw [if_neg (by rw [hh]; simp)]]
    have HH := Lib.hid hh
    clear hh
    go_enter Try.func25, Try.ntmps25
    go_wp2_with fail
    refine (is_any _ i H.out).mono ?_
    rintro e w' ⟨rfl, rfl⟩
    rw [HH.out]
    go_wp2_with fail
    go_ret
    exact ⟨rfl, H.out, Kept.refl _ _⟩
end
end Go.Proofs.Ytnaoibohilpcgaa
