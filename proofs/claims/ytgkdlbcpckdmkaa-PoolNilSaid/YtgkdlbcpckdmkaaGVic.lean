/-
  What Victim comes to.
-/
import Derived.Test.YtgkdlbcpckdmkaaGMeth
import Derived.Deep.LoopGhost
namespace Go.Proofs.Ytgkdlbcpckdmkaa
open Go.RowKit

section
variable {db pb : Nat} {s : CS}

set_option maxRecDepth 20000 in
theorem free_any (w : World) (n : Nat) (b : Bool) :
    Calls Try.prog 60 #[.agg #[.int .i64 n, .bool b]] w fun e w' => e = .returned (.bool (n == 0)) ∧ Below w.heap.size w w' := by
  go_enter Try.func60, Try.ntmps60
  go_wp2_with fail
  refine (pinned_any _ n b).mono ?_
  rintro e w1 ⟨rfl, b1⟩
  have HB := Lib.hid ((below_one _ _).trans (b1.mono (by simp)))
  clear b1
  rcases Nat.eq_zero_or_pos n with h0 | h0
  · subst h0
    go_wp2_with fail
    go_ret
    exact ⟨rfl, HB.out⟩
  · have hb : (n != 0) = true := by rw [bne_iff_ne]; omega
    have hc : (n == 0) = false := by rw [beq_eq_false_iff_ne]; omega
    rw [hb]
    have HC := Lib.hid hc
    clear hb hc
    go_wp2_with fail
    go_ret
    exact ⟨ret_bool HC.out.symm, HB.out⟩

/-- The first place that is free, or -1. -/
def IxEnd (w : World) (s : CS) (e : Ending) (w' : World) : Prop :=
  ∃ i : Int, e = .returned (.int .i64 i) ∧ decide (0 ≤ i) = s.free ∧ Below w.heap.size w w'

set_option maxRecDepth 20000 in
set_option maxHeartbeats 1600000 in
theorem index_any (w : World) (h : ClkAt w db pb s) :
    Calls Try.prog 71 #[.slice (some ⟨pb, 0, none⟩) s.n s.n, .func (.func 60) #[] #[]] w (IxEnd w s) := by
  have hn := h.n2
  have H := Lib.hid h
  clear h
  go_enter Try.func71, Try.ntmps71
  go_wp2_with fail
  go_loopw [8] (fun i wr => ∃ k : Nat, k ≤ s.n ∧ i = .int .i64 k ∧ Hid (∀ j, j < k → ¬ s.p j = 0) ∧ Below w.heap.size w wr) (fun i _ => s.n - (intOf i).toNat)
  case atStart => exact ⟨0, Nat.zero_le _, rfl, Lib.hid (fun j hj => by omega), Below.refl _ _⟩
  case round =>
    obtain ⟨k, hk, rfl, hpre, hb⟩ := hrel
    by_cases hlt : k < s.n
    · have HR := H.out.below hb
      have d0 := HR.cp hlt
      have d1 := HR.cu hlt
      have HB := Lib.hid hb
      have HL := Lib.hid hlt
      clear HR hb
      go_wp2_with fail
      refine (free_any _ (s.p k) (s.u k)).mono ?_
      rintro e w1 ⟨rfl, b1⟩
      have HB1 := Lib.hid (HB.out.trans (b1.mono HB.out.size))
      clear b1 d0 d1
      by_cases h0 : s.p k = 0
      · have hb0 : (s.p k == 0) = true := by rw [h0]; rfl
        rw [hb0]
        have HH0 := Lib.hid h0
        clear h0 hb0
        go_wp2_with fail
        go_ret
        refine ⟨_, rfl, ?_, HB1.out⟩
        rw [(CS.free_iff s).2 ⟨k, HL.out, HH0.out⟩]
        exact decide_eq_true (by omega)
      · have hb0 : (s.p k == 0) = false := by rw [beq_eq_false_iff_ne]; exact h0
        rw [hb0]
        have HH0 := Lib.hid h0
        clear h0 hb0
        go_wp2_with fail
        go_roundw
        case rel =>
          refine ⟨k + 1, by omega, by go_num, Lib.hid (fun j hj => ?_), HB1.out⟩
          rcases Nat.lt_or_ge j k with e | e
          · exact hpre.out j e
          · obtain rfl : j = k := by omega
            exact HH0.out
        case measure => simp [intOf]; omega
    · obtain rfl : k = s.n := by omega
      go_wp2_with fail
      go_ret
      refine ⟨_, rfl, ?_, hb⟩
      cases hf : s.free with
      | false => rfl
      | true =>
        obtain ⟨j, hj, h0⟩ := (CS.free_iff s).1 hf
        exact absurd h0 (hpre.out j hj)

set_option maxRecDepth 20000 in
theorem contains_any (w : World) (h : ClkAt w db pb s) :
    Calls Try.prog 59 #[.slice (some ⟨pb, 0, none⟩) s.n s.n, .func (.func 60) #[] #[]] w fun e w' => e = .returned (.bool s.free) ∧ Below w.heap.size w w' := by
  have H := Lib.hid h
  clear h
  go_enter Try.func59, Try.ntmps59
  go_wp2_with fail
  refine (index_any _ H.out).mono ?_
  rintro e w1 ⟨i, rfl, hd, b1⟩
  have HB := Lib.hid b1
  have HD := Lib.hid hd
  clear b1 hd
  go_wp2_with fail
  go_ret
  exact ⟨ret_bool HD.out, HB.out⟩

/-- The way, as far as it is gone. -/
def VicRel (w : World) (db pb : Nat) (r : Nat × CS) (g : Nat) (wr : World) : Prop :=
  ∃ c, ClkAt wr db pb c ∧ CS.go g c = some r ∧ Kept (Two db pb) w wr

set_option maxRecDepth 20000 in
set_option maxHeartbeats 1600000 in
theorem vic_yes (w : World) (hf : s.free = true) (h : ClkAt w db pb s) :
    Calls Try.prog 43 #[.pointer (some ⟨db, 0, none⟩)] w (CGoes w db pb s.vicS (.tuple #[.int .i64 s.vicI, .int .i64 s.vicE])) := by
  obtain ⟨r, hw, hgo, _⟩ := CS.way_of h.hn hf
  obtain ⟨v1, v2, v3⟩ := CS.vic_of hw
  rw [v1, v2, v3]
  have HGO := Lib.hid hgo
  have HF := Lib.hid hf
  have c0 := h.c0
  have H := Lib.hid h
  clear h hf hw hgo v1 v2 v3
  go_enter Try.func43, Try.ntmps43
  go_wp2_with fail
  go_step3
  go_wp2_with fail
  refine (contains_any _ H.out).mono ?_
  rintro e w1 ⟨rfl, b1⟩
  rw [HF.out]
  have H1 := Lib.hid (H.out.below b1)
  have HB1 := Lib.hid b1
  clear b1 c0
  go_wp2_with fail
  go_step3
  go_wp2_with fail
  go_loopg [4] (2 * s.n) (fun g i wr => VicRel w db pb r g wr)
  case atStart => exact ⟨s, H1.out, HGO.out, Kept.below HB1.out _⟩
  case round =>
    obtain ⟨c, hc, hg, hk⟩ := hrel
    have e0 := hc.c0
    have e1 := hc.c1
    have ef := hc.f 1
    have ep := hc.cp hc.hn
    have eu := hc.cu hc.hn
    have hn1 := hc.n1
    have hn2 := hc.n2
    have hhn := hc.hn
    have ne1 := hc.ne
    have ne2 := hc.ne.symm
    have HC := Lib.hid hc
    have HK := Lib.hid hk
    have HG := Lib.hid hg
    clear hc hg hk
    obtain ⟨g, rfl⟩ : ∃ g, gk = g + 1 := by
      cases gk with
      | zero => cases HG.out
      | succ g => exact ⟨g, rfl⟩
    go_wp2_with fail
    refine (pinned_any _ (c.p c.h) (c.u c.h)).mono ?_
    rintro e w2 ⟨rfl, b2⟩
    have k2 : ClkAt (wr.setCell ⟨db, 1, none⟩ (.int .i64 (((c.h : Int) + 1) % (c.n : Int)))) db pb c.next := by
      have e : (((c.h + 1) % c.n : Nat) : Int) = ((c.h : Int) + 1) % (c.n : Int) := by
        rw [Int.natCast_emod]
        rfl
      have := HC.out.setH (m := (c.h + 1) % c.n) (Nat.mod_lt _ (by omega))
      rwa [e] at this
    have H2 : Hid (ClkAt w2 db pb c.next) := k2.below b2
    have HK2 : Hid (Kept (Two db pb) w w2) := (HK.out.next (Kept.two_db wr _)).next (Kept.below b2 _)
    clear e0 e1 ef ep eu k2 b2 HC HK
    by_cases h0 : c.p c.h = 0
    · have hb0 : (c.p c.h != 0) = false := by rw [h0]; rfl
      rw [hb0]
      have HH0 := Lib.hid h0
      clear h0 hb0
      have eu : w2.cell? ⟨pb, c.h * 2 + 1, none⟩ = some (.bool (c.u c.h)) := H2.out.cu (i := c.h) (by show c.h < c.n; exact hhn)
      have fu : w2.frozen? ⟨pb, c.h * 2 + 1, none⟩ = false := H2.out.row.frozen _
      cases hu : c.u c.h with
      | false =>
        rw [hu] at eu
        have HU := Lib.hid hu
        clear hu
        go_wp2_with fail
        rw [Exit.noGoto_ret]
        go_ret2
        have := HG.out
        rw [CS.go, if_pos HH0.out, if_neg (by rw [HU.out]; decide)] at this
        obtain rfl := Option.some.inj this
        exact ⟨rfl, H2.out, HK2.out⟩
      | true =>
        rw [hu] at eu
        have HU := Lib.hid hu
        clear hu
        go_wp2_with fail
        go_roundg g
        case measure => omega
        case rel =>
          have := HG.out
          rw [CS.go, if_pos HH0.out, if_pos HU.out] at this
          exact ⟨_, H2.out.setU false, this, HK2.out.next (Kept.two_pb _ _)⟩
    · have hb0 : (c.p c.h != 0) = true := by rw [bne_iff_ne]; exact h0
      rw [hb0]
      have HH0 := Lib.hid h0
      clear h0 hb0
      go_wp2_with fail
      go_roundg g
      case measure => omega
      case rel =>
        have := HG.out
        rw [CS.go, if_neg HH0.out] at this
        exact ⟨_, H2.out, this, HK2.out⟩

set_option maxRecDepth 20000 in
theorem vic_none (w : World) (hf : s.free = false) (h : ClkAt w db pb s) :
    Calls Try.prog 43 #[.pointer (some ⟨db, 0, none⟩)] w (CGoes w db pb s.vicS (.tuple #[.int .i64 s.vicI, .int .i64 s.vicE])) := by
  obtain ⟨v1, v2, v3⟩ := CS.vic_no hf
  rw [v1, v2, v3]
  have HF := Lib.hid hf
  have c0 := h.c0
  have H := Lib.hid h
  clear h hf v1 v2 v3
  go_enter Try.func43, Try.ntmps43
  go_wp2_with fail
  go_step3
  go_wp2_with fail
  refine (contains_any _ H.out).mono ?_
  rintro e w1 ⟨rfl, b1⟩
  rw [HF.out]
  have HB1 := Lib.hid b1
  clear b1 c0
  go_wp2_with fail
  rw [Exit.noGoto_ret]
  go_ret2
  exact ⟨rfl, H.out.below HB1.out, Kept.below HB1.out _⟩

set_option maxRecDepth 20000 in
theorem victim_any (w : World) (h : ClkAt w db pb s) :
    Calls Try.prog 43 #[.pointer (some ⟨db, 0, none⟩)] w (CGoes w db pb s.vicS (.tuple #[.int .i64 s.vicI, .int .i64 s.vicE])) := by
  cases hf : s.free with
  | true => exact vic_yes w hf h
  | false => exact vic_none w hf h
end
end Go.Proofs.Ytgkdlbcpckdmkaa
