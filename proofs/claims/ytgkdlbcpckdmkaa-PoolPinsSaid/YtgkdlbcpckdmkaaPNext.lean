/-
  What next comes to: the frame that the clock's Victim will be.
-/
import Derived.Test.YtgkdlbcpckdmkaaPMeth
import Derived.Deep.RegionHeld3
namespace Go.Proofs.Ytgkdlbcpckdmkaa
open Go.RowKit

/-- How far the places were looked through. -/
def NextRel (c : CS) (k : Nat) (sec : Int) (ok : Bool) : Prop :=
  (∀ d, d < k → c.p (c.at_ d) ≠ 0 ∨ c.u (c.at_ d) = true) ∧
  ((ok = false ∧ ∀ d, d < k → c.p (c.at_ d) ≠ 0) ∨ (ok = true ∧ ∃ d0, d0 < k ∧ c.p (c.at_ d0) = 0 ∧ (∀ d, d < d0 → c.p (c.at_ d) ≠ 0) ∧ sec = (c.at_ d0 : Nat)))

theorem NextRel.pinned {c : CS} {k : Nat} {sec : Int} {ok : Bool} (h : NextRel c k sec ok) (hp : c.p (c.at_ k) ≠ 0) : NextRel c (k + 1) sec ok := by
  refine ⟨fun d hd => ?_, ?_⟩
  · rcases Nat.lt_or_ge d k with e | e
    · exact h.1 d e
    · obtain rfl : d = k := by omega
      exact Or.inl hp
  · rcases h.2 with ⟨h1, h2⟩ | ⟨h1, d0, h2, h3⟩
    · refine Or.inl ⟨h1, fun d hd => ?_⟩
      rcases Nat.lt_or_ge d k with e | e
      · exact h2 d e
      · obtain rfl : d = k := by omega
        exact hp
    · exact Or.inr ⟨h1, d0, by omega, h3⟩
theorem NextRel.used {c : CS} {k : Nat} {sec : Int} (h : NextRel c k sec true) (hu : c.u (c.at_ k) = true) : NextRel c (k + 1) sec true := by
  refine ⟨fun d hd => ?_, ?_⟩
  · rcases Nat.lt_or_ge d k with e | e
    · exact h.1 d e
    · obtain rfl : d = k := by omega
      exact Or.inr hu
  · rcases h.2 with ⟨h1, h2⟩ | ⟨h1, d0, h2, h3⟩
    · cases h1
    · exact Or.inr ⟨h1, d0, by omega, h3⟩
theorem NextRel.first {c : CS} {k : Nat} {sec : Int} (h : NextRel c k sec false) (hp : c.p (c.at_ k) = 0) (hu : c.u (c.at_ k) = true) : NextRel c (k + 1) ((c.at_ k : Nat) : Int) true := by
  refine ⟨fun d hd => ?_, ?_⟩
  · rcases Nat.lt_or_ge d k with e | e
    · exact h.1 d e
    · obtain rfl : d = k := by omega
      exact Or.inr hu
  · rcases h.2 with ⟨h1, h2⟩ | ⟨h1, _⟩
    · exact Or.inr ⟨rfl, k, by omega, hp, h2, rfl⟩
    · cases h1

/-- What next answers. -/
def NextEnd (w : World) (c : CS) (e : Ending) (w' : World) : Prop :=
  ∃ (i : Int) (b : Bool), e = .returned (.tuple #[.int .i64 i, .bool b]) ∧ b = c.free ∧ (b = true → i = c.vicI) ∧ Below w.heap.size w w'

theorem NextRel.fresh {c : CS} {k : Nat} {sec : Int} {ok : Bool} (h : NextRel c k sec ok) (hh : c.h < c.n) (hk : k < c.n) (hp : c.p (c.at_ k) = 0) (hu : c.u (c.at_ k) = false) : true = c.free ∧ (true = true → ((c.at_ k : Nat) : Int) = c.vicI) :=
  ⟨(CS.free_at hh hk hp).symm, fun _ => (CS.vic_first hh hk h.1 hp hu).symm⟩
theorem NextRel.done {c : CS} {sec : Int} {ok : Bool} (h : NextRel c c.n sec ok) (hh : c.h < c.n) : ok = c.free ∧ (ok = true → sec = c.vicI) := by
  rcases h.2 with ⟨h1, h2⟩ | ⟨h1, d0, h2, h3, h4, h5⟩
  · subst h1
    exact ⟨(CS.not_free hh h2).symm, fun e => by cases e⟩
  · subst h1
    exact ⟨(CS.free_at hh h2 h3).symm, fun _ => h5.trans (CS.vic_second hh h2 h.1 h4 h3).symm⟩

section
variable {F D : Nat → Prop} {pb fb cb rb db : Nat} {g : Nat → Value} {s : PP}

theorem tmod_at {c : CS} (hh : c.h < c.n) {k : Nat} (hk : k < c.n) : Int.tmod ((c.h : Int) + (k : Int)) (c.n : Int) = ((c.at_ k : Nat) : Int) := by
  rw [CS.at_mod hh hk, ← Int.natCast_add, Int.ofNat_tmod]

set_option maxRecDepth 20000 in
set_option maxHeartbeats 1600000 in
theorem next_any (w : World) (h : PoolAt w F D pb fb cb rb db g s) :
    Calls Try.prog 42 #[.pointer (some ⟨pb, 0, none⟩)] w (NextEnd w s.c) := by
  have hm := h.core.m1
  have hcm := h.core.cm
  have c2 := h.core.c2
  have HLT := Lib.hid (h.core.lt _ h.core.fp)
  have HC := Lib.hid (h.drewN 1).core.clk
  have HP := Lib.hid h.core
  have hh := h.core.clk.hn
  clear h
  go_enter Try.func42, Try.ntmps42
  go_wp2_with fail
  have K0 : w.drew.cell? ⟨pb, 2, none⟩ = some (.pointer (some ⟨cb, 0, none⟩)) := c2
  go_region_held3 (fun w' => w'.cell? ⟨pb, 2, none⟩ = some (.pointer (some ⟨cb, 0, none⟩)))
    (first | exact K2 | exact K1 | exact K0)
    (first
      | (go_at_call 56; refine (pins_any w.drew HC.out).mono ?_; rintro e w1 ⟨rfl, hi1, hb1⟩; have K1 : w1.cell? ⟨pb, 2, none⟩ = some (.pointer (some ⟨cb, 0, none⟩)) := (hb1.cell HLT.out).trans K0)
      | (go_at_call 57; refine (used_any w1 (HC.out.below hb1)).mono ?_; rintro e w2 ⟨rfl, hu2, hb2⟩; have K2 : w2.cell? ⟨pb, 2, none⟩ = some (.pointer (some ⟨cb, 0, none⟩)) := (hb2.cell (Nat.lt_of_lt_of_le HLT.out hb1.size)).trans K1)
      | (go_at_call 58; refine (hand_any w2 ((HC.out.below hb1).below hb2)).mono ?_; rintro e w3 ⟨rfl, rfl⟩))
  have HB : Hid (Below w.heap.size w w2) := by
    have b1 : Below w.heap.size w w1 := undrew hb1
    exact b1.trans (hb2.mono b1.size)
  have c1 : w2.cell? ⟨pb, 1, none⟩ = some (.slice (some ⟨fb, 0, none⟩) s.m s.m) := (HB.out.cell HLT.out).trans HP.out.c1
  have hi2 := hi1.below hb2
  have HH := Lib.hid hh
  have HI := Lib.hid hi2
  have HU := Lib.hid hu2
  have HCM := Lib.hid hcm
  have hcn : s.c.h < s.m := by omega
  clear hi1 hu2 hb1 hb2 hi2 K0 K1 K2 hh c2 hcm HC
  go_wp2_with fail
  go_loopw [7, 8, 31] (fun a o i wr => ∃ (k : Nat) (sec : Int) (ok : Bool), k ≤ s.m ∧ i = .int .i64 k ∧ a = .int .i64 sec ∧ o = .bool ok ∧ Hid (NextRel s.c k sec ok) ∧ w2 = wr) (fun _ _ i _ => s.m - (RowKit.intOf i).toNat)
  case atStart => exact ⟨0, 0, false, Nat.zero_le _, rfl, rfl, rfl, Lib.hid ⟨fun d hd => absurd hd (by omega), Or.inl ⟨rfl, fun d hd => absurd hd (by omega)⟩⟩, rfl⟩
  case round =>
    obtain ⟨k, sec, ok, hk, rfl, rfl, rfl, hr, rfl⟩ := hrel
    by_cases hlt : k < s.m
    · have hkc : k < s.c.n := by rw [HCM.out]; exact hlt
      have HK := Lib.hid hkc
      have ht := tmod_at HH.out hkc
      rw [HCM.out] at ht
      have hj := CS.at_lt HH.out hkc
      obtain ⟨b1, o1, z1, e1, hz1, p1⟩ := HI.out.at_ (k := s.c.at_ k) (by rw [pinsL_len]; exact hj)
      obtain ⟨b2, o2, z2, e2, hz2, p2⟩ := HU.out.at_ (k := s.c.at_ k) (by rw [usedL_len]; exact hj)
      rw [pinsL_at s.c hj] at hz1
      rw [usedL_at s.c hj] at hz2
      obtain rfl := Option.some.inj hz1
      obtain rfl := Option.some.inj hz2
      injection e1 with e1
      injection e2 with e2
      injection e1 with e1 e1'
      injection e2 with e2 e2'
      subst e1 e1' e2 e2'
      rw [Nat.zero_add] at p1 p2
      rw [HCM.out] at hj
      generalize hJ : s.c.at_ k = j at *
      have HJ := Lib.hid hJ
      have q1 : w2.cell? ⟨w.heap.size, j, none⟩ = some (.int .i64 (s.c.p j : Int)) := p1
      clear p1
      by_cases hp : s.c.p j = 0
      · rw [hp] at q1
        cases hu : s.c.u j with
        | false =>
          rw [hu] at p2
          have HE := Lib.hid (hr.out.fresh HH.out hkc (by rw [hJ]; exact hp) (by rw [hJ]; exact hu))
          clear hp hu hkc hJ hz1 hz2
          go_wp2_with fail
          go_ret2
          exact ⟨_, true, rfl, HE.out.1, fun _ => by rw [← HJ.out]; exact HE.out.2 trivial, HB.out⟩
        | true =>
          rw [hu] at p2
          cases ok with
          | true =>
            have HN := Lib.hid (hr.out.used (by rw [hJ]; exact hu))
            clear hp hu hkc hJ hr hz1 hz2
            go_wp2_with fail
            go_roundw
            case rel => exact ⟨k + 1, sec, true, by omega, by go_num, rfl, rfl, HN, trivial⟩
            case measure => simp [RowKit.intOf]; omega
          | false =>
            have HN := Lib.hid (hr.out.first (by rw [hJ]; exact hp) (by rw [hJ]; exact hu))
            rw [hJ] at HN
            clear hp hu hkc hJ hr hz1 hz2
            go_wp2_with fail
            go_roundw
            case rel => exact ⟨k + 1, _, true, by omega, by go_num, rfl, rfl, HN, trivial⟩
            case measure => simp [RowKit.intOf]; omega
      · have HN := Lib.hid (hr.out.pinned (by rw [hJ]; exact hp))
        have hp' : (0 : Int) < (s.c.p j : Int) := by omega
        clear hp hkc hJ hr hz1 hz2 p2
        go_wp2_with fail
        go_roundw
        case rel => exact ⟨k + 1, sec, ok, by omega, by go_num, rfl, rfl, HN, trivial⟩
        case measure => simp [RowKit.intOf]; omega
    · obtain rfl : k = s.m := by omega
      have HN := Lib.hid ((show NextRel s.c s.c.n sec ok by rw [HCM.out]; exact hr.out).done HH.out)
      clear hr
      go_wp2_with fail
      go_ret2
      exact ⟨_, ok, rfl, HN.out.1, HN.out.2, HB.out⟩
end
end Go.Proofs.Ytgkdlbcpckdmkaa
