/-
  ClockRounds answers true, for every number of places and every number of rounds: places that nobody pins or uses go one behind the other. Conditions: none.
-/
import Derived.Test.YtnaoibohilpcgaaRows
import Derived.Test.YtnaoibohilpcgaaGAwake
import Derived.Test.YtnaoibohilpcgaaGRound
import Derived.Test.YtnaoibohilpcgaaOpenI
namespace Go.Proofs.Ytnaoibohilpcgaa.clockRounds
open Go.ChangeShapes Go.WideShapes Go.ChangeAt Go.RowKit

def UsdRel (W : World) (db pb n k : Nat) (w : World) : Prop := ∃ s, CLive W w db pb s ∧ s.Usd n k
def TurnsRel (W : World) (db pb n k : Nat) (w : World) : Prop := ∃ s, CLive W w db pb s ∧ s.Turns n k

set_option maxRecDepth 20000 in
set_option maxHeartbeats 3200000 in
theorem walkIn (W : World) (pl : Nat) (h1 : 1 ≤ pl) (h2 : pl ≤ 50) (n : Int) (l1 : -9223372036854775808 ≤ n) (l2 : n ≤ 9223372036854775807) :
    Calls Try.prog 6 #[.int .i64 pl, .int .i64 n] W fun e W' => e = .returned (.bool true) ∧ Below W.heap.size W W' := by
  have hz : ((pl : Int) == 0) = false := by rw [beq_eq_false_iff_ne]; omega
  go_enter Try.func6, Try.ntmps6
  go_wp2_with fail
  refine (awake_any _).mono ?_
  rintro e w1 ⟨rfl, b1⟩
  have B1 := Lib.hid b1
  clear b1
  go_wp2_with fail
  refine (new_live (W := W) _ pl h1 (by omega) B1.out).mono ?_
  rintro e w2 ⟨db, pb, rfl, hv, -, -, -⟩
  have HV := Lib.hid hv
  clear hv
  go_wp2_with fail
  go_loopw [8] (fun i wr => ∃ k : Nat, k ≤ pl ∧ i = .int .i64 k ∧ UsdRel W db pb pl k wr) (fun i _ => pl - (intOf i).toNat)
  case atStart => exact ⟨0, Nat.zero_le _, rfl, _, HV.out, CS.Usd.new pl⟩
  case round =>
    obtain ⟨k, hk, rfl, hr⟩ := hrel
    by_cases hlt : k < pl
    · obtain ⟨s, hs, hu⟩ := hr
      have HU := Lib.hid (hu.use hlt)
      have HS := Lib.hid hs
      clear hs hu
      go_wp2_with fail
      refine (use_live (W := W) _ k HS.out).mono ?_
      rintro e w3 ⟨rfl, hv3⟩
      have HV3 := Lib.hid hv3
      clear hv3 HS
      go_wp2_with fail
      go_roundw
      case rel => exact ⟨k + 1, by omega, by go_num, _, HV3.out, HU.out⟩
      case measure => simp [intOf]; omega
    · obtain rfl : k = pl := by omega
      clear hk hlt
      have HR : Hid (TurnsRel W db pb k 0 wr) := by
        obtain ⟨s, hs, hu⟩ := hr
        exact ⟨s, hs, Or.inl ⟨rfl, hu.part⟩⟩
      clear hr
      by_cases hn : n < 0
      · go_wp2_with fail
        obtain ⟨m, hm⟩ : ∃ m : Nat, -(n + 1).tmod 200 = (m : Int) := ⟨((-(n + 1)) % 200).toNat, by rw [← Int.neg_tmod, Int.tmod_eq_emod_of_nonneg (by omega)]; omega⟩
        have hm' : m < 200 := by rw [← Int.neg_tmod, Int.tmod_eq_emod_of_nonneg (by omega)] at hm; omega
        rw [hm]
        clear hm hn l1 l2
        go_loopw [9] (fun i wr' => ∃ j : Nat, j ≤ m ∧ i = .int .i64 j ∧ TurnsRel W db pb k j wr') (fun i _ => m - (intOf i).toNat)
        case atStart => exact ⟨0, Nat.zero_le _, rfl, HR.out⟩
        case round =>
          clear HR
          obtain ⟨j, hj, rfl, hr⟩ := hrel
          by_cases hlt : j < m
          · obtain ⟨s, hs, ht⟩ := hr
            obtain ⟨t1, t2, t3⟩ := ht.vic h1
            have HT := Lib.hid t3
            have HS := Lib.hid hs
            have T1 := Lib.hid t1
            have T2 := Lib.hid t2
            clear hs ht t1 t2 t3
            go_wp2_with fail
            refine (victim_live (W := W) _ HS.out).mono ?_
            rintro e w3 ⟨rfl, hv3⟩
            rw [T1.out, T2.out]
            have HV3 := Lib.hid hv3
            clear hv3 HS
            go_wp2_with fail
            go_roundw
            case rel => exact ⟨j + 1, by omega, by go_num, _, HV3.out, HT.out⟩
            case measure => simp [intOf]; omega
          · have HB : Hid (Below W.heap.size W wr) := by
              obtain ⟨s, hs, _⟩ := hr
              exact hs.below
            clear hr
            go_wp2_with fail
            go_ret
            exact ⟨rfl, HB.out⟩
      · go_wp2_with fail
        obtain ⟨m, hm⟩ : ∃ m : Nat, n % 200 = (m : Int) := ⟨(n % 200).toNat, by omega⟩
        have hm' : m < 200 := by omega
        rw [hm]
        clear hm hn l1 l2
        go_loopw [9] (fun i wr' => ∃ j : Nat, j ≤ m ∧ i = .int .i64 j ∧ TurnsRel W db pb k j wr') (fun i _ => m - (intOf i).toNat)
        case atStart => exact ⟨0, Nat.zero_le _, rfl, HR.out⟩
        case round =>
          clear HR
          obtain ⟨j, hj, rfl, hr⟩ := hrel
          by_cases hlt : j < m
          · obtain ⟨s, hs, ht⟩ := hr
            obtain ⟨t1, t2, t3⟩ := ht.vic h1
            have HT := Lib.hid t3
            have HS := Lib.hid hs
            have T1 := Lib.hid t1
            have T2 := Lib.hid t2
            clear hs ht t1 t2 t3
            go_wp2_with fail
            refine (victim_live (W := W) _ HS.out).mono ?_
            rintro e w3 ⟨rfl, hv3⟩
            rw [T1.out, T2.out]
            have HV3 := Lib.hid hv3
            clear hv3 HS
            go_wp2_with fail
            go_roundw
            case rel => exact ⟨j + 1, by omega, by go_num, _, HV3.out, HT.out⟩
            case measure => simp [intOf]; omega
          · have HB : Hid (Below W.heap.size W wr) := by
              obtain ⟨s, hs, _⟩ := hr
              exact hs.below
            clear hr
            go_wp2_with fail
            go_ret
            exact ⟨rfl, HB.out⟩

theorem walk (i0 : Int) (_ : -9223372036854775808 ≤ i0) (_ : i0 ≤ 9223372036854775807) (i1 : Int) (_ : -9223372036854775808 ≤ i1) (_ : i1 ≤ 9223372036854775807) (W : World) :
    Calls Try.prog 6 #[.int .i64 i0, .int .i64 i1] W fun e W' => e = .returned (.bool true) ∧ Below W.heap.size W W' := by
  by_cases h1 : i0 < 1
  · go_enter Try.func6, Try.ntmps6
    go_wp2_with fail
    refine (awake_any _).mono ?_
    rintro e w1 ⟨rfl, b1⟩
    have B1 := Lib.hid b1
    clear b1
    go_wp2_with fail
    go_ret
    exact ⟨rfl, B1.out⟩
  · by_cases h2 : 50 < i0
    · go_enter Try.func6, Try.ntmps6
      go_wp2_with fail
      refine (awake_any _).mono ?_
      rintro e w1 ⟨rfl, b1⟩
      have B1 := Lib.hid b1
      clear b1
      go_wp2_with fail
      go_ret
      exact ⟨rfl, B1.out⟩
    · obtain ⟨pl, rfl⟩ : ∃ pl : Nat, i0 = pl := ⟨i0.toNat, by omega⟩
      exact walkIn W pl (by omega) (by omega) i1 (by assumption) (by assumption)

set_option maxRecDepth 100000 in
theorem lifted (os : Os) (started : os.Started) (H : Type) (enc : TypeId × Value → H) :
    ReturnsInHanded {} Try.checked os 6 .any (Rows.clockRoundsSpec.pre6 enc Try.prog Try.f6 Rows.clockRoundsRow.domain false)
      (Rows.clockRoundsSpec.post enc Try.prog Try.f6 false true false false) := by
  refine lift_law (C := Try.checked) (tb := 4) ownKnobs started (by kernel_rfl) Try.func6
    (ChangeSpec.witness6 (enc := enc) (C := Try.checked) false ⟨#[], #[.int .i64 0, .int .i64 0], []⟩ 8 (by kernel_rfl) (by kernel_rfl) (by kernel_rfl) (by kernel_rfl))
    laidOut ?_ rfl rfl Try.underlying4 ?_ ?_
  · intro t ht
    rw [Try.params6] at ht
    simp only [List.mem_cons, List.not_mem_nil, or_false] at ht
    rcases ht with rfl | rfl <;> exact ⟨by kernel_rfl, of_decide_eq_true (by kernel_rfl)⟩
  · intro vs ds W p hA
    rw [Try.params6] at hA
    obtain ⟨v0, vs0, d0, ds0, p0, q0, ha, rfl, rfl, h0, r0⟩ := trodAll_cons hA
    obtain ⟨v1, vs1, d1, ds1, p1, q1, rfl, rfl, rfl, h1, r1⟩ := trodAll_cons r0
    obtain ⟨rfl, rfl, rfl⟩ := trodAll_nil r1
    rfl
  · intro W base args ds p hval hA
    rw [Try.params6] at hA hval
    obtain ⟨v0, vs0, d0, ds0, p0, q0, ha, rfl, rfl, h0, r0⟩ := trodAll_cons hA
    obtain ⟨v1, vs1, d1, ds1, p1, q1, rfl, rfl, rfl, h1, r1⟩ := trodAll_cons r0
    obtain ⟨rfl, rfl, rfl⟩ := trodAll_nil r1
    obtain rfl : args = #[v0, v1] := by cases args; simp_all
    obtain ⟨i0, rfl, lo0, hi0⟩ := open_i64 (hval 0 _ v0 rfl rfl) h0
    obtain ⟨i1, rfl, lo1, hi1⟩ := open_i64 (hval 1 _ v1 rfl rfl) h1
    exact walk i0 lo0 hi0 i1 lo1 hi1 W

/-- The statement. -/
theorem proved : Rows.ClockRoundsSaid :=
  OpenClaim.holds_of_wide 6 Try.f6 rfl rfl rfl rfl rfl rfl rfl ⟨rfl, rfl, rfl, rfl, rfl⟩ rfl rfl rfl rfl rfl (by kernel_rfl) Try.func6 (by kernel_rfl)
    (of_decide_eq_true (by kernel_rfl)) (by unfold Func.isWrapper; first | (rw [if_pos (by decide +kernel)]; kernel_rfl) | (rw [if_neg (by decide +kernel)]; exact ⟨rfl, rfl⟩))
    (fun os started H enc _ => lifted os started H enc)
#print axioms proved
end Go.Proofs.Ytnaoibohilpcgaa.clockRounds
