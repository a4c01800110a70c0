/-
  ClockPins answers true, for all numbers: a place that is pinned does not go till it is unpinned as often. Conditions: none.
-/
import Derived.Test.YtnaoibohilpcgaaRows
import Derived.Test.YtnaoibohilpcgaaGAwake
import Derived.Test.YtnaoibohilpcgaaGRound
import Derived.Test.YtnaoibohilpcgaaOpenI
namespace Go.Proofs.Ytnaoibohilpcgaa.clockPins
open Go.ChangeShapes Go.WideShapes Go.ChangeAt Go.RowKit

def PndRel (W : World) (db pb n i k : Nat) (w : World) : Prop := ∃ s, CLive W w db pb s ∧ s.Pnd n i k
def ClrRel (W : World) (db pb n h : Nat) (w : World) : Prop := ∃ s, CLive W w db pb s ∧ s.Clear n h

set_option maxRecDepth 20000 in
set_option maxHeartbeats 6400000 in
theorem walkIn (W : World) (pl i : Nat) (h1 : 2 ≤ pl) (h2 : pl ≤ 50) (hi : i < pl) (t : Int) (l1 : -9223372036854775808 ≤ t) (l2 : t ≤ 9223372036854775807) :
    Calls Try.prog 7 #[.int .i64 pl, .int .i64 i, .int .i64 t] W fun e W' => e = .returned (.bool true) ∧ Below W.heap.size W W' := by
  go_enter Try.func7, Try.ntmps7
  go_wp2_with fail
  refine (awake_any _).mono ?_
  rintro e w1 ⟨rfl, b1⟩
  have B1 := Lib.hid b1
  clear b1
  obtain ⟨N, hN⟩ : ∃ N : Nat, N = 2 * pl := ⟨_, rfl⟩
  have hN2 : (2 : Int) * (pl : Int) = (N : Int) := by omega
  have hN3 : pl ≤ N := by omega
  have hN4 : N ≤ 100 := by omega
  clear hN
  rcases Int.lt_or_le t 0 with ht | ht
  · go_wp2_with fail
    obtain ⟨M, hM⟩ : ∃ M : Nat, wrap64 (1 + -(t + 1).tmod 5) = (M : Int) ∧ 1 ≤ M ∧ M ≤ 5 := by
      rw [← Int.neg_tmod, Int.tmod_eq_emod_of_nonneg (by omega)]
      refine ⟨(1 + (-(t + 1)) % 5).toNat, ?_, by omega, by omega⟩
      unfold wrap64
      omega
    obtain ⟨hM, m1, m2⟩ := hM
    rw [hM]
    clear hM ht l1 l2
    refine (new_live (W := W) _ pl (by omega) (by omega) B1.out).mono ?_
    rintro e w2 ⟨db, pb, rfl, hv, -, -, -⟩
    have HV := Lib.hid hv
    clear hv
    go_wp2_with fail
    go_loopw [10] (fun x wr => ∃ k : Nat, k ≤ M ∧ x = .int .i64 k ∧ PndRel W db pb pl i k wr) (fun x _ => M - (intOf x).toNat)
    case atStart => exact ⟨0, Nat.zero_le _, rfl, _, HV.out, CS.Pnd.new i (by omega)⟩
    case round =>
      clear HV
      obtain ⟨k, hk, rfl, hr⟩ := hrel
      by_cases hlt : k < M
      · obtain ⟨s, hs, hp⟩ := hr
        have HP := Lib.hid hp
        have HS := Lib.hid hs
        clear hs hp
        go_wp2_with fail
        refine (pin_live (W := W) _ i (HP.out.max.up (by omega)) HS.out).mono ?_
        rintro e w3 ⟨rfl, hv3⟩
        have HV3 := Lib.hid hv3
        clear hv3 HS
        go_wp2_with fail
        go_roundw
        case rel => exact ⟨k + 1, by omega, by go_num, _, HV3.out, HP.out.pin hi⟩
        case measure => simp [intOf]; omega
      · obtain rfl : M = k := by omega
        have HR := Lib.hid hr
        clear hr hk hlt
        go_wp2_with fail
        go_loopw [11] (fun x wr' => ∃ j : Nat, j ≤ N ∧ x = .int .i64 j ∧ PndRel W db pb pl i M wr') (fun x _ => N - (intOf x).toNat)
        case atStart => exact ⟨0, Nat.zero_le _, rfl, HR.out⟩
        case round =>
          clear HR
          obtain ⟨j, hj, rfl, hr⟩ := hrel
          by_cases hlt : j < N
          · obtain ⟨s, hs, hp⟩ := hr
            obtain ⟨m, hm⟩ : ∃ m, M = m + 1 := ⟨M - 1, by omega⟩
            rw [hm] at hp
            obtain ⟨t2, t1, t3, t4, t5⟩ := hp.vic h1
            rw [← hm] at t5
            clear hm hp
            have HP := Lib.hid t5
            have HS := Lib.hid hs
            have T2 := Lib.hid t2
            have hb : (s.vicI == (i : Int)) = false := by rw [beq_eq_false_iff_ne]; exact t1
            clear hs t1 t2 t3 t4 t5
            go_wp2_with fail
            refine (victim_live (W := W) _ HS.out).mono ?_
            rintro e w3 ⟨rfl, hv3⟩
            rw [T2.out]
            have HV3 := Lib.hid hv3
            clear hv3 HS
            go_wp2_with fail
            go_roundw
            case rel => exact ⟨j + 1, by omega, by go_num, _, HV3.out, HP.out⟩
            case measure => simp [intOf]; omega
          · obtain rfl : N = j := by omega
            have HR := Lib.hid hr
            clear hr hj hlt
            go_wp2_with fail
            go_loopw [14] (fun x wr' => ∃ q : Nat, q ≤ M ∧ x = .int .i64 q ∧ PndRel W db pb pl i (M - q) wr') (fun x _ => M - (intOf x).toNat)
            case atStart => exact ⟨0, Nat.zero_le _, rfl, HR.out⟩
            case round =>
              clear HR
              obtain ⟨q, hq, rfl, hr⟩ := hrel
              by_cases hlt : q < M
              · obtain ⟨s, hs, hp⟩ := hr
                have e1 : M - q = (M - q - 1) + 1 := by omega
                rw [e1] at hp
                obtain ⟨t1, t2⟩ := hp.un hi
                have HP := Lib.hid t2
                have HS := Lib.hid hs
                have T1 := Lib.hid t1
                clear hs hp t1 t2 e1
                go_wp2_with fail
                refine (unpin_live (W := W) _ i HS.out).mono ?_
                rintro e w3 ⟨rfl, hv3⟩
                rw [T1.out]
                have HV3 := Lib.hid hv3
                clear hv3 HS
                go_wp2_with fail
                go_roundw
                case rel => exact ⟨q + 1, by omega, by go_num, _, HV3.out, by rw [show M - (q + 1) = M - q - 1 by omega]; exact HP.out⟩
                case measure => simp [intOf]; omega
              · obtain rfl : M = q := by omega
                rw [Nat.sub_self] at hr
                obtain ⟨s, hs, hp⟩ := hr
                obtain ⟨t1, t2⟩ := hp.unNo
                have HP := Lib.hid hp
                have HS := Lib.hid hs
                have T1 := Lib.hid t1
                have T2 := Lib.hid t2
                clear hs hp t1 t2 hq hlt
                go_wp2_with fail
                refine (unpin_live (W := W) _ i HS.out).mono ?_
                rintro e w3 ⟨rfl, hv3⟩
                rw [T1.out]
                rw [T2.out] at hv3
                have HV3 := Lib.hid hv3
                clear hv3 HS
                go_wp2_with fail
                go_loopw [15, 16] (fun b x wr' => ∃ y : Nat, y ≤ N ∧ x = .int .i64 y ∧ b = .bool (CS.was pl s.h i y) ∧ ClrRel W db pb pl ((s.h + y) % pl) wr') (fun _ x _ => N - (intOf x).toNat)
                case atStart =>
                  refine ⟨0, Nat.zero_le _, rfl, rfl, s, HV3.out, ?_⟩
                  rw [Nat.add_zero, Nat.mod_eq_of_lt HP.out.h_]
                  exact HP.out.clear
                case round =>
                  have HH := Lib.hid HP.out.h_
                  clear HV3 HP
                  obtain ⟨y, hy, rfl, rfl, hr⟩ := hrel
                  by_cases hlt : y < N
                  · obtain ⟨c, hs, hp⟩ := hr
                    obtain ⟨t1, t2, t3⟩ := hp.vic (Nat.mod_lt _ (by omega))
                    rw [Nat.mod_add_mod] at t3
                    have HP := Lib.hid t3
                    have HS := Lib.hid hs
                    have T1 := Lib.hid t1
                    have T2 := Lib.hid t2
                    have HW := Lib.hid (CS.was_succ pl s.h i y)
                    clear hs hp t1 t2 t3
                    generalize (s.h + y) % pl = z at *
                    go_wp2_with fail
                    refine (victim_live (W := W) _ HS.out).mono ?_
                    rintro e w4 ⟨rfl, hv4⟩
                    rw [T1.out, T2.out]
                    have HV4 := Lib.hid hv4
                    clear hv4 HS
                    cases hw : CS.was pl s.h i y with
                    | true =>
                      have HWW := Lib.hid hw
                      clear hw
                      go_wp2_with fail
                      go_roundw
                      case rel => exact ⟨y + 1, by omega, by go_num, by rw [HW.out, HWW.out]; rfl, _, HV4.out, HP.out⟩
                      case measure => simp [intOf]; omega
                    | false =>
                      have HWW := Lib.hid hw
                      clear hw
                      by_cases hz : z = i
                      · subst hz
                        go_wp2_with fail
                        go_roundw
                        case rel => exact ⟨y + 1, by omega, by go_num, by rw [HW.out, HWW.out]; simp, _, HV4.out, HP.out⟩
                        case measure => simp [intOf]; omega
                      · have hb : ((z : Int) == (i : Int)) = false := by rw [beq_eq_false_iff_ne]; omega
                        have HZ := Lib.hid hz
                        clear hz
                        go_wp2_with fail
                        go_roundw
                        case rel => exact ⟨y + 1, by omega, by go_num, by rw [HW.out, HWW.out, show (z == i) = false by rw [beq_eq_false_iff_ne]; exact HZ.out]; rfl, _, HV4.out, HP.out⟩
                        case measure => simp [intOf]; omega
                  · obtain rfl : N = y := by omega
                    have HB : Hid (Below W.heap.size W wr) := by
                      obtain ⟨c, hs, _⟩ := hr
                      exact hs.below
                    have HA := Lib.hid (CS.was_all HH.out hi (k := N) hN3)
                    clear hr
                    go_wp2_with fail
                    go_ret
                    exact ⟨ret_bool HA.out, HB.out⟩
  · go_wp2_with fail
    obtain ⟨M, hM⟩ : ∃ M : Nat, 1 + t % 5 = (M : Int) ∧ 1 ≤ M ∧ M ≤ 5 := ⟨(1 + t % 5).toNat, by omega, by omega, by omega⟩
    obtain ⟨hM, m1, m2⟩ := hM
    rw [hM]
    clear hM ht l1 l2
    refine (new_live (W := W) _ pl (by omega) (by omega) B1.out).mono ?_
    rintro e w2 ⟨db, pb, rfl, hv, -, -, -⟩
    have HV := Lib.hid hv
    clear hv
    go_wp2_with fail
    go_loopw [10] (fun x wr => ∃ k : Nat, k ≤ M ∧ x = .int .i64 k ∧ PndRel W db pb pl i k wr) (fun x _ => M - (intOf x).toNat)
    case atStart => exact ⟨0, Nat.zero_le _, rfl, _, HV.out, CS.Pnd.new i (by omega)⟩
    case round =>
      clear HV
      obtain ⟨k, hk, rfl, hr⟩ := hrel
      by_cases hlt : k < M
      · obtain ⟨s, hs, hp⟩ := hr
        have HP := Lib.hid hp
        have HS := Lib.hid hs
        clear hs hp
        go_wp2_with fail
        refine (pin_live (W := W) _ i (HP.out.max.up (by omega)) HS.out).mono ?_
        rintro e w3 ⟨rfl, hv3⟩
        have HV3 := Lib.hid hv3
        clear hv3 HS
        go_wp2_with fail
        go_roundw
        case rel => exact ⟨k + 1, by omega, by go_num, _, HV3.out, HP.out.pin hi⟩
        case measure => simp [intOf]; omega
      · obtain rfl : M = k := by omega
        have HR := Lib.hid hr
        clear hr hk hlt
        go_wp2_with fail
        go_loopw [11] (fun x wr' => ∃ j : Nat, j ≤ N ∧ x = .int .i64 j ∧ PndRel W db pb pl i M wr') (fun x _ => N - (intOf x).toNat)
        case atStart => exact ⟨0, Nat.zero_le _, rfl, HR.out⟩
        case round =>
          clear HR
          obtain ⟨j, hj, rfl, hr⟩ := hrel
          by_cases hlt : j < N
          · obtain ⟨s, hs, hp⟩ := hr
            obtain ⟨m, hm⟩ : ∃ m, M = m + 1 := ⟨M - 1, by omega⟩
            rw [hm] at hp
            obtain ⟨t2, t1, t3, t4, t5⟩ := hp.vic h1
            rw [← hm] at t5
            clear hm hp
            have HP := Lib.hid t5
            have HS := Lib.hid hs
            have T2 := Lib.hid t2
            have hb : (s.vicI == (i : Int)) = false := by rw [beq_eq_false_iff_ne]; exact t1
            clear hs t1 t2 t3 t4 t5
            go_wp2_with fail
            refine (victim_live (W := W) _ HS.out).mono ?_
            rintro e w3 ⟨rfl, hv3⟩
            rw [T2.out]
            have HV3 := Lib.hid hv3
            clear hv3 HS
            go_wp2_with fail
            go_roundw
            case rel => exact ⟨j + 1, by omega, by go_num, _, HV3.out, HP.out⟩
            case measure => simp [intOf]; omega
          · obtain rfl : N = j := by omega
            have HR := Lib.hid hr
            clear hr hj hlt
            go_wp2_with fail
            go_loopw [14] (fun x wr' => ∃ q : Nat, q ≤ M ∧ x = .int .i64 q ∧ PndRel W db pb pl i (M - q) wr') (fun x _ => M - (intOf x).toNat)
            case atStart => exact ⟨0, Nat.zero_le _, rfl, HR.out⟩
            case round =>
              clear HR
              obtain ⟨q, hq, rfl, hr⟩ := hrel
              by_cases hlt : q < M
              · obtain ⟨s, hs, hp⟩ := hr
                have e1 : M - q = (M - q - 1) + 1 := by omega
                rw [e1] at hp
                obtain ⟨t1, t2⟩ := hp.un hi
                have HP := Lib.hid t2
                have HS := Lib.hid hs
                have T1 := Lib.hid t1
                clear hs hp t1 t2 e1
                go_wp2_with fail
                refine (unpin_live (W := W) _ i HS.out).mono ?_
                rintro e w3 ⟨rfl, hv3⟩
                rw [T1.out]
                have HV3 := Lib.hid hv3
                clear hv3 HS
                go_wp2_with fail
                go_roundw
                case rel => exact ⟨q + 1, by omega, by go_num, _, HV3.out, by rw [show M - (q + 1) = M - q - 1 by omega]; exact HP.out⟩
                case measure => simp [intOf]; omega
              · obtain rfl : M = q := by omega
                rw [Nat.sub_self] at hr
                obtain ⟨s, hs, hp⟩ := hr
                obtain ⟨t1, t2⟩ := hp.unNo
                have HP := Lib.hid hp
                have HS := Lib.hid hs
                have T1 := Lib.hid t1
                have T2 := Lib.hid t2
                clear hs hp t1 t2 hq hlt
                go_wp2_with fail
                refine (unpin_live (W := W) _ i HS.out).mono ?_
                rintro e w3 ⟨rfl, hv3⟩
                rw [T1.out]
                rw [T2.out] at hv3
                have HV3 := Lib.hid hv3
                clear hv3 HS
                go_wp2_with fail
                go_loopw [15, 16] (fun b x wr' => ∃ y : Nat, y ≤ N ∧ x = .int .i64 y ∧ b = .bool (CS.was pl s.h i y) ∧ ClrRel W db pb pl ((s.h + y) % pl) wr') (fun _ x _ => N - (intOf x).toNat)
                case atStart =>
                  refine ⟨0, Nat.zero_le _, rfl, rfl, s, HV3.out, ?_⟩
                  rw [Nat.add_zero, Nat.mod_eq_of_lt HP.out.h_]
                  exact HP.out.clear
                case round =>
                  have HH := Lib.hid HP.out.h_
                  clear HV3 HP
                  obtain ⟨y, hy, rfl, rfl, hr⟩ := hrel
                  by_cases hlt : y < N
                  · obtain ⟨c, hs, hp⟩ := hr
                    obtain ⟨t1, t2, t3⟩ := hp.vic (Nat.mod_lt _ (by omega))
                    rw [Nat.mod_add_mod] at t3
                    have HP := Lib.hid t3
                    have HS := Lib.hid hs
                    have T1 := Lib.hid t1
                    have T2 := Lib.hid t2
                    have HW := Lib.hid (CS.was_succ pl s.h i y)
                    clear hs hp t1 t2 t3
                    generalize (s.h + y) % pl = z at *
                    go_wp2_with fail
                    refine (victim_live (W := W) _ HS.out).mono ?_
                    rintro e w4 ⟨rfl, hv4⟩
                    rw [T1.out, T2.out]
                    have HV4 := Lib.hid hv4
                    clear hv4 HS
                    cases hw : CS.was pl s.h i y with
                    | true =>
                      have HWW := Lib.hid hw
                      clear hw
                      go_wp2_with fail
                      go_roundw
                      case rel => exact ⟨y + 1, by omega, by go_num, by rw [HW.out, HWW.out]; rfl, _, HV4.out, HP.out⟩
                      case measure => simp [intOf]; omega
                    | false =>
                      have HWW := Lib.hid hw
                      clear hw
                      by_cases hz : z = i
                      · subst hz
                        go_wp2_with fail
                        go_roundw
                        case rel => exact ⟨y + 1, by omega, by go_num, by rw [HW.out, HWW.out]; simp, _, HV4.out, HP.out⟩
                        case measure => simp [intOf]; omega
                      · have hb : ((z : Int) == (i : Int)) = false := by rw [beq_eq_false_iff_ne]; omega
                        have HZ := Lib.hid hz
                        clear hz
                        go_wp2_with fail
                        go_roundw
                        case rel => exact ⟨y + 1, by omega, by go_num, by rw [HW.out, HWW.out, show (z == i) = false by rw [beq_eq_false_iff_ne]; exact HZ.out]; rfl, _, HV4.out, HP.out⟩
                        case measure => simp [intOf]; omega
                  · obtain rfl : N = y := by omega
                    have HB : Hid (Below W.heap.size W wr) := by
                      obtain ⟨c, hs, _⟩ := hr
                      exact hs.below
                    have HA := Lib.hid (CS.was_all HH.out hi (k := N) hN3)
                    clear hr
                    go_wp2_with fail
                    go_ret
                    exact ⟨ret_bool HA.out, HB.out⟩

theorem walk (i0 : Int) (_ : -9223372036854775808 ≤ i0) (_ : i0 ≤ 9223372036854775807) (i1 : Int) (_ : -9223372036854775808 ≤ i1) (_ : i1 ≤ 9223372036854775807) (i2 : Int) (l1 : -9223372036854775808 ≤ i2) (l2 : i2 ≤ 9223372036854775807) (W : World) :
    Calls Try.prog 7 #[.int .i64 i0, .int .i64 i1, .int .i64 i2] W fun e W' => e = .returned (.bool true) ∧ Below W.heap.size W W' := by
  by_cases h1 : i0 < 2
  · go_enter Try.func7, Try.ntmps7
    go_wp2_with fail
    refine (awake_any _).mono ?_
    rintro e w1 ⟨rfl, b1⟩
    have B1 := Lib.hid b1
    clear b1
    go_wp2_with fail
    go_ret
    exact ⟨rfl, B1.out⟩
  by_cases h2 : 50 < i0
  · go_enter Try.func7, Try.ntmps7
    go_wp2_with fail
    refine (awake_any _).mono ?_
    rintro e w1 ⟨rfl, b1⟩
    have B1 := Lib.hid b1
    clear b1
    go_wp2_with fail
    go_ret
    exact ⟨rfl, B1.out⟩
  by_cases h3 : i1 < 0
  · go_enter Try.func7, Try.ntmps7
    go_wp2_with fail
    refine (awake_any _).mono ?_
    rintro e w1 ⟨rfl, b1⟩
    have B1 := Lib.hid b1
    clear b1
    go_wp2_with fail
    go_ret
    exact ⟨rfl, B1.out⟩
  by_cases h4 : i0 ≤ i1
  · go_enter Try.func7, Try.ntmps7
    go_wp2_with fail
    refine (awake_any _).mono ?_
    rintro e w1 ⟨rfl, b1⟩
    have B1 := Lib.hid b1
    clear b1
    go_wp2_with fail
    go_ret
    exact ⟨rfl, B1.out⟩
  obtain ⟨pl, rfl⟩ : ∃ pl : Nat, i0 = pl := ⟨i0.toNat, by omega⟩
  obtain ⟨i, rfl⟩ : ∃ i : Nat, i1 = i := ⟨i1.toNat, by omega⟩
  exact walkIn W pl i (by omega) (by omega) (by omega) i2 l1 l2

set_option maxRecDepth 100000 in
theorem lifted (os : Os) (started : os.Started) (H : Type) (enc : TypeId × Value → H) :
    ReturnsInHanded {} Try.checked os 7 .any (Rows.clockPinsSpec.pre6 enc Try.prog Try.f7 Rows.clockPinsRow.domain false)
      (Rows.clockPinsSpec.post enc Try.prog Try.f7 false true false false) := by
  refine lift_law (C := Try.checked) (tb := 4) ownKnobs started (by kernel_rfl) Try.func7
    (ChangeSpec.witness6 (enc := enc) (C := Try.checked) false ⟨#[], #[.int .i64 0, .int .i64 0, .int .i64 0], []⟩ 8 (by kernel_rfl) (by kernel_rfl) (by kernel_rfl) (by kernel_rfl))
    laidOut ?_ rfl rfl Try.underlying4 ?_ ?_
  · intro t ht
    rw [Try.params7] at ht
    simp only [List.mem_cons, List.not_mem_nil, or_false] at ht
    rcases ht with rfl | rfl | rfl <;> exact ⟨by kernel_rfl, of_decide_eq_true (by kernel_rfl)⟩
  · intro vs ds W p hA
    rw [Try.params7] at hA
    obtain ⟨v0, vs0, d0, ds0, p0, q0, ha, rfl, rfl, h0, r0⟩ := trodAll_cons hA
    obtain ⟨v1, vs1, d1, ds1, p1, q1, rfl, rfl, rfl, h1, r1⟩ := trodAll_cons r0
    obtain ⟨v2, vs2, d2, ds2, p2, q2, rfl, rfl, rfl, h2, r2⟩ := trodAll_cons r1
    obtain ⟨rfl, rfl, rfl⟩ := trodAll_nil r2
    rfl
  · intro W base args ds p hval hA
    rw [Try.params7] at hA hval
    obtain ⟨v0, vs0, d0, ds0, p0, q0, ha, rfl, rfl, h0, r0⟩ := trodAll_cons hA
    obtain ⟨v1, vs1, d1, ds1, p1, q1, rfl, rfl, rfl, h1, r1⟩ := trodAll_cons r0
    obtain ⟨v2, vs2, d2, ds2, p2, q2, rfl, rfl, rfl, h2, r2⟩ := trodAll_cons r1
    obtain ⟨rfl, rfl, rfl⟩ := trodAll_nil r2
    obtain rfl : args = #[v0, v1, v2] := by cases args; simp_all
    obtain ⟨i0, rfl, lo0, hi0⟩ := open_i64 (hval 0 _ v0 rfl rfl) h0
    obtain ⟨i1, rfl, lo1, hi1⟩ := open_i64 (hval 1 _ v1 rfl rfl) h1
    obtain ⟨i2, rfl, lo2, hi2⟩ := open_i64 (hval 2 _ v2 rfl rfl) h2
    exact walk i0 lo0 hi0 i1 lo1 hi1 i2 lo2 hi2 W

/-- The statement. -/
theorem proved : Rows.ClockPinsSaid :=
  OpenClaim.holds_of_wide 7 Try.f7 rfl rfl rfl rfl rfl rfl rfl ⟨rfl, rfl, rfl, rfl, rfl⟩ rfl rfl rfl rfl rfl (by kernel_rfl) Try.func7 (by kernel_rfl)
    (of_decide_eq_true (by kernel_rfl)) (by unfold Func.isWrapper; first | (rw [if_pos (by decide +kernel)]; kernel_rfl) | (rw [if_neg (by decide +kernel)]; exact ⟨rfl, rfl⟩))
    (fun os started H enc _ => lifted os started H enc)
#print axioms proved
end Go.Proofs.Ytnaoibohilpcgaa.clockPins
