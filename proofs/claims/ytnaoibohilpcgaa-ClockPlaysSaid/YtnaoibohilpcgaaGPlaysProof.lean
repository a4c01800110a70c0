/-
  ClockPlays answers true, for every number of places and every script: a clock, whatever is used, pinned, and chosen, answers, and stands, as the document says, behind each call. Conditions: none.
-/
import Derived.Test.YtnaoibohilpcgaaRows
import Derived.Test.YtnaoibohilpcgaaGAwake
import Derived.Test.YtnaoibohilpcgaaGPair
import Derived.Test.YtnaoibohilpcgaaGCall
import Derived.Test.YtnaoibohilpcgaaGBools
import Derived.Test.YtnaoibohilpcgaaRefInts
import Derived.Deep.QuietTactic
import Derived.BigQuiet
import Derived.Deep.LoopGhost
namespace Go.Proofs.Ytnaoibohilpcgaa.clockPlays
open Go.ChangeShapes Go.WideShapes Go.ChangeAt Go.RowKit

/-- Both clocks stand alike, behind j calls. -/
def GRel (W : World) (db pb rb qb vb j : Nat) (w : World) : Prop := ∃ s, GBoth W w db pb rb qb vb s s ∧ s.Max j

theorem GRel.below {W w : World} {db pb rb qb vb j : Nat} (h : GRel W db pb rb qb vb j w) : Below W.heap.size W w := by
  obtain ⟨s, h, _⟩ := h
  exact h.live.below

theorem ref_ints {w : World} {rb qb vb : Nat} {s : CS} (h : RClk w rb qb vb s) : Ints w (some ⟨qb, 0, none⟩) s.pinsL := by
  refine Or.inr ⟨qb, 0, rfl, fun i z hz => ?_⟩
  have hi : i < s.n := by
    have := (List.getElem?_eq_some_iff.1 hz).1
    rwa [pinsL_len] at this
  rw [pinsL_at s hi] at hz
  obtain rfl := Option.some.inj hz
  rw [Nat.zero_add]
  exact h.cp hi
theorem ref_bls {w : World} {rb qb vb : Nat} {s : CS} (h : RClk w rb qb vb s) : Bls w (some ⟨vb, 0, none⟩) s.usedL := by
  refine Or.inr ⟨vb, 0, rfl, fun i z hz => ?_⟩
  have hi : i < s.n := by
    have := (List.getElem?_eq_some_iff.1 hz).1
    rwa [usedL_len] at this
  rw [usedL_at s hi] at hz
  obtain rfl := Option.some.inj hz
  rw [Nat.zero_add]
  exact h.cu hi

theorem same_ints (A B : Option Addr) (n c d : Nat) (xs : List Int) (w : World) (hx : Ints w A xs) (hy : Ints w B xs) (e1 : xs.length = n) (hn : n ≤ 2147483647) :
    Calls Try.prog 13 #[.slice A n c, .slice B n d] w
      fun e w' => e = .returned (.bool true) ∧ Below w.heap.size w w' := by
  refine (refInts_n A B n n c d xs xs w hx hy e1 e1 hn).mono ?_
  rintro e w' ⟨rfl, hb⟩
  exact ⟨by rw [decide_eq_true (rfl : xs = xs)], hb⟩

theorem both_made {W w2 w3 : World} {db pb rb qb vb n : Nat} (hv : CLive W w2 db pb (CS.new n)) (hr : RClk w3 rb qb vb (CS.new n)) (hG : ∀ k, Thr rb qb vb k → w2.heap.size ≤ k) (hb : Below w2.heap.size w2 w3) : GRel W db pb rb qb vb 0 w3 := by
  refine ⟨_, ⟨hv.next hb, hr, fun k hF hG' => ?_, fun k hk => Nat.le_trans hv.le (hG k hk)⟩, CS.new_max n⟩
  have h1 := hG k hG'
  obtain ⟨l1, l2⟩ := hv.ck.lt
  rcases hF with rfl | rfl <;> omega

theorem hand_m {db pb : Nat} {s : CS} (w : World) (m : Nat) (hm : s.h = m) (h : ClkAt w db pb s) :
    Calls Try.prog 17 #[.pointer (some ⟨db, 0, none⟩)] w fun e w' => e = .returned (.int .i64 m) ∧ w' = w := by
  subst hm
  refine (hand_any w h).mono ?_
  rintro e w' ⟨rfl, rfl⟩
  exact ⟨rfl, rfl⟩

set_option maxRecDepth 20000 in
set_option maxHeartbeats 12800000 in
theorem walk_small {W : World} (n : Nat) (h1 : 1 ≤ n) (h2 : n ≤ 50) (A : Option Addr) (m cp : Nat) (l : List (Int × Int)) (hl : l.length = m) (hs : GScript W W.heap.size A l) :
    Calls Try.prog 4 #[.int .i64 n, .slice A m cp] W fun e W' => e = .returned (.bool true) ∧ Below W.heap.size W W' := by
  have HL := Lib.hid hl
  have HS := Lib.hid hs
  clear hl hs
  go_enter Try.func4, Try.ntmps4
  go_wp2_with fail
  refine (awake_any _).mono ?_
  rintro e w1 ⟨rfl, b1⟩
  have B1 := Lib.hid b1
  clear b1
  go_wp2_with fail
  refine (new_live (W := W) w1 n (by omega) (by omega) B1.out).mono ?_
  rintro e w2 ⟨db, pb, rfl, hv2, -, -, -⟩
  have HV2 := Lib.hid hv2
  clear hv2 B1
  go_wp2_with fail
  refine (refNewC_good w2 n (by omega) (by omega)).mono ?_
  rintro e w3 ⟨rb, qb, vb, rfl, hr3, hG3, hb3⟩
  have HR : Hid (GRel W db pb rb qb vb 0 w3) := both_made HV2.out hr3 hG3 hb3
  clear hr3 hG3 hb3 HV2
  go_wp2_with fail
  go_loopg [10] m (fun g i wr => ∃ j : Nat, g = m - j ∧ j ≤ m ∧ j ≤ 100 ∧ i = .int .i64 j ∧ GRel W db pb rb qb vb j wr)
  case atStart => exact ⟨0, rfl, Nat.zero_le _, Nat.zero_le _, rfl, HR.out⟩
  case round =>
    obtain ⟨j, rfl, hj, hj2, rfl, hr⟩ := hrel
    have HRR := Lib.hid hr
    clear hr HR
    by_cases hlt : j < m
    · by_cases h60 : j < 100
      · obtain ⟨b, off, x, y, rfl, hbR, -, c0, c1⟩ := (HS.out.below HRR.out.below).at_ (k := j) (by rw [HL.out]; exact hlt)
        obtain ⟨s0, hb0, hm0⟩ := HRR.out
        have HB0 := Lib.hid hb0
        have HM1 := Lib.hid (hm0.done hb0.live.ck.hn x y)
        have HM0 := Lib.hid hm0
        clear hb0 hm0
        go_wp2_with fail
        refine (gdid_any wr x y (HM0.out.up (by omega)) HB0.out).mono ?_
        rintro e w4 ⟨rfl, hb4⟩
        have HB4 := Lib.hid hb4
        clear hb4 c0 c1 HB0 HM0 HRR
        generalize s0.doneS x y = s at *
        have d0 := HB4.out.ref.c0
        have S0 : w4.drew.cell? ⟨rb, 0, none⟩ = some (.slice (some ⟨qb, 0, none⟩) s.n s.n) := d0
        have hn2 := HB4.out.ref.n2
        go_wp2_with fail
        clear d0
        go_region_held3 (fun w' => w'.cell? ⟨rb, 0, none⟩ = some (.slice (some ⟨qb, 0, none⟩) s.n s.n))
          (first | exact S2 | exact S1 | exact S0)
          (first
            | (go_at_call 14; refine (pins_live (W := W) w4.drew HB4.out.drew.live).mono ?_; rintro e w5 ⟨b5, rfl, hi5, -, -, -, hw5⟩; have hb5 := HB4.out.drew.next hw5; have S1 := hb5.ref.c0)
            | (go_at_call 13; refine (same_ints _ _ s.n s.n s.n s.pinsL w5 hi5 (ref_ints hb5.ref) (pinsL_len s) (by omega)).mono ?_; rintro e w6 ⟨rfl, hw6⟩; have hb6 := hb5.next hw6; have S2 := hb6.ref.c0))
        have HB6 := Lib.hid hb6
        clear S0 S1 S2 hb6 hb5 hi5 hw5 hw6 HB4
        have d1 := HB6.out.ref.c1
        have T0 : w6.drew.cell? ⟨rb, 1, none⟩ = some (.slice (some ⟨vb, 0, none⟩) s.n s.n) := d1
        go_wp2_with fail
        clear d1
        go_region_held3 (fun w' => w'.cell? ⟨rb, 1, none⟩ = some (.slice (some ⟨vb, 0, none⟩) s.n s.n))
          (first | exact T2 | exact T1 | exact T0)
          (first
            | (go_at_call 16; refine (used_live (W := W) w6.drew HB6.out.drew.live).mono ?_; rintro e w7 ⟨b7, rfl, hi7, -, -, -, hw7⟩; have hb7 := HB6.out.drew.next hw7; have T1 := hb7.ref.c1)
            | (go_at_call 15; refine (refBools_n _ _ s.n s.n s.n s.usedL w7 hi7 (ref_bls hb7.ref) (usedL_len s) (by omega)).mono ?_; rintro e w8 ⟨rfl, hw8⟩; have hb8 := hb7.next hw8; have T2 := hb8.ref.c1))
        have HB8 := Lib.hid hb8
        clear T0 T1 T2 hb8 hb7 hi7 hw7 hw8 HB6
        obtain ⟨q, hq⟩ : ∃ q, s.h = q := ⟨_, rfl⟩
        have d2 := HB8.out.ref.c2
        rw [hq] at d2
        have HQ := Lib.hid hq
        clear hq
        go_wp2_with fail
        go_quiet ((go_at_call 17; exact Calls.quiet_of_same (hand_m _ q HQ.out (HB8.out.live.ck.same rfl rfl))))
        clear d2
        go_wp2_with fail
        go_roundg (m - (j + 1))
        case measure => omega
        case rel => exact ⟨j + 1, rfl, by omega, by omega, by go_num, s, HB8.out.next ⟨rfl, rfl, rfl, Nat.le_refl _, fun _ _ => rfl⟩, HM1.out⟩
      · go_wp2_with fail
        go_ret
        exact ⟨rfl, HRR.out.below⟩
    · go_wp2_with fail
      go_ret
      exact ⟨rfl, HRR.out.below⟩

set_option maxRecDepth 20000 in
set_option maxHeartbeats 12800000 in
theorem walk_big {W : World} (z : Int) (h1 : 50 < z) (h2 : z ≤ 1000) (A : Option Addr) (m cp : Nat) (l : List (Int × Int)) (hl : l.length = m) (hs : GScript W W.heap.size A l) :
    Calls Try.prog 4 #[.int .i64 z, .slice A m cp] W fun e W' => e = .returned (.bool true) ∧ Below W.heap.size W W' := by
  have HL := Lib.hid hl
  have HS := Lib.hid hs
  clear hl hs
  go_enter Try.func4, Try.ntmps4
  go_wp2_with fail
  refine (awake_any _).mono ?_
  rintro e w1 ⟨rfl, b1⟩
  have B1 := Lib.hid b1
  clear b1
  go_wp2_with fail
  refine (new_live (W := W) w1 50 (by omega) (by omega) B1.out).mono ?_
  rintro e w2 ⟨db, pb, rfl, hv2, -, -, -⟩
  have HV2 := Lib.hid hv2
  clear hv2 B1
  go_wp2_with fail
  refine (refNewC_good w2 50 (by omega) (by omega)).mono ?_
  rintro e w3 ⟨rb, qb, vb, rfl, hr3, hG3, hb3⟩
  have HR : Hid (GRel W db pb rb qb vb 0 w3) := both_made HV2.out hr3 hG3 hb3
  clear hr3 hG3 hb3 HV2
  go_wp2_with fail
  go_loopg [10] m (fun g i wr => ∃ j : Nat, g = m - j ∧ j ≤ m ∧ j ≤ 100 ∧ i = .int .i64 j ∧ GRel W db pb rb qb vb j wr)
  case atStart => exact ⟨0, rfl, Nat.zero_le _, Nat.zero_le _, rfl, HR.out⟩
  case round =>
    obtain ⟨j, rfl, hj, hj2, rfl, hr⟩ := hrel
    have HRR := Lib.hid hr
    clear hr HR
    by_cases hlt : j < m
    · by_cases h60 : j < 100
      · obtain ⟨b, off, x, y, rfl, hbR, -, c0, c1⟩ := (HS.out.below HRR.out.below).at_ (k := j) (by rw [HL.out]; exact hlt)
        obtain ⟨s0, hb0, hm0⟩ := HRR.out
        have HB0 := Lib.hid hb0
        have HM1 := Lib.hid (hm0.done hb0.live.ck.hn x y)
        have HM0 := Lib.hid hm0
        clear hb0 hm0
        go_wp2_with fail
        refine (gdid_any wr x y (HM0.out.up (by omega)) HB0.out).mono ?_
        rintro e w4 ⟨rfl, hb4⟩
        have HB4 := Lib.hid hb4
        clear hb4 c0 c1 HB0 HM0 HRR
        generalize s0.doneS x y = s at *
        have d0 := HB4.out.ref.c0
        have S0 : w4.drew.cell? ⟨rb, 0, none⟩ = some (.slice (some ⟨qb, 0, none⟩) s.n s.n) := d0
        have hn2 := HB4.out.ref.n2
        go_wp2_with fail
        clear d0
        go_region_held3 (fun w' => w'.cell? ⟨rb, 0, none⟩ = some (.slice (some ⟨qb, 0, none⟩) s.n s.n))
          (first | exact S2 | exact S1 | exact S0)
          (first
            | (go_at_call 14; refine (pins_live (W := W) w4.drew HB4.out.drew.live).mono ?_; rintro e w5 ⟨b5, rfl, hi5, -, -, -, hw5⟩; have hb5 := HB4.out.drew.next hw5; have S1 := hb5.ref.c0)
            | (go_at_call 13; refine (same_ints _ _ s.n s.n s.n s.pinsL w5 hi5 (ref_ints hb5.ref) (pinsL_len s) (by omega)).mono ?_; rintro e w6 ⟨rfl, hw6⟩; have hb6 := hb5.next hw6; have S2 := hb6.ref.c0))
        have HB6 := Lib.hid hb6
        clear S0 S1 S2 hb6 hb5 hi5 hw5 hw6 HB4
        have d1 := HB6.out.ref.c1
        have T0 : w6.drew.cell? ⟨rb, 1, none⟩ = some (.slice (some ⟨vb, 0, none⟩) s.n s.n) := d1
        go_wp2_with fail
        clear d1
        go_region_held3 (fun w' => w'.cell? ⟨rb, 1, none⟩ = some (.slice (some ⟨vb, 0, none⟩) s.n s.n))
          (first | exact T2 | exact T1 | exact T0)
          (first
            | (go_at_call 16; refine (used_live (W := W) w6.drew HB6.out.drew.live).mono ?_; rintro e w7 ⟨b7, rfl, hi7, -, -, -, hw7⟩; have hb7 := HB6.out.drew.next hw7; have T1 := hb7.ref.c1)
            | (go_at_call 15; refine (refBools_n _ _ s.n s.n s.n s.usedL w7 hi7 (ref_bls hb7.ref) (usedL_len s) (by omega)).mono ?_; rintro e w8 ⟨rfl, hw8⟩; have hb8 := hb7.next hw8; have T2 := hb8.ref.c1))
        have HB8 := Lib.hid hb8
        clear T0 T1 T2 hb8 hb7 hi7 hw7 hw8 HB6
        obtain ⟨q, hq⟩ : ∃ q, s.h = q := ⟨_, rfl⟩
        have d2 := HB8.out.ref.c2
        rw [hq] at d2
        have HQ := Lib.hid hq
        clear hq
        go_wp2_with fail
        go_quiet ((go_at_call 17; exact Calls.quiet_of_same (hand_m _ q HQ.out (HB8.out.live.ck.same rfl rfl))))
        clear d2
        go_wp2_with fail
        go_roundg (m - (j + 1))
        case measure => omega
        case rel => exact ⟨j + 1, rfl, by omega, by omega, by go_num, s, HB8.out.next ⟨rfl, rfl, rfl, Nat.le_refl _, fun _ _ => rfl⟩, HM1.out⟩
      · go_wp2_with fail
        go_ret
        exact ⟨rfl, HRR.out.below⟩
    · go_wp2_with fail
      go_ret
      exact ⟨rfl, HRR.out.below⟩

theorem walk_none {W : World} (z : Int) (hz : z < 1 ∨ 1000 < z) (A : Option Addr) (m cp : Nat) :
    Calls Try.prog 4 #[.int .i64 z, .slice A m cp] W fun e W' => e = .returned (.bool true) ∧ Below W.heap.size W W' := by
  have HZ := Lib.hid hz
  by_cases h1 : z < 1
  · clear hz
    go_enter Try.func4, Try.ntmps4
    go_wp2_with fail
    refine (awake_any _).mono ?_
    rintro e w1 ⟨rfl, b1⟩
    have B1 := Lib.hid b1
    clear b1
    go_wp2_with fail
    refine (new_bad w1 z HZ.out).mono ?_
    rintro e w' ⟨rfl, rfl⟩
    go_wp2_with fail
    refine (refNewC_bad w1 z HZ.out).mono ?_
    rintro e w' ⟨rfl, rfl⟩
    go_wp2_with fail
    go_ret
    exact ⟨rfl, B1.out⟩
  · have h2 : 1000 < z := by omega
    clear hz
    go_enter Try.func4, Try.ntmps4
    go_wp2_with fail
    refine (awake_any _).mono ?_
    rintro e w1 ⟨rfl, b1⟩
    have B1 := Lib.hid b1
    clear b1
    go_wp2_with fail
    refine (new_bad w1 z HZ.out).mono ?_
    rintro e w' ⟨rfl, rfl⟩
    go_wp2_with fail
    refine (refNewC_bad w1 z HZ.out).mono ?_
    rintro e w' ⟨rfl, rfl⟩
    go_wp2_with fail
    go_ret
    exact ⟨rfl, B1.out⟩

theorem walk (i0 : Int) (_ : -9223372036854775808 ≤ i0) (_ : i0 ≤ 9223372036854775807) (A : Option Addr) (m cp : Nat) (l : List (Int × Int)) (hl : l.length = m) {W : World} (hsc : GScript W W.heap.size A l) (_ : m ≤ maxLen) :
    Calls Try.prog 4 #[.int .i64 i0, .slice A m cp] W fun e W' => e = .returned (.bool true) ∧ Below W.heap.size W W' := by
  by_cases h1 : i0 < 1
  · exact walk_none i0 (Or.inl h1) A m cp
  by_cases h2 : 1000 < i0
  · exact walk_none i0 (Or.inr h2) A m cp
  by_cases h3 : 50 < i0
  · exact walk_big i0 h3 (by omega) A m cp l hl hsc
  obtain ⟨pl, rfl⟩ : ∃ pl : Nat, i0 = pl := ⟨i0.toNat, by omega⟩
  exact walk_small pl (by omega) (by omega) A m cp l hl hsc

set_option maxRecDepth 100000 in
theorem lifted (os : Os) (started : os.Started) (H : Type) (enc : TypeId × Value → H) :
    ReturnsInHanded {} Try.checked os 4 .any (Rows.clockPlaysSpec.pre6 enc Try.prog Try.f4 Rows.clockPlaysRow.domain false)
      (Rows.clockPlaysSpec.post enc Try.prog Try.f4 false true false false) := by
  refine lift_law (C := Try.checked) (tb := 4) ownKnobs started (by kernel_rfl) Try.func4
    (ChangeSpec.witness6 (enc := enc) (C := Try.checked) false ⟨#[], #[.int .i64 0, .slice none 0 0], []⟩ 8 (by kernel_rfl) (by kernel_rfl) (by kernel_rfl) (by kernel_rfl))
    laidOut ?_ rfl rfl Try.underlying4 ?_ ?_
  · intro t ht
    rw [Try.params4] at ht
    simp only [List.mem_cons, List.not_mem_nil, or_false] at ht
    rcases ht with rfl | rfl <;> exact ⟨by kernel_rfl, of_decide_eq_true (by kernel_rfl)⟩
  · intro vs ds W p hA
    rw [Try.params4] at hA
    obtain ⟨v0, vs0, d0, ds0, p0, q0, ha, rfl, rfl, h0, r0⟩ := trodAll_cons hA
    obtain ⟨v1, vs1, d1, ds1, p1, q1, rfl, rfl, rfl, h1, r1⟩ := trodAll_cons r0
    obtain ⟨rfl, rfl, rfl⟩ := trodAll_nil r1
    rfl
  · intro W base args ds p hval hA
    rw [Try.params4] at hA hval
    obtain ⟨v0, vs0, d0, ds0, p0, q0, ha, rfl, rfl, h0, r0⟩ := trodAll_cons hA
    obtain ⟨v1, vs1, d1, ds1, p1, q1, rfl, rfl, rfl, h1, r1⟩ := trodAll_cons r0
    obtain ⟨rfl, rfl, rfl⟩ := trodAll_nil r1
    obtain rfl : args = #[v0, v1] := by cases args; simp_all
    obtain ⟨i0, rfl, lo0, hi0⟩ := open_i64 (hval 0 _ v0 rfl rfl) h0
    obtain ⟨A1, n1, c1, xs1, rfl, e1, hr1, y1⟩ := open_gcalls (hval 1 _ v1 rfl rfl) h1
    exact walk i0 lo0 hi0 A1 n1 c1 xs1 e1 hr1 y1

/-- The statement. -/
theorem proved : Rows.ClockPlaysSaid :=
  OpenClaim.holds_of_wide 4 Try.f4 rfl rfl rfl rfl rfl rfl rfl ⟨rfl, rfl, rfl, rfl, rfl⟩ rfl rfl rfl rfl rfl (by kernel_rfl) Try.func4 (by kernel_rfl)
    (of_decide_eq_true (by kernel_rfl)) (by unfold Func.isWrapper; first | (rw [if_pos (by decide +kernel)]; kernel_rfl) | (rw [if_neg (by decide +kernel)]; exact ⟨rfl, rfl⟩))
    (fun os started H enc _ => lifted os started H enc)
#print axioms proved
end Go.Proofs.Ytnaoibohilpcgaa.clockPlays
