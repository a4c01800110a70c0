/-
  ClockFair answers true, for every number of places and every script: a place that goes is not pinned, and was not used, if there is such a one; pins stay. Conditions: none.
-/
import Derived.Test.YtnaoibohilpcgaaRows
import Derived.Test.YtnaoibohilpcgaaGAwake
import Derived.Test.YtnaoibohilpcgaaGDone
import Derived.Test.YtnaoibohilpcgaaRefInts
import Derived.Deep.QuietTactic
import Derived.BigQuiet
namespace Go.Proofs.Ytnaoibohilpcgaa.clockFair
open Go.ChangeShapes Go.WideShapes Go.ChangeAt Go.RowKit

/-- How many of the first k are so? -/
def cnt (f : Nat → Bool) : Nat → Nat
  | 0 => 0
  | k + 1 => cnt f k + (if f k then 1 else 0)
theorem cnt_le (f : Nat → Bool) : ∀ k, cnt f k ≤ k
  | 0 => Nat.le_refl _
  | k + 1 => by
    have := cnt_le f k
    unfold cnt
    split <;> omega
theorem cnt_zero (f : Nat → Bool) : ∀ k, cnt f k = 0 → ∀ j, j < k → f j = false
  | 0, _, j, hj => absurd hj (by omega)
  | k + 1, h, j, hj => by
    unfold cnt at h
    split at h
    · omega
    · rename_i hk
      by_cases e : j = k
      · rw [e]
        simpa using hk
      · exact cnt_zero f k (by omega) j (by omega)
theorem cnt_none (f : Nat → Bool) : ∀ k, (∀ j, j < k → f j = false) → cnt f k = 0
  | 0, _ => rfl
  | k + 1, h => by
    unfold cnt
    rw [cnt_none f k (fun j hj => h j (by omega)), h k (by omega)]
    rfl

def FP (s : CS) (j : Nat) : Bool := s.p j == 0
def FR (s : CS) (j : Nat) : Bool := s.p j == 0 && !s.u j

theorem pins_cell {w : World} {b : Nat} {s : CS} (h : Ints w (some ⟨b, 0, none⟩) s.pinsL) {k : Nat} (hk : k < s.n) : w.cell? ⟨b, k, none⟩ = some (.int .i64 (s.p k)) := by
  rcases h with h | ⟨b', off, e, hc⟩
  · have := pinsL_len s
    rw [h] at this
    simp at this
    omega
  · injection e with e
    injection e with e1 e2
    subst e1
    subst e2
    have := hc k _ (pinsL_at s hk)
    rwa [Nat.zero_add] at this
theorem used_cell {w : World} {b : Nat} {s : CS} (h : Bls w (some ⟨b, 0, none⟩) s.usedL) {k : Nat} (hk : k < s.n) : w.cell? ⟨b, k, none⟩ = some (.bool (s.u k)) := by
  rcases h with h | ⟨b', off, e, hc⟩
  · have := usedL_len s
    rw [h] at this
    simp at this
    omega
  · injection e with e
    injection e with e1 e2
    subst e1
    subst e2
    have := hc k _ (usedL_at s hk)
    rwa [Nat.zero_add] at this

theorem cell_kept {w w' : World} {F : Nat → Prop} (hk : Kept F w w') {b j : Nat} {v : Value} (h : w.cell? ⟨b, j, none⟩ = some v) (hb : ¬ F b) : w'.cell? ⟨b, j, none⟩ = some v := by
  have hlt : b < w.heap.size := World.block_lt_of_cell? _ _ h
  exact (World.cell?_of_block (w := w) (hk.block b hlt hb)).trans h

theorem ints_kept {w w' : World} {F : Nat → Prop} {b : Nat} {l : List Int} (hk : Kept F w w') (h : Ints w (some ⟨b, 0, none⟩) l) (hb : ¬ F b) : Ints w' (some ⟨b, 0, none⟩) l := by
  rcases h with h | ⟨b', off, e, hc⟩
  · exact Or.inl h
  · refine Or.inr ⟨b', off, e, fun i z hz => ?_⟩
    injection e with e
    injection e with e1 e2
    subst e1
    exact cell_kept hk (hc i z hz) hb
theorem bls_kept {w w' : World} {F : Nat → Prop} {b : Nat} {l : List Bool} (hk : Kept F w w') (h : Bls w (some ⟨b, 0, none⟩) l) (hb : ¬ F b) : Bls w' (some ⟨b, 0, none⟩) l := by
  rcases h with h | ⟨b', off, e, hc⟩
  · exact Or.inl h
  · refine Or.inr ⟨b', off, e, fun i z hz => ?_⟩
    injection e with e
    injection e with e1 e2
    subst e1
    exact cell_kept hk (hc i z hz) hb

theorem hand_n {db pb : Nat} {s : CS} (w : World) (m : Nat) (hm : s.h = m) (h : ClkAt w db pb s) :
    Calls Try.prog 17 #[.pointer (some ⟨db, 0, none⟩)] w fun e w' => e = .returned (.int .i64 m) ∧ w' = w := by
  subst hm
  refine (hand_any w h).mono ?_
  rintro e w' ⟨rfl, rfl⟩
  exact ⟨rfl, rfl⟩

theorem vic_pins {s : CS} (hh : s.h < s.n) : s.vicS.pinsL = s.pinsL := by
  cases hf : s.free with
  | false => rw [(CS.vic_no hf).2.2]
  | true =>
    obtain ⟨r, hw, _, g⟩ := CS.way_of hh hf
    rw [(CS.vic_of hw).2.2]
    unfold CS.pinsL
    rw [g.n_, g.p_]

/-- What is behind the loop: how many are free, and how many of these were not used. -/
structure Fair (s : CS) (a b : Nat) : Prop where
  a_ : a = 0 ↔ s.free = false
  b_ : b = 0 ∨ ∃ j, j < s.n ∧ s.p j = 0 ∧ s.u j = false

theorem fair_of (s : CS) : Fair s (cnt (FP s) s.n) (cnt (FR s) s.n) := by
  constructor
  · constructor
    · intro h
      cases hf : s.free with
      | false => rfl
      | true =>
        obtain ⟨j, hj, h0⟩ := (CS.free_iff s).1 hf
        have := cnt_zero _ _ h j hj
        unfold FP at this
        rw [h0] at this
        cases this
    · intro h
      refine cnt_none _ _ (fun j hj => ?_)
      unfold FP
      rw [beq_eq_false_iff_ne]
      intro h0
      have := (CS.free_iff s).2 ⟨j, hj, h0⟩
      rw [h] at this
      cases this
  · by_cases h : ∃ j, j < s.n ∧ s.p j = 0 ∧ s.u j = false
    · exact Or.inr h
    · refine Or.inl (cnt_none _ _ (fun j hj => ?_))
      unfold FR
      cases hu : s.u j with
      | true => simp
      | false =>
        simp only [Bool.not_false, Bool.and_true]
        rw [beq_eq_false_iff_ne]
        exact fun h0 => h ⟨j, hj, h0, hu⟩

set_option maxRecDepth 20000 in
set_option maxHeartbeats 6400000 in
theorem walkIn (W : World) (pl : Nat) (h1 : 1 ≤ pl) (h2 : pl ≤ 50) (A : Option Addr) (m cp : Nat) (l : List (Int × Int)) (hl : l.length = m) (hsc : GScript W W.heap.size A l) :
    Calls Try.prog 5 #[.int .i64 pl, .slice A m cp] W fun e W' => e = .returned (.bool true) ∧ Below W.heap.size W W' := by
  have HSC := Lib.hid hsc
  have HL := Lib.hid hl
  clear hsc hl
  go_enter Try.func5, Try.ntmps5
  go_wp2_with fail
  refine (awake_any _).mono ?_
  rintro e w1 ⟨rfl, b1⟩
  have B1 := Lib.hid b1
  clear b1
  go_wp2_with fail
  refine (new_live (W := W) _ pl h1 (by omega) B1.out).mono ?_
  rintro e w2 ⟨db, pb, rfl, hv, -, -, -⟩
  have HV := Lib.hid hv
  clear hv
  go_wp2_with fail
  refine (gdone_any (W := W) _ db pb pl A m cp l HL.out HSC.out ⟨_, HV.out, CS.new_max pl, rfl⟩).mono ?_
  rintro e w3 ⟨rfl, s, hs, hm, hz⟩
  subst hz
  have HS := Lib.hid hs
  clear hs hm HV HSC HL
  go_wp2_with fail
  refine (pins_live (W := W) _ HS.out).mono ?_
  rintro e w4 ⟨bp, rfl, hip, -, hbp, hs4, -⟩
  have HS4 := Lib.hid hs4
  have HIP := Lib.hid hip
  have HBP := Lib.hid hbp
  clear hs4 hip hbp HS
  go_wp2_with fail
  refine (used_live (W := W) _ HS4.out).mono ?_
  rintro e w5 ⟨bu, rfl, hiu, -, hbu, hs5, hb5⟩
  have HS5 := Lib.hid hs5
  have HIU := Lib.hid hiu
  have HBU := Lib.hid hbu
  have HIP5 := Lib.hid (HIP.out.below hb5)
  clear hs5 hiu hbu hb5 HS4 HIP
  go_wp2_with fail
  go_loopw [10, 11, 12] (fun f r i wr => ∃ k : Nat, k ≤ s.n ∧ f = .int .i64 (cnt (FP s) k : Nat) ∧ r = .int .i64 (cnt (FR s) k : Nat) ∧ i = .int .i64 k ∧ w5 = wr) (fun _ _ i _ => s.n - (intOf i).toNat)
  case atStart => exact ⟨0, Nat.zero_le _, rfl, rfl, rfl, rfl⟩
  case round =>
    obtain ⟨k, hk, rfl, rfl, rfl, rfl⟩ := hrel
    by_cases hlt : k < s.n
    · have d0 := pins_cell HIP5.out hlt
      have d1 := used_cell HIU.out hlt
      have HP : Hid (cnt (FP s) (k + 1) = cnt (FP s) k + (if FP s k then 1 else 0)) := rfl
      have HR : Hid (cnt (FR s) (k + 1) = cnt (FR s) k + (if FR s k then 1 else 0)) := rfl
      have a1 := cnt_le (FP s) k
      have a2 := cnt_le (FR s) k
      generalize cnt (FP s) k = x at *
      generalize cnt (FR s) k = y at *
      by_cases h0 : s.p k = 0
      · have HH0 := Lib.hid h0
        rw [h0] at d0
        clear h0
        cases hu : s.u k with
        | true =>
          rw [hu] at d1
          have HU := Lib.hid hu
          clear hu
          go_wp2_with fail
          go_roundw
          case rel => exact ⟨k + 1, by omega, by rw [HP.out]; unfold FP; rw [HH0.out]; go_num, by rw [HR.out]; unfold FR; rw [HU.out]; simp, by go_num, trivial⟩
          case measure => simp [intOf]; omega
        | false =>
          rw [hu] at d1
          have HU := Lib.hid hu
          clear hu
          go_wp2_with fail
          go_roundw
          case rel => exact ⟨k + 1, by omega, by rw [HP.out]; unfold FP; rw [HH0.out]; go_num, by rw [HR.out]; unfold FR; rw [HH0.out, HU.out]; go_num, by go_num, trivial⟩
          case measure => simp [intOf]; omega
      · have hb0 : ((s.p k : Int) == 0) = false := by rw [beq_eq_false_iff_ne]; omega
        have HH0 := Lib.hid (show (s.p k == 0) = false by rw [beq_eq_false_iff_ne]; exact h0)
        clear h0
        go_wp2_with fail
        go_roundw
        case rel => exact ⟨k + 1, by omega, by rw [HP.out]; unfold FP; rw [HH0.out]; simp, by rw [HR.out]; unfold FR; rw [HH0.out]; simp, by go_num, trivial⟩
        case measure => simp [intOf]; omega
    · obtain rfl : k = s.n := by omega
      have HF := Lib.hid (fair_of s)
      have a1 := cnt_le (FP s) s.n
      have a2 := cnt_le (FR s) s.n
      generalize cnt (FP s) s.n = x at *
      generalize cnt (FR s) s.n = y at *
      clear hk hlt
      go_wp2_with fail
      refine (victim_any _ HS5.out.ck).mono ?_
      rintro e w6 hg
      obtain ⟨rfl, hs6⟩ := HS5.out.goes hg
      have HK6 := Lib.hid hg.2.2
      have HS6 := Lib.hid hs6
      have HIP6 := Lib.hid (ints_kept HK6.out HIP5.out HBP.out)
      have HIU6 := Lib.hid (bls_kept HK6.out HIU.out HBU.out)
      clear hs6 hg
      go_wp2_with fail
      refine (pins_live (W := W) _ HS6.out).mono ?_
      rintro e w7 ⟨bq, rfl, hiq, -, -, hs7, hb7⟩
      rw [CS.vicS_n HS5.out.ck.hn]
      rw [vic_pins HS5.out.ck.hn] at hiq
      have HS7 := Lib.hid hs7
      have HIQ := Lib.hid hiq
      have HIP7 := Lib.hid (HIP6.out.below hb7)
      have HIU7 := Lib.hid (HIU6.out.below hb7)
      clear hs7 hiq hb7 HIP6 HIU6 HS6
      go_wp2_with fail
      refine (refInts_n _ _ s.n s.n _ _ s.pinsL s.pinsL _ HIQ.out HIP7.out (pinsL_len s) (pinsL_len s) (by omega)).mono ?_
      rintro e w8 ⟨rfl, hb8⟩
      rw [decide_eq_true (rfl : s.pinsL = s.pinsL)]
      have HS8 := Lib.hid (HS7.out.next hb8)
      have HIP8 := Lib.hid (HIP7.out.below hb8)
      have HIU8 := Lib.hid (HIU7.out.below hb8)
      clear hb8 HIP7 HIU7 HS7 HIQ
      cases hf : s.free with
      | false =>
        obtain ⟨v1, v2, v3⟩ := CS.vic_no hf
        have hx : x = 0 := HF.out.a_.2 hf
        rw [v1, v2, hx]
        clear hf v1 v2 v3 hx
        go_wp2_with fail
        go_ret
        exact ⟨rfl, HS8.out.below⟩
      | true =>
        obtain ⟨r, hw, hgo, hwent⟩ := CS.way_of HS5.out.ck.hn hf
        obtain ⟨v1, v2, v3⟩ := CS.vic_of hw
        rw [v1, v2]
        have hx : ((x : Int) == 0) = false := by
          rw [beq_eq_false_iff_ne]
          intro e
          have := HF.out.a_.1 (by omega)
          rw [hf] at this
          cases this
        have hlt := hwent.lt
        have c0 := pins_cell HIP8.out hlt
        rw [hwent.p0] at c0
        have c1 := used_cell HIU8.out hlt
        have hn1 := HS5.out.ck.n1
        obtain ⟨q, hq⟩ : ∃ q, s.vicS.h = q := ⟨_, rfl⟩
        have hq' : ((r.1 : Int) + 1).tmod (s.n : Int) = (q : Int) := by
          rw [Int.tmod_eq_emod_of_nonneg (by omega), ← hq, v3, hwent.h_, Int.natCast_emod]
          rfl
        have HQ := Lib.hid hq
        have HC8 := Lib.hid HS8.out.ck
        have hwr : IntKind.i64.wrap ((r.1 : Int) + 1) = (r.1 : Int) + 1 := by rw [IntKind.wrap_i64]; omega
        have hnz : ((s.n : Int) == 0) = false := by rw [beq_eq_false_iff_ne]; omega
        have HFR : Hid (y = 0 ∨ s.u r.1 = false) := by
          rcases HF.out.b_ with h | ⟨j, hj, h3, h4⟩
          · exact Or.inl h
          · obtain ⟨d, hd, rfl⟩ := CS.at_of HS5.out.ck.hn hj
            exact Or.inr (CS.go_fair d _ s r HS5.out.ck.hn hd h3 h4 hgo).1
        clear hf hw hgo hwent v1 v2 v3 hq HF
        generalize r.1 = v at *
        have i0 : (0 : Int) ≤ (v : Int) := by omega
        rcases Nat.eq_zero_or_pos y with hy | hy
        · subst hy
          go_wp2_with fail
          go_quiet ((go_at_call 17; exact Calls.quiet_of_same (hand_n _ q HQ.out (HC8.out.same rfl rfl))))
          go_wp2_with fail
          go_ret
          exact ⟨rfl, belowN HS8.out.below _⟩
        · have hy' : ((y : Int) == 0) = false := by rw [beq_eq_false_iff_ne]; omega
          have hu : s.u v = false := by
            rcases HFR.out with h | h
            · omega
            · exact h
          rw [hu] at c1
          clear hu
          go_wp2_with fail
          go_quiet ((go_at_call 17; exact Calls.quiet_of_same (hand_n _ q HQ.out (HC8.out.same rfl rfl))))
          go_wp2_with fail
          go_ret
          exact ⟨rfl, belowN HS8.out.below _⟩

theorem walk (i0 : Int) (_ : -9223372036854775808 ≤ i0) (_ : i0 ≤ 9223372036854775807) (A : Option Addr) (m cp : Nat) (l : List (Int × Int)) (hl : l.length = m) {W : World} (hsc : GScript W W.heap.size A l) (_ : m ≤ maxLen) :
    Calls Try.prog 5 #[.int .i64 i0, .slice A m cp] W fun e W' => e = .returned (.bool true) ∧ Below W.heap.size W W' := by
  by_cases h1 : i0 < 1
  · go_enter Try.func5, Try.ntmps5
    go_wp2_with fail
    refine (awake_any _).mono ?_
    rintro e w1 ⟨rfl, b1⟩
    have B1 := Lib.hid b1
    clear b1
    go_wp2_with fail
    go_ret
    exact ⟨rfl, B1.out⟩
  by_cases h2 : 50 < i0
  · go_enter Try.func5, Try.ntmps5
    go_wp2_with fail
    refine (awake_any _).mono ?_
    rintro e w1 ⟨rfl, b1⟩
    have B1 := Lib.hid b1
    clear b1
    go_wp2_with fail
    go_ret
    exact ⟨rfl, B1.out⟩
  obtain ⟨pl, rfl⟩ : ∃ pl : Nat, i0 = pl := ⟨i0.toNat, by omega⟩
  exact walkIn W pl (by omega) (by omega) A m cp l hl hsc

set_option maxRecDepth 100000 in
theorem lifted (os : Os) (started : os.Started) (H : Type) (enc : TypeId × Value → H) :
    ReturnsInHanded {} Try.checked os 5 .any (Rows.clockFairSpec.pre6 enc Try.prog Try.f5 Rows.clockFairRow.domain false)
      (Rows.clockFairSpec.post enc Try.prog Try.f5 false true false false) := by
  refine lift_law (C := Try.checked) (tb := 4) ownKnobs started (by kernel_rfl) Try.func5
    (ChangeSpec.witness6 (enc := enc) (C := Try.checked) false ⟨#[], #[.int .i64 0, .slice none 0 0], []⟩ 8 (by kernel_rfl) (by kernel_rfl) (by kernel_rfl) (by kernel_rfl))
    laidOut ?_ rfl rfl Try.underlying4 ?_ ?_
  · intro t ht
    rw [Try.params5] at ht
    simp only [List.mem_cons, List.not_mem_nil, or_false] at ht
    rcases ht with rfl | rfl <;> exact ⟨by kernel_rfl, of_decide_eq_true (by kernel_rfl)⟩
  · intro vs ds W p hA
    rw [Try.params5] at hA
    obtain ⟨v0, vs0, d0, ds0, p0, q0, ha, rfl, rfl, h0, r0⟩ := trodAll_cons hA
    obtain ⟨v1, vs1, d1, ds1, p1, q1, rfl, rfl, rfl, h1, r1⟩ := trodAll_cons r0
    obtain ⟨rfl, rfl, rfl⟩ := trodAll_nil r1
    rfl
  · intro W base args ds p hval hA
    rw [Try.params5] at hA hval
    obtain ⟨v0, vs0, d0, ds0, p0, q0, ha, rfl, rfl, h0, r0⟩ := trodAll_cons hA
    obtain ⟨v1, vs1, d1, ds1, p1, q1, rfl, rfl, rfl, h1, r1⟩ := trodAll_cons r0
    obtain ⟨rfl, rfl, rfl⟩ := trodAll_nil r1
    obtain rfl : args = #[v0, v1] := by cases args; simp_all
    obtain ⟨i0, rfl, lo0, hi0⟩ := open_i64 (hval 0 _ v0 rfl rfl) h0
    obtain ⟨A1, n1, c1, xs1, rfl, e1, hr1, y1⟩ := open_gcalls (hval 1 _ v1 rfl rfl) h1
    exact walk i0 lo0 hi0 A1 n1 c1 xs1 e1 hr1 y1

/-- The statement. -/
theorem proved : Rows.ClockFairSaid :=
  OpenClaim.holds_of_wide 5 Try.f5 rfl rfl rfl rfl rfl rfl rfl ⟨rfl, rfl, rfl, rfl, rfl⟩ rfl rfl rfl rfl rfl (by kernel_rfl) Try.func5 (by kernel_rfl)
    (of_decide_eq_true (by kernel_rfl)) (by unfold Func.isWrapper; first | (rw [if_pos (by decide +kernel)]; kernel_rfl) | (rw [if_neg (by decide +kernel)]; exact ⟨rfl, rfl⟩))
    (fun os started H enc _ => lifted os started H enc)
#print axioms proved
end Go.Proofs.Ytnaoibohilpcgaa.clockFair
