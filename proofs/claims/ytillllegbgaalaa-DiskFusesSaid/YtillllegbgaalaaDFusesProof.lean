/-
  DiskFuses answers true, for every fuse and every number of acts: with a fuse just so many acts are done, and none from there on till the power comes. Conditions: none.
-/
import Derived.Test.YtillllegbgaalaaRows
import Derived.Test.YtillllegbgaalaaDAwake
import Derived.Test.YtillllegbgaalaaOpenB
namespace Go.Proofs.Ytillllegbgaalaa.diskFuses
open Go.ChangeShapes Go.WideShapes Go.ChangeAt Go.RowKit

/-- The disk behind i acts, with a fuse of k. -/
structure FuseOk (k : Int) (i : Nat) (s : PS) : Prop where
  size : s.size = 4
  down : s.down = decide (0 ≤ k ∧ k < (i : Int))
  fused : s.fused = decide (0 ≤ k)
  fuse : 0 ≤ k → s.fuse = (k - (i : Int)).toNat

def goneE (k : Int) (i : Nat) : Int := if 0 ≤ k ∧ k ≤ (i : Int) then 40 else 0

theorem fuse_start (k : Int) : FuseOk k 0 ((PS.new 4).fusing k) :=
  ⟨rfl, by
    show false = _
    rw [eq_comm, decide_eq_false_iff_not]
    omega, rfl, fun h => by show k.toNat = _; omega⟩

theorem fuse_may {k : Int} {i : Nat} {s : PS} (h : FuseOk k i s) : s.may = !decide (0 ≤ k ∧ k ≤ (i : Int)) := by
  unfold PS.may
  rw [h.fused]
  by_cases h0 : 0 ≤ k
  · rw [h.fuse h0]
    by_cases h1 : k ≤ (i : Int)
    · have : (k - (i : Int)).toNat = 0 := by omega
      simp [h0, h1, this]
    · have : (k - (i : Int)).toNat ≠ 0 := by omega
      simp [h0, h1]
      omega
  · simp [h0]

theorem fuse_acted {k : Int} {i : Nat} {s : PS} (h : FuseOk k i s) (hd : ¬ (0 ≤ k ∧ k < (i : Int))) : FuseOk k (i + 1) s.acted := by
  have hd' : s.down = false := by rw [h.down, decide_eq_false_iff_not]; exact hd
  unfold PS.acted
  by_cases h0 : 0 ≤ k
  · have hf : s.fused = true := by rw [h.fused, decide_eq_true_iff]; exact h0
    rw [if_pos hf]
    by_cases h1 : s.fuse = 0
    · rw [if_pos h1]
      have h2 := h.fuse h0
      refine ⟨h.size, ?_, h.fused, fun _ => ?_⟩
      · show true = _
        rw [eq_comm, decide_eq_true_iff]
        omega
      · show s.fuse = _
        omega
    · rw [if_neg h1]
      have h2 := h.fuse h0
      refine ⟨h.size, ?_, h.fused, fun _ => ?_⟩
      · show s.down = _
        rw [hd', eq_comm, decide_eq_false_iff_not]
        omega
      · show s.fuse - 1 = _
        omega
  · have hf : ¬ s.fused = true := by rw [h.fused, decide_eq_true_iff]; exact h0
    rw [if_neg hf]
    refine ⟨h.size, ?_, h.fused, fun e => absurd e h0⟩
    rw [hd', eq_comm, decide_eq_false_iff_not]
    omega

theorem fuse_idle {k : Int} {i : Nat} {s : PS} (h : FuseOk k i s) (hd : 0 ≤ k ∧ k < (i : Int)) : FuseOk k (i + 1) s := by
  refine ⟨h.size, ?_, h.fused, fun h0 => ?_⟩
  · rw [h.down]
    congr 1
    apply propext
    omega
  · rw [h.fuse h0]
    omega

theorem fuse_write {k : Int} {i : Nat} {s : PS} {n : Int} {l : List UInt8} (h : FuseOk k i s) (hn : 0 ≤ n ∧ n < 4) (hl : l.length ≤ 1024) : s.writeE n l = goneE k i ∧ FuseOk k (i + 1) (s.written n l) := by
  have hb : s.bad n l = false := by
    unfold PS.bad PS.has
    rw [h.size]
    have e1 : decide (0 ≤ n ∧ n < ((4 : Nat) : Int)) = true := by rw [decide_eq_true_iff]; omega
    rw [e1]
    have e2 : decide (1024 < l.length) = false := by rw [decide_eq_false_iff_not]; omega
    rw [e2]
    rfl
  unfold PS.writeE PS.written goneE
  by_cases hd : 0 ≤ k ∧ k < (i : Int)
  · have hd' : s.down = true := by rw [h.down, decide_eq_true_iff]; exact hd
    rw [if_pos hd', if_pos hd', if_pos (by omega)]
    exact ⟨rfl, fuse_idle h hd⟩
  · have hd' : ¬ s.down = true := by rw [h.down, decide_eq_true_iff]; exact hd
    rw [if_neg hd', if_neg hd', hb, fuse_may h]
    have ha := fuse_acted h hd
    by_cases hg : 0 ≤ k ∧ k ≤ (i : Int)
    · simp only [hg, and_self, decide_true, Bool.not_true, Bool.false_eq_true, if_false, if_true]
      exact ⟨trivial, ha⟩
    · simp only [hg, decide_false, Bool.not_false, Bool.false_eq_true, if_false, if_true]
      exact ⟨trivial, ⟨ha.size, ha.down, ha.fused, ha.fuse⟩⟩

theorem fuse_flush {k : Int} {i : Nat} {s : PS} (h : FuseOk k i s) : s.flushE = goneE k i ∧ FuseOk k (i + 1) s.flushed := by
  unfold PS.flushE PS.flushed goneE
  by_cases hd : 0 ≤ k ∧ k < (i : Int)
  · have hd' : s.down = true := by rw [h.down, decide_eq_true_iff]; exact hd
    rw [if_pos hd', if_pos hd', if_pos (by omega)]
    exact ⟨rfl, fuse_idle h hd⟩
  · have hd' : ¬ s.down = true := by rw [h.down, decide_eq_true_iff]; exact hd
    rw [if_neg hd', if_neg hd', fuse_may h]
    have ha := fuse_acted h hd
    by_cases hg : 0 ≤ k ∧ k ≤ (i : Int)
    · simp only [hg, and_self, decide_true, Bool.not_true, Bool.false_eq_true, if_false, if_true]
      exact ⟨trivial, ha⟩
    · simp only [hg, decide_false, Bool.not_false, if_false, if_true]
      exact ⟨trivial, ⟨ha.size, ha.down, ha.fused, ha.fuse⟩⟩

theorem gone_down {k : Int} {i : Nat} {s : PS} (h : FuseOk k (i + 1) s) : s.down = decide (0 ≤ k ∧ k ≤ (i : Int)) := by
  rw [h.down]
  congr 1
  apply propext
  omega

theorem one_byte (j : Nat) (h : j < 256) : #[Value.int .u8 (j : Int)] = (bv [UInt8.ofNat j]).toArray := by
  have : (UInt8.ofNat j).toNat = j := by rw [ofNat_toNat]; omega
  unfold bv
  rw [List.map_cons, this]
  rfl

def FuseRel (W : World) (k : Int) (db : Nat) (i : Nat) (wr : World) : Prop := ∃ F s, Live W F wr db s ∧ FuseOk k i s

set_option maxRecDepth 20000 in
set_option maxHeartbeats 3200000 in
theorem loop_walk {W : World} (k : Int) (lo : -9223372036854775808 ≤ k) (hi : k ≤ 9223372036854775807) (acts : Int) (lo1 : -9223372036854775808 ≤ acts) (hi1 : acts ≤ 9223372036854775807) :
    Calls Try.prog 5 #[.int .i64 k, .int .i64 acts] W fun e W' => e = .returned (.bool true) ∧ Below W.heap.size W W' := by
  go_enter Try.func5, Try.ntmps5
  go_wp2_with fail
  refine (awake_any _).mono ?_
  rintro e w1 ⟨rfl, b1⟩
  have B1 := Lib.hid b1
  clear b1
  go_wp2_with fail
  refine (new_live (W := W) w1 4 (by omega) (by omega) B1.out).mono ?_
  rintro e w2 ⟨db, F2, rfl, hv2, -, -⟩
  have HV2 := Lib.hid hv2
  clear hv2 B1
  have hact : ∃ m : Nat, m < 50 ∧ ((acts < 0 ∧ -((acts + 1).tmod 50) = (m : Int)) ∨ (0 ≤ acts ∧ acts % 50 = (m : Int))) := by
    rcases Int.lt_or_le acts 0 with ha | ha
    · have h : -((acts + 1).tmod 50) = (-(acts + 1)) % 50 := by
        rw [← Int.neg_tmod, Int.tmod_eq_emod_of_nonneg (by omega)]
      exact ⟨((-(acts + 1)) % 50).toNat, by omega, Or.inl ⟨ha, by rw [h]; omega⟩⟩
    · exact ⟨(acts % 50).toNat, by omega, Or.inr ⟨ha, by omega⟩⟩
  obtain ⟨m, hm, hact⟩ := hact
  rcases hact with ⟨ha, hki⟩ | ⟨ha, hki⟩
  all_goals
    go_wp2_with fail
    (try rw [hki])
    clear hki ha
    refine (fuse_live (W := W) _ k lo hi HV2.out).mono ?_
    rintro e w3 ⟨rfl, F3, hv3, -⟩
    have HV3 := Lib.hid hv3
    clear hv3 HV2
    go_wp2_with fail
    go_loopw [8] (fun i wr => ∃ j : Nat, j ≤ m ∧ i = .int .i64 j ∧ FuseRel W k db j wr) (fun i _ => m - (RowKit.intOf i).toNat)
    case atStart => exact ⟨0, Nat.zero_le _, rfl, F3, _, HV3.out, fuse_start k⟩
    case round =>
      obtain ⟨j, hj, rfl, F, s, hv, hf⟩ := hrel
      have HV := Lib.hid hv
      have HF := Lib.hid hf
      clear hv hf
      by_cases hlt : j < m
      · by_cases hg : 0 ≤ k ∧ k ≤ (j : Int)
        · have eg : goneE k j = 40 := by unfold goneE; rw [if_pos hg]
          obtain ⟨hg1, hg2⟩ := hg
          by_cases h3 : 0 < (j : Int) % 3
          · have HCS : Hid (#[Value.int .u8 (j : Int)] = (bv [UInt8.ofNat j]).toArray) := one_byte j (by omega)
            go_wp2_with fail
            refine (write_live (W := W) _ ((j : Int) % 4) (by omega) (by omega) _ 1 1 [UInt8.ofNat j] rfl (HCS.out ▸ HV.out.out_new [UInt8.ofNat j] 5) (fun h => by cases h) (HV.out.alloc _)).mono ?_
            rintro e w4 ⟨rfl, F4, hv4, -⟩
            obtain ⟨h5, h6⟩ := fuse_write (l := [UInt8.ofNat j]) (n := (j : Int) % 4) HF.out (by omega) (by simp)
            rw [h5, eg]
            generalize s.written ((j : Int) % 4) [UInt8.ofNat j] = s4 at *
            have hdn : s4.down = true := by rw [gone_down h6, decide_eq_true_iff]; exact ⟨hg1, hg2⟩
            have HDN := Lib.hid hdn
            have HV4 := Lib.hid hv4
            have HF4 := Lib.hid h6
            clear hdn hv4 h6 h5 eg HV HF HCS
            go_wp2_with fail
            refine (down_any _ HV4.out.dk).mono ?_
            rintro e w' ⟨rfl, rfl⟩
            rw [HDN.out]
            go_wp2_with fail
            go_roundw
            case rel => exact ⟨j + 1, by omega, by go_num, F4, s4, HV4.out, HF4.out⟩
            case measure => simp [RowKit.intOf]; omega
          · go_wp2_with fail
            refine (flush_live (W := W) _ HV.out).mono ?_
            rintro e w4 ⟨rfl, F4, hv4, -⟩
            obtain ⟨h5, h6⟩ := fuse_flush HF.out
            rw [h5, eg]
            generalize s.flushed = s4 at *
            have hdn : s4.down = true := by rw [gone_down h6, decide_eq_true_iff]; exact ⟨hg1, hg2⟩
            have HDN := Lib.hid hdn
            have HV4 := Lib.hid hv4
            have HF4 := Lib.hid h6
            clear hdn hv4 h6 h5 eg HV HF
            go_wp2_with fail
            refine (down_any _ HV4.out.dk).mono ?_
            rintro e w' ⟨rfl, rfl⟩
            rw [HDN.out]
            go_wp2_with fail
            go_roundw
            case rel => exact ⟨j + 1, by omega, by go_num, F4, s4, HV4.out, HF4.out⟩
            case measure => simp [RowKit.intOf]; omega
        · have eg : goneE k j = 0 := by unfold goneE; rw [if_neg hg]
          by_cases h0 : 0 ≤ k
          · have h1 : (j : Int) < k := by omega
            by_cases h3 : 0 < (j : Int) % 3
            · have HCS : Hid (#[Value.int .u8 (j : Int)] = (bv [UInt8.ofNat j]).toArray) := one_byte j (by omega)
              go_wp2_with fail
              refine (write_live (W := W) _ ((j : Int) % 4) (by omega) (by omega) _ 1 1 [UInt8.ofNat j] rfl (HCS.out ▸ HV.out.out_new [UInt8.ofNat j] 5) (fun h => by cases h) (HV.out.alloc _)).mono ?_
              rintro e w4 ⟨rfl, F4, hv4, -⟩
              obtain ⟨h5, h6⟩ := fuse_write (l := [UInt8.ofNat j]) (n := (j : Int) % 4) HF.out (by omega) (by simp)
              rw [h5, eg]
              generalize s.written ((j : Int) % 4) [UInt8.ofNat j] = s4 at *
              have hdn : s4.down = false := by rw [gone_down h6, decide_eq_false_iff_not]; exact hg
              have HDN := Lib.hid hdn
              have HV4 := Lib.hid hv4
              have HF4 := Lib.hid h6
              clear hdn hv4 h6 h5 eg HV HF HCS
              go_wp2_with fail
              refine (down_any _ HV4.out.dk).mono ?_
              rintro e w' ⟨rfl, rfl⟩
              rw [HDN.out]
              go_wp2_with fail
              go_roundw
              case rel => exact ⟨j + 1, by omega, by go_num, F4, s4, HV4.out, HF4.out⟩
              case measure => simp [RowKit.intOf]; omega
            · go_wp2_with fail
              refine (flush_live (W := W) _ HV.out).mono ?_
              rintro e w4 ⟨rfl, F4, hv4, -⟩
              obtain ⟨h5, h6⟩ := fuse_flush HF.out
              rw [h5, eg]
              generalize s.flushed = s4 at *
              have hdn : s4.down = false := by rw [gone_down h6, decide_eq_false_iff_not]; exact hg
              have HDN := Lib.hid hdn
              have HV4 := Lib.hid hv4
              have HF4 := Lib.hid h6
              clear hdn hv4 h6 h5 eg HV HF
              go_wp2_with fail
              refine (down_any _ HV4.out.dk).mono ?_
              rintro e w' ⟨rfl, rfl⟩
              rw [HDN.out]
              go_wp2_with fail
              go_roundw
              case rel => exact ⟨j + 1, by omega, by go_num, F4, s4, HV4.out, HF4.out⟩
              case measure => simp [RowKit.intOf]; omega
          · by_cases h3 : 0 < (j : Int) % 3
            · have HCS : Hid (#[Value.int .u8 (j : Int)] = (bv [UInt8.ofNat j]).toArray) := one_byte j (by omega)
              go_wp2_with fail
              refine (write_live (W := W) _ ((j : Int) % 4) (by omega) (by omega) _ 1 1 [UInt8.ofNat j] rfl (HCS.out ▸ HV.out.out_new [UInt8.ofNat j] 5) (fun h => by cases h) (HV.out.alloc _)).mono ?_
              rintro e w4 ⟨rfl, F4, hv4, -⟩
              obtain ⟨h5, h6⟩ := fuse_write (l := [UInt8.ofNat j]) (n := (j : Int) % 4) HF.out (by omega) (by simp)
              rw [h5, eg]
              generalize s.written ((j : Int) % 4) [UInt8.ofNat j] = s4 at *
              have hdn : s4.down = false := by rw [gone_down h6, decide_eq_false_iff_not]; exact hg
              have HDN := Lib.hid hdn
              have HV4 := Lib.hid hv4
              have HF4 := Lib.hid h6
              clear hdn hv4 h6 h5 eg HV HF HCS
              go_wp2_with fail
              refine (down_any _ HV4.out.dk).mono ?_
              rintro e w' ⟨rfl, rfl⟩
              rw [HDN.out]
              go_wp2_with fail
              go_roundw
              case rel => exact ⟨j + 1, by omega, by go_num, F4, s4, HV4.out, HF4.out⟩
              case measure => simp [RowKit.intOf]; omega
            · go_wp2_with fail
              refine (flush_live (W := W) _ HV.out).mono ?_
              rintro e w4 ⟨rfl, F4, hv4, -⟩
              obtain ⟨h5, h6⟩ := fuse_flush HF.out
              rw [h5, eg]
              generalize s.flushed = s4 at *
              have hdn : s4.down = false := by rw [gone_down h6, decide_eq_false_iff_not]; exact hg
              have HDN := Lib.hid hdn
              have HV4 := Lib.hid hv4
              have HF4 := Lib.hid h6
              clear hdn hv4 h6 h5 eg HV HF
              go_wp2_with fail
              refine (down_any _ HV4.out.dk).mono ?_
              rintro e w' ⟨rfl, rfl⟩
              rw [HDN.out]
              go_wp2_with fail
              go_roundw
              case rel => exact ⟨j + 1, by omega, by go_num, F4, s4, HV4.out, HF4.out⟩
              case measure => simp [RowKit.intOf]; omega
      · go_wp2_with fail
        refine (restart_live (W := W) _ none 0 0 [] rfl (by omega) (Or.inl rfl) HV.out).mono ?_
        rintro e w4 ⟨rfl, F4, hv4, -⟩
        have HV4 := Lib.hid hv4
        clear hv4 HV HF
        go_wp2_with fail
        refine (down_any _ HV4.out.dk).mono ?_
        rintro e w' ⟨rfl, rfl⟩
        rw [show (s.restarted []).down = false from rfl]
        go_wp2_with fail
        refine (flush_live (W := W) _ HV4.out).mono ?_
        rintro e w5 ⟨rfl, F5, hv5, -⟩
        rw [show (s.restarted []).flushE = 0 from rfl]
        have HB := Lib.hid hv5.below
        clear hv5 HV4
        go_wp2_with fail
        go_ret
        exact ⟨rfl, HB.out⟩

set_option maxRecDepth 100000 in
theorem lifted (os : Os) (started : os.Started) (H : Type) (enc : TypeId × Value → H) :
    ReturnsInHanded {} Try.checked os 5 .any (Rows.diskFusesSpec.pre6 enc Try.prog Try.f5 Rows.diskFusesRow.domain false)
      (Rows.diskFusesSpec.post enc Try.prog Try.f5 false true false false) := by
  refine lift_law (C := Try.checked) (tb := 4) ownKnobs started (by kernel_rfl) Try.func5
    (ChangeSpec.witness6 (enc := enc) (C := Try.checked) false ⟨#[], #[.int .i64 0, .int .i64 0], []⟩ 8 (by kernel_rfl) (by kernel_rfl) (by kernel_rfl) (by kernel_rfl))
    laidOut ?_ rfl rfl Try.underlying4 ?_ ?_
  · intro t ht
    rw [Try.params5] at ht
    simp only [List.mem_cons, List.not_mem_nil, or_false] at ht
    rcases ht with rfl | rfl <;> exact ⟨by kernel_rfl, of_decide_eq_true (by kernel_rfl)⟩
  · intro vs ds W p hA
    rw [Try.params5] at hA
    obtain ⟨v0, vs0, d0, ds0, p0, q0, ha, rfl, rfl, h0, r0⟩ := trodAll_cons hA
    obtain ⟨v1, vs1, d1, ds1, p1, q1, rfl, rfl, rfl, h1, r1⟩ := trodAll_cons r0
    obtain ⟨rfl, rfl, rfl⟩ := trodAll_nil r1
    rfl
  · intro W base args ds p hval hA
    rw [Try.params5] at hA hval
    obtain ⟨v0, vs0, d0, ds0, p0, q0, ha, rfl, rfl, h0, r0⟩ := trodAll_cons hA
    obtain ⟨v1, vs1, d1, ds1, p1, q1, rfl, rfl, rfl, h1, r1⟩ := trodAll_cons r0
    obtain ⟨rfl, rfl, rfl⟩ := trodAll_nil r1
    obtain rfl : args = #[v0, v1] := by cases args; simp_all
    obtain ⟨i0, rfl, lo0, hi0⟩ := open_i64 (hval 0 _ v0 rfl rfl) h0
    obtain ⟨i1, rfl, lo1, hi1⟩ := open_i64 (hval 1 _ v1 rfl rfl) h1
    exact loop_walk i0 lo0 hi0 i1 lo1 hi1

/-- The statement. -/
theorem proved : Rows.DiskFusesSaid :=
  OpenClaim.holds_of_wide 5 Try.f5 rfl rfl rfl rfl rfl rfl rfl ⟨rfl, rfl, rfl, rfl, rfl⟩ rfl rfl rfl rfl rfl (by kernel_rfl) Try.func5 (by kernel_rfl)
    (of_decide_eq_true (by kernel_rfl)) (by unfold Func.isWrapper; first | (rw [if_pos (by decide +kernel)]; kernel_rfl) | (rw [if_neg (by decide +kernel)]; exact ⟨rfl, rfl⟩))
    (fun os started H enc _ => lifted os started H enc)
#print axioms proved
end Go.Proofs.Ytillllegbgaalaa.diskFuses
