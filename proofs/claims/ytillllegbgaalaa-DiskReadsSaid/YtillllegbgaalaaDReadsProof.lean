/-
  DiskReads answers true, for every script, every sector and every list of bytes: what was written is read, till it is written anew, or the power goes; and nothing is told without power. Conditions: none.
-/
import Derived.Test.YtillllegbgaalaaRows
import Derived.Test.YtillllegbgaalaaDAwake
import Derived.Test.YtillllegbgaalaaDDone
import Derived.Test.YtillllegbgaalaaSameB
namespace Go.Proofs.Ytillllegbgaalaa.diskReads
open Go.ChangeShapes Go.WideShapes Go.ChangeAt Go.RowKit

theorem up_of {s : PS} {n : Int} {l : List UInt8} (h : (s.written n l).down = false) : s.down = false ∧ (s.bad n l = true ∨ (s.bad n l = false ∧ s.may = true)) := by
  unfold PS.written at h
  by_cases hd : s.down = true
  · rw [if_pos hd, hd] at h
    cases h
  · rw [if_neg hd] at h
    refine ⟨by simpa using hd, ?_⟩
    by_cases hb : s.bad n l = true
    · exact Or.inl hb
    · rw [if_neg hb] at h
      refine Or.inr ⟨by simpa using hb, ?_⟩
      by_cases hm : s.may = true
      · exact hm
      · rw [if_neg hm] at h
        exfalso
        have hm' : s.may = false := by simpa using hm
        unfold PS.may at hm'
        simp at hm'
        unfold PS.acted at h
        rw [if_pos hm'.1, if_pos hm'.2] at h
        cases h

theorem bad_of {s : PS} {n : Int} {l : List UInt8} (h : (s.written n l).down = false) (hb : s.bad n l = true) : s.writeE n l = 41 := by
  obtain ⟨h1, _⟩ := up_of h
  unfold PS.writeE
  rw [h1, hb]
  rfl

theorem good_of {s : PS} {n : Int} {l : List UInt8} (h : (s.written n l).down = false) (hb : s.bad n l = false) : s.writeE n l = 0 ∧ (s.written n l).readE n = 0 ∧ (s.written n l).readB n = l := by
  obtain ⟨h1, h2⟩ := up_of h
  rcases h2 with h2 | ⟨_, h2⟩
  · rw [hb] at h2
    cases h2
  · have hh : s.has n = true := by
      unfold PS.bad at hb
      cases e : s.has n with
      | true => rfl
      | false => rw [e] at hb; cases hb
    have hd := h
    unfold PS.readE PS.readB
    rw [hd]
    unfold PS.writeE PS.written
    rw [h1, hb, h2]
    have e1 : (s.acted.lay n l).has n = true := by
      show s.acted.has n = true
      rw [PS.acted_has]
      exact hh
    have e2 : (s.acted.lay n l).held n = l := by
      unfold PS.held PS.lay
      simp
    simp only [Bool.false_eq_true, if_false, if_true, e1, e2]
    exact ⟨trivial, trivial, trivial⟩

theorem bad_iff {s : PS} {n : Int} {l : List UInt8} (h8 : s.size = 8) : s.bad n l = (decide (n < 0) || decide (7 < n) || decide (1024 < l.length)) := by
  unfold PS.bad PS.has
  rw [h8]
  congr 1
  by_cases h0 : n < 0
  · simp [h0]
  · by_cases h7 : 7 < n
    · simp [h7]
      omega
    · simp [h0, h7]
      omega

theorem down_of {s : PS} (h : s.down = true) (n : Int) (l : List UInt8) : s.readE n = 40 ∧ s.readB n = [] ∧ s.flushE = 40 ∧ s.flushed = s ∧ s.writeE n l = 40 := by
  unfold PS.readE PS.readB PS.flushE PS.flushed PS.writeE
  rw [h]
  exact ⟨rfl, rfl, rfl, rfl, rfl⟩

set_option maxRecDepth 20000 in
set_option maxHeartbeats 3200000 in
theorem walk {W : World} (A : Option Addr) (m cp : Nat) (cs : List Cl) (hl : cs.length = m) (hs : Script W W.heap.size A cs) (_ : m ≤ maxLen)
    (n : Int) (lo : -9223372036854775808 ≤ n) (hi : n ≤ 9223372036854775807) (B : Option Addr) (q c : Nat) (l : List UInt8) (hq : l.length = q) (hb : Bys W W.heap.size B l) (_ : q ≤ c) (_ : c ≤ maxLen) (hz : B = none → q = 0 ∧ c = 0) :
    Calls Try.prog 6 #[.slice A m cp, .int .i64 n, .slice B q c] W fun e W' => e = .returned (.bool true) ∧ Below W.heap.size W W' := by
  have HL := Lib.hid hl
  have HS := Lib.hid hs
  have HQ := Lib.hid hq
  have HB := Lib.hid hb
  have HZ := Lib.hid hz
  clear hl hs hq hb hz
  go_enter Try.func6, Try.ntmps6
  go_wp2_with fail
  refine (awake_any _).mono ?_
  rintro e w1 ⟨rfl, b1⟩
  have B1 := Lib.hid b1
  clear b1
  go_wp2_with fail
  refine (new_live (W := W) w1 8 (by omega) (by omega) B1.out).mono ?_
  rintro e w2 ⟨db, F2, rfl, hv2, -, -⟩
  have HV2 : Hid (DoneRel W db 8 w2) := ⟨F2, _, hv2, rfl⟩
  clear hv2 B1
  go_wp2_with fail
  refine (done_any (W := W) w2 db 8 A m cp cs HL.out HS.out HV2.out).mono ?_
  rintro e w3 ⟨rfl, F3, s, hv3, hs3⟩
  have HV3 := Lib.hid hv3
  have HS3 := Lib.hid hs3
  clear hv3 hs3 HV2
  go_wp2_with fail
  refine (write_live (W := W) w3 n lo hi B q c l HQ.out (Out.of_bys (HB.out.below HV3.out.below) HV3.out.base) HZ.out HV3.out).mono ?_
  rintro e w4 ⟨rfl, F4, hv4, -⟩
  have HV4 := Lib.hid hv4
  clear hv4 HV3
  go_wp2_with fail
  refine (read_live (W := W) w4 n lo hi HV4.out).mono ?_
  rintro e w5 ⟨A5, c5, rfl, ho5, hv5, -⟩
  have HV5 := Lib.hid hv5
  have HO5 := Lib.hid ho5
  clear hv5 ho5 HV4
  go_wp2_with fail
  refine (down_any _ HV5.out.dk).mono ?_
  rintro e w' ⟨rfl, rfl⟩
  cases hdn : (s.written n l).down with
  | true =>
    obtain ⟨e1, e2, e3, e4, e5⟩ := down_of hdn n l
    rw [e1, show ((s.written n l).readB n).length = 0 from by rw [e2]; rfl]
    have E3 := Lib.hid e3
    have E4 := Lib.hid e4
    have E5 := Lib.hid e5
    clear e1 e2 e3 e4 e5 hdn HO5
    go_wp2_with fail
    refine (flush_live (W := W) w5 HV5.out).mono ?_
    rintro e w6 ⟨rfl, F6, hv6, -⟩
    rw [E4.out] at hv6
    rw [E3.out]
    have HV6 := Lib.hid hv6
    clear hv6 HV5 E3
    go_wp2_with fail
    refine (write_live (W := W) w6 n lo hi B q c l HQ.out (Out.of_bys (HB.out.below HV6.out.below) HV6.out.base) HZ.out HV6.out).mono ?_
    rintro e w7 ⟨rfl, F7, hv7, -⟩
    rw [E5.out]
    have HB7 := Lib.hid hv7.below
    clear hv7 HV6 E4 E5
    go_wp2_with fail
    go_ret
    exact ⟨rfl, HB7.out⟩
  | false =>
    have hbi := bad_iff (n := n) (l := l) HS3.out
    rw [HQ.out] at hbi
    cases hbad : s.bad n l with
    | true =>
      have e1 := bad_of hdn hbad
      rw [e1]
      rw [hbad] at hbi
      have hcase : n < 0 ∨ 7 < n ∨ 1024 < q := by simpa [or_assoc] using hbi.symm
      clear hbi hbad e1 hdn
      have HB5 := Lib.hid HV5.out.below
      clear HO5 HV5
      by_cases h0 : n < 0
      · go_wp2_with fail
        go_ret
        exact ⟨rfl, HB5.out⟩
      · by_cases h7 : 7 < n
        · go_wp2_with fail
          go_ret
          exact ⟨rfl, HB5.out⟩
        · have hq1 : 1024 < q := by omega
          clear hcase
          go_wp2_with fail
          go_ret
          exact ⟨rfl, HB5.out⟩
    | false =>
      obtain ⟨e1, e2, e3⟩ := good_of hdn hbad
      rw [e1, e2]
      rw [hbad] at hbi
      have hcase : ¬ n < 0 ∧ ¬ 7 < n ∧ ¬ 1024 < q := by
        have := hbi.symm
        simp at this
        omega
      obtain ⟨h0, h7, hq1⟩ := hcase
      have ho := HO5.out
      rw [e3] at ho ⊢
      rw [HQ.out]
      have HSB : Hid (Calls Try.prog 20 #[.slice A5 q c5, .slice B q c] w5 fun e w' => e = .returned (.bool (l == l)) ∧ w5 = w') := sameB_any ho.bys (HB.out.below HV5.out.below) q c5 q c HQ.out HQ.out
      have HB5 := Lib.hid HV5.out.below
      clear hbi hbad e1 e2 e3 hdn HO5 ho HV5
      go_wp2_with fail
      refine HSB.out.mono ?_
      rintro e w' ⟨rfl, rfl⟩
      rw [show (l == l) = true from by simp]
      go_wp2_with fail
      go_ret
      exact ⟨rfl, HB5.out⟩

set_option maxRecDepth 100000 in
theorem lifted (os : Os) (started : os.Started) (H : Type) (enc : TypeId × Value → H) :
    ReturnsInHanded {} Try.checked os 6 .any (Rows.diskReadsSpec.pre6 enc Try.prog Try.f6 Rows.diskReadsRow.domain false)
      (Rows.diskReadsSpec.post enc Try.prog Try.f6 false true false false) := by
  refine lift_law (C := Try.checked) (tb := 4) ownKnobs started (by kernel_rfl) Try.func6
    (ChangeSpec.witness6 (enc := enc) (C := Try.checked) false ⟨#[], #[.slice none 0 0, .int .i64 0, .slice none 0 0], []⟩ 8 (by kernel_rfl) (by kernel_rfl) (by kernel_rfl) (by kernel_rfl))
    laidOut ?_ rfl rfl Try.underlying4 ?_ ?_
  · intro t ht
    rw [Try.params6] at ht
    simp only [List.mem_cons, List.not_mem_nil, or_false] at ht
    rcases ht with rfl | rfl | rfl <;> exact ⟨by kernel_rfl, of_decide_eq_true (by kernel_rfl)⟩
  · intro vs ds W p hA
    rw [Try.params6] at hA
    obtain ⟨v0, vs0, d0, ds0, p0, q0, ha, rfl, rfl, h0, r0⟩ := trodAll_cons hA
    obtain ⟨v1, vs1, d1, ds1, p1, q1, rfl, rfl, rfl, h1, r1⟩ := trodAll_cons r0
    obtain ⟨v2, vs2, d2, ds2, p2, q2, rfl, rfl, rfl, h2, r2⟩ := trodAll_cons r1
    obtain ⟨rfl, rfl, rfl⟩ := trodAll_nil r2
    rfl
  · intro W base args ds p hval hA
    rw [Try.params6] at hA hval
    obtain ⟨v0, vs0, d0, ds0, p0, q0, ha, rfl, rfl, h0, r0⟩ := trodAll_cons hA
    obtain ⟨v1, vs1, d1, ds1, p1, q1, rfl, rfl, rfl, h1, r1⟩ := trodAll_cons r0
    obtain ⟨v2, vs2, d2, ds2, p2, q2, rfl, rfl, rfl, h2, r2⟩ := trodAll_cons r1
    obtain ⟨rfl, rfl, rfl⟩ := trodAll_nil r2
    obtain rfl : args = #[v0, v1, v2] := by cases args; simp_all
    obtain ⟨A0, n0, c0, xs0, rfl, e0, hr0, y0⟩ := open_calls (hval 0 _ v0 rfl rfl) h0
    obtain ⟨i1, rfl, lo1, hi1⟩ := open_i64 (hval 1 _ v1 rfl rfl) h1
    obtain ⟨A2, n2, c2, xs2, rfl, e2, hr2, y2, z2, o2⟩ := open_bytesz (hval 2 _ v2 rfl rfl) h2
    exact walk A0 n0 c0 xs0 e0 hr0 y0 i1 lo1 hi1 A2 n2 c2 xs2 e2 hr2 y2 z2 o2

/-- The statement. -/
theorem proved : Rows.DiskReadsSaid :=
  OpenClaim.holds_of_wide 6 Try.f6 rfl rfl rfl rfl rfl rfl rfl ⟨rfl, rfl, rfl, rfl, rfl⟩ rfl rfl rfl rfl rfl (by kernel_rfl) Try.func6 (by kernel_rfl)
    (of_decide_eq_true (by kernel_rfl)) (by unfold Func.isWrapper; first | (rw [if_pos (by decide +kernel)]; kernel_rfl) | (rw [if_neg (by decide +kernel)]; exact ⟨rfl, rfl⟩))
    (fun os started H enc _ => lifted os started H enc)
#print axioms proved
end Go.Proofs.Ytillllegbgaalaa.diskReads
