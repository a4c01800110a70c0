/-
  FrameCounts answers true, for every list of numbers and every list of bytes: numbers that may be are read as they were laid, and bytes that are numbers are laid as they were read. Conditions: none.
-/
import Derived.Test.YtpihblbpmmdmmaaRows
import Derived.Test.YtpihblbpmmdmmaaFAwake
import Derived.Test.YtpihblbpmmdmmaaFRead
import Derived.Test.YtpihblbpmmdmmaaRefInts
import Derived.Test.YtpihblbpmmdmmaaOpenB
import Derived.Test.YtpihblbpmmdmmaaOpenNums
import Derived.Deep.RegionWith
namespace Go.Proofs.Ytpihblbpmmdmmaa.frameCounts
open Go.ChangeShapes Go.WideShapes Go.ChangeAt Go.RowKit

/-- Numbers that may be. -/
def fineB (zs : List Int) : Bool := zs.all (fun z => decide (0 ≤ z) && decide (z ≤ 2147483647))
theorem fineB_take {zs : List Int} {k : Nat} {z : Int} (h : zs[k]? = some z) : fineB (zs.take (k + 1)) = (fineB (zs.take k) && (decide (0 ≤ z) && decide (z ≤ 2147483647))) := by
  unfold fineB
  rw [List.take_add_one, h, Option.toList_some, List.all_append]
  simp
theorem fine_read {zs : List Int} (h : fineB zs = true) : rdL (numB zs) = zs ∧ rdE (numB zs) = 0 := by
  have h1 : rd (numB zs) = some zs := rd_numB zs (fun z hz => by
    have := List.all_eq_true.1 h z hz
    simpa using this)
  rw [rdL, rdE, h1]
  exact ⟨rfl, rfl⟩
theorem read_cases (b : List UInt8) : (rdE b = 0 ∧ numB (rdL b) = b) ∨ (rdE b = 50 ∧ (rdL b).length = 0) := by
  unfold rdE rdL
  cases h : rd b with
  | none => exact Or.inr ⟨rfl, rfl⟩
  | some ys => exact Or.inl ⟨rfl, numB_rd b ys h⟩
theorem rdL_length (b : List UInt8) : (rdL b).length ≤ b.length := by
  unfold rdL
  cases h : rd b with
  | none => simp
  | some ys => have := rd_length h; simp; omega

/-- Bytes in memory, as a text. -/
structure Txt (w : World) (A : Option Addr) (n c : Nat) (l : List UInt8) : Prop where
  len : l.length = n
  bys : Bys w w.heap.size A l

theorem Txt.below {w w' : World} {A : Option Addr} {n c : Nat} {l : List UInt8} (h : Txt w A n c l) (hb : Below w.heap.size w w') : Txt w' A n c l := ⟨h.len, (h.bys.kept hb).more hb.size⟩
theorem Txt.text {w : World} {A : Option Addr} {n c : Nat} {l : List UInt8} (h : Txt w A n c l) : (convert 23 9 (.slice A n c)).run Try.prog w = .ok (.string ⟨l.toArray⟩) w :=
  run_text (P := Try.prog) h.bys 23 9 5 n c h.len Try.underlying23 Try.underlying5 Try.underlying9
theorem own_any {w : World} {base : Nat} {v : Value} {l : List UInt8} (h : Own w base v l) : ∃ A c, v = .slice A l.length c ∧ Hid (Txt w A l.length c l) := by
  obtain ⟨A, c, rfl, _, _, _, r⟩ := Bys.of_own h
  exact ⟨A, c, rfl, rfl, r⟩

set_option maxHeartbeats 12800000 in
theorem walk {W : World} (A : Option Addr) (n c : Nat) (zs : List Int) (hn : zs.length = n) (hz : Ints W A zs)
    (B : Option Addr) (m d : Nat) (l : List UInt8) (hl : l.length = m) (hr : Bys W W.heap.size B l) (hmd : m ≤ d) (_ : d ≤ maxLen) (_ : B = none → m = 0 ∧ d = 0) :
    Calls Try.prog 9 #[.slice A n c, .slice B m d] W fun e W' => e = .returned (.bool true) ∧ Below W.heap.size W W' := by
  have HZ := Lib.hid hz
  have HN := Lib.hid hn
  have HL := Lib.hid hl
  clear hz hn hl
  go_enter Try.func9, Try.ntmps9
  go_wp2_with fail
  refine (awake_any _).mono ?_
  rintro e w1 ⟨rfl, b1⟩
  have h1 := Lib.hid (hr.kept b1)
  have B1 : Hid (Below W.heap.size W w1) := b1
  clear hr b1
  by_cases hn3 : n ≤ 300
  · by_cases hm2 : m ≤ 2000
    · have Z1 := Lib.hid (HZ.out.below B1.out)
      clear HZ
      go_wp2_with fail
      go_loopw [6, 7] (fun f i wr => ∃ k : Nat, k ≤ n ∧ i = .int .i64 k ∧ f = .bool (fineB (zs.take k)) ∧ wr = w1) (fun _ i _ => n - (intOf i).toNat)
      case atStart => exact ⟨0, by omega, rfl, rfl, rfl⟩
      case round =>
        obtain ⟨k, hk, rfl, rfl, rfl⟩ := hrel
        by_cases hlt : k < n
        · obtain ⟨b, off, z, rfl, hv, c0⟩ := Z1.out.at_ (k := k) (by rw [HN.out]; exact hlt)
          have HF := Lib.hid (fineB_take hv)
          clear hv
          cases hf : fineB (zs.take k) with
          | false =>
            rw [hf] at HF
            clear hf
            go_wp2_with fail
            refine ⟨⟨k + 1, by omega, by go_num, ?_, trivial⟩, by simp [intOf]; omega⟩
            rw [HF.out]
            rfl
          | true =>
            rw [hf] at HF
            clear hf
            by_cases hz0 : 0 ≤ z
            · by_cases hz1 : z ≤ 2147483647
              · go_wp2_with fail
                refine ⟨⟨k + 1, by omega, by go_num, ?_, trivial⟩, by simp [intOf]; omega⟩
                rw [HF.out]
                simp [hz0, hz1]
              · go_wp2_with fail
                refine ⟨⟨k + 1, by omega, by go_num, ?_, trivial⟩, by simp [intOf]; omega⟩
                rw [HF.out]
                simp [hz1]
            · go_wp2_with fail
              refine ⟨⟨k + 1, by omega, by go_num, ?_, trivial⟩, by simp [intOf]; omega⟩
              rw [HF.out]
              simp [hz0]
        · obtain rfl : k = n := by omega
          rw [List.take_of_length_le (by rw [HN.out]; omega)]
          go_wp2_with fail
          refine (numbers_n A k c zs _ Z1.out HN.out (by omega)).mono ?_
          rintro e w2 ⟨v2, rfl, o2, b2⟩
          have h2 := Lib.hid (h1.out.kept b2)
          have Z2 := Lib.hid (Z1.out.below b2)
          have B2 : Hid (Below W.heap.size W _) := B1.out.trans (b2.mono B1.out.size)
          obtain ⟨A2, c2, rfl, e2, hc2, _, r2⟩ := Bys.of_own o2
          have hB : (numB zs).length ≤ 1200 := by rw [numB_length, HN.out]; omega
          clear h1 Z1 B1 b2 o2 e2
          go_wp2_with fail
          refine (read_any A2 (numB zs).length c2 (numB zs) _ rfl r2 hc2 (by omega)).mono ?_
          rintro e w3 ⟨v3, rfl, o3, b3⟩
          have h3 := Lib.hid (h2.out.kept b3)
          have Z3 := Lib.hid (Z2.out.below b3)
          have B3 : Hid (Below W.heap.size W w3) := B2.out.trans (b3.mono B2.out.size)
          obtain ⟨A3, c3, rfl, i3⟩ := ints_of_own o3
          have I3 := Lib.hid i3
          have hX : (rdL (numB zs)).length ≤ 1200 := Nat.le_trans (rdL_length _) hB
          have HFR := Lib.hid (fun h => fine_read (zs := zs) h)
          clear h2 Z2 B2 b3 o3 i3 r2 hc2 hB
          generalize rdL (numB zs) = X at *
          generalize rdE (numB zs) = E at *
          generalize (numB zs).length = NB at *
          obtain ⟨M, hM⟩ : ∃ M, X.length = M := ⟨_, rfl⟩
          rw [hM] at hX ⊢
          have HM := Lib.hid hM
          clear hM
          go_wp2_with fail
          refine (refInts_n A3 A M k c3 c X zs _ I3.out Z3.out HM.out HN.out (by omega)).mono ?_
          rintro e w4 ⟨rfl, b4⟩
          have B4 : Hid (Below W.heap.size W w4) := B3.out.trans (b4.mono B3.out.size)
          have h4 := Lib.hid (h3.out.kept b4)
          clear B3 b4 I3 h3 Z3
          have hcase : (fineB zs = false ∨ (fineB zs = true ∧ decide (X = zs) = true ∧ E = 0)) := by
            cases h : fineB zs with
            | false => exact Or.inl rfl
            | true =>
              obtain ⟨e1, e2⟩ := HFR.out h
              exact Or.inr ⟨rfl, decide_eq_true e1, e2⟩
          generalize decide (X = zs) = q at *
          generalize fineB zs = ff at *
          clear HFR HM hX HN
          rcases hcase with rfl | ⟨rfl, rfl, rfl⟩
          all_goals
            go_wp2_with fail
            refine (read_any B m d l _ HL.out h4.out hmd (by omega)).mono ?_
            rintro e w5 ⟨v5, rfl, o5, b5⟩
            have B5 : Hid (Below W.heap.size W w5) := B4.out.trans (b5.mono B4.out.size)
            have h5 := Lib.hid (h4.out.kept b5)
            obtain ⟨A5, c5, rfl, i5⟩ := ints_of_own o5
            have I5 := Lib.hid i5
            have hY : (rdL l).length ≤ 2000 := Nat.le_trans (rdL_length _) (by rw [HL.out]; exact hm2)
            have HRC := Lib.hid (read_cases l)
            clear b5 o5 i5 h4 B4
            generalize rdL l = Y at *
            generalize rdE l = E2 at *
            obtain ⟨M2, hM2⟩ : ∃ M2, Y.length = M2 := ⟨_, rfl⟩
            rw [hM2] at hY HRC ⊢
            have HM2 := Lib.hid hM2
            clear hM2
            rcases HRC.out with ⟨rfl, hback⟩ | ⟨rfl, rfl⟩
            · have T5 : Hid (Txt w5.drew B m d l) := ⟨HL.out, h5.out.more (by have := B5.out.size; exact this)⟩
              have t5 := T5.out.text
              have HC := Lib.hid (numbers_n A5 M2 c5 Y w5.drew I5.out HM2.out (by omega))
              rw [hback] at HC
              clear hback HRC HM2 hY I5 h5
              go_wp2_with fail
              clear hn3 hm2
              go_region_with (go_at_call 19; refine HC.out.mono ?_; rintro e w6 ⟨v6, rfl, o6, b6⟩; obtain ⟨A6, c6, rfl, r6⟩ := own_any o6; have t6 := r6.out.text; have t7 := (T5.out.below b6).text; have B6 : Hid (Below W.heap.size W w6) := B5.out.drew.trans (b6.mono B5.out.size); clear o6 b6)
              all_goals (go_wp2_with fail; go_ret; exact ⟨rfl, B6.out⟩)
            · go_wp2_with fail
              go_ret
              exact ⟨rfl, B5.out⟩
    · go_wp2_with fail
      go_ret
      exact ⟨rfl, B1.out⟩
  · go_wp2_with fail
    go_ret
    exact ⟨rfl, B1.out⟩

set_option maxRecDepth 100000 in
theorem lifted (os : Os) (started : os.Started) (H : Type) (enc : TypeId × Value → H) :
    ReturnsInHanded {} Try.checked os 9 .any (Rows.frameCountsSpec.pre6 enc Try.prog Try.f9 Rows.frameCountsRow.domain false)
      (Rows.frameCountsSpec.post enc Try.prog Try.f9 false true false false) := by
  refine lift_law (C := Try.checked) (tb := 4) ownKnobs started (by kernel_rfl) Try.func9
    (ChangeSpec.witness6 (enc := enc) (C := Try.checked) false ⟨#[], #[.slice none 0 0, .slice none 0 0], []⟩ 8 (by kernel_rfl) (by kernel_rfl) (by kernel_rfl) (by kernel_rfl))
    laidOut ?_ rfl rfl Try.underlying4 ?_ ?_
  · intro t ht
    rw [Try.params9] at ht
    simp only [List.mem_cons, List.not_mem_nil, or_false] at ht
    rcases ht with rfl | rfl <;> exact ⟨by kernel_rfl, of_decide_eq_true (by kernel_rfl)⟩
  · intro vs ds W p hA
    rw [Try.params9] at hA
    obtain ⟨v0, vs0, d0, ds0, p0, q0, ha, rfl, rfl, h0, r0⟩ := trodAll_cons hA
    obtain ⟨v1, vs1, d1, ds1, p1, q1, rfl, rfl, rfl, h1, r1⟩ := trodAll_cons r0
    obtain ⟨rfl, rfl, rfl⟩ := trodAll_nil r1
    rfl
  · intro W base args ds p hval hA
    rw [Try.params9] at hA hval
    obtain ⟨v0, vs0, d0, ds0, p0, q0, ha, rfl, rfl, h0, r0⟩ := trodAll_cons hA
    obtain ⟨v1, vs1, d1, ds1, p1, q1, rfl, rfl, rfl, h1, r1⟩ := trodAll_cons r0
    obtain ⟨rfl, rfl, rfl⟩ := trodAll_nil r1
    obtain rfl : args = #[v0, v1] := by cases args; simp_all
    obtain ⟨A0, n0, c0, xs0, rfl, e0, hr0⟩ := open_nums (hval 0 _ v0 rfl rfl) h0
    obtain ⟨A1, n1, c1, xs1, rfl, e1, hr1, y1, z1, o1⟩ := open_bytesz (hval 1 _ v1 rfl rfl) h1
    exact walk A0 n0 c0 xs0 e0 hr0 A1 n1 c1 xs1 e1 hr1 y1 z1 o1

/-- The statement. -/
theorem proved : Rows.FrameCountsSaid :=
  OpenClaim.holds_of_wide 9 Try.f9 rfl rfl rfl rfl rfl rfl rfl ⟨rfl, rfl, rfl, rfl, rfl⟩ rfl rfl rfl rfl rfl (by kernel_rfl) Try.func9 (by kernel_rfl)
    (of_decide_eq_true (by kernel_rfl)) (by unfold Func.isWrapper; first | (rw [if_pos (by decide +kernel)]; kernel_rfl) | (rw [if_neg (by decide +kernel)]; exact ⟨rfl, rfl⟩))
    (fun os started H enc _ => lifted os started H enc)
#print axioms proved
end Go.Proofs.Ytpihblbpmmdmmaa.frameCounts
