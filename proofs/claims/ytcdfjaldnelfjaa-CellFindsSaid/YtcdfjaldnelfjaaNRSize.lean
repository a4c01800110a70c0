/-
  What the document's own Size, four and text come to (package tailraceref10).
-/
import Derived.Test.YtcdfjaldnelfjaaNSize
import Derived.Deep.Cut
namespace Go.Proofs.Ytcdfjaldnelfjaa
open Go.RowKit

set_option maxRecDepth 20000 in
set_option maxHeartbeats 3200000 in
theorem rsize_any (lf : Bool) (A : Option Addr) (n c : Nat) (B : Option Addr) (m d : Nat) (C : Option Addr) (k e : Nat) (s : ND) (w : World) (h : Nd w A n c B m d C k e s) (hz : s.size ≤ 1000000000) :
    Calls Try.prog 38 #[.agg #[.bool lf, .slice A n c, .slice B m d, .slice C k e]] w fun e w' => e = .returned (.int .i64 ((s.size : Nat) : Int)) ∧ Below w.heap.size w w' := by
  have HB := Lib.hid (nbox_new w (.bool lf) (.slice A n c) (.slice B m d) (.slice C k e))
  have b1 := below_one w (.cells #[.bool lf, .slice A n c, .slice B m d, .slice C k e] 25)
  have B1 := Lib.hid b1
  have H1 := Lib.hid (h.kept b1)
  have hs : s.size = 2 + (n + ND.tsl s.keys) + (m + ND.tsl s.vals) + 4 * k := by rw [← h.cn, ← h.kn, ← h.vn]; rfl
  have HS := Lib.hid hs
  have HN := Lib.hid h.kn
  have HM := Lib.hid h.vn
  have hT1 := tsl_take_le s.keys
  have hT2 := tsl_take_le s.vals
  have HT1 := Lib.hid hT1
  have HT2 := Lib.hid hT2
  have hz2 : 2 + (n + ND.tsl s.keys) + (m + ND.tsl s.vals) + 4 * k ≤ 1000000000 := by omega
  obtain ⟨p, hp⟩ : ∃ p, ND.tsl s.keys = p := ⟨_, rfl⟩
  obtain ⟨q, hq⟩ : ∃ q, ND.tsl s.vals = q := ⟨_, rfl⟩
  rw [hp, hq] at HS hz2
  rw [hp] at HT1
  rw [hq] at HT2
  have HP := Lib.hid hp
  have HQ := Lib.hid hq
  clear b1 h hs hT1 hT2 hz hp hq
  go_enter Try.func38, Try.ntmps38
  go_upto_region 1 with fail
  generalize w.alloc (.cells #[.bool lf, .slice A n c, .slice B m d, .slice C k e] 25) = w1 at *
  obtain ⟨c0, c1, c2, c3⟩ := HB.out.cells
  go_wp2_with fail
  go_loop [3, 4] (fun s3 i => ∃ j x : Nat, j ≤ n ∧ i = .int .i64 j ∧ s3 = .int .i64 x ∧ Hid (x = 2 + 4 * k + j + ND.tsl (s.keys.take j)) ∧ x ≤ 2 + 4 * k + j + p) (fun _ i => n - (intOf i).toNat)
  case atStart => exact ⟨0, 2 + 4 * k, Nat.zero_le _, rfl, by go_num, Lib.hid (by simp [ND.tsl]), by omega⟩
  case round =>
    obtain ⟨j, x, hj, rfl, rfl, HX, hx⟩ := hrel
    by_cases hlt : j < n
    · obtain ⟨b, off, t, rfl, hv, f0⟩ := H1.out.ke.strAt hlt
      have HN1 := Lib.hid (tsl_take hv)
      have hle := HT1.out (j + 1)
      have hq2 : x + 1 + t.size ≤ 2 + 4 * k + (j + 1) + p := by have := HX.out; rw [HN1.out, toList_length] at hle; omega
      clear hv hle
      go_wp2_with fail
      go_round
      case rel => exact ⟨j + 1, x + 1 + t.size, by omega, by go_num, by go_num, Lib.hid (by rw [HN1.out, HX.out, toList_length]; omega), hq2⟩
      case measure => simp [intOf]; omega
    · obtain rfl : n = j := by omega
      have HX2 : Hid (x = 2 + 4 * k + n + p) := Lib.hid (by rw [HX.out, List.take_of_length_le (by rw [HN.out]; omega), HP.out])
      go_wp2_with fail
      go_loop [3, 5] (fun s3 i => ∃ j y : Nat, j ≤ m ∧ i = .int .i64 j ∧ s3 = .int .i64 y ∧ Hid (y = x + j + ND.tsl (s.vals.take j)) ∧ y ≤ 2 + 4 * k + n + p + j + q) (fun _ i => m - (intOf i).toNat)
      case atStart => exact ⟨0, x, Nat.zero_le _, rfl, rfl, Lib.hid (by simp [ND.tsl]), by have := HX2.out; omega⟩
      case round =>
        obtain ⟨j, y, hj2, rfl, rfl, HY, hy⟩ := hrel
        by_cases hlt : j < m
        · obtain ⟨b, off, t, rfl, hv, f0⟩ := H1.out.va.strAt hlt
          have HN1 := Lib.hid (tsl_take hv)
          have hle := HT2.out (j + 1)
          have hq2 : y + 1 + t.size ≤ 2 + 4 * k + n + p + (j + 1) + q := by have := HY.out; have := HX2.out; rw [HN1.out, toList_length] at hle; omega
          clear hv hle
          go_wp2_with fail
          go_round
          case rel => exact ⟨j + 1, y + 1 + t.size, by omega, by go_num, by go_num, Lib.hid (by rw [HN1.out, HY.out, toList_length]; omega), hq2⟩
          case measure => simp [intOf]; omega
        · obtain rfl : m = j := by omega
          go_wp2_with fail
          go_ret
          refine ⟨ret_int ?_, B1.out⟩
          have e1 := HY.out
          rw [List.take_of_length_le (by rw [HM.out]; omega), HQ.out] at e1
          have e2 := HX2.out
          rw [HS.out]
          omega
end Go.Proofs.Ytcdfjaldnelfjaa
