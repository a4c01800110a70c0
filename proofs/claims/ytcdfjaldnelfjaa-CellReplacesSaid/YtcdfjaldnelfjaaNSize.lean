/-
  What node's textsSize and Size come to.
-/
import Derived.Test.YtcdfjaldnelfjaaNMem
import Derived.Deep.QuietTactic
import Derived.BigQuiet
import Derived.IntWalk
namespace Go.Proofs.Ytcdfjaldnelfjaa
open Go.RowKit

theorem tsl_take {l : List (List UInt8)} {k : Nat} {t : List UInt8} (h : l[k]? = some t) : ND.tsl (l.take (k + 1)) = ND.tsl (l.take k) + t.length := by
  rw [List.take_add_one, h, Option.toList_some, ND.tsl_append]
  simp [ND.tsl]
theorem tsl_take_le (l : List (List UInt8)) (k : Nat) : ND.tsl (l.take k) ≤ ND.tsl l := by
  conv => rhs; rw [← List.take_append_drop k l]
  rw [ND.tsl_append]
  omega

set_option maxHeartbeats 1600000 in
theorem textsSize_any (A : Option Addr) (n c : Nat) (l : List (List UInt8)) (w : World) (h : Ln w 1 A n c (strVals l)) (hz : ND.tsz l ≤ 1000000000) :
    Calls Try.prog 54 #[.slice A n c] w fun e w' => e = .returned (.int .i64 ((ND.tsz l : Nat) : Int)) ∧ w = w' := by
  have HN := Lib.hid h.strN
  have hn : n ≤ 1000000000 := by have := h.strN; unfold ND.tsz at hz; omega
  have hts : ND.tsl l ≤ 1000000000 - n := by have := h.strN; unfold ND.tsz at hz; omega
  clear hz
  go_enter Try.func54, Try.ntmps54
  go_wp2_with fail
  go_loop [3, 11] (fun s i => ∃ k q : Nat, k ≤ n ∧ i = .int .i64 k ∧ s = .int .i64 q ∧ Hid (q = n + ND.tsl (l.take k)) ∧ q ≤ n + ND.tsl l) (fun _ i => n - (intOf i).toNat)
  case atStart => exact ⟨0, n, Nat.zero_le _, rfl, rfl, Lib.hid (by simp [ND.tsl]), by omega⟩
  case round =>
    obtain ⟨k, q, hk, rfl, rfl, HQ, hq⟩ := hrel
    by_cases hlt : k < n
    · obtain ⟨b, off, s, rfl, hv, c0⟩ := h.strAt hlt
      have HT := Lib.hid (tsl_take hv)
      have hle := tsl_take_le l (k + 1)
      have hq2 : q + s.size ≤ n + ND.tsl l := by rw [HQ.out]; rw [HT.out, toList_length] at hle; omega
      clear hv hle
      go_wp2_with fail
      go_round
      case rel => exact ⟨k + 1, q + s.size, by omega, by go_num, by go_num, Lib.hid (by rw [HT.out, HQ.out, toList_length]; omega), hq2⟩
      case measure => simp [intOf]; omega
    · obtain rfl : n = k := by omega
      go_wp2_with fail
      go_ret
      refine ⟨ret_int ?_, rfl⟩
      rw [HQ.out, List.take_of_length_le (by rw [HN.out]; omega)]
      unfold ND.tsz
      rw [HN.out]

set_option maxRecDepth 20000 in
set_option maxHeartbeats 1600000 in
theorem nsize_any (lf : Bool) (A : Option Addr) (n c : Nat) (B : Option Addr) (m d : Nat) (C : Option Addr) (k e : Nat) (s : ND) (w : World) (h : Nd w A n c B m d C k e s) (hz : s.size ≤ 1000000000) :
    Calls Try.prog 33 #[.agg #[.bool lf, .slice A n c, .slice B m d, .slice C k e]] w fun e w' => e = .returned (.int .i64 ((s.size : Nat) : Int)) ∧ Below w.heap.size w w' := by
  have HB := Lib.hid (nbox_new w (.bool lf) (.slice A n c) (.slice B m d) (.slice C k e))
  have b1 := below_one w (.cells #[.bool lf, .slice A n c, .slice B m d, .slice C k e] 25)
  have B1 := Lib.hid b1
  have H1 := Lib.hid (h.kept b1)
  have hs : s.size = 2 + ND.tsz s.keys + ND.tsz s.vals + 4 * k := by rw [← h.cn]; rfl
  have HS := Lib.hid hs
  clear b1
  go_enter Try.func33, Try.ntmps33
  go_wp2_with fail
  generalize w.alloc (.cells #[.bool lf, .slice A n c, .slice B m d, .slice C k e] 25) = w1 at *
  obtain ⟨c0, c1, c2, c3⟩ := HB.out.cells
  obtain ⟨p, hp⟩ : ∃ p, ND.tsz s.keys = p := ⟨_, rfl⟩
  obtain ⟨q, hq⟩ : ∃ q, ND.tsz s.vals = q := ⟨_, rfl⟩
  have K : Hid (∀ nn, Calls Try.prog 54 #[.slice A n c] (w1.drewN nn) fun e w' => e = .returned (.int .i64 (p : Int)) ∧ w' = w1.drewN nn) := Lib.hid (by
    intro nn
    have := textsSize_any A n c s.keys (w1.drewN nn) (H1.out.ke.same rfl) (by omega)
    rw [hp] at this
    exact this.mono fun _ _ h => ⟨h.1, h.2.symm⟩)
  have V : Hid (∀ nn, Calls Try.prog 54 #[.slice B m d] (w1.drewN nn) fun e w' => e = .returned (.int .i64 (q : Int)) ∧ w' = w1.drewN nn) := Lib.hid (by
    intro nn
    have := textsSize_any B m d s.vals (w1.drewN nn) (H1.out.va.same rfl) (by omega)
    rw [hq] at this
    exact this.mono fun _ _ h => ⟨h.1, h.2.symm⟩)
  rw [hp, hq] at hs HS
  have e1 : IntKind.i64.wrap (2 + (p : Int)) = 2 + (p : Int) := IntWalk.i64_in _ (by omega)
  have e2 : IntKind.i64.wrap (2 + (p : Int) + (q : Int)) = 2 + (p : Int) + (q : Int) := IntWalk.i64_in _ (by omega)
  have e3 : IntKind.i64.wrap (4 * (k : Int)) = 4 * (k : Int) := IntWalk.i64_in _ (by omega)
  have e4 : IntKind.i64.wrap (2 + (p : Int) + (q : Int) + 4 * (k : Int)) = 2 + (p : Int) + (q : Int) + 4 * (k : Int) := IntWalk.i64_in _ (by omega)
  clear hs hp hq h hz H1
  go_quiet ((first | (go_at_call 54; with_reducible exact Calls.quiet_of_same (K.out _)) | (go_at_call 54; with_reducible exact Calls.quiet_of_same (V.out _))))
  go_wp2_with fail
  go_ret
  refine ⟨ret_int ?_, belowN B1.out _⟩
  rw [HS.out]
  omega
end Go.Proofs.Ytcdfjaldnelfjaa
