/-
  What the document's own Find and Kid come to (package tailraceref11).
-/
import Derived.Test.YtcdfjaldnelfjaaEFind
namespace Go.Proofs.Ytcdfjaldnelfjaa
open Go.RowKit

theorem leq_less (a b : List UInt8) : (Op.bytesLess a b || a == b) = !Op.bytesLess b a := by
  rw [← gtr_less a b]
  cases Op.bytesLess a b <;> cases (a == b) <;> rfl

set_option maxRecDepth 20000 in
set_option maxHeartbeats 1600000 in
theorem rfind_any (lf : Bool) (A : Option Addr) (n c : Nat) (B : Option Addr) (m d : Nat) (C : Option Addr) (k e : Nat) (s : ND) (key : ByteArray) (w : World) (h : Nd w A n c B m d C k e s) (hn : n ≤ 1000000) :
    Calls Try.prog 14 #[.agg #[.bool lf, .slice A n c, .slice B m d, .slice C k e], .string key] w (PlaceEnd w (ND.findN key.toList s.keys) (ND.isAt key.toList s.keys)) := by
  have HB := Lib.hid (nbox_new w (.bool lf) (.slice A n c) (.slice B m d) (.slice C k e))
  have b1 := below_one w (.cells #[.bool lf, .slice A n c, .slice B m d, .slice C k e] 25)
  have B1 := Lib.hid b1
  have H1 := Lib.hid (h.kept b1)
  have HN := Lib.hid h.kn
  clear b1 h
  go_enter Try.func14, Try.ntmps14
  go_upto_region 1 with fail
  generalize w.alloc (.cells #[.bool lf, .slice A n c, .slice B m d, .slice C k e] 25) = w1 at *
  obtain ⟨c0, c1, c2, c3⟩ := HB.out.cells
  go_wp2_with fail
  go_loop [6] (fun i => ∃ j : Nat, j ≤ n ∧ i = .int .i64 j ∧ Hid (∀ i t, i < j → s.keys[i]? = some t → Op.bytesLess t key.toList = true)) (fun i => n - (intOf i).toNat)
  case atStart => exact ⟨0, Nat.zero_le _, rfl, Lib.hid (fun i t hi => absurd hi (by omega))⟩
  case round =>
    obtain ⟨j, hj, rfl, HA⟩ := hrel
    by_cases hlt : j < n
    · obtain ⟨b, off, t, rfl, hv, f0⟩ := H1.out.ke.strAt hlt
      cases hb : Op.bytesLess t.toList key.toList with
      | true =>
        have HX : Hid (∀ i t, i < j + 1 → s.keys[i]? = some t → Op.bytesLess t key.toList = true) := Lib.hid (fun i u hi hu => by
          rcases Nat.lt_or_ge i j with h1 | h1
          · exact HA.out i u h1 hu
          · obtain rfl : i = j := by omega
            rw [hv] at hu
            obtain rfl := Option.some.inj hu
            exact hb)
        clear hv
        go_wp2_with fail
        go_round
        case rel => exact ⟨j + 1, by omega, by go_num, HX⟩
        case measure => simp [intOf]; omega
      | false =>
        have HE : Hid (j = ND.findN key.toList s.keys) := Lib.hid (ND.findN_of (by rw [HN.out]; exact hj) HA.out (fun u hu => by
          rw [hv] at hu
          obtain rfl := Option.some.inj hu
          exact hb))
        have HV := Lib.hid hv
        have hd : decide ((j : Int) < (n : Int)) = true := decide_eq_true (by omega)
        clear hv
        go_wp2_with fail
        go_quiet (fail)
        go_wp2_with fail
        go_ret2
        refine ⟨?_, belowN B1.out _⟩
        rw [← HE.out]
        have e1 : ND.isAt key.toList s.keys = (t.toList == key.toList) := by
          unfold ND.isAt
          rw [← HE.out, HV.out]
          rw [Bool.eq_iff_iff]
          simp
        rw [e1]
        rfl
    · obtain rfl : n = j := by omega
      have HE : Hid (n = ND.findN key.toList s.keys) := Lib.hid (ND.findN_of (by rw [HN.out]; exact Nat.le_refl _) HA.out (fun u hu => by
        have := (List.getElem?_eq_some_iff.1 hu).1
        rw [HN.out] at this
        omega))
      have e1 : Hid (ND.isAt key.toList s.keys = false) := Lib.hid (ND.isAt_end (by rw [← HE.out, HN.out]; omega))
      have hd : decide ((n : Int) < (n : Int)) = false := decide_eq_false (by omega)
      go_wp2_with fail
      go_quiet (fail)
      go_wp2_with fail
      go_ret2
      refine ⟨?_, belowN B1.out _⟩
      rw [← HE.out, e1.out]
      rfl

set_option maxRecDepth 20000 in
set_option maxHeartbeats 1600000 in
theorem rkid_any (lf : Bool) (A : Option Addr) (n c : Nat) (B : Option Addr) (m d : Nat) (C : Option Addr) (k e : Nat) (s : ND) (key : ByteArray) (w : World) (h : Nd w A n c B m d C k e s) (hn : n ≤ 1000000) :
    Calls Try.prog 16 #[.agg #[.bool lf, .slice A n c, .slice B m d, .slice C k e], .string key] w fun e w' => e = .returned (.int .i64 ((ND.kidN key.toList s.keys : Nat) : Int)) ∧ Below w.heap.size w w' := by
  have HB := Lib.hid (nbox_new w (.bool lf) (.slice A n c) (.slice B m d) (.slice C k e))
  have b1 := below_one w (.cells #[.bool lf, .slice A n c, .slice B m d, .slice C k e] 25)
  have B1 := Lib.hid b1
  have H1 := Lib.hid (h.kept b1)
  have HN := Lib.hid h.kn
  clear b1 h
  go_enter Try.func16, Try.ntmps16
  go_upto_region 1 with fail
  generalize w.alloc (.cells #[.bool lf, .slice A n c, .slice B m d, .slice C k e] 25) = w1 at *
  obtain ⟨c0, c1, c2, c3⟩ := HB.out.cells
  go_wp2_with fail
  go_loop [5] (fun i => ∃ j : Nat, j ≤ n ∧ i = .int .i64 j ∧ Hid (∀ i t, i < j → s.keys[i]? = some t → Op.bytesLess key.toList t = false)) (fun i => n - (intOf i).toNat)
  case atStart => exact ⟨0, Nat.zero_le _, rfl, Lib.hid (fun i t hi => absurd hi (by omega))⟩
  case round =>
    obtain ⟨j, hj, rfl, HA⟩ := hrel
    by_cases hlt : j < n
    · obtain ⟨b, off, t, rfl, hv, f0⟩ := H1.out.ke.strAt hlt
      have hq := leq_less t.toList key.toList
      cases hb : Op.bytesLess key.toList t.toList with
      | false =>
        rw [hb] at hq
        have HX : Hid (∀ i t, i < j + 1 → s.keys[i]? = some t → Op.bytesLess key.toList t = false) := Lib.hid (fun i u hi hu => by
          rcases Nat.lt_or_ge i j with h1 | h1
          · exact HA.out i u h1 hu
          · obtain rfl : i = j := by omega
            rw [hv] at hu
            obtain rfl := Option.some.inj hu
            exact hb)
        clear hv hb
        go_wp2_with fail
        go_round
        case rel => exact ⟨j + 1, by omega, by go_num, HX⟩
        case measure => simp [intOf]; omega
      | true =>
        rw [hb] at hq
        have HE : Hid (j = ND.kidN key.toList s.keys) := Lib.hid (ND.kidN_of (by rw [HN.out]; exact hj) HA.out (fun u hu => by
          rw [hv] at hu
          obtain rfl := Option.some.inj hu
          exact hb))
        clear hv hb
        go_wp2_with fail
        go_ret
        exact ⟨ret_int (by rw [← HE.out]), B1.out⟩
    · obtain rfl : n = j := by omega
      have HE : Hid (n = ND.kidN key.toList s.keys) := Lib.hid (ND.kidN_of (by rw [HN.out]; exact Nat.le_refl _) HA.out (fun u hu => by
        have := (List.getElem?_eq_some_iff.1 hu).1
        rw [HN.out] at this
        omega))
      go_wp2_with fail
      go_ret
      exact ⟨ret_int (by rw [← HE.out]), B1.out⟩
end Go.Proofs.Ytcdfjaldnelfjaa
