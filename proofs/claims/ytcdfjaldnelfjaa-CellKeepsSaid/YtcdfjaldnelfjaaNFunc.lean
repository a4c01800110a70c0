/-
  What slices.ContainsFunc comes to at node's two closures.
-/
import Derived.Test.YtcdfjaldnelfjaaNMem
namespace Go.Proofs.Ytcdfjaldnelfjaa
open Go.RowKit

theorem noPage_any (z : Int) (w : World) : Calls Try.prog 59 #[.int .i64 z] w fun e w' => e = .returned (.bool (!ND.kidB z)) ∧ w = w' := by
  by_cases h1 : z < 2
  · have HE : Hid (ND.kidB z = false) := Lib.hid (by unfold ND.kidB; rw [decide_eq_false (by omega)]; rfl)
    go_enter Try.func59, Try.ntmps59
    go_wp2_with fail
    go_ret
    exact ⟨ret_bool (by rw [HE.out]; rfl), rfl⟩
  · by_cases h2 : 2147483647 < z
    · have HE : Hid (ND.kidB z = false) := Lib.hid (by unfold ND.kidB; rw [decide_eq_false (show ¬ z ≤ 2147483647 by omega), Bool.and_false])
      go_enter Try.func59, Try.ntmps59
      go_wp2_with fail
      go_ret
      exact ⟨ret_bool (by rw [HE.out]; rfl), rfl⟩
    · have HE : Hid (ND.kidB z = true) := Lib.hid (by unfold ND.kidB; rw [decide_eq_true (by omega), decide_eq_true (by omega)]; rfl)
      go_enter Try.func59, Try.ntmps59
      go_wp2_with fail
      go_ret
      exact ⟨ret_bool (by rw [HE.out]; rfl), rfl⟩

theorem tooLong_any (s : ByteArray) (w : World) : Calls Try.prog 61 #[.string s] w fun e w' => e = .returned (.bool (!ND.valB s.toList)) ∧ w = w' := by
  have HE : Hid (ND.valB s.toList = decide (s.size ≤ 100)) := Lib.hid (by unfold ND.valB; rw [toList_length])
  go_enter Try.func61, Try.ntmps61
  go_wp2_with fail
  go_ret
  refine ⟨ret_bool ?_, rfl⟩
  rw [HE.out]
  by_cases hs : s.size ≤ 100
  · rw [decide_eq_true hs]
    simp
    omega
  · rw [decide_eq_false hs]
    simp
    omega

theorem all_stop {α : Type} {l : List α} {f : α → Bool} {k : Nat} {z : α} (hv : l[k]? = some z) (h : f z = false) : l.all f = false := by
  rw [List.all_eq_false]
  exact ⟨z, List.mem_of_getElem? hv, by rw [h]; decide⟩
theorem all_next {α : Type} {l : List α} {f : α → Bool} {k : Nat} {z : α} (hv : l[k]? = some z) (h : f z = true) (h0 : (l.take k).all f = true) : (l.take (k + 1)).all f = true := by
  rw [List.take_add_one, hv, Option.toList_some, List.all_append, h0]
  simp [h]

/-- What IndexFunc answers: none, or some place. -/
def IdxEnd (r : Bool) (w : World) (e : Ending) (w' : World) : Prop := ∃ z : Int, e = .returned (.int .i64 z) ∧ (decide (0 ≤ z) = !r) ∧ w = w'

set_option maxHeartbeats 1600000 in
theorem indexI_any (A : Option Addr) (n c : Nat) (l : List Int) (w : World) (h : Ln w 1 A n c (intVals l)) (hn : n ≤ 1000000000) :
    Calls Try.prog 63 #[.slice A n c, .func (.func 59) #[] #[]] w (IdxEnd (l.all ND.kidB) w) := by
  have HN := Lib.hid h.intN
  go_enter Try.func63, Try.ntmps63
  go_wp2_with fail
  go_loop [8] (fun i => ∃ k : Nat, k ≤ n ∧ i = .int .i64 k ∧ Hid ((l.take k).all ND.kidB = true)) (fun i => n - (intOf i).toNat)
  case atStart => exact ⟨0, Nat.zero_le _, rfl, Lib.hid rfl⟩
  case round =>
    obtain ⟨k, hk, rfl, HR⟩ := hrel
    by_cases hlt : k < n
    · obtain ⟨b, off, z, rfl, hv, c0⟩ := h.intAt hlt
      cases hz : ND.kidB z with
      | false =>
        have HE := Lib.hid (all_stop hv hz)
        have HZ := Lib.hid hz
        clear hv hz
        go_wp2_with fail
        refine (noPage_any z w).mono ?_
        rintro e w2 ⟨rfl, rfl⟩
        rw [HZ.out]
        go_wp2_with fail
        go_ret
        exact ⟨_, rfl, by rw [HE.out]; exact decide_eq_true (by omega), rfl⟩
      | true =>
        have HE := Lib.hid (all_next hv hz HR.out)
        have HZ := Lib.hid hz
        clear hv hz
        go_wp2_with fail
        refine (noPage_any z w).mono ?_
        rintro e w2 ⟨rfl, rfl⟩
        rw [HZ.out]
        go_wp2_with fail
        go_round
        case rel => exact ⟨k + 1, by omega, by go_num, HE⟩
        case measure => simp [intOf]; omega
    · obtain rfl : n = k := by omega
      go_wp2_with fail
      go_ret
      have := HR.out
      rw [List.take_of_length_le (by rw [HN.out]; omega)] at this
      exact ⟨_, rfl, by rw [this]; rfl, rfl⟩

set_option maxHeartbeats 1600000 in
theorem indexS_any (A : Option Addr) (n c : Nat) (l : List (List UInt8)) (w : World) (h : Ln w 1 A n c (strVals l)) (hn : n ≤ 1000000000) :
    Calls Try.prog 64 #[.slice A n c, .func (.func 61) #[] #[]] w (IdxEnd (l.all ND.valB) w) := by
  have HN := Lib.hid h.strN
  go_enter Try.func64, Try.ntmps64
  go_wp2_with fail
  go_loop [8] (fun i => ∃ k : Nat, k ≤ n ∧ i = .int .i64 k ∧ Hid ((l.take k).all ND.valB = true)) (fun i => n - (intOf i).toNat)
  case atStart => exact ⟨0, Nat.zero_le _, rfl, Lib.hid rfl⟩
  case round =>
    obtain ⟨k, hk, rfl, HR⟩ := hrel
    by_cases hlt : k < n
    · obtain ⟨b, off, z, rfl, hv, c0⟩ := h.strAt hlt
      cases hz : ND.valB z.toList with
      | false =>
        have HE := Lib.hid (all_stop hv hz)
        have HZ := Lib.hid hz
        clear hv hz
        go_wp2_with fail
        refine (tooLong_any z w).mono ?_
        rintro e w2 ⟨rfl, rfl⟩
        rw [HZ.out]
        go_wp2_with fail
        go_ret
        exact ⟨_, rfl, by rw [HE.out]; exact decide_eq_true (by omega), rfl⟩
      | true =>
        have HE := Lib.hid (all_next hv hz HR.out)
        have HZ := Lib.hid hz
        clear hv hz
        go_wp2_with fail
        refine (tooLong_any z w).mono ?_
        rintro e w2 ⟨rfl, rfl⟩
        rw [HZ.out]
        go_wp2_with fail
        go_round
        case rel => exact ⟨k + 1, by omega, by go_num, HE⟩
        case measure => simp [intOf]; omega
    · obtain rfl : n = k := by omega
      go_wp2_with fail
      go_ret
      have := HR.out
      rw [List.take_of_length_le (by rw [HN.out]; omega)] at this
      exact ⟨_, rfl, by rw [this]; rfl, rfl⟩

theorem containsI_any (A : Option Addr) (n c : Nat) (l : List Int) (w : World) (h : Ln w 1 A n c (intVals l)) (hn : n ≤ 1000000000) :
    Calls Try.prog 60 #[.slice A n c, .func (.func 59) #[] #[]] w fun e w' => e = .returned (.bool (!l.all ND.kidB)) ∧ w = w' := by
  go_enter Try.func60, Try.ntmps60
  go_wp2_with fail
  refine (indexI_any A n c l w h hn).mono ?_
  rintro e w2 ⟨z, rfl, hz, rfl⟩
  have HZ := Lib.hid hz
  clear hz
  go_wp2_with fail
  go_ret
  exact ⟨ret_bool HZ.out, rfl⟩
theorem containsS_any (A : Option Addr) (n c : Nat) (l : List (List UInt8)) (w : World) (h : Ln w 1 A n c (strVals l)) (hn : n ≤ 1000000000) :
    Calls Try.prog 62 #[.slice A n c, .func (.func 61) #[] #[]] w fun e w' => e = .returned (.bool (!l.all ND.valB)) ∧ w = w' := by
  go_enter Try.func62, Try.ntmps62
  go_wp2_with fail
  refine (indexS_any A n c l w h hn).mono ?_
  rintro e w2 ⟨z, rfl, hz, rfl⟩
  have HZ := Lib.hid hz
  clear hz
  go_wp2_with fail
  go_ret
  exact ⟨ret_bool HZ.out, rfl⟩
end Go.Proofs.Ytcdfjaldnelfjaa
