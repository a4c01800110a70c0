/-
  What agesStand and lastEpoch come to.
-/
import Derived.Test.YtlldmefjhgahdaaSMem
import Derived.Test.YtlldmefjhgahdaaSPlace
namespace Go.Proofs.Ytlldmefjhgahdaa
open Go.RowKit

/-- The first k ages stand, and the last of them is z. -/
def AgesTo (ps : List (Int × Int)) (k : Nat) (z : Int) : Prop :=
  0 ≤ z ∧ (ps.take k).Pairwise (fun x y => x.1 ≤ y.1) ∧ (∀ x ∈ ps.take k, 0 ≤ x.1 ∧ x.1 ≤ z) ∧ (z = 0 ∨ ∃ x ∈ ps.take k, x.1 = z)
theorem AgesTo.start (ps : List (Int × Int)) : AgesTo ps 0 0 := ⟨by omega, by simp, by simp, Or.inl rfl⟩
theorem AgesTo.more {ps : List (Int × Int)} {k : Nat} {z x y : Int} (h : AgesTo ps k z) (hv : ps[k]? = some (x, y)) (hx : ¬ x < z) : AgesTo ps (k + 1) x := by
  obtain ⟨h1, h2, h3, _⟩ := h
  unfold AgesTo
  rw [List.take_add_one, hv, Option.toList_some]
  refine ⟨by omega, List.pairwise_append.2 ⟨h2, by simp, fun a ha b hb => ?_⟩, fun a ha => ?_, Or.inr ⟨(x, y), by simp, rfl⟩⟩
  · obtain rfl : b = (x, y) := by simpa using hb
    have := h3 a ha
    show a.1 ≤ x
    omega
  · rcases List.mem_append.1 ha with ha | ha
    · have := h3 a ha
      omega
    · obtain rfl : a = (x, y) := by simpa using ha
      show 0 ≤ x ∧ x ≤ x
      omega
theorem AgesTo.bad {ps : List (Int × Int)} {k : Nat} {z x y : Int} (h : AgesTo ps k z) (hv : ps[k]? = some (x, y)) (hx : x < z) : SS.agesB ps = false := by
  obtain ⟨h1, h2, h3, h4⟩ := h
  cases hb : SS.agesB ps with
  | false => rfl
  | true =>
    unfold SS.agesB at hb
    rw [Bool.and_eq_true] at hb
    have hp : ps.Pairwise (fun x y => x.1 ≤ y.1) := of_decide_eq_true hb.1
    have hm : (x, y) ∈ ps := List.mem_of_getElem? hv
    have h0 : 0 ≤ x := of_decide_eq_true (List.all_eq_true.1 hb.2 _ hm)
    rcases h4 with h4 | ⟨a, ha, h4⟩
    · omega
    · rw [← List.take_append_drop k ps] at hp
      have hd : (x, y) ∈ ps.drop k := by
        obtain ⟨hk, e⟩ := List.getElem?_eq_some_iff.1 hv
        rw [List.drop_eq_getElem_cons hk, e]
        simp
      have := (List.pairwise_append.1 hp).2.2 a ha _ hd
      have : a.1 ≤ x := this
      omega
theorem AgesTo.all {ps : List (Int × Int)} {k : Nat} {z : Int} (h : AgesTo ps k z) (hk : ps.length ≤ k) : SS.agesB ps = true := by
  obtain ⟨_, h2, h3, _⟩ := h
  rw [List.take_of_length_le hk] at h2 h3
  unfold SS.agesB
  rw [Bool.and_eq_true]
  exact ⟨decide_eq_true h2, List.all_eq_true.2 (fun x hx => decide_eq_true (h3 x hx).1)⟩

set_option maxRecDepth 20000 in
set_option maxHeartbeats 800000 in
theorem ages_any (A : Option Addr) (n c : Nat) (ps : List (Int × Int)) (w : World) (hp : Ln w 2 A n c (prVals ps)) (hn : n ≤ 1000000) :
    Calls Try.prog 40 #[.slice A n c] w fun e w' => e = .returned (.bool (SS.agesB ps)) ∧ Below w.heap.size w w' := by
  have HP := Lib.hid hp
  have HN := Lib.hid hp.prN
  clear hp
  go_enter Try.func40, Try.ntmps40
  go_wp2_with fail
  go_loopw [3, 8] (fun v i wk => ∃ (k : Nat) (z : Int), k ≤ n ∧ i = .int .i64 k ∧ v = .int .i64 z ∧ Hid (AgesTo ps k z) ∧ Hid (Below w.heap.size w wk)) (fun _ i _ => n - (intOf i).toNat)
  case atStart => exact ⟨0, 0, Nat.zero_le _, rfl, rfl, Lib.hid (AgesTo.start ps), Lib.hid (Below.refl _ _)⟩
  case round =>
    obtain ⟨k, z, hk, rfl, rfl, HA, B1⟩ := hrel
    by_cases hlt : k < n
    · obtain ⟨b, off, x, y, rfl, hv, c0, c1⟩ := (HP.out.kept B1.out).prAt hlt
      have bs := B1.out.size
      have B2 : Hid (Below w.heap.size w (wr.alloc (.cells #[.int .i64 x, .int .i64 y] 49))) := Lib.hid (B1.out.alloc bs _)
      by_cases hx : x < z
      · have HM := Lib.hid (HA.out.bad hv hx)
        clear hv HA
        go_wp2_with fail
        go_ret
        exact ⟨ret_bool HM.out.symm, B2.out⟩
      · have HM := Lib.hid (HA.out.more hv hx)
        clear hv HA
        go_wp2_with fail
        go_roundw
        case rel => exact ⟨k + 1, x, by omega, by go_num, rfl, HM, B2⟩
        case measure => simp [intOf]; omega
    · obtain rfl : n = k := by omega
      have HM := Lib.hid (HA.out.all (by rw [HN.out]; exact Nat.le_refl _))
      go_wp2_with fail
      go_ret
      exact ⟨ret_bool HM.out.symm, B1.out⟩
end Go.Proofs.Ytlldmefjhgahdaa
