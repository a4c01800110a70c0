/-
  What joined comes to at lists of ints.
-/
import Derived.Test.YtcdfjaldnelfjaaNChain
import Derived.Test.YtcdfjaldnelfjaaAppLn
namespace Go.Proofs.Ytcdfjaldnelfjaa
open Go.RowKit

set_option maxRecDepth 20000 in
theorem eInfoI : (Try.prog.info? 3).map (fun i => (i.zero, i.size, i.bytes)) = some (some (.int .i64 0), 1, 8) := by kernel_rfl

set_option maxRecDepth 20000 in
set_option maxHeartbeats 1600000 in
theorem ejoin_I (A : Option Addr) (n c N : Nat) (ps : List Pc) (w : World) (hp : Pile w 1 A ps) (hn : ps.length = n) (hN : tot ps = N) (hb : N ≤ 1000000) (hm : n ≤ 1000000) :
    Calls Try.prog 50 #[.slice A n c] w (JoinEnd w 3 1 N (pcs ps)) := by
  obtain ⟨i0, hi, hz0, hz1, hz2⟩ := info_parts eInfoI
  have HP := Lib.hid hp
  have HL := Lib.hid hn
  have HT := Lib.hid hN
  clear hp hn hN
  go_enter Try.func50, Try.ntmps50
  go_wp2_with fail
  obtain ⟨wo, rfl⟩ : ∃ wo : World, wo = w := ⟨_, rfl⟩
  go_loopw [3, 8] (fun v i wk => ∃ k : Nat, k ≤ n ∧ i = .int .i64 k ∧ Hid (wk.ownsRow wo.heap.size 3 1 v (tot (ps.take k)) (pcs (ps.take k))) ∧ Hid (Below wo.heap.size wo wk)) (fun _ i _ => n - (intOf i).toNat)
  case atStart => exact ⟨0, Nat.zero_le _, rfl, Lib.hid (World.ownsRow_nil _ _ _ _), Lib.hid (Below.refl _ _)⟩
  case round =>
    obtain ⟨k, hk, rfl, O1, B1⟩ := hrel
    by_cases hlt : k < n
    · obtain ⟨b, off, p, rfl, hv, c0, hp1, hp2⟩ := (HP.out.kept B1.out).at_ (k := k) (by rw [HL.out]; exact hlt)
      have hle := tot_le ps (k + 1)
      rw [tot_take hv, HT.out] at hle
      have HV := Lib.hid (tot_take hv)
      have HV2 := Lib.hid (pcs_take hv)
      have HP1 := Lib.hid hp1
      have HP2 := Lib.hid hp2
      clear hv hp1 hp2
      have bs := B1.out.size
      have o1 := O1.out
      generalize tot (ps.take k) = t at *
      go_wp2_with (at_builtin; refine wpList_append_lay _ rfl (.tmp 12) (.tmp 13) 23 rfl wo.heap.size 3 i0 (.int .i64 0) 1 8 Try.underlying23 hi hz0 hz1 hz2 rfl (by decide) _ _ _ rfl o1 p.A p.n p.c p.cs rfl HP1.out.len HP1.out.lies HP2.out (by unfold maxLen; omega) (by omega) bs ?_; intro v3 w3 hown3 hg3)
      have O3 : Hid (w3.ownsRow wo.heap.size 3 1 v3 (tot (ps.take (k + 1))) (pcs (ps.take (k + 1)))) := by
        rw [HV.out, HV2.out]
        exact Lib.hid hown3
      have B3 : Hid (Below wo.heap.size wo w3) := Lib.hid (B1.out.grown hg3 bs (fun g hg => (o1.lt g hg).1))
      clear hown3 hg3 o1 O1 B1 HV HV2 HP1 HP2
      go_roundw
      case rel => exact ⟨k + 1, by omega, by go_num, O3, B3⟩
      case measure => simp [intOf]; omega
    · obtain rfl : n = k := by omega
      have e1 : tot (ps.take n) = N := by rw [List.take_of_length_le (by rw [HL.out]; omega), HT.out]
      have e2 : ps.take n = ps := List.take_of_length_le (by rw [HL.out]; omega)
      rw [e1, e2] at O1
      clear e1 e2
      go_wp2_with fail
      go_ret
      exact ⟨_, rfl, O1.out, B1.out⟩
end Go.Proofs.Ytcdfjaldnelfjaa
