/-
  What joined comes to at lists of freed pages.
-/
import Derived.Test.YtlldmefjhgahdaaSMem
import Derived.Laws.MakeOwn
namespace Go.Proofs.Ytlldmefjhgahdaa
open Go.RowKit

set_option maxRecDepth 20000 in
theorem FInfo0 : (Try.prog.info? 49).map (fun i => (i.zero, i.size, i.bytes)) = some (some (.agg #[.int .i64 0, .int .i64 0]), 2, 16) := by kernel_rfl

set_option maxRecDepth 20000 in
theorem make_F (N : Nat) (hN : N ≤ 1000000) : ∃ cur : Array Value, cur.size = N * 2 ∧ ∀ w : World, (Instr.makeSlice 24 (.int .i64 0) (.int .i64 (N : Int))).run Try.prog w = .ok (.slice (some ⟨w.heap.size, 0, none⟩) 0 N) (w.alloc (.cells cur 49)) := by
  obtain ⟨i0, hi, hz0, hz1, hz2⟩ := info_parts FInfo0
  refine ⟨madeCells (.agg #[.int .i64 0, .int .i64 0] : Value).cells (N * 2), by rw [size_madeCells], fun w => ?_⟩
  have := run_makeSlice (P := Try.prog) (w := w) 24 49 i0 _ Try.underlying24 hi hz0 .i64 .i64 0 (N : Int) (by omega) (by omega) (by rw [hz1]; simp; omega) (by rw [hz2]; omega) (by omega)
  rw [this, hz1]
  simp only [Int.toNat_natCast, Int.toNat_zero]

set_option maxRecDepth 20000 in
set_option maxHeartbeats 1600000 in
theorem join_F (A : Option Addr) (n c N : Nat) (ps : List Pc) (w : World) (hp : Pile w 2 A ps) (hn : ps.length = n) (hN : tot ps = N) (hb : N ≤ 1000000) (hm : n ≤ 1000000) :
    Calls Try.prog 30 #[.slice A n c] w (JoinEnd w 49 2 N (pcs ps)) := by
  obtain ⟨i0, hi, hz0, hz1, hz2⟩ := info_parts FInfo0
  obtain ⟨cur, hcs, hmk⟩ := make_F N hb
  have HP := Lib.hid hp
  have HL := Lib.hid hn
  have HT := Lib.hid hN
  have HC := Lib.hid hcs
  clear hp hn hN hcs
  go_enter Try.func30, Try.ntmps30
  go_wp2_with fail
  obtain ⟨wo, rfl⟩ : ∃ wo : World, wo = w := ⟨_, rfl⟩
  go_loopw [3, 11] (fun s i wr => ∃ k : Nat, k ≤ n ∧ i = .int .i64 k ∧ s = .int .i64 (tot (ps.take k) : Nat) ∧ wr = wo) (fun _ i _ => n - (intOf i).toNat)
  case atStart => exact ⟨0, Nat.zero_le _, rfl, rfl, rfl⟩
  case round =>
    obtain ⟨k, hk, rfl, rfl, hw⟩ := hrel
    have hw' := hw.symm
    subst hw'
    clear hw
    by_cases hlt : k < n
    · obtain ⟨b, off, p, rfl, hv, c0, _, _⟩ := HP.out.at_ (k := k) (by rw [HL.out]; exact hlt)
      have hle := tot_le ps (k + 1)
      rw [tot_take hv, HT.out] at hle
      have HV := Lib.hid (tot_take hv)
      clear hv
      generalize tot (ps.take k) = t at *
      go_wp2_with fail
      go_roundw
      case rel =>
        refine ⟨k + 1, by omega, by go_num, ?_, trivial⟩
        rw [HV.out]
        go_num
      case measure => simp [intOf]; omega
    · obtain rfl : n = k := by omega
      have e1 : tot (ps.take n) = N := by rw [List.take_of_length_le (by rw [HL.out]; omega), HT.out]
      rw [e1]
      clear e1
      go_wp2_with fail
      have O0 : Hid ((wo.alloc (.cells cur 49)).ownsRow wo.heap.size 49 2 (.slice (some ⟨wo.heap.size, 0, none⟩) 0 N) 0 []) := Lib.hid (World.ownsRow_made wo cur N (Nat.le_refl _) (by unfold maxLen; omega) HC.out)
      have B0 : Hid (Below wo.heap.size wo (wo.alloc (.cells cur 49))) := Lib.hid (below_one _ _)
      generalize wo.alloc (.cells cur 49) = w0 at *
      clear hmk hlt
      go_loopw [6, 24] (fun v i wk => ∃ k : Nat, k ≤ n ∧ i = .int .i64 k ∧ Hid (wk.ownsRow wo.heap.size 49 2 v (tot (ps.take k)) (pcs (ps.take k))) ∧ Hid (Below wo.heap.size wo wk)) (fun _ i _ => n - (intOf i).toNat)
      case atStart => exact ⟨0, Nat.zero_le _, rfl, O0, B0⟩
      case round =>
        obtain ⟨k, hk, rfl, O1, B1⟩ := hrel
        by_cases hlt : k < n
        · obtain ⟨b, off, p, rfl, hv, c0, hp1, hp2⟩ := (HP.out.kept B1.out).at_ (k := k) (by rw [HL.out]; exact hlt)
          have hle := tot_le ps (k + 1)
          rw [tot_take hv, HT.out] at hle
          have HV := Lib.hid (tot_take hv)
          have HV2 := Lib.hid (pcs_take hv)
          have HP1 := Lib.hid hp1
          have HP2 := Lib.hid hp2
          clear hv hp1 hp2
          have bs := B1.out.size
          have o1 := O1.out
          generalize tot (ps.take k) = t at *
          go_wp2_with (at_builtin; refine wpList_append_lay _ rfl (.tmp 28) (.tmp 29) 24 rfl wo.heap.size 49 i0 (.agg #[.int .i64 0, .int .i64 0]) 2 16 Try.underlying24 hi hz0 hz1 hz2 rfl (by decide) _ _ _ rfl o1 p.A p.n p.c p.cs rfl HP1.out.len HP1.out.lies HP2.out (by unfold maxLen; omega) (by omega) bs ?_; intro v3 w3 hown3 hg3)
          have O3 : Hid (w3.ownsRow wo.heap.size 49 2 v3 (tot (ps.take (k + 1))) (pcs (ps.take (k + 1)))) := by
            rw [HV.out, HV2.out]
            exact Lib.hid hown3
          have B3 : Hid (Below wo.heap.size wo w3) := Lib.hid (B1.out.grown hg3 bs (fun g hg => (o1.lt g hg).1))
          clear hown3 hg3 o1 O1 B1 HV HV2 HP1 HP2
          go_roundw
          case rel => exact ⟨k + 1, by omega, by go_num, O3, B3⟩
          case measure => simp [intOf]; omega
        · obtain rfl : n = k := by omega
          have e1 : tot (ps.take n) = N := by rw [List.take_of_length_le (by rw [HL.out]; omega), HT.out]
          have e2 : ps.take n = ps := List.take_of_length_le (by rw [HL.out]; omega)
          rw [e1, e2] at O1
          go_wp2_with fail
          go_ret
          exact ⟨_, rfl, O1.out, B1.out⟩
end Go.Proofs.Ytlldmefjhgahdaa
