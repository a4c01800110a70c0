/-
  What pagesOf comes to.
-/
import Derived.Test.YtlldmefjhgahdaaSMem
namespace Go.Proofs.Ytlldmefjhgahdaa
open Go.RowKit

theorem pg_take {ps : List (Int × Int)} {k : Nat} {x y : Int} (h : ps[k]? = some (x, y)) : intVals ((ps.take (k + 1)).map (·.2)) = intVals ((ps.take k).map (·.2)) ++ [.int .i64 y] := by
  rw [List.take_add_one, h, Option.toList_some, List.map_append, sIntVals_append]
  rfl

theorem cell_one_two (w : World) (o : Obj) (y : Value) (t : TypeId) : ∀ j u, [y][j]? = some u → ((w.alloc o).alloc (.cells #[y] t)).cell? ((⟨w.heap.size + 1, 0, none⟩ : Addr).add j) = some u := by
  have h := cell_one_new (w.alloc o) y t
  rw [show (w.alloc o).heap.size = w.heap.size + 1 by simp] at h
  exact h

set_option maxRecDepth 20000 in
set_option maxHeartbeats 1600000 in
theorem pagesOf_any (A : Option Addr) (n c : Nat) (ps : List (Int × Int)) (w : World) (hp : Ln w 2 A n c (prVals ps)) (hn : n ≤ 1000000) :
    Calls Try.prog 38 #[.slice A n c] w (JoinEnd w 3 1 n (intVals (ps.map (·.2)))) := by
  obtain ⟨i0, hi, hz0, hz1, hz2⟩ := info_parts intInfo
  have HP := Lib.hid hp
  have HN := Lib.hid hp.prN
  clear hp
  go_enter Try.func38, Try.ntmps38
  go_wp2_with fail
  go_loopw [3, 8] (fun v i wk => ∃ k : Nat, k ≤ n ∧ i = .int .i64 k ∧ Hid (wk.ownsRow w.heap.size 3 1 v k (intVals ((ps.take k).map (·.2)))) ∧ Hid (Below w.heap.size w wk)) (fun _ i _ => n - (intOf i).toNat)
  case atStart => exact ⟨0, Nat.zero_le _, rfl, Lib.hid (World.ownsRow_nil _ _ _ _), Lib.hid (Below.refl _ _)⟩
  case round =>
    obtain ⟨k, hk, rfl, O1, B1⟩ := hrel
    by_cases hlt : k < n
    · obtain ⟨b, off, x, y, rfl, hv, c0, c1⟩ := (HP.out.kept B1.out).prAt hlt
      have HV := Lib.hid (pg_take hv)
      have bs := B1.out.size
      have o1 := O1.out
      clear hv
      go_wp2_with (at_builtin; refine wpList_append_own _ rfl (.tmp 12) (.tmp 15) 23 rfl w.heap.size 3 i0 (.int .i64 0) 1 8 Try.underlying23 hi hz0 hz1 hz2 rfl (by decide) _ _ _ rfl ((o1.alloc _).alloc _) ⟨wr.heap.size + 1, 0, none⟩ 1 1 [.int .i64 y] rfl rfl (cell_one_two _ _ _ _) (by simp [Value.oneCell']) (by unfold maxLen; omega) (by omega) (by simp; omega) ?_; intro v3 w3 hown3 hg3 _)
      have O3 : Hid (w3.ownsRow w.heap.size 3 1 v3 (k + 1) (intVals ((ps.take (k + 1)).map (·.2)))) := by
        rw [HV.out]
        exact Lib.hid hown3
      have B3 : Hid (Below w.heap.size w w3) := Lib.hid (((B1.out.alloc bs _).alloc (by simp; omega) _).grown hg3 (by simp; omega) (fun g hg => (o1.lt g hg).1))
      clear hown3 hg3 o1 O1 B1 HV
      go_roundw
      case rel => exact ⟨k + 1, by omega, by go_num, O3, B3⟩
      case measure => simp [intOf]; omega
    · obtain rfl : n = k := by omega
      have e2 : ps.take n = ps := List.take_of_length_le (by rw [HN.out]; omega)
      rw [e2] at O1
      go_wp2_with fail
      go_ret
      exact ⟨_, rfl, O1.out, B1.out⟩
end Go.Proofs.Ytlldmefjhgahdaa
