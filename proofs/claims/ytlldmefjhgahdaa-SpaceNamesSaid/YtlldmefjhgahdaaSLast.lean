/-
  What lastEpoch comes to.
-/
import Derived.Test.YtlldmefjhgahdaaSMem
namespace Go.Proofs.Ytlldmefjhgahdaa
open Go.RowKit

theorem last_at {s : SS} {k : Nat} {x y : Int} (hl : s.pe.length = k + 1) (hv : s.pe[k]? = some (x, y)) : s.last = x := by
  unfold SS.last
  rw [List.getLast?_eq_getElem?, hl, Nat.add_sub_cancel, hv]
  rfl
theorem last_nil {s : SS} (hl : s.pe.length = 0) : s.last = 0 := by
  unfold SS.last
  rw [List.eq_nil_of_length_eq_zero hl]
  rfl

set_option maxRecDepth 20000 in
set_option maxHeartbeats 800000 in
theorem last_any (A : Option Addr) (n c : Nat) (s : SS) (w : World) (hp : Ln w 2 A n c (prVals s.pe)) (hn : n ≤ 1000000) :
    Calls Try.prog 34 #[.slice A n c] w fun e w' => e = .returned (.int .i64 s.last) ∧ w' = w := by
  have hl := hp.prN
  rcases n with _ | k
  · have HM := Lib.hid (last_nil hl)
    clear hp hl
    go_enter Try.func34, Try.ntmps34
    go_wp2_with fail
    go_ret
    exact ⟨ret_int HM.out.symm, rfl⟩
  · obtain ⟨b, off, x, y, rfl, hv, c0, c1⟩ := hp.prAt (k := k) (by omega)
    have HM := Lib.hid (last_at hl hv)
    have hz : ((((k + 1 : Nat) : Int)) == 0) = false := by simp; omega
    have e1 : wrap64 (((k + 1 : Nat) : Int) - 1) = (k : Int) := by unfold wrap64; omega
    have e2 : ((k + 1 : Nat) : Int) = (k : Int) + 1 := by omega
    clear hp hl hv
    go_enter Try.func34, Try.ntmps34
    go_wp2_with fail
    go_ret
    exact ⟨ret_int HM.out.symm, rfl⟩
end Go.Proofs.Ytlldmefjhgahdaa
