/-
  What bytes.Clone comes to, at any bytes (at most 1000000), nil or not.
-/
import Derived.Test.YtgkdlbcpckdmkaaOwnB
import Derived.Deep.AppendLies
namespace Go.Proofs.Ytgkdlbcpckdmkaa
open Go.RowKit

set_option maxRecDepth 20000 in
set_option maxHeartbeats 400000 in
theorem clone_some (ad : Addr) (n c R : Nat) (l : List UInt8) (w : World) (hx : Bys w R (some ad) l) (e : l.length = n) (hn : n ≤ 1000000) :
    Calls Try.prog 35 #[.slice (some ad) n c] w (Owned w.heap.size w l) := by
  have E := Lib.hid e
  clear e
  have hne := fun W => Lib.run_eql_slice_nil (P := Try.prog) W 33
  obtain ⟨i0, hi, hz0, hz1, hz2⟩ := info_parts byteInfo
  have hown0 : (w.alloc (.cells #[] 5)).ownsRow w.heap.size 5 1 (.slice (some ⟨w.heap.size, 0, none⟩) 0 0) 0 [] := World.ownsRow_made w #[] 0 (Nat.le_refl _) (by unfold maxLen; omega) rfl
  go_enter Try.func35, Try.ntmps35
  go_wp2_with (at_builtin; refine wpList_append_own _ rfl (.tmp 5) (.tmp 6) 33 rfl w.heap.size 5 i0 (.int .u8 0) 1 1 Try.underlying33 hi hz0 hz1 hz2 rfl (by decide) _ _ _ rfl hown0 ad n c (bv l) rfl (by rw [bv_length, E.out]; omega) (hx.alloc _).cells (bv_one _) (by unfold maxLen; omega) (by omega) (by simp) ?_; intro v1 w1 hown1 hg1 _)
  have b1 : Below w.heap.size w w1 := ((Below.refl _ _).alloc (Nat.le_refl _) _).grown hg1 (by simp) (fun g hg => (hown0.lt g hg).1)
  go_ret
  refine ⟨_, rfl, ?_, b1⟩
  unfold Own
  rw [E.out]
  simpa using hown1

set_option maxRecDepth 20000 in
theorem clone_nil (w : World) : Calls Try.prog 35 #[.slice none 0 0] w (Owned w.heap.size w []) := by
  have hne := fun W => Lib.run_eql_slice_nil (P := Try.prog) W 33
  go_enter Try.func35, Try.ntmps35
  go_wp2_with fail
  go_ret
  exact ⟨_, rfl, own_nil _ _, Below.refl _ _⟩

set_option maxRecDepth 20000 in
theorem clone_all (A : Option Addr) (n c R : Nat) (l : List UInt8) (w : World) (hx : Bys w R A l) (e : l.length = n) (hn : n ≤ 1000000) (hz : A = none → n = 0 ∧ c = 0) :
    Calls Try.prog 35 #[.slice A n c] w (Owned w.heap.size w l) := by
  rcases A with _ | ad
  · obtain ⟨rfl, rfl⟩ := hz rfl
    obtain rfl := hx.none_
    exact clone_nil w
  · exact clone_some ad n c R l w hx e hn

end Go.Proofs.Ytgkdlbcpckdmkaa
