/-
  What the calls of package value, and of the document's own answers to it, come to: one contract a function.
-/
import Derived.Test.YtcjcahgeaffjmaaProg
import Derived.Test.YtcjcahgeaffjmaaPure
import Derived.WalkKit
import Derived.WalkLawsBesides
import Derived.WalkSpells
import Derived.KernelRfl
namespace Go.Proofs.Ytcjcahgeaffjmaa
open Go.RowKit

set_option maxHeartbeats 400000 in
theorem compareInt (a b : Int) (w : World) :
    Calls Try.prog 36 #[.int .i64 a, .int .i64 b] w fun e w' => e = .returned (.int .i64 (icmp a b)) ∧ w = w' := by
  unfold icmp
  by_cases h1 : a < b
  · rw [if_pos h1]
    go_enter Try.func36, Try.ntmps36
    go_wp2
    go_ret
    exact ⟨rfl, rfl⟩
  · rw [if_neg h1]
    by_cases h2 : b < a
    · rw [if_pos h2]
      go_enter Try.func36, Try.ntmps36
      go_wp2
      go_ret
      exact ⟨rfl, rfl⟩
    · rw [if_neg h2]
      go_enter Try.func36, Try.ntmps36
      go_wp2
      go_ret
      exact ⟨rfl, rfl⟩

set_option maxHeartbeats 400000 in
theorem compareInt64 (a b : Int) (w : World) :
    Calls Try.prog 46 #[.int .i64 a, .int .i64 b] w fun e w' => e = .returned (.int .i64 (icmp a b)) ∧ w = w' := by
  unfold icmp
  by_cases h1 : a < b
  · rw [if_pos h1]
    go_enter Try.func46, Try.ntmps46
    go_wp2
    go_ret
    exact ⟨rfl, rfl⟩
  · rw [if_neg h1]
    by_cases h2 : b < a
    · rw [if_pos h2]
      go_enter Try.func46, Try.ntmps46
      go_wp2
      go_ret
      exact ⟨rfl, rfl⟩
    · rw [if_neg h2]
      go_enter Try.func46, Try.ntmps46
      go_wp2
      go_ret
      exact ⟨rfl, rfl⟩

set_option maxHeartbeats 400000 in
theorem compareStr (a b : ByteArray) (w : World) :
    Calls Try.prog 47 #[.string a, .string b] w fun e w' => e = .returned (.int .i64 (scmp a.toList b.toList)) ∧ w = w' := by
  unfold scmp
  by_cases h1 : Op.bytesLess a.toList b.toList = true
  · rw [if_pos h1]
    go_enter Try.func47, Try.ntmps47
    go_wp2
    go_ret
    exact ⟨rfl, rfl⟩
  · rw [if_neg h1]
    have h1' : Op.bytesLess a.toList b.toList = false := by simpa using h1
    clear h1
    by_cases h2 : (a.toList == b.toList) = true
    · rw [if_pos h2]
      go_enter Try.func47, Try.ntmps47
      go_wp2
      go_ret
      exact ⟨rfl, rfl⟩
    · rw [if_neg h2]
      have h2' : (a.toList == b.toList) = false := by simpa using h2
      clear h2
      go_enter Try.func47, Try.ntmps47
      go_wp2
      go_ret
      exact ⟨rfl, rfl⟩

/-! ### value.Cmp -/

theorem below_two (w : World) (o o' : Obj) : Below w.heap.size w ((w.alloc o).alloc o') :=
  ((Below.refl _ _).alloc (Nat.le_refl _) _).alloc (by simp) _

theorem below_one (w : World) (o : Obj) : Below w.heap.size w (w.alloc o) :=
  (Below.refl _ _).alloc (Nat.le_refl _) _

set_option maxHeartbeats 400000 in
theorem cmp_any (ka na kb nb : Int) (sa sb : ByteArray) (w : World) :
    Calls Try.prog 37 #[.agg #[.int .i64 ka, .int .i64 na, .string sa], .agg #[.int .i64 kb, .int .i64 nb, .string sb]] w
      fun e w' => e = .returned (.int .i64 (vcmp ka na sa.toList kb nb sb.toList)) ∧ Below w.heap.size w w' := by
  by_cases hk : ka = kb
  · subst hk
    by_cases hn : na = nb
    · subst hn
      by_cases hs : sa.toList = sb.toList
      · obtain rfl : sa = sb := bytes_ext hs
        clear hs
        have hv : vcmp ka na sa.toList ka na sa.toList = 0 := by
          unfold vcmp
          rw [if_pos rfl, if_pos rfl]
          exact (scmp_line.same _ _).2 rfl
        rw [hv]
        clear hv
        go_enter Try.func37, Try.ntmps37
        go_wp2_with fail
        go_ret
        exact ⟨rfl, below_two _ _ _⟩
      · have hv : vcmp ka na sa.toList ka na sb.toList = scmp sa.toList sb.toList := by
          unfold vcmp
          rw [if_pos rfl, if_pos rfl]
        rw [hv]
        clear hv
        go_enter Try.func37, Try.ntmps37
        go_wp2_with fail
        refine (compareStr sa sb _).mono ?_
        rintro e w' ⟨rfl, rfl⟩
        go_wp2_with fail
        go_ret
        exact ⟨rfl, below_two _ _ _⟩
    · have hv : vcmp ka na sa.toList ka nb sb.toList = icmp na nb := by
        unfold vcmp
        rw [if_pos rfl, if_neg hn]
      rw [hv]
      clear hv
      go_enter Try.func37, Try.ntmps37
      go_wp2_with fail
      refine (compareInt64 na nb _).mono ?_
      rintro e w' ⟨rfl, rfl⟩
      go_wp2_with fail
      go_ret
      exact ⟨rfl, below_two _ _ _⟩
  · have hv : vcmp ka na sa.toList kb nb sb.toList = icmp ka kb := by
      unfold vcmp
      rw [if_neg hk]
    rw [hv]
    clear hv
    go_enter Try.func37, Try.ntmps37
    go_wp2_with fail
    refine (compareInt ka kb _).mono ?_
    rintro e w' ⟨rfl, rfl⟩
    go_wp2_with fail
    go_ret
    exact ⟨rfl, below_two _ _ _⟩

end Go.Proofs.Ytcjcahgeaffjmaa
