/-
  What keys.Cmp comes to, and the document's own Same and Cmp, at any lists of bytes.
-/
import Derived.Test.YtcjcahgeaffjmaaBys
namespace Go.Proofs.Ytcjcahgeaffjmaa
open Go.RowKit

theorem compare_runs (args : Array Value) (w : World) :
    (callFunc 42 args).run Try.prog w = ((Extern.BytealgCompare.compare args).run Try.prog w).andThen fun v w' => .ok (.value v) w' :=
  run_callFunc_extern Try.func42 (by kernel_rfl) (by kernel_rfl) (by kernel_rfl) (by kernel_rfl) args w

section
variable {w : World} {R R' : Nat} {A B : Option Addr} {l m : List UInt8}

theorem bytesCompare_any (h : Bys w R A l) (k : Bys w R' B m) (n c p d : Nat) (hn : l.length = n) (hp : m.length = p) :
    Calls Try.prog 34 #[.slice A n c, .slice B p d] w fun e w' => e = .returned (.int .i64 (scmp l m)) ∧ w = w' := by
  have hrun : (callFunc 42 #[.slice A n c, .slice B p d]).run Try.prog w = .ok (.value (.int .i64 (scmp l m))) w := by
    rw [compare_runs, run_compare h k n c p d hn hp]
    rfl
  clear hn hp h k
  go_enter Try.func34, Try.ntmps34
  go_wp2_with fail
  go_ret
  exact ⟨rfl, rfl⟩

theorem keysCmp_any (h : Bys w R A l) (k : Bys w R' B m) (n c p d : Nat) (hn : l.length = n) (hp : m.length = p) :
    Calls Try.prog 20 #[.slice A n c, .slice B p d] w fun e w' => e = .returned (.int .i64 (scmp l m)) ∧ w = w' := by
  have K := bytesCompare_any h k n c p d hn hp
  clear hn hp h k
  go_enter Try.func20, Try.ntmps20
  go_wp2_with fail
  refine K.mono ?_
  rintro e w' ⟨rfl, rfl⟩
  go_wp2_with fail
  go_ret
  exact ⟨rfl, rfl⟩

theorem sameB_any (h : Bys w R A l) (k : Bys w R' B m) (n c p d : Nat) (hn : l.length = n) (hp : m.length = p) :
    Calls Try.prog 14 #[.slice A n c, .slice B p d] w fun e w' => e = .returned (.bool (l == m)) ∧ w = w' := by
  have h1 := run_text (P := Try.prog) h 24 9 5 n c hn Try.underlying24 Try.underlying5 Try.underlying9
  have h2 := run_text (P := Try.prog) k 24 9 5 p d hp Try.underlying24 Try.underlying5 Try.underlying9
  clear hn hp h k
  go_enter Try.func14, Try.ntmps14
  go_wp2_with fail
  go_ret
  exact ⟨rfl, rfl⟩

theorem refCmpB_any (h : Bys w R A l) (k : Bys w R' B m) (n c p d : Nat) (hn : l.length = n) (hp : m.length = p) :
    Calls Try.prog 21 #[.slice A n c, .slice B p d] w fun e w' => e = .returned (.int .i64 (scmp l m)) ∧ w = w' := by
  have h1 := run_text (P := Try.prog) h 24 9 5 n c hn Try.underlying24 Try.underlying5 Try.underlying9
  have h2 := run_text (P := Try.prog) k 24 9 5 p d hp Try.underlying24 Try.underlying5 Try.underlying9
  clear hn hp h k
  have hl : (⟨l.toArray⟩ : ByteArray).toList = l := ByteArray.toList_mk l
  have hm : (⟨m.toArray⟩ : ByteArray).toList = m := ByteArray.toList_mk m
  rcases less_total l m with hx | rfl | hx
  · rw [scmp_lt hx]
    rw [← hl, ← hm] at hx
    generalize (⟨l.toArray⟩ : ByteArray) = s1 at *
    generalize (⟨m.toArray⟩ : ByteArray) = s2 at *
    clear hl hm
    go_enter Try.func21, Try.ntmps21
    go_wp2_with fail
    go_ret
    exact ⟨rfl, rfl⟩
  · rw [scmp_eq]
    have hx := less_irrefl l
    rw [← hl] at hx
    generalize (⟨l.toArray⟩ : ByteArray) = s1 at *
    clear hl hm
    go_enter Try.func21, Try.ntmps21
    go_wp2_with fail
    go_ret
    exact ⟨rfl, rfl⟩
  · rw [scmp_gt hx]
    have hy := less_asymm _ _ hx
    have he : (l == m) = false := by
      rw [Bool.eq_false_iff]
      intro e
      rw [eq_of_beq e, less_irrefl] at hx
      cases hx
    rw [← hl, ← hm] at hx hy he
    generalize (⟨l.toArray⟩ : ByteArray) = s1 at *
    generalize (⟨m.toArray⟩ : ByteArray) = s2 at *
    clear hl hm
    go_enter Try.func21, Try.ntmps21
    go_wp2_with fail
    go_ret
    exact ⟨rfl, rfl⟩
end
end Go.Proofs.Ytcjcahgeaffjmaa
