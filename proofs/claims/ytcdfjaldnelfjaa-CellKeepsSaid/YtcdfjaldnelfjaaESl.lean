/-
  A list from a place on, and up to a place: the address as one letter.
-/
import Derived.Test.YtcdfjaldnelfjaaNMem
namespace Go.Proofs.Ytcdfjaldnelfjaa
open Go.RowKit

/-- Where the list from k on lies. -/
def dropA (A : Option Addr) (c k : Nat) : Option Addr := if c = k then A else A.map (·.add k)

theorem ln_drop {w : World} {A : Option Addr} {n c : Nat} {cs : List Value} (h : Ln w 1 A n c cs) {k : Nat} (hk : k ≤ n) : Ln w 1 (dropA A c k) (n - k) (c - k) (cs.drop k) := by
  have hle := h.le
  have hlen := h.len
  rcases A with _ | ad
  · obtain ⟨rfl, rfl⟩ := h.lies.1 rfl
    obtain rfl : k = 0 := by omega
    simpa [dropA] using h
  · by_cases hn0 : n = k
    · subst hn0
      have e : cs.drop n = [] := List.drop_of_length_le (by omega)
      rw [e, Nat.sub_self]
      refine ⟨by simp, Nat.zero_le _, fun e => ?_, fun ad _ j u hu => by simp at hu⟩
      unfold dropA at e
      split at e <;> simp at e
    · have hc : ¬ c = k := by omega
      obtain ⟨b, off, e, _⟩ := h.spot (by omega)
      obtain rfl := Option.some.inj e
      have := h.drop hk
      rw [Nat.mul_one] at this
      unfold dropA
      rw [if_neg hc, Option.map_some, addr_add]
      exact this

theorem lnS_drop {w : World} {A : Option Addr} {n c k : Nat} {l : List (List UInt8)} (h : Ln w 1 A n c (strVals l)) (hk : k ≤ n) : Ln w 1 (dropA A c k) (n - k) (c - k) (strVals (l.drop k)) := by
  have := ln_drop h hk
  rw [strVals, ← List.map_drop] at this
  exact this
theorem lnI_drop {w : World} {A : Option Addr} {n c k : Nat} {l : List Int} (h : Ln w 1 A n c (intVals l)) (hk : k ≤ n) : Ln w 1 (dropA A c k) (n - k) (c - k) (intVals (l.drop k)) := by
  have := ln_drop h hk
  rw [intVals, ← List.map_drop] at this
  exact this

section
variable {P : Program} (t : TypeId) (ht : P.underlying t = some (.slice (P.elem t))) (hs : ∀ w, (sizeOf (P.elem t)).run P w = .ok 1 w)
include ht hs
/-- The run of a list from k on. -/
theorem sl_from {n c k : Nat} (A : Option Addr) (hk : k ≤ n) (w : World) : (Instr.slice t (.slice A n c) (some (.int .i64 (k : Int))) none none).run P w = .ok (.slice (dropA A c k) (n - k) (c - k)) w := by
  rw [run_slice_l (P := P) (w := w) t A n c ht .i64 (k : Int) (by omega) (by omega), hs]
  simp [Result.andThen, sliced, dropA]
/-- The run of a list up to k. -/
theorem sl_upto {n c k : Nat} (A : Option Addr) (hk : k ≤ n) (hc : n ≤ c) (w : World) : (Instr.slice t (.slice A n c) none (some (.int .i64 (k : Int))) none).run P w = .ok (.slice A k c) w := by
  rw [run_slice_h (P := P) (w := w) t A n c ht .i64 (k : Int) (by omega) (by omega), hs]
  by_cases h0 : c = 0
  · subst h0
    simp [Result.andThen, sliced]
  · simp [Result.andThen, sliced, h0]
    cases A with
    | none => rfl
    | some ad =>
      obtain ⟨b, off, sp⟩ := ad
      cases sp <;> simp [Addr.add]
end
set_option maxRecDepth 20000 in
theorem sz_S : ∀ w, (sizeOf (Try.prog.elem 22)).run Try.prog w = .ok 1 w := fun w => by kernel_rfl
set_option maxRecDepth 20000 in
theorem sz_I : ∀ w, (sizeOf (Try.prog.elem 23)).run Try.prog w = .ok 1 w := fun w => by kernel_rfl
theorem from_S {n c k : Nat} (A : Option Addr) (hk : k ≤ n) (w : World) : (Instr.slice 22 (.slice A n c) (some (.int .i64 (k : Int))) none none).run Try.prog w = .ok (.slice (dropA A c k) (n - k) (c - k)) w := sl_from _ Try.underlying22 sz_S A hk w
theorem from_S1 {n c k : Nat} (A : Option Addr) (hk : k + 1 ≤ n) (w : World) : (Instr.slice 22 (.slice A n c) (some (.int .i64 ((k : Int) + 1))) none none).run Try.prog w = .ok (.slice (dropA A c (k + 1)) (n - (k + 1)) (c - (k + 1))) w := from_S A hk w
theorem upto_S {n c k : Nat} (A : Option Addr) (hk : k ≤ n) (hc : n ≤ c) (w : World) : (Instr.slice 22 (.slice A n c) none (some (.int .i64 (k : Int))) none).run Try.prog w = .ok (.slice A k c) w := sl_upto _ Try.underlying22 sz_S A hk hc w
theorem from_I {n c k : Nat} (A : Option Addr) (hk : k ≤ n) (w : World) : (Instr.slice 23 (.slice A n c) (some (.int .i64 (k : Int))) none none).run Try.prog w = .ok (.slice (dropA A c k) (n - k) (c - k)) w := sl_from _ Try.underlying23 sz_I A hk w
theorem from_I1 {n c k : Nat} (A : Option Addr) (hk : k + 1 ≤ n) (w : World) : (Instr.slice 23 (.slice A n c) (some (.int .i64 ((k : Int) + 1))) none none).run Try.prog w = .ok (.slice (dropA A c (k + 1)) (n - (k + 1)) (c - (k + 1))) w := from_I A hk w
theorem upto_I1 {n c k : Nat} (A : Option Addr) (hk : k + 1 ≤ n) (hc : n ≤ c) (w : World) : (Instr.slice 23 (.slice A n c) none (some (.int .i64 ((k : Int) + 1))) none).run Try.prog w = .ok (.slice A (k + 1) c) w := sl_upto _ Try.underlying23 sz_I A hk hc w
theorem upto_I {n c k : Nat} (A : Option Addr) (hk : k ≤ n) (hc : n ≤ c) (w : World) : (Instr.slice 23 (.slice A n c) none (some (.int .i64 (k : Int))) none).run Try.prog w = .ok (.slice A k c) w := sl_upto _ Try.underlying23 sz_I A hk hc w
end Go.Proofs.Ytcdfjaldnelfjaa
