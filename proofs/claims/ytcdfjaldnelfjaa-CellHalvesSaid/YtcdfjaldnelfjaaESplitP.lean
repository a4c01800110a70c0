/-
  What the operations of cell's Split leave.
-/
import Derived.Test.YtcdfjaldnelfjaaEJoin
import Derived.Test.YtcdfjaldnelfjaaEHv
import Derived.Test.YtcdfjaldnelfjaaEHalf
import Derived.Deep.Cut
import Derived.Deep.DeepCutAuto
import Derived.RegionTactic
import Derived.IntWalk
namespace Go.Proofs.Ytcdfjaldnelfjaa
open Go.RowKit

/-- What each operation of the first part's region leaves, and of the second one's. -/
def partF (w1 : World) (g : Nat) (lf : Bool) (A : Option Addr) (n c p : Nat) (s : ND) : List SP :=
  [.is (.pointer (some ⟨g, 0, none⟩)), .is (.bool lf), .is (.pointer (some ⟨g, 1, none⟩)), .is (.slice A n c), .is (.int .i64 p), .is (.slice A p c), .pile 1 [⟨A, p, c, strVals (s.keys.take p)⟩], .ln 0 p (strVals (s.keys.take p)), .nd 0 ⟨lf, s.keys.take p, [], []⟩, .box w1.heap.size]
def restF (w1 : World) (g : Nat) (lf : Bool) (A : Option Addr) (n c p y : Nat) (s : ND) : List SP :=
  [.is (.pointer (some ⟨g, 0, none⟩)), .is (.bool lf), .is (.pointer (some ⟨g, 1, none⟩)), .is (.slice A n c), .is (.int .i64 p), .is (.int .i64 y), .is (.int .i64 ((p + y : Nat) : Int)), .is (.slice (dropA A c (p + y)) (n - (p + y)) (c - (p + y))), .pile 1 [⟨dropA A c (p + y), n - (p + y), c - (p + y), strVals (s.keys.drop (p + y))⟩], .ln 0 (n - (p + y)) (strVals (s.keys.drop (p + y))), .nd 0 ⟨lf, s.keys.drop (p + y), [], []⟩, .box w1.heap.size]
def lastF (g b off n c p : Nat) (v u : Value) (t : ByteArray) : List SP :=
  [.is v, .is (.pointer (some ⟨g, 1, none⟩)), .is (.slice (some ⟨b, off, none⟩) n c), .is (.int .i64 p), .is (.pointer (some ⟨b, off + p, none⟩)), .is (.string t), .is u]

theorem ln_strTake {w : World} {A : Option Addr} {n c k : Nat} {l : List (List UInt8)} (h : Ln w 1 A n c (strVals l)) (hk : k ≤ n) : Ln w 1 A k c (strVals (l.take k)) := h.strTake hk
theorem ln_strDrop {w : World} {A : Option Addr} {n c k : Nat} {l : List (List UInt8)} (h : Ln w 1 A n c (strVals l)) (hk : k ≤ n) : Ln w 1 (dropA A c k) (n - k) (c - k) (strVals (l.drop k)) := by
  have := ln_drop h hk
  rw [strVals, ← List.map_drop] at this
  exact this
theorem take_mm {α : Type} {l : List α} {p m mm : Nat} (h : min p m = mm) (hm : l.length = m) : l.take mm = l.take p ∧ l.drop mm = l.drop p := by
  subst h
  subst hm
  rcases Nat.le_total p l.length with h | h
  · rw [Nat.min_eq_left h]
    exact ⟨rfl, rfl⟩
  · rw [Nat.min_eq_right h, List.take_of_length_le h, List.drop_of_length_le h, List.take_length, List.drop_length]
    exact ⟨rfl, rfl⟩
theorem str_take (l : List (List UInt8)) (k : Nat) : (strVals l).take k = strVals (l.take k) := by unfold strVals; rw [List.map_take]
theorem str_drop (l : List (List UInt8)) (k : Nat) : (strVals l).drop k = strVals (l.drop k) := by unfold strVals; rw [List.map_drop]
theorem int_take (l : List Int) (k : Nat) : (intVals l).take k = intVals (l.take k) := by unfold intVals; rw [List.map_take]
theorem int_drop (l : List Int) (k : Nat) : (intVals l).drop k = intVals (l.drop k) := by unfold intVals; rw [List.map_drop]

end Go.Proofs.Ytcdfjaldnelfjaa
