/-
  The plain lists of pages as numbers, and back. Nothing here names the program.
-/
import Derived.Test.YtlldmefjhgahdaaSPure
namespace Go.Proofs.Ytlldmefjhgahdaa.SS

def unpairs : List Int → List (Int × Int)
  | a :: b :: l => (a, b) :: unpairs l
  | _ => []
/-- Which lists these numbers are. -/
def parse (l : List Int) : Option SS :=
  match l with
  | h :: n :: r =>
    if 0 ≤ n ∧ n < (r.length : Int) then
      match r.drop n.toNat with
      | m :: q => if (q.length : Int) = 2 * m then some ⟨h, r.take n.toNat, unpairs q⟩ else Option.none
      | [] => Option.none
    else Option.none
  | _ => Option.none

theorem pairs_length : ∀ l : List (Int × Int), (pairs l).length = 2 * l.length
  | [] => rfl
  | x :: l => by
    unfold pairs
    rw [List.length_cons, List.length_cons, pairs_length l, List.length_cons]
    omega
theorem unpairs_pairs : ∀ l : List (Int × Int), unpairs (pairs l) = l
  | [] => rfl
  | x :: l => by
    unfold pairs unpairs
    rw [unpairs_pairs l]
theorem pairs_unpairs : ∀ (n : Nat) (l : List Int), l.length = 2 * n → pairs (unpairs l) = l
  | 0, [], _ => rfl
  | 0, _ :: _, h => absurd h (by simp)
  | n + 1, [], h => absurd h (by simp)
  | n + 1, [_], h => absurd h (by simp; omega)
  | n + 1, a :: b :: l, h => by
    unfold unpairs pairs
    rw [pairs_unpairs n l (by simp at h; omega)]
theorem unpairs_length : ∀ (n : Nat) (l : List Int), l.length = 2 * n → (unpairs l).length = n
  | 0, [], _ => rfl
  | 0, _ :: _, h => absurd h (by simp)
  | n + 1, [], h => absurd h (by simp)
  | n + 1, [_], h => absurd h (by simp; omega)
  | n + 1, a :: b :: l, h => by
    unfold unpairs
    rw [List.length_cons, unpairs_length n l (by simp at h; omega)]

theorem parse_nums (s : SS) : parse s.nums = some s := by
  unfold SS.nums parse
  have h1 : (0 : Int) ≤ (s.fr.length : Int) ∧ (s.fr.length : Int) < ((s.fr ++ (s.pe.length : Int) :: pairs s.pe).length : Int) := by
    simp
    omega
  simp only [if_pos h1, Int.toNat_natCast, List.drop_left, List.take_left]
  rw [if_pos (by rw [pairs_length]; omega), unpairs_pairs]
/-- What was parsed has just these numbers. -/
theorem nums_parse {l : List Int} {s : SS} (h : parse l = some s) : s.nums = l := by
  unfold parse at h
  split at h
  · rename_i h0 n r
    split at h
    · rename_i hn
      split at h
      · rename_i m q hq
        split at h
        · rename_i hl
          obtain rfl := Option.some.inj h
          have hm : 0 ≤ m := by omega
          unfold SS.nums
          have e1 : (((r.take n.toNat).length : Nat) : Int) = n := by
            rw [List.length_take]
            omega
          have e2 : (((unpairs q).length : Nat) : Int) = m := by
            rw [unpairs_length m.toNat q (by omega)]
            omega
          show h0 :: (((r.take n.toNat).length : Nat) : Int) :: (r.take n.toNat ++ (((unpairs q).length : Nat) : Int) :: pairs (unpairs q)) = h0 :: n :: r
          rw [e1, e2, pairs_unpairs m.toNat q (by omega), ← hq, List.take_append_drop]
        · cases h
      · cases h
    · cases h
  · cases h

theorem cut_flat {m : Nat} (hm : 0 < m) : ∀ (g : Nat) (l : List Int), l.length ≤ g → (cut m g l).flatten = l
  | 0, [], _ => rfl
  | 0, _ :: _, h => absurd h (by simp)
  | g + 1, l, h => by
    unfold cut
    split
    · rename_i e
      rw [e]
      rfl
    · rename_i hne
      rw [List.flatten_cons, cut_flat hm g (l.drop m) (by
        have : 0 < l.length := List.length_pos_iff.2 hne
        rw [List.length_drop]
        omega), List.take_append_drop]
end Go.Proofs.Ytlldmefjhgahdaa.SS
