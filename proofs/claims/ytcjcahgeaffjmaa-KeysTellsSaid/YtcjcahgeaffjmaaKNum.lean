/-
  What the reader's method number comes to.
-/
import Derived.Test.YtcjcahgeaffjmaaKRead
import Derived.Deep.LoopGhost
import Derived.Lib.EndianBits
namespace Go.Proofs.Ytcjcahgeaffjmaa
open Go.RowKit

/-- The three cells of a value, that may be written. -/
def Val3 (w : World) (b : Nat) (k n : Int) (s : ByteArray) : Prop :=
  w.cell? ⟨b, 0, none⟩ = some (.int .i64 k) ∧ w.cell? ⟨b, 1, none⟩ = some (.int .i64 n) ∧ w.cell? ⟨b, 2, none⟩ = some (.string s) ∧
  w.frozen? ⟨b, 0, none⟩ = false ∧ w.frozen? ⟨b, 1, none⟩ = false ∧ w.frozen? ⟨b, 2, none⟩ = false

theorem Val3.grown {w w' : World} {b rb : Nat} {k n : Int} {s : ByteArray} (h : Val3 w b k n s) (hg : w.grownBy w' (some rb)) (hne : b ≠ rb) : Val3 w' b k n s := by
  obtain ⟨h0, h1, h2, h3, h4, h5⟩ := h
  have hb : w'.heap[b]? = w.heap[b]? := hg.block b (World.block_lt_of_cell? _ _ h0) (fun e => hne (Option.some.inj e))
  exact ⟨(World.cell?_of_block (a := ⟨b, 0, none⟩) hb).trans h0, (World.cell?_of_block (a := ⟨b, 1, none⟩) hb).trans h1, (World.cell?_of_block (a := ⟨b, 2, none⟩) hb).trans h2,
    (World.frozen?_of_block (a := ⟨b, 0, none⟩) hb).trans h3, (World.frozen?_of_block (a := ⟨b, 1, none⟩) hb).trans h4, (World.frozen?_of_block (a := ⟨b, 2, none⟩) hb).trans h5⟩

theorem Val3.new (w : World) (t : TypeId) (k n : Int) (s : ByteArray) : Val3 (w.alloc (.cells #[.int .i64 k, .int .i64 n, .string s] t)) w.heap.size k n s := by
  unfold Val3
  simp

theorem take_get {l : List UInt8} {j : Nat} (h : j < l.length) : ∃ z r, l.drop j = z :: r ∧ l.drop (j + 1) = r ∧ l.take (j + 1) = l.take j ++ [z] := by
  refine ⟨l[j], l.drop (j + 1), List.drop_eq_getElem_cons h, rfl, ?_⟩
  rw [List.take_succ_eq_append_getElem h]

theorem beN_small {l : List UInt8} {j : Nat} (h : j ≤ 7) : beN (l.take j) < 72057594037927936 := by
  have h1 := beN_lt (l.take j)
  have h2 : (l.take j).length ≤ 7 := by rw [List.length_take]; omega
  have h3 : 256 ^ (l.take j).length ≤ 256 ^ 7 := Nat.pow_le_pow_right (by omega) h2
  omega

theorem join_spell (n : Nat) (z : UInt8) (h : n < 72057594037927936) : bits .or .u64 (IntKind.u64.wrap ((n : Int) * 256)) (IntKind.u64.wrap (z.toNat : Int)) = ((n * 256 + z.toNat : Nat) : Int) := by
  have hz := byte_lt z
  rw [wraps_u64 _ (by omega) (by omega), wraps_u64 _ (by omega) (by omega)]
  rw [bits_join .u64 64 (by decide) wraps_u64 8 ((n : Int) * 256) (z.toNat : Int) (by omega) (by omega) (by omega) (by omega) (by omega) (by omega)]
  omega

theorem back_spell (u : Nat) (h : u < 18446744073709551616) : wrap64 (IntKind.u64.wrap ((u : Int) - 9223372036854775808)) = (u : Int) - 9223372036854775808 := by
  rw [IntKind.wrap_u64]
  unfold wrap64
  omega

theorem grown_set3 {w wr : World} {row : Option Nat} {b : Nat} (h : w.grownBy wr row) (hb : w.heap.size ≤ b) (x y z : Value) : w.grownBy (((wr.setCell ⟨b, 0, none⟩ x).setCell ⟨b, 1, none⟩ y).setCell ⟨b, 2, none⟩ z) row := by
  refine ⟨h.os, h.tape, h.output, by simpa [World.setCell] using h.size, fun k hk hr => ?_⟩
  rw [Below.heap_setCell _ ⟨b, 2, none⟩ z k (fun e => by simp only at e; omega), Below.heap_setCell _ ⟨b, 1, none⟩ y k (fun e => by simp only at e; omega), Below.heap_setCell _ ⟨b, 0, none⟩ x k (fun e => by simp only at e; omega)]
  exact h.block k hk hr

set_option maxHeartbeats 800000 in
theorem number_ok (rb : Nat) (l : List UInt8) (w : World) (h : Rdr w rb l) (hl : 8 ≤ l.length) :
    Calls Try.prog 39 #[.pointer (some ⟨rb, 0, none⟩)] w fun e w' =>
      e = .returned (.agg #[.int .i64 1, .int .i64 ((beN (l.take 8) : Int) - 9223372036854775808), .string ⟨#[]⟩]) ∧ Rdr w' rb (l.drop 8) ∧ w.grownBy w' (some rb) := by
  have hrb := h.lt
  go_enter Try.func39, Try.ntmps39
  go_wp2_with fail
  go_loopw [3, 4] (fun u i wr => ∃ j : Nat, j ≤ 8 ∧ i = .int .i64 j ∧ u = .int .u64 (beN (l.take j)) ∧ Rdr wr rb (l.drop j) ∧ Val3 wr w.heap.size 0 0 ⟨#[]⟩ ∧ w.grownBy wr (some rb)) (fun _ i _ => 8 - (intOf i).toNat)
  case atStart => exact ⟨0, by omega, rfl, rfl, h.alloc _, Val3.new _ _ _ _ _, World.grownBy_alloc _ _ _⟩
  case round =>
    obtain ⟨j, hj, rfl, rfl, h2, v2, g2⟩ := hrel
    by_cases hlt : j < 8
    · obtain ⟨z, r, e1, e2, e3⟩ := take_get (l := l) (j := j) (by omega)
      rw [e1] at h2
      have E2 := Lib.hid e2
      have E3 := Lib.hid e3
      clear e1 e2 e3
      go_wp2_with fail
      refine (next_some rb z r _ h2).mono ?_
      rintro e w3 ⟨rfl, h3, g3⟩
      have v3 := v2.grown g3 (by omega)
      have g3' := g2.trans g3
      clear g3 g2 v2 h2
      go_wp2_with fail
      go_roundw
      case rel =>
        refine ⟨j + 1, by omega, by go_num, ?_, by rw [E2.out]; exact h3, v3, g3'⟩
        rw [E3.out, beN_snoc, join_spell _ z (beN_small (by omega))]
      case measure => simp [intOf]; omega
    · obtain rfl : j = 8 := by omega
      obtain ⟨c0, c1, c2, f0, f1, f2⟩ := v2
      have hs := back_spell (beN (l.take 8)) (by have := beN_lt (l.take 8); have h8 : (l.take 8).length = 8 := by rw [List.length_take]; omega
                                                 rw [h8] at this; omega)
      have HS := Lib.hid hs
      clear hs
      go_wp2_with fail
      rw [HS.out]
      refine bodyPost_ret (v := .agg #[.int .i64 1, .int .i64 ((beN (l.take 8) : Int) - 9223372036854775808), .string ⟨#[]⟩]) (by simp [results, Try.results39, go_sem, c0, c1, c2]) rfl ⟨rfl, ?_, ?_⟩
      · exact h2.below (below_set3 (Below.refl _ _) (Nat.le_refl _) _ _ _) hrb
      · exact grown_set3 g2 (Nat.le_refl _) _ _ _

set_option maxHeartbeats 800000 in
theorem number_no (rb : Nat) (l : List UInt8) (w : World) (h : Rdr w rb l) (hl : l.length < 8) :
    Calls Try.prog 39 #[.pointer (some ⟨rb, 0, none⟩)] w fun e w' => e = .panicked nope ∧ w.grownBy w' (some rb) := by
  go_enter Try.func39, Try.ntmps39
  go_wp2_with fail
  go_loopw [3, 4] (fun u i wr => ∃ j : Nat, j ≤ l.length ∧ i = .int .i64 j ∧ u = .int .u64 (beN (l.take j)) ∧ Rdr wr rb (l.drop j) ∧ w.grownBy wr (some rb)) (fun _ i _ => 8 - (intOf i).toNat)
  case atStart => exact ⟨0, by omega, rfl, rfl, h.alloc _, World.grownBy_alloc _ _ _⟩
  case round =>
    obtain ⟨j, hj, rfl, rfl, h2, g2⟩ := hrel
    by_cases hlt : j < l.length
    · obtain ⟨z, r, e1, e2, e3⟩ := take_get (l := l) (j := j) (by omega)
      rw [e1] at h2
      have E2 := Lib.hid e2
      have E3 := Lib.hid e3
      clear e1 e2 e3
      go_wp2_with fail
      refine (next_some rb z r _ h2).mono ?_
      rintro e w3 ⟨rfl, h3, g3⟩
      have g3' := g2.trans g3
      clear g3 g2 h2
      go_wp2_with fail
      go_roundw
      case rel =>
        refine ⟨j + 1, by omega, by go_num, ?_, by rw [E2.out]; exact h3, g3'⟩
        rw [E3.out, beN_snoc, join_spell _ z (beN_small (by omega))]
      case measure => simp [intOf]; omega
    · obtain rfl : j = l.length := by omega
      rw [List.drop_length] at h2
      go_wp2_with fail
      refine (next_none rb _ h2).mono ?_
      rintro e w3 ⟨rfl, rfl⟩
      go_wp2_with fail
      exact ⟨rfl, rfl, g2⟩
end Go.Proofs.Ytcjcahgeaffjmaa
