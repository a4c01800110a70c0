/-
  The head of all laws of layer 5, awake, answers true.
-/
import Derived.Test.YtpihblbpmmdmmaaFUnp
import Derived.Test.YtpihblbpmmdmmaaFRead
import Derived.Test.YtpihblbpmmdmmaaFNum
namespace Go.Proofs.Ytpihblbpmmdmmaa
open Go.RowKit

theorem aw_pack (w : World) (n : Nat) (hn : n = w.heap.size) :
    Calls Try.prog 12 #[.int .i64 2, .int .i64 5, .slice (some ⟨n, 0, none⟩) 1 1] (w.alloc (.cells #[.int .u8 97] 5))
      fun e w' => ∃ A c, e = .returned (.tuple #[.slice A 12 c, .int .i64 0]) ∧ 12 ≤ c ∧ Hid (Bys w' w'.heap.size A (frm 2 5 [97])) ∧ Below w.heap.size w w' := by
  subst hn
  have hb : Bys (w.alloc (.cells #[.int .u8 97] 5)) (w.heap.size + 1) (some ⟨w.heap.size, 0, none⟩) [97] := bys_new w [97] 5
  refine (pack_all 2 5 _ 1 1 [97] _ rfl hb (fun e => by cases e)).mono ?_
  rintro e w' ⟨v, rfl, ho, hbl⟩
  rw [packB, if_pos awake_frame] at ho
  rw [packE, if_pos awake_frame]
  obtain ⟨A, c, rfl, hl, hc, _, hr⟩ := Bys.of_own ho
  rw [frm_length] at hc ⊢
  exact ⟨A, c, rfl, hc, hr, (below_one w _).trans (hbl.mono (by simp))⟩

theorem aw_unp5 {R : Nat} (w : World) (A : Option Addr) (c : Nat) (hc : 12 ≤ c) (h : Bys w R A (frm 2 5 [97])) :
    Calls Try.prog 14 #[.int .i64 5, .slice A 12 c] w
      fun e w' => ∃ g c', e = .returned (.tuple #[.int .i64 2, .slice (some ⟨g, 0, none⟩) 1 c', .int .i64 0]) ∧ w'.cell? ⟨g, 0, none⟩ = some (.int .u8 97) ∧ Below w.heap.size w w' := by
  refine (unp_all 5 A 12 c _ w (by rw [frm_length]; rfl) h hc (by omega)).mono ?_
  rintro e w' ⟨v, rfl, ho, hb⟩
  have hf : IsF 5 (frm 2 5 [97]) := isF_frm awake_frame
  rw [unpB, if_pos hf, frm_dat] at ho
  rw [unpK, unpE, if_pos hf, if_pos hf, frm_kin (by omega) (by omega)]
  obtain ⟨g, cap, z, rfl, hz, hcell, _⟩ := own_store (k := 0) ho (by simp)
  obtain rfl : (97 : UInt8) = z := by simpa using hz
  exact ⟨g, cap, rfl, hcell, hb⟩

theorem aw_unp6 {R : Nat} (w : World) (A : Option Addr) (c : Nat) (hc : 12 ≤ c) (h : Bys w R A (frm 2 5 [97])) :
    Calls Try.prog 14 #[.int .i64 6, .slice A 12 c] w
      fun e w' => ∃ v, e = .returned (.tuple #[.int .i64 0, v, .int .i64 50]) ∧ Below w.heap.size w w' := by
  refine (unp_all 6 A 12 c _ w (by rw [frm_length]; rfl) h hc (by omega)).mono ?_
  rintro e w' ⟨v, rfl, ho, hb⟩
  have hf : ¬ IsF 6 (frm 2 5 [97]) := fun hf => by
    have := isF_place awake_frame hf
    omega
  rw [unpK, unpE, if_neg hf, if_neg hf]
  exact ⟨v, rfl, hb⟩

theorem aw_pack0 (w : World) : Calls Try.prog 12 #[.int .i64 0, .int .i64 5, .slice none 0 0] w
      fun e w' => ∃ v, e = .returned (.tuple #[v, .int .i64 1]) ∧ Below w.heap.size w w' := by
  refine (pack_all (R := 0) 0 5 none 0 0 [] w rfl (Bys.nil _ _ _) (fun _ => ⟨rfl, rfl⟩)).mono ?_
  rintro e w' ⟨v, rfl, ho, hb⟩
  have hf : ¬ FOk 0 5 ([] : List UInt8).length := fun hf => by
    have := hf.1
    omega
  rw [packE, if_neg hf]
  exact ⟨v, rfl, hb⟩

theorem aw_numbers (w : World) (n : Nat) (hn : n = w.heap.size) :
    Calls Try.prog 19 #[.slice (some ⟨n, 0, none⟩) 2 2] (w.alloc (.cells #[.int .i64 1, .int .i64 258] 3))
      fun e w' => ∃ g c, e = .returned (.slice (some ⟨g, 0, none⟩) 8 c) ∧ w'.cell? ⟨g, 3, none⟩ = some (.int .u8 1) ∧ w'.cell? ⟨g, 6, none⟩ = some (.int .u8 1) ∧ w'.cell? ⟨g, 7, none⟩ = some (.int .u8 2) ∧ Below w.heap.size w w' := by
  subst hn
  have hz : Ints (w.alloc (.cells #[.int .i64 1, .int .i64 258] 3)) (some ⟨w.heap.size, 0, none⟩) [1, 258] := by
    refine Or.inr ⟨w.heap.size, 0, rfl, fun i z hz => ?_⟩
    rw [Nat.zero_add, cell_of_row _ w.heap.size i _ _ (0, 0) (heap_alloc_new w _)]
    match i, hz with
    | 0, hz => obtain rfl : (1 : Int) = z := by simpa using hz
               rfl
    | 1, hz => obtain rfl : (258 : Int) = z := by simpa using hz
               rfl
  refine (numbers_n _ 2 2 [1, 258] _ hz rfl (by omega)).mono ?_
  rintro e w' ⟨v, rfl, ho, hb⟩
  rw [awake_numB] at ho
  obtain ⟨g, cap, z, e, hz, hc, _⟩ := own_store (k := 3) ho (by simp)
  obtain ⟨g', cap', z', e', hz', hc', _⟩ := own_store (k := 6) ho (by simp)
  obtain ⟨g'', cap'', z'', e'', hz'', hc'', _⟩ := own_store (k := 7) ho (by simp)
  subst e
  have h1 : g = g' := by injection e' with h; injection h with h; injection h
  have h2 : g = g'' := by injection e'' with h; injection h with h; injection h
  subst h1
  subst h2
  obtain rfl : (1 : UInt8) = z := by simpa using hz
  obtain rfl : (1 : UInt8) = z' := by simpa using hz'
  obtain rfl : (2 : UInt8) = z'' := by simpa using hz''
  exact ⟨g, cap, rfl, hc, hc', hc'', (below_one w _).trans (hb.mono (by simp))⟩

theorem aw_read (w : World) (n : Nat) (hn : n = w.heap.size) :
    Calls Try.prog 16 #[.slice (some ⟨n, 0, none⟩) 1 1] (w.alloc (.cells #[.int .u8 1] 5))
      fun e w' => ∃ v, e = .returned (.tuple #[v, .int .i64 50]) ∧ Below w.heap.size w w' := by
  subst hn
  have hb : Bys (w.alloc (.cells #[.int .u8 1] 5)) (w.heap.size + 1) (some ⟨w.heap.size, 0, none⟩) [1] := bys_new w [1] 5
  refine (read_any _ 1 1 [1] _ rfl hb (by omega) (by omega)).mono ?_
  rintro e w' ⟨v, rfl, ho, hbl⟩
  exact ⟨v, rfl, (below_one w _).trans (hbl.mono (by simp))⟩

set_option maxHeartbeats 3200000 in
theorem awake_any (w : World) :
    Calls Try.prog 11 #[] w fun e w' => e = .returned (.bool true) ∧ Below w.heap.size w w' := by
  go_enter Try.func11, Try.ntmps11
  go_wp2_with fail
  refine (aw_pack _ _ rfl).mono ?_
  rintro e w1 ⟨A, c, rfl, hc, hr, b1⟩
  have B1 := Lib.hid b1
  clear b1
  go_wp2_with fail
  refine (aw_unp5 _ A c hc hr.out).mono ?_
  rintro e w2 ⟨g, c2, rfl, c5, b2⟩
  have R2 := Lib.hid (hr.out.kept b2)
  have B2 : Hid (Below w.heap.size w w2) := B1.out.trans (b2.mono B1.out.size)
  have C2 := Lib.hid c5
  clear hr B1 b2 c5
  go_wp2_with fail
  refine (aw_unp6 _ A c hc R2.out).mono ?_
  rintro e w3 ⟨v3, rfl, b3⟩
  have B3 : Hid (Below w.heap.size w w3) := B2.out.trans (b3.mono B2.out.size)
  have C3 := Lib.hid ((b3.cell (p := ⟨g, 0, none⟩) (World.block_lt_of_cell? _ _ C2.out)).trans C2.out)
  clear R2 B2 b3 C2
  go_wp2_with fail
  refine (aw_pack0 _).mono ?_
  rintro e w4 ⟨v4, rfl, b4⟩
  have B4 : Hid (Below w.heap.size w w4) := B3.out.trans (b4.mono B3.out.size)
  have C4 := Lib.hid ((b4.cell (p := ⟨g, 0, none⟩) (World.block_lt_of_cell? _ _ C3.out)).trans C3.out)
  clear B3 b4 C3
  go_wp2_with fail
  refine (aw_numbers _ _ rfl).mono ?_
  rintro e w5 ⟨gn, cn, rfl, n3, n6, n7, b5⟩
  have B5 : Hid (Below w.heap.size w w5) := B4.out.trans (b5.mono B4.out.size)
  have C5 := Lib.hid ((b5.cell (p := ⟨g, 0, none⟩) (World.block_lt_of_cell? _ _ C4.out)).trans C4.out)
  have N5 := Lib.hid (And.intro n3 (And.intro n6 n7))
  clear B4 b5 C4 n3 n6 n7
  go_wp2_with fail
  refine (aw_read _ _ rfl).mono ?_
  rintro e w6 ⟨v6, rfl, b6⟩
  have B6 : Hid (Below w.heap.size w w6) := B5.out.trans (b6.mono B5.out.size)
  have C6 := (b6.cell (p := ⟨g, 0, none⟩) (World.block_lt_of_cell? _ _ C5.out)).trans C5.out
  have n3 := (b6.cell (p := ⟨gn, 3, none⟩) (World.block_lt_of_cell? _ _ N5.out.1)).trans N5.out.1
  have n6 := (b6.cell (p := ⟨gn, 6, none⟩) (World.block_lt_of_cell? _ _ N5.out.2.1)).trans N5.out.2.1
  have n7 := (b6.cell (p := ⟨gn, 7, none⟩) (World.block_lt_of_cell? _ _ N5.out.2.2)).trans N5.out.2.2
  clear B5 b6 C5 N5
  go_wp2_with fail
  go_ret
  exact ⟨rfl, B6.out⟩
end Go.Proofs.Ytpihblbpmmdmmaa
