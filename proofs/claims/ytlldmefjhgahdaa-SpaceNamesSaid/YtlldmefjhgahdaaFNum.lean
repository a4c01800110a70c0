/-
  What frame.Numbers comes to, and the document's own Numbers, with four.
-/
import Derived.Test.YtlldmefjhgahdaaFLayB
import Derived.Test.YtlldmefjhgahdaaInts
namespace Go.Proofs.Ytlldmefjhgahdaa
open Go.RowKit

set_option maxRecDepth 20000 in
set_option maxHeartbeats 800000 in
theorem numbers_any (A : Option Addr) (c : Nat) (zs : List Int) (w : World) (hz : Ints w A zs) (hn : zs.length ≤ 200000) :
    Calls Try.prog 49 #[.slice A zs.length c] w (Owned w.heap.size w (numB zs)) := by
  have HZ := Lib.hid hz
  clear hz
  go_enter Try.func49, Try.ntmps49
  go_wp2_with fail
  refine (layer_any _ _).mono ?_
  rintro e w1 ⟨rfl, rfl⟩
  have L0 := Lib.hid (lay_start w 59 80)
  have B0 := Lib.hid (below_two w (.cells #[.slice none 0 0] 59) (.cells #[.pointer (some ⟨w.heap.size, 0, none⟩)] 80))
  go_wp2_with fail
  generalize (w.alloc (.cells #[.slice none 0 0] 59)).alloc (.cells #[.pointer (some ⟨w.heap.size, 0, none⟩)] 80) = w0 at *
  go_loopw [10] (fun i wr => ∃ k : Nat, k ≤ zs.length ∧ i = .int .i64 k ∧ Hid (LayAt wr w.heap.size w.heap.size (w.heap.size + 1) (w.heap.size + 2) (numB (zs.take k))) ∧ Hid (Below w.heap.size w wr)) (fun i _ => zs.length - (intOf i).toNat)
  case atStart => exact ⟨0, Nat.zero_le _, rfl, L0, B0⟩
  case round =>
    obtain ⟨k, hk, rfl, L1, B1⟩ := hrel
    by_cases hlt : k < zs.length
    · obtain ⟨b, off, z, rfl, hv, c0⟩ := (HZ.out.below B1.out).at_ hlt
      have HV := Lib.hid (numB_take hv)
      have hl : Hid ((numB (zs.take k)).length ≤ 1000000) := by
        rw [numB_length, List.length_take]
        exact Lib.hid (by omega)
      clear hv
      go_wp2_with fail
      rw [← mod32_cast]
      refine (lay4 (mod32 z) (mod32_lt z) _ w.heap.size w.heap.size _ (w.heap.size + 2) _ L1.out hl.out).mono ?_
      rintro e w1 ⟨rfl, l1, b1⟩
      rw [be_four, ← HV.out] at l1
      have L2 := Lib.hid l1
      have B2 := Lib.hid (B1.out.trans b1)
      clear l1 b1 L1 B1 hl HV
      go_wp2_with fail
      go_roundw
      case rel => exact ⟨k + 1, by omega, by go_num, L2, B2⟩
      case measure => simp [intOf]; omega
    · obtain rfl : k = zs.length := by omega
      rw [List.take_length] at L1
      obtain ⟨v, c1, o1⟩ := L1.out.cf
      have O1 := Lib.hid o1
      clear o1
      go_wp2_with fail
      go_ret
      exact ⟨v, rfl, own_low O1.out (by omega), B1.out⟩

set_option maxRecDepth 20000 in
/-- What a caller of Numbers wants. -/
theorem numbers_n (A : Option Addr) (n c : Nat) (zs : List Int) (w : World) (hz : Ints w A zs) (hl : zs.length = n) (hn : n ≤ 200000) :
    Calls Try.prog 49 #[.slice A n c] w (Owned w.heap.size w (numB zs)) := by
  subst hl
  exact numbers_any A c zs w hz hn

/-! ### The document's own -/

theorem four_cells {x : Nat} (hx : x < 4294967296) : #[Value.int .u8 ((x : Int) / 16777216), .int .u8 ((x : Int) / 65536 % 256), .int .u8 ((x : Int) / 256 % 256), .int .u8 ((x : Int) % 256)] = (bv (be4 x)).toArray := by
  show _ = #[Value.int .u8 ((UInt8.ofNat (x / 16777216)).toNat : Int), .int .u8 ((UInt8.ofNat (x / 65536)).toNat : Int), .int .u8 ((UInt8.ofNat (x / 256)).toNat : Int), .int .u8 ((UInt8.ofNat x).toNat : Int)]
  rw [ofNat_toNat, ofNat_toNat, ofNat_toNat, ofNat_toNat]
  simp only [Array.mk.injEq, List.cons.injEq, Value.int.injEq, and_true, true_and]
  omega

set_option maxRecDepth 20000 in
set_option maxHeartbeats 400000 in
theorem four_any (x : Nat) (hx : x < 4294967296) (w : World) :
    Calls Try.prog 59 #[.int .u32 (x : Int)] w fun e w' => e = .returned (.slice (some ⟨w.heap.size, 0, none⟩) 4 4) ∧ w' = w.alloc (.cells (bv (be4 x)).toArray 5) := by
  have HC := Lib.hid (four_cells hx)
  go_enter Try.func59, Try.ntmps59
  go_wp2_with fail
  go_ret
  refine ⟨rfl, ?_⟩
  rw [← HC.out]

set_option maxRecDepth 20000 in
set_option maxHeartbeats 800000 in
theorem refNumbers_any (A : Option Addr) (c : Nat) (zs : List Int) (w : World) (hz : Ints w A zs) (hn : zs.length ≤ 200000) :
    Calls Try.prog 50 #[.slice A zs.length c] w (Owned w.heap.size w (numB zs)) := by
  obtain ⟨i0, hi, hz0, hz1, hz2⟩ := info_parts byteInfo
  have HZ := Lib.hid hz
  clear hz
  go_enter Try.func50, Try.ntmps50
  go_wp2_with fail
  go_loopw [3, 4] (fun v i wr => ∃ k : Nat, k ≤ zs.length ∧ i = .int .i64 k ∧ Hid (Own wr w.heap.size v (numB (zs.take k))) ∧ Hid (Below w.heap.size w wr)) (fun _ i _ => zs.length - (intOf i).toNat)
  case atStart => exact ⟨0, Nat.zero_le _, rfl, Lib.hid (own_nil _ _), Lib.hid (Below.refl _ _)⟩
  case round =>
    obtain ⟨k, hk, rfl, O1, B1⟩ := hrel
    by_cases hlt : k < zs.length
    · obtain ⟨b, off, z, rfl, hv, c0⟩ := (HZ.out.below B1.out).at_ hlt
      have HV := Lib.hid (numB_take hv)
      obtain ⟨N, hN⟩ : ∃ N, (numB (zs.take k)).length = N := ⟨_, rfl⟩
      have hNs : N ≤ 1000000 := by rw [← hN, numB_length, List.length_take]; omega
      have HN := Lib.hid hN
      clear hv hN
      go_wp2_with fail
      rw [← mod32_cast]
      refine (four_any (mod32 z) (mod32_lt z) _).mono ?_
      rintro e w1 ⟨rfl, rfl⟩
      have o2 : (wr.alloc (.cells (bv (be4 (mod32 z))).toArray 5)).ownsRow w.heap.size 5 1 u3 N (bv (numB (zs.take k))) := by
        have := World.ownsRow.alloc O1.out (.cells (bv (be4 (mod32 z))).toArray 5)
        rw [HN.out] at this
        exact this
      have hnew : Hid (∀ j u, (bv (be4 (mod32 z)))[j]? = some u → (wr.alloc (.cells (bv (be4 (mod32 z))).toArray 5)).cell? ((⟨wr.heap.size, 0, none⟩ : Addr).add j) = some u) := (bys_new wr (be4 (mod32 z)) 5).cells
      have B2 := Lib.hid (B1.out.alloc B1.out.size (.cells (bv (be4 (mod32 z))).toArray 5))
      have b2 := B2.out.size
      go_wp2_with (at_builtin; refine wpList_append_own _ rfl (.tmp 11) (.tmp 17) 59 rfl w.heap.size 5 i0 (.int .u8 0) 1 1 Try.underlying59 hi hz0 hz1 hz2 rfl (by decide) _ _ _ rfl o2 ⟨wr.heap.size, 0, none⟩ 4 4 (bv (be4 (mod32 z))) rfl rfl hnew.out (bv_one _) (by unfold maxLen; omega) (by omega) (by omega) ?_; intro v3 w3 hown3 hg3 _)
      have B3 := Lib.hid (B2.out.grown hg3 b2 (fun g hg => (o2.lt g hg).1))
      have O3 : Hid (Own w3 w.heap.size v3 (numB (zs.take (k + 1)))) := by
        rw [HV.out]
        unfold Own
        rw [List.length_append, HN.out, bv_append]
        exact Lib.hid hown3
      clear hg3 hown3 hnew B2 b2 o2 HV HN O1 B1
      go_roundw
      case rel => exact ⟨k + 1, by omega, by go_num, O3, B3⟩
      case measure => simp [intOf]; omega
    · obtain rfl : k = zs.length := by omega
      rw [List.take_length] at O1
      go_wp2_with fail
      go_ret
      exact ⟨_, rfl, O1.out, B1.out⟩

set_option maxRecDepth 20000 in
theorem refNumbers_n (A : Option Addr) (n c : Nat) (zs : List Int) (w : World) (hz : Ints w A zs) (hl : zs.length = n) (hn : n ≤ 200000) :
    Calls Try.prog 50 #[.slice A n c] w (Owned w.heap.size w (numB zs)) := by
  subst hl
  exact refNumbers_any A c zs w hz hn
end Go.Proofs.Ytlldmefjhgahdaa
