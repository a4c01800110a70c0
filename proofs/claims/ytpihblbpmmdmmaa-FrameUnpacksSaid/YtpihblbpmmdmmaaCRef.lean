/-
  What the document's own answers for layer 3 come to.
-/
import Derived.Test.YtpihblbpmmdmmaaCMore
namespace Go.Proofs.Ytpihblbpmmdmmaa
open Go.RowKit

theorem crcR_spell {x : Nat} (h : x < 4294967296) (c : UInt8) : bits .xor .u32 (x : Int) ((c.toNat : Int) % 4294967296) = ((x ^^^ c.toNat : Nat) : Int) := by
  have hc := UInt8.toNat_lt c
  rw [show (c.toNat : Int) % 4294967296 = (c.toNat : Int) from by omega]
  exact u32_xor_nat x c.toNat h (by omega)

set_option maxHeartbeats 800000 in
theorem refMore_any (s : Nat) (hs : s < 4294967296) {R : Nat} (A : Option Addr) (c : Nat) (l : List UInt8) (w : World) (hby : Bys w R A l) (hn : l.length ≤ 1000000) :
    Calls Try.prog 30 #[.int .u32 (s : Int), .slice A l.length c] w fun e w' => e = .returned (.int .u32 ((crcM s l : Nat) : Int)) ∧ w = w' := by
  have hv := inv_lt hs
  have HE := Lib.hid (show crcM s l = inv (crcF (inv s) l) from rfl)
  have hsp := not_spell hs
  generalize inv s = v at *
  go_enter Try.func30, Try.ntmps30
  go_wp2_with fail
  clear hsp
  go_loopw [5, 6] (fun x i wr => ∃ k : Nat, k ≤ l.length ∧ i = .int .i64 k ∧ x = .int .u32 ((crcF v (l.take k) : Nat) : Int) ∧ wr = w) (fun _ i _ => l.length - (intOf i).toNat)
  case atStart => exact ⟨0, by omega, rfl, rfl, rfl⟩
  case round =>
    obtain ⟨k, hk, rfl, rfl, rfl⟩ := hrel
    by_cases hlt : k < l.length
    · obtain ⟨b, off, z, rfl, hb, hz, hc⟩ := hby.at_ hlt
      have HN := Lib.hid (crcF_take v hz)
      have hx := crcF_lt (l.take k) hv
      generalize crcF v (l.take k) = x at *
      have hix := crcR_spell hx z
      have hil : x ^^^ z.toNat < 4294967296 := xor_lt32 hx (by have := UInt8.toNat_lt z; omega)
      have HX := Lib.hid (show crcB x z = steps8 (x ^^^ z.toNat) from rfl)
      clear hz
      generalize x ^^^ z.toNat = y at *
      go_wp2_with fail
      refine (refSteps y hil _).mono ?_
      rintro e w1 ⟨rfl, rfl⟩
      go_wp2_with fail
      refine ⟨⟨k + 1, by omega, by go_num, ?_, trivial⟩, by simp [intOf]; omega⟩
      rw [HN.out, HX.out]
    · obtain rfl : k = l.length := by omega
      rw [List.take_length]
      have hx := crcF_lt l hv
      have HX := Lib.hid (not_spell hx)
      generalize crcF v l = x at *
      go_wp2_with fail
      go_ret
      refine ⟨ret_num ?_, rfl⟩
      rw [HX.out, HE.out]

theorem refMore_n (s : Nat) (hs : s < 4294967296) {R : Nat} (A : Option Addr) (n c : Nat) (l : List UInt8) (w : World) (h : Bys w R A l) (hl : l.length = n) (hn : n ≤ 1000000) :
    Calls Try.prog 30 #[.int .u32 (s : Int), .slice A n c] w fun e w' => e = .returned (.int .u32 ((crcM s l : Nat) : Int)) ∧ w = w' := by
  subst hl
  exact refMore_any s hs A c l w h hn

set_option maxHeartbeats 400000 in
theorem refSum_n {R : Nat} (A : Option Addr) (n c : Nat) (l : List UInt8) (w : World) (h : Bys w R A l) (hl : l.length = n) (hn : n ≤ 1000000) :
    Calls Try.prog 25 #[.slice A n c] w fun e w' => e = .returned (.int .u32 ((crcM 0 l : Nat) : Int)) ∧ w = w' := by
  have HM := Lib.hid (refMore_n 0 (by omega) A n c l w h hl hn)
  generalize crcM 0 l = x at *
  go_enter Try.func25, Try.ntmps25
  go_wp2_with fail
  refine HM.out.mono ?_
  rintro e w1 ⟨rfl, rfl⟩
  go_wp2_with fail
  go_ret
  exact ⟨rfl, rfl⟩
end Go.Proofs.Ytpihblbpmmdmmaa
