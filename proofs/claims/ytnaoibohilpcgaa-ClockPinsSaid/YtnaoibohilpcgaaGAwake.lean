/-
  The head of all laws of layer 6, awake, answers true.
-/
import Derived.Test.YtnaoibohilpcgaaGLive
namespace Go.Proofs.Ytnaoibohilpcgaa
open Go.RowKit

def g0 : CS := CS.new 3
def g1 : CS := g0.useS 0
def g2 : CS := g1.pinS 1
def g3 : CS := g2.vicS
def g4 : CS := g3.vicS

theorem aw1 : g0.useE 0 = 0 := by decide
theorem aw2 : g1.useE 1 = 0 := by decide
theorem aw3 : g2.vicI = 2 := by decide
theorem aw4 : g2.vicE = 0 := by decide
theorem aw5 : g3.h = 0 := by decide
theorem aw6 : g3.vicI = 0 := by decide
theorem aw7 : g3.vicE = 0 := by decide
theorem aw8 : g4.unE 0 = 1 := by decide
theorem aw9 : (g4.unS 0).n = 3 := by decide
theorem awM : g1.Max 9223372036854775806 := ((CS.new_max 3).use 0).up (by omega)

set_option maxRecDepth 20000 in
set_option maxHeartbeats 1600000 in
theorem awake_any (w : World) :
    Calls Try.prog 9 #[] w fun e w' => e = .returned (.bool true) ∧ Below w.heap.size w w' := by
  go_enter Try.func9, Try.ntmps9
  go_wp2_with fail
  refine (new_live (W := w) w 3 (by omega) (by omega) (Below.refl _ _)).mono ?_
  rintro e w1 ⟨db, pb, rfl, hv1, -, -, -⟩
  have HV1 := Lib.hid hv1
  clear hv1
  go_wp2_with fail
  refine (use_live (W := w) _ 0 HV1.out).mono ?_
  rintro e w2 ⟨rfl, hv2⟩
  have HV2 : Hid (CLive w w2 db pb g1) := hv2
  rw [show (CS.new 3).useE 0 = 0 from aw1]
  clear hv2 HV1
  go_wp2_with fail
  refine (pin_live (W := w) _ 1 awM HV2.out).mono ?_
  rintro e w3 ⟨rfl, hv3⟩
  have HV3 : Hid (CLive w w3 db pb g2) := hv3
  rw [aw2]
  clear hv3 HV2
  go_wp2_with fail
  refine (victim_live (W := w) _ HV3.out).mono ?_
  rintro e w4 ⟨rfl, hv4⟩
  have HV4 : Hid (CLive w w4 db pb g3) := hv4
  rw [aw3, aw4]
  clear hv4 HV3
  go_wp2_with fail
  refine (hand_any _ HV4.out.ck).mono ?_
  rintro e w' ⟨rfl, rfl⟩
  rw [aw5]
  go_wp2_with fail
  refine (victim_live (W := w) _ HV4.out).mono ?_
  rintro e w5 ⟨rfl, hv5⟩
  have HV5 : Hid (CLive w w5 db pb g4) := hv5
  rw [aw6, aw7]
  clear hv5 HV4
  go_wp2_with fail
  refine (new_bad _ 0 (by omega)).mono ?_
  rintro e w' ⟨rfl, rfl⟩
  go_wp2_with fail
  refine (unpin_live (W := w) _ 0 HV5.out).mono ?_
  rintro e w6 ⟨rfl, hv6⟩
  have HV6 := Lib.hid hv6
  rw [aw8]
  clear hv6 HV5
  go_wp2_with fail
  refine (pins_live (W := w) _ HV6.out).mono ?_
  rintro e w7 ⟨b, rfl, -, -, -, hv7, -⟩
  have HV7 := Lib.hid hv7
  rw [aw9]
  clear hv7 HV6
  go_wp2_with fail
  refine (used_live (W := w) _ HV7.out).mono ?_
  rintro e w8 ⟨b', rfl, -, -, -, hv8, -⟩
  have HV8 := Lib.hid hv8
  rw [aw9]
  clear hv8 HV7
  go_wp2_with fail
  go_ret
  exact ⟨rfl, HV8.out.below⟩
end Go.Proofs.Ytnaoibohilpcgaa
