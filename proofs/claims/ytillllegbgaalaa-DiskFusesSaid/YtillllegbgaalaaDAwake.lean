/-
  The head of all laws of layer 4, awake, answers true.
-/
import Derived.Test.YtillllegbgaalaaDLive
namespace Go.Proofs.Ytillllegbgaalaa
open Go.RowKit Go.Maps

def a0 : PS := PS.new 4
def a1 : PS := a0.written 1 [7]
def a2 : PS := a1.restarted []
def a3 : PS := a2.fusing 1
def a4 : PS := a3.written 1 [8]
def a5 : PS := a4.written 2 [9]
def a6 : PS := a5.restarted [1]

theorem aw1 : a0.writeE 1 [7] = 0 := by decide
theorem aw2 : a1.readB 1 = [7] := by decide
theorem aw3 : a1.readE 1 = 0 := by decide
theorem aw4 : a2.readB 1 = [] := by decide
theorem aw5 : a2.readE 1 = 0 := by decide
theorem aw6 : a3.writeE 1 [8] = 0 := by decide
theorem aw7 : a4.writeE 2 [9] = 40 := by decide
theorem aw8 : a5.down = true := by decide
theorem aw9 : a6.readB 1 = [8] := by decide
theorem aw10 : a6.readE 1 = 0 := by decide
theorem aw11 : a6.size = 4 := by decide

set_option maxRecDepth 20000 in
set_option maxHeartbeats 1600000 in
theorem awake_any (w : World) :
    Calls Try.prog 9 #[] w fun e w' => e = .returned (.bool true) ∧ Below w.heap.size w w' := by
  go_enter Try.func9, Try.ntmps9
  go_wp2_with fail
  refine (new_live (W := w) w 4 (by omega) (by omega) (Below.refl _ _)).mono ?_
  rintro e w1 ⟨db, F1, rfl, hv1, -, -⟩
  have HV1 := Lib.hid hv1
  clear hv1
  go_wp2_with fail
  refine (write_live (W := w) _ 1 (by omega) (by omega) _ 1 1 [7] rfl (HV1.out.out_new [7] 5) (fun h => by cases h) (HV1.out.alloc _)).mono ?_
  rintro e w2 ⟨rfl, F2, hv2, -⟩
  have HV2 : Hid (Live w F2 w2 db a1) := hv2
  rw [show (PS.new 4).writeE 1 [7] = 0 from aw1]
  clear hv2 HV1
  go_wp2_with fail
  refine (read_live (W := w) _ 1 (by omega) (by omega) HV2.out).mono ?_
  rintro e w3 ⟨A1, c1, rfl, ho3, hv3, -⟩
  rw [aw3, show (a1.readB 1).length = 1 from by rw [aw2]; rfl]
  rw [aw2] at ho3
  have HO3 := Lib.hid ho3
  have HV3 := Lib.hid hv3
  clear ho3 hv3 HV2
  go_wp2_with fail
  refine (restart_live (W := w) _ none 0 0 [] rfl (by omega) (Or.inl rfl) HV3.out).mono ?_
  rintro e w4 ⟨rfl, F4, hv4, hm4⟩
  have HV4 : Hid (Live w F4 w4 db a2) := hv4
  have HO4 := Lib.hid (hm4.out HO3.out)
  clear hv4 hm4 HO3 HV3
  go_wp2_with fail
  refine (read_live (W := w) _ 1 (by omega) (by omega) HV4.out).mono ?_
  rintro e w5 ⟨A2, c2, rfl, -, hv5, hm5⟩
  rw [aw5, show (a2.readB 1).length = 0 from by rw [aw4]; rfl]
  have HV5 := Lib.hid hv5
  have HO5 := Lib.hid (hm5.out HO4.out)
  clear hv5 hm5 HO4 HV4
  go_wp2_with fail
  refine (fuse_live (W := w) _ 1 (by omega) (by omega) HV5.out).mono ?_
  rintro e w6 ⟨rfl, F6, hv6, hm6⟩
  have HV6 : Hid (Live w F6 w6 db a3) := hv6
  have HO6 := Lib.hid (hm6.out HO5.out)
  clear hv6 hm6 HO5 HV5
  go_wp2_with fail
  refine (write_live (W := w) _ 1 (by omega) (by omega) _ 1 1 [8] rfl (HV6.out.out_new [8] 5) (fun h => by cases h) (HV6.out.alloc _)).mono ?_
  rintro e w7 ⟨rfl, F7, hv7, hm7⟩
  have HV7 : Hid (Live w F7 w7 db a4) := hv7
  have HO7 := Lib.hid (hm7.out ((Moves.of_below (below_one _ _)).out HO6.out))
  rw [aw6]
  clear hv7 hm7 HO6 HV6
  go_wp2_with fail
  refine (write_live (W := w) _ 2 (by omega) (by omega) _ 1 1 [9] rfl (HV7.out.out_new [9] 5) (fun h => by cases h) (HV7.out.alloc _)).mono ?_
  rintro e w8 ⟨rfl, F8, hv8, hm8⟩
  have HV8 : Hid (Live w F8 w8 db a5) := hv8
  have HO8 := Lib.hid (hm8.out ((Moves.of_below (below_one _ _)).out HO7.out))
  rw [aw7]
  clear hv8 hm8 HO7 HV7
  go_wp2_with fail
  refine (down_any _ HV8.out.dk).mono ?_
  rintro e w' ⟨rfl, rfl⟩
  rw [aw8]
  go_wp2_with fail
  refine (restart_live (W := w) _ _ 1 1 [1] rfl (by omega) (HV8.out.outN_one 1 (by omega) (by omega) 3) (HV8.out.alloc _)).mono ?_
  rintro e w9 ⟨rfl, F9, hv9, hm9⟩
  have HV9 : Hid (Live w F9 w9 db a6) := hv9
  have HO9 := Lib.hid (hm9.out ((Moves.of_below (below_one _ _)).out HO8.out))
  clear hv9 hm9 HO8 HV8
  go_wp2_with fail
  refine (read_live (W := w) _ 1 (by omega) (by omega) HV9.out).mono ?_
  rintro e w10 ⟨A3, c3, rfl, ho10, hv10, hm10⟩
  rw [aw10, show (a6.readB 1).length = 1 from by rw [aw9]; rfl]
  rw [aw9] at ho10
  obtain ⟨b1, o1, rfl, k1⟩ := (hm10.out HO9.out).first
  obtain ⟨b2, o2, rfl, k2⟩ := ho10.first
  have HV10 := Lib.hid hv10
  clear hv10 hm10 ho10 HO9 HV9
  go_wp2_with fail
  refine (size_any _ HV10.out.dk).mono ?_
  rintro e w' ⟨rfl, rfl⟩
  rw [aw11]
  go_wp2_with fail
  go_ret
  exact ⟨rfl, HV10.out.below⟩
end Go.Proofs.Ytillllegbgaalaa
