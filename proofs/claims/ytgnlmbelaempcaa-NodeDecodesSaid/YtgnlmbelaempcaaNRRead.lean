/-
  What the document's own kid and cut come to (package tailraceref10).
-/
import Derived.Test.YtgnlmbelaempcaaNRdMem
import Derived.Test.YtgnlmbelaempcaaNDec
import Derived.Test.YtgnlmbelaempcaaText
import Derived.Deep.QuietTactic
import Derived.BigQuiet
import Derived.IntWalk
namespace Go.Proofs.Ytgnlmbelaempcaa
open Go.RowKit

theorem nwrap_small {n : Int} (h0 : -9223372036854775808 ≤ n) (h1 : n ≤ 9223372036854775807) : wrap64 n = n := by
  unfold wrap64
  omega
theorem nsum_spell (x y z u : UInt8) : wrap64 (wrap64 (wrap64 (wrap64 (wrap64 (x.toNat : Int) * 16777216) + wrap64 (wrap64 (y.toNat : Int) * 65536)) + wrap64 (wrap64 (z.toNat : Int) * 256)) + wrap64 (u.toNat : Int)) = ((num4 x y z u : Nat) : Int) := by
  have := byte_lt x
  have := byte_lt y
  have := byte_lt z
  have := byte_lt u
  rw [nwrap_small (n := (x.toNat : Int)) (by omega) (by omega), nwrap_small (n := (y.toNat : Int)) (by omega) (by omega), nwrap_small (n := (z.toNat : Int)) (by omega) (by omega), nwrap_small (n := (u.toNat : Int)) (by omega) (by omega),
    nwrap_small (n := (x.toNat : Int) * 16777216) (by omega) (by omega), nwrap_small (n := (y.toNat : Int) * 65536) (by omega) (by omega), nwrap_small (n := (z.toNat : Int) * 256) (by omega) (by omega),
    nwrap_small (n := (x.toNat : Int) * 16777216 + (y.toNat : Int) * 65536) (by omega) (by omega), nwrap_small (n := (x.toNat : Int) * 16777216 + (y.toNat : Int) * 65536 + (z.toNat : Int) * 256) (by omega) (by omega),
    nwrap_small (n := (x.toNat : Int) * 16777216 + (y.toNat : Int) * 65536 + (z.toNat : Int) * 256 + (u.toNat : Int)) (by omega) (by omega)]
  unfold num4
  omega

/-- What kid answers. -/
def RKid (w : World) (R : Nat) (l : List UInt8) (e : Ending) (w' : World) : Prop :=
  ∃ (z : Int) (A : Option Addr) (n c : Nat) (r : List UInt8) (ok : Bool), e = .returned (.tuple #[.int .i64 z, .slice A n c, .bool ok]) ∧ r.length = n ∧ n ≤ c ∧ c ≤ maxLen ∧ Bys w' R A r ∧ Below w.heap.size w w' ∧ r.length ≤ l.length ∧
    ((ok = true ∧ ND.kidT l = some (z, r)) ∨ (ok = false ∧ ND.kidT l = none))
/-- What cut answers. -/
def RCut (w : World) (R : Nat) (l : List UInt8) (e : Ending) (w' : World) : Prop :=
  ∃ (s : ByteArray) (A : Option Addr) (n c : Nat) (r : List UInt8) (ok : Bool), e = .returned (.tuple #[.string s, .slice A n c, .bool ok]) ∧ r.length = n ∧ n ≤ c ∧ c ≤ maxLen ∧ Bys w' R A r ∧ Below w.heap.size w w' ∧ r.length ≤ l.length ∧
    ((ok = true ∧ ND.cutT l = some (s.toList, r)) ∨ (ok = false ∧ ND.cutT l = none))

theorem four_get {l : List UInt8} (h : 4 ≤ l.length) : ∃ x y z u, l[0]? = some x ∧ l[1]? = some y ∧ l[2]? = some z ∧ l[3]? = some u ∧ ND.kidT l = some (((num4 x y z u : Nat) : Int), l.drop 4) := by
  match l, h with
  | x :: y :: z :: u :: r, _ => exact ⟨x, y, z, u, rfl, rfl, rfl, rfl, rfl⟩
theorem bys_off {w : World} {R : Nat} {A : Option Addr} {l : List UInt8} (h : Bys w R A l) (hl : 0 < l.length) : ∃ b off, A = some ⟨b, off, none⟩ ∧ b < R ∧ ∀ i z, l[i]? = some z → w.cell? ⟨b, off + i, none⟩ = some (.int .u8 z.toNat) := by
  rcases h with rfl | h
  · simp at hl
  · exact h

set_option maxRecDepth 20000 in
set_option maxHeartbeats 3200000 in
theorem rkid_any {R : Nat} (A : Option Addr) (n c : Nat) (l : List UInt8) (w : World) (hl : l.length = n) (hr : Bys w R A l) (hnc : n ≤ c) (hm : c ≤ maxLen) :
    Calls Try.prog 38 #[.slice A n c] w (RKid w R l) := by
  by_cases h4 : n < 4
  · have HE : Hid (RKid w R l (.returned (.tuple #[.int .i64 0, .slice none 0 0, .bool false])) w) := Lib.hid ⟨0, none, 0, 0, [], false, rfl, rfl, Nat.le_refl _, Nat.zero_le _, Bys.nil _ _ _, Below.refl _ _, Nat.zero_le _, Or.inr ⟨rfl, kid_short (by omega)⟩⟩
    clear hl hr
    go_enter Try.func38, Try.ntmps38
    go_wp2_with fail
    go_ret3
    exact HE.out
  · obtain ⟨x, y, z, u, ex, ey, ez, eu, hk⟩ := four_get (l := l) (by omega)
    have HY := Lib.hid (bys_drop_any hr 4)
    obtain ⟨b, off, rfl, _, hc⟩ := bys_off hr (by omega)
    have cx := hc 0 x ex
    have cy := hc 1 y ey
    have cz := hc 2 z ez
    have cu := hc 3 u eu
    rw [Nat.add_zero] at cx
    have HK := Lib.hid hk
    have HM := Lib.hid hm
    have HDL : Hid ((l.drop 4).length = n - 4) := Lib.hid (by rw [List.length_drop, hl])
    have HLL : Hid ((l.drop 4).length ≤ l.length) := Lib.hid (by rw [List.length_drop]; omega)
    unfold maxLen at hm
    have j0 : (0 : Int) < (n : Int) := by omega
    have j1 : (1 : Int) < (n : Int) := by omega
    have j2 : (2 : Int) < (n : Int) := by omega
    have j3 : (3 : Int) < (n : Int) := by omega
    have j4 : (4 : Int) ≤ (n : Int) := by omega
    have j5 : (n : Int) ≤ (c : Int) := by omega
    by_cases hc4 : c = 4
    · obtain rfl : n = 4 := by omega
      subst hc4
      have HZ : Hid (l.drop 4 = []) := Lib.hid (List.drop_eq_nil_of_le (by omega))
      clear hl hr hc ex ey ez eu hk h4
      go_enter Try.func38, Try.ntmps38
      go_wp2_with fail
      go_quiet (fail)
      rw [nsum_spell]
      go_wp2_with fail
      go_ret3
      exact ⟨_, _, _, _, [], true, rfl, rfl, Nat.zero_le _, by unfold maxLen; omega, Bys.nil _ _ _, belowN (Below.refl _ _) _, Nat.zero_le _, Or.inl ⟨rfl, by rw [HK.out, HZ.out]⟩⟩
    · have j6 : ¬ c = 4 := hc4
      clear hl hr hc ex ey ez eu hk hc4
      go_enter Try.func38, Try.ntmps38
      go_wp2_with fail
      go_quiet (fail)
      rw [nsum_spell]
      go_wp2_with fail
      go_ret3
      exact ⟨_, _, _, _, l.drop 4, true, rfl, HDL.out, by omega, by have := HM.out; omega, by have := HY.out; rw [Option.map_some, addr_add] at this; exact this, belowN (Below.refl _ _) _, HLL.out, Or.inl ⟨rfl, HK.out⟩⟩

theorem cut_no {w : World} {R : Nat} {l : List UInt8} (h : ND.cutT l = none) : RCut w R l (.returned (.tuple #[.string ⟨#[]⟩, .slice none 0 0, .bool false])) w :=
  ⟨⟨#[]⟩, none, 0, 0, [], false, rfl, rfl, Nat.le_refl _, Nat.zero_le _, Bys.nil _ _ _, Below.refl _ _, Nat.zero_le _, Or.inr ⟨rfl, h⟩⟩
theorem cut_get {l : List UInt8} {z : UInt8} (h : l[0]? = some z) : ND.cutT l = if 1 + z.toNat ≤ l.length then some ((l.drop 1).take z.toNat, l.drop (1 + z.toNat)) else none := by
  cases l with
  | nil => simp at h
  | cons c r =>
    obtain rfl : c = z := by simpa using h
    show (if c.toNat ≤ r.length then some (r.take c.toNat, r.drop c.toNat) else none) = _
    by_cases hz : c.toNat ≤ r.length
    · rw [if_pos hz, if_pos (by rw [List.length_cons]; omega), Nat.add_comm 1 c.toNat]
      rfl
    · rw [if_neg hz, if_neg (by rw [List.length_cons]; omega)]

set_option maxRecDepth 20000 in
set_option maxHeartbeats 800000 in
theorem rcut_any {R : Nat} (A : Option Addr) (n c : Nat) (l : List UInt8) (w : World) (hl : l.length = n) (hr : Bys w R A l) (hnc : n ≤ c) (hm : c ≤ maxLen) :
    Calls Try.prog 39 #[.slice A n c] w (RCut w R l) := by
  by_cases h1 : n < 1
  · have HE : Hid (RCut w R l (.returned (.tuple #[.string ⟨#[]⟩, .slice none 0 0, .bool false])) w) := Lib.hid (cut_no (by obtain rfl := List.eq_nil_of_length_eq_zero (by omega : l.length = 0); rfl))
    clear hl hr
    go_enter Try.func39, Try.ntmps39
    go_wp2_with fail
    go_ret3
    exact HE.out
  obtain ⟨b, off, u, rfl, _, hu, c0⟩ := hr.at_ (k := 0) (by omega)
  have hk := cut_get hu
  have hb := byte_lt u
  obtain ⟨z, hz⟩ : ∃ z, u.toNat = z := ⟨_, rfl⟩
  rw [hz] at hk c0 hb
  rw [Nat.add_zero] at c0
  rw [hl] at hk
  by_cases h2 : 1 + z ≤ n
  case neg =>
    rw [if_neg h2] at hk
    have HE : Hid (RCut w R l (.returned (.tuple #[.string ⟨#[]⟩, .slice none 0 0, .bool false])) w) := Lib.hid (cut_no hk)
    have k5 : (n : Int) < 1 + (z : Int) := by omega
    clear hl hr hk hz hu
    go_enter Try.func39, Try.ntmps39
    go_wp2_with fail
    go_ret3
    exact HE.out
  rw [if_pos h2] at hk
  have HK := Lib.hid hk
  have HM := Lib.hid hm
  have HR := Lib.hid hr
  have hy1 := (hr.drop 1).take z
  have HY2 := Lib.hid (hr.drop (1 + z))
  have HDL : Hid ((l.drop (1 + z)).length = n - (1 + z)) := Lib.hid (by rw [List.length_drop, hl])
  have HLL : Hid ((l.drop (1 + z)).length ≤ l.length) := Lib.hid (by rw [List.length_drop]; omega)
  have hxl : ((l.drop 1).take z).length = z := by rw [List.length_take, List.length_drop]; omega
  unfold maxLen at hm
  have j0 : (0 : Int) < (n : Int) := by omega
  have j1 : (1 : Int) ≤ 1 + (z : Int) := by omega
  have j2 : (1 : Int) + (z : Int) ≤ (c : Int) := by omega
  have j3 : (1 : Int) + (z : Int) ≤ (n : Int) := by omega
  have j4 : (n : Int) ≤ (c : Int) := by omega
  have j5 : (0 : Int) ≤ 1 + (z : Int) := by omega
  obtain ⟨T, hT⟩ : ∃ T, (l.drop 1).take z = T := ⟨_, rfl⟩
  rw [hT] at hxl hy1 HK
  by_cases hc1 : c = 1
  · obtain rfl : z = 0 := by omega
    obtain rfl : n = 1 := by omega
    subst hc1
    have hT0 : T = [] := List.eq_nil_of_length_eq_zero hxl
    subst hT0
    have HD0 : Hid (l.drop (1 + 0) = []) := Lib.hid (List.drop_eq_nil_of_le (by omega))
    have ct : ∀ q, (convert 28 9 (.slice (some ⟨b, off, none⟩) 0 0)).run Try.prog (w.drewN q) = .ok (.string ⟨([] : List UInt8).toArray⟩) (w.drewN q) := fun q => run_text (P := Try.prog) (w := w.drewN q) (R := R) (Bys.nil _ _ _) 28 9 5 0 0 rfl Try.underlying28 Try.underlying5 Try.underlying9
    clear hl hr hk hz hu hy1 hxl hT
    go_enter Try.func39, Try.ntmps39
    go_wp2_with fail
    have k1 : wrap64 0 = 0 := nwrap_small (by omega) (by omega)
    have k2 : IntKind.i64.wrap 0 = 0 := by decide
    have k3 : wrap64 (1 + 0) = 1 := nwrap_small (by omega) (by omega)
    have k4 : IntKind.i64.wrap 1 = 1 := by decide
    have k5 : wrap64 1 = 1 := nwrap_small (by omega) (by omega)
    go_quiet (fail)
    clear k1 k2 k3 k4 k5
    go_wp2_with fail
    go_ret3
    exact ⟨_, _, _, _, [], true, rfl, rfl, Nat.zero_le _, by unfold maxLen; omega, Bys.nil _ _ _, belowN (Below.refl _ _) _, Nat.zero_le _, Or.inl ⟨rfl, by rw [HK.out, HD0.out, toList_data]⟩⟩
  · have ct : ∀ q cc, (convert 28 9 (.slice (some ⟨b, off + 1, none⟩) z cc)).run Try.prog (w.drewN q) = .ok (.string ⟨T.toArray⟩) (w.drewN q) := fun q cc => run_text (P := Try.prog) (w := w.drewN q) (R := R) hy1 28 9 5 z cc hxl Try.underlying28 Try.underlying5 Try.underlying9
    by_cases hcz : c = 1 + z
    · obtain rfl : n = 1 + z := by omega
      subst hcz
      have HD0 : Hid (l.drop (1 + z) = []) := Lib.hid (List.drop_eq_nil_of_le (by omega))
      have hz0 : ¬ z = 0 := by omega
      clear hl hr hk hz hu hy1 hxl hT
      go_enter Try.func39, Try.ntmps39
      go_wp2_with fail
      have k1 : wrap64 (z : Int) = (z : Int) := nwrap_small (by omega) (by omega)
      have k2 : IntKind.i64.wrap (z : Int) = (z : Int) := IntWalk.i64_in _ (by clear k1; omega)
      have k3 : wrap64 (1 + (z : Int)) = 1 + (z : Int) := nwrap_small (by clear k1 k2; omega) (by clear k1 k2; omega)
      have k4 : IntKind.i64.wrap (1 + (z : Int)) = 1 + (z : Int) := IntWalk.i64_in _ (by clear k1 k2 k3; omega)
      have j6 : (1 + (z : Int)).toNat = 1 + z := by clear k1 k2 k3 k4; omega
      go_quiet (fail)
      clear k1 k2 k3 k4 j6
      go_wp2_with fail
      go_ret3
      exact ⟨_, _, _, _, [], true, rfl, by simp, by omega, by unfold maxLen; omega, Bys.nil _ _ _, belowN (Below.refl _ _) _, Nat.zero_le _, Or.inl ⟨rfl, by rw [HK.out, HD0.out, toList_data]⟩⟩
    · clear hl hr hk hz hu hy1 hxl hT
      go_enter Try.func39, Try.ntmps39
      go_wp2_with fail
      have k1 : wrap64 (z : Int) = (z : Int) := nwrap_small (by omega) (by omega)
      have k2 : IntKind.i64.wrap (z : Int) = (z : Int) := IntWalk.i64_in _ (by clear k1; omega)
      have k3 : wrap64 (1 + (z : Int)) = 1 + (z : Int) := nwrap_small (by clear k1 k2; omega) (by clear k1 k2; omega)
      have k4 : IntKind.i64.wrap (1 + (z : Int)) = 1 + (z : Int) := IntWalk.i64_in _ (by clear k1 k2 k3; omega)
      have j6 : (1 + (z : Int)).toNat = 1 + z := by clear k1 k2 k3 k4; omega
      go_quiet (fail)
      clear k1 k2 k3 k4 j6
      go_wp2_with fail
      go_ret3
      exact ⟨_, _, _, _, l.drop (1 + z), true, rfl, HDL.out, by omega, by have := HM.out; omega, HY2.out, belowN (Below.refl _ _) _, HLL.out, Or.inl ⟨rfl, by rw [HK.out, toList_data]⟩⟩
end Go.Proofs.Ytgnlmbelaempcaa
