/-
  What knownOnce comes to, with slices.ContainsFunc at its closure.
-/
import Derived.Test.YtlldmefjhgahdaaSKnown
import Derived.Test.YtlldmefjhgahdaaSRises
import Derived.Test.YtlldmefjhgahdaaSUsed
import Derived.Test.YtlldmefjhgahdaaSSort
namespace Go.Proofs.Ytlldmefjhgahdaa
open Go.RowKit

set_option maxRecDepth 20000 in
set_option maxHeartbeats 400000 in
theorem onceFn_any (s : SS) (h z : Int) (A B : Option Addr) (n c m d g : Nat) (w : World) (hh : s.hi = h) (hb : Box w g (.int .i64 h) (.slice A n c) (.slice B m d)) :
    Calls Try.prog 57 #[.int .i64 z, .pointer (some ⟨g, 0, none⟩)] w fun e w' => e = .returned (.bool (!(s.may z))) ∧ Below w.heap.size w w' := by
  obtain ⟨c0, c1, c2⟩ := hb.cells
  clear hb
  go_enter Try.func57, Try.ntmps57
  go_wp2_with fail
  refine (wasUsed_any s h z A B n c m d w hh).mono ?_
  rintro e w1 ⟨rfl, b1⟩
  have B1 := Lib.hid b1
  clear b1
  go_wp2_with fail
  go_ret
  exact ⟨rfl, B1.out⟩

/-- The first k may all be. -/
def Mays (s : SS) (zs : List Int) (k : Nat) : Prop := (zs.take k).all s.may = true
theorem Mays.more {s : SS} {zs : List Int} {k : Nat} {x : Int} (h : Mays s zs k) (hv : zs[k]? = some x) (hx : s.may x = true) : Mays s zs (k + 1) := by
  unfold Mays at h ⊢
  rw [List.take_add_one, hv, Option.toList_some, List.all_append, h]
  simp [hx]
theorem any_hit {s : SS} {zs : List Int} {k : Nat} {x : Int} (hv : zs[k]? = some x) (hx : s.may x = false) : zs.all s.may = false := by
  cases h : zs.all s.may with
  | false => rfl
  | true =>
    have := List.all_eq_true.1 h x (List.mem_of_getElem? hv)
    rw [hx] at this
    cases this

set_option maxRecDepth 20000 in
set_option maxHeartbeats 800000 in
theorem indexO_any (s : SS) (h : Int) (A B C : Option Addr) (n c m d g k0 e0 : Nat) (zs : List Int) (w : World) (hh : s.hi = h) (hb : Box w g (.int .i64 h) (.slice A n c) (.slice B m d)) (hz : Ln w 1 C k0 e0 (intVals zs)) (hn : k0 ≤ 1000000) :
    Calls Try.prog 63 #[.slice C k0 e0, .func (.func 57) #[] #[.pointer (some ⟨g, 0, none⟩)]] w fun e w' => (∃ r : Int, e = .returned (.int .i64 r) ∧ decide (r ≥ 0) = !(zs.all s.may)) ∧ Below w.heap.size w w' := by
  have HZ := Lib.hid hz
  have HN := Lib.hid hz.intN
  have HF := Lib.hid (fun (z : Int) (w' : World) (hb' : Below w.heap.size w w') => onceFn_any s h z A B n c m d g w' hh (hb.kept hb'))
  clear hz hb hh
  go_enter Try.func63, Try.ntmps63
  go_wp2_with fail
  go_loopw [8] (fun i wk => ∃ k : Nat, k ≤ k0 ∧ i = .int .i64 k ∧ Hid (Mays s zs k) ∧ Hid (Below w.heap.size w wk)) (fun i _ => k0 - (intOf i).toNat)
  case atStart => exact ⟨0, Nat.zero_le _, rfl, Lib.hid rfl, Lib.hid (Below.refl _ _)⟩
  case round =>
    obtain ⟨k, hk, rfl, HL, B1⟩ := hrel
    by_cases hlt : k < k0
    · obtain ⟨b, off, x, rfl, hv, c0⟩ := (HZ.out.kept B1.out).intAt hlt
      cases hx : s.may x with
      | true =>
        have HM := Lib.hid (HL.out.more hv hx)
        have hF := (HF.out x wr B1.out)
        rw [hx] at hF
        have HF1 := Lib.hid hF
        clear hv HL hx hF
        go_wp2_with fail
        refine HF1.out.mono ?_
        rintro e w1 ⟨rfl, b1⟩
        have B2 := Lib.hid (B1.out.trans (b1.mono B1.out.size))
        clear b1 B1 HF1 c0
        go_wp2_with fail
        go_roundw
        case rel => exact ⟨k + 1, by omega, by go_num, HM, B2⟩
        case measure => simp [intOf]; omega
      | false =>
        have HM := Lib.hid (any_hit hv hx)
        have hF := (HF.out x wr B1.out)
        rw [hx] at hF
        have HF1 := Lib.hid hF
        clear hv HL hx hF
        go_wp2_with fail
        refine HF1.out.mono ?_
        rintro e w1 ⟨rfl, b1⟩
        have B2 := Lib.hid (B1.out.trans (b1.mono B1.out.size))
        clear b1 B1 HF1 c0
        go_wp2_with fail
        go_ret
        exact ⟨⟨_, rfl, by rw [HM.out, decide_eq_true (by omega)]; rfl⟩, B2.out⟩
    · obtain rfl : k0 = k := by omega
      have hm := HL.out
      unfold Mays at hm
      rw [List.take_of_length_le (by rw [HN.out]; exact Nat.le_refl _)] at hm
      have HM := Lib.hid hm
      clear hm
      go_wp2_with fail
      go_ret
      exact ⟨⟨_, rfl, by rw [HM.out]; rfl⟩, B1.out⟩

set_option maxRecDepth 20000 in
set_option maxHeartbeats 400000 in
theorem containsO_any (s : SS) (h : Int) (A B C : Option Addr) (n c m d g k0 e0 : Nat) (zs : List Int) (w : World) (hh : s.hi = h) (hb : Box w g (.int .i64 h) (.slice A n c) (.slice B m d)) (hz : Ln w 1 C k0 e0 (intVals zs)) (hn : k0 ≤ 1000000) :
    Calls Try.prog 56 #[.slice C k0 e0, .func (.func 57) #[] #[.pointer (some ⟨g, 0, none⟩)]] w fun e w' => e = .returned (.bool (!(zs.all s.may))) ∧ Below w.heap.size w w' := by
  have HC := Lib.hid (indexO_any s h A B C n c m d g k0 e0 zs w hh hb hz hn)
  clear hz hb hh
  go_enter Try.func56, Try.ntmps56
  go_wp2_with fail
  refine HC.out.mono ?_
  rintro e w2 ⟨⟨r, rfl, hr⟩, b2⟩
  have HR := Lib.hid hr
  have B2 := Lib.hid b2
  clear hr b2
  go_wp2_with fail
  go_ret
  exact ⟨ret_bool HR.out, B2.out⟩

theorem once_sorted {s : SS} {ms : List Int} (hp : ms.Perm s.pages) (hs : ms.Pairwise (· ≤ ·)) : SS.onceB s = (SS.rises ms && !(!(ms.all s.may))) := by
  unfold SS.onceB
  rw [SS.sorted_rises hp hs, SS.perm_all hp, Bool.not_not]

set_option maxRecDepth 20000 in
set_option maxHeartbeats 1600000 in
theorem once_any (s : SS) (h : Int) (A B : Option Addr) (n c m d : Nat) (w : World) (hh : s.hi = h) (hs : Sp w A n c B m d s) (hn : n ≤ 400000) (hm : m ≤ 400000) :
    Calls Try.prog 41 #[.agg #[.int .i64 h, .slice A n c, .slice B m d]] w fun e w' => e = .returned (.bool (SS.onceB s)) ∧ Below w.heap.size w w' := by
  have hmf : ∀ (fn : Fn) (first cap : Array Value) (w : World), (Instr.makeFunc fn first cap).run Try.prog w = .ok (.func fn first cap) w := fun _ _ _ _ => rfl
  have HS := Lib.hid (hs.kept (below_one w (.cells #[.int .i64 h, .slice A n c, .slice B m d] 26)))
  have HB := Lib.hid (box_new w (.int .i64 h) (.slice A n c) (.slice B m d))
  have B0 := Lib.hid (below_one w (.cells #[.int .i64 h, .slice A n c, .slice B m d] 26))
  have HH := Lib.hid hh
  clear hs hh
  go_enter Try.func41, Try.ntmps41
  go_wp2_with fail
  generalize w.alloc (.cells #[.int .i64 h, .slice A n c, .slice B m d] 26) = w0 at *
  refine (known_any s h A B n c m d w0 HS.out hn hm).mono ?_
  rintro e w1 ⟨v1, rfl, o1, b1⟩
  obtain ⟨A1, c1, rfl, hc1, l1⟩ := Ln.of_own o1
  have HSo := Lib.hid (sort_any w0.heap.size A1 (n + m) c1 s.pages w1 o1 (by omega))
  have HO1 := Lib.hid o1
  have B1 := Lib.hid b1
  clear o1 b1 l1
  go_wp2_with fail
  refine HSo.out.mono ?_
  rintro e w2 ⟨ms, rfl, hp, hso, o2, hg⟩
  have B2 := Lib.hid (B1.out.grown hg B1.out.size (fun g hg => (HO1.out.lt g hg).1))
  have HE := Lib.hid (once_sorted hp hso)
  obtain ⟨A2, c2, e2, hc2, l2⟩ := Ln.of_own o2
  injection e2 with e2 e3 e4
  subst e2
  subst e4
  have L2 := Lib.hid l2
  clear hg o2 hp hso l2 HSo HO1 B1
  go_wp2_with fail
  refine (rises_any A1 (n + m) c1 ms w2 L2.out (by omega)).mono ?_
  rintro e w3 ⟨rfl, b3⟩
  have B3 := Lib.hid (B2.out.trans (b3.mono B2.out.size))
  have L3 := Lib.hid (L2.out.kept b3)
  clear b3 L2 B2
  cases hr : SS.rises ms with
  | false =>
    have HF : Hid (SS.onceB s = false) := by
      rw [HE.out, hr]
      exact Lib.hid rfl
    have B4 := Lib.hid (B0.out.trans (B3.out.mono B0.out.size))
    clear hr HE
    go_wp2_with fail
    go_ret
    exact ⟨ret_bool HF.out.symm, B4.out⟩
  | true =>
    have HF : Hid (SS.onceB s = ms.all s.may) := by
      rw [HE.out, hr, Bool.not_not]
      exact Lib.hid rfl
    clear hr HE
    go_wp2_with fail
    refine (containsO_any s h A B A1 n c m d w.heap.size (n + m) c1 ms w3 HH.out (HB.out.kept B3.out) L3.out (by omega)).mono ?_
    rintro e w4 ⟨rfl, b4⟩
    have B4 := Lib.hid (B0.out.trans ((B3.out.trans (b4.mono B3.out.size)).mono B0.out.size))
    clear b4
    go_wp2_with fail
    go_ret
    exact ⟨ret_bool HF.out.symm, B4.out⟩
end Go.Proofs.Ytlldmefjhgahdaa
