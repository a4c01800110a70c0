/-
  What the document's own Read comes to (package tailraceref05).
-/
import Derived.Test.YtpihblbpmmdmmaaFRead
import Derived.Deep.QuietTactic
import Derived.BigQuiet
namespace Go.Proofs.Ytpihblbpmmdmmaa
open Go.RowKit

/-- What it holds while the place k is to come. -/
def RRel (w : World) (n : Nat) (l : List UInt8) (g : Nat) (v i : Value) (wr : World) : Prop :=
  ∃ (k : Nat) (ys : List Int), i = .int .i64 k ∧ k + g = n ∧ k % 4 = 0 ∧ 4 * ys.length = k ∧ Hid (Rds l ys (l.drop k)) ∧ Hid (OwnI wr w.heap.size v ys) ∧ Hid (Below w.heap.size w wr)

theorem wrap64_small {n : Int} (h0 : -9223372036854775808 ≤ n) (h1 : n ≤ 9223372036854775807) : wrap64 n = n := by
  unfold wrap64
  omega

theorem sum_spell (x y z u : UInt8) : wrap64 (wrap64 (wrap64 (wrap64 (wrap64 (x.toNat : Int) * 16777216) + wrap64 (wrap64 (y.toNat : Int) * 65536)) + wrap64 (wrap64 (z.toNat : Int) * 256)) + wrap64 (u.toNat : Int)) = ((num4 x y z u : Nat) : Int) := by
  have := byte_lt x
  have := byte_lt y
  have := byte_lt z
  have := byte_lt u
  rw [wrap64_small (n := (x.toNat : Int)) (by omega) (by omega), wrap64_small (n := (y.toNat : Int)) (by omega) (by omega), wrap64_small (n := (z.toNat : Int)) (by omega) (by omega), wrap64_small (n := (u.toNat : Int)) (by omega) (by omega),
    wrap64_small (n := (x.toNat : Int) * 16777216) (by omega) (by omega), wrap64_small (n := (y.toNat : Int) * 65536) (by omega) (by omega), wrap64_small (n := (z.toNat : Int) * 256) (by omega) (by omega),
    wrap64_small (n := (x.toNat : Int) * 16777216 + (y.toNat : Int) * 65536) (by omega) (by omega), wrap64_small (n := (x.toNat : Int) * 16777216 + (y.toNat : Int) * 65536 + (z.toNat : Int) * 256) (by omega) (by omega),
    wrap64_small (n := (x.toNat : Int) * 16777216 + (y.toNat : Int) * 65536 + (z.toNat : Int) * 256 + (u.toNat : Int)) (by omega) (by omega)]
  unfold num4
  omega

theorem RRel.next {w wr w3 : World} {n k g q : Nat} {l : List UInt8} {u4 v3 : Value} {ys : List Int} {T : TypeId} {C : Array Value} (hkg : k + g = n) (hlt : k + 4 ≤ n) (h4 : k % 4 = 0) (hyk : 4 * ys.length = k)
    (hs : Rds l (ys ++ [(q : Int)]) (l.drop (k + 4))) (o1 : wr.ownsRow w.heap.size 3 1 u4 ys.length (intVals ys)) (HW : Below w.heap.size w wr)
    (hown3 : w3.ownsRow w.heap.size 3 1 v3 (ys.length + 1) (intVals ys ++ [.int .i64 (q : Int)])) (hg3 : (wr.alloc (.cells C T)).grownBy w3 u4.ownBlock) : RRel w n l (g - 4) v3 (.int .i64 ((k : Int) + 4)) w3 := by
  have bs := HW.size
  refine ⟨k + 4, ys ++ [(q : Int)], by go_num, by omega, by omega, ?_, hs, ?_, ?_⟩
  · rw [List.length_append, List.length_singleton]
    omega
  · show w3.ownsRow _ _ _ _ _ _
    rw [List.length_append, intVals_append]
    exact hown3
  · exact (HW.alloc bs _).grown hg3 (by simp; omega) (fun g hg => (o1.lt g hg).1)

set_option maxHeartbeats 3200000 in
theorem refRead_any {R : Nat} (A : Option Addr) (n c : Nat) (l : List UInt8) (w : World) (hl : l.length = n) (hr : Bys w R A l) (hn : n ≤ 1000000) :
    Calls Try.prog 17 #[.slice A n c] w (ReadEnd w l) := by
  by_cases h4 : n % 4 = 0
  · obtain ⟨i0, hi, hz0, hz1, hz2⟩ := info_parts intInfo
    have hm : ((n : Int) % 4 != 0) = false := by
      simp
      omega
    have HS : Hid (Rds l [] (l.drop 0)) := Lib.hid (Rds.start l)
    have HR := Lib.hid hr
    have HL := Lib.hid hl
    clear hr
    go_enter Try.func17, Try.ntmps17
    go_wp2_with fail
    go_loopg [4, 5] n (fun g v i wr => RRel w n l g v i wr)
    case atStart => exact ⟨0, [], rfl, by omega, rfl, rfl, HS, Lib.hid (ownI_nil _ _), Lib.hid (Below.refl _ _)⟩
    case round =>
      obtain ⟨k, ys, rfl, hkg, hk4, hyk, HD, HO, HW⟩ := hrel
      by_cases hlt : k < n
      · obtain ⟨x, y, z, u, ex, ey, ez, eu, ed⟩ := four_of (l := l) (k := k) (by omega)
        obtain ⟨b, off, rfl, _, hc⟩ := (HR.out.kept HW.out).resolve_left (fun e => by rw [e] at hl; simp at hl; omega)
        have cx := hc k x ex
        have cy := hc (k + 1) y ey
        have cz := hc (k + 2) z ez
        have cu := hc (k + 3) u eu
        have j0 : (0 : Int) ≤ (k : Int) := by omega
        have j1 : (k : Int) + 1 < (n : Int) := by omega
        have j2 : (k : Int) + 2 < (n : Int) := by omega
        have j3 : (k : Int) + 3 < (n : Int) := by omega
        have j4 : (0 : Int) ≤ (k : Int) + 1 := by omega
        have j5 : (0 : Int) ≤ (k : Int) + 2 := by omega
        have j6 : (0 : Int) ≤ (k : Int) + 3 := by omega
        rw [ed] at HD
        clear ex ey ez eu ed hc
        go_wp2_with fail
        go_quiet (fail)
        rw [sum_spell]
        have HW2 := Lib.hid (belowN HW.out nq)
        have o1 : (wr.drewN nq).ownsRow w.heap.size 3 1 u4 ys.length (intVals ys) := HO.out
        clear HW HO cx cy cz cu j0 j1 j2 j3 j4 j5 j6
        generalize wr.drewN nq = wq at *
        have HLT := Lib.hid (num4_lt x y z u)
        have bs := HW2.out.size
        by_cases hle : num4 x y z u ≤ 2147483647
        · have HS2 := Lib.hid (HD.out.step hle)
          generalize num4 x y z u = q at *
          go_wp2_with (at_builtin; refine wpList_append_own _ rfl (.tmp 48) (.tmp 50) 31 rfl w.heap.size 3 i0 (.int .i64 0) 1 8 Try.underlying31 hi hz0 hz1 hz2 rfl (by decide) _ _ _ rfl (o1.alloc _) ⟨wq.heap.size, 0, none⟩ 1 1 [.int .i64 (q : Int)] rfl rfl (cell_one_new _ _ _) (by simp [Value.oneCell']) (by unfold maxLen; omega) (by omega) (by simp; omega) ?_; intro v3 w3 hown3 hg3 _)
          have HM := Lib.hid (RRel.next (w3 := w3) hkg (by omega) hk4 hyk HS2.out o1 HW2.out hown3 hg3)
          clear hown3 hg3 o1
          go_roundg (gk - 4)
          case measure => omega
          case rel => exact HM.out
        · have HP := Lib.hid (read_bad (HD.out.bad hle) HW2.out)
          generalize num4 x y z u = q at *
          go_wp2_with fail
          go_ret2
          exact HP.out
      · obtain rfl : k = n := by omega
        have hD := HD.out
        rw [List.drop_of_length_le (by rw [HL.out]; omega)] at hD
        have HP := Lib.hid (read_good hD.done HW.out HO.out)
        clear hD
        go_wp2_with fail
        go_ret2
        exact HP.out
  · have HP := Lib.hid (read_bad (w := w) (w' := w) (rd_bad l (by rw [hl]; exact h4)) (Below.refl _ _))
    have hm : ¬ ((n : Int) % 4 = 0) := by omega
    clear h4 hl hr
    go_enter Try.func17, Try.ntmps17
    go_wp2_with fail
    go_ret2
    exact HP.out
end Go.Proofs.Ytpihblbpmmdmmaa
