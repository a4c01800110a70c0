/-
  What frame.Read comes to.
-/
import Derived.Test.YtlldmefjhgahdaaFNum
import Derived.Lib.EndianBits
import Derived.Deep.LoopGhost
namespace Go.Proofs.Ytlldmefjhgahdaa
open Go.RowKit

/-- A list of ints of one's own. -/
def OwnI (w : World) (base : Nat) (v : Value) (zs : List Int) : Prop := w.ownsRow base 3 1 v zs.length (intVals zs)

theorem ownI_nil (w : World) (base : Nat) : OwnI w base (.slice none 0 0) [] := World.ownsRow_nil _ _ _ _
theorem intVals_append (a b : List Int) : intVals (a ++ b) = intVals a ++ intVals b := List.map_append

/-- What Read answers. -/
def rdL (b : List UInt8) : List Int := (rd b).getD []
def rdE (b : List UInt8) : Int := if (rd b).isSome then 0 else 50
def FReadEnd (w : World) (b : List UInt8) (e : Ending) (w' : World) : Prop :=
  ∃ v, e = .returned (.tuple #[v, .int .i64 (rdE b)]) ∧ OwnI w' w.heap.size v (rdL b) ∧ Below w.heap.size w w'

theorem read_bad {b : List UInt8} (h : rd b = none) {w w' : World} (hb : Below w.heap.size w w') : FReadEnd w b (.returned (.tuple #[.slice none 0 0, .int .i64 50])) w' := by
  refine ⟨.slice none 0 0, ?_, ?_, hb⟩
  · rw [rdE, h]
    rfl
  · rw [rdL, h]
    exact ownI_nil _ _

theorem read_good {b : List UInt8} {ys : List Int} {v : Value} (h : rd b = some ys) {w w' : World} (hb : Below w.heap.size w w') (ho : OwnI w' w.heap.size v ys) : FReadEnd w b (.returned (.tuple #[v, .int .i64 0])) w' := by
  refine ⟨v, ?_, ?_, hb⟩
  · rw [rdE, h]
    rfl
  · rw [rdL, h]
    exact ho

/-- Bytes' number, the highest first. -/
def qn (l : List UInt8) : Nat := l.foldl (fun n c => n * 256 + c.toNat) 0
theorem qn_snoc (l : List UInt8) (c : UInt8) : qn (l ++ [c]) = qn l * 256 + c.toNat := by
  unfold qn
  rw [List.foldl_append]
  rfl
theorem qn_take {l : List UInt8} {j : Nat} {c : UInt8} (h : l[j]? = some c) : qn (l.take (j + 1)) = qn (l.take j) * 256 + c.toNat := by
  rw [List.take_add_one, h, Option.toList_some, qn_snoc]
theorem qn_four (x y z u : UInt8) (r : List UInt8) : qn ((x :: y :: z :: u :: r).take 4) = num4 x y z u := by
  simp [qn, num4]
theorem qn_lt {x y z u : UInt8} {r : List UInt8} {j : Nat} (h : j < 4) : qn ((x :: y :: z :: u :: r).take j) < 16777216 := by
  have := byte_lt x
  have := byte_lt y
  have := byte_lt z
  rcases (show j = 0 ∨ j = 1 ∨ j = 2 ∨ j = 3 by omega) with rfl | rfl | rfl | rfl <;> simp [qn] <;> omega

theorem or_spell {n : Nat} (z : UInt8) (h : n < 16777216) : bits .or .u32 ((n : Int) * 256) (z.toNat : Int) = ((n * 256 + z.toNat : Nat) : Int) := by
  have hz := byte_lt z
  rw [bits_join .u32 32 (by decide) wraps_u32 8 ((n : Int) * 256) (z.toNat : Int) (by omega) (by omega) (by omega) (by omega) (by omega) (by omega)]
  omega

/-- What Read holds while N bytes are left. -/
def ReadRel (w : World) (R n : Nat) (l : List UInt8) (N : Nat) (s v : Value) (wr : World) : Prop :=
  ∃ (A' : Option Addr) (c' : Nat) (rest : List UInt8) (ys : List Int), s = .slice A' N c' ∧ rest.length = N ∧ N % 4 = 0 ∧ N ≤ c' ∧ 4 * ys.length + N = n ∧ Hid (Bys w R A' rest) ∧ Hid (Rds l ys rest) ∧ Hid (OwnI wr w.heap.size v ys) ∧ Hid (Below w.heap.size w wr)

set_option maxRecDepth 20000 in
theorem ReadRel.next {w wr w3 : World} {R n M q : Nat} {A' : Option Addr} {c' : Nat} {l r : List UInt8} {u4 v3 : Value} {ys : List Int} {T : TypeId} {C : Array Value} (hM : r.length = M) (h4 : (M + 4) % 4 = 0) (hc : M ≤ c') (hn : 4 * ys.length + (M + 4) = n)
    (hb : Bys w R A' r) (hs : Rds l (ys ++ [(q : Int)]) r) (o1 : wr.ownsRow w.heap.size 3 1 u4 ys.length (intVals ys)) (HW : Below w.heap.size w wr)
    (hown3 : w3.ownsRow w.heap.size 3 1 v3 (ys.length + 1) (intVals ys ++ [.int .i64 (q : Int)])) (hg3 : (wr.alloc (.cells C T)).grownBy w3 u4.ownBlock) : ReadRel w R n l M (.slice A' M c') v3 w3 := by
  have bs := HW.size
  refine ⟨A', c', r, ys ++ [(q : Int)], rfl, hM, by omega, hc, ?_, hb, hs, ?_, ?_⟩
  · rw [List.length_append, List.length_singleton]
    omega
  · show w3.ownsRow _ _ _ _ _ _
    rw [List.length_append, intVals_append]
    exact hown3
  · exact (HW.alloc bs _).grown hg3 (by simp; omega) (fun g hg => (o1.lt g hg).1)

set_option maxRecDepth 20000 in
set_option maxHeartbeats 3200000 in
theorem fread_any {R : Nat} (A : Option Addr) (n c : Nat) (l : List UInt8) (w : World) (hl : l.length = n) (hr : Bys w R A l) (hnc : n ≤ c) (hn : n ≤ 1000000) :
    Calls Try.prog 42 #[.slice A n c] w (FReadEnd w l) := by
  by_cases h4 : n % 4 = 0
  · obtain ⟨i0, hi, hz0, hz1, hz2⟩ := info_parts intInfo
    have hm : ((n : Int) % 4 != 0) = false := by
      simp
      omega
    have HS := Lib.hid (Rds.start l)
    go_enter Try.func42, Try.ntmps42
    go_wp2_with fail
    go_loopg [0, 4] n (fun g s v wr => ReadRel w R n l g s v wr)
    case atStart => exact ⟨A, c, l, [], rfl, hl, h4, hnc, by simp, hr, HS, Lib.hid (ownI_nil _ _), Lib.hid (Below.refl _ _)⟩
    case round =>
      obtain ⟨A', c', rest, ys, rfl, hN, hN4, hNc, hyn, HB, HD, HO, HW⟩ := hrel
      obtain ⟨N, hNg⟩ : ∃ N, N = gk := ⟨_, rfl⟩
      subst hNg
      by_cases hN0 : N = 0
      · subst hN0
        obtain rfl : rest = [] := List.eq_nil_of_length_eq_zero hN
        have HP := Lib.hid (read_good HD.out.done HW.out HO.out)
        go_wp2_with fail
        go_ret2
        exact HP.out
      · obtain ⟨x, y, z, u, r, rfl⟩ : ∃ x y z u r, rest = x :: y :: z :: u :: r := by
          match rest, hN with
          | [], h => exact absurd h.symm hN0
          | [_], h => simp at h; omega
          | [_, _], h => simp at h; omega
          | [_, _, _], h => simp at h; omega
          | x :: y :: z :: u :: r, _ => exact ⟨x, y, z, u, r, rfl⟩
        obtain ⟨M, rfl⟩ : ∃ M, N = M + 4 := ⟨N - 4, by simp at hN; omega⟩
        have hM : r.length = M := by simpa using hN
        obtain ⟨b, off, _, rfl, _, _, _⟩ := (HB.out.kept HW.out).at_ (k := 0) (by simp)
        have q1 : (4 : Int) ≤ (c' : Int) := by omega
        have q2 : (0 : Int) < (M : Int) + 4 := by omega
        go_wp2_with fail
        obtain ⟨wo, rfl⟩ : ∃ wo : World, wo = wr := ⟨_, rfl⟩
        go_loopw [5, 20] (fun v i wi => ∃ j : Nat, j ≤ 4 ∧ i = .int .i64 j ∧ v = .int .u32 ((qn ((x :: y :: z :: u :: r).take j) : Nat) : Int) ∧ wi = wo) (fun _ i _ => 4 - (intOf i).toNat)
        case atStart => exact ⟨0, by omega, rfl, rfl, rfl⟩
        case round =>
          obtain ⟨j, hj, rfl, rfl, rfl⟩ := hrel
          by_cases hlt : j < 4
          · obtain ⟨b', off', t, e0, _, hv, cj⟩ := (HB.out.kept HW.out).at_ (k := j) (by simp; omega)
            have e1 := Option.some.inj e0
            injection e1 with e1 e2
            subst e1
            subst e2
            have HQ := Lib.hid (qn_take hv)
            have hq := qn_lt (x := x) (y := y) (z := z) (u := u) (r := r) hlt
            generalize qn ((x :: y :: z :: u :: r).take j) = q at *
            have HX := Lib.hid (or_spell t hq)
            have ht := byte_lt t
            clear hv e0
            go_wp2_with fail
            refine ⟨⟨j + 1, by omega, by go_num, ?_, trivial⟩, by simp [intOf]; omega⟩
            rw [HQ.out, HX.out]
          · obtain rfl : j = 4 := by omega
            rw [qn_four]
            have HLT := Lib.hid (num4_lt x y z u)
            by_cases hle : num4 x y z u ≤ 2147483647
            · have HS2 := Lib.hid (HD.out.step hle)
              generalize num4 x y z u = q at *
              have o1 : wr.ownsRow w.heap.size 3 1 u4 ys.length (intVals ys) := HO.out
              have bs := HW.out.size
              by_cases hc4 : c' = 4
              · subst hc4
                obtain rfl : r = [] := List.eq_nil_of_length_eq_zero (by omega)
                go_wp2_with (at_builtin; refine wpList_append_own _ rfl (.tmp 32) (.tmp 35) 23 rfl w.heap.size 3 i0 (.int .i64 0) 1 8 Try.underlying23 hi hz0 hz1 hz2 rfl (by decide) _ _ _ rfl (o1.alloc _) ⟨wr.heap.size, 0, none⟩ 1 1 [.int .i64 (q : Int)] rfl rfl (cell_one_new _ _ _) (by simp [Value.oneCell']) (by unfold maxLen; omega) (by omega) (by simp; omega) ?_; intro v3 w3 hown3 hg3 _)
                have HM := Lib.hid (ReadRel.next (w3 := w3) (A' := some ⟨b, off, none⟩) (c' := 0) hM hN4 (by omega) hyn (Bys.nil w R _) HS2.out o1 HW.out hown3 hg3)
                clear hown3 hg3 o1
                go_roundg M
                case measure => omega
                case rel =>
                  have e0 : M = 0 := by omega
                  have h0 := HM.out
                  rw [e0] at h0 ⊢
                  exact h0
              · go_wp2_with (at_builtin; refine wpList_append_own _ rfl (.tmp 32) (.tmp 35) 23 rfl w.heap.size 3 i0 (.int .i64 0) 1 8 Try.underlying23 hi hz0 hz1 hz2 rfl (by decide) _ _ _ rfl (o1.alloc _) ⟨wr.heap.size, 0, none⟩ 1 1 [.int .i64 (q : Int)] rfl rfl (cell_one_new _ _ _) (by simp [Value.oneCell']) (by unfold maxLen; omega) (by omega) (by simp; omega) ?_; intro v3 w3 hown3 hg3 _)
                have HM := Lib.hid (ReadRel.next (w3 := w3) (A' := some ⟨b, off + 4, none⟩) (c' := c' - 4) hM hN4 (by omega) hyn (HB.out.drop 4) HS2.out o1 HW.out hown3 hg3)
                clear hown3 hg3 o1
                go_roundg M
                case measure => omega
                case rel => exact HM.out
            · have HP := Lib.hid (read_bad (HD.out.bad hle) HW.out)
              generalize num4 x y z u = q at *
              go_wp2_with fail
              go_ret2
              exact HP.out
  · have HP := Lib.hid (read_bad (w := w) (w' := w) (rd_bad l (by rw [hl]; exact h4)) (Below.refl _ _))
    have hm : ¬ ((n : Int) % 4 = 0) := by omega
    clear h4 hl hr
    go_enter Try.func42, Try.ntmps42
    go_wp2_with fail
    go_ret2
    exact HP.out
end Go.Proofs.Ytlldmefjhgahdaa
