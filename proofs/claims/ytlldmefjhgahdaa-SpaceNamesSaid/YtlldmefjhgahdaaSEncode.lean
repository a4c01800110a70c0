/-
  What Encode comes to.
-/
import Derived.Test.YtlldmefjhgahdaaSCut
import Derived.Test.YtlldmefjhgahdaaFNum
namespace Go.Proofs.Ytlldmefjhgahdaa
open Go.RowKit

theorem below_three (w : World) (o o' o'' : Obj) : Below w.heap.size w (((w.alloc o).alloc o').alloc o'') := (below_two w o o').alloc (by simp; omega) _
theorem cell_two_two (w : World) (o : Obj) (x y : Value) (t : TypeId) : ∀ j u, [x, y][j]? = some u → ((w.alloc o).alloc (.cells #[x, y] t)).cell? ((⟨w.heap.size + 1, 0, none⟩ : Addr).add j) = some u := by
  have h := cell_two_new (w.alloc o) x y t
  rw [show (w.alloc o).heap.size = w.heap.size + 1 by simp] at h
  exact h

/-- The three lists that are joined. -/
theorem enc_pile {w : World} {A : Option Addr} {n c : Nat} {zs : List Int} (hz : Ln w 1 A n c (intVals zs)) (x y z : Int) (t u : TypeId) :
    Pile (((w.alloc (.cells #[.int .i64 x, .int .i64 y] t)).alloc (.cells #[.int .i64 z] t)).alloc (.cells #[.slice (some ⟨w.heap.size, 0, none⟩) 2 2, .slice A n c, .slice (some ⟨w.heap.size + 1, 0, none⟩) 1 1] u)) 1 (some ⟨w.heap.size + 1 + 1, 0, none⟩)
      [⟨some ⟨w.heap.size, 0, none⟩, 2, 2, intVals [x, y]⟩, ⟨A, n, c, intVals zs⟩, ⟨some ⟨w.heap.size + 1, 0, none⟩, 1, 1, intVals [z]⟩] := by
  have h1 := (ln_two w x y t).kept (below_one _ (.cells #[.int .i64 z] t))
  have h2 := hz.kept (below_two w (.cells #[.int .i64 x, .int .i64 y] t) (.cells #[.int .i64 z] t))
  have h3 := ln_one (w.alloc (.cells #[.int .i64 x, .int .i64 y] t)) z t
  rw [show (w.alloc (.cells #[.int .i64 x, .int .i64 y] t)).heap.size = w.heap.size + 1 by simp] at h3
  have h := pile_three h1 (intVals_one _) h2 (intVals_one _) h3 (intVals_one _) u
  rw [show ((w.alloc (.cells #[.int .i64 x, .int .i64 y] t)).alloc (.cells #[.int .i64 z] t)).heap.size = w.heap.size + 1 + 1 by simp] at h
  exact h

theorem pairs_take {ps : List (Int × Int)} {k : Nat} {x y : Int} (h : ps[k]? = some (x, y)) : SS.pairs (ps.take (k + 1)) = SS.pairs (ps.take k) ++ [x, y] := by
  induction ps generalizing k with
  | nil => simp at h
  | cons p ps ih =>
    cases k with
    | zero =>
      obtain rfl : p = (x, y) := by simpa using h
      rfl
    | succ k =>
      rw [List.take_succ_cons, List.take_succ_cons]
      unfold SS.pairs
      rw [ih (by simpa using h)]
      rfl
theorem pairs_len (ps : List (Int × Int)) : (SS.pairs ps).length = 2 * ps.length := SS.pairs_length ps
/-- The numbers, with the first k of those that pend. -/
def numsTo (s : SS) (k : Nat) : List Int := s.hi :: (s.fr.length : Int) :: (s.fr ++ (s.pe.length : Int) :: SS.pairs (s.pe.take k))
theorem numsTo_len (s : SS) {k : Nat} (hk : k ≤ s.pe.length) : (numsTo s k).length = s.fr.length + 3 + 2 * k := by
  unfold numsTo
  simp only [List.length_cons, List.length_append, pairs_len, List.length_take]
  omega
theorem numsTo_more {s : SS} {k : Nat} {x y : Int} (h : s.pe[k]? = some (x, y)) : numsTo s (k + 1) = numsTo s k ++ [x, y] := by
  unfold numsTo
  rw [pairs_take h]
  simp
theorem numsTo_all (s : SS) {k : Nat} (hk : s.pe.length ≤ k) : numsTo s k = s.nums := by
  unfold numsTo SS.nums
  rw [List.take_of_length_le hk]

set_option maxRecDepth 20000 in
set_option maxHeartbeats 3200000 in
theorem encode_any (s : SS) (h : Int) (A B : Option Addr) (n c m d : Nat) (w : World) (hh : s.hi = h) (hs : Sp w A n c B m d s) (hn : n ≤ 50000) (hm : m ≤ 50000) :
    Calls Try.prog 27 #[.agg #[.int .i64 h, .slice A n c, .slice B m d]] w (PartsEnd w s.enc) := by
  obtain ⟨i0, hi, hz0, hz1, hz2⟩ := info_parts intInfo
  have hb1 := below_one w (.cells #[.int .i64 h, .slice A n c, .slice B m d] 26)
  have P0 := enc_pile (hs.fr.kept hb1) h (n : Int) (m : Int) 3 23
  rw [show (w.alloc (.cells #[.int .i64 h, .slice A n c, .slice B m d] 26)).heap.size = w.heap.size + 1 by simp] at P0
  have HP := Lib.hid P0
  have HB := Lib.hid (box_new w (.int .i64 h) (.slice A n c) (.slice B m d))
  have HS := Lib.hid (hs.kept hb1)
  have B0 := Lib.hid hb1
  have HFL := Lib.hid hs.fl
  have HPL := Lib.hid hs.pl
  have HH := Lib.hid hh
  have hcs : pcs [⟨some ⟨w.heap.size + 1, 0, none⟩, 2, 2, intVals [h, (n : Int)]⟩, ⟨A, n, c, intVals s.fr⟩, ⟨some ⟨w.heap.size + 1 + 1, 0, none⟩, 1, 1, intVals [(m : Int)]⟩] = intVals (numsTo s 0) := by
    unfold pcs numsTo
    rw [hs.fl, hs.pl, hh]
    simp [intVals, SS.pairs]
  have HCS := Lib.hid hcs
  clear hs hh P0 hcs hb1
  go_enter Try.func27, Try.ntmps27
  go_wp2_with fail
  generalize w.alloc (.cells #[.int .i64 h, .slice A n c, .slice B m d] 26) = w0 at *
  refine (join_I _ 3 3 (n + 3) _ _ HP.out rfl (by simp [tot]; omega) (by omega) (by decide)).mono ?_
  rintro e w1 ⟨v1, rfl, o1, b1⟩
  rw [HCS.out] at o1
  have b3 := below_three w0 (.cells #[.int .i64 h, .int .i64 (n : Int)] 3) (.cells #[.int .i64 (m : Int)] 3) (.cells #[.slice (some ⟨w.heap.size + 1, 0, none⟩) 2 2, .slice A n c, .slice (some ⟨w.heap.size + 1 + 1, 0, none⟩) 1 1] 23)
  have B1 := Lib.hid (b3.trans (b1.mono b3.size))
  have O1 : Hid (w1.ownsRow w0.heap.size 3 1 v1 (n + 3 + 2 * 0) (intVals (numsTo s 0))) := Lib.hid (own_base_low o1 b3.size)
  obtain ⟨y0, y1, y2⟩ := (HB.out.kept B1.out).cells
  clear o1 b1 b3 HP HCS
  go_wp2_with fail
  clear y0 y1 y2
  go_loopw [3, 23] (fun v i wk => ∃ k : Nat, k ≤ m ∧ i = .int .i64 k ∧ Hid (wk.ownsRow w0.heap.size 3 1 v (n + 3 + 2 * k) (intVals (numsTo s k))) ∧ Hid (Below w0.heap.size w0 wk)) (fun _ i _ => m - (intOf i).toNat)
  case atStart => exact ⟨0, Nat.zero_le _, rfl, O1, B1⟩
  case round =>
    obtain ⟨k, hk, rfl, O2, B2⟩ := hrel
    by_cases hlt : k < m
    · obtain ⟨b, off, x, y, rfl, hv, c0, c1⟩ := (HS.out.pe.kept B2.out).prAt hlt
      have HV := Lib.hid (numsTo_more hv)
      have bs := B2.out.size
      have o2 := O2.out
      clear hv
      go_wp2_with (at_builtin; refine wpList_append_own _ rfl (.tmp 27) (.tmp 32) 23 rfl w0.heap.size 3 i0 (.int .i64 0) 1 8 Try.underlying23 hi hz0 hz1 hz2 rfl (by decide) _ _ _ rfl ((o2.alloc _).alloc _) ⟨wr.heap.size + 1, 0, none⟩ 2 2 [.int .i64 x, .int .i64 y] rfl rfl (cell_two_two _ _ _ _ _) (by simp [Value.oneCell']) (by unfold maxLen; omega) (by omega) (by simp; omega) ?_; intro v3 w3 hown3 hg3 _)
      have O3 : Hid (w3.ownsRow w0.heap.size 3 1 v3 (n + 3 + 2 * (k + 1)) (intVals (numsTo s (k + 1)))) := by
        rw [HV.out, sIntVals_append]
        exact Lib.hid hown3
      have B3 : Hid (Below w0.heap.size w0 w3) := Lib.hid (((B2.out.alloc bs _).alloc (by simp; omega) _).grown hg3 (by simp; omega) (fun g hg => (o2.lt g hg).1))
      clear hown3 hg3 o2 O2 B2 HV
      go_roundw
      case rel => exact ⟨k + 1, by omega, by go_num, O3, B3⟩
      case measure => simp [intOf]; omega
    · obtain rfl : m = k := by omega
      have o2 := O2.out
      rw [numsTo_all s (by rw [HPL.out]; exact Nat.le_refl _)] at o2
      obtain ⟨A4, c4, rfl, _, l4⟩ := Ln.of_own o2
      have L4 := Lib.hid l4
      have HNL := Lib.hid l4.intN
      clear o2 l4 O2
      go_wp2_with fail
      refine (numbers_n A4 (n + 3 + 2 * m) c4 s.nums wr L4.out.ints HNL.out (by omega)).mono ?_
      rintro e w5 ⟨v5, rfl, o5, b5⟩
      obtain ⟨A5, c5, rfl, _, l5⟩ := Ln.of_own o5
      have L5 := Lib.hid l5
      have hlb := numB_length s.nums
      rw [HNL.out] at hlb
      have HLB := Lib.hid hlb
      have B5 := Lib.hid (B2.out.trans (b5.mono B2.out.size))
      obtain ⟨N, hN⟩ : ∃ N, (numB s.nums).length = N := ⟨_, rfl⟩
      rw [hN] at L5 HLB ⊢
      clear o5 l5 b5 hlb hN L4
      go_wp2_with fail
      refine (cut_any A5 N c5 (numB s.nums) w5 L5.out (by have := HLB.out; omega)).mono ?_
      rintro e w6 ⟨A6, c6, rfl, hbp, b6⟩
      have HP6 := Lib.hid hbp
      have B6 := Lib.hid (B0.out.trans ((B5.out.trans (b6.mono B5.out.size)).mono B0.out.size))
      clear hbp b6
      go_wp2_with fail
      go_ret
      exact ⟨A6, c6, rfl, HP6.out, B6.out⟩
end Go.Proofs.Ytlldmefjhgahdaa
