/-
  A part of the proof: what its texts say stands at the head of each. Conditions: none.
-/
import Derived.Deep.RegionHeld3
import Derived.Deep.RegionLaw
import Derived.Deep.AppendLies
import Derived.Deep.LoopGhost
import Derived.Deep.CutBlock
import Derived.Deep.DeepCutAuto
import Derived.IntWalk
import Derived.Deep.QuietTactic
import Derived.BigQuiet
import Derived.Laws.MakeOwn
import Derived.Lib.EndianBits
import Derived.ProofKit
import Derived.OpenShut
import Derived.ChangeOld
import Derived.Lib.SmallJoins
import Derived.Deep.Slices
import Derived.Deep.Fields
import Derived.Carry
import Derived.Test.YtlldmefjhgahdaaZD1
import Derived.Test.YtlldmefjhgahdaaZD2

/-
  What Encode comes to.
-/
namespace Go.Proofs.Ytlldmefjhgahdaa
open Go.RowKit

theorem below_three (w : World) (o o' o'' : Obj) : Below w.heap.size w (((w.alloc o).alloc o').alloc o'') := (below_two w o o').alloc (by simp; omega) _
theorem cell_two_two (w : World) (o : Obj) (x y : Value) (t : TypeId) : ∀ j u, [x, y][j]? = some u → ((w.alloc o).alloc (.cells #[x, y] t)).cell? ((⟨w.heap.size + 1, 0, none⟩ : Addr).add j) = some u := by
  have h := cell_two_new (w.alloc o) x y t
  rw [show (w.alloc o).heap.size = w.heap.size + 1 by simp] at h
  exact h

/-- The three lists that are joined. -/
theorem enc_pile {w : World} {A : Option Addr} {n c : Nat} {zs : List Int} (hz : Ln w 1 A n c (intVals zs)) (x y z : Int) (t u : TypeId) :
    Pile (((w.alloc (.cells #[.int .i64 x, .int .i64 y] t)).alloc (.cells #[.int .i64 z] t)).alloc (.cells #[.slice (some ⟨w.heap.size, 0, none⟩) 2 2, .slice A n c, .slice (some ⟨w.heap.size + 1, 0, none⟩) 1 1] u)) 1 (some ⟨w.heap.size + 1 + 1, 0, none⟩)
      [⟨some ⟨w.heap.size, 0, none⟩, 2, 2, intVals [x, y]⟩, ⟨A, n, c, intVals zs⟩, ⟨some ⟨w.heap.size + 1, 0, none⟩, 1, 1, intVals [z]⟩] := by
  have h1 := (ln_two w x y t).kept (below_one _ (.cells #[.int .i64 z] t))
  have h2 := hz.kept (below_two w (.cells #[.int .i64 x, .int .i64 y] t) (.cells #[.int .i64 z] t))
  have h3 := ln_one (w.alloc (.cells #[.int .i64 x, .int .i64 y] t)) z t
  rw [show (w.alloc (.cells #[.int .i64 x, .int .i64 y] t)).heap.size = w.heap.size + 1 by simp] at h3
  have h := pile_three h1 (intVals_one _) h2 (intVals_one _) h3 (intVals_one _) u
  rw [show ((w.alloc (.cells #[.int .i64 x, .int .i64 y] t)).alloc (.cells #[.int .i64 z] t)).heap.size = w.heap.size + 1 + 1 by simp] at h
  exact h

theorem pairs_take {ps : List (Int × Int)} {k : Nat} {x y : Int} (h : ps[k]? = some (x, y)) : SS.pairs (ps.take (k + 1)) = SS.pairs (ps.take k) ++ [x, y] := by
  induction ps generalizing k with
  | nil => simp at h
  | cons p ps ih =>
    cases k with
    | zero =>
      obtain rfl : p = (x, y) := by simpa using h
      rfl
    | succ k =>
      rw [List.take_succ_cons, List.take_succ_cons]
      unfold SS.pairs
      rw [ih (by simpa using h)]
      rfl
theorem pairs_len (ps : List (Int × Int)) : (SS.pairs ps).length = 2 * ps.length := SS.pairs_length ps
/-- The numbers, with the first k of those that pend. -/
def numsTo (s : SS) (k : Nat) : List Int := s.hi :: (s.fr.length : Int) :: (s.fr ++ (s.pe.length : Int) :: SS.pairs (s.pe.take k))
theorem numsTo_len (s : SS) {k : Nat} (hk : k ≤ s.pe.length) : (numsTo s k).length = s.fr.length + 3 + 2 * k := by
  unfold numsTo
  simp only [List.length_cons, List.length_append, pairs_len, List.length_take]
  omega
theorem numsTo_more {s : SS} {k : Nat} {x y : Int} (h : s.pe[k]? = some (x, y)) : numsTo s (k + 1) = numsTo s k ++ [x, y] := by
  unfold numsTo
  rw [pairs_take h]
  simp
theorem numsTo_all (s : SS) {k : Nat} (hk : s.pe.length ≤ k) : numsTo s k = s.nums := by
  unfold numsTo SS.nums
  rw [List.take_of_length_le hk]

set_option maxRecDepth 20000 in
set_option maxHeartbeats 3200000 in
theorem encode_any (s : SS) (h : Int) (A B : Option Addr) (n c m d : Nat) (w : World) (hh : s.hi = h) (hs : Sp w A n c B m d s) (hn : n ≤ 50000) (hm : m ≤ 50000) :
    Calls Try.prog 27 #[.agg #[.int .i64 h, .slice A n c, .slice B m d]] w (PartsEnd w s.enc) := by
  obtain ⟨i0, hi, hz0, hz1, hz2⟩ := info_parts intInfo
  have hb1 := below_one w (.cells #[.int .i64 h, .slice A n c, .slice B m d] 26)
  have P0 := enc_pile (hs.fr.kept hb1) h (n : Int) (m : Int) 3 23
  rw [show (w.alloc (.cells #[.int .i64 h, .slice A n c, .slice B m d] 26)).heap.size = w.heap.size + 1 by simp] at P0
  have HP := Lib.hid P0
  have HB := Lib.hid (box_new w (.int .i64 h) (.slice A n c) (.slice B m d))
  have HS := Lib.hid (hs.kept hb1)
  have B0 := Lib.hid hb1
  have HFL := Lib.hid hs.fl
  have HPL := Lib.hid hs.pl
  have HH := Lib.hid hh
  have hcs : pcs [⟨some ⟨w.heap.size + 1, 0, none⟩, 2, 2, intVals [h, (n : Int)]⟩, ⟨A, n, c, intVals s.fr⟩, ⟨some ⟨w.heap.size + 1 + 1, 0, none⟩, 1, 1, intVals [(m : Int)]⟩] = intVals (numsTo s 0) := by
    unfold pcs numsTo
    rw [hs.fl, hs.pl, hh]
    simp [intVals, SS.pairs]
  have HCS := Lib.hid hcs
  clear hs hh P0 hcs hb1
  go_enter Try.func27, Try.ntmps27
  go_wp2_with fail
  generalize w.alloc (.cells #[.int .i64 h, .slice A n c, .slice B m d] 26) = w0 at *
  refine (join_I _ 3 3 (n + 3) _ _ HP.out rfl (by simp [tot]; omega) (by omega) (by decide)).mono ?_
  rintro e w1 ⟨v1, rfl, o1, b1⟩
  rw [HCS.out] at o1
  have b3 := below_three w0 (.cells #[.int .i64 h, .int .i64 (n : Int)] 3) (.cells #[.int .i64 (m : Int)] 3) (.cells #[.slice (some ⟨w.heap.size + 1, 0, none⟩) 2 2, .slice A n c, .slice (some ⟨w.heap.size + 1 + 1, 0, none⟩) 1 1] 23)
  have B1 := Lib.hid (b3.trans (b1.mono b3.size))
  have O1 : Hid (w1.ownsRow w0.heap.size 3 1 v1 (n + 3 + 2 * 0) (intVals (numsTo s 0))) := Lib.hid (own_base_low o1 b3.size)
  obtain ⟨y0, y1, y2⟩ := (HB.out.kept B1.out).cells
  clear o1 b1 b3 HP HCS
  go_wp2_with fail
  clear y0 y1 y2
  go_loopw [3, 23] (fun v i wk => ∃ k : Nat, k ≤ m ∧ i = .int .i64 k ∧ Hid (wk.ownsRow w0.heap.size 3 1 v (n + 3 + 2 * k) (intVals (numsTo s k))) ∧ Hid (Below w0.heap.size w0 wk)) (fun _ i _ => m - (intOf i).toNat)
  case atStart => exact ⟨0, Nat.zero_le _, rfl, O1, B1⟩
  case round =>
    obtain ⟨k, hk, rfl, O2, B2⟩ := hrel
    by_cases hlt : k < m
    · obtain ⟨b, off, x, y, rfl, hv, c0, c1⟩ := (HS.out.pe.kept B2.out).prAt hlt
      have HV := Lib.hid (numsTo_more hv)
      have bs := B2.out.size
      have o2 := O2.out
      clear hv
      go_wp2_with (at_builtin; refine wpList_append_own _ rfl (.tmp 27) (.tmp 32) 23 rfl w0.heap.size 3 i0 (.int .i64 0) 1 8 Try.underlying23 hi hz0 hz1 hz2 rfl (by decide) _ _ _ rfl ((o2.alloc _).alloc _) ⟨wr.heap.size + 1, 0, none⟩ 2 2 [.int .i64 x, .int .i64 y] rfl rfl (cell_two_two _ _ _ _ _) (by simp [Value.oneCell']) (by unfold maxLen; omega) (by omega) (by simp; omega) ?_; intro v3 w3 hown3 hg3 _)
      have O3 : Hid (w3.ownsRow w0.heap.size 3 1 v3 (n + 3 + 2 * (k + 1)) (intVals (numsTo s (k + 1)))) := by
        rw [HV.out, sIntVals_append]
        exact Lib.hid hown3
      have B3 : Hid (Below w0.heap.size w0 w3) := Lib.hid (((B2.out.alloc bs _).alloc (by simp; omega) _).grown hg3 (by simp; omega) (fun g hg => (o2.lt g hg).1))
      clear hown3 hg3 o2 O2 B2 HV
      go_roundw
      case rel => exact ⟨k + 1, by omega, by go_num, O3, B3⟩
      case measure => simp [intOf]; omega
    · obtain rfl : m = k := by omega
      have o2 := O2.out
      rw [numsTo_all s (by rw [HPL.out]; exact Nat.le_refl _)] at o2
      obtain ⟨A4, c4, rfl, _, l4⟩ := Ln.of_own o2
      have L4 := Lib.hid l4
      have HNL := Lib.hid l4.intN
      clear o2 l4 O2
      go_wp2_with fail
      refine (numbers_n A4 (n + 3 + 2 * m) c4 s.nums wr L4.out.ints HNL.out (by omega)).mono ?_
      rintro e w5 ⟨v5, rfl, o5, b5⟩
      obtain ⟨A5, c5, rfl, _, l5⟩ := Ln.of_own o5
      have L5 := Lib.hid l5
      have hlb := numB_length s.nums
      rw [HNL.out] at hlb
      have HLB := Lib.hid hlb
      have B5 := Lib.hid (B2.out.trans (b5.mono B2.out.size))
      obtain ⟨N, hN⟩ : ∃ N, (numB s.nums).length = N := ⟨_, rfl⟩
      rw [hN] at L5 HLB ⊢
      clear o5 l5 b5 hlb hN L4
      go_wp2_with fail
      refine (cut_any A5 N c5 (numB s.nums) w5 L5.out (by have := HLB.out; omega)).mono ?_
      rintro e w6 ⟨A6, c6, rfl, hbp, b6⟩
      have HP6 := Lib.hid hbp
      have B6 := Lib.hid (B0.out.trans ((B5.out.trans (b6.mono B5.out.size)).mono B0.out.size))
      clear hbp b6
      go_wp2_with fail
      go_ret
      exact ⟨A6, c6, rfl, HP6.out, B6.out⟩
end Go.Proofs.Ytlldmefjhgahdaa

/-
  What told comes to.
-/
namespace Go.Proofs.Ytlldmefjhgahdaa
open Go.RowKit

/-- A call that answers pages' lists alone. -/
def ToldEnd (w : World) (s : SS) (e : Ending) (w' : World) : Prop :=
  ∃ A n c B m d, e = .returned (.agg #[.int .i64 s.hi, .slice A n c, .slice B m d]) ∧ Sp w' A n c B m d s ∧ Hi w.heap.size A ∧ Hi w.heap.size B ∧ Below w.heap.size w w'
theorem told_done {w w2 : World} {n c m d : Nat} {h : Int} {A B : Option Addr} {s : SS} (hb : Below w.heap.size w w2) (hs : Sp w2 A n c B m d s) (hA : Hi (w.heap.size + 1) A) (hB : Hi (w.heap.size + 1) B) (hh : s.hi = h) (x y z : Value) :
    ToldEnd w s (.returned (.agg #[.int .i64 h, .slice A n c, .slice B m d])) (((w2.setCell ⟨w.heap.size, 0, none⟩ x).setCell ⟨w.heap.size, 1, none⟩ y).setCell ⟨w.heap.size, 2, none⟩ z) :=
  ⟨A, n, c, B, m, d, by rw [hh], hs.but (But.put w2 w.heap.size x y z) hA hB, hA.low (Nat.le_succ _), hB.low (Nat.le_succ _), below_put hb (Nat.le_refl _) x y z⟩

set_option maxRecDepth 20000 in
set_option maxHeartbeats 800000 in
theorem told_short (A : Option Addr) (n c : Nat) (l : List Int) (w : World) (hl : Ln w 1 A n c (intVals l)) (hn : n < 3) (hr : ∀ z ∈ l, 0 ≤ z ∧ z ≤ 2147483647) :
    Calls Try.prog 44 #[.slice A n c] w (ToldEnd w (SS.told l)) := by
  have hN := hl.intN
  have HT : Hid (SS.told l = SS.none) := by
    match l, hN, hr with
    | [], _, _ => exact Lib.hid rfl
    | [_], _, _ => exact Lib.hid rfl
    | [x, y], _, hr =>
      rw [SS.told_two]
      have := hr y (by simp)
      rw [if_neg (by simp; omega)]
      exact Lib.hid rfl
    | x :: y :: z :: r, h, _ => simp at h; omega
  have B0 := Lib.hid (below_one w (.cells #[.int .i64 0, .slice none 0 0, .slice none 0 0] 26))
  have HR := Lib.hid (box_new w (.int .i64 0) (.slice none 0 0) (.slice none 0 0))
  clear hl hN hr
  go_enter Try.func44, Try.ntmps44
  obtain ⟨q0, q1, q2⟩ := HR.out.cells
  obtain ⟨f0, f1, f2⟩ := HR.out.free
  go_upto_region 1 with fail
  generalize w.alloc (.cells #[.int .i64 0, .slice none 0 0, .slice none 0 0] 26) = w0 at *
  have HD := Lib.hid (told_done (h := 0) B0.out (Sp.zero w0) (Hi.none_ _) (Hi.none_ _) rfl (.int .i64 0) (.slice none 0 0) (.slice none 0 0))
  obtain ⟨e0, e1, e2⟩ := (Lib.hid (HR.out.put (.int .i64 0) (.slice none 0 0) (.slice none 0 0))).out.cells
  go_wp2_with fail
  refine bodyPost_ret (v := .agg #[.int .i64 0, .slice none 0 0, .slice none 0 0]) (by simp [results, Try.results44, go_sem, e0, e1, e2]) rfl ?_
  rw [HT.out]
  exact HD.out

set_option maxRecDepth 20000 in
set_option maxHeartbeats 800000 in
theorem told_big (A : Option Addr) (n c : Nat) (l : List Int) (N : Nat) (w : World) (hl : Ln w 1 A n c (intVals l)) (hn : 3 ≤ n) (hm : n ≤ 1000000) (hv : l[1]? = some (N : Int)) (hN : n < N + 3) :
    Calls Try.prog 44 #[.slice A n c] w (ToldEnd w (SS.told l)) := by
  have hlen := hl.intN
  have HT : Hid (SS.told l = SS.none) := by
    match l, hlen, hv with
    | x :: y :: r, hlen, hv =>
      obtain rfl : y = (N : Int) := by simpa using hv
      rw [SS.told_two]
      rw [if_neg (by simp at hlen; omega)]
      exact Lib.hid rfl
    | [x], h, _ => simp at h; omega
    | [], h, _ => simp at h; omega
  obtain ⟨b, off, z, rfl, hz, c1⟩ := hl.intAt (k := 1) (by omega)
  obtain rfl : z = (N : Int) := by rw [hv] at hz; exact (Option.some.inj hz).symm
  have hb := World.block_lt_of_cell? _ _ c1
  have B0 := Lib.hid (below_one w (.cells #[.int .i64 0, .slice none 0 0, .slice none 0 0] 26))
  have HR := Lib.hid (box_new w (.int .i64 0) (.slice none 0 0) (.slice none 0 0))
  have C1 : (w.alloc (.cells #[.int .i64 0, .slice none 0 0, .slice none 0 0] 26)).cell? ⟨b, off + 1, none⟩ = some (.int .i64 (N : Int)) := (B0.out.cell (p := ⟨b, off + 1, none⟩) hb).trans c1
  clear hl hlen hv hz c1
  go_enter Try.func44, Try.ntmps44
  obtain ⟨q0, q1, q2⟩ := HR.out.cells
  obtain ⟨f0, f1, f2⟩ := HR.out.free
  go_upto_region 1 with fail
  generalize w.alloc (.cells #[.int .i64 0, .slice none 0 0, .slice none 0 0] 26) = w0 at *
  have HD := Lib.hid (told_done (h := 0) B0.out (Sp.zero w0) (Hi.none_ _) (Hi.none_ _) rfl (.int .i64 0) (.slice none 0 0) (.slice none 0 0))
  obtain ⟨e0, e1, e2⟩ := (Lib.hid (HR.out.put (.int .i64 0) (.slice none 0 0) (.slice none 0 0))).out.cells
  have i0 : ¬ ((n : Int) < 3) := by omega
  have i1 : (1 : Int) < (n : Int) := by omega
  have i2 : wrap64 ((n : Int) - 3) = (n : Int) - 3 := by unfold wrap64; omega
  have i3 : (n : Int) - 3 < (N : Int) := by omega
  go_wp2_with fail
  refine bodyPost_ret (v := .agg #[.int .i64 0, .slice none 0 0, .slice none 0 0]) (by simp [results, Try.results44, go_sem, e0, e1, e2]) rfl ?_
  rw [HT.out]
  exact HD.out

theorem chainT {w1 wx w3 : World} (b : Below wx.heap.size wx w3) (h : Below w1.heap.size w1 wx) : Below w1.heap.size w1 w3 := h.trans (b.mono h.size)
/-- What is held once the lists' own block is laid. -/
structure TB (w wx : World) (r4 : Nat) (h : Int) (A2 : Option Addr) (N c2 : Nat) (cs : List Value) : Prop where
  box : Box wx r4 (.int .i64 h) (.slice A2 N c2) (.slice none 0 0)
  res : Box wx w.heap.size (.int .i64 0) (.slice none 0 0) (.slice none 0 0)
  free : Ln wx 1 A2 N c2 cs
  far : ∀ ad, A2 = some ad → ad.block ≠ r4 ∧ w.heap.size < ad.block ∧ ad.block < wx.heap.size
  lt : w.heap.size < r4
  bel : Below w.heap.size w wx

set_option maxRecDepth 20000 in
theorem tb_put {w w0 wx w2 : World} {r4 N c2 : Nat} {A2 : Option Addr} {cs : List Value} (b0 : Below w.heap.size w w0) (bc : Below w0.heap.size w0 w2) (hr : Box w0 w.heap.size (.int .i64 0) (.slice none 0 0) (.slice none 0 0)) (hx : Box w2 r4 (.int .i64 0) (.slice none 0 0) (.slice none 0 0))
    (o2 : w2.ownsRow wx.heap.size 3 1 (.slice A2 N c2) N cs) (l2 : Ln w2 1 A2 N c2 cs) (hlt : r4 + 1 ≤ wx.heap.size) (hr4 : w0.heap.size ≤ r4) (h : Int) :
    TB w (((w2.setCell ⟨r4, 0, none⟩ (.int .i64 h)).setCell ⟨r4, 1, none⟩ (.slice A2 N c2)).setCell ⟨r4, 2, none⟩ (.slice none 0 0)) r4 h A2 N c2 cs := by
  have hlr := hr.lt
  have hi : Hi (r4 + 1) A2 := (Hi.of_own o2).low hlt
  have bu := But.put w2 r4 (.int .i64 h) (.slice A2 N c2) (.slice none 0 0)
  refine ⟨hx.put _ _ _, (hr.kept bc).but bu (by omega), l2.but bu hi, fun ad e => ?_, by omega, below_put (b0.trans (bc.mono b0.size)) (by omega) _ _ _⟩
  have h1 := hi ad e
  have h3 := bu.1
  subst e
  have h2 := o2.lt ad.block rfl
  omega
set_option maxRecDepth 20000 in
theorem tb_new {w w0 wx w2 : World} {N c2 : Nat} {A2 : Option Addr} {cs : List Value} (b0 : Below w.heap.size w w0) (bc : Below w0.heap.size w0 w2) (hr : Box w0 w.heap.size (.int .i64 0) (.slice none 0 0) (.slice none 0 0))
    (o2 : w2.ownsRow wx.heap.size 3 1 (.slice A2 N c2) N cs) (l2 : Ln w2 1 A2 N c2 cs) (hlt : w0.heap.size ≤ wx.heap.size) (h : Int) :
    TB w (w2.alloc (.cells #[.int .i64 h, .slice A2 N c2, .slice none 0 0] 26)) w2.heap.size h A2 N c2 cs := by
  have hlr := hr.lt
  have hs := bc.size
  have ba := below_one w2 (.cells #[.int .i64 h, .slice A2 N c2, .slice none 0 0] 26)
  refine ⟨box_new w2 _ _ _, (hr.kept bc).kept ba, l2.kept ba, fun ad e => ?_, by omega, (b0.trans (bc.mono b0.size)).trans (ba.mono (by omega))⟩
  have h1 := Hi.of_own o2 ad e
  subst e
  have h2 := o2.lt ad.block rfl
  have h3 := ba.size
  omega

set_option maxRecDepth 20000 in
theorem freedInfo : (Try.prog.info? 49).map (fun i => (i.zero, i.size, i.bytes)) = some (some (.agg #[.int .i64 0, .int .i64 0]), 2, 16) := by kernel_rfl

/-- What is held while pairs are told. -/
structure ToldAt (w w4 : World) (r4 : Nat) (h : Int) (A2 : Option Addr) (N c2 : Nat) (cs : List Value) (all : List (Int × Int)) (A5 : Option Addr) (g c5 : Nat) (rest : List Int) (ps : List (Int × Int)) (v : Value) (wk : World) : Prop where
  left : Ln w 1 A5 g c5 (intVals rest)
  box : Box wk r4 (.int .i64 h) (.slice A2 N c2) v
  res : Box wk w.heap.size (.int .i64 0) (.slice none 0 0) (.slice none 0 0)
  free : Ln wk 1 A2 N c2 cs
  own : wk.ownsRow w4.heap.size 49 2 v ps.length (prVals ps)
  bel : Below w.heap.size w wk
  siz : w4.heap.size ≤ wk.heap.size
  all : ps ++ SS.unpairs rest = all
  sum : 2 * ps.length + g ≤ 1000000
def ToldRel (w w4 : World) (r4 : Nat) (h : Int) (A2 : Option Addr) (N c2 : Nat) (cs : List Value) (all : List (Int × Int)) (g : Nat) (s : Value) (wk : World) : Prop :=
  ∃ (A5 : Option Addr) (c5 : Nat) (rest : List Int) (ps : List (Int × Int)) (v : Value), s = .slice A5 g c5 ∧ ToldAt w w4 r4 h A2 N c2 cs all A5 g c5 rest ps v wk

set_option maxRecDepth 20000 in
theorem ToldAt.step {w w4 wr w5 : World} {r4 N c2 g c5 c6 gg cap : Nat} {h x y : Int} {A2 A5 A6 : Option Addr} {cs : List Value} {all : List (Int × Int)} {r : List Int} {ps : List (Int × Int)} {v : Value} {C : Array Value} {T : TypeId}
    (hT : ToldAt w w4 r4 h A2 N c2 cs all A5 (g + 2) c5 (x :: y :: r) ps v wr) (hr4 : r4 < w4.heap.size) (hlt : w.heap.size < r4) (hfar : ∀ ad, A2 = some ad → ad.block ≠ r4 ∧ w.heap.size < ad.block ∧ ad.block < w4.heap.size)
    (hA : Ln w 1 A6 g c6 (intVals r)) (hown : w5.ownsRow w4.heap.size 49 2 (.slice (some ⟨gg, 0, none⟩) (ps.length + 1) cap) (ps.length + 1) (prVals ps ++ [.int .i64 x, .int .i64 y])) (hg : ((wr.alloc (.cells C T)).drew).grownBy w5 v.ownBlock) :
    ToldRel w w4 r4 h A2 N c2 cs all g (.slice A6 g c6) (w5.setCell ⟨r4, 2, none⟩ (.slice (some ⟨gg, 0, none⟩) (ps.length + 1) cap)) := by
  have hb : ∀ k, k < w4.heap.size → w5.heap[k]? = wr.heap[k]? := fun k hk => by
    have h1 := hT.siz
    rw [hg.block k (by show k < (wr.alloc (.cells C T)).heap.size; simp; omega) (fun e => by have := (hT.own.lt k e.symm).1; omega)]
    exact heap_alloc_old _ _ (by omega)
  have hs5 : w4.heap.size ≤ w5.heap.size := by
    have h1 := hT.siz
    have h2 := hg.size
    have h3 : ((wr.alloc (.cells C T)).drew).heap.size = wr.heap.size + 1 := by show (wr.alloc (.cells C T)).heap.size = _; simp
    omega
  have bu := (But.refl r4 w5).set 2 (.slice (some ⟨gg, 0, none⟩) (ps.length + 1) cap)
  have hgg := hown.lt gg rfl
  have hlr := hT.res.lt
  refine ⟨A6, c6, r, ps ++ [(x, y)], .slice (some ⟨gg, 0, none⟩) (ps.length + 1) cap, rfl, hA, ?_, ?_, ?_, ?_, ?_, ?_, ?_, ?_⟩
  · exact Box.set2 (show Box w5 r4 _ _ _ from (hb r4 hr4).trans hT.box) _
  · exact Box.but (show Box w5 w.heap.size _ _ _ from (hb _ (by omega)).trans hT.res) bu (by omega)
  · refine ⟨hT.free.len, hT.free.le, hT.free.lies.1, fun ad e j u hu => ?_⟩
    obtain ⟨f1, f2, f3⟩ := hfar ad e
    have h0 := hT.free.lies.2 ad e j u hu
    have hblk : (ad.add j).block = ad.block := by unfold Addr.add; split <;> rfl
    rw [World.cell?_of_block (w := w5) (bu.2 (ad.add j).block (by omega)), World.cell?_of_block (w := wr) (hb (ad.add j).block (by omega))]
    exact h0
  · rw [prVals_append, List.length_append]
    refine ownsRow_setCell_below hown (by show r4 < w4.heap.size; exact hr4) _
  · refine (((hT.bel.alloc hT.bel.size _).drew).grown hg ?_ (fun k e => ?_)).setCell (by show w.heap.size ≤ r4; omega) _
    · have := hT.bel.size
      show w.heap.size ≤ (wr.alloc (.cells C T)).heap.size
      simp
      omega
    · have := (hT.own.lt k e).1
      omega
  · rw [← bu.1]
    exact hs5
  · rw [← hT.all]
    show ps ++ [(x, y)] ++ SS.unpairs r = ps ++ (x, y) :: SS.unpairs r
    simp
  · have := hT.sum
    rw [List.length_append, List.length_singleton]
    omega

set_option maxRecDepth 20000 in
set_option maxHeartbeats 3200000 in
theorem told_long (A : Option Addr) (n c : Nat) (l : List Int) (h : Int) (N : Nat) (w : World) (hl : Ln w 1 A n c (intVals l)) (hn : N + 3 ≤ n) (hm : n ≤ 1000000) (hh : l[0]? = some h) (hv : l[1]? = some (N : Int)) :
    Calls Try.prog 44 #[.slice A n c] w (ToldEnd w (SS.told l)) := by
  have hlen := hl.intN
  have HLN := Lib.hid hlen
  have HT : Hid (SS.told l = ⟨h, (l.drop 2).take N, SS.unpairs (l.drop (N + 3))⟩) := by
    match l, hlen, hv, hh with
    | x :: y :: r, hlen, hv, hh =>
      obtain rfl : y = (N : Int) := by simpa using hv
      obtain rfl : x = h := by simpa using hh
      rw [SS.told_two, if_pos (by simp at hlen; omega)]
      exact Lib.hid (by simp)
    | [x], h, _, _ => simp at h; omega
    | [], h, _, _ => simp at h; omega
  have HL := Lib.hid hl
  obtain ⟨b, off, z, rfl, hz, c1⟩ := hl.intAt (k := 1) (by omega)
  obtain rfl : z = (N : Int) := by rw [hv] at hz; exact (Option.some.inj hz).symm
  obtain ⟨b', off', z', e0, hz', c0⟩ := hl.intAt (k := 0) (by omega)
  have e1 := Option.some.inj e0
  injection e1 with e1 e2
  subst e1
  subst e2
  obtain rfl : z' = h := by rw [hh] at hz'; exact (Option.some.inj hz').symm
  have hb := World.block_lt_of_cell? _ _ c1
  have B0 := Lib.hid (below_one w (.cells #[.int .i64 0, .slice none 0 0, .slice none 0 0] 26))
  have HR := Lib.hid (box_new w (.int .i64 0) (.slice none 0 0) (.slice none 0 0))
  have C1 : (w.alloc (.cells #[.int .i64 0, .slice none 0 0, .slice none 0 0] 26)).cell? ⟨b, off + 1, none⟩ = some (.int .i64 (N : Int)) := (B0.out.cell (p := ⟨b, off + 1, none⟩) hb).trans c1
  have C0 : (w.alloc (.cells #[.int .i64 0, .slice none 0 0, .slice none 0 0] 26)).cell? ⟨b, off, none⟩ = some (.int .i64 z') := (B0.out.cell (p := ⟨b, off, none⟩) hb).trans c0
  have hnc := hl.le
  clear hl hlen hv hz c1 c0 hh hz'
  go_enter Try.func44, Try.ntmps44
  go_upto_region 1 with fail
  generalize w.alloc (.cells #[.int .i64 0, .slice none 0 0, .slice none 0 0] 26) = w0 at *
  have i0 : ¬ ((n : Int) < 3) := by omega
  have i1 : (1 : Int) < (n : Int) := by omega
  have i1' : (0 : Int) < (n : Int) := by omega
  have i2 : wrap64 ((n : Int) - 3) = (n : Int) - 3 := by unfold wrap64; omega
  have i3 : ¬ ((n : Int) - 3 < (N : Int)) := by omega
  have i5 : (2 : Int) ≤ 2 + (N : Int) := by omega
  have i6 : 2 + (N : Int) ≤ (c : Int) := by omega
  have i10 : (2 + (N : Int)).toNat - 2 = N := by omega
  have i7 : ¬ c = 2 := by omega
  have i8 : (2 : Int) < (c : Int) := by omega
  have i9 : 0 < n := by omega
  have LF := Lib.hid (((HL.out.kept B0.out).intDrop (k := 2) (by omega)).intTake (k := N) (by omega))
  have BAa := Lib.hid ((below_one w0 (.cells #[.slice (some ⟨b, off + 2, none⟩) N (c - 2)] 23)).drew)
  have BAb := Lib.hid ((below_two w0 (.cells #[.int .i64 0, .slice none 0 0, .slice none 0 0] 26) (.cells #[.slice (some ⟨b, off + 2, none⟩) N (c - 2)] 23)).drew)
  have BAc := Lib.hid ((below_two w0 (.cells #[.slice (some ⟨b, off + 2, none⟩) N (c - 2)] 23) (.cells #[.int .i64 0, .slice none 0 0, .slice none 0 0] 26)).drew)
  have BAd := Lib.hid ((below_one w0 (.cells #[.int .i64 0, .slice none 0 0, .slice none 0 0] 26)).drew)
  have HPa := Lib.hid ((pile_one LF.out (intVals_one _) 23).kept ((Below.refl _ _).drew))
  have PB0 := (pile_one (LF.out.kept (below_one w0 (.cells #[.int .i64 0, .slice none 0 0, .slice none 0 0] 26))) (intVals_one _) 23).kept ((Below.refl _ _).drew)
  rw [show (w0.alloc (.cells #[.int .i64 0, .slice none 0 0, .slice none 0 0] 26)).heap.size = w0.heap.size + 1 by simp] at PB0
  have HPb := Lib.hid PB0
  clear PB0
  have HPc := Lib.hid ((pile_one LF.out (intVals_one _) 23).kept ((below_one _ (.cells #[.int .i64 0, .slice none 0 0, .slice none 0 0] 26)).drew))
  have HXb := Lib.hid (show Box (((w0.alloc (.cells #[.int .i64 0, .slice none 0 0, .slice none 0 0] 26)).alloc (.cells #[.slice (some ⟨b, off + 2, none⟩) N (c - 2)] 23)).drew) w0.heap.size (.int .i64 0) (.slice none 0 0) (.slice none 0 0) from (box_new w0 _ _ _).kept ((below_one _ (.cells #[.slice (some ⟨b, off + 2, none⟩) N (c - 2)] 23)).drew))
  have HXc : Hid (Box (((w0.alloc (.cells #[.slice (some ⟨b, off + 2, none⟩) N (c - 2)] 23)).alloc (.cells #[.int .i64 0, .slice none 0 0, .slice none 0 0] 26)).drew) (w0.heap.size + 1) (.int .i64 0) (.slice none 0 0) (.slice none 0 0)) := by
    have := box_new (w0.alloc (.cells #[.slice (some ⟨b, off + 2, none⟩) N (c - 2)] 23)) (.int .i64 0) (.slice none 0 0) (.slice none 0 0)
    rw [show (w0.alloc (.cells #[.slice (some ⟨b, off + 2, none⟩) N (c - 2)] 23)).heap.size = w0.heap.size + 1 by simp] at this
    exact Lib.hid (this.kept ((Below.refl _ _).drew))
  have hb0 : b < w0.heap.size := Nat.lt_of_lt_of_le hb B0.out.size
  have HC0 := Lib.hid C0
  have K0 : w0.drew.cell? ⟨b, off, none⟩ = some (.int .i64 z') := C0
  have Ka : ((w0.alloc (.cells #[.slice (some ⟨b, off + 2, none⟩) N (c - 2)] 23)).drew).cell? ⟨b, off, none⟩ = some (.int .i64 z') := (BAa.out.cell (p := ⟨b, off, none⟩) hb0).trans C0
  have Kb : (((w0.alloc (.cells #[.int .i64 0, .slice none 0 0, .slice none 0 0] 26)).alloc (.cells #[.slice (some ⟨b, off + 2, none⟩) N (c - 2)] 23)).drew).cell? ⟨b, off, none⟩ = some (.int .i64 z') := (BAb.out.cell (p := ⟨b, off, none⟩) hb0).trans C0
  have Kc : (((w0.alloc (.cells #[.slice (some ⟨b, off + 2, none⟩) N (c - 2)] 23)).alloc (.cells #[.int .i64 0, .slice none 0 0, .slice none 0 0] 26)).drew).cell? ⟨b, off, none⟩ = some (.int .i64 z') := (BAc.out.cell (p := ⟨b, off, none⟩) hb0).trans C0
  have Kd : ((w0.alloc (.cells #[.int .i64 0, .slice none 0 0, .slice none 0 0] 26)).drew).cell? ⟨b, off, none⟩ = some (.int .i64 z') := (BAd.out.cell (p := ⟨b, off, none⟩) hb0).trans C0
  go_upto_region 4 with fail
  go_cut [4] (fun s4 wx => ∃ (r4 : Nat) (A2 : Option Addr) (c2 : Nat), s4 = .pointer (some ⟨r4, 0, none⟩) ∧ Hid (TB w wx r4 z' A2 N c2 (intVals ((l.drop 2).take N))))
  case first =>
    go_region_held3 (fun w' => w'.cell? ⟨b, off, none⟩ = some (.int .i64 z'))
      (first | exact K3 _ _ _ | exact K4 | exact K2 | exact Ka | exact Kb | exact Kc | exact Kd | exact K0)
      (first
        | (go_at_call 31; refine (join_I _ 1 1 N _ _ (by first | exact HPa.out | exact HPb.out | exact HPc.out) rfl (by simp [tot]) (by omega) (by decide)).mono ?_; rintro e w2 ⟨v2, rfl, o2, b2⟩; obtain ⟨A2, c2, rfl, hc2, l2⟩ := Ln.of_own o2; have BC := Lib.hid (chainT b2 (by first | exact BAa.out | exact BAb.out | exact BAc.out)); have K2 : w2.cell? ⟨b, off, none⟩ = some (.int .i64 z') := (BC.out.cell (p := ⟨b, off, none⟩) hb0).trans HC0.out; first | (have HX2 := Lib.hid (HXb.out.kept b2); have HLT := Lib.hid (Nat.le_of_eq (show w0.heap.size + 1 + 1 = (((w0.alloc (.cells #[.int .i64 0, .slice none 0 0, .slice none 0 0] 26)).alloc (.cells #[.slice (some ⟨b, off + 2, none⟩) N (c - 2)] 23)).drew).heap.size by simp)); have HT2 := Lib.hid (tb_put B0.out BC.out HR.out HX2.out o2 l2 (by have := HLT.out; omega) (Nat.le_refl _) z'); obtain ⟨q0, q1, q2⟩ := HX2.out.cells; obtain ⟨f0, f1, f2⟩ := HX2.out.free; have K4 := ((But.put w2 w0.heap.size (.int .i64 z') (.slice A2 N c2) (.slice none 0 0)).cell (k := b) (by omega) off).trans K2) | (have HX2 := Lib.hid (HXc.out.kept b2); have HLT := Lib.hid (Nat.le_of_eq (show w0.heap.size + 1 + 1 = (((w0.alloc (.cells #[.slice (some ⟨b, off + 2, none⟩) N (c - 2)] 23)).alloc (.cells #[.int .i64 0, .slice none 0 0, .slice none 0 0] 26)).drew).heap.size by simp)); have HT2 := Lib.hid (tb_put B0.out BC.out HR.out HX2.out o2 l2 (by have := HLT.out; omega) (Nat.le_succ _) z'); obtain ⟨q0, q1, q2⟩ := HX2.out.cells; obtain ⟨f0, f1, f2⟩ := HX2.out.free; have K4 := ((But.put w2 (w0.heap.size + 1) (.int .i64 z') (.slice A2 N c2) (.slice none 0 0)).cell (k := b) (by omega) off).trans K2) | (have hb2 : b < w2.heap.size := World.block_lt_of_cell? _ _ K2; have K3 : ∀ x y z : Value, (w2.alloc (.cells #[x, y, z] 26)).cell? ⟨b, off, none⟩ = some (.int .i64 z') := (fun x y z => ((below_one w2 _).cell (p := ⟨b, off, none⟩) hb2).trans K2); have HT2 := Lib.hid (tb_new B0.out BC.out HR.out o2 l2 (by have := BAa.out.size; omega) z'))))
    all_goals (
      go_wp2_with fail
      go_meet
      rw [pcs_one] at HT2
      exact ⟨_, A2, c2, rfl, HT2⟩)
  case rest =>
    obtain ⟨r4, A2, c2, rfl, HTB⟩ := hcut
    have j1 : wrap64 (2 + (N : Int) + 1) = (N : Int) + 3 := by unfold wrap64; omega
    have j2 : (0 : Int) ≤ (N : Int) + 3 := by omega
    have j3 : (N : Int) + 3 ≤ (n : Int) := by omega
    have j4 : (n : Int) ≤ (c : Int) := by omega
    have j5 : ((N : Int) + 3).toNat = N + 3 := by omega
    have j6 : (N : Int) + 3 ≤ (c : Int) := by omega
    go_upto_region 5 with fail
    obtain ⟨wx, hwx⟩ : ∃ wx, wx = wc := ⟨_, rfl⟩
    go_cut [5] (fun s5 w5 => ∃ (A5 : Option Addr) (M c5 : Nat), s5 = .slice A5 M c5 ∧ M ≤ n ∧ Hid (Ln w 1 A5 M c5 (intVals (l.drop (N + 3)))) ∧ w5 = wx)
    case first =>
      by_cases hcN : c = N + 3
      · subst hcN
        obtain rfl : n = N + 3 := by omega
        have LE : Hid (Ln w 1 (some ⟨b, off, none⟩) 0 0 (intVals (l.drop (N + 3)))) := by
          rw [List.drop_of_length_le (by rw [HLN.out]; exact Nat.le_refl _)]
          exact Lib.hid (Ln.empty _ _ _ _)
        go_wp2_with fail
        go_meet
        exact ⟨_, 0, 0, by rw [show N + 2 - (2 + N) = 0 by omega], Nat.zero_le _, LE, hwx.symm⟩
      · have k1 : (N : Int) + 3 < (c : Int) := by omega
        have LE := Lib.hid (HL.out.intDrop (k := N + 3) (by omega))
        go_wp2_with fail
        go_meet
        exact ⟨_, n - (N + 3), c - (N + 3), by rw [show 2 + N + 1 = N + 3 by omega], by omega, LE, hwx.symm⟩
    case rest =>
      obtain ⟨A5, M, c5, rfl, hMn, LE, hw5⟩ := hcut
      subst hw5
      subst hwx
      have hr4 := HTB.out.box.lt
      have H0 : Hid (ToldRel w wc r4 z' A2 N c2 (intVals ((l.drop 2).take N)) (SS.unpairs (l.drop (N + 3))) M (.slice A5 M c5) wc) :=
        Lib.hid ⟨A5, c5, l.drop (N + 3), [], .slice none 0 0, rfl, LE.out, HTB.out.box, HTB.out.res, HTB.out.free, World.ownsRow_nil _ _ _ _, HTB.out.bel, Nat.le_refl _, rfl, by simp; omega⟩
      obtain ⟨i0p, hi, hz0, hz1, hz2⟩ := info_parts freedInfo
      go_wp2_with fail
      go_loopg [5] M (fun g s wk => g ≤ M ∧ Hid (ToldRel w wc r4 z' A2 N c2 (intVals ((l.drop 2).take N)) (SS.unpairs (l.drop (N + 3))) g s wk))
      case atStart => exact ⟨Nat.le_refl _, H0⟩
      case round =>
        obtain ⟨hgM, HRel⟩ := hrel
        obtain ⟨G, hG⟩ : ∃ G, G = gk := ⟨_, rfl⟩
        subst hG
        obtain ⟨A6, c6, rest, ps, v, rfl, h1⟩ := HRel.out
        have H1 := Lib.hid h1
        clear HRel h1
        obtain ⟨b0, b1, b2⟩ := H1.out.box.cells
        obtain ⟨f0, f1, f2⟩ := H1.out.box.free
        by_cases hG2 : 1 < G
        · obtain ⟨M2, rfl⟩ : ∃ M2, G = M2 + 2 := ⟨G - 2, by omega⟩
          obtain ⟨b5, off5, rfl, hb5⟩ := H1.out.left.spot (by rw [intVals_length, H1.out.left.intN]; omega)
          obtain ⟨x, y, rr, rfl⟩ : ∃ x y rr, rest = x :: y :: rr := by
            have hl := H1.out.left.intN
            match rest, hl with
            | x :: y :: rr, _ => exact ⟨x, y, rr, rfl⟩
            | [_], h => simp at h
            | [], h => simp at h
          have d0 : wr.cell? ⟨b5, off5, none⟩ = some (.int .i64 x) := (H1.out.left.kept H1.out.bel).cell (j := 0) rfl
          have d1 : wr.cell? ⟨b5, off5 + 1, none⟩ = some (.int .i64 y) := (H1.out.left.kept H1.out.bel).cell (j := 1) rfl
          have o1 := H1.out.own
          have bsz := H1.out.siz
          have hr4r : r4 < wr.heap.size := Nat.lt_of_lt_of_le hr4 bsz
          have np : v.ownBlock ≠ some r4 := fun e => by have := (o1.lt r4 e).1; omega
          have hsum := H1.out.sum
          have hle := H1.out.left.le
          have m0 : (1 : Int) < (M2 : Int) + 2 := by omega
          have m1 : (0 : Int) < (M2 : Int) + 2 := by omega
          have m2 : (2 : Int) ≤ (M2 : Int) + 2 := by omega
          have m3 : (M2 : Int) + 2 ≤ (c6 : Int) := by omega
          have m4 : (2 : Int) ≤ (c6 : Int) := by omega
          by_cases hc6 : c6 = 2
          · subst hc6
            obtain rfl : M2 = 0 := by omega
            obtain rfl : rr = [] := List.eq_nil_of_length_eq_zero (by have := H1.out.left.intN; rw [List.length_cons, List.length_cons] at this; omega)
            go_wp2_with fail
            go_region_law
              ((refine step_append_lies _ (by rfl) _ _ _ (by rfl) wc.heap.size 49 i0p _ 2 16 Try.underlying24 hi hz0 hz1 hz2 rfl (by omega) v ps.length (prVals ps) (by rfl) ((o1.alloc _).drew)
                  ⟨wr.heap.size, 0, none⟩ 1 1 [.int .i64 x, .int .i64 y] (by rfl) (by rfl) (World.news_of_block (cs := #[.int .i64 x, .int .i64 y]) (t := 49) (fr := (0, 0)) (heap_alloc_new wr _)) (by simp [Value.oneCell'])
                  (by omega) (by unfold maxLen; omega) (by omega) (by simp; omega) (wr.heap.size + 1) (by simp) ?_; intro gg cap w5 hown5 hgrow hat hlt5; have T1 : w5.cell? ⟨r4, 2, none⟩ = some v := (hgrow.cell_far _ (by simp; omega) np.symm).trans ((below_one wr _).cell (p := ⟨r4, 2, none⟩) hr4r |>.trans b2); have T2 : w5.frozen? ⟨r4, 2, none⟩ = false := (World.frozen?_of_block (a := ⟨r4, 2, none⟩) (hgrow.block r4 (by simp; omega) np.symm)).trans ((below_one wr _).frozen (p := ⟨r4, 2, none⟩) hr4r |>.trans f2)))
            all_goals (
              have HS := Lib.hid (ToldAt.step H1.out hr4 HTB.out.lt HTB.out.far (Ln.empty w 1 ⟨b5, off5, none⟩ 0 : Ln w 1 (some ⟨b5, off5, none⟩) 0 0 (intVals [])) hown5 hgrow)
              clear hown5 hgrow hat hlt5 T1 T2
              go_wp2_with fail
              go_roundg 0
              case measure => omega
              case rel => exact ⟨by omega, HS⟩)
          · have m5 : (2 : Int) < (c6 : Int) := by omega
            go_wp2_with fail
            go_region_law
              ((refine step_append_lies _ (by rfl) _ _ _ (by rfl) wc.heap.size 49 i0p _ 2 16 Try.underlying24 hi hz0 hz1 hz2 rfl (by omega) v ps.length (prVals ps) (by rfl) ((o1.alloc _).drew)
                  ⟨wr.heap.size, 0, none⟩ 1 1 [.int .i64 x, .int .i64 y] (by rfl) (by rfl) (World.news_of_block (cs := #[.int .i64 x, .int .i64 y]) (t := 49) (fr := (0, 0)) (heap_alloc_new wr _)) (by simp [Value.oneCell'])
                  (by omega) (by unfold maxLen; omega) (by omega) (by simp; omega) (wr.heap.size + 1) (by simp) ?_; intro gg cap w5 hown5 hgrow hat hlt5; have T1 : w5.cell? ⟨r4, 2, none⟩ = some v := (hgrow.cell_far _ (by simp; omega) np.symm).trans ((below_one wr _).cell (p := ⟨r4, 2, none⟩) hr4r |>.trans b2); have T2 : w5.frozen? ⟨r4, 2, none⟩ = false := (World.frozen?_of_block (a := ⟨r4, 2, none⟩) (hgrow.block r4 (by simp; omega) np.symm)).trans ((below_one wr _).frozen (p := ⟨r4, 2, none⟩) hr4r |>.trans f2)))
            all_goals (
              have HS := Lib.hid (ToldAt.step H1.out hr4 HTB.out.lt HTB.out.far (by have := H1.out.left.intDrop (k := 2) (by omega); simpa using this : Ln w 1 (some ⟨b5, off5 + 2, none⟩) M2 (c6 - 2) (intVals rr)) hown5 hgrow)
              clear hown5 hgrow hat hlt5 T1 T2
              go_wp2_with fail
              go_roundg M2
              case measure => omega
              case rel => exact ⟨by omega, HS⟩)
        · have hall : ps = SS.unpairs (l.drop (N + 3)) := by
            have h1 := H1.out.all
            have h2 := H1.out.left.intN
            rw [show SS.unpairs rest = [] by
              match rest, h2 with
              | [], _ => rfl
              | [_], _ => rfl
              | x :: y :: rr, h => simp at h; omega, List.append_nil] at h1
            exact h1
          have HAll := Lib.hid hall
          clear hall
          obtain ⟨B9, d9, rfl, _, l9⟩ := Ln.of_own H1.out.own
          have HI9 : Hid (Hi (w.heap.size + 1) B9) := Lib.hid ((Hi.of_own H1.out.own).low (by have := HTB.out.lt; omega))
          have HI2 : Hid (Hi (w.heap.size + 1) A2) := Lib.hid (fun ad e => (HTB.out.far ad e).2.1)
          have HSp : Hid (Sp wr A2 N c2 B9 ps.length d9 ⟨z', (l.drop 2).take N, SS.unpairs (l.drop (N + 3))⟩) := Lib.hid ⟨H1.out.free, by rw [← HAll.out]; exact l9⟩
          obtain ⟨Q, hQ⟩ : ∃ Q, ps.length = Q := ⟨_, rfl⟩
          rw [hQ] at HSp b2
          have HQ := Lib.hid hQ
          have HD := Lib.hid (told_done (h := z') H1.out.bel HSp.out HI2.out HI9.out rfl (.int .i64 z') (.slice A2 N c2) (.slice B9 Q d9))
          obtain ⟨q0, q1, q2⟩ := H1.out.res.cells
          obtain ⟨g0, g1, g2⟩ := H1.out.res.free
          obtain ⟨e0, e1, e2⟩ := (Lib.hid (H1.out.res.put (.int .i64 z') (.slice A2 N c2) (.slice B9 Q d9))).out.cells
          clear hQ f0 f1 f2 l9 H1
          go_wp2_with fail
          refine bodyPost_ret (v := .agg #[.int .i64 z', .slice A2 N c2, .slice B9 Q d9]) (by simp [results, Try.results44, go_sem, e0, e1, e2]) rfl ?_
          rw [HT.out]
          exact HD.out

set_option maxRecDepth 20000 in
theorem told_any (A : Option Addr) (n c : Nat) (l : List Int) (w : World) (hl : Ln w 1 A n c (intVals l)) (hm : n ≤ 1000000) (hr : ∀ z ∈ l, 0 ≤ z ∧ z ≤ 2147483647) :
    Calls Try.prog 44 #[.slice A n c] w (ToldEnd w (SS.told l)) := by
  by_cases hn : n < 3
  · exact told_short A n c l w hl hn hr
  · have hlen := hl.intN
    obtain ⟨x, y, r, rfl⟩ : ∃ x y r, l = x :: y :: r := by
      match l, hlen with
      | x :: y :: r, _ => exact ⟨x, y, r, rfl⟩
      | [_], h => simp at h; omega
      | [], h => simp at h; omega
    have hy := hr y (by simp)
    have ey : y = ((y.toNat : Nat) : Int) := by omega
    by_cases hN : n < y.toNat + 3
    · exact told_big A n c _ y.toNat w hl (by omega) hm (by rw [← ey]; rfl) hN
    · exact told_long A n c _ x y.toNat w hl (by omega) hm rfl (by rw [← ey]; rfl)
end Go.Proofs.Ytlldmefjhgahdaa

/-
  What rises, agesStand and lastEpoch come to.
-/
namespace Go.Proofs.Ytlldmefjhgahdaa
open Go.RowKit

theorem rises_more {zs : List Int} {k : Nat} {x y : Int} (h : (zs.take (k + 1)).Pairwise (· < ·)) (hx : zs[k]? = some x) (hy : zs[k + 1]? = some y) (hlt : x < y) : (zs.take (k + 2)).Pairwise (· < ·) := by
  rw [List.take_add_one, hy, Option.toList_some]
  refine List.pairwise_append.2 ⟨h, by simp, fun a ha b hb => ?_⟩
  obtain rfl : b = y := by simpa using hb
  rw [List.take_add_one, hx, Option.toList_some] at ha h
  rcases List.mem_append.1 ha with h1 | h1
  · have := (List.pairwise_append.1 h).2.2 a h1 x (by simp)
    omega
  · obtain rfl : a = x := by simpa using h1
    exact hlt
theorem rises_not {zs : List Int} {k : Nat} {x y : Int} (hx : zs[k]? = some x) (hy : zs[k + 1]? = some y) (hge : ¬ x < y) : SS.rises zs = false := by
  refine decide_eq_false (fun h => hge ?_)
  obtain ⟨h1, rfl⟩ := List.getElem?_eq_some_iff.1 hx
  obtain ⟨h2, rfl⟩ := List.getElem?_eq_some_iff.1 hy
  exact List.pairwise_iff_getElem.1 h k (k + 1) h1 h2 (by omega)
theorem rises_all {zs : List Int} {n : Nat} (hn : zs.length ≤ n) (h : (zs.take n).Pairwise (· < ·)) : SS.rises zs = true := by
  rw [List.take_of_length_le hn] at h
  exact decide_eq_true h

set_option maxRecDepth 20000 in
set_option maxHeartbeats 1600000 in
theorem rises_any (A : Option Addr) (n c : Nat) (zs : List Int) (w : World) (hz : Ln w 1 A n c (intVals zs)) (hn : n ≤ 1000000) :
    Calls Try.prog 39 #[.slice A n c] w fun e w' => e = .returned (.bool (SS.rises zs)) ∧ Below w.heap.size w w' := by
  have HZ := Lib.hid hz
  have HN := Lib.hid hz.intN
  clear hz
  go_enter Try.func39, Try.ntmps39
  go_wp2_with fail
  go_loopw [3] (fun i wk => ∃ k : Nat, (k = 0 ∨ k + 1 ≤ n) ∧ i = .int .i64 ((k : Int) + 1) ∧ Hid ((zs.take (k + 1)).Pairwise (· < ·)) ∧ Hid (Below w.heap.size w wk)) (fun i _ => n - (intOf i).toNat)
  case atStart =>
    refine ⟨0, Or.inl rfl, rfl, Lib.hid ?_, Lib.hid (Below.refl _ _)⟩
    match zs with
    | [] => simp
    | z :: zs => simp
  case round =>
    obtain ⟨k, hk, rfl, HR, B1⟩ := hrel
    by_cases hlt : k + 1 < n
    · obtain ⟨b, off, x, rfl, hx, c0⟩ := (HZ.out.kept B1.out).intAt (k := k) (by omega)
      obtain ⟨b', off', y, e0, hy, c1⟩ := (HZ.out.kept B1.out).intAt (k := k + 1) hlt
      have e1 := Option.some.inj e0
      injection e1 with e1 e2
      subst e1
      subst e2
      clear e0
      have i0 : (k : Int) + 1 < (n : Int) := by omega
      have i1 : (0 : Int) ≤ (k : Int) := by omega
      have i2 : (0 : Int) ≤ (k : Int) + 1 := by omega
      have i3 : (k : Int) < (n : Int) := by omega
      have i4 : IntKind.i64.wrap ((k : Int) + 1 - 1) = (k : Int) := by
        rw [Int.add_sub_cancel]
        exact IntWalk.i64_in _ (by omega)
      by_cases hxy : x < y
      · have hM := Lib.hid (rises_more HR.out hx hy hxy)
        have hb : (decide (x ≥ y)) = false := decide_eq_false (by omega)
        clear hx hy HR
        go_wp2_with fail
        go_quiet (fail)
        go_wp2_with fail
        go_roundw
        case rel => exact ⟨k + 1, Or.inr (by omega), by go_num, hM, Lib.hid (belowN B1.out _)⟩
        case measure => simp [intOf]; omega
      · have hM := Lib.hid (rises_not hx hy hxy)
        have hb : (decide (x ≥ y)) = true := decide_eq_true (by omega)
        clear hx hy HR
        go_wp2_with fail
        go_quiet (fail)
        go_wp2_with fail
        go_ret
        exact ⟨ret_bool hM.out.symm, belowN B1.out _⟩
    · have hM := Lib.hid (rises_all (n := k + 1) (by rw [HN.out]; omega) HR.out)
      have i0 : ¬ (k : Int) + 1 < (n : Int) := by omega
      go_wp2_with fail
      go_ret
      exact ⟨ret_bool hM.out.symm, B1.out⟩
end Go.Proofs.Ytlldmefjhgahdaa

/-
  What knownOnce comes to, with slices.ContainsFunc at its closure.
-/
namespace Go.Proofs.Ytlldmefjhgahdaa
open Go.RowKit

set_option maxRecDepth 20000 in
set_option maxHeartbeats 400000 in
theorem onceFn_any (s : SS) (h z : Int) (A B : Option Addr) (n c m d g : Nat) (w : World) (hh : s.hi = h) (hb : Box w g (.int .i64 h) (.slice A n c) (.slice B m d)) :
    Calls Try.prog 57 #[.int .i64 z, .pointer (some ⟨g, 0, none⟩)] w fun e w' => e = .returned (.bool (!(s.may z))) ∧ Below w.heap.size w w' := by
  obtain ⟨c0, c1, c2⟩ := hb.cells
  clear hb
  go_enter Try.func57, Try.ntmps57
  go_wp2_with fail
  refine (wasUsed_any s h z A B n c m d w hh).mono ?_
  rintro e w1 ⟨rfl, b1⟩
  have B1 := Lib.hid b1
  clear b1
  go_wp2_with fail
  go_ret
  exact ⟨rfl, B1.out⟩

/-- The first k may all be. -/
def Mays (s : SS) (zs : List Int) (k : Nat) : Prop := (zs.take k).all s.may = true
theorem Mays.more {s : SS} {zs : List Int} {k : Nat} {x : Int} (h : Mays s zs k) (hv : zs[k]? = some x) (hx : s.may x = true) : Mays s zs (k + 1) := by
  unfold Mays at h ⊢
  rw [List.take_add_one, hv, Option.toList_some, List.all_append, h]
  simp [hx]
theorem any_hit {s : SS} {zs : List Int} {k : Nat} {x : Int} (hv : zs[k]? = some x) (hx : s.may x = false) : zs.all s.may = false := by
  cases h : zs.all s.may with
  | false => rfl
  | true =>
    have := List.all_eq_true.1 h x (List.mem_of_getElem? hv)
    rw [hx] at this
    cases this

set_option maxRecDepth 20000 in
set_option maxHeartbeats 800000 in
theorem indexO_any (s : SS) (h : Int) (A B C : Option Addr) (n c m d g k0 e0 : Nat) (zs : List Int) (w : World) (hh : s.hi = h) (hb : Box w g (.int .i64 h) (.slice A n c) (.slice B m d)) (hz : Ln w 1 C k0 e0 (intVals zs)) (hn : k0 ≤ 1000000) :
    Calls Try.prog 63 #[.slice C k0 e0, .func (.func 57) #[] #[.pointer (some ⟨g, 0, none⟩)]] w fun e w' => (∃ r : Int, e = .returned (.int .i64 r) ∧ decide (r ≥ 0) = !(zs.all s.may)) ∧ Below w.heap.size w w' := by
  have HZ := Lib.hid hz
  have HN := Lib.hid hz.intN
  have HF := Lib.hid (fun (z : Int) (w' : World) (hb' : Below w.heap.size w w') => onceFn_any s h z A B n c m d g w' hh (hb.kept hb'))
  clear hz hb hh
  go_enter Try.func63, Try.ntmps63
  go_wp2_with fail
  go_loopw [8] (fun i wk => ∃ k : Nat, k ≤ k0 ∧ i = .int .i64 k ∧ Hid (Mays s zs k) ∧ Hid (Below w.heap.size w wk)) (fun i _ => k0 - (intOf i).toNat)
  case atStart => exact ⟨0, Nat.zero_le _, rfl, Lib.hid rfl, Lib.hid (Below.refl _ _)⟩
  case round =>
    obtain ⟨k, hk, rfl, HL, B1⟩ := hrel
    by_cases hlt : k < k0
    · obtain ⟨b, off, x, rfl, hv, c0⟩ := (HZ.out.kept B1.out).intAt hlt
      cases hx : s.may x with
      | true =>
        have HM := Lib.hid (HL.out.more hv hx)
        have hF := (HF.out x wr B1.out)
        rw [hx] at hF
        have HF1 := Lib.hid hF
        clear hv HL hx hF
        go_wp2_with fail
        refine HF1.out.mono ?_
        rintro e w1 ⟨rfl, b1⟩
        have B2 := Lib.hid (B1.out.trans (b1.mono B1.out.size))
        clear b1 B1 HF1 c0
        go_wp2_with fail
        go_roundw
        case rel => exact ⟨k + 1, by omega, by go_num, HM, B2⟩
        case measure => simp [intOf]; omega
      | false =>
        have HM := Lib.hid (any_hit hv hx)
        have hF := (HF.out x wr B1.out)
        rw [hx] at hF
        have HF1 := Lib.hid hF
        clear hv HL hx hF
        go_wp2_with fail
        refine HF1.out.mono ?_
        rintro e w1 ⟨rfl, b1⟩
        have B2 := Lib.hid (B1.out.trans (b1.mono B1.out.size))
        clear b1 B1 HF1 c0
        go_wp2_with fail
        go_ret
        exact ⟨⟨_, rfl, by rw [HM.out, decide_eq_true (by omega)]; rfl⟩, B2.out⟩
    · obtain rfl : k0 = k := by omega
      have hm := HL.out
      unfold Mays at hm
      rw [List.take_of_length_le (by rw [HN.out]; exact Nat.le_refl _)] at hm
      have HM := Lib.hid hm
      clear hm
      go_wp2_with fail
      go_ret
      exact ⟨⟨_, rfl, by rw [HM.out]; rfl⟩, B1.out⟩

set_option maxRecDepth 20000 in
set_option maxHeartbeats 400000 in
theorem containsO_any (s : SS) (h : Int) (A B C : Option Addr) (n c m d g k0 e0 : Nat) (zs : List Int) (w : World) (hh : s.hi = h) (hb : Box w g (.int .i64 h) (.slice A n c) (.slice B m d)) (hz : Ln w 1 C k0 e0 (intVals zs)) (hn : k0 ≤ 1000000) :
    Calls Try.prog 56 #[.slice C k0 e0, .func (.func 57) #[] #[.pointer (some ⟨g, 0, none⟩)]] w fun e w' => e = .returned (.bool (!(zs.all s.may))) ∧ Below w.heap.size w w' := by
  have HC := Lib.hid (indexO_any s h A B C n c m d g k0 e0 zs w hh hb hz hn)
  clear hz hb hh
  go_enter Try.func56, Try.ntmps56
  go_wp2_with fail
  refine HC.out.mono ?_
  rintro e w2 ⟨⟨r, rfl, hr⟩, b2⟩
  have HR := Lib.hid hr
  have B2 := Lib.hid b2
  clear hr b2
  go_wp2_with fail
  go_ret
  exact ⟨ret_bool HR.out, B2.out⟩

theorem once_sorted {s : SS} {ms : List Int} (hp : ms.Perm s.pages) (hs : ms.Pairwise (· ≤ ·)) : SS.onceB s = (SS.rises ms && !(!(ms.all s.may))) := by
  unfold SS.onceB
  rw [SS.sorted_rises hp hs, SS.perm_all hp, Bool.not_not]

set_option maxRecDepth 20000 in
set_option maxHeartbeats 1600000 in
theorem once_any (s : SS) (h : Int) (A B : Option Addr) (n c m d : Nat) (w : World) (hh : s.hi = h) (hs : Sp w A n c B m d s) (hn : n ≤ 400000) (hm : m ≤ 400000) :
    Calls Try.prog 41 #[.agg #[.int .i64 h, .slice A n c, .slice B m d]] w fun e w' => e = .returned (.bool (SS.onceB s)) ∧ Below w.heap.size w w' := by
  have hmf : ∀ (fn : Fn) (first cap : Array Value) (w : World), (Instr.makeFunc fn first cap).run Try.prog w = .ok (.func fn first cap) w := fun _ _ _ _ => rfl
  have HS := Lib.hid (hs.kept (below_one w (.cells #[.int .i64 h, .slice A n c, .slice B m d] 26)))
  have HB := Lib.hid (box_new w (.int .i64 h) (.slice A n c) (.slice B m d))
  have B0 := Lib.hid (below_one w (.cells #[.int .i64 h, .slice A n c, .slice B m d] 26))
  have HH := Lib.hid hh
  clear hs hh
  go_enter Try.func41, Try.ntmps41
  go_wp2_with fail
  generalize w.alloc (.cells #[.int .i64 h, .slice A n c, .slice B m d] 26) = w0 at *
  refine (known_any s h A B n c m d w0 HS.out hn hm).mono ?_
  rintro e w1 ⟨v1, rfl, o1, b1⟩
  obtain ⟨A1, c1, rfl, hc1, l1⟩ := Ln.of_own o1
  have HSo := Lib.hid (sort_any w0.heap.size A1 (n + m) c1 s.pages w1 o1 (by omega))
  have HO1 := Lib.hid o1
  have B1 := Lib.hid b1
  clear o1 b1 l1
  go_wp2_with fail
  refine HSo.out.mono ?_
  rintro e w2 ⟨ms, rfl, hp, hso, o2, hg⟩
  have B2 := Lib.hid (B1.out.grown hg B1.out.size (fun g hg => (HO1.out.lt g hg).1))
  have HE := Lib.hid (once_sorted hp hso)
  obtain ⟨A2, c2, e2, hc2, l2⟩ := Ln.of_own o2
  injection e2 with e2 e3 e4
  subst e2
  subst e4
  have L2 := Lib.hid l2
  clear hg o2 hp hso l2 HSo HO1 B1
  go_wp2_with fail
  refine (rises_any A1 (n + m) c1 ms w2 L2.out (by omega)).mono ?_
  rintro e w3 ⟨rfl, b3⟩
  have B3 := Lib.hid (B2.out.trans (b3.mono B2.out.size))
  have L3 := Lib.hid (L2.out.kept b3)
  clear b3 L2 B2
  cases hr : SS.rises ms with
  | false =>
    have HF : Hid (SS.onceB s = false) := by
      rw [HE.out, hr]
      exact Lib.hid rfl
    have B4 := Lib.hid (B0.out.trans (B3.out.mono B0.out.size))
    clear hr HE
    go_wp2_with fail
    go_ret
    exact ⟨ret_bool HF.out.symm, B4.out⟩
  | true =>
    have HF : Hid (SS.onceB s = ms.all s.may) := by
      rw [HE.out, hr, Bool.not_not]
      exact Lib.hid rfl
    clear hr HE
    go_wp2_with fail
    refine (containsO_any s h A B A1 n c m d w.heap.size (n + m) c1 ms w3 HH.out (HB.out.kept B3.out) L3.out (by omega)).mono ?_
    rintro e w4 ⟨rfl, b4⟩
    have B4 := Lib.hid (B0.out.trans ((B3.out.trans (b4.mono B3.out.size)).mono B0.out.size))
    clear b4
    go_wp2_with fail
    go_ret
    exact ⟨ret_bool HF.out.symm, B4.out⟩
end Go.Proofs.Ytlldmefjhgahdaa

/-
  What agesStand and lastEpoch come to.
-/
namespace Go.Proofs.Ytlldmefjhgahdaa
open Go.RowKit

/-- The first k ages stand, and the last of them is z. -/
def AgesTo (ps : List (Int × Int)) (k : Nat) (z : Int) : Prop :=
  0 ≤ z ∧ (ps.take k).Pairwise (fun x y => x.1 ≤ y.1) ∧ (∀ x ∈ ps.take k, 0 ≤ x.1 ∧ x.1 ≤ z) ∧ (z = 0 ∨ ∃ x ∈ ps.take k, x.1 = z)
theorem AgesTo.start (ps : List (Int × Int)) : AgesTo ps 0 0 := ⟨by omega, by simp, by simp, Or.inl rfl⟩
theorem AgesTo.more {ps : List (Int × Int)} {k : Nat} {z x y : Int} (h : AgesTo ps k z) (hv : ps[k]? = some (x, y)) (hx : ¬ x < z) : AgesTo ps (k + 1) x := by
  obtain ⟨h1, h2, h3, _⟩ := h
  unfold AgesTo
  rw [List.take_add_one, hv, Option.toList_some]
  refine ⟨by omega, List.pairwise_append.2 ⟨h2, by simp, fun a ha b hb => ?_⟩, fun a ha => ?_, Or.inr ⟨(x, y), by simp, rfl⟩⟩
  · obtain rfl : b = (x, y) := by simpa using hb
    have := h3 a ha
    show a.1 ≤ x
    omega
  · rcases List.mem_append.1 ha with ha | ha
    · have := h3 a ha
      omega
    · obtain rfl : a = (x, y) := by simpa using ha
      show 0 ≤ x ∧ x ≤ x
      omega
theorem AgesTo.bad {ps : List (Int × Int)} {k : Nat} {z x y : Int} (h : AgesTo ps k z) (hv : ps[k]? = some (x, y)) (hx : x < z) : SS.agesB ps = false := by
  obtain ⟨h1, h2, h3, h4⟩ := h
  cases hb : SS.agesB ps with
  | false => rfl
  | true =>
    unfold SS.agesB at hb
    rw [Bool.and_eq_true] at hb
    have hp : ps.Pairwise (fun x y => x.1 ≤ y.1) := of_decide_eq_true hb.1
    have hm : (x, y) ∈ ps := List.mem_of_getElem? hv
    have h0 : 0 ≤ x := of_decide_eq_true (List.all_eq_true.1 hb.2 _ hm)
    rcases h4 with h4 | ⟨a, ha, h4⟩
    · omega
    · rw [← List.take_append_drop k ps] at hp
      have hd : (x, y) ∈ ps.drop k := by
        obtain ⟨hk, e⟩ := List.getElem?_eq_some_iff.1 hv
        rw [List.drop_eq_getElem_cons hk, e]
        simp
      have := (List.pairwise_append.1 hp).2.2 a ha _ hd
      have : a.1 ≤ x := this
      omega
theorem AgesTo.all {ps : List (Int × Int)} {k : Nat} {z : Int} (h : AgesTo ps k z) (hk : ps.length ≤ k) : SS.agesB ps = true := by
  obtain ⟨_, h2, h3, _⟩ := h
  rw [List.take_of_length_le hk] at h2 h3
  unfold SS.agesB
  rw [Bool.and_eq_true]
  exact ⟨decide_eq_true h2, List.all_eq_true.2 (fun x hx => decide_eq_true (h3 x hx).1)⟩

set_option maxRecDepth 20000 in
set_option maxHeartbeats 800000 in
theorem ages_any (A : Option Addr) (n c : Nat) (ps : List (Int × Int)) (w : World) (hp : Ln w 2 A n c (prVals ps)) (hn : n ≤ 1000000) :
    Calls Try.prog 40 #[.slice A n c] w fun e w' => e = .returned (.bool (SS.agesB ps)) ∧ Below w.heap.size w w' := by
  have HP := Lib.hid hp
  have HN := Lib.hid hp.prN
  clear hp
  go_enter Try.func40, Try.ntmps40
  go_wp2_with fail
  go_loopw [3, 8] (fun v i wk => ∃ (k : Nat) (z : Int), k ≤ n ∧ i = .int .i64 k ∧ v = .int .i64 z ∧ Hid (AgesTo ps k z) ∧ Hid (Below w.heap.size w wk)) (fun _ i _ => n - (intOf i).toNat)
  case atStart => exact ⟨0, 0, Nat.zero_le _, rfl, rfl, Lib.hid (AgesTo.start ps), Lib.hid (Below.refl _ _)⟩
  case round =>
    obtain ⟨k, z, hk, rfl, rfl, HA, B1⟩ := hrel
    by_cases hlt : k < n
    · obtain ⟨b, off, x, y, rfl, hv, c0, c1⟩ := (HP.out.kept B1.out).prAt hlt
      have bs := B1.out.size
      have B2 : Hid (Below w.heap.size w (wr.alloc (.cells #[.int .i64 x, .int .i64 y] 49))) := Lib.hid (B1.out.alloc bs _)
      by_cases hx : x < z
      · have HM := Lib.hid (HA.out.bad hv hx)
        clear hv HA
        go_wp2_with fail
        go_ret
        exact ⟨ret_bool HM.out.symm, B2.out⟩
      · have HM := Lib.hid (HA.out.more hv hx)
        clear hv HA
        go_wp2_with fail
        go_roundw
        case rel => exact ⟨k + 1, x, by omega, by go_num, rfl, HM, B2⟩
        case measure => simp [intOf]; omega
    · obtain rfl : n = k := by omega
      have HM := Lib.hid (HA.out.all (by rw [HN.out]; exact Nat.le_refl _))
      go_wp2_with fail
      go_ret
      exact ⟨ret_bool HM.out.symm, B1.out⟩
end Go.Proofs.Ytlldmefjhgahdaa

/-
  What Check comes to.
-/
namespace Go.Proofs.Ytlldmefjhgahdaa
open Go.RowKit

theorem check_one {s : SS} {t : Int} (h : s.hi < 2) : s.check t = 80 := SS.check_bad (fun f => by have := f.lo; omega)
theorem check_two {s : SS} {t : Int} (h : t < s.hi) : s.check t = 80 := SS.check_bad (fun f => by have := f.hi; omega)
theorem check_rest {s : SS} {t : Int} (h1 : ¬ s.hi < 2) (h2 : ¬ t < s.hi) : s.check t = if !(SS.rises s.fr) || !(SS.agesB s.pe) || !(SS.onceB s) then 80 else 0 := by
  rw [SS.check_parts, decide_eq_false h1, decide_eq_false (by omega : ¬ s.hi > t)]
  rfl

set_option maxRecDepth 20000 in
set_option maxHeartbeats 1600000 in
theorem check_any (s : SS) (h t : Int) (A B : Option Addr) (n c m d : Nat) (w : World) (hh : s.hi = h) (hs : Sp w A n c B m d s) (hn : n ≤ 400000) (hm : m ≤ 400000) :
    Calls Try.prog 21 #[.agg #[.int .i64 h, .slice A n c, .slice B m d], .int .i64 t] w fun e w' => e = .returned (.int .i64 (s.check t)) ∧ Below w.heap.size w w' := by
  by_cases h1 : h < 2
  · have HX := Lib.hid (check_one (s := s) (t := t) (by rw [hh]; exact h1))
    clear hs hh
    go_enter Try.func21, Try.ntmps21
    go_wp2_with fail
    go_ret
    exact ⟨ret_int HX.out.symm, below_one _ _⟩
  by_cases h2 : t < h
  · have HX := Lib.hid (check_two (s := s) (t := t) (by rw [hh]; exact h2))
    clear hs hh
    go_enter Try.func21, Try.ntmps21
    go_wp2_with fail
    go_ret
    exact ⟨ret_int HX.out.symm, below_one _ _⟩
  have HX := Lib.hid (check_rest (s := s) (t := t) (by rw [hh]; exact h1) (by rw [hh]; exact h2))
  have HS := Lib.hid (hs.kept (below_one w (.cells #[.int .i64 h, .slice A n c, .slice B m d] 26)))
  have HB := Lib.hid (box_new w (.int .i64 h) (.slice A n c) (.slice B m d))
  have B0 := Lib.hid (below_one w (.cells #[.int .i64 h, .slice A n c, .slice B m d] 26))
  have HH := Lib.hid hh
  clear hs hh
  go_enter Try.func21, Try.ntmps21
  go_wp2_with fail
  generalize w.alloc (.cells #[.int .i64 h, .slice A n c, .slice B m d] 26) = w0 at *
  refine (rises_any A n c s.fr w0 HS.out.fr (by omega)).mono ?_
  rintro e w1 ⟨rfl, b1⟩
  have B1 := Lib.hid b1
  clear b1
  cases hr : SS.rises s.fr with
  | false =>
    have HF : Hid (s.check t = 80) := Lib.hid (by rw [HX.out, hr]; rfl)
    have B2 := Lib.hid (B0.out.trans (B1.out.mono B0.out.size))
    clear hr
    go_wp2_with fail
    go_ret
    exact ⟨ret_int HF.out.symm, B2.out⟩
  | true =>
    have HX1 : Hid (s.check t = if !(SS.agesB s.pe) || !(SS.onceB s) then 80 else 0) := Lib.hid (by rw [HX.out, hr]; rfl)
    obtain ⟨c0, c1, c2⟩ := (HB.out.kept B1.out).cells
    clear hr HX
    go_wp2_with fail
    refine (ages_any B m d s.pe w1 (HS.out.pe.kept B1.out) (by omega)).mono ?_
    rintro e w2 ⟨rfl, b2⟩
    have B2 := Lib.hid (B1.out.trans (b2.mono B1.out.size))
    clear b2 c0 c1 c2 B1
    cases hr : SS.agesB s.pe with
    | false =>
      have HF : Hid (s.check t = 80) := Lib.hid (by rw [HX1.out, hr]; rfl)
      have B3 := Lib.hid (B0.out.trans (B2.out.mono B0.out.size))
      clear hr
      go_wp2_with fail
      go_ret
      exact ⟨ret_int HF.out.symm, B3.out⟩
    | true =>
      have HX2 : Hid (s.check t = if !(SS.onceB s) then 80 else 0) := Lib.hid (by rw [HX1.out, hr]; rfl)
      obtain ⟨c0, c1, c2⟩ := (HB.out.kept B2.out).cells
      clear hr HX1
      go_wp2_with fail
      refine (once_any s h A B n c m d w2 HH.out (HS.out.kept B2.out) hn hm).mono ?_
      rintro e w3 ⟨rfl, b3⟩
      have B3 := Lib.hid (B0.out.trans ((B2.out.trans (b3.mono B2.out.size)).mono B0.out.size))
      clear b3 c0 c1 c2 B2
      cases hr : SS.onceB s with
      | false =>
        have HF : Hid (s.check t = 80) := Lib.hid (by rw [HX2.out, hr]; rfl)
        clear hr
        go_wp2_with fail
        go_ret
        exact ⟨ret_int HF.out.symm, B3.out⟩
      | true =>
        have HF : Hid (s.check t = 0) := Lib.hid (by rw [HX2.out, hr]; rfl)
        clear hr
        go_wp2_with fail
        go_ret
        exact ⟨ret_int HF.out.symm, B3.out⟩
end Go.Proofs.Ytlldmefjhgahdaa

/-
  What joined comes to at lists of bytes.
-/
namespace Go.Proofs.Ytlldmefjhgahdaa
open Go.RowKit

set_option maxRecDepth 20000 in
theorem BInfo0 : (Try.prog.info? 5).map (fun i => (i.zero, i.size, i.bytes)) = some (some (.int .u8 0), 1, 1) := by kernel_rfl

set_option maxRecDepth 20000 in
theorem make_B (N : Nat) (hN : N ≤ 1000000) : ∃ cur : Array Value, cur.size = N * 1 ∧ ∀ w : World, (Instr.makeSlice 59 (.int .i64 0) (.int .i64 (N : Int))).run Try.prog w = .ok (.slice (some ⟨w.heap.size, 0, none⟩) 0 N) (w.alloc (.cells cur 5)) := by
  obtain ⟨i0, hi, hz0, hz1, hz2⟩ := info_parts BInfo0
  refine ⟨madeCells (.int .u8 0 : Value).cells (N * 1), by rw [size_madeCells], fun w => ?_⟩
  have := run_makeSlice (P := Try.prog) (w := w) 59 5 i0 _ Try.underlying59 hi hz0 .i64 .i64 0 (N : Int) (by omega) (by omega) (by rw [hz1]; simp; omega) (by rw [hz2]; omega) (by omega)
  rw [this, hz1]
  simp only [Int.toNat_natCast, Int.toNat_zero]

set_option maxRecDepth 20000 in
set_option maxHeartbeats 1600000 in
theorem join_B (A : Option Addr) (n c N : Nat) (ps : List Pc) (w : World) (hp : Pile w 1 A ps) (hn : ps.length = n) (hN : tot ps = N) (hb : N ≤ 1000000) (hm : n ≤ 1000000) :
    Calls Try.prog 43 #[.slice A n c] w (JoinEnd w 5 1 N (pcs ps)) := by
  obtain ⟨i0, hi, hz0, hz1, hz2⟩ := info_parts BInfo0
  obtain ⟨cur, hcs, hmk⟩ := make_B N hb
  have HP := Lib.hid hp
  have HL := Lib.hid hn
  have HT := Lib.hid hN
  have HC := Lib.hid hcs
  clear hp hn hN hcs
  go_enter Try.func43, Try.ntmps43
  go_wp2_with fail
  obtain ⟨wo, rfl⟩ : ∃ wo : World, wo = w := ⟨_, rfl⟩
  go_loopw [3, 11] (fun s i wr => ∃ k : Nat, k ≤ n ∧ i = .int .i64 k ∧ s = .int .i64 (tot (ps.take k) : Nat) ∧ wr = wo) (fun _ i _ => n - (intOf i).toNat)
  case atStart => exact ⟨0, Nat.zero_le _, rfl, rfl, rfl⟩
  case round =>
    obtain ⟨k, hk, rfl, rfl, hw⟩ := hrel
    have hw' := hw.symm
    subst hw'
    clear hw
    by_cases hlt : k < n
    · obtain ⟨b, off, p, rfl, hv, c0, _, _⟩ := HP.out.at_ (k := k) (by rw [HL.out]; exact hlt)
      have hle := tot_le ps (k + 1)
      rw [tot_take hv, HT.out] at hle
      have HV := Lib.hid (tot_take hv)
      clear hv
      generalize tot (ps.take k) = t at *
      go_wp2_with fail
      go_roundw
      case rel =>
        refine ⟨k + 1, by omega, by go_num, ?_, trivial⟩
        rw [HV.out]
        go_num
      case measure => simp [intOf]; omega
    · obtain rfl : n = k := by omega
      have e1 : tot (ps.take n) = N := by rw [List.take_of_length_le (by rw [HL.out]; omega), HT.out]
      rw [e1]
      clear e1
      go_wp2_with fail
      have O0 : Hid ((wo.alloc (.cells cur 5)).ownsRow wo.heap.size 5 1 (.slice (some ⟨wo.heap.size, 0, none⟩) 0 N) 0 []) := Lib.hid (World.ownsRow_made wo cur N (Nat.le_refl _) (by unfold maxLen; omega) HC.out)
      have B0 : Hid (Below wo.heap.size wo (wo.alloc (.cells cur 5))) := Lib.hid (below_one _ _)
      generalize wo.alloc (.cells cur 5) = w0 at *
      clear hmk hlt
      go_loopw [6, 24] (fun v i wk => ∃ k : Nat, k ≤ n ∧ i = .int .i64 k ∧ Hid (wk.ownsRow wo.heap.size 5 1 v (tot (ps.take k)) (pcs (ps.take k))) ∧ Hid (Below wo.heap.size wo wk)) (fun _ i _ => n - (intOf i).toNat)
      case atStart => exact ⟨0, Nat.zero_le _, rfl, O0, B0⟩
      case round =>
        obtain ⟨k, hk, rfl, O1, B1⟩ := hrel
        by_cases hlt : k < n
        · obtain ⟨b, off, p, rfl, hv, c0, hp1, hp2⟩ := (HP.out.kept B1.out).at_ (k := k) (by rw [HL.out]; exact hlt)
          have hle := tot_le ps (k + 1)
          rw [tot_take hv, HT.out] at hle
          have HV := Lib.hid (tot_take hv)
          have HV2 := Lib.hid (pcs_take hv)
          have HP1 := Lib.hid hp1
          have HP2 := Lib.hid hp2
          clear hv hp1 hp2
          have bs := B1.out.size
          have o1 := O1.out
          generalize tot (ps.take k) = t at *
          go_wp2_with (at_builtin; refine wpList_append_lay _ rfl (.tmp 28) (.tmp 29) 59 rfl wo.heap.size 5 i0 (.int .u8 0) 1 1 Try.underlying59 hi hz0 hz1 hz2 rfl (by decide) _ _ _ rfl o1 p.A p.n p.c p.cs rfl HP1.out.len HP1.out.lies HP2.out (by unfold maxLen; omega) (by omega) bs ?_; intro v3 w3 hown3 hg3)
          have O3 : Hid (w3.ownsRow wo.heap.size 5 1 v3 (tot (ps.take (k + 1))) (pcs (ps.take (k + 1)))) := by
            rw [HV.out, HV2.out]
            exact Lib.hid hown3
          have B3 : Hid (Below wo.heap.size wo w3) := Lib.hid (B1.out.grown hg3 bs (fun g hg => (o1.lt g hg).1))
          clear hown3 hg3 o1 O1 B1 HV HV2 HP1 HP2
          go_roundw
          case rel => exact ⟨k + 1, by omega, by go_num, O3, B3⟩
          case measure => simp [intOf]; omega
        · obtain rfl : n = k := by omega
          have e1 : tot (ps.take n) = N := by rw [List.take_of_length_le (by rw [HL.out]; omega), HT.out]
          have e2 : ps.take n = ps := List.take_of_length_le (by rw [HL.out]; omega)
          rw [e1, e2] at O1
          go_wp2_with fail
          go_ret
          exact ⟨_, rfl, O1.out, B1.out⟩
end Go.Proofs.Ytlldmefjhgahdaa

/-
  What frame.Read comes to.
-/
namespace Go.Proofs.Ytlldmefjhgahdaa
open Go.RowKit

/-- A list of ints of one's own. -/
def OwnI (w : World) (base : Nat) (v : Value) (zs : List Int) : Prop := w.ownsRow base 3 1 v zs.length (intVals zs)

theorem ownI_nil (w : World) (base : Nat) : OwnI w base (.slice none 0 0) [] := World.ownsRow_nil _ _ _ _
theorem intVals_append (a b : List Int) : intVals (a ++ b) = intVals a ++ intVals b := List.map_append

/-- What Read answers. -/
def rdL (b : List UInt8) : List Int := (rd b).getD []
def rdE (b : List UInt8) : Int := if (rd b).isSome then 0 else 50
def FReadEnd (w : World) (b : List UInt8) (e : Ending) (w' : World) : Prop :=
  ∃ v, e = .returned (.tuple #[v, .int .i64 (rdE b)]) ∧ OwnI w' w.heap.size v (rdL b) ∧ Below w.heap.size w w'

theorem read_bad {b : List UInt8} (h : rd b = none) {w w' : World} (hb : Below w.heap.size w w') : FReadEnd w b (.returned (.tuple #[.slice none 0 0, .int .i64 50])) w' := by
  refine ⟨.slice none 0 0, ?_, ?_, hb⟩
  · rw [rdE, h]
    rfl
  · rw [rdL, h]
    exact ownI_nil _ _

theorem read_good {b : List UInt8} {ys : List Int} {v : Value} (h : rd b = some ys) {w w' : World} (hb : Below w.heap.size w w') (ho : OwnI w' w.heap.size v ys) : FReadEnd w b (.returned (.tuple #[v, .int .i64 0])) w' := by
  refine ⟨v, ?_, ?_, hb⟩
  · rw [rdE, h]
    rfl
  · rw [rdL, h]
    exact ho

/-- Bytes' number, the highest first. -/
def qn (l : List UInt8) : Nat := l.foldl (fun n c => n * 256 + c.toNat) 0
theorem qn_snoc (l : List UInt8) (c : UInt8) : qn (l ++ [c]) = qn l * 256 + c.toNat := by
  unfold qn
  rw [List.foldl_append]
  rfl
theorem qn_take {l : List UInt8} {j : Nat} {c : UInt8} (h : l[j]? = some c) : qn (l.take (j + 1)) = qn (l.take j) * 256 + c.toNat := by
  rw [List.take_add_one, h, Option.toList_some, qn_snoc]
theorem qn_four (x y z u : UInt8) (r : List UInt8) : qn ((x :: y :: z :: u :: r).take 4) = num4 x y z u := by
  simp [qn, num4]
theorem qn_lt {x y z u : UInt8} {r : List UInt8} {j : Nat} (h : j < 4) : qn ((x :: y :: z :: u :: r).take j) < 16777216 := by
  have := byte_lt x
  have := byte_lt y
  have := byte_lt z
  rcases (show j = 0 ∨ j = 1 ∨ j = 2 ∨ j = 3 by omega) with rfl | rfl | rfl | rfl <;> simp [qn] <;> omega

theorem or_spell {n : Nat} (z : UInt8) (h : n < 16777216) : bits .or .u32 ((n : Int) * 256) (z.toNat : Int) = ((n * 256 + z.toNat : Nat) : Int) := by
  have hz := byte_lt z
  rw [bits_join .u32 32 (by decide) wraps_u32 8 ((n : Int) * 256) (z.toNat : Int) (by omega) (by omega) (by omega) (by omega) (by omega) (by omega)]
  omega

/-- What Read holds while N bytes are left. -/
def ReadRel (w : World) (R n : Nat) (l : List UInt8) (N : Nat) (s v : Value) (wr : World) : Prop :=
  ∃ (A' : Option Addr) (c' : Nat) (rest : List UInt8) (ys : List Int), s = .slice A' N c' ∧ rest.length = N ∧ N % 4 = 0 ∧ N ≤ c' ∧ 4 * ys.length + N = n ∧ Hid (Bys w R A' rest) ∧ Hid (Rds l ys rest) ∧ Hid (OwnI wr w.heap.size v ys) ∧ Hid (Below w.heap.size w wr)

set_option maxRecDepth 20000 in
theorem ReadRel.next {w wr w3 : World} {R n M q : Nat} {A' : Option Addr} {c' : Nat} {l r : List UInt8} {u4 v3 : Value} {ys : List Int} {T : TypeId} {C : Array Value} (hM : r.length = M) (h4 : (M + 4) % 4 = 0) (hc : M ≤ c') (hn : 4 * ys.length + (M + 4) = n)
    (hb : Bys w R A' r) (hs : Rds l (ys ++ [(q : Int)]) r) (o1 : wr.ownsRow w.heap.size 3 1 u4 ys.length (intVals ys)) (HW : Below w.heap.size w wr)
    (hown3 : w3.ownsRow w.heap.size 3 1 v3 (ys.length + 1) (intVals ys ++ [.int .i64 (q : Int)])) (hg3 : (wr.alloc (.cells C T)).grownBy w3 u4.ownBlock) : ReadRel w R n l M (.slice A' M c') v3 w3 := by
  have bs := HW.size
  refine ⟨A', c', r, ys ++ [(q : Int)], rfl, hM, by omega, hc, ?_, hb, hs, ?_, ?_⟩
  · rw [List.length_append, List.length_singleton]
    omega
  · show w3.ownsRow _ _ _ _ _ _
    rw [List.length_append, intVals_append]
    exact hown3
  · exact (HW.alloc bs _).grown hg3 (by simp; omega) (fun g hg => (o1.lt g hg).1)

set_option maxRecDepth 20000 in
set_option maxHeartbeats 3200000 in
theorem fread_any {R : Nat} (A : Option Addr) (n c : Nat) (l : List UInt8) (w : World) (hl : l.length = n) (hr : Bys w R A l) (hnc : n ≤ c) (hn : n ≤ 1000000) :
    Calls Try.prog 42 #[.slice A n c] w (FReadEnd w l) := by
  by_cases h4 : n % 4 = 0
  · obtain ⟨i0, hi, hz0, hz1, hz2⟩ := info_parts intInfo
    have hm : ((n : Int) % 4 != 0) = false := by
      simp
      omega
    have HS := Lib.hid (Rds.start l)
    go_enter Try.func42, Try.ntmps42
    go_wp2_with fail
    go_loopg [0, 4] n (fun g s v wr => ReadRel w R n l g s v wr)
    case atStart => exact ⟨A, c, l, [], rfl, hl, h4, hnc, by simp, hr, HS, Lib.hid (ownI_nil _ _), Lib.hid (Below.refl _ _)⟩
    case round =>
      obtain ⟨A', c', rest, ys, rfl, hN, hN4, hNc, hyn, HB, HD, HO, HW⟩ := hrel
      obtain ⟨N, hNg⟩ : ∃ N, N = gk := ⟨_, rfl⟩
      subst hNg
      by_cases hN0 : N = 0
      · subst hN0
        obtain rfl : rest = [] := List.eq_nil_of_length_eq_zero hN
        have HP := Lib.hid (read_good HD.out.done HW.out HO.out)
        go_wp2_with fail
        go_ret2
        exact HP.out
      · obtain ⟨x, y, z, u, r, rfl⟩ : ∃ x y z u r, rest = x :: y :: z :: u :: r := by
          match rest, hN with
          | [], h => exact absurd h.symm hN0
          | [_], h => simp at h; omega
          | [_, _], h => simp at h; omega
          | [_, _, _], h => simp at h; omega
          | x :: y :: z :: u :: r, _ => exact ⟨x, y, z, u, r, rfl⟩
        obtain ⟨M, rfl⟩ : ∃ M, N = M + 4 := ⟨N - 4, by simp at hN; omega⟩
        have hM : r.length = M := by simpa using hN
        obtain ⟨b, off, _, rfl, _, _, _⟩ := (HB.out.kept HW.out).at_ (k := 0) (by simp)
        have q1 : (4 : Int) ≤ (c' : Int) := by omega
        have q2 : (0 : Int) < (M : Int) + 4 := by omega
        go_wp2_with fail
        obtain ⟨wo, rfl⟩ : ∃ wo : World, wo = wr := ⟨_, rfl⟩
        go_loopw [5, 20] (fun v i wi => ∃ j : Nat, j ≤ 4 ∧ i = .int .i64 j ∧ v = .int .u32 ((qn ((x :: y :: z :: u :: r).take j) : Nat) : Int) ∧ wi = wo) (fun _ i _ => 4 - (intOf i).toNat)
        case atStart => exact ⟨0, by omega, rfl, rfl, rfl⟩
        case round =>
          obtain ⟨j, hj, rfl, rfl, rfl⟩ := hrel
          by_cases hlt : j < 4
          · obtain ⟨b', off', t, e0, _, hv, cj⟩ := (HB.out.kept HW.out).at_ (k := j) (by simp; omega)
            have e1 := Option.some.inj e0
            injection e1 with e1 e2
            subst e1
            subst e2
            have HQ := Lib.hid (qn_take hv)
            have hq := qn_lt (x := x) (y := y) (z := z) (u := u) (r := r) hlt
            generalize qn ((x :: y :: z :: u :: r).take j) = q at *
            have HX := Lib.hid (or_spell t hq)
            have ht := byte_lt t
            clear hv e0
            go_wp2_with fail
            refine ⟨⟨j + 1, by omega, by go_num, ?_, trivial⟩, by simp [intOf]; omega⟩
            rw [HQ.out, HX.out]
          · obtain rfl : j = 4 := by omega
            rw [qn_four]
            have HLT := Lib.hid (num4_lt x y z u)
            by_cases hle : num4 x y z u ≤ 2147483647
            · have HS2 := Lib.hid (HD.out.step hle)
              generalize num4 x y z u = q at *
              have o1 : wr.ownsRow w.heap.size 3 1 u4 ys.length (intVals ys) := HO.out
              have bs := HW.out.size
              by_cases hc4 : c' = 4
              · subst hc4
                obtain rfl : r = [] := List.eq_nil_of_length_eq_zero (by omega)
                go_wp2_with (at_builtin; refine wpList_append_own _ rfl (.tmp 32) (.tmp 35) 23 rfl w.heap.size 3 i0 (.int .i64 0) 1 8 Try.underlying23 hi hz0 hz1 hz2 rfl (by decide) _ _ _ rfl (o1.alloc _) ⟨wr.heap.size, 0, none⟩ 1 1 [.int .i64 (q : Int)] rfl rfl (cell_one_new _ _ _) (by simp [Value.oneCell']) (by unfold maxLen; omega) (by omega) (by simp; omega) ?_; intro v3 w3 hown3 hg3 _)
                have HM := Lib.hid (ReadRel.next (w3 := w3) (A' := some ⟨b, off, none⟩) (c' := 0) hM hN4 (by omega) hyn (Bys.nil w R _) HS2.out o1 HW.out hown3 hg3)
                clear hown3 hg3 o1
                go_roundg M
                case measure => omega
                case rel =>
                  have e0 : M = 0 := by omega
                  have h0 := HM.out
                  rw [e0] at h0 ⊢
                  exact h0
              · go_wp2_with (at_builtin; refine wpList_append_own _ rfl (.tmp 32) (.tmp 35) 23 rfl w.heap.size 3 i0 (.int .i64 0) 1 8 Try.underlying23 hi hz0 hz1 hz2 rfl (by decide) _ _ _ rfl (o1.alloc _) ⟨wr.heap.size, 0, none⟩ 1 1 [.int .i64 (q : Int)] rfl rfl (cell_one_new _ _ _) (by simp [Value.oneCell']) (by unfold maxLen; omega) (by omega) (by simp; omega) ?_; intro v3 w3 hown3 hg3 _)
                have HM := Lib.hid (ReadRel.next (w3 := w3) (A' := some ⟨b, off + 4, none⟩) (c' := c' - 4) hM hN4 (by omega) hyn (HB.out.drop 4) HS2.out o1 HW.out hown3 hg3)
                clear hown3 hg3 o1
                go_roundg M
                case measure => omega
                case rel => exact HM.out
            · have HP := Lib.hid (read_bad (HD.out.bad hle) HW.out)
              generalize num4 x y z u = q at *
              go_wp2_with fail
              go_ret2
              exact HP.out
  · have HP := Lib.hid (read_bad (w := w) (w' := w) (rd_bad l (by rw [hl]; exact h4)) (Below.refl _ _))
    have hm : ¬ ((n : Int) % 4 = 0) := by omega
    clear h4 hl hr
    go_enter Try.func42, Try.ntmps42
    go_wp2_with fail
    go_ret2
    exact HP.out
end Go.Proofs.Ytlldmefjhgahdaa

/-
  What Decode comes to.
-/
namespace Go.Proofs.Ytlldmefjhgahdaa
open Go.RowKit

theorem pile_each {w : World} {b : Nat} : ∀ (ps : List (List UInt8)) (off : Nat), (∀ i p, ps[i]? = some p → ∃ A' c', w.cell? ⟨b, off + i, none⟩ = some (.slice A' p.length c') ∧ Ln w 1 A' p.length c' (bv p)) →
    ∃ qs : List Pc, qs.length = ps.length ∧ pcs qs = bv ps.flatten ∧ tot qs = ps.flatten.length ∧ ∀ i q, qs[i]? = some q → w.cell? ⟨b, off + i, none⟩ = some (.slice q.A q.n q.c) ∧ Ln w 1 q.A q.n q.c q.cs ∧ ∀ u ∈ q.cs, u.oneCell' = true
  | [], _, _ => ⟨[], rfl, rfl, rfl, fun i q h => by simp at h⟩
  | p :: ps, off, h => by
    obtain ⟨A', c', h1, h2⟩ := h 0 p rfl
    obtain ⟨qs, e1, e2, e3, e4⟩ := pile_each ps (off + 1) (fun i q hq => by
      have := h (i + 1) q (by simpa using hq)
      rw [show off + (i + 1) = off + 1 + i by omega] at this
      exact this)
    refine ⟨⟨A', p.length, c', bv p⟩ :: qs, by simp [e1], ?_, ?_, fun i q hq => ?_⟩
    · unfold pcs at e2 ⊢
      rw [List.flatMap_cons, e2, List.flatten_cons, bv_append]
    · unfold tot at e3 ⊢
      rw [List.map_cons, List.sum_cons, e3, List.flatten_cons, List.length_append]
    · match i, hq with
      | 0, hq =>
        obtain rfl := Option.some.inj hq
        exact ⟨h1, h2, bv_one p⟩
      | i + 1, hq =>
        have := e4 i q (by simpa using hq)
        rw [show off + 1 + i = off + (i + 1) by omega] at this
        exact this
theorem Bps.pile {w : World} {A : Option Addr} {ps : List (List UInt8)} (h : Bps w A ps) : ∃ qs : List Pc, qs.length = ps.length ∧ pcs qs = bv ps.flatten ∧ tot qs = ps.flatten.length ∧ Pile w 1 A qs := by
  rcases h with rfl | ⟨b, off, rfl, hc⟩
  · exact ⟨[], rfl, rfl, rfl, Or.inl rfl⟩
  · obtain ⟨qs, e1, e2, e3, e4⟩ := pile_each ps off hc
    exact ⟨qs, e1, e2, e3, Or.inr ⟨b, off, rfl, e4⟩⟩

theorem told_fr : ∀ l : List Int, (SS.told l).fr.length ≤ l.length ∧ (SS.told l).pe.length ≤ l.length
  | [] => ⟨Nat.le_refl _, Nat.le_refl _⟩
  | [_] => ⟨Nat.zero_le _, Nat.zero_le _⟩
  | x :: y :: r => by
    rw [SS.told_two]
    split
    · have h1 : (r.take y.toNat).length ≤ r.length := by rw [List.length_take]; omega
      have h2 := SS.unpairs_short (r.drop (y.toNat + 1))
      rw [List.length_drop] at h2
      simp only [List.length_cons]
      omega
    · exact ⟨Nat.zero_le _, Nat.zero_le _⟩

theorem SS.cutB_len : ∀ (g : Nat) (b : List UInt8), (SS.cutB g b).length ≤ g
  | 0, _ => Nat.le_refl _
  | g + 1, b => by
    unfold SS.cutB
    split
    · exact Nat.zero_le _
    · rw [List.length_cons]
      have := SS.cutB_len g (b.drop 1000)
      omega
theorem SS.nums_len (s : SS) : s.nums.length = s.fr.length + 3 + 2 * s.pe.length := by
  rw [← numsTo_all s (Nat.le_refl _), numsTo_len s (Nat.le_refl _)]
theorem decS_none {ps : List (List UInt8)} (h : SS.dec ps = none) : SS.decS ps = SS.none ∧ SS.decE ps = 80 := by
  unfold SS.decS SS.decE
  rw [h]
  exact ⟨rfl, rfl⟩
theorem decS_some {ps : List (List UInt8)} {s : SS} (h : SS.dec ps = some s) : SS.decS ps = s ∧ SS.decE ps = 0 := by
  unfold SS.decS SS.decE
  rw [h]
  exact ⟨rfl, rfl⟩

/-- What is answered where parts are none's. -/
theorem dec_zero {w w1 : World} {ps : List (List UInt8)} (h : SS.dec ps = none) (hb : Below w.heap.size w w1) : SpEnd w (SS.decE ps) (SS.decS ps) (.returned (.tuple #[.agg #[.int .i64 0, .slice none 0 0, .slice none 0 0], .int .i64 80])) (((w1.setCell ⟨w.heap.size, 0, none⟩ (.int .i64 0)).setCell ⟨w.heap.size, 1, none⟩ (.slice none 0 0)).setCell ⟨w.heap.size, 2, none⟩ (.slice none 0 0)) := by
  have hd := put_done (h := 0) hb (Nat.le_refl w.heap.size) (Sp.zero w1) (Hi.none_ _) (Hi.none_ _) rfl (.int .i64 0) (.slice none 0 0) (.slice none 0 0)
  rw [(decS_none h).1, (decS_none h).2]
  exact ⟨_, rfl, hd.1, hd.2⟩

theorem check_or (s : SS) (t : Int) : s.check t = 0 ∨ s.check t = 80 := by
  by_cases h : SS.Fine s t
  · exact Or.inl (SS.check_ok h)
  · exact Or.inr (SS.check_bad h)

set_option maxRecDepth 20000 in
set_option maxHeartbeats 3200000 in
theorem decode_any (A : Option Addr) (n c : Nat) (ps : List (List UInt8)) (w : World) (hp : Bps w A ps) (hn : ps.length = n) (hm : n ≤ 100000) (hf : ps.flatten.length ≤ 100000) :
    Calls Try.prog 24 #[.slice A n c] w (SpEnd w (SS.decE ps) (SS.decS ps)) := by
  have B0 := Lib.hid (below_one w (.cells #[.int .i64 0, .slice none 0 0, .slice none 0 0] 26))
  have HR := Lib.hid (box_new w (.int .i64 0) (.slice none 0 0) (.slice none 0 0))
  have HP := Lib.hid (hp.kept B0.out)
  have HN := Lib.hid hn
  obtain ⟨qs, q1, q2, q3, q4⟩ := HP.out.pile
  have HPi := Lib.hid q4
  have HPl := Lib.hid (q1.trans hn)
  have HPt := Lib.hid q3
  have HPc := Lib.hid q2
  clear hp hn q1 q2 q3 q4
  go_enter Try.func24, Try.ntmps24
  go_upto_region 1 with fail
  generalize w.alloc (.cells #[.int .i64 0, .slice none 0 0, .slice none 0 0] 26) = w0 at *
  go_wp2_with fail
  refine (join_B A n c ps.flatten.length qs w0 HPi.out HPl.out HPt.out (by omega) (by omega)).mono ?_
  rintro e w1 ⟨v1, rfl, o1, b1⟩
  rw [HPc.out] at o1
  obtain ⟨A1, c1, rfl, _, l1⟩ := Ln.of_own o1
  have L1 := Lib.hid l1
  have B1 := Lib.hid b1
  obtain ⟨F, hF⟩ : ∃ F, ps.flatten.length = F := ⟨_, rfl⟩
  rw [hF] at hf L1 ⊢
  have HF := Lib.hid hF
  clear o1 b1 l1 hF
  go_wp2_with fail
  refine (fread_any A1 F c1 ps.flatten w1 HF.out L1.out.bys L1.out.le (by omega)).mono ?_
  rintro e w2 ⟨v2, rfl, o2, b2⟩
  have B2 := Lib.hid (B1.out.trans (b2.mono B1.out.size))
  have O2 := Lib.hid o2
  clear o2 b2
  cases hrd : rd ps.flatten with
  | none =>
    have HE : rdE ps.flatten = 50 := by unfold rdE; rw [hrd]; rfl
    rw [HE]
    have HZ := Lib.hid (dec_zero (SS.dec_no hrd) (B0.out.trans (B2.out.mono B0.out.size)))
    have HR2 := Lib.hid (HR.out.kept B2.out)
    obtain ⟨q0, q1, q2⟩ := HR2.out.cells
    obtain ⟨f0, f1, f2⟩ := HR2.out.free
    obtain ⟨e0, e1, e2⟩ := (Lib.hid (HR2.out.put (.int .i64 0) (.slice none 0 0) (.slice none 0 0))).out.cells
    clear HE hrd
    go_wp2_with fail
    refine bodyPost_ret (v := .tuple #[.agg #[.int .i64 0, .slice none 0 0, .slice none 0 0], .int .i64 80]) (by simp [results, Try.results24, go_sem, e0, e1, e2]) rfl ?_
    exact HZ.out
  | some l =>
    have HE : rdE ps.flatten = 0 := by unfold rdE; rw [hrd]; rfl
    rw [HE]
    have HRd := Lib.hid hrd
    have o2 := O2.out
    rw [show rdL ps.flatten = l by unfold rdL; rw [hrd]; rfl] at o2
    obtain ⟨A2, c2, rfl, _, l2⟩ := Ln.of_own o2
    have L2 := Lib.hid l2
    have hll : l.length ≤ 25000 := by
      have := rd_length hrd
      have := HF.out
      omega
    have HTl := Lib.hid (told_fr l)
    obtain ⟨Q, hQ⟩ : ∃ Q, l.length = Q := ⟨_, rfl⟩
    rw [hQ] at hll L2 ⊢
    have HQ := Lib.hid hQ
    clear HE hrd o2 l2 O2 hQ
    go_wp2_with fail
    refine (told_any A2 Q c2 l w2 L2.out (by omega) (SS.rd_range _ _ HRd.out)).mono ?_
    rintro e w3 ⟨A3, n3, c3, B3, m3, d3, rfl, s3, hi3, hj3, b3⟩
    have hn3 : n3 ≤ 25000 := by have := s3.fl; have := HTl.out.1; have := HQ.out; omega
    have hm3 : m3 ≤ 25000 := by have := s3.pl; have := HTl.out.2; have := HQ.out; omega
    have B3' := Lib.hid (B2.out.trans (b3.mono B2.out.size))
    have HDT := Lib.hid (SS.dec_told HRd.out (by have := HQ.out; omega))
    obtain ⟨s, hs⟩ : ∃ s, SS.told l = s := ⟨_, rfl⟩
    rw [hs] at s3 HDT ⊢
    obtain ⟨h, hh⟩ : ∃ h, s.hi = h := ⟨_, rfl⟩
    rw [hh]
    have HH := Lib.hid hh
    have BX := Lib.hid (below_one w3 (.cells #[.int .i64 h, .slice A3 n3 c3, .slice B3 m3 d3] 26))
    have HX := Lib.hid (box_new w3 (.int .i64 h) (.slice A3 n3 c3) (.slice B3 m3 d3))
    have S3 := Lib.hid (s3.kept BX.out)
    have HR3 := Lib.hid (HR.out.kept B3'.out)
    have B4 := Lib.hid (B3'.out.trans (BX.out.mono B3'.out.size))
    have HR4 := Lib.hid (HR3.out.kept BX.out)
    have HI3 : Hid (Hi (w.heap.size + 1) A3 ∧ Hi (w.heap.size + 1) B3) := Lib.hid (by have := HR.out.lt; have := B2.out.size; exact ⟨hi3.low (by omega), hj3.low (by omega)⟩)
    clear s3 b3 hs hh HTl L2 hi3 hj3
    go_upto_region 5 with fail
    generalize w3.alloc (.cells #[.int .i64 h, .slice A3 n3 c3, .slice B3 m3 d3] 26) = w4 at *
    obtain ⟨a0, a1, a2⟩ := HX.out.cells
    go_wp2_with fail
    refine (check_any s h 2147483647 A3 B3 n3 c3 m3 d3 w4 HH.out S3.out (by omega) (by omega)).mono ?_
    rintro e w5 ⟨rfl, b5⟩
    have B5 := Lib.hid b5
    clear b5 a0 a1 a2
    rcases check_or s 2147483647 with hk | hk
    · rw [hk]
      obtain ⟨a0, a1, a2⟩ := (HX.out.kept B5.out).cells
      have HK := Lib.hid hk
      clear hk
      go_wp2_with fail
      refine (encode_any s h A3 B3 n3 c3 m3 d3 w5 HH.out (S3.out.kept B5.out) (by omega) (by omega)).mono ?_
      rintro e w6 ⟨A6, c6, rfl, p6, b6⟩
      have P6 := Lib.hid p6
      have B6 := Lib.hid (B5.out.trans (b6.mono B5.out.size))
      have PP := Lib.hid (HP.out.kept ((B4.out.trans (B6.out.mono B4.out.size))))
      obtain ⟨M, hM⟩ : ∃ M, s.enc.length = M := ⟨_, rfl⟩
      rw [hM]
      have HM := Lib.hid hM
      have hMle : M ≤ 1000000 := by
        have h1 := SS.cutB_len (numB s.nums).length (numB s.nums)
        have h2 := numB_length s.nums
        have h3 := s.nums_len
        have h4 := S3.out.fl
        have h5 := S3.out.pl
        have h6 : s.enc.length ≤ (numB s.nums).length := h1
        omega
      clear p6 b6 hM a0 a1 a2
      go_wp2_with fail
      refine (equalF_any A6 A M c6 n c s.enc ps w6 P6.out PP.out HM.out HN.out hMle).mono ?_
      rintro e w7 ⟨rfl, rfl⟩
      have HR6 := Lib.hid (HR4.out.kept B6.out)
      have BB := Lib.hid (B0.out.trans ((B4.out.trans (B6.out.mono B4.out.size)).mono B0.out.size))
      obtain ⟨q0, q1, q2⟩ := HR6.out.cells
      obtain ⟨f0, f1, f2⟩ := HR6.out.free
      by_cases hep : s.enc = ps
      · rw [decide_eq_true hep]
        have HDS := Lib.hid (decS_some (HDT.out.trans (if_pos ⟨HK.out, hep⟩)))
        obtain ⟨a0, a1, a2⟩ := (HX.out.kept B6.out).cells
        have HD := Lib.hid (put_done (h := h) BB.out (Nat.le_refl w.heap.size) (S3.out.kept B6.out) HI3.out.1 HI3.out.2 HH.out (.int .i64 h) (.slice A3 n3 c3) (.slice B3 m3 d3))
        obtain ⟨e0, e1, e2⟩ := (Lib.hid (HR6.out.put (.int .i64 h) (.slice A3 n3 c3) (.slice B3 m3 d3))).out.cells
        clear hep
        go_wp2_with fail
        refine bodyPost_ret (v := .tuple #[.agg #[.int .i64 h, .slice A3 n3 c3, .slice B3 m3 d3], .int .i64 0]) (by simp [results, Try.results24, go_sem, e0, e1, e2]) rfl ?_
        rw [HDS.out.1, HDS.out.2]
        exact ⟨_, rfl, HD.out.1, HD.out.2⟩
      · rw [decide_eq_false hep]
        have HZ := Lib.hid (dec_zero (HDT.out.trans (if_neg (fun h => hep h.2))) BB.out)
        obtain ⟨e0, e1, e2⟩ := (Lib.hid (HR6.out.put (.int .i64 0) (.slice none 0 0) (.slice none 0 0))).out.cells
        clear hep
        go_wp2_with fail
        refine bodyPost_ret (v := .tuple #[.agg #[.int .i64 0, .slice none 0 0, .slice none 0 0], .int .i64 80]) (by simp [results, Try.results24, go_sem, e0, e1, e2]) rfl ?_
        exact HZ.out
    · rw [hk]
      have BB := Lib.hid (B0.out.trans ((B4.out.trans (B5.out.mono B4.out.size)).mono B0.out.size))
      have HZ := Lib.hid (dec_zero (HDT.out.trans (if_neg (fun h => by have h1 : s.check 2147483647 = 0 := h.1; rw [hk] at h1; cases h1))) BB.out)
      have HR5 := Lib.hid (HR4.out.kept B5.out)
      obtain ⟨q0, q1, q2⟩ := HR5.out.cells
      obtain ⟨f0, f1, f2⟩ := HR5.out.free
      obtain ⟨e0, e1, e2⟩ := (Lib.hid (HR5.out.put (.int .i64 0) (.slice none 0 0) (.slice none 0 0))).out.cells
      clear hk
      go_wp2_with fail
      refine bodyPost_ret (v := .tuple #[.agg #[.int .i64 0, .slice none 0 0, .slice none 0 0], .int .i64 80]) (by simp [results, Try.results24, go_sem, e0, e1, e2]) rfl ?_
      exact HZ.out
end Go.Proofs.Ytlldmefjhgahdaa

/-
  What the document's own Same comes to, at two pages' lists.
-/
namespace Go.Proofs.Ytlldmefjhgahdaa
open Go.RowKit

open Classical in
/-- Two lists alike. -/
noncomputable def sameS (a b : SS) : Bool := decide (a.hi = b.hi ∧ a.fr = b.fr ∧ a.pe = b.pe)
theorem sameS_refl (a : SS) : sameS a a = true := by
  unfold sameS
  simp
theorem sameS_eq {a b : SS} (h : sameS a b = true) : a = b := by
  unfold sameS at h
  obtain ⟨h1, h2, h3⟩ := of_decide_eq_true h
  obtain ⟨x, y, z⟩ := a
  obtain ⟨x', y', z'⟩ := b
  simp only at h1 h2 h3
  rw [h1, h2, h3]
theorem sameS_no {a b : SS} (h : ¬ (a.hi = b.hi ∧ a.fr = b.fr ∧ a.pe = b.pe)) : sameS a b = false := by
  unfold sameS
  exact decide_eq_false h
theorem sameS_yes {a b : SS} (h : a.hi = b.hi ∧ a.fr = b.fr ∧ a.pe = b.pe) : sameS a b = true := by
  unfold sameS
  exact decide_eq_true h

set_option maxRecDepth 20000 in
set_option maxHeartbeats 3200000 in
theorem same_any (s t : SS) (h g : Int) (A B C D : Option Addr) (n c m d n' c' m' d' : Nat) (w : World) (hh : s.hi = h) (hg : t.hi = g) (hs : Sp w A n c B m d s) (ht : Sp w C n' c' D m' d' t) (hn : n ≤ 400000) (hm : m ≤ 400000) :
    Calls Try.prog 20 #[.agg #[.int .i64 h, .slice A n c, .slice B m d], .agg #[.int .i64 g, .slice C n' c', .slice D m' d']] w fun e w' => e = .returned (.bool (sameS s t)) ∧ Below w.heap.size w w' := by
  obtain ⟨tb1, tb2, tb3⟩ := two_boxes w (.int .i64 h) (.slice A n c) (.slice B m d) (.int .i64 g) (.slice C n' c') (.slice D m' d')
  have HX := Lib.hid tb1
  have HY := Lib.hid tb2
  have B0 := Lib.hid tb3
  have HS := Lib.hid (hs.kept tb3)
  have HT := Lib.hid (ht.kept tb3)
  have HH := Lib.hid hh
  have HG := Lib.hid hg
  have n1 := hs.fl
  have n2 := hs.pl
  have n3 := ht.fl
  have n4 := ht.pl
  by_cases q1 : h = g
  rotate_left
  · have HF : Hid (sameS s t = false) := Lib.hid (sameS_no (fun e => q1 (by rw [← hh, ← hg]; exact e.1)))
    have b1 : (h != g) = true := by simpa using q1
    clear q1 hs ht hh hg n1 n2 n3 n4 tb1 tb2 tb3
    go_enter Try.func20, Try.ntmps20
    go_wp2_with fail
    go_ret
    exact ⟨ret_bool HF.out.symm, B0.out⟩
  have b1 : (h != g) = false := by simpa using q1
  by_cases q2 : n = n'
  rotate_left
  · have HF : Hid (sameS s t = false) := Lib.hid (sameS_no (fun e => q2 (by rw [← n1, ← n3, e.2.1])))
    have b2 : ((n : Int) != (n' : Int)) = true := by simp; omega
    clear q1 q2 hs ht hh hg n1 n2 n3 n4 tb1 tb2 tb3
    go_enter Try.func20, Try.ntmps20
    go_wp2_with fail
    go_ret
    exact ⟨ret_bool HF.out.symm, B0.out⟩
  have b2 : ((n : Int) != (n' : Int)) = false := by simp; omega
  by_cases q3 : m = m'
  rotate_left
  · have HF : Hid (sameS s t = false) := Lib.hid (sameS_no (fun e => q3 (by rw [← n2, ← n4, e.2.2])))
    have b3 : ((m : Int) != (m' : Int)) = true := by simp; omega
    clear q1 q2 q3 hs ht hh hg n1 n2 n3 n4 tb1 tb2 tb3
    go_enter Try.func20, Try.ntmps20
    go_wp2_with fail
    go_ret
    exact ⟨ret_bool HF.out.symm, B0.out⟩
  have b3 : ((m : Int) != (m' : Int)) = false := by simp; omega
  have HQ := Lib.hid (show h = g ∧ n = n' ∧ m = m' ∧ s.fr.length = n ∧ s.pe.length = m ∧ t.fr.length = n' ∧ t.pe.length = m' from ⟨q1, q2, q3, n1, n2, n3, n4⟩)
  clear q1 q2 q3 hs ht hh hg n1 n2 n3 n4 tb1 tb2 tb3
  go_enter Try.func20, Try.ntmps20
  go_wp2_with fail
  generalize (w.alloc (.cells #[.int .i64 h, .slice A n c, .slice B m d] 26)).alloc (.cells #[.int .i64 g, .slice C n' c', .slice D m' d'] 26) = w0 at *
  clear b1 b2 b3
  go_loopw [5] (fun i wr => ∃ k : Nat, k ≤ n ∧ i = .int .i64 k ∧ Hid (s.fr.take k = t.fr.take k) ∧ Hid (Below w0.heap.size w0 wr)) (fun i _ => n - (intOf i).toNat)
  case atStart => exact ⟨0, Nat.zero_le _, rfl, Lib.hid (by simp), Lib.hid (Below.refl _ _)⟩
  case round =>
    obtain ⟨k, hk, rfl, hpre, B1⟩ := hrel
    obtain ⟨a0, a1, a2⟩ := (HX.out.kept B1.out).cells
    obtain ⟨y0, y1, y2⟩ := (HY.out.kept B1.out).cells
    by_cases hlt : k < n
    · have hlt2 : k < n' := by rw [← HQ.out.2.1]; exact hlt
      obtain ⟨b, off, x, rfl, hx, c0⟩ := (HS.out.fr.kept B1.out).intAt hlt
      obtain ⟨b', off', y, rfl, hy, c1⟩ := (HT.out.fr.kept B1.out).intAt hlt2
      have i0 : (0 : Int) ≤ (k : Int) := by omega
      have HP := Lib.hid hx
      have HQ' := Lib.hid hy
      clear hx hy
      by_cases hxy : x = y
      · subst hxy
        have HM := Lib.hid (take_more hpre.out HP.out HQ'.out)
        clear HP HQ' hpre
        go_wp2_with fail
        go_quiet (fail)
        go_wp2_with fail
        go_roundw
        case rel => exact ⟨k + 1, by omega, by go_num, HM, Lib.hid (belowN B1.out _)⟩
        case measure => simp [intOf]; omega
      · have bx : (x != y) = true := by simpa using hxy
        have HF : Hid (sameS s t = false) := Lib.hid (sameS_no (fun e => hxy (by have h1 := HP.out; rw [e.2.1, HQ'.out] at h1; exact (Option.some.inj h1).symm)))
        have B2 := Lib.hid (B0.out.trans (B1.out.mono B0.out.size))
        clear hxy
        go_wp2_with fail
        go_quiet (fail)
        go_wp2_with fail
        go_ret
        exact ⟨ret_bool HF.out.symm, belowN B2.out _⟩
    · obtain rfl : n = k := by omega
      have HFR : Hid (s.fr = t.fr) := Lib.hid (by
        obtain ⟨_, e2, _, e4, _, e6, _⟩ := HQ.out
        have := hpre.out
        rw [List.take_of_length_le (by omega), List.take_of_length_le (by omega)] at this
        exact this)
      go_wp2_with fail
      clear a0 a1 a2 y0 y1 y2
      go_loopw [6] (fun i wk => ∃ k : Nat, k ≤ m ∧ i = .int .i64 k ∧ Hid (s.pe.take k = t.pe.take k) ∧ Hid (Below w0.heap.size w0 wk)) (fun i _ => m - (intOf i).toNat)
      case atStart => exact ⟨0, Nat.zero_le _, rfl, Lib.hid (by simp), B1⟩
      case round =>
        obtain ⟨k, hk, rfl, hpre2, B2⟩ := hrel
        obtain ⟨a0, a1, a2⟩ := (HX.out.kept B2.out).cells
        obtain ⟨y0, y1, y2⟩ := (HY.out.kept B2.out).cells
        by_cases hlt : k < m
        · have hlt2 : k < m' := by rw [← HQ.out.2.2.1]; exact hlt
          obtain ⟨b, off, x, y, rfl, hx, c0, c1⟩ := (HS.out.pe.kept B2.out).prAt hlt
          obtain ⟨b', off', x', y', rfl, hy, d0, d1⟩ := (HT.out.pe.kept B2.out).prAt hlt2
          have i0 : (0 : Int) ≤ (k : Int) := by omega
          have HP := Lib.hid hx
          have HQ' := Lib.hid hy
          clear hx hy
          by_cases hxy : x = x'
          · subst hxy
            by_cases hyy : y = y'
            · subst hyy
              have HM := Lib.hid (take_more hpre2.out HP.out HQ'.out)
              clear HP HQ' hpre2
              go_wp2_with fail
              go_quiet (fail)
              go_wp2_with fail
              go_roundw
              case rel => exact ⟨k + 1, by omega, by go_num, HM, Lib.hid (belowN B2.out _)⟩
              case measure => simp [intOf]; omega
            · have bx : (y == y') = false := by simpa using hyy
              have HF : Hid (sameS s t = false) := Lib.hid (sameS_no (fun e => hyy (by have h1 := HP.out; rw [e.2.2, HQ'.out] at h1; exact (Prod.mk.inj (Option.some.inj h1)).2.symm)))
              have B3 := Lib.hid (B0.out.trans (B2.out.mono B0.out.size))
              clear hyy
              go_wp2_with fail
              go_quiet (fail)
              go_wp2_with fail
              go_ret
              exact ⟨ret_bool HF.out.symm, belowN B3.out _⟩
          · have bx : (x == x') = false := by simpa using hxy
            have HF : Hid (sameS s t = false) := Lib.hid (sameS_no (fun e => hxy (by have h1 := HP.out; rw [e.2.2, HQ'.out] at h1; exact (Prod.mk.inj (Option.some.inj h1)).1.symm)))
            have B3 := Lib.hid (B0.out.trans (B2.out.mono B0.out.size))
            clear hxy
            go_wp2_with fail
            go_quiet (fail)
            go_wp2_with fail
            go_ret
            exact ⟨ret_bool HF.out.symm, belowN B3.out _⟩
        · obtain rfl : m = k := by omega
          have HF : Hid (sameS s t = true) := Lib.hid (sameS_yes (by
            obtain ⟨e1, _, e3, _, e5, _, e7⟩ := HQ.out
            have := hpre2.out
            rw [List.take_of_length_le (by omega), List.take_of_length_le (by omega)] at this
            exact ⟨by rw [HH.out, HG.out, e1], HFR.out, this⟩))
          have B3 := Lib.hid (B0.out.trans (B2.out.mono B0.out.size))
          go_wp2_with fail
          go_ret
          exact ⟨ret_bool HF.out.symm, B3.out⟩
end Go.Proofs.Ytlldmefjhgahdaa

/-
  The calls at the head of all statements (awake) answer as they should; few.
-/
namespace Go.Proofs.Ytlldmefjhgahdaa
open Go.RowKit

def s0 (h : Int) : SS := ⟨h, [], []⟩
theorem s0_sp (w : World) (h : Int) : Sp w none 0 0 none 0 0 (s0 h) := ⟨Ln.none_ w 1, Ln.none_ w 2⟩
def sT : SS := ⟨4, [], [(5, 3)]⟩
theorem aw1 : SS.take (s0 2) 4 = (0, 2, s0 3) := by simp [SS.take, s0]
theorem aw2 : SS.take (s0 4) 4 = (81, 0, SS.none) := by simp [SS.take, s0]
theorem aw3 : SS.give (s0 4) 5 3 = (0, sT) := by
  simp [SS.give, SS.giveBad, SS.may, SS.known, SS.last, s0, sT]
theorem aw4 : SS.reclaim sT 5 (1 : Int).toNat = (⟨4, [3], []⟩, 1) := by
  have h : (1 : Int).toNat = 1 := rfl
  rw [h]
  simp [SS.reclaim, SS.count, SS.insAll, SS.ins, sT]
theorem aw5 : SS.back (s0 3) 2 = (0, ⟨3, [2], []⟩) := by
  simp [SS.back, SS.backBad, SS.may, SS.known, SS.ins, s0]
theorem sT_fine {t : Int} (h : 4 ≤ t) : SS.Fine sT t := by
  refine ⟨by simp [sT], by simpa [sT] using h, by simp [sT], by simp [sT], by simp [sT], ?_, ?_, by simp [sT], by simp [sT]⟩
  · intro x hx
    obtain rfl : x = (5, 3) := by simpa [sT] using hx
    simp
  · intro x hx
    obtain rfl : x = (5, 3) := by simpa [sT] using hx
    simp [sT]
theorem aw6 : SS.decS sT.enc = sT ∧ SS.decE sT.enc = 0 :=
  decS_some (SS.dec_enc (sT_fine (by simp [SS.topN])) (by simp [sT]) (by simp [sT]) (by
    intro x hx
    obtain rfl : x = (5, 3) := by simpa [sT] using hx
    simp [SS.topN]))
theorem aw7 : SS.check sT 4 = 0 := SS.check_ok (sT_fine (Int.le_refl _))
theorem aw8 : SS.check SS.none 4 = 80 := SS.none_bad 4
theorem awF : sT.enc.flatten.length ≤ 100000 ∧ sT.enc.length ≤ 100000 := by
  have h1 : (numB sT.nums).length = 20 := by
    rw [numB_length, SS.nums_len]
    simp [sT]
  refine ⟨?_, ?_⟩
  · rw [SS.enc_flat, h1]
    omega
  · have := SS.cutB_len (numB sT.nums).length (numB sT.nums)
    have h2 : sT.enc.length ≤ (numB sT.nums).length := this
    omega

set_option maxRecDepth 20000 in
set_option maxHeartbeats 3200000 in
theorem awake_any (w : World) : Calls Try.prog 10 #[] w fun e w' => e = .returned (.bool true) ∧ Below w.heap.size w w' := by
  go_enter Try.func10, Try.ntmps10
  go_wp2_with fail
  have k1 := take_any (s0 2) 2 4 none none 0 0 0 0 w rfl (s0_sp w 2) (by decide) (by decide) (by decide) (by decide)
  rw [aw1] at k1
  refine k1.mono ?_
  rintro e w1 ⟨u1, rfl, ⟨A1, n1, c1, B1, m1, d1, z1, h1⟩, b1⟩
  obtain rfl : n1 = 0 := h1.fl.symm
  obtain rfl : m1 = 0 := h1.pl.symm
  obtain rfl : u1 = .agg #[.int .i64 3, .slice A1 0 c1, .slice B1 0 d1] := z1
  have x1 := box_new w1 (.int .i64 3) (.slice A1 0 c1) (.slice B1 0 d1)
  have y1 := below_one w1 (.cells #[.int .i64 3, .slice A1 0 c1, .slice B1 0 d1] 26)
  have H1 := Lib.hid (h1.kept y1)
  have X1 := Lib.hid x1
  have Y1 := Lib.hid (b1.trans (y1.mono b1.size))
  clear k1 h1 b1 x1 y1
  go_upto_region 2 with fail
  generalize w1.alloc (.cells #[.int .i64 3, .slice A1 0 c1, .slice B1 0 d1] 26) = v1 at *
  have Z1 := Y1
  go_wp2_with fail
  have k2 := take_any (s0 4) 4 4 none none 0 0 0 0 v1 rfl (s0_sp v1 4) (by decide) (by decide) (by decide) (by decide)
  rw [aw2] at k2
  refine k2.mono ?_
  rintro e w2 ⟨u2, rfl, ⟨A2, n2, c2, B2, m2, d2, z2, h2⟩, b2⟩
  obtain rfl : n2 = 0 := h2.fl.symm
  obtain rfl : m2 = 0 := h2.pl.symm
  obtain rfl : u2 = .agg #[.int .i64 0, .slice A2 0 c2, .slice B2 0 d2] := z2
  have x2 := box_new w2 (.int .i64 0) (.slice A2 0 c2) (.slice B2 0 d2)
  have y2 := below_one w2 (.cells #[.int .i64 0, .slice A2 0 c2, .slice B2 0 d2] 26)
  have H2 := Lib.hid (h2.kept y2)
  have X2 := Lib.hid x2
  have Y2 := Lib.hid (b2.trans (y2.mono b2.size))
  clear k2 h2 b2 x2 y2
  go_upto_region 3 with fail
  generalize w2.alloc (.cells #[.int .i64 0, .slice A2 0 c2, .slice B2 0 d2] 26) = v2 at *
  have Z2 := Lib.hid (Z1.out.trans (Y2.out.mono Z1.out.size))
  have H1' := Lib.hid (H1.out.kept Y2.out)
  have X1' := Lib.hid (X1.out.kept Y2.out)
  clear H1 X1
  have H1 := H1'
  have X1 := X1'
  clear H1' X1'
  clear H2 X2
  go_wp2_with fail
  have k3 := give_any (s0 4) 4 5 3 none none 0 0 0 0 v2 rfl (s0_sp v2 4) (by decide) (by decide)
  rw [aw3] at k3
  refine k3.mono ?_
  rintro e w3 ⟨u3, rfl, ⟨A3, n3, c3, B3, m3, d3, z3, h3⟩, b3⟩
  obtain rfl : n3 = 0 := h3.fl.symm
  obtain rfl : m3 = 1 := h3.pl.symm
  obtain rfl : u3 = .agg #[.int .i64 4, .slice A3 0 c3, .slice B3 1 d3] := z3
  have x3 := box_new w3 (.int .i64 4) (.slice A3 0 c3) (.slice B3 1 d3)
  have y3 := below_one w3 (.cells #[.int .i64 4, .slice A3 0 c3, .slice B3 1 d3] 26)
  have H3 := Lib.hid (h3.kept y3)
  have X3 := Lib.hid x3
  have Y3 := Lib.hid (b3.trans (y3.mono b3.size))
  clear k3 h3 b3 x3 y3
  go_upto_region 4 with fail
  generalize w3.alloc (.cells #[.int .i64 4, .slice A3 0 c3, .slice B3 1 d3] 26) = v3 at *
  have Z3 := Lib.hid (Z2.out.trans (Y3.out.mono Z2.out.size))
  have H1' := Lib.hid (H1.out.kept Y3.out)
  have X1' := Lib.hid (X1.out.kept Y3.out)
  clear H1 X1
  have H1 := H1'
  have X1 := X1'
  clear H1' X1'
  obtain ⟨a0, a1, a2⟩ := X3.out.cells
  go_wp2_with fail
  clear a0 a1 a2
  have k4 := reclaim_any sT 4 5 1 A3 B3 0 c3 1 d3 v3 rfl H3.out (by decide) (by decide)
  rw [aw4] at k4
  refine k4.mono ?_
  rintro e w4 ⟨u4, rfl, ⟨A4, n4, c4, B4, m4, d4, z4, h4⟩, b4⟩
  obtain rfl : n4 = 1 := h4.fl.symm
  obtain rfl : m4 = 0 := h4.pl.symm
  obtain rfl : u4 = .agg #[.int .i64 4, .slice A4 1 c4, .slice B4 0 d4] := z4
  have x4 := box_new w4 (.int .i64 4) (.slice A4 1 c4) (.slice B4 0 d4)
  have y4 := below_one w4 (.cells #[.int .i64 4, .slice A4 1 c4, .slice B4 0 d4] 26)
  have H4 := Lib.hid (h4.kept y4)
  have X4 := Lib.hid x4
  have Y4 := Lib.hid (b4.trans (y4.mono b4.size))
  clear k4 h4 b4 x4 y4
  go_upto_region 5 with fail
  generalize w4.alloc (.cells #[.int .i64 4, .slice A4 1 c4, .slice B4 0 d4] 26) = v4 at *
  have Z4 := Lib.hid (Z3.out.trans (Y4.out.mono Z3.out.size))
  have H1' := Lib.hid (H1.out.kept Y4.out)
  have X1' := Lib.hid (X1.out.kept Y4.out)
  clear H1 X1
  have H1 := H1'
  have X1 := X1'
  clear H1' X1'
  have H3' := Lib.hid (H3.out.kept Y4.out)
  have X3' := Lib.hid (X3.out.kept Y4.out)
  clear H3 X3
  have H3 := H3'
  have X3 := X3'
  clear H3' X3'
  obtain ⟨a0, a1, a2⟩ := X1.out.cells
  go_wp2_with fail
  clear a0 a1 a2
  have k5 := back_any (s0 3) 3 2 A1 B1 0 c1 0 d1 v4 rfl H1.out (by decide) (by decide)
  rw [aw5] at k5
  refine k5.mono ?_
  rintro e w5 ⟨u5, rfl, ⟨A5, n5, c5, B5, m5, d5, z5, h5⟩, b5⟩
  obtain rfl : n5 = 1 := h5.fl.symm
  obtain rfl : m5 = 0 := h5.pl.symm
  obtain rfl : u5 = .agg #[.int .i64 3, .slice A5 1 c5, .slice B5 0 d5] := z5
  have x5 := box_new w5 (.int .i64 3) (.slice A5 1 c5) (.slice B5 0 d5)
  have y5 := below_one w5 (.cells #[.int .i64 3, .slice A5 1 c5, .slice B5 0 d5] 26)
  have H5 := Lib.hid (h5.kept y5)
  have X5 := Lib.hid x5
  have Y5 := Lib.hid (b5.trans (y5.mono b5.size))
  clear k5 h5 b5 x5 y5
  go_upto_region 6 with fail
  generalize w5.alloc (.cells #[.int .i64 3, .slice A5 1 c5, .slice B5 0 d5] 26) = v5 at *
  have Z5 := Lib.hid (Z4.out.trans (Y5.out.mono Z4.out.size))
  have H1' := Lib.hid (H1.out.kept Y5.out)
  have X1' := Lib.hid (X1.out.kept Y5.out)
  clear H1 X1
  have H1 := H1'
  have X1 := X1'
  clear H1' X1'
  have H3' := Lib.hid (H3.out.kept Y5.out)
  have X3' := Lib.hid (X3.out.kept Y5.out)
  clear H3 X3
  have H3 := H3'
  have X3 := X3'
  clear H3' X3'
  have H4' := Lib.hid (H4.out.kept Y5.out)
  have X4' := Lib.hid (X4.out.kept Y5.out)
  clear H4 X4
  have H4 := H4'
  have X4 := X4'
  clear H4' X4'
  obtain ⟨a0, a1, a2⟩ := X3.out.cells
  go_wp2_with fail
  clear a0 a1 a2
  refine (encode_any sT 4 A3 B3 0 c3 1 d3 v5 rfl H3.out (by decide) (by decide)).mono ?_
  rintro e w9 ⟨A9, c9, rfl, p9, b9⟩
  obtain ⟨M, hM⟩ : ∃ M, sT.enc.length = M := ⟨_, rfl⟩
  rw [hM]
  have hML : M ≤ 100000 := by rw [← hM]; exact awF.2
  have HM := Lib.hid hM
  have P9 := Lib.hid p9
  have B9 := Lib.hid b9
  clear hM p9 b9
  go_wp2_with fail
  have k6 := decode_any A9 M c9 sT.enc w9 P9.out HM.out hML awF.1
  rw [aw6.1, aw6.2] at k6
  refine k6.mono ?_
  rintro e w6 ⟨u6, rfl, ⟨A6, n6, c6, B6, m6, d6, z6, h6⟩, b6⟩
  obtain rfl : n6 = 0 := h6.fl.symm
  obtain rfl : m6 = 1 := h6.pl.symm
  obtain rfl : u6 = .agg #[.int .i64 4, .slice A6 0 c6, .slice B6 1 d6] := z6
  have x6 := box_new w6 (.int .i64 4) (.slice A6 0 c6) (.slice B6 1 d6)
  have y6 := below_one w6 (.cells #[.int .i64 4, .slice A6 0 c6, .slice B6 1 d6] 26)
  have H6 := Lib.hid (h6.kept y6)
  have X6 := Lib.hid x6
  have Y6 := Lib.hid (b6.trans (y6.mono b6.size))
  clear k6 h6 b6 x6 y6
  go_upto_region 7 with fail
  generalize w6.alloc (.cells #[.int .i64 4, .slice A6 0 c6, .slice B6 1 d6] 26) = v6 at *
  have U6 := Lib.hid (B9.out.trans (Y6.out.mono B9.out.size))
  have Z6 := Lib.hid (Z5.out.trans (U6.out.mono Z5.out.size))
  have H1' := Lib.hid (H1.out.kept U6.out)
  have X1' := Lib.hid (X1.out.kept U6.out)
  clear H1 X1
  have H1 := H1'
  have X1 := X1'
  clear H1' X1'
  have H3' := Lib.hid (H3.out.kept U6.out)
  have X3' := Lib.hid (X3.out.kept U6.out)
  clear H3 X3
  have H3 := H3'
  have X3 := X3'
  clear H3' X3'
  have H4' := Lib.hid (H4.out.kept U6.out)
  have X4' := Lib.hid (X4.out.kept U6.out)
  clear H4 X4
  have H4 := H4'
  have X4 := X4'
  clear H4' X4'
  have H5' := Lib.hid (H5.out.kept U6.out)
  have X5' := Lib.hid (X5.out.kept U6.out)
  clear H5 X5
  have H5 := H5'
  have X5 := X5'
  clear H5' X5'
  obtain ⟨a0, a1, a2⟩ := X3.out.cells
  obtain ⟨f0, f1, f2⟩ := X4.out.cells
  obtain ⟨g0, g1, g2⟩ := X5.out.cells
  obtain ⟨h0, h1, h2⟩ := X6.out.cells
  go_wp2_with fail
  refine (same_any sT sT 4 4 A6 B6 A3 B3 0 c6 1 d6 0 c3 1 d3 v6 rfl rfl H6.out H3.out (by decide) (by decide)).mono ?_
  rintro e w7 ⟨rfl, b7⟩
  rw [sameS_refl]
  have B7 := Lib.hid b7
  have Z7 := Lib.hid (Z6.out.trans (b7.mono Z6.out.size))
  clear a0 a1 a2 f0 f1 f2 g0 g1 g2 h0 h1 h2 b7
  obtain ⟨a0, a1, a2⟩ := (X3.out.kept B7.out).cells
  obtain ⟨f0, f1, f2⟩ := (X1.out.kept B7.out).cells
  go_wp2_with fail
  have k8 := check_any sT 4 4 A3 B3 0 c3 1 d3 w7 rfl (H3.out.kept B7.out) (by decide) (by decide)
  rw [aw7] at k8
  refine k8.mono ?_
  rintro e w8 ⟨rfl, b8⟩
  have Z8 := Lib.hid (Z7.out.trans (b8.mono Z7.out.size))
  clear k8 a0 a1 a2 f0 f1 f2 b8
  go_wp2_with fail
  have k10 := check_any SS.none 0 4 none none 0 0 0 0 w8 rfl (Sp.zero w8) (by decide) (by decide)
  rw [aw8] at k10
  refine k10.mono ?_
  rintro e w10 ⟨rfl, b10⟩
  have Z10 := Lib.hid (Z8.out.trans (b10.mono Z8.out.size))
  clear k10 b10
  go_wp2_with fail
  go_ret
  exact ⟨rfl, Z10.out⟩

def fewB (n m : Nat) : Bool := decide (n ≤ 300 ∧ m ≤ 300)

set_option maxRecDepth 20000 in
set_option maxHeartbeats 400000 in
theorem few_any (h : Int) (A B : Option Addr) (n c m d : Nat) (w : World) :
    Calls Try.prog 11 #[.agg #[.int .i64 h, .slice A n c, .slice B m d]] w fun e w' => e = .returned (.bool (fewB n m)) ∧ Below w.heap.size w w' := by
  by_cases h1 : n ≤ 300
  · by_cases h2 : m ≤ 300
    · have HD := Lib.hid (show fewB n m = true from decide_eq_true ⟨h1, h2⟩)
      go_enter Try.func11, Try.ntmps11
      go_wp2_with fail
      go_ret
      exact ⟨ret_bool ((decide_eq_true (by omega)).trans HD.out.symm), below_one _ _⟩
    · have HD := Lib.hid (show fewB n m = false from decide_eq_false (fun e => h2 e.2))
      go_enter Try.func11, Try.ntmps11
      go_wp2_with fail
      go_ret
      exact ⟨ret_bool ((decide_eq_false (by omega)).trans HD.out.symm), below_one _ _⟩
  · have HD := Lib.hid (show fewB n m = false from decide_eq_false (fun e => h1 e.1))
    go_enter Try.func11, Try.ntmps11
    go_wp2_with fail
    go_ret
    exact ⟨ret_bool HD.out.symm, below_one _ _⟩
end Go.Proofs.Ytlldmefjhgahdaa

/-
  The frame of every law's proof: how a walk that answers true and only makes memory becomes the given statement.
-/
namespace Go.Proofs.Ytlldmefjhgahdaa
open Go.ChangeShapes Go.WideShapes Go.ChangeAt Go.RowKit Go.Joins Go.Deep

theorem ownKnobs : ownKnob Try.prog.godebug = none := by kernel_rfl
theorem laidOut : laidOutB Try.prog = true := by kernel_rfl

section
variable {H : Type} {enc : TypeId × Value → H}

/-- What was read before a call that only made memory reads the same behind it. -/
theorem all_again {P : Program} (hl : laidOutB P = true) {W W' : World} (hb : Below W.heap.size W W') :
    ∀ (ts : List TypeId) (vs : List Value) (ds : List (DataW H)) (ps : List MemPlace), (∀ t ∈ ts, P.readableRec t = true ∧ t < P.types.size) →
      DataW.TrodAll enc P W 0 (fun _ => true) true ts vs ds ps → DataW.TrodAll enc P W' 0 (fun b => decide (b < W.heap.size)) true ts vs ds ps
  | [], _, _, _, _, h => by
    obtain ⟨rfl, rfl, rfl⟩ := trodAll_nil h
    exact trodAll_mk0
  | t :: ts, _, _, _, hr, h => by
    obtain ⟨v, vs, d, ds, p, q, rfl, rfl, rfl, h0, h1⟩ := trodAll_cons h
    have lt0 : ∀ x ∈ p, x.block < W.heap.size := by
      obtain ⟨m, hm⟩ := h0
      exact DataW.trod_lt m _ _ _ hm
    exact trodAll_cons_mk (Below.trod hl (hr t (by simp)).1 (hr t (by simp)).2 h0 hb lt0) (all_again hl hb ts vs ds q (fun u hu => hr u (by simp [hu])) h1)

theorem lift_law {C : Checked} {os : Os} {F : FuncId} {fn : Func} {s : ChangeSpec} {conds : List PathCond} {tb : TypeId}
    (own : ownKnob C.prog.godebug = none) (started : os.Started) (noInit : C.prog.inits.idxOf? F = none) (hfn : C.prog.funcs[F]? = some fn)
    (witness : ∃ (w : World) (tape : Tape) (i : Input), w.os = os ∧ (w.forCall tape i).Shaped C.prog ∧ i.vars = [] ∧ Input.okWide C.prog (w.forCall tape i) .any w.heap.size F i ∧
      s.pre6 enc C.prog fn conds false (w.forCall tape i).memory i.args ∧ ({} : Assume).holds C.prog (lone (Frame.enter C.prog F i.args .normal) [] (w.forCall tape i)))
    (hl : laidOutB C.prog = true) (hread : ∀ t ∈ fn.params.toList, C.prog.readableRec t = true ∧ t < C.prog.types.size) (hvars : s.vars = [])
    (hres : fn.resultTypes = #[tb]) (hb : C.prog.underlying tb = some .bool)
    (hspec : ∀ (vs : List Value) (ds : List (DataW H)) (W : World) (p : List MemPlace), DataW.TrodAll enc C.prog W 0 (fun _ => true) true fn.params.toList vs ds p →
      s.fn H ds = { results := [.lit (.bool true)], args := ds })
    (walk : ∀ (W : World) (base : Nat) (args : Array Value) (ds : List (DataW H)) (p : List MemPlace),
      (∀ (j : Nat) t v, fn.params[j]? = some t → args[j]? = some v → Value.okWide C.prog W .any base t v) →
      DataW.TrodAll enc C.prog W 0 (fun _ => true) true fn.params.toList args.toList ds p →
      Calls C.prog F args W fun e W' => e = .returned (.bool true) ∧ Below W.heap.size W W') :
    ReturnsInHanded {} C os F .any (s.pre6 enc C.prog fn conds false) (s.post enc C.prog fn false true false false) := by
  refine returnsInHanded_of_change own started noInit hfn witness ?_
  intro W base args ds gs before hval hW _ _
  have hW' := hW
  obtain ⟨p, q, hA, hV, rfl, _, _⟩ := hW
  rw [hvars] at hV
  obtain ⟨rfl, rfl⟩ := trodVars_none hV
  refine (walk W base args ds p hval hA).mono fun e W' ⟨he, bel⟩ => ?_
  subst he
  have hs := hspec _ _ _ _ hA
  refine ⟨_, rfl, ds, [], _, [], p, [], hW', ?_, ?_, ?_, bel.frame _, fun h => by cases h⟩
  · rw [List.append_nil, hs, hres]
    exact trodAll_mk1 (shut_bool hb _)
  · rw [List.append_nil, hs]
    exact all_again hl bel _ _ _ _ hread hA
  · rw [List.append_nil, hs, hvars]
    rfl
end

theorem intCells : Try.prog.cellsOf 3 = 1 := by kernel_rfl

theorem add_at (b off : Nat) (n : Nat) : (⟨b, off, none⟩ : Addr).add n = ⟨b, off + n, none⟩ := by
  unfold Addr.add
  split
  · rename_i h
    have : n = 0 := by simpa using h
    subst this
    rfl
  · rfl

theorem pick_each {α β : Type} (R : Nat → α → Prop) (g : α → β) : ∀ (n : Nat), (∀ i, i < n → ∃ a, R i a) → ∃ l : List α, l.length = n ∧ ∀ i a, l[i]? = some a → R i a
  | 0, _ => ⟨[], rfl, fun i a h => by simp at h⟩
  | n + 1, h => by
    obtain ⟨l, hl, hr⟩ := pick_each R g n (fun i hi => h i (by omega))
    obtain ⟨a, ha⟩ := h n (by omega)
    refine ⟨l ++ [a], by simp [hl], fun i x hx => ?_⟩
    by_cases hi : i < l.length
    · rw [List.getElem?_append_left hi] at hx
      exact hr i x hx
    · rw [List.getElem?_append_right (by omega)] at hx
      have h0 : i - l.length = 0 := by
        rcases Nat.eq_zero_or_pos (i - l.length) with e | e
        · exact e
        · have e2 : i - l.length = (i - l.length - 1) + 1 := by omega
          rw [e2] at hx
          simp at hx
      rw [h0] at hx
      have e1 : i = n := by omega
      subst e1
      obtain rfl : a = x := by simpa using hx
      exact ha

end Go.Proofs.Ytlldmefjhgahdaa

/-
  A number that comes in.
-/
namespace Go.Proofs.Ytlldmefjhgahdaa
open Go.ChangeShapes Go.WideShapes Go.ChangeAt Go.RowKit Go.Joins Go.Deep
section
variable {H : Type} {enc : TypeId × Value → H} {w : World} {base : Nat} {spare : Nat → Bool} {held : Bool}
set_option maxRecDepth 20000 in
/-- A number that comes in. -/
theorem open_i64 {v : Value} {d : DataW H} {p : List MemPlace} {r : Reach} {b0 : Nat} (hv : Value.okWide Try.prog w r b0 3 v) (h : DataW.Trod enc Try.prog w base spare held 3 v d p) :
    ∃ z : Int, v = .int .i64 z ∧ -9223372036854775808 ≤ z ∧ z ≤ 9223372036854775807 := by
  obtain ⟨n, rfl⟩ := okWide_int Try.underlying3 hv
  obtain ⟨fuel, hf⟩ := h
  obtain ⟨m, hm, _, hwf⟩ := DataW.trod_int Try.underlying3 hf
  simp [Value.cells] at hm
  subst hm
  simp only [Lit.wf, Bool.and_eq_true, decide_eq_true_eq] at hwf
  have h1 : IntKind.i64.min = -9223372036854775808 := rfl
  have h2 : IntKind.i64.max = 9223372036854775807 := rfl
  exact ⟨n, rfl, by omega, by omega⟩
end
end Go.Proofs.Ytlldmefjhgahdaa

/-
  A list of bytes that comes in.
-/
namespace Go.Proofs.Ytlldmefjhgahdaa
open Go.ChangeShapes Go.WideShapes Go.ChangeAt Go.RowKit Go.Joins Go.Deep
section
variable {H : Type} {enc : TypeId × Value → H} {w : World} {base : Nat} {spare : Nat → Bool} {held : Bool}

set_option maxRecDepth 20000 in
theorem byteCells1 : Try.prog.cellsOf 5 = 1 := by kernel_rfl

theorem byte_of_wf {z : Int} (h : (Lit.int .u8 z).wf = true) : ∃ b : UInt8, z = (b.toNat : Int) := by
  have h1 : 0 ≤ z ∧ z < 256 := by
    simp only [Lit.wf, Bool.and_eq_true, decide_eq_true_eq] at h
    have h1 : IntKind.u8.min = 0 := rfl
    have h2 : IntKind.u8.max = 255 := rfl
    omega
  refine ⟨UInt8.ofNat z.toNat, ?_⟩
  rw [ofNat_toNat]
  omega

set_option maxRecDepth 20000 in
/-- A slice of bytes that comes in. -/
theorem open_bytesz {v : Value} {d : DataW H} {p : List MemPlace} {r : Reach} {b0 : Nat} (hv : Value.okWide Try.prog w r b0 59 v) (h : DataW.Trod enc Try.prog w base spare held 59 v d p) :
    ∃ (A : Option Addr) (n c : Nat) (l : List UInt8), v = .slice A n c ∧ l.length = n ∧ Bys w w.heap.size A l ∧ n ≤ c ∧ c ≤ maxLen ∧ (A = none → n = 0 ∧ c = 0) := by
  obtain ⟨A, n, c, rfl⟩ := okWide_slice Try.underlying59 hv
  obtain ⟨fuel, hf⟩ := h
  rcases open_slice Try.underlying59 hf with ⟨hcs, _⟩ | ⟨a, len, cap, m, f, D, Pl, hcs, _, hl, hcm, hm, _, hi⟩
  · simp [Value.cells] at hcs
    obtain ⟨rfl, rfl, rfl⟩ := hcs
    exact ⟨none, 0, 0, [], rfl, rfl, Or.inl rfl, Nat.le_refl _, Nat.zero_le _, fun _ => ⟨rfl, rfl⟩⟩
  · simp [Value.cells] at hcs
    obtain ⟨rfl, rfl, rfl⟩ := hcs
    have hlm : n ≤ m := by rw [hm]; split <;> omega
    have each : ∀ i, i < n → ∃ z : UInt8, w.cell? (a.add i) = some (.int .u8 z.toNat) := by
      intro i hin
      obtain ⟨cs', hc, ht⟩ := hi i (by omega)
      rw [byteCells1] at hc
      obtain ⟨z, rfl, _, hwf⟩ := DataW.trod_int Try.underlying5 ht
      obtain ⟨b, rfl⟩ := byte_of_wf hwf
      obtain ⟨_, _, hat⟩ := World.cells?_some hc
      have := hat 0 (by omega)
      rw [Nat.mul_one] at this
      refine ⟨b, ?_⟩
      simpa [Addr.add] using this
    obtain ⟨zs, hlen, hx⟩ := pick_each (fun i (z : UInt8) => w.cell? (a.add i) = some (.int .u8 z.toNat)) (fun v => v) n each
    refine ⟨_, _, _, zs, rfl, hlen, ?_, hl, hcm, fun h => by cases h⟩
    by_cases hx0 : zs = []
    · exact Or.inl hx0
    · right
      obtain ⟨b, off, spot⟩ := a
      have hpos : 0 < zs.length := by
        rcases zs with _ | ⟨y, ys⟩
        · exact absurd rfl hx0
        · simp
      have h00 := hx 0 _ (List.getElem?_eq_getElem hpos)
      have hs : spot = none := by
        simpa [Addr.add] using World.cell?_spot h00
      subst hs
      refine ⟨b, off, rfl, ?_, fun i v hv => ?_⟩
      · rw [add_at] at h00
        exact World.block_lt_of_cell? _ _ h00
      · have h0 := hx i v hv
        rw [add_at] at h0
        exact h0

set_option maxRecDepth 20000 in
theorem open_bytes {v : Value} {d : DataW H} {p : List MemPlace} {r : Reach} {b0 : Nat} (hv : Value.okWide Try.prog w r b0 59 v) (h : DataW.Trod enc Try.prog w base spare held 59 v d p) :
    ∃ (A : Option Addr) (n c : Nat) (l : List UInt8), v = .slice A n c ∧ l.length = n ∧ Bys w w.heap.size A l ∧ n ≤ c ∧ c ≤ maxLen := by
  obtain ⟨A, n, c, l, h1, h2, h3, h4, h5, _⟩ := open_bytesz hv h
  exact ⟨A, n, c, l, h1, h2, h3, h4, h5⟩

set_option maxRecDepth 20000 in
/-- A byte that comes in. -/
theorem open_u8 {v : Value} {d : DataW H} {p : List MemPlace} {r : Reach} {b0 : Nat} (hv : Value.okWide Try.prog w r b0 5 v) (h : DataW.Trod enc Try.prog w base spare held 5 v d p) :
    ∃ z : UInt8, v = .int .u8 z.toNat := by
  obtain ⟨n, rfl⟩ := okWide_int Try.underlying5 hv
  obtain ⟨fuel, hf⟩ := h
  obtain ⟨m, hm, _, hwf⟩ := DataW.trod_int Try.underlying5 hf
  simp [Value.cells] at hm
  subst hm
  obtain ⟨b, rfl⟩ := byte_of_wf hwf
  exact ⟨b, rfl⟩
end
end Go.Proofs.Ytlldmefjhgahdaa

/-
  What it is that nothing but some blocks has changed.
-/
namespace Go.Proofs.Ytlldmefjhgahdaa
open Go.RowKit

/-- Nothing but the blocks of F, and new ones, has changed. -/
structure Kept (F : Nat → Prop) (w w' : World) : Prop where
  os : w'.os = w.os
  tape : w'.tape = w.tape
  output : w'.output = w.output
  size : w.heap.size ≤ w'.heap.size
  block : ∀ k, k < w.heap.size → ¬ F k → w'.heap[k]? = w.heap[k]?

section
variable {F F' : Nat → Prop} {w w' w2 : World}

theorem Kept.refl (F : Nat → Prop) (w : World) : Kept F w w := ⟨rfl, rfl, rfl, Nat.le_refl _, fun _ _ _ => rfl⟩
theorem Kept.trans (h : Kept F w w') (k : Kept F' w' w2) (hF : ∀ k, F' k → F k ∨ w.heap.size ≤ k) : Kept F w w2 :=
  ⟨k.os.trans h.os, k.tape.trans h.tape, k.output.trans h.output, Nat.le_trans h.size k.size, fun i hi hn =>
    (k.block i (Nat.lt_of_lt_of_le hi h.size) (fun e => by rcases hF i e with e | e; exact hn e; omega)).trans (h.block i hi hn)⟩
theorem Kept.next (h : Kept F w w') (k : Kept F w' w2) : Kept F w w2 := h.trans k (fun _ e => Or.inl e)
theorem Kept.below (h : Below w.heap.size w w') (F : Nat → Prop) : Kept F w w' := ⟨h.os, h.tape, h.output, h.size, fun k hk _ => h.block k hk⟩
theorem Kept.grown {b : Nat} (h : w.grownBy w' (some b)) (hb : F b) : Kept F w w' :=
  ⟨h.os, h.tape, h.output, h.size, fun k hk hn => h.block k hk (fun e => hn (by injection e with e; rw [e]; exact hb))⟩
theorem Kept.setCell (w : World) {a : Addr} (ha : F a.block) (v : Value) : Kept F w (w.setCell a v) :=
  ⟨rfl, rfl, rfl, by simp [World.setCell], fun k _ hn => Below.heap_setCell _ _ _ _ (fun e => hn (by rw [e]; exact ha))⟩
theorem Kept.toBelow {B : Nat} (h : Kept F w w') (hF : ∀ k, F k → B ≤ k) (hB : B ≤ w.heap.size) : Below B w w' :=
  ⟨h.os, h.tape, h.output, h.size, fun k hk => h.block k (by omega) (fun e => by have := hF k e; omega)⟩
theorem Kept.more (h : Kept F w w') (hF : ∀ k, F k → F' k) : Kept F' w w' :=
  ⟨h.os, h.tape, h.output, h.size, fun k hk hn => h.block k hk (fun e => hn (hF k e))⟩
end
end Go.Proofs.Ytlldmefjhgahdaa

/-
  Numbers in memory, outside of a disk.
-/
namespace Go.Proofs.Ytlldmefjhgahdaa
open Go.RowKit

/-- Numbers that lie outside of F. -/
def OutN (w : World) (F : Nat → Prop) (A : Option Addr) (l : List Int) : Prop :=
  l = [] ∨ ∃ b off, A = some ⟨b, off, none⟩ ∧ ¬ F b ∧ ∀ i z, l[i]? = some z → w.cell? ⟨b, off + i, none⟩ = some (.int .i64 z) ∧ -9223372036854775808 ≤ z ∧ z ≤ 9223372036854775807

section
variable {w w' : World} {F F' : Nat → Prop} {A : Option Addr} {l : List Int}

theorem OutN.kept (h : OutN w F A l) (hk : Kept F w w') : OutN w' F A l := by
  rcases h with h | ⟨b, off, e, hF, hc⟩
  · exact Or.inl h
  · refine Or.inr ⟨b, off, e, hF, fun i z hz => ?_⟩
    obtain ⟨h0, h1⟩ := hc i z hz
    have hb := World.block_lt_of_cell? _ _ h0
    exact ⟨(World.cell?_of_block (w := w) (hk.block b hb hF)).trans h0, h1⟩

theorem OutN.fewer (h : OutN w F A l) (hF : ∀ k, F' k → F k ∨ w.heap.size ≤ k) : OutN w F' A l := by
  rcases l with _ | ⟨y, l⟩
  · exact Or.inl rfl
  · rcases h with h | ⟨b, off, e, hb, hc⟩
    · cases h
    · refine Or.inr ⟨b, off, e, fun h' => ?_, hc⟩
      rcases hF b h' with h' | h'
      · exact hb h'
      · have : b < w.heap.size := World.block_lt_of_cell? _ _ (hc 0 y rfl).1
        omega

theorem OutN.at_ (h : OutN w F A l) {k : Nat} (hk : k < l.length) :
    ∃ b off z, A = some ⟨b, off, none⟩ ∧ l[k]? = some z ∧ w.cell? ⟨b, off + k, none⟩ = some (.int .i64 z) ∧ -9223372036854775808 ≤ z ∧ z ≤ 9223372036854775807 := by
  rcases h with rfl | ⟨b, off, rfl, hb, hc⟩
  · exact absurd hk (by simp)
  · obtain ⟨h1, h2⟩ := hc k _ (List.getElem?_eq_getElem hk)
    exact ⟨b, off, l[k], rfl, List.getElem?_eq_getElem hk, h1, h2⟩
end
end Go.Proofs.Ytlldmefjhgahdaa

/-
  Numbers, and bytes, that come in, as a part of something.
-/
namespace Go.Proofs.Ytlldmefjhgahdaa
open Go.ChangeShapes Go.WideShapes Go.ChangeAt Go.RowKit Go.Joins Go.Deep

def In64 (z : Int) : Prop := -9223372036854775808 ≤ z ∧ z ≤ 9223372036854775807

/-- Numbers below R. -/
def Nums (w : World) (R : Nat) (A : Option Addr) (l : List Int) : Prop :=
  l = [] ∨ ∃ b off, A = some ⟨b, off, none⟩ ∧ b < R ∧ ∀ i z, l[i]? = some z → w.cell? ⟨b, off + i, none⟩ = some (.int .i64 z) ∧ -9223372036854775808 ≤ z ∧ z ≤ 9223372036854775807

section
variable {w w' : World} {R : Nat} {A : Option Addr}

theorem Nums.below {l : List Int} (h : Nums w R A l) (hb : Below R w w') : Nums w' R A l := by
  rcases h with rfl | ⟨b, off, rfl, hR, hc⟩
  · exact Or.inl rfl
  · exact Or.inr ⟨b, off, rfl, hR, fun i z hz => ⟨(hb.cell (p := ⟨b, _, none⟩) hR).trans (hc i z hz).1, (hc i z hz).2⟩⟩

theorem Nums.outN {l : List Int} {F : Nat → Prop} (h : Nums w R A l) (hF : ∀ k, F k → R ≤ k) : OutN w F A l := by
  rcases h with h | ⟨b, off, e, hR, hc⟩
  · exact Or.inl h
  · exact Or.inr ⟨b, off, e, fun hb => by have := hF b hb; omega, hc⟩

end

section
variable {H : Type} {enc : TypeId × Value → H} {w : World} {base : Nat} {spare : Nat → Bool} {held : Bool}

theorem in64_of {z : Int} (h : (Lit.int .i64 z).wf = true) : In64 z := by
  simp only [Lit.wf, Bool.and_eq_true, decide_eq_true_eq] at h
  have h1 : IntKind.i64.min = -9223372036854775808 := rfl
  have h2 : IntKind.i64.max = 9223372036854775807 := rfl
  exact ⟨by omega, by omega⟩

set_option maxRecDepth 20000 in
theorem numCells1 : Try.prog.cellsOf 3 = 1 := by kernel_rfl
set_option maxRecDepth 20000 in
theorem bytesCells1 : Try.prog.cellsOf 59 = 1 := by kernel_rfl
set_option maxRecDepth 20000 in
theorem numsCells1 : Try.prog.cellsOf 23 = 1 := by kernel_rfl
set_option maxRecDepth 20000 in
theorem bytes_of {fuel : Nat} {v : Value} {x : DataW H × List MemPlace} (hf : DataW.trod enc Try.prog w base spare held fuel 59 [v] = some x) :
    ∃ (A : Option Addr) (n c : Nat) (l : List UInt8), v = .slice A n c ∧ l.length = n ∧ Bys w w.heap.size A l ∧ n ≤ c ∧ c ≤ maxLen ∧ (A = none → n = 0 ∧ c = 0) := by
  rcases open_slice Try.underlying59 hf with ⟨hcs, _⟩ | ⟨a, n, c, m, f, D, Pl, hcs, _, hl, hcm, hm, _, hi⟩
  · simp at hcs
    subst hcs
    exact ⟨none, 0, 0, [], rfl, rfl, Or.inl rfl, Nat.le_refl _, Nat.zero_le _, fun _ => ⟨rfl, rfl⟩⟩
  · simp at hcs
    subst hcs
    have hlm : n ≤ m := by rw [hm]; split <;> omega
    have each : ∀ i, i < n → ∃ z : UInt8, w.cell? (a.add i) = some (.int .u8 z.toNat) := by
      intro i hin
      obtain ⟨cs', hc, ht⟩ := hi i (by omega)
      rw [byteCells1] at hc
      obtain ⟨z, rfl, _, hwf⟩ := DataW.trod_int Try.underlying5 ht
      obtain ⟨b, rfl⟩ := byte_of_wf hwf
      obtain ⟨_, _, hat⟩ := World.cells?_some hc
      have := hat 0 (by omega)
      rw [Nat.mul_one] at this
      refine ⟨b, ?_⟩
      simpa [Addr.add] using this
    obtain ⟨zs, hlen, hx⟩ := pick_each (fun i (z : UInt8) => w.cell? (a.add i) = some (.int .u8 z.toNat)) (fun v => v) n each
    refine ⟨_, _, _, zs, rfl, hlen, ?_, hl, hcm, fun h => by cases h⟩
    by_cases hx0 : zs = []
    · exact Or.inl hx0
    · right
      obtain ⟨b, off, spot⟩ := a
      have hpos : 0 < zs.length := by
        rcases zs with _ | ⟨y, ys⟩
        · exact absurd rfl hx0
        · simp
      have h00 := hx 0 _ (List.getElem?_eq_getElem hpos)
      have hs : spot = none := by
        simpa [Addr.add] using World.cell?_spot h00
      subst hs
      refine ⟨b, off, rfl, ?_, fun i v hv => ?_⟩
      · rw [add_at] at h00
        exact World.block_lt_of_cell? _ _ h00
      · have h0 := hx i v hv
        rw [add_at] at h0
        exact h0

set_option maxRecDepth 20000 in
theorem nums_of {fuel : Nat} {v : Value} {x : DataW H × List MemPlace} (hf : DataW.trod enc Try.prog w base spare held fuel 23 [v] = some x) :
    ∃ (A : Option Addr) (n c : Nat) (l : List Int), v = .slice A n c ∧ l.length = n ∧ Nums w w.heap.size A l ∧ n ≤ c ∧ c ≤ maxLen := by
  rcases open_slice Try.underlying23 hf with ⟨hcs, _⟩ | ⟨a, n, c, m, f, D, Pl, hcs, _, hl, hcm, hm, _, hi⟩
  · simp at hcs
    subst hcs
    exact ⟨none, 0, 0, [], rfl, rfl, Or.inl rfl, Nat.le_refl _, Nat.zero_le _⟩
  · simp at hcs
    subst hcs
    have hlm : n ≤ m := by rw [hm]; split <;> omega
    have each : ∀ i, i < n → ∃ z : Int, w.cell? (a.add i) = some (.int .i64 z) ∧ In64 z := by
      intro i hin
      obtain ⟨cs', hc, ht⟩ := hi i (by omega)
      rw [numCells1] at hc
      obtain ⟨z, rfl, _, hwf⟩ := DataW.trod_int Try.underlying3 ht
      obtain ⟨_, _, hat⟩ := World.cells?_some hc
      have := hat 0 (by omega)
      rw [Nat.mul_one] at this
      refine ⟨z, ?_, in64_of hwf⟩
      simpa [Addr.add] using this
    obtain ⟨zs, hlen, hx⟩ := pick_each (fun i (z : Int) => w.cell? (a.add i) = some (.int .i64 z) ∧ In64 z) (fun v => v) n each
    refine ⟨_, _, _, zs, rfl, hlen, ?_, hl, hcm⟩
    by_cases hx0 : zs = []
    · exact Or.inl hx0
    · right
      obtain ⟨b, off, spot⟩ := a
      have hpos : 0 < zs.length := by
        rcases zs with _ | ⟨y, ys⟩
        · exact absurd rfl hx0
        · simp
      have h00 := (hx 0 _ (List.getElem?_eq_getElem hpos)).1
      have hs : spot = none := by
        simpa [Addr.add] using World.cell?_spot h00
      subst hs
      refine ⟨b, off, rfl, ?_, fun i v hv => ?_⟩
      · rw [add_at] at h00
        exact World.block_lt_of_cell? _ _ h00
      · have h0 := hx i v hv
        rw [add_at] at h0
        exact h0

set_option maxRecDepth 20000 in
/-- Numbers that come in. -/
theorem open_numsR {v : Value} {d : DataW H} {p : List MemPlace} {r : Reach} {b0 : Nat} (hv : Value.okWide Try.prog w r b0 23 v) (h : DataW.Trod enc Try.prog w base spare held 23 v d p) :
    ∃ (A : Option Addr) (n c : Nat) (l : List Int), v = .slice A n c ∧ l.length = n ∧ Nums w w.heap.size A l ∧ n ≤ maxLen := by
  obtain ⟨A, n, c, rfl⟩ := okWide_slice Try.underlying23 hv
  obtain ⟨fuel, hf⟩ := h
  obtain ⟨A', n', c', l, e, h1, h2, h3, h4⟩ := nums_of (v := .slice A n c) hf
  injection e with e1 e2 e3
  subst e1
  subst e2
  exact ⟨A, n, c, l, rfl, h1, h2, Nat.le_trans h3 h4⟩
end
end Go.Proofs.Ytlldmefjhgahdaa

/-
  Pages' lists that come in.
-/
namespace Go.Proofs.Ytlldmefjhgahdaa
open Go.ChangeShapes Go.WideShapes Go.ChangeAt Go.RowKit Go.Joins Go.Deep

section
variable {H : Type} {enc : TypeId × Value → H} {w : World} {base : Nat} {spare : Nat → Bool} {held : Bool}

set_option maxRecDepth 20000 in
theorem frdCells2 : Try.prog.cellsOf 49 = 2 := by kernel_rfl
set_option maxRecDepth 20000 in
theorem frdsCells1 : Try.prog.cellsOf 24 = 1 := by kernel_rfl
set_option maxRecDepth 20000 in
theorem spcCells3 : Try.prog.cellsOf 26 = 3 := by kernel_rfl

/-- Cells, one behind the other, of elements of sz each. -/
theorem lies_flat {w : World} {a : Addr} {α : Type} {f : α → List Value} {sz : Nat} (hsz : ∀ x, (f x).length = sz) : ∀ (xs : List α) (k0 : Nat), (∀ i x, xs[i]? = some x → ∀ j, j < sz → w.cell? (a.add ((k0 + i) * sz + j)) = (f x)[j]?) →
    ∀ j u, (xs.flatMap f)[j]? = some u → w.cell? (a.add (k0 * sz + j)) = some u
  | [], _, _, j, u, h => by simp at h
  | x :: xs, k0, hx, j, u, h => by
    rw [List.flatMap_cons] at h
    by_cases hj : j < sz
    · have h0 := hx 0 x rfl j hj
      rw [Nat.add_zero] at h0
      rw [h0]
      rw [List.getElem?_append_left (by rw [hsz]; exact hj)] at h
      exact h
    · rw [List.getElem?_append_right (by rw [hsz]; omega), hsz] at h
      have := lies_flat hsz xs (k0 + 1) (fun i y hy j' hj' => by
        have := hx (i + 1) y (by simpa using hy) j' hj'
        rw [show k0 + (i + 1) = k0 + 1 + i by omega] at this
        exact this) (j - sz) u h
      rw [show (k0 + 1) * sz + (j - sz) = k0 * sz + j by rw [Nat.add_mul]; omega] at this
      exact this

set_option maxRecDepth 20000 in
theorem sNums_of {fuel : Nat} {v : Value} {x : DataW H × List MemPlace} (hf : DataW.trod enc Try.prog w base spare held fuel 23 [v] = some x) :
    ∃ (A : Option Addr) (n c : Nat) (l : List Int), v = .slice A n c ∧ Ln w 1 A n c (intVals l) ∧ c ≤ maxLen ∧ ∀ z ∈ l, In64 z := by
  rcases open_slice Try.underlying23 hf with ⟨hcs, _⟩ | ⟨a, n, c, m, f, D, Pl, hcs, _, hl, hcm, hm, _, hi⟩
  · simp at hcs
    subst hcs
    exact ⟨none, 0, 0, [], rfl, Ln.none_ w 1, Nat.zero_le _, by simp⟩
  · simp at hcs
    subst hcs
    have hlm : n ≤ m := by rw [hm]; split <;> omega
    have each : ∀ i, i < n → ∃ z : Int, w.cell? (a.add i) = some (.int .i64 z) ∧ In64 z := by
      intro i hin
      obtain ⟨cs', hc, ht⟩ := hi i (by omega)
      rw [numCells1] at hc
      obtain ⟨z, rfl, _, hwf⟩ := DataW.trod_int Try.underlying3 ht
      obtain ⟨_, _, hat⟩ := World.cells?_some hc
      have := hat 0 (by omega)
      rw [Nat.mul_one] at this
      refine ⟨z, ?_, in64_of hwf⟩
      simpa [Addr.add] using this
    obtain ⟨zs, hlen, hx⟩ := pick_each (fun i (z : Int) => w.cell? (a.add i) = some (.int .i64 z) ∧ In64 z) (fun v => v) n each
    refine ⟨_, _, _, zs, rfl, ⟨by rw [intVals_length, hlen, Nat.mul_one], hl, fun e => (by cases e), fun ad e j u hu => ?_⟩, hcm, fun z hz => ?_⟩
    · obtain rfl := Option.some.inj e
      rw [intVals, List.getElem?_map] at hu
      obtain ⟨z, hz, rfl⟩ := Option.map_eq_some_iff.1 hu
      exact (hx j z hz).1
    · obtain ⟨i, hi, rfl⟩ := List.mem_iff_getElem.1 hz
      exact (hx i _ (List.getElem?_eq_getElem hi)).2

theorem prVals_flat : ∀ ps : List (Int × Int), prVals ps = ps.flatMap (fun p => [.int .i64 p.1, .int .i64 p.2])
  | [] => rfl
  | p :: ps => by
    rw [List.flatMap_cons, ← prVals_flat ps]
    rfl

set_option maxRecDepth 20000 in
theorem freed_of {fuel : Nat} {cs : List Value} {x : DataW H × List MemPlace} (h : DataW.trod enc Try.prog w base spare held fuel 49 cs = some x) :
    ∃ p : Int × Int, cs = [.int .i64 p.1, .int .i64 p.2] ∧ In64 p.1 ∧ In64 p.2 := by
  obtain ⟨ys, n, _, _, hlen, hys, hf⟩ := DataW.trod_struct Try.underlying49 h
  obtain ⟨a, b, rfl⟩ : ∃ a b, cs = [a, b] := by
    match cs, hlen.trans frdCells2 with
    | [a, b], _ => exact ⟨a, b, rfl⟩
  obtain ⟨y0, y1, rfl⟩ : ∃ a b, ys = [a, b] := by
    match ys, hys with
    | [a, b], _ => exact ⟨a, b, rfl⟩
  have h0 : DataW.trod enc Try.prog w base spare held n 3 ([a, b].take (Try.prog.cellsOf 3)) = some y0 := hf 0 _ rfl
  have h1 : DataW.trod enc Try.prog w base spare held n 3 ([b].take (Try.prog.cellsOf 3)) = some y1 := hf 1 _ rfl
  rw [numCells1] at h0 h1
  obtain ⟨z0, e0, _, w0⟩ := DataW.trod_int Try.underlying3 h0
  obtain ⟨z1, e1, _, w1⟩ := DataW.trod_int Try.underlying3 h1
  simp only [List.take_succ_cons, List.take_zero, List.cons.injEq, and_true] at e0 e1
  exact ⟨(z0, z1), by rw [e0, e1], in64_of w0, in64_of w1⟩

set_option maxRecDepth 20000 in
theorem freeds_of {fuel : Nat} {v : Value} {x : DataW H × List MemPlace} (hf : DataW.trod enc Try.prog w base spare held fuel 24 [v] = some x) :
    ∃ (A : Option Addr) (n c : Nat) (l : List (Int × Int)), v = .slice A n c ∧ Ln w 2 A n c (prVals l) ∧ c ≤ maxLen := by
  rcases open_slice Try.underlying24 hf with ⟨hcs, _⟩ | ⟨a, n, c, m, f, D, Pl, hcs, _, hl, hcm, hm, _, hi⟩
  · simp at hcs
    subst hcs
    exact ⟨none, 0, 0, [], rfl, Ln.none_ w 2, Nat.zero_le _⟩
  · simp at hcs
    subst hcs
    have hlm : n ≤ m := by rw [hm]; split <;> omega
    have each : ∀ i, i < n → ∃ p : Int × Int, ∀ j, j < 2 → w.cell? (a.add (i * 2 + j)) = [Value.int .i64 p.1, .int .i64 p.2][j]? := by
      intro i hin
      obtain ⟨cs', hc, ht⟩ := hi i (by omega)
      rw [frdCells2] at hc
      obtain ⟨p, rfl, _, _⟩ := freed_of ht
      obtain ⟨_, _, hat⟩ := World.cells?_some hc
      refine ⟨p, fun j hj => ?_⟩
      have := hat j hj
      rw [Addr.add_add] at this
      exact this
    obtain ⟨zs, hlen, hx⟩ := pick_each (fun i (p : Int × Int) => ∀ j, j < 2 → w.cell? (a.add (i * 2 + j)) = [Value.int .i64 p.1, .int .i64 p.2][j]?) (fun v => v) n each
    refine ⟨_, _, _, zs, rfl, ⟨by rw [prVals_length, hlen], hl, fun e => (by cases e), fun ad e j u hu => ?_⟩, hcm⟩
    obtain rfl := Option.some.inj e
    rw [prVals_flat] at hu
    have := lies_flat (w := w) (a := a) (sz := 2) (fun _ => rfl) zs 0 (fun i p hp j hj => by rw [Nat.zero_add]; exact hx i p hp j hj) j u hu
    rw [Nat.zero_mul, Nat.zero_add] at this
    exact this

set_option maxRecDepth 20000 in
/-- Pages' lists that come in. -/
theorem open_space {v : Value} {d : DataW H} {p : List MemPlace} {r : Reach} {b0 : Nat} (hv : Value.okWide Try.prog w r b0 26 v) (h : DataW.Trod enc Try.prog w base spare held 26 v d p) :
    ∃ (s : SS) (A : Option Addr) (n c : Nat) (B : Option Addr) (m e : Nat), v = .agg #[.int .i64 s.hi, .slice A n c, .slice B m e] ∧ Sp w A n c B m e s ∧ In64 s.hi := by
  obtain ⟨v0, v1, v2, y0, y1, y2, f, rfl, _, _, h0, h1, h2⟩ := open_agg3 Try.underlying26 (by kernel_rfl) spcCells3 hv h
  obtain ⟨z0, e0, _, w0⟩ := DataW.trod_int Try.underlying3 h0
  obtain ⟨A, n, c, fr, rfl, l1, _, _⟩ := sNums_of h1
  obtain ⟨B, m, e, pe, rfl, l2, _⟩ := freeds_of h2
  simp only [List.cons.injEq, and_true] at e0
  exact ⟨⟨z0, fr, pe⟩, A, n, c, B, m, e, by rw [e0], ⟨l1, l2⟩, in64_of w0⟩
end
end Go.Proofs.Ytlldmefjhgahdaa

/-
  What the document's own may and Known come to.
-/
namespace Go.Proofs.Ytlldmefjhgahdaa
open Go.RowKit

set_option maxRecDepth 20000 in
set_option maxHeartbeats 400000 in
theorem refMay_any (s : SS) (h p : Int) (A B : Option Addr) (n c m d : Nat) (w : World) (hh : s.hi = h) :
    Calls Try.prog 35 #[.agg #[.int .i64 h, .slice A n c, .slice B m d], .int .i64 p] w fun e w' => e = .returned (.bool (s.may p)) ∧ Below w.heap.size w w' := by
  by_cases h1 : 2 ≤ p
  · by_cases h2 : p < h
    · have HD : Hid (s.may p = true) := Lib.hid (decide_eq_true ⟨h1, by rw [hh]; exact h2⟩)
      clear hh
      go_enter Try.func35, Try.ntmps35
      go_wp2_with fail
      go_ret
      exact ⟨ret_bool HD.out.symm, below_one _ _⟩
    · have HD : Hid (s.may p = false) := Lib.hid (decide_eq_false (fun e => h2 (by rw [← hh]; exact e.2)))
      clear hh
      go_enter Try.func35, Try.ntmps35
      go_wp2_with fail
      go_ret
      exact ⟨ret_bool HD.out.symm, below_one _ _⟩
  · have HD : Hid (s.may p = false) := Lib.hid (decide_eq_false (fun e => h1 e.1))
    clear hh
    go_enter Try.func35, Try.ntmps35
    go_wp2_with fail
    go_ret
    exact ⟨ret_bool HD.out.symm, below_one _ _⟩

/-- It is in none of them so far. -/
def NoF (s : SS) (k : Nat) (p : Int) : Prop := p ∉ s.fr.take k
def NoP (s : SS) (k : Nat) (p : Int) : Prop := p ∉ (s.pe.take k).map (·.2)
theorem NoF.more {s : SS} {k : Nat} {p x : Int} (h : NoF s k p) (hv : s.fr[k]? = some x) (hx : ¬ x = p) : NoF s (k + 1) p := by
  unfold NoF
  rw [List.take_add_one, hv, Option.toList_some, List.mem_append]
  rintro (h1 | h1)
  · exact h h1
  · have e : p = x := by simpa using h1
    exact hx e.symm
theorem NoP.more {s : SS} {k : Nat} {p x y : Int} (h : NoP s k p) (hv : s.pe[k]? = some (x, y)) (hx : ¬ y = p) : NoP s (k + 1) p := by
  unfold NoP
  rw [List.take_add_one, hv, Option.toList_some, List.map_append, List.mem_append]
  rintro (h1 | h1)
  · exact h h1
  · have e : p = y := by simpa using h1
    exact hx e.symm
theorem known_none {s : SS} {p : Int} {n m : Nat} (h1 : NoF s n p) (h2 : NoP s m p) (hn : s.fr.length ≤ n) (hm : s.pe.length ≤ m) : s.known p = false := by
  unfold NoF at h1
  unfold NoP at h2
  rw [List.take_of_length_le hn] at h1
  rw [List.take_of_length_le hm] at h2
  unfold SS.known
  rw [decide_eq_false h1, decide_eq_false h2]
  rfl

set_option maxRecDepth 20000 in
set_option maxHeartbeats 1600000 in
theorem refKnown_any (s : SS) (h p : Int) (A B : Option Addr) (n c m d : Nat) (w : World) (hs : Sp w A n c B m d s) (hn : n ≤ 400000) (hm : m ≤ 400000) :
    Calls Try.prog 29 #[.agg #[.int .i64 h, .slice A n c, .slice B m d], .int .i64 p] w fun e w' => e = .returned (.bool (s.known p)) ∧ Below w.heap.size w w' := by
  have HS := Lib.hid (hs.kept (below_one w (.cells #[.int .i64 h, .slice A n c, .slice B m d] 26)))
  have HB := Lib.hid (box_new w (.int .i64 h) (.slice A n c) (.slice B m d))
  have B0 := Lib.hid (below_one w (.cells #[.int .i64 h, .slice A n c, .slice B m d] 26))
  have HFL := Lib.hid hs.fl
  have HPL := Lib.hid hs.pl
  clear hs
  go_enter Try.func29, Try.ntmps29
  go_wp2_with fail
  generalize w.alloc (.cells #[.int .i64 h, .slice A n c, .slice B m d] 26) = w0 at *
  obtain ⟨a0, a1, a2⟩ := HB.out.cells
  go_loopw [5] (fun i wk => ∃ k : Nat, k ≤ n ∧ i = .int .i64 k ∧ Hid (NoF s k p) ∧ wk = w0) (fun i _ => n - (intOf i).toNat)
  case atStart => exact ⟨0, Nat.zero_le _, rfl, Lib.hid (by simp [NoF]), rfl⟩
  case round =>
    obtain ⟨k, hk, rfl, HL, hw⟩ := hrel
    have hw' := hw.symm
    subst hw'
    clear hw
    by_cases hlt : k < n
    · obtain ⟨b, off, x, rfl, hv, c0⟩ := HS.out.fr.intAt hlt
      by_cases hx : x = p
      · have HM : Hid (s.known p = true) := Lib.hid ((SS.known_iff s p).2 (Or.inl (by rw [← hx]; exact List.mem_of_getElem? hv)))
        subst hx
        clear hv HL
        go_wp2_with fail
        go_ret
        exact ⟨ret_bool HM.out.symm, B0.out⟩
      · have HM := Lib.hid (HL.out.more hv hx)
        have hb : (x == p) = false := by simpa using hx
        clear hv HL hx
        go_wp2_with fail
        go_roundw
        case rel => exact ⟨k + 1, by omega, by go_num, HM, trivial⟩
        case measure => simp [intOf]; omega
    · obtain rfl : n = k := by omega
      go_wp2_with fail
      go_loopw [6] (fun i wk => ∃ k : Nat, k ≤ m ∧ i = .int .i64 k ∧ Hid (NoP s k p) ∧ wk = w0) (fun i _ => m - (intOf i).toNat)
      case atStart => exact ⟨0, Nat.zero_le _, rfl, Lib.hid (by simp [NoP]), rfl⟩
      case round =>
        obtain ⟨k, hk, rfl, HL2, hw⟩ := hrel
        have hw' := hw.symm
        subst hw'
        clear hw
        by_cases hlt : k < m
        · obtain ⟨b, off, x, y, rfl, hv, c0, c1⟩ := HS.out.pe.prAt hlt
          by_cases hx : y = p
          · have HM : Hid (s.known p = true) := Lib.hid ((SS.known_iff s p).2 (Or.inr (List.mem_map.2 ⟨_, List.mem_of_getElem? hv, hx⟩)))
            subst hx
            clear hv HL2
            go_wp2_with fail
            go_ret
            exact ⟨ret_bool HM.out.symm, B0.out⟩
          · have HM := Lib.hid (HL2.out.more hv hx)
            have hb : (y == p) = false := by simpa using hx
            clear hv HL2 hx
            go_wp2_with fail
            go_roundw
            case rel => exact ⟨k + 1, by omega, by go_num, HM, trivial⟩
            case measure => simp [intOf]; omega
        · obtain rfl : m = k := by omega
          have HM := Lib.hid (known_none HL.out HL2.out (by rw [HFL.out]; exact Nat.le_refl _) (by rw [HPL.out]; exact Nat.le_refl _))
          go_wp2_with fail
          go_ret
          exact ⟨ret_bool HM.out.symm, B0.out⟩
end Go.Proofs.Ytlldmefjhgahdaa

/-
  How three of the statements begin: the calls at the head, few, Check; and what pages' lists are once a page was given.
-/
namespace Go.Proofs.Ytlldmefjhgahdaa
open Go.RowKit

theorem few_le {n m : Nat} (h : fewB n m = true) : n ≤ 300 ∧ m ≤ 300 := of_decide_eq_true h

theorem rec_len (s : SS) (e : Int) (b : Nat) : (s.reclaim e b).1.fr.length ≤ s.fr.length + s.pe.length ∧ (s.reclaim e b).1.pe.length ≤ s.pe.length := by
  refine ⟨?_, ?_⟩
  · show (SS.insAll (s.pe.take (SS.count e b s.pe)) s.fr).length ≤ _
    rw [SS.insAll_length, List.length_take]
    omega
  · show (s.pe.drop (SS.count e b s.pe)).length ≤ _
    rw [List.length_drop]
    omega

/-- Lists that were answered, in a variable's block. -/
theorem boxed {w w' : World} {A B : Option Addr} {n c m d : Nat} {s : SS} (b : Below w.heap.size w w') (hs : Sp w' A n c B m d s) (g : Int) :
    Below w.heap.size w (w'.alloc (.cells #[.int .i64 g, .slice A n c, .slice B m d] 26)) ∧ Box (w'.alloc (.cells #[.int .i64 g, .slice A n c, .slice B m d] 26)) w'.heap.size (.int .i64 g) (.slice A n c) (.slice B m d) ∧ Sp (w'.alloc (.cells #[.int .i64 g, .slice A n c, .slice B m d] 26)) A n c B m d s :=
  ⟨b.alloc b.size _, box_new w' _ _ _, hs.kept (below_one w' _)⟩

/-- The lists once a page was given. -/
def gave (s : SS) (e p : Int) : SS := { s with pe := s.pe ++ [(e, p)] }
theorem giveBad_out {s : SS} {e p : Int} (h : s.giveBad e p = false) : s.known p = false ∧ 0 ≤ e := by
  unfold SS.giveBad at h
  simp only [Bool.or_eq_false_iff, decide_eq_false_iff_not] at h
  exact ⟨h.1.1.2, by omega⟩
theorem gave_le {s : SS} {e p t : Int} (hf : SS.Fine s t) (h : s.giveBad e p = false) : ∀ x ∈ (gave s e p).pe, x.1 ≤ e := by
  intro x hx
  have hu := (hf.give h).ups
  rcases List.mem_append.1 hx with h1 | h1
  · exact (List.pairwise_append.1 hu).2.2 x h1 (e, p) (by simp)
  · obtain rfl : x = (e, p) := by simpa using h1
    exact Int.le_refl _
theorem early_not {s : SS} {e p : Int} (h : s.known p = false) (b : Nat) : SS.known ⟨0, ((gave s e p).reclaim (e - 1) b).1.fr, []⟩ p = false := by
  obtain ⟨k1, k2⟩ := SS.known_no h
  cases hk : SS.known ⟨0, ((gave s e p).reclaim (e - 1) b).1.fr, []⟩ p with
  | false => rfl
  | true =>
    rcases (SS.known_iff _ p).1 hk with h1 | h1
    · rcases (SS.insAll_mem p _ _).1 (show p ∈ SS.insAll ((gave s e p).pe.take (SS.count (e - 1) b (gave s e p).pe)) (gave s e p).fr from h1) with h2 | h2
      · exact absurd h2 k1
      · obtain ⟨x, hx, hxp⟩ := List.mem_map.1 h2
        have hle := SS.count_took x hx
        have hm : x ∈ s.pe ++ [(e, p)] := List.mem_of_mem_take hx
        rcases List.mem_append.1 hm with h3 | h3
        · exact absurd (List.mem_map.2 ⟨x, h3, hxp⟩) k2
        · obtain rfl : x = (e, p) := by simpa using h3
          have : e ≤ e - 1 := hle
          omega
    · cases h1
theorem late_count {s : SS} {e p t : Int} (hf : SS.Fine s t) (h : s.giveBad e p = false) {b : Nat} (hb : s.pe.length + 1 ≤ b) : SS.count e b (gave s e p).pe = (gave s e p).pe.length :=
  SS.count_all (by show (s.pe ++ [(e, p)]).length ≤ b; simpa using hb) (gave_le hf h)
theorem late_in {s : SS} {e p t : Int} (hf : SS.Fine s t) (h : s.giveBad e p = false) {b : Nat} (hb : s.pe.length + 1 ≤ b) : SS.known ⟨0, ((gave s e p).reclaim e b).1.fr, []⟩ p = true := by
  refine (SS.known_iff _ p).2 (Or.inl ?_)
  show p ∈ SS.insAll ((gave s e p).pe.take (SS.count e b (gave s e p).pe)) (gave s e p).fr
  rw [late_count hf h hb, List.take_length]
  exact (SS.insAll_mem p _ _).2 (Or.inr (List.mem_map.2 ⟨(e, p), by simp [gave], rfl⟩))
theorem late_nil {s : SS} {e p t : Int} (hf : SS.Fine s t) (h : s.giveBad e p = false) {b : Nat} (hb : s.pe.length + 1 ≤ b) : ((gave s e p).reclaim e b).1.pe = [] := by
  show (gave s e p).pe.drop (SS.count e b (gave s e p).pe) = []
  rw [late_count hf h hb, List.drop_length]
end Go.Proofs.Ytlldmefjhgahdaa
