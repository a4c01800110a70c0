/-
  What told comes to.
-/
import Derived.Test.YtlldmefjhgahdaaSPut
import Derived.Test.YtlldmefjhgahdaaSEnc
import Derived.Test.YtlldmefjhgahdaaSJoinI
import Derived.Deep.RegionHeld3
import Derived.Deep.RegionLaw
import Derived.Deep.AppendLies
import Derived.Deep.LoopGhost
import Derived.Deep.CutBlock
import Derived.Deep.DeepCutAuto
import Derived.IntWalk
namespace Go.Proofs.Ytlldmefjhgahdaa
open Go.RowKit

/-- A call that answers pages' lists alone. -/
def ToldEnd (w : World) (s : SS) (e : Ending) (w' : World) : Prop :=
  ∃ A n c B m d, e = .returned (.agg #[.int .i64 s.hi, .slice A n c, .slice B m d]) ∧ Sp w' A n c B m d s ∧ Hi w.heap.size A ∧ Hi w.heap.size B ∧ Below w.heap.size w w'
theorem told_done {w w2 : World} {n c m d : Nat} {h : Int} {A B : Option Addr} {s : SS} (hb : Below w.heap.size w w2) (hs : Sp w2 A n c B m d s) (hA : Hi (w.heap.size + 1) A) (hB : Hi (w.heap.size + 1) B) (hh : s.hi = h) (x y z : Value) :
    ToldEnd w s (.returned (.agg #[.int .i64 h, .slice A n c, .slice B m d])) (((w2.setCell ⟨w.heap.size, 0, none⟩ x).setCell ⟨w.heap.size, 1, none⟩ y).setCell ⟨w.heap.size, 2, none⟩ z) :=
  ⟨A, n, c, B, m, d, by rw [hh], hs.but (But.put w2 w.heap.size x y z) hA hB, hA.low (Nat.le_succ _), hB.low (Nat.le_succ _), below_put hb (Nat.le_refl _) x y z⟩

set_option maxRecDepth 20000 in
set_option maxHeartbeats 800000 in
theorem told_short (A : Option Addr) (n c : Nat) (l : List Int) (w : World) (hl : Ln w 1 A n c (intVals l)) (hn : n < 3) (hr : ∀ z ∈ l, 0 ≤ z ∧ z ≤ 2147483647) :
    Calls Try.prog 44 #[.slice A n c] w (ToldEnd w (SS.told l)) := by
  have hN := hl.intN
  have HT : Hid (SS.told l = SS.none) := by
    match l, hN, hr with
    | [], _, _ => exact Lib.hid rfl
    | [_], _, _ => exact Lib.hid rfl
    | [x, y], _, hr =>
      rw [SS.told_two]
      have := hr y (by simp)
      rw [if_neg (by simp; omega)]
      exact Lib.hid rfl
    | x :: y :: z :: r, h, _ => simp at h; omega
  have B0 := Lib.hid (below_one w (.cells #[.int .i64 0, .slice none 0 0, .slice none 0 0] 26))
  have HR := Lib.hid (box_new w (.int .i64 0) (.slice none 0 0) (.slice none 0 0))
  clear hl hN hr
  go_enter Try.func44, Try.ntmps44
  obtain ⟨q0, q1, q2⟩ := HR.out.cells
  obtain ⟨f0, f1, f2⟩ := HR.out.free
  go_upto_region 1 with fail
  generalize w.alloc (.cells #[.int .i64 0, .slice none 0 0, .slice none 0 0] 26) = w0 at *
  have HD := Lib.hid (told_done (h := 0) B0.out (Sp.zero w0) (Hi.none_ _) (Hi.none_ _) rfl (.int .i64 0) (.slice none 0 0) (.slice none 0 0))
  obtain ⟨e0, e1, e2⟩ := (Lib.hid (HR.out.put (.int .i64 0) (.slice none 0 0) (.slice none 0 0))).out.cells
  go_wp2_with fail
  refine bodyPost_ret (v := .agg #[.int .i64 0, .slice none 0 0, .slice none 0 0]) (by simp [results, Try.results44, go_sem, e0, e1, e2]) rfl ?_
  rw [HT.out]
  exact HD.out

set_option maxRecDepth 20000 in
set_option maxHeartbeats 800000 in
theorem told_big (A : Option Addr) (n c : Nat) (l : List Int) (N : Nat) (w : World) (hl : Ln w 1 A n c (intVals l)) (hn : 3 ≤ n) (hm : n ≤ 1000000) (hv : l[1]? = some (N : Int)) (hN : n < N + 3) :
    Calls Try.prog 44 #[.slice A n c] w (ToldEnd w (SS.told l)) := by
  have hlen := hl.intN
  have HT : Hid (SS.told l = SS.none) := by
    match l, hlen, hv with
    | x :: y :: r, hlen, hv =>
      obtain rfl : y = (N : Int) := by simpa using hv
      rw [SS.told_two]
      rw [if_neg (by simp at hlen; omega)]
      exact Lib.hid rfl
    | [x], h, _ => simp at h; omega
    | [], h, _ => simp at h; omega
  obtain ⟨b, off, z, rfl, hz, c1⟩ := hl.intAt (k := 1) (by omega)
  obtain rfl : z = (N : Int) := by rw [hv] at hz; exact (Option.some.inj hz).symm
  have hb := World.block_lt_of_cell? _ _ c1
  have B0 := Lib.hid (below_one w (.cells #[.int .i64 0, .slice none 0 0, .slice none 0 0] 26))
  have HR := Lib.hid (box_new w (.int .i64 0) (.slice none 0 0) (.slice none 0 0))
  have C1 : (w.alloc (.cells #[.int .i64 0, .slice none 0 0, .slice none 0 0] 26)).cell? ⟨b, off + 1, none⟩ = some (.int .i64 (N : Int)) := (B0.out.cell (p := ⟨b, off + 1, none⟩) hb).trans c1
  clear hl hlen hv hz c1
  go_enter Try.func44, Try.ntmps44
  obtain ⟨q0, q1, q2⟩ := HR.out.cells
  obtain ⟨f0, f1, f2⟩ := HR.out.free
  go_upto_region 1 with fail
  generalize w.alloc (.cells #[.int .i64 0, .slice none 0 0, .slice none 0 0] 26) = w0 at *
  have HD := Lib.hid (told_done (h := 0) B0.out (Sp.zero w0) (Hi.none_ _) (Hi.none_ _) rfl (.int .i64 0) (.slice none 0 0) (.slice none 0 0))
  obtain ⟨e0, e1, e2⟩ := (Lib.hid (HR.out.put (.int .i64 0) (.slice none 0 0) (.slice none 0 0))).out.cells
  have i0 : ¬ ((n : Int) < 3) := by omega
  have i1 : (1 : Int) < (n : Int) := by omega
  have i2 : wrap64 ((n : Int) - 3) = (n : Int) - 3 := by unfold wrap64; omega
  have i3 : (n : Int) - 3 < (N : Int) := by omega
  go_wp2_with fail
  refine bodyPost_ret (v := .agg #[.int .i64 0, .slice none 0 0, .slice none 0 0]) (by simp [results, Try.results44, go_sem, e0, e1, e2]) rfl ?_
  rw [HT.out]
  exact HD.out

theorem chainT {w1 wx w3 : World} (b : Below wx.heap.size wx w3) (h : Below w1.heap.size w1 wx) : Below w1.heap.size w1 w3 := h.trans (b.mono h.size)
/-- What is held once the lists' own block is laid. -/
structure TB (w wx : World) (r4 : Nat) (h : Int) (A2 : Option Addr) (N c2 : Nat) (cs : List Value) : Prop where
  box : Box wx r4 (.int .i64 h) (.slice A2 N c2) (.slice none 0 0)
  res : Box wx w.heap.size (.int .i64 0) (.slice none 0 0) (.slice none 0 0)
  free : Ln wx 1 A2 N c2 cs
  far : ∀ ad, A2 = some ad → ad.block ≠ r4 ∧ w.heap.size < ad.block ∧ ad.block < wx.heap.size
  lt : w.heap.size < r4
  bel : Below w.heap.size w wx

set_option maxRecDepth 20000 in
theorem tb_put {w w0 wx w2 : World} {r4 N c2 : Nat} {A2 : Option Addr} {cs : List Value} (b0 : Below w.heap.size w w0) (bc : Below w0.heap.size w0 w2) (hr : Box w0 w.heap.size (.int .i64 0) (.slice none 0 0) (.slice none 0 0)) (hx : Box w2 r4 (.int .i64 0) (.slice none 0 0) (.slice none 0 0))
    (o2 : w2.ownsRow wx.heap.size 3 1 (.slice A2 N c2) N cs) (l2 : Ln w2 1 A2 N c2 cs) (hlt : r4 + 1 ≤ wx.heap.size) (hr4 : w0.heap.size ≤ r4) (h : Int) :
    TB w (((w2.setCell ⟨r4, 0, none⟩ (.int .i64 h)).setCell ⟨r4, 1, none⟩ (.slice A2 N c2)).setCell ⟨r4, 2, none⟩ (.slice none 0 0)) r4 h A2 N c2 cs := by
  have hlr := hr.lt
  have hi : Hi (r4 + 1) A2 := (Hi.of_own o2).low hlt
  have bu := But.put w2 r4 (.int .i64 h) (.slice A2 N c2) (.slice none 0 0)
  refine ⟨hx.put _ _ _, (hr.kept bc).but bu (by omega), l2.but bu hi, fun ad e => ?_, by omega, below_put (b0.trans (bc.mono b0.size)) (by omega) _ _ _⟩
  have h1 := hi ad e
  have h3 := bu.1
  subst e
  have h2 := o2.lt ad.block rfl
  omega
set_option maxRecDepth 20000 in
theorem tb_new {w w0 wx w2 : World} {N c2 : Nat} {A2 : Option Addr} {cs : List Value} (b0 : Below w.heap.size w w0) (bc : Below w0.heap.size w0 w2) (hr : Box w0 w.heap.size (.int .i64 0) (.slice none 0 0) (.slice none 0 0))
    (o2 : w2.ownsRow wx.heap.size 3 1 (.slice A2 N c2) N cs) (l2 : Ln w2 1 A2 N c2 cs) (hlt : w0.heap.size ≤ wx.heap.size) (h : Int) :
    TB w (w2.alloc (.cells #[.int .i64 h, .slice A2 N c2, .slice none 0 0] 26)) w2.heap.size h A2 N c2 cs := by
  have hlr := hr.lt
  have hs := bc.size
  have ba := below_one w2 (.cells #[.int .i64 h, .slice A2 N c2, .slice none 0 0] 26)
  refine ⟨box_new w2 _ _ _, (hr.kept bc).kept ba, l2.kept ba, fun ad e => ?_, by omega, (b0.trans (bc.mono b0.size)).trans (ba.mono (by omega))⟩
  have h1 := Hi.of_own o2 ad e
  subst e
  have h2 := o2.lt ad.block rfl
  have h3 := ba.size
  omega

set_option maxRecDepth 20000 in
theorem freedInfo : (Try.prog.info? 49).map (fun i => (i.zero, i.size, i.bytes)) = some (some (.agg #[.int .i64 0, .int .i64 0]), 2, 16) := by kernel_rfl

/-- What is held while pairs are told. -/
structure ToldAt (w w4 : World) (r4 : Nat) (h : Int) (A2 : Option Addr) (N c2 : Nat) (cs : List Value) (all : List (Int × Int)) (A5 : Option Addr) (g c5 : Nat) (rest : List Int) (ps : List (Int × Int)) (v : Value) (wk : World) : Prop where
  left : Ln w 1 A5 g c5 (intVals rest)
  box : Box wk r4 (.int .i64 h) (.slice A2 N c2) v
  res : Box wk w.heap.size (.int .i64 0) (.slice none 0 0) (.slice none 0 0)
  free : Ln wk 1 A2 N c2 cs
  own : wk.ownsRow w4.heap.size 49 2 v ps.length (prVals ps)
  bel : Below w.heap.size w wk
  siz : w4.heap.size ≤ wk.heap.size
  all : ps ++ SS.unpairs rest = all
  sum : 2 * ps.length + g ≤ 1000000
def ToldRel (w w4 : World) (r4 : Nat) (h : Int) (A2 : Option Addr) (N c2 : Nat) (cs : List Value) (all : List (Int × Int)) (g : Nat) (s : Value) (wk : World) : Prop :=
  ∃ (A5 : Option Addr) (c5 : Nat) (rest : List Int) (ps : List (Int × Int)) (v : Value), s = .slice A5 g c5 ∧ ToldAt w w4 r4 h A2 N c2 cs all A5 g c5 rest ps v wk

set_option maxRecDepth 20000 in
theorem ToldAt.step {w w4 wr w5 : World} {r4 N c2 g c5 c6 gg cap : Nat} {h x y : Int} {A2 A5 A6 : Option Addr} {cs : List Value} {all : List (Int × Int)} {r : List Int} {ps : List (Int × Int)} {v : Value} {C : Array Value} {T : TypeId}
    (hT : ToldAt w w4 r4 h A2 N c2 cs all A5 (g + 2) c5 (x :: y :: r) ps v wr) (hr4 : r4 < w4.heap.size) (hlt : w.heap.size < r4) (hfar : ∀ ad, A2 = some ad → ad.block ≠ r4 ∧ w.heap.size < ad.block ∧ ad.block < w4.heap.size)
    (hA : Ln w 1 A6 g c6 (intVals r)) (hown : w5.ownsRow w4.heap.size 49 2 (.slice (some ⟨gg, 0, none⟩) (ps.length + 1) cap) (ps.length + 1) (prVals ps ++ [.int .i64 x, .int .i64 y])) (hg : ((wr.alloc (.cells C T)).drew).grownBy w5 v.ownBlock) :
    ToldRel w w4 r4 h A2 N c2 cs all g (.slice A6 g c6) (w5.setCell ⟨r4, 2, none⟩ (.slice (some ⟨gg, 0, none⟩) (ps.length + 1) cap)) := by
  have hb : ∀ k, k < w4.heap.size → w5.heap[k]? = wr.heap[k]? := fun k hk => by
    have h1 := hT.siz
    rw [hg.block k (by show k < (wr.alloc (.cells C T)).heap.size; simp; omega) (fun e => by have := (hT.own.lt k e.symm).1; omega)]
    exact heap_alloc_old _ _ (by omega)
  have hs5 : w4.heap.size ≤ w5.heap.size := by
    have h1 := hT.siz
    have h2 := hg.size
    have h3 : ((wr.alloc (.cells C T)).drew).heap.size = wr.heap.size + 1 := by show (wr.alloc (.cells C T)).heap.size = _; simp
    omega
  have bu := (But.refl r4 w5).set 2 (.slice (some ⟨gg, 0, none⟩) (ps.length + 1) cap)
  have hgg := hown.lt gg rfl
  have hlr := hT.res.lt
  refine ⟨A6, c6, r, ps ++ [(x, y)], .slice (some ⟨gg, 0, none⟩) (ps.length + 1) cap, rfl, hA, ?_, ?_, ?_, ?_, ?_, ?_, ?_, ?_⟩
  · exact Box.set2 (show Box w5 r4 _ _ _ from (hb r4 hr4).trans hT.box) _
  · exact Box.but (show Box w5 w.heap.size _ _ _ from (hb _ (by omega)).trans hT.res) bu (by omega)
  · refine ⟨hT.free.len, hT.free.le, hT.free.lies.1, fun ad e j u hu => ?_⟩
    obtain ⟨f1, f2, f3⟩ := hfar ad e
    have h0 := hT.free.lies.2 ad e j u hu
    have hblk : (ad.add j).block = ad.block := by unfold Addr.add; split <;> rfl
    rw [World.cell?_of_block (w := w5) (bu.2 (ad.add j).block (by omega)), World.cell?_of_block (w := wr) (hb (ad.add j).block (by omega))]
    exact h0
  · rw [prVals_append, List.length_append]
    refine ownsRow_setCell_below hown (by show r4 < w4.heap.size; exact hr4) _
  · refine (((hT.bel.alloc hT.bel.size _).drew).grown hg ?_ (fun k e => ?_)).setCell (by show w.heap.size ≤ r4; omega) _
    · have := hT.bel.size
      show w.heap.size ≤ (wr.alloc (.cells C T)).heap.size
      simp
      omega
    · have := (hT.own.lt k e).1
      omega
  · rw [← bu.1]
    exact hs5
  · rw [← hT.all]
    show ps ++ [(x, y)] ++ SS.unpairs r = ps ++ (x, y) :: SS.unpairs r
    simp
  · have := hT.sum
    rw [List.length_append, List.length_singleton]
    omega

set_option maxRecDepth 20000 in
set_option maxHeartbeats 3200000 in
theorem told_long (A : Option Addr) (n c : Nat) (l : List Int) (h : Int) (N : Nat) (w : World) (hl : Ln w 1 A n c (intVals l)) (hn : N + 3 ≤ n) (hm : n ≤ 1000000) (hh : l[0]? = some h) (hv : l[1]? = some (N : Int)) :
    Calls Try.prog 44 #[.slice A n c] w (ToldEnd w (SS.told l)) := by
  have hlen := hl.intN
  have HLN := Lib.hid hlen
  have HT : Hid (SS.told l = ⟨h, (l.drop 2).take N, SS.unpairs (l.drop (N + 3))⟩) := by
    match l, hlen, hv, hh with
    | x :: y :: r, hlen, hv, hh =>
      obtain rfl : y = (N : Int) := by simpa using hv
      obtain rfl : x = h := by simpa using hh
      rw [SS.told_two, if_pos (by simp at hlen; omega)]
      exact Lib.hid (by simp)
    | [x], h, _, _ => simp at h; omega
    | [], h, _, _ => simp at h; omega
  have HL := Lib.hid hl
  obtain ⟨b, off, z, rfl, hz, c1⟩ := hl.intAt (k := 1) (by omega)
  obtain rfl : z = (N : Int) := by rw [hv] at hz; exact (Option.some.inj hz).symm
  obtain ⟨b', off', z', e0, hz', c0⟩ := hl.intAt (k := 0) (by omega)
  have e1 := Option.some.inj e0
  injection e1 with e1 e2
  subst e1
  subst e2
  obtain rfl : z' = h := by rw [hh] at hz'; exact (Option.some.inj hz').symm
  have hb := World.block_lt_of_cell? _ _ c1
  have B0 := Lib.hid (below_one w (.cells #[.int .i64 0, .slice none 0 0, .slice none 0 0] 26))
  have HR := Lib.hid (box_new w (.int .i64 0) (.slice none 0 0) (.slice none 0 0))
  have C1 : (w.alloc (.cells #[.int .i64 0, .slice none 0 0, .slice none 0 0] 26)).cell? ⟨b, off + 1, none⟩ = some (.int .i64 (N : Int)) := (B0.out.cell (p := ⟨b, off + 1, none⟩) hb).trans c1
  have C0 : (w.alloc (.cells #[.int .i64 0, .slice none 0 0, .slice none 0 0] 26)).cell? ⟨b, off, none⟩ = some (.int .i64 z') := (B0.out.cell (p := ⟨b, off, none⟩) hb).trans c0
  have hnc := hl.le
  clear hl hlen hv hz c1 c0 hh hz'
  go_enter Try.func44, Try.ntmps44
  go_upto_region 1 with fail
  generalize w.alloc (.cells #[.int .i64 0, .slice none 0 0, .slice none 0 0] 26) = w0 at *
  have i0 : ¬ ((n : Int) < 3) := by omega
  have i1 : (1 : Int) < (n : Int) := by omega
  have i1' : (0 : Int) < (n : Int) := by omega
  have i2 : wrap64 ((n : Int) - 3) = (n : Int) - 3 := by unfold wrap64; omega
  have i3 : ¬ ((n : Int) - 3 < (N : Int)) := by omega
  have i5 : (2 : Int) ≤ 2 + (N : Int) := by omega
  have i6 : 2 + (N : Int) ≤ (c : Int) := by omega
  have i10 : (2 + (N : Int)).toNat - 2 = N := by omega
  have i7 : ¬ c = 2 := by omega
  have i8 : (2 : Int) < (c : Int) := by omega
  have i9 : 0 < n := by omega
  have LF := Lib.hid (((HL.out.kept B0.out).intDrop (k := 2) (by omega)).intTake (k := N) (by omega))
  have BAa := Lib.hid ((below_one w0 (.cells #[.slice (some ⟨b, off + 2, none⟩) N (c - 2)] 23)).drew)
  have BAb := Lib.hid ((below_two w0 (.cells #[.int .i64 0, .slice none 0 0, .slice none 0 0] 26) (.cells #[.slice (some ⟨b, off + 2, none⟩) N (c - 2)] 23)).drew)
  have BAc := Lib.hid ((below_two w0 (.cells #[.slice (some ⟨b, off + 2, none⟩) N (c - 2)] 23) (.cells #[.int .i64 0, .slice none 0 0, .slice none 0 0] 26)).drew)
  have BAd := Lib.hid ((below_one w0 (.cells #[.int .i64 0, .slice none 0 0, .slice none 0 0] 26)).drew)
  have HPa := Lib.hid ((pile_one LF.out (intVals_one _) 23).kept ((Below.refl _ _).drew))
  have PB0 := (pile_one (LF.out.kept (below_one w0 (.cells #[.int .i64 0, .slice none 0 0, .slice none 0 0] 26))) (intVals_one _) 23).kept ((Below.refl _ _).drew)
  rw [show (w0.alloc (.cells #[.int .i64 0, .slice none 0 0, .slice none 0 0] 26)).heap.size = w0.heap.size + 1 by simp] at PB0
  have HPb := Lib.hid PB0
  clear PB0
  have HPc := Lib.hid ((pile_one LF.out (intVals_one _) 23).kept ((below_one _ (.cells #[.int .i64 0, .slice none 0 0, .slice none 0 0] 26)).drew))
  have HXb := Lib.hid (show Box (((w0.alloc (.cells #[.int .i64 0, .slice none 0 0, .slice none 0 0] 26)).alloc (.cells #[.slice (some ⟨b, off + 2, none⟩) N (c - 2)] 23)).drew) w0.heap.size (.int .i64 0) (.slice none 0 0) (.slice none 0 0) from (box_new w0 _ _ _).kept ((below_one _ (.cells #[.slice (some ⟨b, off + 2, none⟩) N (c - 2)] 23)).drew))
  have HXc : Hid (Box (((w0.alloc (.cells #[.slice (some ⟨b, off + 2, none⟩) N (c - 2)] 23)).alloc (.cells #[.int .i64 0, .slice none 0 0, .slice none 0 0] 26)).drew) (w0.heap.size + 1) (.int .i64 0) (.slice none 0 0) (.slice none 0 0)) := by
    have := box_new (w0.alloc (.cells #[.slice (some ⟨b, off + 2, none⟩) N (c - 2)] 23)) (.int .i64 0) (.slice none 0 0) (.slice none 0 0)
    rw [show (w0.alloc (.cells #[.slice (some ⟨b, off + 2, none⟩) N (c - 2)] 23)).heap.size = w0.heap.size + 1 by simp] at this
    exact Lib.hid (this.kept ((Below.refl _ _).drew))
  have hb0 : b < w0.heap.size := Nat.lt_of_lt_of_le hb B0.out.size
  have HC0 := Lib.hid C0
  have K0 : w0.drew.cell? ⟨b, off, none⟩ = some (.int .i64 z') := C0
  have Ka : ((w0.alloc (.cells #[.slice (some ⟨b, off + 2, none⟩) N (c - 2)] 23)).drew).cell? ⟨b, off, none⟩ = some (.int .i64 z') := (BAa.out.cell (p := ⟨b, off, none⟩) hb0).trans C0
  have Kb : (((w0.alloc (.cells #[.int .i64 0, .slice none 0 0, .slice none 0 0] 26)).alloc (.cells #[.slice (some ⟨b, off + 2, none⟩) N (c - 2)] 23)).drew).cell? ⟨b, off, none⟩ = some (.int .i64 z') := (BAb.out.cell (p := ⟨b, off, none⟩) hb0).trans C0
  have Kc : (((w0.alloc (.cells #[.slice (some ⟨b, off + 2, none⟩) N (c - 2)] 23)).alloc (.cells #[.int .i64 0, .slice none 0 0, .slice none 0 0] 26)).drew).cell? ⟨b, off, none⟩ = some (.int .i64 z') := (BAc.out.cell (p := ⟨b, off, none⟩) hb0).trans C0
  have Kd : ((w0.alloc (.cells #[.int .i64 0, .slice none 0 0, .slice none 0 0] 26)).drew).cell? ⟨b, off, none⟩ = some (.int .i64 z') := (BAd.out.cell (p := ⟨b, off, none⟩) hb0).trans C0
  go_upto_region 4 with fail
  go_cut [4] (fun s4 wx => ∃ (r4 : Nat) (A2 : Option Addr) (c2 : Nat), s4 = .pointer (some ⟨r4, 0, none⟩) ∧ Hid (TB w wx r4 z' A2 N c2 (intVals ((l.drop 2).take N))))
  case first =>
    go_region_held3 (fun w' => w'.cell? ⟨b, off, none⟩ = some (.int .i64 z'))
      (first | exact K3 _ _ _ | exact K4 | exact K2 | exact Ka | exact Kb | exact Kc | exact Kd | exact K0)
      (first
        | (go_at_call 31; refine (join_I _ 1 1 N _ _ (by first | exact HPa.out | exact HPb.out | exact HPc.out) rfl (by simp [tot]) (by omega) (by decide)).mono ?_; rintro e w2 ⟨v2, rfl, o2, b2⟩; obtain ⟨A2, c2, rfl, hc2, l2⟩ := Ln.of_own o2; have BC := Lib.hid (chainT b2 (by first | exact BAa.out | exact BAb.out | exact BAc.out)); have K2 : w2.cell? ⟨b, off, none⟩ = some (.int .i64 z') := (BC.out.cell (p := ⟨b, off, none⟩) hb0).trans HC0.out; first | (have HX2 := Lib.hid (HXb.out.kept b2); have HLT := Lib.hid (Nat.le_of_eq (show w0.heap.size + 1 + 1 = (((w0.alloc (.cells #[.int .i64 0, .slice none 0 0, .slice none 0 0] 26)).alloc (.cells #[.slice (some ⟨b, off + 2, none⟩) N (c - 2)] 23)).drew).heap.size by simp)); have HT2 := Lib.hid (tb_put B0.out BC.out HR.out HX2.out o2 l2 (by have := HLT.out; omega) (Nat.le_refl _) z'); obtain ⟨q0, q1, q2⟩ := HX2.out.cells; obtain ⟨f0, f1, f2⟩ := HX2.out.free; have K4 := ((But.put w2 w0.heap.size (.int .i64 z') (.slice A2 N c2) (.slice none 0 0)).cell (k := b) (by omega) off).trans K2) | (have HX2 := Lib.hid (HXc.out.kept b2); have HLT := Lib.hid (Nat.le_of_eq (show w0.heap.size + 1 + 1 = (((w0.alloc (.cells #[.slice (some ⟨b, off + 2, none⟩) N (c - 2)] 23)).alloc (.cells #[.int .i64 0, .slice none 0 0, .slice none 0 0] 26)).drew).heap.size by simp)); have HT2 := Lib.hid (tb_put B0.out BC.out HR.out HX2.out o2 l2 (by have := HLT.out; omega) (Nat.le_succ _) z'); obtain ⟨q0, q1, q2⟩ := HX2.out.cells; obtain ⟨f0, f1, f2⟩ := HX2.out.free; have K4 := ((But.put w2 (w0.heap.size + 1) (.int .i64 z') (.slice A2 N c2) (.slice none 0 0)).cell (k := b) (by omega) off).trans K2) | (have hb2 : b < w2.heap.size := World.block_lt_of_cell? _ _ K2; have K3 : ∀ x y z : Value, (w2.alloc (.cells #[x, y, z] 26)).cell? ⟨b, off, none⟩ = some (.int .i64 z') := (fun x y z => ((below_one w2 _).cell (p := ⟨b, off, none⟩) hb2).trans K2); have HT2 := Lib.hid (tb_new B0.out BC.out HR.out o2 l2 (by have := BAa.out.size; omega) z'))))
    all_goals (
      go_wp2_with fail
      go_meet
      rw [pcs_one] at HT2
      exact ⟨_, A2, c2, rfl, HT2⟩)
  case rest =>
    obtain ⟨r4, A2, c2, rfl, HTB⟩ := hcut
    have j1 : wrap64 (2 + (N : Int) + 1) = (N : Int) + 3 := by unfold wrap64; omega
    have j2 : (0 : Int) ≤ (N : Int) + 3 := by omega
    have j3 : (N : Int) + 3 ≤ (n : Int) := by omega
    have j4 : (n : Int) ≤ (c : Int) := by omega
    have j5 : ((N : Int) + 3).toNat = N + 3 := by omega
    have j6 : (N : Int) + 3 ≤ (c : Int) := by omega
    go_upto_region 5 with fail
    obtain ⟨wx, hwx⟩ : ∃ wx, wx = wc := ⟨_, rfl⟩
    go_cut [5] (fun s5 w5 => ∃ (A5 : Option Addr) (M c5 : Nat), s5 = .slice A5 M c5 ∧ M ≤ n ∧ Hid (Ln w 1 A5 M c5 (intVals (l.drop (N + 3)))) ∧ w5 = wx)
    case first =>
      by_cases hcN : c = N + 3
      · subst hcN
        obtain rfl : n = N + 3 := by omega
        have LE : Hid (Ln w 1 (some ⟨b, off, none⟩) 0 0 (intVals (l.drop (N + 3)))) := by
          rw [List.drop_of_length_le (by rw [HLN.out]; exact Nat.le_refl _)]
          exact Lib.hid (Ln.empty _ _ _ _)
        go_wp2_with fail
        go_meet
        exact ⟨_, 0, 0, by rw [show N + 2 - (2 + N) = 0 by omega], Nat.zero_le _, LE, hwx.symm⟩
      · have k1 : (N : Int) + 3 < (c : Int) := by omega
        have LE := Lib.hid (HL.out.intDrop (k := N + 3) (by omega))
        go_wp2_with fail
        go_meet
        exact ⟨_, n - (N + 3), c - (N + 3), by rw [show 2 + N + 1 = N + 3 by omega], by omega, LE, hwx.symm⟩
    case rest =>
      obtain ⟨A5, M, c5, rfl, hMn, LE, hw5⟩ := hcut
      subst hw5
      subst hwx
      have hr4 := HTB.out.box.lt
      have H0 : Hid (ToldRel w wc r4 z' A2 N c2 (intVals ((l.drop 2).take N)) (SS.unpairs (l.drop (N + 3))) M (.slice A5 M c5) wc) :=
        Lib.hid ⟨A5, c5, l.drop (N + 3), [], .slice none 0 0, rfl, LE.out, HTB.out.box, HTB.out.res, HTB.out.free, World.ownsRow_nil _ _ _ _, HTB.out.bel, Nat.le_refl _, rfl, by simp; omega⟩
      obtain ⟨i0p, hi, hz0, hz1, hz2⟩ := info_parts freedInfo
      go_wp2_with fail
      go_loopg [5] M (fun g s wk => g ≤ M ∧ Hid (ToldRel w wc r4 z' A2 N c2 (intVals ((l.drop 2).take N)) (SS.unpairs (l.drop (N + 3))) g s wk))
      case atStart => exact ⟨Nat.le_refl _, H0⟩
      case round =>
        obtain ⟨hgM, HRel⟩ := hrel
        obtain ⟨G, hG⟩ : ∃ G, G = gk := ⟨_, rfl⟩
        subst hG
        obtain ⟨A6, c6, rest, ps, v, rfl, h1⟩ := HRel.out
        have H1 := Lib.hid h1
        clear HRel h1
        obtain ⟨b0, b1, b2⟩ := H1.out.box.cells
        obtain ⟨f0, f1, f2⟩ := H1.out.box.free
        by_cases hG2 : 1 < G
        · obtain ⟨M2, rfl⟩ : ∃ M2, G = M2 + 2 := ⟨G - 2, by omega⟩
          obtain ⟨b5, off5, rfl, hb5⟩ := H1.out.left.spot (by rw [intVals_length, H1.out.left.intN]; omega)
          obtain ⟨x, y, rr, rfl⟩ : ∃ x y rr, rest = x :: y :: rr := by
            have hl := H1.out.left.intN
            match rest, hl with
            | x :: y :: rr, _ => exact ⟨x, y, rr, rfl⟩
            | [_], h => simp at h
            | [], h => simp at h
          have d0 : wr.cell? ⟨b5, off5, none⟩ = some (.int .i64 x) := (H1.out.left.kept H1.out.bel).cell (j := 0) rfl
          have d1 : wr.cell? ⟨b5, off5 + 1, none⟩ = some (.int .i64 y) := (H1.out.left.kept H1.out.bel).cell (j := 1) rfl
          have o1 := H1.out.own
          have bsz := H1.out.siz
          have hr4r : r4 < wr.heap.size := Nat.lt_of_lt_of_le hr4 bsz
          have np : v.ownBlock ≠ some r4 := fun e => by have := (o1.lt r4 e).1; omega
          have hsum := H1.out.sum
          have hle := H1.out.left.le
          have m0 : (1 : Int) < (M2 : Int) + 2 := by omega
          have m1 : (0 : Int) < (M2 : Int) + 2 := by omega
          have m2 : (2 : Int) ≤ (M2 : Int) + 2 := by omega
          have m3 : (M2 : Int) + 2 ≤ (c6 : Int) := by omega
          have m4 : (2 : Int) ≤ (c6 : Int) := by omega
          by_cases hc6 : c6 = 2
          · subst hc6
            obtain rfl : M2 = 0 := by omega
            obtain rfl : rr = [] := List.eq_nil_of_length_eq_zero (by have := H1.out.left.intN; rw [List.length_cons, List.length_cons] at this; omega)
            go_wp2_with fail
            go_region_law
              ((refine step_append_lies _ (by rfl) _ _ _ (by rfl) wc.heap.size 49 i0p _ 2 16 Try.underlying24 hi hz0 hz1 hz2 rfl (by omega) v ps.length (prVals ps) (by rfl) ((o1.alloc _).drew)
                  ⟨wr.heap.size, 0, none⟩ 1 1 [.int .i64 x, .int .i64 y] (by rfl) (by rfl) (World.news_of_block (cs := #[.int .i64 x, .int .i64 y]) (t := 49) (fr := (0, 0)) (heap_alloc_new wr _)) (by simp [Value.oneCell'])
                  (by omega) (by unfold maxLen; omega) (by omega) (by simp; omega) (wr.heap.size + 1) (by simp) ?_; intro gg cap w5 hown5 hgrow hat hlt5; have T1 : w5.cell? ⟨r4, 2, none⟩ = some v := (hgrow.cell_far _ (by simp; omega) np.symm).trans ((below_one wr _).cell (p := ⟨r4, 2, none⟩) hr4r |>.trans b2); have T2 : w5.frozen? ⟨r4, 2, none⟩ = false := (World.frozen?_of_block (a := ⟨r4, 2, none⟩) (hgrow.block r4 (by simp; omega) np.symm)).trans ((below_one wr _).frozen (p := ⟨r4, 2, none⟩) hr4r |>.trans f2)))
            all_goals (
              have HS := Lib.hid (ToldAt.step H1.out hr4 HTB.out.lt HTB.out.far (Ln.empty w 1 ⟨b5, off5, none⟩ 0 : Ln w 1 (some ⟨b5, off5, none⟩) 0 0 (intVals [])) hown5 hgrow)
              clear hown5 hgrow hat hlt5 T1 T2
              go_wp2_with fail
              go_roundg 0
              case measure => omega
              case rel => exact ⟨by omega, HS⟩)
          · have m5 : (2 : Int) < (c6 : Int) := by omega
            go_wp2_with fail
            go_region_law
              ((refine step_append_lies _ (by rfl) _ _ _ (by rfl) wc.heap.size 49 i0p _ 2 16 Try.underlying24 hi hz0 hz1 hz2 rfl (by omega) v ps.length (prVals ps) (by rfl) ((o1.alloc _).drew)
                  ⟨wr.heap.size, 0, none⟩ 1 1 [.int .i64 x, .int .i64 y] (by rfl) (by rfl) (World.news_of_block (cs := #[.int .i64 x, .int .i64 y]) (t := 49) (fr := (0, 0)) (heap_alloc_new wr _)) (by simp [Value.oneCell'])
                  (by omega) (by unfold maxLen; omega) (by omega) (by simp; omega) (wr.heap.size + 1) (by simp) ?_; intro gg cap w5 hown5 hgrow hat hlt5; have T1 : w5.cell? ⟨r4, 2, none⟩ = some v := (hgrow.cell_far _ (by simp; omega) np.symm).trans ((below_one wr _).cell (p := ⟨r4, 2, none⟩) hr4r |>.trans b2); have T2 : w5.frozen? ⟨r4, 2, none⟩ = false := (World.frozen?_of_block (a := ⟨r4, 2, none⟩) (hgrow.block r4 (by simp; omega) np.symm)).trans ((below_one wr _).frozen (p := ⟨r4, 2, none⟩) hr4r |>.trans f2)))
            all_goals (
              have HS := Lib.hid (ToldAt.step H1.out hr4 HTB.out.lt HTB.out.far (by have := H1.out.left.intDrop (k := 2) (by omega); simpa using this : Ln w 1 (some ⟨b5, off5 + 2, none⟩) M2 (c6 - 2) (intVals rr)) hown5 hgrow)
              clear hown5 hgrow hat hlt5 T1 T2
              go_wp2_with fail
              go_roundg M2
              case measure => omega
              case rel => exact ⟨by omega, HS⟩)
        · have hall : ps = SS.unpairs (l.drop (N + 3)) := by
            have h1 := H1.out.all
            have h2 := H1.out.left.intN
            rw [show SS.unpairs rest = [] by
              match rest, h2 with
              | [], _ => rfl
              | [_], _ => rfl
              | x :: y :: rr, h => simp at h; omega, List.append_nil] at h1
            exact h1
          have HAll := Lib.hid hall
          clear hall
          obtain ⟨B9, d9, rfl, _, l9⟩ := Ln.of_own H1.out.own
          have HI9 : Hid (Hi (w.heap.size + 1) B9) := Lib.hid ((Hi.of_own H1.out.own).low (by have := HTB.out.lt; omega))
          have HI2 : Hid (Hi (w.heap.size + 1) A2) := Lib.hid (fun ad e => (HTB.out.far ad e).2.1)
          have HSp : Hid (Sp wr A2 N c2 B9 ps.length d9 ⟨z', (l.drop 2).take N, SS.unpairs (l.drop (N + 3))⟩) := Lib.hid ⟨H1.out.free, by rw [← HAll.out]; exact l9⟩
          obtain ⟨Q, hQ⟩ : ∃ Q, ps.length = Q := ⟨_, rfl⟩
          rw [hQ] at HSp b2
          have HQ := Lib.hid hQ
          have HD := Lib.hid (told_done (h := z') H1.out.bel HSp.out HI2.out HI9.out rfl (.int .i64 z') (.slice A2 N c2) (.slice B9 Q d9))
          obtain ⟨q0, q1, q2⟩ := H1.out.res.cells
          obtain ⟨g0, g1, g2⟩ := H1.out.res.free
          obtain ⟨e0, e1, e2⟩ := (Lib.hid (H1.out.res.put (.int .i64 z') (.slice A2 N c2) (.slice B9 Q d9))).out.cells
          clear hQ f0 f1 f2 l9 H1
          go_wp2_with fail
          refine bodyPost_ret (v := .agg #[.int .i64 z', .slice A2 N c2, .slice B9 Q d9]) (by simp [results, Try.results44, go_sem, e0, e1, e2]) rfl ?_
          rw [HT.out]
          exact HD.out

set_option maxRecDepth 20000 in
theorem told_any (A : Option Addr) (n c : Nat) (l : List Int) (w : World) (hl : Ln w 1 A n c (intVals l)) (hm : n ≤ 1000000) (hr : ∀ z ∈ l, 0 ≤ z ∧ z ≤ 2147483647) :
    Calls Try.prog 44 #[.slice A n c] w (ToldEnd w (SS.told l)) := by
  by_cases hn : n < 3
  · exact told_short A n c l w hl hn hr
  · have hlen := hl.intN
    obtain ⟨x, y, r, rfl⟩ : ∃ x y r, l = x :: y :: r := by
      match l, hlen with
      | x :: y :: r, _ => exact ⟨x, y, r, rfl⟩
      | [_], h => simp at h; omega
      | [], h => simp at h; omega
    have hy := hr y (by simp)
    have ey : y = ((y.toNat : Nat) : Int) := by omega
    by_cases hN : n < y.toNat + 3
    · exact told_big A n c _ y.toNat w hl (by omega) hm (by rw [← ey]; rfl) hN
    · exact told_long A n c _ x y.toNat w hl (by omega) hm rfl (by rw [← ey]; rfl)
end Go.Proofs.Ytlldmefjhgahdaa
