/-
  A part of the proof: what its texts say stands at the head of each. Conditions: none.
-/
import Derived.BigQuiet
import Derived.Maps.AppendAt
import Derived.Laws.OwnMore
import Derived.Deep.RegionHeld3
import Derived.Deep.MidRow
import Derived.Laws.MakeOwn
import Derived.Lib.LazyBuf
import Derived.LaidEqlPtr
import Derived.ProofKit
import Derived.OpenShut
import Derived.ChangeOld
import Derived.Lib.SmallJoins
import Derived.Deep.Slices
import Derived.Deep.Fields
import Derived.Carry
import Derived.Test.YtgkdlbcpckdmkaaZF1

/-
  What slices.SortFunc comes to at pointers to frames, by their sectors.
-/
namespace Go.Proofs.Ytgkdlbcpckdmkaa
open Go.RowKit Go.Sort Go.Shelf

def cmpI (x y : Int) : Int := if x < y then -1 else if y < x then 1 else 0

set_option maxRecDepth 20000 in
theorem nan_any (x : Int) (w : World) : Calls Try.prog 63 #[.int .i64 x] w fun e w' => e = .returned (.bool false) ∧ w = w' := by
  go_enter Try.func63, Try.ntmps63
  go_wp2_with fail
  go_ret
  exact ⟨rfl, rfl⟩

set_option maxRecDepth 20000 in
theorem cmpint_any (x y : Int) (w : World) : Calls Try.prog 48 #[.int .i64 x, .int .i64 y] w fun e w' => e = .returned (.int .i64 (cmpI x y)) ∧ w = w' := by
  unfold cmpI
  by_cases h1 : x < y
  · rw [if_pos h1]
    go_enter Try.func48, Try.ntmps48
    go_wp2_with (refine (nan_any _ _).mono ?_; rintro e w' ⟨rfl, rfl⟩)
    go_ret
    exact ⟨rfl, rfl⟩
  · by_cases h2 : y < x
    · rw [if_neg h1, if_pos h2]
      go_enter Try.func48, Try.ntmps48
      go_wp2_with (refine (nan_any _ _).mono ?_; rintro e w' ⟨rfl, rfl⟩)
      go_ret
      exact ⟨rfl, rfl⟩
    · rw [if_neg h1, if_neg h2]
      have h3 : y ≤ x := by omega
      have h4 : x ≤ y := by omega
      go_enter Try.func48, Try.ntmps48
      go_wp2_with (refine (nan_any _ _).mono ?_; rintro e w' ⟨rfl, rfl⟩)
      go_ret
      exact ⟨rfl, rfl⟩

set_option maxRecDepth 20000 in
theorem bysec_any (fb i j : Nat) (x y : Int) (w : World) (h1 : w.cell? ⟨fb, i * 4 + 1, none⟩ = some (.int .i64 x)) (h2 : w.cell? ⟨fb, j * 4 + 1, none⟩ = some (.int .i64 y)) :
    Calls Try.prog 47 #[.pointer (some ⟨fb, i * 4, none⟩), .pointer (some ⟨fb, j * 4, none⟩)] w fun e w' => e = .returned (.int .i64 (cmpI x y)) ∧ ∃ q, w' = w.drewN q := by
  go_enter Try.func47, Try.ntmps47
  go_wp2_with fail
  go_quiet ((go_at_call 48; exact Calls.quiet_of_same ((cmpint_any _ _ _).mono fun _ _ h => ⟨h.1, h.2.symm⟩)))
  go_wp2_with fail
  go_ret
  exact ⟨rfl, _, rfl⟩

theorem ltI (x y : Int) : decide (cmpI x y < 0) = decide (x < y) := by
  unfold cmpI
  by_cases h1 : x < y
  · simp [h1]
  · by_cases h2 : y < x <;> simp [h1, h2]

/-- Frames are in order by what is in their sectors' cells. -/
theorem swoF (m : Nat) (S : Nat → Int) : SWO (ltOf fun x y : Nat => cmpI (S (x % m)) (S (y % m))) where
  irrefl x := by unfold ltOf; rw [ltI]; simp
  trans x y z h1 h2 := by unfold ltOf at *; rw [ltI] at *; simp at *; omega
  ntrans x y z h1 h2 := by unfold ltOf at *; rw [ltI] at *; simp at *; omega

theorem bitslen_any (n : Nat) (w : World) (h : n ≤ 12) : Calls Try.prog 62 #[.int .u64 n] w fun e w' => (∃ l : Int, e = .returned (.int .i64 l)) ∧ w' = w :=
  (Any.bits_Len Try.bitsLen n w (by omega) (by omega)).mono fun _ _ ⟨he, hw⟩ => ⟨⟨_, he⟩, hw⟩

/-- A pointer to a frame. -/
def ptrF (fb m : Nat) (j : Nat) : Value := .pointer (some ⟨fb, j % m * 4, none⟩)

theorem below_putRow {α : Type} [Inhabited α] (enc : α → Value) (w : World) {B blk : Nat} (off : Nat) (d : Array α) (h : B ≤ blk) : RowKit.Below B w (putRow enc w blk off d) :=
  ⟨rfl, rfl, rfl, by simp, fun k hk => by
    unfold putRow mapBlock
    show (w.heap.modify blk _)[k]? = _
    rw [Array.getElem?_modify]
    rw [if_neg (by omega)]⟩

theorem cell_sortWorld {α : Type} [Inhabited α] (enc : α → Value) (w : World) (blk off m : Nat) (d : Array α) (os : Array Obj) {b o : Nat} (h : b ≠ blk) (hb : b < w.heap.size) : (sortWorld enc w blk off m d os).cell? ⟨b, o, none⟩ = w.cell? ⟨b, o, none⟩ := by
  unfold sortWorld
  rw [cell?_grow _ _ _ (by simp; exact hb), cell?_putRow_other _ _ _ _ _ _ (Or.inl h)]
  rfl

set_option maxRecDepth 20000 in
set_option maxHeartbeats 800000 in
/-- Some frames are put in order. -/
theorem sortF_any (fb m blk cap : Nat) (S : Nat → Int) (d : Array Nat) (w : World) (hm : 1 ≤ m) (hS : ∀ i, i < m → w.cell? ⟨fb, i * 4 + 1, none⟩ = some (.int .i64 (S i))) (hne : fb ≠ blk)
    (hH : Holds (ptrF fb m) w blk 0 d) (h12 : d.size ≤ 12) :
    Calls Try.prog 46 #[.slice (some ⟨blk, 0, none⟩) d.size cap, .func (.func 47) #[] #[]] w
      fun e w' => e = .returned (.tuple #[]) ∧ ∃ d' n, PermIn 0 d.size d d' ∧ SortedIn (ltOf fun x y : Nat => cmpI (S (x % m)) (S (y % m))) 0 d.size d' ∧ w' = (putRow (ptrF fb m) w blk 0 d').drewN n := by
  have hlt : fb < w.heap.size := World.block_lt_of_cell? _ _ (hS 0 (by omega))
  have hC : CmpReads Try.prog 47 #[] (ptrF fb m) (fun x y : Nat => cmpI (S (x % m)) (S (y % m))) blk 0 d.size w := fun k os dk _ x y => by
    refine (bysec_any fb (x % m) (y % m) _ _ _ ?_ ?_)
    · rw [cell_sortWorld _ _ _ _ _ _ _ hne hlt]
      exact hS _ (Nat.mod_lt _ (by omega))
    · rw [cell_sortWorld _ _ _ _ _ _ _ hne hlt]
      exact hS _ (Nat.mod_lt _ (by omega))
  exact Any.slices_SortFunc_small_sorted Try.sortF (ptrF fb m) (fun _ => rfl) _ (swoF m S) 47 #[] blk 0 cap d w (enters_of Try.func47 (by kernel_rfl) rfl) hC hH h12 (fun n W h => bitslen_any n W h)

set_option maxRecDepth 20000 in
theorem insert_none (fv : Value) (w : World) : Calls Try.prog 72 #[.slice none 0 0, .int .i64 0, .int .i64 0, fv] w fun e w' => e = .returned (.tuple #[]) ∧ w' = w := by
  go_enter Try.func72, Try.ntmps72
  go_wp2
  refine wp_loop_rounds 1 ?_
  rw [rounds_succ]
  go_wp2
  go_end0
  exact ⟨rfl, rfl⟩

set_option maxRecDepth 20000 in
theorem pdq_none (lim : Int) (fv : Value) (w : World) : Calls Try.prog 61 #[.slice none 0 0, .int .i64 0, .int .i64 0, .int .i64 lim, fv] w fun e w' => e = .returned (.tuple #[]) ∧ w' = w := by
  have hi := insert_none fv
  go_enter Try.func61, Try.ntmps61
  go_wp2
  refine wp_loop_rounds 1 ?_
  rw [rounds_succ]
  go_wp2_with (refine (hi _).mono ?_; rintro e w' ⟨rfl, rfl⟩)
  (try simp only [Exit.inBlock, Exit.then]); refine bodyPost_ret (results_none rfl _ _ _) rfl ?_
  exact ⟨rfl, rfl⟩

set_option maxRecDepth 20000 in
theorem sortF_none (fv : Value) (w : World) : Calls Try.prog 46 #[.slice none 0 0, fv] w fun e w' => e = .returned (.tuple #[]) ∧ w' = w := by
  have hp := fun lim => pdq_none lim fv
  have hl := fun W => bitslen_any 0 W (by omega)
  go_enter Try.func46, Try.ntmps46
  go_wp2_with (first | (refine (hl _).mono ?_; rintro e w' ⟨⟨l, rfl⟩, rfl⟩) | (refine (hp _ _).mono ?_; rintro e w' ⟨rfl, rfl⟩))
  go_end0
  exact ⟨rfl, rfl⟩
end Go.Proofs.Ytgkdlbcpckdmkaa

/-
  What the pool's own small functions come to: made, find, told, lay, hold.
-/
namespace Go.Proofs.Ytgkdlbcpckdmkaa
open Go.RowKit

set_option maxRecDepth 20000 in
theorem made_yes (w : World) (pb db : Nat) (c0 : w.cell? ⟨pb, 0, none⟩ = some (.pointer (some ⟨db, 0, none⟩))) :
    Calls Try.prog 24 #[.pointer (some ⟨pb, 0, none⟩)] w fun e w' => e = .returned (.bool true) ∧ w = w' := by
  go_enter Try.func24, Try.ntmps24
  go_wp2_with fail
  go_ret
  exact ⟨rfl, rfl⟩

set_option maxRecDepth 20000 in
theorem made_no (w : World) : Calls Try.prog 24 #[.pointer none] w fun e w' => e = .returned (.bool false) ∧ w = w' := by
  go_enter Try.func24, Try.ntmps24
  go_wp2_with fail
  go_ret
  exact ⟨rfl, rfl⟩

set_option maxRecDepth 20000 in
theorem told_any (A : Option Addr) (n c R : Nat) (l : List UInt8) (w : World) (hx : Bys w R A l) (e : l.length = n) (hn : n ≤ 1000000) (hz : A = none → n = 0 ∧ c = 0) :
    Calls Try.prog 30 #[.slice A n c] w (Owned w.heap.size w l) := by
  have HC := Lib.hid (clone_all A n c R l w hx e hn hz)
  clear hx e hn hz
  go_enter Try.func30, Try.ntmps30
  go_wp2_with fail
  refine HC.out.mono ?_
  rintro e w1 ⟨v1, rfl, o1, b1⟩
  have HO := Lib.hid o1
  have HB := Lib.hid b1
  clear o1 b1
  go_wp2_with fail
  go_ret
  exact ⟨v1, rfl, HO.out, HB.out⟩

/-- What lay leaves: bytes of its own, behind the pointer. -/
def LayEnd (w : World) (fb o : Nat) (l : List UInt8) (e : Ending) (w' : World) : Prop :=
  ∃ v w1, e = .returned (.tuple #[]) ∧ Own w1 w.heap.size v l ∧ Below w.heap.size w w1 ∧ w' = w1.setCell ⟨fb, o, none⟩ v

set_option maxRecDepth 20000 in
theorem play_any (fb o : Nat) (A : Option Addr) (n c R : Nat) (l : List UInt8) (u : Value) (w : World) (hx : Bys w R A l) (e : l.length = n) (hn : n ≤ 1000000) (hz : A = none → n = 0 ∧ c = 0)
    (cc : w.cell? ⟨fb, o, none⟩ = some u) (cf : w.frozen? ⟨fb, o, none⟩ = false) :
    Calls Try.prog 44 #[.pointer (some ⟨fb, o, none⟩), .slice A n c] w (LayEnd w fb o l) := by
  have HC := Lib.hid (clone_all A n c R l w hx e hn hz)
  have lt : fb < w.heap.size := World.block_lt_of_cell? _ _ cc
  clear hx e hn hz
  go_enter Try.func44, Try.ntmps44
  go_wp2_with fail
  refine HC.out.mono ?_
  rintro e w1 ⟨v1, rfl, o1, b1⟩
  have d1 := (b1.cell (p := ⟨fb, o, none⟩) lt).trans cc
  have d2 := (b1.frozen (p := ⟨fb, o, none⟩) lt).trans cf
  obtain ⟨A1, c1, rfl, -, -⟩ := own_slice o1
  have HO := Lib.hid o1
  have HB := Lib.hid b1
  clear o1 b1 cc cf
  go_wp2_with fail
  go_end0
  exact ⟨_, w1, rfl, HO.out, HB.out, rfl⟩

section
variable {F D : Nat → Prop} {pb fb cb rb db : Nat} {g : Nat → Value} {s : PP}

/-- What find answers. -/
def findA (o : Option Nat) : Value := .tuple #[.int .i64 ((o.getD 0 : Nat) : Int), .bool o.isSome]

theorem find_here {s : PP} {n : Int} {k : Nat} (hf : Fit s) (hk : k < s.m) (hu : s.ful k = true) (hs : s.sec k = n) (hp : ∀ j, j < k → ¬ (s.ful j = true ∧ s.sec j = n)) : s.find n = some k := by
  have hat : ∀ j, s.ful j = true → s.at_ j ≠ -1 ∧ s.sec j = s.at_ j := fun j hj => by
    have h1 : s.at_ j ≠ -1 := by
      unfold PP.ful at hj
      simpa using hj
    exact ⟨h1, by unfold PP.sec; rw [if_neg h1]⟩
  have h1 := hat k hu
  have hn : 0 ≤ n := by
    rcases hf.rng k hk with e | e
    · exact absurd e h1.1
    · have := (s.k.has_at _).1 e
      omega
  unfold PP.find PP.first
  rw [if_neg (by omega), List.find?_range_eq_some]
  refine ⟨by rw [← hs, h1.2]; simp, List.mem_range.2 hk, fun j hj => ?_⟩
  have h2 := hp j hj
  by_cases e : s.at_ j = n
  · refine absurd ⟨?_, ?_⟩ h2
    · unfold PP.ful
      simp [e]
      omega
    · unfold PP.sec
      rw [if_neg (by omega), e]
  · simpa using e

theorem find_nowhere {s : PP} {n : Int} (hp : ∀ j, j < s.m → ¬ (s.ful j = true ∧ s.sec j = n)) : s.find n = none := by
  unfold PP.find PP.first
  split
  · rfl
  · rw [List.find?_eq_none]
    intro j hj h
    have e : s.at_ j = n := by simpa using h
    refine hp j (List.mem_range.1 hj) ⟨?_, ?_⟩
    · unfold PP.ful
      simp [e]
      omega
    · unfold PP.sec
      rw [if_neg (by omega), e]

set_option maxRecDepth 20000 in
set_option maxHeartbeats 1600000 in
theorem find_any (w : World) (n : Int) (h : PoolAt w F D pb fb cb rb db g s) :
    Calls Try.prog 26 #[.pointer (some ⟨pb, 0, none⟩), .int .i64 n] w fun e w' => e = .returned (findA (s.find n)) ∧ w = w' := by
  have hm := h.core.m1.2
  have c1 := h.core.c1
  have H := Lib.hid h
  clear h
  go_enter Try.func26, Try.ntmps26
  go_wp2_with fail
  go_loopw [13] (fun i wr => ∃ k : Nat, k ≤ s.m ∧ i = .int .i64 k ∧ Hid (∀ j, j < k → ¬ (s.ful j = true ∧ s.sec j = n)) ∧ w = wr) (fun i _ => s.m - (RowKit.intOf i).toNat)
  case atStart => exact ⟨0, Nat.zero_le _, rfl, Lib.hid (fun j hj => by omega), rfl⟩
  case round =>
    obtain ⟨k, hk, rfl, hpre, rfl⟩ := hrel
    by_cases hlt : k < s.m
    · have d1 := H.out.s1 hlt
      have d2 := H.out.s2 hlt
      by_cases hu : s.ful k = true
      · rw [hu] at d2
        by_cases hs : s.sec k = n
        · rw [hs] at d1
          have HE := Lib.hid (find_here H.out.fit hlt hu hs hpre.out)
          clear hu hs
          go_wp2_with fail
          go_ret2
          refine ⟨?_, rfl⟩
          rw [HE.out]
          rfl
        · have HP : Hid (∀ j, j < k + 1 → ¬ (s.ful j = true ∧ s.sec j = n)) := fun j hj => by
            rcases Nat.lt_or_ge j k with e | e
            · exact hpre.out j e
            · obtain rfl : j = k := by omega
              exact fun h2 => hs h2.2
          have hs' : (s.sec k == n) = false := by simpa using hs
          clear hs hu hpre
          go_wp2_with fail
          go_roundw
          case rel => exact ⟨k + 1, by omega, by go_num, HP, trivial⟩
          case measure => simp [RowKit.intOf]; omega
      · have hu' : s.ful k = false := by simpa using hu
        rw [hu'] at d2
        have HP : Hid (∀ j, j < k + 1 → ¬ (s.ful j = true ∧ s.sec j = n)) := fun j hj => by
          rcases Nat.lt_or_ge j k with e | e
          · exact hpre.out j e
          · obtain rfl : j = k := by omega
            exact fun h2 => hu h2.1
        clear hu hu' hpre
        go_wp2_with fail
        go_roundw
        case rel => exact ⟨k + 1, by omega, by go_num, HP, trivial⟩
        case measure => simp [RowKit.intOf]; omega
    · obtain rfl : k = s.m := by omega
      have HE := Lib.hid (find_nowhere hpre.out)
      clear hpre
      go_wp2_with fail
      go_ret2
      refine ⟨?_, rfl⟩
      rw [HE.out]
      rfl
end
end Go.Proofs.Ytgkdlbcpckdmkaa

/-
  What unwritten comes to: the frames that are dirty, by their sectors.
-/
namespace Go.Proofs.Ytgkdlbcpckdmkaa
open Go.RowKit

def ptrs (fb : Nat) (js : List Nat) : List Value := js.map fun j => .pointer (some ⟨fb, j * 4, none⟩)

/-- Frames' pointers, in memory from base on. -/
def Ptrs (w : World) (base fb : Nat) (A : Option Addr) (js : List Nat) : Prop :=
  js = [] ∨ ∃ b, A = some ⟨b, 0, none⟩ ∧ base ≤ b ∧ ∀ i j, js[i]? = some j → w.cell? ⟨b, i, none⟩ = some (.pointer (some ⟨fb, j * 4, none⟩))

/-- The dirty frames, by their sectors. -/
structure Js (s : PP) (js : List Nat) : Prop where
  perm : js.Perm ((List.range s.m).filter s.d)
  up : js.Pairwise fun a b => s.sec a ≤ s.sec b

def UnwEnd (w : World) (fb : Nat) (s : PP) (e : Ending) (w' : World) : Prop :=
  ∃ A c js, e = .returned (.slice A js.length c) ∧ Ptrs w' w.heap.size fb A js ∧ Js s js ∧ Below w.heap.size w w'

/-- As far as the frames were looked through. -/
def UnwRel (w : World) (fb : Nat) (d : Nat → Bool) (k : Nat) (v : Value) (wr : World) : Prop :=
  wr.ownsRow w.heap.size 74 1 v ((List.range k).filter d).length (ptrs fb ((List.range k).filter d)) ∧ ((List.range k).filter d = [] → v = .slice none 0 0) ∧ Below w.heap.size w wr

theorem js_len (d : Nat → Bool) (k : Nat) : ((List.range k).filter d).length ≤ k := by
  have := List.length_filter_le d (List.range k)
  rw [List.length_range] at this
  exact this

theorem js_no {d : Nat → Bool} {k : Nat} (h : d k = false) : (List.range (k + 1)).filter d = (List.range k).filter d := by
  rw [List.range_succ, List.filter_append]
  simp [h]
theorem js_yes {d : Nat → Bool} {k : Nat} (h : d k = true) : (List.range (k + 1)).filter d = (List.range k).filter d ++ [k] := by
  rw [List.range_succ, List.filter_append]
  simp [h]

section
variable {F D : Nat → Prop} {pb fb cb rb db : Nat} {g : Nat → Value} {s : PP}

set_option maxRecDepth 20000 in
theorem ptrInfo : (Try.prog.info? 74).map (fun i => (i.zero, i.size, i.bytes)) = some (some (.pointer none), 1, 8) := by kernel_rfl

/-- All were looked through, and some were found: they are put in order. -/
theorem unw_sorted {w wr w2 : World} {v : Value} {gb cap : Nat} {d' : Array Nat} {q : Nat} (hm : ∀ j ∈ (List.range s.m).filter s.d, j < s.m) (hr : UnwRel w fb s.d s.m v wr) (hv : v = .slice (some ⟨gb, 0, none⟩) ((List.range s.m).filter s.d).length cap)
    (hgb : w.heap.size ≤ gb) (hH : Sort.Holds (ptrF fb s.m) wr gb 0 ((List.range s.m).filter s.d).toArray) (hp : Sort.PermIn 0 ((List.range s.m).filter s.d).toArray.size ((List.range s.m).filter s.d).toArray d')
    (hs : Sort.SortedIn (ltOf fun x y : Nat => cmpI (s.sec (x % s.m)) (s.sec (y % s.m))) 0 ((List.range s.m).filter s.d).toArray.size d') (e2 : w2 = (Sort.putRow (ptrF fb s.m) wr gb 0 d').drewN q) :
    UnwEnd w fb s (.returned v) w2 := by
  generalize hL : (List.range s.m).filter s.d = L at *
  obtain ⟨p1, _, p3⟩ := hp
  have hsz : d'.size = L.length := by rw [p1]; simp
  have hperm : d'.toList.Perm L := by
    have e1 : (d'.extract 0 L.toArray.size) = d' := by
      rw [← p1]
      exact Array.extract_size
    have e3 : (L.toArray.extract 0 L.toArray.size) = L.toArray := Array.extract_size
    rw [e1, e3] at p3
    exact p3
  have hmem : ∀ j ∈ d'.toList, j < s.m := fun j hj => hm j (hperm.mem_iff.1 hj)
  have hlen : d'.toList.length = L.length := by rw [Array.length_toList, hsz]
  have hat : ∀ i (h : i < d'.size), d'[i]! = d'.toList[i]'(by simpa using h) := fun i h => by
    rw [getElem!_pos d' i h]
    simp
  refine ⟨some ⟨gb, 0, none⟩, cap, d'.toList, by rw [hv, hlen], Or.inr ⟨gb, rfl, hgb, fun i j hij => ?_⟩, ⟨by rw [hL]; exact hperm, ?_⟩, ?_⟩
  · have hi : i < d'.size := by
      have := (List.getElem?_eq_some_iff.1 hij).1
      simpa using this
    have hc := (Sort.holds_putRow (ptrF fb s.m) wr gb 0 L.toArray d' hH (by rw [hsz]; simp) i hi).1
    rw [Nat.zero_add] at hc
    have ej : d'[i]! = j := by
      rw [hat i hi]
      exact (List.getElem?_eq_some_iff.1 hij).2
    rw [ej] at hc
    rw [e2]
    show (Sort.putRow (ptrF fb s.m) wr gb 0 d').cell? ⟨gb, i, none⟩ = _
    rw [hc]
    unfold ptrF
    rw [Nat.mod_eq_of_lt (hmem j (List.mem_of_getElem? hij))]
  · rw [List.pairwise_iff_getElem]
    intro i j hi hj hij
    have hi' : i < d'.size := by simpa using hi
    have hj' : j < d'.size := by simpa using hj
    have h1 := hs i j (Nat.zero_le _) hij (by rw [← p1]; exact hj')
    unfold ltOf at h1
    rw [ltI, hat i hi', hat j hj', Nat.mod_eq_of_lt (hmem _ (List.getElem_mem _)), Nat.mod_eq_of_lt (hmem _ (List.getElem_mem _))] at h1
    simp at h1
    exact h1
  · rw [e2]
    exact hr.2.2.trans (belowN (below_putRow _ _ _ _ hgb) _)

set_option maxRecDepth 20000 in
set_option maxHeartbeats 1600000 in
theorem unwritten_any (w : World) (hm12 : s.m ≤ 12) (h : PoolAt w F D pb fb cb rb db g s) :
    Calls Try.prog 31 #[.pointer (some ⟨pb, 0, none⟩)] w (UnwEnd w fb s) := by
  obtain ⟨i0, hi, hz0, hz1, hz2⟩ := info_parts ptrInfo
  have c1 := h.core.c1
  have hm1 := h.core.m1.1
  have hlp := h.core.lt _ h.core.fp
  have hlf := h.core.lt _ h.core.ff
  have H := Lib.hid h
  clear h
  go_enter Try.func31, Try.ntmps31
  go_wp2_with fail
  go_loopw [3, 11] (fun v i wr => ∃ k : Nat, k ≤ s.m ∧ i = .int .i64 k ∧ Hid (UnwRel w fb s.d k v wr)) (fun _ i _ => s.m - (RowKit.intOf i).toNat)
  case atStart => exact ⟨0, Nat.zero_le _, rfl, Lib.hid ⟨World.ownsRow_nil _ _ _ _, fun _ => rfl, Below.refl _ _⟩⟩
  case round =>
    obtain ⟨k, hk, rfl, hr⟩ := hrel
    have HP := Lib.hid (H.out.below hr.out.2.2)
    have c1 : wr.cell? ⟨pb, 1, none⟩ = some (.slice (some ⟨fb, 0, none⟩) s.m s.m) := HP.out.core.c1
    by_cases hlt : k < s.m
    · have d3 := HP.out.s3 hlt
      cases hd : s.d k with
      | false =>
        rw [hd] at d3
        have HN : Hid (UnwRel w fb s.d (k + 1) u3 wr) := Lib.hid (by unfold UnwRel; rw [js_no hd]; exact hr.out)
        clear hd
        go_wp2_with fail
        go_roundw
        case rel => exact ⟨k + 1, by omega, by go_num, HN⟩
        case measure => simp [RowKit.intOf]; omega
      | true =>
        rw [hd] at d3
        have HD := Lib.hid hd
        obtain ⟨h1, h2, h3⟩ := hr.out
        have hl := js_len s.d k
        have bs := h3.size
        generalize hM : ((List.range k).filter s.d).length = M at *
        clear hd h2
        go_wp2_with (at_builtin; refine wpList_append_own _ rfl (.tmp 24) (.tmp 26) 72 rfl w.heap.size 74 i0 (.pointer none) 1 8 Try.underlying72 hi hz0 hz1 hz2 rfl (by decide) _ _ _ rfl (h1.alloc _) ⟨wr.heap.size, 0, none⟩ 1 1 [.pointer (some ⟨fb, k * 4, none⟩)] rfl rfl (cell_one_new _ _ _) (by simp [Value.oneCell']) (by unfold maxLen; omega) (by omega) (by simp; omega) ?_; intro v3 w3 hown3 hg3 _)
        have HN : Hid (UnwRel w fb s.d (k + 1) v3 w3) := Lib.hid (by
          unfold UnwRel
          rw [js_yes HD.out]
          refine ⟨?_, fun e => by simp at e, (h3.alloc bs _).grown hg3 (by simp; omega) (fun g hg => (h1.lt g hg).1)⟩
          unfold ptrs at hown3 ⊢
          rw [List.length_append, hM, List.map_append]
          exact hown3)
        clear hown3 hg3 h1 h3
        go_wp2_with fail
        go_roundw
        case rel => exact ⟨k + 1, by omega, by go_num, HN⟩
        case measure => simp [RowKit.intOf]; omega
    · obtain rfl : k = s.m := by omega
      by_cases h0 : (List.range s.m).filter s.d = []
      · obtain rfl := hr.out.2.1 h0
        have HE : Hid (UnwEnd w fb s (.returned (.slice none 0 0)) wr) := Lib.hid ⟨none, 0, [], rfl, Or.inl rfl, ⟨by rw [h0], List.Pairwise.nil⟩, hr.out.2.2⟩
        clear hr h0
        go_wp2_with fail
        refine (sortF_none _ _).mono ?_
        rintro e w2 ⟨rfl, rfl⟩
        go_wp2_with fail
        go_ret
        exact HE.out
      · have hmem : ∀ j ∈ (List.range s.m).filter s.d, j < s.m := fun j hj => List.mem_range.1 (List.mem_filter.1 hj).1
        have hl := js_len s.d s.m
        have hpos : 0 < ((List.range s.m).filter s.d).length := List.length_pos_iff.2 h0
        have hrow := hr.out.1
        obtain ⟨gb, cap, e3, hgb⟩ : ∃ gb cap, u3 = .slice (some ⟨gb, 0, none⟩) ((List.range s.m).filter s.d).length cap ∧ w.heap.size ≤ gb := by
          rcases hrow.2 with ⟨_, h0⟩ | ⟨gb, cap, cur, e, hb, _⟩
          · omega
          · exact ⟨gb, cap, e, hb⟩
        have HR := hr
        rw [e3] at hrow
        have hH : Sort.Holds (ptrF fb s.m) wr gb 0 ((List.range s.m).filter s.d).toArray := fun j hj => by
          have hj' : j < ((List.range s.m).filter s.d).length := by simpa using hj
          refine ⟨?_, hrow.frozenAt _⟩
          rw [Nat.zero_add, hrow.cellAt j (by omega)]
          unfold ptrs ptrF
          rw [getElem!_pos _ j hj, List.getElem?_map, List.getElem?_eq_getElem hj']
          simp only [Option.map_some, List.getElem_toArray]
          rw [Nat.mod_eq_of_lt (hmem _ (List.getElem_mem _))]
        have HS := Lib.hid (sortF_any fb s.m gb cap s.sec ((List.range s.m).filter s.d).toArray wr hm1 (fun i hi => HP.out.s1 hi) (by omega) hH (by simp; omega))
        have HM := Lib.hid hmem
        have HH := Lib.hid hH
        have HE := Lib.hid e3
        have HB := Lib.hid hgb
        rw [List.size_toArray] at HS
        subst e3
        clear hr hrow hH hpos h0 hmem
        generalize hN : ((List.range s.m).filter s.d).length = N at *
        go_wp2_with fail
        refine HS.out.mono ?_
        rintro e w2 ⟨rfl, d', q, hp, hs, hw⟩
        have HU := Lib.hid (unw_sorted (w2 := w2) (cap := cap) HM.out HR.out (by rw [hN]) HB.out HH.out (by rw [List.size_toArray, hN]; exact hp) (by rw [List.size_toArray, hN]; exact hs) hw)
        clear hp hs hw
        go_wp2_with fail
        go_ret
        exact HU.out
end
end Go.Proofs.Ytgkdlbcpckdmkaa

/-
  What hold comes to: a frame comes to hold a sector's bytes, and is used.
-/
namespace Go.Proofs.Ytgkdlbcpckdmkaa
open Go.RowKit

section
variable {F D : Nat → Prop} {pb fb cb rb db : Nat} {g : Nat → Value} {s : PP}

theorem useS_n' (c : CS) (i : Int) : (c.useS i).n = c.n := by
  unfold CS.useS CS.setU
  split <;> rfl

/-- The clock was told of a use, behind a call. -/
theorem PoolAt.use {w w' : World} (h : PoolAt w F D pb fb cb rb db g s) (i : Nat) {v : Value} {e : Ending} (hg : CGoes w cb rb (s.c.useS i) v e w') : e = .returned v ∧ PoolAt w' F D pb fb cb rb db g (s.used i) ∧ Moves w F w' F := by
  obtain ⟨he, hc, hk⟩ := hg
  exact ⟨he, h.clock (useS_n' _ _) hc hk, hk.more (by rintro k (rfl | rfl); exact h.core.fc; exact h.core.fr), fun _ hF => Or.inl hF⟩

theorem hold_laid {w w2 w3 : World} (h : PoolAt w F D pb fb cb rb db g s) {i : Nat} {n : Int} (hn : s.k.has n = true) {v : Value} {l : List UInt8} (hl : l.length ≤ 1024)
    (e2 : w2 = (w.setCell ⟨fb, i * 4 + 1, none⟩ (.int .i64 n)).setCell ⟨fb, i * 4 + 2, none⟩ (.bool true)) (ho : Own w3 w2.heap.size v l) (hb : Below w2.heap.size w2 w3) :
    PoolAt (w3.setCell ⟨fb, i * 4, none⟩ v) (fun k => F k ∨ w.heap.size ≤ k ∧ k < (w3.setCell ⟨fb, i * 4, none⟩ v).heap.size) D pb fb cb rb db (at1 g i v) (s.lay i n l (s.d i)) ∧ Kept (· = fb) w (w3.setCell ⟨fb, i * 4, none⟩ v) := by
  have k2 : Kept (· = fb) w w2 := by
    rw [e2]
    exact (Kept.setCell (F := (· = fb)) w (a := ⟨fb, i * 4 + 1, none⟩) rfl _).next (Kept.setCell (F := (· = fb)) _ (a := ⟨fb, i * 4 + 2, none⟩) rfl _)
  have r2 : w2.rowIs fb 69 (s.m * 4) (frc g (at1 s.sec i n) (at1 s.ful i true) s.d) := by
    rw [e2]
    have r1 := (h.row.set (i * 4 + 1) (.int .i64 n)).congr (fun k _ => frc_set1 g s.sec s.ful s.d i n k)
    exact (r1.set (i * 4 + 2) (.bool true)).congr (fun k _ => frc_set2 g _ s.ful s.d i true k)
  have r3 := r2.of_block (hb.block _ r2.lt)
  have r4 := (r3.set (i * 4) v).congr (fun k _ => frc_set0 g (at1 s.sec i n) (at1 s.ful i true) s.d i v k)
  have k3 : Kept (· = fb) w (w3.setCell ⟨fb, i * 4, none⟩ v) := (k2.next (Kept.below hb _)).next (Kept.setCell (F := (· = fb)) _ (a := ⟨fb, i * 4, none⟩) rfl _)
  have hs : w2.heap.size = w.heap.size := by rw [e2]; simp [World.setCell]
  refine ⟨h.laid hn hl k3 ?_ r4, k3⟩
  rw [hs] at ho
  refine own_of_block ho (fun q hq => Below.heap_setCell _ _ _ _ (fun e => ?_))
  have h1 := (ho.lt q hq).1
  have h2 := h.core.lt fb h.core.ff
  have h3 : q = fb := e
  omega

set_option maxRecDepth 20000 in
set_option maxHeartbeats 800000 in
theorem hold_any (w : World) (i : Nat) (hi : i < s.m) (n : Int) (hn : s.k.has n = true) (A : Option Addr) (m c : Nat) (l : List UInt8) (hl : l.length = m) (h24 : m ≤ 1024) (hx : Out w F A l) (hz : A = none → m = 0 ∧ c = 0) (h : PoolAt w F D pb fb cb rb db g s) :
    Calls Try.prog 28 #[.pointer (some ⟨pb, 0, none⟩), .int .i64 i, .int .i64 n, .slice A m c] w (PEnd w F pb fb cb rb db ((s.lay i n l (s.d i)).used i) (.tuple #[])) := by
  have hm := h.core.m1.2
  have c1 := h.core.c1
  have d1 := h.s1 hi
  have d2 := h.s2 hi
  have f1 := h.sf (i * 4 + 1)
  have f2 := h.sf (i * 4 + 2)
  have H := Lib.hid h
  have HL := Lib.hid (show l.length ≤ 1024 by omega)
  have HN := Lib.hid hn
  have HX : Hid (Out ((w.setCell ⟨fb, i * 4 + 1, none⟩ (.int .i64 n)).setCell ⟨fb, i * 4 + 2, none⟩ (.bool true)) F A l) :=
    hx.kept ((Kept.setCell (F := F) w (a := ⟨fb, i * 4 + 1, none⟩) h.core.ff _).next (Kept.setCell (F := F) _ (a := ⟨fb, i * 4 + 2, none⟩) h.core.ff _))
  have HI := Lib.hid hi
  have HE := Lib.hid hl
  have HZ := Lib.hid hz
  clear h hn hx hl hz
  go_enter Try.func28, Try.ntmps28
  go_wp2_with fail
  have HR : Hid (((w.setCell ⟨fb, i * 4 + 1, none⟩ (.int .i64 n)).setCell ⟨fb, i * 4 + 2, none⟩ (.bool true)).rowIs fb 69 (s.m * 4) (frc g (at1 s.sec i n) (at1 s.ful i true) s.d)) :=
    ((((H.out.row.set (i * 4 + 1) (.int .i64 n)).congr (fun k _ => frc_set1 g s.sec s.ful s.d i n k)).set (i * 4 + 2) (.bool true)).congr (fun k _ => frc_set2 g _ s.ful s.d i true k))
  refine (play_any fb (i * 4) A m c _ l (g i) _ HX.out.bys HE.out (by omega) HZ.out ((HR.out.cell (by have := HI.out; omega)).trans (by rw [frc_0])) (HR.out.frozen _)).mono ?_
  rintro e w4 ⟨v, w3, rfl, ho, hb, rfl⟩
  obtain ⟨p4, k4⟩ := hold_laid H.out HN.out HL.out rfl ho hb
  have c2 := p4.core.c2
  have P4 := Lib.hid p4
  have K4 := Lib.hid k4
  clear p4 k4 ho hb c1 d1 d2 f1 f2 HR HX
  go_wp2_with fail
  refine (use_any _ (i : Int) P4.out.core.clk).mono ?_
  rintro e w5 hu
  obtain ⟨rfl, p5, m5⟩ := P4.out.use i hu
  have P5 := Lib.hid p5
  have M5 := Lib.hid m5
  clear p5 m5 hu c2
  go_wp2_with fail
  go_end0
  exact ⟨rfl, _, D, _, P5.out, (Moves.new (K4.out.more (by rintro k rfl; exact H.out.core.ff))).trans M5.out⟩
end
end Go.Proofs.Ytgkdlbcpckdmkaa

/-
  What next comes to: the frame that the clock's Victim will be.
-/
namespace Go.Proofs.Ytgkdlbcpckdmkaa
open Go.RowKit

/-- How far the places were looked through. -/
def NextRel (c : CS) (k : Nat) (sec : Int) (ok : Bool) : Prop :=
  (∀ d, d < k → c.p (c.at_ d) ≠ 0 ∨ c.u (c.at_ d) = true) ∧
  ((ok = false ∧ ∀ d, d < k → c.p (c.at_ d) ≠ 0) ∨ (ok = true ∧ ∃ d0, d0 < k ∧ c.p (c.at_ d0) = 0 ∧ (∀ d, d < d0 → c.p (c.at_ d) ≠ 0) ∧ sec = (c.at_ d0 : Nat)))

theorem NextRel.pinned {c : CS} {k : Nat} {sec : Int} {ok : Bool} (h : NextRel c k sec ok) (hp : c.p (c.at_ k) ≠ 0) : NextRel c (k + 1) sec ok := by
  refine ⟨fun d hd => ?_, ?_⟩
  · rcases Nat.lt_or_ge d k with e | e
    · exact h.1 d e
    · obtain rfl : d = k := by omega
      exact Or.inl hp
  · rcases h.2 with ⟨h1, h2⟩ | ⟨h1, d0, h2, h3⟩
    · refine Or.inl ⟨h1, fun d hd => ?_⟩
      rcases Nat.lt_or_ge d k with e | e
      · exact h2 d e
      · obtain rfl : d = k := by omega
        exact hp
    · exact Or.inr ⟨h1, d0, by omega, h3⟩
theorem NextRel.used {c : CS} {k : Nat} {sec : Int} (h : NextRel c k sec true) (hu : c.u (c.at_ k) = true) : NextRel c (k + 1) sec true := by
  refine ⟨fun d hd => ?_, ?_⟩
  · rcases Nat.lt_or_ge d k with e | e
    · exact h.1 d e
    · obtain rfl : d = k := by omega
      exact Or.inr hu
  · rcases h.2 with ⟨h1, h2⟩ | ⟨h1, d0, h2, h3⟩
    · cases h1
    · exact Or.inr ⟨h1, d0, by omega, h3⟩
theorem NextRel.first {c : CS} {k : Nat} {sec : Int} (h : NextRel c k sec false) (hp : c.p (c.at_ k) = 0) (hu : c.u (c.at_ k) = true) : NextRel c (k + 1) ((c.at_ k : Nat) : Int) true := by
  refine ⟨fun d hd => ?_, ?_⟩
  · rcases Nat.lt_or_ge d k with e | e
    · exact h.1 d e
    · obtain rfl : d = k := by omega
      exact Or.inr hu
  · rcases h.2 with ⟨h1, h2⟩ | ⟨h1, _⟩
    · exact Or.inr ⟨rfl, k, by omega, hp, h2, rfl⟩
    · cases h1

/-- What next answers. -/
def NextEnd (w : World) (c : CS) (e : Ending) (w' : World) : Prop :=
  ∃ (i : Int) (b : Bool), e = .returned (.tuple #[.int .i64 i, .bool b]) ∧ b = c.free ∧ (b = true → i = c.vicI) ∧ Below w.heap.size w w'

theorem NextRel.fresh {c : CS} {k : Nat} {sec : Int} {ok : Bool} (h : NextRel c k sec ok) (hh : c.h < c.n) (hk : k < c.n) (hp : c.p (c.at_ k) = 0) (hu : c.u (c.at_ k) = false) : true = c.free ∧ (true = true → ((c.at_ k : Nat) : Int) = c.vicI) :=
  ⟨(CS.free_at hh hk hp).symm, fun _ => (CS.vic_first hh hk h.1 hp hu).symm⟩
theorem NextRel.done {c : CS} {sec : Int} {ok : Bool} (h : NextRel c c.n sec ok) (hh : c.h < c.n) : ok = c.free ∧ (ok = true → sec = c.vicI) := by
  rcases h.2 with ⟨h1, h2⟩ | ⟨h1, d0, h2, h3, h4, h5⟩
  · subst h1
    exact ⟨(CS.not_free hh h2).symm, fun e => by cases e⟩
  · subst h1
    exact ⟨(CS.free_at hh h2 h3).symm, fun _ => h5.trans (CS.vic_second hh h2 h.1 h4 h3).symm⟩

section
variable {F D : Nat → Prop} {pb fb cb rb db : Nat} {g : Nat → Value} {s : PP}

theorem tmod_at {c : CS} (hh : c.h < c.n) {k : Nat} (hk : k < c.n) : Int.tmod ((c.h : Int) + (k : Int)) (c.n : Int) = ((c.at_ k : Nat) : Int) := by
  rw [CS.at_mod hh hk, ← Int.natCast_add, Int.ofNat_tmod]

set_option maxRecDepth 20000 in
set_option maxHeartbeats 1600000 in
theorem next_any (w : World) (h : PoolAt w F D pb fb cb rb db g s) :
    Calls Try.prog 42 #[.pointer (some ⟨pb, 0, none⟩)] w (NextEnd w s.c) := by
  have hm := h.core.m1
  have hcm := h.core.cm
  have c2 := h.core.c2
  have HLT := Lib.hid (h.core.lt _ h.core.fp)
  have HC := Lib.hid (h.drewN 1).core.clk
  have HP := Lib.hid h.core
  have hh := h.core.clk.hn
  clear h
  go_enter Try.func42, Try.ntmps42
  go_wp2_with fail
  have K0 : w.drew.cell? ⟨pb, 2, none⟩ = some (.pointer (some ⟨cb, 0, none⟩)) := c2
  go_region_held3 (fun w' => w'.cell? ⟨pb, 2, none⟩ = some (.pointer (some ⟨cb, 0, none⟩)))
    (first | exact K2 | exact K1 | exact K0)
    (first
      | (go_at_call 56; refine (pins_any w.drew HC.out).mono ?_; rintro e w1 ⟨rfl, hi1, hb1⟩; have K1 : w1.cell? ⟨pb, 2, none⟩ = some (.pointer (some ⟨cb, 0, none⟩)) := (hb1.cell HLT.out).trans K0)
      | (go_at_call 57; refine (used_any w1 (HC.out.below hb1)).mono ?_; rintro e w2 ⟨rfl, hu2, hb2⟩; have K2 : w2.cell? ⟨pb, 2, none⟩ = some (.pointer (some ⟨cb, 0, none⟩)) := (hb2.cell (Nat.lt_of_lt_of_le HLT.out hb1.size)).trans K1)
      | (go_at_call 58; refine (hand_any w2 ((HC.out.below hb1).below hb2)).mono ?_; rintro e w3 ⟨rfl, rfl⟩))
  have HB : Hid (Below w.heap.size w w2) := by
    have b1 : Below w.heap.size w w1 := undrew hb1
    exact b1.trans (hb2.mono b1.size)
  have c1 : w2.cell? ⟨pb, 1, none⟩ = some (.slice (some ⟨fb, 0, none⟩) s.m s.m) := (HB.out.cell HLT.out).trans HP.out.c1
  have hi2 := hi1.below hb2
  have HH := Lib.hid hh
  have HI := Lib.hid hi2
  have HU := Lib.hid hu2
  have HCM := Lib.hid hcm
  have hcn : s.c.h < s.m := by omega
  clear hi1 hu2 hb1 hb2 hi2 K0 K1 K2 hh c2 hcm HC
  go_wp2_with fail
  go_loopw [7, 8, 31] (fun a o i wr => ∃ (k : Nat) (sec : Int) (ok : Bool), k ≤ s.m ∧ i = .int .i64 k ∧ a = .int .i64 sec ∧ o = .bool ok ∧ Hid (NextRel s.c k sec ok) ∧ w2 = wr) (fun _ _ i _ => s.m - (RowKit.intOf i).toNat)
  case atStart => exact ⟨0, 0, false, Nat.zero_le _, rfl, rfl, rfl, Lib.hid ⟨fun d hd => absurd hd (by omega), Or.inl ⟨rfl, fun d hd => absurd hd (by omega)⟩⟩, rfl⟩
  case round =>
    obtain ⟨k, sec, ok, hk, rfl, rfl, rfl, hr, rfl⟩ := hrel
    by_cases hlt : k < s.m
    · have hkc : k < s.c.n := by rw [HCM.out]; exact hlt
      have HK := Lib.hid hkc
      have ht := tmod_at HH.out hkc
      rw [HCM.out] at ht
      have hj := CS.at_lt HH.out hkc
      obtain ⟨b1, o1, z1, e1, hz1, p1⟩ := HI.out.at_ (k := s.c.at_ k) (by rw [pinsL_len]; exact hj)
      obtain ⟨b2, o2, z2, e2, hz2, p2⟩ := HU.out.at_ (k := s.c.at_ k) (by rw [usedL_len]; exact hj)
      rw [pinsL_at s.c hj] at hz1
      rw [usedL_at s.c hj] at hz2
      obtain rfl := Option.some.inj hz1
      obtain rfl := Option.some.inj hz2
      injection e1 with e1
      injection e2 with e2
      injection e1 with e1 e1'
      injection e2 with e2 e2'
      subst e1 e1' e2 e2'
      rw [Nat.zero_add] at p1 p2
      rw [HCM.out] at hj
      generalize hJ : s.c.at_ k = j at *
      have HJ := Lib.hid hJ
      have q1 : w2.cell? ⟨w.heap.size, j, none⟩ = some (.int .i64 (s.c.p j : Int)) := p1
      clear p1
      by_cases hp : s.c.p j = 0
      · rw [hp] at q1
        cases hu : s.c.u j with
        | false =>
          rw [hu] at p2
          have HE := Lib.hid (hr.out.fresh HH.out hkc (by rw [hJ]; exact hp) (by rw [hJ]; exact hu))
          clear hp hu hkc hJ hz1 hz2
          go_wp2_with fail
          go_ret2
          exact ⟨_, true, rfl, HE.out.1, fun _ => by rw [← HJ.out]; exact HE.out.2 trivial, HB.out⟩
        | true =>
          rw [hu] at p2
          cases ok with
          | true =>
            have HN := Lib.hid (hr.out.used (by rw [hJ]; exact hu))
            clear hp hu hkc hJ hr hz1 hz2
            go_wp2_with fail
            go_roundw
            case rel => exact ⟨k + 1, sec, true, by omega, by go_num, rfl, rfl, HN, trivial⟩
            case measure => simp [RowKit.intOf]; omega
          | false =>
            have HN := Lib.hid (hr.out.first (by rw [hJ]; exact hp) (by rw [hJ]; exact hu))
            rw [hJ] at HN
            clear hp hu hkc hJ hr hz1 hz2
            go_wp2_with fail
            go_roundw
            case rel => exact ⟨k + 1, _, true, by omega, by go_num, rfl, rfl, HN, trivial⟩
            case measure => simp [RowKit.intOf]; omega
      · have HN := Lib.hid (hr.out.pinned (by rw [hJ]; exact hp))
        have hp' : (0 : Int) < (s.c.p j : Int) := by omega
        clear hp hkc hJ hr hz1 hz2 p2
        go_wp2_with fail
        go_roundw
        case rel => exact ⟨k + 1, sec, ok, by omega, by go_num, rfl, rfl, HN, trivial⟩
        case measure => simp [RowKit.intOf]; omega
    · obtain rfl : k = s.m := by omega
      have HN := Lib.hid ((show NextRel s.c s.c.n sec ok by rw [HCM.out]; exact hr.out).done HH.out)
      clear hr
      go_wp2_with fail
      go_ret2
      exact ⟨_, ok, rfl, HN.out.1, HN.out.2, HB.out⟩
end
end Go.Proofs.Ytgkdlbcpckdmkaa

/-
  What write comes to: what a frame holds is written, if it is dirty.
-/
namespace Go.Proofs.Ytgkdlbcpckdmkaa
open Go.RowKit

theorem own_outD {w : World} {D : Nat → Prop} {base : Nat} {A : Option Addr} {n c : Nat} {l : List UInt8} (o : Own w base (.slice A n c) l) (h : ∀ q, (Value.slice A n c).ownBlock = some q → ¬ D q) : Out w D A l := by
  rcases own_bys o with hb | ⟨b, off, e, _, hc⟩
  · exact Or.inl hb
  · exact Or.inr ⟨b, off, e, h b (by rw [e]; rfl), hc⟩

theorem Kept.cellAt {F : Nat → Prop} {w w' : World} (h : Kept F w w') {b j : Nat} (hb : b < w.heap.size) (hn : ¬ F b) : w'.cell? ⟨b, j, none⟩ = w.cell? ⟨b, j, none⟩ := World.cell?_of_block (w := w) (h.block b hb hn)

theorem Moves.setCell (w : World) {F : Nat → Prop} {a : Addr} (ha : F a.block) (v : Value) : Moves w F (w.setCell a v) F := ⟨Kept.setCell w ha v, fun _ h => Or.inl h⟩

/-- What write answers, and what there is behind it. -/
def PP.writeA (s : PP) (i : Nat) : Int × PP :=
  if s.d i then (if s.k.writeE (s.at_ i) (s.b i) = 0 then (0, s.washed i) else (s.k.writeE (s.at_ i) (s.b i), s.wrote i)) else (0, s)

section
variable {F D : Nat → Prop} {pb fb cb rb db : Nat} {g : Nat → Value} {s : PP}

theorem Fit.sec {s : PP} (_ : Fit s) {i : Nat} (hne : s.at_ i ≠ -1) : s.sec i = s.at_ i := by
  unfold PP.sec
  rw [if_neg hne]
theorem Fit.has {s : PP} (h : Fit s) {i : Nat} (hi : i < s.m) (hne : s.at_ i ≠ -1) : s.k.has (s.at_ i) = true := (h.rng i hi).resolve_left hne

theorem PoolAt.wrote {w w' : World} (h : PoolAt w F D pb fb cb rb db g s) (i : Nat) {v : Value} {e : Ending} (hg : Goes w D db (s.k.written (s.at_ i) (s.b i)) v e w') :
    e = .returned v ∧ ∃ F' D', PoolAt w' F' D' pb fb cb rb db g (s.wrote i) ∧ Moves w F w' F' ∧ Kept D w w' := by
  obtain ⟨he, D', hd, hN, hk⟩ := hg
  exact ⟨he, _, D', h.disk (PS.written_size _ _ _) hd hN hk, Moves.new (hk.more (fun k hD => h.core.fd k hD)), hk⟩

set_option maxRecDepth 20000 in
set_option maxHeartbeats 800000 in
theorem pwrite_any (w : World) (i : Nat) (hi : i < s.m) (hne : s.at_ i ≠ -1) (h : PoolAt w F D pb fb cb rb db g s) :
    Calls Try.prog 32 #[.pointer (some ⟨pb, 0, none⟩), .pointer (some ⟨fb, i * 4, none⟩)] w (PEnd w F pb fb cb rb db (s.writeA i).2 (.int .i64 (s.writeA i).1)) := by
  have hm := h.core.m1.2
  have d3 := h.s3 hi
  cases hd : s.d i with
  | false =>
    have e0 : s.writeA i = (0, s) := by unfold PP.writeA; rw [if_neg (by rw [hd]; decide)]
    rw [e0]
    rw [hd] at d3
    have H := Lib.hid h
    clear h hd e0 hne
    go_enter Try.func32, Try.ntmps32
    go_wp2_with fail
    go_ret
    exact ⟨rfl, F, D, g, H.out, Moves.refl _ _⟩
  | true =>
    rw [hd] at d3
    have c0 := h.core.c0
    have d1 := h.s1 hi
    rw [h.fit.sec hne] at d1
    obtain ⟨o1, o2, o3⟩ := h.own i hi
    obtain ⟨A, c, hv, hc, hz⟩ := own_slice o1
    have d0 := h.s0 hi
    rw [hv] at d0 o1 o3
    have hx := own_outD o1 (fun q hq => (o3 q hq).2)
    have hh := (s.k.has_at _).1 (h.fit.has hi hne)
    have h4 := h.core.dk.s4
    have HX := Lib.hid hx
    have HZ := Lib.hid hz
    have H := Lib.hid h
    have HI := Lib.hid hi
    have HD := Lib.hid hd
    have HNE := Lib.hid hne
    generalize hA : s.at_ i = n at *
    generalize hB : s.b i = l at *
    have HLT := Lib.hid (show pb < w.drew.heap.size ∧ fb < w.drew.heap.size from ⟨h.core.lt _ h.core.fp, h.core.lt _ h.core.ff⟩)
    obtain ⟨M, hM⟩ : ∃ M, l.length = M := ⟨_, rfl⟩
    rw [hM] at d0 hc o2
    rw [hM] at HZ
    have HM := Lib.hid hM
    have EA := Lib.hid hA
    have EB := Lib.hid hB
    clear h hx hd hz o1 o3 hv hA hB hne hM
    have HW : Hid (Calls Try.prog 49 #[.pointer (some ⟨db, 0, none⟩), .int .i64 n, .slice A M c] w.drew (Goes w.drew D db (s.k.written n l) (.int .i64 (s.k.writeE n l)))) :=
      write_any w.drew n (by omega) (by omega) A M c l HM.out HX.out HZ.out (H.out.drewN 1).core.dk
    go_enter Try.func32, Try.ntmps32
    go_wp2_with fail
    have K0 : w.drew.cell? ⟨pb, 0, none⟩ = some (.pointer (some ⟨db, 0, none⟩)) ∧ w.drew.cell? ⟨fb, i * 4 + 1, none⟩ = some (.int .i64 n) ∧ w.drew.cell? ⟨fb, i * 4, none⟩ = some (.slice A M c) := ⟨c0, d1, d0⟩
    go_region_held3 (fun w' => w'.cell? ⟨pb, 0, none⟩ = some (.pointer (some ⟨db, 0, none⟩)) ∧ w'.cell? ⟨fb, i * 4 + 1, none⟩ = some (.int .i64 n) ∧ w'.cell? ⟨fb, i * 4, none⟩ = some (.slice A M c))
      (first | exact K1 | exact K0)
      (first
        | (go_at_call 49; refine HW.out.mono ?_; intro e w2 hg2; obtain ⟨rfl, D2, hd2, hN2, hk2⟩ := hg2; have K1 := And.intro ((hk2.cellAt HLT.out.1 H.out.core.dp).trans K0.1) (And.intro ((hk2.cellAt HLT.out.2 H.out.core.df).trans K0.2.1) ((hk2.cellAt HLT.out.2 H.out.core.df).trans K0.2.2))))
    have hp2 : ∃ F' D', PoolAt w2 F' D' pb fb cb rb db g (s.wrote i) ∧ Moves w F w2 F' := by
      obtain ⟨-, F', D', p2, m2, -⟩ := (H.out.drewN 1).wrote i (v := .int .i64 (s.k.writeE n l)) (e := .returned (.int .i64 (s.k.writeE n l))) (w' := w2) ⟨rfl, D2, by rw [EA.out, EB.out]; exact hd2, hN2, hk2⟩
      exact ⟨F', D', p2, ⟨m2.kept.os, m2.kept.tape, m2.kept.output, m2.kept.size, m2.kept.block⟩, m2.news⟩
    obtain ⟨F', D', p2, m2⟩ := hp2
    have P2 := Lib.hid p2
    have M2 := Lib.hid m2
    have eW : s.writeA i = if s.k.writeE n l = 0 then (0, s.washed i) else (s.k.writeE n l, s.wrote i) := by
      unfold PP.writeA
      rw [if_pos HD.out, EA.out, EB.out]
    have EW := Lib.hid eW
    have f3 := p2.sf (i * 4 + 3)
    have d3' := p2.s3 (i := i) HI.out
    clear p2 m2 hd2 hN2 hk2 K0 K1 c0 d0 d1 d3 eW HW HX
    by_cases hE : s.k.writeE n l = 0
    · rw [hE]
      have EE : Hid (s.writeA i = (0, s.washed i)) := EW.out.trans (if_pos hE)
      clear hE EW
      go_wp2_with fail
      go_ret
      rw [EE.out]
      exact ⟨rfl, F', D', g, P2.out.setD i false (fun e => by cases e), M2.out.trans (Moves.setCell _ (a := ⟨fb, i * 4 + 3, none⟩) P2.out.core.ff _)⟩
    · have EE : Hid (s.writeA i = (s.k.writeE n l, s.wrote i)) := EW.out.trans (if_neg hE)
      have hb : (s.k.writeE n l != 0) = true := by rw [bne_iff_ne]; exact hE
      clear hE EW
      go_wp2_with fail
      go_ret
      rw [EE.out]
      exact ⟨rfl, F', D', g, P2.out, M2.out⟩
end
end Go.Proofs.Ytgkdlbcpckdmkaa

/-
  What room comes to: a frame that is empty, or is emptied.
-/
namespace Go.Proofs.Ytgkdlbcpckdmkaa
open Go.RowKit

/-- What room answers. -/
def PP.roomV (r : Option Nat × Int × PP) : Value := .tuple #[.int .i64 ((r.1.getD 0 : Nat) : Int), .int .i64 r.2.1]

theorem ful_iff (s : PP) (i : Nat) : s.ful i = true ↔ s.at_ i ≠ -1 := by
  unfold PP.ful
  simp
theorem gap_here {s : PP} {k : Nat} (hk : k < s.m) (hu : s.ful k = false) (hp : ∀ j, j < k → s.ful j = true) : s.gap = some k := by
  unfold PP.gap PP.first
  rw [List.find?_range_eq_some]
  refine ⟨?_, List.mem_range.2 hk, fun j hj => ?_⟩
  · unfold PP.ful at hu
    simpa using hu
  · have := hp j hj
    unfold PP.ful at this
    exact this
theorem gap_nowhere {s : PP} (hp : ∀ j, j < s.m → s.ful j = true) : s.gap = none := by
  unfold PP.gap PP.first
  rw [List.find?_eq_none]
  intro j hj h
  have := (ful_iff s j).1 (hp j (List.mem_range.1 hj))
  exact this (by simpa using h)

section
variable {F D : Nat → Prop} {pb fb cb rb db : Nat} {g : Nat → Value} {s : PP}

set_option maxRecDepth 20000 in
theorem frameInfo : (Try.prog.info? 69).map (fun i => (i.zero, i.size, i.bytes)) = some (some (.agg #[.slice none 0 0, .int .i64 0, .bool false, .bool false]), 4, 40) := by kernel_rfl
set_option maxRecDepth 20000 in
theorem frameInfo4 : (Try.prog.info? 69).map (·.size) = some 4 := by kernel_rfl

def noFrame : Array Value := #[.slice none 0 0, .int .i64 0, .bool false, .bool false]

theorem PoolAt.there {w : World} (h : PoolAt w F D pb fb cb rb db g s) {i : Nat} (hi : i < s.m) : w.there fb (i * 4) 4 := fun j hj => ⟨by rw [h.row.cell (by omega)]; rfl, h.sf _⟩

theorem PoolAt.voided {w : World} (h : PoolAt w F D pb fb cb rb db g s) (i : Nat) :
    ∃ g', PoolAt (w.setCells fb (i * 4) noFrame.toList) F D pb fb cb rb db g' (s.lay i (-1) [] false) ∧ Kept (· = fb) w (w.setCells fb (i * 4) noFrame.toList) := by
  have k1 : ∀ (w : World) (j : Nat) (v : Value), Kept (· = fb) w (w.setCell ⟨fb, j, none⟩ v) := fun w j v => Kept.setCell (F := (· = fb)) w (a := ⟨fb, j, none⟩) rfl _
  have r0 := (h.row.set (i * 4) (.slice none 0 0)).congr (fun k _ => frc_set0 g s.sec s.ful s.d i (.slice none 0 0) k)
  have r1 := (r0.set (i * 4 + 1) (.int .i64 0)).congr (fun k _ => frc_set1 _ s.sec s.ful s.d i 0 k)
  have r2 := (r1.set (i * 4 + 2) (.bool false)).congr (fun k _ => frc_set2 _ _ s.ful s.d i false k)
  have r3 := (r2.set (i * 4 + 3) (.bool false)).congr (fun k _ => frc_set3 _ _ _ s.d i false k)
  have hk : Kept (· = fb) w (w.setCells fb (i * 4) noFrame.toList) := (((k1 _ _ _).next (k1 _ _ _)).next (k1 _ _ _)).next (k1 _ _ _)
  exact ⟨_, h.void hk r3, hk⟩

theorem pvic_none {c : CS} (hf : c.free = false) : c.vicI = 0 ∧ c.vicE = 60 ∧ c.vicS = c := by
  have hw : c.way = none := by
    unfold CS.way
    rw [if_neg (by rw [hf]; decide)]
  unfold CS.vicI CS.vicE CS.vicS
  rw [hw]
  exact ⟨rfl, rfl, rfl⟩

theorem room_void {s t : PP} {v : Nat} (hg : s.gap = none) (hf : s.c.free = true) (hv : s.c.vicI = v) (ht : (s.writeA v).1 = 0) (e : t = (s.writeA v).2) : s.room = (some v, 0, PP.lay { t with c := t.c.vicS } v (-1) [] false) ∧ t.c = s.c ∧ t.m = s.m := by
  subst e
  unfold PP.room
  rw [hg]
  simp only [hf, if_true, hv, Int.toNat_natCast]
  unfold PP.writeA at ht ⊢
  cases hd : s.d v with
  | false =>
    simp only [Bool.false_eq_true, if_false]
    exact ⟨trivial, trivial, trivial⟩
  | true =>
    rw [hd] at ht
    simp only [if_true] at ht ⊢
    by_cases hE : s.k.writeE (s.at_ v) (s.b v) = 0
    · simp only [if_pos hE]
      refine ⟨?_, rfl, rfl⟩
      refine congrArg (fun x => (some v, (0 : Int), x)) ?_
      unfold PP.lay PP.washed PP.wrote
      congr 1
      funext j
      show (if j = v then false else s.d j) = (if j = v then false else if j = v then false else s.d j)
      by_cases ej : j = v
      · rw [if_pos ej, if_pos ej]
      · rw [if_neg ej, if_neg ej]
    · simp only [if_neg hE] at ht
      exact absurd ht hE

theorem room_err {s : PP} {v : Nat} (hg : s.gap = none) (hf : s.c.free = true) (hv : s.c.vicI = v) (ht : (s.writeA v).1 ≠ 0) : s.room = (none, (s.writeA v).1, (s.writeA v).2) := by
  unfold PP.room
  rw [hg]
  simp only [hf, if_true, hv, Int.toNat_natCast]
  unfold PP.writeA at ht ⊢
  cases hd : s.d v with
  | false =>
    rw [hd] at ht
    exact absurd rfl ht
  | true =>
    rw [hd] at ht
    simp only [if_true] at ht ⊢
    by_cases hE : s.k.writeE (s.at_ v) (s.b v) = 0
    · rw [if_pos hE] at ht
      exact absurd rfl ht
    · rw [if_neg hE, if_neg hE]

theorem room_full' {s : PP} (hg : s.gap = none) (hf : s.c.free = false) : s.room = (none, 60, s) := by
  unfold PP.room
  rw [hg]
  simp only [hf]
  rfl

set_option maxRecDepth 20000 in
set_option maxHeartbeats 1600000 in
theorem room_any (w : World) (h : PoolAt w F D pb fb cb rb db g s) :
    Calls Try.prog 27 #[.pointer (some ⟨pb, 0, none⟩)] w (PEnd w F pb fb cb rb db s.room.2.2 (PP.roomV s.room)) := by
  have hm := h.core.m1.2
  have c1 := h.core.c1
  have H := Lib.hid h
  clear h
  go_enter Try.func27, Try.ntmps27
  go_wp2_with fail
  go_loopw [15] (fun i wr => ∃ k : Nat, k ≤ s.m ∧ i = .int .i64 k ∧ Hid (∀ j, j < k → s.ful j = true) ∧ w = wr) (fun i _ => s.m - (RowKit.intOf i).toNat)
  case atStart => exact ⟨0, Nat.zero_le _, rfl, Lib.hid (fun j hj => by omega), rfl⟩
  case round =>
    obtain ⟨k, hk, rfl, hpre, rfl⟩ := hrel
    by_cases hlt : k < s.m
    · have d2 := H.out.s2 hlt
      cases hu : s.ful k with
      | true =>
        rw [hu] at d2
        have HP : Hid (∀ j, j < k + 1 → s.ful j = true) := fun j hj => by
          rcases Nat.lt_or_ge j k with e | e
          · exact hpre.out j e
          · obtain rfl : j = k := by omega
            exact hu
        clear hu hpre
        go_wp2_with fail
        go_roundw
        case rel => exact ⟨k + 1, by omega, by go_num, HP, trivial⟩
        case measure => simp [RowKit.intOf]; omega
      | false =>
        rw [hu] at d2
        have HE : Hid (s.room = (some k, 0, s)) := Lib.hid (by unfold PP.room; rw [gap_here hlt hu hpre.out])
        clear hu hpre
        go_wp2_with fail
        go_ret2
        rw [HE.out]
        exact ⟨rfl, F, D, g, H.out, Moves.refl _ _⟩
    · obtain rfl : k = s.m := by omega
      have HG := Lib.hid (gap_nowhere hpre.out)
      clear hpre
      go_wp2_with fail
      refine (next_any _ H.out).mono ?_
      rintro e w1 ⟨i, b, rfl, hb, hi, hbw⟩
      have p1 := H.out.below hbw
      have P1 := Lib.hid p1
      have B1 := Lib.hid hbw
      have d1 := p1.core.c1
      have d2 := p1.core.c2
      clear c1 p1 hbw
      cases hf : s.c.free with
      | false =>
        rw [hf] at hb
        subst hb
        obtain ⟨v1, v2, v3⟩ := pvic_none hf
        have HV := Lib.hid (victim_any w1 P1.out.core.clk)
        rw [v1, v2, v3] at HV
        have HE := Lib.hid (room_full' HG.out hf)
        clear v1 v2 v3 hf hi
        go_wp2_with fail
        refine HV.out.mono ?_
        rintro e w2 ⟨rfl, hc2, hk2⟩
        have P2 := Lib.hid (P1.out.clock rfl hc2 hk2)
        have K2 := Lib.hid hk2
        clear hc2 hk2 d1 d2
        go_wp2_with fail
        go_ret2
        rw [HE.out]
        exact ⟨rfl, F, D, g, P2.out, (Moves.of_below B1.out).trans ⟨K2.out.more (by rintro k (rfl | rfl); exact P1.out.core.fc; exact P1.out.core.fr), fun _ hk => Or.inl hk⟩⟩
      | true =>
        rw [hf] at hb
        subst hb
        obtain ⟨r, hw, _, gr⟩ := CS.way_of P1.out.core.clk.hn hf
        obtain ⟨v1, v2, v3⟩ := CS.vic_of hw
        obtain rfl := hi rfl
        have hvm : r.1 < s.m := by
          have := gr.lt
          rw [P1.out.core.cm] at this
          exact this
        have HV1 := Lib.hid v1
        have HV2 := Lib.hid v2
        have HF := Lib.hid hf
        have HVM := Lib.hid hvm
        rw [v1]
        generalize hR : r.1 = v at *
        have hW := pwrite_any w1 v hvm (PP.gap_none HG.out v hvm) P1.out
        have HW := Lib.hid hW
        clear hW hf hi v1 v2 v3 gr hw hR
        go_wp2_with fail
        refine HW.out.mono ?_
        rintro e w2 ⟨rfl, F2, D2, g2, p2, m2⟩
        have HM2 := Lib.hid m2
        clear m2
        by_cases hE : (s.writeA v).1 = 0
        · obtain ⟨r1, r2, r3⟩ := room_void HG.out HF.out HV1.out hE rfl
          have HE := Lib.hid r1
          rw [hE]
          generalize (s.writeA v).2 = t at *
          have HV := Lib.hid (victim_any w2 p2.core.clk)
          rw [r2, HV1.out, HV2.out] at HV
          have P2 := Lib.hid p2
          have HTC := Lib.hid r2
          have HTM := Lib.hid r3
          have d3 := p2.core.c2
          clear p2 r1 r2 r3 hE d1 d2
          go_wp2_with fail
          refine HV.out.mono ?_
          rintro e w3 ⟨rfl, hc3, hk3⟩
          rw [← HTC.out] at hc3
          have p3 := P2.out.clock (CS.vicS_n P2.out.core.clk.hn) hc3 hk3
          have P3 := Lib.hid p3
          have K3 := Lib.hid hk3
          have d4 := p3.core.c1
          have hvt : v < ({ t with c := t.c.vicS } : PP).m := by
            show v < t.m
            rw [HTM.out]
            exact HVM.out
          have q0 := p3.s0 hvt
          have q1 := p3.s1 hvt
          have q2 := p3.s2 hvt
          have q3 := p3.s3 hvt
          have y0 := p3.sf (v * 4)
          have y1 := p3.sf (v * 4 + 1)
          have y2 := p3.sf (v * 4 + 2)
          have y3 := p3.sf (v * 4 + 3)
          obtain ⟨g4, p4, k4⟩ := p3.voided v
          have P4 := Lib.hid p4
          have K4 := Lib.hid k4
          have d5 : w3.cell? ⟨pb, 1, none⟩ = some (.slice (some ⟨fb, 0, none⟩) s.m s.m) := by
            rw [← HTM.out]
            exact d4
          clear p3 hc3 hk3 d3 d4 p4 k4 hvt
          go_wp2_with fail
          go_ret2
          rw [HE.out]
          exact ⟨rfl, F2, D2, g4, P4.out, (((Moves.of_below B1.out).trans HM2.out).trans ⟨K3.out.more (by rintro k (rfl | rfl); exact P2.out.core.fc; exact P2.out.core.fr), fun _ hk => Or.inl hk⟩).trans ⟨K4.out.more (by rintro k rfl; exact P2.out.core.ff), fun _ hk => Or.inl hk⟩⟩
        · have HE := Lib.hid (room_err HG.out HF.out HV1.out hE)
          have P2 := Lib.hid p2
          have hb : ((s.writeA v).1 != 0) = true := by rw [bne_iff_ne]; exact hE
          generalize (s.writeA v).1 = E at *
          clear p2 hE d1 d2
          go_wp2_with fail
          go_ret2
          rw [HE.out]
          exact ⟨rfl, F2, D2, g2, P2.out, (Moves.of_below B1.out).trans HM2.out⟩
end
end Go.Proofs.Ytgkdlbcpckdmkaa

/-
  What fetch comes to, and Get, Pin, Unpin on it.
-/
namespace Go.Proofs.Ytgkdlbcpckdmkaa
open Go.RowKit

/-- The frame of a sector, or an error; and what stands behind it. -/
def PP.fetch (s : PP) (n : Int) : Option Nat × Int × PP :=
  match s.find n with
  | some i => (some i, 0, s.used i)
  | none =>
    if s.k.readE n = 0 then
      match s.room with
      | (some i, _, t) => (some i, 0, (t.lay i n (s.k.readB n) false).used i)
      | (none, e, t) => (none, e, t)
    else (none, s.k.readE n, s)

/-- What Get answers, out of fetch's answer. -/
def PP.gotA : Option Nat × Int × PP → Int × List UInt8 × PP
  | (some i, _, t) => (0, t.b i, t)
  | (none, e, t) => (e, [], t)

theorem PP.get_fetch (s : PP) (n : Int) : s.get n = PP.gotA (s.fetch n) := by
  unfold PP.get PP.fetch PP.gotA
  cases hf : s.find n with
  | some i => rfl
  | none =>
    by_cases hr : s.k.readE n = 0
    · simp only [if_pos hr]
      rcases hq : s.room with ⟨_ | i, e, t⟩
      · rfl
      · show _ = (0, (if i = i then s.k.readB n else t.b i), _)
        rw [if_pos rfl]
    · simp only [if_neg hr]

theorem writeA_at (s : PP) (v : Nat) : (s.writeA v).2.at_ = s.at_ ∧ (s.writeA v).2.m = s.m ∧ (s.writeA v).2.k.size = s.k.size := by
  unfold PP.writeA
  split
  · split
    · exact ⟨rfl, rfl, PS.written_size _ _ _⟩
    · exact ⟨rfl, rfl, PS.written_size _ _ _⟩
  · exact ⟨rfl, rfl, rfl⟩

/-- What is told of room's answer. -/
theorem room_tells {s t : PP} {o : Option Nat} {e : Int} (hh : s.c.h < s.c.n) (hn : s.c.n = s.m) (h : s.room = (o, e, t)) :
    t.m = s.m ∧ t.k.size = s.k.size ∧ (∀ i, o = some i → i < s.m ∧ t.at_ i = -1 ∧ e = 0) ∧ (o = none → e ≠ 0) := by
  cases hg : s.gap with
  | some i =>
    have h1 : s.room = (some i, 0, s) := by unfold PP.room; rw [hg]
    rw [h1] at h
    injection h with h2 h3
    injection h3 with h3 h4
    subst h2 h3 h4
    exact ⟨rfl, rfl, fun j hj => by
      obtain rfl := Option.some.inj hj
      exact ⟨(PP.gap_some hg).1, (PP.gap_some hg).2, rfl⟩, fun e => by cases e⟩
  | none =>
    cases hf : s.c.free with
    | false =>
      rw [room_full' hg hf] at h
      injection h with h2 h3
      injection h3 with h3 h4
      subst h2 h3 h4
      exact ⟨rfl, rfl, fun j hj => (by cases hj), fun _ => (by omega)⟩
    | true =>
      obtain ⟨r, hw, _, gr⟩ := CS.way_of hh hf
      obtain ⟨v1, _, _⟩ := CS.vic_of hw
      have hlt := gr.lt
      rw [hn] at hlt
      obtain ⟨a1, a2, a3⟩ := writeA_at s r.1
      by_cases hE : (s.writeA r.1).1 = 0
      · obtain ⟨r1, r2, r3⟩ := room_void hg hf v1 hE rfl
        rw [r1] at h
        injection h with h2 h3
        injection h3 with h3 h4
        subst h2 h3 h4
        refine ⟨r3, a3, fun j hj => ?_, fun e => by cases e⟩
        obtain rfl := Option.some.inj hj
        exact ⟨hlt, if_pos rfl, rfl⟩
      · rw [room_err hg hf v1 hE] at h
        injection h with h2 h3
        injection h3 with h3 h4
        subst h2 h3 h4
        exact ⟨a2, a3, fun j hj => (by cases hj), fun _ => hE⟩

section
variable {F D : Nat → Prop} {pb fb cb rb db : Nat} {g : Nat → Value} {s : PP}

theorem readB_le {k : PS} (h : k.Ok) (n : Int) : (k.readB n).length ≤ 1024 := by
  unfold PS.readB
  split
  · simp
  · split
    · exact PS.held_le h n
    · simp
theorem readE_has {k : PS} {n : Int} (h : k.readE n = 0) : k.has n = true := by
  unfold PS.readE at h
  split at h
  · cases h
  · split at h
    · assumption
    · cases h

theorem Moves.clk {w w' : World} (h : PoolAt w F D pb fb cb rb db g s) (hk : Kept (Two cb rb) w w') : Moves w F w' F :=
  ⟨hk.more (by rintro k (rfl | rfl); exact h.core.fc; exact h.core.fr), fun _ hk => Or.inl hk⟩

set_option maxRecDepth 20000 in
set_option maxHeartbeats 1600000 in
theorem fetch_any (w : World) (n : Int) (h1 : -9223372036854775808 ≤ n) (h2 : n ≤ 9223372036854775807) (h : PoolAt w F D pb fb cb rb db g s) :
    Calls Try.prog 29 #[.pointer (some ⟨pb, 0, none⟩), .int .i64 n] w (PEnd w F pb fb cb rb db (s.fetch n).2.2 (PP.roomV (s.fetch n))) := by
  have c0 := h.core.c0
  have c2 := h.core.c2
  have H := Lib.hid h
  have HM := Lib.hid (made_yes w pb db c0)
  have HF := Lib.hid (find_any w n h)
  have HR := Lib.hid (read_any w n h1 h2 h.core.dk)
  clear h h1 h2
  go_enter Try.func29, Try.ntmps29
  go_wp2_with fail
  refine HM.out.mono ?_
  rintro e w' ⟨rfl, rfl⟩
  clear HM
  go_wp2_with fail
  refine HF.out.mono ?_
  rintro e w' ⟨rfl, rfl⟩
  clear HF
  cases hf : s.find n with
  | some i =>
    have HE : Hid (s.fetch n = (some i, 0, s.used i)) := Lib.hid (by unfold PP.fetch; rw [hf])
    clear hf HR
    unfold findA
    go_wp2_with fail
    refine (use_any _ (i : Int) H.out.core.clk).mono ?_
    rintro e w1 hu
    obtain ⟨rfl, p1, m1⟩ := H.out.use i hu
    have P1 := Lib.hid p1
    have M1 := Lib.hid m1
    clear p1 m1 hu c0 c2
    go_wp2_with fail
    go_ret2
    rw [HE.out]
    exact ⟨rfl, F, D, g, P1.out, M1.out⟩
  | none =>
    unfold findA
    have HFN := Lib.hid hf
    clear hf
    go_wp2_with fail
    refine HR.out.mono ?_
    rintro e w1 ⟨A, c, rfl, ho, hb⟩
    have P1 := Lib.hid (H.out.below hb)
    have HX : Hid (Out w1 F A (s.k.readB n)) := own_outD ho (fun q hq hF => by
      have := (ho.lt q hq).1
      have := H.out.core.lt q hF
      omega)
    obtain ⟨_, _, e1, _, hz⟩ := own_slice ho
    injection e1 with e1 e2 e3
    subst e1 e3
    have HZ := Lib.hid hz
    have HB := Lib.hid hb
    have hl := readB_le H.out.core.dk.ok n
    obtain ⟨M, hM⟩ : ∃ M, (s.k.readB n).length = M := ⟨_, rfl⟩
    rw [hM] at hl
    rw [hM]
    rw [hM] at HZ
    have HL := Lib.hid hM
    clear hb ho hz e2 hM HR c0 c2
    by_cases hr : s.k.readE n = 0
    · have HE : Hid (s.fetch n = match s.room with
          | (some i, _, t) => (some i, 0, (t.lay i n (s.k.readB n) false).used i)
          | (none, e, t) => (none, e, t)) := Lib.hid (by unfold PP.fetch; rw [HFN.out]; simp only [if_pos hr])
      have HH := Lib.hid (readE_has hr)
      have HLE := Lib.hid hl
      rw [hr]
      clear hr
      go_wp2_with fail
      refine (room_any _ P1.out).mono ?_
      rintro e w2 ⟨rfl, F2, D2, g2, p2, m2⟩
      have HMM := Lib.hid m2
      rcases hq : s.room with ⟨o, er, t⟩
      rw [hq] at p2
      obtain ⟨t1, t2, t3, t4⟩ := room_tells P1.out.core.clk.hn P1.out.core.cm hq
      have T1 := Lib.hid t1
      have T2 := Lib.hid t2
      have P2 := Lib.hid p2
      cases o with
      | none =>
        have hb : (er != 0) = true := by rw [bne_iff_ne]; exact t4 rfl
        have HE2 : Hid (s.fetch n = (none, er, t)) := Lib.hid (by rw [HE.out, hq])
        clear p2 m2 hq t1 t2 t3 t4 HE HX hl
        unfold PP.roomV
        go_wp2_with fail
        go_ret2
        rw [HE2.out]
        exact ⟨rfl, F2, D2, g2, P2.out, (Moves.of_below HB.out).trans HMM.out⟩
      | some i =>
        obtain ⟨i1, i2, rfl⟩ := t3 i rfl
        have HX2 := Lib.hid (HMM.out.out HX.out)
        have hit : i < t.m := by rw [t1]; exact i1
        have hd : t.d i = false := p2.fit.vd i hit i2
        have hkn : t.k.has n = true := by
          rw [t.k.has_at, t2, ← s.k.has_at]
          exact HH.out
        have HE2 : Hid (s.fetch n = (some i, 0, (t.lay i n (s.k.readB n) (t.d i)).used i)) := Lib.hid (by rw [HE.out, hq, hd])
        have HO := Lib.hid (hold_any w2 i hit n hkn A M c (s.k.readB n) HL.out HLE.out HX2.out HZ.out p2)
        clear p2 m2 hq t1 t2 t3 t4 HE HX HX2 i1 i2 hd hkn hit hl
        unfold PP.roomV
        go_wp2_with fail
        refine HO.out.mono ?_
        rintro e w3 ⟨rfl, F3, D3, g3, p3, m3⟩
        have P3 := Lib.hid p3
        have M3 := Lib.hid m3
        clear p3 m3 HO
        go_wp2_with fail
        go_ret2
        rw [HE2.out]
        exact ⟨rfl, F3, D3, g3, P3.out, ((Moves.of_below HB.out).trans HMM.out).trans M3.out⟩
    · have HE : Hid (s.fetch n = (none, s.k.readE n, s)) := Lib.hid (by unfold PP.fetch; rw [HFN.out]; simp only [if_neg hr])
      have hb : (s.k.readE n != 0) = true := by rw [bne_iff_ne]; exact hr
      clear hr hl
      go_wp2_with fail
      go_ret2
      rw [HE.out]
      exact ⟨rfl, F, D, g, P1.out, Moves.of_below HB.out⟩
end
end Go.Proofs.Ytgkdlbcpckdmkaa

/-
  What the pool's Flush comes to.
-/
namespace Go.Proofs.Ytgkdlbcpckdmkaa
open Go.RowKit

/-- Frames are written, one behind the other, till the first error. -/
def PP.washL : List Nat → PP → Int × PP
  | [], s => (0, s)
  | j :: js, s => if (s.writeA j).1 = 0 then washL js (s.writeA j).2 else s.writeA j

/-- All that is dirty is written; then the disk is flushed. -/
def PP.flushA (s : PP) (js : List Nat) : Int × PP :=
  if (s.washL js).1 = 0 then ((s.washL js).2.k.flushE, { (s.washL js).2 with k := (s.washL js).2.k.flushed }) else s.washL js

def FlushEnd (w : World) (F : Nat → Prop) (pb fb cb rb db : Nat) (s : PP) (e : Ending) (w' : World) : Prop :=
  ∃ js, Js s js ∧ PEnd w F pb fb cb rb db (s.flushA js).2 (.int .i64 (s.flushA js).1) e w'

/-- As far as the frames were written. -/
def WashRel (w : World) (F : Nat → Prop) (pb fb cb rb db : Nat) (s : PP) (js : List Nat) (q : Nat) (wr : World) : Prop :=
  ∃ F' D' g' t, PoolAt wr F' D' pb fb cb rb db g' t ∧ Moves w F wr F' ∧ t.washL (js.drop q) = s.washL js ∧ t.at_ = s.at_ ∧ t.m = s.m

section
variable {F D : Nat → Prop} {pb fb cb rb db : Nat} {g : Nat → Value} {s : PP}

theorem Js.mem {js : List Nat} (h : Js s js) {q j : Nat} (hq : js[q]? = some j) : j < s.m ∧ s.d j = true := by
  have h1 := h.perm.mem_iff.1 (List.mem_of_getElem? hq)
  rw [List.mem_filter] at h1
  exact ⟨List.mem_range.1 h1.1, h1.2⟩

set_option maxRecDepth 20000 in
set_option maxHeartbeats 1600000 in
theorem pflush_any (w : World) (hm12 : s.m ≤ 12) (h : PoolAt w F D pb fb cb rb db g s) :
    Calls Try.prog 12 #[.pointer (some ⟨pb, 0, none⟩)] w (FlushEnd w F pb fb cb rb db s) := by
  have H := Lib.hid h
  have HM := Lib.hid (made_yes w pb db h.core.c0)
  have HU := Lib.hid (unwritten_any w hm12 h)
  clear h
  go_enter Try.func12, Try.ntmps12
  go_wp2_with fail
  refine HM.out.mono ?_
  rintro e w' ⟨rfl, rfl⟩
  clear HM
  go_wp2_with fail
  refine HU.out.mono ?_
  rintro e w1 ⟨A, c, js, rfl, hp, hj, hb⟩
  have HP := Lib.hid hp
  have HJ := Lib.hid hj
  have HB := Lib.hid hb
  have hlen : js.length ≤ 12 := by
    have := hj.perm.length_eq
    have := js_len s.d s.m
    omega
  have H1 := Lib.hid (H.out.below hb)
  obtain ⟨N, hN⟩ : ∃ N, js.length = N := ⟨_, rfl⟩
  have HN := Lib.hid hN
  rw [hN] at hlen
  rw [hN]
  clear hp hj hb HU hN
  go_wp2_with fail
  go_loopw [12] (fun i wr => ∃ q : Nat, q ≤ N ∧ i = .int .i64 q ∧ Hid (WashRel w1 F pb fb cb rb db s js q wr)) (fun i _ => N - (RowKit.intOf i).toNat)
  case atStart => exact ⟨0, Nat.zero_le _, rfl, Lib.hid ⟨F, D, g, s, H1.out, Moves.refl _ _, rfl, rfl, rfl⟩⟩
  case round =>
    obtain ⟨q, hq, rfl, hr⟩ := hrel
    obtain ⟨F', D', g', t, ht, hm, hw, ha, hmm⟩ := hr.out
    by_cases hlt : q < N
    · have hlq : q < js.length := by rw [HN.out]; exact hlt
      obtain ⟨j, hJ⟩ : ∃ j, js[q]'hlq = j := ⟨_, rfl⟩
      have hqj : js[q]? = some j := by rw [← hJ]; exact List.getElem?_eq_getElem hlq
      obtain ⟨j1, j2⟩ := HJ.out.mem hqj
      have hat : t.at_ j ≠ -1 := by
        rw [ha]
        intro e
        have := H.out.fit.vd j j1 e
        rw [j2] at this
        cases this
      have hjt : j < t.m := by rw [hmm]; exact j1
      have hdrop : js.drop q = j :: js.drop (q + 1) := by
        rw [List.drop_eq_getElem_cons hlq, hJ]
      obtain ⟨b, hA, hbb, hbc⟩ : ∃ b, A = some ⟨b, 0, none⟩ ∧ w.heap.size ≤ b ∧ ∀ i j, js[i]? = some j → w1.cell? ⟨b, i, none⟩ = some (.pointer (some ⟨fb, j * 4, none⟩)) := by
        rcases HP.out with e | e
        · rw [e] at hlq
          exact absurd hlq (by simp)
        · exact e
      have hcell : wr.cell? ⟨b, q, none⟩ = some (.pointer (some ⟨fb, j * 4, none⟩)) := by
        have h0 := hbc q j hqj
        have hlb := World.block_lt_of_cell? _ _ h0
        have hnF : ¬ F b := fun hF => by
          have := H.out.core.lt b hF
          omega
        exact (World.cell?_of_block (w := w1) (hm.block hlb hnF).1).trans h0
      have HW := Lib.hid (pwrite_any wr j hjt hat ht)
      have HM1 := Lib.hid hm
      obtain ⟨a1, a2, _⟩ := writeA_at t j
      have HA := Lib.hid (a1.trans ha)
      have HMM := Lib.hid (a2.trans hmm)
      rw [hdrop] at hw
      have HWL : Hid ((if (t.writeA j).1 = 0 then PP.washL (js.drop (q + 1)) (t.writeA j).2 else t.writeA j) = s.washL js) := hw
      subst hA
      clear hr ht hm hw ha hmm hqj hJ j1 j2 hat hjt hdrop hbc hbb a1 a2 hlq
      go_wp2_with fail
      refine HW.out.mono ?_
      rintro e w2 ⟨rfl, F2, D2, g2, p2, m2⟩
      have P2 := Lib.hid p2
      have M2 := Lib.hid m2
      clear p2 m2 HW hcell
      by_cases hE : (t.writeA j).1 = 0
      · have HE : Hid (PP.washL (js.drop (q + 1)) (t.writeA j).2 = s.washL js) := Lib.hid (by rw [← HWL.out, if_pos hE])
        rw [hE]
        clear hE HWL
        go_wp2_with fail
        go_roundw
        case rel => exact ⟨q + 1, by omega, by go_num, Lib.hid ⟨F2, D2, g2, _, P2.out, HM1.out.trans M2.out, HE.out, HA.out, HMM.out⟩⟩
        case measure => simp [RowKit.intOf]; omega
      · have hb : ((t.writeA j).1 != 0) = true := by rw [bne_iff_ne]; exact hE
        have HE : Hid (s.flushA js = t.writeA j) := Lib.hid (by
          unfold PP.flushA
          rw [← HWL.out, if_neg hE, if_neg hE])
        clear hE HWL
        go_wp2_with fail
        go_ret
        refine ⟨js, HJ.out, ?_⟩
        rw [HE.out]
        exact ⟨rfl, F2, D2, g2, P2.out, ((Moves.of_below HB.out).trans HM1.out).trans M2.out⟩
    · obtain rfl : q = N := by omega
      rw [List.drop_eq_nil_of_le (by rw [HN.out]; exact Nat.le_refl _)] at hw
      have HE : Hid (s.flushA js = (t.k.flushE, { t with k := t.k.flushed })) := Lib.hid (by
        unfold PP.flushA
        rw [← hw]
        rfl)
      have HT := Lib.hid ht
      have c0 := ht.core.c0
      have HM1 := Lib.hid hm
      clear hr ht hm hw ha hmm
      go_wp2_with fail
      refine (flush_any wr HT.out.core.dk).mono ?_
      rintro e w2 ⟨rfl, D2, hd2, hN2, hk2⟩
      have P2 := Lib.hid (HT.out.disk (PS.flushed_size _) hd2 hN2 hk2)
      have M2 := Lib.hid (Moves.new (hk2.more (fun k hD => HT.out.core.fd k hD)))
      clear hd2 hN2 hk2 c0
      go_wp2_with fail
      go_ret
      refine ⟨js, HJ.out, ?_⟩
      rw [HE.out]
      exact ⟨rfl, _, D2, g', P2.out, ((Moves.of_below HB.out).trans HM1.out).trans M2.out⟩
end
end Go.Proofs.Ytgkdlbcpckdmkaa

/-
  What Dirty, Pages and Disk come to.
-/
namespace Go.Proofs.Ytgkdlbcpckdmkaa
open Go.RowKit

/-- What Dirty answers. -/
def DirtyEnd (w : World) (s : PP) (e : Ending) (w' : World) : Prop :=
  ∃ A c js, e = .returned (.slice A (js.map s.sec).length c) ∧ Ints w' A (js.map s.sec) ∧ Js s js ∧ Below w.heap.size w w'

/-- As far as their sectors were told. -/
def DirRel (w1 : World) (S : Nat → Int) (js : List Nat) (q : Nat) (v : Value) (wr : World) : Prop :=
  wr.ownsRow w1.heap.size 3 1 v ((js.take q).map S).length (intVals ((js.take q).map S)) ∧ Below w1.heap.size w1 wr

theorem take_next {js : List Nat} {q j : Nat} (h : js[q]? = some j) : js.take (q + 1) = js.take q ++ [j] := by
  rw [List.take_add_one, h]
  rfl

section
variable {F D : Nat → Prop} {pb fb cb rb db : Nat} {g : Nat → Value} {s : PP}

set_option maxRecDepth 20000 in
set_option maxHeartbeats 1600000 in
theorem dirty_any (w : World) (hm12 : s.m ≤ 12) (h : PoolAt w F D pb fb cb rb db g s) :
    Calls Try.prog 14 #[.pointer (some ⟨pb, 0, none⟩)] w (DirtyEnd w s) := by
  obtain ⟨i0, hi, hz0, hz1, hz2⟩ := info_parts intInfo
  have H := Lib.hid h
  have HM := Lib.hid (made_yes w pb db h.core.c0)
  have HU := Lib.hid (unwritten_any w hm12 h)
  clear h
  go_enter Try.func14, Try.ntmps14
  go_wp2_with fail
  refine HM.out.mono ?_
  rintro e w' ⟨rfl, rfl⟩
  clear HM
  go_wp2_with fail
  refine HU.out.mono ?_
  rintro e w1 ⟨A, c, js, rfl, hp, hj, hb⟩
  have HP := Lib.hid hp
  have HJ := Lib.hid hj
  have HB := Lib.hid hb
  have hlen : js.length ≤ 12 := by
    have := hj.perm.length_eq
    have := js_len s.d s.m
    omega
  have H1 := Lib.hid (H.out.below hb)
  obtain ⟨N, hN⟩ : ∃ N, js.length = N := ⟨_, rfl⟩
  have HN := Lib.hid hN
  rw [hN] at hlen
  rw [hN]
  clear hp hj hb HU hN
  go_wp2_with fail
  go_loopw [3, 12] (fun v i wr => ∃ q : Nat, q ≤ N ∧ i = .int .i64 q ∧ Hid (DirRel w1 s.sec js q v wr)) (fun _ i _ => N - (RowKit.intOf i).toNat)
  case atStart => exact ⟨0, Nat.zero_le _, rfl, Lib.hid ⟨World.ownsRow_nil _ _ _ _, Below.refl _ _⟩⟩
  case round =>
    obtain ⟨q, hq, rfl, hr⟩ := hrel
    by_cases hlt : q < N
    · have hlq : q < js.length := by rw [HN.out]; exact hlt
      obtain ⟨j, hJ⟩ : ∃ j, js[q]'hlq = j := ⟨_, rfl⟩
      have hqj : js[q]? = some j := by rw [← hJ]; exact List.getElem?_eq_getElem hlq
      have hjm : j < s.m := by
        have h1 := HJ.out.perm.mem_iff.1 (List.mem_of_getElem? hqj)
        exact List.mem_range.1 (List.mem_filter.1 h1).1
      obtain ⟨b, hA, hbb, hbc⟩ : ∃ b, A = some ⟨b, 0, none⟩ ∧ w.heap.size ≤ b ∧ ∀ i j, js[i]? = some j → w1.cell? ⟨b, i, none⟩ = some (.pointer (some ⟨fb, j * 4, none⟩)) := by
        rcases HP.out with e | e
        · rw [e] at hlq
          exact absurd hlq (by simp)
        · exact e
      obtain ⟨h1, h2⟩ := hr.out
      have hcell : wr.cell? ⟨b, q, none⟩ = some (.pointer (some ⟨fb, j * 4, none⟩)) := (h2.cell (World.block_lt_of_cell? _ _ (hbc q j hqj))).trans (hbc q j hqj)
      have d1 := (H1.out.below h2).s1 hjm
      have bs := h2.size
      have hlk : ((js.take q).map s.sec).length = q := by
        rw [List.length_map, List.length_take]
        omega
      have HQ := Lib.hid hqj
      have HLK := Lib.hid hlk
      rw [hlk] at h1
      subst hA
      clear hqj hJ hjm hbc hbb hlk hlq
      go_wp2_with (at_builtin; refine wpList_append_own _ rfl (.tmp 16) (.tmp 21) 22 rfl w1.heap.size 3 i0 (.int .i64 0) 1 8 Try.underlying22 hi hz0 hz1 hz2 rfl (by decide) _ _ _ rfl (h1.alloc _) ⟨wr.heap.size, 0, none⟩ 1 1 [.int .i64 (s.sec j)] rfl rfl (cell_one_new _ _ _) (by simp [Value.oneCell']) (by unfold maxLen; omega) (by omega) (by simp; omega) ?_; intro v3 w3 hown3 hg3 _)
      have HNX : Hid (DirRel w1 s.sec js (q + 1) v3 w3) := Lib.hid (by
        unfold DirRel
        rw [take_next HQ.out]
        refine ⟨?_, (h2.alloc bs _).grown hg3 (by simp; omega) (fun g hg => (h1.lt g hg).1)⟩
        unfold intVals at hown3 ⊢
        rw [List.map_append, List.length_append, HLK.out, List.map_append]
        exact hown3)
      clear hown3 hg3 h1 h2 hcell d1
      go_wp2_with fail
      go_roundw
      case rel => exact ⟨q + 1, by omega, by go_num, HNX⟩
      case measure => simp [RowKit.intOf]; omega
    · obtain rfl : q = N := by omega
      have HE : Hid (DirtyEnd w s (.returned u3) wr) := Lib.hid (by
        obtain ⟨h1, h2⟩ := hr.out
        rw [List.take_of_length_le (by rw [HN.out]; exact Nat.le_refl _)] at h1
        obtain ⟨A, c, e1, hi⟩ := ints_of_own h1
        exact ⟨A, c, js, by rw [e1], hi, HJ.out, HB.out.trans (h2.mono HB.out.size)⟩)
      clear hr
      go_wp2_with fail
      go_ret
      exact HE.out

set_option maxRecDepth 20000 in
theorem disk_any (w : World) (h : PoolAt w F D pb fb cb rb db g s) :
    Calls Try.prog 23 #[.pointer (some ⟨pb, 0, none⟩)] w fun e w' => e = .returned (.pointer (some ⟨db, 0, none⟩)) ∧ w = w' := by
  have c0 := h.core.c0
  have HM := Lib.hid (made_yes w pb db c0)
  clear h
  go_enter Try.func23, Try.ntmps23
  go_wp2_with fail
  refine HM.out.mono ?_
  rintro e w' ⟨rfl, rfl⟩
  go_wp2_with fail
  go_ret
  exact ⟨rfl, rfl⟩

/-- The sectors, as far as they were told. -/
def pgF (s : PP) (k j : Nat) : Value := if j < k then .int .i64 (s.at_ j) else .int .i64 0

theorem pg_step (s : PP) (k j : Nat) : (if j = k then Value.int .i64 (s.at_ k) else pgF s k j) = pgF s (k + 1) j := by
  unfold pgF
  by_cases h : j = k
  · subst h
    rw [if_pos rfl, if_pos (by omega)]
  · rw [if_neg h]
    by_cases h2 : j < k
    · rw [if_pos h2, if_pos (by omega)]
    · rw [if_neg h2, if_neg (by omega)]
theorem pg_step2 (s : PP) (k j : Nat) : (if j = k then Value.int .i64 (s.at_ k) else if j = k then Value.int .i64 (-1) else pgF s k j) = pgF s (k + 1) j := by
  rw [← pg_step]
  by_cases h : j = k
  · rw [if_pos h, if_pos h]
  · rw [if_neg h, if_neg h, if_neg h]

/-- What Pages answers. -/
def PagesEnd (w : World) (s : PP) (e : Ending) (w' : World) : Prop :=
  e = .returned (.slice (some ⟨w.heap.size, 0, none⟩) s.m s.m) ∧ (∀ j, j < s.m → w'.cell? ⟨w.heap.size, j, none⟩ = some (.int .i64 (s.at_ j))) ∧ Below w.heap.size w w'

set_option maxRecDepth 20000 in
set_option maxHeartbeats 1600000 in
theorem pages_any (w : World) (h : PoolAt w F D pb fb cb rb db g s) :
    Calls Try.prog 17 #[.pointer (some ⟨pb, 0, none⟩)] w (PagesEnd w s) := by
  have hm := h.core.m1.2
  have hmk := fun W => run_make_row' (P := Try.prog) 22 3 (.int .i64 0) 8 Try.underlying22 intInfo rfl .i64 .i64 s.m (by omega) (by omega) W
  have H := Lib.hid h
  have HM := Lib.hid (made_yes w pb db h.core.c0)
  have c1 := h.core.c1
  have l1 := h.core.lt _ h.core.fp
  have l2 := h.core.lt _ h.core.ff
  clear h
  go_enter Try.func17, Try.ntmps17
  go_wp2_with fail
  refine HM.out.mono ?_
  rintro e w' ⟨rfl, rfl⟩
  clear HM
  go_wp2_with fail
  go_loopw [20] (fun i wr => ∃ k : Nat, k ≤ s.m ∧ i = .int .i64 k ∧ wr.rowIs w.heap.size 3 s.m (pgF s k) ∧ Below w.heap.size w wr) (fun i _ => s.m - (RowKit.intOf i).toNat)
  case atStart => exact ⟨0, Nat.zero_le _, rfl, (World.rowIs_made _ _ _ _).congr (fun j _ => by unfold pgF; rw [if_neg (by omega)]), below_one _ _⟩
  case round =>
    obtain ⟨k, hk, rfl, hrow, hb⟩ := hrel
    by_cases hlt : k < s.m
    · have HR := H.out.below hb
      have d1 := HR.s1 hlt
      have d2 := HR.s2 hlt
      have c1 := HR.core.c1
      have g0 := hrow.cell hlt
      rw [show pgF s k k = .int .i64 0 by unfold pgF; rw [if_neg (by omega)]] at g0
      have g1 := hrow.frozen k
      have g2 := hrow.lt
      have HROW := Lib.hid hrow
      have HB := Lib.hid hb
      by_cases hat : s.at_ k = -1
      · have hu : s.ful k = false := by unfold PP.ful; simp [hat]
        rw [hu] at d2
        have HAT := Lib.hid hat
        clear HR hb hrow hat hu
        go_wp2_with fail
        go_roundw
        case rel =>
          refine ⟨k + 1, by omega, by go_num, (HROW.out.set k _).congr (fun j _ => ?_), HB.out.setCell (p := ⟨w.heap.size, k, none⟩) (Nat.le_refl _) _⟩
          have := pg_step s k j
          rw [HAT.out] at this
          exact this
        case measure => simp [RowKit.intOf]; omega
      · have hu : s.ful k = true := by unfold PP.ful; simp [hat]
        have hs : s.sec k = s.at_ k := by unfold PP.sec; rw [if_neg hat]
        rw [hu] at d2
        rw [hs] at d1
        clear HR hb hrow hat hu hs
        go_wp2_with fail
        go_roundw
        case rel =>
          refine ⟨k + 1, by omega, by go_num, ((HROW.out.set k _).set k _).congr (fun j _ => pg_step2 s k j), ?_⟩
          exact (HB.out.setCell (p := ⟨w.heap.size, k, none⟩) (Nat.le_refl _) _).setCell (p := ⟨w.heap.size, k, none⟩) (Nat.le_refl _) _
        case measure => simp [RowKit.intOf]; omega
    · obtain rfl : k = s.m := by omega
      have HROW := Lib.hid hrow
      have HB := Lib.hid hb
      clear hrow hb
      go_wp2_with fail
      go_ret
      exact ⟨rfl, fun j hj => by rw [HROW.out.cell hj]; unfold pgF; rw [if_pos hj], HB.out⟩
end
end Go.Proofs.Ytgkdlbcpckdmkaa

/-
  What Drop and New come to.
-/
namespace Go.Proofs.Ytgkdlbcpckdmkaa
open Go.RowKit

theorem zero_size (m : Nat) : (Builtin.zeroCells noFrame m).size = m * 4 := by
  simp [Builtin.zeroCells, noFrame]
theorem zero_at (m j : Nat) (h : j < m * 4) : (Builtin.zeroCells noFrame m).toList[j]? = some (frc (fun _ => .slice none 0 0) (fun _ => 0) (fun _ => false) (fun _ => false) j) := by
  rw [Array.getElem?_toList]
  unfold Builtin.zeroCells
  rw [Array.getElem?_map, Array.getElem?_range]
  rw [if_pos (by show j < m * 4; exact h)]
  simp only [Option.map_some, Option.some.injEq]
  show noFrame[j % 4]! = _
  unfold frc
  rcases (show j % 4 = 0 ∨ j % 4 = 1 ∨ j % 4 = 2 ∨ j % 4 = 3 by omega) with e | e | e | e
  · rw [e, if_pos rfl]
    rfl
  · rw [e, if_neg (by omega), if_pos rfl]
    rfl
  · rw [e, if_neg (by omega), if_neg (by omega), if_pos rfl]
    rfl
  · rw [e, if_neg (by omega), if_neg (by omega), if_neg (by omega)]
    rfl

theorem kept_setCells {F : Nat → Prop} {b : Nat} (hb : F b) : ∀ (vs : List Value) (o : Nat) (w : World), Kept F w (w.setCells b o vs)
  | [], _, w => Kept.refl F w
  | v :: r, o, w => (Kept.setCell (F := F) w (a := ⟨b, o, none⟩) hb v).next (kept_setCells hb r (o + 1) _)

/-- Empty frames. -/
def noFrc : Nat → Value := frc (fun _ => .slice none 0 0) (fun _ => 0) (fun _ => false) (fun _ => false)

section
variable {w : World} {fb m : Nat} {f : Nat → Value}

set_option maxRecDepth 20000 in
theorem clear_run (hm : 1 ≤ m) (h : w.rowIs fb 69 (m * 4) f) (ty : TypeId) :
    (Builtin.clear_ #[57] ty #[.slice (some ⟨fb, 0, none⟩) m m]).run Try.prog w = .ok (.tuple #[]) (w.setCells fb 0 (Builtin.zeroCells noFrame m).toList) ∧
    (w.setCells fb 0 (Builtin.zeroCells noFrame m).toList).rowIs fb 69 (m * 4) noFrc ∧ Kept (· = fb) w (w.setCells fb 0 (Builtin.zeroCells noFrame m).toList) := by
  obtain ⟨i, hi, hzz⟩ := Option.map_eq_some_iff.1 frameInfo
  simp only [Prod.mk.injEq] at hzz
  obtain ⟨hz, _, _⟩ := hzz
  have hs := zero_size m
  refine ⟨?_, ?_, kept_setCells (F := (· = fb)) rfl _ _ _⟩
  · have hrun := run_storeCells_cells (P := Try.prog) fb 0 (Builtin.zeroCells noFrame m).toList 0 w (fun j hj => by
      have hj' : j < m * 4 := by rw [← hs]; simpa using hj
      simp only [Nat.zero_add]
      rw [h.cell hj']
      rfl) (fun j _ => h.frozen _) (fun v hv => by
      obtain ⟨j, hj⟩ := List.getElem?_of_mem hv
      have hj' : j < m * 4 := by
        have := (List.getElem?_eq_some_iff.1 hj).1
        rw [← hs]
        simpa using this
      rw [zero_at m j hj'] at hj
      obtain rfl := Option.some.inj hj
      unfold frc
      split
      · rfl
      · split
        · rfl
        · split <;> rfl)
    obtain ⟨k, rfl⟩ : ∃ k, m = k + 1 := ⟨m - 1, by omega⟩
    have hzv : (zeroValue 69).run Try.prog w = .ok (.agg noFrame) w := by
      simp [zeroValue, typeInfo, hi, hz, Sem.run_bind, Result.andThen]
      rfl
    simp only [Nat.add_zero] at hrun
    simp [Builtin.clear_, run_underlying Try.underlying57, hzv, Result.andThen, Value.cells, hrun]
  · have := Go.rowIs_setCells (Builtin.zeroCells noFrame m).toList 0 w f h
    refine this.congr (fun j hj => ?_)
    have hl : (Builtin.zeroCells noFrame m).toList.length = m * 4 := by rw [Array.length_toList, hs]
    rw [if_pos (by rw [hl]; omega), Nat.sub_zero, zero_at m j hj]
    rfl
end

section
variable {ops : Array Oper} {rest : List Oper} {o : Oper} {a : Act} {w : World} {Q : Exit → Act → World → Prop}

theorem wpList_clear_row (hg : o.guard = none) (x : Operand) (hop : o.op = Op.call { callee := Callee.builtin Builtin.clear, args := #[x], argTypes := #[57] })
    {fb m : Nat} {f : Nat → Value} (hx : a.eval x = .slice (some ⟨fb, 0, none⟩) m m) (hm : 1 ≤ m) (h : w.rowIs fb 69 (m * 4) f)
    (hK : ∀ w', w'.rowIs fb 69 (m * 4) noFrc → Kept (· = fb) w w' → wpList Try.prog ops Q rest (a.put o.dst (.tuple #[])) w') :
    wpList Try.prog ops Q (o :: rest) a w := by
  refine wpList_plain hg fun K' hK' => ?_
  obtain ⟨hrun, r1, r2⟩ := clear_run hm h o.type
  unfold Oper.wp
  simp [execOp, hop, resolve, invoke, builtin, hx, hrun, Result.andThen]
  exact hK' _ _ (hK _ r1 r2)
end

/-- What Drop leaves: empty frames, and a new clock. -/
def RawEnd (w : World) (pb fb db m : Nat) (e : Ending) (w' : World) : Prop :=
  ∃ cb rb, e = .returned (.tuple #[]) ∧ w'.heap[pb]? = some (.cells #[.pointer (some ⟨db, 0, none⟩), .slice (some ⟨fb, 0, none⟩) m m, .pointer (some ⟨cb, 0, none⟩)] 60 (0, 0)) ∧
    w'.rowIs fb 69 (m * 4) noFrc ∧ ClkAt w' cb rb (CS.new m) ∧ w.heap.size ≤ cb ∧ w.heap.size ≤ rb ∧ Kept (fun k => k = pb ∨ k = fb) w w'

set_option maxRecDepth 20000 in
set_option maxHeartbeats 800000 in
theorem drop_raw (w : World) (pb fb db m : Nat) (u : Value) (f : Nat → Value) (hm1 : 1 ≤ m) (hm2 : m ≤ 1000)
    (hs : w.heap[pb]? = some (.cells #[.pointer (some ⟨db, 0, none⟩), .slice (some ⟨fb, 0, none⟩) m m, u] 60 (0, 0))) (hr : w.rowIs fb 69 (m * 4) f) :
    Calls Try.prog 22 #[.pointer (some ⟨pb, 0, none⟩)] w (RawEnd w pb fb db m) := by
  have c0 : w.cell? ⟨pb, 0, none⟩ = some (.pointer (some ⟨db, 0, none⟩)) := (cell_of_row w pb 0 _ _ _ hs).trans rfl
  have c1 : w.cell? ⟨pb, 1, none⟩ = some (.slice (some ⟨fb, 0, none⟩) m m) := (cell_of_row w pb 1 _ _ _ hs).trans rfl
  have HM := Lib.hid (made_yes w pb db c0)
  have HS := Lib.hid hs
  have HR := Lib.hid hr
  have hlp : pb < w.heap.size := World.block_lt_of_cell? _ _ c0
  have hne : pb ≠ fb := by
    obtain ⟨cur, hc, _⟩ := hr
    exact block_ne hs hc pool_types.1.1
  clear hs hr
  go_enter Try.func22, Try.ntmps22
  go_wp2_with fail
  refine HM.out.mono ?_
  rintro e w' ⟨rfl, rfl⟩
  clear HM
  go_wp2_with (refine wpList_clear_row rfl (.tmp 8) rfl rfl hm1 HR.out ?_; intro w1 hr1 hk1; have hs1 := (hk1.block pb hlp hne).trans HS.out; have d1 : w1.cell? ⟨pb, 1, none⟩ = some (.slice (some ⟨fb, 0, none⟩) m m) := (cell_of_row w1 pb 1 _ _ _ hs1).trans rfl)
  have hlp1 : pb < w1.heap.size := World.block_lt_of_cell? _ _ d1
  have HR1 := Lib.hid hr1
  have HK1 := Lib.hid hk1
  have HS1 := Lib.hid hs1
  have HC := Lib.hid (gnew_good w1 m hm1 hm2)
  clear hr1 hk1 hs1 c0 c1 HR HS
  refine HC.out.mono ?_
  rintro e w2 ⟨cb, rb, rfl, hc2, hb1, hb2, hb⟩
  have hs2 := (hb.block pb hlp1).trans HS1.out
  have d2 : w2.cell? ⟨pb, 2, none⟩ = some u := (cell_of_row w2 pb 2 _ _ _ hs2).trans rfl
  have f2 : w2.frozen? ⟨pb, 2, none⟩ = false := frozen_of_row w2 pb 2 _ _ hs2
  have HS2 := Lib.hid hs2
  have HC2 := Lib.hid hc2
  have HB := Lib.hid hb
  have HB1 := Lib.hid hb1
  have HB2 := Lib.hid hb2
  clear hs2 hc2 hb hb1 hb2 d1 HC
  go_wp2_with fail
  go_end0
  have hnb : cb ≠ pb ∧ rb ≠ pb := by
    have := HB1.out
    have := HB2.out
    omega
  refine ⟨cb, rb, rfl, by rw [Joins.block_setCell HS2.out]; rfl, ?_, ?_, Nat.le_trans HK1.out.size HB1.out, Nat.le_trans HK1.out.size HB2.out, ?_⟩
  · exact (HR1.out.of_block (HB.out.block _ HR1.out.lt)).setOther (fun e => hne e.symm) _
  · exact HC2.out.same (Below.heap_setCell _ _ _ _ hnb.1) (Below.heap_setCell _ _ _ _ hnb.2)
  · exact ((HK1.out.more (fun k e => Or.inr e)).next (Kept.below HB.out _)).next (Kept.setCell (F := fun k => k = pb ∨ k = fb) _ (a := ⟨pb, 2, none⟩) (Or.inl rfl) _)

section
variable {F D : Nat → Prop} {pb fb cb rb db : Nat} {g : Nat → Value} {s : PP}

/-- What Drop leaves of a pool. -/
def DropEnd (w : World) (F : Nat → Prop) (pb fb db : Nat) (s : PP) (e : Ending) (w' : World) : Prop :=
  e = .returned (.tuple #[]) ∧ ∃ F' D' cb rb g', PoolAt w' F' D' pb fb cb rb db g' s.drop ∧ Moves w F w' F'

theorem drop_cells (s : PP) : frc (fun _ => .slice none 0 0) s.drop.sec s.drop.ful s.drop.d = noFrc := by
  have e1 : s.drop.sec = fun _ => 0 := funext fun _ => rfl
  have e2 : s.drop.ful = fun _ => false := funext fun _ => rfl
  have e3 : s.drop.d = fun _ => false := rfl
  rw [e1, e2, e3]
  rfl

/-- A pool that was made anew: its struct, its frames, its clock; a disk that was not touched. -/
theorem raw_pool {w w' : World} {m : Nat} {k : PS} {cb rb : Nat} (s : PP) (hsm : s.m = m) (hk : s.k = k) (hs : w'.heap[pb]? = some (.cells #[.pointer (some ⟨db, 0, none⟩), .slice (some ⟨fb, 0, none⟩) m m, .pointer (some ⟨cb, 0, none⟩)] 60 (0, 0)))
    (hr : w'.rowIs fb 69 (m * 4) noFrc) (hc : ClkAt w' cb rb (CS.new m)) (hd : Dk w' D db k) (dp : ¬ D pb) (df : ¬ D fb) (dc : ¬ D cb) (dr : ¬ D rb)
    (hp : F pb) (hf : F fb) (hD : ∀ k, D k → F k) (hl : ∀ k, F k → k < w.heap.size) (h1 : w.heap.size ≤ cb) (h2 : w.heap.size ≤ rb) (hz : w.heap.size ≤ w'.heap.size) :
    PoolAt w' (fun k => F k ∨ w.heap.size ≤ k ∧ k < w'.heap.size) D pb fb cb rb db (fun _ => .slice none 0 0) s.drop := by
  subst hsm hk
  obtain ⟨cur, hcur, _⟩ := id hr
  refine ⟨⟨hs, ⟨cur, hcur⟩, hc, rfl, hd, Or.inl hp, Or.inl hf, Or.inr ⟨h1, hc.lt.1⟩, Or.inr ⟨h2, hc.lt.2⟩, fun k hk => Or.inl (hD k hk), dp, df, dc, dr, fun k hk => ?_⟩, ?_, fun i _ => ⟨own_nil _ _, Nat.zero_le _, fun q hq => by cases hq⟩, ⟨fun _ _ _ => rfl, fun _ _ => Or.inl rfl⟩⟩
  · rcases hk with e | e
    · exact Nat.lt_of_lt_of_le (hl k e) hz
    · exact e.2
  · show w'.rowIs fb _ (s.m * 4) (frc (fun _ => .slice none 0 0) s.drop.sec s.drop.ful s.drop.d)
    rw [drop_cells]
    exact hr

set_option maxRecDepth 20000 in
theorem drop_any (w : World) (h : PoolAt w F D pb fb cb rb db g s) :
    Calls Try.prog 22 #[.pointer (some ⟨pb, 0, none⟩)] w (DropEnd w F pb fb db s) := by
  obtain ⟨m1, m2⟩ := h.core.m1
  refine (drop_raw w pb fb db s.m _ _ m1 m2 h.core.str h.row).mono ?_
  rintro e w' ⟨cb', rb', rfl, hs, hr, hc, h1, h2, hk⟩
  have no : ∀ b, w.heap.size ≤ b → ¬ D b := fun b hb hD => by
    have := h.core.lt b (h.core.fd b hD)
    omega
  have hd : Dk w' D db s.k := h.core.dk.kept hk (fun k hD e => by
    rcases e with e | e
    · exact h.core.dp (by rw [← e]; exact hD)
    · exact h.core.df (by rw [← e]; exact hD))
  exact ⟨rfl, _, D, cb', rb', _, raw_pool s rfl rfl hs hr hc hd h.core.dp h.core.df (no _ h1) (no _ h2) h.core.fp h.core.ff h.core.fd h.core.lt h1 h2 hk.size,
    Moves.new (hk.more (by rintro k (rfl | rfl); exact h.core.fp; exact h.core.ff))⟩

/-- The cells of so many empty frames. -/
def frC (n : Nat) : Array Value := madeCells noFrame (n * 4)
theorem frC_size (n : Nat) : (frC n).size = n * 4 := size_madeCells _ _
theorem frC_at (n i : Nat) (h : i < n * 4) : (frC n)[i]? = some (noFrc i) := by
  unfold frC madeCells noFrc frc
  rcases (show i % 4 = 0 ∨ i % 4 = 1 ∨ i % 4 = 2 ∨ i % 4 = 3 by omega) with e | e | e | e
  · rw [if_pos e]
    simp [e, h, noFrame]
  · rw [if_neg (by omega), if_pos e]
    simp [e, h, noFrame]
  · rw [if_neg (by omega), if_neg (by omega), if_pos e]
    simp [e, h, noFrame]
  · rw [if_neg (by omega), if_neg (by omega), if_neg (by omega)]
    simp [e, h, noFrame]

set_option maxRecDepth 20000 in
theorem make_frames (w : World) (n : Nat) (hn : n ≤ 1000) : (Instr.makeSlice 57 (.int .i64 (n : Int)) (.int .i64 (n : Int))).run Try.prog w = .ok (.slice (some ⟨w.heap.size, 0, none⟩) n n) (w.alloc (.cells (frC n) 69)) := by
  obtain ⟨i, hi, hzz⟩ := Option.map_eq_some_iff.1 frameInfo
  simp only [Prod.mk.injEq] at hzz
  obtain ⟨hz, hs, hb⟩ := hzz
  have hr := run_make (P := Try.prog) w 57 69 i _ Try.underlying57 hi hz .i64 .i64 (n : Int) (n : Int) (by omega) (Int.le_refl _) (by rw [hb]; omega) (by omega)
  simp only [Int.toNat_natCast, hs] at hr
  exact hr

/-- A new pool. -/
def PMade (w : World) (D : Nat → Prop) (db : Nat) (k : PS) (n : Nat) (e : Ending) (w' : World) : Prop :=
  ∃ pb fb cb rb g F, e = .returned (.tuple #[.pointer (some ⟨pb, 0, none⟩), .int .i64 0]) ∧ PoolAt w' F D pb fb cb rb db g (PP.new k n) ∧ Moves w D w' F ∧ Below w.heap.size w w'

set_option maxRecDepth 20000 in
set_option maxHeartbeats 800000 in
theorem pnew_any (w : World) (n : Nat) (k : PS) (h1 : 1 ≤ n) (h2 : n ≤ 1000) (hd : Dk w D db k) :
    Calls Try.prog 9 #[.pointer (some ⟨db, 0, none⟩), .int .i64 n] w (PMade w D db k n) := by
  have hm := make_frames w n h2
  have HD := Lib.hid hd
  have HRAW : Hid (Calls Try.prog 22 #[.pointer (some ⟨w.heap.size + 1, 0, none⟩)] ((w.alloc (.cells (frC n) 69)).alloc (.cells #[.pointer (some ⟨db, 0, none⟩), .slice (some ⟨w.heap.size, 0, none⟩) n n, .pointer none] 60)) (RawEnd ((w.alloc (.cells (frC n) 69)).alloc (.cells #[.pointer (some ⟨db, 0, none⟩), .slice (some ⟨w.heap.size, 0, none⟩) n n, .pointer none] 60)) (w.heap.size + 1) w.heap.size db n)) := by
    refine Lib.hid (drop_raw _ _ _ _ _ (.pointer none) noFrc h1 h2 ?_ ?_)
    · have := heap_alloc_new (w.alloc (.cells (frC n) 69)) (.cells #[.pointer (some ⟨db, 0, none⟩), .slice (some ⟨w.heap.size, 0, none⟩) n n, .pointer none] 60)
      rw [show (w.alloc (.cells (frC n) 69)).heap.size = w.heap.size + 1 by simp] at this
      exact this
    · have := World.rowIs_alloc w (frC n) 69 noFrc (fun i hi => frC_at n i (by rw [frC_size] at hi; exact hi))
      rw [frC_size] at this
      exact this.alloc _
  clear hd
  go_enter Try.func9, Try.ntmps9
  go_wp2_with fail
  refine HRAW.out.mono ?_
  rintro e w' ⟨cb, rb, rfl, hs, hr, hc, b1, b2, hk⟩
  have HS := Lib.hid hs
  have HR := Lib.hid hr
  have HC := Lib.hid hc
  have HB1 := Lib.hid b1
  have HB2 := Lib.hid b2
  have HK := Lib.hid hk
  clear hs hr hc b1 b2 hk HRAW hm
  go_wp2_with fail
  go_ret2
  generalize hw0 : (w.alloc (.cells (frC n) 69)).alloc (.cells #[.pointer (some ⟨db, 0, none⟩), .slice (some ⟨w.heap.size, 0, none⟩) n n, .pointer none] 60) = w0 at *
  have hz0 : w0.heap.size = w.heap.size + 2 := by rw [← hw0]; simp
  have hb0 : Below w.heap.size w w0 := by rw [← hw0]; exact below_two _ _ _
  have hlt := HD.out.lt
  have hbw : Below w.heap.size w w' := hb0.trans (HK.out.toBelow (by rintro k (rfl | rfl) <;> omega) hb0.size)
  have hd' : Dk w' D db k := HD.out.below hbw
  have no : ∀ b, w.heap.size ≤ b → ¬ D b := fun b hb hD => by
    have := hlt b hD
    omega
  have hb1 := HB1.out
  have hb2 := HB2.out
  have hP := raw_pool (F := fun k => D k ∨ w.heap.size ≤ k ∧ k < w0.heap.size) (w := w0) (PP.new k n) rfl rfl HS.out HR.out HC.out hd' (no _ (by omega)) (no _ (by omega)) (no _ (by omega)) (no _ (by omega)) (Or.inr (by omega)) (Or.inr (by omega)) (fun _ h => Or.inl h)
    (fun b hb => by
      rcases hb with e | e
      · have := hlt b e
        omega
      · exact e.2) hb1 hb2 HK.out.size
  refine ⟨_, _, cb, rb, _, _, rfl, hP, ⟨Kept.below hbw _, fun b hb => ?_⟩, hbw⟩
  rcases hb with (e | e) | e
  · exact Or.inl e
  · exact Or.inr e.1
  · exact Or.inr (by omega)
end
end Go.Proofs.Ytgkdlbcpckdmkaa

/-
  What Get, Pin, Unpin and Put come to.
-/
namespace Go.Proofs.Ytgkdlbcpckdmkaa
open Go.RowKit

theorem own_up2 {w : World} {base base2 : Nat} {v : Value} {l : List UInt8} (h : Own w base v l) (hb : base2 ≤ base) : Own w base2 v l := by
  obtain ⟨h1, h2⟩ := h
  refine ⟨h1, ?_⟩
  rcases h2 with h2 | ⟨g, cap, cur, hv, hg, r⟩
  · exact Or.inl h2
  · exact Or.inr ⟨g, cap, cur, hv, Nat.le_trans hb hg, r⟩

/-- What Get answers: bytes of their own. -/
def GetEnd (w : World) (F : Nat → Prop) (pb fb cb rb db : Nat) (s' : PP) (err : Int) (l : List UInt8) (e : Ending) (w' : World) : Prop :=
  ∃ A c F' D' g', e = .returned (.tuple #[.slice A l.length c, .int .i64 err]) ∧ PoolAt w' F' D' pb fb cb rb db g' s' ∧ Moves w F w' F' ∧ Own w' w.heap.size (.slice A l.length c) l ∧ Out w' F' A l ∧ l.length ≤ 1024

section
variable {F D : Nat → Prop} {pb fb cb rb db : Nat} {g : Nat → Value} {s : PP}

/-- What is told of fetch's answer. -/
theorem fetch_tells {t : PP} {o : Option Nat} {e n : Int} (hh : s.c.h < s.c.n) (hn : s.c.n = s.m) (h : s.fetch n = (o, e, t)) :
    t.m = s.m ∧ (∀ i, o = some i → i < s.m ∧ t.at_ i = n ∧ e = 0) ∧ (o = none → e ≠ 0) := by
  unfold PP.fetch at h
  cases hf : s.find n with
  | some i =>
    rw [hf] at h
    injection h with h2 h3
    injection h3 with h3 h4
    subst h2 h3 h4
    obtain ⟨f1, f2, _⟩ := PP.find_some hf
    exact ⟨rfl, fun j hj => by
      obtain rfl := Option.some.inj hj
      exact ⟨f1, f2, rfl⟩, fun e => by cases e⟩
  | none =>
    rw [hf] at h
    by_cases hr : s.k.readE n = 0
    · simp only [if_pos hr] at h
      rcases hq : s.room with ⟨q, er, u⟩
      rw [hq] at h
      obtain ⟨t1, t2, t3, t4⟩ := room_tells hh hn hq
      cases q with
      | some i =>
        injection h with h2 h3
        injection h3 with h3 h4
        subst h2 h3 h4
        exact ⟨t1, fun j hj => by
          obtain rfl := Option.some.inj hj
          exact ⟨(t3 i rfl).1, if_pos rfl, rfl⟩, fun e => by cases e⟩
      | none =>
        injection h with h2 h3
        injection h3 with h3 h4
        subst h2 h3 h4
        exact ⟨t1, fun j hj => (by cases hj), fun _ => t4 rfl⟩
    · simp only [if_neg hr] at h
      injection h with h2 h3
      injection h3 with h3 h4
      subst h2 h3 h4
      exact ⟨rfl, fun j hj => (by cases hj), fun _ => hr⟩

set_option maxRecDepth 20000 in
set_option maxHeartbeats 800000 in
theorem get_any (w : World) (n : Int) (h1 : -9223372036854775808 ≤ n) (h2 : n ≤ 9223372036854775807) (h : PoolAt w F D pb fb cb rb db g s) :
    Calls Try.prog 11 #[.pointer (some ⟨pb, 0, none⟩), .int .i64 n] w (GetEnd w F pb fb cb rb db (s.get n).2.2 (s.get n).1 (s.get n).2.1) := by
  have HF := Lib.hid (fetch_any w n h1 h2 h)
  have hq0 : ∃ o er t, s.fetch n = (o, er, t) := ⟨_, _, _, rfl⟩
  obtain ⟨o, er, t, hq⟩ := hq0
  obtain ⟨t1, t2, t3⟩ := fetch_tells h.core.clk.hn h.core.cm hq
  have HG : Hid (s.get n = PP.gotA (o, er, t)) := Lib.hid (by rw [PP.get_fetch, hq])
  rw [hq] at HF
  have HW := Lib.hid h.core.lt
  clear h hq h1 h2
  go_enter Try.func11, Try.ntmps11
  go_wp2_with fail
  refine HF.out.mono ?_
  rintro e w1 ⟨rfl, F1, D1, g1, p1, m1⟩
  have P1 := Lib.hid p1
  have M1 := Lib.hid m1
  unfold PP.roomV
  cases o with
  | none =>
    have hb : (er != 0) = true := by rw [bne_iff_ne]; exact t3 rfl
    clear p1 m1 t1 t2 t3 HF
    go_wp2_with fail
    go_ret2
    rw [HG.out]
    exact ⟨none, 0, F1, D1, g1, rfl, P1.out, M1.out, own_nil _ _, Or.inl rfl, Nat.zero_le _⟩
  | some i =>
    obtain ⟨i1, i2, rfl⟩ := t2 i rfl
    have hit : i < t.m := by rw [t1]; exact i1
    obtain ⟨o1, o2, o3⟩ := p1.own i hit
    have d0 := p1.s0 hit
    have c1 := p1.core.c1
    have hm := p1.core.m1.2
    obtain ⟨A, c, hv, hc, hz⟩ := own_slice o1
    rw [hv] at d0 o1
    obtain ⟨M, hM⟩ : ∃ M, (t.b i).length = M := ⟨_, rfl⟩
    rw [hM] at d0 o2 hz o1
    have HT := Lib.hid (told_any A M c _ (t.b i) w1 (own_bys o1) hM (by omega) hz)
    have HL := Lib.hid (show (t.b i).length ≤ 1024 by omega)
    have HG2 : Hid (s.get n = (0, t.b i, t)) := HG.out
    clear p1 m1 t1 t2 t3 HF HG hv hM o1 o3 hz hc i2 i1
    go_wp2_with fail
    refine HT.out.mono ?_
    rintro e w2 ⟨v2, rfl, o2, b2⟩
    obtain ⟨A2, c2, rfl, _, _⟩ := own_slice o2
    have O2 := Lib.hid o2
    have B2 := Lib.hid b2
    clear o2 b2 HT d0 c1
    go_wp2_with fail
    go_ret2
    rw [HG2.out]
    refine ⟨A2, c2, F1, D1, g1, rfl, P1.out.below B2.out, M1.out.trans (Moves.of_below B2.out), ?_, ?_, HL.out⟩
    · exact own_up2 O2.out M1.out.kept.size
    · exact own_outD O2.out (fun q hq hF => by
        have := (O2.out.lt q hq).1
        have := P1.out.core.lt q hF
        omega)
end
end Go.Proofs.Ytgkdlbcpckdmkaa

/-
  What Pin, Unpin and Put come to.
-/
namespace Go.Proofs.Ytgkdlbcpckdmkaa
open Go.RowKit

/-- What Pin answers, out of fetch's answer. -/
def PP.pinA : Option Nat × Int × PP → Int × PP
  | (some i, _, t) => (0, { t with c := t.c.pinS i })
  | (none, e, t) => (e, t)

section
variable {F D : Nat → Prop} {pb fb cb rb db : Nat} {g : Nat → Value} {s : PP}

theorem pinS_n' (c : CS) (i : Int) : (c.pinS i).n = c.n := by
  unfold CS.pinS CS.setP
  split <;> rfl
theorem unS_n' (c : CS) (i : Int) : (c.unS i).n = c.n := by
  unfold CS.unS CS.setP
  split <;> rfl

set_option maxRecDepth 20000 in
set_option maxHeartbeats 800000 in
theorem ppin_any (w : World) (n : Int) (h1 : -9223372036854775808 ≤ n) (h2 : n ≤ 9223372036854775807) (hx : (s.fetch n).2.2.c.Max 9223372036854775806) (h : PoolAt w F D pb fb cb rb db g s) :
    Calls Try.prog 16 #[.pointer (some ⟨pb, 0, none⟩), .int .i64 n] w (PEnd w F pb fb cb rb db (PP.pinA (s.fetch n)).2 (.int .i64 (PP.pinA (s.fetch n)).1)) := by
  have HF := Lib.hid (fetch_any w n h1 h2 h)
  obtain ⟨o, er, t, hq⟩ : ∃ o er t, s.fetch n = (o, er, t) := ⟨_, _, _, rfl⟩
  obtain ⟨t1, t2, t3⟩ := fetch_tells h.core.clk.hn h.core.cm hq
  rw [hq] at HF hx
  rw [hq]
  have HX := Lib.hid hx
  clear h hq h1 h2 hx
  go_enter Try.func16, Try.ntmps16
  go_wp2_with fail
  refine HF.out.mono ?_
  rintro e w1 ⟨rfl, F1, D1, g1, p1, m1⟩
  have P1 := Lib.hid p1
  have M1 := Lib.hid m1
  unfold PP.roomV
  cases o with
  | none =>
    have hb : (er != 0) = true := by rw [bne_iff_ne]; exact t3 rfl
    clear p1 m1 t1 t2 t3 HF
    go_wp2_with fail
    go_ret
    exact ⟨rfl, F1, D1, g1, P1.out, M1.out⟩
  | some i =>
    obtain ⟨i1, i2, rfl⟩ := t2 i rfl
    have hit : i < t.c.n := by rw [P1.out.core.cm, t1]; exact i1
    have HE : Hid (t.c.useE (i : Int) = 0) := Lib.hid (by unfold CS.useE; rw [if_pos (CS.has_of hit)])
    have c2 := p1.core.c2
    clear p1 m1 t1 t2 t3 HF i1 i2 hit
    go_wp2_with fail
    refine (pin_any w1 (i : Int) HX.out P1.out.core.clk).mono ?_
    rintro e w2 ⟨rfl, hc2, hk2⟩
    rw [HE.out]
    have P2 := Lib.hid (P1.out.clock (pinS_n' _ _) hc2 hk2)
    have M2 := Lib.hid (Moves.clk P1.out hk2)
    clear hc2 hk2 c2
    go_wp2_with fail
    go_ret
    exact ⟨rfl, F1, D1, g1, P2.out, M1.out.trans M2.out⟩

set_option maxRecDepth 20000 in
set_option maxHeartbeats 800000 in
theorem punpin_any (w : World) (n : Int) (h : PoolAt w F D pb fb cb rb db g s) :
    Calls Try.prog 18 #[.pointer (some ⟨pb, 0, none⟩), .int .i64 n] w (PEnd w F pb fb cb rb db (s.unpin n).2 (.int .i64 (s.unpin n).1)) := by
  have H := Lib.hid h
  have HM := Lib.hid (made_yes w pb db h.core.c0)
  have HF := Lib.hid (find_any w n h)
  have c2 := h.core.c2
  clear h
  go_enter Try.func18, Try.ntmps18
  go_wp2_with fail
  refine HM.out.mono ?_
  rintro e w' ⟨rfl, rfl⟩
  clear HM
  go_wp2_with fail
  refine HF.out.mono ?_
  rintro e w' ⟨rfl, rfl⟩
  clear HF
  unfold findA
  cases hf : s.find n with
  | none =>
    have HE : Hid (s.unpin n = (1, s)) := Lib.hid (by unfold PP.unpin; rw [hf])
    clear hf
    go_wp2_with fail
    go_ret
    rw [HE.out]
    exact ⟨rfl, F, D, g, H.out, Moves.refl _ _⟩
  | some i =>
    have HE : Hid (s.unpin n = (s.c.unE i, { s with c := s.c.unS i })) := Lib.hid (by unfold PP.unpin; rw [hf])
    clear hf
    go_wp2_with fail
    refine (unpin_any w (i : Int) H.out.core.clk).mono ?_
    rintro e w2 ⟨rfl, hc2, hk2⟩
    have P2 := Lib.hid (H.out.clock (unS_n' _ _) hc2 hk2)
    have M2 := Lib.hid (Moves.clk H.out hk2)
    clear hc2 hk2 c2
    go_wp2_with fail
    go_ret
    rw [HE.out]
    exact ⟨rfl, F, D, g, P2.out, M2.out⟩

/-- A sector's bytes are laid into a frame. -/
def PP.putAt (t : PP) (i : Nat) (n : Int) (l : List UInt8) : PP := (t.lay i n l true).used i

theorem putAt_eq (t : PP) (i : Nat) (n : Int) (l : List UInt8) : ({ (t.lay i n l (t.d i)).used i with d := fun j => if j = i then true else ((t.lay i n l (t.d i)).used i).d j } : PP) = t.putAt i n l := by
  have e : (fun j => if j = i then true else (if j = i then t.d i else t.d j)) = (fun j => if j = i then true else t.d j) := by
    funext j
    by_cases e : j = i
    · rw [if_pos e, if_pos e]
    · rw [if_neg e, if_neg e, if_neg e]
  exact congrArg (fun d => (⟨t.m, fun j => if j = i then n else t.at_ j, fun j => if j = i then l else t.b j, d, t.c.useS i, t.k⟩ : PP)) e

theorem PoolAt.putEnd {w3 : World} {t : PP} {i : Nat} {n : Int} {l : List UInt8} (hn : n ≠ -1) (h : PoolAt w3 F D pb fb cb rb db g ((t.lay i n l (t.d i)).used i)) :
    PoolAt (w3.setCell ⟨fb, i * 4 + 3, none⟩ (.bool true)) F D pb fb cb rb db g (t.putAt i n l) := by
  have := h.setD i true (fun _ => by
    show (if i = i then n else t.at_ i) ≠ -1
    rw [if_pos rfl]
    exact hn)
  rwa [putAt_eq] at this

theorem put_ok {s : PP} {n : Int} {l : List UInt8} (hb : s.k.bad n l = false) : s.put n l = match s.find n with
    | some i => (0, s.putAt i n l)
    | none => match s.room with
      | (some i, _, t) => (0, t.putAt i n l)
      | (none, e, t) => (e, t) := by
  unfold PP.put
  rw [hb]
  rfl

set_option maxRecDepth 20000 in
set_option maxHeartbeats 1600000 in
theorem put_any (w : World) (n : Int) (h1 : -9223372036854775808 ≤ n) (h2 : n ≤ 9223372036854775807) (A : Option Addr) (m c : Nat) (l : List UInt8) (hl : l.length = m) (hx : Out w F A l) (hz : A = none → m = 0 ∧ c = 0) (h : PoolAt w F D pb fb cb rb db g s) :
    Calls Try.prog 10 #[.pointer (some ⟨pb, 0, none⟩), .int .i64 n, .slice A m c] w (PEnd w F pb fb cb rb db (s.put n l).2 (.int .i64 (s.put n l).1)) := by
  have H := Lib.hid h
  have HM := Lib.hid (made_yes w pb db h.core.c0)
  have HF := Lib.hid (find_any w n h)
  have HS := Lib.hid (size_any w h.core.dk)
  have c0 := h.core.c0
  have c1 := h.core.c1
  have h4 := h.core.dk.s4
  have HX := Lib.hid hx
  have HZ := Lib.hid hz
  have HL := Lib.hid hl
  clear h hx hz
  by_cases hb : s.k.bad n l = true
  · have HE : Hid (s.put n l = (41, s)) := Lib.hid (by unfold PP.put; rw [if_pos hb])
    have hb' : n < 0 ∨ (s.k.size : Int) ≤ n ∨ (1024 : Nat) < m := by
      unfold PS.bad PS.has at hb
      simp at hb
      omega
    clear hb hl
    by_cases hn : n < 0
    · clear hb'
      go_enter Try.func10, Try.ntmps10
      go_wp2_with fail
      refine HM.out.mono ?_
      rintro e w' ⟨rfl, rfl⟩
      clear HM
      go_wp2_with (refine HS.out.mono ?_; rintro e w' ⟨rfl, rfl⟩)
      go_ret
      rw [HE.out]
      exact ⟨rfl, F, D, g, H.out, Moves.refl _ _⟩
    · by_cases hn2 : n < (s.k.size : Int)
      · have hm : 1024 < m := by omega
        have hn3 : 0 ≤ n := by omega
        clear hb' hn
        go_enter Try.func10, Try.ntmps10
        go_wp2_with fail
        refine HM.out.mono ?_
        rintro e w' ⟨rfl, rfl⟩
        clear HM
        go_wp2_with (refine HS.out.mono ?_; rintro e w' ⟨rfl, rfl⟩)
        go_ret
        rw [HE.out]
        exact ⟨rfl, F, D, g, H.out, Moves.refl _ _⟩
      · have hn3 : 0 ≤ n := by omega
        have hn4 : (s.k.size : Int) ≤ n := by omega
        clear hb' hn hn2
        go_enter Try.func10, Try.ntmps10
        go_wp2_with fail
        refine HM.out.mono ?_
        rintro e w' ⟨rfl, rfl⟩
        clear HM
        go_wp2_with (refine HS.out.mono ?_; rintro e w' ⟨rfl, rfl⟩)
        go_ret
        rw [HE.out]
        exact ⟨rfl, F, D, g, H.out, Moves.refl _ _⟩
  · have hb0 : s.k.bad n l = false := by simpa using hb
    have hh : s.k.has n = true ∧ m ≤ 1024 := by
      unfold PS.bad at hb0
      simp at hb0
      exact ⟨hb0.1, by omega⟩
    have hr := (s.k.has_at n).1 hh.1
    have HE := Lib.hid (put_ok hb0)
    have HH := Lib.hid hh.1
    have hm := hh.2
    have hr1 := hr.1
    have hr2 := hr.2
    clear hb hb0 hh hl hr
    go_enter Try.func10, Try.ntmps10
    go_wp2_with fail
    refine HM.out.mono ?_
    rintro e w' ⟨rfl, rfl⟩
    clear HM
    go_wp2_with (refine HS.out.mono ?_; rintro e w' ⟨rfl, rfl⟩)
    refine HF.out.mono ?_
    rintro e w' ⟨rfl, rfl⟩
    unfold findA
    clear HF HS
    cases hf : s.find n with
    | some i =>
      rw [hf] at HE
      obtain ⟨f1, f2, _⟩ := PP.find_some hf
      have HO := Lib.hid (hold_any w i f1 n HH.out A m c l HL.out hm HX.out HZ.out H.out)
      have HI := Lib.hid f1
      clear hf f1 f2 c0 c1
      go_wp2_with fail
      refine HO.out.mono ?_
      rintro e w1 ⟨rfl, F1, D1, g1, p1, m1⟩
      have P1 := Lib.hid (p1.putEnd (w3 := w1) (by omega))
      have M1 := Lib.hid (m1.trans (Moves.setCell w1 (a := ⟨fb, i * 4 + 3, none⟩) p1.core.ff (.bool true)))
      have c1 := p1.core.c1
      have d3 := p1.s3 (i := i) HI.out
      have f3 := p1.sf (i * 4 + 3)
      have hi : i < s.m := HI.out
      have hm2 : s.m ≤ 1000 := H.out.core.m1.2
      have c1' : w1.cell? ⟨pb, 1, none⟩ = some (.slice (some ⟨fb, 0, none⟩) s.m s.m) := c1
      clear p1 m1 HO c1
      go_wp2_with fail
      go_ret
      rw [HE.out]
      exact ⟨rfl, F1, D1, g1, P1.out, M1.out⟩
    | none =>
      rw [hf] at HE
      have HR := Lib.hid (room_any w H.out)
      obtain ⟨o, er, t, hq⟩ : ∃ o er t, s.room = (o, er, t) := ⟨_, _, _, rfl⟩
      obtain ⟨t1, t2, t3, t4⟩ := room_tells H.out.core.clk.hn H.out.core.cm hq
      rw [hq] at HR HE
      clear hf hq c0 c1
      go_wp2_with fail
      refine HR.out.mono ?_
      rintro e w1 ⟨rfl, F1, D1, g1, p1, m1⟩
      have HX1 := Lib.hid (m1.out HX.out)
      have M1 := Lib.hid m1
      unfold PP.roomV
      cases o with
      | none =>
        have HE2 : Hid (s.put n l = (er, t)) := HE.out
        have P1 := Lib.hid p1
        have hb : (er != 0) = true := by rw [bne_iff_ne]; exact t4 rfl
        clear p1 m1 t1 t2 t3 t4 HR HE
        go_wp2_with fail
        go_ret
        rw [HE2.out]
        exact ⟨rfl, F1, D1, g1, P1.out, M1.out⟩
      | some i =>
        have HE2 : Hid (s.put n l = (0, t.putAt i n l)) := HE.out
        obtain ⟨i1, i2, rfl⟩ := t3 i rfl
        have hit : i < t.m := by rw [t1]; exact i1
        have hkn : t.k.has n = true := by
          rw [t.k.has_at, t2, ← s.k.has_at]
          exact HH.out
        have HO := Lib.hid (hold_any w1 i hit n hkn A m c l HL.out hm HX1.out HZ.out p1)
        have HI := Lib.hid hit
        have HM2 := Lib.hid p1.core.m1.2
        clear p1 m1 t1 t2 t3 t4 HR HE i1 i2 hit hkn
        go_wp2_with fail
        refine HO.out.mono ?_
        rintro e w2 ⟨rfl, F2, D2, g2, p2, m2⟩
        have P2 := Lib.hid (p2.putEnd (w3 := w2) (by omega))
        have M2 := Lib.hid (M1.out.trans (m2.trans (Moves.setCell w2 (a := ⟨fb, i * 4 + 3, none⟩) p2.core.ff (.bool true))))
        have c1 : w2.cell? ⟨pb, 1, none⟩ = some (.slice (some ⟨fb, 0, none⟩) t.m t.m) := p2.core.c1
        have d3 := p2.s3 (i := i) HI.out
        have f3 := p2.sf (i * 4 + 3)
        have hi : i < t.m := HI.out
        have hm2 : t.m ≤ 1000 := HM2.out
        clear p2 m2 HO
        go_wp2_with fail
        go_ret
        rw [HE2.out]
        exact ⟨rfl, F2, D2, g2, P2.out, M2.out⟩
end
end Go.Proofs.Ytgkdlbcpckdmkaa

/-
  What is got of a plain pool is what was put last. Nothing here names the program.
-/
namespace Go.Proofs.Ytgkdlbcpckdmkaa.PP

/-- A pool of a disk with power, of which f is what is got. -/
structure Holds (s : PP) (f : Int → List UInt8) : Prop where
  well : s.k.Well
  cn : s.c.n = s.m
  ch : s.c.h < s.c.n
  rng : ∀ i, i < s.m → s.at_ i = -1 ∨ s.k.has (s.at_ i) = true
  inj : ∀ i j, i < s.m → j < s.m → s.at_ i = s.at_ j → s.at_ i ≠ -1 → i = j
  hand : ∀ i, i < s.m → s.at_ i ≠ -1 → s.b i = f (s.at_ i)
  clean : ∀ i, i < s.m → s.at_ i ≠ -1 → s.d i = false → s.k.held (s.at_ i) = f (s.at_ i)
  out : ∀ n, s.k.has n = true → (∀ i, i < s.m → s.at_ i ≠ n) → s.k.held n = f n
  len : ∀ n, (f n).length ≤ 1024

theorem has_ne {k : PS} {n : Int} (h : k.has n = true) : n ≠ -1 := by
  have := (k.has_at n).1 h
  omega

theorem Holds.new {k : PS} (hk : k.Well) (ho : k.Ok) {m : Nat} (hm : 1 ≤ m) : Holds (PP.new k m) k.held :=
  ⟨hk, rfl, by show 0 < m; omega, fun _ _ => Or.inl rfl, fun i j _ _ _ h => absurd rfl h, fun i _ h => absurd rfl h, fun i _ h => absurd rfl h, fun _ _ _ => rfl, fun n => by
    unfold PS.held
    cases hw : k.W n with
    | none => exact ho.ll n
    | some l => exact ho.wl n l hw⟩

theorem Holds.find_uniq {s : PP} {f : Int → List UInt8} (h : Holds s f) {n : Int} {i : Nat} (hn : 0 ≤ n) (hi : i < s.m) (e : s.at_ i = n) : s.find n = some i := by
  obtain ⟨j, hj⟩ := find_of hn hi e
  obtain ⟨h1, h2, _⟩ := find_some hj
  rw [hj, h.inj j i h1 hi (h2.trans e.symm) (by rw [h2]; omega)]

/-- Only the clock changes. -/
theorem Holds.clock {s : PP} {f : Int → List UInt8} (h : Holds s f) {c : CS} (hn : c.n = s.m) (hh : c.h < c.n) : Holds { s with c := c } f :=
  { h with
    cn := hn
    ch := hh }

theorem useS_h (c : CS) (i : Int) : (c.useS i).h = c.h := by unfold CS.useS; split <;> rfl
theorem useS_p (c : CS) (i : Int) : (c.useS i).p = c.p := by unfold CS.useS; split <;> rfl
theorem pinS_h (c : CS) (i : Int) : (c.pinS i).h = c.h := by unfold CS.pinS; split <;> rfl
theorem unS_h (c : CS) (i : Int) : (c.unS i).h = c.h := by unfold CS.unS; split <;> rfl

theorem Holds.used {s : PP} {f : Int → List UInt8} (h : Holds s f) (i : Nat) : Holds (s.used i) f :=
  h.clock ((CS.useS_n _ _).trans h.cn) (by rw [useS_h, CS.useS_n]; exact h.ch)

/-- A frame is emptied that is clean. -/
theorem Holds.void {s : PP} {f : Int → List UInt8} (h : Holds s f) {i : Nat} (hc : s.at_ i ≠ -1 → s.k.held (s.at_ i) = f (s.at_ i)) : Holds (s.lay i (-1) [] false) f := by
  have ea : ∀ j, (s.lay i (-1) [] false).at_ j = if j = i then -1 else s.at_ j := fun _ => rfl
  have eb : ∀ j, (s.lay i (-1) [] false).b j = if j = i then [] else s.b j := fun _ => rfl
  have ed : ∀ j, (s.lay i (-1) [] false).d j = if j = i then false else s.d j := fun _ => rfl
  refine ⟨h.well, h.cn, h.ch, fun j hj => ?_, fun j l hj hl e hne => ?_, fun j hj hne => ?_, fun j hj hne hd => ?_, fun n hn ho => ?_, h.len⟩
  · rw [ea]
    split
    · exact Or.inl rfl
    · exact h.rng j hj
  · rw [ea] at hne
    rw [ea, ea] at e
    by_cases e1 : j = i
    · rw [if_pos e1] at hne
      exact absurd rfl hne
    · rw [if_neg e1] at hne e
      by_cases e2 : l = i
      · rw [if_pos e2] at e
        exact absurd e hne
      · rw [if_neg e2] at e
        exact h.inj j l hj hl e hne
  · rw [ea] at hne ⊢
    rw [eb]
    by_cases e1 : j = i
    · rw [if_pos e1] at hne
      exact absurd rfl hne
    · rw [if_neg e1] at hne
      rw [if_neg e1, if_neg e1]
      exact h.hand j hj hne
  · rw [ea] at hne ⊢
    rw [ed] at hd
    by_cases e1 : j = i
    · rw [if_pos e1] at hne
      exact absurd rfl hne
    · rw [if_neg e1] at hne hd
      rw [if_neg e1]
      exact h.clean j hj hne hd
  · by_cases e : s.at_ i = n
    · have hne : s.at_ i ≠ -1 := by rw [e]; exact has_ne hn
      have := hc hne
      rw [e] at this
      exact this
    · refine h.out n hn (fun j hj => ?_)
      by_cases e1 : j = i
      · rw [e1]
        exact e
      · have := ho j hj
        rw [ea, if_neg e1] at this
        exact this

/-- What is at hand is written. -/
theorem Holds.wrote {s : PP} {f : Int → List UInt8} (h : Holds s f) {i : Nat} (hi : i < s.m) (hne : s.at_ i ≠ -1) : s.k.writeE (s.at_ i) (s.b i) = 0 ∧ Holds (s.wrote i) f ∧ (s.wrote i).k = s.k.lay (s.at_ i) (s.b i) ∧ (s.wrote i).k.held (s.at_ i) = f (s.at_ i) := by
  have hh : s.k.has (s.at_ i) = true := (h.rng i hi).resolve_left hne
  have hb := h.hand i hi hne
  obtain ⟨w1, w2⟩ := h.well.write hh (l := s.b i) (by rw [hb]; exact h.len _)
  have ek : (s.wrote i).k = s.k.lay (s.at_ i) (s.b i) := w2
  have hl : ∀ n, (s.wrote i).k.held n = if n = s.at_ i then f (s.at_ i) else s.k.held n := fun n => by rw [ek, PS.lay_held, hb]
  refine ⟨w1, ⟨by rw [ek]; exact h.well.lay _ _, h.cn, h.ch, fun j hj => ?_, h.inj, h.hand, fun j hj hn hd => ?_, fun n hn ho => ?_, h.len⟩, ek, by rw [hl, if_pos rfl]⟩
  · rw [ek]
    exact h.rng j hj
  · show (s.wrote i).k.held (s.at_ j) = _
    show _ = f (s.at_ j)
    rw [hl]
    split
    · rename_i e
      rw [e]
    · exact h.clean j hj hn hd
  · rw [ek] at hn
    rw [hl]
    split
    · rename_i e
      rw [e]
    · exact h.out n hn ho

/-- A frame that is empty comes to hold what is got. -/
theorem Holds.fill {s : PP} {f : Int → List UInt8} (h : Holds s f) {i : Nat} (he : s.at_ i = -1) {n : Int} (hn : s.k.has n = true) (hno : ∀ j, j < s.m → s.at_ j ≠ n) : Holds (s.lay i n (f n) false) f := by
  have ea : ∀ j, (s.lay i n (f n) false).at_ j = if j = i then n else s.at_ j := fun _ => rfl
  have eb : ∀ j, (s.lay i n (f n) false).b j = if j = i then f n else s.b j := fun _ => rfl
  have ed : ∀ j, (s.lay i n (f n) false).d j = if j = i then false else s.d j := fun _ => rfl
  refine ⟨h.well, h.cn, h.ch, fun j hj => ?_, fun j l hj hl e hne => ?_, fun j hj hne => ?_, fun j hj hne hd => ?_, fun q hq ho => ?_, h.len⟩
  · rw [ea]
    split
    · exact Or.inr hn
    · exact h.rng j hj
  · rw [ea] at hne
    rw [ea, ea] at e
    by_cases e1 : j = i
    · by_cases e2 : l = i
      · rw [e1, e2]
      · rw [if_pos e1, if_neg e2] at e
        exact absurd e.symm (hno l hl)
    · rw [if_neg e1] at hne e
      by_cases e2 : l = i
      · rw [if_pos e2] at e
        exact absurd e (hno j hj)
      · rw [if_neg e2] at e
        exact h.inj j l hj hl e hne
  · rw [ea] at hne ⊢
    rw [eb]
    by_cases e1 : j = i
    · rw [if_pos e1, if_pos e1]
    · rw [if_neg e1] at hne
      rw [if_neg e1, if_neg e1]
      exact h.hand j hj hne
  · rw [ea] at hne ⊢
    rw [ed] at hd
    by_cases e1 : j = i
    · rw [if_pos e1]
      exact h.out n hn hno
    · rw [if_neg e1] at hne hd
      rw [if_neg e1]
      exact h.clean j hj hne hd
  · refine h.out q hq (fun j hj => ?_)
    by_cases e1 : j = i
    · rw [e1, he]
      exact (has_ne hq).symm
    · have := ho j hj
      rw [ea, if_neg e1] at this
      exact this

def upd (f : Int → List UInt8) (n : Int) (l : List UInt8) : Int → List UInt8 := fun j => if j = n then l else f j

/-- A frame that is empty, or holds that sector, comes to hold what is put. -/
theorem Holds.putAt {s : PP} {f : Int → List UInt8} (h : Holds s f) {i : Nat} (hi : i < s.m) {n : Int} (hn : s.k.has n = true) (he : s.at_ i = n ∨ (s.at_ i = -1 ∧ ∀ j, j < s.m → s.at_ j ≠ n)) {l : List UInt8} (hl : l.length ≤ 1024) : Holds (s.lay i n l true) (upd f n l) := by
  have ea : ∀ j, (s.lay i n l true).at_ j = if j = i then n else s.at_ j := fun _ => rfl
  have eb : ∀ j, (s.lay i n l true).b j = if j = i then l else s.b j := fun _ => rfl
  have ed : ∀ j, (s.lay i n l true).d j = if j = i then true else s.d j := fun _ => rfl
  have hno : ∀ j, j < s.m → j ≠ i → s.at_ j ≠ n := by
    intro j hj hji e
    rcases he with he | ⟨_, he⟩
    · exact hji (h.inj j i hj hi (e.trans he.symm) (by rw [e]; exact has_ne hn))
    · exact he j hj e
  have hu : ∀ q, q ≠ n → upd f n l q = f q := fun q hq => by unfold upd; rw [if_neg hq]
  refine ⟨h.well, h.cn, h.ch, fun j hj => ?_, fun j q hj hq e hne => ?_, fun j hj hne => ?_, fun j hj hne hd => ?_, fun q hq ho => ?_, fun q => ?_⟩
  · rw [ea]
    split
    · exact Or.inr hn
    · exact h.rng j hj
  · rw [ea] at hne
    rw [ea, ea] at e
    by_cases e1 : j = i
    · by_cases e2 : q = i
      · rw [e1, e2]
      · rw [if_pos e1, if_neg e2] at e
        exact absurd e.symm (hno q hq e2)
    · rw [if_neg e1] at hne e
      by_cases e2 : q = i
      · rw [if_pos e2] at e
        exact absurd e (hno j hj e1)
      · rw [if_neg e2] at e
        exact h.inj j q hj hq e hne
  · rw [ea] at hne ⊢
    rw [eb]
    by_cases e1 : j = i
    · rw [if_pos e1, if_pos e1]
      unfold upd
      rw [if_pos rfl]
    · rw [if_neg e1] at hne
      rw [if_neg e1, if_neg e1, hu _ (hno j hj e1)]
      exact h.hand j hj hne
  · rw [ea] at hne ⊢
    rw [ed] at hd
    by_cases e1 : j = i
    · rw [if_pos e1] at hd
      cases hd
    · rw [if_neg e1] at hne hd
      rw [if_neg e1, hu _ (hno j hj e1)]
      exact h.clean j hj hne hd
  · have hqn : q ≠ n := by
      have := ho i hi
      rw [ea, if_pos rfl] at this
      exact this.symm
    rw [hu q hqn]
    refine h.out q hq (fun j hj => ?_)
    by_cases e1 : j = i
    · rw [e1]
      rcases he with he | ⟨he, _⟩
      · rw [he]
        exact hqn.symm
      · rw [he]
        exact (has_ne hq).symm
    · have := ho j hj
      rw [ea, if_neg e1] at this
      exact this
  · unfold upd
    split
    · exact hl
    · exact h.len q

/-- What finding room comes to, where a frame is empty or may go. -/
structure Roomed (s : PP) (f : Int → List UInt8) (i : Nat) (t : PP) : Prop where
  eq : s.room = (some i, 0, t)
  lt : i < s.m
  void : t.at_ i = -1
  m_ : t.m = s.m
  holds : Holds t f
  size : t.k.size = s.k.size
  held : ∀ n, s.k.has n = true → (∀ j, j < s.m → s.at_ j ≠ n) → (∀ j, j < t.m → t.at_ j ≠ n)
  p_ : t.c.p = s.c.p
  go_ : (s.gap = some i ∧ t = s) ∨ s.c.p i = 0
  at_ : ∀ j, j ≠ i → t.at_ j = s.at_ j

theorem Holds.room {s : PP} {f : Int → List UInt8} (h : Holds s f) (hf : s.gap = none → s.c.free = true) : ∃ i t, Roomed s f i t := by
  cases hg : s.gap with
  | some i =>
    obtain ⟨h1, h2⟩ := gap_some hg
    refine ⟨i, s, ?_, h1, h2, rfl, h, rfl, fun _ _ ho => ho, rfl, Or.inl ⟨hg, rfl⟩, fun _ _ => rfl⟩
    unfold PP.room
    rw [hg]
  | none =>
    have hfr := hf hg
    obtain ⟨r, hw, _, g⟩ := CS.way_of h.ch hfr
    obtain ⟨v1, v2, v3⟩ := CS.vic_of hw
    have hi : r.1 < s.m := by
      have := g.lt
      rw [h.cn] at this
      exact this
    have hne := gap_none hg r.1 hi
    have e1 : s.c.vicI.toNat = r.1 := by rw [v1]; rfl
    have hc : Holds { s with c := s.c.vicS } f := h.clock ((CS.vicS_n h.ch).trans h.cn) (by
      rw [v3, g.h_, g.n_]
      exact Nat.mod_lt _ (by have := h.ch; omega))
    have hp : s.c.vicS.p = s.c.p := by rw [v3]; exact g.p_
    cases hd : s.d r.1 with
    | true =>
      obtain ⟨w1, w2, w3, w4⟩ := hc.wrote hi hne
      have hv := w2.void (fun _ => w4)
      refine ⟨r.1, (PP.wrote { s with c := s.c.vicS } r.1).lay r.1 (-1) [] false, ?_, hi, ?_, rfl, hv, ?_, fun n hn ho j hj => ?_, hp, Or.inr g.p0, fun j hj => ?_⟩
      · unfold PP.room
        rw [hg]
        simp only [hfr, if_true, e1, hd]
        rw [if_pos w1]
        rfl
      · show (if r.1 = r.1 then (-1 : Int) else _) = -1
        rw [if_pos rfl]
      · show (PP.wrote { s with c := s.c.vicS } r.1).k.size = _
        rw [w3]
        rfl
      · show (if j = r.1 then (-1 : Int) else s.at_ j) ≠ n
        split
        · exact (has_ne hn).symm
        · exact ho j hj
      · show (if j = r.1 then (-1 : Int) else s.at_ j) = _
        rw [if_neg hj]
    | false =>
      have hv := hc.void (fun _ => h.clean r.1 hi hne hd)
      refine ⟨r.1, PP.lay { s with c := s.c.vicS } r.1 (-1) [] false, ?_, hi, ?_, rfl, hv, rfl, fun n hn ho j hj => ?_, hp, Or.inr g.p0, fun j hj => ?_⟩
      · unfold PP.room
        rw [hg]
        simp only [hfr, if_true, e1, hd]
        rfl
      · show (if r.1 = r.1 then (-1 : Int) else _) = -1
        rw [if_pos rfl]
      · show (if j = r.1 then (-1 : Int) else s.at_ j) ≠ n
        split
        · exact (has_ne hn).symm
        · exact ho j hj
      · show (if j = r.1 then (-1 : Int) else s.at_ j) = _
        rw [if_neg hj]

/-- What Get comes to: the sector is in frame i. -/
structure Got (s : PP) (f : Int → List UInt8) (n : Int) (i : Nat) (t : PP) : Prop where
  eq : s.get n = (0, f n, t)
  holds : Holds t f
  m_ : t.m = s.m
  size : t.k.size = s.k.size
  p_ : t.c.p = s.c.p
  lt : i < s.m
  here : t.at_ i = n
  at_ : ∀ j, j ≠ i → t.at_ j = s.at_ j
  from_ : (s.at_ i = n ∧ s.find n = some i) ∨ (s.find n = none ∧ (s.gap = some i ∨ s.c.p i = 0))

theorem Holds.get {s : PP} {f : Int → List UInt8} (h : Holds s f) {n : Int} (hn : s.k.has n = true) (hf : s.find n = none → s.gap = none → s.c.free = true) : ∃ i t, Got s f n i t := by
  cases hs : s.find n with
  | some i =>
    obtain ⟨h1, h2, h3⟩ := find_some hs
    refine ⟨i, s.used i, ?_, h.used i, rfl, rfl, useS_p _ _, h1, h2, fun _ _ => rfl, Or.inl ⟨h2, hs⟩⟩
    unfold PP.get
    rw [hs]
    show (0, s.b i, s.used i) = _
    rw [h.hand i h1 (by rw [h2]; exact has_ne hn), h2]
  | none =>
    have h0 := (s.k.has_at n).1 hn
    have hno := find_none hs h0.1
    obtain ⟨r1, r2⟩ := h.well.read hn
    obtain ⟨i, t, r⟩ := h.room (hf hs)
    have ho := h.out n hn hno
    have hk : t.k.has n = true := by
      rw [t.k.has_at, r.size]
      exact h0
    have hl := r.holds.fill (n := n) r.void hk (r.held n hn hno)
    refine ⟨i, (t.lay i n (f n) false).used i, ?_, hl.used i, r.m_, r.size, (useS_p _ _).trans r.p_, r.lt, ?_, fun j hj => ?_, Or.inr ⟨hs, ?_⟩⟩
    · unfold PP.get
      rw [hs, r.eq]
      simp only [r1, if_true, r2, ho]
    · show (if i = i then n else _) = n
      rw [if_pos rfl]
    · show (if j = i then n else t.at_ j) = _
      rw [if_neg hj, r.at_ j hj]
    · rcases r.go_ with g | g
      · exact Or.inl g.1
      · exact Or.inr g

theorem Holds.find_bad {s : PP} {f : Int → List UInt8} (h : Holds s f) {n : Int} (hn : s.k.has n = false) : s.find n = none := by
  cases hs : s.find n with
  | none => rfl
  | some i =>
    obtain ⟨h1, h2, h3⟩ := find_some hs
    rcases h.rng i h1 with e | e
    · omega
    · rw [h2, hn] at e
      cases e
theorem Holds.getBad {s : PP} {f : Int → List UInt8} (h : Holds s f) {n : Int} (hn : s.k.has n = false) : s.get n = (41, [], s) := by
  unfold PP.get
  rw [h.find_bad hn]
  simp only [h.well.readBad hn]
  rfl

theorem Holds.put {s : PP} {f : Int → List UInt8} (h : Holds s f) {n : Int} (hn : s.k.has n = true) {l : List UInt8} (hl : l.length ≤ 1024) (hf : s.find n = none → s.gap = none → s.c.free = true) :
    ∃ t, s.put n l = (0, t) ∧ Holds t (upd f n l) ∧ t.m = s.m ∧ t.k.size = s.k.size ∧ t.c.p = s.c.p := by
  have hb : s.k.bad n l = false := by
    unfold PS.bad
    rw [hn]
    simp
    omega
  cases hs : s.find n with
  | some i =>
    obtain ⟨h1, h2, h3⟩ := find_some hs
    refine ⟨(s.lay i n l true).used i, ?_, (h.putAt h1 hn (Or.inl h2) hl).used i, rfl, rfl, useS_p _ _⟩
    unfold PP.put
    rw [hs, hb]
    rfl
  | none =>
    have h0 := (s.k.has_at n).1 hn
    have hno := find_none hs h0.1
    obtain ⟨i, t, r⟩ := h.room (hf hs)
    have hk : t.k.has n = true := by
      rw [t.k.has_at, r.size]
      exact h0
    refine ⟨(t.lay i n l true).used i, ?_, (r.holds.putAt (by rw [r.m_]; exact r.lt) hk (Or.inr ⟨r.void, r.held n hn hno⟩) hl).used i, r.m_, r.size, (useS_p _ _).trans r.p_⟩
    unfold PP.put
    rw [hs, hb, r.eq]
    rfl
theorem put_bad {s : PP} {n : Int} {l : List UInt8} (h : s.k.bad n l = true) : s.put n l = (41, s) := by
  unfold PP.put
  rw [if_pos h]

theorem dirty_some {s : PP} {n : Int} {i : Nat} (h : s.dirty n = some i) : s.find n = some i ∧ s.d i = true := by
  unfold PP.dirty at h
  split at h
  · rename_i j hj
    split at h
    · rename_i hd
      obtain rfl := Option.some.inj h
      exact ⟨hj, hd⟩
    · cases h
  · cases h

theorem Holds.washed {s : PP} {f : Int → List UInt8} (h : Holds s f) {i : Nat} (hi : i < s.m) (hne : s.at_ i ≠ -1) : Holds (s.washed i) f ∧ (s.washed i).k.size = s.k.size := by
  obtain ⟨w1, w2, w3, w4⟩ := h.wrote hi hne
  refine ⟨⟨w2.well, w2.cn, w2.ch, w2.rng, w2.inj, w2.hand, fun j hj hn hd => ?_, w2.out, w2.len⟩, ?_⟩
  · have hd' : (if j = i then false else s.d j) = false := hd
    by_cases e : j = i
    · rw [e]
      exact w4
    · rw [if_neg e] at hd'
      exact w2.clean j hj hn hd'
  · show (s.wrote i).k.size = _
    rw [w3]
    rfl

/-- What washing comes to. -/
structure Washed (s : PP) (f : Int → List UInt8) (n : Int) (r : Int × PP) : Prop where
  e_ : r.1 = 0
  holds : Holds r.2 f
  m_ : r.2.m = s.m
  size : r.2.k.size = s.k.size
  c_ : r.2.c = s.c
  at_ : r.2.at_ = s.at_
  done : ∀ j, j < s.m → n ≤ s.at_ j → r.2.d j = false
  stay : ∀ j, s.d j = false → r.2.d j = false

theorem Holds.wash {f : Int → List UInt8} : ∀ (g : Nat) (n : Int) (s : PP), Holds s f → 0 ≤ n → n + g = s.k.size → Washed s f n (PP.wash g n s)
  | 0, n, s, h, hn, hg => by
    refine ⟨rfl, h, rfl, rfl, rfl, rfl, fun j hj hat => ?_, fun _ hd => hd⟩
    rcases h.rng j hj with e | e
    · omega
    · have := (s.k.has_at _).1 e
      omega
  | g + 1, n, s, h, hn, hg => by
    unfold PP.wash
    cases hd : s.dirty n with
    | some i =>
      obtain ⟨h1, h2⟩ := dirty_some hd
      obtain ⟨h3, h4, h5⟩ := find_some h1
      have hne : s.at_ i ≠ -1 := by omega
      obtain ⟨w1, w2, w3, w4⟩ := h.wrote h3 hne
      obtain ⟨k1, k2⟩ := h.washed h3 hne
      have ih := Holds.wash g (n + 1) (s.washed i) k1 (by omega) (by rw [k2]; omega)
      simp only [w1, if_true]
      refine ⟨ih.e_, ih.holds, ih.m_, ih.size.trans k2, ih.c_, ih.at_, fun j hj hat => ?_, fun j hj => ih.stay j ?_⟩
      · by_cases e : s.at_ j = n
        · have hji : j = i := h.inj j i hj h3 (e.trans h4.symm) (by omega)
          refine ih.stay j ?_
          show (if j = i then false else s.d j) = false
          rw [if_pos hji]
        · exact ih.done j hj (by show n + 1 ≤ s.at_ j; omega)
      · show (if j = i then false else s.d j) = false
        split
        · rfl
        · exact hj
    | none =>
      have ih := Holds.wash g (n + 1) s h (by omega) (by omega)
      refine ⟨ih.e_, ih.holds, ih.m_, ih.size, ih.c_, ih.at_, fun j hj hat => ?_, ih.stay⟩
      by_cases e : s.at_ j = n
      · refine ih.stay j ?_
        have hfj := h.find_uniq hn hj e
        unfold PP.dirty at hd
        rw [hfj] at hd
        cases hdj : s.d j with
        | false => rfl
        | true =>
          simp only [hdj, if_true] at hd
          cases hd
      · exact ih.done j hj (by omega)

/-- What Flush comes to. -/
structure Flushed (s : PP) (f : Int → List UInt8) (t : PP) : Prop where
  eq : s.flush = (0, t)
  holds : Holds t f
  m_ : t.m = s.m
  size : t.k.size = s.k.size
  c_ : t.c = s.c
  at_ : t.at_ = s.at_
  clean : ∀ j, j < s.m → 0 ≤ s.at_ j → t.d j = false
  waits : t.k.W = fun _ => none
  lasts : ∀ n, s.k.has n = true → t.k.L n = f n

theorem Holds.flush {s : PP} {f : Int → List UInt8} (h : Holds s f) : ∃ t, Flushed s f t := by
  have w := Holds.wash s.k.size 0 s h (Int.le_refl _) (by omega)
  obtain ⟨f1, f2⟩ := w.holds.well.flush
  generalize hr : PP.wash s.k.size 0 s = r at *
  refine ⟨{ r.2 with k := r.2.k.flushed }, ?_, ⟨by rw [f2]; exact w.holds.well.all, w.holds.cn, w.holds.ch, ?_, w.holds.inj, w.holds.hand, ?_, ?_, w.holds.len⟩, w.m_, ?_, w.c_, w.at_, w.done, ?_, ?_⟩
  · unfold PP.flush
    rw [hr]
    simp only [w.e_, if_true, f1]
  · show ∀ i, i < r.2.m → _ ∨ r.2.k.flushed.has _ = true
    rw [f2]
    exact w.holds.rng
  · show ∀ i, i < r.2.m → r.2.at_ i ≠ -1 → r.2.d i = false → r.2.k.flushed.held _ = _
    rw [f2]
    intro i hi hne hd
    rw [PS.all_held]
    exact w.holds.clean i hi hne hd
  · show ∀ n, r.2.k.flushed.has n = true → _ → r.2.k.flushed.held n = _
    rw [f2]
    intro n hn ho
    rw [PS.all_held]
    exact w.holds.out n hn ho
  · show r.2.k.flushed.size = _
    rw [f2]
    exact w.size
  · show r.2.k.flushed.W = _
    rw [f2]
    rfl
  · intro n hn
    show r.2.k.flushed.L n = f n
    rw [f2]
    show r.2.k.held n = f n
    have hk : r.2.k.has n = true := by
      rw [r.2.k.has_at, w.size]
      exact (s.k.has_at n).1 hn
    have h0 := (s.k.has_at n).1 hn
    by_cases e : ∃ i, i < r.2.m ∧ r.2.at_ i = n
    · obtain ⟨i, hi, rfl⟩ := e
      refine w.holds.clean i hi (has_ne hk) (w.done i (by rw [← w.m_]; exact hi) (by rw [← w.at_]; exact h0.1))
    · exact w.holds.out n hk (fun i hi e' => e ⟨i, hi, e'⟩)

/-- With nothing pinned some frame may go. -/
theorem Holds.loose {s : PP} {f : Int → List UInt8} (h : Holds s f) (hp : ∀ j, s.c.p j = 0) : s.c.free = true := by
  rw [CS.free_iff]
  exact ⟨s.c.h, h.ch, hp _⟩
end Go.Proofs.Ytgkdlbcpckdmkaa.PP

/-
  Which sectors of a plain pool are pinned. Nothing here names the program.
-/
namespace Go.Proofs.Ytgkdlbcpckdmkaa.PP

/-- More things than places: two of them share one. -/
theorem pigeon : ∀ (k m : Nat) (g : Nat → Nat), k < m → (∀ j, j < m → g j < k) → ∃ i j, i < m ∧ j < m ∧ i ≠ j ∧ g i = g j
  | 0, m, g, hm, hg => absurd (hg 0 hm) (by omega)
  | k + 1, m, g, hm, hg => by
    by_cases h : ∃ j, j < m - 1 ∧ g j = g (m - 1)
    · obtain ⟨j, hj, e⟩ := h
      exact ⟨j, m - 1, by omega, by omega, by omega, e⟩
    · -- the last one's place is taken out
      have hno : ∀ j, j < m - 1 → g j ≠ g (m - 1) := fun j hj e => h ⟨j, hj, e⟩
      have hl := hg (m - 1) (by omega)
      obtain ⟨i, j, hi, hj, hne, e⟩ := pigeon k (m - 1) (fun j => if g j = k then g (m - 1) else g j) (by omega) (fun j hj => by
        have h1 := hg j (by omega)
        have h2 := hno j hj
        show (if g j = k then g (m - 1) else g j) < k
        split
        · rename_i e
          omega
        · omega)
      have e' : (if g i = k then g (m - 1) else g i) = (if g j = k then g (m - 1) else g j) := e
      refine ⟨i, j, by omega, by omega, hne, ?_⟩
      have a := hno i hi
      have b := hno j hj
      split at e' <;> split at e' <;> omega

/-- The first k sectors are at hand and pinned, no frame else is pinned. -/
structure Pinned (s : PP) (k : Nat) : Prop where
  at_ : ∀ n : Nat, n < k → ∃ j, j < s.m ∧ s.at_ j = n ∧ s.c.p j ≠ 0
  only : ∀ j, s.c.p j ≠ 0 → j < s.m ∧ 0 ≤ s.at_ j ∧ s.at_ j < k

theorem Pinned.none {s : PP} (h : ∀ j, s.c.p j = 0) : Pinned s 0 := ⟨fun n hn => absurd hn (by omega), fun j hj => absurd (h j) hj⟩

/-- Not all frames are pinned while fewer sectors are. -/
theorem Pinned.free {s : PP} {f : Int → List UInt8} {k : Nat} (hp : Pinned s k) (h : Holds s f) (hk : k < s.m) : s.c.free = true := by
  rw [CS.free_iff, h.cn]
  by_cases hx : ∃ j, j < s.m ∧ s.c.p j = 0
  · exact hx
  · have hall : ∀ j, j < s.m → s.c.p j ≠ 0 := fun j hj e => hx ⟨j, hj, e⟩
    obtain ⟨i, j, hi, hj, hne, e⟩ := pigeon k s.m (fun j => (s.at_ j).toNat) hk (fun j hj => by
      obtain ⟨_, h2, h3⟩ := hp.only j (hall j hj)
      show (s.at_ j).toNat < k
      omega)
    have e' : (s.at_ i).toNat = (s.at_ j).toNat := e
    obtain ⟨_, a1, _⟩ := hp.only i (hall i hi)
    obtain ⟨_, b1, _⟩ := hp.only j (hall j hj)
    exact absurd (h.inj i j hi hj (by omega) (by omega)) hne

/-- All frames are pinned where as many sectors are. -/
theorem Pinned.full {s : PP} (hp : Pinned s s.m) : ∀ j, j < s.m → s.c.p j ≠ 0 := by
  intro j hj h0
  have hch : ∀ n : Nat, ∃ i, n < s.m → (i < s.m ∧ s.at_ i = n ∧ s.c.p i ≠ 0) := fun n => by
    by_cases hn : n < s.m
    · obtain ⟨i, hi⟩ := hp.at_ n hn
      exact ⟨i, fun _ => hi⟩
    · exact ⟨0, fun h => absurd h hn⟩
  have ⟨g, hg⟩ := Classical.axiomOfChoice hch
  -- the frames but j
  obtain ⟨a, b, ha, hb, hne, e⟩ := pigeon (s.m - 1) s.m (fun n => if g n = s.m - 1 then j else g n) (by omega) (fun n hn => by
    obtain ⟨h1, h2, h3⟩ := hg n hn
    show (if g n = s.m - 1 then j else g n) < s.m - 1
    split
    · rename_i e
      have : j ≠ s.m - 1 := fun e2 => h3 (by rw [e, ← e2]; exact h0)
      omega
    · omega)
  obtain ⟨a1, a2, a3⟩ := hg a ha
  obtain ⟨b1, b2, b3⟩ := hg b hb
  have ja : g a ≠ j := fun e2 => a3 (by rw [e2]; exact h0)
  have jb : g b ≠ j := fun e2 => b3 (by rw [e2]; exact h0)
  have e' : (if g a = s.m - 1 then j else g a) = (if g b = s.m - 1 then j else g b) := e
  have : g a = g b := by
    split at e' <;> split at e' <;> omega
  rw [this, b2] at a2
  omega

theorem pinS_p (c : CS) {i : Nat} (hi : i < c.n) (j : Nat) : (c.pinS (i : Int)).p j = if j = i then c.p i + 1 else c.p j := by
  unfold CS.pinS
  rw [if_pos (by unfold CS.has; exact decide_eq_true (by omega))]
  show (if j = (i : Int).toNat then _ else _) = _
  rw [Int.toNat_natCast]

theorem Holds.pinAt {s : PP} {f : Int → List UInt8} (h : Holds s f) {n : Int} {i : Nat} (hs : s.find n = some i) : Holds (s.pinAt n) f ∧ (s.pinAt n).m = s.m ∧ (s.pinAt n).k.size = s.k.size ∧ (s.pinAt n).at_ = s.at_ ∧ (∀ j, (s.pinAt n).c.p j = if j = i then s.c.p i + 1 else s.c.p j) := by
  unfold PP.pinAt
  rw [hs]
  obtain ⟨h1, _, _⟩ := find_some hs
  exact ⟨h.clock ((CS.pinS_n _ _).trans h.cn) (by rw [pinS_h, CS.pinS_n]; exact h.ch), rfl, rfl, rfl, pinS_p _ (by rw [h.cn]; exact h1)⟩

/-- What Pin comes to, of a sector that may be got. -/
structure PinEnd (s : PP) (f : Int → List UInt8) (n : Int) (i : Nat) (t : PP) : Prop where
  eq : s.pin n = (0, t)
  holds : Holds t f
  m_ : t.m = s.m
  size : t.k.size = s.k.size
  lt : i < s.m
  here : t.at_ i = n
  at_ : ∀ j, j ≠ i → t.at_ j = s.at_ j
  p_ : ∀ j, t.c.p j = if j = i then s.c.p i + 1 else s.c.p j
  from_ : (s.at_ i = n ∧ s.find n = some i) ∨ (s.find n = none ∧ (s.gap = some i ∨ s.c.p i = 0))

theorem Holds.pin {s : PP} {f : Int → List UInt8} (h : Holds s f) {n : Int} (hn : s.k.has n = true) (hf : s.find n = none → s.gap = none → s.c.free = true) : ∃ i t, PinEnd s f n i t := by
  obtain ⟨i, t, g⟩ := h.get hn hf
  have h0 := (s.k.has_at n).1 hn
  have hfi := g.holds.find_uniq h0.1 (by rw [g.m_]; exact g.lt) g.here
  obtain ⟨k1, k2, k3, k4, k5⟩ := g.holds.pinAt hfi
  refine ⟨i, t.pinAt n, ?_, k1, k2.trans g.m_, k3.trans g.size, g.lt, by rw [k4]; exact g.here, fun j hj => by rw [k4]; exact g.at_ j hj, fun j => by rw [k5, g.p_], g.from_⟩
  unfold PP.pin
  rw [g.eq]
  rfl

/-- One sector more is pinned. -/
theorem Pinned.step {s : PP} {f : Int → List UInt8} {k : Nat} (hp : Pinned s k) (h : Holds s f) (hk : k < s.m) (hs : s.k.has (k : Int) = true) : ∃ t, s.pin k = (0, t) ∧ Holds t f ∧ t.m = s.m ∧ t.k.size = s.k.size ∧ Pinned t (k + 1) := by
  obtain ⟨i, t, g⟩ := h.pin hs (fun _ _ => hp.free h hk)
  -- frame i was not pinned, or held this sector
  have hi : s.c.p i = 0 := by
    by_cases e : s.c.p i = 0
    · exact e
    · obtain ⟨_, h2, h3⟩ := hp.only i e
      rcases g.from_ with ⟨h4, _⟩ | ⟨_, h4 | h4⟩
      · omega
      · have := (gap_some h4).2
        omega
      · exact h4
  refine ⟨t, g.eq, g.holds, g.m_, g.size, fun n hn => ?_, fun j hj => ?_⟩
  · by_cases e : n = k
    · refine ⟨i, by rw [g.m_]; exact g.lt, by rw [g.here, e], ?_⟩
      rw [g.p_, if_pos rfl]
      omega
    · obtain ⟨j, j1, j2, j3⟩ := hp.at_ n (by omega)
      have hji : j ≠ i := fun e2 => j3 (by rw [e2]; exact hi)
      exact ⟨j, by rw [g.m_]; exact j1, by rw [g.at_ j hji]; exact j2, by rw [g.p_, if_neg hji]; exact j3⟩
  · by_cases e : j = i
    · rw [e]
      exact ⟨by rw [g.m_]; exact g.lt, by rw [g.here]; omega, by rw [g.here]; omega⟩
    · rw [g.p_, if_neg e] at hj
      obtain ⟨h1, h2, h3⟩ := hp.only j hj
      rw [g.m_, g.at_ j e]
      exact ⟨h1, h2, by omega⟩

/-- With all frames pinned nothing else finds room. -/
theorem room_full {s : PP} (hg : s.gap = none) (hf : s.c.free = false) : s.room = (none, 60, s) := by
  unfold PP.room
  rw [hg]
  simp only [hf]
  rfl
theorem free_full {s : PP} (hc : s.c.n = s.m) (h : ∀ j, j < s.m → s.c.p j ≠ 0) : s.c.free = false := by
  cases hf : s.c.free with
  | false => rfl
  | true =>
    obtain ⟨j, hj, h0⟩ := (CS.free_iff _).1 hf
    rw [hc] at hj
    exact absurd h0 (h j hj)
theorem Holds.get_full {s : PP} {f : Int → List UInt8} (h : Holds s f) {n : Int} (hn : s.k.has n = true) (hs : s.find n = none) (hg : s.gap = none) (hf : s.c.free = false) : s.get n = (60, [], s) := by
  unfold PP.get
  rw [hs, room_full hg hf]
  simp only [(h.well.read hn).1, if_true]
theorem put_full {s : PP} {n : Int} {l : List UInt8} (hb : s.k.bad n l = false) (hs : s.find n = none) (hg : s.gap = none) (hf : s.c.free = false) : s.put n l = (60, s) := by
  unfold PP.put
  rw [hs, room_full hg hf, hb]
  rfl

/-- The first frame alone is pinned, once, and holds sector 0. -/
structure Zero (s : PP) : Prop where
  at0 : s.at_ 0 = 0
  p0 : s.c.p 0 = 1
  po : ∀ j, j ≠ 0 → s.c.p j = 0

theorem Zero.free {s : PP} {f : Int → List UInt8} (z : Zero s) (h : Holds s f) (hm : 2 ≤ s.m) : s.c.free = true := by
  rw [CS.free_iff, h.cn]
  exact ⟨1, by omega, z.po 1 (by omega)⟩

/-- It stays so, whatever is got. -/
theorem Zero.got {s t : PP} {f : Int → List UInt8} {n : Int} {i : Nat} (z : Zero s) (g : Got s f n i t) : Zero t := by
  have hat : t.at_ 0 = 0 := by
    by_cases e : i = 0
    · rcases g.from_ with ⟨h4, _⟩ | ⟨_, h4 | h4⟩
      · rw [e] at h4
        have := g.here
        rw [e] at this
        rw [this, ← h4]
        exact z.at0
      · have := (gap_some h4).2
        rw [e, z.at0] at this
        omega
      · rw [e, z.p0] at h4
        omega
    · rw [g.at_ 0 (fun e2 => e e2.symm)]
      exact z.at0
  exact ⟨hat, by rw [g.p_]; exact z.p0, fun j hj => by rw [g.p_]; exact z.po j hj⟩
end Go.Proofs.Ytgkdlbcpckdmkaa.PP

/-
  A pool in the midst of a law: what lies outside of it stays. What is got of it behind a flush.
-/
namespace Go.Proofs.Ytgkdlbcpckdmkaa
open Go.RowKit

namespace PP
theorem Holds.writeA {s : PP} {f : Int → List UInt8} (h : Holds s f) {i : Nat} (hi : i < s.m) (hne : s.at_ i ≠ -1) :
    (s.writeA i).1 = 0 ∧ Holds (s.writeA i).2 f ∧ (s.writeA i).2.m = s.m ∧ (s.writeA i).2.k.size = s.k.size ∧ (s.writeA i).2.c = s.c ∧ (s.writeA i).2.at_ = s.at_ ∧ ∀ j, (s.writeA i).2.d j = if j = i then false else s.d j := by
  unfold PP.writeA
  cases hd : s.d i with
  | true =>
    obtain ⟨w1, _, _, _⟩ := h.wrote hi hne
    obtain ⟨k1, k2⟩ := h.washed hi hne
    simp only [if_true, w1]
    exact ⟨trivial, k1, rfl, k2, rfl, rfl, fun _ => rfl⟩
  | false =>
    simp only [Bool.false_eq_true, if_false]
    refine ⟨trivial, h, trivial, trivial, trivial, trivial, fun j => ?_⟩
    split
    · rename_i e
      rw [e, hd]
    · rfl

theorem Holds.washL {f : Int → List UInt8} : ∀ (js : List Nat) (s : PP), Holds s f → (∀ j ∈ js, j < s.m ∧ s.at_ j ≠ -1) →
    (s.washL js).1 = 0 ∧ Holds (s.washL js).2 f ∧ (s.washL js).2.m = s.m ∧ (s.washL js).2.k.size = s.k.size ∧ (s.washL js).2.c = s.c ∧ (s.washL js).2.at_ = s.at_ ∧ ∀ j, (s.washL js).2.d j = if j ∈ js then false else s.d j
  | [], s, h, _ => ⟨rfl, h, rfl, rfl, rfl, rfl, fun _ => rfl⟩
  | i :: js, s, h, hj => by
    obtain ⟨i1, i2⟩ := hj i (by simp)
    obtain ⟨a1, a2, a3, a4, a5, a6, a7⟩ := h.writeA i1 i2
    obtain ⟨b1, b2, b3, b4, b5, b6, b7⟩ := Holds.washL js (s.writeA i).2 a2 (fun j hm => by
      rw [a3, a6]
      exact hj j (by simp [hm]))
    have e : s.washL (i :: js) = (s.writeA i).2.washL js := by
      show (if (s.writeA i).1 = 0 then _ else _) = _
      rw [if_pos a1]
    rw [e]
    refine ⟨b1, b2, b3.trans a3, b4.trans a4, b5.trans a5, b6.trans a6, fun j => ?_⟩
    rw [b7, a7]
    by_cases e1 : j ∈ js
    · rw [if_pos e1, if_pos (by simp [e1])]
    · rw [if_neg e1]
      by_cases e2 : j = i
      · rw [if_pos e2, if_pos (by simp [e2])]
      · rw [if_neg e2, if_neg (by simp [e1, e2])]

/-- What Flush comes to. -/
structure FlushedA (s : PP) (f : Int → List UInt8) (t : PP) : Prop where
  holds : Holds t f
  m_ : t.m = s.m
  size : t.k.size = s.k.size
  c_ : t.c = s.c
  at_ : t.at_ = s.at_
  clean : ∀ j, j < s.m → t.d j = false
  waits : t.k.W = fun _ => none
  lasts : ∀ n, s.k.has n = true → t.k.L n = f n

theorem Holds.flushA {s : PP} {f : Int → List UInt8} (h : Holds s f) (hv : ∀ i, i < s.m → s.at_ i = -1 → s.d i = false) {js : List Nat} (hj : Js s js) : (s.flushA js).1 = 0 ∧ FlushedA s f (s.flushA js).2 := by
  have hm : ∀ j, j ∈ js ↔ j < s.m ∧ s.d j = true := fun j => by
    rw [hj.perm.mem_iff, List.mem_filter, List.mem_range]
  obtain ⟨b1, b2, b3, b4, b5, b6, b7⟩ := h.washL js s (fun j hm' => by
    obtain ⟨j1, j2⟩ := (hm j).1 hm'
    exact ⟨j1, fun e => by rw [hv j j1 e] at j2; cases j2⟩)
  have hd : ∀ j, j < s.m → (s.washL js).2.d j = false := fun j hjm => by
    rw [b7]
    split
    · rfl
    · rename_i hn
      cases hdj : s.d j with
      | false => rfl
      | true => exact absurd ((hm j).2 ⟨hjm, hdj⟩) hn
  obtain ⟨f1, f2⟩ := b2.well.flush
  unfold PP.flushA
  rw [if_pos b1]
  generalize (s.washL js).2 = r at *
  refine ⟨f1, ⟨by rw [f2]; exact b2.well.all, b2.cn, b2.ch, ?_, b2.inj, b2.hand, ?_, ?_, b2.len⟩, b3, ?_, b5, b6, hd, ?_, ?_⟩
  · show ∀ i, i < r.m → _ ∨ r.k.flushed.has _ = true
    rw [f2]
    exact b2.rng
  · show ∀ i, i < r.m → r.at_ i ≠ -1 → r.d i = false → r.k.flushed.held _ = _
    rw [f2]
    intro i hi hne hd
    rw [PS.all_held]
    exact b2.clean i hi hne hd
  · show ∀ n, r.k.flushed.has n = true → _ → r.k.flushed.held n = _
    rw [f2]
    intro n hn ho
    rw [PS.all_held]
    exact b2.out n hn ho
  · show r.k.flushed.size = _
    rw [f2]
    exact b4
  · show r.k.flushed.W = _
    rw [f2]
    rfl
  · intro n hn
    show r.k.flushed.L n = f n
    rw [f2]
    show r.k.held n = f n
    have hk : r.k.has n = true := by
      rw [r.k.has_at, b4]
      exact (s.k.has_at n).1 hn
    by_cases e : ∃ i, i < r.m ∧ r.at_ i = n
    · obtain ⟨i, hi, rfl⟩ := e
      exact b2.clean i hi (has_ne hk) (hd i (by rw [← b3]; exact hi))
    · exact b2.out n hk (fun i hi e' => e ⟨i, hi, e'⟩)
end PP

/-- A pool that was made since the world W. -/
structure PLive (W : World) (F : Nat → Prop) (w : World) (pb db : Nat) (s : PP) : Prop where
  at_ : ∃ D fb cb rb g, PoolAt w F D pb fb cb rb db g s
  base : ∀ k, F k → W.heap.size ≤ k
  below : Below W.heap.size W w

def PLGoes (W : World) (F : Nat → Prop) (w : World) (pb db : Nat) (s' : PP) (v : Value) (e : Ending) (w' : World) : Prop :=
  e = .returned v ∧ ∃ F', PLive W F' w' pb db s' ∧ Moves w F w' F'

section
variable {W w w' : World} {F F' : Nat → Prop} {pb db : Nat} {s s' : PP}

theorem PLive.le (h : PLive W F w pb db s) : W.heap.size ≤ w.heap.size := h.below.size
theorem PLive.lt (h : PLive W F w pb db s) : ∀ k, F k → k < w.heap.size := by
  obtain ⟨D, fb, cb, rb, g, h⟩ := h.at_
  exact h.core.lt
theorem PLive.fit (h : PLive W F w pb db s) : Fit s := by
  obtain ⟨D, fb, cb, rb, g, h⟩ := h.at_
  exact h.fit
theorem PLive.next (h : PLive W F w pb db s) (hb : Below w.heap.size w w') : PLive W F w' pb db s := by
  obtain ⟨⟨D, fb, cb, rb, g, h0⟩, h1, h2⟩ := h
  exact ⟨⟨D, fb, cb, rb, g, h0.below hb⟩, h1, h2.trans (hb.mono h2.size)⟩
theorem PLive.alloc (h : PLive W F w pb db s) (o : Obj) : PLive W F (w.alloc o) pb db s := h.next (below_one w o)
/-- What another one does leaves a pool alone. -/
theorem PLive.other {G G' : Nat → Prop} (h : PLive W F w pb db s) (hm : Moves w G w' G') (hG : ∀ k, F k → ¬ G k) (hb : Below W.heap.size W w') : PLive W F w' pb db s := by
  obtain ⟨⟨D, fb, cb, rb, g, h0⟩, h1, h2⟩ := h
  exact ⟨⟨D, fb, cb, rb, g, h0.kept hm.kept hG⟩, h1, hb⟩

theorem PLive.moved {D' : Nat → Prop} {fb cb rb : Nat} {g' : Nat → Value} (h : PLive W F w pb db s) (p : PoolAt w' F' D' pb fb cb rb db g' s') (m : Moves w F w' F') : PLive W F' w' pb db s' :=
  ⟨⟨D', fb, cb, rb, g', p⟩, fun k hk => by
    rcases m.news k hk with e | e
    · exact h.base k e
    · exact Nat.le_trans h.le e, h.below.trans (m.kept.toBelow h.base h.le)⟩

theorem PLive.ends {fb cb rb : Nat} {v : Value} {e : Ending} (h : PLive W F w pb db s) (p : PEnd w F pb fb cb rb db s' v e w') : PLGoes W F w pb db s' v e w' := by
  obtain ⟨he, F', D', g', p, m⟩ := p
  exact ⟨he, F', h.moved p m, m⟩

/-- Its disk. -/
theorem PLive.disk (h : PLive W F w pb db s) : ∃ D, Live W D w db s.k := by
  obtain ⟨⟨D, fb, cb, rb, g, h0⟩, h1, h2⟩ := h
  exact ⟨D, h0.core.dk, fun k hk => h1 k (h0.core.fd k hk), h2⟩

set_option maxRecDepth 20000 in
theorem put_live (w : World) (n : Int) (h1 : -9223372036854775808 ≤ n) (h2 : n ≤ 9223372036854775807) (A : Option Addr) (m c : Nat) (l : List UInt8) (hl : l.length = m) (hx : Out w F A l) (hz : A = none → m = 0 ∧ c = 0) (h : PLive W F w pb db s) :
    Calls Try.prog 10 #[.pointer (some ⟨pb, 0, none⟩), .int .i64 n, .slice A m c] w (PLGoes W F w pb db (s.put n l).2 (.int .i64 (s.put n l).1)) := by
  obtain ⟨D, fb, cb, rb, g, p⟩ := h.at_
  exact (put_any w n h1 h2 A m c l hl hx hz p).mono fun _ _ e => h.ends e

/-- What Get answers, in the midst of a law. -/
def LGet (W : World) (F : Nat → Prop) (w : World) (pb db : Nat) (s' : PP) (l : List UInt8) (err : Int) (e : Ending) (w' : World) : Prop :=
  ∃ A c F', e = .returned (.tuple #[.slice A l.length c, .int .i64 err]) ∧ Out w' F' A l ∧ Own w' w.heap.size (.slice A l.length c) l ∧ PLive W F' w' pb db s' ∧ Moves w F w' F' ∧ l.length ≤ 1024

set_option maxRecDepth 20000 in
theorem get_live (w : World) (n : Int) (h1 : -9223372036854775808 ≤ n) (h2 : n ≤ 9223372036854775807) (h : PLive W F w pb db s) :
    Calls Try.prog 11 #[.pointer (some ⟨pb, 0, none⟩), .int .i64 n] w (LGet W F w pb db (s.get n).2.2 (s.get n).2.1 (s.get n).1) := by
  obtain ⟨D, fb, cb, rb, g, p⟩ := h.at_
  refine (get_any w n h1 h2 p).mono ?_
  rintro e w' ⟨A, c, F', D', g', he, p', m, o, x, hl⟩
  exact ⟨A, c, F', he, x, o, h.moved p' m, m, hl⟩

set_option maxRecDepth 20000 in
theorem ppin_live (w : World) (n : Int) (h1 : -9223372036854775808 ≤ n) (h2 : n ≤ 9223372036854775807) (hx : (s.fetch n).2.2.c.Max 9223372036854775806) (h : PLive W F w pb db s) :
    Calls Try.prog 16 #[.pointer (some ⟨pb, 0, none⟩), .int .i64 n] w (PLGoes W F w pb db (PP.pinA (s.fetch n)).2 (.int .i64 (PP.pinA (s.fetch n)).1)) := by
  obtain ⟨D, fb, cb, rb, g, p⟩ := h.at_
  exact (ppin_any w n h1 h2 hx p).mono fun _ _ e => h.ends e

set_option maxRecDepth 20000 in
theorem punpin_live (w : World) (n : Int) (h : PLive W F w pb db s) :
    Calls Try.prog 18 #[.pointer (some ⟨pb, 0, none⟩), .int .i64 n] w (PLGoes W F w pb db (s.unpin n).2 (.int .i64 (s.unpin n).1)) := by
  obtain ⟨D, fb, cb, rb, g, p⟩ := h.at_
  exact (punpin_any w n p).mono fun _ _ e => h.ends e

def LFlush (W : World) (F : Nat → Prop) (w : World) (pb db : Nat) (s : PP) (e : Ending) (w' : World) : Prop :=
  ∃ js, Js s js ∧ PLGoes W F w pb db (s.flushA js).2 (.int .i64 (s.flushA js).1) e w'

set_option maxRecDepth 20000 in
theorem pflush_live (w : World) (hm : s.m ≤ 12) (h : PLive W F w pb db s) :
    Calls Try.prog 12 #[.pointer (some ⟨pb, 0, none⟩)] w (LFlush W F w pb db s) := by
  obtain ⟨D, fb, cb, rb, g, p⟩ := h.at_
  refine (pflush_any w hm p).mono ?_
  rintro e w' ⟨js, hj, hp⟩
  exact ⟨js, hj, h.ends hp⟩

set_option maxRecDepth 20000 in
theorem dirty_live (w : World) (hm : s.m ≤ 12) (h : PLive W F w pb db s) :
    Calls Try.prog 14 #[.pointer (some ⟨pb, 0, none⟩)] w (DirtyEnd w s) := by
  obtain ⟨D, fb, cb, rb, g, p⟩ := h.at_
  exact dirty_any w hm p

set_option maxRecDepth 20000 in
theorem pages_live (w : World) (h : PLive W F w pb db s) :
    Calls Try.prog 17 #[.pointer (some ⟨pb, 0, none⟩)] w (PagesEnd w s) := by
  obtain ⟨D, fb, cb, rb, g, p⟩ := h.at_
  exact pages_any w p

set_option maxRecDepth 20000 in
theorem pdisk_live (w : World) (h : PLive W F w pb db s) :
    Calls Try.prog 23 #[.pointer (some ⟨pb, 0, none⟩)] w fun e w' => e = .returned (.pointer (some ⟨db, 0, none⟩)) ∧ w = w' := by
  obtain ⟨D, fb, cb, rb, g, p⟩ := h.at_
  exact disk_any w p

set_option maxRecDepth 20000 in
theorem pread_live (w : World) (n : Int) (h1 : -9223372036854775808 ≤ n) (h2 : n ≤ 9223372036854775807) (h : PLive W F w pb db s) :
    Calls Try.prog 13 #[.pointer (some ⟨db, 0, none⟩), .int .i64 n] w (ReadEnd w (s.k.readB n) (s.k.readE n)) := by
  obtain ⟨D, hd⟩ := h.disk
  exact read_any w n h1 h2 hd.dk

/-- A new pool, in the midst of a law. -/
def LPool (W : World) (D : Nat → Prop) (w : World) (db : Nat) (k : PS) (n : Nat) (e : Ending) (w' : World) : Prop :=
  ∃ pb F, e = .returned (.tuple #[.pointer (some ⟨pb, 0, none⟩), .int .i64 0]) ∧ PLive W F w' pb db (PP.new k n) ∧ Moves w D w' F ∧ Below w.heap.size w w'

set_option maxRecDepth 20000 in
theorem pnew_live {D : Nat → Prop} {k : PS} (w : World) (n : Nat) (h1 : 1 ≤ n) (h2 : n ≤ 1000) (h : Live W D w db k) :
    Calls Try.prog 9 #[.pointer (some ⟨db, 0, none⟩), .int .i64 n] w (LPool W D w db k n) := by
  refine (pnew_any w n k h1 h2 h.dk).mono ?_
  rintro e w' ⟨pb, fb, cb, rb, g, F, he, p, m, hb⟩
  exact ⟨pb, F, he, ⟨⟨D, fb, cb, rb, g, p⟩, fun b hb' => by
    rcases m.news b hb' with e | e
    · exact h.base b e
    · exact Nat.le_trans h.le e, h.below.trans (hb.mono h.le)⟩, m, hb⟩
end
end Go.Proofs.Ytgkdlbcpckdmkaa

/-
  What Pin comes to, out of fetch; what the first calls of the laws come to. Nothing here walks.
-/
namespace Go.Proofs.Ytgkdlbcpckdmkaa
open Go.RowKit

namespace PP
theorem Holds.fetch {s : PP} {f : Int → List UInt8} (h : Holds s f) {n : Int} {i : Nat} {t : PP} (g : Got s f n i t) : ∃ j, s.fetch n = (some j, 0, t) ∧ j < s.m ∧ t.at_ j = n := by
  obtain ⟨o, e, u, hq⟩ : ∃ o e u, s.fetch n = (o, e, u) := ⟨_, _, _, rfl⟩
  obtain ⟨t1, t2, t3⟩ := fetch_tells h.ch h.cn hq
  have hg := g.eq
  rw [PP.get_fetch, hq] at hg
  cases o with
  | none =>
    have : e = 0 := congrArg Prod.fst hg
    exact absurd this (t3 rfl)
  | some j =>
    obtain ⟨j1, j2, rfl⟩ := t2 j rfl
    have : u = t := congrArg (fun x => x.2.2) hg
    subst this
    exact ⟨j, hq, j1, j2⟩

theorem Holds.pin_fetch {s : PP} {f : Int → List UInt8} (h : Holds s f) {n : Int} (hn : s.k.has n = true) (hf : s.find n = none → s.gap = none → s.c.free = true) : PP.pinA (s.fetch n) = s.pin n := by
  obtain ⟨i, t, g⟩ := h.get hn hf
  obtain ⟨j, hq, j1, j2⟩ := h.fetch g
  have h0 := (s.k.has_at n).1 hn
  have hfi := g.holds.find_uniq h0.1 (by rw [g.m_]; exact j1) j2
  unfold PP.pin
  rw [hq, g.eq]
  show ((0 : Int), _) = _
  simp only [if_true]
  unfold PP.pinAt
  rw [hfi]

theorem Holds.fetch_p {s : PP} {f : Int → List UInt8} (h : Holds s f) {n : Int} (hn : s.k.has n = true) (hf : s.find n = none → s.gap = none → s.c.free = true) : (s.fetch n).2.2.c.p = s.c.p := by
  obtain ⟨i, t, g⟩ := h.get hn hf
  obtain ⟨j, hq, _, _⟩ := h.fetch g
  rw [hq]
  exact g.p_

theorem Holds.unpin {s : PP} {f : Int → List UInt8} (h : Holds s f) (n : Int) : Holds (s.unpin n).2 f ∧ (s.unpin n).2.m = s.m := by
  unfold PP.unpin
  cases hs : s.find n with
  | some i => exact ⟨h.clock ((CS.unS_n _ _).trans h.cn) (by rw [unS_h, CS.unS_n]; exact h.ch), rfl⟩
  | none => exact ⟨h, rfl⟩

/-- With nothing dirty none is to be written. -/
theorem js_none {s : PP} {js : List Nat} (h : Js s js) (hc : ∀ j, j < s.m → s.d j = false) : js = [] := by
  have e : (List.range s.m).filter s.d = [] := by
    rw [List.filter_eq_nil_iff]
    intro j hj
    rw [hc j (List.mem_range.1 hj)]
    decide
  have := h.perm
  rw [e] at this
  exact this.eq_nil
end PP

/-- With no fuse and nothing pinned. -/
structure Free (s : PP) (f : Int → List UInt8) (m z : Nat) : Prop where
  holds : PP.Holds s f
  p_ : ∀ j, s.c.p j = 0
  m_ : s.m = m
  size : s.k.size = z

theorem free_new {k : PS} (hk : k.Well) (ho : k.Ok) {m z : Nat} (hm : 1 ≤ m) (hz : k.size = z) : Free (PP.new k m) k.held m z := ⟨PP.Holds.new hk ho hm, fun _ => rfl, rfl, hz⟩
theorem Free.put {s : PP} {f : Int → List UInt8} {m z : Nat} (h : Free s f m z) {n : Int} (h0 : 0 ≤ n) (h1 : n < z) {l : List UInt8} (hl : l.length ≤ 1024) : (s.put n l).1 = 0 ∧ Free (s.put n l).2 (PP.upd f n l) m z := by
  obtain ⟨t, e, h2, h3, h4, h5⟩ := h.holds.put ((s.k.has_at n).2 ⟨h0, by rw [h.size]; exact h1⟩) hl (fun _ _ => h.holds.loose h.p_)
  rw [e]
  exact ⟨rfl, h2, fun j => by rw [h5]; exact h.p_ j, h3.trans h.m_, h4.trans h.size⟩
theorem Free.get {s : PP} {f : Int → List UInt8} {m z : Nat} (h : Free s f m z) {n : Int} (h0 : 0 ≤ n) (h1 : n < z) : (s.get n).1 = 0 ∧ (s.get n).2.1 = f n ∧ Free (s.get n).2.2 f m z := by
  obtain ⟨i, t, g⟩ := h.holds.get ((s.k.has_at n).2 ⟨h0, by rw [h.size]; exact h1⟩) (fun _ _ => h.holds.loose h.p_)
  rw [g.eq]
  exact ⟨rfl, rfl, g.holds, fun j => by rw [g.p_]; exact h.p_ j, g.m_.trans h.m_, g.size.trans h.size⟩
theorem Free.flush {s : PP} {f : Int → List UInt8} {m z : Nat} (h : Free s f m z) (hv : Fit s) {js : List Nat} (hj : Js s js) : (s.flushA js).1 = 0 ∧ Free (s.flushA js).2 f m z ∧ PP.FlushedA s f (s.flushA js).2 := by
  obtain ⟨e, k⟩ := h.holds.flushA hv.vd hj
  exact ⟨e, ⟨k.holds, fun j => by rw [k.c_]; exact h.p_ j, k.m_.trans h.m_, k.size.trans h.size⟩, k⟩

theorem new_well (n : Nat) : (PS.new n).Well := ⟨rfl, rfl⟩
theorem new_ok (n : Nat) : (PS.new n).Ok := ⟨fun _ h => absurd rfl h, fun _ h => absurd rfl h, fun _ => by show (0 : Nat) ≤ 1024; omega, fun _ _ h => by cases h⟩
end Go.Proofs.Ytgkdlbcpckdmkaa

/-
  The head of all laws of layer 7, awake, answers true.
-/
namespace Go.Proofs.Ytgkdlbcpckdmkaa
open Go.RowKit

def b0 : PP := PP.new (PS.new 8) 2
def b1 : PP := (b0.put 1 [7]).2
def b2 : PP := (b1.put 2 [8]).2
def b3 : PP := (b2.put 3 [9]).2
def b4 : PP := (b3.get 1).2.2
def b5 : PP := (PP.pinA (b4.fetch 1)).2
def b6 : PP := (b5.unpin 5).2

theorem bf0 : Free b0 (PS.new 8).held 2 8 := free_new (new_well 8) (new_ok 8) (by omega) rfl
theorem bf1 : (b0.put 1 [7]).1 = 0 ∧ Free b1 (PP.upd (PS.new 8).held 1 [7]) 2 8 := bf0.put (by omega) (by omega) (by decide)
theorem bf2 : (b1.put 2 [8]).1 = 0 ∧ Free b2 (PP.upd (PP.upd (PS.new 8).held 1 [7]) 2 [8]) 2 8 := bf1.2.put (by omega) (by omega) (by decide)
theorem bf3 : (b2.put 3 [9]).1 = 0 ∧ Free b3 (PP.upd (PP.upd (PP.upd (PS.new 8).held 1 [7]) 2 [8]) 3 [9]) 2 8 := bf2.2.put (by omega) (by omega) (by decide)
theorem bf4 : (b3.get 1).1 = 0 ∧ (b3.get 1).2.1 = [7] ∧ Free b4 (PP.upd (PP.upd (PP.upd (PS.new 8).held 1 [7]) 2 [8]) 3 [9]) 2 8 := by
  obtain ⟨h1, h2, h3⟩ := bf3.2.get (n := 1) (by omega) (by omega)
  exact ⟨h1, h2.trans rfl, h3⟩
theorem bh1 : b4.k.has 1 = true := (b4.k.has_at 1).2 ⟨by omega, by rw [bf4.2.2.size]; omega⟩
theorem bf5 : (PP.pinA (b4.fetch 1)).1 = 0 ∧ PP.Holds b5 (PP.upd (PP.upd (PP.upd (PS.new 8).held 1 [7]) 2 [8]) 3 [9]) ∧ b5.m = 2 := by
  have hf := bf4.2.2
  obtain ⟨i, t, g⟩ := hf.holds.pin bh1 (fun _ _ => hf.holds.loose hf.p_)
  have e := hf.holds.pin_fetch bh1 (fun _ _ => hf.holds.loose hf.p_)
  unfold b5
  rw [e, g.eq]
  exact ⟨rfl, g.holds, g.m_.trans hf.m_⟩
theorem bm5 : (b4.fetch 1).2.2.c.Max 9223372036854775806 := fun j => by
  have hf := bf4.2.2
  rw [hf.holds.fetch_p bh1 (fun _ _ => hf.holds.loose hf.p_), hf.p_]
  omega
theorem bf6 : (b5.unpin 5).1 = 1 := by decide
theorem bh6 : PP.Holds b6 (PP.upd (PP.upd (PP.upd (PS.new 8).held 1 [7]) 2 [8]) 3 [9]) ∧ b6.m = 2 := by
  obtain ⟨h1, h2⟩ := bf5.2.1.unpin 5
  exact ⟨h1, h2.trans bf5.2.2⟩

/-- Bytes just laid lie outside. -/
theorem PLive.out_new {W w : World} {F : Nat → Prop} {pb db : Nat} {s : PP} (h : PLive W F w pb db s) (l : List UInt8) (t : TypeId) : Out (w.alloc (.cells (bv l).toArray t)) F (some ⟨w.heap.size, 0, none⟩) l := by
  rcases bys_new w l t with e | ⟨b, off, e, _, hc⟩
  · exact Or.inl e
  · refine Or.inr ⟨b, off, e, fun hb => ?_, hc⟩
    have := h.lt b hb
    injection e with e
    injection e with e1 e2
    omega

set_option maxRecDepth 20000 in
theorem diskInfo : (Try.prog.info? 56).isSome = true := by kernel_rfl

theorem eql_disk (a : Addr) (w : World) : (binOp .eql 25 (.pointer (some a)) (.pointer (some a))).run Try.prog w = .ok (.bool true) w := by
  obtain ⟨j, hj⟩ := Option.isSome_iff_exists.1 diskInfo
  exact run_eql_ptr_same w a Try.underlying25 hj

set_option maxRecDepth 20000 in
set_option maxHeartbeats 1600000 in
theorem awake_any (w : World) :
    Calls Try.prog 7 #[] w fun e w' => e = .returned (.bool true) ∧ Below w.heap.size w w' := by
  go_enter Try.func7, Try.ntmps7
  go_wp2_with fail
  refine (new_live (W := w) w 8 (by omega) (by omega) (Below.refl _ _)).mono ?_
  rintro e w1 ⟨db, D1, rfl, hv1, -, -⟩
  have HV1 := Lib.hid hv1
  clear hv1
  go_wp2_with fail
  refine (pnew_live (W := w) w1 2 (by omega) (by omega) HV1.out).mono ?_
  rintro e w2 ⟨pb, F2, rfl, hv2, -, -⟩
  have HV2 : Hid (PLive w F2 w2 pb db b0) := hv2
  clear hv2 HV1
  go_wp2_with fail
  refine (put_live (W := w) _ 1 (by omega) (by omega) _ 1 1 [7] rfl (HV2.out.out_new [7] 5) (fun h => by cases h) (HV2.out.alloc _)).mono ?_
  rintro e w3 ⟨rfl, F3, hv3, -⟩
  have HV3 : Hid (PLive w F3 w3 pb db b1) := hv3
  rw [bf1.1]
  clear hv3 HV2
  go_wp2_with fail
  refine (put_live (W := w) _ 2 (by omega) (by omega) _ 1 1 [8] rfl (HV3.out.out_new [8] 5) (fun h => by cases h) (HV3.out.alloc _)).mono ?_
  rintro e w4 ⟨rfl, F4, hv4, -⟩
  have HV4 : Hid (PLive w F4 w4 pb db b2) := hv4
  rw [bf2.1]
  clear hv4 HV3
  go_wp2_with fail
  refine (put_live (W := w) _ 3 (by omega) (by omega) _ 1 1 [9] rfl (HV4.out.out_new [9] 5) (fun h => by cases h) (HV4.out.alloc _)).mono ?_
  rintro e w5 ⟨rfl, F5, hv5, -⟩
  have HV5 : Hid (PLive w F5 w5 pb db b3) := hv5
  rw [bf3.1]
  clear hv5 HV4
  go_wp2_with fail
  refine (get_live (W := w) _ 1 (by omega) (by omega) HV5.out).mono ?_
  rintro e w6 ⟨A6, c6, F6, rfl, ho6, -, hv6, -, -⟩
  have HV6 : Hid (PLive w F6 w6 pb db b4) := hv6
  rw [bf4.1, show ((b3.get 1).2.1).length = 1 from by rw [bf4.2.1]; rfl]
  rw [bf4.2.1] at ho6
  have HO6 := Lib.hid ho6
  clear hv6 ho6 HV5
  go_wp2_with fail
  refine (ppin_live (W := w) _ 1 (by omega) (by omega) bm5 HV6.out).mono ?_
  rintro e w7 ⟨rfl, F7, hv7, hm7⟩
  have HV7 : Hid (PLive w F7 w7 pb db b5) := hv7
  have HO7 := Lib.hid (hm7.out HO6.out)
  rw [bf5.1]
  clear hv7 hm7 HV6 HO6
  go_wp2_with fail
  refine (punpin_live (W := w) _ 5 HV7.out).mono ?_
  rintro e w8 ⟨rfl, F8, hv8, hm8⟩
  have HV8 : Hid (PLive w F8 w8 pb db b6) := hv8
  have HO8 := Lib.hid (hm8.out HO7.out)
  rw [bf6]
  clear hv8 hm8 HV7 HO7
  go_wp2_with fail
  refine (pflush_live (W := w) _ (by rw [bh6.2]; omega) HV8.out).mono ?_
  rintro e w9 ⟨js, hj, rfl, F9, hv9, hm9⟩
  obtain ⟨j1, j2⟩ := bh6.1.flushA HV8.out.fit.vd hj
  rw [j1]
  have hm2 := j2.m_.trans bh6.2
  have hcl := j2.clean
  rw [bh6.2] at hcl
  generalize (b6.flushA js).2 = b7 at *
  have HV9 := Lib.hid hv9
  have HM := Lib.hid hm2
  have HCL := Lib.hid hcl
  obtain ⟨b, o, rfl, k9⟩ := (hm9.out HO8.out).first
  have heq := eql_disk ⟨db, 0, none⟩
  have HP := Lib.hid (pages_live (W := w) w9 HV9.out)
  have HK := Lib.hid k9
  clear hv9 hm9 HV8 HO8 hj j1 j2 hm2 hcl k9
  go_wp2_with (first
    | (refine HP.out.mono ?_; rintro e w10 ⟨rfl, -, hb10⟩; rw [HM.out]; have HV10 := Lib.hid (HV9.out.next hb10); have HK10 := Lib.hid ((hb10.cell (World.block_lt_of_cell? _ _ HK.out)).trans HK.out))
    | (refine (dirty_live (W := w) w10 (by rw [HM.out]; omega) HV10.out).mono ?_; rintro e w11 ⟨A11, c11, js2, rfl, -, hj2, hb11⟩; obtain rfl := PP.js_none hj2 (by rw [HM.out]; exact HCL.out); have HV11 := Lib.hid (HV10.out.next hb11); have k11 := (hb11.cell (World.block_lt_of_cell? _ _ HK10.out)).trans HK10.out)
    | (refine (pdisk_live (W := w) w11 HV11.out).mono ?_; rintro e w' ⟨rfl, rfl⟩))
  go_ret
  exact ⟨rfl, HV11.out.below⟩
end Go.Proofs.Ytgkdlbcpckdmkaa

/-
  The frame of every law's proof: how a walk that answers true and only makes memory becomes the given statement.
-/
namespace Go.Proofs.Ytgkdlbcpckdmkaa
open Go.ChangeShapes Go.WideShapes Go.ChangeAt Go.RowKit Go.Joins Go.Deep

theorem ownKnobs : ownKnob Try.prog.godebug = none := by kernel_rfl
theorem laidOut : laidOutB Try.prog = true := by kernel_rfl

section
variable {H : Type} {enc : TypeId × Value → H}

/-- What was read before a call that only made memory reads the same behind it. -/
theorem all_again {P : Program} (hl : laidOutB P = true) {W W' : World} (hb : Below W.heap.size W W') :
    ∀ (ts : List TypeId) (vs : List Value) (ds : List (DataW H)) (ps : List MemPlace), (∀ t ∈ ts, P.readableRec t = true ∧ t < P.types.size) →
      DataW.TrodAll enc P W 0 (fun _ => true) true ts vs ds ps → DataW.TrodAll enc P W' 0 (fun b => decide (b < W.heap.size)) true ts vs ds ps
  | [], _, _, _, _, h => by
    obtain ⟨rfl, rfl, rfl⟩ := trodAll_nil h
    exact trodAll_mk0
  | t :: ts, _, _, _, hr, h => by
    obtain ⟨v, vs, d, ds, p, q, rfl, rfl, rfl, h0, h1⟩ := trodAll_cons h
    have lt0 : ∀ x ∈ p, x.block < W.heap.size := by
      obtain ⟨m, hm⟩ := h0
      exact DataW.trod_lt m _ _ _ hm
    exact trodAll_cons_mk (Below.trod hl (hr t (by simp)).1 (hr t (by simp)).2 h0 hb lt0) (all_again hl hb ts vs ds q (fun u hu => hr u (by simp [hu])) h1)

theorem lift_law {C : Checked} {os : Os} {F : FuncId} {fn : Func} {s : ChangeSpec} {conds : List PathCond} {tb : TypeId}
    (own : ownKnob C.prog.godebug = none) (started : os.Started) (noInit : C.prog.inits.idxOf? F = none) (hfn : C.prog.funcs[F]? = some fn)
    (witness : ∃ (w : World) (tape : Tape) (i : Input), w.os = os ∧ (w.forCall tape i).Shaped C.prog ∧ i.vars = [] ∧ Input.okWide C.prog (w.forCall tape i) .any w.heap.size F i ∧
      s.pre6 enc C.prog fn conds false (w.forCall tape i).memory i.args ∧ ({} : Assume).holds C.prog (lone (Frame.enter C.prog F i.args .normal) [] (w.forCall tape i)))
    (hl : laidOutB C.prog = true) (hread : ∀ t ∈ fn.params.toList, C.prog.readableRec t = true ∧ t < C.prog.types.size) (hvars : s.vars = [])
    (hres : fn.resultTypes = #[tb]) (hb : C.prog.underlying tb = some .bool)
    (hspec : ∀ (vs : List Value) (ds : List (DataW H)) (W : World) (p : List MemPlace), DataW.TrodAll enc C.prog W 0 (fun _ => true) true fn.params.toList vs ds p →
      s.fn H ds = { results := [.lit (.bool true)], args := ds })
    (walk : ∀ (W : World) (base : Nat) (args : Array Value) (ds : List (DataW H)) (p : List MemPlace),
      (∀ (j : Nat) t v, fn.params[j]? = some t → args[j]? = some v → Value.okWide C.prog W .any base t v) →
      DataW.TrodAll enc C.prog W 0 (fun _ => true) true fn.params.toList args.toList ds p →
      Calls C.prog F args W fun e W' => e = .returned (.bool true) ∧ Below W.heap.size W W') :
    ReturnsInHanded {} C os F .any (s.pre6 enc C.prog fn conds false) (s.post enc C.prog fn false true false false) := by
  refine returnsInHanded_of_change own started noInit hfn witness ?_
  intro W base args ds gs before hval hW _ _
  have hW' := hW
  obtain ⟨p, q, hA, hV, rfl, _, _⟩ := hW
  rw [hvars] at hV
  obtain ⟨rfl, rfl⟩ := trodVars_none hV
  refine (walk W base args ds p hval hA).mono fun e W' ⟨he, bel⟩ => ?_
  subst he
  have hs := hspec _ _ _ _ hA
  refine ⟨_, rfl, ds, [], _, [], p, [], hW', ?_, ?_, ?_, bel.frame _, fun h => by cases h⟩
  · rw [List.append_nil, hs, hres]
    exact trodAll_mk1 (shut_bool hb _)
  · rw [List.append_nil, hs]
    exact all_again hl bel _ _ _ _ hread hA
  · rw [List.append_nil, hs, hvars]
    rfl
end

theorem intCells : Try.prog.cellsOf 3 = 1 := by kernel_rfl

theorem add_at (b off : Nat) (n : Nat) : (⟨b, off, none⟩ : Addr).add n = ⟨b, off + n, none⟩ := by
  unfold Addr.add
  split
  · rename_i h
    have : n = 0 := by simpa using h
    subst this
    rfl
  · rfl

theorem pick_each {α β : Type} (R : Nat → α → Prop) (g : α → β) : ∀ (n : Nat), (∀ i, i < n → ∃ a, R i a) → ∃ l : List α, l.length = n ∧ ∀ i a, l[i]? = some a → R i a
  | 0, _ => ⟨[], rfl, fun i a h => by simp at h⟩
  | n + 1, h => by
    obtain ⟨l, hl, hr⟩ := pick_each R g n (fun i hi => h i (by omega))
    obtain ⟨a, ha⟩ := h n (by omega)
    refine ⟨l ++ [a], by simp [hl], fun i x hx => ?_⟩
    by_cases hi : i < l.length
    · rw [List.getElem?_append_left hi] at hx
      exact hr i x hx
    · rw [List.getElem?_append_right (by omega)] at hx
      have h0 : i - l.length = 0 := by
        rcases Nat.eq_zero_or_pos (i - l.length) with e | e
        · exact e
        · have e2 : i - l.length = (i - l.length - 1) + 1 := by omega
          rw [e2] at hx
          simp at hx
      rw [h0] at hx
      have e1 : i = n := by omega
      subst e1
      obtain rfl : a = x := by simpa using hx
      exact ha

end Go.Proofs.Ytgkdlbcpckdmkaa

/-
  A number that comes in.
-/
namespace Go.Proofs.Ytgkdlbcpckdmkaa
open Go.ChangeShapes Go.WideShapes Go.ChangeAt Go.RowKit Go.Joins Go.Deep
section
variable {H : Type} {enc : TypeId × Value → H} {w : World} {base : Nat} {spare : Nat → Bool} {held : Bool}
set_option maxRecDepth 20000 in
/-- A number that comes in. -/
theorem open_i64 {v : Value} {d : DataW H} {p : List MemPlace} {r : Reach} {b0 : Nat} (hv : Value.okWide Try.prog w r b0 3 v) (h : DataW.Trod enc Try.prog w base spare held 3 v d p) :
    ∃ z : Int, v = .int .i64 z ∧ -9223372036854775808 ≤ z ∧ z ≤ 9223372036854775807 := by
  obtain ⟨n, rfl⟩ := okWide_int Try.underlying3 hv
  obtain ⟨fuel, hf⟩ := h
  obtain ⟨m, hm, _, hwf⟩ := DataW.trod_int Try.underlying3 hf
  simp [Value.cells] at hm
  subst hm
  simp only [Lit.wf, Bool.and_eq_true, decide_eq_true_eq] at hwf
  have h1 : IntKind.i64.min = -9223372036854775808 := rfl
  have h2 : IntKind.i64.max = 9223372036854775807 := rfl
  exact ⟨n, rfl, by omega, by omega⟩
end
end Go.Proofs.Ytgkdlbcpckdmkaa

/-
  A list of bytes that comes in.
-/
namespace Go.Proofs.Ytgkdlbcpckdmkaa
open Go.ChangeShapes Go.WideShapes Go.ChangeAt Go.RowKit Go.Joins Go.Deep
section
variable {H : Type} {enc : TypeId × Value → H} {w : World} {base : Nat} {spare : Nat → Bool} {held : Bool}

set_option maxRecDepth 20000 in
theorem byteCells1 : Try.prog.cellsOf 5 = 1 := by kernel_rfl

theorem byte_of_wf {z : Int} (h : (Lit.int .u8 z).wf = true) : ∃ b : UInt8, z = (b.toNat : Int) := by
  have h1 : 0 ≤ z ∧ z < 256 := by
    simp only [Lit.wf, Bool.and_eq_true, decide_eq_true_eq] at h
    have h1 : IntKind.u8.min = 0 := rfl
    have h2 : IntKind.u8.max = 255 := rfl
    omega
  refine ⟨UInt8.ofNat z.toNat, ?_⟩
  rw [ofNat_toNat]
  omega

set_option maxRecDepth 20000 in
/-- A slice of bytes that comes in. -/
theorem open_bytesz {v : Value} {d : DataW H} {p : List MemPlace} {r : Reach} {b0 : Nat} (hv : Value.okWide Try.prog w r b0 33 v) (h : DataW.Trod enc Try.prog w base spare held 33 v d p) :
    ∃ (A : Option Addr) (n c : Nat) (l : List UInt8), v = .slice A n c ∧ l.length = n ∧ Bys w w.heap.size A l ∧ n ≤ c ∧ c ≤ maxLen ∧ (A = none → n = 0 ∧ c = 0) := by
  obtain ⟨A, n, c, rfl⟩ := okWide_slice Try.underlying33 hv
  obtain ⟨fuel, hf⟩ := h
  rcases open_slice Try.underlying33 hf with ⟨hcs, _⟩ | ⟨a, len, cap, m, f, D, Pl, hcs, _, hl, hcm, hm, _, hi⟩
  · simp [Value.cells] at hcs
    obtain ⟨rfl, rfl, rfl⟩ := hcs
    exact ⟨none, 0, 0, [], rfl, rfl, Or.inl rfl, Nat.le_refl _, Nat.zero_le _, fun _ => ⟨rfl, rfl⟩⟩
  · simp [Value.cells] at hcs
    obtain ⟨rfl, rfl, rfl⟩ := hcs
    have hlm : n ≤ m := by rw [hm]; split <;> omega
    have each : ∀ i, i < n → ∃ z : UInt8, w.cell? (a.add i) = some (.int .u8 z.toNat) := by
      intro i hin
      obtain ⟨cs', hc, ht⟩ := hi i (by omega)
      rw [byteCells1] at hc
      obtain ⟨z, rfl, _, hwf⟩ := DataW.trod_int Try.underlying5 ht
      obtain ⟨b, rfl⟩ := byte_of_wf hwf
      obtain ⟨_, _, hat⟩ := World.cells?_some hc
      have := hat 0 (by omega)
      rw [Nat.mul_one] at this
      refine ⟨b, ?_⟩
      simpa [Addr.add] using this
    obtain ⟨zs, hlen, hx⟩ := pick_each (fun i (z : UInt8) => w.cell? (a.add i) = some (.int .u8 z.toNat)) (fun v => v) n each
    refine ⟨_, _, _, zs, rfl, hlen, ?_, hl, hcm, fun h => by cases h⟩
    by_cases hx0 : zs = []
    · exact Or.inl hx0
    · right
      obtain ⟨b, off, spot⟩ := a
      have hpos : 0 < zs.length := by
        rcases zs with _ | ⟨y, ys⟩
        · exact absurd rfl hx0
        · simp
      have h00 := hx 0 _ (List.getElem?_eq_getElem hpos)
      have hs : spot = none := by
        simpa [Addr.add] using World.cell?_spot h00
      subst hs
      refine ⟨b, off, rfl, ?_, fun i v hv => ?_⟩
      · rw [add_at] at h00
        exact World.block_lt_of_cell? _ _ h00
      · have h0 := hx i v hv
        rw [add_at] at h0
        exact h0

set_option maxRecDepth 20000 in
theorem open_bytes {v : Value} {d : DataW H} {p : List MemPlace} {r : Reach} {b0 : Nat} (hv : Value.okWide Try.prog w r b0 33 v) (h : DataW.Trod enc Try.prog w base spare held 33 v d p) :
    ∃ (A : Option Addr) (n c : Nat) (l : List UInt8), v = .slice A n c ∧ l.length = n ∧ Bys w w.heap.size A l ∧ n ≤ c ∧ c ≤ maxLen := by
  obtain ⟨A, n, c, l, h1, h2, h3, h4, h5, _⟩ := open_bytesz hv h
  exact ⟨A, n, c, l, h1, h2, h3, h4, h5⟩

set_option maxRecDepth 20000 in
/-- A byte that comes in. -/
theorem open_u8 {v : Value} {d : DataW H} {p : List MemPlace} {r : Reach} {b0 : Nat} (hv : Value.okWide Try.prog w r b0 5 v) (h : DataW.Trod enc Try.prog w base spare held 5 v d p) :
    ∃ z : UInt8, v = .int .u8 z.toNat := by
  obtain ⟨n, rfl⟩ := okWide_int Try.underlying5 hv
  obtain ⟨fuel, hf⟩ := h
  obtain ⟨m, hm, _, hwf⟩ := DataW.trod_int Try.underlying5 hf
  simp [Value.cells] at hm
  subst hm
  obtain ⟨b, rfl⟩ := byte_of_wf hwf
  exact ⟨b, rfl⟩
end
end Go.Proofs.Ytgkdlbcpckdmkaa

/-
  Numbers, and bytes, that come in, as a part of something.
-/
namespace Go.Proofs.Ytgkdlbcpckdmkaa
open Go.ChangeShapes Go.WideShapes Go.ChangeAt Go.RowKit Go.Joins Go.Deep

def In64 (z : Int) : Prop := -9223372036854775808 ≤ z ∧ z ≤ 9223372036854775807

/-- Numbers below R. -/
def Nums (w : World) (R : Nat) (A : Option Addr) (l : List Int) : Prop :=
  l = [] ∨ ∃ b off, A = some ⟨b, off, none⟩ ∧ b < R ∧ ∀ i z, l[i]? = some z → w.cell? ⟨b, off + i, none⟩ = some (.int .i64 z) ∧ -9223372036854775808 ≤ z ∧ z ≤ 9223372036854775807

section
variable {w w' : World} {R : Nat} {A : Option Addr}

theorem Nums.below {l : List Int} (h : Nums w R A l) (hb : Below R w w') : Nums w' R A l := by
  rcases h with rfl | ⟨b, off, rfl, hR, hc⟩
  · exact Or.inl rfl
  · exact Or.inr ⟨b, off, rfl, hR, fun i z hz => ⟨(hb.cell (p := ⟨b, _, none⟩) hR).trans (hc i z hz).1, (hc i z hz).2⟩⟩

theorem Nums.outN {l : List Int} {F : Nat → Prop} (h : Nums w R A l) (hF : ∀ k, F k → R ≤ k) : OutN w F A l := by
  rcases h with h | ⟨b, off, e, hR, hc⟩
  · exact Or.inl h
  · exact Or.inr ⟨b, off, e, fun hb => by have := hF b hb; omega, hc⟩

end

section
variable {H : Type} {enc : TypeId × Value → H} {w : World} {base : Nat} {spare : Nat → Bool} {held : Bool}

theorem in64_of {z : Int} (h : (Lit.int .i64 z).wf = true) : In64 z := by
  simp only [Lit.wf, Bool.and_eq_true, decide_eq_true_eq] at h
  have h1 : IntKind.i64.min = -9223372036854775808 := rfl
  have h2 : IntKind.i64.max = 9223372036854775807 := rfl
  exact ⟨by omega, by omega⟩

set_option maxRecDepth 20000 in
theorem numCells1 : Try.prog.cellsOf 3 = 1 := by kernel_rfl
set_option maxRecDepth 20000 in
theorem bytesCells1 : Try.prog.cellsOf 33 = 1 := by kernel_rfl
set_option maxRecDepth 20000 in
theorem numsCells1 : Try.prog.cellsOf 22 = 1 := by kernel_rfl
set_option maxRecDepth 20000 in
theorem bytes_of {fuel : Nat} {v : Value} {x : DataW H × List MemPlace} (hf : DataW.trod enc Try.prog w base spare held fuel 33 [v] = some x) :
    ∃ (A : Option Addr) (n c : Nat) (l : List UInt8), v = .slice A n c ∧ l.length = n ∧ Bys w w.heap.size A l ∧ n ≤ c ∧ c ≤ maxLen ∧ (A = none → n = 0 ∧ c = 0) := by
  rcases open_slice Try.underlying33 hf with ⟨hcs, _⟩ | ⟨a, n, c, m, f, D, Pl, hcs, _, hl, hcm, hm, _, hi⟩
  · simp at hcs
    subst hcs
    exact ⟨none, 0, 0, [], rfl, rfl, Or.inl rfl, Nat.le_refl _, Nat.zero_le _, fun _ => ⟨rfl, rfl⟩⟩
  · simp at hcs
    subst hcs
    have hlm : n ≤ m := by rw [hm]; split <;> omega
    have each : ∀ i, i < n → ∃ z : UInt8, w.cell? (a.add i) = some (.int .u8 z.toNat) := by
      intro i hin
      obtain ⟨cs', hc, ht⟩ := hi i (by omega)
      rw [byteCells1] at hc
      obtain ⟨z, rfl, _, hwf⟩ := DataW.trod_int Try.underlying5 ht
      obtain ⟨b, rfl⟩ := byte_of_wf hwf
      obtain ⟨_, _, hat⟩ := World.cells?_some hc
      have := hat 0 (by omega)
      rw [Nat.mul_one] at this
      refine ⟨b, ?_⟩
      simpa [Addr.add] using this
    obtain ⟨zs, hlen, hx⟩ := pick_each (fun i (z : UInt8) => w.cell? (a.add i) = some (.int .u8 z.toNat)) (fun v => v) n each
    refine ⟨_, _, _, zs, rfl, hlen, ?_, hl, hcm, fun h => by cases h⟩
    by_cases hx0 : zs = []
    · exact Or.inl hx0
    · right
      obtain ⟨b, off, spot⟩ := a
      have hpos : 0 < zs.length := by
        rcases zs with _ | ⟨y, ys⟩
        · exact absurd rfl hx0
        · simp
      have h00 := hx 0 _ (List.getElem?_eq_getElem hpos)
      have hs : spot = none := by
        simpa [Addr.add] using World.cell?_spot h00
      subst hs
      refine ⟨b, off, rfl, ?_, fun i v hv => ?_⟩
      · rw [add_at] at h00
        exact World.block_lt_of_cell? _ _ h00
      · have h0 := hx i v hv
        rw [add_at] at h0
        exact h0

set_option maxRecDepth 20000 in
theorem nums_of {fuel : Nat} {v : Value} {x : DataW H × List MemPlace} (hf : DataW.trod enc Try.prog w base spare held fuel 22 [v] = some x) :
    ∃ (A : Option Addr) (n c : Nat) (l : List Int), v = .slice A n c ∧ l.length = n ∧ Nums w w.heap.size A l ∧ n ≤ c ∧ c ≤ maxLen := by
  rcases open_slice Try.underlying22 hf with ⟨hcs, _⟩ | ⟨a, n, c, m, f, D, Pl, hcs, _, hl, hcm, hm, _, hi⟩
  · simp at hcs
    subst hcs
    exact ⟨none, 0, 0, [], rfl, rfl, Or.inl rfl, Nat.le_refl _, Nat.zero_le _⟩
  · simp at hcs
    subst hcs
    have hlm : n ≤ m := by rw [hm]; split <;> omega
    have each : ∀ i, i < n → ∃ z : Int, w.cell? (a.add i) = some (.int .i64 z) ∧ In64 z := by
      intro i hin
      obtain ⟨cs', hc, ht⟩ := hi i (by omega)
      rw [numCells1] at hc
      obtain ⟨z, rfl, _, hwf⟩ := DataW.trod_int Try.underlying3 ht
      obtain ⟨_, _, hat⟩ := World.cells?_some hc
      have := hat 0 (by omega)
      rw [Nat.mul_one] at this
      refine ⟨z, ?_, in64_of hwf⟩
      simpa [Addr.add] using this
    obtain ⟨zs, hlen, hx⟩ := pick_each (fun i (z : Int) => w.cell? (a.add i) = some (.int .i64 z) ∧ In64 z) (fun v => v) n each
    refine ⟨_, _, _, zs, rfl, hlen, ?_, hl, hcm⟩
    by_cases hx0 : zs = []
    · exact Or.inl hx0
    · right
      obtain ⟨b, off, spot⟩ := a
      have hpos : 0 < zs.length := by
        rcases zs with _ | ⟨y, ys⟩
        · exact absurd rfl hx0
        · simp
      have h00 := (hx 0 _ (List.getElem?_eq_getElem hpos)).1
      have hs : spot = none := by
        simpa [Addr.add] using World.cell?_spot h00
      subst hs
      refine ⟨b, off, rfl, ?_, fun i v hv => ?_⟩
      · rw [add_at] at h00
        exact World.block_lt_of_cell? _ _ h00
      · have h0 := hx i v hv
        rw [add_at] at h0
        exact h0

set_option maxRecDepth 20000 in
/-- Numbers that come in. -/
theorem open_numsR {v : Value} {d : DataW H} {p : List MemPlace} {r : Reach} {b0 : Nat} (hv : Value.okWide Try.prog w r b0 22 v) (h : DataW.Trod enc Try.prog w base spare held 22 v d p) :
    ∃ (A : Option Addr) (n c : Nat) (l : List Int), v = .slice A n c ∧ l.length = n ∧ Nums w w.heap.size A l ∧ n ≤ maxLen := by
  obtain ⟨A, n, c, rfl⟩ := okWide_slice Try.underlying22 hv
  obtain ⟨fuel, hf⟩ := h
  obtain ⟨A', n', c', l, e, h1, h2, h3, h4⟩ := nums_of (v := .slice A n c) hf
  injection e with e1 e2 e3
  subst e1
  subst e2
  exact ⟨A, n, c, l, rfl, h1, h2, Nat.le_trans h3 h4⟩
end
end Go.Proofs.Ytgkdlbcpckdmkaa

/-
  A call of a script that comes in.
-/
namespace Go.Proofs.Ytgkdlbcpckdmkaa
open Go.ChangeShapes Go.WideShapes Go.ChangeAt Go.RowKit Go.Joins Go.Deep

/-- One call of a script: its numbers, its bytes and its sectors, and where they lie. -/
structure Cl where
  kind : Int
  n : Int
  bA : Option Addr
  bn : Nat
  bc : Nat
  b : List UInt8
  kA : Option Addr
  kn : Nat
  kc : Nat
  k : List Int
  at_ : Int
  by_ : UInt8

/-- What lies at a call's six cells. -/
structure ClAt (w : World) (R : Nat) (c : Cl) : Prop where
  kind : In64 c.kind
  n : In64 c.n
  at_ : In64 c.at_
  bl : c.b.length = c.bn
  bb : Bys w R c.bA c.b
  bz : c.bA = none → c.bn = 0 ∧ c.bc = 0
  bm : c.bn ≤ maxLen
  kl : c.k.length = c.kn
  kk : Nums w R c.kA c.k
  km : c.kn ≤ maxLen

def Cl.vals (c : Cl) : List Value := [.int .i64 c.kind, .int .i64 c.n, .slice c.bA c.bn c.bc, .slice c.kA c.kn c.kc, .int .i64 c.at_, .int .u8 c.by_.toNat]

/-- A script below R. -/
def Script (w : World) (R : Nat) (A : Option Addr) (l : List Cl) : Prop :=
  l = [] ∨ ∃ b off, A = some ⟨b, off, none⟩ ∧ b < R ∧ ∀ i c, l[i]? = some c → ClAt w R c ∧
    w.cell? ⟨b, off + i * 6, none⟩ = some (.int .i64 c.kind) ∧ w.cell? ⟨b, off + i * 6 + 1, none⟩ = some (.int .i64 c.n) ∧ w.cell? ⟨b, off + i * 6 + 2, none⟩ = some (.slice c.bA c.bn c.bc) ∧
    w.cell? ⟨b, off + i * 6 + 3, none⟩ = some (.slice c.kA c.kn c.kc) ∧ w.cell? ⟨b, off + i * 6 + 4, none⟩ = some (.int .i64 c.at_) ∧ w.cell? ⟨b, off + i * 6 + 5, none⟩ = some (.int .u8 c.by_.toNat)

section
variable {w w' : World} {R : Nat} {A : Option Addr}

theorem ClAt.below {c : Cl} (h : ClAt w R c) (hb : Below R w w') : ClAt w' R c :=
  { h with
    bb := h.bb.below hb
    kk := h.kk.below hb }

theorem Script.below {l : List Cl} (h : Script w R A l) (hb : Below R w w') : Script w' R A l := by
  rcases h with rfl | ⟨b, off, rfl, hR, hc⟩
  · exact Or.inl rfl
  · refine Or.inr ⟨b, off, rfl, hR, fun i c hi => ?_⟩
    obtain ⟨h0, h1, h2, h3, h4, h5, h6⟩ := hc i c hi
    exact ⟨h0.below hb, (hb.cell (p := ⟨b, _, none⟩) hR).trans h1, (hb.cell (p := ⟨b, _, none⟩) hR).trans h2, (hb.cell (p := ⟨b, _, none⟩) hR).trans h3, (hb.cell (p := ⟨b, _, none⟩) hR).trans h4, (hb.cell (p := ⟨b, _, none⟩) hR).trans h5, (hb.cell (p := ⟨b, _, none⟩) hR).trans h6⟩

theorem Script.at_ {l : List Cl} (h : Script w R A l) {k : Nat} (hk : k < l.length) :
    ∃ b off c, A = some ⟨b, off, none⟩ ∧ b < R ∧ l[k]? = some c ∧ ClAt w R c ∧
    w.cell? ⟨b, off + k * 6, none⟩ = some (.int .i64 c.kind) ∧ w.cell? ⟨b, off + k * 6 + 1, none⟩ = some (.int .i64 c.n) ∧ w.cell? ⟨b, off + k * 6 + 2, none⟩ = some (.slice c.bA c.bn c.bc) ∧
    w.cell? ⟨b, off + k * 6 + 3, none⟩ = some (.slice c.kA c.kn c.kc) ∧ w.cell? ⟨b, off + k * 6 + 4, none⟩ = some (.int .i64 c.at_) ∧ w.cell? ⟨b, off + k * 6 + 5, none⟩ = some (.int .u8 c.by_.toNat) := by
  rcases h with rfl | ⟨b, off, rfl, hR, hc⟩
  · exact absurd hk (by simp)
  · exact ⟨b, off, l[k], rfl, hR, List.getElem?_eq_getElem hk, hc k _ (List.getElem?_eq_getElem hk)⟩
end

section
variable {H : Type} {enc : TypeId × Value → H} {w : World} {base : Nat} {spare : Nat → Bool} {held : Bool}

set_option maxRecDepth 20000 in
theorem callCells6 : Try.prog.cellsOf 46 = 6 := by kernel_rfl

theorem six {α : Type} {l : List α} (h : l.length = 6) : ∃ a b c d e f, l = [a, b, c, d, e, f] := by
  match l, h with
  | [a, b, c, d, e, f], _ => exact ⟨a, b, c, d, e, f, rfl⟩

set_option maxRecDepth 20000 in
theorem call_of {fuel : Nat} {cs : List Value} {x : DataW H × List MemPlace} (h : DataW.trod enc Try.prog w base spare held fuel 46 cs = some x) :
    ∃ c : Cl, cs = c.vals ∧ ClAt w w.heap.size c := by
  obtain ⟨ys, n, _, _, hlen, hys, hf⟩ := DataW.trod_struct Try.underlying46 h
  obtain ⟨a, b, c, d, e, f, rfl⟩ := six (hlen.trans callCells6)
  obtain ⟨y0, y1, y2, y3, y4, y5, rfl⟩ := six hys
  have h0 : DataW.trod enc Try.prog w base spare held n 3 ([a, b, c, d, e, f].take (Try.prog.cellsOf 3)) = some y0 := hf 0 _ rfl
  have h1 : DataW.trod enc Try.prog w base spare held n 3 ([b, c, d, e, f].take (Try.prog.cellsOf 3)) = some y1 := hf 1 _ rfl
  have h2 : DataW.trod enc Try.prog w base spare held n 33 ([c, d, e, f].take (Try.prog.cellsOf 33)) = some y2 := hf 2 _ rfl
  have h3 : DataW.trod enc Try.prog w base spare held n 22 ([d, e, f].take (Try.prog.cellsOf 22)) = some y3 := hf 3 _ rfl
  have h4 : DataW.trod enc Try.prog w base spare held n 3 ([e, f].take (Try.prog.cellsOf 3)) = some y4 := hf 4 _ rfl
  have h5 : DataW.trod enc Try.prog w base spare held n 5 ([f].take (Try.prog.cellsOf 5)) = some y5 := hf 5 _ rfl
  rw [numCells1] at h0 h1 h4
  rw [bytesCells1] at h2
  rw [numsCells1] at h3
  rw [byteCells1] at h5
  obtain ⟨z0, e0, _, w0⟩ := DataW.trod_int Try.underlying3 h0
  obtain ⟨z1, e1, _, w1⟩ := DataW.trod_int Try.underlying3 h1
  obtain ⟨z4, e4, _, w4⟩ := DataW.trod_int Try.underlying3 h4
  obtain ⟨z5, e5, _, w5⟩ := DataW.trod_int Try.underlying5 h5
  obtain ⟨bA, bn, bc, bl, e2, r1, r2, r3, r4, r5⟩ := bytes_of h2
  obtain ⟨kA, kn, kc, kl, e3, q1, q2, q3, q4⟩ := nums_of h3
  obtain ⟨u, rfl⟩ := byte_of_wf w5
  simp only [List.take_succ_cons, List.take_zero, List.cons.injEq, and_true] at e0 e1 e4 e5
  refine ⟨⟨z0, z1, bA, bn, bc, bl, kA, kn, kc, kl, z4, u⟩, ?_, ⟨in64_of w0, in64_of w1, in64_of w4, r1, r2, r5, Nat.le_trans r3 r4, q1, q2, Nat.le_trans q3 q4⟩⟩
  rw [e0, e1, e2, e3, e4, e5]
  rfl

end
end Go.Proofs.Ytgkdlbcpckdmkaa

/-
  What the disk's laws' own Small comes to.
-/
namespace Go.Proofs.Ytgkdlbcpckdmkaa
open Go.RowKit Go.Maps

def Cl.agg (c : Cl) : Value := .agg #[.int .i64 c.kind, .int .i64 c.n, .slice c.bA c.bn c.bc, .slice c.kA c.kn c.kc, .int .i64 c.at_, .int .u8 c.by_.toNat]
def Cl.small (c : Cl) : Bool := decide (c.bn ≤ 1100 ∧ c.kn ≤ 60)

set_option maxRecDepth 20000 in
theorem small_any (c : Cl) (w : World) : Calls Try.prog 40 #[.agg #[.int .i64 c.kind, .int .i64 c.n, .slice c.bA c.bn c.bc, .slice c.kA c.kn c.kc, .int .i64 c.at_, .int .u8 c.by_.toNat]] w
    fun e w' => e = .returned (.bool c.small) ∧ Below w.heap.size w w' := by
  by_cases h1 : c.bn ≤ 1100
  · go_enter Try.func40, Try.ntmps40
    go_wp2_with fail
    go_ret
    refine ⟨ret_bool ?_, below_one _ _⟩
    unfold Cl.small
    simp [h1]
    try omega
  · have h2 : 1100 < c.bn := by omega
    go_enter Try.func40, Try.ntmps40
    go_wp2_with fail
    go_ret
    refine ⟨ret_bool ?_, below_one _ _⟩
    unfold Cl.small
    simp [h1]
end Go.Proofs.Ytgkdlbcpckdmkaa

/-
  A script of a pool's calls that comes in; what the laws' own small comes to.
-/
namespace Go.Proofs.Ytgkdlbcpckdmkaa
open Go.ChangeShapes Go.WideShapes Go.ChangeAt Go.RowKit Go.Joins Go.Deep

/-- One call of a script: its numbers, its bytes and where they lie, and what is done to the disk. -/
structure PCl where
  kind : Int
  n : Int
  bA : Option Addr
  bn : Nat
  bc : Nat
  b : List UInt8
  d : Cl

structure PClAt (w : World) (R : Nat) (c : PCl) : Prop where
  kind : In64 c.kind
  n : In64 c.n
  bl : c.b.length = c.bn
  bb : Bys w R c.bA c.b
  bz : c.bA = none → c.bn = 0 ∧ c.bc = 0
  bm : c.bn ≤ maxLen
  dk : ClAt w R c.d

def PCl.vals (c : PCl) : List Value := [.int .i64 c.kind, .int .i64 c.n, .slice c.bA c.bn c.bc, .int .i64 c.d.kind, .int .i64 c.d.n, .slice c.d.bA c.d.bn c.d.bc, .slice c.d.kA c.d.kn c.d.kc, .int .i64 c.d.at_, .int .u8 c.d.by_.toNat]

/-- A script below R. -/
def PScript (w : World) (R : Nat) (A : Option Addr) (l : List PCl) : Prop :=
  l = [] ∨ ∃ b off, A = some ⟨b, off, none⟩ ∧ b < R ∧ ∀ i c, l[i]? = some c → PClAt w R c ∧ ∀ j, j < 9 → w.cell? ⟨b, off + i * 9 + j, none⟩ = c.vals[j]?

section
variable {w w' : World} {R : Nat} {A : Option Addr}

theorem PClAt.below {c : PCl} (h : PClAt w R c) (hb : Below R w w') : PClAt w' R c :=
  { h with
    bb := h.bb.below hb
    dk := h.dk.below hb }

theorem PScript.at_ {l : List PCl} (h : PScript w R A l) {k : Nat} (hk : k < l.length) :
    ∃ b off c, A = some ⟨b, off, none⟩ ∧ b < R ∧ l[k]? = some c ∧ PClAt w R c ∧ ∀ j, j < 9 → w.cell? ⟨b, off + k * 9 + j, none⟩ = c.vals[j]? := by
  rcases h with rfl | ⟨b, off, rfl, hR, hc⟩
  · exact absurd hk (by simp)
  · exact ⟨b, off, l[k], rfl, hR, List.getElem?_eq_getElem hk, hc k _ (List.getElem?_eq_getElem hk)⟩
end

section
variable {H : Type} {enc : TypeId × Value → H} {w : World} {base : Nat} {spare : Nat → Bool} {held : Bool}

set_option maxRecDepth 20000 in
theorem pcallCells9 : Try.prog.cellsOf 48 = 9 := by kernel_rfl

theorem nine {α : Type} {l : List α} (h : l.length = 9) : ∃ a b c d e f g i j, l = [a, b, c, d, e, f, g, i, j] := by
  match l, h with
  | [a, b, c, d, e, f, g, i, j], _ => exact ⟨a, b, c, d, e, f, g, i, j, rfl⟩
theorem four_ {α : Type} {l : List α} (h : l.length = 4) : ∃ a b c d, l = [a, b, c, d] := by
  match l, h with
  | [a, b, c, d], _ => exact ⟨a, b, c, d, rfl⟩

set_option maxRecDepth 20000 in
theorem pcall_of {fuel : Nat} {cs : List Value} {x : DataW H × List MemPlace} (h : DataW.trod enc Try.prog w base spare held fuel 48 cs = some x) :
    ∃ c : PCl, cs = c.vals ∧ PClAt w w.heap.size c := by
  obtain ⟨ys, n, _, _, hlen, hys, hf⟩ := DataW.trod_struct Try.underlying48 h
  obtain ⟨a, b, c, d, e, f, g, i, j, rfl⟩ := nine (hlen.trans pcallCells9)
  obtain ⟨y0, y1, y2, y3, rfl⟩ := four_ hys
  have h0 : DataW.trod enc Try.prog w base spare held n 3 ([a, b, c, d, e, f, g, i, j].take (Try.prog.cellsOf 3)) = some y0 := hf 0 _ rfl
  have h1 : DataW.trod enc Try.prog w base spare held n 3 ([b, c, d, e, f, g, i, j].take (Try.prog.cellsOf 3)) = some y1 := hf 1 _ rfl
  have h2 : DataW.trod enc Try.prog w base spare held n 33 ([c, d, e, f, g, i, j].take (Try.prog.cellsOf 33)) = some y2 := hf 2 _ rfl
  have h3 : DataW.trod enc Try.prog w base spare held n 46 ([d, e, f, g, i, j].take (Try.prog.cellsOf 46)) = some y3 := hf 3 _ rfl
  rw [numCells1] at h0 h1
  rw [bytesCells1] at h2
  rw [callCells6] at h3
  obtain ⟨z0, e0, _, w0⟩ := DataW.trod_int Try.underlying3 h0
  obtain ⟨z1, e1, _, w1⟩ := DataW.trod_int Try.underlying3 h1
  obtain ⟨bA, bn, bc, bl, e2, r1, r2, r3, r4, r5⟩ := bytes_of h2
  obtain ⟨cl, e3, hcl⟩ := call_of h3
  simp only [List.take_succ_cons, List.take_zero, List.cons.injEq, and_true] at e0 e1
  have e3' : [d, e, f, g, i, j] = cl.vals := e3
  unfold Cl.vals at e3'
  simp only [List.cons.injEq, and_true] at e3'
  obtain ⟨q1, q2, q3, q4, q5, q6⟩ := e3'
  refine ⟨⟨z0, z1, bA, bn, bc, bl, cl⟩, ?_, ⟨in64_of w0, in64_of w1, r1, r2, r5, Nat.le_trans r3 r4, hcl⟩⟩
  rw [e0, e1, e2, q1, q2, q3, q4, q5, q6]
  rfl

set_option maxRecDepth 20000 in
/-- A script that comes in. -/
theorem open_pcalls {v : Value} {d : DataW H} {p : List MemPlace} {r : Reach} {b0 : Nat} (hv : Value.okWide Try.prog w r b0 44 v) (h : DataW.Trod enc Try.prog w base spare held 44 v d p) :
    ∃ (A : Option Addr) (n c : Nat) (l : List PCl), v = .slice A n c ∧ l.length = n ∧ PScript w w.heap.size A l ∧ n ≤ maxLen := by
  obtain ⟨A, n, c, rfl⟩ := okWide_slice Try.underlying44 hv
  obtain ⟨fuel, hf⟩ := h
  rcases open_slice Try.underlying44 hf with ⟨hcs, _⟩ | ⟨a, len, cap, m, f, D, Pl, hcs, _, hl, hcm, hm, _, hi⟩
  · simp [Value.cells] at hcs
    obtain ⟨rfl, rfl, rfl⟩ := hcs
    exact ⟨none, 0, 0, [], rfl, rfl, Or.inl rfl, Nat.zero_le _⟩
  · simp [Value.cells] at hcs
    obtain ⟨rfl, rfl, rfl⟩ := hcs
    have hlm : n ≤ m := by rw [hm]; split <;> omega
    have each : ∀ i, i < n → ∃ c : PCl, PClAt w w.heap.size c ∧ ∀ j, j < 9 → w.cell? ((a.add (i * 9)).add j) = c.vals[j]? := by
      intro i hin
      obtain ⟨cs', hc, ht⟩ := hi i (by omega)
      rw [pcallCells9] at hc
      obtain ⟨c, rfl, hca⟩ := pcall_of ht
      obtain ⟨_, _, hat⟩ := World.cells?_some hc
      exact ⟨c, hca, fun j hj => hat j hj⟩
    obtain ⟨xs, hlen, hx⟩ := pick_each (fun i (c : PCl) => PClAt w w.heap.size c ∧ ∀ j, j < 9 → w.cell? ((a.add (i * 9)).add j) = c.vals[j]?) (fun v => v) n each
    refine ⟨_, _, _, xs, rfl, hlen, ?_, Nat.le_trans hl hcm⟩
    by_cases hx0 : xs = []
    · exact Or.inl hx0
    · right
      obtain ⟨b, off, spot⟩ := a
      have hpos : 0 < xs.length := by
        rcases xs with _ | ⟨y, ys⟩
        · exact absurd rfl hx0
        · simp
      have h00 := (hx 0 _ (List.getElem?_eq_getElem hpos)).2 0 (by omega)
      have h01 : w.cell? (((⟨b, off, spot⟩ : Addr).add (0 * 9)).add 0) = some (.int .i64 xs[0].kind) := h00
      have hs : spot = none := by
        simpa [Addr.add] using World.cell?_spot h01
      subst hs
      refine ⟨b, off, rfl, ?_, fun i c hc => ?_⟩
      · rw [add_at, add_at] at h01
        exact World.block_lt_of_cell? _ _ h01
      · obtain ⟨h0, h1⟩ := hx i c hc
        refine ⟨h0, fun j hj => ?_⟩
        have g0 := h1 j hj
        rw [add_at, add_at] at g0
        exact g0
end

def PCl.small (c : PCl) : Bool := c.d.small && decide (c.bn ≤ 1100)

set_option maxRecDepth 20000 in
set_option maxHeartbeats 800000 in
theorem small7_any (c : PCl) (w : World) : Calls Try.prog 19 #[.agg #[.int .i64 c.kind, .int .i64 c.n, .slice c.bA c.bn c.bc, .int .i64 c.d.kind, .int .i64 c.d.n, .slice c.d.bA c.d.bn c.d.bc, .slice c.d.kA c.d.kn c.d.kc, .int .i64 c.d.at_, .int .u8 c.d.by_.toNat]] w
    fun e w' => e = .returned (.bool c.small) ∧ Below w.heap.size w w' := by
  go_enter Try.func19, Try.ntmps19
  go_wp2_with fail
  refine (small_any c.d _).mono ?_
  rintro e w1 ⟨rfl, b1⟩
  generalize hO : Obj.cells _ _ = o at *
  have d2 : (w.alloc o).cell? ⟨w.heap.size, 2, none⟩ = some (.slice c.bA c.bn c.bc) := by rw [← hO]; simp
  have e2 := (b1.cell (p := ⟨w.heap.size, 2, none⟩) (by simp)).trans d2
  have HB := Lib.hid ((below_one w o).trans (b1.mono (by simp)))
  clear b1 d2 hO
  cases hs : c.d.small with
  | false =>
    have HE : Hid (false = c.small) := Lib.hid (by unfold PCl.small; rw [hs]; rfl)
    clear hs
    go_wp2_with fail
    go_ret
    exact ⟨ret_bool HE.out, HB.out⟩
  | true =>
    have HE : Hid (decide ((c.bn : Int) ≤ 1100) = c.small) := Lib.hid (by
      unfold PCl.small
      rw [hs, Bool.true_and, decide_eq_decide]
      omega)
    clear hs
    go_wp2_with fail
    go_ret
    exact ⟨ret_bool HE.out, HB.out⟩
end Go.Proofs.Ytgkdlbcpckdmkaa
