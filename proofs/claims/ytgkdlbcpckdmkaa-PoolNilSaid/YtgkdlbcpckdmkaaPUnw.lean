/-
  What unwritten comes to: the frames that are dirty, by their sectors.
-/
import Derived.Test.YtgkdlbcpckdmkaaPSort
import Derived.Test.YtgkdlbcpckdmkaaPMeth
import Derived.Maps.AppendAt
import Derived.Laws.OwnMore
namespace Go.Proofs.Ytgkdlbcpckdmkaa
open Go.RowKit

def ptrs (fb : Nat) (js : List Nat) : List Value := js.map fun j => .pointer (some ⟨fb, j * 4, none⟩)

/-- Frames' pointers, in memory from base on. -/
def Ptrs (w : World) (base fb : Nat) (A : Option Addr) (js : List Nat) : Prop :=
  js = [] ∨ ∃ b, A = some ⟨b, 0, none⟩ ∧ base ≤ b ∧ ∀ i j, js[i]? = some j → w.cell? ⟨b, i, none⟩ = some (.pointer (some ⟨fb, j * 4, none⟩))

/-- The dirty frames, by their sectors. -/
structure Js (s : PP) (js : List Nat) : Prop where
  perm : js.Perm ((List.range s.m).filter s.d)
  up : js.Pairwise fun a b => s.sec a ≤ s.sec b

def UnwEnd (w : World) (fb : Nat) (s : PP) (e : Ending) (w' : World) : Prop :=
  ∃ A c js, e = .returned (.slice A js.length c) ∧ Ptrs w' w.heap.size fb A js ∧ Js s js ∧ Below w.heap.size w w'

/-- As far as the frames were looked through. -/
def UnwRel (w : World) (fb : Nat) (d : Nat → Bool) (k : Nat) (v : Value) (wr : World) : Prop :=
  wr.ownsRow w.heap.size 74 1 v ((List.range k).filter d).length (ptrs fb ((List.range k).filter d)) ∧ ((List.range k).filter d = [] → v = .slice none 0 0) ∧ Below w.heap.size w wr

theorem js_len (d : Nat → Bool) (k : Nat) : ((List.range k).filter d).length ≤ k := by
  have := List.length_filter_le d (List.range k)
  rw [List.length_range] at this
  exact this

theorem js_no {d : Nat → Bool} {k : Nat} (h : d k = false) : (List.range (k + 1)).filter d = (List.range k).filter d := by
  rw [List.range_succ, List.filter_append]
  simp [h]
theorem js_yes {d : Nat → Bool} {k : Nat} (h : d k = true) : (List.range (k + 1)).filter d = (List.range k).filter d ++ [k] := by
  rw [List.range_succ, List.filter_append]
  simp [h]

section
variable {F D : Nat → Prop} {pb fb cb rb db : Nat} {g : Nat → Value} {s : PP}

set_option maxRecDepth 20000 in
theorem ptrInfo : (Try.prog.info? 74).map (fun i => (i.zero, i.size, i.bytes)) = some (some (.pointer none), 1, 8) := by kernel_rfl

/-- All were looked through, and some were found: they are put in order. -/
theorem unw_sorted {w wr w2 : World} {v : Value} {gb cap : Nat} {d' : Array Nat} {q : Nat} (hm : ∀ j ∈ (List.range s.m).filter s.d, j < s.m) (hr : UnwRel w fb s.d s.m v wr) (hv : v = .slice (some ⟨gb, 0, none⟩) ((List.range s.m).filter s.d).length cap)
    (hgb : w.heap.size ≤ gb) (hH : Sort.Holds (ptrF fb s.m) wr gb 0 ((List.range s.m).filter s.d).toArray) (hp : Sort.PermIn 0 ((List.range s.m).filter s.d).toArray.size ((List.range s.m).filter s.d).toArray d')
    (hs : Sort.SortedIn (ltOf fun x y : Nat => cmpI (s.sec (x % s.m)) (s.sec (y % s.m))) 0 ((List.range s.m).filter s.d).toArray.size d') (e2 : w2 = (Sort.putRow (ptrF fb s.m) wr gb 0 d').drewN q) :
    UnwEnd w fb s (.returned v) w2 := by
  generalize hL : (List.range s.m).filter s.d = L at *
  obtain ⟨p1, _, p3⟩ := hp
  have hsz : d'.size = L.length := by rw [p1]; simp
  have hperm : d'.toList.Perm L := by
    have e1 : (d'.extract 0 L.toArray.size) = d' := by
      rw [← p1]
      exact Array.extract_size
    have e3 : (L.toArray.extract 0 L.toArray.size) = L.toArray := Array.extract_size
    rw [e1, e3] at p3
    exact p3
  have hmem : ∀ j ∈ d'.toList, j < s.m := fun j hj => hm j (hperm.mem_iff.1 hj)
  have hlen : d'.toList.length = L.length := by rw [Array.length_toList, hsz]
  have hat : ∀ i (h : i < d'.size), d'[i]! = d'.toList[i]'(by simpa using h) := fun i h => by
    rw [getElem!_pos d' i h]
    simp
  refine ⟨some ⟨gb, 0, none⟩, cap, d'.toList, by rw [hv, hlen], Or.inr ⟨gb, rfl, hgb, fun i j hij => ?_⟩, ⟨by rw [hL]; exact hperm, ?_⟩, ?_⟩
  · have hi : i < d'.size := by
      have := (List.getElem?_eq_some_iff.1 hij).1
      simpa using this
    have hc := (Sort.holds_putRow (ptrF fb s.m) wr gb 0 L.toArray d' hH (by rw [hsz]; simp) i hi).1
    rw [Nat.zero_add] at hc
    have ej : d'[i]! = j := by
      rw [hat i hi]
      exact (List.getElem?_eq_some_iff.1 hij).2
    rw [ej] at hc
    rw [e2]
    show (Sort.putRow (ptrF fb s.m) wr gb 0 d').cell? ⟨gb, i, none⟩ = _
    rw [hc]
    unfold ptrF
    rw [Nat.mod_eq_of_lt (hmem j (List.mem_of_getElem? hij))]
  · rw [List.pairwise_iff_getElem]
    intro i j hi hj hij
    have hi' : i < d'.size := by simpa using hi
    have hj' : j < d'.size := by simpa using hj
    have h1 := hs i j (Nat.zero_le _) hij (by rw [← p1]; exact hj')
    unfold ltOf at h1
    rw [ltI, hat i hi', hat j hj', Nat.mod_eq_of_lt (hmem _ (List.getElem_mem _)), Nat.mod_eq_of_lt (hmem _ (List.getElem_mem _))] at h1
    simp at h1
    exact h1
  · rw [e2]
    exact hr.2.2.trans (belowN (below_putRow _ _ _ _ hgb) _)

set_option maxRecDepth 20000 in
set_option maxHeartbeats 1600000 in
theorem unwritten_any (w : World) (hm12 : s.m ≤ 12) (h : PoolAt w F D pb fb cb rb db g s) :
    Calls Try.prog 31 #[.pointer (some ⟨pb, 0, none⟩)] w (UnwEnd w fb s) := by
  obtain ⟨i0, hi, hz0, hz1, hz2⟩ := info_parts ptrInfo
  have c1 := h.core.c1
  have hm1 := h.core.m1.1
  have hlp := h.core.lt _ h.core.fp
  have hlf := h.core.lt _ h.core.ff
  have H := Lib.hid h
  clear h
  go_enter Try.func31, Try.ntmps31
  go_wp2_with fail
  go_loopw [3, 11] (fun v i wr => ∃ k : Nat, k ≤ s.m ∧ i = .int .i64 k ∧ Hid (UnwRel w fb s.d k v wr)) (fun _ i _ => s.m - (RowKit.intOf i).toNat)
  case atStart => exact ⟨0, Nat.zero_le _, rfl, Lib.hid ⟨World.ownsRow_nil _ _ _ _, fun _ => rfl, Below.refl _ _⟩⟩
  case round =>
    obtain ⟨k, hk, rfl, hr⟩ := hrel
    have HP := Lib.hid (H.out.below hr.out.2.2)
    have c1 : wr.cell? ⟨pb, 1, none⟩ = some (.slice (some ⟨fb, 0, none⟩) s.m s.m) := HP.out.core.c1
    by_cases hlt : k < s.m
    · have d3 := HP.out.s3 hlt
      cases hd : s.d k with
      | false =>
        rw [hd] at d3
        have HN : Hid (UnwRel w fb s.d (k + 1) u3 wr) := Lib.hid (by unfold UnwRel; rw [js_no hd]; exact hr.out)
        clear hd
        go_wp2_with fail
        go_roundw
        case rel => exact ⟨k + 1, by omega, by go_num, HN⟩
        case measure => simp [RowKit.intOf]; omega
      | true =>
        rw [hd] at d3
        have HD := Lib.hid hd
        obtain ⟨h1, h2, h3⟩ := hr.out
        have hl := js_len s.d k
        have bs := h3.size
        generalize hM : ((List.range k).filter s.d).length = M at *
        clear hd h2
        go_wp2_with (at_builtin; refine wpList_append_own _ rfl (.tmp 24) (.tmp 26) 72 rfl w.heap.size 74 i0 (.pointer none) 1 8 Try.underlying72 hi hz0 hz1 hz2 rfl (by decide) _ _ _ rfl (h1.alloc _) ⟨wr.heap.size, 0, none⟩ 1 1 [.pointer (some ⟨fb, k * 4, none⟩)] rfl rfl (cell_one_new _ _ _) (by simp [Value.oneCell']) (by unfold maxLen; omega) (by omega) (by simp; omega) ?_; intro v3 w3 hown3 hg3 _)
        have HN : Hid (UnwRel w fb s.d (k + 1) v3 w3) := Lib.hid (by
          unfold UnwRel
          rw [js_yes HD.out]
          refine ⟨?_, fun e => by simp at e, (h3.alloc bs _).grown hg3 (by simp; omega) (fun g hg => (h1.lt g hg).1)⟩
          unfold ptrs at hown3 ⊢
          rw [List.length_append, hM, List.map_append]
          exact hown3)
        clear hown3 hg3 h1 h3
        go_wp2_with fail
        go_roundw
        case rel => exact ⟨k + 1, by omega, by go_num, HN⟩
        case measure => simp [RowKit.intOf]; omega
    · obtain rfl : k = s.m := by omega
      by_cases h0 : (List.range s.m).filter s.d = []
      · obtain rfl := hr.out.2.1 h0
        have HE : Hid (UnwEnd w fb s (.returned (.slice none 0 0)) wr) := Lib.hid ⟨none, 0, [], rfl, Or.inl rfl, ⟨by rw [h0], List.Pairwise.nil⟩, hr.out.2.2⟩
        clear hr h0
        go_wp2_with fail
        refine (sortF_none _ _).mono ?_
        rintro e w2 ⟨rfl, rfl⟩
        go_wp2_with fail
        go_ret
        exact HE.out
      · have hmem : ∀ j ∈ (List.range s.m).filter s.d, j < s.m := fun j hj => List.mem_range.1 (List.mem_filter.1 hj).1
        have hl := js_len s.d s.m
        have hpos : 0 < ((List.range s.m).filter s.d).length := List.length_pos_iff.2 h0
        have hrow := hr.out.1
        obtain ⟨gb, cap, e3, hgb⟩ : ∃ gb cap, u3 = .slice (some ⟨gb, 0, none⟩) ((List.range s.m).filter s.d).length cap ∧ w.heap.size ≤ gb := by
          rcases hrow.2 with ⟨_, h0⟩ | ⟨gb, cap, cur, e, hb, _⟩
          · omega
          · exact ⟨gb, cap, e, hb⟩
        have HR := hr
        rw [e3] at hrow
        have hH : Sort.Holds (ptrF fb s.m) wr gb 0 ((List.range s.m).filter s.d).toArray := fun j hj => by
          have hj' : j < ((List.range s.m).filter s.d).length := by simpa using hj
          refine ⟨?_, hrow.frozenAt _⟩
          rw [Nat.zero_add, hrow.cellAt j (by omega)]
          unfold ptrs ptrF
          rw [getElem!_pos _ j hj, List.getElem?_map, List.getElem?_eq_getElem hj']
          simp only [Option.map_some, List.getElem_toArray]
          rw [Nat.mod_eq_of_lt (hmem _ (List.getElem_mem _))]
        have HS := Lib.hid (sortF_any fb s.m gb cap s.sec ((List.range s.m).filter s.d).toArray wr hm1 (fun i hi => HP.out.s1 hi) (by omega) hH (by simp; omega))
        have HM := Lib.hid hmem
        have HH := Lib.hid hH
        have HE := Lib.hid e3
        have HB := Lib.hid hgb
        rw [List.size_toArray] at HS
        subst e3
        clear hr hrow hH hpos h0 hmem
        generalize hN : ((List.range s.m).filter s.d).length = N at *
        go_wp2_with fail
        refine HS.out.mono ?_
        rintro e w2 ⟨rfl, d', q, hp, hs, hw⟩
        have HU := Lib.hid (unw_sorted (w2 := w2) (cap := cap) HM.out HR.out (by rw [hN]) HB.out HH.out (by rw [List.size_toArray, hN]; exact hp) (by rw [List.size_toArray, hN]; exact hs) hw)
        clear hp hs hw
        go_wp2_with fail
        go_ret
        exact HU.out
end
end Go.Proofs.Ytgkdlbcpckdmkaa
