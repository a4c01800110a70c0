/-
  What Dirty, Pages and Disk come to.
-/
import Derived.Test.YtgkdlbcpckdmkaaPUnw
import Derived.Test.YtgkdlbcpckdmkaaInts
import Derived.Laws.MakeOwn
namespace Go.Proofs.Ytgkdlbcpckdmkaa
open Go.RowKit

/-- What Dirty answers. -/
def DirtyEnd (w : World) (s : PP) (e : Ending) (w' : World) : Prop :=
  ∃ A c js, e = .returned (.slice A (js.map s.sec).length c) ∧ Ints w' A (js.map s.sec) ∧ Js s js ∧ Below w.heap.size w w'

/-- As far as their sectors were told. -/
def DirRel (w1 : World) (S : Nat → Int) (js : List Nat) (q : Nat) (v : Value) (wr : World) : Prop :=
  wr.ownsRow w1.heap.size 3 1 v ((js.take q).map S).length (intVals ((js.take q).map S)) ∧ Below w1.heap.size w1 wr

theorem take_next {js : List Nat} {q j : Nat} (h : js[q]? = some j) : js.take (q + 1) = js.take q ++ [j] := by
  rw [List.take_add_one, h]
  rfl

section
variable {F D : Nat → Prop} {pb fb cb rb db : Nat} {g : Nat → Value} {s : PP}

set_option maxRecDepth 20000 in
set_option maxHeartbeats 1600000 in
theorem dirty_any (w : World) (hm12 : s.m ≤ 12) (h : PoolAt w F D pb fb cb rb db g s) :
    Calls Try.prog 14 #[.pointer (some ⟨pb, 0, none⟩)] w (DirtyEnd w s) := by
  obtain ⟨i0, hi, hz0, hz1, hz2⟩ := info_parts intInfo
  have H := Lib.hid h
  have HM := Lib.hid (made_yes w pb db h.core.c0)
  have HU := Lib.hid (unwritten_any w hm12 h)
  clear h
  go_enter Try.func14, Try.ntmps14
  go_wp2_with fail
  refine HM.out.mono ?_
  rintro e w' ⟨rfl, rfl⟩
  clear HM
  go_wp2_with fail
  refine HU.out.mono ?_
  rintro e w1 ⟨A, c, js, rfl, hp, hj, hb⟩
  have HP := Lib.hid hp
  have HJ := Lib.hid hj
  have HB := Lib.hid hb
  have hlen : js.length ≤ 12 := by
    have := hj.perm.length_eq
    have := js_len s.d s.m
    omega
  have H1 := Lib.hid (H.out.below hb)
  obtain ⟨N, hN⟩ : ∃ N, js.length = N := ⟨_, rfl⟩
  have HN := Lib.hid hN
  rw [hN] at hlen
  rw [hN]
  clear hp hj hb HU hN
  go_wp2_with fail
  go_loopw [3, 12] (fun v i wr => ∃ q : Nat, q ≤ N ∧ i = .int .i64 q ∧ Hid (DirRel w1 s.sec js q v wr)) (fun _ i _ => N - (RowKit.intOf i).toNat)
  case atStart => exact ⟨0, Nat.zero_le _, rfl, Lib.hid ⟨World.ownsRow_nil _ _ _ _, Below.refl _ _⟩⟩
  case round =>
    obtain ⟨q, hq, rfl, hr⟩ := hrel
    by_cases hlt : q < N
    · have hlq : q < js.length := by rw [HN.out]; exact hlt
      obtain ⟨j, hJ⟩ : ∃ j, js[q]'hlq = j := ⟨_, rfl⟩
      have hqj : js[q]? = some j := by rw [← hJ]; exact List.getElem?_eq_getElem hlq
      have hjm : j < s.m := by
        have h1 := HJ.out.perm.mem_iff.1 (List.mem_of_getElem? hqj)
        exact List.mem_range.1 (List.mem_filter.1 h1).1
      obtain ⟨b, hA, hbb, hbc⟩ : ∃ b, A = some ⟨b, 0, none⟩ ∧ w.heap.size ≤ b ∧ ∀ i j, js[i]? = some j → w1.cell? ⟨b, i, none⟩ = some (.pointer (some ⟨fb, j * 4, none⟩)) := by
        rcases HP.out with e | e
        · rw [e] at hlq
          exact absurd hlq (by simp)
        · exact e
      obtain ⟨h1, h2⟩ := hr.out
      have hcell : wr.cell? ⟨b, q, none⟩ = some (.pointer (some ⟨fb, j * 4, none⟩)) := (h2.cell (World.block_lt_of_cell? _ _ (hbc q j hqj))).trans (hbc q j hqj)
      have d1 := (H1.out.below h2).s1 hjm
      have bs := h2.size
      have hlk : ((js.take q).map s.sec).length = q := by
        rw [List.length_map, List.length_take]
        omega
      have HQ := Lib.hid hqj
      have HLK := Lib.hid hlk
      rw [hlk] at h1
      subst hA
      clear hqj hJ hjm hbc hbb hlk hlq
      go_wp2_with (at_builtin; refine wpList_append_own _ rfl (.tmp 16) (.tmp 21) 22 rfl w1.heap.size 3 i0 (.int .i64 0) 1 8 Try.underlying22 hi hz0 hz1 hz2 rfl (by decide) _ _ _ rfl (h1.alloc _) ⟨wr.heap.size, 0, none⟩ 1 1 [.int .i64 (s.sec j)] rfl rfl (cell_one_new _ _ _) (by simp [Value.oneCell']) (by unfold maxLen; omega) (by omega) (by simp; omega) ?_; intro v3 w3 hown3 hg3 _)
      have HNX : Hid (DirRel w1 s.sec js (q + 1) v3 w3) := Lib.hid (by
        unfold DirRel
        rw [take_next HQ.out]
        refine ⟨?_, (h2.alloc bs _).grown hg3 (by simp; omega) (fun g hg => (h1.lt g hg).1)⟩
        unfold intVals at hown3 ⊢
        rw [List.map_append, List.length_append, HLK.out, List.map_append]
        exact hown3)
      clear hown3 hg3 h1 h2 hcell d1
      go_wp2_with fail
      go_roundw
      case rel => exact ⟨q + 1, by omega, by go_num, HNX⟩
      case measure => simp [RowKit.intOf]; omega
    · obtain rfl : q = N := by omega
      have HE : Hid (DirtyEnd w s (.returned u3) wr) := Lib.hid (by
        obtain ⟨h1, h2⟩ := hr.out
        rw [List.take_of_length_le (by rw [HN.out]; exact Nat.le_refl _)] at h1
        obtain ⟨A, c, e1, hi⟩ := ints_of_own h1
        exact ⟨A, c, js, by rw [e1], hi, HJ.out, HB.out.trans (h2.mono HB.out.size)⟩)
      clear hr
      go_wp2_with fail
      go_ret
      exact HE.out

set_option maxRecDepth 20000 in
theorem disk_any (w : World) (h : PoolAt w F D pb fb cb rb db g s) :
    Calls Try.prog 23 #[.pointer (some ⟨pb, 0, none⟩)] w fun e w' => e = .returned (.pointer (some ⟨db, 0, none⟩)) ∧ w = w' := by
  have c0 := h.core.c0
  have HM := Lib.hid (made_yes w pb db c0)
  clear h
  go_enter Try.func23, Try.ntmps23
  go_wp2_with fail
  refine HM.out.mono ?_
  rintro e w' ⟨rfl, rfl⟩
  go_wp2_with fail
  go_ret
  exact ⟨rfl, rfl⟩

/-- The sectors, as far as they were told. -/
def pgF (s : PP) (k j : Nat) : Value := if j < k then .int .i64 (s.at_ j) else .int .i64 0

theorem pg_step (s : PP) (k j : Nat) : (if j = k then Value.int .i64 (s.at_ k) else pgF s k j) = pgF s (k + 1) j := by
  unfold pgF
  by_cases h : j = k
  · subst h
    rw [if_pos rfl, if_pos (by omega)]
  · rw [if_neg h]
    by_cases h2 : j < k
    · rw [if_pos h2, if_pos (by omega)]
    · rw [if_neg h2, if_neg (by omega)]
theorem pg_step2 (s : PP) (k j : Nat) : (if j = k then Value.int .i64 (s.at_ k) else if j = k then Value.int .i64 (-1) else pgF s k j) = pgF s (k + 1) j := by
  rw [← pg_step]
  by_cases h : j = k
  · rw [if_pos h, if_pos h]
  · rw [if_neg h, if_neg h, if_neg h]

/-- What Pages answers. -/
def PagesEnd (w : World) (s : PP) (e : Ending) (w' : World) : Prop :=
  e = .returned (.slice (some ⟨w.heap.size, 0, none⟩) s.m s.m) ∧ (∀ j, j < s.m → w'.cell? ⟨w.heap.size, j, none⟩ = some (.int .i64 (s.at_ j))) ∧ Below w.heap.size w w'

set_option maxRecDepth 20000 in
set_option maxHeartbeats 1600000 in
theorem pages_any (w : World) (h : PoolAt w F D pb fb cb rb db g s) :
    Calls Try.prog 17 #[.pointer (some ⟨pb, 0, none⟩)] w (PagesEnd w s) := by
  have hm := h.core.m1.2
  have hmk := fun W => run_make_row' (P := Try.prog) 22 3 (.int .i64 0) 8 Try.underlying22 intInfo rfl .i64 .i64 s.m (by omega) (by omega) W
  have H := Lib.hid h
  have HM := Lib.hid (made_yes w pb db h.core.c0)
  have c1 := h.core.c1
  have l1 := h.core.lt _ h.core.fp
  have l2 := h.core.lt _ h.core.ff
  clear h
  go_enter Try.func17, Try.ntmps17
  go_wp2_with fail
  refine HM.out.mono ?_
  rintro e w' ⟨rfl, rfl⟩
  clear HM
  go_wp2_with fail
  go_loopw [20] (fun i wr => ∃ k : Nat, k ≤ s.m ∧ i = .int .i64 k ∧ wr.rowIs w.heap.size 3 s.m (pgF s k) ∧ Below w.heap.size w wr) (fun i _ => s.m - (RowKit.intOf i).toNat)
  case atStart => exact ⟨0, Nat.zero_le _, rfl, (World.rowIs_made _ _ _ _).congr (fun j _ => by unfold pgF; rw [if_neg (by omega)]), below_one _ _⟩
  case round =>
    obtain ⟨k, hk, rfl, hrow, hb⟩ := hrel
    by_cases hlt : k < s.m
    · have HR := H.out.below hb
      have d1 := HR.s1 hlt
      have d2 := HR.s2 hlt
      have c1 := HR.core.c1
      have g0 := hrow.cell hlt
      rw [show pgF s k k = .int .i64 0 by unfold pgF; rw [if_neg (by omega)]] at g0
      have g1 := hrow.frozen k
      have g2 := hrow.lt
      have HROW := Lib.hid hrow
      have HB := Lib.hid hb
      by_cases hat : s.at_ k = -1
      · have hu : s.ful k = false := by unfold PP.ful; simp [hat]
        rw [hu] at d2
        have HAT := Lib.hid hat
        clear HR hb hrow hat hu
        go_wp2_with fail
        go_roundw
        case rel =>
          refine ⟨k + 1, by omega, by go_num, (HROW.out.set k _).congr (fun j _ => ?_), HB.out.setCell (p := ⟨w.heap.size, k, none⟩) (Nat.le_refl _) _⟩
          have := pg_step s k j
          rw [HAT.out] at this
          exact this
        case measure => simp [RowKit.intOf]; omega
      · have hu : s.ful k = true := by unfold PP.ful; simp [hat]
        have hs : s.sec k = s.at_ k := by unfold PP.sec; rw [if_neg hat]
        rw [hu] at d2
        rw [hs] at d1
        clear HR hb hrow hat hu hs
        go_wp2_with fail
        go_roundw
        case rel =>
          refine ⟨k + 1, by omega, by go_num, ((HROW.out.set k _).set k _).congr (fun j _ => pg_step2 s k j), ?_⟩
          exact (HB.out.setCell (p := ⟨w.heap.size, k, none⟩) (Nat.le_refl _) _).setCell (p := ⟨w.heap.size, k, none⟩) (Nat.le_refl _) _
        case measure => simp [RowKit.intOf]; omega
    · obtain rfl : k = s.m := by omega
      have HROW := Lib.hid hrow
      have HB := Lib.hid hb
      clear hrow hb
      go_wp2_with fail
      go_ret
      exact ⟨rfl, fun j hj => by rw [HROW.out.cell hj]; unfold pgF; rw [if_pos hj], HB.out⟩
end
end Go.Proofs.Ytgkdlbcpckdmkaa
