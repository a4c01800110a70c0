/-
  What the document's own Lasts and Waits come to.
-/
import Derived.Test.YtillllegbgaalaaDRefIn
import Derived.Test.YtillllegbgaalaaDList
namespace Go.Proofs.Ytillllegbgaalaa
open Go.RowKit Go.Maps

/-- A list of one's own, of bytes that lie anywhere. -/
structure HRef (w : World) (base : Nat) (v : Value) (ps : List Hd) : Prop where
  row : w.ownsRow base 57 2 v ps.length (hdVals ps)
  own : ∀ p ∈ ps, Own w 0 p.2.1 p.2.2

theorem href_nil (w : World) (base : Nat) : HRef w base (.slice none 0 0) [] := ⟨World.ownsRow_nil _ _ _ _, fun p hp => by simp at hp⟩

theorem HRef.below {w w' : World} {base : Nat} {v : Value} {ps : List Hd} (h : HRef w base v ps) (hb : Below w.heap.size w w') : HRef w' base v ps :=
  ⟨row_of_block h.row (fun k hk => hb.block k (h.row.lt k hk).2), fun p hp => own_of_block (h.own p hp) (fun k hk => hb.block k ((h.own p hp).lt k hk).2)⟩

theorem HRef.push {w w' : World} {base : Nat} {v v' : Value} {ps : List Hd} {p : Hd} (h : HRef w base v ps) (ho : Own w 0 p.2.1 p.2.2) (hr : w'.ownsRow base 57 2 v' (ps.length + 1) (hdVals ps ++ [.int .i64 p.1, p.2.1])) (hg : w.grownBy w' v.ownBlock) :
    HRef w' base v' (ps ++ [p]) := by
  refine ⟨?_, fun q hq => ?_⟩
  · rw [hdVals_append, List.length_append]
    exact hr
  · have hq' : Own w 0 q.2.1 q.2.2 := by
      rcases List.mem_append.1 hq with h1 | h1
      · exact h.own q h1
      · obtain rfl : q = p := by simpa using h1
        exact ho
    exact grown_apart (by decide) hq' h.row hg

theorem HRef.out {w : World} {base : Nat} {v : Value} {ps : List Hd} (h : HRef w base v ps) :
    ∃ A c, v = .slice A ps.length c ∧ HOut w (fun _ => False) A (ps.map fun p => (p.1, p.2.2)) := by
  rcases h.row.2 with ⟨rfl, h0⟩ | ⟨g, cap, cur, rfl, hb, hh, hnc, hm, _⟩
  · refine ⟨none, 0, by rw [h0], Or.inl ?_⟩
    rw [List.eq_nil_of_length_eq_zero h0]
    rfl
  · refine ⟨_, _, rfl, Or.inr ⟨g, 0, rfl, fun hg => hg, fun i q hq => ?_⟩⟩
    rw [List.getElem?_map] at hq
    obtain ⟨p, hp, rfl⟩ := Option.map_eq_some_iff.1 hq
    obtain ⟨e1, e2⟩ := hdVals_at ps i p hp
    have c1 := h.row.cells (g := g) rfl _ _ e1
    have c2 := h.row.cells (g := g) rfl _ _ e2
    rw [addr_add] at c1 c2
    have ho := h.own p (List.mem_of_getElem? hp)
    obtain ⟨A', c', hv, _, _⟩ := own_slice ho
    refine ⟨c1, A', c', by rw [← hv]; exact c2, ?_⟩
    rw [hv] at ho
    rcases own_bys ho with hx | ⟨b, off, e, _, hc⟩
    · exact Or.inl hx
    · exact Or.inr ⟨b, off, e, fun hF' => hF', hc⟩

def lastsTo (s : PS) (j : Nat) : List (Int × List UInt8) := ((List.range j).map fun k : Nat => ((k : Int), s.L (k : Int))).filter fun p => !p.2.isEmpty
def waitsTo (s : PS) (j : Nat) : List (Int × List UInt8) := (List.range j).filterMap fun k : Nat => (s.W (k : Int)).map fun l => ((k : Int), l)

theorem lastsTo_step (s : PS) (j : Nat) : lastsTo s (j + 1) = if s.L (j : Int) = [] then lastsTo s j else lastsTo s j ++ [((j : Int), s.L (j : Int))] := by
  unfold lastsTo
  rw [List.range_succ, List.map_append, List.filter_append]
  by_cases h : s.L (j : Int) = []
  · rw [if_pos h]
    simp [h]
  · rw [if_neg h]
    simp [h]

theorem waitsTo_step (s : PS) (j : Nat) : waitsTo s (j + 1) = match s.W (j : Int) with | none => waitsTo s j | some l => waitsTo s j ++ [((j : Int), l)] := by
  unfold waitsTo
  rw [List.range_succ, List.filterMap_append]
  cases h : s.W (j : Int) with
  | none => simp [h]
  | some l => simp [h]

theorem lastsTo_len (s : PS) (j : Nat) : (lastsTo s j).length ≤ j := by
  unfold lastsTo
  refine Nat.le_trans (List.length_filter_le _ _) ?_
  simp
theorem waitsTo_len (s : PS) (j : Nat) : (waitsTo s j).length ≤ j := by
  unfold waitsTo
  refine Nat.le_trans (List.length_filterMap_le _ _) ?_
  simp

def RListRel (w : World) (qs : List (Int × List UInt8)) (v : Value) (wr : World) : Prop :=
  ∃ ps, HRef wr w.heap.size v ps ∧ (ps.map fun p => (p.1, p.2.2)) = qs ∧ Below w.heap.size w wr

def RList (w : World) (qs : List (Int × List UInt8)) (e : Ending) (w' : World) : Prop :=
  ∃ A c, e = .returned (.slice A qs.length c) ∧ HOut w' (fun _ => False) A qs ∧ Below w.heap.size w w'

theorem rlist_end {w wr : World} {qs : List (Int × List UInt8)} {v : Value} (h : RListRel w qs v wr) : RList w qs (.returned v) wr := by
  obtain ⟨ps, hr, rfl, hb⟩ := h
  obtain ⟨A, c, rfl, ho⟩ := hr.out
  exact ⟨A, c, by rw [List.length_map], ho, hb⟩

section
variable {G : Nat → Prop} {rb : Nat} {s : PS}

set_option maxRecDepth 20000 in
set_option maxHeartbeats 1600000 in
theorem refLasts_any (w : World) (h : Rk w G rb s) : Calls Try.prog 34 #[.pointer (some ⟨rb, 0, none⟩)] w (RList w s.lastsOf) := by
  obtain ⟨i0, hi, hz0, hz1, hz2⟩ := info_parts heldInfo
  obtain ⟨lb, wb, ib, left, rL, rW, rI, h⟩ := h
  have hs4 := h.s4
  have HD := Lib.hid h
  clear h
  go_enter Try.func34, Try.ntmps34
  go_wp2_with fail
  go_loopw [3, 4] (fun v i wr => ∃ j : Nat, j ≤ s.size ∧ i = .int .i64 j ∧ RListRel w (lastsTo s j) v wr) (fun _ i _ => s.size - (RowKit.intOf i).toNat)
  case atStart => exact ⟨0, Nat.zero_le _, rfl, [], href_nil _ _, rfl, Below.refl _ _⟩
  case round =>
    obtain ⟨j, hj, rfl, ps, hps, hpq, hbw⟩ := hrel
    have hr := HD.out.same (w' := wr) (fun k hk => hbw.block k (HD.out.lt k hk)) hbw.size
    have c0 := hr.cell 0 (v := .slice (some ⟨lb, 0, none⟩) s.size s.size) rfl
    have hbb := hbw.size
    have HPS := Lib.hid hps
    have HPQ := Lib.hid hpq
    have HBW := Lib.hid hbw
    have hpl : ps.length ≤ j := by
      have := lastsTo_len s j
      rw [← hpq, List.length_map] at this
      exact this
    by_cases hlt : j < s.size
    · obtain ⟨p, -, -, e1, -, -, k1, -, -, -, -, -⟩ := hr.at_ hlt
      obtain ⟨pA, pc, hpv, -, -⟩ := own_slice (hr.oL j p e1).1
      rw [hpv] at k1
      have hsl := hr.sL j p e1
      have HOW := Lib.hid (show Own wr 0 (.slice pA p.2.length pc) p.2 from by have := (hr.oL j p e1).1; rw [hpv] at this; exact this)
      have HSL := Lib.hid hsl
      clear hr hps hpq hbw e1 hpv hsl
      by_cases hl : p.2 = []
      · have hl0 : p.2.length = 0 := by rw [hl]; rfl
        rw [hl0] at k1
        have HST : Hid (lastsTo s (j + 1) = lastsTo s j) := by
          rw [lastsTo_step, if_pos (by rw [HSL.out]; exact hl)]
          exact Lib.hid rfl
        clear hl hl0 HOW
        go_wp2_with fail
        go_roundw
        case rel => exact ⟨j + 1, by omega, by go_num, ps, HPS.out, by rw [HST.out]; exact HPQ.out, HBW.out⟩
        case measure => simp [RowKit.intOf]; omega
      · have hl1 : 0 < p.2.length := by
          rcases Nat.eq_zero_or_pos p.2.length with e | e
          · exact absurd (List.eq_nil_of_length_eq_zero e) hl
          · exact e
        have HST : Hid (lastsTo s (j + 1) = lastsTo s j ++ [((j : Int), p.2)]) := by
          rw [lastsTo_step, if_neg (by rw [HSL.out]; exact hl), HSL.out]
          exact Lib.hid rfl
        have hrow3 := (HPS.out.below (below_one wr (.cells #[.int .i64 (j : Int), .slice pA p.2.length pc] 57))).row
        clear hl
        go_wp2_with (at_builtin; refine wpList_append_own _ rfl (.tmp 23) (.tmp 33) 46 rfl w.heap.size 57 i0 _ 2 32 Try.underlying46 hi hz0 hz1 hz2 rfl (by decide) _ _ _ rfl hrow3 ⟨wr.heap.size, 0, none⟩ 1 1 [.int .i64 (j : Int), .slice pA p.2.length pc] rfl rfl (cell_two_new _ _ _ _) (two_cells j pA p.2.length pc) (by unfold maxLen; omega) (by omega) (by simp; omega) ?_; intro v4 w4 hown4 hg4 _)
        have HP4 : Hid (HRef w4 w.heap.size v4 (ps ++ [((j : Int), .slice pA p.2.length pc, p.2)])) := (HPS.out.below (below_one wr _)).push (p := ((j : Int), .slice pA p.2.length pc, p.2)) (own_of_block HOW.out (fun k hk => (below_one wr _).block k (HOW.out.lt k hk).2)) hown4 hg4
        have HB4 : Hid (Below w.heap.size w w4) := (HBW.out.trans ((below_one wr _).mono hbb)).grown hg4 (by simp; omega) (fun k hk => (hrow3.lt k hk).1)
        clear hown4 hg4 hrow3 HPS HBW HOW k1 c0
        go_wp2_with fail
        go_roundw
        case rel =>
          refine ⟨j + 1, by omega, by go_num, _, HP4.out, ?_, HB4.out⟩
          rw [HST.out, List.map_append, HPQ.out]
          rfl
        case measure => simp [RowKit.intOf]; omega
    · obtain rfl : j = s.size := by omega
      clear hr hps hpq hbw
      go_wp2_with fail
      go_ret
      exact rlist_end ⟨ps, HPS.out, HPQ.out, HBW.out⟩

set_option maxRecDepth 20000 in
set_option maxHeartbeats 1600000 in
theorem refWaits_any (w : World) (h : Rk w G rb s) : Calls Try.prog 35 #[.pointer (some ⟨rb, 0, none⟩)] w (RList w s.waitsOf) := by
  obtain ⟨i0, hi, hz0, hz1, hz2⟩ := info_parts heldInfo
  obtain ⟨lb, wb, ib, left, rL, rW, rI, h⟩ := h
  have hs4 := h.s4
  have HD := Lib.hid h
  clear h
  go_enter Try.func35, Try.ntmps35
  go_wp2_with fail
  go_loopw [3, 4] (fun v i wr => ∃ j : Nat, j ≤ s.size ∧ i = .int .i64 j ∧ RListRel w (waitsTo s j) v wr) (fun _ i _ => s.size - (RowKit.intOf i).toNat)
  case atStart => exact ⟨0, Nat.zero_le _, rfl, [], href_nil _ _, rfl, Below.refl _ _⟩
  case round =>
    obtain ⟨j, hj, rfl, ps, hps, hpq, hbw⟩ := hrel
    have hr := HD.out.same (w' := wr) (fun k hk => hbw.block k (HD.out.lt k hk)) hbw.size
    have c0 := hr.cell 0 (v := .slice (some ⟨lb, 0, none⟩) s.size s.size) rfl
    have c1 := hr.cell 1 (v := .slice (some ⟨wb, 0, none⟩) s.size s.size) rfl
    have c2 := hr.cell 2 (v := .slice (some ⟨ib, 0, none⟩) s.size s.size) rfl
    have hbb := hbw.size
    have HPS := Lib.hid hps
    have HPQ := Lib.hid hpq
    have HBW := Lib.hid hbw
    have hpl : ps.length ≤ j := by
      have := waitsTo_len s j
      rw [← hpq, List.length_map] at this
      exact this
    by_cases hlt : j < s.size
    · obtain ⟨-, p, bb, -, e2, e3, -, k2, k3, -, -, -⟩ := hr.at_ hlt
      obtain ⟨pA, pc, hpv, -, -⟩ := own_slice (hr.oW j p e2).1
      rw [hpv] at k2
      have hsw := hr.sW j p bb e2 e3
      have HOW := Lib.hid (show Own wr 0 (.slice pA p.2.length pc) p.2 from by have := (hr.oW j p e2).1; rw [hpv] at this; exact this)
      cases bb with
      | false =>
        have HST : Hid (waitsTo s (j + 1) = waitsTo s j) := by
          rw [waitsTo_step, hsw]
          exact Lib.hid rfl
        clear hr hps hpq hbw e2 e3 hpv hsw HOW
        go_wp2_with fail
        go_roundw
        case rel => exact ⟨j + 1, by omega, by go_num, ps, HPS.out, by rw [HST.out]; exact HPQ.out, HBW.out⟩
        case measure => simp [RowKit.intOf]; omega
      | true =>
        have HST : Hid (waitsTo s (j + 1) = waitsTo s j ++ [((j : Int), p.2)]) := by
          rw [waitsTo_step, hsw]
          exact Lib.hid rfl
        have hrow3 := (HPS.out.below (below_one wr (.cells #[.int .i64 (j : Int), .slice pA p.2.length pc] 57))).row
        clear hr hps hpq hbw e2 e3 hpv hsw
        go_wp2_with (at_builtin; refine wpList_append_own _ rfl (.tmp 21) (.tmp 31) 46 rfl w.heap.size 57 i0 _ 2 32 Try.underlying46 hi hz0 hz1 hz2 rfl (by decide) _ _ _ rfl hrow3 ⟨wr.heap.size, 0, none⟩ 1 1 [.int .i64 (j : Int), .slice pA p.2.length pc] rfl rfl (cell_two_new _ _ _ _) (two_cells j pA p.2.length pc) (by unfold maxLen; omega) (by omega) (by simp; omega) ?_; intro v4 w4 hown4 hg4 _)
        have HP4 : Hid (HRef w4 w.heap.size v4 (ps ++ [((j : Int), .slice pA p.2.length pc, p.2)])) := (HPS.out.below (below_one wr _)).push (p := ((j : Int), .slice pA p.2.length pc, p.2)) (own_of_block HOW.out (fun k hk => (below_one wr _).block k (HOW.out.lt k hk).2)) hown4 hg4
        have HB4 : Hid (Below w.heap.size w w4) := (HBW.out.trans ((below_one wr _).mono hbb)).grown hg4 (by simp; omega) (fun k hk => (hrow3.lt k hk).1)
        clear hown4 hg4 hrow3 HPS HBW HOW k2 k3 c0 c1 c2
        go_wp2_with fail
        go_roundw
        case rel =>
          refine ⟨j + 1, by omega, by go_num, _, HP4.out, ?_, HB4.out⟩
          rw [HST.out, List.map_append, HPQ.out]
          rfl
        case measure => simp [RowKit.intOf]; omega
    · obtain rfl : j = s.size := by omega
      clear hr hps hpq hbw
      go_wp2_with fail
      go_ret
      exact rlist_end ⟨ps, HPS.out, HPQ.out, HBW.out⟩
end
end Go.Proofs.Ytillllegbgaalaa
