/-
  What the document's own disk's functions come to: is, act, Fuse, Read, settle.
-/
import Derived.Test.YtillllegbgaalaaDRef
import Derived.RegionTactic
import Derived.ChangeAlike
namespace Go.Proofs.Ytillllegbgaalaa
open Go.RowKit Go.Maps

section
variable {G : Nat → Prop} {rb lb wb ib : Nat} {left : Int} {rL rW : Rw} {rI : List Bool} {s : PS}

theorem refIs_any (w : World) (n : Int) (A : Option Addr) (c0 : w.cell? ⟨rb, 0, none⟩ = some (.slice A s.size s.size)) :
    Calls Try.prog 42 #[.pointer (some ⟨rb, 0, none⟩), .int .i64 n] w fun e w' => e = .returned (.bool (s.has n)) ∧ w = w' := by
  by_cases h0 : 0 ≤ n
  · go_enter Try.func42, Try.ntmps42
    go_wp2_with fail
    go_ret
    refine ⟨ret_bool ?_, rfl⟩
    simp [PS.has, h0]
  · go_enter Try.func42, Try.ntmps42
    go_wp2_with fail
    go_ret
    refine ⟨ret_bool ?_, rfl⟩
    unfold PS.has
    rw [eq_comm, decide_eq_false_iff_not]
    omega

theorem refAct_any (w : World) (h : RefAt w G rb lb wb ib left rL rW rI s) :
    Calls Try.prog 43 #[.pointer (some ⟨rb, 0, none⟩)] w fun e w' => e = .returned (.bool s.may) ∧ (∃ left', RefAt w' G rb lb wb ib left' rL rW rI s.acted) ∧ Kept G w w' := by
  have c4 := h.cell 4 (v := .bool s.fused) rfl
  have c5 := h.cell 5 (v := .int .i64 left) rfl
  have c3 := h.cell 3 (v := .bool s.down) rfl
  have f3 := h.free 3
  have f5 := h.free 5
  have HD := Lib.hid h
  have hlf := h.lf
  clear h
  by_cases hf : s.fused = true
  · rw [hf] at c4
    obtain rfl := hlf hf
    clear hlf
    by_cases h0 : s.fuse = 0
    · rw [h0] at c5
      have HF := Lib.hid hf
      have H0 := Lib.hid h0
      clear hf h0
      go_enter Try.func43, Try.ntmps43
      go_wp2_with fail
      go_ret
      have h := HD.out
      refine ⟨ret_bool ?_, ⟨(s.fuse : Int), ?_⟩, Kept.setCell _ h.gr _⟩
      · simp [PS.may, HF.out, H0.out]
      · have := h.field (w' := w.setCell ⟨rb, 3, none⟩ (.bool true)) (d := true) (f := s.fused) (n := s.fuse) (fun _ => rfl) h.l1 h.l2 (by rw [Joins.block_setCell h.str]; rfl) (fun k hk => Below.heap_setCell _ _ _ _ hk) (by simp [World.setCell])
        unfold PS.acted
        rw [if_pos HF.out, if_pos H0.out]
        exact this
    · have hb : ((s.fuse : Int) == 0) = false := by rw [beq_eq_false_iff_ne]; omega
      have HF := Lib.hid hf
      have hl2 := HD.out.l2
      clear hf
      go_enter Try.func43, Try.ntmps43
      go_wp2_with fail
      go_ret
      have h := HD.out
      refine ⟨ret_bool ?_, ⟨((s.fuse - 1 : Nat) : Int), ?_⟩, Kept.setCell _ h.gr _⟩
      · simp [PS.may, h0]
      · have := h.field (w' := w.setCell ⟨rb, 5, none⟩ (.int .i64 ((s.fuse - 1 : Nat) : Int))) (d := s.down) (f := s.fused) (n := s.fuse - 1) (left' := ((s.fuse - 1 : Nat) : Int)) (fun _ => rfl) (by omega) (by omega) (by rw [Joins.block_setCell h.str]; rfl) (fun k hk => Below.heap_setCell _ _ _ _ hk) (by simp [World.setCell])
        unfold PS.acted
        rw [if_pos HF.out, if_neg h0]
        rw [show ((s.fuse : Int) - 1) = ((s.fuse - 1 : Nat) : Int) by omega]
        exact this
  · have hf' : s.fused = false := by simpa using hf
    rw [hf'] at c4
    have HF := Lib.hid hf'
    clear hf hf' hlf
    go_enter Try.func43, Try.ntmps43
    go_wp2_with fail
    go_ret
    refine ⟨ret_bool ?_, ⟨left, ?_⟩, Kept.refl _ _⟩
    · simp [PS.may, HF.out]
    · unfold PS.acted
      rw [if_neg (by rw [HF.out]; decide)]
      exact HD.out

theorem refFuse_any (w : World) (k : Int) (h1 : -9223372036854775808 ≤ k) (h2 : k ≤ 9223372036854775807) (h : Rk w G rb s) :
    Calls Try.prog 30 #[.pointer (some ⟨rb, 0, none⟩), .int .i64 k] w (RGoes w G rb (s.fusing k) (.tuple #[])) := by
  obtain ⟨lb, wb, ib, left, rL, rW, rI, h⟩ := h
  have c4 := h.cell 4 (v := .bool s.fused) rfl
  have c5 := h.cell 5 (v := .int .i64 left) rfl
  have f4 := h.free 4
  have f5 := h.free 5
  have HD := Lib.hid h
  clear h
  go_enter Try.func30, Try.ntmps30
  go_wp2_with fail
  go_end0
  have h := HD.out
  have e1 := Joins.block_setCell (i := 4) h.str (.bool (decide (0 ≤ k)))
  refine ⟨rfl, G, RefAt.rk (h.field (d := s.down) (f := decide (0 ≤ k)) (n := k.toNat) (left' := k) (fun e => by have := of_decide_eq_true e; omega) h1 h2 (by rw [Joins.block_setCell e1]; rfl) (fun j hj => (Below.heap_setCell _ _ _ _ hj).trans (Below.heap_setCell _ _ _ _ hj)) (by simp [World.setCell])), fun k hk => Or.inl hk, (Kept.setCell w h.gr _).next (Kept.setCell _ h.gr _)⟩

/-- What it holds. -/
theorem RefAt.held_at {w : World} (h : RefAt w G rb lb wb ib left rL rW rI s) {i : Nat} {p q : Value × List UInt8} {b : Bool} (e1 : rL[i]? = some p) (e2 : rW[i]? = some q) (e3 : rI[i]? = some b) : s.held i = if b then q.2 else p.2 := by
  unfold PS.held
  rw [h.sW i q b e2 e3, h.sL i p e1]
  cases b <;> rfl

/-- What its Read answers. -/
def RReadEnd (w : World) (l : List UInt8) (err : Int) (e : Ending) (w' : World) : Prop :=
  ∃ A c, e = .returned (.tuple #[.slice A l.length c, .int .i64 err]) ∧ Bys w w.heap.size A l ∧ w = w'

theorem refRead_any (w : World) (n : Int) (h : Rk w G rb s) :
    Calls Try.prog 28 #[.pointer (some ⟨rb, 0, none⟩), .int .i64 n] w (RReadEnd w (s.readB n) (s.readE n)) := by
  obtain ⟨lb, wb, ib, left, rL, rW, rI, h⟩ := h
  have c0 := h.cell 0 (v := .slice (some ⟨lb, 0, none⟩) s.size s.size) rfl
  have c1 := h.cell 1 (v := .slice (some ⟨wb, 0, none⟩) s.size s.size) rfl
  have c2 := h.cell 2 (v := .slice (some ⟨ib, 0, none⟩) s.size s.size) rfl
  have c3 := h.cell 3 (v := .bool s.down) rfl
  have HD := Lib.hid h
  by_cases hd : s.down = true
  · rw [hd] at c3
    have eB : s.readB n = [] := by unfold PS.readB; rw [if_pos hd]
    have eE : s.readE n = 40 := by unfold PS.readE; rw [if_pos hd]
    rw [eB, eE]
    clear h eB eE hd c0
    go_enter Try.func28, Try.ntmps28
    go_wp2_with fail
    go_ret2
    exact ⟨none, 0, rfl, Or.inl rfl, rfl⟩
  · have hd' : s.down = false := by simpa using hd
    rw [hd'] at c3
    by_cases hh : s.has n = true
    · have eB : s.readB n = s.held n := by unfold PS.readB; rw [if_neg hd, if_pos hh]
      have eE : s.readE n = 0 := by unfold PS.readE; rw [if_neg hd, if_pos hh]
      rw [eB, eE]
      obtain ⟨hn0, hn1⟩ := PS.has_iff.1 hh
      obtain ⟨i, rfl⟩ : ∃ i : Nat, n = (i : Int) := ⟨n.toNat, by omega⟩
      have his : i < s.size := by omega
      have HC : Hid (Calls Try.prog 42 #[.pointer (some ⟨rb, 0, none⟩), .int .i64 (i : Int)] w fun e w' => e = .returned (.bool true) ∧ w = w') := hh ▸ refIs_any w i _ c0
      obtain ⟨p, q, b, e1, e2, e3, k1, k2, k3, -, -, -⟩ := h.at_ his
      have hs4 := h.s4
      rw [h.held_at e1 e2 e3]
      cases b with
      | true =>
        obtain ⟨A, c, hv, _, _⟩ := own_slice (h.oW i q e2).1
        have HB := Lib.hid (show Bys w w.heap.size A q.2 from by have := (h.oW i q e2).1; rw [hv] at this; exact own_bys this)
        rw [hv] at k2
        clear h eB eE hd hd' hh e1 e2 e3 hv
        go_enter Try.func28, Try.ntmps28
        go_wp2_with fail
        refine HC.out.mono ?_
        rintro e w' ⟨rfl, rfl⟩
        go_wp2_with fail
        go_ret2
        exact ⟨A, c, rfl, HB.out, rfl⟩
      | false =>
        obtain ⟨A, c, hv, _, _⟩ := own_slice (h.oL i p e1).1
        have HB := Lib.hid (show Bys w w.heap.size A p.2 from by have := (h.oL i p e1).1; rw [hv] at this; exact own_bys this)
        rw [hv] at k1
        clear h eB eE hd hd' hh e1 e2 e3 hv
        go_enter Try.func28, Try.ntmps28
        go_wp2_with fail
        refine HC.out.mono ?_
        rintro e w' ⟨rfl, rfl⟩
        go_wp2_with fail
        go_ret2
        exact ⟨A, c, rfl, HB.out, rfl⟩
    · have hh' : s.has n = false := by simpa using hh
      have eB : s.readB n = [] := by unfold PS.readB; rw [if_neg hd, if_neg hh]
      have eE : s.readE n = 41 := by unfold PS.readE; rw [if_neg hd, if_neg hh]
      rw [eB, eE]
      have HC : Hid (Calls Try.prog 42 #[.pointer (some ⟨rb, 0, none⟩), .int .i64 n] w fun e w' => e = .returned (.bool false) ∧ w = w') := hh' ▸ refIs_any w n _ c0
      clear h eB eE hd hd' hh hh'
      go_enter Try.func28, Try.ntmps28
      go_wp2_with fail
      refine HC.out.mono ?_
      rintro e w' ⟨rfl, rfl⟩
      go_wp2_with fail
      go_ret2
      exact ⟨none, 0, rfl, Or.inl rfl, rfl⟩

theorem keptDrew {w w' : World} (h : Kept G w w') : Kept G w w'.drew := ⟨h.os, h.tape, h.output, h.size, h.block⟩

/-- Of some sectors what they hold lasts; of some nothing waits any more. -/
def PS.sub (s : PS) (D E : Int → Bool) : PS := { s with L := fun j => if D j then s.held j else s.L j, W := fun j => if E j then none else s.W j }

theorem RefAt.cong {w : World} {L' : Int → List UInt8} {W' : Int → Option (List UInt8)} (h : RefAt w G rb lb wb ib left rL rW rI s) (hL : ∀ j : Nat, j < s.size → L' j = s.L j) (hW : ∀ j : Nat, j < s.size → W' j = s.W j) : RefAt w G rb lb wb ib left rL rW rI { s with L := L', W := W' } :=
  { h with
    sL := fun i p hi => by
      have : i < s.size := by have := (List.getElem?_eq_some_iff.1 hi).1; rw [h.nL] at this; exact this
      show L' i = p.2
      rw [hL i this]
      exact h.sL i p hi
    sW := fun i p b hi hb => by
      have : i < s.size := by have := (List.getElem?_eq_some_iff.1 hi).1; rw [h.nW] at this; exact this
      show W' i = _
      rw [hW i this]
      exact h.sW i p b hi hb }

def RSettles (w : World) (G : Nat → Prop) (rb lb wb ib : Nat) (left : Int) (s : PS) (D E : Int → Bool) (n : Nat) (b : Bool) (e : Ending) (w' : World) : Prop :=
  e = .returned (.tuple #[]) ∧ (∃ rL' rW' rI', RefAt w' G rb lb wb ib left rL' rW' rI' (s.sub (fun j => D j || (b && decide (j = (n : Int)))) (fun j => E j || decide (j = (n : Int))))) ∧ Kept G w w'

/-- The last two stores. -/
theorem RefAt.unwait {w : World} {D E : Int → Bool} {n : Nat} {b : Bool} {L' : Int → List UInt8} (h : RefAt w G rb lb wb ib left rL rW rI { s.sub D E with L := L' }) (hL : ∀ j : Nat, j < s.size → L' j = (s.sub (fun j => D j || (b && decide (j = (n : Int)))) (fun j => E j || decide (j = (n : Int)))).L j) :
    ∃ rW' rI', RefAt ((w.setCell ⟨ib, n, none⟩ (.bool false)).setCell ⟨wb, n, none⟩ (.slice none 0 0)) G rb lb wb ib left rL rW' rI' (s.sub (fun j => D j || (b && decide (j = (n : Int)))) (fun j => E j || decide (j = (n : Int)))) := by
  have h1 := h.putI (i := n) (b := false) (W' := fun j => if E j || decide (j = (n : Int)) then none else s.W j) (by
    intro j q c hq hc
    have hjs : j < s.size := by have := (List.getElem?_eq_some_iff.1 hq).1; rw [h.nW] at this; exact this
    rw [List.getElem?_set] at hc
    by_cases e : n = j
    · rw [if_pos e, if_pos (by rw [h.nI, e]; exact hjs)] at hc
      obtain rfl : false = c := by simpa using hc
      subst e
      simp
    · rw [if_neg e] at hc
      have := h.sW j q c hq hc
      have this : (if E j then none else s.W j) = if c then some q.2 else none := this
      have e' : ¬ ((j : Int) = (n : Int)) := by omega
      simp only [e', decide_false, Bool.or_false]
      exact this)
  have h2 := h1.putW (i := n) (p := (.slice none 0 0, [])) (W' := fun j => if E j || decide (j = (n : Int)) then none else s.W j) ⟨own_nil _ _, by simp, fun k hk => by cases hk⟩ (by
    intro j c hc
    have hjs : j < s.size := by
      have := (List.getElem?_eq_some_iff.1 hc).1
      rw [List.length_set, h.nI] at this
      exact this
    by_cases e : n = j
    · subst e
      rw [List.getElem?_set, if_pos rfl, if_pos (by rw [h.nI]; exact hjs)] at hc
      obtain rfl : false = c := by simpa using hc
      simp
    · have e' : ¬ ((j : Int) = (n : Int)) := by omega
      have e'' : ¬ (j = n) := fun e2 => e e2.symm
      rw [if_neg e'']
      have hq := List.getElem?_eq_getElem (l := rW) (i := j) (by rw [h.nW]; exact hjs)
      have := h1.sW j _ c hq hc
      have this : (if E j || decide ((j : Int) = (n : Int)) then none else s.W j) = if c then some (rW[j]'(by rw [h.nW]; exact hjs)).2 else none := this
      cases c with
      | false => rw [this]; rfl
      | true => simp)
  exact ⟨_, _, h2.cong (W' := fun j => if E j || decide (j = (n : Int)) then none else s.W j) (fun j hj => (hL j hj).symm) (fun j hj => rfl)⟩

set_option maxHeartbeats 1600000 in
theorem refSettle_any (w : World) (n : Nat) (hn : n < s.size) (b : Bool) (D E : Int → Bool) (hDE : b = true → E n = true → D n = true) (h : RefAt w G rb lb wb ib left rL rW rI (s.sub D E)) :
    Calls Try.prog 44 #[.pointer (some ⟨rb, 0, none⟩), .int .i64 (n : Int), .bool b] w (RSettles w G rb lb wb ib left s D E n b) := by
  have c0 := h.cell 0 (v := .slice (some ⟨lb, 0, none⟩) s.size s.size) rfl
  have c1 := h.cell 1 (v := .slice (some ⟨wb, 0, none⟩) s.size s.size) rfl
  have c2 := h.cell 2 (v := .slice (some ⟨ib, 0, none⟩) s.size s.size) rfl
  obtain ⟨p, q, bb, e1, e2, e3, k1, k2, k3, f1, f2, f3⟩ := h.at_ hn
  obtain ⟨qv, ql⟩ := q
  have HOQ := Lib.hid (h.oW n _ e2)
  obtain ⟨qA, qc, hqv, -, -⟩ := own_slice (h.oW n _ e2).1
  have hqv : qv = .slice qA ql.length qc := hqv
  subst hqv
  have hs4 : s.size ≤ 4096 := h.s4
  obtain ⟨n1, n2, n3, n4, n5⟩ := h.nes
  have n6 := h.ne
  have HD := Lib.hid h
  have HDE := Lib.hid hDE
  have E1 := Lib.hid e1
  have E2 := Lib.hid e2
  have E3 := Lib.hid e3
  have m1 := n1.symm
  have m2 := n2.symm
  have m3 := n3.symm
  have m4 := n4.symm
  have m5 := n5.symm
  have m6 := n6.symm
  by_cases hb : (bb && b) = true
  · obtain ⟨rfl, rfl⟩ : bb = true ∧ b = true := by simpa using hb
    clear h hb hDE e1 e2 e3
    go_enter Try.func44, Try.ntmps44
    go_wp2_with fail
    go_region
    go_wp2_with fail
    go_end0
    have h := HD.out
    have hw := h.sW n _ _ E2.out E3.out
    have hw : (if E n then none else s.W n) = some ql := hw
    have hE : E n = false := by
      cases e : E n with
      | false => rfl
      | true => rw [e] at hw; cases hw
    have hW : s.W n = some ql := by rw [hE] at hw; exact hw
    obtain ⟨rW', rI', h2⟩ := (h.putL (i := n) (p := (.slice qA ql.length qc, ql)) (L' := fun j => if j = (n : Int) then ql else (s.sub D E).L j) HOQ.out (fun j hj => by
      by_cases e : j = n
      · subst e
        rw [if_pos rfl, if_pos rfl]
      · rw [if_neg e, if_neg (by omega)])).unwait (n := n) (b := true) (fun j hj => by
        show (if (j : Int) = (n : Int) then ql else if D j then s.held j else s.L j) = if D j || (true && decide ((j : Int) = (n : Int))) then s.held j else s.L j
        by_cases e : (j : Int) = (n : Int)
        · rw [if_pos e]
          simp only [e, decide_true, Bool.and_self, Bool.or_true, if_true]
          unfold PS.held
          rw [hW]
          rfl
        · rw [if_neg e]
          simp [e])
    exact ⟨rfl, ⟨_, rW', rI', h2.drew⟩, (Kept.setCell w h.gl _).next ((Kept.setCell _ h.gi _).next (keptDrew (Kept.setCell _ h.gw _)))⟩
  · cases bb with
    | false =>
      clear h hb hDE e1 e2 e3
      go_enter Try.func44, Try.ntmps44
      go_wp2_with fail
      go_end0
      have h := HD.out
      have hw := h.sW n _ _ E2.out E3.out
      have hw : (if E n then none else s.W n) = none := hw
      obtain ⟨rW', rI', h2⟩ := h.unwait (n := n) (b := b) (L' := (s.sub D E).L) (fun j hj => by
        show (if D j then s.held j else s.L j) = if D j || (b && decide ((j : Int) = (n : Int))) then s.held j else s.L j
        by_cases e : (j : Int) = (n : Int)
        · cases hD : D j with
          | true => rfl
          | false =>
            cases b with
            | false => simp
            | true =>
              simp only [e, decide_true, Bool.and_self, Bool.or_true, if_true, Bool.false_eq_true, if_false]
              have hD' : D n = false := by rw [← e]; exact hD
              have hE : E n = false := by
                cases e' : E n with
                | false => rfl
                | true => rw [HDE.out rfl e'] at hD'; cases hD'
              rw [hE] at hw
              unfold PS.held
              rw [show s.W n = none from hw]
              rfl
        · simp [e])
      exact ⟨rfl, ⟨_, rW', rI', h2⟩, (Kept.setCell w h.gi _).next (Kept.setCell _ h.gw _)⟩
    | true =>
      obtain rfl : b = false := by simpa using hb
      clear h hb hDE e1 e2 e3
      go_enter Try.func44, Try.ntmps44
      go_wp2_with fail
      go_end0
      have h := HD.out
      obtain ⟨rW', rI', h2⟩ := h.unwait (n := n) (b := false) (L' := (s.sub D E).L) (fun j hj => by
        show (if D j then s.held j else s.L j) = if D j || (false && decide ((j : Int) = (n : Int))) then s.held j else s.L j
        simp)
      exact ⟨rfl, ⟨_, rW', rI', h2⟩, (Kept.setCell w h.gi _).next (Kept.setCell _ h.gw _)⟩
end
end Go.Proofs.Ytillllegbgaalaa
