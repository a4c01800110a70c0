/-
  A part of the proof: what its texts say stands at the head of each. Conditions: none.
-/
import Derived.RegionTactic
import Derived.ChangeAlike
import Derived.Deep.QuietTactic
import Derived.BigQuiet
import Derived.Laws.BitsAll
import Derived.Deep.RegionHeld3
import Derived.Deep.AppendLies
import Derived.Test.YtnmiccagkfpkiaaGreatZD3
import Derived.Test.YtnmiccagkfpkiaaGreatZD4
import Derived.Test.YtnmiccagkfpkiaaGreatZD5
import Derived.Test.YtnmiccagkfpkiaaGreatZD6

/-
  What the document's own disk's functions come to: is, act, Fuse, Read, settle.
-/
namespace Go.Proofs.YtnmiccagkfpkiaaGreat
open Go.RowKit Go.Maps

section
variable {G : Nat → Prop} {rb lb wb ib : Nat} {left : Int} {rL rW : Rw} {rI : List Bool} {s : PS}

set_option maxRecDepth 20000 in
theorem refIs_any (w : World) (n : Int) (A : Option Addr) (c0 : w.cell? ⟨rb, 0, none⟩ = some (.slice A s.size s.size)) :
    Calls Tryz.prog 57 #[.pointer (some ⟨rb, 0, none⟩), .int .i64 n] w fun e w' => e = .returned (.bool (s.has n)) ∧ w = w' := by
  by_cases h0 : 0 ≤ n
  · go_enter Tryz.func57, Tryz.ntmps57
    go_wp2_with fail
    go_ret
    refine ⟨ret_bool ?_, rfl⟩
    simp [PS.has, h0]
  · go_enter Tryz.func57, Tryz.ntmps57
    go_wp2_with fail
    go_ret
    refine ⟨ret_bool ?_, rfl⟩
    unfold PS.has
    rw [eq_comm, decide_eq_false_iff_not]
    omega

set_option maxRecDepth 20000 in
theorem refAct_any (w : World) (h : RefAt w G rb lb wb ib left rL rW rI s) :
    Calls Tryz.prog 58 #[.pointer (some ⟨rb, 0, none⟩)] w fun e w' => e = .returned (.bool s.may) ∧ (∃ left', RefAt w' G rb lb wb ib left' rL rW rI s.acted) ∧ Kept G w w' := by
  have c4 := h.cell 4 (v := .bool s.fused) rfl
  have c5 := h.cell 5 (v := .int .i64 left) rfl
  have c3 := h.cell 3 (v := .bool s.down) rfl
  have f3 := h.free 3
  have f5 := h.free 5
  have HD := Lib.hid h
  have hlf := h.lf
  clear h
  by_cases hf : s.fused = true
  · rw [hf] at c4
    obtain rfl := hlf hf
    clear hlf
    by_cases h0 : s.fuse = 0
    · rw [h0] at c5
      have HF := Lib.hid hf
      have H0 := Lib.hid h0
      clear hf h0
      go_enter Tryz.func58, Tryz.ntmps58
      go_wp2_with fail
      go_ret
      have h := HD.out
      refine ⟨ret_bool ?_, ⟨(s.fuse : Int), ?_⟩, Kept.setCell _ h.gr _⟩
      · simp [PS.may, HF.out, H0.out]
      · have := h.field (w' := w.setCell ⟨rb, 3, none⟩ (.bool true)) (d := true) (f := s.fused) (n := s.fuse) (fun _ => rfl) h.l1 h.l2 (by rw [Joins.block_setCell h.str]; rfl) (fun k hk => Below.heap_setCell _ _ _ _ hk) (by simp [World.setCell])
        unfold PS.acted
        rw [if_pos HF.out, if_pos H0.out]
        exact this
    · have hb : ((s.fuse : Int) == 0) = false := by rw [beq_eq_false_iff_ne]; omega
      have HF := Lib.hid hf
      have hl2 := HD.out.l2
      clear hf
      go_enter Tryz.func58, Tryz.ntmps58
      go_wp2_with fail
      go_ret
      have h := HD.out
      refine ⟨ret_bool ?_, ⟨((s.fuse - 1 : Nat) : Int), ?_⟩, Kept.setCell _ h.gr _⟩
      · simp [PS.may, h0]
      · have := h.field (w' := w.setCell ⟨rb, 5, none⟩ (.int .i64 ((s.fuse - 1 : Nat) : Int))) (d := s.down) (f := s.fused) (n := s.fuse - 1) (left' := ((s.fuse - 1 : Nat) : Int)) (fun _ => rfl) (by omega) (by omega) (by rw [Joins.block_setCell h.str]; rfl) (fun k hk => Below.heap_setCell _ _ _ _ hk) (by simp [World.setCell])
        unfold PS.acted
        rw [if_pos HF.out, if_neg h0]
        rw [show ((s.fuse : Int) - 1) = ((s.fuse - 1 : Nat) : Int) by omega]
        exact this
  · have hf' : s.fused = false := by simpa using hf
    rw [hf'] at c4
    have HF := Lib.hid hf'
    clear hf hf' hlf
    go_enter Tryz.func58, Tryz.ntmps58
    go_wp2_with fail
    go_ret
    refine ⟨ret_bool ?_, ⟨left, ?_⟩, Kept.refl _ _⟩
    · simp [PS.may, HF.out]
    · unfold PS.acted
      rw [if_neg (by rw [HF.out]; decide)]
      exact HD.out

set_option maxRecDepth 20000 in
theorem refFuse_any (w : World) (k : Int) (h1 : -9223372036854775808 ≤ k) (h2 : k ≤ 9223372036854775807) (h : Rk w G rb s) :
    Calls Tryz.prog 32 #[.pointer (some ⟨rb, 0, none⟩), .int .i64 k] w (RGoes w G rb (s.fusing k) (.tuple #[])) := by
  obtain ⟨lb, wb, ib, left, rL, rW, rI, h⟩ := h
  have c4 := h.cell 4 (v := .bool s.fused) rfl
  have c5 := h.cell 5 (v := .int .i64 left) rfl
  have f4 := h.free 4
  have f5 := h.free 5
  have HD := Lib.hid h
  clear h
  go_enter Tryz.func32, Tryz.ntmps32
  go_wp2_with fail
  go_end0
  have h := HD.out
  have e1 := Joins.block_setCell (i := 4) h.str (.bool (decide (0 ≤ k)))
  refine ⟨rfl, G, RefAt.rk (h.field (d := s.down) (f := decide (0 ≤ k)) (n := k.toNat) (left' := k) (fun e => by have := of_decide_eq_true e; omega) h1 h2 (by rw [Joins.block_setCell e1]; rfl) (fun j hj => (Below.heap_setCell _ _ _ _ hj).trans (Below.heap_setCell _ _ _ _ hj)) (by simp [World.setCell])), fun k hk => Or.inl hk, (Kept.setCell w h.gr _).next (Kept.setCell _ h.gr _)⟩

/-- What it holds. -/
theorem RefAt.held_at {w : World} (h : RefAt w G rb lb wb ib left rL rW rI s) {i : Nat} {p q : Value × List UInt8} {b : Bool} (e1 : rL[i]? = some p) (e2 : rW[i]? = some q) (e3 : rI[i]? = some b) : s.held i = if b then q.2 else p.2 := by
  unfold PS.held
  rw [h.sW i q b e2 e3, h.sL i p e1]
  cases b <;> rfl

/-- What its Read answers. -/
def RReadEnd (w : World) (l : List UInt8) (err : Int) (e : Ending) (w' : World) : Prop :=
  ∃ A c, e = .returned (.tuple #[.slice A l.length c, .int .i64 err]) ∧ Bys w w.heap.size A l ∧ w = w'

set_option maxRecDepth 20000 in
theorem refRead_any (w : World) (n : Int) (h : Rk w G rb s) :
    Calls Tryz.prog 28 #[.pointer (some ⟨rb, 0, none⟩), .int .i64 n] w (RReadEnd w (s.readB n) (s.readE n)) := by
  obtain ⟨lb, wb, ib, left, rL, rW, rI, h⟩ := h
  have c0 := h.cell 0 (v := .slice (some ⟨lb, 0, none⟩) s.size s.size) rfl
  have c1 := h.cell 1 (v := .slice (some ⟨wb, 0, none⟩) s.size s.size) rfl
  have c2 := h.cell 2 (v := .slice (some ⟨ib, 0, none⟩) s.size s.size) rfl
  have c3 := h.cell 3 (v := .bool s.down) rfl
  have HD := Lib.hid h
  by_cases hd : s.down = true
  · rw [hd] at c3
    have eB : s.readB n = [] := by unfold PS.readB; rw [if_pos hd]
    have eE : s.readE n = 40 := by unfold PS.readE; rw [if_pos hd]
    rw [eB, eE]
    clear h eB eE hd c0
    go_enter Tryz.func28, Tryz.ntmps28
    go_wp2_with fail
    go_ret2
    exact ⟨none, 0, rfl, Or.inl rfl, rfl⟩
  · have hd' : s.down = false := by simpa using hd
    rw [hd'] at c3
    by_cases hh : s.has n = true
    · have eB : s.readB n = s.held n := by unfold PS.readB; rw [if_neg hd, if_pos hh]
      have eE : s.readE n = 0 := by unfold PS.readE; rw [if_neg hd, if_pos hh]
      rw [eB, eE]
      obtain ⟨hn0, hn1⟩ := PS.has_iff.1 hh
      obtain ⟨i, rfl⟩ : ∃ i : Nat, n = (i : Int) := ⟨n.toNat, by omega⟩
      have his : i < s.size := by omega
      have HC : Hid (Calls Tryz.prog 57 #[.pointer (some ⟨rb, 0, none⟩), .int .i64 (i : Int)] w fun e w' => e = .returned (.bool true) ∧ w = w') := hh ▸ refIs_any w i _ c0
      obtain ⟨p, q, b, e1, e2, e3, k1, k2, k3, -, -, -⟩ := h.at_ his
      have hs4 := h.s4
      rw [h.held_at e1 e2 e3]
      cases b with
      | true =>
        obtain ⟨A, c, hv, _, _⟩ := own_slice (h.oW i q e2).1
        have HB := Lib.hid (show Bys w w.heap.size A q.2 from by have := (h.oW i q e2).1; rw [hv] at this; exact own_bys this)
        rw [hv] at k2
        clear h eB eE hd hd' hh e1 e2 e3 hv
        go_enter Tryz.func28, Tryz.ntmps28
        go_wp2_with fail
        refine HC.out.mono ?_
        rintro e w' ⟨rfl, rfl⟩
        go_wp2_with fail
        go_ret2
        exact ⟨A, c, rfl, HB.out, rfl⟩
      | false =>
        obtain ⟨A, c, hv, _, _⟩ := own_slice (h.oL i p e1).1
        have HB := Lib.hid (show Bys w w.heap.size A p.2 from by have := (h.oL i p e1).1; rw [hv] at this; exact own_bys this)
        rw [hv] at k1
        clear h eB eE hd hd' hh e1 e2 e3 hv
        go_enter Tryz.func28, Tryz.ntmps28
        go_wp2_with fail
        refine HC.out.mono ?_
        rintro e w' ⟨rfl, rfl⟩
        go_wp2_with fail
        go_ret2
        exact ⟨A, c, rfl, HB.out, rfl⟩
    · have hh' : s.has n = false := by simpa using hh
      have eB : s.readB n = [] := by unfold PS.readB; rw [if_neg hd, if_neg hh]
      have eE : s.readE n = 41 := by unfold PS.readE; rw [if_neg hd, if_neg hh]
      rw [eB, eE]
      have HC : Hid (Calls Tryz.prog 57 #[.pointer (some ⟨rb, 0, none⟩), .int .i64 n] w fun e w' => e = .returned (.bool false) ∧ w = w') := hh' ▸ refIs_any w n _ c0
      clear h eB eE hd hd' hh hh'
      go_enter Tryz.func28, Tryz.ntmps28
      go_wp2_with fail
      refine HC.out.mono ?_
      rintro e w' ⟨rfl, rfl⟩
      go_wp2_with fail
      go_ret2
      exact ⟨none, 0, rfl, Or.inl rfl, rfl⟩

theorem keptDrew {w w' : World} (h : Kept G w w') : Kept G w w'.drew := ⟨h.os, h.tape, h.output, h.size, h.block⟩

/-- Of some sectors what they hold lasts; of some nothing waits any more. -/
def PS.sub (s : PS) (D E : Int → Bool) : PS := { s with L := fun j => if D j then s.held j else s.L j, W := fun j => if E j then none else s.W j }

theorem RefAt.cong {w : World} {L' : Int → List UInt8} {W' : Int → Option (List UInt8)} (h : RefAt w G rb lb wb ib left rL rW rI s) (hL : ∀ j : Nat, j < s.size → L' j = s.L j) (hW : ∀ j : Nat, j < s.size → W' j = s.W j) : RefAt w G rb lb wb ib left rL rW rI { s with L := L', W := W' } :=
  { h with
    sL := fun i p hi => by
      have : i < s.size := by have := (List.getElem?_eq_some_iff.1 hi).1; rw [h.nL] at this; exact this
      show L' i = p.2
      rw [hL i this]
      exact h.sL i p hi
    sW := fun i p b hi hb => by
      have : i < s.size := by have := (List.getElem?_eq_some_iff.1 hi).1; rw [h.nW] at this; exact this
      show W' i = _
      rw [hW i this]
      exact h.sW i p b hi hb }

def RSettles (w : World) (G : Nat → Prop) (rb lb wb ib : Nat) (left : Int) (s : PS) (D E : Int → Bool) (n : Nat) (b : Bool) (e : Ending) (w' : World) : Prop :=
  e = .returned (.tuple #[]) ∧ (∃ rL' rW' rI', RefAt w' G rb lb wb ib left rL' rW' rI' (s.sub (fun j => D j || (b && decide (j = (n : Int)))) (fun j => E j || decide (j = (n : Int))))) ∧ Kept G w w'

/-- The last two stores. -/
theorem RefAt.unwait {w : World} {D E : Int → Bool} {n : Nat} {b : Bool} {L' : Int → List UInt8} (h : RefAt w G rb lb wb ib left rL rW rI { s.sub D E with L := L' }) (hL : ∀ j : Nat, j < s.size → L' j = (s.sub (fun j => D j || (b && decide (j = (n : Int)))) (fun j => E j || decide (j = (n : Int)))).L j) :
    ∃ rW' rI', RefAt ((w.setCell ⟨ib, n, none⟩ (.bool false)).setCell ⟨wb, n, none⟩ (.slice none 0 0)) G rb lb wb ib left rL rW' rI' (s.sub (fun j => D j || (b && decide (j = (n : Int)))) (fun j => E j || decide (j = (n : Int)))) := by
  have h1 := h.putI (i := n) (b := false) (W' := fun j => if E j || decide (j = (n : Int)) then none else s.W j) (by
    intro j q c hq hc
    have hjs : j < s.size := by have := (List.getElem?_eq_some_iff.1 hq).1; rw [h.nW] at this; exact this
    rw [List.getElem?_set] at hc
    by_cases e : n = j
    · rw [if_pos e, if_pos (by rw [h.nI, e]; exact hjs)] at hc
      obtain rfl : false = c := by simpa using hc
      subst e
      simp
    · rw [if_neg e] at hc
      have := h.sW j q c hq hc
      have this : (if E j then none else s.W j) = if c then some q.2 else none := this
      have e' : ¬ ((j : Int) = (n : Int)) := by omega
      simp only [e', decide_false, Bool.or_false]
      exact this)
  have h2 := h1.putW (i := n) (p := (.slice none 0 0, [])) (W' := fun j => if E j || decide (j = (n : Int)) then none else s.W j) ⟨own_nil _ _, by simp, fun k hk => by cases hk⟩ (by
    intro j c hc
    have hjs : j < s.size := by
      have := (List.getElem?_eq_some_iff.1 hc).1
      rw [List.length_set, h.nI] at this
      exact this
    by_cases e : n = j
    · subst e
      rw [List.getElem?_set, if_pos rfl, if_pos (by rw [h.nI]; exact hjs)] at hc
      obtain rfl : false = c := by simpa using hc
      simp
    · have e' : ¬ ((j : Int) = (n : Int)) := by omega
      have e'' : ¬ (j = n) := fun e2 => e e2.symm
      rw [if_neg e'']
      have hq := List.getElem?_eq_getElem (l := rW) (i := j) (by rw [h.nW]; exact hjs)
      have := h1.sW j _ c hq hc
      have this : (if E j || decide ((j : Int) = (n : Int)) then none else s.W j) = if c then some (rW[j]'(by rw [h.nW]; exact hjs)).2 else none := this
      cases c with
      | false => rw [this]; rfl
      | true => simp)
  exact ⟨_, _, h2.cong (W' := fun j => if E j || decide (j = (n : Int)) then none else s.W j) (fun j hj => (hL j hj).symm) (fun j hj => rfl)⟩

set_option maxRecDepth 20000 in
set_option maxHeartbeats 1600000 in
theorem refSettle_any (w : World) (n : Nat) (hn : n < s.size) (b : Bool) (D E : Int → Bool) (hDE : b = true → E n = true → D n = true) (h : RefAt w G rb lb wb ib left rL rW rI (s.sub D E)) :
    Calls Tryz.prog 59 #[.pointer (some ⟨rb, 0, none⟩), .int .i64 (n : Int), .bool b] w (RSettles w G rb lb wb ib left s D E n b) := by
  have c0 := h.cell 0 (v := .slice (some ⟨lb, 0, none⟩) s.size s.size) rfl
  have c1 := h.cell 1 (v := .slice (some ⟨wb, 0, none⟩) s.size s.size) rfl
  have c2 := h.cell 2 (v := .slice (some ⟨ib, 0, none⟩) s.size s.size) rfl
  obtain ⟨p, q, bb, e1, e2, e3, k1, k2, k3, f1, f2, f3⟩ := h.at_ hn
  obtain ⟨qv, ql⟩ := q
  have HOQ := Lib.hid (h.oW n _ e2)
  obtain ⟨qA, qc, hqv, -, -⟩ := own_slice (h.oW n _ e2).1
  have hqv : qv = .slice qA ql.length qc := hqv
  subst hqv
  have hs4 : s.size ≤ 4096 := h.s4
  obtain ⟨n1, n2, n3, n4, n5⟩ := h.nes
  have n6 := h.ne
  have HD := Lib.hid h
  have HDE := Lib.hid hDE
  have E1 := Lib.hid e1
  have E2 := Lib.hid e2
  have E3 := Lib.hid e3
  have m1 := n1.symm
  have m2 := n2.symm
  have m3 := n3.symm
  have m4 := n4.symm
  have m5 := n5.symm
  have m6 := n6.symm
  by_cases hb : (bb && b) = true
  · obtain ⟨rfl, rfl⟩ : bb = true ∧ b = true := by simpa using hb
    clear h hb hDE e1 e2 e3
    go_enter Tryz.func59, Tryz.ntmps59
    go_wp2_with fail
    go_region
    go_wp2_with fail
    go_end0
    have h := HD.out
    have hw := h.sW n _ _ E2.out E3.out
    have hw : (if E n then none else s.W n) = some ql := hw
    have hE : E n = false := by
      cases e : E n with
      | false => rfl
      | true => rw [e] at hw; cases hw
    have hW : s.W n = some ql := by rw [hE] at hw; exact hw
    obtain ⟨rW', rI', h2⟩ := (h.putL (i := n) (p := (.slice qA ql.length qc, ql)) (L' := fun j => if j = (n : Int) then ql else (s.sub D E).L j) HOQ.out (fun j hj => by
      by_cases e : j = n
      · subst e
        rw [if_pos rfl, if_pos rfl]
      · rw [if_neg e, if_neg (by omega)])).unwait (n := n) (b := true) (fun j hj => by
        show (if (j : Int) = (n : Int) then ql else if D j then s.held j else s.L j) = if D j || (true && decide ((j : Int) = (n : Int))) then s.held j else s.L j
        by_cases e : (j : Int) = (n : Int)
        · rw [if_pos e]
          simp only [e, decide_true, Bool.and_self, Bool.or_true, if_true]
          unfold PS.held
          rw [hW]
          rfl
        · rw [if_neg e]
          simp [e])
    exact ⟨rfl, ⟨_, rW', rI', h2.drew⟩, (Kept.setCell w h.gl _).next ((Kept.setCell _ h.gi _).next (keptDrew (Kept.setCell _ h.gw _)))⟩
  · cases bb with
    | false =>
      clear h hb hDE e1 e2 e3
      go_enter Tryz.func59, Tryz.ntmps59
      go_wp2_with fail
      go_end0
      have h := HD.out
      have hw := h.sW n _ _ E2.out E3.out
      have hw : (if E n then none else s.W n) = none := hw
      obtain ⟨rW', rI', h2⟩ := h.unwait (n := n) (b := b) (L' := (s.sub D E).L) (fun j hj => by
        show (if D j then s.held j else s.L j) = if D j || (b && decide ((j : Int) = (n : Int))) then s.held j else s.L j
        by_cases e : (j : Int) = (n : Int)
        · cases hD : D j with
          | true => rfl
          | false =>
            cases b with
            | false => simp
            | true =>
              simp only [e, decide_true, Bool.and_self, Bool.or_true, if_true, Bool.false_eq_true, if_false]
              have hD' : D n = false := by rw [← e]; exact hD
              have hE : E n = false := by
                cases e' : E n with
                | false => rfl
                | true => rw [HDE.out rfl e'] at hD'; cases hD'
              rw [hE] at hw
              unfold PS.held
              rw [show s.W n = none from hw]
              rfl
        · simp [e])
      exact ⟨rfl, ⟨_, rW', rI', h2⟩, (Kept.setCell w h.gi _).next (Kept.setCell _ h.gw _)⟩
    | true =>
      obtain rfl : b = false := by simpa using hb
      clear h hb hDE e1 e2 e3
      go_enter Tryz.func59, Tryz.ntmps59
      go_wp2_with fail
      go_end0
      have h := HD.out
      obtain ⟨rW', rI', h2⟩ := h.unwait (n := n) (b := false) (L' := (s.sub D E).L) (fun j hj => by
        show (if D j then s.held j else s.L j) = if D j || (false && decide ((j : Int) = (n : Int))) then s.held j else s.L j
        simp)
      exact ⟨rfl, ⟨_, rW', rI', h2⟩, (Kept.setCell w h.gi _).next (Kept.setCell _ h.gw _)⟩
end
end Go.Proofs.YtnmiccagkfpkiaaGreat

/-
  What the document's own Flush and Restart come to.
-/
namespace Go.Proofs.YtnmiccagkfpkiaaGreat
open Go.RowKit Go.Maps

def firsts (n : Nat) : Int → Bool := fun x => decide (0 ≤ x ∧ x < (n : Int))

theorem firsts_step (n : Nat) : (fun x => firsts n x || (true && decide (x = (n : Int)))) = firsts (n + 1) := by
  funext x
  unfold firsts
  rw [Bool.eq_iff_iff]
  simp only [Bool.true_and, Bool.or_eq_true, decide_eq_true_eq]
  omega
theorem firsts_step' (n : Nat) : (fun x => firsts n x || decide (x = (n : Int))) = firsts (n + 1) := by
  rw [← firsts_step]
  rfl
theorem firsts_zero : firsts 0 = fun _ => false := by
  funext x
  unfold firsts
  rw [decide_eq_false_iff_not]
  omega

section
variable {G : Nat → Prop} {rb lb wb ib : Nat} {left : Int} {rL rW : Rw} {rI : List Bool} {s : PS}

theorem RefAt.sub_none {w : World} (h : RefAt w G rb lb wb ib left rL rW rI s) : RefAt w G rb lb wb ib left rL rW rI (s.sub (fun _ => false) (fun _ => false)) := h.cong (fun _ _ => rfl) (fun _ _ => rfl)

theorem RefAt.sub_all {w : World} (h : RefAt w G rb lb wb ib left rL rW rI (s.sub (firsts s.size) (firsts s.size))) : RefAt w G rb lb wb ib left rL rW rI s.all :=
  h.cong (L' := s.held) (W' := fun _ => none)
    (fun j hj => by
      have hj : j < s.size := hj
      show s.held j = if firsts s.size j then s.held j else s.L j
      have : firsts s.size j = true := by unfold firsts; rw [decide_eq_true_iff]; omega
      rw [this]
      rfl)
    (fun j hj => by
      have hj : j < s.size := hj
      show none = if firsts s.size j then none else s.W j
      have : firsts s.size j = true := by unfold firsts; rw [decide_eq_true_iff]; omega
      rw [this]
      rfl)

def RFlushRel (w : World) (G : Nat → Prop) (rb lb wb ib : Nat) (left : Int) (s : PS) (D : Int → Bool) (j : Nat) (wr : World) : Prop :=
  ∃ rL rW rI, RefAt wr G rb lb wb ib left rL rW rI (s.sub (fun x => D x || firsts j x) (fun x => D x || firsts j x)) ∧ Kept G w wr

set_option maxRecDepth 20000 in
set_option maxHeartbeats 1600000 in
theorem refFlush_any (w : World) (h : Rk w G rb s) :
    Calls Tryz.prog 24 #[.pointer (some ⟨rb, 0, none⟩)] w (RGoes w G rb s.flushed (.int .i64 s.flushE)) := by
  have H0 := Lib.hid h
  obtain ⟨lb, wb, ib, left, rL, rW, rI, h⟩ := h
  have c3 := h.cell 3 (v := .bool s.down) rfl
  by_cases hd : s.down = true
  · rw [hd] at c3
    have eB : s.flushed = s := by unfold PS.flushed; rw [if_pos hd]
    have eE : s.flushE = 40 := by unfold PS.flushE; rw [if_pos hd]
    rw [eB, eE]
    clear h eB eE hd
    go_enter Tryz.func24, Tryz.ntmps24
    go_wp2_with fail
    go_ret
    exact ⟨rfl, G, H0.out, fun k hk => Or.inl hk, Kept.refl _ _⟩
  · have hd' : s.down = false := by simpa using hd
    rw [hd'] at c3
    by_cases hmay : s.may = true
    · have eB : s.flushed = s.acted.all := by unfold PS.flushed; rw [if_neg hd, if_pos hmay]
      have eE : s.flushE = 0 := by unfold PS.flushE; rw [if_neg hd, if_pos hmay]
      rw [eB, eE]
      have HA : Hid (Calls Tryz.prog 58 #[.pointer (some ⟨rb, 0, none⟩)] w fun e w' => e = .returned (.bool true) ∧ (∃ left', RefAt w' G rb lb wb ib left' rL rW rI s.acted) ∧ Kept G w w') := hmay ▸ refAct_any w h
      clear h eB eE hd hd' hmay H0
      generalize s.acted = s1 at *
      go_enter Tryz.func24, Tryz.ntmps24
      go_wp2_with fail
      refine HA.out.mono ?_
      rintro e w1 ⟨rfl, ⟨left1, hr1⟩, hk1⟩
      have hs4 := hr1.s4
      have HR1 := Lib.hid hr1
      have HK1 := Lib.hid hk1
      clear hr1 hk1 c3 HA
      go_wp2_with fail
      go_loopw [4] (fun i wr => ∃ j : Nat, j ≤ s1.size ∧ i = .int .i64 j ∧ RFlushRel w1 G rb lb wb ib left1 s1 (fun _ => false) j wr) (fun i _ => s1.size - (RowKit.intOf i).toNat)
      case atStart =>
        refine ⟨0, Nat.zero_le _, rfl, rL, rW, rI, ?_, Kept.refl _ _⟩
        rw [firsts_zero]
        exact HR1.out.sub_none
      case round =>
        obtain ⟨j, hj, rfl, rL2, rW2, rI2, hr2, hk2⟩ := hrel
        have c0 := hr2.cell 0 (v := .slice (some ⟨lb, 0, none⟩) s1.size s1.size) rfl
        have HR2 := Lib.hid hr2
        have HK2 := Lib.hid hk2
        clear hr2 hk2
        by_cases hlt : j < s1.size
        · go_wp2_with fail
          refine (refSettle_any wr j hlt true _ _ (fun _ e => e) HR2.out).mono ?_
          rintro e w3 ⟨rfl, ⟨rL3, rW3, rI3, hr3⟩, hk3⟩
          have HK3 := Lib.hid (HK2.out.next hk3)
          have HR3 : Hid (RefAt w3 G rb lb wb ib left1 rL3 rW3 rI3 (s1.sub (fun x => false || firsts (j + 1) x) (fun x => false || firsts (j + 1) x))) := by
            simp only [Bool.false_or, Bool.true_and, firsts_step'] at hr3 ⊢
            exact hr3
          clear hr3 hk3 HR2 HK2 c0
          go_wp2_with fail
          go_roundw
          case rel => exact ⟨j + 1, by omega, by go_num, rL3, rW3, rI3, HR3.out, HK3.out⟩
          case measure => simp [RowKit.intOf]; omega
        · obtain rfl : j = s1.size := by omega
          have HR4 : Hid (RefAt wr G rb lb wb ib left1 rL2 rW2 rI2 s1.all) := by
            have := HR2.out
            simp only [Bool.false_or] at this
            exact this.sub_all
          clear HR2
          go_wp2_with fail
          go_ret
          exact ⟨rfl, G, HR4.out.rk, fun k hk => Or.inl hk, HK1.out.next HK2.out⟩
    · have hmay' : s.may = false := by simpa using hmay
      have eB : s.flushed = s.acted := by unfold PS.flushed; rw [if_neg hd, if_neg hmay]
      have eE : s.flushE = 40 := by unfold PS.flushE; rw [if_neg hd, if_neg hmay]
      rw [eB, eE]
      have HA : Hid (Calls Tryz.prog 58 #[.pointer (some ⟨rb, 0, none⟩)] w fun e w' => e = .returned (.bool false) ∧ (∃ left', RefAt w' G rb lb wb ib left' rL rW rI s.acted) ∧ Kept G w w') := hmay' ▸ refAct_any w h
      clear h eB eE hd hd' hmay hmay' H0
      go_enter Tryz.func24, Tryz.ntmps24
      go_wp2_with fail
      refine HA.out.mono ?_
      rintro e w1 ⟨rfl, ⟨left1, hr1⟩, hk1⟩
      go_wp2_with fail
      go_ret
      exact ⟨rfl, G, hr1.rk, fun k hk => Or.inl hk, hk1⟩

def inList (l : List Int) : Int → Bool := fun x => decide (x ∈ l)

theorem inList_step {l : List Int} {k : Nat} {z : Int} (h : l[k]? = some z) : (fun x => inList (l.take k) x || decide (x = z)) = inList (l.take (k + 1)) := by
  funext x
  unfold inList
  rw [Bool.eq_iff_iff, List.take_add_one, h]
  simp

def RRestRel (w : World) (G : Nat → Prop) (rb lb wb ib : Nat) (left : Int) (s : PS) (keep : List Int) (j : Nat) (wr : World) : Prop :=
  ∃ rL rW rI, RefAt wr G rb lb wb ib left rL rW rI (s.sub (inList (keep.take j)) (inList (keep.take j))) ∧ Kept G w wr

def RRestRel2 (w : World) (G : Nat → Prop) (rb lb wb ib : Nat) (left : Int) (s : PS) (keep : List Int) (j : Nat) (wr : World) : Prop :=
  ∃ rL rW rI, RefAt wr G rb lb wb ib left rL rW rI (s.sub (inList keep) (fun x => inList keep x || firsts j x)) ∧ Kept G w wr

theorem or_assoc_fun (D : Int → Bool) (n : Nat) : (fun x => (D x || firsts n x) || decide (x = (n : Int))) = fun x => D x || firsts (n + 1) x := by
  funext x
  rw [Bool.or_assoc]
  exact congrArg (D x || ·) (congrFun (firsts_step' n) x)

theorem RefAt.sub_skip {w : World} {D : Int → Bool} {z : Int} (h : RefAt w G rb lb wb ib left rL rW rI (s.sub D D)) (hz : ∀ j : Nat, j < s.size → (j : Int) = z → s.W j = none ∨ D j = true) :
    RefAt w G rb lb wb ib left rL rW rI (s.sub (fun x => D x || decide (x = z)) (fun x => D x || decide (x = z))) :=
  h.cong (fun j hj => by
      have hj : j < s.size := hj
      show (if D j || decide ((j : Int) = z) then s.held j else s.L j) = if D j then s.held j else s.L j
      by_cases e : (j : Int) = z
      · cases hD : D j with
        | true => rfl
        | false =>
          rcases hz j hj e with h1 | h1
          · simp only [e, decide_true, Bool.or_true, if_true, Bool.false_eq_true, if_false]
            rw [← e]
            unfold PS.held
            rw [h1]
            rfl
          · rw [h1] at hD
            cases hD
      · simp [e])
    (fun j hj => by
      have hj : j < s.size := hj
      show (if D j || decide ((j : Int) = z) then none else s.W j) = if D j then none else s.W j
      by_cases e : (j : Int) = z
      · cases hD : D j with
        | true => rfl
        | false =>
          rcases hz j hj e with h1 | h1
          · simp only [e, decide_true, Bool.or_true, if_true, Bool.false_eq_true, if_false]
            rw [← e, h1]
          · rw [h1] at hD
            cases hD
      · simp [e])

theorem RefAt.drewN {w : World} (h : RefAt w G rb lb wb ib left rL rW rI s) (n : Nat) : RefAt (w.drewN n) G rb lb wb ib left rL rW rI s := h.same (fun _ _ => rfl) (Nat.le_refl _)
theorem keptDrewN {w w' : World} (h : Kept G w w') (n : Nat) : Kept G w (w'.drewN n) := ⟨h.os, h.tape, h.output, h.size, h.block⟩

theorem RefAt.sub_keep {w : World} {keep : List Int} (h : RefAt w G rb lb wb ib left rL rW rI (s.sub (inList keep) (fun x => inList keep x || firsts s.size x))) : RefAt w G rb lb wb ib left rL rW rI { s.kept keep with W := fun _ => none } :=
  h.cong (L' := fun j => if j ∈ keep then s.held j else s.L j) (W' := fun _ => none)
    (fun j _ => by
      show (if (j : Int) ∈ keep then s.held j else s.L j) = if inList keep j then s.held j else s.L j
      unfold inList
      by_cases e : (j : Int) ∈ keep
      · simp [e]
      · simp [e])
    (fun j hj => by
      have hj : j < s.size := hj
      show none = if inList keep j || firsts s.size j then none else s.W j
      have : firsts s.size j = true := by unfold firsts; rw [decide_eq_true_iff]; omega
      rw [this]
      simp)

set_option maxRecDepth 20000 in
set_option maxHeartbeats 3200000 in
theorem refRestart_any (w : World) (A : Option Addr) (m c : Nat) (keep : List Int) (hl : keep.length = m) (hm : m ≤ 1000000) (hx : OutN w G A keep) (h : Rk w G rb s) :
    Calls Tryz.prog 34 #[.pointer (some ⟨rb, 0, none⟩), .slice A m c] w (RGoes w G rb (s.restarted keep) (.tuple #[])) := by
  obtain ⟨lb, wb, ib, left, rL, rW, rI, h⟩ := h
  have hs4 := h.s4
  have HD := Lib.hid h
  have HX := Lib.hid hx
  have HL := Lib.hid hl
  clear h hx hl
  go_enter Tryz.func34, Tryz.ntmps34
  go_wp2_with fail
  go_loopw [4] (fun i wr => ∃ k : Nat, k ≤ m ∧ i = .int .i64 k ∧ RRestRel w G rb lb wb ib left s keep k wr) (fun i _ => m - (RowKit.intOf i).toNat)
  case atStart => exact ⟨0, Nat.zero_le _, rfl, rL, rW, rI, HD.out.sub_none, Kept.refl _ _⟩
  case round =>
    obtain ⟨k, hk, rfl, rL2, rW2, rI2, hr2, hk2⟩ := hrel
    have HR2 := Lib.hid hr2
    have HK2 := Lib.hid hk2
    by_cases hlt : k < m
    · obtain ⟨b, off, z, rfl, hz, hc, hz1, hz2⟩ := (HX.out.kept hk2).at_ (k := k) (by rw [HL.out]; exact hlt)
      have c0 := hr2.cell 0 (v := .slice (some ⟨lb, 0, none⟩) s.size s.size) rfl
      have c2 := hr2.cell 2 (v := .slice (some ⟨ib, 0, none⟩) s.size s.size) rfl
      have HZZ := Lib.hid hz
      have HC := Lib.hid (refIs_any (s := s) wr z _ c0)
      by_cases hh : s.has z = true
      · rw [hh] at HC
        obtain ⟨hn0, hn1⟩ := PS.has_iff.1 hh
        obtain ⟨i, rfl⟩ : ∃ i : Nat, z = (i : Int) := ⟨z.toNat, by omega⟩
        have his : i < s.size := by omega
        obtain ⟨p, q, bb, e1, e2, e3, k1, k2, k3, -, -, -⟩ := hr2.at_ (i := i) his
        have HW := Lib.hid (hr2.sW i q bb e2 e3)
        clear hr2 hk2 hz hh e1 e2 e3 k1 k2
        cases bb with
        | true =>
          go_wp2_with fail
          refine HC.out.mono ?_
          rintro e w' ⟨rfl, rfl⟩
          go_wp2_with fail
          go_quiet (fail)
          rename_i nq
          go_wp2_with fail
          refine (refSettle_any (wr.drewN _) i his true _ _ (fun _ e => e) (HR2.out.drewN _)).mono ?_
          rintro e w3 ⟨rfl, ⟨rL3, rW3, rI3, hr3⟩, hk3⟩
          have HK3 := Lib.hid ((keptDrewN HK2.out _).next hk3)
          have HR3 : Hid (RefAt w3 G rb lb wb ib left rL3 rW3 rI3 (s.sub (inList (keep.take (k + 1))) (inList (keep.take (k + 1))))) := by
            simp only [Bool.true_and, inList_step HZZ.out] at hr3
            exact hr3
          clear hr3 hk3 HR2 HK2 c0 c2 k3 HC HW hc
          go_wp2_with fail
          go_roundw
          case rel => exact ⟨k + 1, by omega, by go_num, rL3, rW3, rI3, HR3.out, HK3.out⟩
          case measure => simp [RowKit.intOf]; omega
        | false =>
          have HR3 : Hid (RefAt wr G rb lb wb ib left rL2 rW2 rI2 (s.sub (inList (keep.take (k + 1))) (inList (keep.take (k + 1))))) := by
            have := HR2.out.sub_skip (z := (i : Int)) (fun j hj e => by
              obtain rfl : j = i := by omega
              have hw := HW.out
              have hw : (if inList (keep.take k) j then none else s.W j) = none := hw
              cases e : inList (keep.take k) j with
              | true => exact Or.inr rfl
              | false => rw [e] at hw; exact Or.inl hw)
            rw [inList_step HZZ.out] at this
            exact this
          clear HR2 HW
          go_wp2_with fail
          refine HC.out.mono ?_
          rintro e w' ⟨rfl, rfl⟩
          go_wp2_with fail
          go_quiet (fail)
          clear c0 c2 k3 HC hc
          go_wp2_with fail
          go_roundw
          case rel => exact ⟨k + 1, by omega, by go_num, rL2, rW2, rI2, HR3.out.drewN _, keptDrewN HK2.out _⟩
          case measure => simp [RowKit.intOf]; omega
      · have hh' : s.has z = false := by simpa using hh
        rw [hh'] at HC
        have HR3 : Hid (RefAt wr G rb lb wb ib left rL2 rW2 rI2 (s.sub (inList (keep.take (k + 1))) (inList (keep.take (k + 1))))) := by
          have := HR2.out.sub_skip (z := z) (fun j hj e => by
            exfalso
            exact hh (PS.has_iff.2 (by omega)))
          rw [inList_step HZZ.out] at this
          exact this
        clear hr2 hk2 hz hh hh' HR2
        go_wp2_with fail
        refine HC.out.mono ?_
        rintro e w' ⟨rfl, rfl⟩
        go_wp2_with fail
        go_quiet (fail)
        clear c0 c2 HC hc
        go_wp2_with fail
        go_roundw
        case rel => exact ⟨k + 1, by omega, by go_num, rL2, rW2, rI2, HR3.out.drewN _, keptDrewN HK2.out _⟩
        case measure => simp [RowKit.intOf]; omega
    · have hkk : keep.take k = keep := List.take_of_length_le (by rw [HL.out]; omega)
      have HR3 : Hid (RefAt wr G rb lb wb ib left rL2 rW2 rI2 (s.sub (inList keep) (inList keep))) := by
        rw [hkk] at hr2
        exact hr2
      clear hr2 hk2 HR2 hkk
      go_wp2_with fail
      clear hlt hk
      obtain ⟨wo, hwo⟩ : ∃ wo : World, wo = wr := ⟨_, rfl⟩
      subst hwo
      go_loopw [6] (fun i wi => ∃ j : Nat, j ≤ s.size ∧ i = .int .i64 j ∧ RRestRel2 w G rb lb wb ib left s keep j wi) (fun i _ => s.size - (RowKit.intOf i).toNat)
      case atStart =>
        refine ⟨0, Nat.zero_le _, rfl, rL2, rW2, rI2, ?_, HK2.out⟩
        rw [firsts_zero]
        simp only [Bool.or_false]
        exact HR3.out
      case round =>
        obtain ⟨j, hj, rfl, rL4, rW4, rI4, hr4, hk4⟩ := hrel
        have c0 := hr4.cell 0 (v := .slice (some ⟨lb, 0, none⟩) s.size s.size) rfl
        have c3 := hr4.cell 3 (v := .bool s.down) rfl
        have c4 := hr4.cell 4 (v := .bool s.fused) rfl
        have f3 := hr4.free 3
        have f4 := hr4.free 4
        have HR4 := Lib.hid hr4
        have HK4 := Lib.hid hk4
        clear hr4 hk4
        by_cases hlt : j < s.size
        · go_wp2_with fail
          refine (refSettle_any wr j hlt false _ _ (fun e => by cases e) HR4.out).mono ?_
          rintro e w5 ⟨rfl, ⟨rL5, rW5, rI5, hr5⟩, hk5⟩
          have HK5 := Lib.hid (HK4.out.next hk5)
          have HR5 : Hid (RefAt w5 G rb lb wb ib left rL5 rW5 rI5 (s.sub (inList keep) (fun x => inList keep x || firsts (j + 1) x))) := by
            simp only [Bool.false_and, Bool.or_false, or_assoc_fun] at hr5
            exact hr5
          clear hr5 hk5 HR4 HK4 c0 c3 c4 f3 f4
          go_wp2_with fail
          go_roundw
          case rel => exact ⟨j + 1, by omega, by go_num, rL5, rW5, rI5, HR5.out, HK5.out⟩
          case measure => simp [RowKit.intOf]; omega
        · obtain rfl : j = s.size := by omega
          have HR6 := Lib.hid HR4.out.sub_keep
          clear HR4
          go_wp2_with fail
          go_end0
          have h6 := HR6.out
          have e3 := Joins.block_setCell (i := 3) h6.str (.bool false)
          have e4 := Joins.block_setCell (i := 4) e3 (.bool false)
          have h7 := h6.field (d := false) (f := false) (n := 0) (left' := left) (fun e => by cases e) h6.l1 h6.l2 e4 (fun j hj => (Below.heap_setCell _ _ _ _ hj).trans (Below.heap_setCell _ _ _ _ hj)) (by simp [World.setCell])
          exact ⟨rfl, G, h7.rk, fun k hk => Or.inl hk, HK4.out.next ((Kept.setCell wr HD.out.gr _).next (Kept.setCell _ HD.out.gr _))⟩
end
end Go.Proofs.YtnmiccagkfpkiaaGreat

/-
  What the disk's Turn comes to.
-/
namespace Go.Proofs.YtnmiccagkfpkiaaGreat
open Go.RowKit Go.Maps

theorem modify_set {l : List UInt8} {k : Nat} {z : UInt8} (f : UInt8 → UInt8) (h : l[k]? = some z) : l.modify k f = l.set k (f z) := by
  apply List.ext_getElem?
  intro j
  rw [List.getElem?_modify, List.getElem?_set]
  by_cases hj : k = j
  · subst hj
    have hk : k < l.length := (List.getElem?_eq_some_iff.1 h).1
    rw [if_pos rfl, if_pos hk, h]
    simp
  · rw [if_neg hj]
    cases l[j]? <;> simp [hj]

section
variable {F : Nat → Prop} {db bl bw : Nat} {gL gW : Ghost} {s : PS}

theorem vals_same {g : Ghost} {n : Int} {v : Value} {l m : List UInt8} (h : g n = some (v, l)) : vals (updG g n (some (v, m))) = vals g := by
  funext j
  unfold vals updG
  by_cases e : j = n
  · rw [if_pos e, e, h]
    rfl
  · rw [if_neg e]

/-- One byte of what waits is written. -/
theorem DiskAt.pokeW {w w' : World} {n : Int} {v : Value} {l m : List UInt8} {g : Nat} (h : DiskAt w F (fun _ => False) db bl bw gL gW s) (hn : gW n = some (v, l)) (hg : v.ownBlock = some g) (hm : m.length = l.length)
    (ho : Own w' 0 v m) (hk : ∀ k, k ≠ g → w'.heap[k]? = w.heap[k]?) (hs : w.heap.size ≤ w'.heap.size) :
    DiskAt w' F (fun _ => False) db bl bw gL (updG gW n (some (v, m))) (s.lay n m) := by
  obtain ⟨o, r2, r3, r4⟩ := h.oW n v l hn
  have hne := h.own_ne o hg
  exact
    { h with
      str := (hk _ hne.1.symm).trans h.str
      mL := h.mL.block (hk _ hne.2.1.symm)
      mW := by rw [vals_same hn]; exact h.mW.block (hk _ hne.2.2.symm)
      lt := fun k hF => Nat.lt_of_lt_of_le (h.lt k hF) hs
      oL := fun i u q hi => by
        obtain ⟨o', q1, q2, q3, q4⟩ := h.oL i u q hi
        exact ⟨own_of_block o' (fun k hk' => hk k (fun e => (h.aX i n u q v l k hi hn hk' (by rw [e]; exact hg)).2)), q1, q2, q3, q4⟩
      oW := fun i u q hi => by
        rcases updG_some hi with ⟨rfl, e⟩ | ⟨hne, e⟩
        · injection e with e
          injection e with e1 e2
          subst e1
          subst e2
          exact ⟨ho, by rw [hm]; exact r2, r3, r4⟩
        · obtain ⟨o', q2, q3, q4⟩ := h.oW i u q e
          exact ⟨own_of_block o' (fun k hk' => hk k (fun e' => hne (h.aW i n u q v l k e hn hk' (by rw [e']; exact hg)))), q2, q3, q4⟩
      aW := fun i j v1 l1 u q k h1 h2 h3 h4 => by
        rcases updG_some h1 with ⟨e0, e⟩ | ⟨n1, e1⟩ <;> rcases updG_some h2 with ⟨e0', e'⟩ | ⟨n2, e2⟩
        · exact e0.trans e0'.symm
        · injection e with e
          injection e with e3 e4
          subst e3
          exact absurd (h.aW j n u q v l k e2 hn h4 h3) n2
        · injection e' with e'
          injection e' with e3 e4
          subst e3
          exact absurd (h.aW i n v1 l1 v l k e1 hn h3 h4) n1
        · exact h.aW i j v1 l1 u q k e1 e2 h3 h4
      aX := fun i j v1 l1 u q k h1 h2 h3 h4 => by
        rcases updG_some h2 with ⟨e0, e⟩ | ⟨n1, e1⟩
        · injection e with e
          injection e with e3 e4
          subst e3
          exact ((h.aX i n v1 l1 v l k h1 hn h3 h4).2).elim
        · exact h.aX i j v1 l1 u q k h1 e1 h3 h4
      sW := fun i => by
        show (if i = n then some m else s.W i) = _
        unfold updG
        by_cases e : i = n
        · rw [if_pos e, if_pos e]
          rfl
        · rw [if_neg e, if_neg e]
          exact h.sW i }

/-- One byte of what lasts is written. -/
theorem DiskAt.pokeL {w w' : World} {n : Int} {v : Value} {l m : List UInt8} {g : Nat} (h : DiskAt w F (fun _ => False) db bl bw gL gW s) (hn : gL n = some (v, l)) (hg : v.ownBlock = some g) (hm : m.length = l.length)
    (ho : Own w' 0 v m) (hk : ∀ k, k ≠ g → w'.heap[k]? = w.heap[k]?) (hs : w.heap.size ≤ w'.heap.size) :
    DiskAt w' F (fun _ => False) db bl bw (updG gL n (some (v, m))) gW { s with L := fun j => if j = n then m else s.L j } := by
  obtain ⟨o, r1, r2, r3, r4⟩ := h.oL n v l hn
  have hne := h.own_ne o hg
  exact
    { h with
      str := (hk _ hne.1.symm).trans h.str
      mL := by rw [vals_same hn]; exact h.mL.block (hk _ hne.2.1.symm)
      mW := h.mW.block (hk _ hne.2.2.symm)
      lt := fun k hF => Nat.lt_of_lt_of_le (h.lt k hF) hs
      oW := fun i u q hi => by
        obtain ⟨o', q2, q3, q4⟩ := h.oW i u q hi
        exact ⟨own_of_block o' (fun k hk' => hk k (fun e => (h.aX n i v l u q k hn hi (by rw [e]; exact hg) hk').2)), q2, q3, q4⟩
      oL := fun i u q hi => by
        rcases updG_some hi with ⟨rfl, e⟩ | ⟨hne, e⟩
        · injection e with e
          injection e with e1 e2
          subst e1
          subst e2
          refine ⟨ho, fun e => r1 ?_, by rw [hm]; exact r2, r3, r4⟩
          rw [e] at hm
          exact List.eq_nil_of_length_eq_zero hm.symm
        · obtain ⟨o', q1, q2, q3, q4⟩ := h.oL i u q e
          exact ⟨own_of_block o' (fun k hk' => hk k (fun e' => hne (h.aL i n u q v l k e hn hk' (by rw [e']; exact hg)))), q1, q2, q3, q4⟩
      aL := fun i j v1 l1 u q k h1 h2 h3 h4 => by
        rcases updG_some h1 with ⟨e0, e⟩ | ⟨n1, e1⟩ <;> rcases updG_some h2 with ⟨e0', e'⟩ | ⟨n2, e2⟩
        · exact e0.trans e0'.symm
        · injection e with e
          injection e with e3 e4
          subst e3
          exact absurd (h.aL j n u q v l k e2 hn h4 h3) n2
        · injection e' with e'
          injection e' with e3 e4
          subst e3
          exact absurd (h.aL i n v1 l1 v l k e1 hn h3 h4) n1
        · exact h.aL i j v1 l1 u q k e1 e2 h3 h4
      aX := fun i j v1 l1 u q k h1 h2 h3 h4 => by
        rcases updG_some h1 with ⟨e0, e⟩ | ⟨n1, e1⟩
        · injection e with e
          injection e with e3 e4
          subst e3
          exact ((h.aX n j v l u q k hn h2 h3 h4).2).elim
        · exact h.aX i j v1 l1 u q k e1 h2 h3 h4
      sL := fun i => by
        show (if i = n then m else s.L i) = _
        unfold updG
        by_cases e : i = n
        · rw [if_pos e, if_pos e]
          rfl
        · rw [if_neg e, if_neg e]
          exact h.sL i }

theorem xor_u8 (z b : UInt8) : bits .xor .u8 (z.toNat : Int) (b.toNat : Int) = (((z ^^^ b).toNat : Nat) : Int) := by
  rw [UInt8.toNat_xor]
  exact u8_xor_nat _ _ (UInt8.toNat_lt z) (UInt8.toNat_lt b)

theorem spot_of (i : Int) (n : Nat) (hn : ¬ n = 0) : ∃ k : Nat, k < n ∧ i % (n : Int) = (k : Int) := by
  have h1 := Int.emod_nonneg i (show (n : Int) ≠ 0 by omega)
  have h2 := Int.emod_lt_of_pos i (show (0 : Int) < n by omega)
  exact ⟨(i % (n : Int)).toNat, by omega, by omega⟩

/-- The byte that is turned, and the disk behind it. -/
theorem DiskAt.turn_at {w : World} (n at_ : Int) (by_ : UInt8) (h : DiskAt w F (fun _ => False) db bl bw gL gW s) (hh : s.has n = true) (hl : s.held n ≠ []) (h0 : 0 ≤ at_) :
    ∃ g cap k z, heldV gL gW n = .slice (some ⟨g, 0, none⟩) (s.held n).length cap ∧ k < (s.held n).length ∧ (s.held n).length ≤ cap ∧ at_ % ((s.held n).length : Int) = (k : Int) ∧ w.cell? ⟨g, k, none⟩ = some (.int .u8 (z : UInt8).toNat) ∧ w.frozen? ⟨g, k, none⟩ = false ∧
      Hid (Dk (w.setCell ⟨g, k, none⟩ (.int .u8 (z ^^^ by_).toNat)) F db (s.turned n at_ by_) ∧ Kept F w (w.setCell ⟨g, k, none⟩ (.int .u8 (z ^^^ by_).toNat))) := by
  have hp : ¬ (s.held n).length = 0 := fun e => hl (List.eq_nil_of_length_eq_zero e)
  obtain ⟨k, hk, hki⟩ := spot_of at_ _ hp
  obtain ⟨o, hF⟩ := h.held_own n
  obtain ⟨g, cap, z, hv, hz, h1, h2, _, h4⟩ := own_store o hk
  have hgF : F g := hF g (by rw [hv]; rfl)
  have hcap : (s.held n).length ≤ cap := by
    obtain ⟨A, c, e, hc, _⟩ := own_slice o
    rw [hv] at e
    injection e with _ _ e
    rw [e]
    exact hc
  refine ⟨g, cap, k, z, hv, hk, hcap, hki, h1, h2, ?_, Kept.setCell _ hgF _⟩
  have ho := h4 (z ^^^ by_)
  have hkb : ∀ j, j ≠ g → (w.setCell ⟨g, k, none⟩ (.int .u8 (z ^^^ by_).toNat)).heap[j]? = w.heap[j]? := fun j hj => Below.heap_setCell _ _ _ _ hj
  have hsz : w.heap.size ≤ (w.setCell ⟨g, k, none⟩ (.int .u8 (z ^^^ by_).toNat)).heap.size := by simp [World.setCell]
  have etw : PS.twist (s.held n) at_ by_ = (s.held n).set k (z ^^^ by_) := by
    unfold PS.twist
    rw [hki]
    exact modify_set _ hz
  have eT : s.turned n at_ by_ = (match s.W n with
    | some l => s.lay n (PS.twist l at_ by_)
    | none => { s with L := fun j => if j = n then PS.twist (s.L n) at_ by_ else s.L j }) := by
    unfold PS.turned
    rw [if_pos hh, if_neg (by rintro (e | e); exact hl e; omega)]
    cases s.W n <;> rfl
  rw [eT]
  have hob : (heldV gL gW n).ownBlock = some g := by rw [hv]; rfl
  cases hW : gW n with
  | some p =>
    obtain ⟨v, l⟩ := p
    have e1 : s.W n = some l := by rw [h.sW, hW]; rfl
    have e2 : s.held n = l := by unfold PS.held; rw [e1]; rfl
    have e3 : heldV gL gW n = v := by unfold heldV vals; rw [hW]; rfl
    rw [e3] at ho hob
    rw [e2] at ho etw
    rw [e1]
    have hp := h.pokeW hW hob (by simp) ho hkb hsz
    rw [← etw] at hp
    exact ⟨bl, bw, gL, _, hp⟩
  | none =>
    have e1 : s.W n = none := by rw [h.sW, hW]; rfl
    have e2 : s.held n = s.L n := by unfold PS.held; rw [e1]; rfl
    cases hL : gL n with
    | none =>
      rw [e2, h.sL, hL] at hl
      exact absurd rfl hl
    | some p =>
      obtain ⟨v, l⟩ := p
      have e4 : s.L n = l := by rw [h.sL, hL]; rfl
      have e3 : heldV gL gW n = v := by unfold heldV vals; rw [hW, hL]; rfl
      rw [e3] at ho hob
      rw [e2, e4] at ho etw
      rw [e1]
      have hp := h.pokeL hL hob (by simp) ho hkb hsz
      rw [← etw, ← e4] at hp
      exact ⟨bl, bw, _, gW, hp⟩

set_option maxRecDepth 20000 in
set_option maxHeartbeats 800000 in
theorem turn_any (w : World) (n : Int) (h1 : -9223372036854775808 ≤ n) (h2 : n ≤ 9223372036854775807) (at_ : Int) (h3 : -9223372036854775808 ≤ at_) (h4 : at_ ≤ 9223372036854775807) (by_ : UInt8) (h : Dk w F db s) :
    Calls Tryz.prog 35 #[.pointer (some ⟨db, 0, none⟩), .int .i64 n, .int .i64 at_, .int .u8 by_.toNat] w (Goes w F db (s.turned n at_ by_) (.int .i64 (s.turnE n at_))) := by
  have H0 := Lib.hid h
  obtain ⟨bl, bw, gL, gW, h⟩ := h
  have c0 := h.cell 0 (v := .int .i64 s.size) rfl
  have HD := Lib.hid h
  by_cases hh : s.has n = true
  · have HC : Hid (Calls Tryz.prog 49 #[.pointer (some ⟨db, 0, none⟩), .int .i64 n] w fun e w' => e = .returned (.bool true) ∧ w = w') := hh ▸ has_any w db s n c0
    have hle := PS.held_le h.ok n
    by_cases hg : s.held n = [] ∨ at_ < 0
    · have eB : s.turned n at_ by_ = s := by unfold PS.turned; rw [if_pos hh, if_pos hg]
      have eE : s.turnE n at_ = 1 := by unfold PS.turnE; rw [if_pos hh, if_pos hg]
      rw [eB, eE]
      by_cases hl : s.held n = []
      · have HL := Lib.hid hl
        clear h eB eE hh hg hl hle
        go_enter Tryz.func35, Tryz.ntmps35
        go_wp2_with fail
        refine HC.out.mono ?_
        rintro e w' ⟨rfl, rfl⟩
        go_wp2_with fail
        refine (held_any w n h1 h2 HD.out).mono ?_
        rintro e w' ⟨rfl, rfl⟩
        have ho := (HD.out.held_own n).1
        generalize heldV gL gW n = v at *
        obtain ⟨A, c, rfl, hc, hz⟩ := own_slice ho
        rw [HL.out]
        clear ho hz hc
        go_wp2_with fail
        go_ret
        exact ⟨rfl, F, H0.out, fun k hk => Or.inl hk, Kept.refl _ _⟩
      · have h0 : at_ < 0 := hg.resolve_left hl
        have hl0 : (((s.held n).length : Int) == 0) = false := by
          rw [beq_eq_false_iff_ne]
          intro e
          exact hl (List.eq_nil_of_length_eq_zero (by omega))
        clear h eB eE hh hg hl hle
        go_enter Tryz.func35, Tryz.ntmps35
        go_wp2_with fail
        refine HC.out.mono ?_
        rintro e w' ⟨rfl, rfl⟩
        go_wp2_with fail
        refine (held_any w n h1 h2 HD.out).mono ?_
        rintro e w' ⟨rfl, rfl⟩
        have ho := (HD.out.held_own n).1
        generalize heldV gL gW n = v at *
        obtain ⟨A, c, rfl, hc, hz⟩ := own_slice ho
        clear ho hz hc
        go_wp2_with fail
        go_ret
        exact ⟨rfl, F, H0.out, fun k hk => Or.inl hk, Kept.refl _ _⟩
    · have hl : ¬ s.held n = [] := fun e => hg (Or.inl e)
      have h0 : 0 ≤ at_ := by
        by_cases e : at_ < 0
        · exact absurd (Or.inr e) hg
        · omega
      have eE : s.turnE n at_ = 0 := by unfold PS.turnE; rw [if_pos hh, if_neg hg]
      rw [eE]
      have hl0 : (((s.held n).length : Int) == 0) = false := by
        rw [beq_eq_false_iff_ne]
        intro e
        exact hl (List.eq_nil_of_length_eq_zero (by omega))
      have hl1 : 1 ≤ (s.held n).length := by
        rcases Nat.eq_zero_or_pos (s.held n).length with e | e
        · exact absurd (List.eq_nil_of_length_eq_zero e) hl
        · exact e
      obtain ⟨g, cap, k, z, hv, hk, hcap, hki, hc, hf, HT⟩ := h.turn_at n at_ by_ hh hl h0
      have hx := xor_u8 z by_
      have HV := Lib.hid hv
      clear h eE hh hg hl hv
      go_enter Tryz.func35, Tryz.ntmps35
      go_wp2_with fail
      refine HC.out.mono ?_
      rintro e w' ⟨rfl, rfl⟩
      go_wp2_with fail
      refine (held_any w n h1 h2 HD.out).mono ?_
      rintro e w' ⟨rfl, rfl⟩
      rw [HV.out]
      generalize (s.held n).length = m at *
      go_wp2_with fail
      go_ret
      exact ⟨rfl, F, HT.out.1, fun k hk => Or.inl hk, HT.out.2⟩
  · have hh' : s.has n = false := by simpa using hh
    have HC : Hid (Calls Tryz.prog 49 #[.pointer (some ⟨db, 0, none⟩), .int .i64 n] w fun e w' => e = .returned (.bool false) ∧ w = w') := hh' ▸ has_any w db s n c0
    have eB : s.turned n at_ by_ = s := by unfold PS.turned; rw [if_neg hh]
    have eE : s.turnE n at_ = 41 := by unfold PS.turnE; rw [if_neg hh]
    rw [eB, eE]
    clear h eB eE hh hh'
    go_enter Tryz.func35, Tryz.ntmps35
    go_wp2_with fail
    refine HC.out.mono ?_
    rintro e w' ⟨rfl, rfl⟩
    go_wp2_with fail
    go_ret
    exact ⟨rfl, F, H0.out, fun k hk => Or.inl hk, Kept.refl _ _⟩
end
end Go.Proofs.YtnmiccagkfpkiaaGreat

/-
  What the document's own Write and Turn come to.
-/
namespace Go.Proofs.YtnmiccagkfpkiaaGreat
open Go.RowKit Go.Maps

theorem row_shape {w : World} {base : Nat} {e : TypeId} {sz : Nat} {v : Value} {n : Nat} {xs : List Value} (h : w.ownsRow base e sz v n xs) : ∃ A c, v = .slice A n c := by
  rcases h.2 with ⟨rfl, h0⟩ | ⟨g, cap, cur, rfl, _⟩
  · exact ⟨none, 0, by rw [h0]⟩
  · exact ⟨_, _, rfl⟩

/-- append, as one step of a drawn region. -/
theorem step_append_lay {P : Program} (w : World) {ops : Array Oper} {o : Oper} {a : Act} {K : Act → World → Prop} {Q : Exit → Act → World → Prop} {E : Prop} (hgd : o.guard = none) (s x : Operand) (t : TypeId)
    (ho : o.op = .call { callee := .builtin .append, args := #[s, x], argTypes := #[t, t] })
    (base : Nat) (e : TypeId) (i : TypeInfo) (z : Value) (size bytes : Nat) (ht : P.underlying t = some (.slice e)) (hi : P.info? e = some i) (hz : i.zero = some z)
    (hsize : i.size = size) (hby : i.bytes = bytes) (hzs : z.cells.size = size) (hsz : 0 < size)
    (v : Value) (n : Nat) (xs : List Value) (hs : a.eval s = v) (hown : w.ownsRow base e size v n xs)
    (A : Option Addr) (m c : Nat) (news : List Value) (hx : a.eval x = .slice A m c) (hl : news.length = m * size) (hnews : Lies w A m c news) (h1 : ∀ u ∈ news, u.oneCell' = true)
    (h63 : n + m ≤ maxLen) (hbytes : (n + m) * bytes ≤ 140737488355328) (hbase : base ≤ w.heap.size)
    (h : ∀ A' c' w', w'.ownsRow base e size (.slice A' (n + m) c') (n + m) (xs ++ news) → w.grownBy w' v.ownBlock → K (a.put o.dst (.slice A' (n + m) c')) w') :
    if Region.wanted o (yielded ops a.tmps) = true then Oper.wp P o a w K Q else E := by
  have hw : Region.wanted o (yielded ops a.tmps) = true := by simp [Region.wanted, hgd]
  rw [if_pos hw]
  rcases A with _ | ad
  · obtain ⟨rfl, rfl⟩ := hnews.1 rfl
    obtain rfl : news = [] := List.eq_nil_of_length_eq_zero (by omega)
    have hrun := run_append_owned_none (P := P) (w := w) base t o.type e i size ht hi v n xs hown
    obtain ⟨A', c', rfl⟩ := row_shape hown
    unfold Oper.wp
    simp [execOp, ho, resolve, invoke, builtin, hs, hx, hrun, Result.andThen]
    exact h A' c' w (by simpa using hown) (World.grownBy.refl _ _)
  · refine wp_append_own w s x t ho base e i z size bytes ht hi hz hsize hby hzs hsz v n xs hs hown ad m c news hx hl (hnews.2 ad rfl) h1 h63 hbytes hbase (fun v' w' h2 h3 _ => ?_)
    obtain ⟨A', c', rfl⟩ := row_shape h2
    exact h A' c' w' h2 h3

section
variable {G : Nat → Prop} {rb lb wb ib : Nat} {left : Int} {rL rW : Rw} {rI : List Bool} {s : PS}

theorem RefAt.bigger {w w4 : World} (h : RefAt w G rb lb wb ib left rL rW rI s) (hb : Below w.heap.size w w4) : RefAt w4 (fun k => G k ∨ (w.heap.size ≤ k ∧ k < w4.heap.size)) rb lb wb ib left rL rW rI s :=
  (h.same (fun k hk => hb.block k (h.lt k hk)) hb.size).more (fun k hk => Or.inl hk) (fun k hk => by
    rcases hk with hk | hk
    · exact Nat.lt_of_lt_of_le (h.lt k hk) hb.size
    · exact hk.2)

theorem RefAt.laid {w w4 : World} {i : Nat} {v : Value} {l : List UInt8} (h : RefAt w G rb lb wb ib left rL rW rI s) (hi : i < s.size) (hl : l.length ≤ 1024) (hb : Below w.heap.size w w4) (ho : Own w4 w.heap.size v l) :
    ∃ rW' rI', RefAt ((w4.setCell ⟨wb, i, none⟩ v).setCell ⟨ib, i, none⟩ (.bool true)) (fun k => G k ∨ (w.heap.size ≤ k ∧ k < w4.heap.size)) rb lb wb ib left rL rW' rI' (s.lay i l) := by
  have h4 := h.bigger hb
  obtain ⟨p, q, bb, e1, e2, e3, -⟩ := h4.at_ hi
  have h5 := h4.putW (i := i) (p := (v, l)) (W' := fun j => if j = (i : Int) then (if bb then some l else none) else s.W j) ⟨own_base ho, hl, fun k hk => Or.inr (ho.lt k hk)⟩ (by
    intro j b hb'
    by_cases e : j = i
    · subst e
      rw [e3] at hb'
      obtain rfl : bb = b := by simpa using hb'
      rw [if_pos rfl, if_pos rfl]
    · rw [if_neg e, if_neg (by omega)]
      have hj : j < s.size := by have := (List.getElem?_eq_some_iff.1 hb').1; rw [h4.nI] at this; exact this
      have hq := List.getElem?_eq_getElem (l := rW) (i := j) (by rw [h4.nW]; exact hj)
      have := h4.sW j _ b hq hb'
      cases b with
      | false => rw [this]; rfl
      | true => rfl)
  have h6 := h5.putI (i := i) (b := true) (W' := fun j => if j = (i : Int) then some l else s.W j) (by
    intro j q' c hq' hc
    have hj : j < s.size := by have := (List.getElem?_eq_some_iff.1 hq').1; rw [h5.nW] at this; exact this
    rw [List.getElem?_set] at hq' hc
    by_cases e : i = j
    · subst e
      rw [if_pos rfl, if_pos (by rw [h4.nI]; exact hj)] at hc
      rw [if_pos rfl, if_pos (by rw [h4.nW]; exact hj)] at hq'
      obtain rfl : true = c := by simpa using hc
      obtain rfl : (v, l) = q' := by simpa using hq'
      rw [if_pos rfl]
      rfl
    · rw [if_neg e] at hc hq'
      rw [if_neg (by omega)]
      exact h4.sW j q' c hq' hc)
  exact ⟨_, _, h6⟩

theorem app_below {w w4 : World} {t : TypeId} {n c : Nat} (hg : (w.alloc (.cells #[] t)).drew.grownBy w4 (Value.slice (some ⟨w.heap.size, 0, none⟩) n c).ownBlock) : Below w.heap.size w w4 :=
  ((below_one w _).drew).grown hg (by simp) (fun k hk => by
    have e := Option.some.inj hk
    rw [← e]
    exact Nat.le_refl _)

set_option maxRecDepth 20000 in
set_option maxHeartbeats 3200000 in
theorem refWrite_any (w : World) (n : Int) (A : Option Addr) (m c : Nat) (l : List UInt8) (hl : l.length = m) (hx : Out w G A l) (hz : A = none → m = 0 ∧ c = 0) (h : Rk w G rb s) :
    Calls Tryz.prog 23 #[.pointer (some ⟨rb, 0, none⟩), .int .i64 n, .slice A m c] w (RGoes w G rb (s.written n l) (.int .i64 (s.writeE n l))) := by
  have H0 := Lib.hid h
  obtain ⟨i0, hi, hz0, hz1, hz2⟩ := info_parts byteInfo
  obtain ⟨lb, wb, ib, left, rL, rW, rI, h⟩ := h
  have c0 := h.cell 0 (v := .slice (some ⟨lb, 0, none⟩) s.size s.size) rfl
  have c3 := h.cell 3 (v := .bool s.down) rfl
  have HD := Lib.hid h
  have HZ := Lib.hid hz
  have HX := Lib.hid hx
  have HL := Lib.hid hl
  clear hz hx
  by_cases hd : s.down = true
  · rw [hd] at c3
    have eB : s.written n l = s := by unfold PS.written; rw [if_pos hd]
    have eE : s.writeE n l = 40 := by unfold PS.writeE; rw [if_pos hd]
    rw [eB, eE]
    clear h eB eE hd c0 hl
    go_enter Tryz.func23, Tryz.ntmps23
    go_wp2_with fail
    go_ret
    exact ⟨rfl, G, H0.out, fun k hk => Or.inl hk, Kept.refl _ _⟩
  · have hd' : s.down = false := by simpa using hd
    rw [hd'] at c3
    have HC0 := Lib.hid (refIs_any (s := s) w n _ c0)
    by_cases hb : s.bad n l = true
    · have eB : s.written n l = s := by unfold PS.written; rw [if_neg hd, if_pos hb]
      have eE : s.writeE n l = 41 := by unfold PS.writeE; rw [if_neg hd, if_pos hb]
      rw [eB, eE]
      unfold PS.bad at hb
      by_cases hh : s.has n = true
      · rw [hh] at HC0
        have hm : 1024 < m := by rw [hh] at hb; simp at hb; omega
        clear h eB eE hd hd' hh hb hl
        go_enter Tryz.func23, Tryz.ntmps23
        go_wp2_with fail
        refine HC0.out.mono ?_
        rintro e w' ⟨rfl, rfl⟩
        go_wp2_with fail
        go_ret
        exact ⟨rfl, G, H0.out, fun k hk => Or.inl hk, Kept.refl _ _⟩
      · have hh' : s.has n = false := by simpa using hh
        rw [hh'] at HC0
        clear h eB eE hd hd' hh hh' hb hl
        go_enter Tryz.func23, Tryz.ntmps23
        go_wp2_with fail
        refine HC0.out.mono ?_
        rintro e w' ⟨rfl, rfl⟩
        go_wp2_with fail
        go_ret
        exact ⟨rfl, G, H0.out, fun k hk => Or.inl hk, Kept.refl _ _⟩
    · have hb' := hb
      unfold PS.bad at hb'
      have hh : s.has n = true := by
        cases e : s.has n with
        | true => rfl
        | false => rw [e] at hb'; simp at hb'
      have hm : m ≤ 1024 := by rw [hh] at hb'; simp at hb'; omega
      obtain ⟨hn0, hn1⟩ := PS.has_iff.1 hh
      obtain ⟨i, rfl⟩ : ∃ i : Nat, n = (i : Int) := ⟨n.toNat, by omega⟩
      have his : i < s.size := by omega
      have hs4 := h.s4
      rw [hh] at HC0
      by_cases hmay : s.may = true
      · have eB : s.written (i : Int) l = s.acted.lay i l := by unfold PS.written; rw [if_neg hd, if_neg hb, if_pos hmay]
        have eE : s.writeE (i : Int) l = 0 := by unfold PS.writeE; rw [if_neg hd, if_neg hb, if_pos hmay]
        rw [eB, eE]
        have HA : Hid (Calls Tryz.prog 58 #[.pointer (some ⟨rb, 0, none⟩)] w fun e w' => e = .returned (.bool true) ∧ (∃ left', RefAt w' G rb lb wb ib left' rL rW rI s.acted) ∧ Kept G w w') := hmay ▸ refAct_any w h
        have hsz : s.acted.size = s.size := PS.acted_size s
        have his1 : i < s.acted.size := by rw [hsz]; exact his
        have hs41 : s.acted.size ≤ 4096 := by rw [hsz]; exact hs4
        clear h eB eE hd hd' hh hb hb' hmay H0 hsz
        generalize s.acted = s1 at *
        go_enter Tryz.func23, Tryz.ntmps23
        go_wp2_with fail
        refine HC0.out.mono ?_
        rintro e w' ⟨rfl, rfl⟩
        go_wp2_with fail
        refine HA.out.mono ?_
        rintro e w1 ⟨rfl, ⟨left1, hr1⟩, hk1⟩
        have d1 := hr1.cell 1 (v := .slice (some ⟨wb, 0, none⟩) s1.size s1.size) rfl
        obtain ⟨p, q, bb, -, e2, -, -, k2, -, -, f2, -⟩ := hr1.at_ his1
        obtain ⟨qA, qc, hqv, -, -⟩ := own_slice (hr1.oW i q e2).1
        rw [hqv] at k2
        have HR1 := Lib.hid hr1
        have HK1 := Lib.hid hk1
        have HX1 := Lib.hid (HX.out.kept hk1).bys
        have hn5 := hr1.nes.2.2.2.2
        have hn2 := hr1.nes.2.1
        have hgr := World.block_lt_of_cell? _ _ d1
        have hgw := World.block_lt_of_cell? _ _ k2
        clear hr1 hk1 c0 c3 HC0 HA hl e2 hqv HX
        go_wp2_with fail
        go_region_held3 (fun w' => w'.cell? ⟨rb, 1, none⟩ = some (.slice (some ⟨wb, 0, none⟩) s1.size s1.size))
          (first | exact K1 | exact (World.cell?_setCell_other _ _ _ _ (fun e => hn2 (congrArg Addr.block e).symm)).trans K1 | exact (World.cell?_setCell_other _ _ _ _ (fun e => hn2 (congrArg Addr.block e))).trans K1 | go_keep)
          ((refine step_append_lay _ (by rfl) _ _ _ (by rfl) w1.heap.size 5 i0 _ 1 1 Tryz.underlying34 hi hz0 hz1 hz2 rfl (by omega) (.slice (some ⟨w1.heap.size, 0, none⟩) 0 0) 0 [] (by rfl) (own_made w1).drew A m c (bv l) (by rfl) (by rw [bv_length, HL.out]; omega) (show Lies (w1.alloc (.cells #[] 5)).drew A m c (bv l) from Lies.bys (HX1.out.alloc _) HZ.out) (bv_one _) (by unfold maxLen; omega) (by omega) (by simp) ?_; intro A4 c4 w4 hown4 hg4; have B4 := app_below hg4; have K1 : w4.cell? ⟨rb, 1, none⟩ = some (.slice (some ⟨wb, 0, none⟩) s1.size s1.size) := (B4.cell (p := ⟨rb, 1, none⟩) hgr).trans d1; have T1 := (B4.cell (p := ⟨wb, i, none⟩) hgw).trans k2; have T2 := (B4.frozen (p := ⟨wb, i, none⟩) hgw).trans f2))
        rename_i hHeld
        clear hHeld K1 T1 T2 d1 k2 f2
        have ho4 : Own w4 w1.heap.size (.slice A4 m c4) l := by
          have := bytes_one HL.out hown4
          rw [Nat.zero_add] at this
          exact this
        obtain ⟨rW', rI', h6⟩ := HR1.out.laid his1 (by rw [HL.out]; exact hm) B4 ho4
        have h4 := HR1.out.bigger B4
        have d2 := h4.cell 2 (v := .slice (some ⟨ib, 0, none⟩) s1.size s1.size) rfl
        obtain ⟨_, _, b4, -, -, -, -, -, k3, -, -, f3⟩ := h4.at_ his1
        have H6 := Lib.hid h6
        have HK6 : Hid (Kept G w ((w4.setCell ⟨wb, i, none⟩ (.slice A4 m c4)).setCell ⟨ib, i, none⟩ (.bool true))) := HK1.out.next ((Kept.below B4 G).next ((Kept.setCell w4 HR1.out.gw _).next (Kept.setCell _ HR1.out.gi _)))
        have HSZ := Lib.hid HK1.out.size
        have hm5 := hn5.symm
        have hm2 := hn2.symm
        clear h6 h4 ho4 hown4 hg4 B4 HR1 HK1 HX1
        go_wp2_with fail
        go_ret
        refine ⟨rfl, _, H6.out.rk, fun k hk => ?_, HK6.out⟩
        rcases hk with hk | hk
        · exact Or.inl hk
        · exact Or.inr (Nat.le_trans HSZ.out hk.1)
      · have hmay' : s.may = false := by simpa using hmay
        have eB : s.written (i : Int) l = s.acted := by unfold PS.written; rw [if_neg hd, if_neg hb, if_neg hmay]
        have eE : s.writeE (i : Int) l = 40 := by unfold PS.writeE; rw [if_neg hd, if_neg hb, if_neg hmay]
        rw [eB, eE]
        have HA : Hid (Calls Tryz.prog 58 #[.pointer (some ⟨rb, 0, none⟩)] w fun e w' => e = .returned (.bool false) ∧ (∃ left', RefAt w' G rb lb wb ib left' rL rW rI s.acted) ∧ Kept G w w') := hmay' ▸ refAct_any w h
        clear h eB eE hd hd' hh hb hb' hmay hmay' hl H0
        go_enter Tryz.func23, Tryz.ntmps23
        go_wp2_with fail
        refine HC0.out.mono ?_
        rintro e w' ⟨rfl, rfl⟩
        go_wp2_with fail
        refine HA.out.mono ?_
        rintro e w1 ⟨rfl, ⟨left1, hr1⟩, hk1⟩
        go_wp2_with fail
        go_ret
        exact ⟨rfl, G, hr1.rk, fun k hk => Or.inl hk, hk1⟩
end
end Go.Proofs.YtnmiccagkfpkiaaGreat

/-
  What the document's own Write comes to (package tailraceref09).
-/
namespace Go.Proofs.YtnmiccagkfpkiaaGreat
open Go.RowKit Go.Maps

theorem own_outR {w w' : World} {G : Nat → Prop} {A : Option Addr} {n c : Nat} {l : List UInt8} (h : ∀ k, G k → k < w.heap.size) (o : Own w' w.heap.size (.slice A n c) l) : Out w' G A l := by
  have hb := own_bys o
  rcases hb with hb | ⟨b, off, e, _, hc⟩
  · exact Or.inl hb
  · refine Or.inr ⟨b, off, e, fun hF => ?_, hc⟩
    have h1 := h b hF
    have h2 := (o.lt b (by rw [e]; rfl)).1
    omega

set_option maxRecDepth 20000 in
set_option maxHeartbeats 3200000 in
theorem refUWrite_any {G : Nat → Prop} {rb : Nat} {d : PS} (ep ro he ct : Int) (A : Option Addr) (n c : Nat) (pg : List Int) (w : World) (hz : Ln w 1 A n c (intVals pg)) (hn : n ≤ 1000000) (h : Rk w G rb d) :
    Calls Tryz.prog 10 #[.pointer (some ⟨rb, 0, none⟩), .agg #[.int .i64 ep, .int .i64 ro, .int .i64 he, .slice A n c, .int .i64 ct]] w (RGoes w G rb (d.supered ⟨ep, ro, he, ct, pg⟩) (.int .i64 (d.superE ⟨ep, ro, he, ct, pg⟩))) := by
  have HB := Lib.hid (ubox_new w (.int .i64 ep) (.int .i64 ro) (.int .i64 he) (.slice A n c) (.int .i64 ct))
  have b1 := below_one w (.cells #[.int .i64 ep, .int .i64 ro, .int .i64 he, .slice A n c, .int .i64 ct] 33)
  have B1 := Lib.hid b1
  have HZ := Lib.hid (hz.kept b1)
  have HD := Lib.hid (h.below b1)
  clear hz h b1
  go_enter Tryz.func10, Tryz.ntmps10
  go_upto_region 1 with fail
  generalize w.alloc (.cells #[.int .i64 ep, .int .i64 ro, .int .i64 he, .slice A n c, .int .i64 ct] 33) = w1 at *
  obtain ⟨c0, c1, c2, c3, c4⟩ := HB.out.cells
  go_wp2_with fail
  refine (refEncode_any ep ro he ct A n c pg w1 HZ.out hn).mono ?_
  rintro e w2 ⟨v2, rfl, o2, b2⟩
  have B2 := Lib.hid (B1.out.trans (b2.mono B1.out.size))
  have HB2 := Lib.hid (HB.out.kept b2)
  have HD2 := Lib.hid (HD.out.below b2)
  have O2 := Lib.hid o2
  clear b2 o2 c0 c1 c2 c3 c4 HB HD HZ
  cases hk : (SB.mk ep ro he ct pg).okB with
  | false =>
    have HE : Hid (d.supered ⟨ep, ro, he, ct, pg⟩ = d ∧ d.superE ⟨ep, ro, he, ct, pg⟩ = 90) := Lib.hid (by unfold PS.supered PS.superE; rw [if_neg (by rw [hk]; decide), if_neg (by rw [hk]; decide)]; exact ⟨rfl, rfl⟩)
    rw [checkE_bad hk]
    clear hk
    go_wp2_with fail
    go_ret
    rw [HE.out.1, HE.out.2]
    exact ⟨rfl, G, HD2.out, fun _ h => Or.inl h, Kept.below B2.out G⟩
  | true =>
    have HK := Lib.hid hk
    have hep : 0 ≤ ep := (SB.ep_ok hk).1
    have HE : Hid (d.supered ⟨ep, ro, he, ct, pg⟩ = (if d.writeE (ep % 2) (SB.mk ep ro he ct pg).fr = 0 then (d.written (ep % 2) (SB.mk ep ro he ct pg).fr).flushed else d.written (ep % 2) (SB.mk ep ro he ct pg).fr) ∧ d.superE ⟨ep, ro, he, ct, pg⟩ = (if d.writeE (ep % 2) (SB.mk ep ro he ct pg).fr = 0 then (d.written (ep % 2) (SB.mk ep ro he ct pg).fr).flushE else d.writeE (ep % 2) (SB.mk ep ro he ct pg).fr)) := Lib.hid ⟨if_pos hk, if_pos hk⟩
    have HB' : (SB.mk ep ro he ct pg).encB = (SB.mk ep ro he ct pg).bytes := if_pos hk
    rw [HB'] at O2
    have HP : Hid (packE 1 (ep % 2) (SB.mk ep ro he ct pg).bytes = 0 ∧ packB 1 (ep % 2) (SB.mk ep ro he ct pg).bytes = (SB.mk ep ro he ct pg).fr) := Lib.hid ⟨if_pos (SB.fr_ok hk), if_pos (SB.fr_ok hk)⟩
    rw [checkE_good hk]
    obtain ⟨A2, m2, rfl, e2, hc2, _, y2⟩ := Bys.of_own O2.out
    have Y2 := Lib.hid y2
    have Z2 := Lib.hid (uown_nilz O2.out)
    obtain ⟨m, hm⟩ : ∃ m, (SB.mk ep ro he ct pg).bytes.length = m := ⟨_, rfl⟩
    rw [hm] at Z2 ⊢
    have HM := Lib.hid hm
    have R2 : Hid (0 ≤ ep % 2 ∧ ep % 2 ≤ 1) := Lib.hid (by omega)
    clear HB' hk O2 hm e2 hc2 y2
    obtain ⟨c0, c1, c2, c3, c4⟩ := HB2.out.cells
    have tq := Int.tmod_eq_emod_of_nonneg (b := 2) hep
    obtain ⟨q, hq⟩ : ∃ q, ep % 2 = q := ⟨_, rfl⟩
    rw [hq] at HE HP R2 tq
    have HQ := Lib.hid (And.intro hq tq)
    obtain ⟨L, hL⟩ : ∃ L, (SB.mk ep ro he ct pg).fr = L := ⟨_, rfl⟩
    rw [hL] at HE HP
    have R2q := R2.out
    clear hq hL tq
    go_wp2_with fail
    first | rw [HQ.out.1] | rw [HQ.out.2] | skip
    refine (refPack_all 1 q A2 m m2 (SB.mk ep ro he ct pg).bytes w2 HM.out Y2.out Z2.out).mono ?_
    rintro e w4 ⟨v4, rfl, o4, b4⟩
    rw [HP.out.2] at o4
    rw [HP.out.1]
    have HD4 := Lib.hid (HD2.out.below b4)
    have B4 := Lib.hid (B2.out.trans (b4.mono B2.out.size))
    obtain ⟨A4, m4, rfl, e4, hc4, _, y4⟩ := Bys.of_own o4
    have O4 := Lib.hid (own_outR HD2.out.lt o4)
    have Z4 := Lib.hid (uown_nilz o4)
    obtain ⟨r, hr⟩ : ∃ r, L.length = r := ⟨_, rfl⟩
    rw [hr] at Z4 ⊢
    have HRr := Lib.hid hr
    have HB4 := Lib.hid (HB2.out.kept b4)
    clear b4 o4 e4 hc4 y4 hr HD2 Y2 c0 c1 c2 c3 c4 HB2
    obtain ⟨c0, c1, c2, c3, c4⟩ := HB4.out.cells
    go_wp2_with fail
    first | rw [HQ.out.1] | rw [HQ.out.2] | skip
    refine (refWrite_any w4 q A4 r m4 L HRr.out O4.out Z4.out HD4.out).mono ?_
    rintro e w5 ⟨rfl, F5, hv5, hn5, hk5⟩
    have hm5 : Moves w4 G w5 F5 := ⟨hk5, hn5⟩
    have HV5 := Lib.hid hv5
    have HM5 := Lib.hid ((Moves.of_below (F := G) B4.out).trans hm5)
    clear hv5 hm5
    by_cases hw : d.writeE q L = 0
    · rw [hw]
      have HE1 := Lib.hid (HE.out.1.trans (if_pos hw))
      have HE2 := Lib.hid (HE.out.2.trans (if_pos hw))
      clear hw HE
      go_wp2_with fail
      refine (refFlush_any w5 HV5.out).mono ?_
      rintro e w6 ⟨rfl, F6, hv6, hn6, hk6⟩
      have hm6 : Moves w5 F5 w6 F6 := ⟨hk6, hn6⟩
      have HV6 := Lib.hid hv6
      have HM6 := Lib.hid (HM5.out.trans hm6)
      clear hv6 hm6
      go_wp2_with fail
      go_ret
      rw [HE1.out, HE2.out]
      exact ⟨rfl, F6, HV6.out, HM6.out.news, HM6.out.kept⟩
    · have hb : (d.writeE q L == 0) = false := by rw [beq_eq_false_iff_ne]; exact hw
      have HE1 := Lib.hid (HE.out.1.trans (if_neg hw))
      have HE2 := Lib.hid (HE.out.2.trans (if_neg hw))
      generalize d.writeE q L = er at *
      clear hw HE
      go_wp2_with fail
      go_ret
      rw [HE1.out, HE2.out]
      exact ⟨rfl, F5, HV5.out, HM5.out.news, HM5.out.kept⟩
end Go.Proofs.YtnmiccagkfpkiaaGreat

/-
  What the document's own Read comes to (package tailraceref05).
-/
namespace Go.Proofs.YtnmiccagkfpkiaaGreat
open Go.RowKit

/-- What it holds while the place k is to come. -/
def RRel (w : World) (n : Nat) (l : List UInt8) (g : Nat) (v i : Value) (wr : World) : Prop :=
  ∃ (k : Nat) (ys : List Int), i = .int .i64 k ∧ k + g = n ∧ k % 4 = 0 ∧ 4 * ys.length = k ∧ Hid (Rds l ys (l.drop k)) ∧ Hid (OwnI wr w.heap.size v ys) ∧ Hid (Below w.heap.size w wr)

theorem wrap64_small {n : Int} (h0 : -9223372036854775808 ≤ n) (h1 : n ≤ 9223372036854775807) : wrap64 n = n := by
  unfold wrap64
  omega

theorem sum_spell (x y z u : UInt8) : wrap64 (wrap64 (wrap64 (wrap64 (wrap64 (x.toNat : Int) * 16777216) + wrap64 (wrap64 (y.toNat : Int) * 65536)) + wrap64 (wrap64 (z.toNat : Int) * 256)) + wrap64 (u.toNat : Int)) = ((num4 x y z u : Nat) : Int) := by
  have := byte_lt x
  have := byte_lt y
  have := byte_lt z
  have := byte_lt u
  rw [wrap64_small (n := (x.toNat : Int)) (by omega) (by omega), wrap64_small (n := (y.toNat : Int)) (by omega) (by omega), wrap64_small (n := (z.toNat : Int)) (by omega) (by omega), wrap64_small (n := (u.toNat : Int)) (by omega) (by omega),
    wrap64_small (n := (x.toNat : Int) * 16777216) (by omega) (by omega), wrap64_small (n := (y.toNat : Int) * 65536) (by omega) (by omega), wrap64_small (n := (z.toNat : Int) * 256) (by omega) (by omega),
    wrap64_small (n := (x.toNat : Int) * 16777216 + (y.toNat : Int) * 65536) (by omega) (by omega), wrap64_small (n := (x.toNat : Int) * 16777216 + (y.toNat : Int) * 65536 + (z.toNat : Int) * 256) (by omega) (by omega),
    wrap64_small (n := (x.toNat : Int) * 16777216 + (y.toNat : Int) * 65536 + (z.toNat : Int) * 256 + (u.toNat : Int)) (by omega) (by omega)]
  unfold num4
  omega

set_option maxRecDepth 20000 in
theorem RRel.next {w wr w3 : World} {n k g q : Nat} {l : List UInt8} {u4 v3 : Value} {ys : List Int} {T : TypeId} {C : Array Value} (hkg : k + g = n) (hlt : k + 4 ≤ n) (h4 : k % 4 = 0) (hyk : 4 * ys.length = k)
    (hs : Rds l (ys ++ [(q : Int)]) (l.drop (k + 4))) (o1 : wr.ownsRow w.heap.size 3 1 u4 ys.length (intVals ys)) (HW : Below w.heap.size w wr)
    (hown3 : w3.ownsRow w.heap.size 3 1 v3 (ys.length + 1) (intVals ys ++ [.int .i64 (q : Int)])) (hg3 : (wr.alloc (.cells C T)).grownBy w3 u4.ownBlock) : RRel w n l (g - 4) v3 (.int .i64 ((k : Int) + 4)) w3 := by
  have bs := HW.size
  refine ⟨k + 4, ys ++ [(q : Int)], by go_num, by omega, by omega, ?_, hs, ?_, ?_⟩
  · rw [List.length_append, List.length_singleton]
    omega
  · show w3.ownsRow _ _ _ _ _ _
    rw [List.length_append, intVals_append]
    exact hown3
  · exact (HW.alloc bs _).grown hg3 (by simp; omega) (fun g hg => (o1.lt g hg).1)

set_option maxRecDepth 20000 in
set_option maxHeartbeats 3200000 in
theorem frefRead_any {R : Nat} (A : Option Addr) (n c : Nat) (l : List UInt8) (w : World) (hl : l.length = n) (hr : Bys w R A l) (hn : n ≤ 1000000) :
    Calls Tryz.prog 63 #[.slice A n c] w (FReadEnd w l) := by
  by_cases h4 : n % 4 = 0
  · obtain ⟨i0, hi, hz0, hz1, hz2⟩ := info_parts intInfo
    have hm : ((n : Int) % 4 != 0) = false := by
      simp
      omega
    have HS : Hid (Rds l [] (l.drop 0)) := Lib.hid (Rds.start l)
    have HR := Lib.hid hr
    have HL := Lib.hid hl
    clear hr
    go_enter Tryz.func63, Tryz.ntmps63
    go_wp2_with fail
    go_loopg [4, 5] n (fun g v i wr => RRel w n l g v i wr)
    case atStart => exact ⟨0, [], rfl, by omega, rfl, rfl, HS, Lib.hid (ownI_nil _ _), Lib.hid (Below.refl _ _)⟩
    case round =>
      obtain ⟨k, ys, rfl, hkg, hk4, hyk, HD, HO, HW⟩ := hrel
      by_cases hlt : k < n
      · obtain ⟨x, y, z, u, ex, ey, ez, eu, ed⟩ := four_of (l := l) (k := k) (by omega)
        obtain ⟨b, off, rfl, _, hc⟩ := (HR.out.kept HW.out).resolve_left (fun e => by rw [e] at hl; simp at hl; omega)
        have cx := hc k x ex
        have cy := hc (k + 1) y ey
        have cz := hc (k + 2) z ez
        have cu := hc (k + 3) u eu
        have j0 : (0 : Int) ≤ (k : Int) := by omega
        have j1 : (k : Int) + 1 < (n : Int) := by omega
        have j2 : (k : Int) + 2 < (n : Int) := by omega
        have j3 : (k : Int) + 3 < (n : Int) := by omega
        have j4 : (0 : Int) ≤ (k : Int) + 1 := by omega
        have j5 : (0 : Int) ≤ (k : Int) + 2 := by omega
        have j6 : (0 : Int) ≤ (k : Int) + 3 := by omega
        rw [ed] at HD
        clear ex ey ez eu ed hc
        go_wp2_with fail
        go_quiet (fail)
        rw [sum_spell]
        have HW2 := Lib.hid (belowN HW.out nq)
        have o1 : (wr.drewN nq).ownsRow w.heap.size 3 1 u4 ys.length (intVals ys) := HO.out
        clear HW HO cx cy cz cu j0 j1 j2 j3 j4 j5 j6
        generalize wr.drewN nq = wq at *
        have HLT := Lib.hid (num4_lt x y z u)
        have bs := HW2.out.size
        by_cases hle : num4 x y z u ≤ 2147483647
        · have HS2 := Lib.hid (HD.out.step hle)
          generalize num4 x y z u = q at *
          go_wp2_with (at_builtin; refine wpList_append_own _ rfl (.tmp 48) (.tmp 50) 31 rfl w.heap.size 3 i0 (.int .i64 0) 1 8 Tryz.underlying31 hi hz0 hz1 hz2 rfl (by decide) _ _ _ rfl (o1.alloc _) ⟨wq.heap.size, 0, none⟩ 1 1 [.int .i64 (q : Int)] rfl rfl (cell_one_new _ _ _) (by simp [Value.oneCell']) (by unfold maxLen; omega) (by omega) (by simp; omega) ?_; intro v3 w3 hown3 hg3 _)
          have HM := Lib.hid (RRel.next (w3 := w3) hkg (by omega) hk4 hyk HS2.out o1 HW2.out hown3 hg3)
          clear hown3 hg3 o1
          go_roundg (gk - 4)
          case measure => omega
          case rel => exact HM.out
        · have HP := Lib.hid (read_bad (HD.out.bad hle) HW2.out)
          generalize num4 x y z u = q at *
          go_wp2_with fail
          go_ret2
          exact HP.out
      · obtain rfl : k = n := by omega
        have hD := HD.out
        rw [List.drop_of_length_le (by rw [HL.out]; omega)] at hD
        have HP := Lib.hid (read_good hD.done HW.out HO.out)
        clear hD
        go_wp2_with fail
        go_ret2
        exact HP.out
  · have HP := Lib.hid (read_bad (w := w) (w' := w) (rd_bad l (by rw [hl]; exact h4)) (Below.refl _ _))
    have hm : ¬ ((n : Int) % 4 = 0) := by omega
    clear h4 hl hr
    go_enter Tryz.func63, Tryz.ntmps63
    go_wp2_with fail
    go_ret2
    exact HP.out
end Go.Proofs.YtnmiccagkfpkiaaGreat
