/-
  What the document's own Flush and Restart come to.
-/
import Derived.Test.YtillllegbgaalaaDRefIn
import Derived.Deep.QuietTactic
import Derived.BigQuiet
namespace Go.Proofs.Ytillllegbgaalaa
open Go.RowKit Go.Maps

def firsts (n : Nat) : Int → Bool := fun x => decide (0 ≤ x ∧ x < (n : Int))

theorem firsts_step (n : Nat) : (fun x => firsts n x || (true && decide (x = (n : Int)))) = firsts (n + 1) := by
  funext x
  unfold firsts
  rw [Bool.eq_iff_iff]
  simp only [Bool.true_and, Bool.or_eq_true, decide_eq_true_eq]
  omega
theorem firsts_step' (n : Nat) : (fun x => firsts n x || decide (x = (n : Int))) = firsts (n + 1) := by
  rw [← firsts_step]
  rfl
theorem firsts_zero : firsts 0 = fun _ => false := by
  funext x
  unfold firsts
  rw [decide_eq_false_iff_not]
  omega

section
variable {G : Nat → Prop} {rb lb wb ib : Nat} {left : Int} {rL rW : Rw} {rI : List Bool} {s : PS}

theorem RefAt.sub_none {w : World} (h : RefAt w G rb lb wb ib left rL rW rI s) : RefAt w G rb lb wb ib left rL rW rI (s.sub (fun _ => false) (fun _ => false)) := h.cong (fun _ _ => rfl) (fun _ _ => rfl)

theorem RefAt.sub_all {w : World} (h : RefAt w G rb lb wb ib left rL rW rI (s.sub (firsts s.size) (firsts s.size))) : RefAt w G rb lb wb ib left rL rW rI s.all :=
  h.cong (L' := s.held) (W' := fun _ => none)
    (fun j hj => by
      have hj : j < s.size := hj
      show s.held j = if firsts s.size j then s.held j else s.L j
      have : firsts s.size j = true := by unfold firsts; rw [decide_eq_true_iff]; omega
      rw [this]
      rfl)
    (fun j hj => by
      have hj : j < s.size := hj
      show none = if firsts s.size j then none else s.W j
      have : firsts s.size j = true := by unfold firsts; rw [decide_eq_true_iff]; omega
      rw [this]
      rfl)

def RFlushRel (w : World) (G : Nat → Prop) (rb lb wb ib : Nat) (left : Int) (s : PS) (D : Int → Bool) (j : Nat) (wr : World) : Prop :=
  ∃ rL rW rI, RefAt wr G rb lb wb ib left rL rW rI (s.sub (fun x => D x || firsts j x) (fun x => D x || firsts j x)) ∧ Kept G w wr

set_option maxHeartbeats 1600000 in
theorem refFlush_any (w : World) (h : Rk w G rb s) :
    Calls Try.prog 29 #[.pointer (some ⟨rb, 0, none⟩)] w (RGoes w G rb s.flushed (.int .i64 s.flushE)) := by
  have H0 := Lib.hid h
  obtain ⟨lb, wb, ib, left, rL, rW, rI, h⟩ := h
  have c3 := h.cell 3 (v := .bool s.down) rfl
  by_cases hd : s.down = true
  · rw [hd] at c3
    have eB : s.flushed = s := by unfold PS.flushed; rw [if_pos hd]
    have eE : s.flushE = 40 := by unfold PS.flushE; rw [if_pos hd]
    rw [eB, eE]
    clear h eB eE hd
    go_enter Try.func29, Try.ntmps29
    go_wp2_with fail
    go_ret
    exact ⟨rfl, G, H0.out, fun k hk => Or.inl hk, Kept.refl _ _⟩
  · have hd' : s.down = false := by simpa using hd
    rw [hd'] at c3
    by_cases hmay : s.may = true
    · have eB : s.flushed = s.acted.all := by unfold PS.flushed; rw [if_neg hd, if_pos hmay]
      have eE : s.flushE = 0 := by unfold PS.flushE; rw [if_neg hd, if_pos hmay]
      rw [eB, eE]
      have HA : Hid (Calls Try.prog 43 #[.pointer (some ⟨rb, 0, none⟩)] w fun e w' => e = .returned (.bool true) ∧ (∃ left', RefAt w' G rb lb wb ib left' rL rW rI s.acted) ∧ Kept G w w') := hmay ▸ refAct_any w h
      clear h eB eE hd hd' hmay H0
      generalize s.acted = s1 at *
      go_enter Try.func29, Try.ntmps29
      go_wp2_with fail
      refine HA.out.mono ?_
      rintro e w1 ⟨rfl, ⟨left1, hr1⟩, hk1⟩
      have hs4 := hr1.s4
      have HR1 := Lib.hid hr1
      have HK1 := Lib.hid hk1
      clear hr1 hk1 c3 HA
      go_wp2_with fail
      go_loopw [4] (fun i wr => ∃ j : Nat, j ≤ s1.size ∧ i = .int .i64 j ∧ RFlushRel w1 G rb lb wb ib left1 s1 (fun _ => false) j wr) (fun i _ => s1.size - (RowKit.intOf i).toNat)
      case atStart =>
        refine ⟨0, Nat.zero_le _, rfl, rL, rW, rI, ?_, Kept.refl _ _⟩
        rw [firsts_zero]
        exact HR1.out.sub_none
      case round =>
        obtain ⟨j, hj, rfl, rL2, rW2, rI2, hr2, hk2⟩ := hrel
        have c0 := hr2.cell 0 (v := .slice (some ⟨lb, 0, none⟩) s1.size s1.size) rfl
        have HR2 := Lib.hid hr2
        have HK2 := Lib.hid hk2
        clear hr2 hk2
        by_cases hlt : j < s1.size
        · go_wp2_with fail
          refine (refSettle_any wr j hlt true _ _ (fun _ e => e) HR2.out).mono ?_
          rintro e w3 ⟨rfl, ⟨rL3, rW3, rI3, hr3⟩, hk3⟩
          have HK3 := Lib.hid (HK2.out.next hk3)
          have HR3 : Hid (RefAt w3 G rb lb wb ib left1 rL3 rW3 rI3 (s1.sub (fun x => false || firsts (j + 1) x) (fun x => false || firsts (j + 1) x))) := by
            simp only [Bool.false_or, Bool.true_and, firsts_step'] at hr3 ⊢
            exact hr3
          clear hr3 hk3 HR2 HK2 c0
          go_wp2_with fail
          go_roundw
          case rel => exact ⟨j + 1, by omega, by go_num, rL3, rW3, rI3, HR3.out, HK3.out⟩
          case measure => simp [RowKit.intOf]; omega
        · obtain rfl : j = s1.size := by omega
          have HR4 : Hid (RefAt wr G rb lb wb ib left1 rL2 rW2 rI2 s1.all) := by
            have := HR2.out
            simp only [Bool.false_or] at this
            exact this.sub_all
          clear HR2
          go_wp2_with fail
          go_ret
          exact ⟨rfl, G, HR4.out.rk, fun k hk => Or.inl hk, HK1.out.next HK2.out⟩
    · have hmay' : s.may = false := by simpa using hmay
      have eB : s.flushed = s.acted := by unfold PS.flushed; rw [if_neg hd, if_neg hmay]
      have eE : s.flushE = 40 := by unfold PS.flushE; rw [if_neg hd, if_neg hmay]
      rw [eB, eE]
      have HA : Hid (Calls Try.prog 43 #[.pointer (some ⟨rb, 0, none⟩)] w fun e w' => e = .returned (.bool false) ∧ (∃ left', RefAt w' G rb lb wb ib left' rL rW rI s.acted) ∧ Kept G w w') := hmay' ▸ refAct_any w h
      clear h eB eE hd hd' hmay hmay' H0
      go_enter Try.func29, Try.ntmps29
      go_wp2_with fail
      refine HA.out.mono ?_
      rintro e w1 ⟨rfl, ⟨left1, hr1⟩, hk1⟩
      go_wp2_with fail
      go_ret
      exact ⟨rfl, G, hr1.rk, fun k hk => Or.inl hk, hk1⟩

def inList (l : List Int) : Int → Bool := fun x => decide (x ∈ l)

theorem inList_step {l : List Int} {k : Nat} {z : Int} (h : l[k]? = some z) : (fun x => inList (l.take k) x || decide (x = z)) = inList (l.take (k + 1)) := by
  funext x
  unfold inList
  rw [Bool.eq_iff_iff, List.take_add_one, h]
  simp

def RRestRel (w : World) (G : Nat → Prop) (rb lb wb ib : Nat) (left : Int) (s : PS) (keep : List Int) (j : Nat) (wr : World) : Prop :=
  ∃ rL rW rI, RefAt wr G rb lb wb ib left rL rW rI (s.sub (inList (keep.take j)) (inList (keep.take j))) ∧ Kept G w wr

def RRestRel2 (w : World) (G : Nat → Prop) (rb lb wb ib : Nat) (left : Int) (s : PS) (keep : List Int) (j : Nat) (wr : World) : Prop :=
  ∃ rL rW rI, RefAt wr G rb lb wb ib left rL rW rI (s.sub (inList keep) (fun x => inList keep x || firsts j x)) ∧ Kept G w wr

theorem or_assoc_fun (D : Int → Bool) (n : Nat) : (fun x => (D x || firsts n x) || decide (x = (n : Int))) = fun x => D x || firsts (n + 1) x := by
  funext x
  rw [Bool.or_assoc]
  exact congrArg (D x || ·) (congrFun (firsts_step' n) x)

theorem RefAt.sub_skip {w : World} {D : Int → Bool} {z : Int} (h : RefAt w G rb lb wb ib left rL rW rI (s.sub D D)) (hz : ∀ j : Nat, j < s.size → (j : Int) = z → s.W j = none ∨ D j = true) :
    RefAt w G rb lb wb ib left rL rW rI (s.sub (fun x => D x || decide (x = z)) (fun x => D x || decide (x = z))) :=
  h.cong (fun j hj => by
      have hj : j < s.size := hj
      show (if D j || decide ((j : Int) = z) then s.held j else s.L j) = if D j then s.held j else s.L j
      by_cases e : (j : Int) = z
      · cases hD : D j with
        | true => rfl
        | false =>
          rcases hz j hj e with h1 | h1
          · simp only [e, decide_true, Bool.or_true, if_true, Bool.false_eq_true, if_false]
            rw [← e]
            unfold PS.held
            rw [h1]
            rfl
          · rw [h1] at hD
            cases hD
      · simp [e])
    (fun j hj => by
      have hj : j < s.size := hj
      show (if D j || decide ((j : Int) = z) then none else s.W j) = if D j then none else s.W j
      by_cases e : (j : Int) = z
      · cases hD : D j with
        | true => rfl
        | false =>
          rcases hz j hj e with h1 | h1
          · simp only [e, decide_true, Bool.or_true, if_true, Bool.false_eq_true, if_false]
            rw [← e, h1]
          · rw [h1] at hD
            cases hD
      · simp [e])

theorem RefAt.drewN {w : World} (h : RefAt w G rb lb wb ib left rL rW rI s) (n : Nat) : RefAt (w.drewN n) G rb lb wb ib left rL rW rI s := h.same (fun _ _ => rfl) (Nat.le_refl _)
theorem keptDrewN {w w' : World} (h : Kept G w w') (n : Nat) : Kept G w (w'.drewN n) := ⟨h.os, h.tape, h.output, h.size, h.block⟩

theorem RefAt.sub_keep {w : World} {keep : List Int} (h : RefAt w G rb lb wb ib left rL rW rI (s.sub (inList keep) (fun x => inList keep x || firsts s.size x))) : RefAt w G rb lb wb ib left rL rW rI { s.kept keep with W := fun _ => none } :=
  h.cong (L' := fun j => if j ∈ keep then s.held j else s.L j) (W' := fun _ => none)
    (fun j _ => by
      show (if (j : Int) ∈ keep then s.held j else s.L j) = if inList keep j then s.held j else s.L j
      unfold inList
      by_cases e : (j : Int) ∈ keep
      · simp [e]
      · simp [e])
    (fun j hj => by
      have hj : j < s.size := hj
      show none = if inList keep j || firsts s.size j then none else s.W j
      have : firsts s.size j = true := by unfold firsts; rw [decide_eq_true_iff]; omega
      rw [this]
      simp)

set_option maxRecDepth 20000 in
set_option maxHeartbeats 3200000 in
theorem refRestart_any (w : World) (A : Option Addr) (m c : Nat) (keep : List Int) (hl : keep.length = m) (hm : m ≤ 1000000) (hx : OutN w G A keep) (h : Rk w G rb s) :
    Calls Try.prog 31 #[.pointer (some ⟨rb, 0, none⟩), .slice A m c] w (RGoes w G rb (s.restarted keep) (.tuple #[])) := by
  obtain ⟨lb, wb, ib, left, rL, rW, rI, h⟩ := h
  have hs4 := h.s4
  have HD := Lib.hid h
  have HX := Lib.hid hx
  have HL := Lib.hid hl
  clear h hx hl
  go_enter Try.func31, Try.ntmps31
  go_wp2_with fail
  go_loopw [4] (fun i wr => ∃ k : Nat, k ≤ m ∧ i = .int .i64 k ∧ RRestRel w G rb lb wb ib left s keep k wr) (fun i _ => m - (RowKit.intOf i).toNat)
  case atStart => exact ⟨0, Nat.zero_le _, rfl, rL, rW, rI, HD.out.sub_none, Kept.refl _ _⟩
  case round =>
    obtain ⟨k, hk, rfl, rL2, rW2, rI2, hr2, hk2⟩ := hrel
    have HR2 := Lib.hid hr2
    have HK2 := Lib.hid hk2
    by_cases hlt : k < m
    · obtain ⟨b, off, z, rfl, hz, hc, hz1, hz2⟩ := (HX.out.kept hk2).at_ (k := k) (by rw [HL.out]; exact hlt)
      have c0 := hr2.cell 0 (v := .slice (some ⟨lb, 0, none⟩) s.size s.size) rfl
      have c2 := hr2.cell 2 (v := .slice (some ⟨ib, 0, none⟩) s.size s.size) rfl
      have HZZ := Lib.hid hz
      have HC := Lib.hid (refIs_any (s := s) wr z _ c0)
      by_cases hh : s.has z = true
      · rw [hh] at HC
        obtain ⟨hn0, hn1⟩ := PS.has_iff.1 hh
        obtain ⟨i, rfl⟩ : ∃ i : Nat, z = (i : Int) := ⟨z.toNat, by omega⟩
        have his : i < s.size := by omega
        obtain ⟨p, q, bb, e1, e2, e3, k1, k2, k3, -, -, -⟩ := hr2.at_ (i := i) his
        have HW := Lib.hid (hr2.sW i q bb e2 e3)
        clear hr2 hk2 hz hh e1 e2 e3 k1 k2
        cases bb with
        | true =>
          go_wp2_with fail
          refine HC.out.mono ?_
          rintro e w' ⟨rfl, rfl⟩
          go_wp2_with fail
          go_quiet (fail)
          rename_i nq
          go_wp2_with fail
          refine (refSettle_any (wr.drewN _) i his true _ _ (fun _ e => e) (HR2.out.drewN _)).mono ?_
          rintro e w3 ⟨rfl, ⟨rL3, rW3, rI3, hr3⟩, hk3⟩
          have HK3 := Lib.hid ((keptDrewN HK2.out _).next hk3)
          have HR3 : Hid (RefAt w3 G rb lb wb ib left rL3 rW3 rI3 (s.sub (inList (keep.take (k + 1))) (inList (keep.take (k + 1))))) := by
            simp only [Bool.true_and, inList_step HZZ.out] at hr3
            exact hr3
          clear hr3 hk3 HR2 HK2 c0 c2 k3 HC HW hc
          go_wp2_with fail
          go_roundw
          case rel => exact ⟨k + 1, by omega, by go_num, rL3, rW3, rI3, HR3.out, HK3.out⟩
          case measure => simp [RowKit.intOf]; omega
        | false =>
          have HR3 : Hid (RefAt wr G rb lb wb ib left rL2 rW2 rI2 (s.sub (inList (keep.take (k + 1))) (inList (keep.take (k + 1))))) := by
            have := HR2.out.sub_skip (z := (i : Int)) (fun j hj e => by
              obtain rfl : j = i := by omega
              have hw := HW.out
              have hw : (if inList (keep.take k) j then none else s.W j) = none := hw
              cases e : inList (keep.take k) j with
              | true => exact Or.inr rfl
              | false => rw [e] at hw; exact Or.inl hw)
            rw [inList_step HZZ.out] at this
            exact this
          clear HR2 HW
          go_wp2_with fail
          refine HC.out.mono ?_
          rintro e w' ⟨rfl, rfl⟩
          go_wp2_with fail
          go_quiet (fail)
          clear c0 c2 k3 HC hc
          go_wp2_with fail
          go_roundw
          case rel => exact ⟨k + 1, by omega, by go_num, rL2, rW2, rI2, HR3.out.drewN _, keptDrewN HK2.out _⟩
          case measure => simp [RowKit.intOf]; omega
      · have hh' : s.has z = false := by simpa using hh
        rw [hh'] at HC
        have HR3 : Hid (RefAt wr G rb lb wb ib left rL2 rW2 rI2 (s.sub (inList (keep.take (k + 1))) (inList (keep.take (k + 1))))) := by
          have := HR2.out.sub_skip (z := z) (fun j hj e => by
            exfalso
            exact hh (PS.has_iff.2 (by omega)))
          rw [inList_step HZZ.out] at this
          exact this
        clear hr2 hk2 hz hh hh' HR2
        go_wp2_with fail
        refine HC.out.mono ?_
        rintro e w' ⟨rfl, rfl⟩
        go_wp2_with fail
        go_quiet (fail)
        clear c0 c2 HC hc
        go_wp2_with fail
        go_roundw
        case rel => exact ⟨k + 1, by omega, by go_num, rL2, rW2, rI2, HR3.out.drewN _, keptDrewN HK2.out _⟩
        case measure => simp [RowKit.intOf]; omega
    · have hkk : keep.take k = keep := List.take_of_length_le (by rw [HL.out]; omega)
      have HR3 : Hid (RefAt wr G rb lb wb ib left rL2 rW2 rI2 (s.sub (inList keep) (inList keep))) := by
        rw [hkk] at hr2
        exact hr2
      clear hr2 hk2 HR2 hkk
      go_wp2_with fail
      clear hlt hk
      obtain ⟨wo, hwo⟩ : ∃ wo : World, wo = wr := ⟨_, rfl⟩
      subst hwo
      go_loopw [6] (fun i wi => ∃ j : Nat, j ≤ s.size ∧ i = .int .i64 j ∧ RRestRel2 w G rb lb wb ib left s keep j wi) (fun i _ => s.size - (RowKit.intOf i).toNat)
      case atStart =>
        refine ⟨0, Nat.zero_le _, rfl, rL2, rW2, rI2, ?_, HK2.out⟩
        rw [firsts_zero]
        simp only [Bool.or_false]
        exact HR3.out
      case round =>
        obtain ⟨j, hj, rfl, rL4, rW4, rI4, hr4, hk4⟩ := hrel
        have c0 := hr4.cell 0 (v := .slice (some ⟨lb, 0, none⟩) s.size s.size) rfl
        have c3 := hr4.cell 3 (v := .bool s.down) rfl
        have c4 := hr4.cell 4 (v := .bool s.fused) rfl
        have f3 := hr4.free 3
        have f4 := hr4.free 4
        have HR4 := Lib.hid hr4
        have HK4 := Lib.hid hk4
        clear hr4 hk4
        by_cases hlt : j < s.size
        · go_wp2_with fail
          refine (refSettle_any wr j hlt false _ _ (fun e => by cases e) HR4.out).mono ?_
          rintro e w5 ⟨rfl, ⟨rL5, rW5, rI5, hr5⟩, hk5⟩
          have HK5 := Lib.hid (HK4.out.next hk5)
          have HR5 : Hid (RefAt w5 G rb lb wb ib left rL5 rW5 rI5 (s.sub (inList keep) (fun x => inList keep x || firsts (j + 1) x))) := by
            simp only [Bool.false_and, Bool.or_false, or_assoc_fun] at hr5
            exact hr5
          clear hr5 hk5 HR4 HK4 c0 c3 c4 f3 f4
          go_wp2_with fail
          go_roundw
          case rel => exact ⟨j + 1, by omega, by go_num, rL5, rW5, rI5, HR5.out, HK5.out⟩
          case measure => simp [RowKit.intOf]; omega
        · obtain rfl : j = s.size := by omega
          have HR6 := Lib.hid HR4.out.sub_keep
          clear HR4
          go_wp2_with fail
          go_end0
          have h6 := HR6.out
          have e3 := Joins.block_setCell (i := 3) h6.str (.bool false)
          have e4 := Joins.block_setCell (i := 4) e3 (.bool false)
          have h7 := h6.field (d := false) (f := false) (n := 0) (left' := left) (fun e => by cases e) h6.l1 h6.l2 e4 (fun j hj => (Below.heap_setCell _ _ _ _ hj).trans (Below.heap_setCell _ _ _ _ hj)) (by simp [World.setCell])
          exact ⟨rfl, G, h7.rk, fun k hk => Or.inl hk, HK4.out.next ((Kept.setCell wr HD.out.gr _).next (Kept.setCell _ HD.out.gr _))⟩
end
end Go.Proofs.Ytillllegbgaalaa
