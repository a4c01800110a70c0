/-
  What the disk's Flush comes to.
-/
import Derived.Test.YtgkdlbcpckdmkaaDWrite
namespace Go.Proofs.Ytgkdlbcpckdmkaa
open Go.RowKit Go.Maps

section
variable {F : Nat → Prop} {db bl bw : Nat} {gL gW : Ghost} {s : PS}

/-- What a flush has made last so far: all but what is still to come. -/
def FlushL (s : PS) (left : Lit → Bool) : Int → List UInt8 := fun i => if left (.int .i64 i) then s.L i else s.held i

theorem flush_step {s : PS} {left : Lit → Bool} {x : Int} {l : List UInt8} (hx : s.W x = some l) :
    ({ s with L := FlushL s left }).settled x = { s with L := FlushL s (fun z => left z && !z.sameKey (.int .i64 x)) } := by
  unfold PS.settled
  congr 1
  funext j
  show (if j = x then ({ s with L := FlushL s left } : PS).held x else FlushL s left j) = FlushL s (fun z => left z && !z.sameKey (.int .i64 x)) j
  by_cases e : j = x
  · subst e
    rw [if_pos rfl]
    unfold FlushL PS.held
    simp [WideAt.sameKey_self (litKey j), hx]
  · rw [if_neg e]
    unfold FlushL
    simp [Maps.sameKey_ne (a := Lit.int .i64 j) (b := Lit.int .i64 x) (fun e' => e (by injection e'))]

theorem flush_start {w : World} {es : List (Lit × DataW Value)} (h : DiskAt w F (fun _ => False) db bl bw gL gW s) (hf : ∀ i v, vals gW i = some v ↔ (Lit.int .i64 i, DataW.held v) ∈ es) :
    { s with L := FlushL s (Maps.has (DataW.map es)) } = s := by
  have : FlushL s (Maps.has (DataW.map es)) = s.L := by
    funext i
    unfold FlushL
    cases hh : Maps.has (DataW.map es) (.int .i64 i) with
    | true => rfl
    | false =>
      have hn : gW i = none := by
        cases hg : gW i with
        | none => rfl
        | some p =>
          have : (Lit.int .i64 i, DataW.held p.1) ∈ es := (hf i p.1).1 (by unfold vals; rw [hg]; rfl)
          rw [has_mem (litKey i) this] at hh
          cases hh
      simp only [Bool.false_eq_true, if_false]
      unfold PS.held
      rw [h.sW, hn]
      rfl
  rw [this]

theorem flush_end {s : PS} {left : Lit → Bool} (hl : ∀ kl, left kl = false) : ({ ({ s with L := FlushL s left } : PS) with W := fun _ => none } : PS) = s.all := by
  have : FlushL s left = s.held := by
    funext i
    unfold FlushL
    rw [hl]
    rfl
  show ({ s with L := FlushL s left, W := fun _ => none } : PS) = _
  rw [this]
  rfl

/-- All that waits is cleared. -/
theorem DiskAt.cleared {w w' : World} {S : Int → Prop} (h : DiskAt w F S db bl bw gL gW s) (hm : MapAt w' bw (fun _ => none)) (hg : w.grownBy w' (some bw)) : DiskAt w' F (fun _ => False) db bl bw gL (fun _ => none) { s with W := fun _ => none } :=
  h.putW hg hm (fun i v l hi => by cases hi) (fun i j v l u m k hi => by cases hi) (fun i j v l u m k _ hi => by cases hi) (fun i => rfl)

/-- How a flush goes on. -/
def FlushRel (w : World) (F : Nat → Prop) (db bl bw : Nat) (gW : Ghost) (s : PS) (r n : Nat) (es : List (Lit × DataW Value)) (wr : World) : Prop :=
  ∃ left cnt gL' S, wr.ranges Try.prog 3 heldR bw r n (.map es) left cnt ∧ DiskAt wr F S db bl bw gL' gW { s with L := FlushL s left } ∧ Kept F w wr ∧ (∀ kl, left kl = true → ∃ i v, kl = .int .i64 i ∧ gW i = some v)

set_option maxRecDepth 20000 in
set_option maxHeartbeats 1600000 in
theorem flush_any (w : World) (h : Dk w F db s) :
    Calls Try.prog 33 #[.pointer (some ⟨db, 0, none⟩)] w (Goes w F db s.flushed (.int .i64 s.flushE)) := by
  have H0 := Lib.hid h
  obtain ⟨bl, bw, gL, gW, h⟩ := h
  have c3 := h.cell 3 (v := .bool s.down) rfl
  by_cases hd : s.down = true
  · rw [hd] at c3
    have eB : s.flushed = s := by unfold PS.flushed; rw [if_pos hd]
    have eE : s.flushE = 40 := by unfold PS.flushE; rw [if_pos hd]
    rw [eB, eE]
    clear h eB eE hd
    go_enter Try.func33, Try.ntmps33
    go_wp2_with fail
    go_ret
    exact ⟨rfl, F, H0.out, fun k hk => Or.inl hk, Kept.refl _ _⟩
  · have hd' : s.down = false := by simpa using hd
    rw [hd'] at c3
    by_cases hmay : s.may = true
    · have eB : s.flushed = s.acted.all := by unfold PS.flushed; rw [if_neg hd, if_pos hmay]
      have eE : s.flushE = 0 := by unfold PS.flushE; rw [if_neg hd, if_pos hmay]
      rw [eB, eE]
      have HA : Hid (Calls Try.prog 50 #[.pointer (some ⟨db, 0, none⟩)] w fun e w' => e = .returned (.bool true) ∧ DiskAt w' F (fun _ => False) db bl bw gL gW s.acted ∧ Kept F w w') := hmay ▸ act_any w h
      clear h eB eE hd hd' hmay H0
      generalize s.acted = s1 at *
      go_enter Try.func33, Try.ntmps33
      go_wp2_with fail
      refine HA.out.mono ?_
      rintro e w1 ⟨rfl, hd1, hk1⟩
      have c2 := hd1.cell 2 (v := .map (some bw)) rfl
      have HD1 := Lib.hid hd1
      have HK1 := Lib.hid hk1
      obtain ⟨n, es, ho, hk, hf⟩ := hd1.mW
      have HF := Lib.hid hf
      have HKY := Lib.hid hk
      have HO := Lib.hid ho
      clear hd1 hk1 c3 HA hk hf ho
      go_wp2_with (at_range; refine wpList_range_own _ rfl _ 54 rfl 3 33 keyLaw Try.underlying54 _ bw n _ rfl HO.out ?_; intro w0 hrg0 hg0 hs0)
      go_frame
      go_loopw [3] (fun _ wr => FlushRel w1 F db bl bw gW s1 w1.heap.size n es wr) (fun _ wr => wr.rangeLeft bw w1.heap.size)
      case atStart =>
        have hd0 := HD1.out.same (w' := w0) (fun k hk => hg0.block k (HD1.out.lt k hk) (by simp)) hg0.size
        refine ⟨_, _, gL, fun _ => False, hrg0, ?_, ⟨hg0.os, hg0.tape, hg0.output, hg0.size, fun k hk _ => hg0.block k hk (by simp)⟩, fun kl hkl => ?_⟩
        · rw [flush_start HD1.out HF.out]
          exact hd0
        · obtain ⟨d, hm⟩ := mem_has hkl
          obtain ⟨i, v, e, _⟩ := HKY.out _ hm
          injection e with e1 e2
          subst e1
          subst e2
          have := (HF.out i v).2 hm
          unfold vals at this
          obtain ⟨p, hp, _⟩ := Option.map_eq_some_iff.1 this
          exact ⟨i, p, rfl, hp⟩
      case round =>
        obtain ⟨left, cnt, gL', S, hrg, hd2, hk2, hlk0⟩ := hrel
        have c2r := hd2.cell 2 (v := .map (some bw)) rfl
        have HD2 := Lib.hid hd2
        have HK2 := Lib.hid hk2
        have HLK := Lib.hid hlk0
        clear hd2 hk2 hlk0 hrg0 hs0 hg0 c2
        go_wp2_with (at_next; refine wpList_next_ranges _ rfl _ rfl 3 keyLaw heldR encZ id (fun key kl hk => by obtain ⟨x, hx, _⟩ := Maps.keyOf_i64 Try.underlying3 hk; exact ⟨x, hx⟩) (fun v _ _ => ⟨v, rfl⟩) bw w1.heap.size n _ _ _ rfl hrg ?_ ?_)
        · intro hc0 hl0
          go_wp2_with (refine wpList_clear_at _ rfl (.tmp 32) rfl bw _ rfl HD2.out.mW ?_; intro w4 hm4 hg4)
          go_ret
          have hd4 := HD2.out.cleared hm4 hg4
          rw [flush_end hl0] at hd4
          exact ⟨rfl, F, hd4.rest, fun k hk => Or.inl hk, HK1.out.next (HK2.out.next (Kept.grown hg4 HD1.out.fw))⟩
        · intro x c kl yd yp w2 cnt2 hkey hlk hv hat hrg2 hlt hg2 hs2 hen
          obtain ⟨x', ex, rfl, _⟩ := Maps.keyOf_i64 Try.underlying3 hkey
          obtain rfl : x = x' := encZ_inj ex
          obtain ⟨i, p, ei, hp⟩ := HLK.out _ hlk
          obtain rfl : x = i := by injection ei
          have hd3 := HD2.out.same (w' := w2) (fun k hk => hg2.block k (HD2.out.lt k hk) (fun e => by have := HD1.out.lt k hk; injection e with e; omega)) hg2.size
          obtain ⟨_, _, _, hb1, hb2⟩ := hd3.oW x p.1 p.2 hp
          have hs4 : (s1.size : Int) ≤ 4096 := by have := HD1.out.s4; omega
          have hb3 : x < (s1.size : Int) := hb2
          have HD3 := Lib.hid hd3
          have HK3 : Hid (Kept F w1 w2) := HK2.out.trans (Kept.grown (F := (· = w1.heap.size)) hg2 rfl) (fun k e => Or.inr (by omega))
          clear hs2 hd3 hb2 hkey ei
          go_wp2_with fail
          refine (settle_any w2 x (by omega) (by omega) HD3.out).mono ?_
          rintro e w3 ⟨rfl, gL3, hd4, row, hg3, hrow⟩
          have hne1 : some bw ≠ row := fun e => HD1.out.ne (hrow _ e.symm).symm
          have hne2 : some w1.heap.size ≠ row := fun e => by have := hrow _ e.symm; have := HD1.out.lt _ HD1.out.fl; omega
          have hrg3 := hrg2.kept hg3 hne1 hne2
          have HD4 := Lib.hid hd4
          have HG3 := Lib.hid hg3
          have HRW := Lib.hid hrow
          clear hd4 hg3 hrow hne1 hne2
          go_wp2_with fail
          go_roundw
          case rel =>
            have hW : s1.W x = some p.2 := by
              have h5 := HD1.out.sW x
              rw [h5, hp]
              rfl
            have h6 := HD4.out
            rw [flush_step hW] at h6
            refine ⟨_, cnt2, gL3, _, hrg3, h6, ?_, ?_⟩
            · exact HK3.out.next ⟨HG3.out.os, HG3.out.tape, HG3.out.output, HG3.out.size, fun k hk hn => HG3.out.block k hk (fun e => hn (by rw [HRW.out k e.symm]; exact HD1.out.fl))⟩
            · intro kl hkl
              exact HLK.out kl (by simp only [Bool.and_eq_true] at hkl; exact hkl.1)
          case measure => rw [hrg3.left_eq, hrg.left_eq]; exact hlt
    · have hmay' : s.may = false := by simpa using hmay
      have eB : s.flushed = s.acted := by unfold PS.flushed; rw [if_neg hd, if_neg hmay]
      have eE : s.flushE = 40 := by unfold PS.flushE; rw [if_neg hd, if_neg hmay]
      rw [eB, eE]
      have HA : Hid (Calls Try.prog 50 #[.pointer (some ⟨db, 0, none⟩)] w fun e w' => e = .returned (.bool false) ∧ DiskAt w' F (fun _ => False) db bl bw gL gW s.acted ∧ Kept F w w') := hmay' ▸ act_any w h
      clear h eB eE hd hd' hmay hmay' H0
      go_enter Try.func33, Try.ntmps33
      go_wp2_with fail
      refine HA.out.mono ?_
      rintro e w1 ⟨rfl, hd1, hk1⟩
      go_wp2_with fail
      go_ret
      exact ⟨rfl, F, ⟨bl, bw, gL, gW, hd1⟩, fun k hk => Or.inl hk, hk1⟩
end
end Go.Proofs.Ytgkdlbcpckdmkaa
