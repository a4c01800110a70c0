/-
  What the disk's Restart comes to; numbers in memory.
-/
import Derived.Test.YtillllegbgaalaaDFlush
namespace Go.Proofs.Ytillllegbgaalaa
open Go.RowKit Go.Maps

/-- Numbers that lie outside of F. -/
def OutN (w : World) (F : Nat → Prop) (A : Option Addr) (l : List Int) : Prop :=
  l = [] ∨ ∃ b off, A = some ⟨b, off, none⟩ ∧ ¬ F b ∧ ∀ i z, l[i]? = some z → w.cell? ⟨b, off + i, none⟩ = some (.int .i64 z) ∧ -9223372036854775808 ≤ z ∧ z ≤ 9223372036854775807

section
variable {w w' : World} {F F' : Nat → Prop} {A : Option Addr} {l : List Int}

theorem OutN.kept (h : OutN w F A l) (hk : Kept F w w') : OutN w' F A l := by
  rcases h with h | ⟨b, off, e, hF, hc⟩
  · exact Or.inl h
  · refine Or.inr ⟨b, off, e, hF, fun i z hz => ?_⟩
    obtain ⟨h0, h1⟩ := hc i z hz
    have hb := World.block_lt_of_cell? _ _ h0
    exact ⟨(World.cell?_of_block (w := w) (hk.block b hb hF)).trans h0, h1⟩

theorem OutN.fewer (h : OutN w F A l) (hF : ∀ k, F' k → F k ∨ w.heap.size ≤ k) : OutN w F' A l := by
  rcases l with _ | ⟨y, l⟩
  · exact Or.inl rfl
  · rcases h with h | ⟨b, off, e, hb, hc⟩
    · cases h
    · refine Or.inr ⟨b, off, e, fun h' => ?_, hc⟩
      rcases hF b h' with h' | h'
      · exact hb h'
      · have : b < w.heap.size := World.block_lt_of_cell? _ _ (hc 0 y rfl).1
        omega

theorem OutN.at_ (h : OutN w F A l) {k : Nat} (hk : k < l.length) :
    ∃ b off z, A = some ⟨b, off, none⟩ ∧ l[k]? = some z ∧ w.cell? ⟨b, off + k, none⟩ = some (.int .i64 z) ∧ -9223372036854775808 ≤ z ∧ z ≤ 9223372036854775807 := by
  rcases h with rfl | ⟨b, off, rfl, hb, hc⟩
  · exact absurd hk (by simp)
  · obtain ⟨h1, h2⟩ := hc k _ (List.getElem?_eq_getElem hk)
    exact ⟨b, off, l[k], rfl, List.getElem?_eq_getElem hk, h1, h2⟩
end

section
variable {F : Nat → Prop} {db bl bw : Nat} {gL gW : Ghost} {s : PS}

theorem keep_step {s : PS} {keep : List Int} {k : Nat} {x : Int} (hx : keep[k]? = some x) : (s.kept (keep.take k)).settled x = s.kept (keep.take (k + 1)) := by
  have e : (s.kept (keep.take k)).held x = s.held x := by
    unfold PS.held PS.kept
    dsimp only
    cases h : s.W x with
    | some l => rfl
    | none => simp [PS.held, h]
  have e2 : keep.take (k + 1) = keep.take k ++ [x] := by rw [List.take_add_one, hx]; rfl
  unfold PS.settled
  rw [e]
  show ({ s with L := fun j => if j = x then s.held x else (s.kept (keep.take k)).L j } : PS) = _
  unfold PS.kept
  congr 1
  funext j
  rw [e2]
  by_cases hj : j = x
  · rw [if_pos hj, if_pos (by simp [hj]), hj]
  · rw [if_neg hj]
    show (if j ∈ keep.take k then s.held j else s.L j) = _
    by_cases hm : j ∈ keep.take k
    · rw [if_pos hm, if_pos (by simp [hm])]
    · rw [if_neg hm, if_neg (by simp [hm, hj])]

theorem keep_none (s : PS) : s.kept [] = s := by
  unfold PS.kept
  simp

def RestartRel (w : World) (F : Nat → Prop) (db bl bw : Nat) (gW : Ghost) (s : PS) (keep : List Int) (k : Nat) (wr : World) : Prop :=
  ∃ gL' S, DiskAt wr F S db bl bw gL' gW (s.kept (keep.take k)) ∧ Kept F w wr

set_option maxHeartbeats 1600000 in
theorem restart_any (w : World) (A : Option Addr) (m c : Nat) (keep : List Int) (hl : keep.length = m) (hm : m ≤ 1000000) (hx : OutN w F A keep) (h : Dk w F db s) :
    Calls Try.prog 16 #[.pointer (some ⟨db, 0, none⟩), .slice A m c] w (Goes w F db (s.restarted keep) (.tuple #[])) := by
  obtain ⟨bl, bw, gL, gW, h⟩ := h
  have HD := Lib.hid h
  have HX := Lib.hid hx
  have HL := Lib.hid hl
  clear h hx hl
  go_enter Try.func16, Try.ntmps16
  go_wp2_with fail
  go_loopw [5, 10] (fun _ i wr => ∃ k : Nat, k ≤ m ∧ i = .int .i64 k ∧ RestartRel w F db bl bw gW s keep k wr) (fun _ i _ => m - (RowKit.intOf i).toNat)
  case atStart =>
    refine ⟨0, Nat.zero_le _, rfl, gL, fun _ => False, ?_, Kept.refl _ _⟩
    rw [List.take_zero, keep_none]
    exact HD.out
  case round =>
    obtain ⟨k, hk, rfl, gL', S, hd2, hk2⟩ := hrel
    have HD2 := Lib.hid hd2
    have HK2 := Lib.hid hk2
    by_cases hlt : k < m
    · obtain ⟨b, off, x, rfl, hx, hc, hx1, hx2⟩ := (HX.out.kept hk2).at_ (k := k) (by rw [HL.out]; exact hlt)
      have HXX := Lib.hid hx
      clear hd2 hk2 hx
      go_wp2_with fail
      refine (settle_any wr x hx1 hx2 HD2.out).mono ?_
      rintro e w3 ⟨rfl, gL3, hd4, row, hg3, hrow⟩
      rw [keep_step HXX.out] at hd4
      have HD4 := Lib.hid hd4
      have HK4 : Hid (Kept F w w3) := HK2.out.next ⟨hg3.os, hg3.tape, hg3.output, hg3.size, fun j hj hn => hg3.block j hj (fun e => hn (by rw [hrow j e.symm]; exact HD.out.fl))⟩
      clear hd4 hg3 hrow hc
      go_wp2_with fail
      go_roundw
      case rel => exact ⟨k + 1, by omega, by go_num, gL3, _, HD4.out, HK4.out⟩
      case measure => simp [RowKit.intOf]; omega
    · have hkm : k = m := by omega
      have c2r := hd2.cell 2 (v := .map (some bw)) rfl
      have HKM := Lib.hid hkm
      clear hd2 hk2 hkm
      go_wp2_with (refine wpList_clear_at _ rfl (.tmp 21) rfl bw _ rfl HD2.out.mW ?_; intro w4 hm4 hg4; have hd4 := HD2.out.cleared hm4 hg4; have d3 := hd4.cell 3 (v := .bool s.down) rfl; have d4 := hd4.cell 4 (v := .bool s.fused) rfl; have d5 := hd4.cell 5 (v := .int .i64 s.fuse) rfl; have f3 := hd4.free 3; have f4 := hd4.free 4; have f5 := hd4.free 5; have HD4 := Lib.hid hd4; have HK4 : Hid (Kept F w w4) := HK2.out.next (Kept.grown hg4 HD.out.fw); clear hd4 hg4 hm4)
      go_end0
      have h4 := HD4.out
      have e3 := Joins.block_setCell (i := 3) h4.str (.bool false)
      have e4 := Joins.block_setCell (i := 4) e3 (.bool false)
      have e5 := Joins.block_setCell (i := 5) e4 (.int .i64 0)
      have h5 := h4.field (d := false) (f := false) (n := 0) (by omega) e5 (fun j hj => (Below.heap_setCell _ _ _ _ hj).trans ((Below.heap_setCell _ _ _ _ hj).trans (Below.heap_setCell _ _ _ _ hj))) (by simp [World.setCell])
      refine ⟨rfl, F, ?_, fun k hk => Or.inl hk, HK4.out.next ((Kept.setCell w4 HD.out.fd _).next ((Kept.setCell _ HD.out.fd _).next (Kept.setCell _ HD.out.fd _)))⟩
      have e6 : keep.take k = keep := List.take_of_length_le (by rw [HL.out, HKM.out]; exact Nat.le_refl _)
      rw [e6] at h5
      exact h5.rest
end
end Go.Proofs.Ytillllegbgaalaa
