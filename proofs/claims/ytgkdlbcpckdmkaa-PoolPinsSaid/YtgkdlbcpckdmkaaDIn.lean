/-
  What the disk's own functions come to: has, held, mayAct, settle.
-/
import Derived.Test.YtgkdlbcpckdmkaaDisk
namespace Go.Proofs.Ytgkdlbcpckdmkaa
open Go.RowKit Go.Maps

set_option maxRecDepth 20000 in
theorem has_any (w : World) (db : Nat) (s : PS) (n : Int) (c0 : w.cell? ⟨db, 0, none⟩ = some (.int .i64 s.size)) :
    Calls Try.prog 34 #[.pointer (some ⟨db, 0, none⟩), .int .i64 n] w fun e w' => e = .returned (.bool (s.has n)) ∧ w = w' := by
  by_cases h0 : 0 ≤ n
  · go_enter Try.func34, Try.ntmps34
    go_wp2_with fail
    go_ret
    refine ⟨ret_bool ?_, rfl⟩
    simp [PS.has, h0]
  · go_enter Try.func34, Try.ntmps34
    go_wp2_with fail
    go_ret
    refine ⟨ret_bool ?_, rfl⟩
    unfold PS.has
    rw [eq_comm, decide_eq_false_iff_not]
    omega

/-- What a sector holds, in the disk's own memory. -/
def heldV (gL gW : Ghost) (n : Int) : Value := ((vals gW n).getD ((vals gL n).getD (.slice none 0 0)))

section
variable {F : Nat → Prop} {S : Int → Prop} {db bl bw : Nat} {gL gW : Ghost} {s : PS}

set_option maxRecDepth 20000 in
theorem held_any (w : World) (n : Int) (h1 : -9223372036854775808 ≤ n) (h2 : n ≤ 9223372036854775807) (h : DiskAt w F S db bl bw gL gW s) :
    Calls Try.prog 36 #[.pointer (some ⟨db, 0, none⟩), .int .i64 n] w fun e w' => e = .returned (heldV gL gW n) ∧ w = w' := by
  have c1 := h.cell 1 (v := .map (some bl)) rfl
  have c2 := h.cell 2 (v := .map (some bw)) rfl
  have k1 := h.mL.look1 h1 h2
  have k2 := h.mW.look h1 h2
  unfold heldV
  cases hW : vals gW n with
  | none =>
    rw [hW] at k2
    simp only [Option.getD_none, Option.isSome_none] at k2
    clear h hW
    generalize (vals gL n).getD (.slice none 0 0) = v at *
    go_enter Try.func36, Try.ntmps36
    go_wp2_with fail
    go_ret
    exact ⟨rfl, rfl⟩
  | some v =>
    rw [hW] at k2
    simp only [Option.getD_some, Option.isSome_some] at k2
    clear h hW k1
    go_enter Try.func36, Try.ntmps36
    go_wp2_with fail
    go_ret
    exact ⟨rfl, rfl⟩

/-- What it holds, told. -/
theorem DiskAt.held_own {w : World} (h : DiskAt w F S db bl bw gL gW s) (n : Int) : Own w 0 (heldV gL gW n) (s.held n) ∧ (∀ k, (heldV gL gW n).ownBlock = some k → F k) := by
  unfold heldV PS.held vals
  rw [h.sW, h.sL]
  cases hW : gW n with
  | some p =>
    obtain ⟨o, _, r, _⟩ := h.oW n p.1 p.2 hW
    exact ⟨o, r⟩
  | none =>
    cases hL : gL n with
    | some p =>
      obtain ⟨o, _, _, r, _⟩ := h.oL n p.1 p.2 hL
      exact ⟨o, r⟩
    | none => exact ⟨own_nil _ _, fun k hk => by cases hk⟩

theorem PS.held_le {s : PS} (h : s.Ok) (n : Int) : (s.held n).length ≤ 1024 := by
  unfold PS.held
  cases hW : s.W n with
  | some l => exact h.wl n l hW
  | none => exact h.ll n

set_option maxRecDepth 20000 in
theorem act_any (w : World) (h : DiskAt w F S db bl bw gL gW s) :
    Calls Try.prog 50 #[.pointer (some ⟨db, 0, none⟩)] w fun e w' => e = .returned (.bool s.may) ∧ DiskAt w' F S db bl bw gL gW s.acted ∧ Kept F w w' := by
  have c4 := h.cell 4 (v := .bool s.fused) rfl
  have c5 := h.cell 5 (v := .int .i64 s.fuse) rfl
  have c3 := h.cell 3 (v := .bool s.down) rfl
  have f3 := h.free 3
  have f5 := h.free 5
  have HD := Lib.hid h
  have hfu := h.fu
  clear h
  by_cases hf : s.fused = true
  · rw [hf] at c4
    by_cases h0 : s.fuse = 0
    · rw [h0] at c5
      have HF := Lib.hid hf
      have H0 := Lib.hid h0
      clear hf h0 hfu
      go_enter Try.func50, Try.ntmps50
      go_wp2_with fail
      go_ret
      have h := HD.out
      refine ⟨ret_bool ?_, ?_, Kept.setCell _ h.fd _⟩
      · simp [PS.may, HF.out, H0.out]
      · have := h.field (w' := w.setCell ⟨db, 3, none⟩ (.bool true)) (d := true) (f := s.fused) (n := s.fuse) h.fu (by rw [Joins.block_setCell h.str]; rfl) (fun k hk => Below.heap_setCell _ _ _ _ hk) (by simp [World.setCell])
        unfold PS.acted
        rw [if_pos HF.out, if_pos H0.out]
        exact this
    · have hb : ((s.fuse : Int) == 0) = false := by rw [beq_eq_false_iff_ne]; omega
      have HF := Lib.hid hf
      clear hf
      go_enter Try.func50, Try.ntmps50
      go_wp2_with fail
      go_ret
      have h := HD.out
      refine ⟨ret_bool ?_, ?_, Kept.setCell _ h.fd _⟩
      · simp [PS.may, h0]
      · have := h.field (w' := w.setCell ⟨db, 5, none⟩ (.int .i64 ((s.fuse - 1 : Nat) : Int))) (d := s.down) (f := s.fused) (n := s.fuse - 1) (by omega) (by rw [Joins.block_setCell h.str]; rfl) (fun k hk => Below.heap_setCell _ _ _ _ hk) (by simp [World.setCell])
        unfold PS.acted
        rw [if_pos HF.out, if_neg h0]
        rw [show ((s.fuse - 1 : Nat) : Int) = (s.fuse : Int) - 1 by omega] at this
        exact this
  · have hf' : s.fused = false := by simpa using hf
    rw [hf'] at c4
    have HF := Lib.hid hf'
    clear hf hf'
    go_enter Try.func50, Try.ntmps50
    go_wp2_with fail
    go_ret
    refine ⟨ret_bool ?_, ?_, Kept.refl _ _⟩
    · simp [PS.may, HF.out]
    · unfold PS.acted
      rw [if_neg (by rw [HF.out]; decide)]
      exact HD.out
end
end Go.Proofs.Ytgkdlbcpckdmkaa
