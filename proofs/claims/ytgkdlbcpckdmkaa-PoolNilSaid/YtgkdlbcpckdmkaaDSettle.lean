/-
  What disk's settle comes to; the writes of maps at their operations.
-/
import Derived.Test.YtgkdlbcpckdmkaaDIn
namespace Go.Proofs.Ytgkdlbcpckdmkaa
open Go.RowKit Go.Maps

section
variable (w : World) {ops : Array Oper} {rest : List Oper} {o : Oper} {a : Act} {Q : Exit → Act → World → Prop}

set_option maxRecDepth 20000 in
theorem wpList_delete_at (hg : o.guard = none) (m x : Operand) (hop : o.op = Op.call { callee := Callee.builtin Builtin.delete, args := #[m, x], argTypes := #[54, 3] })
    (b : Nat) (f : Int → Option Value) (hm : a.eval m = .map (some b)) (h : MapAt w b f) (i : Int) (hx : a.eval x = .int .i64 i) (h1 : -9223372036854775808 ≤ i) (h2 : i ≤ 9223372036854775807)
    (hK : ∀ w', MapAt w' b (upd f i none) → w.grownBy w' (some b) → wpList Try.prog ops Q rest (a.put o.dst (.tuple #[])) w') :
    wpList Try.prog ops Q (o :: rest) a w := by
  refine wpList_plain hg fun K' hK' => ?_
  obtain ⟨w', hrun, r1, r2⟩ := h.del h1 h2 o.type
  unfold Oper.wp
  simp [execOp, hop, resolve, invoke, builtin, hm, hx, hrun, Result.andThen]
  exact hK' _ _ (hK w' r1 r2)

set_option maxRecDepth 20000 in
theorem wpList_clear_at (hg : o.guard = none) (m : Operand) (hop : o.op = Op.call { callee := Callee.builtin Builtin.clear, args := #[m], argTypes := #[54] })
    (b : Nat) (f : Int → Option Value) (hm : a.eval m = .map (some b)) (h : MapAt w b f)
    (hK : ∀ w', MapAt w' b (fun _ => none) → w.grownBy w' (some b) → wpList Try.prog ops Q rest (a.put o.dst (.tuple #[])) w') :
    wpList Try.prog ops Q (o :: rest) a w := by
  refine wpList_plain hg fun K' hK' => ?_
  obtain ⟨w', hrun, r1, r2⟩ := h.clear o.type
  unfold Oper.wp
  simp [execOp, hop, resolve, invoke, builtin, hm, hrun, Result.andThen]
  exact hK' _ _ (hK w' r1 r2)

set_option maxRecDepth 20000 in
theorem wpList_put_at (hg : o.guard = none) (m x v : Operand) (hop : o.op = Op.mapUpdate 54 m x v)
    (b : Nat) (f : Int → Option Value) (hm : a.eval m = .map (some b)) (h : MapAt w b f) (i : Int) (u : Value) (hx : a.eval x = .int .i64 i) (hv : a.eval v = u) (h1 : 0 ≤ i) (h2 : i < 4096)
    (hK : ∀ w', MapAt w' b (upd f i (some u)) → w.grownBy w' (some b) → wpList Try.prog ops Q rest (a.put o.dst undef) w') :
    wpList Try.prog ops Q (o :: rest) a w := by
  refine wpList_plain hg fun K' hK' => ?_
  obtain ⟨w', hrun, r1, r2⟩ := h.put h1 h2 u
  unfold Oper.wp
  simp [execOp, hop, hm, hx, hv, hrun, Result.andThen]
  exact hK' _ _ (hK w' r1 r2)
end

def updG (g : Ghost) (i : Int) (p : Option (Value × List UInt8)) : Ghost := fun j => if j = i then p else g j

theorem vals_updG (g : Ghost) (i : Int) (p : Option (Value × List UInt8)) : vals (updG g i p) = upd (vals g) i (p.map Prod.fst) := by
  funext j
  unfold vals updG upd
  by_cases h : j = i <;> simp [h]

theorem updG_some {g : Ghost} {i j : Int} {p : Option (Value × List UInt8)} {q : Value × List UInt8} (h : updG g i p j = some q) : (j = i ∧ p = some q) ∨ (j ≠ i ∧ g j = some q) := by
  unfold updG at h
  by_cases e : j = i
  · rw [if_pos e] at h
    exact Or.inl ⟨e, h⟩
  · rw [if_neg e] at h
    exact Or.inr ⟨e, h⟩

section
variable {F : Nat → Prop} {S : Int → Prop} {db bl bw : Nat} {gL gW : Ghost} {s : PS}

theorem DiskAt.settle_none {w : World} {n : Int} (h : DiskAt w F S db bl bw gL gW s) (hn : gW n = none) : DiskAt w F (fun j => S j ∨ j = n) db bl bw gL gW (s.settled n) :=
  { h with
    aX := fun i j v l u m k h1 h2 h3 h4 => by
      obtain ⟨e1, e2⟩ := h.aX i j v l u m k h1 h2 h3 h4
      exact ⟨e1, Or.inl e2⟩
    sL := fun i => by
      show (if i = n then s.held n else s.L i) = _
      rw [← h.sL]
      by_cases e : i = n
      · rw [if_pos e, e]
        unfold PS.held
        rw [h.sW, hn]
        rfl
      · rw [if_neg e] }

theorem DiskAt.settle_empty {w w' : World} {n : Int} {v : Value} (h : DiskAt w F S db bl bw gL gW s) (hn : gW n = some (v, [])) (hm : MapAt w' bl (upd (vals gL) n none)) (hg : w.grownBy w' (some bl)) :
    DiskAt w' F (fun j => S j ∨ j = n) db bl bw (updG gL n none) gW (s.settled n) := by
  refine h.putL hg (by rw [vals_updG]; exact hm) ?_ ?_ ?_ ?_
  · intro i v l hi
    rcases updG_some hi with ⟨_, e⟩ | ⟨_, e⟩
    · cases e
    · exact h.oL i v l e
  · intro i j v l u m k h1 h2 h3 h4
    rcases updG_some h1 with ⟨_, e⟩ | ⟨_, e1⟩
    · cases e
    · rcases updG_some h2 with ⟨_, e⟩ | ⟨_, e2⟩
      · cases e
      · exact h.aL i j v l u m k e1 e2 h3 h4
  · intro i j v l u m k h1 h2 h3 h4
    rcases updG_some h1 with ⟨_, e⟩ | ⟨_, e1⟩
    · cases e
    · obtain ⟨e3, e4⟩ := h.aX i j v l u m k e1 h2 h3 h4
      exact ⟨e3, Or.inl e4⟩
  · intro i
    unfold updG
    by_cases e : i = n
    · rw [if_pos e, if_pos e]
      unfold PS.held
      rw [h.sW, hn]
      rfl
    · rw [if_neg e, if_neg e, h.sL]

theorem DiskAt.settle_some {w w' : World} {n : Int} {v : Value} {l : List UInt8} (h : DiskAt w F S db bl bw gL gW s) (hn : gW n = some (v, l)) (hl : l ≠ []) (hm : MapAt w' bl (upd (vals gL) n (some v))) (hg : w.grownBy w' (some bl)) :
    DiskAt w' F (fun j => S j ∨ j = n) db bl bw (updG gL n (some (v, l))) gW (s.settled n) := by
  refine h.putL hg (by rw [vals_updG]; exact hm) ?_ ?_ ?_ ?_
  · intro i u m hi
    rcases updG_some hi with ⟨rfl, e⟩ | ⟨_, e⟩
    · injection e with e
      injection e with e1 e2
      subst e1
      subst e2
      obtain ⟨r1, r2, r3, r4⟩ := h.oW i v l hn
      exact ⟨r1, hl, r2, r3, r4⟩
    · exact h.oL i u m e
  · intro i j v1 l1 u m k h1 h2 h3 h4
    rcases updG_some h1 with ⟨e0, e⟩ | ⟨n1, e1⟩
    · rcases updG_some h2 with ⟨e0', _⟩ | ⟨n2, e2⟩
      · exact e0.trans e0'.symm
      · injection e with e
        injection e with e3 e4
        subst e3
        exact absurd (h.aX j n u m v l k e2 hn h4 h3).1 n2
    · rcases updG_some h2 with ⟨e0', e⟩ | ⟨_, e2⟩
      · injection e with e
        injection e with e3 e4
        subst e3
        exact absurd (h.aX i n v1 l1 v l k e1 hn h3 h4).1 n1
      · exact h.aL i j v1 l1 u m k e1 e2 h3 h4
  · intro i j v1 l1 u m k h1 h2 h3 h4
    rcases updG_some h1 with ⟨e0, e⟩ | ⟨n1, e1⟩
    · injection e with e
      injection e with e3 e4
      subst e3
      have := h.aW n j v l u m k hn h2 h3 h4
      exact ⟨e0.trans this, Or.inr this.symm⟩
    · obtain ⟨e3, e4⟩ := h.aX i j v1 l1 u m k e1 h2 h3 h4
      exact ⟨e3, Or.inl e4⟩
  · intro i
    unfold updG
    by_cases e : i = n
    · rw [if_pos e, if_pos e]
      unfold PS.held
      rw [h.sW, hn]
      rfl
    · rw [if_neg e, if_neg e, h.sL]

def Settles (w : World) (F : Nat → Prop) (S : Int → Prop) (db bl bw : Nat) (gW : Ghost) (s : PS) (n : Int) (e : Ending) (w' : World) : Prop :=
  e = .returned (.tuple #[]) ∧ ∃ gL', DiskAt w' F (fun j => S j ∨ j = n) db bl bw gL' gW (s.settled n) ∧ (∃ row, w.grownBy w' row ∧ ∀ b, row = some b → b = bl)

set_option maxRecDepth 20000 in
set_option maxHeartbeats 400000 in
theorem settle_any (w : World) (n : Int) (h1 : -9223372036854775808 ≤ n) (h2 : n ≤ 9223372036854775807) (h : DiskAt w F S db bl bw gL gW s) :
    Calls Try.prog 51 #[.pointer (some ⟨db, 0, none⟩), .int .i64 n] w (Settles w F S db bl bw gW s n) := by
  have c1 := h.cell 1 (v := .map (some bl)) rfl
  have c2 := h.cell 2 (v := .map (some bw)) rfl
  have k2 := h.mW.look h1 h2
  have HD := Lib.hid h
  cases hW : gW n with
  | none =>
    rw [show vals gW n = none by unfold vals; rw [hW]; rfl] at k2
    simp only [Option.getD_none, Option.isSome_none] at k2
    have HW := Lib.hid hW
    clear h hW
    go_enter Try.func51, Try.ntmps51
    go_wp2_with fail
    go_end0
    exact ⟨rfl, gL, HD.out.settle_none HW.out, none, World.grownBy.refl _ _, fun b hb => by cases hb⟩
  | some p =>
    obtain ⟨v, l⟩ := p
    obtain ⟨o, r2, r3, r4, r5⟩ := h.oW n v l hW
    obtain ⟨A, c, rfl, hc, hz⟩ := own_slice o
    rw [show vals gW n = some (.slice A l.length c) by unfold vals; rw [hW]; rfl] at k2
    simp only [Option.getD_some, Option.isSome_some] at k2
    have HW := Lib.hid hW
    have HM := Lib.hid h.mL
    have hs4 := h.s4
    clear hW o r3 hz
    by_cases hl : l = []
    · subst hl
      clear h hs4
      go_enter Try.func51, Try.ntmps51
      go_wp2_with (at_delete; refine wpList_delete_at _ rfl _ _ rfl bl _ rfl HM.out n rfl h1 h2 ?_; intro w1 hm1 hg1)
      go_end0
      exact ⟨rfl, _, HD.out.settle_empty HW.out hm1 hg1, some bl, hg1, fun _ hb => (Option.some.inj hb).symm⟩
    · have hl0 : ((l.length : Int) == 0) = false := by
        rw [beq_eq_false_iff_ne]
        intro e
        exact hl (List.eq_nil_of_length_eq_zero (by omega))
      have HL := Lib.hid hl
      clear h hl
      go_enter Try.func51, Try.ntmps51
      go_wp2_with (at_mapUpdate; refine wpList_put_at _ rfl _ _ _ rfl bl _ rfl HM.out n _ rfl rfl (by omega) (by omega) ?_; intro w1 hm1 hg1)
      go_end0
      exact ⟨rfl, _, HD.out.settle_some HW.out HL.out hm1 hg1, some bl, hg1, fun _ hb => (Option.some.inj hb).symm⟩
end
end Go.Proofs.Ytgkdlbcpckdmkaa
