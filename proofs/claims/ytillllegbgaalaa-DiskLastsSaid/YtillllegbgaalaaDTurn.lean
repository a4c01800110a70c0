/-
  What the disk's Turn comes to.
-/
import Derived.Test.YtillllegbgaalaaDWrite
import Derived.Laws.BitsAll
namespace Go.Proofs.Ytillllegbgaalaa
open Go.RowKit Go.Maps

theorem modify_set {l : List UInt8} {k : Nat} {z : UInt8} (f : UInt8 → UInt8) (h : l[k]? = some z) : l.modify k f = l.set k (f z) := by
  apply List.ext_getElem?
  intro j
  rw [List.getElem?_modify, List.getElem?_set]
  by_cases hj : k = j
  · subst hj
    have hk : k < l.length := (List.getElem?_eq_some_iff.1 h).1
    rw [if_pos rfl, if_pos hk, h]
    simp
  · rw [if_neg hj]
    cases l[j]? <;> simp [hj]

section
variable {F : Nat → Prop} {db bl bw : Nat} {gL gW : Ghost} {s : PS}

theorem vals_same {g : Ghost} {n : Int} {v : Value} {l m : List UInt8} (h : g n = some (v, l)) : vals (updG g n (some (v, m))) = vals g := by
  funext j
  unfold vals updG
  by_cases e : j = n
  · rw [if_pos e, e, h]
    rfl
  · rw [if_neg e]

/-- One byte of what waits is written. -/
theorem DiskAt.pokeW {w w' : World} {n : Int} {v : Value} {l m : List UInt8} {g : Nat} (h : DiskAt w F (fun _ => False) db bl bw gL gW s) (hn : gW n = some (v, l)) (hg : v.ownBlock = some g) (hm : m.length = l.length)
    (ho : Own w' 0 v m) (hk : ∀ k, k ≠ g → w'.heap[k]? = w.heap[k]?) (hs : w.heap.size ≤ w'.heap.size) :
    DiskAt w' F (fun _ => False) db bl bw gL (updG gW n (some (v, m))) (s.lay n m) := by
  obtain ⟨o, r2, r3, r4⟩ := h.oW n v l hn
  have hne := h.own_ne o hg
  exact
    { h with
      str := (hk _ hne.1.symm).trans h.str
      mL := h.mL.block (hk _ hne.2.1.symm)
      mW := by rw [vals_same hn]; exact h.mW.block (hk _ hne.2.2.symm)
      lt := fun k hF => Nat.lt_of_lt_of_le (h.lt k hF) hs
      oL := fun i u q hi => by
        obtain ⟨o', q1, q2, q3, q4⟩ := h.oL i u q hi
        exact ⟨own_of_block o' (fun k hk' => hk k (fun e => (h.aX i n u q v l k hi hn hk' (by rw [e]; exact hg)).2)), q1, q2, q3, q4⟩
      oW := fun i u q hi => by
        rcases updG_some hi with ⟨rfl, e⟩ | ⟨hne, e⟩
        · injection e with e
          injection e with e1 e2
          subst e1
          subst e2
          exact ⟨ho, by rw [hm]; exact r2, r3, r4⟩
        · obtain ⟨o', q2, q3, q4⟩ := h.oW i u q e
          exact ⟨own_of_block o' (fun k hk' => hk k (fun e' => hne (h.aW i n u q v l k e hn hk' (by rw [e']; exact hg)))), q2, q3, q4⟩
      aW := fun i j v1 l1 u q k h1 h2 h3 h4 => by
        rcases updG_some h1 with ⟨e0, e⟩ | ⟨n1, e1⟩ <;> rcases updG_some h2 with ⟨e0', e'⟩ | ⟨n2, e2⟩
        · exact e0.trans e0'.symm
        · injection e with e
          injection e with e3 e4
          subst e3
          exact absurd (h.aW j n u q v l k e2 hn h4 h3) n2
        · injection e' with e'
          injection e' with e3 e4
          subst e3
          exact absurd (h.aW i n v1 l1 v l k e1 hn h3 h4) n1
        · exact h.aW i j v1 l1 u q k e1 e2 h3 h4
      aX := fun i j v1 l1 u q k h1 h2 h3 h4 => by
        rcases updG_some h2 with ⟨e0, e⟩ | ⟨n1, e1⟩
        · injection e with e
          injection e with e3 e4
          subst e3
          exact ((h.aX i n v1 l1 v l k h1 hn h3 h4).2).elim
        · exact h.aX i j v1 l1 u q k h1 e1 h3 h4
      sW := fun i => by
        show (if i = n then some m else s.W i) = _
        unfold updG
        by_cases e : i = n
        · rw [if_pos e, if_pos e]
          rfl
        · rw [if_neg e, if_neg e]
          exact h.sW i }

/-- One byte of what lasts is written. -/
theorem DiskAt.pokeL {w w' : World} {n : Int} {v : Value} {l m : List UInt8} {g : Nat} (h : DiskAt w F (fun _ => False) db bl bw gL gW s) (hn : gL n = some (v, l)) (hg : v.ownBlock = some g) (hm : m.length = l.length)
    (ho : Own w' 0 v m) (hk : ∀ k, k ≠ g → w'.heap[k]? = w.heap[k]?) (hs : w.heap.size ≤ w'.heap.size) :
    DiskAt w' F (fun _ => False) db bl bw (updG gL n (some (v, m))) gW { s with L := fun j => if j = n then m else s.L j } := by
  obtain ⟨o, r1, r2, r3, r4⟩ := h.oL n v l hn
  have hne := h.own_ne o hg
  exact
    { h with
      str := (hk _ hne.1.symm).trans h.str
      mL := by rw [vals_same hn]; exact h.mL.block (hk _ hne.2.1.symm)
      mW := h.mW.block (hk _ hne.2.2.symm)
      lt := fun k hF => Nat.lt_of_lt_of_le (h.lt k hF) hs
      oW := fun i u q hi => by
        obtain ⟨o', q2, q3, q4⟩ := h.oW i u q hi
        exact ⟨own_of_block o' (fun k hk' => hk k (fun e => (h.aX n i v l u q k hn hi (by rw [e]; exact hg) hk').2)), q2, q3, q4⟩
      oL := fun i u q hi => by
        rcases updG_some hi with ⟨rfl, e⟩ | ⟨hne, e⟩
        · injection e with e
          injection e with e1 e2
          subst e1
          subst e2
          refine ⟨ho, fun e => r1 ?_, by rw [hm]; exact r2, r3, r4⟩
          rw [e] at hm
          exact List.eq_nil_of_length_eq_zero hm.symm
        · obtain ⟨o', q1, q2, q3, q4⟩ := h.oL i u q e
          exact ⟨own_of_block o' (fun k hk' => hk k (fun e' => hne (h.aL i n u q v l k e hn hk' (by rw [e']; exact hg)))), q1, q2, q3, q4⟩
      aL := fun i j v1 l1 u q k h1 h2 h3 h4 => by
        rcases updG_some h1 with ⟨e0, e⟩ | ⟨n1, e1⟩ <;> rcases updG_some h2 with ⟨e0', e'⟩ | ⟨n2, e2⟩
        · exact e0.trans e0'.symm
        · injection e with e
          injection e with e3 e4
          subst e3
          exact absurd (h.aL j n u q v l k e2 hn h4 h3) n2
        · injection e' with e'
          injection e' with e3 e4
          subst e3
          exact absurd (h.aL i n v1 l1 v l k e1 hn h3 h4) n1
        · exact h.aL i j v1 l1 u q k e1 e2 h3 h4
      aX := fun i j v1 l1 u q k h1 h2 h3 h4 => by
        rcases updG_some h1 with ⟨e0, e⟩ | ⟨n1, e1⟩
        · injection e with e
          injection e with e3 e4
          subst e3
          exact ((h.aX n j v l u q k hn h2 h3 h4).2).elim
        · exact h.aX i j v1 l1 u q k e1 h2 h3 h4
      sL := fun i => by
        show (if i = n then m else s.L i) = _
        unfold updG
        by_cases e : i = n
        · rw [if_pos e, if_pos e]
          rfl
        · rw [if_neg e, if_neg e]
          exact h.sL i }

theorem xor_u8 (z b : UInt8) : bits .xor .u8 (z.toNat : Int) (b.toNat : Int) = (((z ^^^ b).toNat : Nat) : Int) := by
  rw [UInt8.toNat_xor]
  exact u8_xor_nat _ _ (UInt8.toNat_lt z) (UInt8.toNat_lt b)

theorem spot_of (i : Int) (n : Nat) (hn : ¬ n = 0) : ∃ k : Nat, k < n ∧ i % (n : Int) = (k : Int) := by
  have h1 := Int.emod_nonneg i (show (n : Int) ≠ 0 by omega)
  have h2 := Int.emod_lt_of_pos i (show (0 : Int) < n by omega)
  exact ⟨(i % (n : Int)).toNat, by omega, by omega⟩

/-- The byte that is turned, and the disk behind it. -/
theorem DiskAt.turn_at {w : World} (n at_ : Int) (by_ : UInt8) (h : DiskAt w F (fun _ => False) db bl bw gL gW s) (hh : s.has n = true) (hl : s.held n ≠ []) (h0 : 0 ≤ at_) :
    ∃ g cap k z, heldV gL gW n = .slice (some ⟨g, 0, none⟩) (s.held n).length cap ∧ k < (s.held n).length ∧ (s.held n).length ≤ cap ∧ at_ % ((s.held n).length : Int) = (k : Int) ∧ w.cell? ⟨g, k, none⟩ = some (.int .u8 (z : UInt8).toNat) ∧ w.frozen? ⟨g, k, none⟩ = false ∧
      Hid (Dk (w.setCell ⟨g, k, none⟩ (.int .u8 (z ^^^ by_).toNat)) F db (s.turned n at_ by_) ∧ Kept F w (w.setCell ⟨g, k, none⟩ (.int .u8 (z ^^^ by_).toNat))) := by
  have hp : ¬ (s.held n).length = 0 := fun e => hl (List.eq_nil_of_length_eq_zero e)
  obtain ⟨k, hk, hki⟩ := spot_of at_ _ hp
  obtain ⟨o, hF⟩ := h.held_own n
  obtain ⟨g, cap, z, hv, hz, h1, h2, _, h4⟩ := own_store o hk
  have hgF : F g := hF g (by rw [hv]; rfl)
  have hcap : (s.held n).length ≤ cap := by
    obtain ⟨A, c, e, hc, _⟩ := own_slice o
    rw [hv] at e
    injection e with _ _ e
    rw [e]
    exact hc
  refine ⟨g, cap, k, z, hv, hk, hcap, hki, h1, h2, ?_, Kept.setCell _ hgF _⟩
  have ho := h4 (z ^^^ by_)
  have hkb : ∀ j, j ≠ g → (w.setCell ⟨g, k, none⟩ (.int .u8 (z ^^^ by_).toNat)).heap[j]? = w.heap[j]? := fun j hj => Below.heap_setCell _ _ _ _ hj
  have hsz : w.heap.size ≤ (w.setCell ⟨g, k, none⟩ (.int .u8 (z ^^^ by_).toNat)).heap.size := by simp [World.setCell]
  have etw : PS.twist (s.held n) at_ by_ = (s.held n).set k (z ^^^ by_) := by
    unfold PS.twist
    rw [hki]
    exact modify_set _ hz
  have eT : s.turned n at_ by_ = (match s.W n with
    | some l => s.lay n (PS.twist l at_ by_)
    | none => { s with L := fun j => if j = n then PS.twist (s.L n) at_ by_ else s.L j }) := by
    unfold PS.turned
    rw [if_pos hh, if_neg (by rintro (e | e); exact hl e; omega)]
    cases s.W n <;> rfl
  rw [eT]
  have hob : (heldV gL gW n).ownBlock = some g := by rw [hv]; rfl
  cases hW : gW n with
  | some p =>
    obtain ⟨v, l⟩ := p
    have e1 : s.W n = some l := by rw [h.sW, hW]; rfl
    have e2 : s.held n = l := by unfold PS.held; rw [e1]; rfl
    have e3 : heldV gL gW n = v := by unfold heldV vals; rw [hW]; rfl
    rw [e3] at ho hob
    rw [e2] at ho etw
    rw [e1]
    have hp := h.pokeW hW hob (by simp) ho hkb hsz
    rw [← etw] at hp
    exact ⟨bl, bw, gL, _, hp⟩
  | none =>
    have e1 : s.W n = none := by rw [h.sW, hW]; rfl
    have e2 : s.held n = s.L n := by unfold PS.held; rw [e1]; rfl
    cases hL : gL n with
    | none =>
      rw [e2, h.sL, hL] at hl
      exact absurd rfl hl
    | some p =>
      obtain ⟨v, l⟩ := p
      have e4 : s.L n = l := by rw [h.sL, hL]; rfl
      have e3 : heldV gL gW n = v := by unfold heldV vals; rw [hW, hL]; rfl
      rw [e3] at ho hob
      rw [e2, e4] at ho etw
      rw [e1]
      have hp := h.pokeL hL hob (by simp) ho hkb hsz
      rw [← etw, ← e4] at hp
      exact ⟨bl, bw, _, gW, hp⟩

set_option maxHeartbeats 800000 in
theorem turn_any (w : World) (n : Int) (h1 : -9223372036854775808 ≤ n) (h2 : n ≤ 9223372036854775807) (at_ : Int) (h3 : -9223372036854775808 ≤ at_) (h4 : at_ ≤ 9223372036854775807) (by_ : UInt8) (h : Dk w F db s) :
    Calls Try.prog 25 #[.pointer (some ⟨db, 0, none⟩), .int .i64 n, .int .i64 at_, .int .u8 by_.toNat] w (Goes w F db (s.turned n at_ by_) (.int .i64 (s.turnE n at_))) := by
  have H0 := Lib.hid h
  obtain ⟨bl, bw, gL, gW, h⟩ := h
  have c0 := h.cell 0 (v := .int .i64 s.size) rfl
  have HD := Lib.hid h
  by_cases hh : s.has n = true
  · have HC : Hid (Calls Try.prog 37 #[.pointer (some ⟨db, 0, none⟩), .int .i64 n] w fun e w' => e = .returned (.bool true) ∧ w = w') := hh ▸ has_any w db s n c0
    have hle := PS.held_le h.ok n
    by_cases hg : s.held n = [] ∨ at_ < 0
    · have eB : s.turned n at_ by_ = s := by unfold PS.turned; rw [if_pos hh, if_pos hg]
      have eE : s.turnE n at_ = 1 := by unfold PS.turnE; rw [if_pos hh, if_pos hg]
      rw [eB, eE]
      by_cases hl : s.held n = []
      · have HL := Lib.hid hl
        clear h eB eE hh hg hl hle
        go_enter Try.func25, Try.ntmps25
        go_wp2_with fail
        refine HC.out.mono ?_
        rintro e w' ⟨rfl, rfl⟩
        go_wp2_with fail
        refine (held_any w n h1 h2 HD.out).mono ?_
        rintro e w' ⟨rfl, rfl⟩
        have ho := (HD.out.held_own n).1
        generalize heldV gL gW n = v at *
        obtain ⟨A, c, rfl, hc, hz⟩ := own_slice ho
        rw [HL.out]
        clear ho hz hc
        go_wp2_with fail
        go_ret
        exact ⟨rfl, F, H0.out, fun k hk => Or.inl hk, Kept.refl _ _⟩
      · have h0 : at_ < 0 := hg.resolve_left hl
        have hl0 : (((s.held n).length : Int) == 0) = false := by
          rw [beq_eq_false_iff_ne]
          intro e
          exact hl (List.eq_nil_of_length_eq_zero (by omega))
        clear h eB eE hh hg hl hle
        go_enter Try.func25, Try.ntmps25
        go_wp2_with fail
        refine HC.out.mono ?_
        rintro e w' ⟨rfl, rfl⟩
        go_wp2_with fail
        refine (held_any w n h1 h2 HD.out).mono ?_
        rintro e w' ⟨rfl, rfl⟩
        have ho := (HD.out.held_own n).1
        generalize heldV gL gW n = v at *
        obtain ⟨A, c, rfl, hc, hz⟩ := own_slice ho
        clear ho hz hc
        go_wp2_with fail
        go_ret
        exact ⟨rfl, F, H0.out, fun k hk => Or.inl hk, Kept.refl _ _⟩
    · have hl : ¬ s.held n = [] := fun e => hg (Or.inl e)
      have h0 : 0 ≤ at_ := by
        by_cases e : at_ < 0
        · exact absurd (Or.inr e) hg
        · omega
      have eE : s.turnE n at_ = 0 := by unfold PS.turnE; rw [if_pos hh, if_neg hg]
      rw [eE]
      have hl0 : (((s.held n).length : Int) == 0) = false := by
        rw [beq_eq_false_iff_ne]
        intro e
        exact hl (List.eq_nil_of_length_eq_zero (by omega))
      have hl1 : 1 ≤ (s.held n).length := by
        rcases Nat.eq_zero_or_pos (s.held n).length with e | e
        · exact absurd (List.eq_nil_of_length_eq_zero e) hl
        · exact e
      obtain ⟨g, cap, k, z, hv, hk, hcap, hki, hc, hf, HT⟩ := h.turn_at n at_ by_ hh hl h0
      have hx := xor_u8 z by_
      have HV := Lib.hid hv
      clear h eE hh hg hl hv
      go_enter Try.func25, Try.ntmps25
      go_wp2_with fail
      refine HC.out.mono ?_
      rintro e w' ⟨rfl, rfl⟩
      go_wp2_with fail
      refine (held_any w n h1 h2 HD.out).mono ?_
      rintro e w' ⟨rfl, rfl⟩
      rw [HV.out]
      generalize (s.held n).length = m at *
      go_wp2_with fail
      go_ret
      exact ⟨rfl, F, HT.out.1, fun k hk => Or.inl hk, HT.out.2⟩
  · have hh' : s.has n = false := by simpa using hh
    have HC : Hid (Calls Try.prog 37 #[.pointer (some ⟨db, 0, none⟩), .int .i64 n] w fun e w' => e = .returned (.bool false) ∧ w = w') := hh' ▸ has_any w db s n c0
    have eB : s.turned n at_ by_ = s := by unfold PS.turned; rw [if_neg hh]
    have eE : s.turnE n at_ = 41 := by unfold PS.turnE; rw [if_neg hh]
    rw [eB, eE]
    clear h eB eE hh hh'
    go_enter Try.func25, Try.ntmps25
    go_wp2_with fail
    refine HC.out.mono ?_
    rintro e w' ⟨rfl, rfl⟩
    go_wp2_with fail
    go_ret
    exact ⟨rfl, F, H0.out, fun k hk => Or.inl hk, Kept.refl _ _⟩
end
end Go.Proofs.Ytillllegbgaalaa
