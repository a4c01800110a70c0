/-
  What the disk's Write comes to.
-/
import Derived.Test.YtgkdlbcpckdmkaaDMeth
namespace Go.Proofs.Ytgkdlbcpckdmkaa
open Go.RowKit Go.Maps

section
variable {F : Nat → Prop} {db bl bw : Nat} {gL gW : Ghost} {s : PS}

/-- Behind a write. -/
theorem DiskAt.laid {w w2 w3 : World} {n : Int} {v : Value} {l : List UInt8} (h : DiskAt w F (fun _ => False) db bl bw gL gW s) (hn : 0 ≤ n ∧ n < (s.size : Int)) (hl : l.length ≤ 1024)
    (hb : Below w.heap.size w w2) (ho : Own w2 w.heap.size v l) (hm : MapAt w3 bw (upd (vals gW) n (some v))) (hg : w2.grownBy w3 (some bw)) :
    DiskAt w3 (fun k => F k ∨ (w.heap.size ≤ k ∧ k < w2.heap.size)) (fun _ => False) db bl bw gL (updG gW n (some (v, l))) (s.lay n l) := by
  have h2 : DiskAt w2 (fun k => F k ∨ (w.heap.size ≤ k ∧ k < w2.heap.size)) (fun _ => False) db bl bw gL gW s :=
    (h.same (fun k hk => hb.block k (h.lt k hk)) hb.size).more (fun k hk => Or.inl hk) (fun k hk => by
      rcases hk with hk | hk
      · exact Nat.lt_of_lt_of_le (h.lt k hk) hb.size
      · exact hk.2)
  refine h2.putW hg (by rw [vals_updG]; exact hm) ?_ ?_ ?_ ?_
  · intro i u m hi
    rcases updG_some hi with ⟨rfl, e⟩ | ⟨_, e⟩
    · injection e with e
      injection e with e1 e2
      subst e1
      subst e2
      exact ⟨own_base ho, hl, fun k hk => Or.inr (ho.lt k hk), hn⟩
    · exact h2.oW i u m e
  · intro i j v1 l1 u m k h1 h2 h3 h4
    rcases updG_some h1 with ⟨e0, e⟩ | ⟨n1, e1⟩
    · rcases updG_some h2 with ⟨e0', _⟩ | ⟨n2, e2⟩
      · exact e0.trans e0'.symm
      · injection e with e
        injection e with e3 e4
        subst e3
        have := h.lt k ((h.oW j u m e2).2.2.1 k h4)
        have := (ho.lt k h3).1
        omega
    · rcases updG_some h2 with ⟨e0', e⟩ | ⟨_, e2⟩
      · injection e with e
        injection e with e3 e4
        subst e3
        have := h.lt k ((h.oW i v1 l1 e1).2.2.1 k h3)
        have := (ho.lt k h4).1
        omega
      · exact h.aW i j v1 l1 u m k e1 e2 h3 h4
  · intro i j v1 l1 u m k h1 h2 h3 h4
    rcases updG_some h2 with ⟨e0, e⟩ | ⟨n1, e1⟩
    · injection e with e
      injection e with e3 e4
      subst e3
      have := h.lt k ((h.oL i v1 l1 h1).2.2.2.1 k h3)
      have := (ho.lt k h4).1
      omega
    · exact h.aX i j v1 l1 u m k h1 e1 h3 h4
  · intro i
    unfold updG
    by_cases e : i = n
    · rw [if_pos e, if_pos e]
      rfl
    · rw [if_neg e, if_neg e]
      exact h.sW i

theorem undrew {w w' : World} (h : Below w.drew.heap.size w.drew w') : Below w.heap.size w w' := ⟨h.os, h.tape, h.output, h.size, h.block⟩

theorem PS.acted_has (s : PS) (n : Int) : s.acted.has n = s.has n := by
  unfold PS.acted PS.has
  split
  · split <;> rfl
  · rfl

theorem PS.acted_size (s : PS) : s.acted.size = s.size := by
  unfold PS.acted
  split
  · split <;> rfl
  · rfl

theorem PS.has_iff {s : PS} {n : Int} : s.has n = true ↔ 0 ≤ n ∧ n < (s.size : Int) := by unfold PS.has; exact decide_eq_true_iff

set_option maxRecDepth 20000 in
set_option maxHeartbeats 800000 in
theorem write_any (w : World) (n : Int) (h1 : -9223372036854775808 ≤ n) (h2 : n ≤ 9223372036854775807) (A : Option Addr) (m c : Nat) (l : List UInt8) (hl : l.length = m) (hx : Out w F A l) (hz : A = none → m = 0 ∧ c = 0) (h : Dk w F db s) :
    Calls Try.prog 49 #[.pointer (some ⟨db, 0, none⟩), .int .i64 n, .slice A m c] w (Goes w F db (s.written n l) (.int .i64 (s.writeE n l))) := by
  have h0 := h
  obtain ⟨bl, bw, gL, gW, h⟩ := h
  have c0 := h.cell 0 (v := .int .i64 s.size) rfl
  have c3 := h.cell 3 (v := .bool s.down) rfl
  have HD := Lib.hid h
  have HZ := Lib.hid hz
  have HX := Lib.hid hx
  have HL := Lib.hid hl
  have H0 := Lib.hid h0
  clear hz hx h0
  by_cases hd : s.down = true
  · rw [hd] at c3
    have eB : s.written n l = s := by unfold PS.written; rw [if_pos hd]
    have eE : s.writeE n l = 40 := by unfold PS.writeE; rw [if_pos hd]
    rw [eB, eE]
    clear h eB eE hd c0 hl
    go_enter Try.func49, Try.ntmps49
    go_wp2_with fail
    go_ret
    exact ⟨rfl, F, H0.out, fun k hk => Or.inl hk, Kept.refl _ _⟩
  · have hd' : s.down = false := by simpa using hd
    rw [hd'] at c3
    by_cases hb : s.bad n l = true
    · have eB : s.written n l = s := by unfold PS.written; rw [if_neg hd, if_pos hb]
      have eE : s.writeE n l = 41 := by unfold PS.writeE; rw [if_neg hd, if_pos hb]
      rw [eB, eE]
      unfold PS.bad at hb
      by_cases hh : s.has n = true
      · have HC : Hid (Calls Try.prog 34 #[.pointer (some ⟨db, 0, none⟩), .int .i64 n] w fun e w' => e = .returned (.bool true) ∧ w = w') := hh ▸ has_any w db s n c0
        have hm : 1024 < m := by rw [hh] at hb; simp at hb; omega
        clear h eB eE hd hd' hh hb hl
        go_enter Try.func49, Try.ntmps49
        go_wp2_with fail
        refine HC.out.mono ?_
        rintro e w' ⟨rfl, rfl⟩
        go_wp2_with fail
        go_ret
        exact ⟨rfl, F, H0.out, fun k hk => Or.inl hk, Kept.refl _ _⟩
      · have hh' : s.has n = false := by simpa using hh
        have HC : Hid (Calls Try.prog 34 #[.pointer (some ⟨db, 0, none⟩), .int .i64 n] w fun e w' => e = .returned (.bool false) ∧ w = w') := hh' ▸ has_any w db s n c0
        clear h eB eE hd hd' hh hh' hb hl
        go_enter Try.func49, Try.ntmps49
        go_wp2_with fail
        refine HC.out.mono ?_
        rintro e w' ⟨rfl, rfl⟩
        go_wp2_with fail
        go_ret
        exact ⟨rfl, F, H0.out, fun k hk => Or.inl hk, Kept.refl _ _⟩
    · have hb' := hb
      unfold PS.bad at hb'
      have hh : s.has n = true := by
        cases e : s.has n with
        | true => rfl
        | false => rw [e] at hb'; simp at hb'
      have hm : m ≤ 1024 := by rw [hh] at hb'; simp at hb'; omega
      have hn := PS.has_iff.1 hh
      have hs4 := h.s4
      have HC : Hid (Calls Try.prog 34 #[.pointer (some ⟨db, 0, none⟩), .int .i64 n] w fun e w' => e = .returned (.bool true) ∧ w = w') := hh ▸ has_any w db s n c0
      by_cases hmay : s.may = true
      · have eB : s.written n l = s.acted.lay n l := by unfold PS.written; rw [if_neg hd, if_neg hb, if_pos hmay]
        have eE : s.writeE n l = 0 := by unfold PS.writeE; rw [if_neg hd, if_neg hb, if_pos hmay]
        rw [eB, eE]
        have HA : Hid (Calls Try.prog 50 #[.pointer (some ⟨db, 0, none⟩)] w fun e w' => e = .returned (.bool true) ∧ DiskAt w' F (fun _ => False) db bl bw gL gW s.acted ∧ Kept F w w') := hmay ▸ act_any w h
        have HN : Hid (0 ≤ n ∧ n < (s.acted.size : Int)) := by rw [PS.acted_size]; exact hn
        clear h eB eE hd hd' hh hb hb' hmay
        go_enter Try.func49, Try.ntmps49
        go_wp2_with fail
        refine HC.out.mono ?_
        rintro e w' ⟨rfl, rfl⟩
        go_wp2_with fail
        refine HA.out.mono ?_
        rintro e w1 ⟨rfl, hd1, hk1⟩
        have c2 := hd1.cell 2 (v := .map (some bw)) rfl
        have HD1 := Lib.hid hd1
        have HK1 := Lib.hid hk1
        have HX1 := Lib.hid (HX.out.kept hk1).bys
        clear hd1 hk1 c0 c3 HC HA HX hl
        go_wp2_with fail
        have K0 : w1.drew.cell? ⟨db, 2, none⟩ = some (.map (some bw)) := c2
        go_region_held3 (fun w' => w'.cell? ⟨db, 2, none⟩ = some (.map (some bw)))
          (first | exact K2 | exact K1 | exact K0)
          (first
            | (go_at_call 35; refine (clone_all A m c _ l w1.drew HX1.out HL.out (by omega) HZ.out).mono ?_; rintro e w2 ⟨v, rfl, ho, hbl⟩; have K1 : w2.cell? ⟨db, 2, none⟩ = some (.map (some bw)) := (hbl.cell (World.block_lt_of_cell? _ _ K0)).trans K0; obtain ⟨w3, hrun, hm3, hg3⟩ := (HD1.out.mW.block (hbl.block _ (HD1.out.lt _ HD1.out.fw))).put (i := n) (by omega) (by omega) v; have K2 : w3.cell? ⟨db, 2, none⟩ = some (.map (some bw)) := (World.cell?_of_block (w := w2) (hg3.block db (World.block_lt_of_cell? _ _ K1) (fun e => HD1.out.db_ne.2 (Option.some.inj e).symm))).trans K1))
        go_wp2_with fail
        go_ret
        have hbu := undrew hbl
        have hou : Own w2 w1.heap.size v l := ho
        refine ⟨rfl, _, ⟨_, _, _, _, HD1.out.laid HN.out (by rw [HL.out]; omega) hbu hou hm3 hg3⟩, fun k hk => ?_, HK1.out.next ((Kept.below (w := w1) hbu F).next (Kept.grown hg3 HD1.out.fw))⟩
        rcases hk with hk | hk
        · exact Or.inl hk
        · exact Or.inr (Nat.le_trans HK1.out.size hk.1)
      · have hmay' : s.may = false := by simpa using hmay
        have eB : s.written n l = s.acted := by unfold PS.written; rw [if_neg hd, if_neg hb, if_neg hmay]
        have eE : s.writeE n l = 40 := by unfold PS.writeE; rw [if_neg hd, if_neg hb, if_neg hmay]
        rw [eB, eE]
        have HA : Hid (Calls Try.prog 50 #[.pointer (some ⟨db, 0, none⟩)] w fun e w' => e = .returned (.bool false) ∧ DiskAt w' F (fun _ => False) db bl bw gL gW s.acted ∧ Kept F w w') := hmay' ▸ act_any w h
        clear h eB eE hd hd' hh hb hb' hmay hmay' hl
        go_enter Try.func49, Try.ntmps49
        go_wp2_with fail
        refine HC.out.mono ?_
        rintro e w' ⟨rfl, rfl⟩
        go_wp2_with fail
        refine HA.out.mono ?_
        rintro e w1 ⟨rfl, hd1, hk1⟩
        go_wp2_with fail
        go_ret
        exact ⟨rfl, F, ⟨bl, bw, gL, gW, hd1⟩, fun k hk => Or.inl hk, hk1⟩
end
end Go.Proofs.Ytgkdlbcpckdmkaa
