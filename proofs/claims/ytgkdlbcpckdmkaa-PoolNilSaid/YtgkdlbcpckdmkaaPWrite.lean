/-
  What write comes to: what a frame holds is written, if it is dirty.
-/
import Derived.Test.YtgkdlbcpckdmkaaPool
namespace Go.Proofs.Ytgkdlbcpckdmkaa
open Go.RowKit

theorem own_outD {w : World} {D : Nat → Prop} {base : Nat} {A : Option Addr} {n c : Nat} {l : List UInt8} (o : Own w base (.slice A n c) l) (h : ∀ q, (Value.slice A n c).ownBlock = some q → ¬ D q) : Out w D A l := by
  rcases own_bys o with hb | ⟨b, off, e, _, hc⟩
  · exact Or.inl hb
  · exact Or.inr ⟨b, off, e, h b (by rw [e]; rfl), hc⟩

theorem Kept.cellAt {F : Nat → Prop} {w w' : World} (h : Kept F w w') {b j : Nat} (hb : b < w.heap.size) (hn : ¬ F b) : w'.cell? ⟨b, j, none⟩ = w.cell? ⟨b, j, none⟩ := World.cell?_of_block (w := w) (h.block b hb hn)

theorem Moves.setCell (w : World) {F : Nat → Prop} {a : Addr} (ha : F a.block) (v : Value) : Moves w F (w.setCell a v) F := ⟨Kept.setCell w ha v, fun _ h => Or.inl h⟩

/-- What write answers, and what there is behind it. -/
def PP.writeA (s : PP) (i : Nat) : Int × PP :=
  if s.d i then (if s.k.writeE (s.at_ i) (s.b i) = 0 then (0, s.washed i) else (s.k.writeE (s.at_ i) (s.b i), s.wrote i)) else (0, s)

section
variable {F D : Nat → Prop} {pb fb cb rb db : Nat} {g : Nat → Value} {s : PP}

theorem Fit.sec {s : PP} (_ : Fit s) {i : Nat} (hne : s.at_ i ≠ -1) : s.sec i = s.at_ i := by
  unfold PP.sec
  rw [if_neg hne]
theorem Fit.has {s : PP} (h : Fit s) {i : Nat} (hi : i < s.m) (hne : s.at_ i ≠ -1) : s.k.has (s.at_ i) = true := (h.rng i hi).resolve_left hne

theorem PoolAt.wrote {w w' : World} (h : PoolAt w F D pb fb cb rb db g s) (i : Nat) {v : Value} {e : Ending} (hg : Goes w D db (s.k.written (s.at_ i) (s.b i)) v e w') :
    e = .returned v ∧ ∃ F' D', PoolAt w' F' D' pb fb cb rb db g (s.wrote i) ∧ Moves w F w' F' ∧ Kept D w w' := by
  obtain ⟨he, D', hd, hN, hk⟩ := hg
  exact ⟨he, _, D', h.disk (PS.written_size _ _ _) hd hN hk, Moves.new (hk.more (fun k hD => h.core.fd k hD)), hk⟩

set_option maxRecDepth 20000 in
set_option maxHeartbeats 800000 in
theorem pwrite_any (w : World) (i : Nat) (hi : i < s.m) (hne : s.at_ i ≠ -1) (h : PoolAt w F D pb fb cb rb db g s) :
    Calls Try.prog 32 #[.pointer (some ⟨pb, 0, none⟩), .pointer (some ⟨fb, i * 4, none⟩)] w (PEnd w F pb fb cb rb db (s.writeA i).2 (.int .i64 (s.writeA i).1)) := by
  have hm := h.core.m1.2
  have d3 := h.s3 hi
  cases hd : s.d i with
  | false =>
    have e0 : s.writeA i = (0, s) := by unfold PP.writeA; rw [if_neg (by rw [hd]; decide)]
    rw [e0]
    rw [hd] at d3
    have H := Lib.hid h
    clear h hd e0 hne
    go_enter Try.func32, Try.ntmps32
    go_wp2_with fail
    go_ret
    exact ⟨rfl, F, D, g, H.out, Moves.refl _ _⟩
  | true =>
    rw [hd] at d3
    have c0 := h.core.c0
    have d1 := h.s1 hi
    rw [h.fit.sec hne] at d1
    obtain ⟨o1, o2, o3⟩ := h.own i hi
    obtain ⟨A, c, hv, hc, hz⟩ := own_slice o1
    have d0 := h.s0 hi
    rw [hv] at d0 o1 o3
    have hx := own_outD o1 (fun q hq => (o3 q hq).2)
    have hh := (s.k.has_at _).1 (h.fit.has hi hne)
    have h4 := h.core.dk.s4
    have HX := Lib.hid hx
    have HZ := Lib.hid hz
    have H := Lib.hid h
    have HI := Lib.hid hi
    have HD := Lib.hid hd
    have HNE := Lib.hid hne
    generalize hA : s.at_ i = n at *
    generalize hB : s.b i = l at *
    have HLT := Lib.hid (show pb < w.drew.heap.size ∧ fb < w.drew.heap.size from ⟨h.core.lt _ h.core.fp, h.core.lt _ h.core.ff⟩)
    obtain ⟨M, hM⟩ : ∃ M, l.length = M := ⟨_, rfl⟩
    rw [hM] at d0 hc o2
    rw [hM] at HZ
    have HM := Lib.hid hM
    have EA := Lib.hid hA
    have EB := Lib.hid hB
    clear h hx hd hz o1 o3 hv hA hB hne hM
    have HW : Hid (Calls Try.prog 49 #[.pointer (some ⟨db, 0, none⟩), .int .i64 n, .slice A M c] w.drew (Goes w.drew D db (s.k.written n l) (.int .i64 (s.k.writeE n l)))) :=
      write_any w.drew n (by omega) (by omega) A M c l HM.out HX.out HZ.out (H.out.drewN 1).core.dk
    go_enter Try.func32, Try.ntmps32
    go_wp2_with fail
    have K0 : w.drew.cell? ⟨pb, 0, none⟩ = some (.pointer (some ⟨db, 0, none⟩)) ∧ w.drew.cell? ⟨fb, i * 4 + 1, none⟩ = some (.int .i64 n) ∧ w.drew.cell? ⟨fb, i * 4, none⟩ = some (.slice A M c) := ⟨c0, d1, d0⟩
    go_region_held3 (fun w' => w'.cell? ⟨pb, 0, none⟩ = some (.pointer (some ⟨db, 0, none⟩)) ∧ w'.cell? ⟨fb, i * 4 + 1, none⟩ = some (.int .i64 n) ∧ w'.cell? ⟨fb, i * 4, none⟩ = some (.slice A M c))
      (first | exact K1 | exact K0)
      (first
        | (go_at_call 49; refine HW.out.mono ?_; intro e w2 hg2; obtain ⟨rfl, D2, hd2, hN2, hk2⟩ := hg2; have K1 := And.intro ((hk2.cellAt HLT.out.1 H.out.core.dp).trans K0.1) (And.intro ((hk2.cellAt HLT.out.2 H.out.core.df).trans K0.2.1) ((hk2.cellAt HLT.out.2 H.out.core.df).trans K0.2.2))))
    have hp2 : ∃ F' D', PoolAt w2 F' D' pb fb cb rb db g (s.wrote i) ∧ Moves w F w2 F' := by
      obtain ⟨-, F', D', p2, m2, -⟩ := (H.out.drewN 1).wrote i (v := .int .i64 (s.k.writeE n l)) (e := .returned (.int .i64 (s.k.writeE n l))) (w' := w2) ⟨rfl, D2, by rw [EA.out, EB.out]; exact hd2, hN2, hk2⟩
      exact ⟨F', D', p2, ⟨m2.kept.os, m2.kept.tape, m2.kept.output, m2.kept.size, m2.kept.block⟩, m2.news⟩
    obtain ⟨F', D', p2, m2⟩ := hp2
    have P2 := Lib.hid p2
    have M2 := Lib.hid m2
    have eW : s.writeA i = if s.k.writeE n l = 0 then (0, s.washed i) else (s.k.writeE n l, s.wrote i) := by
      unfold PP.writeA
      rw [if_pos HD.out, EA.out, EB.out]
    have EW := Lib.hid eW
    have f3 := p2.sf (i * 4 + 3)
    have d3' := p2.s3 (i := i) HI.out
    clear p2 m2 hd2 hN2 hk2 K0 K1 c0 d0 d1 d3 eW HW HX
    by_cases hE : s.k.writeE n l = 0
    · rw [hE]
      have EE : Hid (s.writeA i = (0, s.washed i)) := EW.out.trans (if_pos hE)
      clear hE EW
      go_wp2_with fail
      go_ret
      rw [EE.out]
      exact ⟨rfl, F', D', g, P2.out.setD i false (fun e => by cases e), M2.out.trans (Moves.setCell _ (a := ⟨fb, i * 4 + 3, none⟩) P2.out.core.ff _)⟩
    · have EE : Hid (s.writeA i = (s.k.writeE n l, s.wrote i)) := EW.out.trans (if_neg hE)
      have hb : (s.k.writeE n l != 0) = true := by rw [bne_iff_ne]; exact hE
      clear hE EW
      go_wp2_with fail
      go_ret
      rw [EE.out]
      exact ⟨rfl, F', D', g, P2.out, M2.out⟩
end
end Go.Proofs.Ytgkdlbcpckdmkaa
