/-
  What room comes to: a frame that is empty, or is emptied.
-/
import Derived.Test.YtgkdlbcpckdmkaaPNext
import Derived.Test.YtgkdlbcpckdmkaaPWrite
import Derived.Deep.MidRow
namespace Go.Proofs.Ytgkdlbcpckdmkaa
open Go.RowKit

/-- What room answers. -/
def PP.roomV (r : Option Nat × Int × PP) : Value := .tuple #[.int .i64 ((r.1.getD 0 : Nat) : Int), .int .i64 r.2.1]

theorem ful_iff (s : PP) (i : Nat) : s.ful i = true ↔ s.at_ i ≠ -1 := by
  unfold PP.ful
  simp
theorem gap_here {s : PP} {k : Nat} (hk : k < s.m) (hu : s.ful k = false) (hp : ∀ j, j < k → s.ful j = true) : s.gap = some k := by
  unfold PP.gap PP.first
  rw [List.find?_range_eq_some]
  refine ⟨?_, List.mem_range.2 hk, fun j hj => ?_⟩
  · unfold PP.ful at hu
    simpa using hu
  · have := hp j hj
    unfold PP.ful at this
    exact this
theorem gap_nowhere {s : PP} (hp : ∀ j, j < s.m → s.ful j = true) : s.gap = none := by
  unfold PP.gap PP.first
  rw [List.find?_eq_none]
  intro j hj h
  have := (ful_iff s j).1 (hp j (List.mem_range.1 hj))
  exact this (by simpa using h)

section
variable {F D : Nat → Prop} {pb fb cb rb db : Nat} {g : Nat → Value} {s : PP}

set_option maxRecDepth 20000 in
theorem frameInfo : (Try.prog.info? 69).map (fun i => (i.zero, i.size, i.bytes)) = some (some (.agg #[.slice none 0 0, .int .i64 0, .bool false, .bool false]), 4, 40) := by kernel_rfl
set_option maxRecDepth 20000 in
theorem frameInfo4 : (Try.prog.info? 69).map (·.size) = some 4 := by kernel_rfl

def noFrame : Array Value := #[.slice none 0 0, .int .i64 0, .bool false, .bool false]

theorem PoolAt.there {w : World} (h : PoolAt w F D pb fb cb rb db g s) {i : Nat} (hi : i < s.m) : w.there fb (i * 4) 4 := fun j hj => ⟨by rw [h.row.cell (by omega)]; rfl, h.sf _⟩

theorem PoolAt.voided {w : World} (h : PoolAt w F D pb fb cb rb db g s) (i : Nat) :
    ∃ g', PoolAt (w.setCells fb (i * 4) noFrame.toList) F D pb fb cb rb db g' (s.lay i (-1) [] false) ∧ Kept (· = fb) w (w.setCells fb (i * 4) noFrame.toList) := by
  have k1 : ∀ (w : World) (j : Nat) (v : Value), Kept (· = fb) w (w.setCell ⟨fb, j, none⟩ v) := fun w j v => Kept.setCell (F := (· = fb)) w (a := ⟨fb, j, none⟩) rfl _
  have r0 := (h.row.set (i * 4) (.slice none 0 0)).congr (fun k _ => frc_set0 g s.sec s.ful s.d i (.slice none 0 0) k)
  have r1 := (r0.set (i * 4 + 1) (.int .i64 0)).congr (fun k _ => frc_set1 _ s.sec s.ful s.d i 0 k)
  have r2 := (r1.set (i * 4 + 2) (.bool false)).congr (fun k _ => frc_set2 _ _ s.ful s.d i false k)
  have r3 := (r2.set (i * 4 + 3) (.bool false)).congr (fun k _ => frc_set3 _ _ _ s.d i false k)
  have hk : Kept (· = fb) w (w.setCells fb (i * 4) noFrame.toList) := (((k1 _ _ _).next (k1 _ _ _)).next (k1 _ _ _)).next (k1 _ _ _)
  exact ⟨_, h.void hk r3, hk⟩

theorem pvic_none {c : CS} (hf : c.free = false) : c.vicI = 0 ∧ c.vicE = 60 ∧ c.vicS = c := by
  have hw : c.way = none := by
    unfold CS.way
    rw [if_neg (by rw [hf]; decide)]
  unfold CS.vicI CS.vicE CS.vicS
  rw [hw]
  exact ⟨rfl, rfl, rfl⟩

theorem room_void {s t : PP} {v : Nat} (hg : s.gap = none) (hf : s.c.free = true) (hv : s.c.vicI = v) (ht : (s.writeA v).1 = 0) (e : t = (s.writeA v).2) : s.room = (some v, 0, PP.lay { t with c := t.c.vicS } v (-1) [] false) ∧ t.c = s.c ∧ t.m = s.m := by
  subst e
  unfold PP.room
  rw [hg]
  simp only [hf, if_true, hv, Int.toNat_natCast]
  unfold PP.writeA at ht ⊢
  cases hd : s.d v with
  | false =>
    simp only [Bool.false_eq_true, if_false]
    exact ⟨trivial, trivial, trivial⟩
  | true =>
    rw [hd] at ht
    simp only [if_true] at ht ⊢
    by_cases hE : s.k.writeE (s.at_ v) (s.b v) = 0
    · simp only [if_pos hE]
      refine ⟨?_, rfl, rfl⟩
      refine congrArg (fun x => (some v, (0 : Int), x)) ?_
      unfold PP.lay PP.washed PP.wrote
      congr 1
      funext j
      show (if j = v then false else s.d j) = (if j = v then false else if j = v then false else s.d j)
      by_cases ej : j = v
      · rw [if_pos ej, if_pos ej]
      · rw [if_neg ej, if_neg ej]
    · simp only [if_neg hE] at ht
      exact absurd ht hE

theorem room_err {s : PP} {v : Nat} (hg : s.gap = none) (hf : s.c.free = true) (hv : s.c.vicI = v) (ht : (s.writeA v).1 ≠ 0) : s.room = (none, (s.writeA v).1, (s.writeA v).2) := by
  unfold PP.room
  rw [hg]
  simp only [hf, if_true, hv, Int.toNat_natCast]
  unfold PP.writeA at ht ⊢
  cases hd : s.d v with
  | false =>
    rw [hd] at ht
    exact absurd rfl ht
  | true =>
    rw [hd] at ht
    simp only [if_true] at ht ⊢
    by_cases hE : s.k.writeE (s.at_ v) (s.b v) = 0
    · rw [if_pos hE] at ht
      exact absurd rfl ht
    · rw [if_neg hE, if_neg hE]

theorem room_full' {s : PP} (hg : s.gap = none) (hf : s.c.free = false) : s.room = (none, 60, s) := by
  unfold PP.room
  rw [hg]
  simp only [hf]
  rfl

set_option maxRecDepth 20000 in
set_option maxHeartbeats 1600000 in
theorem room_any (w : World) (h : PoolAt w F D pb fb cb rb db g s) :
    Calls Try.prog 27 #[.pointer (some ⟨pb, 0, none⟩)] w (PEnd w F pb fb cb rb db s.room.2.2 (PP.roomV s.room)) := by
  have hm := h.core.m1.2
  have c1 := h.core.c1
  have H := Lib.hid h
  clear h
  go_enter Try.func27, Try.ntmps27
  go_wp2_with fail
  go_loopw [15] (fun i wr => ∃ k : Nat, k ≤ s.m ∧ i = .int .i64 k ∧ Hid (∀ j, j < k → s.ful j = true) ∧ w = wr) (fun i _ => s.m - (RowKit.intOf i).toNat)
  case atStart => exact ⟨0, Nat.zero_le _, rfl, Lib.hid (fun j hj => by omega), rfl⟩
  case round =>
    obtain ⟨k, hk, rfl, hpre, rfl⟩ := hrel
    by_cases hlt : k < s.m
    · have d2 := H.out.s2 hlt
      cases hu : s.ful k with
      | true =>
        rw [hu] at d2
        have HP : Hid (∀ j, j < k + 1 → s.ful j = true) := fun j hj => by
          rcases Nat.lt_or_ge j k with e | e
          · exact hpre.out j e
          · obtain rfl : j = k := by omega
            exact hu
        clear hu hpre
        go_wp2_with fail
        go_roundw
        case rel => exact ⟨k + 1, by omega, by go_num, HP, trivial⟩
        case measure => simp [RowKit.intOf]; omega
      | false =>
        rw [hu] at d2
        have HE : Hid (s.room = (some k, 0, s)) := Lib.hid (by unfold PP.room; rw [gap_here hlt hu hpre.out])
        clear hu hpre
        go_wp2_with fail
        go_ret2
        rw [HE.out]
        exact ⟨rfl, F, D, g, H.out, Moves.refl _ _⟩
    · obtain rfl : k = s.m := by omega
      have HG := Lib.hid (gap_nowhere hpre.out)
      clear hpre
      go_wp2_with fail
      refine (next_any _ H.out).mono ?_
      rintro e w1 ⟨i, b, rfl, hb, hi, hbw⟩
      have p1 := H.out.below hbw
      have P1 := Lib.hid p1
      have B1 := Lib.hid hbw
      have d1 := p1.core.c1
      have d2 := p1.core.c2
      clear c1 p1 hbw
      cases hf : s.c.free with
      | false =>
        rw [hf] at hb
        subst hb
        obtain ⟨v1, v2, v3⟩ := pvic_none hf
        have HV := Lib.hid (victim_any w1 P1.out.core.clk)
        rw [v1, v2, v3] at HV
        have HE := Lib.hid (room_full' HG.out hf)
        clear v1 v2 v3 hf hi
        go_wp2_with fail
        refine HV.out.mono ?_
        rintro e w2 ⟨rfl, hc2, hk2⟩
        have P2 := Lib.hid (P1.out.clock rfl hc2 hk2)
        have K2 := Lib.hid hk2
        clear hc2 hk2 d1 d2
        go_wp2_with fail
        go_ret2
        rw [HE.out]
        exact ⟨rfl, F, D, g, P2.out, (Moves.of_below B1.out).trans ⟨K2.out.more (by rintro k (rfl | rfl); exact P1.out.core.fc; exact P1.out.core.fr), fun _ hk => Or.inl hk⟩⟩
      | true =>
        rw [hf] at hb
        subst hb
        obtain ⟨r, hw, _, gr⟩ := CS.way_of P1.out.core.clk.hn hf
        obtain ⟨v1, v2, v3⟩ := CS.vic_of hw
        obtain rfl := hi rfl
        have hvm : r.1 < s.m := by
          have := gr.lt
          rw [P1.out.core.cm] at this
          exact this
        have HV1 := Lib.hid v1
        have HV2 := Lib.hid v2
        have HF := Lib.hid hf
        have HVM := Lib.hid hvm
        rw [v1]
        generalize hR : r.1 = v at *
        have hW := pwrite_any w1 v hvm (PP.gap_none HG.out v hvm) P1.out
        have HW := Lib.hid hW
        clear hW hf hi v1 v2 v3 gr hw hR
        go_wp2_with fail
        refine HW.out.mono ?_
        rintro e w2 ⟨rfl, F2, D2, g2, p2, m2⟩
        have HM2 := Lib.hid m2
        clear m2
        by_cases hE : (s.writeA v).1 = 0
        · obtain ⟨r1, r2, r3⟩ := room_void HG.out HF.out HV1.out hE rfl
          have HE := Lib.hid r1
          rw [hE]
          generalize (s.writeA v).2 = t at *
          have HV := Lib.hid (victim_any w2 p2.core.clk)
          rw [r2, HV1.out, HV2.out] at HV
          have P2 := Lib.hid p2
          have HTC := Lib.hid r2
          have HTM := Lib.hid r3
          have d3 := p2.core.c2
          clear p2 r1 r2 r3 hE d1 d2
          go_wp2_with fail
          refine HV.out.mono ?_
          rintro e w3 ⟨rfl, hc3, hk3⟩
          rw [← HTC.out] at hc3
          have p3 := P2.out.clock (CS.vicS_n P2.out.core.clk.hn) hc3 hk3
          have P3 := Lib.hid p3
          have K3 := Lib.hid hk3
          have d4 := p3.core.c1
          have hvt : v < ({ t with c := t.c.vicS } : PP).m := by
            show v < t.m
            rw [HTM.out]
            exact HVM.out
          have q0 := p3.s0 hvt
          have q1 := p3.s1 hvt
          have q2 := p3.s2 hvt
          have q3 := p3.s3 hvt
          have y0 := p3.sf (v * 4)
          have y1 := p3.sf (v * 4 + 1)
          have y2 := p3.sf (v * 4 + 2)
          have y3 := p3.sf (v * 4 + 3)
          obtain ⟨g4, p4, k4⟩ := p3.voided v
          have P4 := Lib.hid p4
          have K4 := Lib.hid k4
          have d5 : w3.cell? ⟨pb, 1, none⟩ = some (.slice (some ⟨fb, 0, none⟩) s.m s.m) := by
            rw [← HTM.out]
            exact d4
          clear p3 hc3 hk3 d3 d4 p4 k4 hvt
          go_wp2_with fail
          go_ret2
          rw [HE.out]
          exact ⟨rfl, F2, D2, g4, P4.out, (((Moves.of_below B1.out).trans HM2.out).trans ⟨K3.out.more (by rintro k (rfl | rfl); exact P2.out.core.fc; exact P2.out.core.fr), fun _ hk => Or.inl hk⟩).trans ⟨K4.out.more (by rintro k rfl; exact P2.out.core.ff), fun _ hk => Or.inl hk⟩⟩
        · have HE := Lib.hid (room_err HG.out HF.out HV1.out hE)
          have P2 := Lib.hid p2
          have hb : ((s.writeA v).1 != 0) = true := by rw [bne_iff_ne]; exact hE
          generalize (s.writeA v).1 = E at *
          clear p2 hE d1 d2
          go_wp2_with fail
          go_ret2
          rw [HE.out]
          exact ⟨rfl, F2, D2, g2, P2.out, (Moves.of_below B1.out).trans HM2.out⟩
end
end Go.Proofs.Ytgkdlbcpckdmkaa
