/-
  PoolPins answers true, for every number of frames and all gets: a sector that is pinned stays at hand; where all frames are pinned nothing else finds room. Conditions: none.
-/
import Derived.Test.YtgkdlbcpckdmkaaRows
import Derived.Test.YtgkdlbcpckdmkaaPAwake
import Derived.Test.YtgkdlbcpckdmkaaDNums
import Derived.Test.YtgkdlbcpckdmkaaOpenI
namespace Go.Proofs.Ytgkdlbcpckdmkaa.poolPins
open Go.ChangeShapes Go.WideShapes Go.ChangeAt Go.RowKit

/-- The first sector of a new pool is pinned. -/
theorem first_pin {m : Nat} (hm : 1 ≤ m) : ∃ t, PP.pinA ((PP.new (PS.new 8) m).fetch 0) = (0, t) ∧ PP.Zero t ∧ PP.Holds t (PS.new 8).held ∧ t.m = m ∧ t.k.size = 8 := by
  have hf : (PP.new (PS.new 8) m).find 0 = none := find_nowhere (fun j _ h => by cases h.1)
  have hg : (PP.new (PS.new 8) m).gap = some 0 := gap_here (by show 0 < m; omega) rfl (fun j hj => absurd hj (by omega))
  have hq : (PP.new (PS.new 8) m).fetch 0 = (some 0, 0, ((PP.new (PS.new 8) m).lay 0 0 [] false).used 0) := by
    unfold PP.fetch
    rw [hf]
    unfold PP.room
    rw [hg]
    rfl
  have hF : Free (PP.new (PS.new 8) m) (PS.new 8).held m 8 := free_new (new_well 8) (new_ok 8) hm rfl
  have h0 : (PP.new (PS.new 8) m).k.has 0 = true := rfl
  have hp := hF.holds.pin_fetch h0 (fun _ _ => hF.holds.loose hF.p_)
  obtain ⟨i, t, g⟩ := hF.holds.pin h0 (fun _ _ => hF.holds.loose hF.p_)
  rw [hp]
  rw [hq, g.eq] at hp
  have ht : t = { ((PP.new (PS.new 8) m).lay 0 0 [] false).used 0 with c := (((PP.new (PS.new 8) m).lay 0 0 [] false).used 0).c.pinS (0 : Nat) } := congrArg Prod.snd hp.symm
  refine ⟨t, g.eq, ?_, g.holds, g.m_.trans hF.m_, g.size.trans hF.size⟩
  have hn : (((PP.new (PS.new 8) m).lay 0 0 [] false).used 0).c.n = m := (CS.useS_n _ _).trans rfl
  have hpp : ∀ j, t.c.p j = if j = 0 then 1 else 0 := fun j => by
    rw [ht]
    show ((((PP.new (PS.new 8) m).lay 0 0 [] false).used 0).c.pinS ((0 : Nat) : Int)).p j = _
    rw [PP.pinS_p _ (by rw [hn]; omega)]
    have h1 : ∀ j, (((PP.new (PS.new 8) m).lay 0 0 [] false).used 0).c.p j = 0 := fun j => congrFun (PP.useS_p _ _) j
    by_cases e : j = 0
    · rw [if_pos e, if_pos e, h1]
    · rw [if_neg e, if_neg e, h1]
  refine ⟨?_, by rw [hpp, if_pos rfl], fun j hj => by rw [hpp, if_neg hj]⟩
  rw [ht]
  rfl

/-- What Get answers of a pool whose first frame alone is pinned. -/
def pinsE (fr : Nat) (x : Int) : Int := if x < 0 ∨ 7 < x then 41 else if fr = 1 ∧ x ≠ 0 then 60 else 0

structure PinsIn (s : PP) (f : Int → List UInt8) (fr : Nat) : Prop where
  zero : PP.Zero s
  holds : PP.Holds s f
  m_ : s.m = fr
  size : s.k.size = 8

theorem find_zero {s : PP} {f : Int → List UInt8} {fr : Nat} (h : PinsIn s f fr) (hf : 1 ≤ fr) : s.find 0 = some 0 := h.holds.find_uniq (by omega) (by rw [h.m_]; omega) h.zero.at0

theorem pins_get {s : PP} {f : Int → List UInt8} {fr : Nat} (h : PinsIn s f fr) (hf : 1 ≤ fr) (x : Int) : ∃ l t, s.get x = (pinsE fr x, l, t) ∧ PinsIn t f fr := by
  unfold pinsE
  by_cases hx : x < 0 ∨ 7 < x
  · rw [if_pos hx]
    have hb : s.k.has x = false := by
      cases hh : s.k.has x with
      | false => rfl
      | true =>
        have := (s.k.has_at x).1 hh
        rw [h.size] at this
        omega
    exact ⟨_, _, h.holds.getBad hb, h⟩
  · rw [if_neg hx]
    have hh : s.k.has x = true := (s.k.has_at x).2 (by rw [h.size]; omega)
    by_cases ht : fr = 1 ∧ x ≠ 0
    · rw [if_pos ht]
      have hall : ∀ j, j < s.m → j = 0 := fun j hj => by
        rw [h.m_] at hj
        omega
      have hn : s.find x = none := by
        cases hs : s.find x with
        | none => rfl
        | some i =>
          obtain ⟨i1, i2, _⟩ := PP.find_some hs
          rw [hall i i1, h.zero.at0] at i2
          exact absurd i2.symm ht.2
      have hg : s.gap = none := by
        cases hs : s.gap with
        | none => rfl
        | some i =>
          obtain ⟨i1, i2⟩ := PP.gap_some hs
          rw [hall i i1, h.zero.at0] at i2
          omega
      have hfr := PP.free_full h.holds.cn (fun j hj => by rw [hall j hj, h.zero.p0]; omega)
      exact ⟨_, _, h.holds.get_full hh hn hg hfr, h⟩
    · rw [if_neg ht]
      obtain ⟨i, t, g⟩ := h.holds.get hh (fun hn _ => by
        by_cases h1 : fr = 1
        · have hx0 : x = 0 := by
            by_cases e : x = 0
            · exact e
            · exact absurd ⟨h1, e⟩ ht
          rw [hx0, find_zero h hf] at hn
          cases hn
        · exact h.zero.free h.holds (by rw [h.m_]; omega))
      exact ⟨_, _, g.eq, h.zero.got g, g.holds, g.m_.trans h.m_, g.size.trans h.size⟩

/-- The pin is taken away; there is no other. -/
theorem pins_off {s : PP} {f : Int → List UInt8} {fr : Nat} (h : PinsIn s f fr) (hf : 1 ≤ fr) : ∃ t, s.unpin 0 = (0, t) ∧ t.unpin 0 = (1, t) ∧ Free t f fr 8 := by
  have hs := find_zero h hf
  have hn : s.c.n = fr := h.holds.cn.trans h.m_
  have hh : s.c.has ((0 : Nat) : Int) = true := CS.has_of (by rw [hn]; omega)
  have hu : s.c.un ((0 : Nat) : Int) = true := by
    unfold CS.un
    rw [hh]
    show (s.c.p 0 != 0) = true
    rw [h.zero.p0]
    rfl
  have e1 : s.unpin 0 = (0, { s with c := s.c.unS ((0 : Nat) : Int) }) := by
    have e0 : s.c.unE ((0 : Nat) : Int) = 0 := by
      unfold CS.unE
      rw [if_pos hu]
    unfold PP.unpin
    rw [hs]
    show (s.c.unE ((0 : Nat) : Int), _) = _
    rw [e0]
  have hp : ∀ j, (s.c.unS ((0 : Nat) : Int)).p j = 0 := fun j => by
    unfold CS.unS
    rw [if_pos hu]
    show (if j = ((0 : Nat) : Int).toNat then s.c.p _ - 1 else s.c.p j) = 0
    by_cases e : j = 0
    · rw [e]
      show s.c.p 0 - 1 = 0
      rw [h.zero.p0]
    · rw [if_neg (by simpa using e)]
      exact h.zero.po j e
  have h2 := h.holds.unpin 0
  rw [e1] at h2
  refine ⟨_, e1, ?_, ⟨h2.1, hp, h2.2.trans h.m_, h.size⟩⟩
  have hs2 : ({ s with c := s.c.unS ((0 : Nat) : Int) } : PP).find 0 = some 0 := hs
  have hu2 : (s.c.unS ((0 : Nat) : Int)).un ((0 : Nat) : Int) = false := by
    unfold CS.un
    show (_ && ((s.c.unS ((0 : Nat) : Int)).p 0 != 0)) = false
    rw [hp 0]
    simp
  unfold PP.unpin
  rw [hs2]
  show ((s.c.unS ((0 : Nat) : Int)).unE ((0 : Nat) : Int), ({ s with c := (s.c.unS ((0 : Nat) : Int)).unS ((0 : Nat) : Int) } : PP)) = _
  have e3 : (s.c.unS ((0 : Nat) : Int)).unE ((0 : Nat) : Int) = 1 := by
    unfold CS.unE
    rw [hu2]
    rfl
  have e4 : (s.c.unS ((0 : Nat) : Int)).unS ((0 : Nat) : Int) = s.c.unS ((0 : Nat) : Int) := by
    have : ∀ c : CS, c.un ((0 : Nat) : Int) = false → c.unS ((0 : Nat) : Int) = c := fun c hc => by
      unfold CS.unS
      rw [hc]
      rfl
    exact this _ hu2
  rw [e3, e4]

/-- So many sectors are pinned, each frame at most so often. -/
structure AllIn (s : PP) (f : Int → List UInt8) (fr k : Nat) : Prop where
  pinned : PP.Pinned s k
  holds : PP.Holds s f
  m_ : s.m = fr
  size : s.k.size = 8
  max : ∀ j, s.c.p j ≤ k

theorem all_step {s : PP} {f : Int → List UInt8} {fr k : Nat} (h : AllIn s f fr k) (hk : k < fr) (hf : fr ≤ 7) :
    (s.fetch (k : Int)).2.2.c.Max 9223372036854775806 ∧ ∃ t, PP.pinA (s.fetch (k : Int)) = (0, t) ∧ AllIn t f fr (k + 1) := by
  have hh : s.k.has (k : Int) = true := (s.k.has_at _).2 (by rw [h.size]; omega)
  have hfr : s.find (k : Int) = none → s.gap = none → s.c.free = true := fun _ _ => h.pinned.free h.holds (by rw [h.m_]; exact hk)
  refine ⟨fun j => ?_, ?_⟩
  · rw [h.holds.fetch_p hh hfr]
    have := h.max j
    omega
  · obtain ⟨t, e, t1, t2, t3, t4⟩ := h.pinned.step h.holds (by rw [h.m_]; exact hk) hh
    obtain ⟨i, t', g⟩ := h.holds.pin hh hfr
    obtain rfl : t = t' := by
      have := e.symm.trans g.eq
      exact congrArg Prod.snd this
    refine ⟨t, (h.holds.pin_fetch hh hfr).trans e, t4, t1, t2.trans h.m_, t3.trans h.size, fun j => ?_⟩
    rw [g.p_]
    have h1 := h.max i
    have h2 := h.max j
    split <;> omega

theorem all_full {s : PP} {f : Int → List UInt8} {fr : Nat} (h : AllIn s f fr fr) (hf : fr ≤ 7) : s.get 7 = (60, [], s) ∧ s.put 7 [] = (60, s) := by
  have hp : PP.Pinned s s.m := by rw [h.m_]; exact h.pinned
  have hall := hp.full
  have hat : ∀ j, j < s.m → 0 ≤ s.at_ j ∧ s.at_ j < 7 := fun j hj => by
    obtain ⟨_, h2, h3⟩ := h.pinned.only j (hall j hj)
    omega
  have hn : s.find 7 = none := by
    cases hs : s.find 7 with
    | none => rfl
    | some i =>
      obtain ⟨i1, i2, _⟩ := PP.find_some hs
      have := hat i i1
      omega
  have hg : s.gap = none := by
    cases hs : s.gap with
    | none => rfl
    | some i =>
      obtain ⟨i1, i2⟩ := PP.gap_some hs
      have := hat i i1
      omega
  have hfr := PP.free_full h.holds.cn hall
  have hh : s.k.has 7 = true := (s.k.has_at 7).2 (by rw [h.size]; omega)
  refine ⟨h.holds.get_full hh hn hg hfr, PP.put_full ?_ hn hg hfr⟩
  unfold PS.bad
  rw [hh]
  rfl

/-- The loop of gets. -/
def PRel (W : World) (pb db fr : Nat) (w : World) : Prop := ∃ F s f, PLive W F w pb db s ∧ PinsIn s f fr
/-- The loop of pins. -/
def QRel (W : World) (pb db fr k : Nat) (w : World) : Prop := ∃ F s f, PLive W F w pb db s ∧ AllIn s f fr k

set_option maxRecDepth 20000 in
set_option maxHeartbeats 12800000 in
theorem walkIn {W : World} (fr : Nat) (f1 : 1 ≤ fr) (f2 : fr ≤ 7) (A : Option Addr) (n c : Nat) (xs : List Int) (hl : xs.length = n) (hs : Nums W W.heap.size A xs) (_ : n ≤ maxLen) :
    Calls Try.prog 4 #[.int .i64 fr, .slice A n c] W fun e W' => e = .returned (.bool true) ∧ Below W.heap.size W W' := by
  have HL := Lib.hid hl
  have HS := Lib.hid hs
  clear hl hs
  go_enter Try.func4, Try.ntmps4
  go_wp2_with fail
  refine (awake_any _).mono ?_
  rintro e w1 ⟨rfl, b1⟩
  have B1 := Lib.hid b1
  clear b1
  go_wp2_with fail
  refine (new_live (W := W) w1 8 (by omega) (by omega) B1.out).mono ?_
  rintro e w2 ⟨db, D2, rfl, hv2, -, -⟩
  have HV2 := Lib.hid hv2
  clear hv2 B1
  go_wp2_with fail
  refine (pnew_live (W := W) w2 fr f1 (by omega) HV2.out).mono ?_
  rintro e w3 ⟨pb, F3, rfl, hv3, -, -⟩
  have hF : Free (PP.new (PS.new 8) fr) (PS.new 8).held fr 8 := free_new (new_well 8) (new_ok 8) f1 rfl
  have hmx : ((PP.new (PS.new 8) fr).fetch 0).2.2.c.Max 9223372036854775806 := fun j => by
    rw [hF.holds.fetch_p rfl (fun _ _ => hF.holds.loose hF.p_), hF.p_]
    omega
  have HP := Lib.hid (ppin_live (W := W) w3 0 (by omega) (by omega) hmx hv3)
  obtain ⟨t0, e0, z0, h0, m0, k0⟩ := first_pin f1
  rw [e0] at HP
  have HZ : Hid (PinsIn t0 (PS.new 8).held fr) := ⟨z0, h0, m0, k0⟩
  clear hv3 hF hmx e0 z0 h0 m0 k0 HV2
  go_wp2_with (refine HP.out.mono ?_; rintro e w4 ⟨rfl, F4, hv4, -⟩)
  have HR : Hid (PRel W pb db fr w4) := ⟨F4, t0, _, hv4, HZ.out⟩
  clear hv4 HZ HP
  go_loopw [10] (fun i wr => ∃ j : Nat, j ≤ n ∧ i = .int .i64 j ∧ Hid (PRel W pb db fr wr)) (fun i _ => n - (RowKit.intOf i).toNat)
  case atStart => exact ⟨0, Nat.zero_le _, rfl, HR⟩
  case round =>
    obtain ⟨j, hj, rfl, HRR⟩ := hrel
    clear HR
    by_cases hgo : j < n ∧ j < 60
    · obtain ⟨g1, g2⟩ := hgo
      obtain ⟨F, s, f, hv, hin⟩ := HRR.out
      obtain ⟨b, off, x, rfl, hbl, cW, x1, x2⟩ : ∃ b off z, A = some ⟨b, off, none⟩ ∧ b < W.heap.size ∧ W.cell? ⟨b, off + j, none⟩ = some (.int .i64 z) ∧ -9223372036854775808 ≤ z ∧ z ≤ 9223372036854775807 := by
        rcases HS.out with e | ⟨b, off, e, hb, hc⟩
        · have := HL.out
          rw [e] at this
          simp at this
          omega
        · have hlt : j < xs.length := by rw [HL.out]; exact g1
          have h0 := hc j _ (List.getElem?_eq_getElem hlt)
          exact ⟨b, off, xs[j], e, hb, h0.1, h0.2.1, h0.2.2⟩
      have c0 := (hv.below.cell (p := ⟨b, off + j, none⟩) hbl).trans cW
      obtain ⟨l, t, e, hin2⟩ := pins_get hin f1 x
      have HG := Lib.hid (get_live (W := W) wr x x1 x2 hv)
      rw [e] at HG
      have HIN := Lib.hid hin2
      have HCW := Lib.hid cW
      have HBL := Lib.hid hbl
      clear hv hin e hin2 cW hbl HRR
      have hE : (x < 0 ∧ pinsE fr x = 41) ∨ (7 < x ∧ pinsE fr x = 41) ∨ ((0 ≤ x ∧ x ≤ 7) ∧ fr = 1 ∧ x ≠ 0 ∧ pinsE fr x = 60) ∨ (x = 0 ∧ pinsE fr x = 0) ∨ ((0 ≤ x ∧ x ≤ 7) ∧ fr ≠ 1 ∧ x ≠ 0 ∧ pinsE fr x = 0) := by
        unfold pinsE
        by_cases a1 : x < 0
        · exact Or.inl ⟨a1, if_pos (Or.inl a1)⟩
        · by_cases a2 : 7 < x
          · exact Or.inr (Or.inl ⟨a2, if_pos (Or.inr a2)⟩)
          · rw [if_neg (by omega)]
            by_cases a3 : x = 0
            · exact Or.inr (Or.inr (Or.inr (Or.inl ⟨a3, if_neg (fun h => h.2 a3)⟩)))
            · by_cases a4 : fr = 1
              · exact Or.inr (Or.inr (Or.inl ⟨by omega, a4, a3, if_pos ⟨a4, a3⟩⟩))
              · exact Or.inr (Or.inr (Or.inr (Or.inr ⟨by omega, a4, a3, if_neg (fun h => a4 h.1)⟩)))
      have hfr : fr = 1 ∨ 1 < fr := by omega
      rcases hE with ⟨a1, a2⟩ | ⟨a1, a2⟩ | ⟨⟨a1, a4⟩, a5, a3, a2⟩ | ⟨rfl, a2⟩ | ⟨⟨a1, a4⟩, a5, a3, a2⟩ <;> rw [a2] at HG <;> clear a2
      · have hb2 : (x != 0) = true := by rw [bne_iff_ne]; omega
        rcases hfr with hfr | hfr
        · have hb1 : ((fr : Int) == 1) = true := by rw [beq_iff_eq]; omega
          clear hfr
          go_wp2_with fail
          refine HG.out.mono ?_
          rintro e w5 ⟨A5, c5, F5, rfl, -, -, hv5, -, -⟩
          have c5' := (hv5.below.cell (p := ⟨b, off + j, none⟩) HBL.out).trans HCW.out
          have HV5 := Lib.hid hv5
          have HPG := Lib.hid (pages_live (W := W) w5 hv5)
          clear hv5 c0 HG
          go_wp2_with fail
          refine HPG.out.mono ?_
          rintro e w6 ⟨rfl, hc6, hb6⟩
          have k0 := hc6 0 (by rw [HIN.out.m_]; omega)
          rw [HIN.out.zero.at0] at k0
          rw [HIN.out.m_]
          have HN : Hid (PRel W pb db fr w6) := ⟨F5, t, f, HV5.out.next hb6, HIN.out⟩
          clear hc6 hb6 HPG c5'
          go_wp2_with fail
          go_roundw
          case rel => exact ⟨j + 1, by omega, by go_num, HN⟩
          case measure => simp [RowKit.intOf]; omega
        · have hb1 : ((fr : Int) == 1) = false := by rw [beq_eq_false_iff_ne]; omega
          clear hfr
          go_wp2_with fail
          refine HG.out.mono ?_
          rintro e w5 ⟨A5, c5, F5, rfl, -, -, hv5, -, -⟩
          have c5' := (hv5.below.cell (p := ⟨b, off + j, none⟩) HBL.out).trans HCW.out
          have HV5 := Lib.hid hv5
          have HPG := Lib.hid (pages_live (W := W) w5 hv5)
          clear hv5 c0 HG
          go_wp2_with fail
          refine HPG.out.mono ?_
          rintro e w6 ⟨rfl, hc6, hb6⟩
          have k0 := hc6 0 (by rw [HIN.out.m_]; omega)
          rw [HIN.out.zero.at0] at k0
          rw [HIN.out.m_]
          have HN : Hid (PRel W pb db fr w6) := ⟨F5, t, f, HV5.out.next hb6, HIN.out⟩
          clear hc6 hb6 HPG c5'
          go_wp2_with fail
          go_roundw
          case rel => exact ⟨j + 1, by omega, by go_num, HN⟩
          case measure => simp [RowKit.intOf]; omega
      · have hb2 : (x != 0) = true := by rw [bne_iff_ne]; omega
        rcases hfr with hfr | hfr
        · have hb1 : ((fr : Int) == 1) = true := by rw [beq_iff_eq]; omega
          clear hfr
          go_wp2_with fail
          refine HG.out.mono ?_
          rintro e w5 ⟨A5, c5, F5, rfl, -, -, hv5, -, -⟩
          have c5' := (hv5.below.cell (p := ⟨b, off + j, none⟩) HBL.out).trans HCW.out
          have HV5 := Lib.hid hv5
          have HPG := Lib.hid (pages_live (W := W) w5 hv5)
          clear hv5 c0 HG
          go_wp2_with fail
          refine HPG.out.mono ?_
          rintro e w6 ⟨rfl, hc6, hb6⟩
          have k0 := hc6 0 (by rw [HIN.out.m_]; omega)
          rw [HIN.out.zero.at0] at k0
          rw [HIN.out.m_]
          have HN : Hid (PRel W pb db fr w6) := ⟨F5, t, f, HV5.out.next hb6, HIN.out⟩
          clear hc6 hb6 HPG c5'
          go_wp2_with fail
          go_roundw
          case rel => exact ⟨j + 1, by omega, by go_num, HN⟩
          case measure => simp [RowKit.intOf]; omega
        · have hb1 : ((fr : Int) == 1) = false := by rw [beq_eq_false_iff_ne]; omega
          clear hfr
          go_wp2_with fail
          refine HG.out.mono ?_
          rintro e w5 ⟨A5, c5, F5, rfl, -, -, hv5, -, -⟩
          have c5' := (hv5.below.cell (p := ⟨b, off + j, none⟩) HBL.out).trans HCW.out
          have HV5 := Lib.hid hv5
          have HPG := Lib.hid (pages_live (W := W) w5 hv5)
          clear hv5 c0 HG
          go_wp2_with fail
          refine HPG.out.mono ?_
          rintro e w6 ⟨rfl, hc6, hb6⟩
          have k0 := hc6 0 (by rw [HIN.out.m_]; omega)
          rw [HIN.out.zero.at0] at k0
          rw [HIN.out.m_]
          have HN : Hid (PRel W pb db fr w6) := ⟨F5, t, f, HV5.out.next hb6, HIN.out⟩
          clear hc6 hb6 HPG c5'
          go_wp2_with fail
          go_roundw
          case rel => exact ⟨j + 1, by omega, by go_num, HN⟩
          case measure => simp [RowKit.intOf]; omega
      · have hb2 : (x != 0) = true := by rw [bne_iff_ne]; omega
        have hb1 : ((fr : Int) == 1) = true := by rw [beq_iff_eq]; omega
        clear hfr a5 a3
        go_wp2_with fail
        refine HG.out.mono ?_
        rintro e w5 ⟨A5, c5, F5, rfl, -, -, hv5, -, -⟩
        have c5' := (hv5.below.cell (p := ⟨b, off + j, none⟩) HBL.out).trans HCW.out
        have HV5 := Lib.hid hv5
        have HPG := Lib.hid (pages_live (W := W) w5 hv5)
        clear hv5 c0 HG
        go_wp2_with fail
        refine HPG.out.mono ?_
        rintro e w6 ⟨rfl, hc6, hb6⟩
        have k0 := hc6 0 (by rw [HIN.out.m_]; omega)
        rw [HIN.out.zero.at0] at k0
        rw [HIN.out.m_]
        have HN : Hid (PRel W pb db fr w6) := ⟨F5, t, f, HV5.out.next hb6, HIN.out⟩
        clear hc6 hb6 HPG c5'
        go_wp2_with fail
        go_roundw
        case rel => exact ⟨j + 1, by omega, by go_num, HN⟩
        case measure => simp [RowKit.intOf]; omega
      · rcases hfr with hfr | hfr
        · have hb1 : ((fr : Int) == 1) = true := by rw [beq_iff_eq]; omega
          clear hfr
          go_wp2_with fail
          refine HG.out.mono ?_
          rintro e w5 ⟨A5, c5, F5, rfl, -, -, hv5, -, -⟩
          have c5' := (hv5.below.cell (p := ⟨b, off + j, none⟩) HBL.out).trans HCW.out
          have HV5 := Lib.hid hv5
          have HPG := Lib.hid (pages_live (W := W) w5 hv5)
          clear hv5 c0 HG
          go_wp2_with fail
          refine HPG.out.mono ?_
          rintro e w6 ⟨rfl, hc6, hb6⟩
          have k0 := hc6 0 (by rw [HIN.out.m_]; omega)
          rw [HIN.out.zero.at0] at k0
          rw [HIN.out.m_]
          have HN : Hid (PRel W pb db fr w6) := ⟨F5, t, f, HV5.out.next hb6, HIN.out⟩
          clear hc6 hb6 HPG c5'
          go_wp2_with fail
          go_roundw
          case rel => exact ⟨j + 1, by omega, by go_num, HN⟩
          case measure => simp [RowKit.intOf]; omega
        · have hb1 : ((fr : Int) == 1) = false := by rw [beq_eq_false_iff_ne]; omega
          clear hfr
          go_wp2_with fail
          refine HG.out.mono ?_
          rintro e w5 ⟨A5, c5, F5, rfl, -, -, hv5, -, -⟩
          have c5' := (hv5.below.cell (p := ⟨b, off + j, none⟩) HBL.out).trans HCW.out
          have HV5 := Lib.hid hv5
          have HPG := Lib.hid (pages_live (W := W) w5 hv5)
          clear hv5 c0 HG
          go_wp2_with fail
          refine HPG.out.mono ?_
          rintro e w6 ⟨rfl, hc6, hb6⟩
          have k0 := hc6 0 (by rw [HIN.out.m_]; omega)
          rw [HIN.out.zero.at0] at k0
          rw [HIN.out.m_]
          have HN : Hid (PRel W pb db fr w6) := ⟨F5, t, f, HV5.out.next hb6, HIN.out⟩
          clear hc6 hb6 HPG c5'
          go_wp2_with fail
          go_roundw
          case rel => exact ⟨j + 1, by omega, by go_num, HN⟩
          case measure => simp [RowKit.intOf]; omega
      · have hb2 : (x != 0) = true := by rw [bne_iff_ne]; omega
        have hb1 : ((fr : Int) == 1) = false := by rw [beq_eq_false_iff_ne]; omega
        clear hfr a5 a3
        go_wp2_with fail
        refine HG.out.mono ?_
        rintro e w5 ⟨A5, c5, F5, rfl, -, -, hv5, -, -⟩
        have c5' := (hv5.below.cell (p := ⟨b, off + j, none⟩) HBL.out).trans HCW.out
        have HV5 := Lib.hid hv5
        have HPG := Lib.hid (pages_live (W := W) w5 hv5)
        clear hv5 c0 HG
        go_wp2_with fail
        refine HPG.out.mono ?_
        rintro e w6 ⟨rfl, hc6, hb6⟩
        have k0 := hc6 0 (by rw [HIN.out.m_]; omega)
        rw [HIN.out.zero.at0] at k0
        rw [HIN.out.m_]
        have HN : Hid (PRel W pb db fr w6) := ⟨F5, t, f, HV5.out.next hb6, HIN.out⟩
        clear hc6 hb6 HPG c5'
        go_wp2_with fail
        go_roundw
        case rel => exact ⟨j + 1, by omega, by go_num, HN⟩
        case measure => simp [RowKit.intOf]; omega
    · obtain ⟨F, s, f, hv, hin⟩ := HRR.out
      obtain ⟨t1, e1, e2, hF1⟩ := pins_off hin f1
      have HU1 := Lib.hid (punpin_live (W := W) wr 0 hv)
      rw [e1] at HU1
      have HE2 := Lib.hid e2
      have HF1 := Lib.hid hF1
      have hcase : (n ≤ j) ∨ (j < n ∧ 60 ≤ j) := by omega
      clear hgo HRR hv hin e1 e2 hF1
      rcases hcase with hx | ⟨hx, hy⟩
      all_goals
        go_wp2_with (first
          | (refine HU1.out.mono ?_; rintro e w5 ⟨rfl, F5, hv5, -⟩; have HU2 := Lib.hid (punpin_live (W := W) w5 0 hv5); rw [HE2.out] at HU2)
          | (refine HU2.out.mono ?_; rintro e w6 ⟨rfl, F6, hv6, -⟩))
        have HR6 : Hid (QRel W pb db fr 0 w6) := ⟨F6, t1, f, hv6, ⟨PP.Pinned.none HF1.out.p_, HF1.out.holds, HF1.out.m_, HF1.out.size, fun j => by rw [HF1.out.p_]; omega⟩⟩
        clear hv5 hv6 HU1 HU2 HE2 HF1
        go_loopw [16] (fun i wi => ∃ k : Nat, k ≤ fr ∧ i = .int .i64 k ∧ Hid (QRel W pb db fr k wi)) (fun i _ => fr - (RowKit.intOf i).toNat)
        case atStart => exact ⟨0, Nat.zero_le _, rfl, HR6⟩
        case round =>
          obtain ⟨k, hk, rfl, HQ⟩ := hrel
          clear HR6
          by_cases hlt : k < fr
          · obtain ⟨F7, s7, f7, hv7, ha7⟩ := HQ.out
            obtain ⟨hmx, t, et, ha8⟩ := all_step ha7 hlt f2
            have HP7 := Lib.hid (ppin_live (W := W) _ (k : Int) (by omega) (by omega) hmx hv7)
            rw [et] at HP7
            have HA8 := Lib.hid ha8
            clear hv7 ha7 hmx et ha8 HQ
            go_wp2_with (refine HP7.out.mono ?_; rintro e w8 ⟨rfl, F8, hv8, -⟩)
            go_roundw
            case rel => exact ⟨k + 1, by omega, by go_num, Lib.hid ⟨F8, t, f7, hv8, HA8.out⟩⟩
            case measure => simp [RowKit.intOf]; omega
          · obtain rfl : k = fr := by omega
            obtain ⟨F7, s7, f7, hv7, ha7⟩ := HQ.out
            obtain ⟨eg, ep⟩ := all_full ha7 f2
            have HG7 := Lib.hid (get_live (W := W) _ 7 (by omega) (by omega) hv7)
            rw [eg] at HG7
            have HEP := Lib.hid ep
            clear hv7 ha7 eg ep HQ
            go_wp2_with fail
            refine HG7.out.mono ?_
            rintro e w8 ⟨A8, c8, F8, rfl, -, -, hv8, -, -⟩
            have HP8 := Lib.hid (put_live (W := W) w8 7 (by omega) (by omega) none 0 0 [] rfl (Or.inl rfl) (fun _ => ⟨rfl, rfl⟩) hv8)
            rw [HEP.out] at HP8
            clear hv8 HG7
            go_wp2_with (refine HP8.out.mono ?_; rintro e w9 ⟨rfl, F9, hv9, -⟩)
            go_ret
            exact ⟨rfl, hv9.below⟩

set_option maxRecDepth 20000 in
set_option maxHeartbeats 1600000 in
theorem walk (z : Int) (_ : -9223372036854775808 ≤ z) (_ : z ≤ 9223372036854775807) (A : Option Addr) (n c : Nat) (xs : List Int) (hl : xs.length = n) {W : World} (hs : Nums W W.heap.size A xs) (hn : n ≤ maxLen) :
    Calls Try.prog 4 #[.int .i64 z, .slice A n c] W fun e W' => e = .returned (.bool true) ∧ Below W.heap.size W W' := by
  by_cases h1 : z < 1
  · clear hs hl
    go_enter Try.func4, Try.ntmps4
    go_wp2_with fail
    refine (awake_any _).mono ?_
    rintro e w1 ⟨rfl, b1⟩
    go_wp2_with fail
    refine (new_live (W := W) w1 8 (by omega) (by omega) b1).mono ?_
    rintro e w2 ⟨db, D2, rfl, hv2, -, -⟩
    have HB := Lib.hid hv2.below
    clear b1 hv2
    go_wp2_with fail
    go_ret
    exact ⟨rfl, HB.out⟩
  · by_cases h2 : 7 < z
    · clear hs hl
      go_enter Try.func4, Try.ntmps4
      go_wp2_with fail
      refine (awake_any _).mono ?_
      rintro e w1 ⟨rfl, b1⟩
      go_wp2_with fail
      refine (new_live (W := W) w1 8 (by omega) (by omega) b1).mono ?_
      rintro e w2 ⟨db, D2, rfl, hv2, -, -⟩
      have HB := Lib.hid hv2.below
      clear b1 hv2
      go_wp2_with fail
      go_ret
      exact ⟨rfl, HB.out⟩
    · obtain ⟨fr, rfl⟩ : ∃ fr : Nat, z = (fr : Int) := ⟨z.toNat, by omega⟩
      exact walkIn fr (by omega) (by omega) A n c xs hl hs hn

set_option maxRecDepth 100000 in
theorem lifted (os : Os) (started : os.Started) (H : Type) (enc : TypeId × Value → H) :
    ReturnsInHanded {} Try.checked os 4 .any (Rows.poolPinsSpec.pre6 enc Try.prog Try.f4 Rows.poolPinsRow.domain false)
      (Rows.poolPinsSpec.post enc Try.prog Try.f4 false true false false) := by
  refine lift_law (C := Try.checked) (tb := 4) ownKnobs started (by kernel_rfl) Try.func4
    (ChangeSpec.witness6 (enc := enc) (C := Try.checked) false ⟨#[], #[.int .i64 0, .slice none 0 0], []⟩ 8 (by kernel_rfl) (by kernel_rfl) (by kernel_rfl) (by kernel_rfl))
    laidOut ?_ rfl rfl Try.underlying4 ?_ ?_
  · intro t ht
    rw [Try.params4] at ht
    simp only [List.mem_cons, List.not_mem_nil, or_false] at ht
    rcases ht with rfl | rfl <;> exact ⟨by kernel_rfl, of_decide_eq_true (by kernel_rfl)⟩
  · intro vs ds W p hA
    rw [Try.params4] at hA
    obtain ⟨v0, vs0, d0, ds0, p0, q0, ha, rfl, rfl, h0, r0⟩ := trodAll_cons hA
    obtain ⟨v1, vs1, d1, ds1, p1, q1, rfl, rfl, rfl, h1, r1⟩ := trodAll_cons r0
    obtain ⟨rfl, rfl, rfl⟩ := trodAll_nil r1
    rfl
  · intro W base args ds p hval hA
    rw [Try.params4] at hA hval
    obtain ⟨v0, vs0, d0, ds0, p0, q0, ha, rfl, rfl, h0, r0⟩ := trodAll_cons hA
    obtain ⟨v1, vs1, d1, ds1, p1, q1, rfl, rfl, rfl, h1, r1⟩ := trodAll_cons r0
    obtain ⟨rfl, rfl, rfl⟩ := trodAll_nil r1
    obtain rfl : args = #[v0, v1] := by cases args; simp_all
    obtain ⟨i0, rfl, lo0, hi0⟩ := open_i64 (hval 0 _ v0 rfl rfl) h0
    obtain ⟨A1, n1, c1, xs1, rfl, e1, hr1, y1⟩ := open_numsR (hval 1 _ v1 rfl rfl) h1
    exact walk i0 lo0 hi0 A1 n1 c1 xs1 e1 hr1 y1

/-- The statement. -/
theorem proved : Rows.PoolPinsSaid :=
  OpenClaim.holds_of_wide 4 Try.f4 rfl rfl rfl rfl rfl rfl rfl ⟨rfl, rfl, rfl, rfl, rfl⟩ rfl rfl rfl rfl rfl (by kernel_rfl) Try.func4 (by kernel_rfl)
    (of_decide_eq_true (by kernel_rfl)) (by unfold Func.isWrapper; first | (rw [if_pos (by decide +kernel)]; kernel_rfl) | (rw [if_neg (by decide +kernel)]; exact ⟨rfl, rfl⟩))
    (fun os started H enc _ => lifted os started H enc)
#print axioms proved
end Go.Proofs.Ytgkdlbcpckdmkaa.poolPins
