/-
  What Pin, Unpin and Put come to.
-/
import Derived.Test.YtgkdlbcpckdmkaaPPut
namespace Go.Proofs.Ytgkdlbcpckdmkaa
open Go.RowKit

/-- What Pin answers, out of fetch's answer. -/
def PP.pinA : Option Nat × Int × PP → Int × PP
  | (some i, _, t) => (0, { t with c := t.c.pinS i })
  | (none, e, t) => (e, t)

section
variable {F D : Nat → Prop} {pb fb cb rb db : Nat} {g : Nat → Value} {s : PP}

theorem pinS_n' (c : CS) (i : Int) : (c.pinS i).n = c.n := by
  unfold CS.pinS CS.setP
  split <;> rfl
theorem unS_n' (c : CS) (i : Int) : (c.unS i).n = c.n := by
  unfold CS.unS CS.setP
  split <;> rfl

set_option maxRecDepth 20000 in
set_option maxHeartbeats 800000 in
theorem ppin_any (w : World) (n : Int) (h1 : -9223372036854775808 ≤ n) (h2 : n ≤ 9223372036854775807) (hx : (s.fetch n).2.2.c.Max 9223372036854775806) (h : PoolAt w F D pb fb cb rb db g s) :
    Calls Try.prog 16 #[.pointer (some ⟨pb, 0, none⟩), .int .i64 n] w (PEnd w F pb fb cb rb db (PP.pinA (s.fetch n)).2 (.int .i64 (PP.pinA (s.fetch n)).1)) := by
  have HF := Lib.hid (fetch_any w n h1 h2 h)
  obtain ⟨o, er, t, hq⟩ : ∃ o er t, s.fetch n = (o, er, t) := ⟨_, _, _, rfl⟩
  obtain ⟨t1, t2, t3⟩ := fetch_tells h.core.clk.hn h.core.cm hq
  rw [hq] at HF hx
  rw [hq]
  have HX := Lib.hid hx
  clear h hq h1 h2 hx
  go_enter Try.func16, Try.ntmps16
  go_wp2_with fail
  refine HF.out.mono ?_
  rintro e w1 ⟨rfl, F1, D1, g1, p1, m1⟩
  have P1 := Lib.hid p1
  have M1 := Lib.hid m1
  unfold PP.roomV
  cases o with
  | none =>
    have hb : (er != 0) = true := by rw [bne_iff_ne]; exact t3 rfl
    clear p1 m1 t1 t2 t3 HF
    go_wp2_with fail
    go_ret
    exact ⟨rfl, F1, D1, g1, P1.out, M1.out⟩
  | some i =>
    obtain ⟨i1, i2, rfl⟩ := t2 i rfl
    have hit : i < t.c.n := by rw [P1.out.core.cm, t1]; exact i1
    have HE : Hid (t.c.useE (i : Int) = 0) := Lib.hid (by unfold CS.useE; rw [if_pos (CS.has_of hit)])
    have c2 := p1.core.c2
    clear p1 m1 t1 t2 t3 HF i1 i2 hit
    go_wp2_with fail
    refine (pin_any w1 (i : Int) HX.out P1.out.core.clk).mono ?_
    rintro e w2 ⟨rfl, hc2, hk2⟩
    rw [HE.out]
    have P2 := Lib.hid (P1.out.clock (pinS_n' _ _) hc2 hk2)
    have M2 := Lib.hid (Moves.clk P1.out hk2)
    clear hc2 hk2 c2
    go_wp2_with fail
    go_ret
    exact ⟨rfl, F1, D1, g1, P2.out, M1.out.trans M2.out⟩

set_option maxRecDepth 20000 in
set_option maxHeartbeats 800000 in
theorem punpin_any (w : World) (n : Int) (h : PoolAt w F D pb fb cb rb db g s) :
    Calls Try.prog 18 #[.pointer (some ⟨pb, 0, none⟩), .int .i64 n] w (PEnd w F pb fb cb rb db (s.unpin n).2 (.int .i64 (s.unpin n).1)) := by
  have H := Lib.hid h
  have HM := Lib.hid (made_yes w pb db h.core.c0)
  have HF := Lib.hid (find_any w n h)
  have c2 := h.core.c2
  clear h
  go_enter Try.func18, Try.ntmps18
  go_wp2_with fail
  refine HM.out.mono ?_
  rintro e w' ⟨rfl, rfl⟩
  clear HM
  go_wp2_with fail
  refine HF.out.mono ?_
  rintro e w' ⟨rfl, rfl⟩
  clear HF
  unfold findA
  cases hf : s.find n with
  | none =>
    have HE : Hid (s.unpin n = (1, s)) := Lib.hid (by unfold PP.unpin; rw [hf])
    clear hf
    go_wp2_with fail
    go_ret
    rw [HE.out]
    exact ⟨rfl, F, D, g, H.out, Moves.refl _ _⟩
  | some i =>
    have HE : Hid (s.unpin n = (s.c.unE i, { s with c := s.c.unS i })) := Lib.hid (by unfold PP.unpin; rw [hf])
    clear hf
    go_wp2_with fail
    refine (unpin_any w (i : Int) H.out.core.clk).mono ?_
    rintro e w2 ⟨rfl, hc2, hk2⟩
    have P2 := Lib.hid (H.out.clock (unS_n' _ _) hc2 hk2)
    have M2 := Lib.hid (Moves.clk H.out hk2)
    clear hc2 hk2 c2
    go_wp2_with fail
    go_ret
    rw [HE.out]
    exact ⟨rfl, F, D, g, P2.out, M2.out⟩

/-- A sector's bytes are laid into a frame. -/
def PP.putAt (t : PP) (i : Nat) (n : Int) (l : List UInt8) : PP := (t.lay i n l true).used i

theorem putAt_eq (t : PP) (i : Nat) (n : Int) (l : List UInt8) : ({ (t.lay i n l (t.d i)).used i with d := fun j => if j = i then true else ((t.lay i n l (t.d i)).used i).d j } : PP) = t.putAt i n l := by
  have e : (fun j => if j = i then true else (if j = i then t.d i else t.d j)) = (fun j => if j = i then true else t.d j) := by
    funext j
    by_cases e : j = i
    · rw [if_pos e, if_pos e]
    · rw [if_neg e, if_neg e, if_neg e]
  exact congrArg (fun d => (⟨t.m, fun j => if j = i then n else t.at_ j, fun j => if j = i then l else t.b j, d, t.c.useS i, t.k⟩ : PP)) e

theorem PoolAt.putEnd {w3 : World} {t : PP} {i : Nat} {n : Int} {l : List UInt8} (hn : n ≠ -1) (h : PoolAt w3 F D pb fb cb rb db g ((t.lay i n l (t.d i)).used i)) :
    PoolAt (w3.setCell ⟨fb, i * 4 + 3, none⟩ (.bool true)) F D pb fb cb rb db g (t.putAt i n l) := by
  have := h.setD i true (fun _ => by
    show (if i = i then n else t.at_ i) ≠ -1
    rw [if_pos rfl]
    exact hn)
  rwa [putAt_eq] at this

theorem put_ok {s : PP} {n : Int} {l : List UInt8} (hb : s.k.bad n l = false) : s.put n l = match s.find n with
    | some i => (0, s.putAt i n l)
    | none => match s.room with
      | (some i, _, t) => (0, t.putAt i n l)
      | (none, e, t) => (e, t) := by
  unfold PP.put
  rw [hb]
  rfl

set_option maxRecDepth 20000 in
set_option maxHeartbeats 1600000 in
theorem put_any (w : World) (n : Int) (h1 : -9223372036854775808 ≤ n) (h2 : n ≤ 9223372036854775807) (A : Option Addr) (m c : Nat) (l : List UInt8) (hl : l.length = m) (hx : Out w F A l) (hz : A = none → m = 0 ∧ c = 0) (h : PoolAt w F D pb fb cb rb db g s) :
    Calls Try.prog 10 #[.pointer (some ⟨pb, 0, none⟩), .int .i64 n, .slice A m c] w (PEnd w F pb fb cb rb db (s.put n l).2 (.int .i64 (s.put n l).1)) := by
  have H := Lib.hid h
  have HM := Lib.hid (made_yes w pb db h.core.c0)
  have HF := Lib.hid (find_any w n h)
  have HS := Lib.hid (size_any w h.core.dk)
  have c0 := h.core.c0
  have c1 := h.core.c1
  have h4 := h.core.dk.s4
  have HX := Lib.hid hx
  have HZ := Lib.hid hz
  have HL := Lib.hid hl
  clear h hx hz
  by_cases hb : s.k.bad n l = true
  · have HE : Hid (s.put n l = (41, s)) := Lib.hid (by unfold PP.put; rw [if_pos hb])
    have hb' : n < 0 ∨ (s.k.size : Int) ≤ n ∨ (1024 : Nat) < m := by
      unfold PS.bad PS.has at hb
      simp at hb
      omega
    clear hb hl
    by_cases hn : n < 0
    · clear hb'
      go_enter Try.func10, Try.ntmps10
      go_wp2_with fail
      refine HM.out.mono ?_
      rintro e w' ⟨rfl, rfl⟩
      clear HM
      go_wp2_with (refine HS.out.mono ?_; rintro e w' ⟨rfl, rfl⟩)
      go_ret
      rw [HE.out]
      exact ⟨rfl, F, D, g, H.out, Moves.refl _ _⟩
    · by_cases hn2 : n < (s.k.size : Int)
      · have hm : 1024 < m := by omega
        have hn3 : 0 ≤ n := by omega
        clear hb' hn
        go_enter Try.func10, Try.ntmps10
        go_wp2_with fail
        refine HM.out.mono ?_
        rintro e w' ⟨rfl, rfl⟩
        clear HM
        go_wp2_with (refine HS.out.mono ?_; rintro e w' ⟨rfl, rfl⟩)
        go_ret
        rw [HE.out]
        exact ⟨rfl, F, D, g, H.out, Moves.refl _ _⟩
      · have hn3 : 0 ≤ n := by omega
        have hn4 : (s.k.size : Int) ≤ n := by omega
        clear hb' hn hn2
        go_enter Try.func10, Try.ntmps10
        go_wp2_with fail
        refine HM.out.mono ?_
        rintro e w' ⟨rfl, rfl⟩
        clear HM
        go_wp2_with (refine HS.out.mono ?_; rintro e w' ⟨rfl, rfl⟩)
        go_ret
        rw [HE.out]
        exact ⟨rfl, F, D, g, H.out, Moves.refl _ _⟩
  · have hb0 : s.k.bad n l = false := by simpa using hb
    have hh : s.k.has n = true ∧ m ≤ 1024 := by
      unfold PS.bad at hb0
      simp at hb0
      exact ⟨hb0.1, by omega⟩
    have hr := (s.k.has_at n).1 hh.1
    have HE := Lib.hid (put_ok hb0)
    have HH := Lib.hid hh.1
    have hm := hh.2
    have hr1 := hr.1
    have hr2 := hr.2
    clear hb hb0 hh hl hr
    go_enter Try.func10, Try.ntmps10
    go_wp2_with fail
    refine HM.out.mono ?_
    rintro e w' ⟨rfl, rfl⟩
    clear HM
    go_wp2_with (refine HS.out.mono ?_; rintro e w' ⟨rfl, rfl⟩)
    refine HF.out.mono ?_
    rintro e w' ⟨rfl, rfl⟩
    unfold findA
    clear HF HS
    cases hf : s.find n with
    | some i =>
      rw [hf] at HE
      obtain ⟨f1, f2, _⟩ := PP.find_some hf
      have HO := Lib.hid (hold_any w i f1 n HH.out A m c l HL.out hm HX.out HZ.out H.out)
      have HI := Lib.hid f1
      clear hf f1 f2 c0 c1
      go_wp2_with fail
      refine HO.out.mono ?_
      rintro e w1 ⟨rfl, F1, D1, g1, p1, m1⟩
      have P1 := Lib.hid (p1.putEnd (w3 := w1) (by omega))
      have M1 := Lib.hid (m1.trans (Moves.setCell w1 (a := ⟨fb, i * 4 + 3, none⟩) p1.core.ff (.bool true)))
      have c1 := p1.core.c1
      have d3 := p1.s3 (i := i) HI.out
      have f3 := p1.sf (i * 4 + 3)
      have hi : i < s.m := HI.out
      have hm2 : s.m ≤ 1000 := H.out.core.m1.2
      have c1' : w1.cell? ⟨pb, 1, none⟩ = some (.slice (some ⟨fb, 0, none⟩) s.m s.m) := c1
      clear p1 m1 HO c1
      go_wp2_with fail
      go_ret
      rw [HE.out]
      exact ⟨rfl, F1, D1, g1, P1.out, M1.out⟩
    | none =>
      rw [hf] at HE
      have HR := Lib.hid (room_any w H.out)
      obtain ⟨o, er, t, hq⟩ : ∃ o er t, s.room = (o, er, t) := ⟨_, _, _, rfl⟩
      obtain ⟨t1, t2, t3, t4⟩ := room_tells H.out.core.clk.hn H.out.core.cm hq
      rw [hq] at HR HE
      clear hf hq c0 c1
      go_wp2_with fail
      refine HR.out.mono ?_
      rintro e w1 ⟨rfl, F1, D1, g1, p1, m1⟩
      have HX1 := Lib.hid (m1.out HX.out)
      have M1 := Lib.hid m1
      unfold PP.roomV
      cases o with
      | none =>
        have HE2 : Hid (s.put n l = (er, t)) := HE.out
        have P1 := Lib.hid p1
        have hb : (er != 0) = true := by rw [bne_iff_ne]; exact t4 rfl
        clear p1 m1 t1 t2 t3 t4 HR HE
        go_wp2_with fail
        go_ret
        rw [HE2.out]
        exact ⟨rfl, F1, D1, g1, P1.out, M1.out⟩
      | some i =>
        have HE2 : Hid (s.put n l = (0, t.putAt i n l)) := HE.out
        obtain ⟨i1, i2, rfl⟩ := t3 i rfl
        have hit : i < t.m := by rw [t1]; exact i1
        have hkn : t.k.has n = true := by
          rw [t.k.has_at, t2, ← s.k.has_at]
          exact HH.out
        have HO := Lib.hid (hold_any w1 i hit n hkn A m c l HL.out hm HX1.out HZ.out p1)
        have HI := Lib.hid hit
        have HM2 := Lib.hid p1.core.m1.2
        clear p1 m1 t1 t2 t3 t4 HR HE i1 i2 hit hkn
        go_wp2_with fail
        refine HO.out.mono ?_
        rintro e w2 ⟨rfl, F2, D2, g2, p2, m2⟩
        have P2 := Lib.hid (p2.putEnd (w3 := w2) (by omega))
        have M2 := Lib.hid (M1.out.trans (m2.trans (Moves.setCell w2 (a := ⟨fb, i * 4 + 3, none⟩) p2.core.ff (.bool true))))
        have c1 : w2.cell? ⟨pb, 1, none⟩ = some (.slice (some ⟨fb, 0, none⟩) t.m t.m) := p2.core.c1
        have d3 := p2.s3 (i := i) HI.out
        have f3 := p2.sf (i * 4 + 3)
        have hi : i < t.m := HI.out
        have hm2 : t.m ≤ 1000 := HM2.out
        clear p2 m2 HO
        go_wp2_with fail
        go_ret
        rw [HE2.out]
        exact ⟨rfl, F2, D2, g2, P2.out, M2.out⟩
end
end Go.Proofs.Ytgkdlbcpckdmkaa
