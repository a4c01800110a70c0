/-
  What fetch comes to, and Get, Pin, Unpin on it.
-/
import Derived.Test.YtgkdlbcpckdmkaaPLay
import Derived.Test.YtgkdlbcpckdmkaaPRoom
namespace Go.Proofs.Ytgkdlbcpckdmkaa
open Go.RowKit

/-- The frame of a sector, or an error; and what stands behind it. -/
def PP.fetch (s : PP) (n : Int) : Option Nat × Int × PP :=
  match s.find n with
  | some i => (some i, 0, s.used i)
  | none =>
    if s.k.readE n = 0 then
      match s.room with
      | (some i, _, t) => (some i, 0, (t.lay i n (s.k.readB n) false).used i)
      | (none, e, t) => (none, e, t)
    else (none, s.k.readE n, s)

/-- What Get answers, out of fetch's answer. -/
def PP.gotA : Option Nat × Int × PP → Int × List UInt8 × PP
  | (some i, _, t) => (0, t.b i, t)
  | (none, e, t) => (e, [], t)

theorem PP.get_fetch (s : PP) (n : Int) : s.get n = PP.gotA (s.fetch n) := by
  unfold PP.get PP.fetch PP.gotA
  cases hf : s.find n with
  | some i => rfl
  | none =>
    by_cases hr : s.k.readE n = 0
    · simp only [if_pos hr]
      rcases hq : s.room with ⟨_ | i, e, t⟩
      · rfl
      · show _ = (0, (if i = i then s.k.readB n else t.b i), _)
        rw [if_pos rfl]
    · simp only [if_neg hr]

theorem writeA_at (s : PP) (v : Nat) : (s.writeA v).2.at_ = s.at_ ∧ (s.writeA v).2.m = s.m ∧ (s.writeA v).2.k.size = s.k.size := by
  unfold PP.writeA
  split
  · split
    · exact ⟨rfl, rfl, PS.written_size _ _ _⟩
    · exact ⟨rfl, rfl, PS.written_size _ _ _⟩
  · exact ⟨rfl, rfl, rfl⟩

/-- What is told of room's answer. -/
theorem room_tells {s t : PP} {o : Option Nat} {e : Int} (hh : s.c.h < s.c.n) (hn : s.c.n = s.m) (h : s.room = (o, e, t)) :
    t.m = s.m ∧ t.k.size = s.k.size ∧ (∀ i, o = some i → i < s.m ∧ t.at_ i = -1 ∧ e = 0) ∧ (o = none → e ≠ 0) := by
  cases hg : s.gap with
  | some i =>
    have h1 : s.room = (some i, 0, s) := by unfold PP.room; rw [hg]
    rw [h1] at h
    injection h with h2 h3
    injection h3 with h3 h4
    subst h2 h3 h4
    exact ⟨rfl, rfl, fun j hj => by
      obtain rfl := Option.some.inj hj
      exact ⟨(PP.gap_some hg).1, (PP.gap_some hg).2, rfl⟩, fun e => by cases e⟩
  | none =>
    cases hf : s.c.free with
    | false =>
      rw [room_full' hg hf] at h
      injection h with h2 h3
      injection h3 with h3 h4
      subst h2 h3 h4
      exact ⟨rfl, rfl, fun j hj => (by cases hj), fun _ => (by omega)⟩
    | true =>
      obtain ⟨r, hw, _, gr⟩ := CS.way_of hh hf
      obtain ⟨v1, _, _⟩ := CS.vic_of hw
      have hlt := gr.lt
      rw [hn] at hlt
      obtain ⟨a1, a2, a3⟩ := writeA_at s r.1
      by_cases hE : (s.writeA r.1).1 = 0
      · obtain ⟨r1, r2, r3⟩ := room_void hg hf v1 hE rfl
        rw [r1] at h
        injection h with h2 h3
        injection h3 with h3 h4
        subst h2 h3 h4
        refine ⟨r3, a3, fun j hj => ?_, fun e => by cases e⟩
        obtain rfl := Option.some.inj hj
        exact ⟨hlt, if_pos rfl, rfl⟩
      · rw [room_err hg hf v1 hE] at h
        injection h with h2 h3
        injection h3 with h3 h4
        subst h2 h3 h4
        exact ⟨a2, a3, fun j hj => (by cases hj), fun _ => hE⟩

section
variable {F D : Nat → Prop} {pb fb cb rb db : Nat} {g : Nat → Value} {s : PP}

theorem readB_le {k : PS} (h : k.Ok) (n : Int) : (k.readB n).length ≤ 1024 := by
  unfold PS.readB
  split
  · simp
  · split
    · exact PS.held_le h n
    · simp
theorem readE_has {k : PS} {n : Int} (h : k.readE n = 0) : k.has n = true := by
  unfold PS.readE at h
  split at h
  · cases h
  · split at h
    · assumption
    · cases h

theorem Moves.clk {w w' : World} (h : PoolAt w F D pb fb cb rb db g s) (hk : Kept (Two cb rb) w w') : Moves w F w' F :=
  ⟨hk.more (by rintro k (rfl | rfl); exact h.core.fc; exact h.core.fr), fun _ hk => Or.inl hk⟩

set_option maxRecDepth 20000 in
set_option maxHeartbeats 1600000 in
theorem fetch_any (w : World) (n : Int) (h1 : -9223372036854775808 ≤ n) (h2 : n ≤ 9223372036854775807) (h : PoolAt w F D pb fb cb rb db g s) :
    Calls Try.prog 29 #[.pointer (some ⟨pb, 0, none⟩), .int .i64 n] w (PEnd w F pb fb cb rb db (s.fetch n).2.2 (PP.roomV (s.fetch n))) := by
  have c0 := h.core.c0
  have c2 := h.core.c2
  have H := Lib.hid h
  have HM := Lib.hid (made_yes w pb db c0)
  have HF := Lib.hid (find_any w n h)
  have HR := Lib.hid (read_any w n h1 h2 h.core.dk)
  clear h h1 h2
  go_enter Try.func29, Try.ntmps29
  go_wp2_with fail
  refine HM.out.mono ?_
  rintro e w' ⟨rfl, rfl⟩
  clear HM
  go_wp2_with fail
  refine HF.out.mono ?_
  rintro e w' ⟨rfl, rfl⟩
  clear HF
  cases hf : s.find n with
  | some i =>
    have HE : Hid (s.fetch n = (some i, 0, s.used i)) := Lib.hid (by unfold PP.fetch; rw [hf])
    clear hf HR
    unfold findA
    go_wp2_with fail
    refine (use_any _ (i : Int) H.out.core.clk).mono ?_
    rintro e w1 hu
    obtain ⟨rfl, p1, m1⟩ := H.out.use i hu
    have P1 := Lib.hid p1
    have M1 := Lib.hid m1
    clear p1 m1 hu c0 c2
    go_wp2_with fail
    go_ret2
    rw [HE.out]
    exact ⟨rfl, F, D, g, P1.out, M1.out⟩
  | none =>
    unfold findA
    have HFN := Lib.hid hf
    clear hf
    go_wp2_with fail
    refine HR.out.mono ?_
    rintro e w1 ⟨A, c, rfl, ho, hb⟩
    have P1 := Lib.hid (H.out.below hb)
    have HX : Hid (Out w1 F A (s.k.readB n)) := own_outD ho (fun q hq hF => by
      have := (ho.lt q hq).1
      have := H.out.core.lt q hF
      omega)
    obtain ⟨_, _, e1, _, hz⟩ := own_slice ho
    injection e1 with e1 e2 e3
    subst e1 e3
    have HZ := Lib.hid hz
    have HB := Lib.hid hb
    have hl := readB_le H.out.core.dk.ok n
    obtain ⟨M, hM⟩ : ∃ M, (s.k.readB n).length = M := ⟨_, rfl⟩
    rw [hM] at hl
    rw [hM]
    rw [hM] at HZ
    have HL := Lib.hid hM
    clear hb ho hz e2 hM HR c0 c2
    by_cases hr : s.k.readE n = 0
    · have HE : Hid (s.fetch n = match s.room with
          | (some i, _, t) => (some i, 0, (t.lay i n (s.k.readB n) false).used i)
          | (none, e, t) => (none, e, t)) := Lib.hid (by unfold PP.fetch; rw [HFN.out]; simp only [if_pos hr])
      have HH := Lib.hid (readE_has hr)
      have HLE := Lib.hid hl
      rw [hr]
      clear hr
      go_wp2_with fail
      refine (room_any _ P1.out).mono ?_
      rintro e w2 ⟨rfl, F2, D2, g2, p2, m2⟩
      have HMM := Lib.hid m2
      rcases hq : s.room with ⟨o, er, t⟩
      rw [hq] at p2
      obtain ⟨t1, t2, t3, t4⟩ := room_tells P1.out.core.clk.hn P1.out.core.cm hq
      have T1 := Lib.hid t1
      have T2 := Lib.hid t2
      have P2 := Lib.hid p2
      cases o with
      | none =>
        have hb : (er != 0) = true := by rw [bne_iff_ne]; exact t4 rfl
        have HE2 : Hid (s.fetch n = (none, er, t)) := Lib.hid (by rw [HE.out, hq])
        clear p2 m2 hq t1 t2 t3 t4 HE HX hl
        unfold PP.roomV
        go_wp2_with fail
        go_ret2
        rw [HE2.out]
        exact ⟨rfl, F2, D2, g2, P2.out, (Moves.of_below HB.out).trans HMM.out⟩
      | some i =>
        obtain ⟨i1, i2, rfl⟩ := t3 i rfl
        have HX2 := Lib.hid (HMM.out.out HX.out)
        have hit : i < t.m := by rw [t1]; exact i1
        have hd : t.d i = false := p2.fit.vd i hit i2
        have hkn : t.k.has n = true := by
          rw [t.k.has_at, t2, ← s.k.has_at]
          exact HH.out
        have HE2 : Hid (s.fetch n = (some i, 0, (t.lay i n (s.k.readB n) (t.d i)).used i)) := Lib.hid (by rw [HE.out, hq, hd])
        have HO := Lib.hid (hold_any w2 i hit n hkn A M c (s.k.readB n) HL.out HLE.out HX2.out HZ.out p2)
        clear p2 m2 hq t1 t2 t3 t4 HE HX HX2 i1 i2 hd hkn hit hl
        unfold PP.roomV
        go_wp2_with fail
        refine HO.out.mono ?_
        rintro e w3 ⟨rfl, F3, D3, g3, p3, m3⟩
        have P3 := Lib.hid p3
        have M3 := Lib.hid m3
        clear p3 m3 HO
        go_wp2_with fail
        go_ret2
        rw [HE2.out]
        exact ⟨rfl, F3, D3, g3, P3.out, ((Moves.of_below HB.out).trans HMM.out).trans M3.out⟩
    · have HE : Hid (s.fetch n = (none, s.k.readE n, s)) := Lib.hid (by unfold PP.fetch; rw [HFN.out]; simp only [if_neg hr])
      have hb : (s.k.readE n != 0) = true := by rw [bne_iff_ne]; exact hr
      clear hr hl
      go_wp2_with fail
      go_ret2
      rw [HE.out]
      exact ⟨rfl, F, D, g, P1.out, Moves.of_below HB.out⟩
end
end Go.Proofs.Ytgkdlbcpckdmkaa
