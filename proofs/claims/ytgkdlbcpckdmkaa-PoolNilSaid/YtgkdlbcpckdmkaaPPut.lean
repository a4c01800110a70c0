/-
  What Get, Pin, Unpin and Put come to.
-/
import Derived.Test.YtgkdlbcpckdmkaaPGet
namespace Go.Proofs.Ytgkdlbcpckdmkaa
open Go.RowKit

theorem own_up2 {w : World} {base base2 : Nat} {v : Value} {l : List UInt8} (h : Own w base v l) (hb : base2 ≤ base) : Own w base2 v l := by
  obtain ⟨h1, h2⟩ := h
  refine ⟨h1, ?_⟩
  rcases h2 with h2 | ⟨g, cap, cur, hv, hg, r⟩
  · exact Or.inl h2
  · exact Or.inr ⟨g, cap, cur, hv, Nat.le_trans hb hg, r⟩

/-- What Get answers: bytes of their own. -/
def GetEnd (w : World) (F : Nat → Prop) (pb fb cb rb db : Nat) (s' : PP) (err : Int) (l : List UInt8) (e : Ending) (w' : World) : Prop :=
  ∃ A c F' D' g', e = .returned (.tuple #[.slice A l.length c, .int .i64 err]) ∧ PoolAt w' F' D' pb fb cb rb db g' s' ∧ Moves w F w' F' ∧ Own w' w.heap.size (.slice A l.length c) l ∧ Out w' F' A l ∧ l.length ≤ 1024

section
variable {F D : Nat → Prop} {pb fb cb rb db : Nat} {g : Nat → Value} {s : PP}

/-- What is told of fetch's answer. -/
theorem fetch_tells {t : PP} {o : Option Nat} {e n : Int} (hh : s.c.h < s.c.n) (hn : s.c.n = s.m) (h : s.fetch n = (o, e, t)) :
    t.m = s.m ∧ (∀ i, o = some i → i < s.m ∧ t.at_ i = n ∧ e = 0) ∧ (o = none → e ≠ 0) := by
  unfold PP.fetch at h
  cases hf : s.find n with
  | some i =>
    rw [hf] at h
    injection h with h2 h3
    injection h3 with h3 h4
    subst h2 h3 h4
    obtain ⟨f1, f2, _⟩ := PP.find_some hf
    exact ⟨rfl, fun j hj => by
      obtain rfl := Option.some.inj hj
      exact ⟨f1, f2, rfl⟩, fun e => by cases e⟩
  | none =>
    rw [hf] at h
    by_cases hr : s.k.readE n = 0
    · simp only [if_pos hr] at h
      rcases hq : s.room with ⟨q, er, u⟩
      rw [hq] at h
      obtain ⟨t1, t2, t3, t4⟩ := room_tells hh hn hq
      cases q with
      | some i =>
        injection h with h2 h3
        injection h3 with h3 h4
        subst h2 h3 h4
        exact ⟨t1, fun j hj => by
          obtain rfl := Option.some.inj hj
          exact ⟨(t3 i rfl).1, if_pos rfl, rfl⟩, fun e => by cases e⟩
      | none =>
        injection h with h2 h3
        injection h3 with h3 h4
        subst h2 h3 h4
        exact ⟨t1, fun j hj => (by cases hj), fun _ => t4 rfl⟩
    · simp only [if_neg hr] at h
      injection h with h2 h3
      injection h3 with h3 h4
      subst h2 h3 h4
      exact ⟨rfl, fun j hj => (by cases hj), fun _ => hr⟩

set_option maxRecDepth 20000 in
set_option maxHeartbeats 800000 in
theorem get_any (w : World) (n : Int) (h1 : -9223372036854775808 ≤ n) (h2 : n ≤ 9223372036854775807) (h : PoolAt w F D pb fb cb rb db g s) :
    Calls Try.prog 11 #[.pointer (some ⟨pb, 0, none⟩), .int .i64 n] w (GetEnd w F pb fb cb rb db (s.get n).2.2 (s.get n).1 (s.get n).2.1) := by
  have HF := Lib.hid (fetch_any w n h1 h2 h)
  have hq0 : ∃ o er t, s.fetch n = (o, er, t) := ⟨_, _, _, rfl⟩
  obtain ⟨o, er, t, hq⟩ := hq0
  obtain ⟨t1, t2, t3⟩ := fetch_tells h.core.clk.hn h.core.cm hq
  have HG : Hid (s.get n = PP.gotA (o, er, t)) := Lib.hid (by rw [PP.get_fetch, hq])
  rw [hq] at HF
  have HW := Lib.hid h.core.lt
  clear h hq h1 h2
  go_enter Try.func11, Try.ntmps11
  go_wp2_with fail
  refine HF.out.mono ?_
  rintro e w1 ⟨rfl, F1, D1, g1, p1, m1⟩
  have P1 := Lib.hid p1
  have M1 := Lib.hid m1
  unfold PP.roomV
  cases o with
  | none =>
    have hb : (er != 0) = true := by rw [bne_iff_ne]; exact t3 rfl
    clear p1 m1 t1 t2 t3 HF
    go_wp2_with fail
    go_ret2
    rw [HG.out]
    exact ⟨none, 0, F1, D1, g1, rfl, P1.out, M1.out, own_nil _ _, Or.inl rfl, Nat.zero_le _⟩
  | some i =>
    obtain ⟨i1, i2, rfl⟩ := t2 i rfl
    have hit : i < t.m := by rw [t1]; exact i1
    obtain ⟨o1, o2, o3⟩ := p1.own i hit
    have d0 := p1.s0 hit
    have c1 := p1.core.c1
    have hm := p1.core.m1.2
    obtain ⟨A, c, hv, hc, hz⟩ := own_slice o1
    rw [hv] at d0 o1
    obtain ⟨M, hM⟩ : ∃ M, (t.b i).length = M := ⟨_, rfl⟩
    rw [hM] at d0 o2 hz o1
    have HT := Lib.hid (told_any A M c _ (t.b i) w1 (own_bys o1) hM (by omega) hz)
    have HL := Lib.hid (show (t.b i).length ≤ 1024 by omega)
    have HG2 : Hid (s.get n = (0, t.b i, t)) := HG.out
    clear p1 m1 t1 t2 t3 HF HG hv hM o1 o3 hz hc i2 i1
    go_wp2_with fail
    refine HT.out.mono ?_
    rintro e w2 ⟨v2, rfl, o2, b2⟩
    obtain ⟨A2, c2, rfl, _, _⟩ := own_slice o2
    have O2 := Lib.hid o2
    have B2 := Lib.hid b2
    clear o2 b2 HT d0 c1
    go_wp2_with fail
    go_ret2
    rw [HG2.out]
    refine ⟨A2, c2, F1, D1, g1, rfl, P1.out.below B2.out, M1.out.trans (Moves.of_below B2.out), ?_, ?_, HL.out⟩
    · exact own_up2 O2.out M1.out.kept.size
    · exact own_outD O2.out (fun q hq hF => by
        have := (O2.out.lt q hq).1
        have := P1.out.core.lt q hF
        omega)
end
end Go.Proofs.Ytgkdlbcpckdmkaa
