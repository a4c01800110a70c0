/-
  What Decode comes to.
-/
import Derived.Test.YtlldmefjhgahdaaSEncode
import Derived.Test.YtlldmefjhgahdaaSTold
import Derived.Test.YtlldmefjhgahdaaSCheck
import Derived.Test.YtlldmefjhgahdaaSJoinB
import Derived.Test.YtlldmefjhgahdaaFRead
namespace Go.Proofs.Ytlldmefjhgahdaa
open Go.RowKit

theorem pile_each {w : World} {b : Nat} : ∀ (ps : List (List UInt8)) (off : Nat), (∀ i p, ps[i]? = some p → ∃ A' c', w.cell? ⟨b, off + i, none⟩ = some (.slice A' p.length c') ∧ Ln w 1 A' p.length c' (bv p)) →
    ∃ qs : List Pc, qs.length = ps.length ∧ pcs qs = bv ps.flatten ∧ tot qs = ps.flatten.length ∧ ∀ i q, qs[i]? = some q → w.cell? ⟨b, off + i, none⟩ = some (.slice q.A q.n q.c) ∧ Ln w 1 q.A q.n q.c q.cs ∧ ∀ u ∈ q.cs, u.oneCell' = true
  | [], _, _ => ⟨[], rfl, rfl, rfl, fun i q h => by simp at h⟩
  | p :: ps, off, h => by
    obtain ⟨A', c', h1, h2⟩ := h 0 p rfl
    obtain ⟨qs, e1, e2, e3, e4⟩ := pile_each ps (off + 1) (fun i q hq => by
      have := h (i + 1) q (by simpa using hq)
      rw [show off + (i + 1) = off + 1 + i by omega] at this
      exact this)
    refine ⟨⟨A', p.length, c', bv p⟩ :: qs, by simp [e1], ?_, ?_, fun i q hq => ?_⟩
    · unfold pcs at e2 ⊢
      rw [List.flatMap_cons, e2, List.flatten_cons, bv_append]
    · unfold tot at e3 ⊢
      rw [List.map_cons, List.sum_cons, e3, List.flatten_cons, List.length_append]
    · match i, hq with
      | 0, hq =>
        obtain rfl := Option.some.inj hq
        exact ⟨h1, h2, bv_one p⟩
      | i + 1, hq =>
        have := e4 i q (by simpa using hq)
        rw [show off + 1 + i = off + (i + 1) by omega] at this
        exact this
theorem Bps.pile {w : World} {A : Option Addr} {ps : List (List UInt8)} (h : Bps w A ps) : ∃ qs : List Pc, qs.length = ps.length ∧ pcs qs = bv ps.flatten ∧ tot qs = ps.flatten.length ∧ Pile w 1 A qs := by
  rcases h with rfl | ⟨b, off, rfl, hc⟩
  · exact ⟨[], rfl, rfl, rfl, Or.inl rfl⟩
  · obtain ⟨qs, e1, e2, e3, e4⟩ := pile_each ps off hc
    exact ⟨qs, e1, e2, e3, Or.inr ⟨b, off, rfl, e4⟩⟩

theorem told_fr : ∀ l : List Int, (SS.told l).fr.length ≤ l.length ∧ (SS.told l).pe.length ≤ l.length
  | [] => ⟨Nat.le_refl _, Nat.le_refl _⟩
  | [_] => ⟨Nat.zero_le _, Nat.zero_le _⟩
  | x :: y :: r => by
    rw [SS.told_two]
    split
    · have h1 : (r.take y.toNat).length ≤ r.length := by rw [List.length_take]; omega
      have h2 := SS.unpairs_short (r.drop (y.toNat + 1))
      rw [List.length_drop] at h2
      simp only [List.length_cons]
      omega
    · exact ⟨Nat.zero_le _, Nat.zero_le _⟩

theorem SS.cutB_len : ∀ (g : Nat) (b : List UInt8), (SS.cutB g b).length ≤ g
  | 0, _ => Nat.le_refl _
  | g + 1, b => by
    unfold SS.cutB
    split
    · exact Nat.zero_le _
    · rw [List.length_cons]
      have := SS.cutB_len g (b.drop 1000)
      omega
theorem SS.nums_len (s : SS) : s.nums.length = s.fr.length + 3 + 2 * s.pe.length := by
  rw [← numsTo_all s (Nat.le_refl _), numsTo_len s (Nat.le_refl _)]
theorem decS_none {ps : List (List UInt8)} (h : SS.dec ps = none) : SS.decS ps = SS.none ∧ SS.decE ps = 80 := by
  unfold SS.decS SS.decE
  rw [h]
  exact ⟨rfl, rfl⟩
theorem decS_some {ps : List (List UInt8)} {s : SS} (h : SS.dec ps = some s) : SS.decS ps = s ∧ SS.decE ps = 0 := by
  unfold SS.decS SS.decE
  rw [h]
  exact ⟨rfl, rfl⟩

/-- What is answered where parts are none's. -/
theorem dec_zero {w w1 : World} {ps : List (List UInt8)} (h : SS.dec ps = none) (hb : Below w.heap.size w w1) : SpEnd w (SS.decE ps) (SS.decS ps) (.returned (.tuple #[.agg #[.int .i64 0, .slice none 0 0, .slice none 0 0], .int .i64 80])) (((w1.setCell ⟨w.heap.size, 0, none⟩ (.int .i64 0)).setCell ⟨w.heap.size, 1, none⟩ (.slice none 0 0)).setCell ⟨w.heap.size, 2, none⟩ (.slice none 0 0)) := by
  have hd := put_done (h := 0) hb (Nat.le_refl w.heap.size) (Sp.zero w1) (Hi.none_ _) (Hi.none_ _) rfl (.int .i64 0) (.slice none 0 0) (.slice none 0 0)
  rw [(decS_none h).1, (decS_none h).2]
  exact ⟨_, rfl, hd.1, hd.2⟩

theorem check_or (s : SS) (t : Int) : s.check t = 0 ∨ s.check t = 80 := by
  by_cases h : SS.Fine s t
  · exact Or.inl (SS.check_ok h)
  · exact Or.inr (SS.check_bad h)

set_option maxRecDepth 20000 in
set_option maxHeartbeats 3200000 in
theorem decode_any (A : Option Addr) (n c : Nat) (ps : List (List UInt8)) (w : World) (hp : Bps w A ps) (hn : ps.length = n) (hm : n ≤ 100000) (hf : ps.flatten.length ≤ 100000) :
    Calls Try.prog 24 #[.slice A n c] w (SpEnd w (SS.decE ps) (SS.decS ps)) := by
  have B0 := Lib.hid (below_one w (.cells #[.int .i64 0, .slice none 0 0, .slice none 0 0] 26))
  have HR := Lib.hid (box_new w (.int .i64 0) (.slice none 0 0) (.slice none 0 0))
  have HP := Lib.hid (hp.kept B0.out)
  have HN := Lib.hid hn
  obtain ⟨qs, q1, q2, q3, q4⟩ := HP.out.pile
  have HPi := Lib.hid q4
  have HPl := Lib.hid (q1.trans hn)
  have HPt := Lib.hid q3
  have HPc := Lib.hid q2
  clear hp hn q1 q2 q3 q4
  go_enter Try.func24, Try.ntmps24
  go_upto_region 1 with fail
  generalize w.alloc (.cells #[.int .i64 0, .slice none 0 0, .slice none 0 0] 26) = w0 at *
  go_wp2_with fail
  refine (join_B A n c ps.flatten.length qs w0 HPi.out HPl.out HPt.out (by omega) (by omega)).mono ?_
  rintro e w1 ⟨v1, rfl, o1, b1⟩
  rw [HPc.out] at o1
  obtain ⟨A1, c1, rfl, _, l1⟩ := Ln.of_own o1
  have L1 := Lib.hid l1
  have B1 := Lib.hid b1
  obtain ⟨F, hF⟩ : ∃ F, ps.flatten.length = F := ⟨_, rfl⟩
  rw [hF] at hf L1 ⊢
  have HF := Lib.hid hF
  clear o1 b1 l1 hF
  go_wp2_with fail
  refine (fread_any A1 F c1 ps.flatten w1 HF.out L1.out.bys L1.out.le (by omega)).mono ?_
  rintro e w2 ⟨v2, rfl, o2, b2⟩
  have B2 := Lib.hid (B1.out.trans (b2.mono B1.out.size))
  have O2 := Lib.hid o2
  clear o2 b2
  cases hrd : rd ps.flatten with
  | none =>
    have HE : rdE ps.flatten = 50 := by unfold rdE; rw [hrd]; rfl
    rw [HE]
    have HZ := Lib.hid (dec_zero (SS.dec_no hrd) (B0.out.trans (B2.out.mono B0.out.size)))
    have HR2 := Lib.hid (HR.out.kept B2.out)
    obtain ⟨q0, q1, q2⟩ := HR2.out.cells
    obtain ⟨f0, f1, f2⟩ := HR2.out.free
    obtain ⟨e0, e1, e2⟩ := (Lib.hid (HR2.out.put (.int .i64 0) (.slice none 0 0) (.slice none 0 0))).out.cells
    clear HE hrd
    go_wp2_with fail
    refine bodyPost_ret (v := .tuple #[.agg #[.int .i64 0, .slice none 0 0, .slice none 0 0], .int .i64 80]) (by simp [results, Try.results24, go_sem, e0, e1, e2]) rfl ?_
    exact HZ.out
  | some l =>
    have HE : rdE ps.flatten = 0 := by unfold rdE; rw [hrd]; rfl
    rw [HE]
    have HRd := Lib.hid hrd
    have o2 := O2.out
    rw [show rdL ps.flatten = l by unfold rdL; rw [hrd]; rfl] at o2
    obtain ⟨A2, c2, rfl, _, l2⟩ := Ln.of_own o2
    have L2 := Lib.hid l2
    have hll : l.length ≤ 25000 := by
      have := rd_length hrd
      have := HF.out
      omega
    have HTl := Lib.hid (told_fr l)
    obtain ⟨Q, hQ⟩ : ∃ Q, l.length = Q := ⟨_, rfl⟩
    rw [hQ] at hll L2 ⊢
    have HQ := Lib.hid hQ
    clear HE hrd o2 l2 O2 hQ
    go_wp2_with fail
    refine (told_any A2 Q c2 l w2 L2.out (by omega) (SS.rd_range _ _ HRd.out)).mono ?_
    rintro e w3 ⟨A3, n3, c3, B3, m3, d3, rfl, s3, hi3, hj3, b3⟩
    have hn3 : n3 ≤ 25000 := by have := s3.fl; have := HTl.out.1; have := HQ.out; omega
    have hm3 : m3 ≤ 25000 := by have := s3.pl; have := HTl.out.2; have := HQ.out; omega
    have B3' := Lib.hid (B2.out.trans (b3.mono B2.out.size))
    have HDT := Lib.hid (SS.dec_told HRd.out (by have := HQ.out; omega))
    obtain ⟨s, hs⟩ : ∃ s, SS.told l = s := ⟨_, rfl⟩
    rw [hs] at s3 HDT ⊢
    obtain ⟨h, hh⟩ : ∃ h, s.hi = h := ⟨_, rfl⟩
    rw [hh]
    have HH := Lib.hid hh
    have BX := Lib.hid (below_one w3 (.cells #[.int .i64 h, .slice A3 n3 c3, .slice B3 m3 d3] 26))
    have HX := Lib.hid (box_new w3 (.int .i64 h) (.slice A3 n3 c3) (.slice B3 m3 d3))
    have S3 := Lib.hid (s3.kept BX.out)
    have HR3 := Lib.hid (HR.out.kept B3'.out)
    have B4 := Lib.hid (B3'.out.trans (BX.out.mono B3'.out.size))
    have HR4 := Lib.hid (HR3.out.kept BX.out)
    have HI3 : Hid (Hi (w.heap.size + 1) A3 ∧ Hi (w.heap.size + 1) B3) := Lib.hid (by have := HR.out.lt; have := B2.out.size; exact ⟨hi3.low (by omega), hj3.low (by omega)⟩)
    clear s3 b3 hs hh HTl L2 hi3 hj3
    go_upto_region 5 with fail
    generalize w3.alloc (.cells #[.int .i64 h, .slice A3 n3 c3, .slice B3 m3 d3] 26) = w4 at *
    obtain ⟨a0, a1, a2⟩ := HX.out.cells
    go_wp2_with fail
    refine (check_any s h 2147483647 A3 B3 n3 c3 m3 d3 w4 HH.out S3.out (by omega) (by omega)).mono ?_
    rintro e w5 ⟨rfl, b5⟩
    have B5 := Lib.hid b5
    clear b5 a0 a1 a2
    rcases check_or s 2147483647 with hk | hk
    · rw [hk]
      obtain ⟨a0, a1, a2⟩ := (HX.out.kept B5.out).cells
      have HK := Lib.hid hk
      clear hk
      go_wp2_with fail
      refine (encode_any s h A3 B3 n3 c3 m3 d3 w5 HH.out (S3.out.kept B5.out) (by omega) (by omega)).mono ?_
      rintro e w6 ⟨A6, c6, rfl, p6, b6⟩
      have P6 := Lib.hid p6
      have B6 := Lib.hid (B5.out.trans (b6.mono B5.out.size))
      have PP := Lib.hid (HP.out.kept ((B4.out.trans (B6.out.mono B4.out.size))))
      obtain ⟨M, hM⟩ : ∃ M, s.enc.length = M := ⟨_, rfl⟩
      rw [hM]
      have HM := Lib.hid hM
      have hMle : M ≤ 1000000 := by
        have h1 := SS.cutB_len (numB s.nums).length (numB s.nums)
        have h2 := numB_length s.nums
        have h3 := s.nums_len
        have h4 := S3.out.fl
        have h5 := S3.out.pl
        have h6 : s.enc.length ≤ (numB s.nums).length := h1
        omega
      clear p6 b6 hM a0 a1 a2
      go_wp2_with fail
      refine (equalF_any A6 A M c6 n c s.enc ps w6 P6.out PP.out HM.out HN.out hMle).mono ?_
      rintro e w7 ⟨rfl, rfl⟩
      have HR6 := Lib.hid (HR4.out.kept B6.out)
      have BB := Lib.hid (B0.out.trans ((B4.out.trans (B6.out.mono B4.out.size)).mono B0.out.size))
      obtain ⟨q0, q1, q2⟩ := HR6.out.cells
      obtain ⟨f0, f1, f2⟩ := HR6.out.free
      by_cases hep : s.enc = ps
      · rw [decide_eq_true hep]
        have HDS := Lib.hid (decS_some (HDT.out.trans (if_pos ⟨HK.out, hep⟩)))
        obtain ⟨a0, a1, a2⟩ := (HX.out.kept B6.out).cells
        have HD := Lib.hid (put_done (h := h) BB.out (Nat.le_refl w.heap.size) (S3.out.kept B6.out) HI3.out.1 HI3.out.2 HH.out (.int .i64 h) (.slice A3 n3 c3) (.slice B3 m3 d3))
        obtain ⟨e0, e1, e2⟩ := (Lib.hid (HR6.out.put (.int .i64 h) (.slice A3 n3 c3) (.slice B3 m3 d3))).out.cells
        clear hep
        go_wp2_with fail
        refine bodyPost_ret (v := .tuple #[.agg #[.int .i64 h, .slice A3 n3 c3, .slice B3 m3 d3], .int .i64 0]) (by simp [results, Try.results24, go_sem, e0, e1, e2]) rfl ?_
        rw [HDS.out.1, HDS.out.2]
        exact ⟨_, rfl, HD.out.1, HD.out.2⟩
      · rw [decide_eq_false hep]
        have HZ := Lib.hid (dec_zero (HDT.out.trans (if_neg (fun h => hep h.2))) BB.out)
        obtain ⟨e0, e1, e2⟩ := (Lib.hid (HR6.out.put (.int .i64 0) (.slice none 0 0) (.slice none 0 0))).out.cells
        clear hep
        go_wp2_with fail
        refine bodyPost_ret (v := .tuple #[.agg #[.int .i64 0, .slice none 0 0, .slice none 0 0], .int .i64 80]) (by simp [results, Try.results24, go_sem, e0, e1, e2]) rfl ?_
        exact HZ.out
    · rw [hk]
      have BB := Lib.hid (B0.out.trans ((B4.out.trans (B5.out.mono B4.out.size)).mono B0.out.size))
      have HZ := Lib.hid (dec_zero (HDT.out.trans (if_neg (fun h => by have h1 : s.check 2147483647 = 0 := h.1; rw [hk] at h1; cases h1))) BB.out)
      have HR5 := Lib.hid (HR4.out.kept B5.out)
      obtain ⟨q0, q1, q2⟩ := HR5.out.cells
      obtain ⟨f0, f1, f2⟩ := HR5.out.free
      obtain ⟨e0, e1, e2⟩ := (Lib.hid (HR5.out.put (.int .i64 0) (.slice none 0 0) (.slice none 0 0))).out.cells
      clear hk
      go_wp2_with fail
      refine bodyPost_ret (v := .tuple #[.agg #[.int .i64 0, .slice none 0 0, .slice none 0 0], .int .i64 80]) (by simp [results, Try.results24, go_sem, e0, e1, e2]) rfl ?_
      exact HZ.out
end Go.Proofs.Ytlldmefjhgahdaa
