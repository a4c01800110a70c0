/-
  What Reclaim comes to.
-/
import Derived.Test.YtlldmefjhgahdaaSPut
import Derived.Test.YtlldmefjhgahdaaSLaid
import Derived.Test.YtlldmefjhgahdaaSJoinF
import Derived.Deep.RegionHeld3
import Derived.Deep.CutBlock
import Derived.Deep.DeepCutAuto
namespace Go.Proofs.Ytlldmefjhgahdaa
open Go.RowKit

/-- The first k are not too late. -/
def Soon (ps : List (Int × Int)) (k : Nat) (e : Int) : Prop := ∀ x ∈ ps.take k, x.1 ≤ e
theorem Soon.more {ps : List (Int × Int)} {k : Nat} {e x y : Int} (h : Soon ps k e) (hv : ps[k]? = some (x, y)) (hx : x ≤ e) : Soon ps (k + 1) e := by
  unfold Soon
  rw [List.take_add_one, hv, Option.toList_some]
  intro a ha
  rcases List.mem_append.1 ha with ha | ha
  · exact h a ha
  · obtain rfl : a = (x, y) := by simpa using ha
    exact hx
theorem count_at {e : Int} : ∀ {k b : Nat} {ps : List (Int × Int)}, Soon ps k e → k ≤ b → k ≤ ps.length → (ps.length ≤ k ∨ b ≤ k ∨ ∃ x y, ps[k]? = some (x, y) ∧ ¬ x ≤ e) → SS.count e b ps = k
  | 0, 0, ps, _, _, _, _ => by cases ps <;> rfl
  | 0, b + 1, [], _, _, _, _ => rfl
  | 0, b + 1, x :: ps, _, _, _, hs => by
    unfold SS.count
    rcases hs with h | h | ⟨a, b, hv, hx⟩
    · simp at h
    · omega
    · obtain rfl : x = (a, b) := by simpa using hv
      rw [if_neg hx]
  | k + 1, 0, _, _, h, _, _ => by omega
  | k + 1, b + 1, [], _, _, h, _ => by simp at h
  | k + 1, b + 1, x :: ps, hk, hb, hl, hs => by
    unfold SS.count
    rw [if_pos (hk x (by simp)), count_at (k := k) (b := b) (ps := ps) (fun y hy => hk y (by rw [List.take_succ_cons]; exact List.mem_cons_of_mem _ hy)) (by omega) (by simpa using hl) (by
      rcases hs with h | h | ⟨a, c, hv, hx⟩
      · exact Or.inl (by simpa using h)
      · exact Or.inr (Or.inl (by omega))
      · exact Or.inr (Or.inr ⟨a, c, by simpa using hv, hx⟩))]
theorem rec_at {s : SS} {e : Int} {b k : Nat} (h : SS.count e b s.pe = k) : s.reclaim e b = ({ s with fr := SS.insL ((s.pe.take k).map (·.2)) s.fr, pe := s.pe.drop k }, k) := by
  unfold SS.reclaim
  rw [h, SS.insAll_insL]
theorem chainR {w1 wx w3 : World} (b : Below wx.heap.size wx w3) (h : Below w1.heap.size w1 wx) : Below w1.heap.size w1 w3 := h.trans (b.mono h.size)
theorem hi_chainR {w1 wx w3 : World} {sz n c r : Nat} {e : TypeId} {A : Option Addr} {cs : List Value} (o : w3.ownsRow wx.heap.size e sz (.slice A n c) n cs) (h : Below w1.heap.size w1 wx) (hr : r < w1.heap.size) : Hi (r + 1) A :=
  (Hi.of_own o).low (by have := h.size; omega)

set_option maxRecDepth 20000 in
set_option maxHeartbeats 6400000 in
theorem reclaim_any (s : SS) (h e bud : Int) (A B : Option Addr) (n c m d : Nat) (w : World) (hh : s.hi = h) (hs : Sp w A n c B m d s) (hn : n ≤ 300000) (hm : m ≤ 300000) :
    Calls Try.prog 18 #[.agg #[.int .i64 h, .slice A n c, .slice B m d], .int .i64 e, .int .i64 bud] w (SpEnd w (s.reclaim e bud.toNat).2 (s.reclaim e bud.toNat).1) := by
  obtain ⟨tb1, tb2, tb3⟩ := two_boxes w (.int .i64 h) (.slice A n c) (.slice B m d) (.int .i64 0) (.slice none 0 0) (.slice none 0 0)
  have HS := Lib.hid (hs.kept tb3)
  have HB := Lib.hid tb1
  have HR := Lib.hid tb2
  have B0 := Lib.hid tb3
  have HH := Lib.hid hh
  have HPL := Lib.hid hs.pl
  clear hs hh tb1 tb2 tb3
  go_enter Try.func18, Try.ntmps18
  go_upto_block 0 with fail
  generalize (w.alloc (.cells #[.int .i64 h, .slice A n c, .slice B m d] 26)).alloc (.cells #[.int .i64 0, .slice none 0 0, .slice none 0 0] 26) = w0 at *
  go_cut [8] (fun s8 wx => ∃ k : Nat, k ≤ m ∧ s8 = .int .i64 k ∧ Hid (SS.count e bud.toNat s.pe = k) ∧ wx = w0)
  case first =>
    go_wp2_with fail
    go_loopw [8] (fun i wk => ∃ k : Nat, k ≤ m ∧ (k = 0 ∨ (k : Int) ≤ bud) ∧ i = .int .i64 k ∧ Hid (Soon s.pe k e) ∧ wk = w0) (fun i _ => m - (intOf i).toNat)
    case atStart => exact ⟨0, Nat.zero_le _, Or.inl rfl, rfl, Lib.hid (fun x hx => absurd hx (by simp)), rfl⟩
    case round =>
      obtain ⟨k, hk, hkb, rfl, HSo, hw⟩ := hrel
      have hw' := hw.symm
      subst hw'
      clear hw
      have hkb' : k ≤ bud.toNat := by omega
      obtain ⟨y0, y1, y2⟩ := HB.out.cells
      by_cases hlt : k < m
      · obtain ⟨b, off, x, y, rfl, hv, c0, c1⟩ := HS.out.pe.prAt hlt
        by_cases hlb : (k : Int) < bud
        · by_cases hx : x ≤ e
          · have HM := Lib.hid (HSo.out.more hv hx)
            clear hv HSo
            go_wp2_with fail
            go_roundw
            case rel => exact ⟨k + 1, by omega, Or.inr (by omega), by go_num, HM, trivial⟩
            case measure => simp [intOf]; omega
          · have HC := Lib.hid (count_at (e := e) (b := bud.toNat) HSo.out hkb' (by rw [HPL.out]; exact hk) (Or.inr (Or.inr ⟨x, y, hv, hx⟩)))
            clear hv HSo
            go_wp2_with fail
            go_meet
            exact ⟨k, hk, rfl, HC, rfl⟩
        · have HC := Lib.hid (count_at (e := e) (b := bud.toNat) HSo.out hkb' (by rw [HPL.out]; exact hk) (Or.inr (Or.inl (by clear hv; omega))))
          clear hv HSo
          go_wp2_with fail
          go_meet
          exact ⟨k, hk, rfl, HC, rfl⟩
      · have HC := Lib.hid (count_at (e := e) (b := bud.toNat) HSo.out hkb' (by rw [HPL.out]; exact hk) (Or.inl (by rw [HPL.out]; omega)))
        clear HSo
        go_wp2_with fail
        go_meet
        exact ⟨k, hk, rfl, HC, rfl⟩
  case rest =>
    obtain ⟨k, hk, rfl, HC, hw⟩ := hcut
    have hw' := hw.symm
    subst hw'
    clear hw
    have HT := Lib.hid (rec_at HC.out)
    clear HC
    have hmd := HS.out.pe.le
    have hnil := HS.out.pe.lies.1
    rcases B with _ | ad
    · obtain ⟨rfl, rfl⟩ := hnil rfl
      obtain rfl : k = 0 := by omega
      have LT := Lib.hid (by simpa [prVals] using (Ln.none_ w0.drew 2) : Ln w0.drew 2 (none) 0 (0) (prVals (s.pe.take 0)))
      have K0 : w0.drew.cell? ⟨w.heap.size, 1, none⟩ = some (.slice A n c) ∧ w0.drew.cell? ⟨w.heap.size, 2, none⟩ = some (.slice none 0 0) := HB.out.cells.2
      obtain ⟨x1, x2⟩ := K0
      have K0 : w0.drew.cell? ⟨w.heap.size, 1, none⟩ = some (.slice A n c) ∧ w0.drew.cell? ⟨w.heap.size, 2, none⟩ = some (.slice none 0 0) := HB.out.cells.2
      go_wp2_with fail
      go_region_held3 (fun w' => w'.cell? ⟨w.heap.size, 1, none⟩ = some (.slice A n c) ∧ w'.cell? ⟨w.heap.size, 2, none⟩ = some (.slice none 0 0))
        (first | exact K2 | exact K1 | exact K0)
        (first
          | (go_at_call 38; refine (pagesOf_any _ 0 _ (s.pe.take 0) _ LT.out (by omega)).mono ?_; rintro e1 w1 ⟨v1, rfl, o1, b1⟩; obtain ⟨A1, c1, rfl, hc1, l1⟩ := Ln.of_own o1; have BP := Lib.hid (chainR b1 ((Below.refl w0.heap.size w0).drew)); have HB1 := Lib.hid (HB.out.kept BP.out); have K1 : w1.cell? ⟨w.heap.size, 1, none⟩ = some (.slice A n c) ∧ w1.cell? ⟨w.heap.size, 2, none⟩ = some (.slice none 0 0) := HB1.out.cells.2)
          | (go_at_call 36; refine (laid_any A A1 n c 0 c1 s.fr ((s.pe.take 0).map (·.2)) w1 (HS.out.fr.kept BP.out) l1 (by omega) (by omega)).mono ?_; rintro e1 w2 ⟨v2, rfl, o2, b2⟩; rw [Nat.add_zero] at o2; obtain ⟨A2, c2, rfl, hc2, l2⟩ := Ln.of_own o2; have BQ := Lib.hid (chainR b2 BP.out); have HB2 := Lib.hid (HB.out.kept BQ.out); have HI2 := Lib.hid (hi_chainR o2 BP.out HR.out.lt); have K2 : w2.cell? ⟨w.heap.size, 1, none⟩ = some (.slice A n c) ∧ w2.cell? ⟨w.heap.size, 2, none⟩ = some (.slice none 0 0) := HB2.out.cells.2))
      have L2 := Lib.hid l2
      have HR2 := Lib.hid (HR.out.kept BQ.out)
      clear K0 K1 K2 x1 x2 o1 b1 l1 o2 b2 l2 LT
      have BA := Lib.hid ((below_one w2 (.cells #[.slice none 0 0] 24)).drew)
      have LN := Lib.hid (by have := HS.out.pe; have e := this.prN; rw [List.eq_nil_of_length_eq_zero e] at this ⊢; exact this : Ln w0 2 (none) (0) (0) (prVals (s.pe.drop 0)))
      have PL := Lib.hid ((pile_one (LN.out.kept BQ.out) (prVals_one _) 24).kept ((Below.refl _ _).drew))
      have K0 : w2.drew.cell? ⟨w.heap.size, 0, none⟩ = some (.int .i64 h) ∧ w2.drew.cell? ⟨w.heap.size, 2, none⟩ = some (.slice none 0 0) := ⟨HB2.out.cells.1, HB2.out.cells.2.2⟩
      obtain ⟨x1, x2⟩ := K0
      have K0 : w2.drew.cell? ⟨w.heap.size, 0, none⟩ = some (.int .i64 h) ∧ w2.drew.cell? ⟨w.heap.size, 2, none⟩ = some (.slice none 0 0) := ⟨HB2.out.cells.1, HB2.out.cells.2.2⟩
      have K1 : ((w2.alloc (.cells #[.slice none 0 0] 24)).drew).cell? ⟨w.heap.size, 0, none⟩ = some (.int .i64 h) ∧ ((w2.alloc (.cells #[.slice none 0 0] 24)).drew).cell? ⟨w.heap.size, 2, none⟩ = some (.slice none 0 0) := ⟨(HB2.out.kept BA.out).cells.1, (HB2.out.kept BA.out).cells.2.2⟩
      go_wp2_with fail
      go_region_held3 (fun w' => w'.cell? ⟨w.heap.size, 0, none⟩ = some (.int .i64 h) ∧ w'.cell? ⟨w.heap.size, 2, none⟩ = some (.slice none 0 0))
        (first | exact K3 | exact K2 | exact K1 | exact K0)
        (first
          | (go_at_call 30; refine (join_F _ 1 1 (0) _ _ PL.out rfl (by simp [tot]) (by omega) (by decide)).mono ?_; rintro e1 w4 ⟨v4, rfl, o4, b4⟩; obtain ⟨B4, d4, rfl, hd4, l4⟩ := Ln.of_own o4; have BZ := Lib.hid (chainR b4 BA.out); have HI4 := Lib.hid (hi_chainR o4 BA.out HR2.out.lt); have HB4 := Lib.hid (HB2.out.kept BZ.out); have HR4 := Lib.hid (HR2.out.kept BZ.out); have K2 : w4.cell? ⟨w.heap.size, 0, none⟩ = some (.int .i64 h) ∧ w4.cell? ⟨w.heap.size, 2, none⟩ = some (.slice none 0 0) := ⟨HB4.out.cells.1, HB4.out.cells.2.2⟩; obtain ⟨q0, q1, q2⟩ := HR4.out.cells; obtain ⟨f0, f1, f2⟩ := HR4.out.free; have PU := But.put w4 (w.heap.size + 1) (.int .i64 h) (.slice A2 (n) c2) (.slice B4 (0) d4); have K3 := (show _ ∧ _ from ⟨(PU.cell (k := w.heap.size) (by omega) 0).trans K2.1, (PU.cell (k := w.heap.size) (by omega) 2).trans K2.2⟩)))
      rw [pcs_one] at l4
      have B2 := Lib.hid (B0.out.trans (BQ.out.mono B0.out.size))
      have B4' := Lib.hid (B2.out.trans (BZ.out.mono B2.out.size))
      have HSp : Hid (Sp w4 A2 (n) c2 B4 (0) d4 { s with fr := SS.insL ((s.pe.take 0).map (·.2)) s.fr, pe := s.pe.drop 0 }) := Lib.hid ⟨L2.out.kept BZ.out, l4⟩
      have HD := Lib.hid (put_done (h := h) B4'.out (Nat.le_add_right w.heap.size 1) HSp.out HI2.out HI4.out HH.out (.int .i64 h) (.slice A2 (n) c2) (.slice B4 (0) d4))
      obtain ⟨e0, e1, e2⟩ := (Lib.hid (HR4.out.put (.int .i64 h) (.slice A2 (n) c2) (.slice B4 (0) d4))).out.cells
      go_wp2_with fail
      refine bodyPost_ret (v := .tuple #[.agg #[.int .i64 h, .slice A2 (n) c2, .slice B4 (0) d4], .int .i64 0]) (by simp [results, Try.results18, go_sem, e0, e1, e2]) rfl ?_
      rw [HT.out]
      exact ⟨_, rfl, HD.out.1, HD.out.2⟩
    · by_cases hm0 : m = 0
      · subst hm0
        obtain rfl : k = 0 := by omega
        have LT := Lib.hid (by simpa [prVals] using (Ln.empty w0.drew 2 ad d) : Ln w0.drew 2 (some ad) 0 (d) (prVals (s.pe.take 0)))
        have K0 : w0.drew.cell? ⟨w.heap.size, 1, none⟩ = some (.slice A n c) ∧ w0.drew.cell? ⟨w.heap.size, 2, none⟩ = some (.slice (some ad) 0 d) := HB.out.cells.2
        obtain ⟨x1, x2⟩ := K0
        have K0 : w0.drew.cell? ⟨w.heap.size, 1, none⟩ = some (.slice A n c) ∧ w0.drew.cell? ⟨w.heap.size, 2, none⟩ = some (.slice (some ad) 0 d) := HB.out.cells.2
        go_wp2_with fail
        go_region_held3 (fun w' => w'.cell? ⟨w.heap.size, 1, none⟩ = some (.slice A n c) ∧ w'.cell? ⟨w.heap.size, 2, none⟩ = some (.slice (some ad) 0 d))
          (first | exact K2 | exact K1 | exact K0)
          (first
            | (go_at_call 38; refine (pagesOf_any _ 0 _ (s.pe.take 0) _ LT.out (by omega)).mono ?_; rintro e1 w1 ⟨v1, rfl, o1, b1⟩; obtain ⟨A1, c1, rfl, hc1, l1⟩ := Ln.of_own o1; have BP := Lib.hid (chainR b1 ((Below.refl w0.heap.size w0).drew)); have HB1 := Lib.hid (HB.out.kept BP.out); have K1 : w1.cell? ⟨w.heap.size, 1, none⟩ = some (.slice A n c) ∧ w1.cell? ⟨w.heap.size, 2, none⟩ = some (.slice (some ad) 0 d) := HB1.out.cells.2)
            | (go_at_call 36; refine (laid_any A A1 n c 0 c1 s.fr ((s.pe.take 0).map (·.2)) w1 (HS.out.fr.kept BP.out) l1 (by omega) (by omega)).mono ?_; rintro e1 w2 ⟨v2, rfl, o2, b2⟩; rw [Nat.add_zero] at o2; obtain ⟨A2, c2, rfl, hc2, l2⟩ := Ln.of_own o2; have BQ := Lib.hid (chainR b2 BP.out); have HB2 := Lib.hid (HB.out.kept BQ.out); have HI2 := Lib.hid (hi_chainR o2 BP.out HR.out.lt); have K2 : w2.cell? ⟨w.heap.size, 1, none⟩ = some (.slice A n c) ∧ w2.cell? ⟨w.heap.size, 2, none⟩ = some (.slice (some ad) 0 d) := HB2.out.cells.2))
        have L2 := Lib.hid l2
        have HR2 := Lib.hid (HR.out.kept BQ.out)
        clear K0 K1 K2 x1 x2 o1 b1 l1 o2 b2 l2 LT
        have BA := Lib.hid ((below_one w2 (.cells #[.slice (some ad) 0 d] 24)).drew)
        have LN := Lib.hid (by have := HS.out.pe; have e := this.prN; rw [List.eq_nil_of_length_eq_zero e] at this ⊢; exact this : Ln w0 2 (some ad) (0) (d) (prVals (s.pe.drop 0)))
        have PL := Lib.hid ((pile_one (LN.out.kept BQ.out) (prVals_one _) 24).kept ((Below.refl _ _).drew))
        have K0 : w2.drew.cell? ⟨w.heap.size, 0, none⟩ = some (.int .i64 h) ∧ w2.drew.cell? ⟨w.heap.size, 2, none⟩ = some (.slice (some ad) 0 d) := ⟨HB2.out.cells.1, HB2.out.cells.2.2⟩
        obtain ⟨x1, x2⟩ := K0
        have K0 : w2.drew.cell? ⟨w.heap.size, 0, none⟩ = some (.int .i64 h) ∧ w2.drew.cell? ⟨w.heap.size, 2, none⟩ = some (.slice (some ad) 0 d) := ⟨HB2.out.cells.1, HB2.out.cells.2.2⟩
        have K1 : ((w2.alloc (.cells #[.slice (some ad) 0 d] 24)).drew).cell? ⟨w.heap.size, 0, none⟩ = some (.int .i64 h) ∧ ((w2.alloc (.cells #[.slice (some ad) 0 d] 24)).drew).cell? ⟨w.heap.size, 2, none⟩ = some (.slice (some ad) 0 d) := ⟨(HB2.out.kept BA.out).cells.1, (HB2.out.kept BA.out).cells.2.2⟩
        go_wp2_with fail
        go_region_held3 (fun w' => w'.cell? ⟨w.heap.size, 0, none⟩ = some (.int .i64 h) ∧ w'.cell? ⟨w.heap.size, 2, none⟩ = some (.slice (some ad) 0 d))
          (first | exact K3 | exact K2 | exact K1 | exact K0)
          (first
            | (go_at_call 30; refine (join_F _ 1 1 (0) _ _ PL.out rfl (by simp [tot]) (by omega) (by decide)).mono ?_; rintro e1 w4 ⟨v4, rfl, o4, b4⟩; obtain ⟨B4, d4, rfl, hd4, l4⟩ := Ln.of_own o4; have BZ := Lib.hid (chainR b4 BA.out); have HI4 := Lib.hid (hi_chainR o4 BA.out HR2.out.lt); have HB4 := Lib.hid (HB2.out.kept BZ.out); have HR4 := Lib.hid (HR2.out.kept BZ.out); have K2 : w4.cell? ⟨w.heap.size, 0, none⟩ = some (.int .i64 h) ∧ w4.cell? ⟨w.heap.size, 2, none⟩ = some (.slice (some ad) 0 d) := ⟨HB4.out.cells.1, HB4.out.cells.2.2⟩; obtain ⟨q0, q1, q2⟩ := HR4.out.cells; obtain ⟨f0, f1, f2⟩ := HR4.out.free; have PU := But.put w4 (w.heap.size + 1) (.int .i64 h) (.slice A2 (n) c2) (.slice B4 (0) d4); have K3 := (show _ ∧ _ from ⟨(PU.cell (k := w.heap.size) (by omega) 0).trans K2.1, (PU.cell (k := w.heap.size) (by omega) 2).trans K2.2⟩)))
        rw [pcs_one] at l4
        have B2 := Lib.hid (B0.out.trans (BQ.out.mono B0.out.size))
        have B4' := Lib.hid (B2.out.trans (BZ.out.mono B2.out.size))
        have HSp : Hid (Sp w4 A2 (n) c2 B4 (0) d4 { s with fr := SS.insL ((s.pe.take 0).map (·.2)) s.fr, pe := s.pe.drop 0 }) := Lib.hid ⟨L2.out.kept BZ.out, l4⟩
        have HD := Lib.hid (put_done (h := h) B4'.out (Nat.le_add_right w.heap.size 1) HSp.out HI2.out HI4.out HH.out (.int .i64 h) (.slice A2 (n) c2) (.slice B4 (0) d4))
        obtain ⟨e0, e1, e2⟩ := (Lib.hid (HR4.out.put (.int .i64 h) (.slice A2 (n) c2) (.slice B4 (0) d4))).out.cells
        go_wp2_with fail
        refine bodyPost_ret (v := .tuple #[.agg #[.int .i64 h, .slice A2 (n) c2, .slice B4 (0) d4], .int .i64 0]) (by simp [results, Try.results18, go_sem, e0, e1, e2]) rfl ?_
        rw [HT.out]
        exact ⟨_, rfl, HD.out.1, HD.out.2⟩
      · obtain ⟨b, off, e0, _⟩ := HS.out.pe.spot (by rw [prVals_length, HPL.out]; omega)
        obtain rfl := Option.some.inj e0
        by_cases hkd : k = d
        · subst hkd
          obtain rfl : m = k := by omega
          have j1 : (0 : Int) ≤ (m : Int) := by omega
          have LT := Lib.hid ((HS.out.pe.kept ((Below.refl _ _).drew)).prTake (Nat.le_refl m) : Ln w0.drew 2 (some ⟨b, off, none⟩) m (m) (prVals (s.pe.take m)))
          have K0 : w0.drew.cell? ⟨w.heap.size, 1, none⟩ = some (.slice A n c) ∧ w0.drew.cell? ⟨w.heap.size, 2, none⟩ = some (.slice (some ⟨b, off, none⟩) m m) := HB.out.cells.2
          obtain ⟨x1, x2⟩ := K0
          have K0 : w0.drew.cell? ⟨w.heap.size, 1, none⟩ = some (.slice A n c) ∧ w0.drew.cell? ⟨w.heap.size, 2, none⟩ = some (.slice (some ⟨b, off, none⟩) m m) := HB.out.cells.2
          go_wp2_with fail
          go_region_held3 (fun w' => w'.cell? ⟨w.heap.size, 1, none⟩ = some (.slice A n c) ∧ w'.cell? ⟨w.heap.size, 2, none⟩ = some (.slice (some ⟨b, off, none⟩) m m))
            (first | exact K2 | exact K1 | exact K0)
            (first
              | (go_at_call 38; refine (pagesOf_any _ m _ (s.pe.take m) _ LT.out (by omega)).mono ?_; rintro e1 w1 ⟨v1, rfl, o1, b1⟩; obtain ⟨A1, c1, rfl, hc1, l1⟩ := Ln.of_own o1; have BP := Lib.hid (chainR b1 ((Below.refl w0.heap.size w0).drew)); have HB1 := Lib.hid (HB.out.kept BP.out); have K1 : w1.cell? ⟨w.heap.size, 1, none⟩ = some (.slice A n c) ∧ w1.cell? ⟨w.heap.size, 2, none⟩ = some (.slice (some ⟨b, off, none⟩) m m) := HB1.out.cells.2)
              | (go_at_call 36; refine (laid_any A A1 n c m c1 s.fr ((s.pe.take m).map (·.2)) w1 (HS.out.fr.kept BP.out) l1 (by omega) (by omega)).mono ?_; rintro e1 w2 ⟨v2, rfl, o2, b2⟩; obtain ⟨A2, c2, rfl, hc2, l2⟩ := Ln.of_own o2; have BQ := Lib.hid (chainR b2 BP.out); have HB2 := Lib.hid (HB.out.kept BQ.out); have HI2 := Lib.hid (hi_chainR o2 BP.out HR.out.lt); have K2 : w2.cell? ⟨w.heap.size, 1, none⟩ = some (.slice A n c) ∧ w2.cell? ⟨w.heap.size, 2, none⟩ = some (.slice (some ⟨b, off, none⟩) m m) := HB2.out.cells.2))
          have L2 := Lib.hid l2
          have HR2 := Lib.hid (HR.out.kept BQ.out)
          clear K0 K1 K2 x1 x2 o1 b1 l1 o2 b2 l2 LT
          have BA := Lib.hid ((below_one w2 (.cells #[.slice (some ⟨b, off, none⟩) 0 0] 24)).drew)
          have LN := Lib.hid (by rw [List.drop_of_length_le (by rw [HPL.out]; exact Nat.le_refl _)]; exact Ln.empty _ _ _ _ : Ln w0 2 (some ⟨b, off, none⟩) (0) (0) (prVals (s.pe.drop m)))
          have PL := Lib.hid ((pile_one (LN.out.kept BQ.out) (prVals_one _) 24).kept ((Below.refl _ _).drew))
          have K0 : w2.drew.cell? ⟨w.heap.size, 0, none⟩ = some (.int .i64 h) ∧ w2.drew.cell? ⟨w.heap.size, 2, none⟩ = some (.slice (some ⟨b, off, none⟩) m m) := ⟨HB2.out.cells.1, HB2.out.cells.2.2⟩
          obtain ⟨x1, x2⟩ := K0
          have K0 : w2.drew.cell? ⟨w.heap.size, 0, none⟩ = some (.int .i64 h) ∧ w2.drew.cell? ⟨w.heap.size, 2, none⟩ = some (.slice (some ⟨b, off, none⟩) m m) := ⟨HB2.out.cells.1, HB2.out.cells.2.2⟩
          have K1 : ((w2.alloc (.cells #[.slice (some ⟨b, off, none⟩) 0 0] 24)).drew).cell? ⟨w.heap.size, 0, none⟩ = some (.int .i64 h) ∧ ((w2.alloc (.cells #[.slice (some ⟨b, off, none⟩) 0 0] 24)).drew).cell? ⟨w.heap.size, 2, none⟩ = some (.slice (some ⟨b, off, none⟩) m m) := ⟨(HB2.out.kept BA.out).cells.1, (HB2.out.kept BA.out).cells.2.2⟩
          go_wp2_with fail
          go_region_held3 (fun w' => w'.cell? ⟨w.heap.size, 0, none⟩ = some (.int .i64 h) ∧ w'.cell? ⟨w.heap.size, 2, none⟩ = some (.slice (some ⟨b, off, none⟩) m m))
            (first | exact K3 | exact K2 | exact K1 | exact K0)
            (first
              | (go_at_call 30; refine (join_F _ 1 1 (0) _ _ PL.out rfl (by simp [tot]) (by omega) (by decide)).mono ?_; rintro e1 w4 ⟨v4, rfl, o4, b4⟩; obtain ⟨B4, d4, rfl, hd4, l4⟩ := Ln.of_own o4; have BZ := Lib.hid (chainR b4 BA.out); have HI4 := Lib.hid (hi_chainR o4 BA.out HR2.out.lt); have HB4 := Lib.hid (HB2.out.kept BZ.out); have HR4 := Lib.hid (HR2.out.kept BZ.out); have K2 : w4.cell? ⟨w.heap.size, 0, none⟩ = some (.int .i64 h) ∧ w4.cell? ⟨w.heap.size, 2, none⟩ = some (.slice (some ⟨b, off, none⟩) m m) := ⟨HB4.out.cells.1, HB4.out.cells.2.2⟩; obtain ⟨q0, q1, q2⟩ := HR4.out.cells; obtain ⟨f0, f1, f2⟩ := HR4.out.free; have PU := But.put w4 (w.heap.size + 1) (.int .i64 h) (.slice A2 (n + m) c2) (.slice B4 (0) d4); have K3 := (show _ ∧ _ from ⟨(PU.cell (k := w.heap.size) (by omega) 0).trans K2.1, (PU.cell (k := w.heap.size) (by omega) 2).trans K2.2⟩)))
          rw [pcs_one] at l4
          have B2 := Lib.hid (B0.out.trans (BQ.out.mono B0.out.size))
          have B4' := Lib.hid (B2.out.trans (BZ.out.mono B2.out.size))
          have HSp : Hid (Sp w4 A2 (n + m) c2 B4 (0) d4 { s with fr := SS.insL ((s.pe.take m).map (·.2)) s.fr, pe := s.pe.drop m }) := Lib.hid ⟨L2.out.kept BZ.out, l4⟩
          have HD := Lib.hid (put_done (h := h) B4'.out (Nat.le_add_right w.heap.size 1) HSp.out HI2.out HI4.out HH.out (.int .i64 h) (.slice A2 (n + m) c2) (.slice B4 (0) d4))
          obtain ⟨e0, e1, e2⟩ := (Lib.hid (HR4.out.put (.int .i64 h) (.slice A2 (n + m) c2) (.slice B4 (0) d4))).out.cells
          go_wp2_with fail
          refine bodyPost_ret (v := .tuple #[.agg #[.int .i64 h, .slice A2 (n + m) c2, .slice B4 (0) d4], .int .i64 ((m : Nat) : Int)]) (by simp [results, Try.results18, go_sem, e0, e1, e2]) rfl ?_
          rw [HT.out]
          exact ⟨_, rfl, HD.out.1, HD.out.2⟩
        · have j1 : (0 : Int) ≤ (k : Int) := by omega
          have j2 : (k : Int) ≤ (m : Int) := by omega
          have j3 : (m : Int) ≤ (d : Int) := by omega
          have j4 : (k : Int) < (d : Int) := by omega
          have j5 : ¬ d = k := by omega
          have j6 : (k : Int) ≤ (d : Int) := by omega
          have LT := Lib.hid ((HS.out.pe.kept ((Below.refl _ _).drew)).prTake hk : Ln w0.drew 2 (some ⟨b, off, none⟩) k (d) (prVals (s.pe.take k)))
          have K0 : w0.drew.cell? ⟨w.heap.size, 1, none⟩ = some (.slice A n c) ∧ w0.drew.cell? ⟨w.heap.size, 2, none⟩ = some (.slice (some ⟨b, off, none⟩) m d) := HB.out.cells.2
          obtain ⟨x1, x2⟩ := K0
          have K0 : w0.drew.cell? ⟨w.heap.size, 1, none⟩ = some (.slice A n c) ∧ w0.drew.cell? ⟨w.heap.size, 2, none⟩ = some (.slice (some ⟨b, off, none⟩) m d) := HB.out.cells.2
          go_wp2_with fail
          go_region_held3 (fun w' => w'.cell? ⟨w.heap.size, 1, none⟩ = some (.slice A n c) ∧ w'.cell? ⟨w.heap.size, 2, none⟩ = some (.slice (some ⟨b, off, none⟩) m d))
            (first | exact K2 | exact K1 | exact K0)
            (first
              | (go_at_call 38; refine (pagesOf_any _ k _ (s.pe.take k) _ LT.out (by omega)).mono ?_; rintro e1 w1 ⟨v1, rfl, o1, b1⟩; obtain ⟨A1, c1, rfl, hc1, l1⟩ := Ln.of_own o1; have BP := Lib.hid (chainR b1 ((Below.refl w0.heap.size w0).drew)); have HB1 := Lib.hid (HB.out.kept BP.out); have K1 : w1.cell? ⟨w.heap.size, 1, none⟩ = some (.slice A n c) ∧ w1.cell? ⟨w.heap.size, 2, none⟩ = some (.slice (some ⟨b, off, none⟩) m d) := HB1.out.cells.2)
              | (go_at_call 36; refine (laid_any A A1 n c k c1 s.fr ((s.pe.take k).map (·.2)) w1 (HS.out.fr.kept BP.out) l1 (by omega) (by omega)).mono ?_; rintro e1 w2 ⟨v2, rfl, o2, b2⟩; obtain ⟨A2, c2, rfl, hc2, l2⟩ := Ln.of_own o2; have BQ := Lib.hid (chainR b2 BP.out); have HB2 := Lib.hid (HB.out.kept BQ.out); have HI2 := Lib.hid (hi_chainR o2 BP.out HR.out.lt); have K2 : w2.cell? ⟨w.heap.size, 1, none⟩ = some (.slice A n c) ∧ w2.cell? ⟨w.heap.size, 2, none⟩ = some (.slice (some ⟨b, off, none⟩) m d) := HB2.out.cells.2))
          have L2 := Lib.hid l2
          have HR2 := Lib.hid (HR.out.kept BQ.out)
          clear K0 K1 K2 x1 x2 o1 b1 l1 o2 b2 l2 LT
          have BA := Lib.hid ((below_one w2 (.cells #[.slice (some ⟨b, off + k * 2, none⟩) (m - k) (d - k)] 24)).drew)
          have LN := Lib.hid (HS.out.pe.prDrop hk : Ln w0 2 (some ⟨b, off + k * 2, none⟩) (m - k) (d - k) (prVals (s.pe.drop k)))
          have PL := Lib.hid ((pile_one (LN.out.kept BQ.out) (prVals_one _) 24).kept ((Below.refl _ _).drew))
          have K0 : w2.drew.cell? ⟨w.heap.size, 0, none⟩ = some (.int .i64 h) ∧ w2.drew.cell? ⟨w.heap.size, 2, none⟩ = some (.slice (some ⟨b, off, none⟩) m d) := ⟨HB2.out.cells.1, HB2.out.cells.2.2⟩
          obtain ⟨x1, x2⟩ := K0
          have K0 : w2.drew.cell? ⟨w.heap.size, 0, none⟩ = some (.int .i64 h) ∧ w2.drew.cell? ⟨w.heap.size, 2, none⟩ = some (.slice (some ⟨b, off, none⟩) m d) := ⟨HB2.out.cells.1, HB2.out.cells.2.2⟩
          have K1 : ((w2.alloc (.cells #[.slice (some ⟨b, off + k * 2, none⟩) (m - k) (d - k)] 24)).drew).cell? ⟨w.heap.size, 0, none⟩ = some (.int .i64 h) ∧ ((w2.alloc (.cells #[.slice (some ⟨b, off + k * 2, none⟩) (m - k) (d - k)] 24)).drew).cell? ⟨w.heap.size, 2, none⟩ = some (.slice (some ⟨b, off, none⟩) m d) := ⟨(HB2.out.kept BA.out).cells.1, (HB2.out.kept BA.out).cells.2.2⟩
          go_wp2_with fail
          go_region_held3 (fun w' => w'.cell? ⟨w.heap.size, 0, none⟩ = some (.int .i64 h) ∧ w'.cell? ⟨w.heap.size, 2, none⟩ = some (.slice (some ⟨b, off, none⟩) m d))
            (first | exact K3 | exact K2 | exact K1 | exact K0)
            (first
              | (go_at_call 30; refine (join_F _ 1 1 (m - k) _ _ PL.out rfl (by simp [tot]) (by omega) (by decide)).mono ?_; rintro e1 w4 ⟨v4, rfl, o4, b4⟩; obtain ⟨B4, d4, rfl, hd4, l4⟩ := Ln.of_own o4; have BZ := Lib.hid (chainR b4 BA.out); have HI4 := Lib.hid (hi_chainR o4 BA.out HR2.out.lt); have HB4 := Lib.hid (HB2.out.kept BZ.out); have HR4 := Lib.hid (HR2.out.kept BZ.out); have K2 : w4.cell? ⟨w.heap.size, 0, none⟩ = some (.int .i64 h) ∧ w4.cell? ⟨w.heap.size, 2, none⟩ = some (.slice (some ⟨b, off, none⟩) m d) := ⟨HB4.out.cells.1, HB4.out.cells.2.2⟩; obtain ⟨q0, q1, q2⟩ := HR4.out.cells; obtain ⟨f0, f1, f2⟩ := HR4.out.free; have PU := But.put w4 (w.heap.size + 1) (.int .i64 h) (.slice A2 (n + k) c2) (.slice B4 (m - k) d4); have K3 := (show _ ∧ _ from ⟨(PU.cell (k := w.heap.size) (by omega) 0).trans K2.1, (PU.cell (k := w.heap.size) (by omega) 2).trans K2.2⟩)))
          rw [pcs_one] at l4
          have B2 := Lib.hid (B0.out.trans (BQ.out.mono B0.out.size))
          have B4' := Lib.hid (B2.out.trans (BZ.out.mono B2.out.size))
          have HSp : Hid (Sp w4 A2 (n + k) c2 B4 (m - k) d4 { s with fr := SS.insL ((s.pe.take k).map (·.2)) s.fr, pe := s.pe.drop k }) := Lib.hid ⟨L2.out.kept BZ.out, l4⟩
          have HD := Lib.hid (put_done (h := h) B4'.out (Nat.le_add_right w.heap.size 1) HSp.out HI2.out HI4.out HH.out (.int .i64 h) (.slice A2 (n + k) c2) (.slice B4 (m - k) d4))
          obtain ⟨e0, e1, e2⟩ := (Lib.hid (HR4.out.put (.int .i64 h) (.slice A2 (n + k) c2) (.slice B4 (m - k) d4))).out.cells
          go_wp2_with fail
          refine bodyPost_ret (v := .tuple #[.agg #[.int .i64 h, .slice A2 (n + k) c2, .slice B4 (m - k) d4], .int .i64 ((k : Nat) : Int)]) (by simp [results, Try.results18, go_sem, e0, e1, e2]) rfl ?_
          rw [HT.out]
          exact ⟨_, rfl, HD.out.1, HD.out.2⟩
end Go.Proofs.Ytlldmefjhgahdaa
