/-
  SpaceTakes answers true, for every pages' lists and bound: a page that is taken is not known, nor is it given out again till it is given back; as many pages as may be are taken, each once, and then none. Conditions: none.
-/
import Derived.Test.YtlldmefjhgahdaaRows
import Derived.Test.YtlldmefjhgahdaaZC
import Derived.Deep.CutBlock
import Derived.Deep.DeepCutAuto
import Derived.Laws.MakeOwn
import Derived.Deep.LoopGhost
namespace Go.Proofs.Ytlldmefjhgahdaa.spaceTakes
open Go.ChangeShapes Go.WideShapes Go.ChangeAt Go.RowKit

set_option maxRecDepth 20000 in
theorem boolInfo8 : (Try.prog.info? 4).map (fun i => (i.zero, i.size, i.bytes)) = some (some (.bool false), 1, 1) := by kernel_rfl

theorem up_len {a b : Int} : ∀ {l : List Int}, l.Pairwise (· < ·) → (∀ x ∈ l, a ≤ x ∧ x < b) → (l.length : Int) ≤ max 0 (b - a)
  | [], _, _ => by simp; omega
  | x :: l, h, hx => by
    obtain ⟨h1, h2⟩ := List.pairwise_cons.1 h
    have h3 := hx x (by simp)
    have := up_len (a := x + 1) (b := b) h2 (fun y hy => ⟨by have := h1 y hy; omega, (hx y (by simp [hy])).2⟩)
    rw [List.length_cons]
    omega
/-- How many pages may still be taken. -/
def rem (s : SS) (t : Int) : Nat := s.fr.length + (t - s.hi).toNat
theorem rem_le {s : SS} {t : Int} (hf : SS.Fine s t) (ht : t ≤ 500) : rem s t ≤ 498 := by
  have h1 := up_len hf.up hf.inF
  have h2 := hf.lo
  have h3 := hf.hi
  unfold rem
  omega
theorem take_end {s : SS} {t : Int} (hf : SS.Fine s t) (h : rem s t = 0) : s.take t = (81, 0, SS.none) ∧ s.fr.length = 0 ∧ s.hi = t := by
  have h3 := hf.hi
  unfold rem at h
  exact ⟨take_full (by omega) (by omega), by omega, by omega⟩
theorem take_more {s : SS} {t : Int} (hf : SS.Fine s t) (h : 0 < rem s t) : ∃ (p : Nat) (u : SS), s.take t = (0, (p : Int), u) ∧ SS.Fine u t ∧ u.known (p : Int) = false ∧ 2 ≤ p ∧ (p : Int) < t ∧ rem u t + 1 = rem s t ∧
    (∀ q : Int, q ∉ s.fr ∧ q < s.hi → (q ∉ u.fr ∧ q < u.hi) ∧ q ≠ p) ∧ ((p : Int) ∉ u.fr ∧ (p : Int) < u.hi) ∧ u.fr.length ≤ s.fr.length ∧ u.pe = s.pe := by
  have he : (s.take t).1 = 0 := by
    unfold SS.take
    split
    · rfl
    · rename_i hfr
      have h1 : s.hi < t := by unfold rem at h; rw [hfr] at h; simp at h; omega
      rw [if_pos h1]
  obtain ⟨f1, f2, f3, f4, f5, f6⟩ := hf.take he
  obtain ⟨k1, k2⟩ := SS.known_no f2
  have hp : (s.take t).2.1 = (((s.take t).2.1.toNat : Nat) : Int) := by omega
  have hfr : (∀ q, q ∈ (s.take t).2.2.fr → q ∈ s.fr) ∧ ((s.take t).2.1 ∈ s.fr ∨ (s.take t).2.1 = s.hi) := by
    unfold SS.take
    split
    · rename_i p l hl
      exact ⟨fun q hq => by rw [hl]; exact List.mem_cons_of_mem _ hq, Or.inl (by rw [hl]; simp)⟩
    · rename_i hl
      split
      · exact ⟨fun q hq => by rw [hl]; rw [hl] at hq; exact hq, Or.inr rfl⟩
      · exact ⟨fun q hq => (by cases hq), (by rename_i hn; exfalso; unfold SS.take at he; rw [hl] at he; simp only at he; rw [if_neg hn] at he; cases he)⟩
  have hhi : s.hi ≤ (s.take t).2.2.hi := by rcases f5 with ⟨f5, _⟩ | ⟨f5, _⟩ <;> omega
  have hpe : (s.take t).2.1 < t := by have := f1.hi; omega
  refine ⟨(s.take t).2.1.toNat, (s.take t).2.2, ?_, f1, by rw [← hp]; exact f2, by omega, by omega, ?_, fun q hq => ⟨⟨fun e => hq.1 (hfr.1 q e), by omega⟩, fun e => ?_⟩, ⟨by rw [← hp]; exact k1, by omega⟩, ?_, f6⟩
  · rw [← hp]
    exact Prod.ext he rfl
  · have h1 := f1.hi
    have h2 := hf.hi
    unfold rem
    rcases f5 with ⟨e1, e2⟩ | ⟨e1, e2, e3⟩
    · omega
    · have e4 : s.fr.length = 0 := by rw [e2]; rfl
      have e5 : (s.take t).2.2.fr.length = 0 := by rw [e3]; rfl
      omega
  · rw [← hp] at e
    rcases hfr.2 with h1 | h1
    · exact hq.1 (by rw [e]; exact h1)
    · omega
  · rcases f5 with ⟨_, e2⟩ | ⟨_, e2, e3⟩
    · omega
    · rw [e3]
      exact Nat.zero_le _

/-- What is held while pages are taken. -/
structure TkAt (W : World) (sb : Nat) (t : Int) (g : Nat) (cur : SS) (A : Option Addr) (n c : Nat) (B : Option Addr) (m d : Nat) (seen : Nat → Bool) (wk : World) : Prop where
  fine : SS.Fine cur t
  sp : Sp wk A n c B m d cur
  box : Box wk W.heap.size (.int .i64 cur.hi) (.slice A n c) (.slice B m d)
  row : wk.rowIs sb 4 501 (fun i => .bool (seen i))
  out : ∀ q : Nat, seen q = true → (q : Int) ∉ cur.fr ∧ (q : Int) < cur.hi
  left : rem cur t = g
  bel : Below W.heap.size W wk
  few : cur.fr.length ≤ 300 ∧ cur.pe.length ≤ 300
def TkRel (W : World) (sb : Nat) (t : Int) (g : Nat) (wk : World) : Prop := ∃ cur A n c B m d seen, TkAt W sb t g cur A n c B m d seen wk

set_option maxRecDepth 20000 in
theorem TkAt.next {W wk v2 : World} {sb g p : Nat} {t : Int} {cur u : SS} {A A' B B' : Option Addr} {n c m d n' c' m' d' : Nat} {seen : Nat → Bool} (h : TkAt W sb t (g + 1) cur A n c B m d seen wk) (hsb : W.heap.size < sb)
    (hb : Below wk.heap.size wk v2) (hs : Sp v2 A' n' c' B' m' d' u) (hA : Hi wk.heap.size A') (hB : Hi wk.heap.size B')
    (hf : SS.Fine u t) (hr : rem u t + 1 = rem cur t) (ho : ∀ q : Int, q ∉ cur.fr ∧ q < cur.hi → (q ∉ u.fr ∧ q < u.hi) ∧ q ≠ p) (hp : (p : Int) ∉ u.fr ∧ (p : Int) < u.hi) (hl : u.fr.length ≤ cur.fr.length) (hpe : u.pe = cur.pe) :
    TkRel W sb t g ((((v2.setCell ⟨sb, p, none⟩ (.bool true)).setCell ⟨W.heap.size, 0, none⟩ (.int .i64 u.hi)).setCell ⟨W.heap.size, 1, none⟩ (.slice A' n' c')).setCell ⟨W.heap.size, 2, none⟩ (.slice B' m' d')) := by
  have hlt := h.box.lt
  have hrl := h.row.lt
  have b1 : But sb v2 (v2.setCell ⟨sb, p, none⟩ (.bool true)) := (But.refl sb v2).set p _
  have b2 := But.put (v2.setCell ⟨sb, p, none⟩ (.bool true)) W.heap.size (.int .i64 u.hi) (.slice A' n' c') (.slice B' m' d')
  have hrow := (h.row.of_block (hb.block sb hrl)).set p (.bool true)
  have hS1 : Sp (v2.setCell ⟨sb, p, none⟩ (.bool true)) A' n' c' B' m' d' u := hs.but b1 (hA.low (by omega)) (hB.low (by omega))
  refine ⟨u, A', n', c', B', m', d', fun i => if i = p then true else seen i, hf, hS1.but b2 (hA.low (by omega)) (hB.low (by omega)), ?_, ?_, fun q hq => ?_, by have := h.left; omega, ?_, ?_⟩
  · exact ((h.box.kept hb).but b1 (by omega)).put _ _ _
  · refine (hrow.of_block (b2.2 sb (by omega))).congr (fun i _ => ?_)
    by_cases e : i = p
    · simp [e]
    · simp [e]
  · have hq' : (if q = p then true else seen q) = true := hq
    by_cases e : q = p
    · rw [e]
      exact hp
    · rw [if_neg e] at hq'
      exact (ho q (h.out q hq')).1
  · exact below_put ((h.bel.trans (hb.mono h.bel.size)).setCell (by show W.heap.size ≤ sb; omega) _) (Nat.le_refl _) _ _ _
  · have := h.few
    rw [hpe]
    omega

set_option maxRecDepth 20000 in
set_option maxHeartbeats 6400000 in
theorem walk {W : World} (s : SS) (A : Option Addr) (n c : Nat) (B : Option Addr) (m d : Nat) (hs : Sp W A n c B m d s) (h64 : In64 s.hi) (t : Int) (_ : -9223372036854775808 ≤ t) (ht : t ≤ 9223372036854775807) :
    Calls Try.prog 7 #[.agg #[.int .i64 s.hi, .slice A n c, .slice B m d], .int .i64 t] W fun e W' => e = .returned (.bool true) ∧ Below W.heap.size W W' := by
  obtain ⟨h, hh⟩ : ∃ h, s.hi = h := ⟨_, rfl⟩
  rw [hh]
  have HH := Lib.hid hh
  have h1 : -9223372036854775808 ≤ h := by rw [← hh]; exact h64.1
  have B0 := Lib.hid (below_one W (.cells #[.int .i64 h, .slice A n c, .slice B m d] 26))
  have HX := Lib.hid (box_new W (.int .i64 h) (.slice A n c) (.slice B m d))
  have HS := Lib.hid (hs.kept B0.out)
  have HFL := Lib.hid hs.fl
  have HPL := Lib.hid hs.pl
  clear hs hh h64
  go_enter Try.func7, Try.ntmps7
  go_upto_region 1 with fail
  generalize W.alloc (.cells #[.int .i64 h, .slice A n c, .slice B m d] 26) = w0 at *
  go_wp2_with fail
  refine (awake_any w0).mono ?_
  rintro e' w1 ⟨rfl, b1⟩
  have B1 := Lib.hid b1
  obtain ⟨a0, a1, a2⟩ := (HX.out.kept b1).cells
  clear b1
  go_wp2_with fail
  refine (few_any h A B n c m d w1).mono ?_
  rintro e' w2 ⟨rfl, b2⟩
  have B2 := Lib.hid (B1.out.trans (b2.mono B1.out.size))
  have BB := Lib.hid (B0.out.trans (B2.out.mono B0.out.size))
  clear a0 a1 a2 b2
  cases hfew : fewB n m with
  | false =>
    clear hfew
    go_wp2_with fail
    go_ret
    exact ⟨rfl, BB.out⟩
  | true =>
    obtain ⟨hn, hm⟩ := few_le hfew
    clear hfew
    obtain ⟨a0, a1, a2⟩ := (HX.out.kept B2.out).cells
    go_wp2_with fail
    refine (check_any s h t A B n c m d w2 HH.out (HS.out.kept B2.out) (by omega) (by omega)).mono ?_
    rintro e' w3 ⟨rfl, b3⟩
    have B3 := Lib.hid (B2.out.trans (b3.mono B2.out.size))
    have BB3 := Lib.hid (B0.out.trans (B3.out.mono B0.out.size))
    clear a0 a1 a2 b3
    rcases check_or s t with hk | hk
    rotate_left
    · rw [hk]
      clear hk
      go_wp2_with fail
      go_ret
      exact ⟨rfl, BB3.out⟩
    rw [hk]
    have HFine := Lib.hid (SS.check_fine hk)
    clear hk
    by_cases hbig : 500 < t
    · go_wp2_with fail
      go_ret
      exact ⟨rfl, BB3.out⟩
    obtain ⟨i0, hi, hz0, hz1, hz2⟩ := info_parts boolInfo8
    obtain ⟨F, hF, hmk⟩ : ∃ F : Array Value, (∀ w : World, (w.alloc (.cells F 4)).rowIs w.heap.size 4 501 (fun _ => .bool false)) ∧ ∀ w : World, (Instr.makeSlice 45 (.int .i64 501) (.int .i64 501)).run Try.prog w = .ok (.slice (some ⟨w.heap.size, 0, none⟩) 501 501) (w.alloc (.cells F 4)) :=
      ⟨_, fun w => World.rowIs_made w (.bool false) 501 4, fun w => run_make_row (P := Try.prog) 45 4 i0 (.bool false) Try.underlying45 hi hz0 hz1 rfl .i64 .i64 501 (by rw [hz2]; decide) (by decide) w⟩
    have HF := Lib.hid (hF w3)
    clear hF
    have HX3 := Lib.hid (HX.out.kept B3.out)
    have HS3 := Lib.hid (HS.out.kept B3.out)
    have B9 := Lib.hid (below_one w3 (.cells F 4))
    have H0 : Hid (TkRel W w3.heap.size t (rem s t) (w3.alloc (.cells F 4))) := by
      have hhe := HH.out
      subst hhe
      exact Lib.hid ⟨s, A, n, c, B, m, d, fun _ => false, HFine.out, HS3.out.kept B9.out, HX3.out.kept B9.out, HF.out, fun q hq => (by cases hq), rfl, BB3.out.trans (B9.out.mono BB3.out.size), by have := HS3.out.fl; have := HS3.out.pl; omega⟩
    have HSB : Hid (W.heap.size < w3.heap.size) := Lib.hid HX3.out.lt
    have hR := rem_le HFine.out (by omega : t ≤ 500)
    obtain ⟨R, hRR⟩ : ∃ R, rem s t = R := ⟨_, rfl⟩
    rw [hRR] at H0 hR
    clear hRR HX HS B0 B1 B2 BB B3 HX3 HS3 HF HFine hz0 hz1 hz2 hi
    go_wp2_with fail
    generalize w3.alloc (.cells F 4) = w4 at *
    generalize w3.heap.size = sb at *
    clear hmk
    go_loopg [7, 8] R (fun g s7 s8 wk => ∃ k : Nat, k + g = R ∧ s7 = .int .i64 k ∧ s8 = .int .i64 k ∧ Hid (TkRel W sb t g wk))
    case atStart => exact ⟨0, by omega, rfl, rfl, H0⟩
    case round =>
      obtain ⟨k, hkg, rfl, rfl, HRel⟩ := hrel
      obtain ⟨G, hG⟩ : ∃ G, G = gk := ⟨_, rfl⟩
      subst hG
      obtain ⟨cur, A1, n1, c1, B1, m1, d1, seen, hTk⟩ := HRel.out
      have HT := Lib.hid hTk
      clear HRel hTk
      obtain ⟨hc, hhc⟩ : ∃ hc, cur.hi = hc := ⟨_, rfl⟩
      have HHC := Lib.hid hhc
      have hX := HT.out.box
      rw [hhc] at hX
      have HX := Lib.hid hX
      obtain ⟨a0, a1, a2⟩ := hX.cells
      have hn1 : n1 ≤ 300 := by have h1 := HT.out.sp.fl; have h2 := HT.out.few; omega
      have hm1 : m1 ≤ 300 := by have h1 := HT.out.sp.pl; have h2 := HT.out.few; omega
      have hlo : -9223372036854775808 ≤ hc := by have := HT.out.fine.lo; omega
      have kT := takeH_any cur hc t A1 B1 n1 c1 m1 d1 wr hhc HT.out.sp (by omega) (by omega) hlo ht
      clear hhc hX
      by_cases hG0 : G = 0
      · subst hG0
        obtain ⟨e1, e2, e3⟩ := take_end HT.out.fine HT.out.left
        rw [e1] at kT
        have KT := Lib.hid kT
        have hn0 : n1 = 0 := by have h1 := HT.out.sp.fl; omega
        subst hn0
        obtain rfl : hc = t := by have := HHC.out; omega
        clear e1 e2 e3 kT
        go_wp2_with fail
        refine KT.out.mono ?_
        rintro e' w5 ⟨_, rfl, ⟨A5, n5, c5, B5, m5, d5, rfl, s5, _, _⟩, b5⟩
        have BZ := Lib.hid (HT.out.bel.trans (b5.mono HT.out.bel.size))
        have BZ2 := Lib.hid ((b5.trans ((below_one w5 (.cells #[.int .i64 (81, (0 : Int), SS.none).2.2.hi, .slice A5 n5 c5, .slice B5 m5 d5] 26)).mono b5.size)))
        clear a0 a1 a2
        obtain ⟨a0, a1, a2⟩ := (HX.out.kept BZ2.out).cells
        clear b5 s5
        go_wp2_with fail
        go_ret
        exact ⟨rfl, BZ.out.alloc BZ.out.size _⟩
      · obtain ⟨G', rfl⟩ : ∃ G', G = G' + 1 := ⟨G - 1, by omega⟩
        obtain ⟨p, u, e1, e2, e3, e4, e5, e6, e7, e8, e9, e10⟩ := take_more HT.out.fine (by have := HT.out.left; omega)
        rw [e1] at kT
        have KT := Lib.hid kT
        have HU := Lib.hid (show SS.Fine u t ∧ rem u t + 1 = rem cur t ∧ (∀ q : Int, q ∉ cur.fr ∧ q < cur.hi → (q ∉ u.fr ∧ q < u.hi) ∧ q ≠ p) ∧ ((p : Int) ∉ u.fr ∧ (p : Int) < u.hi) ∧ u.fr.length ≤ cur.fr.length ∧ u.pe = cur.pe from ⟨e2, e6, e7, e8, e9, e10⟩)
        have HKn := Lib.hid e3
        have hseen : seen p = false := by
          cases hs : seen p with
          | false => rfl
          | true => exact absurd rfl (e7 p (HT.out.out p hs)).2
        have HSn := Lib.hid hseen
        have hp1 : ¬ ((p : Int) < 2) := by omega
        have hp2 : ¬ (t ≤ (p : Int)) := by omega
        have hp3 : (p : Int) < 501 := by omega
        have hp4 : (0 : Int) ≤ (p : Int) := by omega
        have hp5 : p < 501 := by omega
        have hk6 : (k : Int) < 600 := by omega
        have hfew := HT.out.few
        have hu1 : u.fr.length ≤ 300 ∧ u.pe.length ≤ 300 := by rw [e10]; omega
        have HU1 := Lib.hid hu1
        clear e1 e2 e3 e4 e5 e6 e7 e8 e9 e10 kT hseen hfew hu1 hG0
        go_wp2_with fail
        refine KT.out.mono ?_
        rintro e' w5 ⟨_, rfl, ⟨A5, n5, c5, B5, m5, d5, rfl, s5, hA5, hB5⟩, b5⟩
        obtain ⟨z1, z2, z3⟩ := boxed b5 s5 u.hi
        have HX5 := Lib.hid z2
        have S5 := Lib.hid z3
        have Z5 := Lib.hid z1
        have HA5 := Lib.hid hA5
        have HB5 := Lib.hid hB5
        have hn5 : n5 ≤ 300 := by have h1 : u.fr.length = n5 := s5.fl; have h2 := HU1.out; omega
        have hm5 : m5 ≤ 300 := by have h1 : u.pe.length = m5 := s5.pl; have h2 := HU1.out; omega
        have HG5 := Lib.hid b5.size
        clear s5 b5 z1 z2 z3 KT hA5 hB5 a0 a1 a2
        go_upto_region 10 with fail
        generalize w5.alloc (.cells #[.int .i64 u.hi, .slice A5 n5 c5, .slice B5 m5 d5] 26) = v5 at *
        have hcell : v5.cell? ⟨sb, p, none⟩ = some (.bool false) := by
          have h1 := (HT.out.row.of_block (Z5.out.block sb HT.out.row.lt)).cell hp5
          rw [h1, HSn.out]
        obtain ⟨f0, f1, f2⟩ := HX5.out.cells
        obtain ⟨uh, huh⟩ : ∃ uh, u.hi = uh := ⟨_, rfl⟩
        rw [huh] at HX5 f0
        have HUH := Lib.hid huh
        go_wp2_with fail
        refine (refKnown_any u uh (p : Int) A5 B5 n5 c5 m5 d5 v5 S5.out (by omega) (by omega)).mono ?_
        rintro e' v6 ⟨rfl, b6⟩
        rw [HKn.out]
        have Z6 := Lib.hid (Z5.out.trans (b6.mono Z5.out.size))
        have S6 := Lib.hid (S5.out.kept b6)
        have HX6 := Lib.hid (HX5.out.kept b6)
        clear hcell f0 f1 f2 b6
        have HNext := Lib.hid (TkAt.next HT.out HSB.out Z6.out S6.out HA5.out HB5.out HU.out.1 HU.out.2.1 HU.out.2.2.1 HU.out.2.2.2.1 HU.out.2.2.2.2.1 HU.out.2.2.2.2.2)
        have hrow6 := HT.out.row.of_block (Z6.out.block sb HT.out.row.lt)
        have hcell := hrow6.cell hp5
        have hfro := hrow6.frozen p
        have HB6 := Lib.hid (HX.out.kept Z6.out)
        have b1 : But sb v6 (v6.setCell ⟨sb, p, none⟩ (.bool true)) := (But.refl sb v6).set p _
        have hne1 : w5.heap.size ≠ sb := by have h1 := HT.out.row.lt; have h2 := HG5.out; omega
        have hne2 : W.heap.size ≠ sb := by have := HSB.out; omega
        obtain ⟨f0, f1, f2⟩ := (HX6.out.but b1 hne1).cells
        obtain ⟨g0, g1, g2⟩ := (HB6.out.but b1 hne2).cells
        obtain ⟨k0, k1, k2⟩ := (HB6.out.but b1 hne2).free
        rw [huh] at HNext
        clear b1 hrow6 huh
        go_wp2_with fail
        go_roundg G'
        case measure => omega
        case rel => exact ⟨k + 1, by omega, by go_num, by go_num, HNext⟩
set_option maxRecDepth 100000 in
theorem lifted (os : Os) (started : os.Started) (H : Type) (enc : TypeId × Value → H) :
    ReturnsInHanded {} Try.checked os 7 .any (Rows.spaceTakesSpec.pre6 enc Try.prog Try.f7 Rows.spaceTakesRow.domain false)
      (Rows.spaceTakesSpec.post enc Try.prog Try.f7 false true false false) := by
  refine lift_law (C := Try.checked) (tb := 4) ownKnobs started (by kernel_rfl) Try.func7
    (ChangeSpec.witness6 (enc := enc) (C := Try.checked) false ⟨#[], #[.agg #[.int .i64 0, .slice none 0 0, .slice none 0 0], .int .i64 0], []⟩ 8 (by kernel_rfl) (by kernel_rfl) (by kernel_rfl) (by kernel_rfl))
    laidOut ?_ rfl rfl Try.underlying4 ?_ ?_
  · intro t ht
    rw [Try.params7] at ht
    simp only [List.mem_cons, List.not_mem_nil, or_false] at ht
    rcases ht with rfl | rfl <;> exact ⟨by kernel_rfl, of_decide_eq_true (by kernel_rfl)⟩
  · intro vs ds W p hA
    rw [Try.params7] at hA
    obtain ⟨v0, vs0, d0, ds0, p0, q0, ha, rfl, rfl, h0, r0⟩ := trodAll_cons hA
    obtain ⟨v1, vs1, d1, ds1, p1, q1, rfl, rfl, rfl, h1, r1⟩ := trodAll_cons r0
    obtain ⟨rfl, rfl, rfl⟩ := trodAll_nil r1
    rfl
  · intro W base args ds p hval hA
    rw [Try.params7] at hA hval
    obtain ⟨v0, vs0, d0, ds0, p0, q0, ha, rfl, rfl, h0, r0⟩ := trodAll_cons hA
    obtain ⟨v1, vs1, d1, ds1, p1, q1, rfl, rfl, rfl, h1, r1⟩ := trodAll_cons r0
    obtain ⟨rfl, rfl, rfl⟩ := trodAll_nil r1
    obtain rfl : args = #[v0, v1] := by cases args; simp_all
    obtain ⟨s0, A0, n0, c0, B0, m0, e0, rfl, hs0, hi0⟩ := open_space (hval 0 _ v0 rfl rfl) h0
    obtain ⟨i1, rfl, lo1, hi1⟩ := open_i64 (hval 1 _ v1 rfl rfl) h1
    exact walk s0 A0 n0 c0 B0 m0 e0 hs0 hi0 i1 lo1 hi1

/-- The statement. -/
theorem proved : Rows.SpaceTakesSaid :=
  OpenClaim.holds_of_wide 7 Try.f7 rfl rfl rfl rfl rfl rfl rfl ⟨rfl, rfl, rfl, rfl, rfl⟩ rfl rfl rfl rfl rfl (by kernel_rfl) Try.func7 (by kernel_rfl)
    (of_decide_eq_true (by kernel_rfl)) (by unfold Func.isWrapper; first | (rw [if_pos (by decide +kernel)]; kernel_rfl) | (rw [if_neg (by decide +kernel)]; exact ⟨rfl, rfl⟩))
    (fun os started H enc _ => lifted os started H enc)
#print axioms proved
end Go.Proofs.Ytlldmefjhgahdaa.spaceTakes
