/-
  What cut comes to.
-/
import Derived.Test.YtlldmefjhgahdaaSBps
import Derived.Test.YtlldmefjhgahdaaSEnc
import Derived.Test.YtlldmefjhgahdaaSLaid
import Derived.Deep.LoopGhost
namespace Go.Proofs.Ytlldmefjhgahdaa
open Go.RowKit

set_option maxRecDepth 20000 in
theorem partsInfo : (Try.prog.info? 59).map (fun i => (i.zero, i.size, i.bytes)) = some (some (.slice none 0 0), 1, 24) := by kernel_rfl

/-- Bytes in parts. -/
def cutA (b : List UInt8) : List (List UInt8) := SS.cutB b.length b
theorem cutB_fuel (b : List UInt8) : ∀ (k : Nat), SS.cutB (b.length + k) b = SS.cutB b.length b
  | 0 => rfl
  | k + 1 => by rw [show b.length + (k + 1) = (b.length + k) + 1 by omega, SS.cutB_more _ _ (by omega), cutB_fuel b k]
theorem cutA_nil : cutA [] = [] := rfl
theorem cutA_step {b : List UInt8} (h : 0 < b.length) : cutA b = b.take 1000 :: cutA (b.drop 1000) := by
  have h1 : SS.cutB (b.length + 1) b = SS.cutB b.length b := cutB_fuel b 1
  unfold cutA
  rw [← h1]
  conv => lhs; unfold SS.cutB
  rw [if_neg (fun e => by rw [e] at h; simp at h)]
  have := cutB_fuel (b.drop 1000) (b.length - (b.drop 1000).length)
  rw [show (b.drop 1000).length + (b.length - (b.drop 1000).length) = b.length by rw [List.length_drop]; omega] at this
  rw [this]
theorem enc_cutA (s : SS) : s.enc = cutA (numB s.nums) := rfl

/-- What is held while bytes are cut. -/
structure CutAt (w : World) (l : List UInt8) (A : Option Addr) (n c : Nat) (rest : List UInt8) (qs : List Pc) (ps : List (List UInt8)) (v : Value) (wk : World) : Prop where
  left : Ln w 1 A n c (bv rest)
  good : ∀ q ∈ qs, Ln w 1 q.A q.n q.c q.cs
  same : qs.map Pc.cs = ps.map bv
  cut : ps ++ cutA rest = cutA l
  sum : qs.length + n ≤ l.length
  own : wk.ownsRow w.heap.size 59 1 v qs.length (qs.map Pc.val)
  bel : Below w.heap.size w wk
def CutRel (w : World) (l : List UInt8) (n : Nat) (s v : Value) (wk : World) : Prop :=
  ∃ (A : Option Addr) (c : Nat) (rest : List UInt8) (qs : List Pc) (ps : List (List UInt8)), s = .slice A n c ∧ CutAt w l A n c rest qs ps v wk

set_option maxRecDepth 20000 in
theorem CutAt.step {w wr w3 : World} {l rest p : List UInt8} {A A' : Option Addr} {n c n' c' k : Nat} {qs : List Pc} {ps : List (List UInt8)} {v v3 : Value} {C : Array Value} {T : TypeId}
    (h : CutAt w l A n c rest qs ps v wr) (hp : rest.take 1000 = p) (hk : p.length = k) (hk0 : 0 < k) (hP : Ln w 1 A k k (bv p)) (hA : Ln w 1 A' n' c' (bv (rest.drop 1000)))
    (hown : w3.ownsRow w.heap.size 59 1 v3 (qs.length + 1) (qs.map Pc.val ++ [.slice A k k])) (hg : (wr.alloc (.cells C T)).grownBy w3 v.ownBlock) :
    CutRel w l n' (.slice A' n' c') v3 w3 := by
  have hl : rest.length = n := h.left.byteN
  have hl' := hA.byteN
  have hkl : k + (rest.drop 1000).length = rest.length := by
    rw [← hk, ← hp, ← List.length_append, List.take_append_drop]
  refine ⟨A', c', rest.drop 1000, qs ++ [⟨A, k, k, bv p⟩], ps ++ [p], rfl, hA, fun q hq => ?_, ?_, ?_, ?_, ?_, ?_⟩
  · rcases List.mem_append.1 hq with hq | hq
    · exact h.good q hq
    · obtain rfl : q = _ := by simpa using hq
      exact hP
  · rw [List.map_append, List.map_append, h.same]
    rfl
  · rw [← h.cut, cutA_step (b := rest) (by omega), hp, List.append_assoc]
    rfl
  · have := h.sum
    rw [List.length_append, List.length_singleton]
    omega
  · rw [List.map_append, List.length_append, List.length_singleton]
    exact hown
  · exact (h.bel.alloc h.bel.size _).grown hg (by have := h.bel.size; simp; omega) (fun g hg => (h.own.lt g hg).1)

/-- Parts that are answered. -/
def PartsEnd (w : World) (ps : List (List UInt8)) (e : Ending) (w' : World) : Prop := ∃ A c, e = .returned (.slice A ps.length c) ∧ Bps w' A ps ∧ Below w.heap.size w w'

theorem CutAt.done {w wk : World} {l : List UInt8} {A : Option Addr} {c : Nat} {rest : List UInt8} {qs : List Pc} {ps : List (List UInt8)} {v : Value} (h : CutAt w l A 0 c rest qs ps v wk) : PartsEnd w (cutA l) (.returned v) wk := by
  have hr : rest = [] := List.eq_nil_of_length_eq_zero h.left.byteN
  have hc := h.cut
  rw [hr, cutA_nil, List.append_nil] at hc
  rw [← hc]
  have hl : qs.length = ps.length := by
    have := congrArg List.length h.same
    simpa using this
  obtain ⟨B, d, rfl, _, _⟩ := Ln.of_own h.own
  refine ⟨B, d, by rw [hl], ?_, h.bel⟩
  rcases ps with _ | ⟨p0, ps⟩
  · exact Or.inl rfl
  · rcases h.own.2 with ⟨hv, h0⟩ | ⟨g, cap, cur, hv, _⟩
    · rw [hl] at h0
      simp at h0
    · injection hv with e1 e2 e3
      subst e1
      refine Or.inr ⟨g, 0, rfl, fun i p hp => ?_⟩
      obtain ⟨q, hq, hqp⟩ : ∃ q, qs[i]? = some q ∧ q.cs = bv p := by
        have h1 : (qs.map Pc.cs)[i]? = ((p0 :: ps).map bv)[i]? := by rw [h.same]
        rw [List.getElem?_map, List.getElem?_map, hp] at h1
        obtain ⟨q, h2, h3⟩ := Option.map_eq_some_iff.1 h1
        exact ⟨q, h2, h3⟩
      have hL := h.good q (List.mem_of_getElem? hq)
      rw [hqp] at hL
      have hn := hL.byteN
      refine ⟨q.A, q.c, ?_, by rw [hn]; exact hL.kept h.bel⟩
      have := h.own.cells (g := g) rfl i q.val (by rw [List.getElem?_map, hq]; rfl)
      rw [addr_add] at this
      rw [hn]
      exact this

set_option maxRecDepth 20000 in
set_option maxHeartbeats 3200000 in
theorem cut_any (A : Option Addr) (n c : Nat) (l : List UInt8) (w : World) (hl : Ln w 1 A n c (bv l)) (hn : n ≤ 1000000) :
    Calls Try.prog 48 #[.slice A n c] w (PartsEnd w (cutA l)) := by
  obtain ⟨i0, hi, hz0, hz1, hz2⟩ := info_parts partsInfo
  have HN := Lib.hid hl.byteN
  have H0 : Hid (CutRel w l n (.slice A n c) (.slice none 0 0) w) := Lib.hid ⟨A, c, l, [], [], rfl, hl, fun q hq => absurd hq (by simp), rfl, rfl, by simp [hl.byteN], World.ownsRow_nil _ _ _ _, Below.refl _ _⟩
  clear hl
  go_enter Try.func48, Try.ntmps48
  go_wp2_with fail
  go_loopg [0, 3] n (fun g s v wk => g ≤ n ∧ Hid (CutRel w l g s v wk))
  case atStart => exact ⟨Nat.le_refl _, H0⟩
  case round =>
    obtain ⟨hgn, HR⟩ := hrel
    obtain ⟨N, hNg⟩ : ∃ N, N = gk := ⟨_, rfl⟩
    subst hNg
    obtain ⟨A', c', rest, qs, ps, rfl, h1⟩ := HR.out
    have H1 := Lib.hid h1
    clear HR h1
    by_cases hN0 : N = 0
    · subst hN0
      go_wp2_with fail
      go_ret
      exact H1.out.done
    · have hlen := H1.out.left.byteN
      have hnc := H1.out.left.le
      have hsum := H1.out.sum
      rw [HN.out] at hsum
      obtain ⟨b, off, rfl, _⟩ := H1.out.left.spot (by rw [bv_length]; omega)
      have o3 := H1.out.own
      have bsz := H1.out.bel.size
      have HLEN := Lib.hid hlen
      clear hlen
      generalize hq : qs.length = Q at *
      have HQ := Lib.hid hq
      clear hq
      have i0' : (0 : Int) < (N : Int) := by omega
      by_cases hbig : 1000 < N
      · have j0 : (1000 : Int) < (N : Int) := by omega
        have j1 : (1000 : Int) ≤ (c' : Int) := by omega
        have jm : min (N : Int) 1000 = 1000 := by omega
        have j2 : (1000 : Int) < (c' : Int) := by omega
        have j3 : ¬ c' = 1000 := by omega
        have j4 : (N : Int) ≤ (c' : Int) := by omega
        have j5 : (1000 : Int) ≤ (N : Int) := by omega
        go_wp2_with (at_builtin; refine wpList_append_own _ rfl (.tmp 11) (.tmp 16) 39 rfl w.heap.size 59 i0 (.slice none 0 0) 1 24 Try.underlying39 hi hz0 hz1 hz2 rfl (by decide) _ _ _ rfl (o3.alloc _) ⟨wr.heap.size, 0, none⟩ 1 1 [.slice (some ⟨b, off, none⟩) 1000 1000] rfl rfl (cell_one_new _ _ _) (by simp [Value.oneCell']) (by unfold maxLen; omega) (by omega) (by simp; omega) ?_; intro v3 w3 hown3 hg3 _)
        have HX : Hid (CutRel w l (N - 1000) (.slice (some ⟨b, off + 1000, none⟩) (N - 1000) (c' - 1000)) v3 w3) := Lib.hid (CutAt.step H1.out rfl (by rw [List.length_take, HLEN.out]; omega) (by omega) ((H1.out.left.byteTake (by omega)).cap (Nat.le_refl _) (fun e => by cases e)) (H1.out.left.byteDrop (by omega)) (by rw [HQ.out]; exact hown3) hg3)
        clear hown3 hg3 o3
        go_roundg (N - 1000)
        case measure => omega
        case rel => exact ⟨by omega, HX⟩
      · have j0 : ¬ (1000 : Int) < (N : Int) := by omega
        have j1 : (0 : Int) ≤ (N : Int) := by omega
        have jm : min (N : Int) 1000 = (N : Int) := by omega
        have j4 : (N : Int) ≤ (c' : Int) := by omega
        have hT : rest.take 1000 = rest := List.take_of_length_le (by rw [HLEN.out]; omega)
        have hD : rest.drop 1000 = [] := List.drop_of_length_le (by rw [HLEN.out]; omega)
        have HT := Lib.hid hT
        have HD := Lib.hid hD
        clear hT hD
        by_cases hc : c' = N
        · subst hc
          go_wp2_with (at_builtin; refine wpList_append_own _ rfl (.tmp 11) (.tmp 16) 39 rfl w.heap.size 59 i0 (.slice none 0 0) 1 24 Try.underlying39 hi hz0 hz1 hz2 rfl (by decide) _ _ _ rfl (o3.alloc _) ⟨wr.heap.size, 0, none⟩ 1 1 [.slice (some ⟨b, off, none⟩) c' c'] rfl rfl (cell_one_new _ _ _) (by simp [Value.oneCell']) (by unfold maxLen; omega) (by omega) (by simp; omega) ?_; intro v3 w3 hown3 hg3 _)
          have HX : Hid (CutRel w l (0) (.slice (some ⟨b, off, none⟩) (0) (0)) v3 w3) := Lib.hid (CutAt.step H1.out HT.out (HLEN.out) (by omega) (H1.out.left.cap (Nat.le_refl _) (fun e => by cases e)) ((by rw [HD.out]; exact Ln.empty _ _ _ _)) (by rw [HQ.out]; exact hown3) hg3)
          clear hown3 hg3 o3
          go_roundg 0
          case measure => omega
          case rel => exact ⟨by omega, HX⟩
        · have j5 : (N : Int) < (c' : Int) := by omega
          have j6 : ¬ c' = N := by omega
          go_wp2_with (at_builtin; refine wpList_append_own _ rfl (.tmp 11) (.tmp 16) 39 rfl w.heap.size 59 i0 (.slice none 0 0) 1 24 Try.underlying39 hi hz0 hz1 hz2 rfl (by decide) _ _ _ rfl (o3.alloc _) ⟨wr.heap.size, 0, none⟩ 1 1 [.slice (some ⟨b, off, none⟩) N N] rfl rfl (cell_one_new _ _ _) (by simp [Value.oneCell']) (by unfold maxLen; omega) (by omega) (by simp; omega) ?_; intro v3 w3 hown3 hg3 _)
          have HX : Hid (CutRel w l (0) (.slice (some ⟨b, off + N, none⟩) (0) (c' - N)) v3 w3) := Lib.hid (CutAt.step H1.out HT.out (HLEN.out) (by omega) (H1.out.left.cap (Nat.le_refl _) (fun e => by cases e)) ((by rw [HD.out]; exact Ln.empty _ _ _ _)) (by rw [HQ.out]; exact hown3) hg3)
          clear hown3 hg3 o3
          go_roundg 0
          case measure => omega
          case rel => exact ⟨by omega, HX⟩
end Go.Proofs.Ytlldmefjhgahdaa
