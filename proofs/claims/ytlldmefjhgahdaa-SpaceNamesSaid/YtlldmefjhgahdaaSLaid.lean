/-
  What laid comes to: pages at their places.
-/
import Derived.Test.YtlldmefjhgahdaaSKnown
import Derived.Test.YtlldmefjhgahdaaSPlc
import Derived.Test.YtlldmefjhgahdaaSSort
import Derived.Deep.RegionHeld3
import Derived.Deep.AppendLies
import Derived.IntWalk
namespace Go.Proofs.Ytlldmefjhgahdaa
open Go.RowKit

set_option maxRecDepth 20000 in
theorem intsInfo : (Try.prog.info? 23).map (fun i => (i.zero, i.size, i.bytes)) = some (some (.slice none 0 0), 1, 24) := by kernel_rfl

def Pc.val (q : Pc) : Value := .slice q.A q.n q.c
def Good (w : World) (qs : List Pc) : Prop := ∀ q ∈ qs, Ln w 1 q.A q.n q.c q.cs ∧ ∀ u ∈ q.cs, u.oneCell' = true
theorem pile_own {w : World} {base N c : Nat} {A : Option Addr} {t : TypeId} {qs : List Pc} (h : w.ownsRow base t 1 (.slice A N c) N (qs.map Pc.val)) (hg : Good w qs) : Pile w 1 A qs := by
  rcases h.2 with ⟨hv, h0⟩ | ⟨g, cap, cur, hv, _⟩
  · subst h0
    have := h.1
    exact Or.inl (List.eq_nil_of_length_eq_zero (by simpa using this))
  · injection hv with e1 e2 e3
    subst e1
    refine Or.inr ⟨g, 0, rfl, fun i p hp => ⟨?_, hg p (List.mem_of_getElem? hp)⟩⟩
    have := h.cells (g := g) rfl i p.val (by rw [List.getElem?_map, hp]; rfl)
    rw [addr_add] at this
    exact this
theorem vals_one (qs : List Pc) : ∀ u ∈ qs.map Pc.val, u.oneCell' = true := by
  intro u hu
  obtain ⟨q, _, rfl⟩ := List.mem_map.1 hu
  rfl

/-- What is held behind k rounds: what is left of the list, and the pieces. -/
structure LaidAt (wp : World) (n : Nat) (ms zs : List Int) (k : Nat) (A : Option Addr) (n' c' : Nat) (rest : List Int) (qs : List Pc) (v : Value) (wk : World) : Prop where
  left : Ln wp 1 A n' c' (intVals rest)
  good : Good wp qs
  len : qs.length = 2 * k
  sum : tot qs + n' = n + k
  all : pcs qs ++ intVals (SS.insL (ms.drop k) rest) = intVals (SS.insL ms zs)
  own : wk.ownsRow wp.heap.size 23 1 v (2 * k) (qs.map Pc.val)
  bel : Below wp.heap.size wp wk
def LaidRel (wp : World) (n : Nat) (ms zs : List Int) (k : Nat) (s v : Value) (wk : World) : Prop :=
  ∃ (A : Option Addr) (n' c' : Nat) (rest : List Int) (qs : List Pc), s = .slice A n' c' ∧ LaidAt wp n ms zs k A n' c' rest qs v wk

theorem row_below {w w' : World} {base n sz : Nat} {e : TypeId} {v : Value} {xs : List Value} (h : w.ownsRow base e sz v n xs) (hb : Below w.heap.size w w') : w'.ownsRow base e sz v n xs := by
  have hg : w.grownBy w' none := ⟨hb.os, hb.tape, hb.output, hb.size, fun k hk _ => hb.block k hk⟩
  refine h.kept hg ?_
  cases e : v.ownBlock with
  | none => exact Or.inl rfl
  | some g => exact Or.inr (by simp)
theorem LaidAt.below {wp wr w' : World} {n k n' c' : Nat} {ms zs rest : List Int} {A : Option Addr} {qs : List Pc} {v : Value} (h : LaidAt wp n ms zs k A n' c' rest qs v wr) (hb : Below wr.heap.size wr w') : LaidAt wp n ms zs k A n' c' rest qs v w' :=
  { h with
    own := row_below h.own hb
    bel := h.bel.trans (hb.mono h.bel.size) }

set_option maxRecDepth 20000 in
theorem LaidAt.step {wp wr w3 : World} {n k n' c' c'' c1 : Nat} {ms zs rest : List Int} {A A' B : Option Addr} {qs : List Pc} {u6 v3 : Value} {x : Int} {C : Array Value} {T : TypeId}
    (h : LaidAt wp n ms zs k A n' c' rest qs u6 wr) (hs : ms.Pairwise (· ≤ ·)) (hx : ms[k]? = some x) (hB : Ln wp 1 B 1 c1 (intVals [x])) (hA : Ln wp 1 A' (n' - SS.place x rest) c'' (intVals (rest.drop (SS.place x rest))))
    (hown : w3.ownsRow wp.heap.size 23 1 v3 (2 * k + 2) (qs.map Pc.val ++ [.slice A (SS.place x rest) c', .slice B 1 c1])) (hg : ((wr.alloc (.cells C T)).drew).grownBy w3 u6.ownBlock) :
    LaidRel wp n ms zs (k + 1) (.slice A' (n' - SS.place x rest) c'') v3 w3 := by
  have hl : rest.length = n' := h.left.intN
  have hp := SS.place_le x rest
  have ht := h.left.intTake (k := SS.place x rest) (by omega)
  have hd : ms.drop k = x :: ms.drop (k + 1) := by
    obtain ⟨hk, e⟩ := List.getElem?_eq_some_iff.1 hx
    rw [List.drop_eq_getElem_cons hk, e]
  have hxs : ∀ q ∈ ms.drop (k + 1), x ≤ q := by
    have h1 : (ms.drop k).Pairwise (· ≤ ·) := hs.sublist (List.drop_sublist k ms)
    rw [hd] at h1
    exact (List.pairwise_cons.1 h1).1
  refine ⟨A', _, c'', _, qs ++ [⟨A, SS.place x rest, c', intVals (rest.take (SS.place x rest))⟩, ⟨B, 1, c1, intVals [x]⟩], rfl, hA, fun q hq => ?_, ?_, ?_, ?_, ?_, ?_⟩
  · rcases List.mem_append.1 hq with hq | hq
    · exact h.good q hq
    · rcases List.mem_cons.1 hq with rfl | hq
      · exact ⟨ht, intVals_one _⟩
      · obtain rfl : q = _ := by simpa using hq
        exact ⟨hB, intVals_one _⟩
  · rw [List.length_append, h.len]
    simp
    omega
  · have := h.sum
    unfold tot at this ⊢
    rw [List.map_append, List.sum_append]
    simp
    omega
  · rw [← h.all, hd, SS.insL_step _ hxs]
    unfold pcs
    rw [List.flatMap_append, List.append_assoc]
    congr 1
    simp [intVals, List.map_append]
  · rw [List.map_append]
    exact hown
  · exact ((h.bel.alloc h.bel.size _).drew).grown hg (by have := h.bel.size; simp; omega) (fun g hg => (h.own.lt g hg).1)

set_option maxRecDepth 20000 in
theorem LaidAt.fin {wp wr w3 : World} {n k n' c' c'' c1 p : Nat} {ms zs rest : List Int} {A A' B : Option Addr} {qs : List Pc} {u6 v3 : Value} {x : Int} {C : Array Value} {T : TypeId}
    (h : LaidAt wp n ms zs k A n' c' rest qs u6 wr) (hs : ms.Pairwise (· ≤ ·)) (hx : ms[k]? = some x) (hB : Ln wp 1 B 1 c1 (intVals [x])) (hp : SS.place x rest = p) (hA : Ln wp 1 A' (n' - p) c'' (intVals (rest.drop p)))
    (hown : w3.ownsRow wp.heap.size 23 1 v3 (2 * k + 2) (qs.map Pc.val ++ [.slice A p c', .slice B 1 c1])) (hg : ((wr.alloc (.cells C T)).drew).grownBy w3 u6.ownBlock) :
    LaidRel wp n ms zs (k + 1) (.slice A' (n' - p) c'') v3 w3 := by
  subst hp
  exact h.step hs hx hB hA hown hg

set_option maxRecDepth 20000 in
set_option maxHeartbeats 6400000 in
theorem laid_any (A B : Option Addr) (n c m d : Nat) (zs ps : List Int) (w : World) (hz : Ln w 1 A n c (intVals zs)) (hp : Ln w 1 B m d (intVals ps)) (hn : n ≤ 400000) (hm : m ≤ 400000) :
    Calls Try.prog 36 #[.slice A n c, .slice B m d] w (JoinEnd w 3 1 (n + m) (intVals (SS.insL ps zs))) := by
  obtain ⟨i0, hi, hz0, hz1, hz2⟩ := info_parts intsInfo
  have HZ := Lib.hid (hz.kept (below_one w (.cells #[.slice B m d] 23)))
  have HP := Lib.hid (pile_one hp (intVals_one _) 23)
  have HPN := Lib.hid hp.intN
  have B0 := Lib.hid (below_one w (.cells #[.slice B m d] 23))
  clear hz hp
  go_enter Try.func36, Try.ntmps36
  go_wp2_with fail
  refine (join_I _ 1 1 m _ _ HP.out rfl (by simp [tot]) (by omega) (by decide)).mono ?_
  rintro e w1 ⟨v1, rfl, o1, b1⟩
  rw [show pcs [⟨B, m, d, intVals ps⟩] = intVals ps by simp [pcs]] at o1
  have HZ1 := Lib.hid (HZ.out.kept b1)
  have B1 := Lib.hid (B0.out.trans (b1.mono B0.out.size))
  have HLT := Lib.hid (show w.heap.size ≤ (w.alloc (.cells #[.slice B m d] 23)).heap.size from B0.out.size)
  obtain ⟨A1, c1, rfl, hc1, l1⟩ := Ln.of_own o1
  have HSo := Lib.hid (sort_any _ A1 m c1 ps w1 o1 (by omega))
  have HO1 := Lib.hid o1
  have B1' := Lib.hid b1
  clear b1 o1 l1 HP
  generalize w.alloc (.cells #[.slice B m d] 23) = w0 at *
  go_wp2_with fail
  refine HSo.out.mono ?_
  rintro e wp ⟨ms, rfl, hperm, hso, o2, hg⟩
  have B2' := Lib.hid (B1'.out.grown hg B1'.out.size (fun g hg => (HO1.out.lt g hg).1))
  have B2 := Lib.hid (B0.out.trans (B2'.out.mono HLT.out))
  have HZ2 := Lib.hid (HZ.out.kept B2'.out)
  obtain ⟨A2, c2, e2, hc2, l2⟩ := Ln.of_own o2
  injection e2 with e2 e3 e4
  subst e2
  subst e4
  have L2 := Lib.hid l2
  have HM := Lib.hid hso
  have HI : Hid (intVals (SS.insL ms zs) = intVals (SS.insL ps zs)) := Lib.hid (by rw [SS.insL_perm hperm])
  have H0 : Hid (LaidRel wp n ms zs 0 (.slice A n c) (.slice none 0 0) wp) :=
    Lib.hid ⟨A, n, c, zs, [], rfl, HZ2.out, fun q hq => absurd hq (by simp), rfl, by simp [tot], by simp [pcs], World.ownsRow_nil _ _ _ _, Below.refl _ _⟩
  clear hg o2 l2 hso hperm B1' B1 HZ HSo HO1 B2' HZ2 B0
  go_wp2_with fail
  go_loopw [0, 6, 16] (fun s v i wk => ∃ k : Nat, k ≤ m ∧ i = .int .i64 k ∧ Hid (LaidRel wp n ms zs k s v wk)) (fun _ _ i _ => m - (intOf i).toNat)
  case atStart => exact ⟨0, Nat.zero_le _, rfl, H0⟩
  case round =>
    obtain ⟨k, hk, rfl, HR⟩ := hrel
    obtain ⟨A', n', c', rest, qs, rfl, h1⟩ := HR.out
    have H1 := Lib.hid h1
    clear HR h1
    by_cases hlt : k < m
    · obtain ⟨b, off, x, rfl, hv, c0⟩ := (L2.out.kept H1.out.bel).intAt hlt
      have HX := Lib.hid hv
      have hsum := H1.out.sum
      clear hv
      go_wp2_with fail
      refine (place_any A' n' c' rest x wr (H1.out.left.kept H1.out.bel) (by omega)).mono ?_
      rintro e w4 ⟨rfl, b4⟩
      have H2 := Lib.hid (H1.out.below b4)
      have hple : SS.place x rest ≤ n' := by have := SS.place_le x rest; rw [H1.out.left.intN] at this; exact this
      have hnc := H1.out.left.le
      have hNil := H1.out.left.lies.1
      have HB : Hid (Ln wp 1 (some ⟨b, off + k, none⟩) 1 (c1 - k) (intVals [x])) := by
        have hd := (L2.out.intDrop (k := k) (by omega)).intTake (k := 1) (by omega)
        obtain ⟨hk', e⟩ := List.getElem?_eq_some_iff.1 HX.out
        rw [List.drop_eq_getElem_cons hk', e] at hd
        exact Lib.hid hd
      have hmc := L2.out.le
      clear b4 c0 H1
      obtain ⟨p, hp⟩ : ∃ p, SS.place x rest = p := ⟨_, rfl⟩
      have hp2 := Lib.hid hp
      rw [hp] at hple ⊢
      clear hp
      have o3 := H2.out.own
      have i1 : (k : Int) + 1 ≤ (c1 : Int) := by omega
      have i2 : (0 : Int) ≤ (k : Int) := by omega
      have i3 : (p : Int) ≤ (c' : Int) := by omega
      have i5 : IntKind.i64.wrap ((k : Int) + 1) = (k : Int) + 1 := IntWalk.i64_in _ (by omega)
      have i6 : (k : Int) ≤ (k : Int) + 1 := by omega
      have i7 : (k : Int) < (c1 : Int) := by omega
      have i8 : (0 : Int) ≤ (p : Int) := by omega
      have i9 : ¬ c1 = k := by omega
      have bsz := H2.out.bel.size
      rcases A' with _ | ad
      · obtain ⟨rfl, rfl⟩ := hNil rfl
        obtain rfl : p = 0 := by omega
        go_wp2_with fail
        go_region_held3 (fun _ => True)
          (first | exact trivial)
          ((refine step_append_lies _ (by rfl) _ _ _ (by rfl) wp.heap.size 23 i0 _ 1 24 Try.underlying69 hi hz0 hz1 hz2 rfl (by omega) u6 (2 * k) (qs.map Pc.val) (by rfl) ((o3.alloc _).drew)
              ⟨w4.heap.size, 0, none⟩ 2 2 [.slice none 0 0, .slice (some ⟨b, off + k, none⟩) 1 (c1 - k)] (by rfl) (by rfl) (World.news_of_block (cs := #[.slice none 0 0, .slice (some ⟨b, off + k, none⟩) 1 (c1 - k)]) (t := 23) (fr := (0, 0)) (heap_alloc_new w4 _)) (by simp [Value.oneCell'])
              (by omega) (by unfold maxLen; omega) (by omega) (by simp; omega) (w4.heap.size + 1) (by simp) ?_; intro gg cap w5 hown5 hgrow hat hlt5))
        have HR : Hid (LaidRel wp n ms zs (k + 1) (.slice none 0 0) (.slice (some ⟨gg, 0, none⟩) (2 * k + 2) cap) w5) := Lib.hid (LaidAt.fin H2.out HM.out HX.out HB.out hp2.out (by simpa using H2.out.left) hown5 hgrow)
        clear hown5 hgrow hat hlt5 o3
        go_wp2_with fail
        go_roundw
        case rel => exact ⟨k + 1, by omega, by go_num, HR⟩
        case measure => simp [intOf]; omega
      · by_cases hn0 : n' = 0
        · subst hn0
          obtain rfl : p = 0 := by omega
          go_wp2_with fail
          go_region_held3 (fun _ => True)
            (first | exact trivial)
            ((refine step_append_lies _ (by rfl) _ _ _ (by rfl) wp.heap.size 23 i0 _ 1 24 Try.underlying69 hi hz0 hz1 hz2 rfl (by omega) u6 (2 * k) (qs.map Pc.val) (by rfl) ((o3.alloc _).drew)
                ⟨w4.heap.size, 0, none⟩ 2 2 [.slice (some ad) 0 c', .slice (some ⟨b, off + k, none⟩) 1 (c1 - k)] (by rfl) (by rfl) (World.news_of_block (cs := #[.slice (some ad) 0 c', .slice (some ⟨b, off + k, none⟩) 1 (c1 - k)]) (t := 23) (fr := (0, 0)) (heap_alloc_new w4 _)) (by simp [Value.oneCell'])
                (by omega) (by unfold maxLen; omega) (by omega) (by simp; omega) (w4.heap.size + 1) (by simp) ?_; intro gg cap w5 hown5 hgrow hat hlt5))
          have HR : Hid (LaidRel wp n ms zs (k + 1) (.slice (some ad) 0 c') (.slice (some ⟨gg, 0, none⟩) (2 * k + 2) cap) w5) := Lib.hid (LaidAt.fin H2.out HM.out HX.out HB.out hp2.out (by simpa using H2.out.left) hown5 hgrow)
          clear hown5 hgrow hat hlt5 o3
          go_wp2_with fail
          go_roundw
          case rel => exact ⟨k + 1, by omega, by go_num, HR⟩
          case measure => simp [intOf]; omega
        · obtain ⟨b', off', e, _⟩ := H2.out.left.spot (by rw [intVals_length, H2.out.left.intN]; omega)
          obtain rfl := Option.some.inj e
          by_cases hpc : p = c'
          · subst hpc
            obtain rfl : n' = p := by omega
            have hA0 : Ln wp 1 (some ⟨b', off', none⟩) (n' - n') 0 (intVals (rest.drop n')) := by
              rw [List.drop_of_length_le (by rw [H2.out.left.intN]; exact Nat.le_refl _), Nat.sub_self]
              exact Ln.empty _ _ _ _
            have HA0 := Lib.hid hA0
            clear hA0
            go_wp2_with fail
            go_region_held3 (fun _ => True)
              (first | exact trivial)
              ((refine step_append_lies _ (by rfl) _ _ _ (by rfl) wp.heap.size 23 i0 _ 1 24 Try.underlying69 hi hz0 hz1 hz2 rfl (by omega) u6 (2 * k) (qs.map Pc.val) (by rfl) ((o3.alloc _).drew)
                  ⟨w4.heap.size, 0, none⟩ 2 2 [.slice (some ⟨b', off', none⟩) n' n', .slice (some ⟨b, off + k, none⟩) 1 (c1 - k)] (by rfl) (by rfl) (World.news_of_block (cs := #[.slice (some ⟨b', off', none⟩) n' n', .slice (some ⟨b, off + k, none⟩) 1 (c1 - k)]) (t := 23) (fr := (0, 0)) (heap_alloc_new w4 _)) (by simp [Value.oneCell'])
                  (by omega) (by unfold maxLen; omega) (by omega) (by simp; omega) (w4.heap.size + 1) (by simp) ?_; intro gg cap w5 hown5 hgrow hat hlt5))
            have HR : Hid (LaidRel wp n ms zs (k + 1) (.slice (some ⟨b', off', none⟩) (n' - n') 0) (.slice (some ⟨gg, 0, none⟩) (2 * k + 2) cap) w5) := Lib.hid (LaidAt.fin H2.out HM.out HX.out HB.out hp2.out (HA0.out) hown5 hgrow)
            rw [Nat.sub_self] at HR
            clear hown5 hgrow hat hlt5 o3
            go_wp2_with fail
            go_roundw
            case rel => exact ⟨k + 1, by omega, by go_num, HR⟩
            case measure => simp [intOf]; omega
          · have i4 : (p : Int) < (c' : Int) := by omega
            have j4 : ¬ c' = p := by omega
            have j5 : (p : Int) ≤ (n' : Int) := by omega
            have j6 : (n' : Int) ≤ (c' : Int) := by omega
            go_wp2_with fail
            go_region_held3 (fun _ => True)
              (first | exact trivial)
              ((refine step_append_lies _ (by rfl) _ _ _ (by rfl) wp.heap.size 23 i0 _ 1 24 Try.underlying69 hi hz0 hz1 hz2 rfl (by omega) u6 (2 * k) (qs.map Pc.val) (by rfl) ((o3.alloc _).drew)
                  ⟨w4.heap.size, 0, none⟩ 2 2 [.slice (some ⟨b', off', none⟩) p c', .slice (some ⟨b, off + k, none⟩) 1 (c1 - k)] (by rfl) (by rfl) (World.news_of_block (cs := #[.slice (some ⟨b', off', none⟩) p c', .slice (some ⟨b, off + k, none⟩) 1 (c1 - k)]) (t := 23) (fr := (0, 0)) (heap_alloc_new w4 _)) (by simp [Value.oneCell'])
                  (by omega) (by unfold maxLen; omega) (by omega) (by simp; omega) (w4.heap.size + 1) (by simp) ?_; intro gg cap w5 hown5 hgrow hat hlt5))
            have HR : Hid (LaidRel wp n ms zs (k + 1) (.slice (some ⟨b', off' + p, none⟩) (n' - p) (c' - p)) (.slice (some ⟨gg, 0, none⟩) (2 * k + 2) cap) w5) := Lib.hid (LaidAt.fin H2.out HM.out HX.out HB.out hp2.out (H2.out.left.intDrop (by omega)) hown5 hgrow)
            clear hown5 hgrow hat hlt5 o3
            go_wp2_with fail
            go_roundw
            case rel => exact ⟨k + 1, by omega, by go_num, HR⟩
            case measure => simp [intOf]; omega
    · obtain rfl : m = k := by omega
      have o3 := H1.out.own
      have bsz := H1.out.bel.size
      have hsum := H1.out.sum
      have HA : Hid (pcs (qs ++ [⟨A', n', c', intVals rest⟩]) = intVals (SS.insL ps zs)) := by
        have ha := H1.out.all
        rw [List.drop_of_length_le (by rw [L2.out.intN]; exact Nat.le_refl _), HI.out] at ha
        rw [← ha]
        unfold pcs
        rw [List.flatMap_append]
        exact Lib.hid (by simp [SS.insL])
      have HG : Hid (Good wp (qs ++ [⟨A', n', c', intVals rest⟩])) := by
        refine Lib.hid (fun q hq => ?_)
        rcases List.mem_append.1 hq with hq | hq
        · exact H1.out.good q hq
        · obtain rfl : q = _ := by simpa using hq
          exact ⟨H1.out.left, intVals_one _⟩
      have HT : Hid (tot (qs ++ [⟨A', n', c', intVals rest⟩]) = n + m) := by
        unfold tot at hsum ⊢
        rw [List.map_append, List.sum_append]
        exact Lib.hid (by simp; omega)
      have HN2 : Hid ((qs ++ [(⟨A', n', c', intVals rest⟩ : Pc)]).length = 2 * m + 1) := by
        rw [List.length_append, H1.out.len]
        exact Lib.hid rfl
      go_wp2_with (at_builtin; refine wpList_append_own _ rfl (.tmp 40) (.tmp 42) 69 rfl wp.heap.size 23 i0 (.slice none 0 0) 1 24 Try.underlying69 hi hz0 hz1 hz2 rfl (by decide) _ _ _ rfl (o3.alloc _) ⟨wr.heap.size, 0, none⟩ 1 1 [.slice A' n' c'] rfl rfl (cell_one_new _ _ _) (by simp [Value.oneCell']) (by unfold maxLen; omega) (by omega) (by simp; omega) ?_; intro v5 w5 hown5 hg5 _; obtain ⟨A5, c5, rfl, hc5, l5⟩ := Ln.of_own hown5)
      have B5 := Lib.hid ((H1.out.bel.alloc bsz _).grown hg5 (by simp; omega) (fun g hg => (o3.lt g hg).1))
      have HO5 : Hid (w5.ownsRow wp.heap.size 23 1 (.slice A5 (2 * m + 1) c5) (2 * m + 1) ((qs ++ [(⟨A', n', c', intVals rest⟩ : Pc)]).map Pc.val)) := by
        rw [List.map_append]
        exact Lib.hid hown5
      have HP5 := Lib.hid (pile_own HO5.out (show Good w5 (qs ++ [⟨A', n', c', intVals rest⟩]) from fun q hq => ⟨(HG.out q hq).1.kept B5.out, (HG.out q hq).2⟩))
      clear hown5 hg5 o3 l5
      refine (join_I A5 (2 * m + 1) c5 (n + m) _ w5 HP5.out HN2.out HT.out (by omega) (by omega)).mono ?_
      rintro e w6 ⟨v6, rfl, o6, b6⟩
      rw [HA.out] at o6
      have O6 := Lib.hid o6
      have B6 := Lib.hid (B2.out.trans ((B5.out.trans (b6.mono B5.out.size)).mono B2.out.size))
      have HLE : Hid (w.heap.size ≤ w5.heap.size) := Lib.hid (Nat.le_trans B2.out.size B5.out.size)
      clear o6 b6
      go_wp2_with fail
      go_ret
      exact ⟨_, rfl, own_base_low O6.out HLE.out, B6.out⟩
end Go.Proofs.Ytlldmefjhgahdaa
