/-
  A part of the proof: what its texts say stands at the head of each. Conditions: none.
-/
import Derived.Deep.QuietTactic
import Derived.BigQuiet
import Derived.Test.YtnmiccagkfpkiaaGreatZD3
import Derived.Test.YtnmiccagkfpkiaaGreatZD5
import Derived.Test.YtnmiccagkfpkiaaGreatZD6
import Derived.Test.YtnmiccagkfpkiaaGreatZD7
import Derived.Test.YtnmiccagkfpkiaaGreatZD8

/-
  What disk's list comes to; Lasts and Waits.
-/
namespace Go.Proofs.YtnmiccagkfpkiaaGreat
open Go.RowKit Go.Maps

/-- What a map holds, in order: a list that rises, of just its entries. -/
structure Lists (g : Ghost) (ps : List Hd) : Prop where
  up : (ps.map fun p => p.1).Pairwise (· < ·)
  mem : ∀ p ∈ ps, ∃ u, g p.1 = some (u, p.2.2)
  all : ∀ i u l, g i = some (u, l) → i ∈ ps.map fun p => p.1

theorem keys_up {es : List (Lit × DataW Value)} (hp : es.Pairwise (fun p q => p.1 ≠ q.1)) (hk : ∀ p ∈ es, ∃ i v, p = (Lit.int .i64 i, DataW.held v) ∧ 0 ≤ i ∧ i < 4096) {ss : List Int} (hs : ss.Perm (intKeys (DataW.map es))) :
    (ss.mergeSort (fun x y => decide (x ≤ y))).Pairwise (· < ·) ∧ ∀ i, i ∈ ss.mergeSort (fun x y => decide (x ≤ y)) ↔ ∃ v, (Lit.int .i64 i, DataW.held v) ∈ es := by
  have hperm : (ss.mergeSort (fun x y => decide (x ≤ y))).Perm (es.map fun p => _root_.Go.intOf p.1) := (List.mergeSort_perm _ _).trans hs
  have hnd : (es.map fun p => _root_.Go.intOf p.1).Pairwise (· ≠ ·) := by
    rw [List.pairwise_map]
    refine List.Pairwise.imp_of_mem ?_ hp
    intro p q hp' hq' hne e
    obtain ⟨i, v, rfl, _⟩ := hk p hp'
    obtain ⟨j, u, rfl, _⟩ := hk q hq'
    simp only [_root_.Go.intOf] at e
    exact hne (by show Lit.int .i64 i = Lit.int .i64 j; rw [e])
  have hnd' : (ss.mergeSort (fun x y => decide (x ≤ y))).Pairwise (· ≠ ·) := (hperm.pairwise_iff (fun {a b} (h : a ≠ b) => h.symm)).2 hnd
  have hle := List.pairwise_mergeSort (le := fun x y : Int => decide (x ≤ y)) (fun a b c h1 h2 => by simp only [decide_eq_true_eq] at *; omega) (fun a b => by simp only [Bool.or_eq_true, decide_eq_true_eq]; omega) ss
  refine ⟨?_, fun i => ?_⟩
  · refine (hle.and hnd').imp ?_
    intro a b ⟨h1, h2⟩
    simp only [decide_eq_true_eq] at h1
    omega
  · rw [hperm.mem_iff, List.mem_map]
    constructor
    · rintro ⟨p, hp', rfl⟩
      obtain ⟨j, v, rfl, _⟩ := hk p hp'
      exact ⟨v, hp'⟩
    · rintro ⟨v, hv⟩
      exact ⟨_, hv, rfl⟩

set_option maxRecDepth 20000 in
theorem row_nums {w : World} {base n : Nat} {v : Value} {ks : List Int} (h : w.ownsRow base 3 1 v n (ks.map encZ)) : ∃ A c, v = .slice A n c ∧ ks.length = n ∧ n ≤ c ∧ ∀ (j : Nat) (x : Int), ks[j]? = some x → ∃ g, A = some ⟨g, 0, none⟩ := by
  have hl : ks.length = n := by have := h.1; rw [List.length_map] at this; omega
  rcases h.2 with ⟨rfl, h0⟩ | ⟨g, cap, cur, rfl, hb, hh, hnc, hm, _⟩
  · subst h0
    refine ⟨none, 0, rfl, hl, Nat.le_refl _, fun j x hx => ?_⟩
    rw [List.eq_nil_of_length_eq_zero hl] at hx
    simp at hx
  · exact ⟨_, _, rfl, hl, hnc, fun j x _ => ⟨g, rfl⟩⟩

def ListRel (w : World) (g : Ghost) (kA : Option Addr) (kc : Nat) (ks : List Int) (v : Value) (j : Nat) (wr : World) : Prop :=
  ∃ ps : List Hd, HOwn wr w.heap.size v ps ∧ (ps.map fun p => p.1) = ks.take j ∧ (∀ p ∈ ps, ∃ u, g p.1 = some (u, p.2.2)) ∧ Below w.heap.size w wr ∧ wr.ownsRow w.heap.size 3 1 (.slice kA ks.length kc) ks.length (ks.map encZ)

def ListEnd (w : World) (g : Ghost) (e : Ending) (w' : World) : Prop := ∃ v ps, e = .returned v ∧ HOwn w' w.heap.size v ps ∧ Lists g ps ∧ Below w.heap.size w w'

theorem grown_own {w w2 : World} {base : Nat} {v : Value} {l : List UInt8} (h : Own w base v l) (hb : Below w.heap.size w w2) : Own w2 base v l :=
  own_of_block h (fun k hk => hb.block k (h.lt k hk).2)

theorem own_up {w : World} {base base' : Nat} {v : Value} {l : List UInt8} (h : Own w base v l) (hb : base' ≤ base) : Own w base' v l := Go.Proofs.ownsRow_base_a h hb

theorem HOwn.alloc2 {w : World} {base : Nat} {v : Value} {ps : List Hd} (h : HOwn w base v ps) (o : Obj) : HOwn (w.alloc o) base v ps := h.below (below_one w o)

theorem two_cells (x : Int) (A : Option Addr) (n c : Nat) : ∀ u ∈ [Value.int .i64 x, .slice A n c], u.oneCell' = true := by
  intro u hu
  simp only [List.mem_cons, List.not_mem_nil, or_false] at hu
  rcases hu with rfl | rfl <;> rfl

set_option maxRecDepth 20000 in
set_option maxHeartbeats 1600000 in
theorem list_any (w : World) (b : Nat) (g : Ghost) (hm : MapAt w b (vals g)) (ho : ∀ i v l, g i = some (v, l) → Own w 0 v l ∧ l.length ≤ 1024) :
    Calls Tryz.prog 64 #[.map (some b)] w (ListEnd w g) := by
  obtain ⟨i0, hi, hz0, hz1, hz2⟩ := info_parts heldInfo
  have HM := Lib.hid hm
  have HO := Lib.hid ho
  obtain ⟨n, es, hown, hk, hf⟩ := hm
  obtain ⟨es', e', hp, _⟩ := hown.entries keyLaw
  injection e' with e'
  subst e'
  have hl := few_of hp hk
  have HOW := Lib.hid hown
  have HK := Lib.hid hk
  have HF := Lib.hid hf
  have HP := Lib.hid hp
  clear hown hk hf hp ho
  go_enter Tryz.func64, Tryz.ntmps64
  go_wp2_with fail
  refine (keys_any (some b) w).mono ?_
  rintro e w1 ⟨rfl, rfl⟩
  go_wp2_with fail
  refine (sorted_any _ w.heap.size b n es (by simp) (by simp) (HOW.out.alloc _) hl).mono ?_
  rintro e w2 ⟨kv, ss, rfl, hperm, hrow, hb2⟩
  obtain ⟨hup, hmem⟩ := keys_up HP.out HK.out hperm
  have hkl : (ss.mergeSort (fun x y => decide (x ≤ y))).length = ss.length := (List.mergeSort_perm _ _).length_eq
  have hsl : ss.length ≤ 4096 := by
    have := hperm.length_eq
    rw [show intKeys (DataW.map es) = es.map fun p => _root_.Go.intOf p.1 from rfl, List.length_map] at this
    omega
  generalize ss.mergeSort (fun x y => decide (x ≤ y)) = ks at *
  rw [← hkl] at hrow hsl
  obtain ⟨kA, kc, rfl, -, hkc, hkA⟩ := row_nums hrow
  have HUP := Lib.hid hup
  have HME := Lib.hid hmem
  have HKA := Lib.hid hkA
  have HR2 := Lib.hid (Go.Proofs.ownsRow_base_a hrow (show w.heap.size ≤ (w.alloc (.cells #[.map (some b)] 52)).heap.size by simp))
  have HB2 : Hid (Below w.heap.size w w2) := (below_one w _).trans (hb2.mono (by simp))
  clear hrow hb2 hperm hup hmem hkA hkl HOW HK HP
  go_wp2_with fail
  go_loopw [3, 10] (fun v i wr => ∃ j : Nat, j ≤ ks.length ∧ i = .int .i64 j ∧ ListRel w g kA kc ks v j wr) (fun _ i _ => ks.length - (RowKit.intOf i).toNat)
  case atStart => exact ⟨0, Nat.zero_le _, rfl, [], hown_nil _ _, rfl, fun p hp => by simp at hp, HB2.out, HR2.out⟩
  case round =>
    obtain ⟨j, hj, rfl, ps, hps, hpk, hpm, hbw, hkr⟩ := hrel
    have hpl : ps.length = j := by
      have := congrArg List.length hpk
      rw [List.length_map, List.length_take] at this
      omega
    have HPK := Lib.hid hpk
    have HPM := Lib.hid hpm
    have HBW := Lib.hid hbw
    have HPS := Lib.hid hps
    have HKR := Lib.hid hkr
    have HPL := Lib.hid hpl
    by_cases hlt : j < ks.length
    · obtain ⟨x, hx⟩ : ∃ x, ks[j]? = some x := ⟨ks[j], List.getElem?_eq_getElem hlt⟩
      obtain ⟨gb, rfl⟩ := HKA.out j x hx
      have kc0 : wr.cell? ⟨gb, j, none⟩ = some (.int .i64 x) := by
        rw [hkr.cellAt j (by omega), List.getElem?_map, hx]
        rfl
      obtain ⟨v0, hv0⟩ := (HME.out x).1 (List.mem_of_getElem? hx)
      have hv1 := (HF.out x v0).2 hv0
      obtain ⟨q, hq, hqv⟩ : ∃ q, g x = some q ∧ q.1 = v0 := by
        unfold vals at hv1
        exact Option.map_eq_some_iff.1 hv1
      obtain ⟨v0', l⟩ := q
      obtain rfl : v0' = v0 := hqv
      have hbx := HM.out.keys hv1
      have ho := HO.out x v0' l hq
      have how : Own wr 0 v0' l := own_of_block ho.1 (fun k hk => hbw.block k (ho.1.lt k hk).2)
      have hll := ho.2
      obtain ⟨A0, c0, rfl, hc0, hz0'⟩ := own_slice how
      have hmr : MapAt wr b (vals g) := HM.out.block (hbw.block b HM.out.lt)
      have hlk := hmr.look1 (i := x) (by omega) (by omega)
      rw [hv1] at hlk
      simp only [Option.getD_some] at hlk
      have HOW := Lib.hid how
      have HX := Lib.hid hx
      have HQ := Lib.hid hq
      have HZ := Lib.hid hz0'
      have hbb : w.heap.size ≤ wr.heap.size := hbw.size
      clear hps hpk hpm hbw hkr hpl hx hv0 hv1 hq ho how hmr hz0' hc0
      go_wp2_with fail
      refine (clone_all A0 _ c0 _ l wr (own_bys HOW.out) rfl (by omega) HZ.out).mono ?_
      rintro e w3 ⟨v3, rfl, ho3, hb3⟩
      obtain ⟨A3, c3, rfl, _, _⟩ := own_slice ho3
      have HO3 : Hid (Own w3 w.heap.size (.slice A3 l.length c3) l) := own_up ho3 hbb
      have hb33 : w.heap.size ≤ w3.heap.size := Nat.le_trans hbb hb3.size
      have hrow3 := ((HPS.out.below hb3).alloc2 (.cells #[.int .i64 x, .slice A3 l.length c3] 91)).row
      rw [HPL.out] at hrow3
      have HB3 := Lib.hid hb3
      clear ho3 hb3 hlk kc0
      go_wp2_with (at_builtin; refine wpList_append_own _ rfl (.tmp 14) (.tmp 21) 74 rfl w.heap.size 91 i0 _ 2 32 Tryz.underlying74 hi hz0 hz1 hz2 rfl (by decide) _ _ _ rfl hrow3 ⟨w3.heap.size, 0, none⟩ 1 1 [.int .i64 x, .slice A3 l.length c3] rfl rfl (cell_two_new _ _ _ _) (two_cells x A3 l.length c3) (by unfold maxLen; omega) (by omega) (by simp; omega) ?_; intro v4 w4 hown4 hg4 _)
      have HP4 : Hid (HOwn w4 w.heap.size v4 (ps ++ [(x, .slice A3 l.length c3, l)])) := ((HPS.out.below HB3.out).alloc2 _).push (p := (x, .slice A3 l.length c3, l)) (grown_own HO3.out (below_one _ _)) (by rw [HPL.out]; exact hown4) hg4
      have HB4 : Hid (Below w.heap.size w w4) := (HBW.out.trans ((HB3.out.trans ((below_one _ _).mono HB3.out.size)).mono hbb)).grown hg4 (by simp; omega) (fun k hk => (hrow3.lt k hk).1)
      have HK4 : Hid (w4.ownsRow w.heap.size 3 1 (.slice (some ⟨gb, 0, none⟩) ks.length kc) ks.length (ks.map encZ)) := grown_apart (by decide) (row_of_block HKR.out (fun k hk => ((below_one w3 _).block k (Nat.lt_of_lt_of_le (HKR.out.lt k hk).2 HB3.out.size)).trans (HB3.out.block k (HKR.out.lt k hk).2))) hrow3 hg4
      clear hown4 hg4 hrow3 HPS HB3 HBW HKR HO3
      go_wp2_with fail
      go_roundw
      case rel =>
        refine ⟨j + 1, by omega, by go_num, _, HP4.out, ?_, ?_, HB4.out, HK4.out⟩
        · rw [List.map_append, HPK.out, List.take_add_one, HX.out]
          rfl
        · intro p hp
          rcases List.mem_append.1 hp with h1 | h1
          · exact HPM.out p h1
          · obtain rfl : p = (x, .slice A3 l.length c3, l) := by simpa using h1
            exact ⟨_, HQ.out⟩
      case measure => simp [RowKit.intOf]; omega
    · clear hps hpk hpm hbw hkr hpl
      go_wp2_with fail
      go_ret
      have ek : ks.take j = ks := List.take_of_length_le (by omega)
      refine ⟨_, ps, rfl, HPS.out, ⟨by rw [HPK.out, ek]; exact HUP.out, HPM.out, fun i u l hi => ?_⟩, HBW.out⟩
      rw [HPK.out, ek]
      exact (HME.out i).2 ⟨u, (HF.out i u).1 (by unfold vals; rw [hi]; rfl)⟩

section
variable {F : Nat → Prop} {S : Int → Prop} {db bl bw : Nat} {gL gW : Ghost} {s : PS}

/-- Two lists that rise, with the same members, are one. -/
theorem rising_eq {β : Type} : ∀ (a b : List (Int × β)), a.Pairwise (fun x y => x.1 < y.1) → b.Pairwise (fun x y => x.1 < y.1) → (∀ p, p ∈ a ↔ p ∈ b) → a = b
  | [], [], _, _, _ => rfl
  | [], y :: b, _, _, h => by have := (h y).2 (by simp); simp at this
  | x :: a, [], _, _, h => by have := (h x).1 (by simp); simp at this
  | x :: a, y :: b, ha, hb, h => by
    obtain ⟨ha1, ha2⟩ := List.pairwise_cons.1 ha
    obtain ⟨hb1, hb2⟩ := List.pairwise_cons.1 hb
    have hxy : x = y := by
      rcases List.mem_cons.1 ((h x).1 (by simp)) with e | e
      · exact e
      · rcases List.mem_cons.1 ((h y).2 (by simp)) with e' | e'
        · exact e'.symm
        · have := ha1 y e'
          have := hb1 x e
          omega
    subst hxy
    congr 1
    refine rising_eq a b ha2 hb2 (fun p => ?_)
    constructor
    · intro hp
      rcases List.mem_cons.1 ((h p).1 (by simp [hp])) with e | e
      · have := ha1 p hp
        rw [e] at this
        omega
      · exact e
    · intro hp
      rcases List.mem_cons.1 ((h p).2 (by simp [hp])) with e | e
      · have := hb1 p hp
        rw [e] at this
        omega
      · exact e

theorem Lists.mem_iff {g : Ghost} {ps : List Hd} (h : Lists g ps) (i : Int) (l : List UInt8) : (i, l) ∈ (ps.map fun p => (p.1, p.2.2)) ↔ ∃ u, g i = some (u, l) := by
  constructor
  · intro hm
    obtain ⟨p, hp, e⟩ := List.mem_map.1 hm
    injection e with e1 e2
    subst e1
    subst e2
    exact h.mem p hp
  · rintro ⟨u, hu⟩
    obtain ⟨p, hp, rfl⟩ := List.mem_map.1 (h.all i u l hu)
    obtain ⟨u', hu'⟩ := h.mem p hp
    rw [hu'] at hu
    injection hu with hu
    injection hu with _ hu
    subst hu
    exact List.mem_map.2 ⟨p, hp, rfl⟩

theorem Lists.up' {g : Ghost} {ps : List Hd} (h : Lists g ps) : (ps.map fun p => (p.1, p.2.2)).Pairwise (fun x y => x.1 < y.1) := by
  have := h.up
  rw [List.pairwise_map] at this ⊢
  exact this

theorem lasts_up (s : PS) : s.lastsOf.Pairwise (fun x y => x.1 < y.1) := by
  unfold PS.lastsOf
  refine List.Pairwise.filter _ ?_
  rw [List.pairwise_map]
  exact List.pairwise_lt_range.imp (fun {a b} (h : a < b) => by show (a : Int) < (b : Int); omega)

theorem lasts_mem (s : PS) (h : s.Ok) (i : Int) (l : List UInt8) : (i, l) ∈ s.lastsOf ↔ s.L i = l ∧ l ≠ [] := by
  unfold PS.lastsOf
  rw [List.mem_filter, List.mem_map]
  constructor
  · rintro ⟨⟨k, hk, e⟩, hl⟩
    injection e with e1 e2
    subst e1
    subst e2
    exact ⟨rfl, by simpa using hl⟩
  · rintro ⟨rfl, hl⟩
    obtain ⟨h1, h2⟩ := h.l i hl
    refine ⟨⟨i.toNat, List.mem_range.2 (by omega), ?_⟩, by simpa using hl⟩
    rw [show ((i.toNat : Nat) : Int) = i by omega]

theorem waits_up (s : PS) : s.waitsOf.Pairwise (fun x y => x.1 < y.1) := by
  unfold PS.waitsOf
  rw [List.pairwise_filterMap]
  refine List.pairwise_lt_range.imp (fun {a b} (h : a < b) => ?_)
  intro x hx y hy
  obtain ⟨_, _, rfl⟩ := Option.map_eq_some_iff.1 hx
  obtain ⟨_, _, rfl⟩ := Option.map_eq_some_iff.1 hy
  show (a : Int) < (b : Int)
  omega

theorem waits_mem (s : PS) (h : s.Ok) (i : Int) (l : List UInt8) : (i, l) ∈ s.waitsOf ↔ s.W i = some l := by
  unfold PS.waitsOf
  rw [List.mem_filterMap]
  constructor
  · rintro ⟨k, hk, e⟩
    obtain ⟨l', h1, e⟩ := Option.map_eq_some_iff.1 e
    injection e with e1 e2
    subst e1
    subst e2
    exact h1
  · intro hl
    obtain ⟨h1, h2⟩ := h.w i (by rw [hl]; simp)
    refine ⟨i.toNat, List.mem_range.2 (by omega), ?_⟩
    rw [show ((i.toNat : Nat) : Int) = i by omega, hl]
    rfl

/-- What Lasts, or Waits, answers. -/
def LList (W : World) (F : Nat → Prop) (w : World) (db : Nat) (s : PS) (qs : List (Int × List UInt8)) (e : Ending) (w' : World) : Prop :=
  ∃ A c, e = .returned (.slice A qs.length c) ∧ qs.length ≤ c ∧ (∀ G : Nat → Prop, (∀ k, G k → k < w.heap.size) → HOut w' G A qs) ∧ Live W F w' db s ∧ Moves w F w' F

theorem list_end {W w w' : World} {g : Ghost} {e : Ending} {qs : List (Int × List UInt8)} (h : Live W F w db s) (hq : qs.Pairwise (fun x y => x.1 < y.1)) (hm : ∀ i l, (i, l) ∈ qs ↔ ∃ u, g i = some (u, l)) (hl : ListEnd w g e w') : LList W F w db s qs e w' ∧ Below w.heap.size w w' := by
  obtain ⟨v, ps, rfl, ho, hps, hb⟩ := hl
  obtain ⟨A, c, rfl, hc, -⟩ := ho.out (F := F) h.dk.lt
  have e1 : (ps.map fun p => (p.1, p.2.2)) = qs := rising_eq _ _ hps.up' hq (fun p => (hps.mem_iff p.1 p.2).trans (hm p.1 p.2).symm)
  have e2 : ps.length = qs.length := by rw [← e1, List.length_map]
  rw [e2] at hc ⊢
  refine ⟨⟨A, c, rfl, hc, fun G hG => ?_, h.next hb, Moves.of_below hb⟩, hb⟩
  obtain ⟨A', c', e3, _, hout⟩ := ho.out (F := G) hG
  injection e3 with e3 _ _
  rw [e1, ← e3] at hout
  exact hout

set_option maxRecDepth 20000 in
theorem lasts_both {W : World} (w : World) (h : Live W F w db s) : Calls Tryz.prog 38 #[.pointer (some ⟨db, 0, none⟩)] w (fun e w' => LList W F w db s s.lastsOf e w' ∧ Below w.heap.size w w') := by
  obtain ⟨bl, bw, gL, gW, hd⟩ := h.dk
  have c1 := hd.cell 1 (v := .map (some bl)) rfl
  have HC := Lib.hid (list_any w bl gL hd.mL (fun i v l hi => ⟨(hd.oL i v l hi).1, (hd.oL i v l hi).2.2.1⟩))
  have HE : Hid (∀ e w', ListEnd w gL e w' → LList W F w db s s.lastsOf e w' ∧ Below w.heap.size w w') := fun e w' => list_end h (lasts_up s) (fun i l => by
    rw [lasts_mem s hd.ok, hd.sL]
    constructor
    · rintro ⟨e, hl⟩
      cases hg : gL i with
      | none => rw [hg] at e; exact absurd e.symm hl
      | some p => rw [hg] at e; exact ⟨p.1, by rw [← e]; rfl⟩
    · rintro ⟨u, hu⟩
      rw [hu]
      exact ⟨rfl, (hd.oL i u l hu).2.1⟩)
  clear hd h
  go_enter Tryz.func38, Tryz.ntmps38
  go_wp2_with fail
  refine HC.out.mono ?_
  intro e w' hl
  have hl' := HE.out e w' hl
  obtain ⟨⟨A, c, rfl, hc, ho, hv, hmv⟩, hbl⟩ := hl'
  have HH : Hid (LList W F w db s s.lastsOf (.returned (.slice A s.lastsOf.length c)) w' ∧ Below w.heap.size w w') := ⟨⟨A, c, rfl, hc, ho, hv, hmv⟩, hbl⟩
  clear hl hc ho hv hmv hbl HE HC
  go_wp2_with fail
  go_ret
  exact HH.out

set_option maxRecDepth 20000 in
theorem waits_both {W : World} (w : World) (h : Live W F w db s) : Calls Tryz.prog 40 #[.pointer (some ⟨db, 0, none⟩)] w (fun e w' => LList W F w db s s.waitsOf e w' ∧ Below w.heap.size w w') := by
  obtain ⟨bl, bw, gL, gW, hd⟩ := h.dk
  have c2 := hd.cell 2 (v := .map (some bw)) rfl
  have HC := Lib.hid (list_any w bw gW hd.mW (fun i v l hi => ⟨(hd.oW i v l hi).1, (hd.oW i v l hi).2.1⟩))
  have HE : Hid (∀ e w', ListEnd w gW e w' → LList W F w db s s.waitsOf e w' ∧ Below w.heap.size w w') := fun e w' => list_end h (waits_up s) (fun i l => by
    rw [waits_mem s hd.ok, hd.sW]
    constructor
    · intro e
      obtain ⟨p, hp, rfl⟩ := Option.map_eq_some_iff.1 e
      exact ⟨p.1, hp⟩
    · rintro ⟨u, hu⟩
      rw [hu]
      rfl)
  clear hd h
  go_enter Tryz.func40, Tryz.ntmps40
  go_wp2_with fail
  refine HC.out.mono ?_
  intro e w' hl
  have hl' := HE.out e w' hl
  obtain ⟨⟨A, c, rfl, hc, ho, hv, hmv⟩, hbl⟩ := hl'
  have HH : Hid (LList W F w db s s.waitsOf (.returned (.slice A s.waitsOf.length c)) w' ∧ Below w.heap.size w w') := ⟨⟨A, c, rfl, hc, ho, hv, hmv⟩, hbl⟩
  clear hl hc ho hv hmv hbl HE HC
  go_wp2_with fail
  go_ret
  exact HH.out

set_option maxRecDepth 20000 in
theorem lasts_live {W : World} (w : World) (h : Live W F w db s) : Calls Tryz.prog 38 #[.pointer (some ⟨db, 0, none⟩)] w (LList W F w db s s.lastsOf) := (lasts_both w h).mono fun _ _ h => h.1
set_option maxRecDepth 20000 in
theorem waits_live {W : World} (w : World) (h : Live W F w db s) : Calls Tryz.prog 40 #[.pointer (some ⟨db, 0, none⟩)] w (LList W F w db s s.waitsOf) := (waits_both w h).mono fun _ _ h => h.1
end

end Go.Proofs.YtnmiccagkfpkiaaGreat

/-
  What the document's own Lasts and Waits come to.
-/
namespace Go.Proofs.YtnmiccagkfpkiaaGreat
open Go.RowKit Go.Maps

/-- A list of one's own, of bytes that lie anywhere. -/
structure HRef (w : World) (base : Nat) (v : Value) (ps : List Hd) : Prop where
  row : w.ownsRow base 91 2 v ps.length (hdVals ps)
  own : ∀ p ∈ ps, Own w 0 p.2.1 p.2.2

theorem href_nil (w : World) (base : Nat) : HRef w base (.slice none 0 0) [] := ⟨World.ownsRow_nil _ _ _ _, fun p hp => by simp at hp⟩

theorem HRef.below {w w' : World} {base : Nat} {v : Value} {ps : List Hd} (h : HRef w base v ps) (hb : Below w.heap.size w w') : HRef w' base v ps :=
  ⟨row_of_block h.row (fun k hk => hb.block k (h.row.lt k hk).2), fun p hp => own_of_block (h.own p hp) (fun k hk => hb.block k ((h.own p hp).lt k hk).2)⟩

set_option maxRecDepth 20000 in
theorem HRef.push {w w' : World} {base : Nat} {v v' : Value} {ps : List Hd} {p : Hd} (h : HRef w base v ps) (ho : Own w 0 p.2.1 p.2.2) (hr : w'.ownsRow base 91 2 v' (ps.length + 1) (hdVals ps ++ [.int .i64 p.1, p.2.1])) (hg : w.grownBy w' v.ownBlock) :
    HRef w' base v' (ps ++ [p]) := by
  refine ⟨?_, fun q hq => ?_⟩
  · rw [hdVals_append, List.length_append]
    exact hr
  · have hq' : Own w 0 q.2.1 q.2.2 := by
      rcases List.mem_append.1 hq with h1 | h1
      · exact h.own q h1
      · obtain rfl : q = p := by simpa using h1
        exact ho
    exact grown_apart (by decide) hq' h.row hg

theorem HRef.out {w : World} {base : Nat} {v : Value} {ps : List Hd} (h : HRef w base v ps) :
    ∃ A c, v = .slice A ps.length c ∧ HOut w (fun _ => False) A (ps.map fun p => (p.1, p.2.2)) := by
  rcases h.row.2 with ⟨rfl, h0⟩ | ⟨g, cap, cur, rfl, hb, hh, hnc, hm, _⟩
  · refine ⟨none, 0, by rw [h0], Or.inl ?_⟩
    rw [List.eq_nil_of_length_eq_zero h0]
    rfl
  · refine ⟨_, _, rfl, Or.inr ⟨g, 0, rfl, fun hg => hg, fun i q hq => ?_⟩⟩
    rw [List.getElem?_map] at hq
    obtain ⟨p, hp, rfl⟩ := Option.map_eq_some_iff.1 hq
    obtain ⟨e1, e2⟩ := hdVals_at ps i p hp
    have c1 := h.row.cells (g := g) rfl _ _ e1
    have c2 := h.row.cells (g := g) rfl _ _ e2
    rw [addr_add] at c1 c2
    have ho := h.own p (List.mem_of_getElem? hp)
    obtain ⟨A', c', hv, _, _⟩ := own_slice ho
    refine ⟨c1, A', c', by rw [← hv]; exact c2, ?_⟩
    rw [hv] at ho
    rcases own_bys ho with hx | ⟨b, off, e, _, hc⟩
    · exact Or.inl hx
    · exact Or.inr ⟨b, off, e, fun hF' => hF', hc⟩

def lastsTo (s : PS) (j : Nat) : List (Int × List UInt8) := ((List.range j).map fun k : Nat => ((k : Int), s.L (k : Int))).filter fun p => !p.2.isEmpty
def waitsTo (s : PS) (j : Nat) : List (Int × List UInt8) := (List.range j).filterMap fun k : Nat => (s.W (k : Int)).map fun l => ((k : Int), l)

theorem lastsTo_step (s : PS) (j : Nat) : lastsTo s (j + 1) = if s.L (j : Int) = [] then lastsTo s j else lastsTo s j ++ [((j : Int), s.L (j : Int))] := by
  unfold lastsTo
  rw [List.range_succ, List.map_append, List.filter_append]
  by_cases h : s.L (j : Int) = []
  · rw [if_pos h]
    simp [h]
  · rw [if_neg h]
    simp [h]

theorem waitsTo_step (s : PS) (j : Nat) : waitsTo s (j + 1) = match s.W (j : Int) with | none => waitsTo s j | some l => waitsTo s j ++ [((j : Int), l)] := by
  unfold waitsTo
  rw [List.range_succ, List.filterMap_append]
  cases h : s.W (j : Int) with
  | none => simp [h]
  | some l => simp [h]

theorem lastsTo_len (s : PS) (j : Nat) : (lastsTo s j).length ≤ j := by
  unfold lastsTo
  refine Nat.le_trans (List.length_filter_le _ _) ?_
  simp
theorem waitsTo_len (s : PS) (j : Nat) : (waitsTo s j).length ≤ j := by
  unfold waitsTo
  refine Nat.le_trans (List.length_filterMap_le _ _) ?_
  simp

def RListRel (w : World) (qs : List (Int × List UInt8)) (v : Value) (wr : World) : Prop :=
  ∃ ps, HRef wr w.heap.size v ps ∧ (ps.map fun p => (p.1, p.2.2)) = qs ∧ Below w.heap.size w wr

def RList (w : World) (qs : List (Int × List UInt8)) (e : Ending) (w' : World) : Prop :=
  ∃ A c, e = .returned (.slice A qs.length c) ∧ HOut w' (fun _ => False) A qs ∧ Below w.heap.size w w'

theorem rlist_end {w wr : World} {qs : List (Int × List UInt8)} {v : Value} (h : RListRel w qs v wr) : RList w qs (.returned v) wr := by
  obtain ⟨ps, hr, rfl, hb⟩ := h
  obtain ⟨A, c, rfl, ho⟩ := hr.out
  exact ⟨A, c, by rw [List.length_map], ho, hb⟩

section
variable {G : Nat → Prop} {rb : Nat} {s : PS}

set_option maxRecDepth 20000 in
set_option maxHeartbeats 1600000 in
theorem refLasts_any (w : World) (h : Rk w G rb s) : Calls Tryz.prog 39 #[.pointer (some ⟨rb, 0, none⟩)] w (RList w s.lastsOf) := by
  obtain ⟨i0, hi, hz0, hz1, hz2⟩ := info_parts heldInfo
  obtain ⟨lb, wb, ib, left, rL, rW, rI, h⟩ := h
  have hs4 := h.s4
  have HD := Lib.hid h
  clear h
  go_enter Tryz.func39, Tryz.ntmps39
  go_wp2_with fail
  go_loopw [3, 4] (fun v i wr => ∃ j : Nat, j ≤ s.size ∧ i = .int .i64 j ∧ RListRel w (lastsTo s j) v wr) (fun _ i _ => s.size - (RowKit.intOf i).toNat)
  case atStart => exact ⟨0, Nat.zero_le _, rfl, [], href_nil _ _, rfl, Below.refl _ _⟩
  case round =>
    obtain ⟨j, hj, rfl, ps, hps, hpq, hbw⟩ := hrel
    have hr := HD.out.same (w' := wr) (fun k hk => hbw.block k (HD.out.lt k hk)) hbw.size
    have c0 := hr.cell 0 (v := .slice (some ⟨lb, 0, none⟩) s.size s.size) rfl
    have hbb := hbw.size
    have HPS := Lib.hid hps
    have HPQ := Lib.hid hpq
    have HBW := Lib.hid hbw
    have hpl : ps.length ≤ j := by
      have := lastsTo_len s j
      rw [← hpq, List.length_map] at this
      exact this
    by_cases hlt : j < s.size
    · obtain ⟨p, -, -, e1, -, -, k1, -, -, -, -, -⟩ := hr.at_ hlt
      obtain ⟨pA, pc, hpv, -, -⟩ := own_slice (hr.oL j p e1).1
      rw [hpv] at k1
      have hsl := hr.sL j p e1
      have HOW := Lib.hid (show Own wr 0 (.slice pA p.2.length pc) p.2 from by have := (hr.oL j p e1).1; rw [hpv] at this; exact this)
      have HSL := Lib.hid hsl
      clear hr hps hpq hbw e1 hpv hsl
      by_cases hl : p.2 = []
      · have hl0 : p.2.length = 0 := by rw [hl]; rfl
        rw [hl0] at k1
        have HST : Hid (lastsTo s (j + 1) = lastsTo s j) := by
          rw [lastsTo_step, if_pos (by rw [HSL.out]; exact hl)]
          exact Lib.hid rfl
        clear hl hl0 HOW
        go_wp2_with fail
        go_roundw
        case rel => exact ⟨j + 1, by omega, by go_num, ps, HPS.out, by rw [HST.out]; exact HPQ.out, HBW.out⟩
        case measure => simp [RowKit.intOf]; omega
      · have hl1 : 0 < p.2.length := by
          rcases Nat.eq_zero_or_pos p.2.length with e | e
          · exact absurd (List.eq_nil_of_length_eq_zero e) hl
          · exact e
        have HST : Hid (lastsTo s (j + 1) = lastsTo s j ++ [((j : Int), p.2)]) := by
          rw [lastsTo_step, if_neg (by rw [HSL.out]; exact hl), HSL.out]
          exact Lib.hid rfl
        have hrow3 := (HPS.out.below (below_one wr (.cells #[.int .i64 (j : Int), .slice pA p.2.length pc] 91))).row
        clear hl
        go_wp2_with (at_builtin; refine wpList_append_own _ rfl (.tmp 23) (.tmp 33) 74 rfl w.heap.size 91 i0 _ 2 32 Tryz.underlying74 hi hz0 hz1 hz2 rfl (by decide) _ _ _ rfl hrow3 ⟨wr.heap.size, 0, none⟩ 1 1 [.int .i64 (j : Int), .slice pA p.2.length pc] rfl rfl (cell_two_new _ _ _ _) (two_cells j pA p.2.length pc) (by unfold maxLen; omega) (by omega) (by simp; omega) ?_; intro v4 w4 hown4 hg4 _)
        have HP4 : Hid (HRef w4 w.heap.size v4 (ps ++ [((j : Int), .slice pA p.2.length pc, p.2)])) := (HPS.out.below (below_one wr _)).push (p := ((j : Int), .slice pA p.2.length pc, p.2)) (own_of_block HOW.out (fun k hk => (below_one wr _).block k (HOW.out.lt k hk).2)) hown4 hg4
        have HB4 : Hid (Below w.heap.size w w4) := (HBW.out.trans ((below_one wr _).mono hbb)).grown hg4 (by simp; omega) (fun k hk => (hrow3.lt k hk).1)
        clear hown4 hg4 hrow3 HPS HBW HOW k1 c0
        go_wp2_with fail
        go_roundw
        case rel =>
          refine ⟨j + 1, by omega, by go_num, _, HP4.out, ?_, HB4.out⟩
          rw [HST.out, List.map_append, HPQ.out]
          rfl
        case measure => simp [RowKit.intOf]; omega
    · obtain rfl : j = s.size := by omega
      clear hr hps hpq hbw
      go_wp2_with fail
      go_ret
      exact rlist_end ⟨ps, HPS.out, HPQ.out, HBW.out⟩

set_option maxRecDepth 20000 in
set_option maxHeartbeats 1600000 in
theorem refWaits_any (w : World) (h : Rk w G rb s) : Calls Tryz.prog 41 #[.pointer (some ⟨rb, 0, none⟩)] w (RList w s.waitsOf) := by
  obtain ⟨i0, hi, hz0, hz1, hz2⟩ := info_parts heldInfo
  obtain ⟨lb, wb, ib, left, rL, rW, rI, h⟩ := h
  have hs4 := h.s4
  have HD := Lib.hid h
  clear h
  go_enter Tryz.func41, Tryz.ntmps41
  go_wp2_with fail
  go_loopw [3, 4] (fun v i wr => ∃ j : Nat, j ≤ s.size ∧ i = .int .i64 j ∧ RListRel w (waitsTo s j) v wr) (fun _ i _ => s.size - (RowKit.intOf i).toNat)
  case atStart => exact ⟨0, Nat.zero_le _, rfl, [], href_nil _ _, rfl, Below.refl _ _⟩
  case round =>
    obtain ⟨j, hj, rfl, ps, hps, hpq, hbw⟩ := hrel
    have hr := HD.out.same (w' := wr) (fun k hk => hbw.block k (HD.out.lt k hk)) hbw.size
    have c0 := hr.cell 0 (v := .slice (some ⟨lb, 0, none⟩) s.size s.size) rfl
    have c1 := hr.cell 1 (v := .slice (some ⟨wb, 0, none⟩) s.size s.size) rfl
    have c2 := hr.cell 2 (v := .slice (some ⟨ib, 0, none⟩) s.size s.size) rfl
    have hbb := hbw.size
    have HPS := Lib.hid hps
    have HPQ := Lib.hid hpq
    have HBW := Lib.hid hbw
    have hpl : ps.length ≤ j := by
      have := waitsTo_len s j
      rw [← hpq, List.length_map] at this
      exact this
    by_cases hlt : j < s.size
    · obtain ⟨-, p, bb, -, e2, e3, -, k2, k3, -, -, -⟩ := hr.at_ hlt
      obtain ⟨pA, pc, hpv, -, -⟩ := own_slice (hr.oW j p e2).1
      rw [hpv] at k2
      have hsw := hr.sW j p bb e2 e3
      have HOW := Lib.hid (show Own wr 0 (.slice pA p.2.length pc) p.2 from by have := (hr.oW j p e2).1; rw [hpv] at this; exact this)
      cases bb with
      | false =>
        have HST : Hid (waitsTo s (j + 1) = waitsTo s j) := by
          rw [waitsTo_step, hsw]
          exact Lib.hid rfl
        clear hr hps hpq hbw e2 e3 hpv hsw HOW
        go_wp2_with fail
        go_roundw
        case rel => exact ⟨j + 1, by omega, by go_num, ps, HPS.out, by rw [HST.out]; exact HPQ.out, HBW.out⟩
        case measure => simp [RowKit.intOf]; omega
      | true =>
        have HST : Hid (waitsTo s (j + 1) = waitsTo s j ++ [((j : Int), p.2)]) := by
          rw [waitsTo_step, hsw]
          exact Lib.hid rfl
        have hrow3 := (HPS.out.below (below_one wr (.cells #[.int .i64 (j : Int), .slice pA p.2.length pc] 91))).row
        clear hr hps hpq hbw e2 e3 hpv hsw
        go_wp2_with (at_builtin; refine wpList_append_own _ rfl (.tmp 21) (.tmp 31) 74 rfl w.heap.size 91 i0 _ 2 32 Tryz.underlying74 hi hz0 hz1 hz2 rfl (by decide) _ _ _ rfl hrow3 ⟨wr.heap.size, 0, none⟩ 1 1 [.int .i64 (j : Int), .slice pA p.2.length pc] rfl rfl (cell_two_new _ _ _ _) (two_cells j pA p.2.length pc) (by unfold maxLen; omega) (by omega) (by simp; omega) ?_; intro v4 w4 hown4 hg4 _)
        have HP4 : Hid (HRef w4 w.heap.size v4 (ps ++ [((j : Int), .slice pA p.2.length pc, p.2)])) := (HPS.out.below (below_one wr _)).push (p := ((j : Int), .slice pA p.2.length pc, p.2)) (own_of_block HOW.out (fun k hk => (below_one wr _).block k (HOW.out.lt k hk).2)) hown4 hg4
        have HB4 : Hid (Below w.heap.size w w4) := (HBW.out.trans ((below_one wr _).mono hbb)).grown hg4 (by simp; omega) (fun k hk => (hrow3.lt k hk).1)
        clear hown4 hg4 hrow3 HPS HBW HOW k2 k3 c0 c1 c2
        go_wp2_with fail
        go_roundw
        case rel =>
          refine ⟨j + 1, by omega, by go_num, _, HP4.out, ?_, HB4.out⟩
          rw [HST.out, List.map_append, HPQ.out]
          rfl
        case measure => simp [RowKit.intOf]; omega
    · obtain rfl : j = s.size := by omega
      clear hr hps hpq hbw
      go_wp2_with fail
      go_ret
      exact rlist_end ⟨ps, HPS.out, HPQ.out, HBW.out⟩
end
end Go.Proofs.YtnmiccagkfpkiaaGreat

/-
  What the document's own Turn comes to.
-/
namespace Go.Proofs.YtnmiccagkfpkiaaGreat
open Go.RowKit Go.Maps

section
variable {G : Nat → Prop} {rb lb wb ib : Nat} {left : Int} {rL rW : Rw} {rI : List Bool} {s : PS}

theorem RefAt.turnW {w w5 : World} {i : Nat} {v : Value} {l : List UInt8} (h : RefAt w G rb lb wb ib left rL rW rI s) (hi : i < s.size) (hb : rI[i]? = some true) (hl : l.length ≤ 1024) (hbe : Below w.heap.size w w5) (ho : Own w5 w.heap.size v l) :
    RefAt (w5.setCell ⟨wb, i, none⟩ v) (fun k => G k ∨ (w.heap.size ≤ k ∧ k < w5.heap.size)) rb lb wb ib left rL (rW.set i (v, l)) rI (s.lay i l) := by
  have h5 := h.bigger hbe
  refine h5.putW (i := i) (p := (v, l)) (W' := fun j => if j = (i : Int) then some l else s.W j) ⟨own_base ho, hl, fun k hk => Or.inr (ho.lt k hk)⟩ ?_
  intro j b hj
  by_cases e : j = i
  · subst e
    rw [hb] at hj
    obtain rfl : true = b := by simpa using hj
    simp
  · rw [if_neg e, if_neg (by omega)]
    have hjs : j < s.size := by have := (List.getElem?_eq_some_iff.1 hj).1; rw [h.nI] at this; exact this
    have hq := List.getElem?_eq_getElem (l := rW) (i := j) (by rw [h.nW]; exact hjs)
    have := h.sW j _ b hq hj
    cases b with
    | false => rw [this]; rfl
    | true => rfl

theorem RefAt.turnL {w w5 : World} {i : Nat} {v : Value} {l : List UInt8} (h : RefAt w G rb lb wb ib left rL rW rI s) (hl : l.length ≤ 1024) (hbe : Below w.heap.size w w5) (ho : Own w5 w.heap.size v l) :
    RefAt (w5.setCell ⟨lb, i, none⟩ v) (fun k => G k ∨ (w.heap.size ≤ k ∧ k < w5.heap.size)) rb lb wb ib left (rL.set i (v, l)) rW rI { s with L := fun j => if j = (i : Int) then l else s.L j } := by
  have h5 := h.bigger hbe
  refine h5.putL (i := i) (p := (v, l)) ⟨own_base ho, hl, fun k hk => Or.inr (ho.lt k hk)⟩ ?_
  intro j _
  by_cases e : j = i
  · subst e
    rw [if_pos rfl, if_pos rfl]
  · rw [if_neg e, if_neg (by omega)]

set_option maxRecDepth 20000 in
set_option maxHeartbeats 3200000 in
theorem refTurn_any (w : World) (n : Int) (at_ : Int) (h3 : -9223372036854775808 ≤ at_) (h4 : at_ ≤ 9223372036854775807) (by_ : UInt8) (h : Rk w G rb s) :
    Calls Tryz.prog 36 #[.pointer (some ⟨rb, 0, none⟩), .int .i64 n, .int .i64 at_, .int .u8 by_.toNat] w (RGoes w G rb (s.turned n at_ by_) (.int .i64 (s.turnE n at_))) := by
  have H0 := Lib.hid h
  obtain ⟨i0, hi, hz0, hz1, hz2⟩ := info_parts byteInfo
  obtain ⟨lb, wb, ib, left, rL, rW, rI, h⟩ := h
  have c0 := h.cell 0 (v := .slice (some ⟨lb, 0, none⟩) s.size s.size) rfl
  have c1 := h.cell 1 (v := .slice (some ⟨wb, 0, none⟩) s.size s.size) rfl
  have c2 := h.cell 2 (v := .slice (some ⟨ib, 0, none⟩) s.size s.size) rfl
  have HC0 := Lib.hid (refIs_any (s := s) w n _ c0)
  by_cases hh : s.has n = true
  · rw [hh] at HC0
    obtain ⟨hn0, hn1⟩ := PS.has_iff.1 hh
    obtain ⟨i, rfl⟩ : ∃ i : Nat, n = (i : Int) := ⟨n.toNat, by omega⟩
    have his : i < s.size := by omega
    have hs4 := h.s4
    obtain ⟨p, q, bb, e1, e2, e3, k1, k2, k3, f1, f2, f3⟩ := h.at_ his
    have hheld := h.held_at e1 e2 e3
    obtain ⟨pA, pc, hpv, hpc, hpz⟩ := own_slice (h.oL i p e1).1
    obtain ⟨qA, qc, hqv, hqc, hqz⟩ := own_slice (h.oW i q e2).1
    rw [hpv] at k1
    rw [hqv] at k2
    have hp4 := (h.oL i p e1).2.1
    have hq4 := (h.oW i q e2).2.1
    have HBP := Lib.hid (show Bys w w.heap.size pA p.2 from by have := (h.oL i p e1).1; rw [hpv] at this; exact own_bys this)
    have HBQ := Lib.hid (show Bys w w.heap.size qA q.2 from by have := (h.oW i q e2).1; rw [hqv] at this; exact own_bys this)
    -- what it holds, whichever
    obtain ⟨hA, hc, hlb, hhz, hsel⟩ : ∃ (hA : Option Addr) (hc : Nat), Bys w w.heap.size hA (s.held i) ∧ (hA = none → (s.held i).length = 0 ∧ hc = 0) ∧ ((bb = true ∧ qA = hA ∧ qc = hc ∧ q.2 = s.held i) ∨ (bb = false ∧ pA = hA ∧ pc = hc ∧ p.2 = s.held i)) := by
      rw [hheld]
      cases bb with
      | true => exact ⟨qA, qc, HBQ.out, hqz, Or.inl ⟨rfl, rfl, rfl, rfl⟩⟩
      | false => exact ⟨pA, pc, HBP.out, hpz, Or.inr ⟨rfl, rfl, rfl, rfl⟩⟩
    have HLB := Lib.hid hlb
    have HHZ := Lib.hid hhz
    have hle : (s.held i).length ≤ 1024 := by
      rw [hheld]
      cases bb
      · exact hp4
      · exact hq4
    have HR := Lib.hid h
    have HE3 := Lib.hid e3
    have HE2 := Lib.hid e2
    have hn := h.nes
    obtain ⟨n1, n2, n3, n4, n5⟩ := hn
    have n6 := h.ne
    clear h e1 e2 e3 hpv hqv hpc hqc hpz hqz hheld HBP HBQ hlb hhz
    by_cases hg : s.held i = [] ∨ at_ < 0
    · have eB : s.turned (i : Int) at_ by_ = s := by unfold PS.turned; rw [if_pos hh, if_pos hg]
      have eE : s.turnE (i : Int) at_ = 1 := by unfold PS.turnE; rw [if_pos hh, if_pos hg]
      rw [eB, eE]
      by_cases hl : s.held i = []
      · rw [hl] at hsel
        rcases hsel with ⟨rfl, rfl, rfl, hq⟩ | ⟨rfl, rfl, rfl, hq⟩
        · rw [hq] at k2
          clear eB eE hg hl hle hq hh hp4 hq4
          go_enter Tryz.func36, Tryz.ntmps36
          go_wp2_with fail
          refine HC0.out.mono ?_
          rintro e w' ⟨rfl, rfl⟩
          go_wp2_with fail
          go_ret
          exact ⟨rfl, G, H0.out, fun k hk => Or.inl hk, Kept.refl _ _⟩
        · rw [hq] at k1
          clear eB eE hg hl hle hq hh hp4 hq4
          go_enter Tryz.func36, Tryz.ntmps36
          go_wp2_with fail
          refine HC0.out.mono ?_
          rintro e w' ⟨rfl, rfl⟩
          go_wp2_with fail
          go_ret
          exact ⟨rfl, G, H0.out, fun k hk => Or.inl hk, Kept.refl _ _⟩
      · have h0 : at_ < 0 := hg.resolve_left hl
        have hl0 : (((s.held i).length : Int) == 0) = false := by
          rw [beq_eq_false_iff_ne]
          intro e
          exact hl (List.eq_nil_of_length_eq_zero (by omega))
        rcases hsel with ⟨rfl, rfl, rfl, hq⟩ | ⟨rfl, rfl, rfl, hq⟩
        · rw [hq] at k2
          clear eB eE hg hl hle hq hh hp4 hq4
          go_enter Tryz.func36, Tryz.ntmps36
          go_wp2_with fail
          refine HC0.out.mono ?_
          rintro e w' ⟨rfl, rfl⟩
          go_wp2_with fail
          go_ret
          exact ⟨rfl, G, H0.out, fun k hk => Or.inl hk, Kept.refl _ _⟩
        · rw [hq] at k1
          clear eB eE hg hl hle hq hh hp4 hq4
          go_enter Tryz.func36, Tryz.ntmps36
          go_wp2_with fail
          refine HC0.out.mono ?_
          rintro e w' ⟨rfl, rfl⟩
          go_wp2_with fail
          go_ret
          exact ⟨rfl, G, H0.out, fun k hk => Or.inl hk, Kept.refl _ _⟩
    · have hl : ¬ s.held i = [] := fun e => hg (Or.inl e)
      have h0 : 0 ≤ at_ := by
        by_cases e : at_ < 0
        · exact absurd (Or.inr e) hg
        · omega
      have eE : s.turnE (i : Int) at_ = 0 := by unfold PS.turnE; rw [if_pos hh, if_neg hg]
      rw [eE]
      have hl0 : (((s.held i).length : Int) == 0) = false := by
        rw [beq_eq_false_iff_ne]
        intro e
        exact hl (List.eq_nil_of_length_eq_zero (by omega))
      have hl1 : 1 ≤ (s.held i).length := by
        rcases Nat.eq_zero_or_pos (s.held i).length with e | e
        · exact absurd (List.eq_nil_of_length_eq_zero e) hl
        · exact e
      obtain ⟨k, hk, hki⟩ := spot_of at_ (s.held i).length (by omega)
      have hkt : at_.tmod ((s.held i).length : Int) = (k : Int) := by rw [Int.tmod_eq_emod_of_nonneg h0]; exact hki
      have HTW : Hid (PS.twist (s.held i) at_ by_ = (s.held i).modify k (· ^^^ by_)) := by
        unfold PS.twist
        rw [hki]
        exact Lib.hid rfl
      have HKI := Lib.hid hki
      have HKT := Lib.hid hkt
      have hown0 := own_made w
      have HLZ : Hid (Lies (w.alloc (.cells #[] 5)) hA (s.held i).length hc (bv (s.held i))) := Lies.bys (HLB.out.alloc _) HHZ.out
      have HHG := Lib.hid hg
      have HHH := Lib.hid hh
      rcases hsel with ⟨rfl, rfl, rfl, hq⟩ | ⟨rfl, rfl, rfl, hq⟩
      · rw [hq] at k2
        have HQH := Lib.hid hq
        clear eE hg hl hq hh hp4 hq4 hki hkt
        go_enter Tryz.func36, Tryz.ntmps36
        go_wp2_with fail
        refine HC0.out.mono ?_
        rintro e w' ⟨rfl, rfl⟩
        go_wp2_with (at_builtin; refine wpList_append_lay _ rfl (.tmp 45) (.tmp 46) 34 rfl w.heap.size 5 i0 _ 1 1 Tryz.underlying34 hi hz0 hz1 hz2 rfl (by decide) _ _ _ rfl hown0 qA (s.held i).length qc (bv (s.held i)) rfl (by rw [bv_length]; omega) HLZ.out (bv_one _) (by unfold maxLen; omega) (by omega) (by simp) ?_; intro v8 w8 hown8 hg8; obtain ⟨g, cap, z, rfl, hz, hcell, hfr, hbg, hst⟩ := own_store (k := k) (bytes_one rfl hown8) hk)
        have B8 : Below w.heap.size w w8 := ((Below.refl _ _).alloc (Nat.le_refl _) _).grown hg8 (by simp) (fun g hg => (hown0.lt g hg).1)
        have hx := xor_u8 z by_
        have ho9 := hst (z ^^^ by_)
        have hms : (s.held i).modify k (· ^^^ by_) = (s.held i).set k (z ^^^ by_) := modify_set (· ^^^ by_) hz
        generalize z ^^^ by_ = d at *
        rw [← hms, ← HTW.out] at ho9
        clear hms
        have B9 : Below w.heap.size w (w8.setCell ⟨g, k, none⟩ (.int .u8 d.toNat)).drew := (B8.setCell (p := ⟨g, k, none⟩) hbg _).drew
        have hcap : (s.held i).length ≤ cap := by
          obtain ⟨_, _, e, hc, _⟩ := own_slice (bytes_one rfl hown8)
          injection e with _ _ e
          rw [e]
          exact hc
        have HO9 : Hid (Own (w8.setCell ⟨g, k, none⟩ (.int .u8 d.toNat)).drew w.heap.size (.slice (some ⟨g, 0, none⟩) (s.held i).length cap) (PS.twist (s.held i) at_ by_)) := ho9
        have hki := HKI.out
        have hkt := HKT.out
        clear ho9 hst hz hown8 hg8 B8 hown0
        go_region
        (try rw [hx])
        clear hcell hfr hx hki hkt
        generalize (w8.setCell ⟨g, k, none⟩ (.int .u8 d.toNat)).drew = w9 at *
        have j2 := (B9.cell (p := ⟨rb, 2, none⟩) (World.block_lt_of_cell? _ _ c2)).trans c2
        have j3 := (B9.cell (p := ⟨ib, i, none⟩) (World.block_lt_of_cell? _ _ k3)).trans k3
        have j1 := (B9.cell (p := ⟨rb, 1, none⟩) (World.block_lt_of_cell? _ _ c1)).trans c1
        have jr := (B9.cell (p := ⟨wb, i, none⟩) (World.block_lt_of_cell? _ _ k2)).trans k2
        have jf := (B9.frozen (p := ⟨wb, i, none⟩) (World.block_lt_of_cell? _ _ k2)).trans f2
        have HB9 := Lib.hid B9
        clear B9 c0 c1 c2 k1 k2 k3 f1 f2 f3 HLB HHZ HLZ
        go_wp2_with fail
        go_ret
        have htl : (PS.twist (s.held i) at_ by_).length ≤ 1024 := by
          unfold PS.twist
          rw [List.length_modify]
          exact hle
        have hsw : s.W (i : Int) = some (s.held i) := by
          have h1 := HR.out.sW i q true HE2.out HE3.out
          rw [h1, HQH.out]
          rfl
        have hfin := HR.out.turnW his HE3.out htl HB9.out HO9.out
        have eT : s.turned (i : Int) at_ by_ = s.lay i (PS.twist (s.held i) at_ by_) := by
          unfold PS.turned
          rw [if_pos HHH.out, if_neg HHG.out, hsw]
        rw [eT]
        refine ⟨rfl, _, hfin.rk, fun k hk => ?_, (Kept.below HB9.out G).next (Kept.setCell _ HR.out.gw _)⟩
        rcases hk with hk | hk
        · exact Or.inl hk
        · exact Or.inr hk.1
      · rw [hq] at k1
        clear eE hg hl hq hh hp4 hq4 hki hkt
        go_enter Tryz.func36, Tryz.ntmps36
        go_wp2_with fail
        refine HC0.out.mono ?_
        rintro e w' ⟨rfl, rfl⟩
        go_wp2_with (at_builtin; refine wpList_append_lay _ rfl (.tmp 45) (.tmp 46) 34 rfl w.heap.size 5 i0 _ 1 1 Tryz.underlying34 hi hz0 hz1 hz2 rfl (by decide) _ _ _ rfl hown0 pA (s.held i).length pc (bv (s.held i)) rfl (by rw [bv_length]; omega) HLZ.out (bv_one _) (by unfold maxLen; omega) (by omega) (by simp) ?_; intro v8 w8 hown8 hg8; obtain ⟨g, cap, z, rfl, hz, hcell, hfr, hbg, hst⟩ := own_store (k := k) (bytes_one rfl hown8) hk)
        have B8 : Below w.heap.size w w8 := ((Below.refl _ _).alloc (Nat.le_refl _) _).grown hg8 (by simp) (fun g hg => (hown0.lt g hg).1)
        have hx := xor_u8 z by_
        have ho9 := hst (z ^^^ by_)
        have hms : (s.held i).modify k (· ^^^ by_) = (s.held i).set k (z ^^^ by_) := modify_set (· ^^^ by_) hz
        generalize z ^^^ by_ = d at *
        rw [← hms, ← HTW.out] at ho9
        clear hms
        have B9 : Below w.heap.size w (w8.setCell ⟨g, k, none⟩ (.int .u8 d.toNat)).drew := (B8.setCell (p := ⟨g, k, none⟩) hbg _).drew
        have hcap : (s.held i).length ≤ cap := by
          obtain ⟨_, _, e, hc, _⟩ := own_slice (bytes_one rfl hown8)
          injection e with _ _ e
          rw [e]
          exact hc
        have HO9 : Hid (Own (w8.setCell ⟨g, k, none⟩ (.int .u8 d.toNat)).drew w.heap.size (.slice (some ⟨g, 0, none⟩) (s.held i).length cap) (PS.twist (s.held i) at_ by_)) := ho9
        have hki := HKI.out
        have hkt := HKT.out
        clear ho9 hst hz hown8 hg8 B8 hown0
        go_region
        (try rw [hx])
        clear hcell hfr hx hki hkt
        generalize (w8.setCell ⟨g, k, none⟩ (.int .u8 d.toNat)).drew = w9 at *
        have j2 := (B9.cell (p := ⟨rb, 2, none⟩) (World.block_lt_of_cell? _ _ c2)).trans c2
        have j3 := (B9.cell (p := ⟨ib, i, none⟩) (World.block_lt_of_cell? _ _ k3)).trans k3
        have j1 := (B9.cell (p := ⟨rb, 0, none⟩) (World.block_lt_of_cell? _ _ c0)).trans c0
        have jr := (B9.cell (p := ⟨lb, i, none⟩) (World.block_lt_of_cell? _ _ k1)).trans k1
        have jf := (B9.frozen (p := ⟨lb, i, none⟩) (World.block_lt_of_cell? _ _ k1)).trans f1
        have HB9 := Lib.hid B9
        clear B9 c0 c1 c2 k1 k2 k3 f1 f2 f3 HLB HHZ HLZ
        go_wp2_with fail
        go_ret
        have htl : (PS.twist (s.held i) at_ by_).length ≤ 1024 := by
          unfold PS.twist
          rw [List.length_modify]
          exact hle
        have hsw : s.W (i : Int) = none := by
          have h1 := HR.out.sW i q false HE2.out HE3.out
          rw [h1]
          rfl
        have hfin := HR.out.turnL (i := i) htl HB9.out HO9.out
        have eT : s.turned (i : Int) at_ by_ = { s with L := fun j => if j = (i : Int) then PS.twist (s.held i) at_ by_ else s.L j } := by
          have h2 : s.L (i : Int) = s.held i := by unfold PS.held; rw [hsw]; rfl
          unfold PS.turned
          rw [if_pos HHH.out, if_neg HHG.out, hsw]
          simp only [h2]
        rw [eT]
        refine ⟨rfl, _, hfin.rk, fun k hk => ?_, (Kept.below HB9.out G).next (Kept.setCell _ HR.out.gl _)⟩
        rcases hk with hk | hk
        · exact Or.inl hk
        · exact Or.inr hk.1
  · have hh' : s.has n = false := by simpa using hh
    rw [hh'] at HC0
    have eB : s.turned n at_ by_ = s := by unfold PS.turned; rw [if_neg hh]
    have eE : s.turnE n at_ = 41 := by unfold PS.turnE; rw [if_neg hh]
    rw [eB, eE]
    clear h eB eE hh hh'
    go_enter Tryz.func36, Tryz.ntmps36
    go_wp2_with fail
    refine HC0.out.mono ?_
    rintro e w' ⟨rfl, rfl⟩
    go_wp2_with fail
    go_ret
    exact ⟨rfl, G, H0.out, fun k hk => Or.inl hk, Kept.refl _ _⟩
end
end Go.Proofs.YtnmiccagkfpkiaaGreat

/-
  What the disk's laws' own Small comes to.
-/
namespace Go.Proofs.YtnmiccagkfpkiaaGreat
open Go.RowKit Go.Maps

def Cl.agg (c : Cl) : Value := .agg #[.int .i64 c.kind, .int .i64 c.n, .slice c.bA c.bn c.bc, .slice c.kA c.kn c.kc, .int .i64 c.at_, .int .u8 c.by_.toNat]
def Cl.small (c : Cl) : Bool := decide (c.bn ≤ 1100 ∧ c.kn ≤ 60)

set_option maxRecDepth 20000 in
theorem small_any (c : Cl) (w : World) : Calls Tryz.prog 7 #[.agg #[.int .i64 c.kind, .int .i64 c.n, .slice c.bA c.bn c.bc, .slice c.kA c.kn c.kc, .int .i64 c.at_, .int .u8 c.by_.toNat]] w
    fun e w' => e = .returned (.bool c.small) ∧ Below w.heap.size w w' := by
  by_cases h1 : c.bn ≤ 1100
  · go_enter Tryz.func7, Tryz.ntmps7
    go_wp2_with fail
    go_ret
    refine ⟨ret_bool ?_, below_one _ _⟩
    unfold Cl.small
    simp [h1]
    try omega
  · have h2 : 1100 < c.bn := by omega
    go_enter Tryz.func7, Tryz.ntmps7
    go_wp2_with fail
    go_ret
    refine ⟨ret_bool ?_, below_one _ _⟩
    unfold Cl.small
    simp [h1]
end Go.Proofs.YtnmiccagkfpkiaaGreat

/-
  What the document's own Same comes to, at two lists of sectors that are alike.
-/
namespace Go.Proofs.YtnmiccagkfpkiaaGreat
open Go.RowKit Go.Maps

theorem hout_below {w w' : World} {F : Nat → Prop} {A : Option Addr} {qs : List (Int × List UInt8)} (h : HOut w F A qs) (hb : Below w.heap.size w w') : HOut w' F A qs := (Moves.of_below hb).hout h

set_option maxRecDepth 20000 in
set_option maxHeartbeats 1600000 in
theorem sameHeld_any (w : World) (F F' : Nat → Prop) (A B : Option Addr) (c d : Nat) (qs : List (Int × List UInt8)) (hn : qs.length ≤ 4096) (ha : HOut w F A qs) (hb : HOut w F' B qs) :
    Calls Tryz.prog 37 #[.slice A qs.length c, .slice B qs.length d] w fun e w' => e = .returned (.bool true) ∧ Below w.heap.size w w' := by
  have HA := Lib.hid ha
  have HB := Lib.hid hb
  clear ha hb
  go_enter Tryz.func37, Tryz.ntmps37
  go_wp2_with fail
  go_loopw [5] (fun i wr => ∃ j : Nat, j ≤ qs.length ∧ i = .int .i64 j ∧ Below w.heap.size w wr) (fun i _ => qs.length - (RowKit.intOf i).toNat)
  case atStart => exact ⟨0, Nat.zero_le _, rfl, Below.refl _ _⟩
  case round =>
    obtain ⟨j, hj, rfl, hbw⟩ := hrel
    have HBW := Lib.hid hbw
    by_cases hlt : j < qs.length
    · obtain ⟨b1, o1, q1, A1, c1, rfl, -, hq1, x0, x1, u1⟩ := (hout_below HA.out hbw).at_ hlt
      obtain ⟨b2, o2, q2, A2, c2, rfl, -, hq2, y0, y1, u2⟩ := (hout_below HB.out hbw).at_ hlt
      obtain rfl : q1 = q2 := Option.some.inj (hq1.symm.trans hq2)
      have t1 := fun n => run_text (P := Tryz.prog) (w := wr.drewN n) (R := wr.heap.size) (show Bys (wr.drewN n) wr.heap.size A1 q1.2 from u1.bys) 34 9 5 q1.2.length c1 rfl Tryz.underlying34 Tryz.underlying5 Tryz.underlying9
      have t2 := fun n => run_text (P := Tryz.prog) (w := wr.drewN n) (R := wr.heap.size) (show Bys (wr.drewN n) wr.heap.size A2 q1.2 from u2.bys) 34 9 5 q1.2.length c2 rfl Tryz.underlying34 Tryz.underlying5 Tryz.underlying9
      clear hbw hq1 hq2 u1 u2
      go_wp2_with fail
      go_quiet (fail)
      clear t1 t2 x0 x1 y0 y1
      go_wp2_with fail
      go_roundw
      case rel => exact ⟨j + 1, by omega, by go_num, belowN HBW.out _⟩
      case measure => simp [RowKit.intOf]; omega
    · clear hbw
      go_wp2_with fail
      go_ret
      exact ⟨rfl, HBW.out⟩
end Go.Proofs.YtnmiccagkfpkiaaGreat

/-
  Two disks side by side: the program's and the document's. What the laws' own Same, Shows and Did come to.
-/
namespace Go.Proofs.YtnmiccagkfpkiaaGreat
open Go.RowKit Go.Maps

/-- Both disks, apart. -/
structure Pair (W : World) (F G : Nat → Prop) (w : World) (db rb : Nat) (s : PS) : Prop where
  live : Live W F w db s
  ref : Rk w G rb s
  off : ∀ k, F k → ¬ G k
  base : ∀ k, G k → W.heap.size ≤ k

def PairE (W : World) (w : World) (db rb : Nat) (s : PS) : Prop := ∃ F G, Pair W F G w db rb s

section
variable {W w w' : World} {F G : Nat → Prop} {db rb : Nat} {s s' : PS}

theorem Pair.next (h : Pair W F G w db rb s) (hb : Below w.heap.size w w') : Pair W F G w' db rb s := ⟨h.live.next hb, h.ref.below hb, h.off, h.base⟩
theorem PairE.next (h : PairE W w db rb s) (hb : Below w.heap.size w w') : PairE W w' db rb s := by
  obtain ⟨F, G, h⟩ := h
  exact ⟨F, G, h.next hb⟩
theorem PairE.below (h : PairE W w db rb s) : Below W.heap.size W w := by
  obtain ⟨F, G, h⟩ := h
  exact h.live.below

/-- The program's disk has gone on; the document's has not yet. -/
structure Half (W : World) (F G : Nat → Prop) (w : World) (db rb : Nat) (s' s : PS) : Prop where
  live : Live W F w db s'
  ref : Rk w G rb s
  off : ∀ k, F k → ¬ G k
  base : ∀ k, G k → W.heap.size ≤ k

theorem Pair.half {v : Value} {e : Ending} (h : Pair W F G w db rb s) (g : LGoes W F w db s' v e w') : e = .returned v ∧ ∃ F', Half W F' G w' db rb s' s := by
  obtain ⟨he, F', hv, hm⟩ := g
  refine ⟨he, F', hv, h.ref.kept hm.kept (fun k hG hF => h.off k hF hG), fun k hF hG => ?_, h.base⟩
  rcases hm.news k hF with h1 | h1
  · exact h.off k h1 hG
  · have := h.ref.lt k hG
    omega

theorem Half.whole {v : Value} {e : Ending} (h : Half W F G w db rb s' s) (g : RGoes w G rb s' v e w') : e = .returned v ∧ PairE W w' db rb s' := by
  obtain ⟨he, G', hr, hn, hk⟩ := g
  have hl : Live W F w' db s' := ⟨h.live.dk.kept hk h.off, h.live.base, h.live.below.trans (hk.toBelow h.base h.live.le)⟩
  refine ⟨he, F, G', hl, hr, fun k hF hG => ?_, fun k hG => ?_⟩
  · rcases hn k hG with h1 | h1
    · exact h.off k hF h1
    · have := h.live.dk.lt k hF
      omega
  · rcases hn k hG with h1 | h1
    · exact h.base k h1
    · exact Nat.le_trans h.live.le h1

theorem Half.next (h : Half W F G w db rb s' s) (hb : Below w.heap.size w w') : Half W F G w' db rb s' s := ⟨h.live.next hb, h.ref.below hb, h.off, h.base⟩
end

set_option maxRecDepth 20000 in
theorem down_back {F : Nat → Prop} {db : Nat} {s : PS} (w : World) (h : Dk w F db s) : Calls Tryz.prog 42 #[.pointer (some ⟨db, 0, none⟩)] w fun e w' => e = .returned (.bool s.down) ∧ w' = w := (down_any w h).mono fun _ _ ⟨h1, h2⟩ => ⟨h1, h2.symm⟩
set_option maxRecDepth 20000 in
theorem size_back {F : Nat → Prop} {db : Nat} {s : PS} (w : World) (h : Dk w F db s) : Calls Tryz.prog 43 #[.pointer (some ⟨db, 0, none⟩)] w fun e w' => e = .returned (.int .i64 s.size) ∧ w' = w := (size_any w h).mono fun _ _ ⟨h1, h2⟩ => ⟨h1, h2.symm⟩

theorem lastsOf_len (s : PS) : s.lastsOf.length ≤ s.size := lastsTo_len s s.size
theorem waitsOf_len (s : PS) : s.waitsOf.length ≤ s.size := waitsTo_len s s.size

set_option maxRecDepth 20000 in
set_option maxHeartbeats 1600000 in
theorem shows_any {W : World} {db rb : Nat} {s : PS} (w : World) (h : PairE W w db rb s) :
    Calls Tryz.prog 15 #[.pointer (some ⟨db, 0, none⟩), .pointer (some ⟨rb, 0, none⟩)] w fun e w' => e = .returned (.bool true) ∧ PairE W w' db rb s := by
  obtain ⟨F, G, h⟩ := h
  have hs4 := h.live.dk.s4
  have hl1 := lastsOf_len s
  have hl2 := waitsOf_len s
  have H0 := Lib.hid h
  clear h
  go_enter Tryz.func15, Tryz.ntmps15
  go_wp2_with fail
  refine (lasts_both (W := W) w H0.out.live).mono ?_
  rintro e w1 ⟨⟨A1, c1, rfl, -, ho1, hv1, hm1⟩, hb1⟩
  have HO1 := Lib.hid (ho1 (fun _ => False) (fun k hk => hk.elim))
  have H1 := Lib.hid (H0.out.next hb1)
  clear ho1 hv1 hm1 hb1 H0
  go_wp2_with fail
  refine (refLasts_any w1 H1.out.ref).mono ?_
  rintro e w2 ⟨A2, c2, rfl, ho2, hb2⟩
  have HO2 := Lib.hid ho2
  have HO1' := Lib.hid (hout_below HO1.out hb2)
  have H2 := Lib.hid (H1.out.next hb2)
  clear ho2 hb2 HO1 H1
  go_wp2_with fail
  refine (sameHeld_any w2 _ _ A1 A2 c1 c2 s.lastsOf (by omega) HO1'.out HO2.out).mono ?_
  rintro e w3 ⟨rfl, hb3⟩
  have H3 := Lib.hid (H2.out.next hb3)
  clear hb3 HO1' HO2 H2
  go_wp2_with fail
  refine (waits_both (W := W) w3 H3.out.live).mono ?_
  rintro e w4 ⟨⟨A4, c4, rfl, -, ho4, hv4, hm4⟩, hb4⟩
  have HO4 := Lib.hid (ho4 (fun _ => False) (fun k hk => hk.elim))
  have H4 := Lib.hid (H3.out.next hb4)
  clear ho4 hv4 hm4 hb4 H3
  go_wp2_with fail
  refine (refWaits_any w4 H4.out.ref).mono ?_
  rintro e w5 ⟨A5, c5, rfl, ho5, hb5⟩
  have HO5 := Lib.hid ho5
  have HO4' := Lib.hid (hout_below HO4.out hb5)
  have H5 := Lib.hid (H4.out.next hb5)
  clear ho5 hb5 HO4 H4
  go_wp2_with fail
  refine (sameHeld_any w5 _ _ A4 A5 c4 c5 s.waitsOf (by omega) HO4'.out HO5.out).mono ?_
  rintro e w6 ⟨rfl, hb6⟩
  have H6 := Lib.hid (H5.out.next hb6)
  clear hb6 HO4' HO5 H5
  obtain ⟨lb, wb, ib, left, rL, rW, rI, hr⟩ := H6.out.ref
  have d0 := hr.cell 0 (v := .slice (some ⟨lb, 0, none⟩) s.size s.size) rfl
  have d3 := hr.cell 3 (v := .bool s.down) rfl
  have HDK : Hid (∀ n, Dk (w6.drewN n) F db s) := fun n => H6.out.live.dk.below ⟨rfl, rfl, rfl, Nat.le_refl _, fun _ _ => rfl⟩
  clear hr
  go_wp2_with fail
  go_quiet (first
    | (go_at_call 42; exact Calls.quiet_of_same (down_back _ (HDK.out _)))
    | (go_at_call 43; exact Calls.quiet_of_same (size_back _ (HDK.out _))))
  clear d0 d3
  go_wp2_with fail
  go_ret
  exact ⟨rfl, F, G, H6.out.next ⟨rfl, rfl, rfl, Nat.le_refl _, fun _ _ => rfl⟩⟩

/-- What lies in the box of a call. -/
structure BoxAt (w : World) (b : Nat) (c : Cl) : Prop where
  c0 : w.cell? ⟨b, 0, none⟩ = some (.int .i64 c.kind)
  c1 : w.cell? ⟨b, 1, none⟩ = some (.int .i64 c.n)
  c2 : w.cell? ⟨b, 2, none⟩ = some (.slice c.bA c.bn c.bc)
  c3 : w.cell? ⟨b, 3, none⟩ = some (.slice c.kA c.kn c.kc)
  c4 : w.cell? ⟨b, 4, none⟩ = some (.int .i64 c.at_)
  c5 : w.cell? ⟨b, 5, none⟩ = some (.int .u8 c.by_.toNat)

theorem BoxAt.lt {w : World} {b : Nat} {c : Cl} (h : BoxAt w b c) : b < w.heap.size := World.block_lt_of_cell? _ _ h.c0
theorem BoxAt.block {w w' : World} {b : Nat} {c : Cl} (h : BoxAt w b c) (e : w'.heap[b]? = w.heap[b]?) : BoxAt w' b c := by
  have k := fun j => World.cell?_of_block (w := w) (w' := w') (a := ⟨b, j, none⟩) e
  exact ⟨(k 0).trans h.c0, (k 1).trans h.c1, (k 2).trans h.c2, (k 3).trans h.c3, (k 4).trans h.c4, (k 5).trans h.c5⟩
theorem BoxAt.three {w : World} {b : Nat} {c : Cl} (h : BoxAt w b c) : w.cell? ⟨b, 1, none⟩ = some (.int .i64 c.n) ∧ w.cell? ⟨b, 2, none⟩ = some (.slice c.bA c.bn c.bc) := ⟨h.c1, h.c2⟩
theorem BoxAt.four {w : World} {b : Nat} {c : Cl} (h : BoxAt w b c) : w.cell? ⟨b, 1, none⟩ = some (.int .i64 c.n) ∧ w.cell? ⟨b, 4, none⟩ = some (.int .i64 c.at_) ∧ w.cell? ⟨b, 5, none⟩ = some (.int .u8 c.by_.toNat) := ⟨h.c1, h.c4, h.c5⟩

section
variable {W w w' : World} {F G : Nat → Prop} {db rb : Nat} {s s' : PS}

/-- What is known behind the first of two calls. -/
structure Mid2 (W : World) (F G : Nat → Prop) (w : World) (db rb : Nat) (s' s : PS) (b : Nat) (c : Cl) : Prop where
  half : Half W F G w db rb s' s
  box : BoxAt w b c
  cl : ClAt w W.heap.size c

theorem Pair.step {v : Value} {e : Ending} {b : Nat} {c : Cl} (h : Pair W F G w db rb s) (hb : BoxAt w b c) (hF : ¬ F b) (hc : ClAt w W.heap.size c) (g : LGoes W F w db s' v e w') : e = .returned v ∧ ∃ F', Mid2 W F' G w' db rb s' s b c := by
  obtain ⟨he, F', hh⟩ := h.half g
  obtain ⟨_, _, hv, hm⟩ := g
  exact ⟨he, F', hh, hb.block (hm.kept.block b hb.lt hF), hc.below (hm.kept.toBelow h.live.base h.live.le)⟩

theorem Mid2.step {v : Value} {e : Ending} {b : Nat} {c : Cl} (h : Mid2 W F G w db rb s' s b c) (hG : ¬ G b) (g : RGoes w G rb s' v e w') : e = .returned v ∧ PairE W w' db rb s' ∧ BoxAt w' b c := by
  obtain ⟨he, hp⟩ := h.half.whole g
  obtain ⟨_, _, _, _, hk⟩ := g
  exact ⟨he, hp, h.box.block (hk.block b h.box.lt hG)⟩

theorem Pair.drew (h : Pair W F G w db rb s) : Pair W F G w.drew db rb s := h.next ⟨rfl, rfl, rfl, Nat.le_refl _, fun _ _ => rfl⟩
end

def DidEnd (W : World) (db rb : Nat) (e : Ending) (w' : World) : Prop := e = .returned (.bool true) ∧ ∃ s', PairE W w' db rb s'

set_option maxRecDepth 20000 in
set_option maxHeartbeats 6400000 in
theorem did_any {W : World} {db rb : Nat} {s : PS} {c : Cl} (w : World) (h : PairE W w db rb s) (hc : ClAt w W.heap.size c) (hsm : c.small = true) :
    Calls Tryz.prog 14 #[.pointer (some ⟨db, 0, none⟩), .pointer (some ⟨rb, 0, none⟩), .agg #[.int .i64 c.kind, .int .i64 c.n, .slice c.bA c.bn c.bc, .slice c.kA c.kn c.kc, .int .i64 c.at_, .int .u8 c.by_.toNat]] w (DidEnd W db rb) := by
  obtain ⟨F, G, h⟩ := h
  have hk : c.bn ≤ 1100 ∧ c.kn ≤ 60 := by unfold Cl.small at hsm; exact of_decide_eq_true hsm
  have HP : Hid (Pair W F G (w.alloc (.cells #[.int .i64 c.kind, .int .i64 c.n, .slice c.bA c.bn c.bc, .slice c.kA c.kn c.kc, .int .i64 c.at_, .int .u8 c.by_.toNat] 36)) db rb s) := h.next (below_one w _)
  have HC : Hid (ClAt (w.alloc (.cells #[.int .i64 c.kind, .int .i64 c.n, .slice c.bA c.bn c.bc, .slice c.kA c.kn c.kc, .int .i64 c.at_, .int .u8 c.by_.toNat] 36)) W.heap.size c) := hc.below ((below_one w _).mono h.live.le)
  have HBX : Hid (BoxAt (w.alloc (.cells #[.int .i64 c.kind, .int .i64 c.n, .slice c.bA c.bn c.bc, .slice c.kA c.kn c.kc, .int .i64 c.at_, .int .u8 c.by_.toNat] 36)) w.heap.size c) := ⟨by simp, by simp, by simp, by simp, by simp, by simp⟩
  have HNF : Hid (¬ F w.heap.size) := fun e => by have := h.live.dk.lt _ e; omega
  have HNG : Hid (¬ G w.heap.size) := fun e => by have := h.ref.lt _ e; omega
  obtain ⟨hk1, hk2⟩ := hk
  clear h hc hsm
  by_cases q1 : c.kind = 1
  · have b1 : (c.kind == 1) = true := by rw [q1]; rfl
    clear q1
    go_enter Tryz.func14, Tryz.ntmps14
    go_wp2_with fail
    generalize w.alloc (.cells #[.int .i64 c.kind, .int .i64 c.n, .slice c.bA c.bn c.bc, .slice c.kA c.kn c.kc, .int .i64 c.at_, .int .u8 c.by_.toNat] 36) = wx at *
    generalize w.heap.size = bx at *
    have K0 := (HBX.out.block (w' := wx.drew) rfl).three
    obtain ⟨x1, x2⟩ := K0
    have K0 := (HBX.out.block (w' := wx.drew) rfl).three
    have HCd : Hid (ClAt wx.drew W.heap.size c) := HC.out.below ⟨rfl, rfl, rfl, Nat.le_refl _, fun _ _ => rfl⟩
    go_region_held3 (fun w' => w'.cell? ⟨bx, 1, none⟩ = some (.int .i64 c.n) ∧ w'.cell? ⟨bx, 2, none⟩ = some (.slice c.bA c.bn c.bc))
      (first | exact K2 | exact K1 | exact K0)
      (first
        | (go_at_call 19; refine (write_live (W := W) wx.drew c.n HC.out.n.1 HC.out.n.2 c.bA c.bn c.bc c.b HC.out.bl (Out.of_bys HCd.out.bb HP.out.live.base) HC.out.bz HP.out.drew.live).mono ?_; intro e w2 hg2; obtain ⟨rfl, F2, hm2⟩ := HP.out.drew.step (HBX.out.block (w' := wx.drew) rfl) HNF.out HCd.out hg2; have K1 := hm2.box.three)
        | (go_at_call 23; refine (refWrite_any w2 c.n c.bA c.bn c.bc c.b HC.out.bl (Out.of_bys hm2.cl.bb HP.out.base) HC.out.bz hm2.half.ref).mono ?_; intro e w3 hg3; obtain ⟨rfl, hp3, hx3⟩ := hm2.step HNG.out hg3; have K2 := hx3.three))
    have HP3 := Lib.hid hp3
    go_wp2_with fail
    go_ret
    exact ⟨rfl, _, HP3.out⟩
  have b1 : (c.kind == 1) = false := by rw [beq_eq_false_iff_ne]; exact q1
  clear q1
  by_cases q2 : c.kind = 2
  · have b2 : (c.kind == 2) = true := by rw [q2]; rfl
    clear q2
    go_enter Tryz.func14, Tryz.ntmps14
    go_wp2_with fail
    generalize w.alloc (.cells #[.int .i64 c.kind, .int .i64 c.n, .slice c.bA c.bn c.bc, .slice c.kA c.kn c.kc, .int .i64 c.at_, .int .u8 c.by_.toNat] 36) = wx at *
    generalize w.heap.size = bx at *
    have x1 := HBX.out.c1
    (try clear x1)
    refine (read_live (W := W) wx c.n HC.out.n.1 HC.out.n.2 HP.out.live).mono ?_
    rintro e w2 ⟨A2, c2, rfl, ho2, hv2, hm2⟩
    have hx2 := HBX.out.block (hm2.kept.block bx HBX.out.lt HNF.out)
    have HR2 : Hid (Pair W F G w2 db rb s) := ⟨hv2, HP.out.ref.kept hm2.kept (fun k hG hF => HP.out.off k hF hG), HP.out.off, HP.out.base⟩
    have y1 := hx2.c1
    have HO2 := Lib.hid ho2.bys
    clear ho2 hv2 hm2 hx2
    go_wp2_with fail
    refine (refRead_any w2 c.n HR2.out.ref).mono ?_
    rintro e w3 ⟨A3, c3, rfl, ho3, rfl⟩
    have t1 := run_text (P := Tryz.prog) (w := w2) HO2.out 34 9 5 (s.readB c.n).length c2 rfl Tryz.underlying34 Tryz.underlying5 Tryz.underlying9
    have t2 := run_text (P := Tryz.prog) (w := w2) ho3 34 9 5 (s.readB c.n).length c3 rfl Tryz.underlying34 Tryz.underlying5 Tryz.underlying9
    clear ho3
    generalize s.readE c.n = er at *
    go_wp2_with fail
    go_ret
    exact ⟨rfl, s, F, G, HR2.out⟩
  have b2 : (c.kind == 2) = false := by rw [beq_eq_false_iff_ne]; exact q2
  clear q2
  by_cases q3 : c.kind = 3
  · have b3 : (c.kind == 3) = true := by rw [q3]; rfl
    clear q3
    go_enter Tryz.func14, Tryz.ntmps14
    go_wp2_with fail
    generalize w.alloc (.cells #[.int .i64 c.kind, .int .i64 c.n, .slice c.bA c.bn c.bc, .slice c.kA c.kn c.kc, .int .i64 c.at_, .int .u8 c.by_.toNat] 36) = wx at *
    generalize w.heap.size = bx at *
    refine (flush_live (W := W) wx HP.out.live).mono ?_
    intro e w2 hg2
    obtain ⟨rfl, F2, hm2⟩ := HP.out.step HBX.out HNF.out HC.out hg2
    have HM2 := Lib.hid hm2
    clear hg2 hm2
    go_wp2_with fail
    refine (refFlush_any w2 HM2.out.half.ref).mono ?_
    intro e w3 hg3
    obtain ⟨rfl, hp3, -⟩ := HM2.out.step HNG.out hg3
    have HP3 := Lib.hid hp3
    clear hg3 hp3
    generalize s.flushE = er at *
    go_wp2_with fail
    go_ret
    exact ⟨rfl, _, HP3.out⟩
  have b3 : (c.kind == 3) = false := by rw [beq_eq_false_iff_ne]; exact q3
  clear q3
  by_cases q4 : c.kind = 4
  · have b4 : (c.kind == 4) = true := by rw [q4]; rfl
    clear q4
    go_enter Tryz.func14, Tryz.ntmps14
    go_wp2_with fail
    generalize w.alloc (.cells #[.int .i64 c.kind, .int .i64 c.n, .slice c.bA c.bn c.bc, .slice c.kA c.kn c.kc, .int .i64 c.at_, .int .u8 c.by_.toNat] 36) = wx at *
    generalize w.heap.size = bx at *
    refine (fuse_live (W := W) wx c.n HC.out.n.1 HC.out.n.2 HP.out.live).mono ?_
    intro e w2 hg2
    obtain ⟨rfl, F2, hm2⟩ := HP.out.step HBX.out HNF.out HC.out hg2
    have y1 := hm2.box.c1
    have HM2 := Lib.hid hm2
    clear hg2 hm2
    go_wp2_with fail
    refine (refFuse_any w2 c.n HC.out.n.1 HC.out.n.2 HM2.out.half.ref).mono ?_
    intro e w3 hg3
    obtain ⟨rfl, hp3, -⟩ := HM2.out.step HNG.out hg3
    have HP3 := Lib.hid hp3
    clear hg3 hp3 y1
    go_wp2_with fail
    go_ret
    exact ⟨rfl, _, HP3.out⟩
  have b4 : (c.kind == 4) = false := by rw [beq_eq_false_iff_ne]; exact q4
  clear q4
  by_cases q5 : c.kind = 5
  · have b5 : (c.kind == 5) = true := by rw [q5]; rfl
    clear q5
    go_enter Tryz.func14, Tryz.ntmps14
    go_wp2_with fail
    generalize w.alloc (.cells #[.int .i64 c.kind, .int .i64 c.n, .slice c.bA c.bn c.bc, .slice c.kA c.kn c.kc, .int .i64 c.at_, .int .u8 c.by_.toNat] 36) = wx at *
    generalize w.heap.size = bx at *
    refine (restart_live (W := W) wx c.kA c.kn c.kc c.k HC.out.kl (by omega) (HC.out.kk.outN HP.out.live.base) HP.out.live).mono ?_
    intro e w2 hg2
    obtain ⟨rfl, F2, hm2⟩ := HP.out.step HBX.out HNF.out HC.out hg2
    have y1 := hm2.box.c3
    have HM2 := Lib.hid hm2
    clear hg2 hm2
    go_wp2_with fail
    refine (refRestart_any w2 c.kA c.kn c.kc c.k HC.out.kl (by omega) (HM2.out.cl.kk.outN HP.out.base) HM2.out.half.ref).mono ?_
    intro e w3 hg3
    obtain ⟨rfl, hp3, -⟩ := HM2.out.step HNG.out hg3
    have HP3 := Lib.hid hp3
    clear hg3 hp3 y1
    go_wp2_with fail
    go_ret
    exact ⟨rfl, _, HP3.out⟩
  have b5 : (c.kind == 5) = false := by rw [beq_eq_false_iff_ne]; exact q5
  clear q5
  by_cases q6 : c.kind = 6
  · have b6 : (c.kind == 6) = true := by rw [q6]; rfl
    clear q6
    go_enter Tryz.func14, Tryz.ntmps14
    go_wp2_with fail
    generalize w.alloc (.cells #[.int .i64 c.kind, .int .i64 c.n, .slice c.bA c.bn c.bc, .slice c.kA c.kn c.kc, .int .i64 c.at_, .int .u8 c.by_.toNat] 36) = wx at *
    generalize w.heap.size = bx at *
    have K0 := (HBX.out.block (w' := wx.drew) rfl).four
    obtain ⟨x1, x2, x3⟩ := K0
    have K0 := (HBX.out.block (w' := wx.drew) rfl).four
    have HCd : Hid (ClAt wx.drew W.heap.size c) := HC.out.below ⟨rfl, rfl, rfl, Nat.le_refl _, fun _ _ => rfl⟩
    go_region_held3 (fun w' => w'.cell? ⟨bx, 1, none⟩ = some (.int .i64 c.n) ∧ w'.cell? ⟨bx, 4, none⟩ = some (.int .i64 c.at_) ∧ w'.cell? ⟨bx, 5, none⟩ = some (.int .u8 c.by_.toNat))
      (first | exact K2 | exact K1 | exact K0)
      (first
        | (go_at_call 35; refine (turn_live (W := W) wx.drew c.n HC.out.n.1 HC.out.n.2 c.at_ HC.out.at_.1 HC.out.at_.2 c.by_ HP.out.drew.live).mono ?_; intro e w2 hg2; obtain ⟨rfl, F2, hm2⟩ := HP.out.drew.step (HBX.out.block (w' := wx.drew) rfl) HNF.out HCd.out hg2; have K1 := hm2.box.four)
        | (go_at_call 36; refine (refTurn_any w2 c.n c.at_ HC.out.at_.1 HC.out.at_.2 c.by_ hm2.half.ref).mono ?_; intro e w3 hg3; obtain ⟨rfl, hp3, hx3⟩ := hm2.step HNG.out hg3; have K2 := hx3.four))
    have HP3 := Lib.hid hp3
    go_wp2_with fail
    go_ret
    exact ⟨rfl, _, HP3.out⟩
  have b6 : (c.kind == 6) = false := by rw [beq_eq_false_iff_ne]; exact q6
  clear q6
  go_enter Tryz.func14, Tryz.ntmps14
  go_wp2_with fail
  generalize w.alloc (.cells #[.int .i64 c.kind, .int .i64 c.n, .slice c.bA c.bn c.bc, .slice c.kA c.kn c.kc, .int .i64 c.at_, .int .u8 c.by_.toNat] 36) = wx at *
  generalize w.heap.size = bx at *
  go_ret
  exact ⟨rfl, s, F, G, HP.out⟩
end Go.Proofs.YtnmiccagkfpkiaaGreat
