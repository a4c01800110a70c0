/-
  A part of the proof: what its texts say stands at the head of each. Conditions: none.
-/
import Derived.Lib.BytesEntry
import Derived.Laws.Externs
import Derived.Test.YtgkdlbcpckdmkaaZH1
import Derived.Test.YtgkdlbcpckdmkaaZH2

/-
  What disk's list comes to; Lasts and Waits.
-/
namespace Go.Proofs.Ytgkdlbcpckdmkaa
open Go.RowKit Go.Maps

/-- What a map holds, in order: a list that rises, of just its entries. -/
structure Lists (g : Ghost) (ps : List Hd) : Prop where
  up : (ps.map fun p => p.1).Pairwise (· < ·)
  mem : ∀ p ∈ ps, ∃ u, g p.1 = some (u, p.2.2)
  all : ∀ i u l, g i = some (u, l) → i ∈ ps.map fun p => p.1

theorem keys_up {es : List (Lit × DataW Value)} (hp : es.Pairwise (fun p q => p.1 ≠ q.1)) (hk : ∀ p ∈ es, ∃ i v, p = (Lit.int .i64 i, DataW.held v) ∧ 0 ≤ i ∧ i < 4096) {ss : List Int} (hs : ss.Perm (intKeys (DataW.map es))) :
    (ss.mergeSort (fun x y => decide (x ≤ y))).Pairwise (· < ·) ∧ ∀ i, i ∈ ss.mergeSort (fun x y => decide (x ≤ y)) ↔ ∃ v, (Lit.int .i64 i, DataW.held v) ∈ es := by
  have hperm : (ss.mergeSort (fun x y => decide (x ≤ y))).Perm (es.map fun p => _root_.Go.intOf p.1) := (List.mergeSort_perm _ _).trans hs
  have hnd : (es.map fun p => _root_.Go.intOf p.1).Pairwise (· ≠ ·) := by
    rw [List.pairwise_map]
    refine List.Pairwise.imp_of_mem ?_ hp
    intro p q hp' hq' hne e
    obtain ⟨i, v, rfl, _⟩ := hk p hp'
    obtain ⟨j, u, rfl, _⟩ := hk q hq'
    simp only [_root_.Go.intOf] at e
    exact hne (by show Lit.int .i64 i = Lit.int .i64 j; rw [e])
  have hnd' : (ss.mergeSort (fun x y => decide (x ≤ y))).Pairwise (· ≠ ·) := (hperm.pairwise_iff (fun {a b} (h : a ≠ b) => h.symm)).2 hnd
  have hle := List.pairwise_mergeSort (le := fun x y : Int => decide (x ≤ y)) (fun a b c h1 h2 => by simp only [decide_eq_true_eq] at *; omega) (fun a b => by simp only [Bool.or_eq_true, decide_eq_true_eq]; omega) ss
  refine ⟨?_, fun i => ?_⟩
  · refine (hle.and hnd').imp ?_
    intro a b ⟨h1, h2⟩
    simp only [decide_eq_true_eq] at h1
    omega
  · rw [hperm.mem_iff, List.mem_map]
    constructor
    · rintro ⟨p, hp', rfl⟩
      obtain ⟨j, v, rfl, _⟩ := hk p hp'
      exact ⟨v, hp'⟩
    · rintro ⟨v, hv⟩
      exact ⟨_, hv, rfl⟩

set_option maxRecDepth 20000 in
theorem row_nums {w : World} {base n : Nat} {v : Value} {ks : List Int} (h : w.ownsRow base 3 1 v n (ks.map encZ)) : ∃ A c, v = .slice A n c ∧ ks.length = n ∧ n ≤ c ∧ ∀ (j : Nat) (x : Int), ks[j]? = some x → ∃ g, A = some ⟨g, 0, none⟩ := by
  have hl : ks.length = n := by have := h.1; rw [List.length_map] at this; omega
  rcases h.2 with ⟨rfl, h0⟩ | ⟨g, cap, cur, rfl, hb, hh, hnc, hm, _⟩
  · subst h0
    refine ⟨none, 0, rfl, hl, Nat.le_refl _, fun j x hx => ?_⟩
    rw [List.eq_nil_of_length_eq_zero hl] at hx
    simp at hx
  · exact ⟨_, _, rfl, hl, hnc, fun j x _ => ⟨g, rfl⟩⟩

def ListRel (w : World) (g : Ghost) (kA : Option Addr) (kc : Nat) (ks : List Int) (v : Value) (j : Nat) (wr : World) : Prop :=
  ∃ ps : List Hd, HOwn wr w.heap.size v ps ∧ (ps.map fun p => p.1) = ks.take j ∧ (∀ p ∈ ps, ∃ u, g p.1 = some (u, p.2.2)) ∧ Below w.heap.size w wr ∧ wr.ownsRow w.heap.size 3 1 (.slice kA ks.length kc) ks.length (ks.map encZ)

def ListEnd (w : World) (g : Ghost) (e : Ending) (w' : World) : Prop := ∃ v ps, e = .returned v ∧ HOwn w' w.heap.size v ps ∧ Lists g ps ∧ Below w.heap.size w w'

theorem grown_own {w w2 : World} {base : Nat} {v : Value} {l : List UInt8} (h : Own w base v l) (hb : Below w.heap.size w w2) : Own w2 base v l :=
  own_of_block h (fun k hk => hb.block k (h.lt k hk).2)

theorem own_up {w : World} {base base' : Nat} {v : Value} {l : List UInt8} (h : Own w base v l) (hb : base' ≤ base) : Own w base' v l := Go.Proofs.ownsRow_base_a h hb

theorem HOwn.alloc2 {w : World} {base : Nat} {v : Value} {ps : List Hd} (h : HOwn w base v ps) (o : Obj) : HOwn (w.alloc o) base v ps := h.below (below_one w o)

theorem two_cells (x : Int) (A : Option Addr) (n c : Nat) : ∀ u ∈ [Value.int .i64 x, .slice A n c], u.oneCell' = true := by
  intro u hu
  simp only [List.mem_cons, List.not_mem_nil, or_false] at hu
  rcases hu with rfl | rfl <;> rfl

set_option maxRecDepth 20000 in
set_option maxHeartbeats 1600000 in
theorem list_any (w : World) (b : Nat) (g : Ghost) (hm : MapAt w b (vals g)) (ho : ∀ i v l, g i = some (v, l) → Own w 0 v l ∧ l.length ≤ 1024) :
    Calls Try.prog 37 #[.map (some b)] w (ListEnd w g) := by
  obtain ⟨i0, hi, hz0, hz1, hz2⟩ := info_parts heldInfo
  have HM := Lib.hid hm
  have HO := Lib.hid ho
  obtain ⟨n, es, hown, hk, hf⟩ := hm
  obtain ⟨es', e', hp, _⟩ := hown.entries keyLaw
  injection e' with e'
  subst e'
  have hl := few_of hp hk
  have HOW := Lib.hid hown
  have HK := Lib.hid hk
  have HF := Lib.hid hf
  have HP := Lib.hid hp
  clear hown hk hf hp ho
  go_enter Try.func37, Try.ntmps37
  go_wp2_with fail
  refine (keys_any (some b) w).mono ?_
  rintro e w1 ⟨rfl, rfl⟩
  go_wp2_with fail
  refine (sorted_any _ w.heap.size b n es (by simp) (by simp) (HOW.out.alloc _) hl).mono ?_
  rintro e w2 ⟨kv, ss, rfl, hperm, hrow, hb2⟩
  obtain ⟨hup, hmem⟩ := keys_up HP.out HK.out hperm
  have hkl : (ss.mergeSort (fun x y => decide (x ≤ y))).length = ss.length := (List.mergeSort_perm _ _).length_eq
  have hsl : ss.length ≤ 4096 := by
    have := hperm.length_eq
    rw [show intKeys (DataW.map es) = es.map fun p => _root_.Go.intOf p.1 from rfl, List.length_map] at this
    omega
  generalize ss.mergeSort (fun x y => decide (x ≤ y)) = ks at *
  rw [← hkl] at hrow hsl
  obtain ⟨kA, kc, rfl, -, hkc, hkA⟩ := row_nums hrow
  have HUP := Lib.hid hup
  have HME := Lib.hid hmem
  have HKA := Lib.hid hkA
  have HR2 := Lib.hid (Go.Proofs.ownsRow_base_a hrow (show w.heap.size ≤ (w.alloc (.cells #[.map (some b)] 54)).heap.size by simp))
  have HB2 : Hid (Below w.heap.size w w2) := (below_one w _).trans (hb2.mono (by simp))
  clear hrow hb2 hperm hup hmem hkA hkl HOW HK HP
  go_wp2_with fail
  go_loopw [3, 10] (fun v i wr => ∃ j : Nat, j ≤ ks.length ∧ i = .int .i64 j ∧ ListRel w g kA kc ks v j wr) (fun _ i _ => ks.length - (RowKit.intOf i).toNat)
  case atStart => exact ⟨0, Nat.zero_le _, rfl, [], hown_nil _ _, rfl, fun p hp => by simp at hp, HB2.out, HR2.out⟩
  case round =>
    obtain ⟨j, hj, rfl, ps, hps, hpk, hpm, hbw, hkr⟩ := hrel
    have hpl : ps.length = j := by
      have := congrArg List.length hpk
      rw [List.length_map, List.length_take] at this
      omega
    have HPK := Lib.hid hpk
    have HPM := Lib.hid hpm
    have HBW := Lib.hid hbw
    have HPS := Lib.hid hps
    have HKR := Lib.hid hkr
    have HPL := Lib.hid hpl
    by_cases hlt : j < ks.length
    · obtain ⟨x, hx⟩ : ∃ x, ks[j]? = some x := ⟨ks[j], List.getElem?_eq_getElem hlt⟩
      obtain ⟨gb, rfl⟩ := HKA.out j x hx
      have kc0 : wr.cell? ⟨gb, j, none⟩ = some (.int .i64 x) := by
        rw [hkr.cellAt j (by omega), List.getElem?_map, hx]
        rfl
      obtain ⟨v0, hv0⟩ := (HME.out x).1 (List.mem_of_getElem? hx)
      have hv1 := (HF.out x v0).2 hv0
      obtain ⟨q, hq, hqv⟩ : ∃ q, g x = some q ∧ q.1 = v0 := by
        unfold vals at hv1
        exact Option.map_eq_some_iff.1 hv1
      obtain ⟨v0', l⟩ := q
      obtain rfl : v0' = v0 := hqv
      have hbx := HM.out.keys hv1
      have ho := HO.out x v0' l hq
      have how : Own wr 0 v0' l := own_of_block ho.1 (fun k hk => hbw.block k (ho.1.lt k hk).2)
      have hll := ho.2
      obtain ⟨A0, c0, rfl, hc0, hz0'⟩ := own_slice how
      have hmr : MapAt wr b (vals g) := HM.out.block (hbw.block b HM.out.lt)
      have hlk := hmr.look1 (i := x) (by omega) (by omega)
      rw [hv1] at hlk
      simp only [Option.getD_some] at hlk
      have HOW := Lib.hid how
      have HX := Lib.hid hx
      have HQ := Lib.hid hq
      have HZ := Lib.hid hz0'
      have hbb : w.heap.size ≤ wr.heap.size := hbw.size
      clear hps hpk hpm hbw hkr hpl hx hv0 hv1 hq ho how hmr hz0' hc0
      go_wp2_with fail
      refine (clone_all A0 _ c0 _ l wr (own_bys HOW.out) rfl (by omega) HZ.out).mono ?_
      rintro e w3 ⟨v3, rfl, ho3, hb3⟩
      obtain ⟨A3, c3, rfl, _, _⟩ := own_slice ho3
      have HO3 : Hid (Own w3 w.heap.size (.slice A3 l.length c3) l) := own_up ho3 hbb
      have hb33 : w.heap.size ≤ w3.heap.size := Nat.le_trans hbb hb3.size
      have hrow3 := ((HPS.out.below hb3).alloc2 (.cells #[.int .i64 x, .slice A3 l.length c3] 82)).row
      rw [HPL.out] at hrow3
      have HB3 := Lib.hid hb3
      clear ho3 hb3 hlk kc0
      go_wp2_with (at_builtin; refine wpList_append_own _ rfl (.tmp 14) (.tmp 21) 39 rfl w.heap.size 82 i0 _ 2 32 Try.underlying39 hi hz0 hz1 hz2 rfl (by decide) _ _ _ rfl hrow3 ⟨w3.heap.size, 0, none⟩ 1 1 [.int .i64 x, .slice A3 l.length c3] rfl rfl (cell_two_new _ _ _ _) (two_cells x A3 l.length c3) (by unfold maxLen; omega) (by omega) (by simp; omega) ?_; intro v4 w4 hown4 hg4 _)
      have HP4 : Hid (HOwn w4 w.heap.size v4 (ps ++ [(x, .slice A3 l.length c3, l)])) := ((HPS.out.below HB3.out).alloc2 _).push (p := (x, .slice A3 l.length c3, l)) (grown_own HO3.out (below_one _ _)) (by rw [HPL.out]; exact hown4) hg4
      have HB4 : Hid (Below w.heap.size w w4) := (HBW.out.trans ((HB3.out.trans ((below_one _ _).mono HB3.out.size)).mono hbb)).grown hg4 (by simp; omega) (fun k hk => (hrow3.lt k hk).1)
      have HK4 : Hid (w4.ownsRow w.heap.size 3 1 (.slice (some ⟨gb, 0, none⟩) ks.length kc) ks.length (ks.map encZ)) := grown_apart (by decide) (row_of_block HKR.out (fun k hk => ((below_one w3 _).block k (Nat.lt_of_lt_of_le (HKR.out.lt k hk).2 HB3.out.size)).trans (HB3.out.block k (HKR.out.lt k hk).2))) hrow3 hg4
      clear hown4 hg4 hrow3 HPS HB3 HBW HKR HO3
      go_wp2_with fail
      go_roundw
      case rel =>
        refine ⟨j + 1, by omega, by go_num, _, HP4.out, ?_, ?_, HB4.out, HK4.out⟩
        · rw [List.map_append, HPK.out, List.take_add_one, HX.out]
          rfl
        · intro p hp
          rcases List.mem_append.1 hp with h1 | h1
          · exact HPM.out p h1
          · obtain rfl : p = (x, .slice A3 l.length c3, l) := by simpa using h1
            exact ⟨_, HQ.out⟩
      case measure => simp [RowKit.intOf]; omega
    · clear hps hpk hpm hbw hkr hpl
      go_wp2_with fail
      go_ret
      have ek : ks.take j = ks := List.take_of_length_le (by omega)
      refine ⟨_, ps, rfl, HPS.out, ⟨by rw [HPK.out, ek]; exact HUP.out, HPM.out, fun i u l hi => ?_⟩, HBW.out⟩
      rw [HPK.out, ek]
      exact (HME.out i).2 ⟨u, (HF.out i u).1 (by unfold vals; rw [hi]; rfl)⟩

section
variable {F : Nat → Prop} {S : Int → Prop} {db bl bw : Nat} {gL gW : Ghost} {s : PS}

/-- Two lists that rise, with the same members, are one. -/
theorem rising_eq {β : Type} : ∀ (a b : List (Int × β)), a.Pairwise (fun x y => x.1 < y.1) → b.Pairwise (fun x y => x.1 < y.1) → (∀ p, p ∈ a ↔ p ∈ b) → a = b
  | [], [], _, _, _ => rfl
  | [], y :: b, _, _, h => by have := (h y).2 (by simp); simp at this
  | x :: a, [], _, _, h => by have := (h x).1 (by simp); simp at this
  | x :: a, y :: b, ha, hb, h => by
    obtain ⟨ha1, ha2⟩ := List.pairwise_cons.1 ha
    obtain ⟨hb1, hb2⟩ := List.pairwise_cons.1 hb
    have hxy : x = y := by
      rcases List.mem_cons.1 ((h x).1 (by simp)) with e | e
      · exact e
      · rcases List.mem_cons.1 ((h y).2 (by simp)) with e' | e'
        · exact e'.symm
        · have := ha1 y e'
          have := hb1 x e
          omega
    subst hxy
    congr 1
    refine rising_eq a b ha2 hb2 (fun p => ?_)
    constructor
    · intro hp
      rcases List.mem_cons.1 ((h p).1 (by simp [hp])) with e | e
      · have := ha1 p hp
        rw [e] at this
        omega
      · exact e
    · intro hp
      rcases List.mem_cons.1 ((h p).2 (by simp [hp])) with e | e
      · have := hb1 p hp
        rw [e] at this
        omega
      · exact e

theorem Lists.mem_iff {g : Ghost} {ps : List Hd} (h : Lists g ps) (i : Int) (l : List UInt8) : (i, l) ∈ (ps.map fun p => (p.1, p.2.2)) ↔ ∃ u, g i = some (u, l) := by
  constructor
  · intro hm
    obtain ⟨p, hp, e⟩ := List.mem_map.1 hm
    injection e with e1 e2
    subst e1
    subst e2
    exact h.mem p hp
  · rintro ⟨u, hu⟩
    obtain ⟨p, hp, rfl⟩ := List.mem_map.1 (h.all i u l hu)
    obtain ⟨u', hu'⟩ := h.mem p hp
    rw [hu'] at hu
    injection hu with hu
    injection hu with _ hu
    subst hu
    exact List.mem_map.2 ⟨p, hp, rfl⟩

theorem Lists.up' {g : Ghost} {ps : List Hd} (h : Lists g ps) : (ps.map fun p => (p.1, p.2.2)).Pairwise (fun x y => x.1 < y.1) := by
  have := h.up
  rw [List.pairwise_map] at this ⊢
  exact this

theorem lasts_up (s : PS) : s.lastsOf.Pairwise (fun x y => x.1 < y.1) := by
  unfold PS.lastsOf
  refine List.Pairwise.filter _ ?_
  rw [List.pairwise_map]
  exact List.pairwise_lt_range.imp (fun {a b} (h : a < b) => by show (a : Int) < (b : Int); omega)

theorem lasts_mem (s : PS) (h : s.Ok) (i : Int) (l : List UInt8) : (i, l) ∈ s.lastsOf ↔ s.L i = l ∧ l ≠ [] := by
  unfold PS.lastsOf
  rw [List.mem_filter, List.mem_map]
  constructor
  · rintro ⟨⟨k, hk, e⟩, hl⟩
    injection e with e1 e2
    subst e1
    subst e2
    exact ⟨rfl, by simpa using hl⟩
  · rintro ⟨rfl, hl⟩
    obtain ⟨h1, h2⟩ := h.l i hl
    refine ⟨⟨i.toNat, List.mem_range.2 (by omega), ?_⟩, by simpa using hl⟩
    rw [show ((i.toNat : Nat) : Int) = i by omega]

theorem waits_up (s : PS) : s.waitsOf.Pairwise (fun x y => x.1 < y.1) := by
  unfold PS.waitsOf
  rw [List.pairwise_filterMap]
  refine List.pairwise_lt_range.imp (fun {a b} (h : a < b) => ?_)
  intro x hx y hy
  obtain ⟨_, _, rfl⟩ := Option.map_eq_some_iff.1 hx
  obtain ⟨_, _, rfl⟩ := Option.map_eq_some_iff.1 hy
  show (a : Int) < (b : Int)
  omega

theorem waits_mem (s : PS) (h : s.Ok) (i : Int) (l : List UInt8) : (i, l) ∈ s.waitsOf ↔ s.W i = some l := by
  unfold PS.waitsOf
  rw [List.mem_filterMap]
  constructor
  · rintro ⟨k, hk, e⟩
    obtain ⟨l', h1, e⟩ := Option.map_eq_some_iff.1 e
    injection e with e1 e2
    subst e1
    subst e2
    exact h1
  · intro hl
    obtain ⟨h1, h2⟩ := h.w i (by rw [hl]; simp)
    refine ⟨i.toNat, List.mem_range.2 (by omega), ?_⟩
    rw [show ((i.toNat : Nat) : Int) = i by omega, hl]
    rfl

/-- What Lasts, or Waits, answers. -/
def LList (W : World) (F : Nat → Prop) (w : World) (db : Nat) (s : PS) (qs : List (Int × List UInt8)) (e : Ending) (w' : World) : Prop :=
  ∃ A c, e = .returned (.slice A qs.length c) ∧ qs.length ≤ c ∧ (∀ G : Nat → Prop, (∀ k, G k → k < w.heap.size) → HOut w' G A qs) ∧ Live W F w' db s ∧ Moves w F w' F

theorem list_end {W w w' : World} {g : Ghost} {e : Ending} {qs : List (Int × List UInt8)} (h : Live W F w db s) (hq : qs.Pairwise (fun x y => x.1 < y.1)) (hm : ∀ i l, (i, l) ∈ qs ↔ ∃ u, g i = some (u, l)) (hl : ListEnd w g e w') : LList W F w db s qs e w' ∧ Below w.heap.size w w' := by
  obtain ⟨v, ps, rfl, ho, hps, hb⟩ := hl
  obtain ⟨A, c, rfl, hc, -⟩ := ho.out (F := F) h.dk.lt
  have e1 : (ps.map fun p => (p.1, p.2.2)) = qs := rising_eq _ _ hps.up' hq (fun p => (hps.mem_iff p.1 p.2).trans (hm p.1 p.2).symm)
  have e2 : ps.length = qs.length := by rw [← e1, List.length_map]
  rw [e2] at hc ⊢
  refine ⟨⟨A, c, rfl, hc, fun G hG => ?_, h.next hb, Moves.of_below hb⟩, hb⟩
  obtain ⟨A', c', e3, _, hout⟩ := ho.out (F := G) hG
  injection e3 with e3 _ _
  rw [e1, ← e3] at hout
  exact hout

set_option maxRecDepth 20000 in
theorem lasts_both {W : World} (w : World) (h : Live W F w db s) : Calls Try.prog 21 #[.pointer (some ⟨db, 0, none⟩)] w (fun e w' => LList W F w db s s.lastsOf e w' ∧ Below w.heap.size w w') := by
  obtain ⟨bl, bw, gL, gW, hd⟩ := h.dk
  have c1 := hd.cell 1 (v := .map (some bl)) rfl
  have HC := Lib.hid (list_any w bl gL hd.mL (fun i v l hi => ⟨(hd.oL i v l hi).1, (hd.oL i v l hi).2.2.1⟩))
  have HE : Hid (∀ e w', ListEnd w gL e w' → LList W F w db s s.lastsOf e w' ∧ Below w.heap.size w w') := fun e w' => list_end h (lasts_up s) (fun i l => by
    rw [lasts_mem s hd.ok, hd.sL]
    constructor
    · rintro ⟨e, hl⟩
      cases hg : gL i with
      | none => rw [hg] at e; exact absurd e.symm hl
      | some p => rw [hg] at e; exact ⟨p.1, by rw [← e]; rfl⟩
    · rintro ⟨u, hu⟩
      rw [hu]
      exact ⟨rfl, (hd.oL i u l hu).2.1⟩)
  clear hd h
  go_enter Try.func21, Try.ntmps21
  go_wp2_with fail
  refine HC.out.mono ?_
  intro e w' hl
  have hl' := HE.out e w' hl
  obtain ⟨⟨A, c, rfl, hc, ho, hv, hmv⟩, hbl⟩ := hl'
  have HH : Hid (LList W F w db s s.lastsOf (.returned (.slice A s.lastsOf.length c)) w' ∧ Below w.heap.size w w') := ⟨⟨A, c, rfl, hc, ho, hv, hmv⟩, hbl⟩
  clear hl hc ho hv hmv hbl HE HC
  go_wp2_with fail
  go_ret
  exact HH.out

set_option maxRecDepth 20000 in
theorem waits_both {W : World} (w : World) (h : Live W F w db s) : Calls Try.prog 15 #[.pointer (some ⟨db, 0, none⟩)] w (fun e w' => LList W F w db s s.waitsOf e w' ∧ Below w.heap.size w w') := by
  obtain ⟨bl, bw, gL, gW, hd⟩ := h.dk
  have c2 := hd.cell 2 (v := .map (some bw)) rfl
  have HC := Lib.hid (list_any w bw gW hd.mW (fun i v l hi => ⟨(hd.oW i v l hi).1, (hd.oW i v l hi).2.1⟩))
  have HE : Hid (∀ e w', ListEnd w gW e w' → LList W F w db s s.waitsOf e w' ∧ Below w.heap.size w w') := fun e w' => list_end h (waits_up s) (fun i l => by
    rw [waits_mem s hd.ok, hd.sW]
    constructor
    · intro e
      obtain ⟨p, hp, rfl⟩ := Option.map_eq_some_iff.1 e
      exact ⟨p.1, hp⟩
    · rintro ⟨u, hu⟩
      rw [hu]
      rfl)
  clear hd h
  go_enter Try.func15, Try.ntmps15
  go_wp2_with fail
  refine HC.out.mono ?_
  intro e w' hl
  have hl' := HE.out e w' hl
  obtain ⟨⟨A, c, rfl, hc, ho, hv, hmv⟩, hbl⟩ := hl'
  have HH : Hid (LList W F w db s s.waitsOf (.returned (.slice A s.waitsOf.length c)) w' ∧ Below w.heap.size w w') := ⟨⟨A, c, rfl, hc, ho, hv, hmv⟩, hbl⟩
  clear hl hc ho hv hmv hbl HE HC
  go_wp2_with fail
  go_ret
  exact HH.out

set_option maxRecDepth 20000 in
theorem lasts_live {W : World} (w : World) (h : Live W F w db s) : Calls Try.prog 21 #[.pointer (some ⟨db, 0, none⟩)] w (LList W F w db s s.lastsOf) := (lasts_both w h).mono fun _ _ h => h.1
set_option maxRecDepth 20000 in
theorem waits_live {W : World} (w : World) (h : Live W F w db s) : Calls Try.prog 15 #[.pointer (some ⟨db, 0, none⟩)] w (LList W F w db s s.waitsOf) := (waits_both w h).mono fun _ _ h => h.1
end

end Go.Proofs.Ytgkdlbcpckdmkaa

/-
  What a list of bytes in memory is read as: string(b); the library's bytes.
-/
namespace Go.Proofs.Ytgkdlbcpckdmkaa
open Go.RowKit

/-! ### string(b) -/

section
variable {P : Program} {w : World} {R : Nat} {A : Option Addr} {l : List UInt8}

theorem run_text (h : Bys w R A l) (src dst e : TypeId) (n c : Nat) (hn : l.length = n) (hs : P.underlying src = some (.slice e)) (he : P.underlying e = some (.int .u8)) (hd : P.underlying dst = some .string) :
    (convert src dst (.slice A n c)).run P w = .ok (.string ⟨l.toArray⟩) w := by
  rw [run_convert_bytes_string w src dst e A n c hs he hd]
  rcases A with _ | ad
  · rw [h.none_]
    rfl
  · have hl : (loadCells ad n).run P w = .ok ((l.map (fun b => (b.toNat : Int))).map (Value.int .u8)).toArray w := by
      have := run_loadCells_list (P := P) w ad (bv l) h.cells
      rw [bv_length, hn] at this
      rw [this, List.map_map]
      rfl
    rw [run_bytesToString w ad n c _ hl]
    congr 2
    have : ∀ (l : List UInt8) (s : ByteArray), (l.map (fun b => (b.toNat : Int))).foldl (fun r n => r.push (UInt8.ofNat n.toNat)) s = ⟨s.data ++ l.toArray⟩ := by
      intro l
      induction l with
      | nil => intro s; simp
      | cons x l ih =>
        intro s
        rw [List.map_cons, List.foldl_cons, ih]
        simp [ByteArray.push]
    rw [this]
    congr 1
    exact Array.empty_append

theorem bytesOf_back : ∀ l : List UInt8, Lib.bytesOf (l.map (fun b => (b.toNat : Int))) = l
  | [] => rfl
  | x :: l => by
    have ih := bytesOf_back l
    unfold Lib.bytesOf at ih ⊢
    rw [List.map_cons, List.map_cons, ih]
    simp

theorem run_bytesOf (h : Bys w R A l) (n c : Nat) (hn : l.length = n) : (Extern.Bytes.bytesOf (.slice A n c)).run P w = .ok ⟨l.toArray⟩ w := by
  rcases A with _ | ad
  · rw [h.none_]
    rfl
  · have := Lib.run_loadBytesX (P := P) w (l.map (fun b => (b.toNat : Int))) ad .empty (fun j x hx => by
      rw [List.getElem?_map] at hx
      obtain ⟨z, hz, rfl⟩ := Option.map_eq_some_iff.1 hx
      exact h.cells j _ (by unfold bv; rw [List.getElem?_map, hz]; rfl))
    rw [List.length_map, hn, bytesOf_back] at this
    show (Extern.Bytes.loadBytes ad n .empty).run P w = _
    rw [this]
    congr 2
    exact Array.empty_append
end

end Go.Proofs.Ytgkdlbcpckdmkaa
