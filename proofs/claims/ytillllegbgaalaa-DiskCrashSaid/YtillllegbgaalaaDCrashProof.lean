/-
  DiskCrash answers true, for every script and every crash: behind a crash each sector lasts as it waited, if it is kept, and as it lasted, else; nothing waits. Conditions: none.
-/
import Derived.Test.YtillllegbgaalaaRows
import Derived.Test.YtillllegbgaalaaDAwake
import Derived.Test.YtillllegbgaalaaDDone
import Derived.Test.YtillllegbgaalaaDList
import Derived.Test.YtillllegbgaalaaText
import Derived.RegionTactic
import Derived.ChangeAlike
import Derived.BigRegion
import Derived.Deep.QuietTactic
import Derived.BigQuiet
namespace Go.Proofs.Ytillllegbgaalaa.diskCrash
open Go.ChangeShapes Go.WideShapes Go.ChangeAt Go.RowKit

theorem and7 : ∀ x : Nat, x < 8 → bits .and .i64 (x : Int) 7 = (x : Int) := by decide +kernel

/-- The cells of eight texts. -/
def texts (f : Nat → List UInt8) : Array Value := #[.string ⟨(f 0).toArray⟩, .string ⟨(f 1).toArray⟩, .string ⟨(f 2).toArray⟩, .string ⟨(f 3).toArray⟩, .string ⟨(f 4).toArray⟩, .string ⟨(f 5).toArray⟩, .string ⟨(f 6).toArray⟩, .string ⟨(f 7).toArray⟩]

theorem texts_at (f : Nat → List UInt8) : ∀ i, i < 8 → (texts f)[i]? = some (.string ⟨(f i).toArray⟩) := by
  intro i hi
  match i, hi with
  | 0, _ => rfl
  | 1, _ => rfl
  | 2, _ => rfl
  | 3, _ => rfl
  | 4, _ => rfl
  | 5, _ => rfl
  | 6, _ => rfl
  | 7, _ => rfl

def setAt (f : Nat → List UInt8) (x : Nat) (l : List UInt8) : Nat → List UInt8 := fun i => if i = x then l else f i

theorem texts_set (f : Nat → List UInt8) (l : List UInt8) : ∀ x, x < 8 → (texts f).setIfInBounds x (.string ⟨l.toArray⟩) = texts (setAt f x l) := by
  intro x hx
  match x, hx with
  | 0, _ => rfl
  | 1, _ => rfl
  | 2, _ => rfl
  | 3, _ => rfl
  | 4, _ => rfl
  | 5, _ => rfl
  | 6, _ => rfl
  | 7, _ => rfl

/-- The eight texts lie at block q, outside of F. -/
structure TextsAt (w : World) (F : Nat → Prop) (q : Nat) (f : Nat → List UInt8) : Prop where
  blk : w.heap[q]? = some (.cells (texts f) 9 (0, 0))
  out : ¬ F q

theorem TextsAt.lt {w : World} {F : Nat → Prop} {q : Nat} {f : Nat → List UInt8} (h : TextsAt w F q f) : q < w.heap.size := (Array.getElem?_eq_some_iff.1 h.blk).1
theorem TextsAt.moves {w w' : World} {F F' : Nat → Prop} {q : Nat} {f : Nat → List UInt8} (h : TextsAt w F q f) (m : Moves w F w' F') : TextsAt w' F' q f := by
  obtain ⟨h1, h2⟩ := m.block h.lt h.out
  exact ⟨h1.trans h.blk, h2⟩
theorem TextsAt.cell {w : World} {F : Nat → Prop} {q : Nat} {f : Nat → List UInt8} (h : TextsAt w F q f) {i : Nat} (hi : i < 8) : w.cell? ⟨q, i, none⟩ = some (.string ⟨(f i).toArray⟩) := (cell_of_row w q i _ _ _ h.blk).trans (texts_at f i hi)
theorem TextsAt.free {w : World} {F : Nat → Prop} {q : Nat} {f : Nat → List UInt8} (h : TextsAt w F q f) (i : Nat) : w.frozen? ⟨q, i, none⟩ = false := frozen_of_row w q i _ _ h.blk
theorem TextsAt.set {w : World} {F : Nat → Prop} {q : Nat} {f : Nat → List UInt8} (h : TextsAt w F q f) {x : Nat} (hx : x < 8) (l : List UInt8) : TextsAt (w.setCell ⟨q, x, none⟩ (.string ⟨l.toArray⟩)) F q (setAt f x l) :=
  ⟨by rw [Joins.block_setCell h.blk, texts_set f l x hx], h.out⟩

/-! ### what is wanted, step by step -/
section
def layAll (f : Nat → List UInt8) (es : List (Int × List UInt8)) : Nat → List UInt8 := es.foldl (fun f p => setAt f p.1.toNat p.2) f
def layKept (keep : List Int) (f : Nat → List UInt8) (es : List (Int × List UInt8)) : Nat → List UInt8 := es.foldl (fun f p => if p.1 ∈ keep then setAt f p.1.toNat p.2 else f) f

theorem take_one {α : Type} {l : List α} {j : Nat} {x : α} (h : l[j]? = some x) : l.take (j + 1) = l.take j ++ [x] := by
  rw [List.take_add_one, h]
  rfl

theorem layAll_step {f : Nat → List UInt8} {es : List (Int × List UInt8)} {j : Nat} {p : Int × List UInt8} (h : es[j]? = some p) : layAll f (es.take (j + 1)) = setAt (layAll f (es.take j)) p.1.toNat p.2 := by
  rw [take_one h]
  unfold layAll
  rw [List.foldl_append]
  rfl

theorem layKept_step {keep : List Int} {f : Nat → List UInt8} {es : List (Int × List UInt8)} {j : Nat} {p : Int × List UInt8} (h : es[j]? = some p) : layKept keep f (es.take (j + 1)) = if p.1 ∈ keep then setAt (layKept keep f (es.take j)) p.1.toNat p.2 else layKept keep f (es.take j) := by
  rw [take_one h]
  unfold layKept
  rw [List.foldl_append]
  rfl

theorem layAll_eq : ∀ (es : List (Int × List UInt8)) (f : Nat → List UInt8), layAll f es = layKept (es.map (·.1)) f es
  | es, f => by
    unfold layAll layKept
    have : ∀ (es' es : List (Int × List UInt8)) (f : Nat → List UInt8), (∀ p ∈ es, p.1 ∈ es'.map (·.1)) → es.foldl (fun f p => setAt f p.1.toNat p.2) f = es.foldl (fun f p => if p.1 ∈ es'.map (·.1) then setAt f p.1.toNat p.2 else f) f := by
      intro es' es
      induction es with
      | nil => intro f _; rfl
      | cons p es ih =>
        intro f h
        rw [List.foldl_cons, List.foldl_cons, if_pos (h p (by simp))]
        exact ih _ (fun q hq => h q (by simp [hq]))
    exact this es es f (fun p hp => List.mem_map.2 ⟨p, hp, rfl⟩)

theorem layKept_at (keep : List Int) : ∀ (es : List (Int × List UInt8)) (f : Nat → List UInt8) (i : Nat), es.Pairwise (fun x y => x.1 < y.1) → (∀ p ∈ es, 0 ≤ p.1) →
    (∀ l, ((i : Int), l) ∈ es → (i : Int) ∈ keep → layKept keep f es i = l) ∧ ((∀ l, ((i : Int), l) ∈ es → ¬ (i : Int) ∈ keep) → layKept keep f es i = f i)
  | [], f, i, _, _ => ⟨fun l h => by simp at h, fun _ => rfl⟩
  | p :: es, f, i, hp, h0 => by
    obtain ⟨h1, h2⟩ := List.pairwise_cons.1 hp
    have ih := layKept_at keep es (if p.1 ∈ keep then setAt f p.1.toNat p.2 else f) i h2 (fun q hq => h0 q (by simp [hq]))
    have e0 : layKept keep f (p :: es) = layKept keep (if p.1 ∈ keep then setAt f p.1.toNat p.2 else f) es := rfl
    rw [e0]
    have hp0 := h0 p (by simp)
    by_cases hi : p.1 = (i : Int)
    · have hno : ∀ l, ¬ ((i : Int), l) ∈ es := fun l hl => by have := h1 _ hl; simp only at this; omega
      have hr := ih.2 (fun l hl => absurd hl (hno l))
      have ht : p.1.toNat = i := by omega
      refine ⟨fun l hl hk => ?_, fun hk => ?_⟩
      · rcases List.mem_cons.1 hl with e | e
        · rw [hr, ← e]
          simp only [hk, if_true]
          unfold setAt
          rw [if_pos (by omega)]
        · exact absurd e (hno l)
      · have : ¬ p.1 ∈ keep := by rw [hi]; exact hk p.2 (by rw [← hi]; simp)
        rw [hr, if_neg this]
    · have ht : ¬ i = p.1.toNat := by omega
      have hf : (if p.1 ∈ keep then setAt f p.1.toNat p.2 else f) i = f i := by
        split
        · unfold setAt
          rw [if_neg ht]
        · rfl
      refine ⟨fun l hl hk => ?_, fun hk => ?_⟩
      · rcases List.mem_cons.1 hl with e | e
        · exact absurd (congrArg Prod.fst e).symm hi
        · exact ih.1 l e hk
      · rw [ih.2 (fun l hl => hk l (by simp [hl])), hf]

theorem setAt_twice (f : Nat → List UInt8) (x : Nat) (l : List UInt8) : setAt (setAt f x l) x l = setAt f x l := by
  funext i
  unfold setAt
  split <;> rfl

/-- At the end: what lasts behind the crash. -/
theorem wanted (s : PS) (h : s.Ok) (keep : List Int) (i : Nat) (hi : i < s.size) : layKept keep (layAll (fun _ => []) s.lastsOf) s.waitsOf i = (s.restarted keep).readB i ∧ (s.restarted keep).readE i = 0 := by
  have hl : layAll (fun _ => []) s.lastsOf i = s.L i := by
    rw [layAll_eq]
    have hh := layKept_at (s.lastsOf.map (·.1)) s.lastsOf (fun _ => []) i (lasts_up s) (fun p hp => by
      obtain ⟨h1, h2⟩ := (lasts_mem s h p.1 p.2).1 hp
      exact (h.l p.1 (by rw [h1]; exact h2)).1)
    by_cases he : s.L i = []
    · rw [he]
      exact hh.2 (fun l hm => absurd ((lasts_mem s h i l).1 hm) (fun ⟨e1, e2⟩ => e2 (by rw [← e1]; exact he)))
    · have hm := (lasts_mem s h i (s.L i)).2 ⟨rfl, he⟩
      exact hh.1 _ hm (List.mem_map.2 ⟨_, hm, rfl⟩)
  have hk := layKept_at keep s.waitsOf (layAll (fun _ => []) s.lastsOf) i (waits_up s) (fun p hp => (h.w p.1 (by rw [(waits_mem s h p.1 p.2).1 hp]; simp)).1)
  have hh : (s.restarted keep).has i = true := by
    rw [PS.has_iff]
    show 0 ≤ (i : Int) ∧ (i : Int) < (s.size : Int)
    omega
  have e1 : (s.restarted keep).readB i = if (i : Int) ∈ keep then s.held i else s.L i := by
    unfold PS.readB
    rw [hh]
    rfl
  refine ⟨?_, by unfold PS.readE; rw [hh]; rfl⟩
  rw [e1]
  by_cases hm : (i : Int) ∈ keep
  · rw [if_pos hm]
    cases hw : s.W i with
    | some l =>
      rw [hk.1 l ((waits_mem s h i l).2 hw) hm]
      unfold PS.held
      rw [hw]
      rfl
    | none =>
      rw [hk.2 (fun l hl => by rw [(waits_mem s h i l).1 hl] at hw; cases hw), hl]
      unfold PS.held
      rw [hw]
      rfl
  · rw [if_neg hm, hk.2 (fun l _ => hm), hl]
end

theorem waits_none (s : PS) (keep : List Int) : (s.restarted keep).waitsOf = [] := by
  unfold PS.waitsOf
  rw [List.filterMap_eq_nil_iff]
  intro k _
  rfl
theorem lasts_len (s : PS) : s.lastsOf.length ≤ s.size := by
  unfold PS.lastsOf
  refine Nat.le_trans (List.length_filter_le _ _) ?_
  simp
theorem waits_len (s : PS) : s.waitsOf.length ≤ s.size := by
  unfold PS.waitsOf
  refine Nat.le_trans (List.length_filterMap_le _ _) ?_
  simp

theorem hout_set {w : World} {F : Nat → Prop} {q x : Nat} {v : Value} {A : Option Addr} {qs : List (Int × List UInt8)} (h : HOut w (fun k => F k ∨ k = q) A qs) : HOut (w.setCell ⟨q, x, none⟩ v) (fun k => F k ∨ k = q) A qs :=
  (Moves.mk (Kept.setCell (F := fun k => F k ∨ k = q) w (a := ⟨q, x, none⟩) (Or.inr rfl) v) (fun _ hk => Or.inl hk)).hout h
theorem hout_drew {w : World} {F : Nat → Prop} {A : Option Addr} {qs : List (Int × List UInt8)} (h : HOut w F A qs) : HOut w.drew F A qs := h

/-- All that a loop that writes the texts leaves. -/
structure Wants (W : World) (F : Nat → Prop) (db : Nat) (s : PS) (q : Nat) (f : Nat → List UInt8) (w : World) : Prop where
  live : Live W F w db s
  texts : TextsAt w F q f
  base : W.heap.size ≤ q

theorem Wants.set {W : World} {F : Nat → Prop} {db : Nat} {s : PS} {q : Nat} {f : Nat → List UInt8} {w : World} (h : Wants W F db s q f w) {x : Nat} (hx : x < 8) (l : List UInt8) :
    Wants W F db s q (setAt f x l) (w.setCell ⟨q, x, none⟩ (.string ⟨l.toArray⟩)) :=
  ⟨⟨h.live.dk.kept (G := (· = q)) (Kept.setCell (F := (· = q)) w (a := ⟨q, x, none⟩) rfl _) (fun k hk e => h.texts.out (by rw [← e]; exact hk)), h.live.base, h.live.below.setCell h.base _⟩, h.texts.set hx l, h.base⟩

theorem Wants.drew {W : World} {F : Nat → Prop} {db : Nat} {s : PS} {q : Nat} {f : Nat → List UInt8} {w : World} (h : Wants W F db s q f w) : Wants W F db s q f w.drew :=
  ⟨⟨h.live.dk.below ⟨rfl, rfl, rfl, Nat.le_refl _, fun _ _ => rfl⟩, h.live.base, h.live.below.drew⟩, ⟨h.texts.blk, h.texts.out⟩, h.base⟩

theorem hwants_of {W : World} {F : Nat → Prop} {db : Nat} {s : PS} {q : Nat} {f : Nat → List UInt8} {w : World} (h1 : Live W F w db s) (h2 : TextsAt w F q f) (h3 : W.heap.size ≤ q) : Wants W F db s q f w := ⟨h1, h2, h3⟩

theorem Wants.drewN {W : World} {F : Nat → Prop} {db : Nat} {s : PS} {q : Nat} {f : Nat → List UInt8} {w : World} (h : Wants W F db s q f w) (n : Nat) : Wants W F db s q f (w.drewN n) :=
  ⟨⟨h.live.dk.below ⟨rfl, rfl, rfl, Nat.le_refl _, fun _ _ => rfl⟩, h.live.base, belowN h.live.below n⟩, ⟨h.texts.blk, h.texts.out⟩, h.base⟩

set_option maxRecDepth 20000 in
set_option maxHeartbeats 6400000 in
theorem walk {W : World} (A : Option Addr) (q cp : Nat) (cs : List Cl) (hl : cs.length = q) (hs : Script W W.heap.size A cs) (_ : q ≤ maxLen)
    (K : Option Addr) (kn kc : Nat) (keep : List Int) (hkl : keep.length = kn) (hk : Nums W W.heap.size K keep) (_ : kn ≤ maxLen) :
    Calls Try.prog 8 #[.slice A q cp, .slice K kn kc] W fun e W' => e = .returned (.bool true) ∧ Below W.heap.size W W' := by
  have HL := Lib.hid hl
  have HS := Lib.hid hs
  have HKL := Lib.hid hkl
  have HK := Lib.hid hk
  clear hl hs hkl hk
  have hmk : ∀ w, (Instr.makeSlice 55 (.int .i64 8) (.int .i64 8)).run Try.prog w = .ok (.slice (some ⟨w.heap.size, 0, none⟩) 8 8) (w.alloc (.cells #[.string ⟨#[]⟩, .string ⟨#[]⟩, .string ⟨#[]⟩, .string ⟨#[]⟩, .string ⟨#[]⟩, .string ⟨#[]⟩, .string ⟨#[]⟩, .string ⟨#[]⟩] 9)) := fun _ => by kernel_rfl
  go_enter Try.func8, Try.ntmps8
  go_wp2_with fail
  refine (awake_any _).mono ?_
  rintro e w1 ⟨rfl, b1⟩
  have B1 := Lib.hid b1
  clear b1
  go_wp2_with fail
  refine (new_live (W := W) w1 8 (by omega) (by omega) B1.out).mono ?_
  rintro e w2 ⟨db, F2, rfl, hv2, -, -⟩
  have HV2 : Hid (DoneRel W db 8 w2) := ⟨F2, _, hv2, rfl⟩
  have HB2 := Lib.hid hv2.below
  clear hv2 B1
  by_cases g3 : kn ≤ 60
  · go_wp2_with fail
    refine (done_any (W := W) w2 db 8 A q cp cs HL.out HS.out HV2.out).mono ?_
    rintro e w3 ⟨rfl, F3, s, hv3, hs3⟩
    have HV3 := Lib.hid hv3
    have HS3 := Lib.hid hs3
    clear hv3 hs3 HV2 HB2
    go_wp2_with fail
    have hw4 : Wants W F3 db s w3.heap.size (fun _ => []) (w3.alloc (.cells #[.string ⟨#[]⟩, .string ⟨#[]⟩, .string ⟨#[]⟩, .string ⟨#[]⟩, .string ⟨#[]⟩, .string ⟨#[]⟩, .string ⟨#[]⟩, .string ⟨#[]⟩] 9)) :=
      ⟨HV3.out.alloc _, ⟨heap_alloc_new w3 _, fun h => by have := HV3.out.dk.lt _ h; omega⟩, HV3.out.le⟩
    refine (lasts_live (W := W) _ hw4.live).mono ?_
    rintro e w5 ⟨A5, c5, rfl, hc5, ho5, hv5, hm5⟩
    have HW5 : Hid (Wants W F3 db s w3.heap.size (fun _ => []) w5) := ⟨hv5, hw4.texts.moves hm5, hw4.base⟩
    have HO5 := Lib.hid (ho5 (fun k => F3 k ∨ k = w3.heap.size) (fun k hk => by rcases hk with h | rfl; exact (hw4.live.dk.lt k h); simp))
    have hl8 : s.lastsOf.length ≤ 8 := HS3.out ▸ lasts_len s
    clear hw4 hc5 ho5 hv5 hm5 HV3 hmk
    generalize w3.heap.size = tq at *
    go_wp2_with fail
    go_loopw [10] (fun i wr => ∃ j : Nat, j ≤ s.lastsOf.length ∧ i = .int .i64 j ∧ Wants W F3 db s tq (layAll (fun _ => []) (s.lastsOf.take j)) wr ∧ HOut wr (fun k => F3 k ∨ k = tq) A5 s.lastsOf) (fun i _ => s.lastsOf.length - (RowKit.intOf i).toNat)
    case atStart => exact ⟨0, Nat.zero_le _, rfl, HW5.out, HO5.out⟩
    case round =>
      obtain ⟨j, hj, rfl, hwt, hot⟩ := hrel
      by_cases hlt : j < s.lastsOf.length
      · obtain ⟨b, off, p, A', c', rfl, hbG, hp, c0, c1, ho⟩ := hot.at_ hlt
        obtain ⟨x, hx8, hxe⟩ : ∃ x : Nat, x < 8 ∧ p.1 = (x : Int) := by
          obtain ⟨h1, h2⟩ := (lasts_mem s hwt.live.dk.ok p.1 p.2).1 (List.mem_of_getElem? hp)
          have h3 := hwt.live.dk.ok.l p.1 (by rw [h1]; exact h2)
          rw [HS3.out] at h3
          exact ⟨p.1.toNat, by omega, by omega⟩
        rw [hxe] at c0
        have hand := and7 x hx8
        have hcv := run_text (P := Try.prog) (w := wr.drew) (R := wr.heap.size) (show Bys wr.drew wr.heap.size A' p.2 from ho.bys) 32 9 5 p.2.length c' rfl Try.underlying32 Try.underlying5 Try.underlying9
        have t0 := hwt.texts.cell hx8
        have t1 := hwt.texts.free x
        have HWT := Lib.hid hwt
        have HOT := Lib.hid hot
        have HPP := Lib.hid hp
        have HXE := Lib.hid hxe
        clear hwt hot hp hxe ho hbG
        go_wp2_with fail
        go_region
        have HW6 := Lib.hid (HWT.out.set hx8 p.2).drew
        have HO6 := Lib.hid (hout_drew (hout_set (q := tq) (x := x) (v := .string ⟨p.2.toArray⟩) HOT.out))
        clear hcv hand t0 t1 c0 c1 HOT HWT
        go_wp2_with fail
        go_roundw
        case rel =>
          refine ⟨j + 1, by omega, by go_num, ?_, HO6.out⟩
          rw [layAll_step HPP.out, HXE.out, Int.toNat_natCast]
          exact HW6.out
        case measure => simp [RowKit.intOf]; omega
      · have hjl : s.lastsOf.take j = s.lastsOf := List.take_of_length_le (by omega)
        rw [hjl] at hwt
        have HW6 := Lib.hid hwt
        have HFZ : Hid (∀ i : Nat, i < 8 → layKept keep (layAll (fun _ => []) s.lastsOf) s.waitsOf i = (s.restarted keep).readB i ∧ (s.restarted keep).readE i = 0) := fun i hi => wanted s hwt.live.dk.ok keep i (by rw [HS3.out]; exact hi)
        clear hwt hot hjl HW5 HO5
        generalize layAll (fun _ => []) s.lastsOf = fl at *
        go_wp2_with fail
        refine (waits_live (W := W) _ HW6.out.live).mono ?_
        rintro e w7 ⟨A7, c7, rfl, hc7, ho7, hv7, hm7⟩
        have HW7 : Hid (Wants W F3 db s tq fl w7) := ⟨hv7, HW6.out.texts.moves hm7, HW6.out.base⟩
        have HO7 := Lib.hid (ho7 (fun k => F3 k ∨ k = tq) (fun k hk => by rcases hk with h | rfl; exact (HW6.out.live.dk.lt k h); exact HW6.out.texts.lt))
        have hl9 : s.waitsOf.length ≤ 8 := HS3.out ▸ waits_len s
        clear hc7 ho7 hv7 hm7 HW6 hlt hj hl8
        go_wp2_with fail
        go_loopw [12] (fun i wr => ∃ t : Nat, t ≤ s.waitsOf.length ∧ i = .int .i64 t ∧ Wants W F3 db s tq (layKept keep fl (s.waitsOf.take t)) wr ∧ HOut wr (fun k => F3 k ∨ k = tq) A7 s.waitsOf) (fun i _ => s.waitsOf.length - (RowKit.intOf i).toNat)
        case atStart => exact ⟨0, Nat.zero_le _, rfl, HW7.out, HO7.out⟩
        case round =>
          obtain ⟨t, ht, rfl, hwt, hot⟩ := hrel
          by_cases hlt : t < s.waitsOf.length
          · obtain ⟨b, off, p, -, -, rfl, -, hp, -, -, -⟩ := hot.at_ hlt
            obtain ⟨x, hx8, hxe⟩ : ∃ x : Nat, x < 8 ∧ p.1 = (x : Int) := by
              have h1 := (waits_mem s hwt.live.dk.ok p.1 p.2).1 (List.mem_of_getElem? hp)
              have h3 := hwt.live.dk.ok.w p.1 (by rw [h1]; simp)
              rw [HS3.out] at h3
              exact ⟨p.1.toNat, by omega, by omega⟩
            have HPP := Lib.hid hp
            have HXE := Lib.hid hxe
            have HST : Hid (layKept keep fl (s.waitsOf.take (t + 1)) = if p.1 ∈ keep then setAt (layKept keep fl (s.waitsOf.take t)) x p.2 else layKept keep fl (s.waitsOf.take t)) := by
              have := layKept_step (keep := keep) (f := fl) hp
              rw [this, hxe, Int.toNat_natCast]
              exact Lib.hid rfl
            have HWT := Lib.hid hwt
            have HOT := Lib.hid hot
            clear hp hxe hwt hot HW7 HO7
            generalize layKept keep fl (s.waitsOf.take t) = ft at *
            go_wp2_with fail
            obtain ⟨wo, hwo⟩ : ∃ wo : World, wo = wr := ⟨_, rfl⟩
            subst hwo
            go_loopw [13] (fun i wi => ∃ k : Nat, k ≤ kn ∧ i = .int .i64 k ∧ Wants W F3 db s tq (if p.1 ∈ keep.take k then setAt ft x p.2 else ft) wi ∧ HOut wi (fun k => F3 k ∨ k = tq) (some ⟨b, off, none⟩) s.waitsOf) (fun i _ => kn - (RowKit.intOf i).toNat)
            case atStart => exact ⟨0, Nat.zero_le _, rfl, by simpa using HWT.out, HOT.out⟩
            case round =>
              obtain ⟨k, hk, rfl, hwi, hoi⟩ := hrel
              by_cases hkl : k < kn
              · obtain ⟨kb, ko, z, rfl, hz, kc0, hz1, hz2⟩ := ((HK.out.below hwi.live.below).outN hwi.live.base).at_ (k := k) (by rw [HKL.out]; exact hkl)
                obtain ⟨b', off', p', A', c', e1, -, hp', d0, d1, ho⟩ := hoi.at_ hlt
                obtain ⟨rfl, rfl⟩ : b = b' ∧ off = off' := by
                  injection e1 with e1
                  injection e1 with e2 e3
                  exact ⟨e2, e3⟩
                obtain rfl : p = p' := Option.some.inj (HPP.out.symm.trans hp')
                rw [HXE.out] at d0
                have hand := and7 x hx8
                have hcv := run_text (P := Try.prog) (w := wr.drew.drew) (R := wr.heap.size) (show Bys wr.drew.drew wr.heap.size A' p.2 from ho.bys) 32 9 5 p.2.length c' rfl Try.underlying32 Try.underlying5 Try.underlying9
                have t0 := hwi.texts.cell hx8
                have t1 := hwi.texts.free x
                have HWI := Lib.hid hwi
                have HOI := Lib.hid hoi
                have HTK := Lib.hid (take_one hz)
                clear hwi hoi hp' e1 ho hz HWT HOT
                by_cases hzx : z = (x : Int)
                · subst hzx
                  have HW8 : Hid (Wants W F3 db s tq (if p.1 ∈ keep.take (k + 1) then setAt ft x p.2 else ft) (wr.setCell ⟨tq, x, none⟩ (.string ⟨p.2.toArray⟩)).drew.drew) := by
                    have := (HWI.out.set hx8 p.2).drew.drew
                    rw [if_pos (by rw [HTK.out, HXE.out]; simp)]
                    by_cases hm : p.1 ∈ keep.take k
                    · rw [if_pos hm, setAt_twice] at this
                      exact this
                    · rw [if_neg hm] at this
                      exact this
                  have HO8 := Lib.hid (hout_drew (hout_drew (hout_set (q := tq) (x := x) (v := .string ⟨p.2.toArray⟩) HOI.out)))
                  clear HWI HOI
                  go_wp2_with fail
                  go_region
                  go_wp2_with fail
                  go_region
                  clear hcv hand t0 t1 d0 d1 kc0
                  go_wp2_with fail
                  go_roundw
                  case rel => exact ⟨k + 1, by omega, by go_num, HW8.out, HO8.out⟩
                  case measure => simp [RowKit.intOf]; omega
                · have hzb : (z == (x : Int)) = false := by rw [beq_eq_false_iff_ne]; exact hzx
                  have HW8 : Hid (Wants W F3 db s tq (if p.1 ∈ keep.take (k + 1) then setAt ft x p.2 else ft) wr.drew) := by
                    have := HWI.out.drew
                    by_cases hm : p.1 ∈ keep.take k
                    · rw [if_pos hm] at this
                      rw [if_pos (by rw [HTK.out]; simp [hm])]
                      exact this
                    · rw [if_neg hm] at this
                      rw [if_neg (by rw [HTK.out, HXE.out]; rw [HXE.out] at hm; simp [hm]; exact fun e => hzx e.symm)]
                      exact this
                  have HO8 := Lib.hid (hout_drew HOI.out)
                  clear HWI HOI hzx
                  go_wp2_with fail
                  go_region
                  clear hcv hand t0 t1 d0 d1 kc0
                  go_wp2_with fail
                  go_roundw
                  case rel => exact ⟨k + 1, by omega, by go_num, HW8.out, HO8.out⟩
                  case measure => simp [RowKit.intOf]; omega
              · have hkk : keep.take k = keep := List.take_of_length_le (by rw [HKL.out]; omega)
                rw [hkk, ← HST.out] at hwi
                have HWI := Lib.hid hwi
                have HOI := Lib.hid hoi
                clear hwi hoi hkk HWT HOT
                go_wp2_with fail
                go_roundw
                case rel => exact ⟨t + 1, by omega, by go_num, HWI.out, HOI.out⟩
                case measure => simp [RowKit.intOf]; omega
          · have htl : s.waitsOf.take t = s.waitsOf := List.take_of_length_le (by omega)
            rw [htl] at hwt
            have HW8 := Lib.hid hwt
            clear hwt hot htl HW7 HO7
            generalize layKept keep fl s.waitsOf = fz at *
            go_wp2_with fail
            refine (restart_live (W := W) _ K kn kc keep HKL.out (by omega) ((HK.out.below HW8.out.live.below).outN HW8.out.live.base) HW8.out.live).mono ?_
            rintro e w9 ⟨rfl, F9, hv9, hm9⟩
            have HW9 : Hid (Wants W F9 db (s.restarted keep) tq fz w9) := ⟨hv9, HW8.out.texts.moves hm9, HW8.out.base⟩
            clear hv9 hm9 HW8
            go_wp2_with fail
            go_loopw [14] (fun i wr => ∃ t : Nat, t ≤ 8 ∧ i = .int .i64 t ∧ Wants W F9 db (s.restarted keep) tq fz wr) (fun i _ => 8 - (RowKit.intOf i).toNat)
            case atStart => exact ⟨0, Nat.zero_le _, rfl, HW9.out⟩
            case round =>
              obtain ⟨t, ht, rfl, hwt⟩ := hrel
              have HWT := Lib.hid hwt
              clear hwt HW9
              by_cases ht8 : t < 8
              · obtain ⟨z1, z2⟩ := HFZ.out t ht8
                have Z1 := Lib.hid z1
                have Z2 := Lib.hid z2
                clear z1 z2
                go_wp2_with fail
                refine (read_live (W := W) wr t (by omega) (by omega) HWT.out.live).mono ?_
                rintro e w10 ⟨A10, c10, rfl, ho10, hv10, hm10⟩
                rw [Z2.out]
                have hx10 := hwants_of hv10 (HWT.out.texts.moves hm10) HWT.out.base
                have t0 := hx10.texts.cell ht8
                rw [Z1.out] at t0
                have HW10 := Lib.hid hx10
                clear hv10 hm10 hx10 HWT
                generalize (s.restarted keep).readB t = l at *
                have hcv := fun n => run_text (P := Try.prog) (w := w10.drewN n) (R := w10.heap.size) (show Bys (w10.drewN n) w10.heap.size A10 l from ho10.bys) 32 9 5 l.length c10 rfl Try.underlying32 Try.underlying5 Try.underlying9
                clear ho10
                go_wp2_with fail
                go_quiet (fail)
                clear hcv t0
                go_wp2_with fail
                go_roundw
                case rel => exact ⟨t + 1, by omega, by go_num, HW10.out.drewN _⟩
                case measure => simp [RowKit.intOf]; omega
              · go_wp2_with fail
                refine (waits_live (W := W) _ HWT.out.live).mono ?_
                rintro e w10 ⟨A10, c10, rfl, -, -, hv10, -⟩
                rw [show (s.restarted keep).waitsOf.length = 0 from by rw [waits_none s keep]; rfl]
                have HV10 := Lib.hid hv10
                clear hv10 HWT
                go_wp2_with fail
                refine (down_any _ HV10.out.dk).mono ?_
                rintro e w' ⟨rfl, rfl⟩
                rw [show (s.restarted keep).down = false from rfl]
                go_wp2_with fail
                go_ret
                exact ⟨rfl, HV10.out.below⟩
  · go_wp2_with fail
    go_ret
    exact ⟨rfl, HB2.out⟩

set_option maxRecDepth 100000 in
theorem lifted (os : Os) (started : os.Started) (H : Type) (enc : TypeId × Value → H) :
    ReturnsInHanded {} Try.checked os 8 .any (Rows.diskCrashSpec.pre6 enc Try.prog Try.f8 Rows.diskCrashRow.domain false)
      (Rows.diskCrashSpec.post enc Try.prog Try.f8 false true false false) := by
  refine lift_law (C := Try.checked) (tb := 4) ownKnobs started (by kernel_rfl) Try.func8
    (ChangeSpec.witness6 (enc := enc) (C := Try.checked) false ⟨#[], #[.slice none 0 0, .slice none 0 0], []⟩ 8 (by kernel_rfl) (by kernel_rfl) (by kernel_rfl) (by kernel_rfl))
    laidOut ?_ rfl rfl Try.underlying4 ?_ ?_
  · intro t ht
    rw [Try.params8] at ht
    simp only [List.mem_cons, List.not_mem_nil, or_false] at ht
    rcases ht with rfl | rfl <;> exact ⟨by kernel_rfl, of_decide_eq_true (by kernel_rfl)⟩
  · intro vs ds W p hA
    rw [Try.params8] at hA
    obtain ⟨v0, vs0, d0, ds0, p0, q0, ha, rfl, rfl, h0, r0⟩ := trodAll_cons hA
    obtain ⟨v1, vs1, d1, ds1, p1, q1, rfl, rfl, rfl, h1, r1⟩ := trodAll_cons r0
    obtain ⟨rfl, rfl, rfl⟩ := trodAll_nil r1
    rfl
  · intro W base args ds p hval hA
    rw [Try.params8] at hA hval
    obtain ⟨v0, vs0, d0, ds0, p0, q0, ha, rfl, rfl, h0, r0⟩ := trodAll_cons hA
    obtain ⟨v1, vs1, d1, ds1, p1, q1, rfl, rfl, rfl, h1, r1⟩ := trodAll_cons r0
    obtain ⟨rfl, rfl, rfl⟩ := trodAll_nil r1
    obtain rfl : args = #[v0, v1] := by cases args; simp_all
    obtain ⟨A0, n0, c0, xs0, rfl, e0, hr0, y0⟩ := open_calls (hval 0 _ v0 rfl rfl) h0
    obtain ⟨A1, n1, c1, xs1, rfl, e1, hr1, y1⟩ := open_numsR (hval 1 _ v1 rfl rfl) h1
    exact walk A0 n0 c0 xs0 e0 hr0 y0 A1 n1 c1 xs1 e1 hr1 y1

/-- The statement. -/
theorem proved : Rows.DiskCrashSaid :=
  OpenClaim.holds_of_wide 8 Try.f8 rfl rfl rfl rfl rfl rfl rfl ⟨rfl, rfl, rfl, rfl, rfl⟩ rfl rfl rfl rfl rfl (by kernel_rfl) Try.func8 (by kernel_rfl)
    (of_decide_eq_true (by kernel_rfl)) (by unfold Func.isWrapper; first | (rw [if_pos (by decide +kernel)]; kernel_rfl) | (rw [if_neg (by decide +kernel)]; exact ⟨rfl, rfl⟩))
    (fun os started H enc _ => lifted os started H enc)
#print axioms proved
end Go.Proofs.Ytillllegbgaalaa.diskCrash
