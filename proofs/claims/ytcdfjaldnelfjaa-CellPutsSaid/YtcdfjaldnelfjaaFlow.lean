/-
  A region that draws, whose operations each leave a value of their own and change nothing that was there: by what each value is, whatever the order; what comes behind all of them (a store) is left to be walked.
-/
import Derived.Test.YtcdfjaldnelfjaaAnyInv
import Derived.Test.YtcdfjaldnelfjaaBase
namespace Go.Proofs.Ytcdfjaldnelfjaa
open Go.RowKit

section
variable {P : Program} {ops : Array Oper} {Q : Exit → Act → World → Prop}

/-- Slots that are written, each by one operation, lie within the frame. -/
def apart (ops : Array Oper) (n : Nat) : Bool :=
  ((List.range ops.size).all fun i => match (ops[i]?).bind (·.dst) with
    | none => true
    | some d => decide (d < n)) &&
  ((List.range ops.size).all fun i => (List.range ops.size).all fun j => decide (i = j) || (match (ops[i]?).bind (·.dst), (ops[j]?).bind (·.dst) with
    | some d, some e => decide (d ≠ e)
    | _, _ => true))
/-- What comes at cut or later comes behind all that is ahead of it. -/
def closes (ops : Array Oper) (cut : Nat) : Bool :=
  (List.range ops.size).all fun i => decide (i < cut) || (List.range cut).all fun j => ((ops[i]?).map fun o => o.after.any fun e => decide (e.on = j) && Region.binds .any e).getD false
/-- A slot that the region does not write. -/
def spared (ops : Array Oper) (j : Nat) : Bool := (List.range ops.size).all fun i => match (ops[i]?).bind (·.dst) with
  | none => true
  | some d => decide (d ≠ j)

/-- What comes ahead has a smaller number, of what binds. -/
def rising (ops : Array Oper) : Bool := (List.range ops.size).all fun j => ((ops[j]?).map fun o => o.after.all fun e => !Region.binds .any e || decide (e.on < j)).getD true
theorem rising_spec (h : rising ops = true) {j : Nat} {o : Oper} (ho : ops[j]? = some o) {e : Edge} (he : e ∈ o.after) (hb : Region.binds .any e = true) : e.on < j := by
  have hlt : j < ops.size := (Array.getElem?_eq_some_iff.1 ho).1
  have h1 := List.all_eq_true.1 h j (List.mem_range.2 hlt)
  rw [ho] at h1
  simp only [Option.map_some, Option.getD_some] at h1
  have h2 := Array.all_eq_true_iff_forall_mem.1 h1 e he
  rw [hb] at h2
  simpa using h2
theorem all_risen (hu : rising ops = true) {listed : Array Bool} (hl : listed.size = ops.size) (hr : Region.ready .any ops listed = []) : ∀ j, j < ops.size → lst listed j = true := by
  intro j
  induction j using Nat.strongRecOn with
  | ind j ih =>
    intro hj
    cases hc : lst listed j with
    | true => rfl
    | false =>
      exfalso
      have ho : ops[j]? = some ops[j] := Array.getElem?_eq_getElem hj
      have hm : j ∈ Region.ready .any ops listed := by
        refine mem_ready.2 ⟨?_, ops[j], ho, fun e he hb => ?_⟩
        · unfold lst at hc
          have hjl : j < listed.size := by omega
          simp only [Array.getD_eq_getD_getElem?, Array.getElem?_eq_getElem hjl, Option.getD_some] at hc ⊢
          exact hc
        · have := rising_spec hu ho he hb
          exact ih e.on this (by omega)
      rw [hr] at hm
      cases hm

theorem apart_lt {n : Nat} (h : apart ops n = true) {i d : Nat} {o : Oper} (ho : ops[i]? = some o) (hd : o.dst = some d) : d < n := by
  unfold apart at h
  rw [Bool.and_eq_true] at h
  have hi : i < ops.size := (Array.getElem?_eq_some_iff.1 ho).1
  have h1 := List.all_eq_true.1 h.1 i (List.mem_range.2 hi)
  rw [ho, Option.bind_some, hd] at h1
  simpa using h1
theorem apart_ne {n : Nat} (h : apart ops n = true) {i j d e : Nat} {o u : Oper} (ho : ops[i]? = some o) (hd : o.dst = some d) (hu : ops[j]? = some u) (he : u.dst = some e) (hne : i ≠ j) : d ≠ e := by
  unfold apart at h
  rw [Bool.and_eq_true] at h
  have hi : i < ops.size := (Array.getElem?_eq_some_iff.1 ho).1
  have hj : j < ops.size := (Array.getElem?_eq_some_iff.1 hu).1
  have h1 := List.all_eq_true.1 (List.all_eq_true.1 h.2 i (List.mem_range.2 hi)) j (List.mem_range.2 hj)
  rw [ho, hu, Option.bind_some, Option.bind_some, hd, he] at h1
  rcases (Bool.or_eq_true _ _).mp h1 with h1 | h1
  · exact absurd (of_decide_eq_true h1) hne
  · exact of_decide_eq_true h1
theorem spared_ne {j : Nat} (h : spared ops j = true) {i d : Nat} {o : Oper} (ho : ops[i]? = some o) (hd : o.dst = some d) : d ≠ j := by
  have hi : i < ops.size := (Array.getElem?_eq_some_iff.1 ho).1
  have h1 := List.all_eq_true.1 h i (List.mem_range.2 hi)
  rw [ho, Option.bind_some, hd] at h1
  exact of_decide_eq_true h1
theorem closes_spec {cut : Nat} (h : closes ops cut = true) {i j : Nat} {o : Oper} (ho : ops[i]? = some o) (hc : ¬ i < cut) (hj : j < cut) : ∃ e ∈ o.after, e.on = j ∧ Region.binds .any e = true := by
  have hi : i < ops.size := (Array.getElem?_eq_some_iff.1 ho).1
  have h1 := List.all_eq_true.1 h i (List.mem_range.2 hi)
  rw [decide_eq_false hc, Bool.false_or] at h1
  have h2 := List.all_eq_true.1 h1 j (List.mem_range.2 hj)
  rw [ho] at h2
  simp only [Option.map_some, Option.getD_some] at h2
  obtain ⟨e, he, hb⟩ := Array.any_eq_true'.1 h2
  rw [Bool.and_eq_true] at hb
  exact ⟨e, he, of_decide_eq_true hb.1, hb.2⟩

theorem put_eval_at {a : Act} {d : Nat} (v : Value) (h : d < a.tmps.size) : (a.put (some d) v).eval (.tmp d) = v := by
  unfold Act.put Act.eval
  simp [h]
theorem put_eval_ne {a : Act} {d j : Nat} (v : Value) (h : d ≠ j) : (a.put (some d) v).eval (.tmp j) = a.eval (.tmp j) := by
  unfold Act.put Act.eval
  simp [Array.getElem?_setIfInBounds_ne h]

/-- What holds while the operations come: L tells which have come. -/
structure Flow (ops : Array Oper) (cut : Nat) (a0 : Act) (w0 : World) (F : Nat → Value → World → Prop) (L : Nat → Bool) (a : Act) (w : World) : Prop where
  sz : a.tmps.size = a0.tmps.size
  df : a.defers = a0.defers
  old : ∀ j, spared ops j = true → a.eval (.tmp j) = a0.eval (.tmp j)
  below : Below w0.heap.size w0 w
  got : ∀ i o d, ops[i]? = some o → i < cut → L i = true → o.dst = some d → F i (a.eval (.tmp d)) w
  tail : ∀ i, cut ≤ i → L i = false

theorem Flow.ext {cut : Nat} {a0 a : Act} {w0 w : World} {F : Nat → Value → World → Prop} {L L' : Nat → Bool} (h : Flow ops cut a0 w0 F L a w) (e : ∀ j, L j = L' j) : Flow ops cut a0 w0 F L' a w :=
  ⟨h.sz, h.df, h.old, h.below, fun i o d ho hi hl hd => h.got i o d ho hi (by rw [e]; exact hl) hd, fun i hi => by rw [← e]; exact h.tail i hi⟩

theorem Flow.step {cut : Nat} {a0 a : Act} {w0 w w' : World} {F : Nat → Value → World → Prop} {L : Nat → Bool} {i d : Nat} {o : Oper} {v : Value}
    (h : Flow ops cut a0 w0 F L a w) (hap : apart ops a0.tmps.size = true) (hF : ∀ i v w w', F i v w → Below w.heap.size w w' → F i v w')
    (hi : i < cut) (ho : ops[i]? = some o) (hd : o.dst = some d) (hv : F i v w') (hb : Below w.heap.size w w') :
    Flow ops cut a0 w0 F (fun j => decide (j = i) || L j) (a.put (some d) v) w' := by
  have hlt : d < a.tmps.size := by rw [h.sz]; exact apart_lt hap ho hd
  refine ⟨by rw [← h.sz]; simp [Act.put], h.df, fun j hj => ?_, h.below.trans (hb.mono h.below.size), fun k u e hk hc hl he => ?_, fun j hj => ?_⟩
  · rw [put_eval_ne v (spared_ne hj ho hd)]
    exact h.old j hj
  · by_cases hki : k = i
    · subst hki
      obtain rfl : o = u := by rw [ho] at hk; exact Option.some.inj hk
      obtain rfl : d = e := by rw [hd] at he; exact Option.some.inj he
      rw [put_eval_at v hlt]
      exact hv
    · rw [put_eval_ne v (apart_ne hap ho hd hk he (fun x => hki x.symm))]
      refine hF k _ w w' (h.got k u e hk hc ?_ he) hb
      simpa [hki] using hl
  · rw [h.tail j hj]
    have : ¬ j = i := by omega
    simp [this]

def todoC (cut : Nat) (listed : Array Bool) : Nat := ((List.range cut).filter fun j => !lst listed j).length
/-- The first ones, and no more. -/
def firsts (n cut : Nat) : Array Bool := ((List.range n).map fun i => decide (i < cut)).toArray

theorem wpAny_flow {cut tl : Nat} {a0 : Act} {w0 : World} (F : Nat → Value → World → Prop) (hsz : ops.size = cut + tl) (hu : rising ops = true) (hap : apart ops a0.tmps.size = true) (hcl : closes ops cut = true)
    (hF : ∀ i v w w', F i v w → Below w.heap.size w w' → F i v w')
    (hstep : ∀ i o L a w, i < cut → ops[i]? = some o → Flow ops cut a0 w0 F L a w → (∀ e ∈ o.after, Region.binds .any e = true → L e.on = true) →
      wpOp P ops Q i (fun a' w' => ∃ v d, o.dst = some d ∧ a' = a.put (some d) v ∧ F i v w' ∧ Below w.heap.size w w') a w)
    (hend : ∀ m L a w, Flow ops cut a0 w0 F L a w → (∀ i, i < cut → L i = true) → wpAny P .any ops Q (m + tl) (firsts ops.size cut) a w) :
    ∀ (fuel : Nat) (listed : Array Bool) (a : Act) (w : World), listed.size = ops.size → todoC cut listed ≤ fuel → Flow ops cut a0 w0 F (lst listed) a w → wpAny P .any ops Q (fuel + tl) listed a w := by
  intro fuel
  have full : ∀ (listed : Array Bool) (a : Act) (w : World), listed.size = ops.size → Flow ops cut a0 w0 F (lst listed) a w → (∀ i, i < cut → lst listed i = true) → listed = firsts ops.size cut := by
    intro listed a w hl hI hall
    apply Array.ext
    · simp [firsts, hl]
    · intro i h1 h2
      have e : listed[i] = lst listed i := by unfold lst; simp [h1]
      rw [e]
      have e2 : (firsts ops.size cut)[i] = decide (i < cut) := by simp [firsts]
      rw [e2]
      by_cases hc : i < cut
      · rw [hall i hc, decide_eq_true hc]
      · rw [hI.tail i (by omega), decide_eq_false hc]
  induction fuel with
  | zero =>
    intro listed a w hl ht hI
    have hall : ∀ j, j < cut → lst listed j = true := by
      intro j hj
      cases hc : lst listed j with
      | true => rfl
      | false =>
        exfalso
        have : j ∈ (List.range cut).filter fun j => !lst listed j := List.mem_filter.2 ⟨List.mem_range.2 hj, by simp [hc]⟩
        have h0 : (List.range cut).filter (fun j => !lst listed j) = [] := List.eq_nil_of_length_eq_zero (Nat.le_zero.1 ht)
        rw [h0] at this
        cases this
    rw [full listed a w hl hI hall]
    exact hend 0 _ a w hI hall
  | succ fuel ih =>
    intro listed a w hl ht hI
    by_cases hall : ∀ j, j < cut → lst listed j = true
    · rw [full listed a w hl hI hall]
      exact hend (fuel + 1) _ a w hI hall
    · have hnall : ∃ j, j < cut ∧ lst listed j = false := by
        apply Classical.byContradiction
        intro hn
        refine hall (fun j hj => ?_)
        cases hc : lst listed j with
        | true => rfl
        | false => exact absurd ⟨j, hj, hc⟩ hn
      obtain ⟨j0, hj0, hf0⟩ := hnall
      rw [show fuel + 1 + tl = (fuel + tl) + 1 by omega]
      refine ⟨fun hr => ?_, fun i hi => ?_⟩
      · have := all_risen hu hl hr j0 (by omega)
        rw [hf0] at this
        cases this
      · obtain ⟨h0, o, ho, hd⟩ := mem_ready.1 hi
        have hlt : i < ops.size := (Array.getElem?_eq_some_iff.1 ho).1
        have hil : i < listed.size := by omega
        have h1 : lst listed i = false := by
          unfold lst
          simp only [Array.getD_eq_getD_getElem?, Array.getElem?_eq_getElem hil, Option.getD_some] at h0 ⊢
          exact h0
        have hic : i < cut := by
          apply Classical.byContradiction
          intro hn
          obtain ⟨e, he, e1, e2⟩ := closes_spec hcl ho hn hj0
          have := hd e he e2
          rw [e1] at this
          unfold lst at hf0
          rw [hf0] at this
          cases this
        refine wpOp_mono ?_ (hstep i o (lst listed) a w hic ho hI hd)
        rintro a' w' ⟨v, d, e1, rfl, hv, hb⟩
        refine ih _ _ w' (by simp [hl]) ?_ ((hI.step hap hF hic ho e1 hv hb).ext (fun j => (lst_set hil j).symm))
        have hlt2 : todoC cut (listed.setIfInBounds i true) < todoC cut listed := by
          unfold todoC
          refine filter_lt (fun j hj => ?_) (i := i) (by simp [h1]) (by simp [lst_set hil]) _ (List.mem_range.2 hic)
          rw [lst_set hil] at hj
          revert hj
          cases lst listed j <;> simp
        omega

/-- At the region. -/
theorem wp_region_flow {id : Nat} {a0 : Act} {w0 : World} (cut tl : Nat) (F : Nat → Value → World → Prop) (hm : P.follows .mixedOrders = true) (hsz : ops.size = cut + tl) (hu : rising ops = true) (hap : apart ops a0.tmps.size = true) (hcl : closes ops cut = true)
    (hF : ∀ i v w w', F i v w → Below w.heap.size w w' → F i v w')
    (hstep : ∀ i o L a w, i < cut → ops[i]? = some o → Flow ops cut a0 w0 F L a w → (∀ e ∈ o.after, Region.binds .any e = true → L e.on = true) →
      wpOp P ops Q i (fun a' w' => ∃ v d, o.dst = some d ∧ a' = a.put (some d) v ∧ F i v w' ∧ Below w.heap.size w w') a w)
    (hend : ∀ m L a w, Flow ops cut a0 w0 F L a w → (∀ i, i < cut → L i = true) → wpAny P .any ops Q (m + tl) (firsts ops.size cut) a w) :
    (Code.region id ops true).wp P Q a0 w0 := by
  refine wp_region_any hm ?_
  conv => arg 5; rw [hsz]
  refine wpAny_flow F hsz hu hap hcl hF hstep hend cut _ a0 _ (by simp) (Nat.le_trans (List.length_filter_le _ _) (by simp)) ?_
  exact ⟨rfl, rfl, fun _ _ => rfl, (Below.refl _ _).drew, (fun i o d _ _ hl _ => by rw [lst_none] at hl; cases hl), fun i _ => lst_none _ i⟩

/-- A frame, written out. -/
theorem spreadN {a : Act} {N : Nat} (F : Nat → Value) (hs : a.tmps.size = N) (hF : ∀ j, j < N → F j = a.eval (.tmp j)) (hd : a.defers = []) : a = ⟨((List.range N).map F).toArray, []⟩ := by
  obtain ⟨t, d⟩ := a
  obtain rfl : d = [] := hd
  congr 1
  apply Array.ext
  · simp [hs]
  · intro i h1 h2
    have h3 : i < N := by simpa using h2
    have := hF i h3
    simp [Act.eval, h1] at this
    simp [this]
theorem Flow.frame {cut : Nat} {a0 a : Act} {w0 w : World} {F : Nat → Value → World → Prop} {L : Nat → Bool} (h : Flow ops cut a0 w0 F L a w) (N : Nat) (p : Nat → Bool) (hN : a0.tmps.size = N) (hp : ((List.range N).all fun j => !p j || spared ops j) = true) (hd : a0.defers = []) :
    a = ⟨((List.range N).map (fun j => cond (p j) (a0.eval (.tmp j)) (a.eval (.tmp j)))).toArray, []⟩ := by
  refine spreadN _ (h.sz.trans hN) (fun j hj => ?_) (h.df.trans hd)
  cases hc : p j with
  | false => rfl
  | true =>
    have h1 := List.all_eq_true.1 hp j (List.mem_range.2 hj)
    rw [hc] at h1
    exact (h.old j (by simpa using h1)).symm

theorem got {a : Act} {j : Nat} {v : Value} (h : a.eval (.tmp j) = v) : a.tmps[j]?.getD undef = v := by
  rw [← h]
  simp [Act.eval]
end
end Go.Proofs.Ytcdfjaldnelfjaa
