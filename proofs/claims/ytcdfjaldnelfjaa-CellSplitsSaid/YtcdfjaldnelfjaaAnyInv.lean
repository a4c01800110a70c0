/-
  A region that draws, by an invariant: whatever comes next keeps it, and where all is done it gives what is asked. For regions whose orders are too many to be walked one by one.
-/
import Derived.RegionTactic
import Derived.KernelRfl
namespace Go.Proofs.Ytcdfjaldnelfjaa

section
variable {P : Program} {ops : Array Oper} {Q : Exit → Act → World → Prop} {md : Region.Mode}

/-- What is done, as a function. -/
def lst (listed : Array Bool) (j : Nat) : Bool := listed.getD j false

/-- How many are not done. -/
def todo (n : Nat) (listed : Array Bool) : Nat := ((List.range n).filter fun j => !lst listed j).length

theorem lst_set {listed : Array Bool} {i : Nat} (hi : i < listed.size) (j : Nat) : lst (listed.setIfInBounds i true) j = (decide (j = i) || lst listed j) := by
  unfold lst
  by_cases h : i = j
  · subst h
    simp [hi]
  · rw [getD_set_ne false h]
    have : ¬ j = i := fun e => h e.symm
    simp [this]

theorem filter_le {p q : Nat → Bool} (h : ∀ j, q j = true → p j = true) : ∀ l : List Nat, (l.filter q).length ≤ (l.filter p).length
  | [] => Nat.le_refl _
  | x :: l => by
    have ih := filter_le h l
    cases hq : q x with
    | true => simp [hq, h x hq]; exact ih
    | false =>
      cases hp : p x with
      | true => simp [hq, hp]; omega
      | false => simp [hq, hp]; exact ih

theorem filter_lt {p q : Nat → Bool} (h : ∀ j, q j = true → p j = true) {i : Nat} (hp : p i = true) (hq : q i = false) : ∀ l : List Nat, i ∈ l → (l.filter q).length < (l.filter p).length
  | [], h => by cases h
  | x :: l, hm => by
    rcases List.mem_cons.1 hm with e | hm
    · subst e
      have := filter_le h l
      simp [hp, hq]
      omega
    · have ih := filter_lt h hp hq l hm
      cases hq' : q x with
      | true => simp [hq', h x hq']; exact ih
      | false =>
        cases hp' : p x with
        | true => simp [hq', hp']; omega
        | false => simp [hq', hp']; exact ih

/-- What comes ahead has a smaller number. -/
def upward (ops : Array Oper) : Bool := (List.range ops.size).all fun j => ((ops[j]?).map fun o => o.after.all fun e => decide (e.on < j)).getD true

theorem upward_spec (h : upward ops = true) {j : Nat} {o : Oper} (ho : ops[j]? = some o) {e : Edge} (he : e ∈ o.after) : e.on < j := by
  have hlt : j < ops.size := (Array.getElem?_eq_some_iff.1 ho).1
  have h1 := List.all_eq_true.1 h j (List.mem_range.2 hlt)
  rw [ho] at h1
  simp only [Option.map_some, Option.getD_some] at h1
  have h2 := Array.all_eq_true_iff_forall_mem.1 h1 e he
  simpa using h2

/-- Where nothing may come next, all is done. -/
theorem all_done (hu : upward ops = true) {listed : Array Bool} (hl : listed.size = ops.size) (hr : Region.ready md ops listed = []) : ∀ j, j < ops.size → lst listed j = true := by
  intro j
  induction j using Nat.strongRecOn with
  | ind j ih =>
    intro hj
    cases hc : lst listed j with
    | true => rfl
    | false =>
      exfalso
      have ho : ops[j]? = some ops[j] := Array.getElem?_eq_getElem hj
      have hm : j ∈ Region.ready md ops listed := by
        refine mem_ready.2 ⟨?_, ops[j], ho, fun e he _ => ?_⟩
        · unfold lst at hc
          have hjl : j < listed.size := by omega
          simp only [Array.getD_eq_getD_getElem?, Array.getElem?_eq_getElem hjl, Option.getD_some] at hc ⊢
          exact hc
        · have := upward_spec hu ho he
          exact ih e.on this (by omega)
      rw [hr] at hm
      cases hm

/-- THE LAW. -/
theorem wpAny_inv (Inv : (Nat → Bool) → Act → World → Prop) (hu : upward ops = true)
    (hext : ∀ L L' a w, (∀ j, L j = L' j) → Inv L a w → Inv L' a w)
    (hstep : ∀ L a w i o, Inv L a w → ops[i]? = some o → L i = false → (∀ e ∈ o.after, Region.binds md e = true → L e.on = true) → wpOp P ops Q i (Inv fun j => decide (j = i) || L j) a w)
    (hend : ∀ L a w, Inv L a w → (∀ j, j < ops.size → L j = true) → Q .normal a w) :
    ∀ (fuel : Nat) (listed : Array Bool) (a : Act) (w : World), listed.size = ops.size → todo ops.size listed ≤ fuel → Inv (lst listed) a w → wpAny P md ops Q fuel listed a w := by
  intro fuel
  induction fuel with
  | zero =>
    intro listed a w hl ht hI
    have hall : ∀ j, j < ops.size → lst listed j = true := by
      intro j hj
      cases hc : lst listed j with
      | true => rfl
      | false =>
        exfalso
        have : j ∈ (List.range ops.size).filter fun j => !lst listed j := List.mem_filter.2 ⟨List.mem_range.2 hj, by simp [hc]⟩
        have h0 : (List.range ops.size).filter (fun j => !lst listed j) = [] := List.eq_nil_of_length_eq_zero (Nat.le_zero.1 ht)
        rw [h0] at this
        cases this
    refine ⟨?_, hend _ a w hI hall⟩
    refine List.eq_nil_iff_forall_not_mem.2 fun j hj => ?_
    obtain ⟨h0, o, ho, _⟩ := mem_ready.1 hj
    have hlt : j < ops.size := (Array.getElem?_eq_some_iff.1 ho).1
    have h1 := hall j hlt
    have hjl : j < listed.size := by omega
    unfold lst at h1
    simp only [Array.getD_eq_getD_getElem?, Array.getElem?_eq_getElem hjl, Option.getD_some] at h0 h1
    rw [h0] at h1
    cases h1
  | succ fuel ih =>
    intro listed a w hl ht hI
    refine ⟨fun hr => hend _ a w hI (all_done hu hl hr), fun i hi => ?_⟩
    obtain ⟨h0, o, ho, hd⟩ := mem_ready.1 hi
    have hlt : i < ops.size := (Array.getElem?_eq_some_iff.1 ho).1
    have hil : i < listed.size := by omega
    have h1 : lst listed i = false := by
      unfold lst
      simp only [Array.getD_eq_getD_getElem?, Array.getElem?_eq_getElem hil, Option.getD_some] at h0 ⊢
      exact h0
    refine wpOp_mono ?_ (hstep (lst listed) a w i o hI ho h1 hd)
    intro a' w' hI'
    refine ih _ a' w' (by simp [hl]) ?_ (hext _ _ a' w' (fun j => (lst_set hil j).symm) hI')
    have hlt2 : todo ops.size (listed.setIfInBounds i true) < todo ops.size listed := by
      unfold todo
      refine filter_lt (fun j hj => ?_) (i := i) (by simp [h1]) (by simp [lst_set hil]) _ (List.mem_range.2 hlt)
      rw [lst_set hil] at hj
      revert hj
      cases lst listed j <;> simp
    omega

theorem lst_none (n j : Nat) : lst (Array.replicate n false) j = false := by
  unfold lst
  by_cases h : j < n <;> simp [h]

/-- At the region. -/
theorem wp_region_inv {id : Nat} {a : Act} {w : World} (hm : P.follows .mixedOrders = true) (Inv : (Nat → Bool) → Act → World → Prop) (hu : upward ops = true)
    (hext : ∀ L L' a w, (∀ j, L j = L' j) → Inv L a w → Inv L' a w)
    (hstep : ∀ L a w i o, Inv L a w → ops[i]? = some o → L i = false → (∀ e ∈ o.after, Region.binds .any e = true → L e.on = true) → wpOp P ops Q i (Inv fun j => decide (j = i) || L j) a w)
    (hend : ∀ L a w, Inv L a w → (∀ j, j < ops.size → L j = true) → Q .normal a w)
    (h0 : Inv (fun _ => false) a { w with drawn := w.drawn + 1 }) : (Code.region id ops true).wp P Q a w := by
  refine wp_region_any hm (wpAny_inv Inv hu hext hstep hend ops.size _ a _ (by simp) ?_ (hext _ _ a _ (fun j => (lst_none _ j).symm) h0))
  unfold todo
  exact Nat.le_trans (List.length_filter_le _ _) (by simp)
end
end Go.Proofs.Ytcdfjaldnelfjaa
