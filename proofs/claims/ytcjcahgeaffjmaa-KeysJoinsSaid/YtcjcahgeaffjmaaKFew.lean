/-
  What few and good come to, for every row.
-/
import Derived.Test.YtcjcahgeaffjmaaKRow
namespace Go.Proofs.Ytcjcahgeaffjmaa
open Go.RowKit

/-- What few tells. -/
def fewB (xs : List Val) : Bool := decide (xs.length ≤ 100) && xs.all (fun v => decide (v.s.size ≤ 200))

theorem fewB_long {xs : List Val} (h : 100 < xs.length) : fewB xs = false := by
  unfold fewB
  rw [decide_eq_false (by omega)]
  rfl
theorem fewB_bad {xs : List Val} {k : Nat} {v : Val} (hv : xs[k]? = some v) (h : 200 < v.s.size) : fewB xs = false := by
  unfold fewB
  rw [Bool.and_eq_false_iff]
  right
  rw [Bool.eq_false_iff]
  intro e
  rw [List.all_eq_true] at e
  have := of_decide_eq_true (e v (List.mem_of_getElem? hv))
  omega
theorem few_more {xs : List Val} {k : Nat} {v : Val} (h : (xs.take k).all (fun v => decide (v.s.size ≤ 200)) = true) (hv : xs[k]? = some v) (h0 : v.s.size ≤ 200) : (xs.take (k + 1)).all (fun v => decide (v.s.size ≤ 200)) = true := by
  rw [List.take_add_one, hv, List.all_append, h]
  simp [h0]

/-- What few asks. -/
theorem few_says {xs : List Val} (h : fewB xs = true) : xs.length ≤ 100 ∧ (∀ v ∈ xs, v.s.size ≤ 200) ∧ (rowB xs).length ≤ 40300 := by
  unfold fewB at h
  rw [Bool.and_eq_true, List.all_eq_true] at h
  have h1 := of_decide_eq_true h.1
  have h2 : ∀ v ∈ xs, v.s.size ≤ 200 := fun v hv => of_decide_eq_true (h.2 v hv)
  refine ⟨h1, h2, ?_⟩
  have h3 : ∀ l : List Val, (∀ v ∈ l, v.s.size ≤ 200) → (rowB l).length ≤ 403 * l.length := by
    intro l
    induction l with
    | nil => intro _; simp [rowB]
    | cons v l ih =>
      intro hl
      have e1 := ih (fun u hu => hl u (List.mem_cons_of_mem _ hu))
      have e2 := hl v (List.mem_cons_self ..)
      have e3 : (valB v).length ≤ 403 := by
        unfold valB
        split
        · rw [List.length_cons, beB_length]; omega
        · split
          · have := esc_length v.s.toList
            rw [toList_length] at this
            rw [List.length_cons, List.length_append]
            simp only [List.length_cons, List.length_nil]
            omega
          · simp
      rw [rowB_cons, List.length_append, List.length_cons]
      omega
  have := h3 xs h2
  omega

theorem good_len : ∀ xs : List Val, goodR xs = true → xs.length ≤ (rowB xs).length
  | [], _ => Nat.zero_le _
  | v :: xs, h => by
    unfold goodR at h
    rw [List.all_cons, Bool.and_eq_true] at h
    obtain ⟨c, t, e⟩ := valB_cons (v := v) (by simpa using h.1)
    have ih := good_len xs h.2
    rw [rowB_cons, e, List.length_append, List.length_cons, List.length_cons]
    omega

theorem good_sizes {xs : List Val} (h : goodR xs = true) : ∀ v ∈ xs, v.s.size ≤ 40 := by
  intro v hv
  unfold goodR at h
  rw [List.all_eq_true] at h
  rcases ok_ways (v := v) (by simpa using h v hv) with ⟨_, _, _, e⟩ | ⟨_, _, e⟩
  · rw [e]
    decide
  · rw [toList_length] at e
    exact e

theorem dec_len (l : List UInt8) : ((dec l).getD []).length ≤ l.length := by
  cases h : dec l with
  | none => exact Nat.zero_le _
  | some ys =>
    obtain ⟨h1, h2⟩ := rowB_dec l ys h
    have := good_len ys h2
    rw [h1] at this
    exact this

set_option maxHeartbeats 400000 in
theorem few_any (A : Option Addr) (c : Nat) (xs : List Val) (w : World) (hr : Row w A xs) :
    Calls Try.prog 11 #[.slice A xs.length c] w fun e w' => e = .returned (.bool (fewB xs)) ∧ w = w' := by
  by_cases hl : 100 < xs.length
  · rw [fewB_long hl]
    go_enter Try.func11, Try.ntmps11
    go_wp2_with fail
    go_ret
    exact ⟨rfl, rfl⟩
  · have hl' : xs.length ≤ 100 := by omega
    clear hl
    go_enter Try.func11, Try.ntmps11
    go_wp2_with fail
    go_loop [3] (fun i => ∃ k : Nat, k ≤ xs.length ∧ i = .int .i64 k ∧ Hid ((xs.take k).all (fun v => decide (v.s.size ≤ 200)) = true)) (fun i => xs.length - (intOf i).toNat)
    case atStart => exact ⟨0, Nat.zero_le _, rfl, Lib.hid (by simp)⟩
    case round =>
      obtain ⟨k, hk, rfl, HA⟩ := hrel
      by_cases hlt : k < xs.length
      · obtain ⟨b, off, v, rfl, hv, c0, c1, c2⟩ := hr.at_ hlt
        have HV := Lib.hid hv
        clear hv
        by_cases hs : v.s.size ≤ 200
        · go_wp2_with fail
          go_round
          case rel => exact ⟨k + 1, by omega, by go_num, Lib.hid (few_more HA.out HV.out hs)⟩
          case measure => simp [intOf]; omega
        · have hs' : 200 < v.s.size := by omega
          go_wp2_with fail
          go_ret
          exact ⟨ret_bool (fewB_bad HV.out hs').symm, rfl⟩
      · obtain rfl : k = xs.length := by omega
        go_wp2_with fail
        go_ret
        refine ⟨ret_bool ?_, rfl⟩
        unfold fewB
        have := HA.out
        rw [List.take_length] at this
        rw [this, decide_eq_true hl']
        rfl

theorem few_n (A : Option Addr) (n c : Nat) (xs : List Val) (w : World) (hr : Row w A xs) (e : xs.length = n) :
    Calls Try.prog 11 #[.slice A n c] w fun e w' => e = .returned (.bool (fewB xs)) ∧ w = w' := by
  subst e
  exact few_any A c xs w hr

theorem good_more {xs : List Val} {k : Nat} {v : Val} (h : goodR (xs.take k) = true) (hv : xs[k]? = some v) (h0 : chkV v = 0) : goodR (xs.take (k + 1)) = true := by
  unfold goodR at h ⊢
  rw [List.take_add_one, hv, List.all_append, h]
  simp [h0]
theorem good_bad {xs : List Val} {k : Nat} {v : Val} (hv : xs[k]? = some v) (h0 : ¬ chkV v = 0) : goodR xs = false := by
  unfold goodR
  rw [Bool.eq_false_iff]
  intro e
  rw [List.all_eq_true] at e
  exact h0 (by simpa using e v (List.mem_of_getElem? hv))

set_option maxHeartbeats 400000 in
theorem good_any (A : Option Addr) (c : Nat) (xs : List Val) (w : World) (hr : Row w A xs) (hn : xs.length ≤ 2147483647) :
    Calls Try.prog 22 #[.slice A xs.length c] w fun e w' => e = .returned (.bool (goodR xs)) ∧ Below w.heap.size w w' := by
  go_enter Try.func22, Try.ntmps22
  go_wp2_with fail
  go_loopw [3] (fun i wr => ∃ k : Nat, k ≤ xs.length ∧ i = .int .i64 k ∧ Hid (goodR (xs.take k) = true) ∧ Below w.heap.size w wr) (fun i _ => xs.length - (intOf i).toNat)
  case atStart => exact ⟨0, Nat.zero_le _, rfl, Lib.hid rfl, Below.refl _ _⟩
  case round =>
    obtain ⟨k, hk, rfl, HA, hb⟩ := hrel
    by_cases hlt : k < xs.length
    · obtain ⟨b, off, v, rfl, hv, c0, c1, c2⟩ := (hr.below hb).at_ hlt
      have HV := Lib.hid hv
      clear hv
      go_wp2_with fail
      refine (check_any v.k v.n v.s _).mono ?_
      rintro e w1 ⟨rfl, hb1⟩
      have hb' : Below w.heap.size w w1 := hb.trans (hb1.mono hb.size)
      by_cases h0 : chkV v = 0
      · have H0 := Lib.hid h0
        have h1 : (chk v.k v.n v.s.toList != 0) = false := by unfold chkV at h0; simp [h0]
        clear h0
        go_wp2_with fail
        go_roundw
        case rel => exact ⟨k + 1, by omega, by go_num, Lib.hid (good_more HA.out HV.out H0.out), hb'⟩
        case measure => simp [intOf]; omega
      · have H0 := Lib.hid h0
        have h1 : (chk v.k v.n v.s.toList != 0) = true := by unfold chkV at h0; simp [h0]
        clear h0
        go_wp2_with fail
        go_ret
        exact ⟨ret_bool (good_bad HV.out H0.out).symm, hb'⟩
    · obtain rfl : k = xs.length := by omega
      go_wp2_with fail
      go_ret
      refine ⟨ret_bool ?_, hb⟩
      have := HA.out
      rw [List.take_length] at this
      exact this.symm

theorem good_n (A : Option Addr) (n c : Nat) (xs : List Val) (w : World) (hr : Row w A xs) (e : xs.length = n) (hn : n ≤ 2147483647) :
    Calls Try.prog 22 #[.slice A n c] w fun e w' => e = .returned (.bool (goodR xs)) ∧ Below w.heap.size w w' := by
  subst e
  exact good_any A c xs w hr hn
end Go.Proofs.Ytcjcahgeaffjmaa
