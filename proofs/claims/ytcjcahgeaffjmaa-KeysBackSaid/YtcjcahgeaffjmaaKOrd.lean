/-
  Plain facts on the order of rows' bytes, and on what is behind all that begin with some bytes; nothing here names the program.
-/
import Derived.Test.YtcjcahgeaffjmaaKPure
import GoSem.Extern.BytealgCompare
namespace Go.Proofs.Ytcjcahgeaffjmaa

theorem scmp_lt {a b : List UInt8} (h : Op.bytesLess a b = true) : scmp a b = -1 := by unfold scmp; rw [if_pos h]
theorem scmp_gt {a b : List UInt8} (h : Op.bytesLess b a = true) : scmp a b = 1 := by
  have := scmp_line.turn b a
  rw [scmp_lt h] at this
  omega
theorem scmp_eq (a : List UInt8) : scmp a a = 0 := (scmp_line.same a a).2 rfl
theorem lt_of_scmp {a b : List UInt8} (h : scmp a b = -1) : Op.bytesLess a b = true := by
  cases e : Op.bytesLess a b with
  | true => rfl
  | false =>
    unfold scmp at h
    rw [if_neg (by simp [e])] at h
    split at h <;> omega

theorem less_app : ∀ x s t : List UInt8, Op.bytesLess (x ++ s) (x ++ t) = Op.bytesLess s t
  | [], _, _ => rfl
  | c :: x, s, t => by simp [Op.bytesLess, less_app x s t]

theorem scmp_app (x s t : List UInt8) : scmp (x ++ s) (x ++ t) = scmp s t := by
  rcases less_total s t with h | rfl | h
  · rw [scmp_lt h, scmp_lt (by rw [less_app]; exact h)]
  · rw [scmp_eq, scmp_eq]
  · rw [scmp_gt h, scmp_gt (by rw [less_app]; exact h)]

theorem less_head {c d : UInt8} (h : c < d) (s t : List UInt8) : Op.bytesLess (c :: s) (d :: t) = true := by simp [Op.bytesLess, h]
theorem less_tail (c : UInt8) {s t : List UInt8} (h : Op.bytesLess s t = true) : Op.bytesLess (c :: s) (c :: t) = true := by simp [Op.bytesLess, h]

theorem be_less : ∀ (k u v : Nat), u % 256 ^ k < v % 256 ^ k → ∀ s t, Op.bytesLess (beB k u ++ s) (beB k v ++ t) = true
  | 0, u, v, h => by simp [Nat.mod_one] at h
  | k + 1, u, v, h => by
    intro s t
    have hp : 0 < 256 ^ k := Nat.pow_pos (by omega)
    rw [Nat.pow_succ, Nat.mod_mul, Nat.mod_mul] at h
    have hu := Nat.mod_lt u hp
    have hv := Nat.mod_lt v hp
    rw [beB, beB, List.cons_append, List.cons_append]
    rcases Nat.lt_trichotomy (u / 256 ^ k % 256) (v / 256 ^ k % 256) with hl | hl | hl
    · exact less_head (UInt8.lt_iff_toNat_lt.2 (by rw [ofNat_toNat, ofNat_toNat]; exact hl)) _ _
    · have e : UInt8.ofNat (u / 256 ^ k) = UInt8.ofNat (v / 256 ^ k) := UInt8.toNat_inj.1 (by rw [ofNat_toNat, ofNat_toNat]; exact hl)
      rw [e]
      rw [hl] at h
      exact less_tail _ (be_less k u v (by omega) s t)
    · exfalso
      have h1 : 256 ^ k * (v / 256 ^ k % 256 + 1) ≤ 256 ^ k * (u / 256 ^ k % 256) := Nat.mul_le_mul_left _ hl
      rw [Nat.mul_add, Nat.mul_one] at h1
      omega

theorem zero_lt {c : UInt8} (h : ¬ c = 0) : 0 < c := by
  rw [UInt8.lt_iff_toNat_lt]
  have : c.toNat ≠ 0 := fun e => h (UInt8.toNat_inj.1 e)
  simp only [UInt8.toNat_zero]
  omega

theorem esc_less : ∀ s s' : List UInt8, Op.bytesLess s s' = true → ∀ x y, Op.bytesLess (esc s ++ 0 :: 0 :: x) (esc s' ++ 0 :: 0 :: y) = true
  | [], [], h => by simp [Op.bytesLess] at h
  | [], d :: s', _ => by
    intro x y
    by_cases hd : d = 0
    · subst hd
      simp [esc, Op.bytesLess]
    · rw [esc, esc, if_neg hd]
      exact less_head (zero_lt hd) _ _
  | c :: s, [], h => by simp [Op.bytesLess] at h
  | c :: s, d :: s', h => by
    intro x y
    simp only [Op.bytesLess, Bool.or_eq_true, Bool.and_eq_true, decide_eq_true_eq, beq_iff_eq] at h
    rcases h with h | ⟨rfl, h⟩
    · have hd : ¬ d = 0 := by
        rintro rfl
        rw [UInt8.lt_iff_toNat_lt] at h
        simp at h
      by_cases hc : c = 0
      · rw [esc, esc, if_pos hc, if_neg hd]
        exact less_head (zero_lt hd) _ _
      · rw [esc, esc, if_neg hc, if_neg hd]
        exact less_head h _ _
    · have ih := esc_less s s' h x y
      by_cases hc : c = 0
      · rw [esc, esc, if_pos hc, if_pos hc]
        exact less_tail _ (less_tail _ ih)
      · rw [esc, esc, if_neg hc, if_neg hc]
        exact less_tail _ ih

theorem icmp_lt {a b : Int} (h : icmp a b = -1) : a < b := by unfold icmp at h; split at h <;> (try split at h) <;> omega

theorem val_less {u v : Val} (hu : chkV u = 0) (hv : chkV v = 0) (h : cmpV u v = -1) (s t : List UInt8) : Op.bytesLess (valB u ++ s) (valB v ++ t) = true := by
  unfold cmpV vcmp at h
  rcases ok_ways hu with ⟨u1, u2, u3, u4⟩ | ⟨u1, u2, u3⟩
  · rcases ok_ways hv with ⟨v1, v2, v3, v4⟩ | ⟨v1, v2, v3⟩
    · rw [if_pos (u1.trans v1.symm)] at h
      have hn : u.n < v.n := by
        split at h
        · rw [u4, v4, scmp_eq] at h
          omega
        · exact icmp_lt h
      rw [valB, valB, if_pos u1, if_pos v1, List.cons_append, List.cons_append]
      have e1 := u64_of_ok u2 u3
      have e2 := u64_of_ok v2 v3
      refine less_tail _ (be_less 8 _ _ ?_ s t)
      rw [Nat.mod_eq_of_lt (by have := u64_lt u.n; omega), Nat.mod_eq_of_lt (by have := u64_lt v.n; omega)]
      omega
    · rw [valB, valB, if_pos u1, if_neg (by omega), if_pos v1]
      exact less_head (by decide) _ _
  · rcases ok_ways hv with ⟨v1, v2, v3, v4⟩ | ⟨v1, v2, v3⟩
    · rw [if_neg (by omega), u1, v1] at h
      have := icmp_lt h
      omega
    · rw [if_pos (u1.trans v1.symm), if_pos (u2.trans v2.symm)] at h
      rw [valB, valB, if_neg (by omega), if_pos u1, if_neg (by omega), if_pos v1, List.cons_append, List.cons_append, List.append_assoc, List.append_assoc]
      exact less_tail _ (esc_less _ _ (lt_of_scmp h) s t)

theorem valB_cons {v : Val} (h : chkV v = 0) : ∃ c t, valB v = c :: t := by
  rcases ok_ways h with ⟨h1, _⟩ | ⟨h1, _⟩
  · exact ⟨_, _, by rw [valB, if_pos h1]⟩
  · exact ⟨_, _, by rw [valB, if_neg (by omega), if_pos h1]⟩

theorem row_order : ∀ a b : List Val, goodR a = true → goodR b = true → scmp (rowB a) (rowB b) = cmpR a b
  | [], [], _, _ => scmp_eq _
  | [], v :: b, _, hb => by
    unfold goodR at hb
    rw [List.all_cons, Bool.and_eq_true] at hb
    obtain ⟨c, t, e⟩ := valB_cons (v := v) (by simpa using hb.1)
    rw [rowB_cons, e]
    rfl
  | u :: a, [], ha, _ => by
    unfold goodR at ha
    rw [List.all_cons, Bool.and_eq_true] at ha
    obtain ⟨c, t, e⟩ := valB_cons (v := u) (by simpa using ha.1)
    rw [rowB_cons, e]
    rfl
  | u :: a, v :: b, ha, hb => by
    unfold goodR at ha hb
    rw [List.all_cons, Bool.and_eq_true] at ha hb
    have hu : chkV u = 0 := by simpa using ha.1
    have hv : chkV v = 0 := by simpa using hb.1
    rw [rowB_cons, rowB_cons, cmpR]
    rcases cmpV_line.range u v with h | h | h
    · rw [if_neg (by omega), h]
      exact scmp_lt (val_less hu hv h _ _)
    · rw [if_pos h]
      obtain rfl := (cmpV_line.same u v).1 h
      rw [scmp_app]
      exact row_order a b ha.2 hb.2
    · rw [if_neg (by omega), h]
      exact scmp_gt (val_less hv hu (by have := cmpV_line.turn u v; omega) _ _)

/-! ### What is behind -/

/-- The least bytes that are behind all that begin with some. -/
def nx : List UInt8 → Option (List UInt8)
  | [] => none
  | c :: t =>
    match nx t with
    | some r => some (c :: r)
    | none => if c = 255 then none else some [c + 1]

theorem nx_top : ∀ l : List UInt8, nx (l ++ [255]) = nx l
  | [] => rfl
  | c :: l => by simp only [List.cons_append, nx, nx_top l]

theorem nx_snoc : ∀ (l : List UInt8) (c : UInt8), ¬ c = 255 → nx (l ++ [c]) = some (l ++ [c + 1])
  | [], c, h => by simp [nx, h]
  | x :: l, c, h => by simp only [List.cons_append, nx, nx_snoc l c h]

theorem nx_all : ∀ l : List UInt8, (nx l).isSome = !(l.all (· == 255))
  | [] => rfl
  | c :: l => by
    have ih := nx_all l
    simp only [nx, List.all_cons]
    cases e : nx l with
    | some r =>
      rw [e] at ih
      simp only [Option.isSome_some] at ih ⊢
      have : l.all (· == 255) = false := by simpa using ih.symm
      rw [this]
      simp
    | none =>
      rw [e] at ih
      simp only [Option.isSome_none] at ih
      have : l.all (· == 255) = true := by simpa using ih.symm
      rw [this]
      by_cases h : c = 255
      · simp [h]
      · simp [h]

theorem lt_next {c y : UInt8} (h : ¬ c = 255) : y < c + 1 ↔ y ≤ c := by
  rw [UInt8.lt_iff_toNat_lt, UInt8.le_iff_toNat_le, UInt8.toNat_add]
  have h1 : c.toNat ≠ 255 := fun e => h (UInt8.toNat_inj.1 e)
  have := byte_lt c
  simp only [UInt8.toNat_one]
  omega

theorem between : ∀ b c : List UInt8, (Op.bytesLess c b = false ∧ ∀ n, nx b = some n → Op.bytesLess c n = true) ↔ b.isPrefixOf c = true
  | [], c => by
    constructor
    · intro _; cases c <;> rfl
    · intro _
      exact ⟨by cases c <;> rfl, fun n h => by simp [nx] at h⟩
  | x :: t, [] => by simp [Op.bytesLess]
  | x :: t, y :: c => by
    have ih := between t c
    simp only [List.isPrefixOf_cons_cons, Bool.and_eq_true, beq_iff_eq, ← ih]
    simp only [Op.bytesLess, nx]
    have irr : ¬ y < y := UInt8.lt_irrefl y
    constructor
    · rintro ⟨h1, h2⟩
      simp only [Bool.or_eq_false_iff, decide_eq_false_iff_not, Bool.and_eq_false_imp, beq_iff_eq] at h1
      obtain ⟨h1, h3⟩ := h1
      cases e : nx t with
      | some r =>
        have h4 := h2 (x :: r) (by rw [e])
        simp only [Op.bytesLess, Bool.or_eq_true, decide_eq_true_eq, Bool.and_eq_true, beq_iff_eq, h1, false_or] at h4
        obtain ⟨rfl, h4⟩ := h4
        exact ⟨rfl, h3 rfl, fun n hn => by obtain rfl := Option.some.inj hn; exact h4⟩
      | none =>
        have hxy : x = y := by
          by_cases hx : x = 255
          · apply UInt8.toNat_inj.1
            rw [UInt8.lt_iff_toNat_lt] at h1
            subst hx
            have := byte_lt y
            simp only [show UInt8.toNat 255 = 255 from rfl] at h1 ⊢
            omega
          · have h4 := h2 [x + 1] (by rw [e]; simp [hx])
            simp only [Op.bytesLess, Bool.or_eq_true, decide_eq_true_eq, Bool.and_eq_true, beq_iff_eq] at h4
            have h5 : y ≤ x := by
              rcases h4 with h4 | ⟨_, h4⟩
              · exact (lt_next hx).1 h4
              · cases c <;> simp at h4
            apply UInt8.toNat_inj.1
            rw [UInt8.le_iff_toNat_le] at h5
            rw [UInt8.lt_iff_toNat_lt] at h1
            omega
        exact ⟨hxy, h3 hxy.symm, fun n hn => by cases hn⟩
    · rintro ⟨rfl, h1, h2⟩
      refine ⟨by simp [irr, h1], fun n hn => ?_⟩
      cases e : nx t with
      | some r =>
        rw [e] at hn
        obtain rfl := Option.some.inj hn
        simp [Op.bytesLess, h2 r e]
      | none =>
        rw [e] at hn
        by_cases hx : x = 255
        · simp [hx] at hn
        · simp only [hx, if_false] at hn
          obtain rfl := Option.some.inj hn
          have := (lt_next (y := x) hx).2 (UInt8.le_refl x)
          simp [Op.bytesLess, this]

/-! ### What the library's own Compare tells -/

theorem scmp_at {a b : List UInt8} {i : Nat} (ha : i < a.length) (hb : i < b.length) (h : a.take i = b.take i) (hne : a[i] ≠ b[i]) :
    scmp a b = if a[i] < b[i] then -1 else 1 := by
  have ea : a = a.take i ++ (a[i] :: a.drop (i + 1)) := by rw [← List.drop_eq_getElem_cons ha, List.take_append_drop]
  have eb : b = a.take i ++ (b[i] :: b.drop (i + 1)) := by rw [h, ← List.drop_eq_getElem_cons hb, List.take_append_drop]
  have e : scmp a b = scmp (a.take i ++ (a[i] :: a.drop (i + 1))) (a.take i ++ (b[i] :: b.drop (i + 1))) := by rw [← ea, ← eb]
  rw [e, scmp_app]
  split
  · rename_i hl
    exact scmp_lt (less_head hl _ _)
  · rename_i hl
    refine scmp_gt (less_head ?_ _ _)
    rcases UInt8.lt_or_lt_of_ne hne with h | h
    · exact absurd h hl
    · exact h

theorem take_of_get {α : Type} : ∀ (i : Nat) (a b : List α), i ≤ a.length → i ≤ b.length → (∀ j, j < i → a[j]? = b[j]?) → a.take i = b.take i
  | 0, _, _, _, _, _ => by simp
  | i + 1, [], _, h, _, _ => by simp at h
  | i + 1, _ :: _, [], _, h, _ => by simp at h
  | i + 1, x :: a, y :: b, h1, h2, h => by
    have h0 := h 0 (by omega)
    simp only [List.getElem?_cons_zero, Option.some.injEq] at h0
    rw [List.take_succ_cons, List.take_succ_cons, h0, take_of_get i a b (by simpa using h1) (by simpa using h2) (fun j hj => by simpa using h (j + 1) (by omega))]

theorem get_of (s : ByteArray) (i : Nat) (h : i < s.toList.length) : s[i]! = s.toList[i] := by
  have hs : i < s.size := by rw [toList_length] at h; exact h
  rw [getElem!_pos s i hs]
  simp only [toList_data]
  rfl

theorem compare_scmp (a b : ByteArray) : Extern.BytealgCompare.cmp a b = scmp a.toList b.toList := by
  unfold Extern.BytealgCompare.cmp
  have la := toList_length a
  have lb := toList_length b
  cases e : (List.range (min a.size b.size)).find? (fun i => a[i]! != b[i]!) with
  | some i =>
    rw [List.find?_range_eq_some] at e
    obtain ⟨h1, h2, h3⟩ := e
    have hi := List.mem_range.1 h2
    have ha : i < a.toList.length := by omega
    have hb : i < b.toList.length := by omega
    have hne : a.toList[i] ≠ b.toList[i] := by
      rw [← get_of a i ha, ← get_of b i hb]
      simpa using h1
    have ht : a.toList.take i = b.toList.take i := take_of_get i _ _ (by omega) (by omega) (fun j hj => by
      have := h3 j hj
      simp only [Bool.not_eq_true', bne_eq_false_iff_eq] at this
      rw [get_of a j (by omega), get_of b j (by omega)] at this
      rw [List.getElem?_eq_getElem (by omega), List.getElem?_eq_getElem (by omega), this])
    rw [scmp_at ha hb ht hne]
    simp only [get_of a i ha, get_of b i hb]
  | none =>
    rw [List.find?_range_eq_none] at e
    have ht : a.toList.take (min a.size b.size) = b.toList.take (min a.size b.size) := take_of_get _ _ _ (by omega) (by omega) (fun j hj => by
      have := e j hj
      simp only [Bool.not_eq_true', bne_eq_false_iff_eq] at this
      rw [get_of a j (by omega), get_of b j (by omega)] at this
      rw [List.getElem?_eq_getElem (by omega), List.getElem?_eq_getElem (by omega), this])
    simp only
    rcases Nat.lt_trichotomy a.size b.size with h | h | h
    · rw [if_pos h]
      rw [Nat.min_eq_left (by omega), ← la, List.take_length] at ht
      rw [ht]
      have hb : a.toList.length < b.toList.length := by omega
      rw [show scmp (b.toList.take a.toList.length) b.toList = scmp (b.toList.take a.toList.length ++ []) (b.toList.take a.toList.length ++ b.toList.drop a.toList.length) from by rw [List.append_nil, List.take_append_drop], scmp_app]
      rw [List.drop_eq_getElem_cons hb]
      rfl
    · rw [if_neg (by omega), if_neg (by omega)]
      rw [Nat.min_eq_left (by omega), ← la, List.take_length, List.take_of_length_le (by omega)] at ht
      rw [ht, scmp_eq]
    · rw [if_neg (by omega), if_pos h]
      rw [Nat.min_eq_right (by omega), ← lb, List.take_length] at ht
      rw [← ht]
      have ha : b.toList.length < a.toList.length := by omega
      rw [show scmp a.toList (a.toList.take b.toList.length) = scmp (a.toList.take b.toList.length ++ a.toList.drop b.toList.length) (a.toList.take b.toList.length ++ []) from by rw [List.append_nil, List.take_append_drop], scmp_app]
      rw [List.drop_eq_getElem_cons ha]
      rfl

end Go.Proofs.Ytcjcahgeaffjmaa
