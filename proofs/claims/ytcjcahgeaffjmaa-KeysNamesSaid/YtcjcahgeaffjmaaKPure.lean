/-
  Plain facts on rows as bytes: what the bytes of a row are, what row bytes are, their order, what is behind; nothing here names the program.
-/
import Derived.Test.YtcjcahgeaffjmaaPure
namespace Go.Proofs.Ytcjcahgeaffjmaa

def goodR (xs : List Val) : Bool := xs.all (fun v => chkV v == 0)

/-! ### Numbers as bytes, the highest first -/

/-- The k lowest bytes of a number. -/
def beB : Nat → Nat → List UInt8
  | 0, _ => []
  | k + 1, u => UInt8.ofNat (u / 256 ^ k) :: beB k u

theorem beB_length : ∀ k u, (beB k u).length = k
  | 0, _ => rfl
  | k + 1, u => by rw [beB, List.length_cons, beB_length k u]

theorem beB_take : ∀ (n k u : Nat), k < n → (beB n u).take (k + 1) = (beB n u).take k ++ [UInt8.ofNat (u / 256 ^ (n - 1 - k))]
  | 0, k, _, h => by omega
  | n + 1, 0, u, _ => by simp [beB]
  | n + 1, k + 1, u, h => by
    have ih := beB_take n k u (by omega)
    have e : n + 1 - 1 - (k + 1) = n - 1 - k := by omega
    rw [e]
    simp only [beB, List.take_succ_cons, List.cons_append]
    rw [ih]

/-- The number that bytes are. -/
def beN (l : List UInt8) : Nat := l.foldl (fun a b => a * 256 + b.toNat) 0

theorem beN_snoc (l : List UInt8) (c : UInt8) : beN (l ++ [c]) = beN l * 256 + c.toNat := by
  unfold beN
  rw [List.foldl_append]
  rfl

theorem byte_lt (c : UInt8) : c.toNat < 256 := UInt8.toNat_lt c

theorem foldl_lt : ∀ (l : List UInt8) (a : Nat), l.foldl (fun a b => a * 256 + b.toNat) a < (a + 1) * 256 ^ l.length
  | [], a => by simp
  | c :: l, a => by
    have h := foldl_lt l (a * 256 + c.toNat)
    have hc := byte_lt c
    simp only [List.foldl_cons, List.length_cons]
    refine Nat.lt_of_lt_of_le h ?_
    rw [Nat.pow_succ, Nat.mul_comm (256 ^ l.length) 256, ← Nat.mul_assoc]
    exact Nat.mul_le_mul_right _ (by omega)

theorem beN_lt (l : List UInt8) : beN l < 256 ^ l.length := by
  have := foldl_lt l 0
  unfold beN
  omega

theorem foldl_from : ∀ (l : List UInt8) (a : Nat), l.foldl (fun a b => a * 256 + b.toNat) a = a * 256 ^ l.length + beN l
  | [], a => by simp [beN]
  | c :: l, a => by
    have h1 := foldl_from l (a * 256 + c.toNat)
    have h2 := foldl_from l (0 * 256 + c.toNat)
    unfold beN
    simp only [List.foldl_cons, List.length_cons]
    rw [h1, h2]
    simp only [Nat.zero_mul, Nat.zero_add, Nat.pow_succ, Nat.add_mul]
    rw [Nat.mul_assoc a 256, Nat.mul_comm 256]
    omega

theorem beN_cons (c : UInt8) (l : List UInt8) : beN (c :: l) = c.toNat * 256 ^ l.length + beN l := by
  have := foldl_from l (0 * 256 + c.toNat)
  unfold beN
  simp only [List.foldl_cons]
  rw [this]
  simp [beN]

theorem ofNat_toNat (n : Nat) : (UInt8.ofNat n).toNat = n % 256 := by simp

theorem beN_beB : ∀ k u, beN (beB k u) = u % 256 ^ k
  | 0, u => by simp [beB, beN, Nat.mod_one]
  | k + 1, u => by
    rw [beB, beN_cons, beN_beB k u, beB_length, ofNat_toNat, Nat.pow_succ, Nat.mod_mul]
    rw [Nat.mul_comm]
    omega

theorem beB_beN : ∀ l : List UInt8, beB l.length (beN l) = l
  | [] => rfl
  | c :: l => by
    have hl := beN_lt l
    have hc := byte_lt c
    have hp : 0 < 256 ^ l.length := Nat.pow_pos (by omega)
    rw [List.length_cons, beB, beN_cons]
    have e1 : (c.toNat * 256 ^ l.length + beN l) / 256 ^ l.length = c.toNat := by
      rw [Nat.mul_comm, Nat.mul_add_div hp, Nat.div_eq_of_lt hl]
      omega
    rw [e1]
    have e2 : ∀ k u v : Nat, u % 256 ^ k = v % 256 ^ k → beB k u = beB k v := by
      intro k
      induction k with
      | zero => intro u v _; rfl
      | succ k ih =>
        intro u v h
        have h2 : u % 256 ^ k = v % 256 ^ k := by
          have := congrArg (· % 256 ^ k) h
          simpa [Nat.pow_succ, Nat.mod_mul_right_mod] using this
        have h3 : u / 256 ^ k % 256 = v / 256 ^ k % 256 := by
          rw [Nat.pow_succ, Nat.mod_mul, Nat.mod_mul, h2] at h
          have hp : 0 < 256 ^ k := Nat.pow_pos (by omega)
          have := Nat.eq_of_mul_eq_mul_left hp (Nat.add_left_cancel h)
          exact this
        rw [beB, beB, ih u v h2]
        congr 1
        apply UInt8.toNat_inj.1
        rw [ofNat_toNat, ofNat_toNat, h3]
    have e3 : beB l.length (c.toNat * 256 ^ l.length + beN l) = beB l.length (beN l) := e2 _ _ _ (by rw [Nat.mul_comm, Nat.mul_add_mod])
    rw [e3, beB_beN l]
    congr 1
    exact UInt8.toNat_inj.1 (by rw [ofNat_toNat]; omega)

/-! ### Texts as bytes -/

/-- The bytes of a text, with a byte 255 behind each byte 0. -/
def esc : List UInt8 → List UInt8
  | [] => []
  | c :: t => if c = 0 then 0 :: 255 :: esc t else c :: esc t

/-- The text that bytes begin with, up to two bytes 0, and what is behind. -/
def txt : List UInt8 → Option (List UInt8 × List UInt8)
  | [] => none
  | [_] => none
  | c :: d :: t =>
    if c = 0 then
      (if d = 0 then some ([], t) else if d = 255 then (txt t).map (fun p => (0 :: p.1, p.2)) else none)
    else (txt (d :: t)).map (fun p => (c :: p.1, p.2))

theorem esc_snoc : ∀ (s : List UInt8) (c : UInt8), esc (s ++ [c]) = esc s ++ (if c = 0 then [0, 255] else [c])
  | [], c => by simp only [List.nil_append, esc]
  | x :: s, c => by
    simp only [List.cons_append, esc, esc_snoc s c]
    split <;> simp

theorem esc_length : ∀ s : List UInt8, (esc s).length ≤ 2 * s.length
  | [] => by simp [esc]
  | x :: s => by
    have := esc_length s
    unfold esc
    split <;> simp only [List.length_cons] <;> omega

theorem txt_esc : ∀ (s t : List UInt8), txt (esc s ++ 0 :: 0 :: t) = some (s, t)
  | [], t => by simp [esc, txt]
  | c :: s, t => by
    have ih := txt_esc s t
    by_cases h : c = 0
    · subst h
      simp [esc, txt, ih]
    · rw [esc, if_neg h, List.cons_append]
      obtain ⟨d, r, hd⟩ : ∃ d r, esc s ++ 0 :: 0 :: t = d :: r := by
        cases e : esc s with
        | nil => exact ⟨0, 0 :: t, rfl⟩
        | cons x y => exact ⟨x, y ++ 0 :: 0 :: t, rfl⟩
      rw [hd] at ih ⊢
      rw [txt, if_neg h, ih]
      rfl

theorem esc_txt : ∀ (b s t : List UInt8), txt b = some (s, t) → b = esc s ++ 0 :: 0 :: t
  | [], s, t, h => by simp [txt] at h
  | [c], s, t, h => by simp [txt] at h
  | c :: d :: r, s, t, h => by
    rw [txt] at h
    by_cases hc : c = 0
    · rw [if_pos hc] at h
      by_cases hd : d = 0
      · rw [if_pos hd] at h
        simp only [Option.some.injEq, Prod.mk.injEq] at h
        obtain ⟨rfl, rfl⟩ := h
        subst hc hd
        rfl
      · rw [if_neg hd] at h
        by_cases hf : d = 255
        · rw [if_pos hf] at h
          obtain ⟨⟨s', t'⟩, h1, h2⟩ := Option.map_eq_some_iff.1 h
          simp only [Prod.mk.injEq] at h2
          obtain ⟨rfl, rfl⟩ := h2
          have := esc_txt r s' t' h1
          subst hc hf
          rw [this]
          simp [esc]
        · rw [if_neg hf] at h
          cases h
    · rw [if_neg hc] at h
      obtain ⟨⟨s', t'⟩, h1, h2⟩ := Option.map_eq_some_iff.1 h
      simp only [Prod.mk.injEq] at h2
      obtain ⟨rfl, rfl⟩ := h2
      have := esc_txt (d :: r) s' t' h1
      rw [this]
      simp [esc, hc]

/-! ### A value's bytes, a row's -/

/-- A number as it is written: 2^63 more, within 64 bits. -/
def u64Of (n : Int) : Nat := ((n + 9223372036854775808) % 18446744073709551616).toNat

def valB (v : Val) : List UInt8 :=
  if v.k = 1 then 1 :: beB 8 (u64Of v.n) else if v.k = 2 then 2 :: (esc v.s.toList ++ [0, 0]) else []

def rowB (xs : List Val) : List UInt8 := xs.flatMap valB

theorem rowB_append (a b : List Val) : rowB (a ++ b) = rowB a ++ rowB b := List.flatMap_append
theorem rowB_cons (v : Val) (b : List Val) : rowB (v :: b) = valB v ++ rowB b := by simp [rowB]
theorem rowB_snoc (a : List Val) (v : Val) : rowB (a ++ [v]) = rowB a ++ valB v := by simp [rowB]

/-- The value that bytes begin with, and what is behind. -/
def valD : List UInt8 → Option (Val × List UInt8)
  | [] => none
  | c :: t =>
    if c = 1 then (if 8 ≤ t.length then some (⟨1, (beN (t.take 8) : Int) - 9223372036854775808, ⟨#[]⟩⟩, t.drop 8) else none)
    else if c = 2 then (txt t).map (fun p => (⟨2, 0, ⟨p.1.toArray⟩⟩, p.2)) else none

theorem txt_length {b s t : List UInt8} (h : txt b = some (s, t)) : t.length + 2 ≤ b.length := by
  rw [esc_txt b s t h]
  simp

theorem valD_length {b : List UInt8} {v : Val} {r : List UInt8} (h : valD b = some (v, r)) : r.length < b.length := by
  cases b with
  | nil => simp [valD] at h
  | cons c t =>
    rw [valD] at h
    split at h
    · split at h
      · simp only [Option.some.injEq, Prod.mk.injEq] at h
        obtain ⟨_, rfl⟩ := h
        simp only [List.length_drop, List.length_cons]
        omega
      · cases h
    · split at h
      · obtain ⟨⟨s, t'⟩, h1, h2⟩ := Option.map_eq_some_iff.1 h
        simp only [Prod.mk.injEq] at h2
        obtain ⟨_, rfl⟩ := h2
        have := txt_length h1
        simp only [List.length_cons]
        omega
      · cases h

/-- The row of bytes. -/
def dec (b : List UInt8) : Option (List Val) :=
  match b with
  | [] => some []
  | c :: t =>
    match _h : valD (c :: t) with
    | none => none
    | some (v, r) => if chkV v = 0 then (dec r).map (v :: ·) else none
termination_by b.length
decreasing_by exact valD_length _h

theorem dec_nil : dec [] = some [] := by rw [dec]
theorem dec_none {b : List UInt8} (hb : b ≠ []) (h : valD b = none) : dec b = none := by
  cases b with
  | nil => exact absurd rfl hb
  | cons c t =>
    rw [dec]
    split
    · rfl
    · rename_i e; rw [h] at e; cases e
theorem dec_some {b : List UInt8} {v : Val} {r : List UInt8} (h : valD b = some (v, r)) : dec b = if chkV v = 0 then (dec r).map (v :: ·) else none := by
  cases b with
  | nil => simp [valD] at h
  | cons c t =>
    rw [dec]
    split
    · rename_i e; rw [h] at e; cases e
    · rename_i e
      rw [h] at e
      simp only [Option.some.injEq, Prod.mk.injEq] at e
      obtain ⟨rfl, rfl⟩ := e
      rfl

theorem bytes_eta (s : ByteArray) : (⟨s.toList.toArray⟩ : ByteArray) = s := by
  obtain ⟨⟨l⟩⟩ := s
  rw [ByteArray.toList_mk]

theorem ok_ways {v : Val} (h : chkV v = 0) : (v.k = 1 ∧ -2147483647 ≤ v.n ∧ v.n ≤ 2147483647 ∧ v.s = ⟨#[]⟩) ∨ (v.k = 2 ∧ v.n = 0 ∧ v.s.toList.length ≤ 40) := by
  unfold chkV chk at h
  split at h
  · rename_i hb
    rw [Bool.or_eq_true] at hb
    rcases hb with hb | hb
    · unfold okNum at hb
      obtain ⟨h1, h2, h3, h4⟩ := of_decide_eq_true hb
      refine Or.inl ⟨h1, h2, h3, bytes_ext ?_⟩
      rw [List.isEmpty_iff.1 h4]
      exact (ByteArray.toList_mk []).symm
    · unfold okText at hb
      exact Or.inr (of_decide_eq_true hb)
  · omega

theorem u64_of_ok {n : Int} (h1 : -2147483647 ≤ n) (h2 : n ≤ 2147483647) : (u64Of n : Int) = n + 9223372036854775808 := by
  unfold u64Of
  omega

theorem u64_lt (n : Int) : u64Of n < 18446744073709551616 := by
  unfold u64Of
  omega

theorem valD_valB {v : Val} (h : chkV v = 0) (r : List UInt8) : valD (valB v ++ r) = some (v, r) := by
  rcases ok_ways h with ⟨h1, h2, h3, h4⟩ | ⟨h1, h2, h3⟩
  · have hl := beB_length 8 (u64Of v.n)
    rw [valB, if_pos h1, List.cons_append, valD, if_pos rfl, if_pos (by rw [List.length_append, hl]; omega)]
    rw [List.take_append_of_le_length (by omega), List.drop_append_of_le_length (by omega), List.take_of_length_le (by omega), List.drop_of_length_le (by omega), beN_beB]
    rw [Nat.mod_eq_of_lt (by have := u64_lt v.n; omega), u64_of_ok h2 h3]
    simp only [List.nil_append, Option.some.injEq, Prod.mk.injEq, and_true]
    exact Val.ext' h1.symm (by simp only; omega) h4.symm
  · rw [valB, if_neg (by omega), if_pos h1, List.cons_append, valD, if_neg (by decide), if_pos rfl, List.append_assoc]
    rw [show ([0, 0] ++ r : List UInt8) = 0 :: 0 :: r from rfl, txt_esc]
    simp only [Option.map_some, Option.some.injEq, Prod.mk.injEq, and_true]
    exact Val.ext' h1.symm h2.symm (bytes_eta v.s)

theorem valB_valD {b : List UInt8} {v : Val} {r : List UInt8} (h : valD b = some (v, r)) : b = valB v ++ r := by
  cases b with
  | nil => simp [valD] at h
  | cons c t =>
    rw [valD] at h
    split at h
    · rename_i hc
      split at h
      · rename_i hl
        simp only [Option.some.injEq, Prod.mk.injEq] at h
        obtain ⟨rfl, rfl⟩ := h
        have hlen : (t.take 8).length = 8 := by rw [List.length_take]; omega
        have hlt := beN_lt (t.take 8)
        rw [hlen] at hlt
        have hu : u64Of ((beN (t.take 8) : Int) - 9223372036854775808) = beN (t.take 8) := by
          unfold u64Of
          omega
        rw [valB, if_pos rfl, hc]
        simp only
        rw [hu]
        have := beB_beN (t.take 8)
        rw [hlen] at this
        rw [this, List.cons_append, List.take_append_drop]
      · cases h
    · split at h
      · rename_i hc
        obtain ⟨⟨s, t'⟩, h1, h2⟩ := Option.map_eq_some_iff.1 h
        simp only [Prod.mk.injEq] at h2
        obtain ⟨rfl, rfl⟩ := h2
        rw [valB, if_neg (by simp), if_pos rfl, hc, esc_txt t s t' h1]
        simp only [ByteArray.toList_mk]
        simp
      · cases h

theorem dec_rowB : ∀ xs : List Val, goodR xs = true → dec (rowB xs) = some xs
  | [], _ => by simp [rowB, dec_nil]
  | v :: xs, h => by
    unfold goodR at h
    rw [List.all_cons, Bool.and_eq_true] at h
    have h0 : chkV v = 0 := by simpa using h.1
    rw [rowB_cons, dec_some (valD_valB h0 _), if_pos h0, dec_rowB xs h.2]
    rfl

theorem rowB_dec (b : List UInt8) : ∀ xs, dec b = some xs → rowB xs = b ∧ goodR xs = true := by
  induction hn : b.length using Nat.strongRecOn generalizing b with
  | ind n ih =>
    intro xs h
    cases b with
    | nil =>
      rw [dec_nil] at h
      obtain rfl := Option.some.inj h
      exact ⟨rfl, rfl⟩
    | cons c t =>
      cases hv : valD (c :: t) with
      | none => rw [dec_none (by simp) hv] at h; cases h
      | some p =>
        obtain ⟨v, r⟩ := p
        rw [dec_some hv] at h
        split at h
        · rename_i h0
          obtain ⟨ys, h1, rfl⟩ := Option.map_eq_some_iff.1 h
          obtain ⟨e1, e2⟩ := ih r.length (by rw [← hn]; exact valD_length hv) r rfl ys h1
          refine ⟨by rw [rowB_cons, e1, ← valB_valD hv], ?_⟩
          unfold goodR at e2 ⊢
          rw [List.all_cons, e2]
          simp [h0]
        · cases h

end Go.Proofs.Ytcjcahgeaffjmaa
