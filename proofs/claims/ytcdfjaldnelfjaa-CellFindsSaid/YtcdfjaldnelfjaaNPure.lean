/-
  Plain facts on nodes: which may be, how many bytes they have, which bytes these are, and which bytes are a node's. Nothing here names the program.
-/
import Derived.Test.YtcdfjaldnelfjaaPure
import Derived.Test.YtcdfjaldnelfjaaFPure
namespace Go.Proofs.Ytcdfjaldnelfjaa

/-- A node: a leaf's keys and values, or an inner one's keys and kids. -/
structure ND where
  leaf : Bool
  keys : List (List UInt8)
  vals : List (List UInt8)
  kids : List Int

namespace ND
/-- Keys that rise, behind p. -/
def rise : List UInt8 → List (List UInt8) → Bool
  | _, [] => true
  | p, k :: r => (Op.bytesLess p k && decide (k.length ≤ 120)) && rise k r
def valB (v : List UInt8) : Bool := decide (v.length ≤ 100)
def kidB (k : Int) : Bool := decide (2 ≤ k) && decide (k ≤ 2147483647)
/-- What a leaf, and what an inner one, has to be besides. -/
def leafB (s : ND) : Bool := decide (s.vals.length = s.keys.length) && (s.vals.all valB && decide (s.kids.length = 0))
def innerB (s : ND) : Bool := decide (0 < s.keys.length) && (decide (s.kids.length = s.keys.length + 1) && (s.kids.all kidB && decide (s.vals.length = 0)))
def ok (s : ND) : Bool := rise [] s.keys && (if s.leaf then s.leafB else s.innerB)
def checkE (s : ND) : Int := if s.ok then 0 else 100

theorem rise_cons (p k : List UInt8) (r : List (List UInt8)) : rise p (k :: r) = ((Op.bytesLess p k && decide (k.length ≤ 120)) && rise k r) := rfl

theorem less_nil (k : List UInt8) : Op.bytesLess [] k = decide (1 ≤ k.length) := by
  cases k with
  | nil => rfl
  | cons x l => simp [Op.bytesLess]
theorem less_len {p k : List UInt8} (h : Op.bytesLess p k = true) : 1 ≤ k.length := by
  cases k with
  | nil => cases p <;> simp [Op.bytesLess] at h
  | cons x l => simp

theorem rise_le : ∀ (p : List UInt8) (l : List (List UInt8)), rise p l = true → ∀ k ∈ l, k.length ≤ 120
  | _, [], _, k, hk => by simp at hk
  | p, x :: l, h, k, hk => by
    rw [rise_cons, Bool.and_eq_true, Bool.and_eq_true, decide_eq_true_eq] at h
    rcases List.mem_cons.1 hk with rfl | hk
    · exact h.1.2
    · exact rise_le x l h.2 k hk

theorem rise_snoc : ∀ (p : List UInt8) (l : List (List UInt8)) (k : List UInt8), rise p (l ++ [k]) = (rise p l && (Op.bytesLess (l.getLastD p) k && decide (k.length ≤ 120)))
  | p, [], k => by
    show (_ && rise k []) = _
    simp [rise]
  | p, x :: l, k => by
    have e : (x :: l).getLastD p = l.getLastD x := by cases l <;> rfl
    rw [List.cons_append, rise_cons, rise_cons, rise_snoc x l k, e]
    exact (Bool.and_assoc _ _ _).symm

/-! ### Sizes -/

def tsl : List (List UInt8) → Nat
  | [] => 0
  | t :: r => t.length + tsl r
def tsz (l : List (List UInt8)) : Nat := l.length + tsl l
def size (s : ND) : Nat := 2 + tsz s.keys + tsz s.vals + 4 * s.kids.length
theorem tsl_cons (t : List UInt8) (r : List (List UInt8)) : tsl (t :: r) = t.length + tsl r := rfl
theorem tsz_cons (t : List UInt8) (r : List (List UInt8)) : tsz (t :: r) = 1 + t.length + tsz r := by
  unfold tsz
  rw [tsl_cons, List.length_cons]
  omega
theorem tsl_append : ∀ a b : List (List UInt8), tsl (a ++ b) = tsl a + tsl b
  | [], b => by simp [tsl]
  | t :: a, b => by
    rw [List.cons_append, tsl_cons, tsl_cons, tsl_append a b]
    omega
theorem tsz_snoc (a : List (List UInt8)) (t : List UInt8) : tsz (a ++ [t]) = tsz a + 1 + t.length := by
  unfold tsz
  rw [tsl_append, List.length_append, tsl_cons]
  simp [tsl]
  omega
theorem tsl_le : ∀ (l : List (List UInt8)) (m : Nat), (∀ t ∈ l, t.length ≤ m) → tsl l ≤ l.length * m
  | [], _, _ => by simp [tsl]
  | t :: r, m, h => by
    have h1 := h t (by simp)
    have h2 := tsl_le r m (fun x hx => h x (by simp [hx]))
    rw [tsl_cons, List.length_cons, Nat.succ_mul]
    omega

/-! ### Bytes -/

/-- A text, its length ahead. -/
def tx (t : List UInt8) : List UInt8 := UInt8.ofNat t.length :: t
def kd (c : Int) : List UInt8 := be4 (mod32 c)
def encL : List (List UInt8) → List (List UInt8) → List UInt8
  | k :: ks, v :: vs => tx k ++ (tx v ++ encL ks vs)
  | _, _ => []
def encI : List (List UInt8) → List Int → List UInt8
  | k :: ks, c :: cs => tx k ++ (kd c ++ encI ks cs)
  | _, _ => []
def body (s : ND) : List UInt8 := if s.leaf then encL s.keys s.vals else (match s.kids with
  | [] => []
  | c :: cs => kd c ++ encI s.keys cs)
def enc (s : ND) : List UInt8 := be 2 s.keys.length ++ s.body
/-- What Encode answers. -/
def fits (s : ND) : Bool := s.ok && decide (s.size ≤ 1000)
def encE (s : ND) : Int := if s.ok then (if s.size ≤ 1000 then 0 else 101) else 100
def encK (s : ND) : Int := if s.fits then (if s.leaf then 2 else 3) else 0
def encB (s : ND) : List UInt8 := if s.fits then s.enc else []

theorem encL_cons (k v : List UInt8) (ks vs : List (List UInt8)) : encL (k :: ks) (v :: vs) = tx k ++ (tx v ++ encL ks vs) := rfl
theorem encI_cons (k : List UInt8) (ks : List (List UInt8)) (c : Int) (cs : List Int) : encI (k :: ks) (c :: cs) = tx k ++ (kd c ++ encI ks cs) := rfl
theorem tx_length (t : List UInt8) : (tx t).length = 1 + t.length := by simp [tx]; omega
theorem kd_length (c : Int) : (kd c).length = 4 := rfl

theorem encL_length : ∀ ks vs : List (List UInt8), vs.length = ks.length → (encL ks vs).length = tsz ks + tsz vs
  | [], [], _ => rfl
  | k :: ks, v :: vs, h => by
    rw [encL_cons, List.length_append, List.length_append, tx_length, tx_length, encL_length ks vs (by simpa using h), tsz_cons, tsz_cons]
    omega
  | [], _ :: _, h => by simp at h
  | _ :: _, [], h => by simp at h
theorem encI_length : ∀ (ks : List (List UInt8)) (cs : List Int), cs.length = ks.length → (encI ks cs).length = tsz ks + 4 * cs.length
  | [], [], _ => rfl
  | k :: ks, c :: cs, h => by
    rw [encI_cons, List.length_append, List.length_append, tx_length, kd_length, encI_length ks cs (by simpa using h), tsz_cons, List.length_cons]
    omega
  | [], _ :: _, h => by simp at h
  | _ :: _, [], h => by simp at h

theorem ok_rise {s : ND} (h : s.ok = true) : rise [] s.keys = true := by
  unfold ok at h
  rw [Bool.and_eq_true] at h
  exact h.1
theorem ok_leaf {s : ND} (h : s.ok = true) (hl : s.leaf = true) : s.vals.length = s.keys.length ∧ s.vals.all valB = true ∧ s.kids = [] := by
  unfold ok at h
  rw [Bool.and_eq_true, if_pos hl] at h
  have h2 := h.2
  unfold leafB at h2
  rw [Bool.and_eq_true, Bool.and_eq_true, decide_eq_true_eq, decide_eq_true_eq] at h2
  exact ⟨h2.1, h2.2.1, List.eq_nil_of_length_eq_zero h2.2.2⟩
theorem ok_inner {s : ND} (h : s.ok = true) (hl : s.leaf = false) : 0 < s.keys.length ∧ s.kids.length = s.keys.length + 1 ∧ s.kids.all kidB = true ∧ s.vals = [] := by
  unfold ok at h
  rw [Bool.and_eq_true, if_neg (by rw [hl]; decide)] at h
  have h2 := h.2
  unfold innerB at h2
  rw [Bool.and_eq_true, Bool.and_eq_true, Bool.and_eq_true, decide_eq_true_eq, decide_eq_true_eq, decide_eq_true_eq] at h2
  exact ⟨h2.1, h2.2.1, h2.2.2.1, List.eq_nil_of_length_eq_zero h2.2.2.2⟩
theorem ok_keys {s : ND} (h : s.ok = true) : ∀ k ∈ s.keys, k.length ≤ 120 := rise_le _ _ (ok_rise h)
theorem ok_vals {s : ND} (h : s.ok = true) : ∀ v ∈ s.vals, v.length ≤ 100 := by
  intro v hv
  cases hl : s.leaf with
  | true =>
    have := List.all_eq_true.1 (ok_leaf h hl).2.1 v hv
    unfold valB at this
    exact of_decide_eq_true this
  | false =>
    rw [(ok_inner h hl).2.2.2] at hv
    simp at hv
theorem ok_kids {s : ND} (h : s.ok = true) : ∀ c ∈ s.kids, 2 ≤ c ∧ c ≤ 2147483647 := by
  intro c hc
  cases hl : s.leaf with
  | true =>
    rw [(ok_leaf h hl).2.2] at hc
    simp at hc
  | false =>
    have := List.all_eq_true.1 (ok_inner h hl).2.2.1 c hc
    unfold kidB at this
    rw [Bool.and_eq_true, decide_eq_true_eq, decide_eq_true_eq] at this
    exact this

theorem enc_length {s : ND} (h : s.ok = true) : s.enc.length = s.size := by
  unfold enc size body
  rw [List.length_append, be_length _ (by omega)]
  cases hl : s.leaf with
  | true =>
    obtain ⟨h1, _, h3⟩ := ok_leaf h hl
    rw [if_pos rfl, encL_length _ _ h1, h3]
    simp
    omega
  | false =>
    obtain ⟨_, h2, _, h4⟩ := ok_inner h hl
    rw [if_neg (by decide), h4]
    cases hk : s.kids with
    | nil => rw [hk] at h2; simp at h2
    | cons c cs =>
      rw [hk] at h2
      simp only [List.length_cons] at h2
      show 2 + (kd c ++ encI s.keys cs).length = _
      rw [List.length_append, kd_length, encI_length _ _ (by omega), List.length_cons]
      simp [tsz, tsl]
      omega

theorem fits_of {s : ND} (h : s.encE = 0) : s.fits = true ∧ s.ok = true ∧ s.size ≤ 1000 := by
  unfold encE at h
  split at h
  · rename_i ho
    split at h
    · rename_i hz
      refine ⟨?_, ho, hz⟩
      unfold fits
      rw [ho, decide_eq_true hz]
      rfl
    · omega
  · omega
theorem encE_fits {s : ND} (ho : s.ok = true) (hz : s.size ≤ 1000) : s.encE = 0 := by
  unfold encE
  rw [if_pos ho, if_pos hz]
theorem encB_of {s : ND} (h : s.encE = 0) : s.encB = s.enc := if_pos (fits_of h).1
theorem encK_of {s : ND} (h : s.encE = 0) : s.encK = if s.leaf then 2 else 3 := if_pos (fits_of h).1

/-! ### What bytes tell -/

/-- A text that bytes begin with, and the rest. -/
def cutT : List UInt8 → Option (List UInt8 × List UInt8)
  | [] => none
  | c :: r => if c.toNat ≤ r.length then some (r.take c.toNat, r.drop c.toNat) else none
/-- A kid that bytes begin with, and the rest. -/
def kidT : List UInt8 → Option (Int × List UInt8)
  | a :: b :: c :: d :: r => some (((num4 a b c d : Nat) : Int), r)
  | _ => none
def prsL : Nat → List UInt8 → Option (List (List UInt8) × List (List UInt8))
  | 0, b => if b.length = 0 then some ([], []) else none
  | n + 1, b => match cutT b with
    | none => none
    | some (k, r) => match cutT r with
      | none => none
      | some (v, r') => (prsL n r').map (fun p => (k :: p.1, v :: p.2))
def prsI : Nat → List UInt8 → Option (List (List UInt8) × List Int)
  | 0, b => if b.length = 0 then some ([], []) else none
  | n + 1, b => match cutT b with
    | none => none
    | some (k, r) => match kidT r with
      | none => none
      | some (v, r') => (prsI n r').map (fun p => (k :: p.1, v :: p.2))
def prs (leaf : Bool) : List UInt8 → Option ND
  | x :: y :: r => if leaf then (prsL (x.toNat * 256 + y.toNat) r).map (fun p => ⟨true, p.1, p.2, []⟩)
    else match kidT r with
      | none => none
      | some (c, r') => (prsI (x.toNat * 256 + y.toNat) r').map (fun p => ⟨false, p.1, [], c :: p.2⟩)
  | _ => none
def zero : ND := ⟨false, [], [], []⟩
def isKind (k : Int) : Bool := decide (k = 2) || decide (k = 3)
def dec (k : Int) (b : List UInt8) : Option ND := if isKind k && decide (b.length ≤ 1000) then (prs (decide (k = 2)) b).bind (fun s => if s.ok then some s else none) else none
def decE (k : Int) (b : List UInt8) : Int := if (dec k b).isSome then 0 else 100
def decS (k : Int) (b : List UInt8) : ND := (dec k b).getD zero

theorem dec_none {k : Int} {b : List UInt8} (h : dec k b = none) : decE k b = 100 ∧ decS k b = zero := by
  unfold decE decS
  rw [h]
  exact ⟨rfl, rfl⟩
theorem dec_some {k : Int} {b : List UInt8} {s : ND} (h : dec k b = some s) : decE k b = 0 ∧ decS k b = s := by
  unfold decE decS
  rw [h]
  exact ⟨rfl, rfl⟩

theorem cutT_tx {t : List UInt8} (h : t.length < 256) (r : List UInt8) : cutT (tx t ++ r) = some (t, r) := by
  unfold tx
  rw [List.cons_append]
  show (if (UInt8.ofNat t.length).toNat ≤ (t ++ r).length then some ((t ++ r).take (UInt8.ofNat t.length).toNat, (t ++ r).drop (UInt8.ofNat t.length).toNat) else none) = _
  rw [ofNat_toNat, Nat.mod_eq_of_lt h, if_pos (by rw [List.length_append]; omega), List.take_left' rfl, List.drop_left' rfl]
theorem cutT_back {b k r : List UInt8} (h : cutT b = some (k, r)) : b = tx k ++ r := by
  cases b with
  | nil => cases h
  | cons c b =>
    change (if c.toNat ≤ b.length then some (b.take c.toNat, b.drop c.toNat) else none) = _ at h
    split at h
    · rename_i hc
      have e := Option.some.inj h
      injection e with e1 e2
      subst e1
      subst e2
      unfold tx
      rw [List.length_take, Nat.min_eq_left hc, List.cons_append, List.take_append_drop]
      congr 1
      apply UInt8.toNat_inj.1
      rw [ofNat_toNat]
      have := byte_lt c
      omega
    · cases h
theorem cutT_more {b k r : List UInt8} (h : cutT b = some (k, r)) (x : List UInt8) : cutT (b ++ x) = some (k, r ++ x) := by
  cases b with
  | nil => cases h
  | cons c b =>
    change (if c.toNat ≤ b.length then some (b.take c.toNat, b.drop c.toNat) else none) = _ at h
    split at h
    · rename_i hc
      have e := Option.some.inj h
      injection e with e1 e2
      subst e1
      subst e2
      rw [List.cons_append]
      show (if c.toNat ≤ (b ++ x).length then some ((b ++ x).take c.toNat, (b ++ x).drop c.toNat) else none) = _
      rw [if_pos (by rw [List.length_append]; omega), List.take_append_of_le_length hc, List.drop_append_of_le_length hc]
    · cases h
theorem kidT_kd {c : Int} (h : 2 ≤ c ∧ c ≤ 2147483647) (r : List UInt8) : kidT (kd c ++ r) = some (c, r) := by
  unfold kd be4
  simp only [List.cons_append, List.nil_append]
  show some (((num4 _ _ _ _ : Nat) : Int), r) = _
  rw [num4_be4 (mod32_lt c)]
  have e : ((mod32 c : Nat) : Int) = c := by rw [mod32_cast]; omega
  rw [e]
theorem kidT_back {b r : List UInt8} {c : Int} (h : kidT b = some (c, r)) : b = kd c ++ r := by
  match b, h with
  | x :: y :: z :: u :: b, h =>
    have e := Option.some.inj h
    injection e with e1 e2
    subst e1
    subst e2
    unfold kd
    have hlt := num4_lt x y z u
    rw [show mod32 ((num4 x y z u : Nat) : Int) = num4 x y z u by unfold mod32; omega, be4_num4]
    rfl
theorem kidT_more {b r : List UInt8} {c : Int} (h : kidT b = some (c, r)) (x : List UInt8) : kidT (b ++ x) = some (c, r ++ x) := by
  match b, h with
  | x' :: y :: z :: u :: b, h =>
    have e := Option.some.inj h
    injection e with e1 e2
    subst e1
    subst e2
    rfl

theorem prsL_succ (n : Nat) (b : List UInt8) : prsL (n + 1) b = match cutT b with
    | none => none
    | some (k, r) => match cutT r with
      | none => none
      | some (v, r') => (prsL n r').map (fun p => (k :: p.1, v :: p.2)) := rfl
theorem prsI_succ (n : Nat) (b : List UInt8) : prsI (n + 1) b = match cutT b with
    | none => none
    | some (k, r) => match kidT r with
      | none => none
      | some (v, r') => (prsI n r').map (fun p => (k :: p.1, v :: p.2)) := rfl

theorem prsL_enc : ∀ ks vs : List (List UInt8), vs.length = ks.length → (∀ k ∈ ks, k.length ≤ 120) → (∀ v ∈ vs, v.length ≤ 100) → prsL ks.length (encL ks vs) = some (ks, vs)
  | [], [], _, _, _ => rfl
  | k :: ks, v :: vs, h, hk, hv => by
    have h1 := hk k (by simp)
    have h2 := hv v (by simp)
    rw [encL_cons, List.length_cons, prsL_succ, cutT_tx (by omega)]
    dsimp only
    rw [cutT_tx (by omega)]
    dsimp only
    rw [prsL_enc ks vs (by simpa using h) (fun x hx => hk x (by simp [hx])) (fun x hx => hv x (by simp [hx]))]
    rfl
  | [], _ :: _, h, _, _ => by simp at h
  | _ :: _, [], h, _, _ => by simp at h
theorem prsI_enc : ∀ (ks : List (List UInt8)) (cs : List Int), cs.length = ks.length → (∀ k ∈ ks, k.length ≤ 120) → (∀ c ∈ cs, 2 ≤ c ∧ c ≤ 2147483647) → prsI ks.length (encI ks cs) = some (ks, cs)
  | [], [], _, _, _ => rfl
  | k :: ks, c :: cs, h, hk, hc => by
    have h1 := hk k (by simp)
    rw [encI_cons, List.length_cons, prsI_succ, cutT_tx (by omega)]
    dsimp only
    rw [kidT_kd (hc c (by simp))]
    dsimp only
    rw [prsI_enc ks cs (by simpa using h) (fun x hx => hk x (by simp [hx])) (fun x hx => hc x (by simp [hx]))]
    rfl
  | [], _ :: _, h, _, _ => by simp at h
  | _ :: _, [], h, _, _ => by simp at h

theorem prsL_back : ∀ (n : Nat) (b : List UInt8) (ks vs : List (List UInt8)), prsL n b = some (ks, vs) → ks.length = n ∧ vs.length = n ∧ encL ks vs = b
  | 0, b, ks, vs, h => by
    change (if b.length = 0 then some ([], []) else none) = some (ks, vs) at h
    split at h
    · rename_i hb
      have e := Option.some.inj h
      injection e with e1 e2
      subst e1
      subst e2
      exact ⟨rfl, rfl, (List.eq_nil_of_length_eq_zero hb).symm⟩
    · cases h
  | n + 1, b, ks, vs, h => by
    rw [prsL_succ] at h
    cases hc : cutT b with
    | none => rw [hc] at h; cases h
    | some p =>
      obtain ⟨k, r⟩ := p
      rw [hc] at h
      dsimp only at h
      cases hd : cutT r with
      | none => rw [hd] at h; cases h
      | some q =>
        obtain ⟨v, r'⟩ := q
        rw [hd] at h
        dsimp only at h
        obtain ⟨⟨ks', vs'⟩, h1, h2⟩ := Option.map_eq_some_iff.1 h
        injection h2 with e1 e2
        subst e1
        subst e2
        obtain ⟨g1, g2, g3⟩ := prsL_back n r' ks' vs' h1
        refine ⟨by rw [List.length_cons, g1], by rw [List.length_cons, g2], ?_⟩
        rw [encL_cons, g3, ← cutT_back hd, ← cutT_back hc]
theorem prsI_back : ∀ (n : Nat) (b : List UInt8) (ks : List (List UInt8)) (cs : List Int), prsI n b = some (ks, cs) → ks.length = n ∧ cs.length = n ∧ encI ks cs = b
  | 0, b, ks, vs, h => by
    change (if b.length = 0 then some ([], []) else none) = some (ks, vs) at h
    split at h
    · rename_i hb
      have e := Option.some.inj h
      injection e with e1 e2
      subst e1
      subst e2
      exact ⟨rfl, rfl, (List.eq_nil_of_length_eq_zero hb).symm⟩
    · cases h
  | n + 1, b, ks, vs, h => by
    rw [prsI_succ] at h
    cases hc : cutT b with
    | none => rw [hc] at h; cases h
    | some p =>
      obtain ⟨k, r⟩ := p
      rw [hc] at h
      dsimp only at h
      cases hd : kidT r with
      | none => rw [hd] at h; cases h
      | some q =>
        obtain ⟨v, r'⟩ := q
        rw [hd] at h
        dsimp only at h
        obtain ⟨⟨ks', vs'⟩, h1, h2⟩ := Option.map_eq_some_iff.1 h
        injection h2 with e1 e2
        subst e1
        subst e2
        obtain ⟨g1, g2, g3⟩ := prsI_back n r' ks' vs' h1
        refine ⟨by rw [List.length_cons, g1], by rw [List.length_cons, g2], ?_⟩
        rw [encI_cons, g3, ← kidT_back hd, ← cutT_back hc]

theorem prsL_more : ∀ (n : Nat) (b : List UInt8) (p : List (List UInt8) × List (List UInt8)) (x : List UInt8), prsL n b = some p → ¬ x.length = 0 → prsL n (b ++ x) = none
  | 0, b, p, x, _, hx => by
    change (if (b ++ x).length = 0 then some ([], []) else none) = none
    rw [if_neg (by rw [List.length_append]; omega)]
  | n + 1, b, p, x, h, hx => by
    rw [prsL_succ] at h ⊢
    cases hc : cutT b with
    | none => rw [hc] at h; cases h
    | some q =>
      obtain ⟨k, r⟩ := q
      rw [hc] at h
      rw [cutT_more hc]
      dsimp only at h ⊢
      cases hd : cutT r with
      | none => rw [hd] at h; cases h
      | some q =>
        obtain ⟨v, r'⟩ := q
        rw [hd] at h
        rw [cutT_more hd]
        dsimp only at h ⊢
        obtain ⟨p', h1, _⟩ := Option.map_eq_some_iff.1 h
        rw [prsL_more n r' p' x h1 hx]
        rfl
theorem prsI_more : ∀ (n : Nat) (b : List UInt8) (p : List (List UInt8) × List Int) (x : List UInt8), prsI n b = some p → ¬ x.length = 0 → prsI n (b ++ x) = none
  | 0, b, p, x, _, hx => by
    change (if (b ++ x).length = 0 then some ([], []) else none) = none
    rw [if_neg (by rw [List.length_append]; omega)]
  | n + 1, b, p, x, h, hx => by
    rw [prsI_succ] at h ⊢
    cases hc : cutT b with
    | none => rw [hc] at h; cases h
    | some q =>
      obtain ⟨k, r⟩ := q
      rw [hc] at h
      rw [cutT_more hc]
      dsimp only at h ⊢
      cases hd : kidT r with
      | none => rw [hd] at h; cases h
      | some q =>
        obtain ⟨v, r'⟩ := q
        rw [hd] at h
        rw [kidT_more hd]
        dsimp only at h ⊢
        obtain ⟨p', h1, _⟩ := Option.map_eq_some_iff.1 h
        rw [prsI_more n r' p' x h1 hx]
        rfl

theorem prs_leaf (x y : UInt8) (r : List UInt8) : prs true (x :: y :: r) = (prsL (x.toNat * 256 + y.toNat) r).map (fun p => ⟨true, p.1, p.2, []⟩) := rfl
theorem prs_inner (x y : UInt8) (r : List UInt8) : prs false (x :: y :: r) = match kidT r with
      | none => none
      | some (c, r') => (prsI (x.toNat * 256 + y.toNat) r').map (fun p => ⟨false, p.1, [], c :: p.2⟩) := rfl

/-- A node's bytes are read as itself. -/
theorem prs_enc {s : ND} (h : s.ok = true) (hz : s.keys.length < 65536) : prs s.leaf s.enc = some s := by
  unfold enc body
  rw [be_two]
  simp only [List.cons_append, List.nil_append]
  have hn : (UInt8.ofNat (s.keys.length / 256)).toNat * 256 + (UInt8.ofNat s.keys.length).toNat = s.keys.length := by
    rw [ofNat_toNat, ofNat_toNat]
    omega
  obtain ⟨leaf, keys, vals, kids⟩ := s
  cases leaf with
  | true =>
    obtain ⟨h1, _, h3⟩ := ok_leaf h rfl
    dsimp only at h1 h3 hn ⊢
    subst h3
    rw [if_pos rfl, prs_leaf, hn, prsL_enc keys vals h1 (ok_keys h) (ok_vals h)]
    rfl
  | false =>
    obtain ⟨_, h2, _, h4⟩ := ok_inner h rfl
    dsimp only at h2 h4 hn ⊢
    subst h4
    have hk := ok_kids h
    dsimp only at hk
    cases kids with
    | nil => simp at h2
    | cons c cs =>
      rw [if_neg (by decide), prs_inner, hn]
      dsimp only
      rw [kidT_kd (hk c (by simp))]
      dsimp only
      rw [prsI_enc keys cs (by simpa using h2) (ok_keys h) (fun x hx => hk x (by simp [hx]))]
      rfl

/-- Bytes that are read are the node's own. -/
theorem prs_back {leaf : Bool} {b : List UInt8} {s : ND} (h : prs leaf b = some s) : s.leaf = leaf ∧ s.enc = b := by
  match b, h with
  | x :: y :: r, h =>
    have hx := byte_lt x
    have hy := byte_lt y
    have two : ∀ n, n = x.toNat * 256 + y.toNat → be 2 n = [x, y] := by
      intro n hn
      rw [be_two, byte_eq (a := x) (by omega), byte_eq (a := y) (by omega)]
    cases leaf with
    | true =>
      rw [prs_leaf] at h
      obtain ⟨⟨ks, vs⟩, h1, rfl⟩ := Option.map_eq_some_iff.1 h
      obtain ⟨g1, g2, g3⟩ := prsL_back _ _ _ _ h1
      refine ⟨rfl, ?_⟩
      unfold enc body
      dsimp only
      rw [if_pos rfl, two _ g1, g3]
      rfl
    | false =>
      rw [prs_inner] at h
      cases hk : kidT r with
      | none => rw [hk] at h; cases h
      | some q =>
        obtain ⟨c, r'⟩ := q
        rw [hk] at h
        dsimp only at h
        obtain ⟨⟨ks, cs⟩, h1, rfl⟩ := Option.map_eq_some_iff.1 h
        obtain ⟨g1, g2, g3⟩ := prsI_back _ _ _ _ h1
        refine ⟨rfl, ?_⟩
        unfold enc body
        dsimp only
        rw [if_neg (by decide), two _ g1, g3, ← kidT_back hk]
        rfl

/-- Bytes that are read are read no more, with bytes behind them. -/
theorem prs_more {leaf : Bool} {b : List UInt8} {s : ND} (h : prs leaf b = some s) {x : List UInt8} (hx : ¬ x.length = 0) : prs leaf (b ++ x) = none := by
  match b, h with
  | u :: y :: r, h =>
    simp only [List.cons_append]
    cases leaf with
    | true =>
      rw [prs_leaf] at h ⊢
      obtain ⟨p, h1, _⟩ := Option.map_eq_some_iff.1 h
      rw [prsL_more _ _ _ _ h1 hx]
      rfl
    | false =>
      rw [prs_inner] at h ⊢
      cases hk : kidT r with
      | none => rw [hk] at h; cases h
      | some q =>
        obtain ⟨c, r'⟩ := q
        rw [hk] at h
        rw [kidT_more hk]
        dsimp only at h ⊢
        obtain ⟨p, h1, _⟩ := Option.map_eq_some_iff.1 h
        rw [prsI_more _ _ _ _ h1 hx]
        rfl

/-! ### What the laws say -/

theorem few_keys {s : ND} (h : s.size ≤ 1000) : s.keys.length ≤ 1000 := by
  unfold size tsz at h
  omega
theorem dec_enc {s : ND} (h : s.encE = 0) : dec s.encK s.encB = some s := by
  obtain ⟨hf, ho, hz⟩ := fits_of h
  have hk := few_keys hz
  unfold dec
  rw [encB_of h, encK_of h, enc_length ho, decide_eq_true hz]
  have hp := prs_enc ho (by omega)
  cases hl : s.leaf with
  | true =>
    rw [hl] at hp
    show (prs true s.enc).bind _ = _
    rw [hp]
    show (if s.ok = true then some s else none) = _
    rw [if_pos ho]
  | false =>
    rw [hl] at hp
    show (prs false s.enc).bind _ = _
    rw [hp]
    show (if s.ok = true then some s else none) = _
    rw [if_pos ho]
theorem dec_ok {k : Int} {b : List UInt8} {s : ND} (h : dec k b = some s) : (k = 2 ∨ k = 3) ∧ b.length ≤ 1000 ∧ prs (decide (k = 2)) b = some s ∧ s.ok = true := by
  unfold dec at h
  split at h
  · rename_i hk
    unfold isKind at hk
    rw [Bool.and_eq_true, Bool.or_eq_true, decide_eq_true_eq, decide_eq_true_eq, decide_eq_true_eq] at hk
    obtain ⟨t, h1, h2⟩ := Option.bind_eq_some_iff.1 h
    split at h2
    · rename_i ho
      obtain rfl := Option.some.inj h2
      exact ⟨hk.1, hk.2, h1, ho⟩
    · cases h2
  · cases h
/-- Bytes that are a node's are its. -/
theorem dec_back {k : Int} {b : List UInt8} {s : ND} (h : dec k b = some s) : s.encE = 0 ∧ s.encK = k ∧ s.encB = b := by
  obtain ⟨hk, hb, hp, ho⟩ := dec_ok h
  obtain ⟨g1, g2⟩ := prs_back hp
  have hz : s.size ≤ 1000 := by rw [← enc_length ho, g2]; exact hb
  have he := encE_fits ho hz
  refine ⟨he, ?_, ?_⟩
  · rw [encK_of he, g1]
    rcases hk with rfl | rfl <;> rfl
  · rw [encB_of he, g2]
theorem dec_more {s : ND} (h : s.encE = 0) {x : List UInt8} (hx : ¬ x.length = 0) : dec s.encK (s.encB ++ x) = none := by
  obtain ⟨hk, hb, hp, ho⟩ := dec_ok (dec_enc h)
  cases hd : dec s.encK (s.encB ++ x) with
  | none => rfl
  | some t =>
    obtain ⟨_, _, hq, _⟩ := dec_ok hd
    rw [prs_more hp hx] at hq
    cases hq
theorem dec_cut {s : ND} (h : s.encE = 0) {c : Nat} (hc : c < s.encB.length) : dec s.encK (s.encB.take c) = none := by
  obtain ⟨hk, hb, hp, ho⟩ := dec_ok (dec_enc h)
  cases hd : dec s.encK (s.encB.take c) with
  | none => rfl
  | some t =>
    obtain ⟨_, _, hq, _⟩ := dec_ok hd
    have hm := prs_more hq (x := s.encB.drop c) (by rw [List.length_drop]; omega)
    rw [List.take_append_drop] at hm
    rw [hm] at hp
    cases hp
end ND
end Go.Proofs.Ytcdfjaldnelfjaa
