/-
  Plain facts on check sums: a step, eight steps, the sum of bytes; sums go by differences (^) and forget nothing. Nothing here names the program.
-/
import Derived.Laws.BitsAllLaws
namespace Go.Proofs.Ytcdfjaldnelfjaa

/-- A step of a word. -/
def step1 (w : Nat) : Nat := w / 2 ^^^ (if w % 2 = 1 then 3988292384 else 0)
/-- k steps. -/
def stepN : Nat → Nat → Nat
  | 0, w => w
  | k + 1, w => step1 (stepN k w)
/-- Eight steps. -/
def steps8 (w : Nat) : Nat := stepN 8 w
/-- The word behind one byte. -/
def crcB (w : Nat) (c : UInt8) : Nat := steps8 (w ^^^ c.toNat)
/-- The word behind bytes. -/
def crcF (w : Nat) (l : List UInt8) : Nat := l.foldl crcB w
/-- Each bit inverted. -/
def inv (w : Nat) : Nat := w ^^^ 4294967295
/-- The check sum behind another one. -/
def crcM (s : Nat) (l : List UInt8) : Nat := inv (crcF (inv s) l)

theorem xor_half (a b : Nat) : (a ^^^ b) / 2 = a / 2 ^^^ b / 2 := by
  have := Nat.shiftRight_xor_distrib (a := a) (b := b) (i := 1)
  simpa [Nat.shiftRight_eq_div_pow] using this

theorem xor_odd (a b : Nat) : (a ^^^ b) % 2 = (a % 2 + b % 2) % 2 := by
  have h : (a ^^^ b) % 2 = (a % 2 ^^^ b % 2) % 2 := by
    have := Nat.xor_mod_two_pow (a := a) (b := b) (n := 1)
    rw [Nat.pow_one] at this
    rw [this]
    have h1 : a % 2 = 0 ∨ a % 2 = 1 := by omega
    have h2 : b % 2 = 0 ∨ b % 2 = 1 := by omega
    rcases h1 with h1 | h1 <;> rcases h2 with h2 | h2 <;> rw [h1, h2] <;> rfl
  rw [h]
  have h1 : a % 2 = 0 ∨ a % 2 = 1 := by omega
  have h2 : b % 2 = 0 ∨ b % 2 = 1 := by omega
  rcases h1 with h1 | h1 <;> rcases h2 with h2 | h2 <;> rw [h1, h2] <;> rfl

theorem xor4 (a b c d : Nat) : (a ^^^ b) ^^^ (c ^^^ d) = (a ^^^ c) ^^^ (b ^^^ d) := by
  rw [Nat.xor_assoc, ← Nat.xor_assoc b c d, Nat.xor_comm b c, Nat.xor_assoc c b d, ← Nat.xor_assoc]

theorem step1_xor (a b : Nat) : step1 (a ^^^ b) = step1 a ^^^ step1 b := by
  unfold step1
  rw [xor_half, xor_odd, xor4]
  congr 1
  have h1 : a % 2 = 0 ∨ a % 2 = 1 := by omega
  have h2 : b % 2 = 0 ∨ b % 2 = 1 := by omega
  rcases h1 with h1 | h1 <;> rcases h2 with h2 | h2 <;> rw [h1, h2] <;> rfl

theorem stepN_xor : ∀ (k a b : Nat), stepN k (a ^^^ b) = stepN k a ^^^ stepN k b
  | 0, _, _ => rfl
  | k + 1, a, b => by
    simp only [stepN]
    rw [stepN_xor k a b, step1_xor]

theorem steps8_xor (a b : Nat) : steps8 (a ^^^ b) = steps8 a ^^^ steps8 b := stepN_xor 8 a b

theorem step1_even (m : Nat) : step1 (m * 2) = m := by
  unfold step1
  rw [if_neg (by omega), Nat.xor_zero]
  omega

theorem steps8_high (m : Nat) : steps8 (m * 256) = m := by
  unfold steps8
  simp only [stepN]
  rw [show m * 256 = m * 128 * 2 from by omega, step1_even, show m * 128 = m * 64 * 2 from by omega, step1_even, show m * 64 = m * 32 * 2 from by omega, step1_even,
    show m * 32 = m * 16 * 2 from by omega, step1_even, show m * 16 = m * 8 * 2 from by omega, step1_even, show m * 8 = m * 4 * 2 from by omega, step1_even,
    show m * 4 = m * 2 * 2 from by omega, step1_even, step1_even]

theorem split8 (w : Nat) : w = (w % 256) ^^^ (w / 256 * 256) := by
  apply Nat.eq_of_testBit_eq
  intro i
  rw [Nat.testBit_xor, show (256 : Nat) = 2 ^ 8 from rfl, Nat.testBit_mod_two_pow, Nat.mul_comm, Nat.testBit_two_pow_mul]
  by_cases h : i < 8
  · have h' : ¬ i ≥ 8 := by omega
    simp only [h, h', decide_true, decide_false, Bool.false_and, Bool.true_and, Bool.xor_false]
  · have h' : i ≥ 8 := by omega
    have e : 8 + (i - 8) = i := by omega
    simp only [h, h', decide_true, decide_false, Bool.false_and, Bool.true_and, Bool.false_xor]
    rw [← Nat.shiftRight_eq_div_pow, Nat.testBit_shiftRight, e]

/-- The word behind one byte, by the table. -/
theorem crcB_table (w : Nat) (c : UInt8) : crcB w c = steps8 (w % 256 ^^^ c.toNat) ^^^ w / 256 := by
  unfold crcB
  have e : w ^^^ c.toNat = (w % 256 ^^^ c.toNat) ^^^ (w / 256 * 256) := by
    have h := split8 w
    generalize w % 256 = lo at h ⊢
    generalize w / 256 * 256 = hi at h ⊢
    rw [h, Nat.xor_assoc, Nat.xor_comm hi, ← Nat.xor_assoc]
  rw [e, steps8_xor, steps8_high]

theorem xor_lt32 {a b : Nat} (ha : a < 4294967296) (hb : b < 4294967296) : a ^^^ b < 4294967296 := Nat.xor_lt_two_pow (n := 32) ha hb
theorem xor_lt8 {a b : Nat} (ha : a < 256) (hb : b < 256) : a ^^^ b < 256 := Nat.xor_lt_two_pow (n := 8) ha hb

theorem step1_lt {w : Nat} (h : w < 4294967296) : step1 w < 4294967296 := by
  unfold step1
  refine xor_lt32 (by omega) ?_
  split <;> omega

theorem stepN_lt : ∀ (k : Nat) {w : Nat}, w < 4294967296 → stepN k w < 4294967296
  | 0, _, h => h
  | k + 1, _, h => step1_lt (stepN_lt k h)

theorem steps8_lt {w : Nat} (h : w < 4294967296) : steps8 w < 4294967296 := stepN_lt 8 h

theorem crcB_lt {w : Nat} (h : w < 4294967296) (c : UInt8) : crcB w c < 4294967296 := by
  have := UInt8.toNat_lt c
  exact steps8_lt (xor_lt32 h (by omega))

theorem crcF_lt : ∀ (l : List UInt8) {w : Nat}, w < 4294967296 → crcF w l < 4294967296
  | [], _, h => h
  | c :: l, _, h => crcF_lt l (crcB_lt h c)

theorem inv_lt {w : Nat} (h : w < 4294967296) : inv w < 4294967296 := xor_lt32 h (by omega)
theorem crcM_lt {s : Nat} (h : s < 4294967296) (l : List UInt8) : crcM s l < 4294967296 := inv_lt (crcF_lt l (inv_lt h))

theorem inv_inv (w : Nat) : inv (inv w) = w := by
  unfold inv
  rw [Nat.xor_assoc, Nat.xor_self, Nat.xor_zero]

theorem inv_sub {w : Nat} (h : w < 4294967296) : inv w = 4294967295 - w := by
  unfold inv
  have h1 : (BitVec.ofNat 32 w ^^^ BitVec.allOnes 32).toNat = (~~~ BitVec.ofNat 32 w).toNat := by rw [BitVec.xor_allOnes]
  rw [BitVec.toNat_xor, BitVec.toNat_not, BitVec.toNat_allOnes, BitVec.toNat_ofNat, Nat.mod_eq_of_lt (by omega)] at h1
  simpa using h1

theorem crcF_append (w : Nat) (a b : List UInt8) : crcF w (a ++ b) = crcF (crcF w a) b := List.foldl_append

theorem crcF_snoc (w : Nat) (a : List UInt8) (c : UInt8) : crcF w (a ++ [c]) = crcB (crcF w a) c := by
  rw [crcF_append]
  rfl

theorem crcF_take {l : List UInt8} {k : Nat} {z : UInt8} (w : Nat) (h : l[k]? = some z) : crcF w (l.take (k + 1)) = crcB (crcF w (l.take k)) z := by
  rw [List.take_add_one, h, Option.toList_some, crcF_snoc]

/-- A check sum goes on where bytes do. -/
theorem crcM_append (s : Nat) (a b : List UInt8) : crcM s (a ++ b) = crcM (crcM s a) b := by
  unfold crcM
  rw [inv_inv, crcF_append]

theorem crcM_nil (s : Nat) : crcM s [] = s := inv_inv s

/-! ### Nothing is forgotten -/

theorem xor_cancel {a b c : Nat} (h : a ^^^ c = b ^^^ c) : a = b := by
  have := congrArg (· ^^^ c) h
  simpa [Nat.xor_assoc] using this

theorem step1_zero {w : Nat} (h : w < 4294967296) (e : step1 w = 0) : w = 0 := by
  unfold step1 at e
  by_cases ho : w % 2 = 1
  · rw [if_pos ho] at e
    have h1 : w / 2 = 3988292384 := by
      have := congrArg (· ^^^ 3988292384) e
      simpa [Nat.xor_assoc] using this
    omega
  · rw [if_neg ho, Nat.xor_zero] at e
    omega

theorem xor_eq_zero_of {a b : Nat} (h : a ^^^ b = 0) : a = b := by
  have := congrArg (· ^^^ b) h
  simpa [Nat.xor_assoc] using this

theorem step1_inj {a b : Nat} (ha : a < 4294967296) (hb : b < 4294967296) (h : step1 a = step1 b) : a = b := by
  refine xor_eq_zero_of (step1_zero (xor_lt32 ha hb) ?_)
  rw [step1_xor, h, Nat.xor_self]

theorem stepN_inj : ∀ (k : Nat) {a b : Nat}, a < 4294967296 → b < 4294967296 → stepN k a = stepN k b → a = b
  | 0, _, _, _, _, h => h
  | k + 1, _, _, ha, hb, h => stepN_inj k ha hb (step1_inj (stepN_lt k ha) (stepN_lt k hb) h)

theorem crcB_inj {a b : Nat} (ha : a < 4294967296) (hb : b < 4294967296) (c : UInt8) (h : crcB a c = crcB b c) : a = b := by
  have := UInt8.toNat_lt c
  exact xor_cancel (stepN_inj 8 (xor_lt32 ha (by omega)) (xor_lt32 hb (by omega)) h)

theorem crcB_byte {a : Nat} (ha : a < 4294967296) (c d : UInt8) (h : crcB a c = crcB a d) : c = d := by
  have h1 := UInt8.toNat_lt c
  have h2 := UInt8.toNat_lt d
  have := stepN_inj 8 (xor_lt32 ha (by omega)) (xor_lt32 ha (by omega)) h
  rw [Nat.xor_comm a, Nat.xor_comm a] at this
  exact UInt8.toNat_inj.1 (xor_cancel this)

theorem crcF_inj : ∀ (l : List UInt8) {a b : Nat}, a < 4294967296 → b < 4294967296 → crcF a l = crcF b l → a = b
  | [], _, _, _, _, h => h
  | c :: l, _, _, ha, hb, h => crcB_inj ha hb c (crcF_inj l (crcB_lt ha c) (crcB_lt hb c) h)

theorem inv_inj {a b : Nat} (h : inv a = inv b) : a = b := xor_cancel h

/-- Unlike check sums are unlike behind the same bytes. -/
theorem crcM_inj {l : List UInt8} {a b : Nat} (ha : a < 4294967296) (hb : b < 4294967296) (h : crcM a l = crcM b l) : a = b :=
  inv_inj (crcF_inj l (inv_lt ha) (inv_lt hb) (inv_inj h))

theorem crcF_set : ∀ (l : List UInt8) (k : Nat) (c d : UInt8) {w : Nat}, w < 4294967296 → l[k]? = some c → crcF w l = crcF w (l.set k d) → c = d
  | [], _, _, _, _, _, h, _ => by simp at h
  | x :: l, 0, c, d, w, hw, h, e => by
    obtain rfl : x = c := by simpa using h
    exact crcB_byte hw x d (crcF_inj l (crcB_lt hw x) (crcB_lt hw d) e)
  | x :: l, k + 1, c, d, w, hw, h, e => crcF_set l k c d (crcB_lt hw x) (by simpa using h) e

/-- Bytes one of which is another one have another check sum. -/
theorem crcM_set {l : List UInt8} {k : Nat} {c d : UInt8} {s : Nat} (hs : s < 4294967296) (h : l[k]? = some c) (e : crcM s l = crcM s (l.set k d)) : c = d :=
  crcF_set l k c d (inv_lt hs) h (inv_inj e)

/-! ### Differences of three -/

/-- The difference of three lists. -/
def mix3 : List UInt8 → List UInt8 → List UInt8 → List UInt8
  | x :: a, y :: b, z :: c => (x ^^^ y ^^^ z) :: mix3 a b c
  | _, _, _ => []

theorem xor_six (a b c x y z : Nat) : (a ^^^ b ^^^ c) ^^^ (x ^^^ y ^^^ z) = (a ^^^ x) ^^^ (b ^^^ y) ^^^ (c ^^^ z) := by
  rw [xor4 (a ^^^ b) c (x ^^^ y) z, xor4 a b x y]

theorem crcB_mix (a b c : Nat) (x y z : UInt8) : crcB (a ^^^ b ^^^ c) (x ^^^ y ^^^ z) = crcB a x ^^^ crcB b y ^^^ crcB c z := by
  unfold crcB
  rw [UInt8.toNat_xor, UInt8.toNat_xor, xor_six, steps8_xor, steps8_xor]

theorem crcF_mix : ∀ (l m n : List UInt8) (a b c : Nat), l.length = m.length → l.length = n.length → crcF (a ^^^ b ^^^ c) (mix3 l m n) = crcF a l ^^^ crcF b m ^^^ crcF c n
  | [], [], [], _, _, _, _, _ => rfl
  | x :: l, y :: m, z :: n, a, b, c, h1, h2 => by
    show crcF (crcB (a ^^^ b ^^^ c) (x ^^^ y ^^^ z)) (mix3 l m n) = _
    rw [crcB_mix]
    exact crcF_mix l m n _ _ _ (by simpa using h1) (by simpa using h2)
  | [], _ :: _, _, _, _, _, h, _ => by simp at h
  | [], [], _ :: _, _, _, _, _, h => by simp at h
  | _ :: _, [], _, _, _, _, h, _ => by simp at h
  | _ :: _, _ :: _, [], _, _, _, _, h => by simp at h

theorem inv3 (a b c : Nat) : inv (a ^^^ b ^^^ c) = inv a ^^^ inv b ^^^ inv c := by
  unfold inv
  rw [xor4 a, Nat.xor_self, Nat.xor_zero, Nat.xor_assoc (a ^^^ b)]

theorem crcM_mix (l m n : List UInt8) (h1 : l.length = m.length) (h2 : l.length = n.length) : crcM 0 (mix3 l m n) = crcM 0 l ^^^ crcM 0 m ^^^ crcM 0 n := by
  unfold crcM
  rw [← inv3, ← crcF_mix l m n _ _ _ h1 h2, ← inv3]
  rfl

theorem mix3_length : ∀ (l m n : List UInt8), l.length = m.length → l.length = n.length → (mix3 l m n).length = l.length
  | [], _, _, _, _ => by simp [mix3]
  | x :: l, y :: m, z :: n, h1, h2 => by
    simp only [mix3, List.length_cons]
    rw [mix3_length l m n (by simpa using h1) (by simpa using h2)]
  | _ :: _, [], _, h, _ => by simp at h
  | _ :: _, _ :: _, [], _, h => by simp at h

theorem mix3_at : ∀ (l m n : List UInt8) (k : Nat) (x y z : UInt8), l[k]? = some x → m[k]? = some y → n[k]? = some z → (mix3 l m n)[k]? = some (x ^^^ y ^^^ z)
  | [], _, _, _, _, _, _, h, _, _ => by simp at h
  | _ :: _, [], _, _, _, _, _, _, h, _ => by simp at h
  | _ :: _, _ :: _, [], _, _, _, _, _, _, h => by simp at h
  | a :: l, b :: m, c :: n, 0, x, y, z, h1, h2, h3 => by
    obtain rfl : a = x := by simpa using h1
    obtain rfl : b = y := by simpa using h2
    obtain rfl : c = z := by simpa using h3
    rfl
  | _ :: l, _ :: m, _ :: n, k + 1, x, y, z, h1, h2, h3 => by
    have := mix3_at l m n k x y z (by simpa using h1) (by simpa using h2) (by simpa using h3)
    simpa [mix3] using this

/-! ### What the document fixes -/

theorem awake_sum : crcM 0 [49, 50, 51, 52, 53, 54, 55, 56, 57] = 3421780262 := by decide +kernel
theorem awake_nil : crcM 0 [] = 0 := crcM_nil 0
theorem awake_1 : steps8 1 = 1996959894 := by decide +kernel
theorem awake_128 : steps8 128 = 3988292384 := by decide +kernel

/-- The table. -/
def tabL : List Nat := (List.range 256).map steps8

theorem tabL_length : tabL.length = 256 := by unfold tabL; simp
theorem tabL_at {k : Nat} (h : k < 256) : tabL[k]? = some (steps8 k) := by
  unfold tabL
  rw [List.getElem?_map, List.getElem?_range h]
  rfl

end Go.Proofs.Ytcdfjaldnelfjaa
