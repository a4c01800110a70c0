/-
  The bytes of pages' lists, in parts, and the lists of parts. Nothing here names the program.
-/
import Derived.Test.YtlldmefjhgahdaaSCode
import Derived.Test.YtlldmefjhgahdaaFPure
namespace Go.Proofs.Ytlldmefjhgahdaa.SS

/-- Bytes in parts of a thousand, the last one perhaps shorter; g parts at most. -/
def cutB : Nat → List UInt8 → List (List UInt8)
  | 0, _ => []
  | g + 1, b => if b = [] then [] else b.take 1000 :: cutB g (b.drop 1000)
theorem cutB_nil (g : Nat) : cutB g [] = [] := by
  cases g with
  | zero => rfl
  | succ g => unfold cutB; rw [if_pos rfl]
theorem cutB_more : ∀ (g : Nat) (b : List UInt8), b.length ≤ 1000 * g → cutB (g + 1) b = cutB g b
  | 0, b, h => by
    rw [List.eq_nil_of_length_eq_zero (by omega : b.length = 0), cutB_nil, cutB_nil]
  | g + 1, b, h => by
    conv => lhs; unfold cutB
    conv => rhs; unfold cutB
    split
    · rfl
    · rw [cutB_more g (b.drop 1000) (by rw [List.length_drop]; omega)]
theorem cutB_flat : ∀ (g : Nat) (b : List UInt8), b.length ≤ 1000 * g → (cutB g b).flatten = b
  | 0, b, h => by
    rw [List.eq_nil_of_length_eq_zero (by omega : b.length = 0)]
    rfl
  | g + 1, b, h => by
    unfold cutB
    split
    · rename_i e
      rw [e]
      rfl
    · rw [List.flatten_cons, cutB_flat g (b.drop 1000) (by rw [List.length_drop]; omega), List.take_append_drop]
theorem numB_take_n : ∀ (m : Nat) (l : List Int), (numB l).take (4 * m) = numB (l.take m)
  | 0, l => by simp [numB_nil]
  | m + 1, [] => by simp [numB_nil]
  | m + 1, z :: l => by
    rw [List.take_succ_cons, numB_cons, numB_cons, show 4 * (m + 1) = 4 + 4 * m by omega, List.take_append, be4_length, List.take_of_length_le (by rw [be4_length]; omega), show 4 + 4 * m - 4 = 4 * m by omega, numB_take_n m l]
theorem numB_drop_n : ∀ (m : Nat) (l : List Int), (numB l).drop (4 * m) = numB (l.drop m)
  | 0, l => by simp
  | m + 1, [] => by simp [numB_nil]
  | m + 1, z :: l => by
    rw [List.drop_succ_cons, numB_cons, show 4 * (m + 1) = 4 + 4 * m by omega, List.drop_append, be4_length, List.drop_of_length_le (by rw [be4_length]; omega), show 4 + 4 * m - 4 = 4 * m by omega, numB_drop_n m l, List.nil_append]
theorem numB_eq_nil (l : List Int) : numB l = [] ↔ l = [] := by
  constructor
  · intro h
    have := numB_length l
    rw [h] at this
    exact List.eq_nil_of_length_eq_zero (by simp at this; omega)
  · rintro rfl
    rfl
/-- Cut as numbers, or as bytes: the same parts. -/
theorem cut_numB : ∀ (g : Nat) (l : List Int), (cut 250 g l).map numB = cutB g (numB l)
  | 0, l => rfl
  | g + 1, l => by
    unfold cut cutB
    by_cases h : l = []
    · rw [if_pos h, if_pos ((numB_eq_nil l).2 h)]
      rfl
    · rw [if_neg h, if_neg (fun e => h ((numB_eq_nil l).1 e)), List.map_cons, cut_numB g, ← numB_take_n 250 l, ← numB_drop_n 250 l]

/-- The lists' parts. -/
def enc (s : SS) : List (List UInt8) := cutB (numB s.nums).length (numB s.nums)
theorem enc_flat (s : SS) : s.enc.flatten = numB s.nums := cutB_flat _ _ (by omega)
theorem enc_ref (s : SS) : (cut 250 s.nums.length s.nums).map numB = s.enc := by
  rw [cut_numB]
  unfold enc
  have h : ∀ (k g : Nat) (b : List UInt8), b.length ≤ 1000 * g → cutB (g + k) b = cutB g b := by
    intro k
    induction k with
    | zero => exact fun g b h => rfl
    | succ k ih => intro g b h; rw [show g + (k + 1) = (g + k) + 1 by omega, cutB_more (g + k) b (by omega), ih g b h]
  have hl := numB_length s.nums
  have := h (3 * s.nums.length) s.nums.length (numB s.nums) (by omega)
  rw [← this, show s.nums.length + 3 * s.nums.length = (numB s.nums).length by omega]

def topN : Int := 2147483647
open Classical in
/-- The lists of parts, if these are any's. -/
noncomputable def dec (ps : List (List UInt8)) : Option SS :=
  match rd ps.flatten with
  | Option.none => Option.none
  | some l =>
    match parse l with
    | Option.none => Option.none
    | some s => if s.check topN = 0 ∧ s.enc = ps then some s else Option.none
theorem dec_some {ps : List (List UInt8)} {s : SS} (h : dec ps = some s) : s.check topN = 0 ∧ s.enc = ps := by
  unfold dec at h
  split at h
  · cases h
  · split at h
    · cases h
    · split at h
      · rename_i h1
        obtain rfl := Option.some.inj h
        exact h1
      · cases h
/-- What Decode answers. -/
noncomputable def decS (ps : List (List UInt8)) : SS := (dec ps).getD none
noncomputable def decE (ps : List (List UInt8)) : Int := if (dec ps).isSome then 0 else 80

/-- What the numbers tell, as far as they go. -/
def told (l : List Int) : SS :=
  match l with
  | h :: n :: r =>
    if n < (r.length : Int) then ⟨h, r.take n.toNat, unpairs (r.drop (n.toNat + 1))⟩ else none
  | _ => none
theorem told_two (h n : Int) (r : List Int) : told (h :: n :: r) = if n < (r.length : Int) then ⟨h, r.take n.toNat, unpairs (r.drop (n.toNat + 1))⟩ else none := rfl
theorem told_parse {l : List Int} {s : SS} (h : parse l = some s) : told l = s := by
  unfold parse at h
  split at h
  · rename_i h0 n r
    rw [told_two]
    split at h
    · rename_i hn
      split at h
      · rename_i m q hq
        split at h
        · obtain rfl := Option.some.inj h
          rw [if_pos hn.2]
          have : r.drop (n.toNat + 1) = q := by
            rw [← List.drop_drop, hq]
            rfl
          rw [this]
        · cases h
      · cases h
    · cases h
  · cases h
theorem none_not {t : Int} (h : Fine none t) : False := by
  have : (2 : Int) ≤ 0 := h.lo
  omega
theorem none_bad (t : Int) : (none : SS).check t = 80 := check_bad none_not

theorem rd_range : ∀ (b : List UInt8) (l : List Int), rd b = some l → ∀ z ∈ l, 0 ≤ z ∧ z ≤ 2147483647
  | [], l, h => by
    obtain rfl := Option.some.inj h
    simp
  | [_], l, h => by cases h
  | [_, _], l, h => by cases h
  | [_, _, _], l, h => by cases h
  | x :: y :: z :: u :: r, l, h => by
    rw [rd_four] at h
    split at h
    · rename_i hle
      obtain ⟨q, hq, rfl⟩ := Option.map_eq_some_iff.1 h
      intro a ha
      rcases List.mem_cons.1 ha with rfl | ha
      · omega
      · exact rd_range r q hq a ha
    · cases h
theorem unpairs_mem : ∀ (l : List Int) (x : Int × Int), x ∈ unpairs l → x.1 ∈ l ∧ x.2 ∈ l
  | [], x, h => by simp [unpairs] at h
  | [_], x, h => by simp [unpairs] at h
  | a :: b :: l, x, h => by
    unfold unpairs at h
    rcases List.mem_cons.1 h with rfl | h
    · simp
    · obtain ⟨h1, h2⟩ := unpairs_mem l x h
      simp [h1, h2]
theorem pairs_range {P : Int → Prop} : ∀ (l : List (Int × Int)), (∀ x ∈ l, P x.1 ∧ P x.2) → ∀ z ∈ pairs l, P z
  | [], _, z, h => by simp [pairs] at h
  | x :: l, hx, z, h => by
    unfold pairs at h
    rcases List.mem_cons.1 h with rfl | h
    · exact (hx x (by simp)).1
    · rcases List.mem_cons.1 h with rfl | h
      · exact (hx x (by simp)).2
      · exact pairs_range l (fun y hy => hx y (by simp [hy])) z h
theorem unpairs_short : ∀ (l : List Int), 2 * (unpairs l).length ≤ l.length
  | [] => by simp [unpairs]
  | [_] => by simp [unpairs]
  | a :: b :: l => by
    unfold unpairs
    have := unpairs_short l
    simp only [List.length_cons]
    omega
/-- Numbers whose bytes were read, and what they tell: what is laid anew is the same only if they were such lists'. -/
theorem told_dec {ps : List (List UInt8)} {l : List Int} (h : rd ps.flatten = some l) (hl : l.length ≤ 2000000) (hc : (told l).check topN = 0) (he : (told l).enc = ps) : parse l = some (told l) := by
  have hr := rd_range _ l h
  have hb := numB_rd _ l h
  rw [← he, enc_flat] at hb
  have hn : ∀ z ∈ (told l).nums, 0 ≤ z ∧ z ≤ 2147483647 := by
    have hf := check_fine hc
    match l, hr, hl, hf with
    | [], _, _, hf => exact (none_not hf).elim
    | [_], _, _, hf => exact (none_not hf).elim
    | h0 :: n :: r, hr, hl, hf =>
      rw [told_two] at hf ⊢
      split at hf
      · rename_i hlt
        rw [if_pos hlt]
        have hn0 := hr n (by simp)
        simp only [List.length_cons] at hl
        intro z hz
        unfold nums at hz
        have hu := unpairs_short (r.drop (n.toNat + 1))
        rw [List.length_drop] at hu
        rcases List.mem_cons.1 hz with rfl | hz
        · exact hr _ (by simp)
        · rcases List.mem_cons.1 hz with rfl | hz
          · show 0 ≤ (((r.take n.toNat).length : Nat) : Int) ∧ (((r.take n.toNat).length : Nat) : Int) ≤ 2147483647
            rw [List.length_take]
            omega
          · rcases List.mem_append.1 hz with hz | hz
            · exact hr z (by simp [List.mem_of_mem_take hz])
            · rcases List.mem_cons.1 hz with rfl | hz
              · show 0 ≤ (((unpairs (r.drop (n.toNat + 1))).length : Nat) : Int) ∧ (((unpairs (r.drop (n.toNat + 1))).length : Nat) : Int) ≤ 2147483647
                omega
              · refine pairs_range (P := fun z => 0 ≤ z ∧ z ≤ 2147483647) _ (fun x hx => ?_) z hz
                obtain ⟨h1, h2⟩ := unpairs_mem _ x hx
                exact ⟨hr _ (by simp [List.mem_of_mem_drop h1]), hr _ (by simp [List.mem_of_mem_drop h2])⟩
      · exact (none_not hf).elim
  have e1 := rd_numB _ hn
  have e2 : rd (numB l) = some l := rd_numB l hr
  rw [← hb, e2] at e1
  have e3 := Option.some.inj e1
  conv => lhs; rw [e3]
  exact parse_nums _
theorem dec_told {ps : List (List UInt8)} {l : List Int} (h : rd ps.flatten = some l) (hl : l.length ≤ 2000000) : dec ps = if (told l).check topN = 0 ∧ (told l).enc = ps then some (told l) else Option.none := by
  unfold dec
  rw [h]
  simp only
  cases hp : parse l with
  | none =>
    simp only
    rw [if_neg]
    rintro ⟨h1, h2⟩
    rw [told_dec h hl h1 h2] at hp
    cases hp
  | some s => rw [told_parse hp]
theorem dec_no {ps : List (List UInt8)} (h : rd ps.flatten = Option.none) : dec ps = Option.none := by
  unfold dec
  rw [h]

/-! ### Part by part -/

/-- The numbers of all parts, part by part. -/
def rds : List (List UInt8) → Option (List Int)
  | [] => some []
  | p :: ps => match rd p with
    | Option.none => Option.none
    | some l => (rds ps).map (l ++ ·)
theorem numB_append' (x : List Int) (b : List UInt8) (hx : ∀ z ∈ x, 0 ≤ z ∧ z ≤ 2147483647) : rd (numB x ++ b) = (rd b).map (x ++ ·) := by
  induction x with
  | nil =>
    show rd b = _
    cases rd b <;> rfl
  | cons z x ih =>
    obtain ⟨h0, h1⟩ := hx z (by simp)
    have e1 : mod32 z = z.toNat := by unfold mod32; omega
    rw [numB_cons]
    unfold be4
    simp only [List.cons_append, List.nil_append]
    rw [rd_four, num4_be4 (mod32_lt z), ih (fun y hy => hx y (by simp [hy])), if_pos (by rw [e1]; omega), Option.map_map]
    congr 1
    funext p
    simp only [Function.comp, List.cons.injEq, and_true]
    rw [e1]
    omega
theorem rds_rd : ∀ (ps : List (List UInt8)) (l : List Int), rds ps = some l → rd ps.flatten = some l
  | [], l, h => by
    obtain rfl := Option.some.inj h
    rfl
  | p :: ps, l, h => by
    unfold rds at h
    split at h
    · cases h
    · rename_i x hx
      obtain ⟨y, hy, rfl⟩ := Option.map_eq_some_iff.1 h
      rw [List.flatten_cons, ← numB_rd p x hx, numB_append' x _ (rd_range p x hx), rds_rd ps y hy]
      rfl
theorem rd_none_append {b : List UInt8} : ∀ {p : List UInt8}, p.length % 4 = 0 → rd p = Option.none → rd (p ++ b) = Option.none
  | [], _, h => by cases h
  | [_], h, _ => by simp at h
  | [_, _], h, _ => by simp at h
  | [_, _, _], h, _ => by simp at h
  | x :: y :: z :: u :: r, hl, h => by
    rw [rd_four] at h
    simp only [List.cons_append]
    rw [rd_four]
    split at h
    · rename_i hle
      rw [if_pos hle, rd_none_append (by simp at hl; omega) (by cases hr : rd r with | none => rfl | some q => rw [hr] at h; cases h)]
      rfl
    · rename_i hle
      rw [if_neg hle]
/-- A part that is no numbers' is no list's. -/
theorem rds_none_dec : ∀ {ps : List (List UInt8)}, rds ps = Option.none → (∀ p ∈ ps, p.length % 4 = 0) → rd ps.flatten = Option.none
  | [], h, _ => by cases h
  | p :: ps, h, h4 => by
    unfold rds at h
    rw [List.flatten_cons]
    split at h
    · rename_i hp
      exact rd_none_append (h4 p (by simp)) hp
    · rename_i x hx
      have h1 : rds ps = Option.none := by
        cases hq : rds ps with
        | none => rfl
        | some y => rw [hq] at h; cases h
      rw [← numB_rd p x hx, numB_append' x _ (rd_range p x hx), rds_none_dec h1 (fun q hq => h4 q (by simp [hq]))]
      rfl
theorem cutB_four : ∀ (g : Nat) (b : List UInt8), b.length % 4 = 0 → ∀ p ∈ cutB g b, p.length % 4 = 0
  | 0, _, _, p, h => by simp [cutB] at h
  | g + 1, b, hb, p, h => by
    unfold cutB at h
    split at h
    · simp at h
    · rcases List.mem_cons.1 h with rfl | h
      · rw [List.length_take]
        omega
      · exact cutB_four g (b.drop 1000) (by rw [List.length_drop]; omega) p h
theorem dec_rds_none {ps : List (List UInt8)} (h : rds ps = Option.none) : dec ps = Option.none := by
  cases hd : dec ps with
  | none => rfl
  | some s =>
    obtain ⟨h1, h2⟩ := dec_some hd
    have : rd ps.flatten = Option.none := by
      refine rds_none_dec h (fun p hp => ?_)
      rw [← h2] at hp
      refine cutB_four _ _ ?_ p hp
      rw [numB_length]
      omega
    rw [dec_no this] at hd
    cases hd
theorem dec_rds {ps : List (List UInt8)} {l : List Int} (h : rds ps = some l) : dec ps = match parse l with
    | Option.none => Option.none
    | some s => if s.check topN = 0 ∧ s.enc = ps then some s else Option.none := by
  unfold dec
  rw [rds_rd ps l h]

/-! ### What lists that may be come to -/
theorem nums_range {s : SS} (h : Fine s topN) (hf : s.fr.length ≤ 100000) (hp : s.pe.length ≤ 100000) (he : ∀ x ∈ s.pe, x.1 ≤ topN) : ∀ z ∈ s.nums, 0 ≤ z ∧ z ≤ 2147483647 := by
  have h1 := h.lo
  have h2 := h.hi
  unfold topN at h2 he
  intro z hz
  unfold nums at hz
  rcases List.mem_cons.1 hz with rfl | hz
  · omega
  · rcases List.mem_cons.1 hz with rfl | hz
    · omega
    · rcases List.mem_append.1 hz with hz | hz
      · have := h.inF z hz
        omega
      · rcases List.mem_cons.1 hz with rfl | hz
        · omega
        · refine pairs_range (P := fun z => 0 ≤ z ∧ z ≤ 2147483647) _ (fun x hx => ?_) z hz
          have a1 := h.pos x hx
          have a2 := h.inP x hx
          have a3 := he x hx
          omega
theorem dec_enc {s : SS} (h : Fine s topN) (hf : s.fr.length ≤ 100000) (hp : s.pe.length ≤ 100000) (he : ∀ x ∈ s.pe, x.1 ≤ topN) : dec s.enc = some s := by
  unfold dec
  rw [enc_flat, rd_numB _ (nums_range h hf hp he)]
  simp only
  rw [parse_nums]
  simp only
  rw [if_pos ⟨check_ok h, trivial⟩]
end Go.Proofs.Ytlldmefjhgahdaa.SS
