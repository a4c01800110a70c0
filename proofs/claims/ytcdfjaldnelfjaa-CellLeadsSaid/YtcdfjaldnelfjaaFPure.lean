/-
  Plain facts on frames: a number's bytes, a frame, what bytes are a frame's, numbers one behind the other. Nothing here names the program.
-/
import Derived.Test.YtcdfjaldnelfjaaCPure
import Derived.Test.YtcdfjaldnelfjaaNum
namespace Go.Proofs.Ytcdfjaldnelfjaa

/-- A number's four bytes, the highest first. -/
def be4 (x : Nat) : List UInt8 := [UInt8.ofNat (x / 16777216), UInt8.ofNat (x / 65536), UInt8.ofNat (x / 256), UInt8.ofNat x]
/-- A number's lowest d bytes. -/
def be (d x : Nat) : List UInt8 := (be4 x).drop (4 - d)

theorem be4_length (x : Nat) : (be4 x).length = 4 := rfl
theorem be_length {d : Nat} (x : Nat) (h : d ≤ 4) : (be d x).length = d := by
  unfold be
  rw [List.length_drop, be4_length]
  omega
theorem be_four (x : Nat) : be 4 x = be4 x := rfl
theorem be_one (x : Nat) : be 1 x = [UInt8.ofNat x] := rfl
theorem be_two (x : Nat) : be 2 x = [UInt8.ofNat (x / 256), UInt8.ofNat x] := rfl

theorem ofNat_mod {a b : Nat} (h : UInt8.ofNat a = UInt8.ofNat b) : a % 256 = b % 256 := by
  have := congrArg UInt8.toNat h
  rwa [ofNat_toNat, ofNat_toNat] at this

theorem be4_inj {x y : Nat} (hx : x < 4294967296) (hy : y < 4294967296) (h : be4 x = be4 y) : x = y := by
  unfold be4 at h
  simp only [List.cons.injEq, and_true] at h
  obtain ⟨h1, h2, h3, h4⟩ := h
  have := ofNat_mod h1
  have := ofNat_mod h2
  have := ofNat_mod h3
  have := ofNat_mod h4
  omega

theorem be2_inj {x y : Nat} (hx : x < 65536) (hy : y < 65536) (h : be 2 x = be 2 y) : x = y := by
  rw [be_two, be_two] at h
  simp only [List.cons.injEq, and_true] at h
  obtain ⟨h1, h2⟩ := h
  have := ofNat_mod h1
  have := ofNat_mod h2
  omega

/-! ### Frames -/

/-- What may be packed: a kind, a place, and that many bytes. -/
def FOk (k p : Int) (n : Nat) : Prop := 1 ≤ k ∧ k ≤ 4 ∧ 0 ≤ p ∧ p ≤ 2147483647 ∧ n ≤ 1000
instance (k p : Int) (n : Nat) : Decidable (FOk k p n) := by unfold FOk; infer_instance

/-- What is summed. -/
def bod (k p : Int) (l : List UInt8) : List UInt8 := be 1 k.toNat ++ be 4 p.toNat ++ be 2 l.length ++ l
/-- A frame. -/
def frm (k p : Int) (l : List UInt8) : List UInt8 := bod k p l ++ be 4 (crcM 0 (bod k p l))

theorem bod_length (k p : Int) (l : List UInt8) : (bod k p l).length = l.length + 7 := by
  unfold bod
  rw [List.length_append, List.length_append, List.length_append, be_length _ (by omega), be_length _ (by omega), be_length _ (by omega)]
  omega
theorem frm_length (k p : Int) (l : List UInt8) : (frm k p l).length = l.length + 11 := by
  unfold frm
  rw [List.length_append, bod_length, be_length _ (by omega)]

/-- A frame's kind, and its data, whatever the bytes are. -/
def kin (b : List UInt8) : Int := ((b.headD 0).toNat : Int)
def dat (b : List UInt8) : List UInt8 := (b.take (b.length - 4)).drop 7

theorem dat_length (b : List UInt8) : (dat b).length = b.length - 4 - 7 := by
  unfold dat
  rw [List.length_drop, List.length_take]
  omega
theorem kin_at {b : List UInt8} {z : UInt8} (h : b[0]? = some z) : kin b = (z.toNat : Int) := by
  cases b with
  | nil => simp at h
  | cons x b =>
    obtain rfl : x = z := by simpa using h
    rfl

/-- Bytes that are a frame of the place p. -/
def IsF (p : Int) (b : List UInt8) : Prop := 11 ≤ b.length ∧ FOk (kin b) p (dat b).length ∧ frm (kin b) p (dat b) = b
instance (p : Int) (b : List UInt8) : Decidable (IsF p b) := by unfold IsF; infer_instance

theorem frm_cons (k p : Int) (l : List UInt8) : frm k p l = UInt8.ofNat k.toNat :: (be4 p.toNat ++ (be 2 l.length ++ (l ++ be4 (crcM 0 (bod k p l))))) := by
  have e : bod k p l = UInt8.ofNat k.toNat :: (be4 p.toNat ++ (be 2 l.length ++ l)) := by
    unfold bod
    rw [be_one, be_four]
    simp
  have e2 : frm k p l = bod k p l ++ be4 (crcM 0 (bod k p l)) := rfl
  generalize crcM 0 (bod k p l) = x at *
  rw [e2, e]
  simp

theorem frm_kin {k p : Int} {l : List UInt8} (h0 : 0 ≤ k) (h1 : k ≤ 255) : kin (frm k p l) = k := by
  rw [frm_cons]
  unfold kin
  rw [List.headD_cons, ofNat_toNat]
  omega

theorem frm_dat (k p : Int) (l : List UInt8) : dat (frm k p l) = l := by
  unfold dat
  rw [frm_length]
  unfold frm
  rw [List.take_append_of_le_length (by rw [bod_length]; omega), List.take_of_length_le (by rw [bod_length]; omega)]
  unfold bod
  rw [List.drop_append_of_le_length (by simp [be_length]), List.drop_of_length_le (by simp [be_length]), List.nil_append]

theorem isF_frm {k p : Int} {l : List UInt8} (h : FOk k p l.length) : IsF p (frm k p l) := by
  have hk : kin (frm k p l) = k := frm_kin (by have := h.1; omega) (by have := h.2.1; omega)
  refine ⟨by rw [frm_length]; omega, ?_, ?_⟩
  · rw [hk, frm_dat]
    exact h
  · rw [hk, frm_dat]

theorem frm_place {k p k' p' : Int} {l l' : List UInt8} (h : frm k p l = frm k' p' l') : be4 p.toNat = be4 p'.toNat := by
  rw [frm_cons, frm_cons] at h
  exact (List.append_inj (List.cons.inj h).2 rfl).1

/-- A frame is one of its place alone. -/
theorem isF_place {k p q : Int} {l : List UInt8} (h : FOk k p l.length) (h' : IsF q (frm k p l)) : q = p := by
  have e := be4_inj (by have := h'.2.1.2.2.2.1; omega) (by have := h.2.2.2.1; omega) (frm_place h'.2.2)
  have := h.2.2.1
  have := h'.2.1.2.2.1
  omega

theorem frm_crc_lt (k p : Int) (l : List UInt8) : crcM 0 (bod k p l) < 4294967296 := crcM_lt (by omega) _

/-- A frame one of whose bytes is another one is none. -/
theorem isF_turn {k p q : Int} {l : List UInt8} {i : Nat} {z d : UInt8} (hz : (frm k p l)[i]? = some z) (h' : IsF q ((frm k p l).set i d)) : d = z := by
  obtain ⟨_, _, e⟩ := h'
  have hl : (dat ((frm k p l).set i d)).length = l.length := by
    rw [dat_length, List.length_set, frm_length]
    omega
  revert e hl
  generalize dat ((frm k p l).set i d) = m
  generalize kin ((frm k p l).set i d) = k'
  intro e hl
  have hb : (bod k' q m).length = (bod k p l).length := by rw [bod_length, bod_length, hl]
  unfold frm at e hz
  rw [be_four] at e hz
  rw [be_four] at e
  by_cases hi : i < (bod k p l).length
  · rw [List.set_append_left _ _ hi] at e
    obtain ⟨e1, e2⟩ := List.append_inj e (by rw [hb, List.length_set])
    rw [e1] at e2
    have e3 := be4_inj (crcM_lt (by omega) _) (crcM_lt (by omega) _) e2
    rw [List.getElem?_append_left hi] at hz
    exact (crcM_set (s := 0) (by omega) hz e3.symm).symm
  · rw [List.set_append_right _ _ (by omega)] at e
    obtain ⟨e1, e2⟩ := List.append_inj e hb
    rw [e1] at e2
    rw [List.getElem?_append_right (by omega)] at hz
    have h3 := congrArg (fun t => t[i - (bod k p l).length]?) e2
    rw [hz, List.getElem?_set, if_pos rfl, if_pos (List.getElem?_eq_some_iff.1 hz).1] at h3
    exact (Option.some.inj h3).symm

theorem frm_len (k p : Int) (l : List UInt8) (r : List UInt8) : ((frm k p l ++ r).drop 5).take 2 = be 2 l.length := by
  rw [frm_cons]
  simp only [List.cons_append, List.append_assoc, List.drop_succ_cons]
  rw [List.drop_append_of_le_length (by rw [be4_length]; omega), List.drop_of_length_le (by rw [be4_length]; omega), List.nil_append,
    List.take_append_of_le_length (by rw [be_length _ (by omega)]; omega), List.take_of_length_le (by rw [be_length _ (by omega)]; omega)]

/-- A frame with bytes behind it is none. -/
theorem isF_more {k p q : Int} {l r : List UInt8} (h : FOk k p l.length) (h' : IsF q (frm k p l ++ r)) : r = [] := by
  obtain ⟨_, h1, e⟩ := h'
  have h0 := h.2.2.2.2
  have h2 := h1.2.2.2.2
  have e2 := frm_len (kin (frm k p l ++ r)) q (dat (frm k p l ++ r)) []
  rw [List.append_nil, e, frm_len] at e2
  have e3 := be2_inj (by omega) (by omega) e2
  rw [dat_length, List.length_append, frm_length] at e3
  exact List.eq_nil_of_length_eq_zero (by omega)

/-- A frame that is cut is none. -/
theorem isF_cut {k p q : Int} {l : List UInt8} {c : Nat} (h : FOk k p l.length) (hc : c < l.length + 11) (h' : IsF q ((frm k p l).take c)) : False := by
  obtain ⟨h4, h1, e⟩ := h'
  have h0 := h.2.2.2.2
  have h2 := h1.2.2.2.2
  rw [List.length_take, frm_length] at h4
  have e2 := frm_len (kin ((frm k p l).take c)) q (dat ((frm k p l).take c)) []
  rw [List.append_nil, e] at e2
  have e4 := frm_len k p l []
  rw [List.append_nil] at e4
  have e5 : (((frm k p l).take c).drop 5).take 2 = ((frm k p l).drop 5).take 2 := by
    rw [List.drop_take, List.take_take]
    congr 1
    omega
  rw [e5, e4] at e2
  have e3 := be2_inj (by omega) (by omega) e2
  rw [dat_length, List.length_take, frm_length] at e3
  omega

/-! ### Numbers -/

/-- A number modulo 2^32. -/
def mod32 (z : Int) : Nat := (z % 4294967296).toNat
theorem mod32_lt (z : Int) : mod32 z < 4294967296 := by unfold mod32; omega
theorem mod32_cast (z : Int) : ((mod32 z : Nat) : Int) = z % 4294967296 := by unfold mod32; omega

/-- Numbers' bytes. -/
def numB (zs : List Int) : List UInt8 := zs.flatMap (fun z => be4 (mod32 z))

theorem numB_nil : numB [] = [] := rfl
theorem numB_cons (z : Int) (zs : List Int) : numB (z :: zs) = be4 (mod32 z) ++ numB zs := rfl
theorem numB_append (xs ys : List Int) : numB (xs ++ ys) = numB xs ++ numB ys := List.flatMap_append
theorem numB_length (zs : List Int) : (numB zs).length = 4 * zs.length := by
  induction zs with
  | nil => rfl
  | cons z zs ih => rw [numB_cons, List.length_append, ih, be4_length, List.length_cons]; omega
theorem numB_take {zs : List Int} {k : Nat} {z : Int} (h : zs[k]? = some z) : numB (zs.take (k + 1)) = numB (zs.take k) ++ be4 (mod32 z) := by
  rw [List.take_add_one, h, Option.toList_some, numB_append, numB_cons, numB_nil, List.append_nil]

/-- Four bytes' number. -/
def num4 (a b c d : UInt8) : Nat := ((a.toNat * 256 + b.toNat) * 256 + c.toNat) * 256 + d.toNat
theorem num4_lt (a b c d : UInt8) : num4 a b c d < 4294967296 := by
  have := byte_lt a
  have := byte_lt b
  have := byte_lt c
  have := byte_lt d
  unfold num4
  omega

theorem byte_eq {n : Nat} {a : UInt8} (h : n % 256 = a.toNat) : UInt8.ofNat n = a := by
  apply UInt8.toNat_inj.1
  rw [ofNat_toNat]
  exact h

theorem be4_num4 (a b c d : UInt8) : be4 (num4 a b c d) = [a, b, c, d] := by
  have := byte_lt a
  have := byte_lt b
  have := byte_lt c
  have := byte_lt d
  unfold be4 num4
  rw [byte_eq (a := a) (by omega), byte_eq (a := b) (by omega), byte_eq (a := c) (by omega), byte_eq (a := d) (by omega)]

theorem num4_be4 {x : Nat} (h : x < 4294967296) : num4 (UInt8.ofNat (x / 16777216)) (UInt8.ofNat (x / 65536)) (UInt8.ofNat (x / 256)) (UInt8.ofNat x) = x := by
  unfold num4
  rw [ofNat_toNat, ofNat_toNat, ofNat_toNat, ofNat_toNat]
  omega

/-- The numbers of bytes. -/
def rd : List UInt8 → Option (List Int)
  | [] => some []
  | a :: b :: c :: d :: r => if num4 a b c d ≤ 2147483647 then (rd r).map (((num4 a b c d : Nat) : Int) :: ·) else none
  | _ => none

theorem rd_four (a b c d : UInt8) (r : List UInt8) : rd (a :: b :: c :: d :: r) = if num4 a b c d ≤ 2147483647 then (rd r).map (((num4 a b c d : Nat) : Int) :: ·) else none := rfl

theorem rd_bad : ∀ b : List UInt8, ¬ b.length % 4 = 0 → rd b = none
  | [], h => by simp at h
  | [_], _ => rfl
  | [_, _], _ => rfl
  | [_, _, _], _ => rfl
  | a :: b :: c :: d :: r, h => by
    rw [rd_four, rd_bad r (by simp only [List.length_cons] at h; omega)]
    split <;> rfl

theorem numB_rd : ∀ (b : List UInt8) (ys : List Int), rd b = some ys → numB ys = b
  | [], ys, h => by
    obtain rfl : [] = ys := Option.some.inj h
    rfl
  | [_], _, h => by cases h
  | [_, _], _, h => by cases h
  | [_, _, _], _, h => by cases h
  | a :: b :: c :: d :: r, ys, h => by
    rw [rd_four] at h
    split at h
    · obtain ⟨zs, h1, rfl⟩ := Option.map_eq_some_iff.1 h
      have hlt := num4_lt a b c d
      rw [numB_cons, numB_rd r zs h1]
      have e : mod32 ((num4 a b c d : Nat) : Int) = num4 a b c d := by unfold mod32; omega
      rw [e, be4_num4]
      rfl
    · cases h

theorem rd_numB : ∀ zs : List Int, (∀ z ∈ zs, 0 ≤ z ∧ z ≤ 2147483647) → rd (numB zs) = some zs
  | [], _ => rfl
  | z :: zs, h => by
    have hz := h z (by simp)
    have e1 : mod32 z = z.toNat := by unfold mod32; omega
    rw [numB_cons]
    unfold be4
    simp only [List.cons_append, List.nil_append]
    rw [rd_four, num4_be4 (mod32_lt z), rd_numB zs (fun y hy => h y (by simp [hy])), if_pos (by rw [e1]; omega), Option.map_some]
    congr 2
    rw [e1]
    omega

theorem rd_length {b : List UInt8} {ys : List Int} (h : rd b = some ys) : b.length = 4 * ys.length := by
  rw [← numB_rd b ys h, numB_length]

/-- What is read while rest is left. -/
def Rds (b : List UInt8) (ys : List Int) (rest : List UInt8) : Prop := rd b = (rd rest).map (ys ++ ·)
theorem Rds.start (b : List UInt8) : Rds b [] b := by
  unfold Rds
  simp
theorem Rds.done {b : List UInt8} {ys : List Int} (h : Rds b ys []) : rd b = some ys := by
  unfold Rds at h
  rw [h]
  simp [rd]
theorem Rds.step {b rest : List UInt8} {ys : List Int} {x y z u : UInt8} (h : Rds b ys (x :: y :: z :: u :: rest)) (hn : num4 x y z u ≤ 2147483647) : Rds b (ys ++ [((num4 x y z u : Nat) : Int)]) rest := by
  unfold Rds at h ⊢
  rw [h, rd_four, if_pos hn, Option.map_map]
  congr 1
  funext p
  simp
theorem Rds.bad {b rest : List UInt8} {ys : List Int} {x y z u : UInt8} (h : Rds b ys (x :: y :: z :: u :: rest)) (hn : ¬ num4 x y z u ≤ 2147483647) : rd b = none := by
  unfold Rds at h
  rw [h, rd_four, if_neg hn]
  rfl

theorem four_of {l : List UInt8} {k : Nat} (h : k + 4 ≤ l.length) : ∃ x y z u, l[k]? = some x ∧ l[k + 1]? = some y ∧ l[k + 2]? = some z ∧ l[k + 3]? = some u ∧ l.drop k = x :: y :: z :: u :: l.drop (k + 4) := by
  refine ⟨l[k], l[k + 1], l[k + 2], l[k + 3], List.getElem?_eq_getElem _, List.getElem?_eq_getElem _, List.getElem?_eq_getElem _, List.getElem?_eq_getElem _, ?_⟩
  rw [List.drop_eq_getElem_cons (by omega), List.drop_eq_getElem_cons (i := k + 1) (by omega), List.drop_eq_getElem_cons (i := k + 1 + 1) (by omega), List.drop_eq_getElem_cons (i := k + 1 + 1 + 1) (by omega)]

/-! ### What the document fixes -/

theorem awake_frame : FOk 2 5 [(97 : UInt8)].length := by unfold FOk; simp
theorem awake_numB : numB [1, 258] = [0, 0, 0, 1, 0, 0, 1, 2] := by decide +kernel

end Go.Proofs.Ytcdfjaldnelfjaa
