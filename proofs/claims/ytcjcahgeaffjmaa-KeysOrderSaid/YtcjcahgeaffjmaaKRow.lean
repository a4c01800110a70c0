/-
  What keys.Row comes to, for every row of bounded length; with appendNumber and appendText.
-/
import Derived.Test.YtcjcahgeaffjmaaBys
import Derived.Maps.AppendAt
namespace Go.Proofs.Ytcjcahgeaffjmaa
open Go.RowKit

theorem byteInfo : (Try.prog.info? 5).map (fun i => (i.zero, i.size, i.bytes)) = some (some (.int .u8 0), 1, 1) := by kernel_rfl

/-- A list of bytes of one's own, in a block from base on. -/
def Own (w : World) (base : Nat) (v : Value) (l : List UInt8) : Prop := w.ownsRow base 5 1 v l.length (bv l)

/-- A call that answers a list of bytes of its own, and changes nothing below base. -/
def Owned (base : Nat) (w : World) (l : List UInt8) (e : Ending) (w' : World) : Prop :=
  ∃ v, e = .returned v ∧ Own w' base v l ∧ Below base w w'

theorem own_nil (w : World) (base : Nat) : Own w base (.slice none 0 0) [] := World.ownsRow_nil _ _ _ _

/-- One byte more. -/
theorem own_push {w : World} {base : Nat} {v : Value} {l : List UInt8} {c : UInt8} {z : Int} (hz : z = c.toNat) (h : w.ownsRow base 5 1 v (l.length + 1) (bv l ++ [.int .u8 z])) :
    Own w base v (l ++ [c]) := by
  unfold Own
  rw [bv_append, List.length_append]
  rw [hz] at h
  exact h
/-- Two bytes more. -/
theorem own_push2 {w : World} {base : Nat} {v : Value} {l : List UInt8} {c d : UInt8} {z y : Int} (hz : z = c.toNat) (hy : y = d.toNat) (h : w.ownsRow base 5 1 v (l.length + 2) (bv l ++ [.int .u8 z, .int .u8 y])) :
    Own w base v (l ++ [c, d]) := by
  unfold Own
  rw [bv_append, List.length_append]
  rw [hz, hy] at h
  exact h

theorem cell_two_new (w : World) (x y : Value) (t : TypeId) : ∀ j u, [x, y][j]? = some u → (w.alloc (.cells #[x, y] t)).cell? ((⟨w.heap.size, 0, none⟩ : Addr).add j) = some u := by
  intro j u h
  rw [addr_add]
  match j, h with
  | 0, h =>
    obtain rfl : x = u := by simpa using h
    simp
  | 1, h =>
    obtain rfl : y = u := by simpa using h
    simp

theorem u64_spell (k : Int) : IntKind.u64.wrap (IntKind.u64.wrap k + 9223372036854775808) = ((u64Of k : Nat) : Int) := by
  unfold u64Of
  show (k % 18446744073709551616 + 9223372036854775808) % 18446744073709551616 = _
  omega

theorem pow_spell {j : Nat} (h : j < 8) : (2 : Int) ^ (56 - 8 * j) = ((256 ^ (7 - j) : Nat) : Int) := by
  have : j = 0 ∨ j = 1 ∨ j = 2 ∨ j = 3 ∨ j = 4 ∨ j = 5 ∨ j = 6 ∨ j = 7 := by omega
  rcases this with rfl | rfl | rfl | rfl | rfl | rfl | rfl | rfl <;> rfl

theorem byte_spell (U : Nat) {j : Nat} (h : j < 8) : (U : Int) / 2 ^ (56 - 8 * j) % 256 = ((UInt8.ofNat (U / 256 ^ (7 - j))).toNat : Int) := by
  rw [pow_spell h, ofNat_toNat]
  generalize 256 ^ (7 - j) = q
  omega

set_option maxHeartbeats 800000 in
theorem appNum (base : Nat) (v : Value) (xs : List UInt8) (k : Int) (w : World) (hown : Own w base v xs) (hb : base ≤ w.heap.size) (hn : xs.length ≤ 1000000) :
    Calls Try.prog 29 #[v, .int .i64 k] w (Owned base w (xs ++ 1 :: beB 8 (u64Of k))) := by
  unfold Own at hown
  obtain ⟨i0, hi, hz0, hz1, hz2⟩ := info_parts byteInfo
  go_enter Try.func29, Try.ntmps29
  go_wp2_with (at_builtin; refine wpList_append_own _ rfl (.tmp 7) (.tmp 8) 24 rfl base 5 i0 (.int .u8 0) 1 1 Try.underlying24 hi hz0 hz1 hz2 rfl (by decide) _ _ _ rfl (hown.alloc _) ⟨w.heap.size, 0, none⟩ 1 1 [.int .u8 1] rfl rfl (cell_one_new _ _ _) (by simp [Value.oneCell']) (by unfold maxLen; omega) (by omega) (by simp; omega) ?_; intro v1 w1 hown1 hg1 _)
  have b1 : Below base w w1 := ((Below.refl _ _).alloc hb _).grown hg1 (by simp; omega) (fun g hg => (hown.lt g hg).1)
  have o1 : Own w1 base v1 (xs ++ [1]) := own_push (c := 1) rfl hown1
  clear hg1 hown1 hown
  rw [u64_spell]
  generalize u64Of k = U at *
  go_loopw [0, 6] (fun v s wr => ∃ j : Nat, j ≤ 8 ∧ s = .int .i64 (56 - 8 * (j : Int)) ∧ Own wr base v (xs ++ 1 :: (beB 8 U).take j) ∧ Below base w wr) (fun _ s _ => (intOf s + 8).toNat)
  case atStart => exact ⟨0, by omega, rfl, o1, b1⟩
  case round =>
    obtain ⟨j, hj, rfl, hown2, b2⟩ := hrel
    have hlen : (xs ++ 1 :: (beB 8 U).take j).length ≤ xs.length + 9 := by
      rw [List.length_append, List.length_cons, List.length_take, beB_length]
      omega
    by_cases hlt : j < 8
    · unfold Own at hown2
      go_wp2_with (at_builtin; refine wpList_append_own _ rfl (.tmp 17) (.tmp 22) 24 rfl base 5 i0 (.int .u8 0) 1 1 Try.underlying24 hi hz0 hz1 hz2 rfl (by decide) _ _ _ rfl (hown2.alloc _) ⟨wr.heap.size, 0, none⟩ 1 1 [_] rfl rfl (cell_one_new _ _ _) (by simp [Value.oneCell']) (by unfold maxLen; omega) (by omega) (by have := b2.size; simp; omega) ?_; intro v3 w3 hown3 hg3 _)
      have b3 : Below base w w3 := (b2.alloc (by have := b2.size; omega) _).grown hg3 (by have := b2.size; simp; omega) (fun g hg => (hown2.lt g hg).1)
      clear hg3
      go_roundw
      case rel =>
        refine ⟨j + 1, by omega, by congr 1; omega, ?_, b3⟩
        have := own_push (byte_spell U hlt) hown3
        rw [beB_take 8 j U hlt, ← List.cons_append, ← List.append_assoc]
        exact this
      case measure => simp [intOf]; omega
    · obtain rfl : j = 8 := by omega
      go_wp2_with fail
      go_ret
      refine ⟨_, rfl, ?_, b2⟩
      have := hown2
      rw [List.take_of_length_le (by rw [beB_length]; omega)] at this
      exact this

theorem tl_snoc (s : ByteArray) (k : Nat) (h : k < s.size) : s.toList.take (k + 1) = s.toList.take k ++ [s[k]] := by
  rw [toList_data, List.take_succ_eq_append_getElem (by simpa using h)]
  rfl

theorem text_zero {s : ByteArray} {j : Nat} (hj : j < s.size) (xs : List UInt8) (h : s[j] = 0) :
    xs ++ 2 :: esc (s.toList.take (j + 1)) = xs ++ 2 :: esc (s.toList.take j) ++ [s[j]] ++ [255] := by
  rw [tl_snoc s j hj, esc_snoc, if_pos h, h]
  simp
theorem text_other {s : ByteArray} {j : Nat} (hj : j < s.size) (xs : List UInt8) (h : ¬ s[j] = 0) :
    xs ++ 2 :: esc (s.toList.take (j + 1)) = xs ++ 2 :: esc (s.toList.take j) ++ [s[j]] := by
  rw [tl_snoc s j hj, esc_snoc, if_neg h]
  simp

theorem byte_zero {c : UInt8} (h : c = 0) : ((c.toNat : Int) == 0) = true := by rw [h]; rfl
theorem byte_not {c d : UInt8} (h : ¬ c = d) : ((c.toNat : Int) == (d.toNat : Int)) = false := by
  rw [beq_eq_false_iff_ne]
  intro e
  exact h (UInt8.toNat_inj.1 (by omega))

set_option maxHeartbeats 1600000 in
theorem appText (base : Nat) (v : Value) (xs : List UInt8) (s : ByteArray) (w : World) (hown : Own w base v xs) (hb : base ≤ w.heap.size) (hn : xs.length ≤ 1000000) (hs : s.size ≤ 1000000) :
    Calls Try.prog 30 #[v, .string s] w (Owned base w (xs ++ 2 :: (esc s.toList ++ [0, 0]))) := by
  unfold Own at hown
  obtain ⟨i0, hi, hz0, hz1, hz2⟩ := info_parts byteInfo
  go_enter Try.func30, Try.ntmps30
  go_wp2_with (at_builtin; refine wpList_append_own _ rfl (.tmp 6) (.tmp 7) 24 rfl base 5 i0 (.int .u8 0) 1 1 Try.underlying24 hi hz0 hz1 hz2 rfl (by decide) _ _ _ rfl (hown.alloc _) ⟨w.heap.size, 0, none⟩ 1 1 [.int .u8 2] rfl rfl (cell_one_new _ _ _) (by simp [Value.oneCell']) (by unfold maxLen; omega) (by omega) (by have := hb; simp; omega) ?_; intro v1 w1 hown1 hg1 _)
  have b1 : Below base w w1 := ((Below.refl _ _).alloc hb _).grown hg1 (by simp; omega) (fun g hg => (hown.lt g hg).1)
  have o1 : Own w1 base v1 (xs ++ [2]) := own_push (c := 2) rfl hown1
  clear hg1 hown1 hown
  go_loopw [0, 11] (fun v i wr => ∃ j : Nat, j ≤ s.size ∧ i = .int .i64 j ∧ Own wr base v (xs ++ 2 :: esc (s.toList.take j)) ∧ Below base w wr) (fun _ i _ => s.size - (intOf i).toNat)
  case atStart => exact ⟨0, by omega, rfl, by simpa [esc] using o1, b1⟩
  case round =>
    obtain ⟨j, hj, rfl, hown2, b2⟩ := hrel
    have hlen : (xs ++ 2 :: esc (s.toList.take j)).length ≤ xs.length + 1 + 2 * s.size := by
      have := esc_length (s.toList.take j)
      rw [List.length_append, List.length_cons]
      rw [List.length_take, toList_length] at this
      omega
    by_cases hlt : j < s.size
    · unfold Own at hown2
      by_cases hc : s[j] = 0
      · have hc' := byte_zero hc
        have HC := Lib.hid (text_zero hlt xs hc)
        clear hc
        go_wp2_with (first
          | (at_builtin; refine wpList_append_own _ rfl (.tmp 14) (.tmp 18) 24 rfl base 5 i0 (.int .u8 0) 1 1 Try.underlying24 hi hz0 hz1 hz2 rfl (by decide) _ _ _ rfl (hown2.alloc _) ⟨wr.heap.size, 0, none⟩ 1 1 [_] rfl rfl (cell_one_new _ _ _) (by simp [Value.oneCell']) (by unfold maxLen; omega) (by omega) (by have := b2.size; simp; omega) ?_; intro v3 w3 hown3 hg3 _; have b3 : Below base w w3 := (b2.alloc (by have := b2.size; omega) _).grown hg3 (by have := b2.size; simp; omega) (fun g hg => (hown2.lt g hg).1))
          | (at_builtin; refine wpList_append_own _ rfl (.tmp 24) (.tmp 25) 24 rfl base 5 i0 (.int .u8 0) 1 1 Try.underlying24 hi hz0 hz1 hz2 rfl (by decide) _ _ _ rfl (hown3.alloc _) ⟨w3.heap.size, 0, none⟩ 1 1 [_] rfl rfl (cell_one_new _ _ _) (by simp [Value.oneCell']) (by unfold maxLen; omega) (by omega) (by have := b3.size; simp; omega) ?_; intro v4 w4 hown4 hg4 _))
        have b4 : Below base w w4 := (b3.alloc (by have := b3.size; omega) _).grown hg4 (by have := b3.size; simp; omega) (fun g hg => (hown3.lt g hg).1)
        clear hg3 hg4
        have o3 : Own w3 base v3 _ := own_push rfl hown3
        have o4 : Own w4 base v4 _ := own_push (c := 255) (l := xs ++ 2 :: esc (s.toList.take j) ++ [s[j]]) rfl (by rw [bv_append, List.length_append]; exact hown4)
        rw [← HC.out] at o4
        go_roundw
        case rel => exact ⟨j + 1, by omega, by go_num, o4, b4⟩
        case measure => simp [intOf]; omega
      · have hc' : ((s[j].toNat : Int) == 0) = false := byte_not hc
        have HC := Lib.hid (text_other hlt xs hc)
        clear hc
        go_wp2_with (at_builtin; refine wpList_append_own _ rfl (.tmp 14) (.tmp 18) 24 rfl base 5 i0 (.int .u8 0) 1 1 Try.underlying24 hi hz0 hz1 hz2 rfl (by decide) _ _ _ rfl (hown2.alloc _) ⟨wr.heap.size, 0, none⟩ 1 1 [_] rfl rfl (cell_one_new _ _ _) (by simp [Value.oneCell']) (by unfold maxLen; omega) (by omega) (by have := b2.size; simp; omega) ?_; intro v3 w3 hown3 hg3 _)
        have b3 : Below base w w3 := (b2.alloc (by have := b2.size; omega) _).grown hg3 (by have := b2.size; simp; omega) (fun g hg => (hown2.lt g hg).1)
        clear hg3
        have o3 : Own w3 base v3 _ := own_push rfl hown3
        rw [← HC.out] at o3
        go_roundw
        case rel => exact ⟨j + 1, by omega, by go_num, o3, b3⟩
        case measure => simp [intOf]; omega
    · obtain rfl : j = s.size := by omega
      have ht : s.toList.take s.size = s.toList := List.take_of_length_le (by rw [toList_length]; omega)
      rw [ht] at hown2 hlen
      clear ht
      unfold Own at hown2
      go_wp2_with (at_builtin; refine wpList_append_own _ rfl (.tmp 28) (.tmp 29) 24 rfl base 5 i0 (.int .u8 0) 1 1 Try.underlying24 hi hz0 hz1 hz2 rfl (by decide) _ _ _ rfl (hown2.alloc _) ⟨wr.heap.size, 0, none⟩ 2 2 [_, _] rfl rfl (cell_two_new _ _ _ _) (by simp [Value.oneCell']) (by unfold maxLen; omega) (by omega) (by have := b2.size; simp; omega) ?_; intro v3 w3 hown3 hg3 _)
      have b3 : Below base w w3 := (b2.alloc (by have := b2.size; omega) _).grown hg3 (by have := b2.size; simp; omega) (fun g hg => (hown2.lt g hg).1)
      clear hg3
      have o3 : Own w3 base v3 _ := own_push2 (c := 0) (d := 0) rfl rfl hown3
      go_ret
      refine ⟨_, rfl, ?_, b3⟩
      rw [show xs ++ 2 :: (esc s.toList ++ [0, 0]) = xs ++ 2 :: esc s.toList ++ [0, 0] from by simp]
      exact o3

theorem rowB_take_le (xs : List Val) (k : Nat) : (rowB (xs.take k)).length ≤ (rowB xs).length := by
  have h : rowB xs = rowB (xs.take k) ++ rowB (xs.drop k) := by rw [← rowB_append, List.take_append_drop]
  rw [h, List.length_append]
  omega

theorem rowB_take {xs : List Val} {k : Nat} {v : Val} (hv : xs[k]? = some v) : rowB (xs.take (k + 1)) = rowB (xs.take k) ++ valB v := by
  rw [List.take_add_one, hv, Option.toList_some, rowB_snoc]

set_option maxHeartbeats 1600000 in
theorem keysRow_any (A : Option Addr) (c : Nat) (xs : List Val) (w : World) (hr : Row w A xs) (hn : xs.length ≤ 1000000) (hB : (rowB xs).length ≤ 1000000) (hs : ∀ v ∈ xs, v.s.size ≤ 1000000) :
    Calls Try.prog 15 #[.slice A xs.length c] w (Owned w.heap.size w (rowB xs)) := by
  have HS := Lib.hid hs
  clear hs
  go_enter Try.func15, Try.ntmps15
  go_wp2_with fail
  go_loopw [3, 8] (fun v i wr => ∃ k : Nat, k ≤ xs.length ∧ i = .int .i64 k ∧ Own wr w.heap.size v (rowB (xs.take k)) ∧ Below w.heap.size w wr) (fun _ i _ => xs.length - (intOf i).toNat)
  case atStart => exact ⟨0, Nat.zero_le _, rfl, own_nil _ _, Below.refl _ _⟩
  case round =>
    obtain ⟨k, hk, rfl, hown, hb⟩ := hrel
    have hle := rowB_take_le xs k
    by_cases hlt : k < xs.length
    · obtain ⟨b, off, v, rfl, hv, c0, c1, c2⟩ := (hr.below hb).at_ hlt
      have hz := HS.out v (List.mem_of_getElem? hv)
      have HV := Lib.hid (rowB_take hv)
      have HO : Hid (∀ o, Own (wr.alloc o) w.heap.size u3 (rowB (xs.take k))) := fun o => World.ownsRow.alloc hown o
      have bz := hb.size
      clear hv
      by_cases h1 : v.k = 1
      · have HB := Lib.hid (show valB v = 1 :: beB 8 (u64Of v.n) from by rw [valB, if_pos h1])
        rw [h1] at c0
        clear h1
        go_wp2_with fail
        refine (appNum w.heap.size u3 _ v.n _ (HO.out _) (by simp; omega) (by omega)).mono ?_
        rintro e w1 ⟨v1, rfl, o1, b1'⟩
        have b1 : Below w.heap.size w w1 := (hb.alloc hb.size _).trans b1'
        rw [← HB.out, ← HV.out] at o1
        clear b1'
        go_wp2_with fail
        go_roundw
        case rel => exact ⟨k + 1, by omega, by go_num, o1, b1⟩
        case measure => simp [intOf]; omega
      · by_cases h2 : v.k = 2
        · have HB := Lib.hid (show valB v = 2 :: (esc v.s.toList ++ [0, 0]) from by rw [valB, if_neg h1, if_pos h2])
          rw [h2] at c0
          clear h1 h2
          go_wp2_with fail
          refine (appText w.heap.size u3 _ v.s _ (HO.out _) (by simp; omega) (by omega) hz).mono ?_
          rintro e w1 ⟨v1, rfl, o1, b1'⟩
          have b1 : Below w.heap.size w w1 := (hb.alloc hb.size _).trans b1'
          rw [← HB.out, ← HV.out] at o1
          clear b1'
          go_wp2_with fail
          go_roundw
          case rel => exact ⟨k + 1, by omega, by go_num, o1, b1⟩
          case measure => simp [intOf]; omega
        · have HB := Lib.hid (show valB v = [] from by rw [valB, if_neg h1, if_neg h2])
          have o1 : Own wr w.heap.size u3 (rowB (xs.take (k + 1))) := by rw [HV.out, HB.out, List.append_nil]; exact hown
          go_wp2_with fail
          go_roundw
          case rel => exact ⟨k + 1, by omega, by go_num, World.ownsRow.alloc o1 _, hb.alloc hb.size _⟩
          case measure => simp [intOf]; omega
    · obtain rfl : k = xs.length := by omega
      rw [List.take_length] at hown
      go_wp2_with fail
      go_ret
      exact ⟨_, rfl, hown, hb⟩

/-- What a caller of Row wants. -/
theorem keysRow_n (A : Option Addr) (n c : Nat) (xs : List Val) (w : World) (hr : Row w A xs) (e : xs.length = n) (hn : n ≤ 1000000) (hB : (rowB xs).length ≤ 1000000) (hs : ∀ v ∈ xs, v.s.size ≤ 1000000) :
    Calls Try.prog 15 #[.slice A n c] w (Owned w.heap.size w (rowB xs)) := by
  subst e
  exact keysRow_any A c xs w hr hn hB hs
end Go.Proofs.Ytcjcahgeaffjmaa
