/-
  What node's appendNumber and appendText come to.
-/
import Derived.Test.YtgnlmbelaempcaaNMem
import Derived.Lib.AppendStr
namespace Go.Proofs.Ytgnlmbelaempcaa
open Go.RowKit

theorem nshift (k : Int) (c : Nat) (h : c = 1 ∨ c = 256 ∨ c = 65536 ∨ c = 16777216) : k / (c : Int) % 256 = ((UInt8.ofNat (mod32 k / c)).toNat : Int) := by
  rw [ofNat_toNat]
  unfold mod32
  rcases h with rfl | rfl | rfl | rfl <;> omega

theorem be_take {d x j : Nat} (hd : d = 1 ∨ d = 2 ∨ d = 4) (hj : j < d) : (be d x).take (j + 1) = (be d x).take j ++ [UInt8.ofNat (x / 256 ^ (d - 1 - j))] := by
  rcases hd with rfl | rfl | rfl
  · obtain rfl : j = 0 := by omega
    simp [be, be4]
  · have : j = 0 ∨ j = 1 := by omega
    rcases this with rfl | rfl <;> simp [be, be4]
  · have : j = 0 ∨ j = 1 ∨ j = 2 ∨ j = 3 := by omega
    rcases this with rfl | rfl | rfl | rfl <;> simp [be, be4]

theorem nshift2 (k : Int) {d j : Nat} (hd : d = 1 ∨ d = 2 ∨ d = 4) (hj : j < d) : k / 2 ^ (8 * (d - 1) - 8 * j) % 256 = ((UInt8.ofNat (mod32 k / 256 ^ (d - 1 - j))).toNat : Int) := by
  have e0 := nshift k 1 (by omega)
  have e1 := nshift k 256 (by omega)
  have e2 := nshift k 65536 (by omega)
  have e3 := nshift k 16777216 (by omega)
  rcases hd with rfl | rfl | rfl
  · obtain rfl : j = 0 := by omega
    exact e0
  · have : j = 0 ∨ j = 1 := by omega
    rcases this with rfl | rfl
    · exact e1
    · exact e0
  · have : j = 0 ∨ j = 1 ∨ j = 2 ∨ j = 3 := by omega
    rcases this with rfl | rfl | rfl | rfl
    · exact e3
    · exact e2
    · exact e1
    · exact e0

set_option maxHeartbeats 1600000 in
theorem nappNum (base : Nat) (v : Value) (xs : List UInt8) (k : Int) (d : Nat) (hd : d = 1 ∨ d = 2 ∨ d = 4) (w : World) (hown : Own w base v xs) (hb : base ≤ w.heap.size) (hn : xs.length ≤ 1000000) :
    Calls Try.prog 20 #[v, .int .i64 k, .int .i64 (d : Int)] w (Owned base w (xs ++ be d (mod32 k))) := by
  obtain ⟨i0, hi, hz0, hz1, hz2⟩ := info_parts byteInfo
  have HD := Lib.hid hd
  have hd4 : d ≤ 4 := by omega
  clear hd
  go_enter Try.func20, Try.ntmps20
  go_wp2_with fail
  go_loopw [0, 7] (fun v s wr => ∃ j : Nat, j ≤ d ∧ s = .int .i64 (8 * ((d : Int) - 1) - 8 * (j : Int)) ∧ Own wr base v (xs ++ (be d (mod32 k)).take j) ∧ Below base w wr) (fun _ s _ => (intOf s + 8).toNat)
  case atStart => exact ⟨0, by omega, by simp, by simpa using hown, Below.refl _ _⟩
  case round =>
    obtain ⟨j, hj, rfl, hown2, b2⟩ := hrel
    have hlen : (xs ++ (be d (mod32 k)).take j).length ≤ xs.length + 4 := by
      rw [List.length_append, List.length_take]
      omega
    by_cases hlt : j < d
    · unfold Own at hown2
      have hle : (j : Int) ≤ (d : Int) - 1 := by omega
      go_wp2_with (at_builtin; refine wpList_append_own _ rfl (.tmp 15) (.tmp 20) 28 rfl base 5 i0 (.int .u8 0) 1 1 Try.underlying28 hi hz0 hz1 hz2 rfl (by decide) _ _ _ rfl (hown2.alloc _) ⟨wr.heap.size, 0, none⟩ 1 1 [_] rfl rfl (cell_one_new _ _ _) (by simp [Value.oneCell']) (by unfold maxLen; omega) (by omega) (by have := b2.size; simp; omega) ?_; intro v3 w3 hown3 hg3 _)
      have b3 : Below base w w3 := (b2.alloc (by have := b2.size; omega) _).grown hg3 (by have := b2.size; simp; omega) (fun g hg => (hown2.lt g hg).1)
      clear hg3
      go_roundw
      case rel =>
        refine ⟨j + 1, by omega, by congr 1; omega, ?_, b3⟩
        rw [be_take HD.out hlt, ← List.append_assoc]
        exact own_push (nshift2 k HD.out hlt) hown3
      case measure => simp [intOf]; omega
    · obtain rfl : j = d := by omega
      have hle : (j : Int) - 1 < (j : Int) := by omega
      have ht : (be j (mod32 k)).take j = be j (mod32 k) := List.take_of_length_le (by rw [be_length _ hd4]; omega)
      rw [ht] at hown2
      clear ht
      go_wp2_with fail
      go_ret
      exact ⟨_, rfl, hown2, b2⟩

theorem nappOne (base : Nat) (v : Value) (xs : List UInt8) (k : Int) (w : World) (hown : Own w base v xs) (hb : base ≤ w.heap.size) (hn : xs.length ≤ 1000000) :
    Calls Try.prog 20 #[v, .int .i64 k, .int .i64 1] w (Owned base w (xs ++ be 1 (mod32 k))) := nappNum base v xs k 1 (by omega) w hown hb hn
theorem nappTwo (base : Nat) (v : Value) (xs : List UInt8) (k : Int) (w : World) (hown : Own w base v xs) (hb : base ≤ w.heap.size) (hn : xs.length ≤ 1000000) :
    Calls Try.prog 20 #[v, .int .i64 k, .int .i64 2] w (Owned base w (xs ++ be 2 (mod32 k))) := nappNum base v xs k 2 (by omega) w hown hb hn
theorem nappFour (base : Nat) (v : Value) (xs : List UInt8) (k : Int) (w : World) (hown : Own w base v xs) (hb : base ≤ w.heap.size) (hn : xs.length ≤ 1000000) :
    Calls Try.prog 20 #[v, .int .i64 k, .int .i64 4] w (Owned base w (xs ++ ND.kd k)) := nappNum base v xs k 4 (by omega) w hown hb hn

theorem strCells_bv (s : ByteArray) : Lib.strCells s = bv s.toList := by
  unfold Lib.strCells bv
  rw [toList_data]
/-- A text's bytes, behind the number of them. -/
theorem own_text {w : World} {base : Nat} {v : Value} {xs : List UInt8} {s : ByteArray} {N : Nat} (hN : (xs ++ be 1 (mod32 (s.size : Int))).length = N) (h : w.ownsRow base 5 1 v (N + s.size) (bv (xs ++ be 1 (mod32 (s.size : Int))) ++ Lib.strCells s)) :
    Own w base v (xs ++ ND.tx s.toList) := by
  subst hN
  rw [strCells_bv, ← bv_append] at h
  have e : xs ++ ND.tx s.toList = xs ++ be 1 (mod32 (s.size : Int)) ++ s.toList := by
    unfold ND.tx
    rw [be_one, toList_length, List.append_assoc]
    congr 2
    apply UInt8.toNat_inj.1
    rw [ofNat_toNat, ofNat_toNat]
    unfold mod32
    omega
  rw [e]
  unfold Own
  have e2 : (xs ++ be 1 (mod32 (s.size : Int)) ++ s.toList).length = (xs ++ be 1 (mod32 (s.size : Int))).length + s.size := by
    conv => lhs; rw [List.length_append]
    rw [toList_length]
  rw [e2]
  exact h

set_option maxHeartbeats 1600000 in
theorem nappText (base : Nat) (v : Value) (xs : List UInt8) (s : ByteArray) (w : World) (hown : Own w base v xs) (hb : base ≤ w.heap.size) (hn : xs.length ≤ 1000000) (hs : s.size ≤ 1000000) :
    Calls Try.prog 21 #[v, .string s] w (Owned base w (xs ++ ND.tx s.toList)) := by
  obtain ⟨i0, hi, hz0, hz1, hz2⟩ := info_parts byteInfo
  have HO := Lib.hid hown
  clear hown
  go_enter Try.func21, Try.ntmps21
  go_wp2_with fail
  refine (nappOne base v xs (s.size : Int) w HO.out hb hn).mono ?_
  rintro e w1 ⟨v1, rfl, o1, b1⟩
  have hN : (xs ++ be 1 (mod32 (s.size : Int))).length = xs.length + 1 := by rw [List.length_append, be_length _ (by omega)]
  have HN := Lib.hid hN
  have B1 := Lib.hid b1
  have hz := b1.size
  unfold Own at o1
  rw [hN] at o1
  clear hN b1
  go_wp2_with (at_builtin; refine Lib.wpList_append_own_string _ rfl (.tmp 8) (.tmp 9) 28 9 rfl base 5 i0 Try.underlying28 Try.underlying9 hi hz0 hz1 hz2 _ _ _ rfl o1 s rfl (by unfold maxLen; omega) (by omega) (by omega) ?_; intro v3 w3 hown3 hg3 _)
  have O3 := Lib.hid (own_text HN.out hown3)
  have B3 := Lib.hid (B1.out.grown hg3 (by omega) (fun g hg => (o1.lt g hg).1))
  clear o1 hown3 hg3
  go_wp2_with fail
  go_ret
  exact ⟨_, rfl, O3.out, B3.out⟩
end Go.Proofs.Ytgnlmbelaempcaa
