/-
  What the document's own Row comes to (package tailraceref02), with one.
-/
import Derived.Test.YtcjcahgeaffjmaaKNum
import Derived.Laws.AppendOwnNone
namespace Go.Proofs.Ytcjcahgeaffjmaa
open Go.RowKit

theorem own_base {w : World} {base base' : Nat} {v : Value} {l : List UInt8} (h : Own w base v l) (hb : base' ≤ base) : Own w base' v l := by
  unfold Own at h ⊢
  refine ⟨h.1, ?_⟩
  rcases h.2 with h2 | ⟨g, cap, cur, h2, h3, h4⟩
  · exact Or.inl h2
  · exact Or.inr ⟨g, cap, cur, h2, by omega, h4⟩

/-- A boxed value, below what has been made since. -/
theorem Val3.below {w w' : World} {b B : Nat} {k n : Int} {s : ByteArray} (h : Val3 w b k n s) (hb : Below B w w') (hlt : b < B) : Val3 w' b k n s := by
  obtain ⟨h0, h1, h2, h3, h4, h5⟩ := h
  exact ⟨(hb.cell (p := ⟨b, 0, none⟩) hlt).trans h0, (hb.cell (p := ⟨b, 1, none⟩) hlt).trans h1, (hb.cell (p := ⟨b, 2, none⟩) hlt).trans h2,
    (hb.frozen (p := ⟨b, 0, none⟩) hlt).trans h3, (hb.frozen (p := ⟨b, 1, none⟩) hlt).trans h4, (hb.frozen (p := ⟨b, 2, none⟩) hlt).trans h5⟩

theorem spell8 (U : Nat) {j : Nat} (h : j < 8) : (U : Int) / 2 ^ (8 * (7 - j)) % 256 = ((UInt8.ofNat (U / 256 ^ (7 - j))).toNat : Int) := by
  have e : 56 - 8 * j = 8 * (7 - j) := by omega
  rw [← e]
  exact byte_spell U h

theorem new_one (w : World) (o : Obj) (x : Value) (t : TypeId) : ∀ j u, [x][j]? = some u → ((w.alloc o).alloc (.cells #[x] t)).cell? ((⟨w.heap.size + 1, 0, none⟩ : Addr).add j) = some u := by
  have h := cell_one_new (w.alloc o) x t
  rw [show (w.alloc o).heap.size = w.heap.size + 1 from by simp] at h
  exact h

set_option maxHeartbeats 1600000 in
theorem one_num (n : Int) (s : ByteArray) (w : World) :
    Calls Try.prog 31 #[.agg #[.int .i64 1, .int .i64 n, .string s]] w (Owned w.heap.size w (1 :: beB 8 (u64Of n))) := by
  obtain ⟨i0, hi, hz0, hz1, hz2⟩ := info_parts byteInfo
  have hown : (w.alloc (.cells #[.int .i64 1, .int .i64 n, .string s] 38)).ownsRow (w.heap.size + 1) 5 1 (.slice none 0 0) 0 [] := World.ownsRow_nil _ _ _ _
  have V := Val3.new w 38 1 n s
  have hsz : w.heap.size + 1 ≤ (w.alloc (.cells #[.int .i64 1, .int .i64 n, .string s] 38)).heap.size := by simp
  have bw := below_one w (.cells #[.int .i64 1, .int .i64 n, .string s] 38)
  go_enter Try.func31, Try.ntmps31
  go_wp2_with (at_builtin; refine wpList_append_own _ rfl (.tmp 14) (.tmp 15) 24 rfl (w.heap.size + 1) 5 i0 (.int .u8 0) 1 1 Try.underlying24 hi hz0 hz1 hz2 rfl (by decide) _ _ _ rfl (hown.alloc _) ⟨w.heap.size + 1, 0, none⟩ 1 1 [.int .u8 1] rfl rfl (new_one _ _ _ _) (by simp [Value.oneCell']) (by unfold maxLen; omega) (by omega) (by simp) ?_; intro v1 w1 hown1 hg1 _)
  have b1 : Below (w.heap.size + 1) (w.alloc (.cells #[.int .i64 1, .int .i64 n, .string s] 38)) w1 := ((Below.refl _ _).alloc hsz _).grown hg1 (by simp) (fun g hg => (hown.lt g hg).1)
  have o1 : Own w1 (w.heap.size + 1) v1 ([] ++ [1]) := own_push (l := []) (c := 1) rfl hown1
  rw [List.nil_append] at o1
  generalize w.alloc (.cells #[.int .i64 1, .int .i64 n, .string s] 38) = wb at *
  clear hg1 hown1 hown
  rw [u64_spell]
  generalize u64Of n = U at *
  go_loopw [3, 5] (fun v i wr => ∃ j : Nat, j ≤ 8 ∧ i = .int .i64 (7 - (j : Int)) ∧ Own wr (w.heap.size + 1) v (1 :: (beB 8 U).take j) ∧ Below (w.heap.size + 1) wb wr) (fun _ i _ => (intOf i + 1).toNat)
  case atStart => exact ⟨0, by omega, rfl, o1, b1⟩
  case round =>
    obtain ⟨j, hj, rfl, hown2, b2⟩ := hrel
    have hlen : (1 :: (beB 8 U).take j).length ≤ 9 := by
      rw [List.length_cons, List.length_take, beB_length]
      omega
    by_cases hlt : j < 8
    · unfold Own at hown2
      go_wp2_with (at_builtin; refine wpList_append_own _ rfl (.tmp 21) (.tmp 28) 24 rfl (w.heap.size + 1) 5 i0 (.int .u8 0) 1 1 Try.underlying24 hi hz0 hz1 hz2 rfl (by decide) _ _ _ rfl (hown2.alloc _) ⟨wr.heap.size, 0, none⟩ 1 1 [_] rfl rfl (cell_one_new _ _ _) (by simp [Value.oneCell']) (by unfold maxLen; omega) (by omega) (by have := b2.size; simp; omega) ?_; intro v3 w3 hown3 hg3 _)
      have b3 : Below (w.heap.size + 1) wb w3 := (b2.alloc (by have := b2.size; omega) _).grown hg3 (by have := b2.size; simp; omega) (fun g hg => (hown2.lt g hg).1)
      clear hg3
      go_roundw
      case rel =>
        refine ⟨j + 1, by omega, by congr 1; omega, ?_, b3⟩
        have := own_push (spell8 U hlt) hown3
        rw [beB_take 8 j U hlt]
        exact this
      case measure => simp [intOf]; omega
    · obtain rfl : j = 8 := by omega
      obtain ⟨c0, c1, c2, f0, f1, f2⟩ := V.below b2 (by omega)
      rw [List.take_of_length_le (by rw [beB_length]; omega)] at hown2
      go_wp2_with fail
      go_ret
      refine ⟨_, rfl, own_base hown2 (by omega), ?_⟩
      exact bw.trans (b2.mono (by omega))

theorem one_zero {s : ByteArray} {j : Nat} (hj : j < s.size) (h : s[j] = 0) : 2 :: esc (s.toList.take (j + 1)) = 2 :: esc (s.toList.take j) ++ [s[j]] ++ [255] := by
  have := text_zero hj [] h
  simpa using this
theorem one_other {s : ByteArray} {j : Nat} (hj : j < s.size) (h : ¬ s[j] = 0) : 2 :: esc (s.toList.take (j + 1)) = 2 :: esc (s.toList.take j) ++ [s[j]] := by
  have := text_other hj [] h
  simpa using this

set_option maxHeartbeats 3200000 in
set_option maxRecDepth 100000 in
theorem one_text (n : Int) (s : ByteArray) (w : World) (hs : s.size ≤ 1000000) :
    Calls Try.prog 31 #[.agg #[.int .i64 2, .int .i64 n, .string s]] w (Owned w.heap.size w (2 :: (esc s.toList ++ [0, 0]))) := by
  obtain ⟨i0, hi, hz0, hz1, hz2⟩ := info_parts byteInfo
  have hown : (w.alloc (.cells #[.int .i64 2, .int .i64 n, .string s] 38)).ownsRow (w.heap.size + 1) 5 1 (.slice none 0 0) 0 [] := World.ownsRow_nil _ _ _ _
  have V := Val3.new w 38 2 n s
  have hsz : w.heap.size + 1 ≤ (w.alloc (.cells #[.int .i64 2, .int .i64 n, .string s] 38)).heap.size := by simp
  have bw := below_one w (.cells #[.int .i64 2, .int .i64 n, .string s] 38)
  go_enter Try.func31, Try.ntmps31
  go_wp2_with (at_builtin; refine wpList_append_own _ rfl (.tmp 33) (.tmp 34) 24 rfl (w.heap.size + 1) 5 i0 (.int .u8 0) 1 1 Try.underlying24 hi hz0 hz1 hz2 rfl (by decide) _ _ _ rfl (hown.alloc _) ⟨w.heap.size + 1, 0, none⟩ 1 1 [.int .u8 2] rfl rfl (new_one _ _ _ _) (by simp [Value.oneCell']) (by unfold maxLen; omega) (by omega) (by simp) ?_; intro v1 w1 hown1 hg1 _)
  have b1 : Below (w.heap.size + 1) (w.alloc (.cells #[.int .i64 2, .int .i64 n, .string s] 38)) w1 := ((Below.refl _ _).alloc hsz _).grown hg1 (by simp) (fun g hg => (hown.lt g hg).1)
  have o1 : Own w1 (w.heap.size + 1) v1 ([] ++ [2]) := own_push (l := []) (c := 2) rfl hown1
  rw [List.nil_append] at o1
  generalize w.alloc (.cells #[.int .i64 2, .int .i64 n, .string s] 38) = wb at *
  clear hg1 hown1 hown
  go_loopw [3, 6] (fun v i wr => ∃ j : Nat, j ≤ s.size ∧ i = .int .i64 j ∧ Own wr (w.heap.size + 1) v (2 :: esc (s.toList.take j)) ∧ Below (w.heap.size + 1) wb wr) (fun _ i _ => s.size - (intOf i).toNat)
  case atStart => exact ⟨0, by omega, rfl, by simpa [esc] using o1, b1⟩
  case round =>
    obtain ⟨j, hj, rfl, hown2, b2⟩ := hrel
    have hlen : (2 :: esc (s.toList.take j)).length ≤ 1 + 2 * s.size := by
      have := esc_length (s.toList.take j)
      rw [List.length_cons]
      rw [List.length_take, toList_length] at this
      omega
    have VV := V.below b2 (by omega)
    have VC := VV
    obtain ⟨c0, c1, c2, f0, f1, f2⟩ := VC
    by_cases hlt : j < s.size
    · unfold Own at hown2
      have hlv := World.block_lt_of_cell? _ _ c0
      simp only at hlv
      by_cases hc : s[j] = 0
      · have hc' := byte_zero hc
        have HC := Lib.hid (one_zero hlt hc)
        clear hc
        go_wp2_with (first
          | (at_builtin; refine wpList_append_own _ rfl (.tmp 43) (.tmp 48) 24 rfl (w.heap.size + 1) 5 i0 (.int .u8 0) 1 1 Try.underlying24 hi hz0 hz1 hz2 rfl (by decide) _ _ _ rfl (hown2.alloc _) ⟨wr.heap.size, 0, none⟩ 1 1 [_] rfl rfl (cell_one_new _ _ _) (by simp [Value.oneCell']) (by unfold maxLen; omega) (by omega) (by have := b2.size; simp; omega) ?_; intro v3 w3 hown3 hg3 _; have b3 : Below (w.heap.size + 1) wb w3 := (b2.alloc (by have := b2.size; omega) _).grown hg3 (by have := b2.size; simp; omega) (fun g hg => (hown2.lt g hg).1); obtain ⟨d0, d1, d2, _, _, _⟩ := V.below b3 (by omega))
          | (at_builtin; refine wpList_append_own _ rfl (.tmp 55) (.tmp 56) 24 rfl (w.heap.size + 1) 5 i0 (.int .u8 0) 1 1 Try.underlying24 hi hz0 hz1 hz2 rfl (by decide) _ _ _ rfl (hown3.alloc _) ⟨w3.heap.size, 0, none⟩ 1 1 [_] rfl rfl (cell_one_new _ _ _) (by simp [Value.oneCell']) (by unfold maxLen; omega) (by omega) (by have := b3.size; simp; omega) ?_; intro v4 w4 hown4 hg4 _))
        have b4 : Below (w.heap.size + 1) wb w4 := (b3.alloc (by have := b3.size; omega) _).grown hg4 (by have := b3.size; simp; omega) (fun g hg => (hown3.lt g hg).1)
        clear hg3 hg4
        have o4 : Own w4 (w.heap.size + 1) v4 _ := own_push (c := 255) (l := 2 :: esc (s.toList.take j) ++ [s[j]]) rfl (by rw [bv_append, List.length_append]; exact hown4)
        rw [← HC.out] at o4
        go_roundw
        case rel => exact ⟨j + 1, by omega, by go_num, o4, b4⟩
        case measure => simp [intOf]; omega
      · have hc' : ((s[j].toNat : Int) == 0) = false := byte_not hc
        have HC := Lib.hid (one_other hlt hc)
        clear hc
        go_wp2_with (at_builtin; refine wpList_append_own _ rfl (.tmp 43) (.tmp 48) 24 rfl (w.heap.size + 1) 5 i0 (.int .u8 0) 1 1 Try.underlying24 hi hz0 hz1 hz2 rfl (by decide) _ _ _ rfl (hown2.alloc _) ⟨wr.heap.size, 0, none⟩ 1 1 [_] rfl rfl (cell_one_new _ _ _) (by simp [Value.oneCell']) (by unfold maxLen; omega) (by omega) (by have := b2.size; simp; omega) ?_; intro v3 w3 hown3 hg3 _; have b3 : Below (w.heap.size + 1) wb w3 := (b2.alloc (by have := b2.size; omega) _).grown hg3 (by have := b2.size; simp; omega) (fun g hg => (hown2.lt g hg).1); obtain ⟨d0, d1, d2, _, _, _⟩ := V.below b3 (by omega))
        clear hg3
        have o3 : Own w3 (w.heap.size + 1) v3 _ := own_push rfl hown3
        rw [← HC.out] at o3
        go_roundw
        case rel => exact ⟨j + 1, by omega, by go_num, o3, b3⟩
        case measure => simp [intOf]; omega
    · obtain rfl : j = s.size := by omega
      have ht : s.toList.take s.size = s.toList := List.take_of_length_le (by rw [toList_length]; omega)
      rw [ht] at hown2 hlen
      clear ht
      unfold Own at hown2
      go_wp2_with (at_builtin; refine wpList_append_own _ rfl (.tmp 58) (.tmp 59) 24 rfl (w.heap.size + 1) 5 i0 (.int .u8 0) 1 1 Try.underlying24 hi hz0 hz1 hz2 rfl (by decide) _ _ _ rfl (hown2.alloc _) ⟨wr.heap.size, 0, none⟩ 2 2 [_, _] rfl rfl (cell_two_new _ _ _ _) (by simp [Value.oneCell']) (by unfold maxLen; omega) (by omega) (by have := b2.size; simp; omega) ?_; intro v3 w3 hown3 hg3 _)
      have b3 : Below (w.heap.size + 1) wb w3 := (b2.alloc (by have := b2.size; omega) _).grown hg3 (by have := b2.size; simp; omega) (fun g hg => (hown2.lt g hg).1)
      clear hg3
      have o3 : Own w3 (w.heap.size + 1) v3 _ := own_push2 (c := 0) (d := 0) rfl rfl hown3
      go_ret
      exact ⟨_, rfl, own_base o3 (by omega), bw.trans (b3.mono (by omega))⟩

set_option maxHeartbeats 800000 in
theorem one_none (k n : Int) (s : ByteArray) (w : World) (h1 : ¬ k = 1) (h2 : ¬ k = 2) :
    Calls Try.prog 31 #[.agg #[.int .i64 k, .int .i64 n, .string s]] w (Owned w.heap.size w []) := by
  go_enter Try.func31, Try.ntmps31
  go_wp2_with fail
  go_ret
  exact ⟨_, rfl, own_nil _ _, below_one _ _⟩

theorem one_any (v : Val) (w : World) (hs : v.s.size ≤ 1000000) :
    Calls Try.prog 31 #[.agg #[.int .i64 v.k, .int .i64 v.n, .string v.s]] w (Owned w.heap.size w (valB v)) := by
  unfold valB
  by_cases h1 : v.k = 1
  · rw [if_pos h1, h1]
    exact one_num _ _ _
  · rw [if_neg h1]
    by_cases h2 : v.k = 2
    · rw [if_pos h2, h2]
      exact one_text _ _ _ hs
    · rw [if_neg h2]
      exact one_none _ _ _ _ h1 h2

theorem own_below {w w' : World} {base : Nat} {v : Value} {l : List UInt8} (h : Own w base v l) (hb : Below w.heap.size w w') : Own w' base v l := by
  unfold Own at h ⊢
  have hg : w.grownBy w' none := ⟨hb.os, hb.tape, hb.output, hb.size, fun k hk _ => hb.block k hk⟩
  refine h.kept hg ?_
  cases e : v.ownBlock with
  | none => exact Or.inl rfl
  | some g => exact Or.inr (by simp)

theorem own_none_cap {w : World} {base n c : Nat} {l : List UInt8} (h : Own w base (.slice none n c) l) : c = 0 := by
  unfold Own at h
  rcases h.2 with ⟨e, _⟩ | ⟨g, cap, cur, e, _⟩
  · injection e
  · injection e with e
    cases e

theorem own_join {w : World} {base n : Nat} {v : Value} {l m : List UInt8} (h : w.ownsRow base 5 1 v (l.length + n) (bv l ++ bv m)) (hn : m.length = n) : Own w base v (l ++ m) := by
  unfold Own
  rw [bv_append, List.length_append, hn]
  exact h

theorem valB_le {xs : List Val} {k : Nat} {v : Val} (hv : xs[k]? = some v) : (rowB (xs.take k)).length + (valB v).length ≤ (rowB xs).length := by
  have := rowB_take_le xs (k + 1)
  rw [rowB_take hv, List.length_append] at this
  exact this

set_option maxHeartbeats 1600000 in
theorem refRow_any (A : Option Addr) (c : Nat) (xs : List Val) (w : World) (hr : Row w A xs) (hn : xs.length ≤ 1000000) (hB : (rowB xs).length ≤ 1000000) (hs : ∀ v ∈ xs, v.s.size ≤ 1000000) :
    Calls Try.prog 16 #[.slice A xs.length c] w (Owned w.heap.size w (rowB xs)) := by
  have HS := Lib.hid hs
  clear hs
  obtain ⟨i0, hi, hz0, hz1, hz2⟩ := info_parts byteInfo
  go_enter Try.func16, Try.ntmps16
  go_wp2_with fail
  go_loopw [3, 4] (fun v i wr => ∃ k : Nat, k ≤ xs.length ∧ i = .int .i64 k ∧ Own wr w.heap.size v (rowB (xs.take k)) ∧ Below w.heap.size w wr) (fun _ i _ => xs.length - (intOf i).toNat)
  case atStart => exact ⟨0, Nat.zero_le _, rfl, own_nil _ _, Below.refl _ _⟩
  case round =>
    obtain ⟨k, hk, rfl, hown, hb⟩ := hrel
    have hle := rowB_take_le xs k
    by_cases hlt : k < xs.length
    · obtain ⟨b, off, v, rfl, hv, c0, c1, c2⟩ := (hr.below hb).at_ hlt
      have hz := HS.out v (List.mem_of_getElem? hv)
      have HV := Lib.hid (rowB_take hv)
      have hle2 := valB_le hv
      have bz := hb.size
      clear hv
      go_wp2_with fail
      refine (one_any v _ hz).mono ?_
      rintro e w1 ⟨v1, rfl, o1, b1⟩
      have b1' : Below w.heap.size w w1 := hb.trans (b1.mono bz)
      have hown1 := own_below hown b1
      obtain ⟨A1, c1, rfl, hl1, _, _, hb1⟩ := Bys.of_own o1
      have HL := Lib.hid hl1
      clear hl1 b1
      unfold Own at hown1
      rcases A1 with _ | ad
      · obtain rfl := own_none_cap o1
        have hx : valB v = [] := hb1.none_
        have hl0 : (valB v).length = 0 := by rw [hx]; rfl
        have HX : Hid (rowB (xs.take (k + 1)) = rowB (xs.take k)) := by rw [HV.out, hx, List.append_nil]; exact Lib.hid rfl
        rw [hl0]
        clear hl0 hx
        go_wp2_with (at_builtin; refine wpList_append_own_none rfl (.tmp 11) (.tmp 16) 24 rfl w.heap.size 5 i0 1 Try.underlying24 hi _ _ _ rfl hown1 rfl ?_)
        go_roundw
        case rel => exact ⟨k + 1, by omega, by go_num, by rw [HX.out]; exact hown1, b1'⟩
        case measure => simp [intOf]; omega
      · go_wp2_with (at_builtin; refine wpList_append_own _ rfl (.tmp 11) (.tmp 16) 24 rfl w.heap.size 5 i0 (.int .u8 0) 1 1 Try.underlying24 hi hz0 hz1 hz2 rfl (by decide) _ _ _ rfl hown1 ad _ _ (bv (valB v)) rfl (by rw [bv_length]; omega) hb1.cells (bv_one _) (by unfold maxLen; omega) (by omega) b1'.size ?_; intro v3 w3 hown3 hg3 _)
        have b3 : Below w.heap.size w w3 := b1'.grown hg3 b1'.size (fun g hg => (hown1.lt g hg).1)
        have o3 := own_join hown3 rfl
        rw [← HV.out] at o3
        go_roundw
        case rel => exact ⟨k + 1, by omega, by go_num, o3, b3⟩
        case measure => simp [intOf]; omega
    · obtain rfl : k = xs.length := by omega
      rw [List.take_length] at hown
      go_wp2_with fail
      go_ret
      exact ⟨_, rfl, hown, hb⟩

theorem refRow_n (A : Option Addr) (n c : Nat) (xs : List Val) (w : World) (hr : Row w A xs) (e : xs.length = n) (hn : n ≤ 1000000) (hB : (rowB xs).length ≤ 1000000) (hs : ∀ v ∈ xs, v.s.size ≤ 1000000) :
    Calls Try.prog 16 #[.slice A n c] w (Owned w.heap.size w (rowB xs)) := by
  subst e
  exact refRow_any A c xs w hr hn hB hs
end Go.Proofs.Ytcjcahgeaffjmaa
