/-
  What the closures of node's read come to: take, number, text.
-/
import Derived.Test.YtgnlmbelaempcaaNNum
import Derived.Test.YtgnlmbelaempcaaKept
import Derived.Test.YtgnlmbelaempcaaText
import Derived.Lib.EndianBits
import Derived.Deep.RegionWith
namespace Go.Proofs.Ytgnlmbelaempcaa
open Go.RowKit

/-- A reader: its bytes that are left in block gb, whether some were missing in block gm; the bytes lie below R. -/
def RB (w : World) (gb gm R : Nat) (mis : Bool) (l : List UInt8) : Prop :=
  ∃ A c, w.heap[gb]? = some (.cells #[.slice A l.length c] 28 (0, 0)) ∧ w.heap[gm]? = some (.cells #[.bool mis] 4 (0, 0)) ∧ l.length ≤ c ∧ c ≤ maxLen ∧ Bys w R A l ∧ R ≤ gb ∧ R ≤ gm
/-- The reader's two blocks. -/
def RF (gb gm : Nat) : Nat → Prop := fun k => k = gb ∨ k = gm

section
variable {w w' : World} {gb gm R : Nat} {mis : Bool} {l : List UInt8}
theorem RB.lt (h : RB w gb gm R mis l) : gb < w.heap.size ∧ gm < w.heap.size ∧ gb ≠ gm := by
  obtain ⟨A, c, h1, h2, _⟩ := h
  refine ⟨(Array.getElem?_eq_some_iff.1 h1).1, (Array.getElem?_eq_some_iff.1 h2).1, ?_⟩
  rintro rfl
  rw [h1] at h2
  injection h2 with h2
  injection h2 with _ h3
  exact absurd h3 (by decide)
theorem RB.far {F : Nat → Prop} (h : RB w gb gm R mis l) (hk : Kept F w w') (hF : ∀ k, F k → R ≤ k ∧ k ≠ gb ∧ k ≠ gm) : RB w' gb gm R mis l := by
  obtain ⟨q1, q2, _⟩ := h.lt
  obtain ⟨A, c, h1, h2, h3, h4, h5, h6, h7⟩ := h
  have hb : Below R w w' := hk.toBelow (fun k e => (hF k e).1) (by omega)
  exact ⟨A, c, (hk.block _ q1 (fun e => (hF _ e).2.1 rfl)).trans h1, (hk.block _ q2 (fun e => (hF _ e).2.2 rfl)).trans h2, h3, h4, h5.below hb, h6, h7⟩
theorem RB.kept (h : RB w gb gm R mis l) (hb : Below w.heap.size w w') : RB w' gb gm R mis l := h.far (Kept.below hb (fun _ => False)) (fun _ e => e.elim)
theorem RB.same (h : RB w gb gm R mis l) (e : w'.heap = w.heap) : RB w' gb gm R mis l := by
  obtain ⟨A, c, h1, h2, h3, h4, h5, h6, h7⟩ := h
  refine ⟨A, c, by rw [e]; exact h1, by rw [e]; exact h2, h3, h4, ?_, h6, h7⟩
  rcases h5 with rfl | ⟨b, off, rfl, hR, hc⟩
  · exact Or.inl rfl
  · exact Or.inr ⟨b, off, rfl, hR, fun i z hz => (World.cell?_of_block (w := w) (by rw [e])).trans (hc i z hz)⟩
end

theorem one_cell {w : World} {g : Nat} {v : Value} {t : TypeId} (h : w.heap[g]? = some (.cells #[v] t (0, 0))) : w.cell? ⟨g, 0, none⟩ = some v ∧ w.frozen? ⟨g, 0, none⟩ = false :=
  ⟨(cell_of_row w g 0 _ _ _ h).trans rfl, frozen_of_row w g 0 _ _ h⟩
theorem one_put {w : World} {g : Nat} {v u : Value} {t : TypeId} (h : w.heap[g]? = some (.cells #[v] t (0, 0))) : (w.setCell ⟨g, 0, none⟩ u).heap[g]? = some (.cells #[u] t (0, 0)) := by
  rw [Joins.block_setCell h]
  rfl

/-- What take answers where there are bytes enough. -/
def TakeOk (w : World) (gb gm R : Nat) (mis : Bool) (l : List UInt8) (d : Nat) (e : Ending) (w' : World) : Prop :=
  ∃ A c, e = .returned (.slice A d c) ∧ Bys w' R A (l.take d) ∧ RB w' gb gm R mis (l.drop d) ∧ Kept (RF gb gm) w w' ∧ w'.heap.size = w.heap.size

theorem take_rb {w : World} {gb gm R c c' d : Nat} {A A' : Option Addr} {mis : Bool} {l : List UInt8} (h1 : w.heap[gb]? = some (.cells #[.slice A l.length c] 28 (0, 0))) (h2 : w.heap[gm]? = some (.cells #[.bool mis] 4 (0, 0)))
    (h3 : l.length ≤ c) (h4 : c ≤ maxLen) (h5 : Bys w R A l) (h6 : R ≤ gb) (h7 : R ≤ gm) (hd : d ≤ l.length) (hA : Bys w R A' (l.drop d)) (hc : c' = c - d) :
    Bys (w.setCell ⟨gb, 0, none⟩ (.slice A' (l.length - d) c')) R A (l.take d) ∧ RB (w.setCell ⟨gb, 0, none⟩ (.slice A' (l.length - d) c')) gb gm R mis (l.drop d) ∧ Kept (RF gb gm) w (w.setCell ⟨gb, 0, none⟩ (.slice A' (l.length - d) c')) := by
  have hk : Kept (RF gb gm) w (w.setCell ⟨gb, 0, none⟩ (.slice A' (l.length - d) c')) := Kept.setCell w (Or.inl rfl) _
  have hlt : gb < w.heap.size := (Array.getElem?_eq_some_iff.1 h1).1
  have hne : gb ≠ gm := (RB.lt ⟨A, c, h1, h2, h3, h4, h5, h6, h7⟩).2.2
  have hb : Below R w (w.setCell ⟨gb, 0, none⟩ (.slice A' (l.length - d) c')) := (Below.refl _ _).setCell (p := ⟨gb, 0, none⟩) h6 _
  refine ⟨(h5.take d).below hb, ⟨A', c', ?_, ?_, ?_, ?_, hA.below hb, h6, h7⟩, hk⟩
  · rw [one_put h1, List.length_drop]
  · exact (Below.heap_setCell w ⟨gb, 0, none⟩ _ gm (fun e => hne e.symm)).trans h2
  · rw [List.length_drop]; omega
  · omega

theorem bys_drop_any {w : World} {R : Nat} {A : Option Addr} {l : List UInt8} (h : Bys w R A l) (d : Nat) : Bys w R (A.map (fun x => x.add d)) (l.drop d) := by
  rcases A with _ | ⟨b, off, sp⟩
  · rw [h.none_, List.drop_nil]
    exact Bys.nil _ _ _
  · rcases h with rfl | ⟨b', off', e, hR, hc⟩
    · rw [List.drop_nil]
      exact Bys.nil _ _ _
    · injection e with e
      injection e with e1 e2 e3
      subst e1
      subst e2
      subst e3
      rw [Option.map_some, addr_add]
      exact Bys.drop (Or.inr ⟨b, off, rfl, hR, hc⟩) d

set_option maxRecDepth 20000 in
set_option maxHeartbeats 1600000 in
theorem take_ok {w : World} {gb gm R : Nat} {mis : Bool} {l : List UInt8} (h : RB w gb gm R mis l) (d : Nat) (hd : d ≤ l.length) :
    Calls Try.prog 35 #[.int .i64 (d : Int), .pointer (some ⟨gb, 0, none⟩), .pointer (some ⟨gm, 0, none⟩)] w (TakeOk w gb gm R mis l d) := by
  obtain ⟨A, c, h1, h2, h3, h4, h5, h6, h7⟩ := h
  obtain ⟨c0, f0⟩ := one_cell h1
  have H := Lib.hid (fun (A' : Option Addr) (c' : Nat) (hA : Bys w R A' (l.drop d)) hc => take_rb (A' := A') (c' := c') h1 h2 h3 h4 h5 h6 h7 hd hA hc)
  have hm := h4
  unfold maxLen at hm
  have H5 := Lib.hid h5
  clear h1 h2 h4 h5 h6 h7
  obtain ⟨N, hN⟩ : ∃ N, l.length = N := ⟨_, rfl⟩
  rw [hN] at c0 h3 hd H
  have HN := Lib.hid hN
  clear hN
  go_enter Try.func35, Try.ntmps35
  by_cases hc : c = d
  · subst hc
    go_wp2_with fail
    go_ret
    have hz : l.drop c = [] := List.drop_eq_nil_of_le (by rw [HN.out]; omega)
    obtain ⟨q1, q2, q3⟩ := H.out A 0 (by rw [hz]; exact Bys.nil _ _ _) (by omega)
    have e : N - c = 0 := by omega
    rw [e] at q1 q2 q3
    exact ⟨A, c, rfl, q1, q2, q3, by simp [World.setCell]⟩
  · go_wp2_with fail
    go_ret
    obtain ⟨q1, q2, q3⟩ := H.out _ (c - d) (bys_drop_any H5.out d) rfl
    exact ⟨A, c, rfl, q1, q2, q3, by simp [World.setCell]⟩

set_option maxRecDepth 20000 in
set_option maxHeartbeats 1600000 in
/-- Where there are too few. -/
theorem take_no {w : World} {gb gm R : Nat} {mis : Bool} {l : List UInt8} (h : RB w gb gm R mis l) (d : Nat) (hd : l.length < d) :
    Calls Try.prog 35 #[.int .i64 (d : Int), .pointer (some ⟨gb, 0, none⟩), .pointer (some ⟨gm, 0, none⟩)] w fun e w' =>
      e = .returned (.slice none 0 0) ∧ RB w' gb gm R true l ∧ Kept (RF gb gm) w w' ∧ w'.heap.size = w.heap.size := by
  have hne := h.lt.2.2
  obtain ⟨A, c, h1, h2, h3, h4, h5, h6, h7⟩ := h
  obtain ⟨c0, f0⟩ := one_cell h1
  obtain ⟨c1, f1⟩ := one_cell h2
  have hb : Below R w (w.setCell ⟨gm, 0, none⟩ (.bool true)) := (Below.refl _ _).setCell (p := ⟨gm, 0, none⟩) h7 _
  have H : Hid (RB (w.setCell ⟨gm, 0, none⟩ (.bool true)) gb gm R true l) := Lib.hid ⟨A, c, (Below.heap_setCell w ⟨gm, 0, none⟩ _ gb hne).trans h1, one_put h2, h3, h4, h5.below hb, h6, h7⟩
  clear h1 h2 h4 h5 h6 h7 hb hne
  obtain ⟨N, hN⟩ : ∃ N, l.length = N := ⟨_, rfl⟩
  rw [hN] at c0 h3 hd
  clear hN
  go_enter Try.func35, Try.ntmps35
  go_wp2_with fail
  go_ret
  exact ⟨rfl, H.out, Kept.setCell w (Or.inr rfl) _, by simp [World.setCell]⟩

/-! ### number -/

def bn (l : List UInt8) : Nat := l.foldl (fun n c => n * 256 + c.toNat) 0
theorem bn_snoc (l : List UInt8) (c : UInt8) : bn (l ++ [c]) = bn l * 256 + c.toNat := by
  unfold bn
  rw [List.foldl_append]
  rfl
theorem bn_lt : ∀ l : List UInt8, l.length ≤ 4 → bn l < 4294967296
  | [], _ => by decide
  | [a], _ => by have := byte_lt a; simp only [bn, List.foldl]; omega
  | [a, b], _ => by have := byte_lt a; have := byte_lt b; simp only [bn, List.foldl]; omega
  | [a, b, c], _ => by have := byte_lt a; have := byte_lt b; have := byte_lt c; simp only [bn, List.foldl]; omega
  | [a, b, c, d], _ => by have := byte_lt a; have := byte_lt b; have := byte_lt c; have := byte_lt d; simp only [bn, List.foldl]; omega
  | _ :: _ :: _ :: _ :: _ :: _, h => by simp at h

theorem njoin (z : Nat) (u : UInt8) (h : z * 256 + u.toNat < 4294967296) : bits .or .i64 ((z : Int) * 256) (u.toNat : Int) = ((z * 256 + u.toNat : Nat) : Int) := by
  have hu := byte_lt u
  rw [bits_join .i64 63 (by decide) (fun n h0 h1 => IntWalk.i64_in n (by omega)) 8 ((z : Int) * 256) (u.toNat : Int) (by omega) (by omega) (by omega) (by omega) (by omega) (by omega)]
  omega

/-- The closure that takes, in block gt. -/
def TB (w : World) (gt gb gm : Nat) : Prop := w.heap[gt]? = some (.cells #[.func (.func 35) #[] #[.pointer (some ⟨gb, 0, none⟩), .pointer (some ⟨gm, 0, none⟩)]] 42 (0, 0))
theorem TB.far {w w' : World} {gt gb gm : Nat} {F : Nat → Prop} (h : TB w gt gb gm) (hk : Kept F w w') (hF : ¬ F gt) : TB w' gt gb gm := (hk.block gt (Array.getElem?_eq_some_iff.1 h).1 hF).trans h
theorem TB.ne {w : World} {gt gb gm R : Nat} {mis : Bool} {l : List UInt8} (h : TB w gt gb gm) (hr : RB w gb gm R mis l) : ¬ RF gb gm gt := by
  obtain ⟨A, c, h1, h2, _⟩ := hr
  rintro (rfl | rfl)
  · unfold TB at h
    rw [h1] at h
    injection h with h
    injection h with _ h3
    exact absurd h3 (by decide)
  · unfold TB at h
    rw [h2] at h
    injection h with h
    injection h with _ h3
    exact absurd h3 (by decide)

/-- What number answers. -/
def NumEnd (w : World) (gb gm R : Nat) (mis : Bool) (l : List UInt8) (d : Nat) (e : Ending) (w' : World) : Prop :=
  ∃ (z : Nat) (mis' : Bool) (l' : List UInt8), e = .returned (.int .i64 (z : Int)) ∧ z < 4294967296 ∧ RB w' gb gm R mis' l' ∧ Kept (RF gb gm) w w' ∧
    ((mis' = mis ∧ d ≤ l.length ∧ z = bn (l.take d) ∧ l' = l.drop d) ∨ (mis' = true ∧ l.length < d ∧ z = 0 ∧ l' = l))

set_option maxRecDepth 20000 in
set_option maxHeartbeats 1600000 in
theorem number_any {w : World} {gb gm gt R : Nat} {mis : Bool} {l : List UInt8} (h : RB w gb gm R mis l) (ht : TB w gt gb gm) (d : Nat) (hd : d ≤ 4) :
    Calls Try.prog 36 #[.int .i64 (d : Int), .pointer (some ⟨gt, 0, none⟩)] w (NumEnd w gb gm R mis l d) := by
  obtain ⟨t0, t1⟩ := one_cell ht
  have H := Lib.hid h
  clear h ht
  go_enter Try.func36, Try.ntmps36
  go_wp2_with fail
  by_cases hl : d ≤ l.length
  · refine (take_ok H.out d hl).mono ?_
    rintro e w2 ⟨A, c, rfl, y2, r2, k2, -⟩
    have R2 := Lib.hid r2
    have K2 := Lib.hid k2
    have Y2 := Lib.hid y2
    have hxl : (l.take d).length = d := by rw [List.length_take]; omega
    have HX := Lib.hid hxl
    have HL := Lib.hid hl
    clear r2 k2 y2 hxl hl
    go_wp2_with fail
    go_loop [4, 11] (fun s i => ∃ j z : Nat, j ≤ d ∧ i = .int .i64 j ∧ s = .int .i64 z ∧ Hid (z = bn ((l.take d).take j)) ∧ z < 4294967296) (fun _ i => d - (intOf i).toNat)
    case atStart => exact ⟨0, 0, Nat.zero_le _, rfl, rfl, Lib.hid rfl, by omega⟩
    case round =>
      obtain ⟨j, z, hj, rfl, rfl, HZ, hz⟩ := hrel
      by_cases hlt : j < d
      · obtain ⟨b, off, u, rfl, _, hv, c0⟩ := Y2.out.at_ (k := j) (by rw [HX.out]; exact hlt)
        have hn : bn ((l.take d).take (j + 1)) = z * 256 + u.toNat := by
          rw [List.take_add_one, hv, Option.toList_some, bn_snoc, HZ.out]
        have HN := Lib.hid hn
        have hlt2 : z * 256 + u.toNat < 4294967296 := by
          rw [← hn]
          exact bn_lt _ (by rw [List.length_take]; omega)
        have hu := byte_lt u
        clear hv hn
        go_wp2_with fail
        go_round
        case rel =>
          exact ⟨j + 1, z * 256 + u.toNat, by omega, by go_num, by rw [njoin z u hlt2], Lib.hid HN.out.symm, hlt2⟩
        case measure => simp [intOf]; omega
      · obtain rfl : d = j := by omega
        go_wp2_with fail
        go_ret
        exact ⟨z, mis, l.drop d, rfl, hz, R2.out, K2.out, Or.inl ⟨rfl, HL.out, by rw [HZ.out, List.take_of_length_le (by rw [HX.out]; omega)], rfl⟩⟩
  · refine (take_no H.out d (by omega)).mono ?_
    rintro e w2 ⟨rfl, r2, k2, -⟩
    have R2 := Lib.hid r2
    have K2 := Lib.hid k2
    have HL := Lib.hid hl
    clear r2 k2 hl
    go_wp2_with fail
    go_loop [4, 11] (fun s i => i = .int .i64 0 ∧ s = .int .i64 0) (fun _ i => 1 - (intOf i).toNat)
    case atStart => exact ⟨rfl, rfl⟩
    case round =>
      obtain ⟨rfl, rfl⟩ := hrel
      go_wp2_with fail
      go_ret
      exact ⟨0, true, l, rfl, by omega, R2.out, K2.out, Or.inr ⟨rfl, by have := HL.out; omega, rfl, rfl⟩⟩

theorem number_one {w : World} {gb gm gt R : Nat} {mis : Bool} {l : List UInt8} (h : RB w gb gm R mis l) (ht : TB w gt gb gm) :
    Calls Try.prog 36 #[.int .i64 1, .pointer (some ⟨gt, 0, none⟩)] w (NumEnd w gb gm R mis l 1) := number_any h ht 1 (by omega)
theorem number_two {w : World} {gb gm gt R : Nat} {mis : Bool} {l : List UInt8} (h : RB w gb gm R mis l) (ht : TB w gt gb gm) :
    Calls Try.prog 36 #[.int .i64 2, .pointer (some ⟨gt, 0, none⟩)] w (NumEnd w gb gm R mis l 2) := number_any h ht 2 (by omega)
theorem number_four {w : World} {gb gm gt R : Nat} {mis : Bool} {l : List UInt8} (h : RB w gb gm R mis l) (ht : TB w gt gb gm) :
    Calls Try.prog 36 #[.int .i64 4, .pointer (some ⟨gt, 0, none⟩)] w (NumEnd w gb gm R mis l 4) := number_any h ht 4 (by omega)

/-! ### text -/

/-- The closure that reads a number, in block gn. -/
def NB (w : World) (gn gt : Nat) : Prop := w.heap[gn]? = some (.cells #[.func (.func 36) #[] #[.pointer (some ⟨gt, 0, none⟩)]] 54 (0, 0))
theorem NB.far {w w' : World} {gn gt : Nat} {F : Nat → Prop} (h : NB w gn gt) (hk : Kept F w w') (hF : ¬ F gn) : NB w' gn gt := (hk.block gn (Array.getElem?_eq_some_iff.1 h).1 hF).trans h
theorem NB.ne {w : World} {gn gt gb gm R : Nat} {mis : Bool} {l : List UInt8} (h : NB w gn gt) (hr : RB w gb gm R mis l) : ¬ RF gb gm gn := by
  obtain ⟨A, c, h1, h2, _⟩ := hr
  rintro (rfl | rfl)
  · unfold NB at h
    rw [h1] at h
    injection h with h
    injection h with _ h3
    exact absurd h3 (by decide)
  · unfold NB at h
    rw [h2] at h
    injection h with h
    injection h with _ h3
    exact absurd h3 (by decide)

/-- What text answers. -/
def TextEnd (w : World) (gb gm R : Nat) (mis : Bool) (l : List UInt8) (e : Ending) (w' : World) : Prop :=
  ∃ (s : ByteArray) (mis' : Bool) (l' : List UInt8), e = .returned (.string s) ∧ RB w' gb gm R mis' l' ∧ Kept (RF gb gm) w w' ∧ l'.length ≤ l.length ∧
    ((mis' = mis ∧ ND.cutT l = some (s.toList, l')) ∨ (mis' = true ∧ ND.cutT l = none))

theorem cut_ways {l l' : List UInt8} {z : Nat} {mis mis' : Bool} (h : (mis' = mis ∧ 1 ≤ l.length ∧ z = bn (l.take 1) ∧ l' = l.drop 1) ∨ (mis' = true ∧ l.length < 1 ∧ z = 0 ∧ l' = l)) :
    l'.length ≤ l.length ∧ (z ≤ l'.length → ((mis' = mis ∧ ND.cutT l = some (l'.take z, l'.drop z)) ∨ (mis' = true ∧ ND.cutT l = none))) ∧ (l'.length < z → ND.cutT l = none) := by
  rcases h with ⟨rfl, h1, rfl, rfl⟩ | ⟨rfl, h1, rfl, rfl⟩
  · rcases l with _ | ⟨c, r⟩
    · simp at h1
    · have e : bn ((c :: r).take 1) = c.toNat := by simp [bn]
      rw [e]
      simp only [List.drop_succ_cons, List.drop_zero, List.length_cons]
      refine ⟨by omega, fun hz => Or.inl ⟨trivial, ?_⟩, fun hz => ?_⟩
      · exact if_pos hz
      · exact if_neg (by omega)
  · obtain rfl : l' = [] := List.eq_nil_of_length_eq_zero (by omega)
    exact ⟨Nat.le_refl _, fun _ => Or.inr (And.intro rfl rfl), fun h => absurd h (Nat.not_lt_zero _)⟩

/-- What take answers, be there bytes enough or not. -/
def TakeEnd (w : World) (gb gm R : Nat) (mis : Bool) (l : List UInt8) (d : Nat) (e : Ending) (w' : World) : Prop :=
  ∃ A n c x mis' l', e = .returned (.slice A n c) ∧ x.length = n ∧ Bys w' R A x ∧ RB w' gb gm R mis' l' ∧ Kept (RF gb gm) w w' ∧
    ((mis' = mis ∧ d ≤ l.length ∧ x = l.take d ∧ l' = l.drop d) ∨ (mis' = true ∧ l.length < d ∧ x = [] ∧ l' = l))
theorem take_any {w : World} {gb gm R : Nat} {mis : Bool} {l : List UInt8} (h : RB w gb gm R mis l) (d : Nat) :
    Calls Try.prog 35 #[.int .i64 (d : Int), .pointer (some ⟨gb, 0, none⟩), .pointer (some ⟨gm, 0, none⟩)] w (TakeEnd w gb gm R mis l d) := by
  by_cases hd : d ≤ l.length
  · refine (take_ok h d hd).mono ?_
    rintro e w2 ⟨A, c, rfl, y2, r2, k2, -⟩
    exact ⟨A, d, c, l.take d, mis, l.drop d, rfl, by rw [List.length_take]; omega, y2, r2, k2, Or.inl ⟨rfl, hd, rfl, rfl⟩⟩
  · refine (take_no h d (by omega)).mono ?_
    rintro e w2 ⟨rfl, r2, k2, -⟩
    exact ⟨none, 0, 0, [], true, l, rfl, rfl, Bys.nil _ _ _, r2, k2, Or.inr ⟨rfl, by omega, rfl, rfl⟩⟩

theorem text_end {w w1 w2 : World} {gb gm R z : Nat} {mis mis1 mis2 : Bool} {l l1 l2 x : List UInt8} (k0 : Kept (RF gb gm) w w1) (k1 : Kept (RF gb gm) w1 w2)
    (h : l1.length ≤ l.length ∧ (z ≤ l1.length → ((mis1 = mis ∧ ND.cutT l = some (l1.take z, l1.drop z)) ∨ (mis1 = true ∧ ND.cutT l = none))) ∧ (l1.length < z → ND.cutT l = none))
    (g : (mis2 = mis1 ∧ z ≤ l1.length ∧ x = l1.take z ∧ l2 = l1.drop z) ∨ (mis2 = true ∧ l1.length < z ∧ x = [] ∧ l2 = l1)) (r2 : RB w2 gb gm R mis2 l2) :
    TextEnd w gb gm R mis l (.returned (.string ⟨x.toArray⟩)) w2 := by
  obtain ⟨h1, h2, h3⟩ := h
  refine ⟨_, mis2, l2, rfl, r2, k0.next k1, ?_, ?_⟩
  · rcases g with ⟨_, _, _, rfl⟩ | ⟨_, _, _, rfl⟩
    · rw [List.length_drop]; omega
    · exact h1
  · rcases g with ⟨rfl, g1, rfl, rfl⟩ | ⟨rfl, g1, rfl, rfl⟩
    · rcases h2 g1 with ⟨rfl, h⟩ | ⟨rfl, h⟩
      · exact Or.inl ⟨rfl, by rw [h, toList_data]⟩
      · exact Or.inr ⟨rfl, h⟩
    · exact Or.inr ⟨rfl, h3 g1⟩

set_option maxRecDepth 20000 in
set_option maxHeartbeats 3200000 in
theorem ntext_any {w : World} {gb gm gt gn R : Nat} {mis : Bool} {l : List UInt8} (h : RB w gb gm R mis l) (ht : TB w gt gb gm) (hn : NB w gn gt) :
    Calls Try.prog 37 #[.pointer (some ⟨gt, 0, none⟩), .pointer (some ⟨gn, 0, none⟩)] w (TextEnd w gb gm R mis l) := by
  obtain ⟨t0, t1⟩ := one_cell ht
  obtain ⟨n0, n1⟩ := one_cell hn
  have H := Lib.hid h
  have HT : Hid (TB w.drew gt gb gm) := Lib.hid ht
  have HNT := Lib.hid (ht.ne h)
  have HNN := Lib.hid (hn.ne h)
  have HN : Hid (NB w.drew gn gt) := Lib.hid hn
  have KD : Hid (Kept (RF gb gm) w w.drew) := Lib.hid ⟨rfl, rfl, rfl, Nat.le_refl _, fun _ _ _ => rfl⟩
  clear h ht hn t1 n1
  go_enter Try.func37, Try.ntmps37
  go_wp2_with fail
  go_region_with
    (first
      | (go_at_call 36; refine (number_one (w := w.drew) (H.out.same rfl) HT.out).mono ?_; rintro e1 w1 ⟨z, mis1, l1, rfl, _, r1, k1, hw⟩; have f0 := (one_cell (HT.out.far k1 HNT.out)).1; have f1 := (one_cell (HN.out.far k1 HNN.out)).1; have R1 := Lib.hid r1; have K1 := Lib.hid k1; have HW := Lib.hid (cut_ways hw); clear r1 k1 hw)
      | (go_at_call 35; refine (take_any R1.out z).mono ?_; rintro e2 w2 ⟨A2, n2, c2, x2, mis2, l2, rfl, hx2, y2, r2, k2, hw2⟩; have g0 := (one_cell ((HT.out.far K1.out HNT.out).far k2 HNT.out)).1; have g1 := (one_cell ((HN.out.far K1.out HNN.out).far k2 HNN.out)).1; have ct := run_text (P := Try.prog) y2 28 9 5 n2 c2 hx2 Try.underlying28 Try.underlying5 Try.underlying9; have HE := Lib.hid (text_end (KD.out.next K1.out) k2 HW.out hw2 r2); clear hx2 y2 r2 k2 hw2)
      | fail)
  all_goals (
    go_wp2_with fail
    go_ret
    exact HE.out)
end Go.Proofs.Ytgnlmbelaempcaa
