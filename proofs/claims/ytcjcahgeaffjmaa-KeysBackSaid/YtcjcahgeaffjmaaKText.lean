/-
  What the reader's method text comes to.
-/
import Derived.Test.YtcjcahgeaffjmaaKNum
namespace Go.Proofs.Ytcjcahgeaffjmaa
open Go.RowKit

theorem grown_own {w wr w' : World} {row row' : Option Nat} (h : w.grownBy wr row) (g : wr.grownBy w' row') (hr : ∀ k, row' = some k → w.heap.size ≤ k) : w.grownBy w' row :=
  ⟨g.os.trans h.os, g.tape.trans h.tape, g.output.trans h.output, Nat.le_trans h.size g.size, fun k hk hne =>
    (g.block k (Nat.lt_of_lt_of_le hk h.size) (fun e => by have := hr k e.symm; omega)).trans (h.block k hk hne)⟩

theorem own_kept {w w' : World} {base rb : Nat} {v : Value} {l : List UInt8} (h : Own w base v l) (hg : w.grownBy w' (some rb)) (hlt : rb < base) : Own w' base v l := by
  unfold Own at h ⊢
  refine h.kept hg ?_
  cases e : v.ownBlock with
  | none => exact Or.inl rfl
  | some g =>
    right
    intro e'
    have := (h.lt g e).1
    injection e' with e'
    omega

/-- What text answers. -/
def TextEnd (rb : Nat) (l : List UInt8) (w : World) (e : Ending) (w' : World) : Prop :=
  (∃ s t, txt l = some (s, t) ∧ e = .returned (.agg #[.int .i64 2, .int .i64 0, .string ⟨s.toArray⟩]) ∧ Rdr w' rb t ∧ w.grownBy w' (some rb)) ∨
  (txt l = none ∧ e = .panicked nope ∧ w.grownBy w' (some rb))

theorem txt_other {c : UInt8} (h : ¬ c = 0) (t : List UInt8) : txt (c :: t) = (txt t).map (fun p => (c :: p.1, p.2)) := by
  cases t with
  | nil => simp [txt]
  | cons d t => rw [txt, if_neg h]

/-- Where the text's beginning is acc, and rest is left. -/
def Mid (l acc rest : List UInt8) : Prop := txt l = (txt rest).map (fun p => (acc ++ p.1, p.2))

theorem Mid.start (l : List UInt8) : Mid l [] l := by
  unfold Mid
  simp
theorem Mid.other {l acc r : List UInt8} {z : UInt8} (h : Mid l acc (z :: r)) (hz : ¬ z = 0) : Mid l (acc ++ [z]) r := by
  unfold Mid at h ⊢
  rw [h, txt_other hz, Option.map_map]
  congr 1
  funext p
  simp
theorem Mid.zero {l acc r : List UInt8} (h : Mid l acc (0 :: 255 :: r)) : Mid l (acc ++ [0]) r := by
  unfold Mid at h ⊢
  rw [h, txt, if_pos rfl, if_neg (by decide), if_pos rfl, Option.map_map]
  congr 1
  funext p
  simp
theorem Mid.done {l acc r : List UInt8} (h : Mid l acc (0 :: 0 :: r)) : txt l = some (acc, r) := by
  unfold Mid at h
  rw [h, txt, if_pos rfl, if_pos rfl]
  simp
theorem Mid.none0 {l acc : List UInt8} (h : Mid l acc []) : txt l = none := by
  unfold Mid at h
  rw [h]
  rfl
theorem Mid.none1 {l acc : List UInt8} {z : UInt8} (h : Mid l acc [z]) : txt l = none := by
  unfold Mid at h
  rw [h]
  rfl
theorem Mid.none2 {l acc r : List UInt8} {y : UInt8} (h : Mid l acc (0 :: y :: r)) (h0 : ¬ y = 0) (h1 : ¬ y = 255) : txt l = none := by
  unfold Mid at h
  rw [h, txt, if_pos rfl, if_neg h0, if_neg h1]
  rfl

theorem text_push {w wr w5 : World} {rb : Nat} {v v5 : Value} {acc r : List UInt8} {z : UInt8} {o : Obj} (hrb : rb < w.heap.size)
    (o4 : wr.ownsRow (w.heap.size + 1) 5 1 v acc.length (bv acc)) (h4 : Rdr wr rb r) (v4 : Val3 wr w.heap.size 0 0 ⟨#[]⟩) (g4 : w.grownBy wr (some rb))
    (o5 : w5.ownsRow (w.heap.size + 1) 5 1 v5 (acc.length + 1) (bv acc ++ [.int .u8 z.toNat])) (g5 : (wr.alloc o).grownBy w5 v.ownBlock) :
    Own w5 (w.heap.size + 1) v5 (acc ++ [z]) ∧ Rdr w5 rb r ∧ Val3 w5 w.heap.size 0 0 ⟨#[]⟩ ∧ w.grownBy w5 (some rb) := by
  have hsz := World.block_lt_of_cell? _ _ v4.1
  simp only at hsz
  have hlt : ∀ k, v.ownBlock = some k → w.heap.size + 1 ≤ k := fun k hk => (o4.lt k hk).1
  have b5 : Below (w.heap.size + 1) wr w5 := ((Below.refl _ _).alloc (by omega) _).grown g5 (by simp; omega) hlt
  refine ⟨own_push rfl o5, h4.below b5 (by omega), ?_, grown_own (grown_own g4 (World.grownBy_alloc wr o none) (fun k hk => by cases hk)) g5 (fun k hk => by have := hlt k hk; omega)⟩
  obtain ⟨c0, c1, c2, f0, f1, f2⟩ := v4
  exact ⟨(b5.cell (p := ⟨w.heap.size, 0, none⟩) (by simp)).trans c0, (b5.cell (p := ⟨w.heap.size, 1, none⟩) (by simp)).trans c1, (b5.cell (p := ⟨w.heap.size, 2, none⟩) (by simp)).trans c2,
    (b5.frozen (p := ⟨w.heap.size, 0, none⟩) (by simp)).trans f0, (b5.frozen (p := ⟨w.heap.size, 1, none⟩) (by simp)).trans f1, (b5.frozen (p := ⟨w.heap.size, 2, none⟩) (by simp)).trans f2⟩

set_option maxHeartbeats 1600000 in
theorem text_any (rb : Nat) (l : List UInt8) (w : World) (h : Rdr w rb l) (hl : l.length ≤ 1000000) :
    Calls Try.prog 40 #[.pointer (some ⟨rb, 0, none⟩)] w (TextEnd rb l w) := by
  have hrb := h.lt
  obtain ⟨i0, hi, hz0, hz1, hz2⟩ := info_parts byteInfo
  go_enter Try.func40, Try.ntmps40
  go_wp2_with fail
  go_loopg [3] l.length (fun k v wr => ∃ acc rest, k = rest.length ∧ acc.length + rest.length ≤ l.length ∧ Hid (Mid l acc rest) ∧ Own wr (w.heap.size + 1) v acc ∧ Rdr wr rb rest ∧ Val3 wr w.heap.size 0 0 ⟨#[]⟩ ∧ w.grownBy wr (some rb))
  case atStart => exact ⟨[], l, rfl, by simp, Mid.start l, own_nil _ _, h.alloc _, Val3.new _ _ _ _ _, World.grownBy_alloc _ _ _⟩
  case round =>
    obtain ⟨acc, rest, rfl, hle, HM, o2, h2, v2, g2⟩ := hrel
    have hsz := World.block_lt_of_cell? _ _ v2.1
    rcases rest with _ | ⟨z, r⟩
    · go_wp2_with fail
      refine (next_none rb _ h2).mono ?_
      rintro e w3 ⟨rfl, rfl⟩
      go_wp2_with fail
      exact ⟨rfl, Or.inr ⟨HM.out.none0, rfl, g2⟩⟩
    · rw [List.length_cons] at hle
      go_wp2_with fail
      refine (next_some rb z r _ h2).mono ?_
      rintro e w3 ⟨rfl, h3, g3⟩
      have v3 := v2.grown g3 (by omega)
      have o3 := own_kept o2 g3 (by omega)
      have hsz3 := World.block_lt_of_cell? _ _ v3.1
      have g3' := g2.trans g3
      clear g3 g2 v2 h2 o2 hsz
      by_cases hz : z = 0
      · subst hz
        rcases r with _ | ⟨y, r⟩
        · go_wp2_with fail
          refine (ends_none rb _ h3).mono ?_
          rintro e w4 ⟨rfl, g4⟩
          go_wp2_with fail
          exact ⟨rfl, Or.inr ⟨HM.out.none1, rfl, g3'.trans g4⟩⟩
        · by_cases hy0 : y = 0
          · subst hy0
            go_wp2_with fail
            refine (ends_end rb r _ h3).mono ?_
            rintro e w4 ⟨rfl, h4, g4⟩
            have v4 := v3.grown g4 (by omega)
            have o4 := own_kept o3 g4 (by omega)
            have g4' := g3'.trans g4
            clear g4 g3' v3 h3 o3
            obtain ⟨A5, c5, rfl, hl5, _, _, hb5⟩ := Bys.of_own o4
            have ht := run_text (P := Try.prog) hb5 24 9 5 acc.length c5 rfl Try.underlying24 Try.underlying5 Try.underlying9
            obtain ⟨c0, c1, c2, f0, f1, f2⟩ := v4
            clear hb5 hl5 o4
            go_wp2_with fail
            refine bodyPost_ret (v := .agg #[.int .i64 2, .int .i64 0, .string ⟨acc.toArray⟩]) (by simp [results, Try.results40, go_sem, c0, c1, c2]) rfl (Or.inl ⟨acc, r, HM.out.done, rfl, ?_, ?_⟩)
            · exact h4.below (below_set3 (Below.refl _ _) (Nat.le_refl _) _ _ _) hrb
            · exact grown_set3 g4' (Nat.le_refl _) _ _ _
          · by_cases hy1 : y = 255
            · subst hy1
              clear hy0
              rw [List.length_cons] at hle
              go_wp2_with fail
              refine (ends_more rb r _ h3).mono ?_
              rintro e w4 ⟨rfl, h4, g4⟩
              have v4 := v3.grown g4 (by omega)
              have o4 := own_kept o3 g4 (by omega)
              have hsz4 := World.block_lt_of_cell? _ _ v4.1
              have g4' := g3'.trans g4
              clear g4 g3' v3 h3 o3 hsz3
              unfold Own at o4
              go_wp2_with (at_builtin; refine wpList_append_own _ rfl (.tmp 16) (.tmp 18) 24 rfl (w.heap.size + 1) 5 i0 (.int .u8 0) 1 1 Try.underlying24 hi hz0 hz1 hz2 rfl (by decide) _ _ _ rfl (o4.alloc _) ⟨w4.heap.size, 0, none⟩ 1 1 [_] rfl rfl (cell_one_new _ _ _) (by simp [Value.oneCell']) (by unfold maxLen; omega) (by omega) (by have := hsz4; simp; omega) ?_; intro v5 w5 o5 g5 _)
              obtain ⟨o6, h6, v6, g6⟩ := text_push (z := 0) hrb o4 h4 v4 g4' o5 g5
              clear o4 h4 v4 g4' o5 g5
              go_roundg r.length
              case measure => simp only [List.length_cons]; omega
              case rel => exact ⟨acc ++ [0], r, rfl, by rw [List.length_append, List.length_singleton]; omega, HM.out.zero, o6, h6, v6, g6⟩
            · go_wp2_with fail
              refine (ends_bad rb y r _ h3 hy0 hy1).mono ?_
              rintro e w4 ⟨rfl, g4⟩
              go_wp2_with fail
              exact ⟨rfl, Or.inr ⟨HM.out.none2 hy0 hy1, rfl, g3'.trans g4⟩⟩
      · have hz' : ((z.toNat : Int) == 0) = false := byte_not (d := 0) hz
        unfold Own at o3
        go_wp2_with (at_builtin; refine wpList_append_own _ rfl (.tmp 16) (.tmp 18) 24 rfl (w.heap.size + 1) 5 i0 (.int .u8 0) 1 1 Try.underlying24 hi hz0 hz1 hz2 rfl (by decide) _ _ _ rfl (o3.alloc _) ⟨w3.heap.size, 0, none⟩ 1 1 [_] rfl rfl (cell_one_new _ _ _) (by simp [Value.oneCell']) (by unfold maxLen; omega) (by omega) (by have := hsz3; simp; omega) ?_; intro v5 w5 o5 g5 _)
        obtain ⟨o6, h6, v6, g6⟩ := text_push hrb o3 h3 v3 g3' o5 g5
        clear o3 h3 v3 g3' o5 g5
        go_roundg r.length
        case measure => simp only [List.length_cons]; omega
        case rel => exact ⟨acc ++ [z], r, rfl, by rw [List.length_append, List.length_singleton]; omega, HM.out.other hz, o6, h6, v6, g6⟩
end Go.Proofs.Ytcjcahgeaffjmaa
