/-
  What keys.Next comes to, and the document's own Next, at any bytes (at most 1000000).
-/
import Derived.Test.YtcjcahgeaffjmaaKRow
import Derived.Laws.OwnMore
import Derived.Deep.AppendLies
namespace Go.Proofs.Ytcjcahgeaffjmaa
open Go.RowKit

set_option maxHeartbeats 400000 in
theorem clone_any (ad : Addr) (n c R : Nat) (l : List UInt8) (w : World) (hx : Bys w R (some ad) l) (e : l.length = n) (hn : n ≤ 1000000) :
    Calls Try.prog 33 #[.slice (some ad) n c] w (Owned w.heap.size w l) := by
  have E := Lib.hid e
  clear e
  have hne := fun W => Lib.run_eql_slice_nil (P := Try.prog) W 24
  obtain ⟨i0, hi, hz0, hz1, hz2⟩ := info_parts byteInfo
  have hown0 : (w.alloc (.cells #[] 5)).ownsRow w.heap.size 5 1 (.slice (some ⟨w.heap.size, 0, none⟩) 0 0) 0 [] := World.ownsRow_made w #[] 0 (Nat.le_refl _) (by unfold maxLen; omega) rfl
  go_enter Try.func33, Try.ntmps33
  go_wp2_with (at_builtin; refine wpList_append_own _ rfl (.tmp 5) (.tmp 6) 24 rfl w.heap.size 5 i0 (.int .u8 0) 1 1 Try.underlying24 hi hz0 hz1 hz2 rfl (by decide) _ _ _ rfl hown0 ad n c (bv l) rfl (by rw [bv_length, E.out]; omega) (hx.alloc _).cells (bv_one _) (by unfold maxLen; omega) (by omega) (by simp) ?_; intro v1 w1 hown1 hg1 _)
  have b1 : Below w.heap.size w w1 := ((Below.refl _ _).alloc (Nat.le_refl _) _).grown hg1 (by simp) (fun g hg => (hown0.lt g hg).1)
  go_ret
  refine ⟨_, rfl, ?_, b1⟩
  unfold Own
  rw [E.out]
  simpa using hown1

/-- What Next answers. -/
def NextEnd (w : World) (l : List UInt8) (e : Ending) (w' : World) : Prop :=
  ∃ A c, e = .returned (.tuple #[.slice A ((nx l).getD []).length c, .bool (nx l).isSome]) ∧ Bys w' w'.heap.size A ((nx l).getD []) ∧ Below w.heap.size w w'

theorem own_last {w : World} {base : Nat} {v : Value} {l : List UInt8} {z : UInt8} (h : Own w base v (l ++ [z])) :
    ∃ g cap, v = .slice (some ⟨g, 0, none⟩) (l.length + 1) cap ∧ base ≤ g ∧ g < w.heap.size ∧ l.length + 1 ≤ cap ∧ w.cell? ⟨g, l.length, none⟩ = some (.int .u8 z.toNat) ∧ w.frozen? ⟨g, l.length, none⟩ = false ∧
      Own (w.setCell ⟨g, l.length, none⟩ (.int .u8 (z + 1).toNat)) base v (l ++ [z + 1]) := by
  unfold Own at h
  have hl : (l ++ [z]).length = l.length + 1 := by simp
  rw [hl] at h
  obtain ⟨g, cap, rfl, hb, hlt⟩ := h.form (by omega)
  have hnc : l.length + 1 ≤ cap := by
    rcases h.2 with ⟨e, _⟩ | ⟨g', cap', cur, e, _, _, hc, _⟩
    · cases e
    · injection e with _ _ e
      rw [e]
      exact hc
  refine ⟨g, cap, rfl, hb, hlt, hnc, ?_, h.frozenAt _, ?_⟩
  · rw [h.cellAt l.length (by omega), bv_append, List.getElem?_append_right (by rw [bv_length]; omega), bv_length]
    simp [bv]
  · have hs := h.stored l.length (.int .u8 (z + 1).toNat)
    unfold Own
    rw [show (l ++ [z + 1]).length = l.length + 1 from by simp]
    have e : (bv (l ++ [z])).set l.length (.int .u8 (z + 1).toNat) = bv (l ++ [z + 1]) := by
      rw [bv_append, bv_append, List.set_append_right (h := by rw [bv_length]; omega), bv_length]
      simp [bv]
    rw [← e]
    exact hs.1

theorem own_bys {w : World} {base : Nat} {A : Option Addr} {n c : Nat} {l : List UInt8} (h : Own w base (.slice A n c) l) : Bys w w.heap.size A l := by
  obtain ⟨A', c', e, _, _, _, hb⟩ := Bys.of_own h
  injection e with e
  subst e
  exact hb

theorem take_last {l : List UInt8} {m : Nat} {z : UInt8} (h : l[m]? = some z) : l.take (m + 1) = l.take m ++ [z] := by
  rw [List.take_add_one, h]
  rfl

theorem wrap_next {z : UInt8} (h : ¬ z = 255) : (z.toNat : Int) + 1 = ((z + 1).toNat : Int) := by
  have h1 : z.toNat ≠ 255 := fun e => h (UInt8.toNat_inj.1 e)
  have := byte_lt z
  rw [UInt8.toNat_add]
  simp only [UInt8.toNat_one]
  omega

set_option maxHeartbeats 1600000 in
theorem next_any (A : Option Addr) (c R : Nat) (l : List UInt8) (w : World) (hx : Bys w R A l) (hc : l.length ≤ c) (hn : l.length ≤ 1000000) :
    Calls Try.prog 18 #[.slice A l.length c] w (NextEnd w l) := by
  go_enter Try.func18, Try.ntmps18
  go_wp2_with fail
  go_loop [4] (fun i => ∃ k : Nat, k ≤ l.length ∧ i = .int .i64 k ∧ Hid (nx l = nx (l.take k))) (fun i => (intOf i).toNat)
  case atStart => exact ⟨l.length, Nat.le_refl _, rfl, Lib.hid (by rw [List.take_length])⟩
  case round =>
    obtain ⟨k, hk, rfl, HK⟩ := hrel
    rcases Nat.eq_zero_or_pos k with rfl | hpos
    · have hf : nx l = none := HK.out
      have HF := Lib.hid hf
      clear hf
      go_wp2_with fail
      go_ret2
      refine ⟨none, 0, ?_, ?_, Below.refl _ _⟩
      · rw [HF.out]; rfl
      · rw [HF.out]; exact Or.inl rfl
    · obtain ⟨m, rfl⟩ : ∃ m, k = m + 1 := ⟨k - 1, by omega⟩
      obtain ⟨b, off, z, rfl, hbR, hz, c0⟩ := hx.at_ (k := m) (by omega)
      have HZ := Lib.hid (take_last hz)
      clear hz
      by_cases h255 : z = 255
      · have hc' : ((z.toNat : Int) == 255) = true := by rw [h255]; rfl
        have HQ : Hid (nx l = nx (l.take m)) := by have := HK.out; rw [HZ.out, h255, nx_top] at this; exact this
        clear h255
        go_wp2_with fail
        go_round
        case rel => exact ⟨m, by omega, by go_num, HQ⟩
        case measure => simp [intOf]
      · have hc' : ((z.toNat : Int) == 255) = false := byte_not (d := 255) h255
        have HQ : Hid (nx l = some (l.take m ++ [z + 1])) := by have := HK.out; rw [HZ.out, nx_snoc _ _ h255] at this; exact this
        have HW := Lib.hid (wrap_next h255)
        have hzz : z.toNat < 255 := by have := byte_lt z; have : z.toNat ≠ 255 := fun e => h255 (UInt8.toNat_inj.1 e); omega
        have HO : Hid _ := Lib.hid h255
        clear h255
        have ht : (l.take (m + 1)).length = m + 1 := by rw [List.length_take]; omega
        have HT := Lib.hid ht
        have htm : Hid ((l.take m).length = m) := by rw [List.length_take]; exact Lib.hid (by omega)
        clear ht
        go_wp2_with fail
        refine (clone_any _ _ _ R (l.take (m + 1)) _ (hx.take _) HT.out (by omega)).mono ?_
        rintro e w1 ⟨v1, rfl, o1, b1⟩
        rw [HZ.out] at o1
        obtain ⟨g, cap, rfl, hg1, hg2, hg3, g0, g1, o2⟩ := own_last o1
        rw [htm.out] at g0 g1 o2 hg3 ⊢
        have O2 := Lib.hid o2
        have B2 : Hid (Below w.heap.size w (w1.setCell ⟨g, m, none⟩ (.int .u8 ((z + 1).toNat : Int)))) := b1.setCell (p := ⟨g, m, none⟩) hg1 _
        clear o1 o2
        go_wp2_with fail
        rw [HW.out]
        go_ret2
        have ho := O2.out
        generalize w1.setCell ⟨g, m, none⟩ (.int .u8 ((z + 1).toNat : Int)) = w2 at *
        refine ⟨some ⟨g, 0, none⟩, cap, ?_, ?_, B2.out⟩
        · rw [HQ.out]
          simp only [Option.getD_some, Option.isSome_some, List.length_append, htm.out]
          rfl
        · rw [HQ.out]
          exact own_bys ho

theorem made_last {w w1 : World} {m : Nat} {l : List UInt8} {z : UInt8} {v1 : Value} (ht : (l.take (m + 1)).length = m + 1) (hm : (l.take m).length = m) (hz : l.take (m + 1) = l.take m ++ [z])
    (hg : (w.alloc (.cells #[] 5)).grownBy w1 (some w.heap.size)) (ho : w1.ownsRow w.heap.size 5 1 v1 (0 + (m + 1)) ([] ++ bv (l.take (m + 1)))) :
    ∃ g cap, v1 = .slice (some ⟨g, 0, none⟩) (m + 1) cap ∧ g < w1.heap.size ∧ m + 1 ≤ cap ∧ w1.cell? ⟨g, m, none⟩ = some (.int .u8 z.toNat) ∧ w1.frozen? ⟨g, m, none⟩ = false ∧
      Hid (Own (w1.setCell ⟨g, m, none⟩ (.int .u8 (z + 1).toNat)) w.heap.size v1 (l.take m ++ [z + 1])) ∧ Hid (Below w.heap.size w (w1.setCell ⟨g, m, none⟩ (.int .u8 ((z + 1).toNat : Int)))) := by
  have b1 : Below w.heap.size w w1 := ((Below.refl _ _).alloc (Nat.le_refl _) _).grown hg (by simp) (fun g h => by injection h with h; omega)
  have o1 : Own w1 w.heap.size v1 (l.take (m + 1)) := by unfold Own; rw [ht]; simpa using ho
  rw [hz] at o1
  obtain ⟨g, cap, rfl, hg1, hg2, hg3, g0, g1, o2⟩ := own_last o1
  rw [hm] at g0 g1 o2 hg3
  refine ⟨g, cap, by rw [hm], hg2, hg3, g0, g1, ?_, b1.setCell (p := ⟨g, m, none⟩) hg1 _⟩
  rw [hm]
  exact o2

set_option maxHeartbeats 1600000 in
theorem refNext_any (A : Option Addr) (c R : Nat) (l : List UInt8) (w : World) (hx : Bys w R A l) (hc : l.length ≤ c) (hn : l.length ≤ 1000000) :
    Calls Try.prog 19 #[.slice A l.length c] w (NextEnd w l) := by
  obtain ⟨i0, hi, hz0, hz1, hz2⟩ := info_parts byteInfo
  have hown0 : (w.alloc (.cells #[] 5)).ownsRow w.heap.size 5 1 (.slice (some ⟨w.heap.size, 0, none⟩) 0 0) 0 [] := World.ownsRow_made w #[] 0 (Nat.le_refl _) (by unfold maxLen; omega) rfl
  go_enter Try.func19, Try.ntmps19
  go_wp2_with fail
  go_loop [4] (fun i => ∃ k : Nat, k ≤ l.length ∧ i = .int .i64 k ∧ Hid (nx l = nx (l.take k))) (fun i => (intOf i).toNat)
  case atStart => exact ⟨l.length, Nat.le_refl _, rfl, Lib.hid (by rw [List.take_length])⟩
  case round =>
    obtain ⟨k, hk, rfl, HK⟩ := hrel
    rcases Nat.eq_zero_or_pos k with rfl | hpos
    · have hf : nx l = none := HK.out
      have HF := Lib.hid hf
      clear hf
      go_wp2_with fail
      go_ret2
      refine ⟨none, 0, ?_, ?_, Below.refl _ _⟩
      · rw [HF.out]; rfl
      · rw [HF.out]; exact Or.inl rfl
    · obtain ⟨m, rfl⟩ : ∃ m, k = m + 1 := ⟨k - 1, by omega⟩
      obtain ⟨b, off, z, rfl, hbR, hz, c0⟩ := hx.at_ (k := m) (by omega)
      have HZ := Lib.hid (take_last hz)
      clear hz
      by_cases h255 : z = 255
      · have hc' : ((z.toNat : Int) == 255) = true := by rw [h255]; rfl
        have HQ : Hid (nx l = nx (l.take m)) := by have := HK.out; rw [HZ.out, h255, nx_top] at this; exact this
        clear h255
        go_wp2_with fail
        go_round
        case rel => exact ⟨m, by omega, by go_num, HQ⟩
        case measure => simp [intOf]
      · have hc' : ((z.toNat : Int) == 255) = false := byte_not (d := 255) h255
        have HQ : Hid (nx l = some (l.take m ++ [z + 1])) := by have := HK.out; rw [HZ.out, nx_snoc _ _ h255] at this; exact this
        have HW := Lib.hid (wrap_next h255)
        have hzz : z.toNat < 255 := by have := byte_lt z; have : z.toNat ≠ 255 := fun e => h255 (UInt8.toNat_inj.1 e); omega
        have HO : Hid _ := Lib.hid h255
        clear h255
        have ht : (l.take (m + 1)).length = m + 1 := by rw [List.length_take]; omega
        have HT := Lib.hid ht
        have htm : Hid ((l.take m).length = m) := by rw [List.length_take]; exact Lib.hid (by omega)
        clear ht
        go_wp2_with (at_builtin; refine wpList_append_own _ rfl (.tmp 22) (.tmp 25) 24 rfl w.heap.size 5 i0 (.int .u8 0) 1 1 Try.underlying24 hi hz0 hz1 hz2 rfl (by decide) _ _ _ rfl hown0 ⟨b, off, none⟩ (m + 1) c (bv (l.take (m + 1))) rfl (by rw [bv_length, HT.out]; omega) ((hx.take _).alloc _).cells (bv_one _) (by unfold maxLen; omega) (by omega) (by simp) ?_; intro v1 w1 hown1 hg1 _; obtain ⟨g, cap, rfl, hg2, hg3, g0, g1, O2, B2⟩ := made_last HT.out htm.out HZ.out hg1 hown1)
        rw [HW.out]
        go_ret2
        have ho := O2.out
        generalize w1.setCell ⟨g, m, none⟩ (.int .u8 ((z + 1).toNat : Int)) = w2 at *
        refine ⟨some ⟨g, 0, none⟩, cap, ?_, ?_, B2.out⟩
        · rw [HQ.out]
          simp only [Option.getD_some, Option.isSome_some, List.length_append, htm.out]
          rfl
        · rw [HQ.out]
          exact own_bys ho
end Go.Proofs.Ytcjcahgeaffjmaa
