/-
  What the document's own next comes to (package tailraceref02).
-/
import Derived.Test.YtcjcahgeaffjmaaKRefRow
import Derived.Test.YtcjcahgeaffjmaaKText
namespace Go.Proofs.Ytcjcahgeaffjmaa
open Go.RowKit

theorem Bys.pos {w : World} {R : Nat} {A : Option Addr} {l : List UInt8} (h : Bys w R A l) (hl : l ≠ []) :
    ∃ b off, A = some ⟨b, off, none⟩ ∧ b < R ∧ ∀ i z, l[i]? = some z → w.cell? ⟨b, off + i, none⟩ = some (.int .u8 z.toNat) := by
  rcases h with h | h
  · exact absurd h hl
  · exact h

/-- What next answers where there is a value, and where there is none. -/
def NextV (w : World) (l : List UInt8) (e : Ending) (w' : World) : Prop :=
  (∃ v r, valD l = some (v, r) ∧ e = .returned (.tuple #[.agg #[.int .i64 v.k, .int .i64 v.n, .string v.s], .int .i64 ((l.length - r.length : Nat) : Int)]) ∧ Below w.heap.size w w') ∨
  (valD l = none ∧ e = .returned (.tuple #[.agg #[.int .i64 0, .int .i64 0, .string ⟨#[]⟩], .int .i64 0]) ∧ Below w.heap.size w w')

theorem byte_ne {c d : UInt8} (h : ¬ c = d) : ((c.toNat : Int) != (d.toNat : Int)) = true := by
  rw [bne, byte_not h]
  rfl

set_option maxHeartbeats 800000 in
theorem nv_nil (A : Option Addr) (c : Nat) (w : World) :
    Calls Try.prog 27 #[.slice A 0 c] w (NextV w []) := by
  go_enter Try.func27, Try.ntmps27
  go_wp2_with fail
  refine bodyPost_ret (v := .tuple #[.agg #[.int .i64 0, .int .i64 0, .string ⟨#[]⟩], .int .i64 0]) (by simp [results, Try.results27, go_sem]) rfl (Or.inr ⟨rfl, rfl, ?_⟩)
  exact below_one _ _

set_option maxHeartbeats 1600000 in
theorem nv_other (A : Option Addr) (c R : Nat) (z : UInt8) (t : List UInt8) (w : World) (hx : Bys w R A (z :: t)) (hz : (¬ z = 1 ∧ ¬ z = 2) ∨ (z = 1 ∧ t.length < 8)) (hl : t.length ≤ 1000000) :
    Calls Try.prog 27 #[.slice A (t.length + 1) c] w (NextV w (z :: t)) := by
  obtain ⟨b, off, rfl, hR, hc⟩ := hx.pos (by simp)
  have c0 := hc 0 z rfl
  rw [Nat.add_zero] at c0
  have hlt := World.block_lt_of_cell? _ _ c0
  simp only at hlt
  have hv : valD (z :: t) = none := by
    rw [valD]
    rcases hz with ⟨h1, h2⟩ | ⟨h1, h2⟩
    · rw [if_neg h1, if_neg h2]
    · rw [if_pos h1, if_neg (by omega)]
  have HV := Lib.hid hv
  have k2 : ((z.toNat : Int) != 2) = true := byte_ne (d := 2) (by rcases hz with ⟨_, h⟩ | ⟨h, _⟩ <;> first | exact h | (rw [h]; decide))
  have way : (8 ≤ t.length ∧ ((z.toNat : Int) == 1) = false) ∨ t.length < 8 := by
    rcases hz with ⟨h1, _⟩ | ⟨_, h⟩
    · rcases Nat.lt_or_ge t.length 8 with h | h
      · exact Or.inr h
      · exact Or.inl ⟨h, byte_not (d := 1) h1⟩
    · exact Or.inr h
  clear hx hc hv hz
  rcases way with ⟨h8, k1⟩ | h8
  all_goals
    go_enter Try.func27, Try.ntmps27
    go_wp2_with fail
    refine bodyPost_ret (v := .tuple #[.agg #[.int .i64 0, .int .i64 0, .string ⟨#[]⟩], .int .i64 0]) (by simp [results, Try.results27, go_sem]) rfl (Or.inr ⟨HV.out, rfl, ?_⟩)
    exact below_one _ _

theorem join_ref (n : Nat) (z : UInt8) (h : n < 72057594037927936) : IntKind.u64.wrap (IntKind.u64.wrap ((n : Int) * 256) + IntKind.u64.wrap (z.toNat : Int)) = ((n * 256 + z.toNat : Nat) : Int) := by
  have hz := byte_lt z
  rw [wraps_u64 ((n : Int) * 256) (by omega) (by omega), wraps_u64 (z.toNat : Int) (by omega) (by omega), wraps_u64 _ (by omega) (by omega)]
  omega

set_option maxHeartbeats 1600000 in
set_option maxRecDepth 100000 in
theorem nv_num (A : Option Addr) (c R : Nat) (t : List UInt8) (w : World) (hx : Bys w R A (1 :: t)) (h8 : 8 ≤ t.length) (hl : t.length ≤ 1000000) :
    Calls Try.prog 27 #[.slice A (t.length + 1) c] w (NextV w (1 :: t)) := by
  obtain ⟨b, off, rfl, hR, hc⟩ := hx.pos (by simp)
  have HC := Lib.hid hc
  have c0 := hc 0 1 rfl
  rw [Nat.add_zero] at c0
  have hlt := World.block_lt_of_cell? _ _ c0
  simp only at hlt
  have HV : Hid (valD (1 :: t) = some (⟨1, (beN (t.take 8) : Int) - 9223372036854775808, ⟨#[]⟩⟩, t.drop 8)) := by rw [valD, if_pos rfl, if_pos h8]; exact Lib.hid rfl
  clear hx hc
  go_enter Try.func27, Try.ntmps27
  go_wp2_with fail
  go_loop [4, 5] (fun u i => ∃ j : Nat, j ≤ 8 ∧ i = .int .i64 (j + 1 : Nat) ∧ u = .int .u64 (beN (t.take j))) (fun _ i => 9 - (intOf i).toNat)
  case atStart => exact ⟨0, by omega, rfl, rfl⟩
  case round =>
    obtain ⟨j, hj, rfl, rfl⟩ := hrel
    by_cases hjl : j < 8
    · obtain ⟨z, r, d1, d2, d3⟩ := take_get (l := t) (j := j) (by omega)
      have hz : (1 :: t)[j + 1]? = some z := by
        rw [List.getElem?_cons_succ]
        have := List.getElem?_drop (xs := t) (i := j) (j := 0)
        rw [d1] at this
        simpa using this.symm
      have cj := HC.out (j + 1) z hz
      have D3 := Lib.hid d3
      clear d1 d2 d3 hz
      go_wp2_with fail
      go_round
      case rel =>
        refine ⟨j + 1, by omega, by go_num, ?_⟩
        rw [D3.out, beN_snoc, join_ref _ z (beN_small (by omega))]
      case measure => simp [intOf]; omega
    · obtain rfl : j = 8 := by omega
      have hlt8 := beN_lt (t.take 8)
      have h88 : (t.take 8).length = 8 := by rw [List.length_take]; omega
      rw [h88] at hlt8
      have HS := Lib.hid (back_spell (beN (t.take 8)) (by omega))
      clear hlt8 h88
      go_wp2_with fail
      rw [HS.out]
      refine bodyPost_ret (v := .tuple #[.agg #[.int .i64 1, .int .i64 ((beN (t.take 8) : Int) - 9223372036854775808), .string ⟨#[]⟩], .int .i64 9]) (by simp [results, Try.results27, go_sem]) rfl (Or.inl ⟨_, _, HV.out, ?_, below_one _ _⟩)
      have : (1 :: t).length - (t.drop 8).length = 9 := by rw [List.length_cons, List.length_drop]; omega
      rw [this]
      rfl

theorem own_text {w : World} {base : Nat} {v : Value} {acc : List UInt8} (h : Own w base v acc) :
    (convert 24 9 v).run Try.prog w = .ok (.string ⟨acc.toArray⟩) w := by
  obtain ⟨A5, c5, rfl, hl5, _, _, hb5⟩ := Bys.of_own h
  exact run_text (P := Try.prog) hb5 24 9 5 acc.length c5 rfl Try.underlying24 Try.underlying5 Try.underlying9

/-- What the text's loop holds. -/
structure TextMem (w0 w : World) (v : Value) (acc : List UInt8) : Prop where
  own : Own w (w0.heap.size + 1) v acc
  val : Val3 w w0.heap.size 0 0 ⟨#[]⟩
  bel : Below w0.heap.size w0 w

theorem TextMem.push {w wr w5 : World} {v v5 : Value} {acc : List UInt8} {z : UInt8} {o : Obj} (M : TextMem w wr v acc)
    (o5 : w5.ownsRow (w.heap.size + 1) 5 1 v5 (acc.length + 1) (bv acc ++ [.int .u8 z.toNat])) (g5 : (wr.alloc o).grownBy w5 v.ownBlock) : TextMem w w5 v5 (acc ++ [z]) := by
  have hsz := World.block_lt_of_cell? _ _ M.val.1
  simp only at hsz
  have hlt : ∀ k, v.ownBlock = some k → w.heap.size + 1 ≤ k := fun k hk => (World.ownsRow.lt M.own k hk).1
  have b5 : Below (w.heap.size + 1) wr w5 := ((Below.refl _ _).alloc (by omega) _).grown g5 (by simp; omega) hlt
  exact ⟨own_push rfl o5, M.val.below b5 (by omega), M.bel.trans (b5.mono (by omega))⟩

theorem valD_text {t : List UInt8} : valD (2 :: t) = (txt t).map (fun p => (⟨2, 0, ⟨p.1.toArray⟩⟩, p.2)) := by
  rw [valD, if_neg (by decide), if_pos rfl]

set_option maxHeartbeats 3200000 in
set_option maxRecDepth 100000 in
theorem nv_text (A : Option Addr) (c R : Nat) (t : List UInt8) (w : World) (hx : Bys w R A (2 :: t)) (hl : t.length ≤ 1000000) :
    Calls Try.prog 27 #[.slice A (t.length + 1) c] w (NextV w (2 :: t)) := by
  obtain ⟨b, off, rfl, hbR, hc⟩ := hx.pos (by simp)
  have HC := Lib.hid hc
  have c0 := hc 0 2 rfl
  rw [Nat.add_zero] at c0
  have hlt := World.block_lt_of_cell? _ _ c0
  simp only at hlt
  clear hx hc
  obtain ⟨i0, hi, hz0, hz1, hz2⟩ := info_parts byteInfo
  have way : 8 ≤ t.length ∨ t.length < 8 := by omega
  rcases way with h8 | h8
  all_goals
    go_enter Try.func27, Try.ntmps27
    go_wp2_with fail
    go_loopg [6, 7] t.length (fun g v i wr => ∃ (j : Nat) (acc : List UInt8), g = t.length - j ∧ j ≤ t.length ∧ i = .int .i64 (j + 1 : Nat) ∧ acc.length ≤ j ∧ Hid (Mid t acc (t.drop j)) ∧ TextMem w wr v acc)
    case atStart => exact ⟨0, [], by omega, by omega, rfl, by simp, Mid.start t, own_nil _ _, Val3.new _ _ _ _ _, below_one _ _⟩
    case round =>
      obtain ⟨j, acc, hg, hj, rfl, hacc, HM, M⟩ := hrel
      have HG := Lib.hid hg
      clear hg
      have hsz := World.block_lt_of_cell? _ _ M.val.1
      simp only at hsz
      by_cases hjl : j < t.length
      · obtain ⟨z, r, d1, d2, d3⟩ := take_get (l := t) (j := j) hjl
        have hz : (2 :: t)[j + 1]? = some z := by
          rw [List.getElem?_cons_succ]
          have := List.getElem?_drop (xs := t) (i := j) (j := 0)
          rw [d1] at this
          simpa using this.symm
        have cj := (M.bel.cell (p := ⟨b, off + (j + 1), none⟩) hlt).trans (HC.out (j + 1) z hz)
        have HM1 : Hid (Mid t acc (z :: r)) := by have := HM.out; rw [d1] at this; exact Lib.hid this
        have D2 := Lib.hid d2
        clear d1 d2 d3 hz HM
        have own := M.own
        unfold Own at own
        by_cases hz : z = 0
        · have k0 : ((z.toNat : Int) != 0) = false := by rw [hz]; rfl
          subst hz
          rcases Nat.lt_or_ge (j + 1) t.length with hj1 | hj1
          · obtain ⟨y, r', d1, d2, d3⟩ := take_get (l := t) (j := j + 1) hj1
            have hy : (2 :: t)[j + 1 + 1]? = some y := by
              rw [List.getElem?_cons_succ]
              have := List.getElem?_drop (xs := t) (i := j + 1) (j := 0)
              rw [d1] at this
              simpa using this.symm
            have cy := (M.bel.cell (p := ⟨b, off + (j + 1 + 1), none⟩) hlt).trans (HC.out (j + 1 + 1) y hy)
            have hr : r = y :: r' := by rw [← D2.out, d1]
            have HM2 : Hid (Mid t acc (0 :: y :: r')) := by have := HM1.out; rw [hr] at this; exact Lib.hid this
            have D3 := Lib.hid d2
            have kE : (((j : Int) + 1 + 1) == ((t.length : Int) + 1)) = false := by rw [beq_eq_false_iff_ne]; omega
            clear d1 d2 d3 hy hr HM1
            by_cases hy0 : y = 0
            · have k1 : ((y.toNat : Int) == 0) = true := by rw [hy0]; rfl
              subst hy0
              have ht := own_text M.own
              have HT := Lib.hid HM2.out.done
              have hv := M.val
              obtain ⟨e0, e1, e2, f0, f1, f2⟩ := hv
              have B2 := M.bel
              have hlr : (2 :: t).length - r'.length = j + 1 + 2 := by
                have := D3.out
                rw [← this, List.length_cons, List.length_drop]
                omega
              have HLR := Lib.hid hlr
              clear hlr own M
              go_wp2_with fail
              refine bodyPost_ret (v := .tuple #[.agg #[.int .i64 2, .int .i64 0, .string ⟨acc.toArray⟩], .int .i64 ((j : Int) + 1 + 2)]) (by simp [results, Try.results27, go_sem, e0, e1, e2]) rfl (Or.inl ⟨⟨2, 0, ⟨acc.toArray⟩⟩, r', ?_, ?_, ?_⟩)
              · rw [valD_text, HT.out]
                rfl
              · rw [HLR.out]
                rfl
              · exact below_set3 B2 (Nat.le_refl _) _ _ _
            · have k1 : ((y.toNat : Int) == 0) = false := byte_not (d := 0) hy0
              by_cases hy1 : y = 255
              · have k2 : ((y.toNat : Int) != 255) = false := by rw [hy1]; rfl
                subst hy1
                go_wp2_with (at_builtin; refine wpList_append_own _ rfl (.tmp 85) (.tmp 86) 24 rfl (w.heap.size + 1) 5 i0 (.int .u8 0) 1 1 Try.underlying24 hi hz0 hz1 hz2 rfl (by decide) _ _ _ rfl (own.alloc _) ⟨wr.heap.size, 0, none⟩ 1 1 [_] rfl rfl (cell_one_new _ _ _) (by simp [Value.oneCell']) (by unfold maxLen; omega) (by omega) (by have := hsz; simp; omega) ?_; intro v5 w5 o5 g5 _)
                have M5 := M.push (z := 0) o5 g5
                clear o5 g5 own
                go_roundg (t.length - (j + 1 + 1))
                case measure => rw [HG.out]; omega
                case rel => exact ⟨j + 1 + 1, acc ++ [0], rfl, by omega, by go_num, by rw [List.length_append, List.length_singleton]; omega, by rw [D3.out]; exact HM2.out.zero, M5⟩
              · have k2 : ((y.toNat : Int) != 255) = true := byte_ne (d := 255) hy1
                have HN := Lib.hid (HM2.out.none2 hy0 hy1)
                have hv := M.val
                obtain ⟨e0, e1, e2, f0, f1, f2⟩ := hv
                have B2 := M.bel
                clear own M hy0 hy1
                go_wp2_with fail
                refine bodyPost_ret (v := .tuple #[.agg #[.int .i64 0, .int .i64 0, .string ⟨#[]⟩], .int .i64 0]) (by simp [results, Try.results27, go_sem, e0, e1, e2]) rfl (Or.inr ⟨by rw [valD_text, HN.out]; rfl, rfl, ?_⟩)
                exact below_set3 B2 (Nat.le_refl _) _ _ _
          · have hr : r = [] := by rw [← D2.out]; exact List.drop_of_length_le hj1
            have HN : Hid (txt t = none) := by have := HM1.out; rw [hr] at this; exact Lib.hid this.none1
            have kE : (((j : Int) + 1 + 1) == ((t.length : Int) + 1)) = true := by rw [beq_iff_eq]; omega
            have hv := M.val
            obtain ⟨e0, e1, e2, f0, f1, f2⟩ := hv
            have B2 := M.bel
            clear own M hr
            go_wp2_with fail
            refine bodyPost_ret (v := .tuple #[.agg #[.int .i64 0, .int .i64 0, .string ⟨#[]⟩], .int .i64 0]) (by simp [results, Try.results27, go_sem, e0, e1, e2]) rfl (Or.inr ⟨by rw [valD_text, HN.out]; rfl, rfl, ?_⟩)
            exact below_set3 B2 (Nat.le_refl _) _ _ _
        · have k0 : ((z.toNat : Int) != 0) = true := byte_ne (d := 0) hz
          go_wp2_with (at_builtin; refine wpList_append_own _ rfl (.tmp 54) (.tmp 59) 24 rfl (w.heap.size + 1) 5 i0 (.int .u8 0) 1 1 Try.underlying24 hi hz0 hz1 hz2 rfl (by decide) _ _ _ rfl (own.alloc _) ⟨wr.heap.size, 0, none⟩ 1 1 [_] rfl rfl (cell_one_new _ _ _) (by simp [Value.oneCell']) (by unfold maxLen; omega) (by omega) (by have := hsz; simp; omega) ?_; intro v5 w5 o5 g5 _)
          have M5 := M.push o5 g5
          clear o5 g5 own
          go_roundg (t.length - (j + 1))
          case measure => rw [HG.out]; omega
          case rel => exact ⟨j + 1, acc ++ [z], rfl, by omega, by go_num, by rw [List.length_append, List.length_singleton]; omega, by rw [D2.out]; exact HM1.out.other hz, M5⟩
      · obtain rfl : j = t.length := by omega
        have HN : Hid (txt t = none) := by have := HM.out; rw [List.drop_length] at this; exact Lib.hid this.none0
        have hv := M.val
        obtain ⟨e0, e1, e2, f0, f1, f2⟩ := hv
        have B2 := M.bel
        clear M
        go_wp2_with fail
        refine bodyPost_ret (v := .tuple #[.agg #[.int .i64 0, .int .i64 0, .string ⟨#[]⟩], .int .i64 0]) (by simp [results, Try.results27, go_sem, e0, e1, e2]) rfl (Or.inr ⟨by rw [valD_text, HN.out]; rfl, rfl, ?_⟩)
        exact below_set3 B2 (Nat.le_refl _) _ _ _
end Go.Proofs.Ytcjcahgeaffjmaa
