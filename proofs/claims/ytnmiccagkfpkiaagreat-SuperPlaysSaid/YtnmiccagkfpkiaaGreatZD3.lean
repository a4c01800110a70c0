/-
  A part of the proof: what its texts say stands at the head of each. Conditions: none.
-/
import Derived.Lib.EndianBits
import Derived.Deep.LoopGhost
import Derived.RegionTactic
import Derived.ChangeAlike
import Derived.BigRegion
import Derived.Laws.BitsAll
import Derived.Deep.WholeRow
import Derived.Laws.CopyOwn
import Derived.Lib.BytesEntry
import Derived.Laws.Externs
import Derived.Deep.QuietTactic
import Derived.BigQuiet
import Derived.Deep.AppendLies
import Derived.Test.YtnmiccagkfpkiaaGreatZD1
import Derived.Test.YtnmiccagkfpkiaaGreatZD2

/-
  What Encode comes to.
-/
namespace Go.Proofs.YtnmiccagkfpkiaaGreat
open Go.RowKit

/-- What Encode answers. -/
def UEncEnd (w : World) (s : SB) (e : Ending) (w' : World) : Prop :=
  ∃ v, e = .returned (.tuple #[v, .int .i64 s.checkE]) ∧ Own w' w.heap.size v s.encB ∧ Below w.heap.size w w'
theorem uenc_bad {w w' : World} {s : SB} (h : s.okB = false) (hb : Below w.heap.size w w') : UEncEnd w s (.returned (.tuple #[.slice none 0 0, .int .i64 90])) w' := by
  refine ⟨_, by rw [checkE_bad h], ?_, hb⟩
  have : s.encB = [] := if_neg (by rw [h]; decide)
  rw [this]
  exact own_nil _ _

theorem four_ints (w : World) (x y z u : Int) (t : TypeId) : (w.alloc (.cells #[.int .i64 x, .int .i64 y, .int .i64 z, .int .i64 u] t)).ownsRow w.heap.size t 1 (.slice (some ⟨w.heap.size, 0, none⟩) 4 4) 4 (intVals [x, y, z, u]) := by
  refine ⟨rfl, Or.inr ⟨w.heap.size, 4, #[.int .i64 x, .int .i64 y, .int .i64 z, .int .i64 u], rfl, Nat.le_refl _, heap_alloc_new w _, Nat.le_refl _, by unfold maxLen; omega, rfl, rfl⟩⟩

set_option maxRecDepth 20000 in
set_option maxHeartbeats 1600000 in
theorem uencode_any (ep ro he ct : Int) (A : Option Addr) (n c : Nat) (pg : List Int) (w : World) (hz : Ln w 1 A n c (intVals pg)) (hn : n ≤ 1000000) :
    Calls Tryz.prog 16 #[.agg #[.int .i64 ep, .int .i64 ro, .int .i64 he, .slice A n c, .int .i64 ct]] w (UEncEnd w ⟨ep, ro, he, ct, pg⟩) := by
  obtain ⟨i0, hi, hz0, hz1, hz2⟩ := info_parts intInfo
  have HB := Lib.hid (ubox_new w (.int .i64 ep) (.int .i64 ro) (.int .i64 he) (.slice A n c) (.int .i64 ct))
  have b1 := below_one w (.cells #[.int .i64 ep, .int .i64 ro, .int .i64 he, .slice A n c, .int .i64 ct] 33)
  have B1 := Lib.hid b1
  have HZ := Lib.hid (hz.kept b1)
  have HN := Lib.hid hz.intN
  clear hz b1
  go_enter Tryz.func16, Tryz.ntmps16
  go_upto_region 1 with fail
  generalize w.alloc (.cells #[.int .i64 ep, .int .i64 ro, .int .i64 he, .slice A n c, .int .i64 ct] 33) = w1 at *
  obtain ⟨c0, c1, c2, c3, c4⟩ := HB.out.cells
  go_wp2_with fail
  refine (ucheck_any ep ro he ct A n c pg w1 HZ.out hn).mono ?_
  rintro e w2 ⟨rfl, b2⟩
  have B2 := Lib.hid (B1.out.trans (b2.mono B1.out.size))
  have HB2 := Lib.hid (HB.out.kept b2)
  have HZ2 := Lib.hid (HZ.out.kept b2)
  clear b2 c0 c1 c2 c3 c4 HB HZ
  obtain ⟨c0, c1, c2, c3, c4⟩ := HB2.out.cells
  cases hk : (SB.mk ep ro he ct pg).okB with
  | false =>
    rw [checkE_bad hk]
    have HE := Lib.hid (uenc_bad hk B2.out)
    clear hk
    go_wp2_with fail
    go_ret2
    exact HE.out
  | true =>
    have HK := Lib.hid hk
    have h100 : n ≤ 100 := by have h1 : pg.length ≤ 100 := (SB.pg_ok hk).2; have := HN.out; omega
    rw [checkE_good hk]
    clear hk
    have o1 := four_ints w2 ep ro he ct 3
    have L1 := HZ2.out.kept (below_one w2 (.cells #[.int .i64 ep, .int .i64 ro, .int .i64 he, .int .i64 ct] 3))
    have bs : w2.heap.size ≤ (w2.alloc (.cells #[.int .i64 ep, .int .i64 ro, .int .i64 he, .int .i64 ct] 3)).heap.size := (below_one w2 _).size
    have d3 := ((HB2.out.kept (below_one w2 (.cells #[.int .i64 ep, .int .i64 ro, .int .i64 he, .int .i64 ct] 3))).cells).2.2.2.1
    go_wp2_with (at_builtin; refine wpList_append_lay _ rfl (.tmp 18) (.tmp 20) 31 rfl w2.heap.size 3 i0 (.int .i64 0) 1 8 Tryz.underlying31 hi hz0 hz1 hz2 rfl (by decide) _ _ _ rfl o1 A n c (intVals pg) rfl L1.len L1.lies (intVals_one _) (by unfold maxLen; omega) (by omega) bs ?_; intro v3 w3 hown3 hg3; have B3 := Lib.hid (B2.out.trans (((below_one w2 (.cells #[.int .i64 ep, .int .i64 ro, .int .i64 he, .int .i64 ct] 3)).grown hg3 bs (fun k hk => (o1.lt k hk).1)).mono B2.out.size)); obtain ⟨A3, e3, rfl, _, l3⟩ := Ln.of_own hown3)

    have L3 : Hid (Ints w3 A3 (SB.mk ep ro he ct pg).nums) := Lib.hid (Ln.ints (by rw [← sIntVals_append] at l3; exact l3))
    have h4 : (SB.mk ep ro he ct pg).nums.length = 4 + n := by rw [SB.nums_length, HN.out]; omega
    clear hown3 l3 bs L1 o1 d3 c0 c1 c2 c3 c4
    refine (numbers_n A3 (4 + n) e3 _ w3 L3.out h4 (by omega)).mono ?_
    rintro e w4 ⟨v4, rfl, o4, b4⟩
    have O4 := Lib.hid o4
    have B4 := Lib.hid (B3.out.trans (b4.mono B3.out.size))
    clear o4 b4 h4
    go_wp2_with fail
    go_ret2
    refine ⟨v4, by rw [checkE_good HK.out]; rfl, ?_, B4.out⟩
    have : (SB.mk ep ro he ct pg).encB = numB (SB.mk ep ro he ct pg).nums := if_pos HK.out
    rw [this]
    exact own_low O4.out B3.out.size
end Go.Proofs.YtnmiccagkfpkiaaGreat

/-
  What frame.Read comes to.
-/
namespace Go.Proofs.YtnmiccagkfpkiaaGreat
open Go.RowKit

/-- A list of ints of one's own. -/
def OwnI (w : World) (base : Nat) (v : Value) (zs : List Int) : Prop := w.ownsRow base 3 1 v zs.length (intVals zs)

theorem ownI_nil (w : World) (base : Nat) : OwnI w base (.slice none 0 0) [] := World.ownsRow_nil _ _ _ _
theorem intVals_append (a b : List Int) : intVals (a ++ b) = intVals a ++ intVals b := List.map_append

/-- What Read answers. -/
def rdL (b : List UInt8) : List Int := (rd b).getD []
def rdE (b : List UInt8) : Int := if (rd b).isSome then 0 else 50
def FReadEnd (w : World) (b : List UInt8) (e : Ending) (w' : World) : Prop :=
  ∃ v, e = .returned (.tuple #[v, .int .i64 (rdE b)]) ∧ OwnI w' w.heap.size v (rdL b) ∧ Below w.heap.size w w'

theorem read_bad {b : List UInt8} (h : rd b = none) {w w' : World} (hb : Below w.heap.size w w') : FReadEnd w b (.returned (.tuple #[.slice none 0 0, .int .i64 50])) w' := by
  refine ⟨.slice none 0 0, ?_, ?_, hb⟩
  · rw [rdE, h]
    rfl
  · rw [rdL, h]
    exact ownI_nil _ _

theorem read_good {b : List UInt8} {ys : List Int} {v : Value} (h : rd b = some ys) {w w' : World} (hb : Below w.heap.size w w') (ho : OwnI w' w.heap.size v ys) : FReadEnd w b (.returned (.tuple #[v, .int .i64 0])) w' := by
  refine ⟨v, ?_, ?_, hb⟩
  · rw [rdE, h]
    rfl
  · rw [rdL, h]
    exact ho

/-- Bytes' number, the highest first. -/
def qn (l : List UInt8) : Nat := l.foldl (fun n c => n * 256 + c.toNat) 0
theorem qn_snoc (l : List UInt8) (c : UInt8) : qn (l ++ [c]) = qn l * 256 + c.toNat := by
  unfold qn
  rw [List.foldl_append]
  rfl
theorem qn_take {l : List UInt8} {j : Nat} {c : UInt8} (h : l[j]? = some c) : qn (l.take (j + 1)) = qn (l.take j) * 256 + c.toNat := by
  rw [List.take_add_one, h, Option.toList_some, qn_snoc]
theorem qn_four (x y z u : UInt8) (r : List UInt8) : qn ((x :: y :: z :: u :: r).take 4) = num4 x y z u := by
  simp [qn, num4]
theorem qn_lt {x y z u : UInt8} {r : List UInt8} {j : Nat} (h : j < 4) : qn ((x :: y :: z :: u :: r).take j) < 16777216 := by
  have := byte_lt x
  have := byte_lt y
  have := byte_lt z
  rcases (show j = 0 ∨ j = 1 ∨ j = 2 ∨ j = 3 by omega) with rfl | rfl | rfl | rfl <;> simp [qn] <;> omega

theorem or_spell {n : Nat} (z : UInt8) (h : n < 16777216) : bits .or .u32 ((n : Int) * 256) (z.toNat : Int) = ((n * 256 + z.toNat : Nat) : Int) := by
  have hz := byte_lt z
  rw [bits_join .u32 32 (by decide) wraps_u32 8 ((n : Int) * 256) (z.toNat : Int) (by omega) (by omega) (by omega) (by omega) (by omega) (by omega)]
  omega

/-- What Read holds while N bytes are left. -/
def ReadRel (w : World) (R n : Nat) (l : List UInt8) (N : Nat) (s v : Value) (wr : World) : Prop :=
  ∃ (A' : Option Addr) (c' : Nat) (rest : List UInt8) (ys : List Int), s = .slice A' N c' ∧ rest.length = N ∧ N % 4 = 0 ∧ N ≤ c' ∧ 4 * ys.length + N = n ∧ Hid (Bys w R A' rest) ∧ Hid (Rds l ys rest) ∧ Hid (OwnI wr w.heap.size v ys) ∧ Hid (Below w.heap.size w wr)

set_option maxRecDepth 20000 in
theorem ReadRel.next {w wr w3 : World} {R n M q : Nat} {A' : Option Addr} {c' : Nat} {l r : List UInt8} {u4 v3 : Value} {ys : List Int} {T : TypeId} {C : Array Value} (hM : r.length = M) (h4 : (M + 4) % 4 = 0) (hc : M ≤ c') (hn : 4 * ys.length + (M + 4) = n)
    (hb : Bys w R A' r) (hs : Rds l (ys ++ [(q : Int)]) r) (o1 : wr.ownsRow w.heap.size 3 1 u4 ys.length (intVals ys)) (HW : Below w.heap.size w wr)
    (hown3 : w3.ownsRow w.heap.size 3 1 v3 (ys.length + 1) (intVals ys ++ [.int .i64 (q : Int)])) (hg3 : (wr.alloc (.cells C T)).grownBy w3 u4.ownBlock) : ReadRel w R n l M (.slice A' M c') v3 w3 := by
  have bs := HW.size
  refine ⟨A', c', r, ys ++ [(q : Int)], rfl, hM, by omega, hc, ?_, hb, hs, ?_, ?_⟩
  · rw [List.length_append, List.length_singleton]
    omega
  · show w3.ownsRow _ _ _ _ _ _
    rw [List.length_append, intVals_append]
    exact hown3
  · exact (HW.alloc bs _).grown hg3 (by simp; omega) (fun g hg => (o1.lt g hg).1)

set_option maxRecDepth 20000 in
set_option maxHeartbeats 3200000 in
theorem fread_any {R : Nat} (A : Option Addr) (n c : Nat) (l : List UInt8) (w : World) (hl : l.length = n) (hr : Bys w R A l) (hnc : n ≤ c) (hn : n ≤ 1000000) :
    Calls Tryz.prog 73 #[.slice A n c] w (FReadEnd w l) := by
  by_cases h4 : n % 4 = 0
  · obtain ⟨i0, hi, hz0, hz1, hz2⟩ := info_parts intInfo
    have hm : ((n : Int) % 4 != 0) = false := by
      simp
      omega
    have HS := Lib.hid (Rds.start l)
    go_enter Tryz.func73, Tryz.ntmps73
    go_wp2_with fail
    go_loopg [0, 4] n (fun g s v wr => ReadRel w R n l g s v wr)
    case atStart => exact ⟨A, c, l, [], rfl, hl, h4, hnc, by simp, hr, HS, Lib.hid (ownI_nil _ _), Lib.hid (Below.refl _ _)⟩
    case round =>
      obtain ⟨A', c', rest, ys, rfl, hN, hN4, hNc, hyn, HB, HD, HO, HW⟩ := hrel
      obtain ⟨N, hNg⟩ : ∃ N, N = gk := ⟨_, rfl⟩
      subst hNg
      by_cases hN0 : N = 0
      · subst hN0
        obtain rfl : rest = [] := List.eq_nil_of_length_eq_zero hN
        have HP := Lib.hid (read_good HD.out.done HW.out HO.out)
        go_wp2_with fail
        go_ret2
        exact HP.out
      · obtain ⟨x, y, z, u, r, rfl⟩ : ∃ x y z u r, rest = x :: y :: z :: u :: r := by
          match rest, hN with
          | [], h => exact absurd h.symm hN0
          | [_], h => simp at h; omega
          | [_, _], h => simp at h; omega
          | [_, _, _], h => simp at h; omega
          | x :: y :: z :: u :: r, _ => exact ⟨x, y, z, u, r, rfl⟩
        obtain ⟨M, rfl⟩ : ∃ M, N = M + 4 := ⟨N - 4, by simp at hN; omega⟩
        have hM : r.length = M := by simpa using hN
        obtain ⟨b, off, _, rfl, _, _, _⟩ := (HB.out.kept HW.out).at_ (k := 0) (by simp)
        have q1 : (4 : Int) ≤ (c' : Int) := by omega
        have q2 : (0 : Int) < (M : Int) + 4 := by omega
        go_wp2_with fail
        obtain ⟨wo, rfl⟩ : ∃ wo : World, wo = wr := ⟨_, rfl⟩
        go_loopw [5, 20] (fun v i wi => ∃ j : Nat, j ≤ 4 ∧ i = .int .i64 j ∧ v = .int .u32 ((qn ((x :: y :: z :: u :: r).take j) : Nat) : Int) ∧ wi = wo) (fun _ i _ => 4 - (intOf i).toNat)
        case atStart => exact ⟨0, by omega, rfl, rfl, rfl⟩
        case round =>
          obtain ⟨j, hj, rfl, rfl, rfl⟩ := hrel
          by_cases hlt : j < 4
          · obtain ⟨b', off', t, e0, _, hv, cj⟩ := (HB.out.kept HW.out).at_ (k := j) (by simp; omega)
            have e1 := Option.some.inj e0
            injection e1 with e1 e2
            subst e1
            subst e2
            have HQ := Lib.hid (qn_take hv)
            have hq := qn_lt (x := x) (y := y) (z := z) (u := u) (r := r) hlt
            generalize qn ((x :: y :: z :: u :: r).take j) = q at *
            have HX := Lib.hid (or_spell t hq)
            have ht := byte_lt t
            clear hv e0
            go_wp2_with fail
            refine ⟨⟨j + 1, by omega, by go_num, ?_, trivial⟩, by simp [intOf]; omega⟩
            rw [HQ.out, HX.out]
          · obtain rfl : j = 4 := by omega
            rw [qn_four]
            have HLT := Lib.hid (num4_lt x y z u)
            by_cases hle : num4 x y z u ≤ 2147483647
            · have HS2 := Lib.hid (HD.out.step hle)
              generalize num4 x y z u = q at *
              have o1 : wr.ownsRow w.heap.size 3 1 u4 ys.length (intVals ys) := HO.out
              have bs := HW.out.size
              by_cases hc4 : c' = 4
              · subst hc4
                obtain rfl : r = [] := List.eq_nil_of_length_eq_zero (by omega)
                go_wp2_with (at_builtin; refine wpList_append_own _ rfl (.tmp 32) (.tmp 35) 31 rfl w.heap.size 3 i0 (.int .i64 0) 1 8 Tryz.underlying31 hi hz0 hz1 hz2 rfl (by decide) _ _ _ rfl (o1.alloc _) ⟨wr.heap.size, 0, none⟩ 1 1 [.int .i64 (q : Int)] rfl rfl (cell_one_new _ _ _) (by simp [Value.oneCell']) (by unfold maxLen; omega) (by omega) (by simp; omega) ?_; intro v3 w3 hown3 hg3 _)
                have HM := Lib.hid (ReadRel.next (w3 := w3) (A' := some ⟨b, off, none⟩) (c' := 0) hM hN4 (by omega) hyn (Bys.nil w R _) HS2.out o1 HW.out hown3 hg3)
                clear hown3 hg3 o1
                go_roundg M
                case measure => omega
                case rel =>
                  have e0 : M = 0 := by omega
                  have h0 := HM.out
                  rw [e0] at h0 ⊢
                  exact h0
              · go_wp2_with (at_builtin; refine wpList_append_own _ rfl (.tmp 32) (.tmp 35) 31 rfl w.heap.size 3 i0 (.int .i64 0) 1 8 Tryz.underlying31 hi hz0 hz1 hz2 rfl (by decide) _ _ _ rfl (o1.alloc _) ⟨wr.heap.size, 0, none⟩ 1 1 [.int .i64 (q : Int)] rfl rfl (cell_one_new _ _ _) (by simp [Value.oneCell']) (by unfold maxLen; omega) (by omega) (by simp; omega) ?_; intro v3 w3 hown3 hg3 _)
                have HM := Lib.hid (ReadRel.next (w3 := w3) (A' := some ⟨b, off + 4, none⟩) (c' := c' - 4) hM hN4 (by omega) hyn (HB.out.drop 4) HS2.out o1 HW.out hown3 hg3)
                clear hown3 hg3 o1
                go_roundg M
                case measure => omega
                case rel => exact HM.out
            · have HP := Lib.hid (read_bad (HD.out.bad hle) HW.out)
              generalize num4 x y z u = q at *
              go_wp2_with fail
              go_ret2
              exact HP.out
  · have HP := Lib.hid (read_bad (w := w) (w' := w) (rd_bad l (by rw [hl]; exact h4)) (Below.refl _ _))
    have hm : ¬ ((n : Int) % 4 = 0) := by omega
    clear h4 hl hr
    go_enter Tryz.func73, Tryz.ntmps73
    go_wp2_with fail
    go_ret2
    exact HP.out
end Go.Proofs.YtnmiccagkfpkiaaGreat

/-
  What Decode comes to.
-/
namespace Go.Proofs.YtnmiccagkfpkiaaGreat
open Go.RowKit

/-- Four numbers ahead of the others. -/
theorem four_more {l : List Int} (h : 4 ≤ l.length) : ∃ e r x c q, l = e :: r :: x :: c :: q := by
  rcases l with _ | ⟨e, _ | ⟨r, _ | ⟨x, _ | ⟨c, q⟩⟩⟩⟩
  · simp at h
  · simp at h
  · simp at h
  · simp at h
  · exact ⟨e, r, x, c, q, rfl⟩

theorem intVals_len (zs : List Int) : (intVals zs).length = zs.length := List.length_map _
/-- Where the others lie. -/
def restA (b off c : Nat) : Option Addr := if c = 4 then some ⟨b, off, none⟩ else some ⟨b, off + 4, none⟩
theorem ln_rest {w : World} {b off n c : Nat} {pg : List Int} (h : Ln w 1 (some ⟨b, off + 4, none⟩) (n - 4) (c - 4) (intVals pg)) : Ln w 1 (restA b off c) (n - 4) (c - 4) (intVals pg) := by
  unfold restA
  split
  · rename_i e
    have h1 := h.len
    have h2 := h.le
    have h3 : n - 4 = 0 := by omega
    rw [h3] at h h1 ⊢
    have h4 : intVals pg = [] := List.eq_nil_of_length_eq_zero (by omega)
    rw [h4]
    exact Ln.empty _ _ _ _
  · exact h
theorem uhi_rest {base b off c : Nat} (h : UHi base (some ⟨b, off + 4, none⟩)) : UHi base (restA b off c) := by
  unfold restA
  split
  · exact h.next
  · exact h
theorem ln_tail {w : World} {b off n c : Nat} {e r x k : Int} {q : List Int} (h : Ln w 1 (some ⟨b, off, none⟩) n c (intVals (e :: r :: x :: k :: q))) : Ln w 1 (some ⟨b, off + 4, none⟩) (n - 4) (c - 4) (intVals q) := by
  have hn := h.intN
  exact h.intDrop (k := 4) (by simp at hn; omega)

/-- What is answered where bytes are none's. -/
theorem udec_zero {w w1 : World} {b : List UInt8} (h : SB.dec b = none) (hb : Below w.heap.size w w1) : UEnd w (SB.decE b) (SB.decS b) (.returned (.tuple #[.agg #[.int .i64 0, .int .i64 0, .int .i64 0, .slice none 0 0, .int .i64 0], .int .i64 90])) (((((w1.setCell ⟨w.heap.size, 0, none⟩ (.int .i64 0)).setCell ⟨w.heap.size, 1, none⟩ (.int .i64 0)).setCell ⟨w.heap.size, 2, none⟩ (.int .i64 0)).setCell ⟨w.heap.size, 3, none⟩ (.slice none 0 0)).setCell ⟨w.heap.size, 4, none⟩ (.int .i64 0)) := by
  rw [(SB.dec_none h).1, (SB.dec_none h).2]
  exact uput_done (pg := []) hb (Nat.le_refl _) (Ln.none_ w1 1) (UHi.none_ _) _ _ _ _ _

set_option maxRecDepth 20000 in
set_option maxHeartbeats 3200000 in
theorem udecode_any {R : Nat} (A : Option Addr) (n c : Nat) (b : List UInt8) (w : World) (hl : b.length = n) (hr : Bys w R A b) (hnc : n ≤ c) (hn : n ≤ 1000000) :
    Calls Tryz.prog 62 #[.slice A n c] w (UEnd w (SB.decE b) (SB.decS b)) := by
  have b0 := below_one w (.cells #[.int .i64 0, .int .i64 0, .int .i64 0, .slice none 0 0, .int .i64 0] 33)
  have B0 := Lib.hid b0
  have HR := Lib.hid (ubox_new w (.int .i64 0) (.int .i64 0) (.int .i64 0) (.slice none 0 0) (.int .i64 0))
  have HY := Lib.hid (hr.kept b0)
  have HL := Lib.hid hl
  clear hr hl b0
  go_enter Tryz.func62, Tryz.ntmps62
  go_upto_region 1 with fail
  generalize w.alloc (.cells #[.int .i64 0, .int .i64 0, .int .i64 0, .slice none 0 0, .int .i64 0] 33) = w0 at *
  go_wp2_with fail
  refine (fread_any A n c b w0 HL.out HY.out hnc hn).mono ?_
  rintro e w2 ⟨v2, rfl, o2, b2⟩
  have B2 := Lib.hid (B0.out.trans (b2.mono B0.out.size))
  have HR2 := Lib.hid (HR.out.kept b2)
  have O2 := Lib.hid o2
  have Z0 := Lib.hid HR.out.lt
  clear o2 b2 HR
  cases hrd : rd b with
  | none =>
    have HE : rdE b = 50 := by unfold rdE; rw [hrd]; rfl
    rw [HE]
    have HZ := Lib.hid (udec_zero (show SB.dec b = none by unfold SB.dec; rw [hrd]; rfl) B2.out)
    obtain ⟨q0, q1, q2, q3, q4⟩ := HR2.out.cells
    obtain ⟨f0, f1, f2, f3, f4⟩ := HR2.out.free
    obtain ⟨e0, e1, e2, e3, e4⟩ := (Lib.hid (HR2.out.put (.int .i64 0) (.int .i64 0) (.int .i64 0) (.slice none 0 0) (.int .i64 0))).out.cells
    clear HE hrd
    go_wp2_with fail
    refine bodyPost_ret (v := .tuple #[.agg #[.int .i64 0, .int .i64 0, .int .i64 0, .slice none 0 0, .int .i64 0], .int .i64 90]) (by simp [results, Tryz.results62, go_sem, e0, e1, e2, e3, e4]) rfl ?_
    exact HZ.out
  | some l =>
    have HE : rdE b = 0 := by unfold rdE; rw [hrd]; rfl
    rw [HE]
    have o2 := O2.out
    rw [show rdL b = l by unfold rdL; rw [hrd]; rfl] at o2
    obtain ⟨A2, c2, rfl, _, l2⟩ := Ln.of_own o2
    have L2 := Lib.hid l2
    have HD : Hid (SB.dec b = SB.ofNums l) := Lib.hid (by unfold SB.dec; rw [hrd]; rfl)
    have hO : Hid (UHi (w.heap.size + 1) A2) := Lib.hid ((UHi.of_own o2).low Z0.out)
    have hll : l.length ≤ 250000 := by
      have := rd_length hrd
      have := HL.out
      omega
    clear HE o2 l2 O2 hrd
    by_cases h4 : l.length < 4
    · have HZ := Lib.hid (udec_zero (HD.out.trans (SB.ofNums_few h4)) B2.out)
      obtain ⟨q0, q1, q2, q3, q4⟩ := HR2.out.cells
      obtain ⟨f0, f1, f2, f3, f4⟩ := HR2.out.free
      obtain ⟨e0, e1, e2, e3, e4⟩ := (Lib.hid (HR2.out.put (.int .i64 0) (.int .i64 0) (.int .i64 0) (.slice none 0 0) (.int .i64 0))).out.cells
      obtain ⟨Q, hQ⟩ : ∃ Q, l.length = Q := ⟨_, rfl⟩
      rw [hQ] at h4 ⊢
      clear hQ L2 hll hO
      go_wp2_with fail
      refine bodyPost_ret (v := .tuple #[.agg #[.int .i64 0, .int .i64 0, .int .i64 0, .slice none 0 0, .int .i64 0], .int .i64 90]) (by simp [results, Tryz.results62, go_sem, e0, e1, e2, e3, e4]) rfl ?_
      exact HZ.out
    · obtain ⟨ep, ro, he, ct, pg, rfl⟩ := four_more (by omega : 4 ≤ l.length)
      obtain ⟨Q, hQ⟩ : ∃ Q, (ep :: ro :: he :: ct :: pg).length = Q := ⟨_, rfl⟩
      obtain ⟨bb, off, z, rfl, hz, c0⟩ := L2.out.intAt (k := 0) (by omega)
      obtain rfl : ep = z := by simpa using hz
      have c1 := L2.out.cell (j := 1) (u := .int .i64 ro) rfl
      have c2' := L2.out.cell (j := 2) (u := .int .i64 he) rfl
      have c3 := L2.out.cell (j := 3) (u := .int .i64 ct) rfl
      have hle := L2.out.le
      have HT := Lib.hid (ln_tail L2.out)
      have HO4 : Hid (UHi (w.heap.size + 1) (some ⟨bb, off + 4, none⟩)) := Lib.hid hO.out.next
      have HDD : Hid (SB.ofNums (ep :: ro :: he :: ct :: pg) = if (SB.mk ep ro he ct pg).okB = true then some ⟨ep, ro, he, ct, pg⟩ else none) := Lib.hid rfl
      rw [hQ] at L2 hle HT h4 hll ⊢
      clear hz hQ L2 hO
      rw [Nat.add_zero] at c0
      have bx := below_one w2 (.cells #[.int .i64 0, .int .i64 0, .int .i64 0, .slice none 0 0, .int .i64 0] 33)
      have hbb : bb < w2.heap.size := World.block_lt_of_cell? _ _ c0
      have d0 := (bx.cell (p := ⟨bb, off, none⟩) hbb).trans c0
      have d1 := (bx.cell (p := ⟨bb, off + 1, none⟩) hbb).trans c1
      have d2 := (bx.cell (p := ⟨bb, off + 2, none⟩) hbb).trans c2'
      have d3 := (bx.cell (p := ⟨bb, off + 3, none⟩) hbb).trans c3
      clear bx
      go_wp2_with fail
      go_region
      have L4 := Lib.hid (ln_rest HT.out)
      have O4 : Hid (UHi (w.heap.size + 1) (restA bb off c2)) := Lib.hid (uhi_rest HO4.out)
      rw [show (if c2 = 4 then some (⟨bb, off, none⟩ : Addr) else some ⟨bb, off + 4, none⟩) = restA bb off c2 from rfl]
      clear c0 c1 c2' c3 d0 d1 d2 d3 HT HO4
      generalize restA bb off c2 = A4 at *
      have HX : Hid (UBox (w2.alloc (.cells #[.int .i64 ep, .int .i64 ro, .int .i64 he, .slice A4 (Q - 4) (c2 - 4), .int .i64 ct] 33)).drew w2.heap.size (.int .i64 ep) (.int .i64 ro) (.int .i64 he) (.slice A4 (Q - 4) (c2 - 4)) (.int .i64 ct)) :=
        Lib.hid (UBox.block (ubox_new w2 (.int .i64 ep) (.int .i64 ro) (.int .i64 he) (.slice A4 (Q - 4) (c2 - 4)) (.int .i64 ct)) rfl)
      have bx : Below w2.heap.size w2 (w2.alloc (.cells #[.int .i64 ep, .int .i64 ro, .int .i64 he, .slice A4 (Q - 4) (c2 - 4), .int .i64 ct] 33)).drew := (below_one w2 _).trans ⟨rfl, rfl, rfl, Nat.le_refl _, fun _ _ => rfl⟩
      have L5 := Lib.hid (L4.out.kept bx)
      have B5 := Lib.hid (B2.out.trans (bx.mono B2.out.size))
      have HR5 := Lib.hid (HR2.out.kept bx)
      clear bx L4 HR2 B2
      generalize (w2.alloc (.cells #[.int .i64 ep, .int .i64 ro, .int .i64 he, .slice A4 (Q - 4) (c2 - 4), .int .i64 ct] 33)).drew = w5 at *
      obtain ⟨x0, x1, x2, x3, x4⟩ := HX.out.cells
      go_wp2_with fail
      refine (ucheck_any ep ro he ct A4 (Q - 4) (c2 - 4) pg w5 L5.out (by omega)).mono ?_
      rintro e w6 ⟨rfl, b6⟩
      have B6 := Lib.hid (B5.out.trans (b6.mono B5.out.size))
      have HR6 := Lib.hid (HR5.out.kept b6)
      have HX6 := Lib.hid (HX.out.kept b6)
      have L6 := Lib.hid (L5.out.kept b6)
      clear x0 x1 x2 x3 x4 HX b6 HR5 L5
      obtain ⟨q0, q1, q2, q3, q4⟩ := HR6.out.cells
      obtain ⟨f0, f1, f2, f3, f4⟩ := HR6.out.free
      cases hk : (SB.mk ep ro he ct pg).okB with
      | false =>
        rw [checkE_bad hk]
        have HZ := Lib.hid (udec_zero (HD.out.trans (HDD.out.trans (if_neg (by rw [hk]; decide)))) B6.out)
        obtain ⟨e0, e1, e2, e3, e4⟩ := (Lib.hid (HR6.out.put (.int .i64 0) (.int .i64 0) (.int .i64 0) (.slice none 0 0) (.int .i64 0))).out.cells
        clear hk
        go_wp2_with fail
        refine bodyPost_ret (v := .tuple #[.agg #[.int .i64 0, .int .i64 0, .int .i64 0, .slice none 0 0, .int .i64 0], .int .i64 90]) (by simp [results, Tryz.results62, go_sem, e0, e1, e2, e3, e4]) rfl ?_
        exact HZ.out
      | true =>
        rw [checkE_good hk]
        have HDS := Lib.hid (SB.dec_some (HD.out.trans (HDD.out.trans (if_pos hk))))
        obtain ⟨x0, x1, x2, x3, x4⟩ := HX6.out.cells
        obtain ⟨e0, e1, e2, e3, e4⟩ := (Lib.hid (HR6.out.put (.int .i64 ep) (.int .i64 ro) (.int .i64 he) (.slice A4 (Q - 4) (c2 - 4)) (.int .i64 ct))).out.cells
        have HZ := Lib.hid (uput_done (ep := ep) (ro := ro) (he := he) (ct := ct) (err := 0) B6.out (Nat.le_refl w.heap.size) L6.out O4.out (.int .i64 ep) (.int .i64 ro) (.int .i64 he) (.slice A4 (Q - 4) (c2 - 4)) (.int .i64 ct))
        clear hk
        go_wp2_with fail
        refine bodyPost_ret (v := .tuple #[.agg #[.int .i64 ep, .int .i64 ro, .int .i64 he, .slice A4 (Q - 4) (c2 - 4), .int .i64 ct], .int .i64 0]) (by simp [results, Tryz.results62, go_sem, e0, e1, e2, e3, e4]) rfl ?_
        rw [HDS.out.1, HDS.out.2]
        exact HZ.out
end Go.Proofs.YtnmiccagkfpkiaaGreat

/-
  What a step, and the reference's eight steps, come to.
-/
namespace Go.Proofs.YtnmiccagkfpkiaaGreat
open Go.RowKit

theorem and_one (w : Nat) (h : w < 4294967296) : bits .and .u32 (w : Int) 1 = ((w % 2 : Nat) : Int) := by
  have := u32_and_nat w 1 h (by omega)
  rw [nat_mask1] at this
  exact this

theorem step_odd {y : Nat} (h : y < 4294967296) (ho : y % 2 = 1) : bits .xor .u32 ((y : Int) / 2) 3988292384 = ((step1 y : Nat) : Int) := by
  have := u32_xor_nat (y / 2) 3988292384 (by omega) (by omega)
  unfold step1
  rw [if_pos ho]
  exact this

theorem step_even {y : Nat} (ho : ¬ y % 2 = 1) : (y : Int) / 2 = ((step1 y : Nat) : Int) := by
  unfold step1
  rw [if_neg ho, Nat.xor_zero]
  rfl

set_option maxRecDepth 20000 in
set_option maxHeartbeats 400000 in
theorem step_any (x : Nat) (hx : x < 4294967296) (w : World) :
    Calls Tryz.prog 86 #[.int .u32 (x : Int)] w fun e w' => e = .returned (.int .u32 ((step1 x : Nat) : Int)) ∧ w = w' := by
  have ha := and_one x hx
  by_cases ho : x % 2 = 1
  · have hb : (bits .and .u32 (x : Int) 1 == 1) = true := by rw [ha, ho]; rfl
    have HO := Lib.hid (step_odd hx ho)
    clear ha
    go_enter Tryz.func86, Tryz.ntmps86
    go_wp2_with fail
    go_ret
    exact ⟨ret_num HO.out, rfl⟩
  · have hb : (bits .and .u32 (x : Int) 1 == 1) = false := by rw [ha]; simp; omega
    have HO := Lib.hid (step_even ho)
    clear ha
    go_enter Tryz.func86, Tryz.ntmps86
    go_wp2_with fail
    go_ret
    exact ⟨ret_num HO.out, rfl⟩

end Go.Proofs.YtnmiccagkfpkiaaGreat

/-
  What the closure that fills one place of the table comes to.
-/
namespace Go.Proofs.YtnmiccagkfpkiaaGreat
open Go.RowKit

set_option maxRecDepth 20000 in
set_option maxHeartbeats 800000 in
theorem fill_any (k tb : Nat) (hk : k < 256) (v0 : Value) (w : World) (hc : w.cell? ⟨tb, k, none⟩ = some v0) (hf : w.frozen? ⟨tb, k, none⟩ = false) :
    Calls Tryz.prog 85 #[.int .i64 k, .pointer (some ⟨tb, 0, none⟩)] w fun e w' => e = .returned (.tuple #[]) ∧ w' = w.setCell ⟨tb, k, none⟩ (.int .u32 ((steps8 k : Nat) : Int)) := by
  go_enter Tryz.func85, Tryz.ntmps85
  go_wp2_with fail
  go_loopw [3, 6] (fun v i wr => ∃ j : Nat, j ≤ 8 ∧ i = .int .i64 j ∧ v = .int .u32 ((stepN j k : Nat) : Int) ∧ wr = w) (fun _ i _ => 8 - (intOf i).toNat)
  case atStart => exact ⟨0, by omega, rfl, rfl, rfl⟩
  case round =>
    obtain ⟨j, hj, rfl, rfl, rfl⟩ := hrel
    by_cases hlt : j < 8
    · have hn : stepN j k < 4294967296 := stepN_lt j (by omega)
      have HS := Lib.hid (show stepN (j + 1) k = step1 (stepN j k) from rfl)
      generalize stepN j k = y at *
      go_wp2_with fail
      refine (step_any y hn _).mono ?_
      rintro e w1 ⟨rfl, rfl⟩
      go_wp2_with fail
      refine ⟨⟨j + 1, by omega, by go_num, ?_, trivial⟩, by simp [intOf]; omega⟩
      rw [HS.out]
    · obtain rfl : j = 8 := by omega
      go_wp2_with fail
      go_end0
      exact ⟨rfl, rfl⟩
end Go.Proofs.YtnmiccagkfpkiaaGreat

/-
  What Table comes to.
-/
namespace Go.Proofs.YtnmiccagkfpkiaaGreat
open Go.RowKit

/-- The table's cells, of which the first k are filled. -/
def tabC (k : Nat) : Array Value := ((List.range 256).map (fun i => Value.int .u32 (if i < k then ((steps8 i : Nat) : Int) else 0))).toArray

theorem tabC_size (k : Nat) : (tabC k).size = 256 := by unfold tabC; simp
theorem tabC_at (k : Nat) {i : Nat} (h : i < 256) : (tabC k)[i]? = some (Value.int .u32 (if i < k then ((steps8 i : Nat) : Int) else 0)) := by
  unfold tabC
  rw [List.getElem?_toArray, List.getElem?_map, List.getElem?_range h]
  rfl
theorem tabC_set {k : Nat} (hk : k < 256) : (tabC k).setIfInBounds k (.int .u32 ((steps8 k : Nat) : Int)) = tabC (k + 1) := by
  apply Array.ext_getElem?
  intro i
  by_cases hi : i < 256
  · rw [Array.getElem?_setIfInBounds, tabC_at (k + 1) hi]
    by_cases e : k = i
    · subst e
      rw [if_pos rfl, if_pos (by rw [tabC_size]; exact hk), if_pos (by omega)]
    · rw [if_neg e, tabC_at k hi]
      by_cases hl : i < k
      · rw [if_pos hl, if_pos (by omega)]
      · rw [if_neg hl, if_neg (by omega)]
  · rw [Array.getElem?_eq_none (by rw [Array.size_setIfInBounds, tabC_size]; omega), Array.getElem?_eq_none (by rw [tabC_size]; omega)]

theorem tabC_one (k : Nat) : (tabC k).all (·.oneCell') = true := by
  rw [Array.all_eq_true_iff_forall_mem]
  intro v hv
  unfold tabC at hv
  rw [List.mem_toArray] at hv
  obtain ⟨i, _, rfl⟩ := List.mem_map.1 hv
  rfl

theorem two_blocks (w : World) (c d : Array Value) (t : TypeId) :
    ((w.alloc (.cells c t)).alloc (.cells d t)).heap[w.heap.size + 1]? = some (.cells d t) ∧ ((w.alloc (.cells c t)).alloc (.cells d t)).heap[w.heap.size]? = some (.cells c t) := by
  have hs : (w.alloc (.cells c t)).heap.size = w.heap.size + 1 := by simp
  constructor
  · have := heap_alloc_new (w.alloc (.cells c t)) (.cells d t)
    rw [hs] at this
    exact this
  · rw [heap_alloc_old _ _ (by rw [hs]; omega)]
    exact heap_alloc_new w _

set_option maxRecDepth 20000 in
theorem tabInfo : (Tryz.prog.info? 105).map (fun i => (i.zero, i.size)) = some (some (.agg (tabC 0)), 256) := by kernel_rfl

theorem tab_cell (w : World) (k : Nat) (hk : k < 256) (t : TypeId) : (w.alloc (.cells (tabC k) t)).cell? ⟨w.heap.size, k, none⟩ = some (.int .u32 0) := by
  rw [cell_of_row _ w.heap.size k _ t (0, 0) (heap_alloc_new w _), tabC_at k hk, if_neg (by omega)]
theorem tab_free (w : World) (k j : Nat) (t : TypeId) : (w.alloc (.cells (tabC k) t)).frozen? ⟨w.heap.size, j, none⟩ = false := by simp
theorem tab_set (w : World) (k : Nat) (hk : k < 256) (t : TypeId) : (w.alloc (.cells (tabC k) t)).setCell ⟨w.heap.size, k, none⟩ (.int .u32 ((steps8 k : Nat) : Int)) = w.alloc (.cells (tabC (k + 1)) t) := by
  rw [World.setCell_alloc_at _ _ _ _ _ rfl, tabC_set hk]

set_option maxRecDepth 20000 in
theorem tab_fill (w : World) (o : Obj) (k : Nat) (hk : k < 256) (t : TypeId) :
    Calls Tryz.prog 85 #[.int .i64 k, .pointer (some ⟨w.heap.size + 1, 0, none⟩)] ((w.alloc o).alloc (.cells (tabC k) t)) fun e w' => e = .returned (.tuple #[]) ∧ w' = (w.alloc o).alloc (.cells (tabC (k + 1)) t) := by
  have hs : w.heap.size + 1 = (w.alloc o).heap.size := by simp
  rw [hs]
  refine (fill_any k _ hk _ _ (tab_cell (w.alloc o) k hk t) (tab_free _ _ _ _)).mono ?_
  rintro e w' ⟨rfl, rfl⟩
  exact ⟨rfl, tab_set _ _ hk _⟩

set_option maxHeartbeats 800000 in
set_option maxRecDepth 20000 in
theorem table_any (w : World) :
    Calls Tryz.prog 79 #[] w fun e w' => e = .returned (.agg (tabC 256)) ∧ Below w.heap.size w w' := by
  obtain ⟨hz, hsz⟩ := zero_of_info tabInfo
  obtain ⟨F, hF⟩ : ∃ F, F = tabC := ⟨_, rfl⟩
  rw [← hF] at hz ⊢
  have hfill : ∀ k : Nat, k < 256 → Calls Tryz.prog 85 #[.int .i64 (k : Int), .pointer (some ⟨w.heap.size + 1, 0, none⟩)] ((w.alloc (.cells (F 0) 105)).alloc (.cells (F k) 105))
      fun e w' => e = .returned (.tuple #[]) ∧ w' = (w.alloc (.cells (F 0) 105)).alloc (.cells (F (k + 1)) 105) := by
    rw [hF]
    exact fun k hk => tab_fill w _ k hk _
  have HF := Lib.hid hfill
  have hsF : ∀ k, (F k).size = 256 := by rw [hF]; exact tabC_size
  have HS := Lib.hid hsF
  have hiF : ∀ k, (Tryz.prog.info? 105).map (·.size) = some (F k).size := fun k => by rw [hsF k]; exact hsz
  have HI := Lib.hid hiF
  have hoF : ∀ k, (F k).all (·.oneCell') = true := by rw [hF]; exact tabC_one
  have HO := Lib.hid hoF
  clear hfill hF hsF hiF hoF hsz
  have hmf : ∀ (fn : Fn) (first cap : Array Value) (w : World), (Instr.makeFunc fn first cap).run Tryz.prog w = .ok (.func fn first cap) w := fun _ _ _ _ => rfl
  go_enter Tryz.func79, Tryz.ntmps79
  go_wp2_with fail
  go_loopw [5] (fun i wr => ∃ k : Nat, k ≤ 256 ∧ i = .int .i64 k ∧ wr = (w.alloc (.cells (F 0) 105)).alloc (.cells (F k) 105)) (fun i _ => 256 - (intOf i).toNat)
  case atStart => exact ⟨0, by omega, rfl, rfl⟩
  case round =>
    obtain ⟨k, hk, rfl, rfl⟩ := hrel
    by_cases hlt : k < 256
    · go_wp2_with fail
      refine (HF.out k hlt).mono ?_
      rintro e w1 ⟨rfl, rfl⟩
      go_wp2_with fail
      exact ⟨⟨k + 1, by omega, by go_num, rfl⟩, by simp [intOf]; omega⟩
    · obtain rfl : k = 256 := by omega
      obtain ⟨g1, g0⟩ := two_blocks w (F 0) (F 256) 105
      have G1 := Lib.hid g1
      have G0 := Lib.hid g0
      clear g1 g0
      go_wp2_with fail
      refine wp_load_row 105 (.tmp 1) rfl (w.heap.size + 1) rfl 105 (F 256) (0, 0) _ G1.out Tryz.underlying105 rfl (HI.out 256) ?_
      rename_i hK
      refine hK _ _ ?_
      refine wpList_store_row rfl 105 (.tmp 0) (.tmp 12) rfl w.heap.size (F 256) rfl rfl 105 (F 0) G0.out (HI.out 256) ((HS.out 0).trans (HS.out 256).symm) (HO.out 256) ?_
      go_wp2_with fail
      refine bodyPost_ret (v := .agg (F 256)) (results_cell_row rfl _ _ w.heap.size 105 (F 256) (0, 0) _ rfl (setRow_heap _ _ _ _ _ _ G0.out) Tryz.underlying105 rfl (HI.out 256)) rfl ⟨rfl, ?_⟩
      exact below_setRow (below_two _ _ _) (Nat.le_refl _) _
end Go.Proofs.YtnmiccagkfpkiaaGreat

/-
  What More and Sum come to.
-/
namespace Go.Proofs.YtnmiccagkfpkiaaGreat
open Go.RowKit

theorem not_spell {x : Nat} (h : x < 4294967296) : bits .xor .u32 IntKind.u32.max (x : Int) = ((inv x : Nat) : Int) := by
  have := u32_xor_nat 4294967295 x (by omega) h
  rw [Nat.xor_comm] at this
  exact this

theorem low_spell (x : Nat) (c : UInt8) : bits .xor .u8 ((x : Int) % 256) (c.toNat : Int) = ((x % 256 ^^^ c.toNat : Nat) : Int) := by
  have := u8_xor_nat (x % 256) c.toNat (by omega) (UInt8.toNat_lt c)
  simpa using this

theorem low_lt (x : Nat) (c : UInt8) : x % 256 ^^^ c.toNat < 256 := xor_lt8 (by omega) (UInt8.toNat_lt c)

theorem crcB_spell {x : Nat} (h : x < 4294967296) (c : UInt8) : bits .xor .u32 ((steps8 (x % 256 ^^^ c.toNat) : Nat) : Int) ((x : Int) / 256) = ((crcB x c : Nat) : Int) := by
  rw [crcB_table]
  exact u32_xor_nat _ (x / 256) (steps8_lt (by have := low_lt x c; omega)) (by omega)

theorem tab_read (w : World) {i : Nat} (h : i < 256) (t : TypeId) : (w.alloc (.cells (tabC 256) t)).cell? ⟨w.heap.size, i, none⟩ = some (.int .u32 ((steps8 i : Nat) : Int)) := by
  rw [cell_of_row _ w.heap.size i _ t (0, 0) (heap_alloc_new w _), tabC_at 256 h, if_pos h]

/-- A world where the table lies in the block tb. -/
def Tab (w : World) (tb : Nat) : Prop := ∀ i, i < 256 → w.cell? ⟨tb, i, none⟩ = some (.int .u32 ((steps8 i : Nat) : Int))

theorem Tab.below {w w' : World} {tb : Nat} (h : Tab w tb) (hb : Below w.heap.size w w') : Tab w' tb := fun i hi =>
  (hb.cell (p := ⟨tb, i, none⟩) (World.block_lt_of_cell? _ _ (h i hi))).trans (h i hi)

/-- What a walk asks of the table, its cells being whatever. -/
def TabIs (Z T : Array Value) : Prop :=
  (∀ w, (zeroValue 105).run Tryz.prog w = .ok (.agg Z) w) ∧ (Tryz.prog.info? 105).map (·.size) = some T.size ∧ Z.size = T.size ∧ T.all (·.oneCell') = true ∧
  (∀ w : World, Tab (w.alloc (.cells T 105)) w.heap.size) ∧
  ∀ w, Calls Tryz.prog 79 #[] w fun e w' => e = .returned (.agg T) ∧ Below w.heap.size w w'

theorem tab_is : ∃ Z T, TabIs Z T := by
  obtain ⟨hz, hsz⟩ := zero_of_info tabInfo
  exact ⟨tabC 0, tabC 256, hz, by rw [tabC_size]; exact hsz, by rw [tabC_size, tabC_size], tabC_one _, fun w i hi => tab_read w hi _, table_any⟩

set_option maxHeartbeats 1600000 in
set_option maxRecDepth 20000 in
theorem more_any (s : Nat) (hs : s < 4294967296) {R : Nat} (A : Option Addr) (c : Nat) (l : List UInt8) (w : World) (h : Bys w R A l) (hn : l.length ≤ 1000000) :
    Calls Tryz.prog 69 #[.int .u32 (s : Int), .slice A l.length c] w fun e w' => e = .returned (.int .u32 ((crcM s l : Nat) : Int)) ∧ Below w.heap.size w w' := by
  obtain ⟨Z, T, hz, hi, hZT, h1, hT, hcall⟩ := tab_is
  have HI := Lib.hid hi
  have HZ := Lib.hid hZT
  have H1 := Lib.hid h1
  have HT := Lib.hid hT
  have HC := Lib.hid hcall
  clear hi hZT h1 hT hcall
  go_enter Tryz.func69, Tryz.ntmps69
  go_wp2_with fail
  refine (HC.out _).mono ?_
  rintro e w1 ⟨rfl, b1⟩
  have h1 := h.kept b1
  clear h
  go_wp2_with (refine wpList_store_row rfl 105 (.tmp 5) (.tmp 9) rfl w1.heap.size T rfl rfl 105 Z (heap_alloc_new w1 _) HI.out HZ.out H1.out ?_; rw [World.setRow_alloc_new])
  rw [not_spell hs]
  have T2 := HT.out w1
  have h2 := h1.alloc (.cells T 105)
  have b2 : Below w.heap.size w (w1.alloc (.cells T 105)) := b1.alloc b1.size _
  have HB := Lib.hid b2
  have hb1 := b1.size
  clear h1 HT HC H1 HZ HI hz b1 b2
  generalize w1.alloc (.cells T 105) = w2 at *
  generalize w1.heap.size = tb at *
  have hv := inv_lt hs
  have HE := Lib.hid (show crcM s l = inv (crcF (inv s) l) from rfl)
  generalize inv s = v at *
  go_loopw [6, 14] (fun x i wr => ∃ k : Nat, k ≤ l.length ∧ i = .int .i64 k ∧ x = .int .u32 ((crcF v (l.take k) : Nat) : Int) ∧ wr = w2) (fun _ i _ => l.length - (intOf i).toNat)
  case atStart => exact ⟨0, by omega, rfl, rfl, rfl⟩
  case round =>
    obtain ⟨k, hk, rfl, rfl, rfl⟩ := hrel
    by_cases hlt : k < l.length
    · obtain ⟨b, off, z, rfl, hb, hz, hc⟩ := h2.at_ hlt
      have HN := Lib.hid (crcF_take v hz)
      have hx := crcF_lt (l.take k) hv
      generalize crcF v (l.take k) = x at *
      have hix := low_spell x z
      have hil := low_lt x z
      have hcell := T2 _ hil
      have HX := Lib.hid (crcB_spell hx z)
      clear hz
      generalize x % 256 ^^^ z.toNat = ix at *
      go_wp2_with fail
      refine ⟨⟨k + 1, by omega, by go_num, ?_, trivial⟩, by simp [intOf]; omega⟩
      rw [HX.out, HN.out]
    · obtain rfl : k = l.length := by omega
      rw [List.take_length]
      have hx := crcF_lt l hv
      have HX := Lib.hid (not_spell hx)
      generalize crcF v l = x at *
      go_wp2_with fail
      go_ret
      refine ⟨ret_num ?_, HB.out⟩
      rw [HX.out, HE.out]

set_option maxRecDepth 20000 in
theorem more_n (s : Nat) (hs : s < 4294967296) {R : Nat} (A : Option Addr) (n c : Nat) (l : List UInt8) (w : World) (h : Bys w R A l) (hl : l.length = n) (hn : n ≤ 1000000) :
    Calls Tryz.prog 69 #[.int .u32 (s : Int), .slice A n c] w fun e w' => e = .returned (.int .u32 ((crcM s l : Nat) : Int)) ∧ Below w.heap.size w w' := by
  subst hl
  exact more_any s hs A c l w h hn

set_option maxRecDepth 20000 in
set_option maxHeartbeats 400000 in
theorem sum_n {R : Nat} (A : Option Addr) (n c : Nat) (l : List UInt8) (w : World) (h : Bys w R A l) (hl : l.length = n) (hn : n ≤ 1000000) :
    Calls Tryz.prog 48 #[.slice A n c] w fun e w' => e = .returned (.int .u32 ((crcM 0 l : Nat) : Int)) ∧ Below w.heap.size w w' := by
  have HM := Lib.hid (more_n 0 (by omega) A n c l w h hl hn)
  generalize crcM 0 l = x at *
  go_enter Tryz.func48, Tryz.ntmps48
  go_wp2_with fail
  refine HM.out.mono ?_
  rintro e w1 ⟨rfl, b1⟩
  go_wp2_with fail
  go_ret
  exact ⟨rfl, b1⟩
end Go.Proofs.YtnmiccagkfpkiaaGreat

/-
  What frame.Pack comes to, with isKind and layer.
-/
namespace Go.Proofs.YtnmiccagkfpkiaaGreat
open Go.RowKit

set_option maxRecDepth 20000 in
set_option maxHeartbeats 400000 in
theorem isKind_any (k : Int) (w : World) :
    Calls Tryz.prog 46 #[.int .i64 k] w fun e w' => e = .returned (.bool (decide (1 ≤ k ∧ k ≤ 4))) ∧ w = w' := by
  by_cases h1 : 1 ≤ k
  · by_cases h2 : k ≤ 4
    · have HD := Lib.hid (show decide (1 ≤ k ∧ k ≤ 4) = true from decide_eq_true ⟨h1, h2⟩)
      go_enter Tryz.func46, Tryz.ntmps46
      go_wp2_with fail
      go_ret
      exact ⟨ret_bool (by simp [h1, h2]), rfl⟩
    · have HD := Lib.hid (show decide (1 ≤ k ∧ k ≤ 4) = false from decide_eq_false (fun h => h2 h.2))
      go_enter Tryz.func46, Tryz.ntmps46
      go_wp2_with fail
      go_ret
      exact ⟨ret_bool (by simp; omega), rfl⟩
  · have HD := Lib.hid (show decide (1 ≤ k ∧ k ≤ 4) = false from decide_eq_false (fun h => h1 h.1))
    go_enter Tryz.func46, Tryz.ntmps46
    go_wp2_with fail
    go_ret
    exact ⟨ret_bool (by simp; omega), rfl⟩

/-- What Pack answers. -/
def packB (k p : Int) (l : List UInt8) : List UInt8 := if FOk k p l.length then frm k p l else []
def packE (k p : Int) (l : List UInt8) : Int := if FOk k p l.length then 0 else 1
def PackEnd (w : World) (k p : Int) (l : List UInt8) (e : Ending) (w' : World) : Prop :=
  ∃ v, e = .returned (.tuple #[v, .int .i64 (packE k p l)]) ∧ Own w' w.heap.size v (packB k p l) ∧ Below w.heap.size w w'

theorem pack_bad {k p : Int} {l : List UInt8} (h : ¬ FOk k p l.length) (w w' : World) (hw : w = w') : PackEnd w k p l (.returned (.tuple #[.slice none 0 0, .int .i64 1])) w' := by
  subst hw
  refine ⟨.slice none 0 0, ?_, ?_, Below.refl _ _⟩
  · rw [packE, if_neg h]
  · rw [packB, if_neg h]
    exact own_nil _ _

set_option maxRecDepth 20000 in
set_option maxHeartbeats 800000 in
theorem pack_no (k p : Int) (A : Option Addr) (n c : Nat) (l : List UInt8) (w : World) (hl : l.length = n) (h : ¬ FOk k p l.length) :
    Calls Tryz.prog 18 #[.int .i64 k, .int .i64 p, .slice A n c] w (PackEnd w k p l) := by
  have HP := Lib.hid (fun w' => pack_bad (k := k) (p := p) (l := l) h w w')
  have HK := Lib.hid (isKind_any k)
  by_cases hk : 1 ≤ k ∧ k ≤ 4
  · rw [show decide (1 ≤ k ∧ k ≤ 4) = true from decide_eq_true hk] at HK
    by_cases hp0 : p < 0
    · clear h hk
      go_enter Tryz.func18, Tryz.ntmps18
      go_wp2_with fail
      refine (HK.out _).mono ?_
      rintro e w' ⟨rfl, rfl⟩
      go_wp2_with fail
      go_ret2
      exact HP.out _ rfl
    · by_cases hp1 : p > 2147483647
      · clear h hk
        go_enter Tryz.func18, Tryz.ntmps18
        go_wp2_with fail
        refine (HK.out _).mono ?_
        rintro e w' ⟨rfl, rfl⟩
        go_wp2_with fail
        go_ret2
        exact HP.out _ rfl
      · have hn : 1000 < n := by
          have : ¬ l.length ≤ 1000 := fun hle => h ⟨hk.1, hk.2, by omega, by omega, hle⟩
          omega
        clear h hk hl
        go_enter Tryz.func18, Tryz.ntmps18
        go_wp2_with fail
        refine (HK.out _).mono ?_
        rintro e w' ⟨rfl, rfl⟩
        go_wp2_with fail
        go_ret2
        exact HP.out _ rfl
  · rw [show decide (1 ≤ k ∧ k ≤ 4) = false from decide_eq_false hk] at HK
    clear h hk
    go_enter Tryz.func18, Tryz.ntmps18
    go_wp2_with fail
    refine (HK.out _).mono ?_
    rintro e w' ⟨rfl, rfl⟩
    go_wp2_with fail
    go_ret2
    exact HP.out _ rfl

set_option maxRecDepth 20000 in
set_option maxHeartbeats 1600000 in
theorem pack_yes {R : Nat} (k p : Nat) (A : Option Addr) (n c : Nat) (l : List UInt8) (w : World) (hl : l.length = n) (hr : Bys w R A l) (hz : A = none → n = 0 ∧ c = 0) (h : FOk k p l.length) :
    Calls Tryz.prog 18 #[.int .i64 k, .int .i64 p, .slice A n c] w (PackEnd w k p l) := by
  have HP : Hid (packE k p l = 0 ∧ packB k p l = frm k p l) := by
    unfold packE packB
    rw [if_pos h, if_pos h]
    exact Lib.hid ⟨rfl, rfl⟩
  have HK := Lib.hid (isKind_any k)
  rw [show decide (1 ≤ (k : Int) ∧ (k : Int) ≤ 4) = true from decide_eq_true ⟨h.1, h.2.1⟩] at HK
  have hk4 : k ≤ 4 := by have := h.2.1; omega
  have hp4 : p ≤ 2147483647 := by have := h.2.2.2.1; omega
  have hn : n ≤ 1000 := by have := h.2.2.2.2; omega
  obtain ⟨i0, hi, hz0, hz1, hz2⟩ := info_parts byteInfo
  have HL := Lib.hid hl
  have HR := Lib.hid hr
  have HZ := Lib.hid hz
  clear h hl hr hz
  go_enter Tryz.func18, Tryz.ntmps18
  go_wp2_with fail
  refine (HK.out _).mono ?_
  rintro e w' ⟨rfl, rfl⟩
  go_wp2_with fail
  refine (layer_any _ _).mono ?_
  rintro e w1 ⟨rfl, rfl⟩
  have L0 := Lib.hid (lay_start w 34 81)
  have B0 := Lib.hid (below_two w (.cells #[.slice none 0 0] 34) (.cells #[.pointer (some ⟨w.heap.size, 0, none⟩)] 81))
  go_wp2_with fail
  generalize (w.alloc (.cells #[.slice none 0 0] 34)).alloc (.cells #[.pointer (some ⟨w.heap.size, 0, none⟩)] 81) = w0 at *
  refine (lay1 k (by omega) _ w.heap.size w.heap.size _ (w.heap.size + 2) [] L0.out (by simp)).mono ?_
  rintro e w1 ⟨rfl, l1, b1⟩
  have L1 := Lib.hid l1
  have B1 := Lib.hid (B0.out.trans b1)
  clear l1 b1 L0 B0
  go_wp2_with fail
  refine (lay4 p (by omega) _ w.heap.size w.heap.size _ (w.heap.size + 2) _ L1.out (by simp [be_length])).mono ?_
  rintro e w2 ⟨rfl, l2, b2⟩
  have L2 := Lib.hid l2
  have B2 := Lib.hid (B1.out.trans b2)
  clear l2 b2 L1 B1
  go_wp2_with fail
  refine (lay2 n (by omega) _ w.heap.size w.heap.size _ (w.heap.size + 2) _ L2.out (by simp [be_length])).mono ?_
  rintro e w3 ⟨rfl, l3, b3⟩
  have HD : Hid ([] ++ be 1 k ++ be 4 p ++ be 2 n ++ l = bod (k : Int) (p : Int) l) := by
    rw [List.nil_append, ← HL.out]
    exact Lib.hid rfl
  have h7 : ([] ++ be 1 k ++ be 4 p ++ be 2 n).length = 7 := by simp [be_length]
  generalize [] ++ be 1 k ++ be 4 p ++ be 2 n = hd at *
  have L3 := Lib.hid l3
  have B3 := Lib.hid (B2.out.trans b3)
  have H7 := Lib.hid h7
  obtain ⟨v3, c3, f3, o3, n3, g3, s3⟩ := l3.look h7
  have lz := Lib.hid (Lies.bys ((HR.out.kept B3.out)) HZ.out)
  clear l3 b3 L2 B2 h7
  go_wp2_with (at_builtin; refine wpList_append_lay _ rfl (.tmp 40) (.tmp 41) 34 rfl (w.heap.size + 2) 5 i0 _ 1 1 Tryz.underlying34 hi hz0 hz1 hz2 rfl (by decide) _ _ _ rfl o3 A n c (bv l) rfl (by rw [bv_length, HL.out]; omega) lz.out (bv_one _) (by unfold maxLen; omega) (by omega) (by omega) ?_; intro v4 w4 hown4 hg4; obtain ⟨A4, c4, rfl, o4, r4⟩ := own_grown hown4; have d4 : w4.cell? ⟨w.heap.size, 0, none⟩ = some v3 := (hg4.cell_far _ g3 n3.symm).trans c3; have e4 : w4.frozen? ⟨w.heap.size, 0, none⟩ = false := (World.frozen?_of_block (a := ⟨w.heap.size, 0, none⟩) (hg4.block _ g3 n3.symm)).trans f3)
  have o5 : Own (w4.setCell ⟨w.heap.size, 0, none⟩ (.slice A4 (7 + n) c4)) (w.heap.size + 2) (.slice A4 (7 + n) c4) (hd ++ l) := fown_of_block o4 (fun k hk => Below.heap_setCell _ _ _ _ (fun e => by have := (o4.lt k hk).1; simp only at e; omega))
  have R5 := Lib.hid (own_bys o5)
  have L5 := Lib.hid (L3.out.put hg4 (fun k hk => (o3.lt k hk).1) o4)
  have B5 : Hid (Below w.heap.size w (w4.setCell ⟨w.heap.size, 0, none⟩ (.slice A4 (7 + n) c4))) := (B3.out.grown hg4 B3.out.size (fun g hg => by have := (o3.lt g hg).1; omega)).setCell (p := ⟨w.heap.size, 0, none⟩) (Nat.le_refl _) _
  have hsum : (hd ++ l).length = 7 + n := by rw [List.length_append, H7.out, HL.out]
  clear o5 o4 r4 d4 e4 hg4 hown4 c3 f3 o3 n3 g3 s3 lz L3 B3
  generalize w4.setCell ⟨w.heap.size, 0, none⟩ (.slice A4 (7 + n) c4) = w5 at *
  have HX := Lib.hid (crcM_lt (s := 0) (by omega) (hd ++ l))
  refine (sum_n A4 (7 + n) c4 (hd ++ l) _ R5.out hsum (by omega)).mono ?_
  rintro e w6 ⟨rfl, b6⟩
  have L6 := Lib.hid (L5.out.below b6)
  have B6 : Hid (Below w.heap.size w w6) := B5.out.trans (b6.mono B5.out.size)
  have HF : Hid (hd ++ l ++ be 4 (crcM 0 (hd ++ l)) = frm (k : Int) (p : Int) l) := by
    rw [HD.out]
    exact Lib.hid rfl
  have hsm := Lib.hid hsum
  clear b6 R5 L5 B5 HD hsum H7
  generalize crcM 0 (hd ++ l) = x at *
  go_wp2_with fail
  refine (lay4 x HX.out _ w.heap.size w.heap.size _ (w.heap.size + 2) _ L6.out (by rw [hsm.out]; omega)).mono ?_
  rintro e w7 ⟨rfl, l7, b7⟩
  have B7 : Hid (Below w.heap.size w w7) := B6.out.trans b7
  rw [HF.out] at l7
  obtain ⟨v7, c7, o7⟩ := l7.cf
  have O7 := Lib.hid o7
  clear l7 b7 L6 B6 o7 HF
  go_wp2_with fail
  go_ret2
  refine ⟨v7, ?_, ?_, B7.out⟩
  · rw [HP.out.1]
    rfl
  · rw [HP.out.2]
    exact own_low O7.out (by omega)

set_option maxRecDepth 20000 in
/-- Pack, whatever is handed in. -/
theorem pack_all {R : Nat} (k p : Int) (A : Option Addr) (n c : Nat) (l : List UInt8) (w : World) (hl : l.length = n) (hr : Bys w R A l) (hz : A = none → n = 0 ∧ c = 0) :
    Calls Tryz.prog 18 #[.int .i64 k, .int .i64 p, .slice A n c] w (PackEnd w k p l) := by
  by_cases h : FOk k p l.length
  · obtain ⟨k', rfl⟩ : ∃ k' : Nat, k = k' := ⟨k.toNat, by have := h.1; omega⟩
    obtain ⟨p', rfl⟩ : ∃ p' : Nat, p = p' := ⟨p.toNat, by have := h.2.2.1; omega⟩
    exact pack_yes k' p' A n c l w hl hr hz h
  · exact pack_no k p A n c l w hl h
end Go.Proofs.YtnmiccagkfpkiaaGreat

/-
  What a list of bytes in memory is read as: string(b); the library's bytes.
-/
namespace Go.Proofs.YtnmiccagkfpkiaaGreat
open Go.RowKit

/-! ### string(b) -/

section
variable {P : Program} {w : World} {R : Nat} {A : Option Addr} {l : List UInt8}

theorem run_text (h : Bys w R A l) (src dst e : TypeId) (n c : Nat) (hn : l.length = n) (hs : P.underlying src = some (.slice e)) (he : P.underlying e = some (.int .u8)) (hd : P.underlying dst = some .string) :
    (convert src dst (.slice A n c)).run P w = .ok (.string ⟨l.toArray⟩) w := by
  rw [run_convert_bytes_string w src dst e A n c hs he hd]
  rcases A with _ | ad
  · rw [h.none_]
    rfl
  · have hl : (loadCells ad n).run P w = .ok ((l.map (fun b => (b.toNat : Int))).map (Value.int .u8)).toArray w := by
      have := run_loadCells_list (P := P) w ad (bv l) h.cells
      rw [bv_length, hn] at this
      rw [this, List.map_map]
      rfl
    rw [run_bytesToString w ad n c _ hl]
    congr 2
    have : ∀ (l : List UInt8) (s : ByteArray), (l.map (fun b => (b.toNat : Int))).foldl (fun r n => r.push (UInt8.ofNat n.toNat)) s = ⟨s.data ++ l.toArray⟩ := by
      intro l
      induction l with
      | nil => intro s; simp
      | cons x l ih =>
        intro s
        rw [List.map_cons, List.foldl_cons, ih]
        simp [ByteArray.push]
    rw [this]
    congr 1
    exact Array.empty_append

theorem bytesOf_back : ∀ l : List UInt8, Lib.bytesOf (l.map (fun b => (b.toNat : Int))) = l
  | [] => rfl
  | x :: l => by
    have ih := bytesOf_back l
    unfold Lib.bytesOf at ih ⊢
    rw [List.map_cons, List.map_cons, ih]
    simp

theorem run_bytesOf (h : Bys w R A l) (n c : Nat) (hn : l.length = n) : (Extern.Bytes.bytesOf (.slice A n c)).run P w = .ok ⟨l.toArray⟩ w := by
  rcases A with _ | ad
  · rw [h.none_]
    rfl
  · have := Lib.run_loadBytesX (P := P) w (l.map (fun b => (b.toNat : Int))) ad .empty (fun j x hx => by
      rw [List.getElem?_map] at hx
      obtain ⟨z, hz, rfl⟩ := Option.map_eq_some_iff.1 hx
      exact h.cells j _ (by unfold bv; rw [List.getElem?_map, hz]; rfl))
    rw [List.length_map, hn, bytesOf_back] at this
    show (Extern.Bytes.loadBytes ad n .empty).run P w = _
    rw [this]
    congr 2
    exact Array.empty_append
end

end Go.Proofs.YtnmiccagkfpkiaaGreat

/-
  What bytes.Equal comes to.
-/
namespace Go.Proofs.YtnmiccagkfpkiaaGreat
open Go.RowKit

theorem text_eq (l m : List UInt8) : (l == m) = decide (l = m) := by
  rw [Bool.eq_iff_iff]
  simp

set_option maxRecDepth 20000 in
theorem bytesEqual_any {w : World} {R R' : Nat} {A B : Option Addr} {l m : List UInt8} (h : Bys w R A l) (k : Bys w R' B m) (n c p d : Nat) (hn : l.length = n) (hp : m.length = p) :
    Calls Tryz.prog 72 #[.slice A n c, .slice B p d] w fun e w' => e = .returned (.bool (decide (l = m))) ∧ w = w' := by
  have h1 := run_text (P := Tryz.prog) h 34 9 5 n c hn Tryz.underlying34 Tryz.underlying5 Tryz.underlying9
  have h2 := run_text (P := Tryz.prog) k 34 9 5 p d hp Tryz.underlying34 Tryz.underlying5 Tryz.underlying9
  have HE := Lib.hid (text_eq l m)
  clear hn hp h k
  go_enter Tryz.func72, Tryz.ntmps72
  go_wp2_with fail
  go_ret
  exact ⟨ret_bool HE.out, rfl⟩

end Go.Proofs.YtnmiccagkfpkiaaGreat

/-
  What bytes.Clone comes to, at any bytes (at most 1000000), nil or not.
-/
namespace Go.Proofs.YtnmiccagkfpkiaaGreat
open Go.RowKit

set_option maxRecDepth 20000 in
set_option maxHeartbeats 400000 in
theorem clone_some (ad : Addr) (n c R : Nat) (l : List UInt8) (w : World) (hx : Bys w R (some ad) l) (e : l.length = n) (hn : n ≤ 1000000) :
    Calls Tryz.prog 51 #[.slice (some ad) n c] w (Owned w.heap.size w l) := by
  have E := Lib.hid e
  clear e
  have hne := fun W => Lib.run_eql_slice_nil (P := Tryz.prog) W 34
  obtain ⟨i0, hi, hz0, hz1, hz2⟩ := info_parts byteInfo
  have hown0 : (w.alloc (.cells #[] 5)).ownsRow w.heap.size 5 1 (.slice (some ⟨w.heap.size, 0, none⟩) 0 0) 0 [] := World.ownsRow_made w #[] 0 (Nat.le_refl _) (by unfold maxLen; omega) rfl
  go_enter Tryz.func51, Tryz.ntmps51
  go_wp2_with (at_builtin; refine wpList_append_own _ rfl (.tmp 5) (.tmp 6) 34 rfl w.heap.size 5 i0 (.int .u8 0) 1 1 Tryz.underlying34 hi hz0 hz1 hz2 rfl (by decide) _ _ _ rfl hown0 ad n c (bv l) rfl (by rw [bv_length, E.out]; omega) (hx.alloc _).cells (bv_one _) (by unfold maxLen; omega) (by omega) (by simp) ?_; intro v1 w1 hown1 hg1 _)
  have b1 : Below w.heap.size w w1 := ((Below.refl _ _).alloc (Nat.le_refl _) _).grown hg1 (by simp) (fun g hg => (hown0.lt g hg).1)
  go_ret
  refine ⟨_, rfl, ?_, b1⟩
  unfold Own
  rw [E.out]
  simpa using hown1

set_option maxRecDepth 20000 in
theorem clone_nil (w : World) : Calls Tryz.prog 51 #[.slice none 0 0] w (Owned w.heap.size w []) := by
  have hne := fun W => Lib.run_eql_slice_nil (P := Tryz.prog) W 34
  go_enter Tryz.func51, Tryz.ntmps51
  go_wp2_with fail
  go_ret
  exact ⟨_, rfl, own_nil _ _, Below.refl _ _⟩

set_option maxRecDepth 20000 in
theorem clone_all (A : Option Addr) (n c R : Nat) (l : List UInt8) (w : World) (hx : Bys w R A l) (e : l.length = n) (hn : n ≤ 1000000) (hz : A = none → n = 0 ∧ c = 0) :
    Calls Tryz.prog 51 #[.slice A n c] w (Owned w.heap.size w l) := by
  rcases A with _ | ad
  · obtain ⟨rfl, rfl⟩ := hz rfl
    obtain rfl := hx.none_
    exact clone_nil w
  · exact clone_some ad n c R l w hx e hn

end Go.Proofs.YtnmiccagkfpkiaaGreat

/-
  What frame.Unpack comes to, with bytes.Equal.
-/
namespace Go.Proofs.YtnmiccagkfpkiaaGreat
open Go.RowKit

/-- What Unpack answers. -/
def unpK (p : Int) (b : List UInt8) : Int := if IsF p b then kin b else 0
def unpB (p : Int) (b : List UInt8) : List UInt8 := if IsF p b then dat b else []
def unpE (p : Int) (b : List UInt8) : Int := if IsF p b then 0 else 50
def UnpEnd (w : World) (p : Int) (b : List UInt8) (e : Ending) (w' : World) : Prop :=
  ∃ v, e = .returned (.tuple #[.int .i64 (unpK p b), v, .int .i64 (unpE p b)]) ∧ Own w' w.heap.size v (unpB p b) ∧ Below w.heap.size w w'

theorem unp_bad {p : Int} {b : List UInt8} (h : ¬ IsF p b) {w w' : World} (hb : Below w.heap.size w w') : UnpEnd w p b (.returned (.tuple #[.int .i64 0, .slice none 0 0, .int .i64 50])) w' := by
  refine ⟨.slice none 0 0, ?_, ?_, hb⟩
  · rw [unpK, unpE, if_neg h, if_neg h]
  · rw [unpB, if_neg h]
    exact own_nil _ _

theorem dat_bys {w : World} {R b off : Nat} {l : List UInt8} (h : Bys w R (some ⟨b, off, none⟩) l) : Bys w R (some ⟨b, off + 7, none⟩) (dat l) := by
  unfold dat
  exact (h.take _).drop 7

set_option maxRecDepth 20000 in
set_option maxHeartbeats 400000 in
theorem unp_short (p : Int) (A : Option Addr) (n c : Nat) (l : List UInt8) (w : World) (hl : l.length = n) (h : n < 11) :
    Calls Tryz.prog 61 #[.int .i64 p, .slice A n c] w (UnpEnd w p l) := by
  have HP := Lib.hid (unp_bad (w := w) (w' := w) (p := p) (b := l) (fun hf => by have := hf.1; omega) (Below.refl _ _))
  clear hl
  go_enter Tryz.func61, Tryz.ntmps61
  go_wp2_with fail
  go_ret3
  exact HP.out

set_option maxRecDepth 20000 in
set_option maxHeartbeats 1600000 in
theorem unp_long {R : Nat} (p : Int) (A : Option Addr) (n c : Nat) (l : List UInt8) (w : World) (hl : l.length = n) (hr : Bys w R A l) (hnc : n ≤ c) (hn : n ≤ 1000000) (h : ¬ n < 11) :
    Calls Tryz.prog 61 #[.int .i64 p, .slice A n c] w (UnpEnd w p l) := by
  obtain ⟨b, off, z, rfl, hbR, hz, c0⟩ := hr.at_ (k := 0) (by omega)
  have HZ := Lib.hid (kin_at hz)
  have HR := Lib.hid hr
  have HL := Lib.hid hl
  have hD := dat_bys hr
  have HD := Lib.hid hD
  have hdl : (dat l).length = n - 4 - 7 := by rw [dat_length, hl]
  have HDL := Lib.hid hdl
  rw [Nat.add_zero] at c0
  have q0 : (0 : Int) < (n : Int) := by omega
  have q1 : (7 : Int) ≤ (n : Int) - 4 := by omega
  have q2 : (n : Int) - 4 ≤ (c : Int) := by omega
  have q3 : (0 : Int) ≤ (n : Int) - 4 := by omega
  have q4 : ¬ c = 7 := by omega
  clear hl hr hz hbR hD hdl
  go_enter Tryz.func61, Tryz.ntmps61
  go_wp2_with fail
  go_quiet (fail)
  rw [show wrap64 (z.toNat : Int) = (z.toNat : Int) from by unfold wrap64; have := UInt8.toNat_lt z; omega]
  have B1 := Lib.hid (belowN (Below.refl w.heap.size w) nq)
  have r1 := Lib.hid (HR.out.kept B1.out)
  have d1 := Lib.hid (HD.out.kept B1.out)
  have HN : Hid (n - 4 - 7 ≤ 1000000 ∧ n ≤ 1000000 ∧ 11 ≤ n) := ⟨by omega, hn, by omega⟩
  generalize w.drewN nq = w1 at *
  generalize n - 4 - 7 = m at *
  clear HR HD c0 q0 q1 q2 q3 q4
  have HM := HN.out.1
  go_wp2_with fail
  refine (pack_all (z.toNat : Int) p _ m (c - 7) (dat l) _ HDL.out d1.out (fun e => by cases e)).mono ?_
  rintro e w2 ⟨v, rfl, o2, b2⟩
  rw [← HZ.out] at o2 ⊢
  have B2 : Hid (Below w.heap.size w w2) := B1.out.trans (b2.mono B1.out.size)
  have r2 := Lib.hid (r1.out.kept b2)
  have d2 := Lib.hid (d1.out.kept b2)
  clear r1 d1 B1 b2
  by_cases hok : FOk (kin l) p (dat l).length
  · have e1 : packE (kin l) p (dat l) = 0 := by unfold packE; rw [if_pos hok]
    have e2 : packB (kin l) p (dat l) = frm (kin l) p (dat l) := by unfold packB; rw [if_pos hok]
    rw [e1]
    rw [e2] at o2
    obtain ⟨A3, c3, rfl, hl3, _, _, r3⟩ := Bys.of_own o2
    have R3 := Lib.hid r3
    have HE := Lib.hid (bytesEqual_any r3 r2.out ((frm (kin l) p (dat l)).length) c3 n c rfl HL.out)
    by_cases hfr : frm (kin l) p (dat l) = l
    · have hf : IsF p l := ⟨by rw [HL.out]; exact HN.out.2.2, hok, hfr⟩
      have HP : Hid (unpK p l = kin l ∧ unpE p l = 0 ∧ unpB p l = dat l) := by
        unfold unpK unpE unpB
        rw [if_pos hf, if_pos hf, if_pos hf]
        exact Lib.hid ⟨rfl, rfl, rfl⟩
      rw [decide_eq_true hfr] at HE
      generalize (frm (kin l) p (dat l)).length = N at *
      clear e1 e2 o2 hok hl3 hfr hf r3
      generalize kin l = kk at *
      go_wp2_with fail
      refine HE.out.mono ?_
      rintro e w3 ⟨rfl, rfl⟩
      go_wp2_with fail
      refine (clone_all _ m (c - 7) _ (dat l) _ d2.out HDL.out HM (fun e => by cases e)).mono ?_
      rintro e w4 ⟨v4, rfl, o4, b4⟩
      have O4 := Lib.hid o4
      have B4 : Hid (Below w.heap.size w w4) := B2.out.trans (b4.mono B2.out.size)
      have HS := Lib.hid B2.out.size
      clear o4 b4 B2 HE R3 r2 d2
      go_wp2_with fail
      go_ret3
      refine ⟨v4, ?_, ?_, B4.out⟩
      · rw [HP.out.1, HP.out.2.1]
        rfl
      · rw [HP.out.2.2]
        exact own_low O4.out HS.out
    · have HP := Lib.hid (unp_bad (p := p) (b := l) (fun hf => hfr hf.2.2) B2.out)
      rw [decide_eq_false hfr] at HE
      generalize (frm (kin l) p (dat l)).length = N at *
      clear e1 e2 o2 hok hl3 hfr r3
      generalize kin l = kk at *
      go_wp2_with fail
      refine HE.out.mono ?_
      rintro e w3 ⟨rfl, rfl⟩
      go_wp2_with fail
      go_ret3
      exact HP.out
  · have e1 : packE (kin l) p (dat l) = 1 := by unfold packE; rw [if_neg hok]
    have HP := Lib.hid (unp_bad (p := p) (b := l) (fun hf => hok hf.2.1) B2.out)
    rw [e1]
    clear e1 o2 hok
    generalize kin l = kk at *
    go_wp2_with fail
    go_ret3
    exact HP.out

set_option maxRecDepth 20000 in
/-- Unpack, whatever is handed in. -/
theorem unp_all {R : Nat} (p : Int) (A : Option Addr) (n c : Nat) (l : List UInt8) (w : World) (hl : l.length = n) (hr : Bys w R A l) (hnc : n ≤ c) (hn : n ≤ 1000000) :
    Calls Tryz.prog 61 #[.int .i64 p, .slice A n c] w (UnpEnd w p l) := by
  by_cases h : n < 11
  · exact unp_short p A n c l w hl h
  · exact unp_long p A n c l w hl hr hnc hn h
end Go.Proofs.YtnmiccagkfpkiaaGreat

/-
  What sectorOf and lying come to.
-/
namespace Go.Proofs.YtnmiccagkfpkiaaGreat
open Go.RowKit

set_option maxRecDepth 20000 in
theorem sectorOf_any (ep : Int) (x y z p : Value) (w : World) (h0 : 0 ≤ ep) :
    Calls Tryz.prog 17 #[.agg #[.int .i64 ep, x, y, z, p]] w fun e w' => e = .returned (.int .i64 (ep % 2)) ∧ Below w.heap.size w w' := by
  have he : Int.tmod ep 2 = ep % 2 := Int.tmod_eq_emod_of_nonneg h0
  have HE := Lib.hid he
  have HB := Lib.hid (ubox_new w (.int .i64 ep) x y z p)
  have B1 := Lib.hid (below_one w (.cells #[.int .i64 ep, x, y, z, p] 33))
  clear he
  go_enter Tryz.func17, Tryz.ntmps17
  go_upto_region 1 with fail
  generalize w.alloc (.cells #[.int .i64 ep, x, y, z, p] 33) = w1 at *
  obtain ⟨c0, c1, c2, c3, c4⟩ := HB.out.cells
  go_wp2_with fail
  go_ret
  exact ⟨by first | rfl | exact ret_int HE.out | exact ret_int HE.out.symm, B1.out⟩

/-- What is answered where no superblock lies there. -/
theorem ulie_no {w w1 : World} {n : Int} {b : List UInt8} (h : SB.lie n b = none) (hb : Below w.heap.size w w1) : UEnd1 w (SB.lieV n b) (.returned (.agg #[.int .i64 (-1), .int .i64 0, .int .i64 0, .slice none 0 0, .int .i64 0])) (((((w1.setCell ⟨w.heap.size, 0, none⟩ (.int .i64 (-1))).setCell ⟨w.heap.size, 1, none⟩ (.int .i64 0)).setCell ⟨w.heap.size, 2, none⟩ (.int .i64 0)).setCell ⟨w.heap.size, 3, none⟩ (.slice none 0 0)).setCell ⟨w.heap.size, 4, none⟩ (.int .i64 0)) := by
  rw [SB.lieV_none h]
  exact ⟨_, rfl, uput_sbv (pg := []) hb (Nat.le_refl _) (Ln.none_ w1 1) (UHi.none_ _) _ _ _ _ _⟩

set_option maxRecDepth 20000 in
set_option maxHeartbeats 3200000 in
theorem lying_any {R : Nat} (k : Int) (A : Option Addr) (n c : Nat) (b : List UInt8) (w : World) (hl : b.length = n) (hr : Bys w R A b) (hnc : n ≤ c) (hn : n ≤ 1000000) :
    Calls Tryz.prog 26 #[.int .i64 k, .slice A n c] w (UEnd1 w (SB.lieV k b)) := by
  have b0 := below_one w (.cells #[.int .i64 0, .int .i64 0, .int .i64 0, .slice none 0 0, .int .i64 0] 33)
  have B0 := Lib.hid b0
  have HR := Lib.hid (ubox_new w (.int .i64 0) (.int .i64 0) (.int .i64 0) (.slice none 0 0) (.int .i64 0))
  have HY := Lib.hid (hr.kept b0)
  have HL := Lib.hid hl
  clear hr hl b0
  go_enter Tryz.func26, Tryz.ntmps26
  go_upto_region 1 with fail
  generalize w.alloc (.cells #[.int .i64 0, .int .i64 0, .int .i64 0, .slice none 0 0, .int .i64 0] 33) = w0 at *
  go_wp2_with fail
  refine (unp_all k A n c b w0 HL.out HY.out hnc hn).mono ?_
  rintro e w2 ⟨v2, rfl, o2, b2⟩
  have B2 := Lib.hid (B0.out.trans (b2.mono B0.out.size))
  have HR2 := Lib.hid (HR.out.kept b2)
  have O2 := Lib.hid o2
  have Z0 := Lib.hid HR.out.lt
  clear o2 b2 HR
  by_cases hf : IsF k b
  · have e1 : unpK k b = kin b := if_pos hf
    have e2 : unpE k b = 0 := if_pos hf
    have e3 : unpB k b = dat b := if_pos hf
    rw [e3] at O2
    rw [e1, e2]
    have HF := Lib.hid hf
    clear e1 e2 e3 hf
    by_cases hk : kin b = 1
    · have HK := Lib.hid hk
      rw [hk]
      clear hk
      obtain ⟨A2, c2, rfl, _, hnc2, _, r2⟩ := Bys.of_own O2.out
      have hd := dat_length b
      have hdl : (dat b).length ≤ 1000000 := by have := HL.out; omega
      obtain ⟨m, hm⟩ : ∃ m, (dat b).length = m := ⟨_, rfl⟩
      rw [hm] at hdl hnc2 ⊢
      have HM := Lib.hid hm
      have Y2 := Lib.hid r2
      clear hd hm r2 O2
      go_wp2_with fail
      refine (udecode_any A2 m c2 (dat b) w2 HM.out Y2.out hnc2 hdl).mono ?_
      rintro e w3 ⟨v3, rfl, s3, b3⟩
      have HR3 := Lib.hid (HR2.out.kept b3)
      have B3 := Lib.hid (B2.out.trans (b3.mono B2.out.size))
      obtain ⟨A3, c3, rfl, l3, i3⟩ := s3
      have HLI := Lib.hid (SB.lie_dec HF.out HK.out)
      have L3 := Lib.hid l3
      have I3 : Hid (UHi (w.heap.size + 1) A3) := Lib.hid (i3.low (by have := Z0.out; have := B2.out.size; have := HR2.out.lt; omega))
      clear b3 l3 i3 HR2
      cases hd : SB.dec (dat b) with
      | none =>
        rw [(SB.dec_none hd).2]
        rw [(SB.dec_none hd).1] at L3 ⊢
        have b4 := below_one w3 (.cells #[.int .i64 0, .int .i64 0, .int .i64 0, .slice A3 0 c3, .int .i64 0] 33)
        have HR4 := Lib.hid (HR3.out.kept b4)
        have HZ := Lib.hid (ulie_no (HLI.out.trans (by rw [hd]; rfl)) (B3.out.trans (b4.mono B3.out.size)))
        clear b4 hd L3 I3 HR3
        simp only [SB.zero, List.length_nil]
        go_upto_region 5 with fail
        generalize w3.alloc (.cells #[.int .i64 0, .int .i64 0, .int .i64 0, .slice A3 0 c3, .int .i64 0] 33) = w4 at *
        obtain ⟨q0, q1, q2, q3, q4⟩ := HR4.out.cells
        obtain ⟨f0, f1, f2, f3, f4⟩ := HR4.out.free
        obtain ⟨e0, e1, e2, e3, e4⟩ := (Lib.hid (HR4.out.put (.int .i64 (-1)) (.int .i64 0) (.int .i64 0) (.slice none 0 0) (.int .i64 0))).out.cells
        go_wp2_with fail
        refine bodyPost_ret (v := .agg #[.int .i64 (-1), .int .i64 0, .int .i64 0, .slice none 0 0, .int .i64 0]) (by simp [results, Tryz.results26, go_sem, e0, e1, e2, e3, e4]) rfl ?_
        exact HZ.out
      | some s =>
        rw [(SB.dec_some hd).2]
        rw [(SB.dec_some hd).1] at L3 ⊢
        have hok := (SB.bytes_dec hd).1
        have HLS : Hid (SB.lie k b = SB.own k s) := Lib.hid (HLI.out.trans (by rw [hd]; rfl))
        obtain ⟨ep, ro, he, ct, pg⟩ := s
        have hep : 0 ≤ ep := (SB.ep_ok hok).1
        obtain ⟨q, hq⟩ : ∃ q, pg.length = q := ⟨_, rfl⟩
        simp only [hq] at L3 ⊢
        have b4 := below_one w3 (.cells #[.int .i64 ep, .int .i64 ro, .int .i64 he, .slice A3 q c3, .int .i64 ct] 33)
        have HR4 := Lib.hid (HR3.out.kept b4)
        have L4 := Lib.hid (L3.out.kept b4)
        have B4 := Lib.hid (B3.out.trans (b4.mono B3.out.size))
        have HX := Lib.hid (ubox_new w3 (.int .i64 ep) (.int .i64 ro) (.int .i64 he) (.slice A3 q c3) (.int .i64 ct))
        clear b4 hd L3 HR3 hq hok HLI
        go_upto_region 5 with fail
        generalize w3.alloc (.cells #[.int .i64 ep, .int .i64 ro, .int .i64 he, .slice A3 q c3, .int .i64 ct] 33) = w4 at *
        obtain ⟨x0, x1, x2, x3, x4⟩ := HX.out.cells
        go_wp2_with fail
        refine (sectorOf_any ep _ _ _ _ w4 hep).mono ?_
        rintro e w5 ⟨rfl, b5⟩
        have HR5 := Lib.hid (HR4.out.kept b5)
        have HX5 := Lib.hid (HX.out.kept b5)
        have L5 := Lib.hid (L4.out.kept b5)
        have B5 := Lib.hid (B4.out.trans (b5.mono B4.out.size))
        clear b5 HR4 HX L4 B4 x0 x1 x2 x3 x4
        obtain ⟨q0, q1, q2, q3, q4⟩ := HR5.out.cells
        obtain ⟨f0, f1, f2, f3, f4⟩ := HR5.out.free
        by_cases hs : ep % 2 = k
        · have HLT := Lib.hid (SB.lieV_some (HLS.out.trans (if_pos hs)))
          have hb : (ep % 2 == k) = true := by rw [hs]; exact beq_self_eq_true k
          generalize ep % 2 = m2 at *
          obtain ⟨x0, x1, x2, x3, x4⟩ := HX5.out.cells
          obtain ⟨e0, e1, e2, e3, e4⟩ := (Lib.hid (HR5.out.put (.int .i64 ep) (.int .i64 ro) (.int .i64 he) (.slice A3 q c3) (.int .i64 ct))).out.cells
          have HZ := Lib.hid (uput_sbv (ep := ep) (ro := ro) (he := he) (ct := ct) B5.out (Nat.le_refl w.heap.size) L5.out I3.out (.int .i64 ep) (.int .i64 ro) (.int .i64 he) (.slice A3 q c3) (.int .i64 ct))
          clear hs HLS
          go_wp2_with fail
          refine bodyPost_ret (v := .agg #[.int .i64 ep, .int .i64 ro, .int .i64 he, .slice A3 q c3, .int .i64 ct]) (by simp [results, Tryz.results26, go_sem, e0, e1, e2, e3, e4]) rfl ?_
          rw [HLT.out]
          exact ⟨_, rfl, HZ.out⟩
        · have HZ := Lib.hid (ulie_no (HLS.out.trans (if_neg hs)) B5.out)
          have hb : (ep % 2 == k) = false := by rw [beq_eq_false_iff_ne]; exact hs
          generalize ep % 2 = m2 at *
          obtain ⟨e0, e1, e2, e3, e4⟩ := (Lib.hid (HR5.out.put (.int .i64 (-1)) (.int .i64 0) (.int .i64 0) (.slice none 0 0) (.int .i64 0))).out.cells
          clear hs HLS
          go_wp2_with fail
          refine bodyPost_ret (v := .agg #[.int .i64 (-1), .int .i64 0, .int .i64 0, .slice none 0 0, .int .i64 0]) (by simp [results, Tryz.results26, go_sem, e0, e1, e2, e3, e4]) rfl ?_
          exact HZ.out
    · have HZ := Lib.hid (ulie_no (SB.lie_none2 (n := k) hk) B2.out)
      have hb : (kin b == 1) = false := by rw [beq_eq_false_iff_ne]; exact hk
      obtain ⟨q0, q1, q2, q3, q4⟩ := HR2.out.cells
      obtain ⟨f0, f1, f2, f3, f4⟩ := HR2.out.free
      obtain ⟨e0, e1, e2, e3, e4⟩ := (Lib.hid (HR2.out.put (.int .i64 (-1)) (.int .i64 0) (.int .i64 0) (.slice none 0 0) (.int .i64 0))).out.cells
      generalize kin b = kb at *
      clear hk
      go_wp2_with fail
      refine bodyPost_ret (v := .agg #[.int .i64 (-1), .int .i64 0, .int .i64 0, .slice none 0 0, .int .i64 0]) (by simp [results, Tryz.results26, go_sem, e0, e1, e2, e3, e4]) rfl ?_
      exact HZ.out
  · have e1 : unpK k b = 0 := if_neg hf
    have e2 : unpE k b = 50 := if_neg hf
    rw [e1, e2]
    have HZ := Lib.hid (ulie_no (SB.lie_none1 hf) B2.out)
    obtain ⟨q0, q1, q2, q3, q4⟩ := HR2.out.cells
    obtain ⟨f0, f1, f2, f3, f4⟩ := HR2.out.free
    obtain ⟨e0, e1, e2, e3, e4⟩ := (Lib.hid (HR2.out.put (.int .i64 (-1)) (.int .i64 0) (.int .i64 0) (.slice none 0 0) (.int .i64 0))).out.cells
    clear hf
    go_wp2_with fail
    refine bodyPost_ret (v := .agg #[.int .i64 (-1), .int .i64 0, .int .i64 0, .slice none 0 0, .int .i64 0]) (by simp [results, Tryz.results26, go_sem, e0, e1, e2, e3, e4]) rfl ?_
    exact HZ.out
end Go.Proofs.YtnmiccagkfpkiaaGreat
