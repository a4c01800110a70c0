/-
  ValueRowLine answers true, for every three rows: rows stand in one line, and a row with more behind is behind it. Conditions: none.
-/
import Derived.Test.YtcjbkmbfkpjbiaaRows
import Derived.Test.YtcjbkmbfkpjbiaaAwake
import Derived.Test.YtcjbkmbfkpjbiaaOpen
import Derived.Test.YtcjbkmbfkpjbiaaApp
import Derived.Laws.AppendOwnNone
namespace Go.Proofs.Ytcjbkmbfkpjbiaa.valueRowLine
open Go.ChangeShapes Go.WideShapes Go.ChangeAt Go.RowKit

set_option maxHeartbeats 1600000 in
theorem long (A : Option Addr) (n c : Nat) (B : Option Addr) (m d : Nat) (K : Option Addr) (q f : Nat) (hlen : 200 < n ∨ 200 < m ∨ 200 < q) (w : World) :
    Calls Try.prog 7 #[.slice A n c, .slice B m d, .slice K q f] w fun e w' => e = .returned (.bool true) ∧ Below w.heap.size w w' := by
  have way : 200 < n ∨ (n ≤ 200 ∧ 200 < m) ∨ (n ≤ 200 ∧ m ≤ 200 ∧ 200 < q) := by omega
  rcases way with h | ⟨h, h'⟩ | ⟨h, h', h''⟩
  all_goals
    clear hlen
    go_enter Try.func7, Try.ntmps7
    go_wp2_with fail
    refine (awake_any _).mono ?_
    rintro e w1 ⟨rfl, hb1⟩
    go_wp2_with fail
    go_ret
    exact ⟨rfl, hb1⟩

def vOne : Val := ⟨1, 0, ⟨#[]⟩⟩

theorem own_end {w : World} {base t n : Nat} {v : Value} {xs : List Val} (e : xs.length = n) (h : w.ownsRow base t 3 v (n + 1) (rowVals xs ++ rowVals [vOne])) :
    ∃ A c, v = .slice A (n + 1) c ∧ Row w A (xs ++ [vOne]) := by
  rw [← rowVals_append] at h
  have hl : (xs ++ [vOne]).length = n + 1 := by simp [e]
  rw [← hl] at h ⊢
  exact row_of_own h

theorem new_cells (w : World) (o : Obj) (t : TypeId) : ∀ j u, (rowVals [vOne])[j]? = some u → ((w.alloc o).alloc (.cells #[.int .i64 1, .int .i64 0, .string ⟨#[]⟩] t)).cell? ((⟨w.heap.size + 1, 0, none⟩ : Addr).add j) = some u := by
  have h := Row.cells (row_one (w.alloc o) t vOne)
  rw [laid_two] at h
  exact h

theorem new_cells' (w : World) (t : TypeId) : ∀ j u, (rowVals [vOne])[j]? = some u → (w.alloc (.cells #[.int .i64 1, .int .i64 0, .string ⟨#[]⟩] t)).cell? ((⟨w.heap.size, 0, none⟩ : Addr).add j) = some u :=
  Row.cells (row_one w t vOne)

set_option maxHeartbeats 3200000 in
theorem walk {w : World} (A : Option Addr) (n c : Nat) (xs : List Val) (e0 : xs.length = n) (hx : Row w A xs) (zA : A = none → n = 0 ∧ c = 0) (B : Option Addr) (m d : Nat) (ys : List Val) (e1 : ys.length = m) (hy : Row w B ys)
    (K : Option Addr) (q f : Nat) (zs : List Val) (e2 : zs.length = q) (hz : Row w K zs) :
    Calls Try.prog 7 #[.slice A n c, .slice B m d, .slice K q f] w fun e w' => e = .returned (.bool true) ∧ Below w.heap.size w w' := by
  by_cases hlen : 200 < n ∨ 200 < m ∨ 200 < q
  · exact long A n c B m d K q f hlen w
  have hn : n ≤ 200 := by omega
  have hm : m ≤ 200 := by omega
  have hq : q ≤ 200 := by omega
  have E0 := Lib.hid e0
  have E1 := Lib.hid e1
  have E2 := Lib.hid e2
  clear hlen e0 e1 e2
  obtain ⟨i0, hi, hz0, hz1, hz2⟩ := info_parts valInfo
  have HT := Lib.hid (cmpR_line.turn xs ys)
  have HX := Lib.hid (cmpR_line.range xs ys)
  have HLE := Lib.hid (cmpR_line.le_trans xs ys zs)
  have HLT := Lib.hid (cmpR_line.lt_trans xs ys zs)
  have HN := Lib.hid (cmpR_snoc xs vOne)
  go_enter Try.func7, Try.ntmps7
  go_wp2_with fail
  refine (awake_any _).mono ?_
  rintro e w1 ⟨rfl, b1⟩
  go_wp2_with fail
  refine (cmpRow_n A B n m c d xs ys _ (hx.below b1) (hy.below b1) E0.out E1.out (by omega) (by omega)).mono ?_
  rintro e w2 ⟨rfl, b2'⟩
  have b2 : Below w.heap.size w w2 := b1.trans (b2'.mono b1.size)
  clear b2'
  go_wp2_with fail
  refine (cmpRow_n B K m q d f ys zs _ (hy.below b2) (hz.below b2) E1.out E2.out (by omega) (by omega)).mono ?_
  rintro e w3 ⟨rfl, b3'⟩
  have b3 : Below w.heap.size w w3 := b2.trans (b3'.mono b2.size)
  clear b3'
  go_wp2_with fail
  refine (cmpRow_n A K n q c f xs zs _ (hx.below b3) (hz.below b3) E0.out E2.out (by omega) (by omega)).mono ?_
  rintro e w4 ⟨rfl, b4'⟩
  have b4 : Below w.heap.size w w4 := b3.trans (b4'.mono b3.size)
  clear b4' b1 b2 b3
  generalize cmpR ys zs = y at *
  generalize cmpR xs zs = z at *
  rcases HX.out with hv | hv | hv
  case' inl =>
    rcases Int.lt_or_le 0 y with hy' | hy'
    case' inr => have hz' : z < 0 := HLT.out (by omega) hy'
  case' inr.inl =>
    rcases Int.lt_or_le 0 y with hy' | hy'
    case' inr => have hz' : z ≤ 0 := HLE.out (by omega) hy'
  all_goals
    have HV := Lib.hid hv
    rw [hv]
    clear hv
    go_wp2_with fail
    refine (cmpRow_n B A m n d c ys xs _ (hy.below b4) (hx.below b4) E1.out E0.out (by omega) (by omega)).mono ?_
    rintro e w5 ⟨rfl, b5'⟩
    rw [HT.out, HV.out]
    have b5 : Below w.heap.size w w5 := b4.trans (b5'.mono b4.size)
    clear b5' b4
    have hown0 : (w5.alloc (.cells #[] 24)).ownsRow w.heap.size 24 3 (.slice (some ⟨w5.heap.size, 0, none⟩) 0 0) 0 [] := World.ownsRow_made w5 #[] 0 b5.size (by unfold maxLen; omega) rfl
    rcases A with _ | ad
    case' none =>
      obtain ⟨rfl, rfl⟩ := zA rfl
      have hxn := hx.none_
      go_wp2_with (first
        | (at_builtin; refine wpList_append_own_none rfl (.tmp 67) (.tmp 68) 29 rfl w.heap.size 24 i0 3 Try.underlying29 hi _ _ _ rfl hown0 rfl ?_)
        | (at_builtin; refine wpList_append_own _ rfl (.tmp 69) (.tmp 71) 29 rfl w.heap.size 24 i0 _ 3 32 Try.underlying29 hi hz0 hz1 hz2 rfl (by decide) _ _ _ rfl (hown0.alloc _) ⟨w5.heap.size + 1, 0, none⟩ 1 1 (rowVals [vOne]) rfl rfl (new_cells _ _ _) (rowVals_one _) (by unfold maxLen; omega) (by omega) (by have := b5.size; simp; omega) ?_; intro v7 w7 hown7 hg7 _))
      have b7 : Below w.heap.size w w7 := ((b5.alloc b5.size _).alloc (by have := b5.size; simp; omega) _).grown hg7 (by have := b5.size; simp; omega) (fun g hg => (hown0.lt g hg).1)
      obtain ⟨A7, c7, rfl, hr7⟩ := own_end (xs := xs) E0.out (by rw [hxn]; exact hown7)
      clear hxn
    case' some =>
      go_wp2_with (first
        | (at_builtin; refine wpList_append_own _ rfl (.tmp 67) (.tmp 68) 29 rfl w.heap.size 24 i0 _ 3 32 Try.underlying29 hi hz0 hz1 hz2 rfl (by decide) _ _ _ rfl hown0 ad n c (rowVals xs) rfl (by rw [rowVals_length, E0.out]) (Row.cells ((hx.below b5).alloc _)) (rowVals_one _) (by unfold maxLen; omega) (by omega) (by have := b5.size; simp; omega) ?_; intro v6 w6 hown6 hg6 _; have b6 := (b5.alloc b5.size _).grown hg6 (by have := b5.size; simp; omega) (fun g hg => (hown0.lt g hg).1))
        | (at_builtin; refine wpList_append_own _ rfl (.tmp 69) (.tmp 71) 29 rfl w.heap.size 24 i0 _ 3 32 Try.underlying29 hi hz0 hz1 hz2 rfl (by decide) _ _ _ rfl (hown6.alloc _) ⟨w6.heap.size, 0, none⟩ 1 1 (rowVals [vOne]) rfl rfl (new_cells' _ _) (rowVals_one _) (by unfold maxLen; omega) (by omega) (by have := b6.size; simp; omega) ?_; intro v7 w7 hown7 hg7 _))
      have b7 : Below w.heap.size w w7 := (b6.alloc b6.size _).grown hg7 (by have := b6.size; simp; omega) (fun g hg => (hown6.lt g hg).1)
      obtain ⟨A7, c7, rfl, hr7⟩ := own_end (xs := xs) E0.out (by have h := hown7; rw [Nat.zero_add, List.nil_append] at h; exact h)
    all_goals
      clear hown0 hown7 hg7
      refine (same_n _ B _ m _ d xs ys _ (hx.below b7) (hy.below b7) E0.out E1.out (by omega) (by omega)).mono ?_
      rintro e w8 ⟨rfl, b8'⟩
      rw [HV.out]
      have b8 : Below w.heap.size w w8 := b7.trans (b8'.mono b7.size)
      have hr8 := hr7.below b8'
      have hl8 : (xs ++ [vOne]).length = xs.length + 1 := by simp
      rw [E0.out] at hl8
      have HL8 := Lib.hid hl8
      clear b8' hl8 hr7
      go_wp2_with fail
      refine (cmpRow_n _ A7 _ _ _ c7 xs (xs ++ [vOne]) _ (hx.below b8) hr8 E0.out HL8.out (by omega) (by omega)).mono ?_
      rintro e w9 ⟨rfl, b9'⟩
      rw [HN.out]
      have b9 : Below w.heap.size w w9 := b8.trans (b9'.mono b8.size)
      clear b9'
      go_wp2_with fail
      go_ret
      exact ⟨rfl, b9⟩

set_option maxRecDepth 100000 in
theorem lifted (os : Os) (started : os.Started) (H : Type) (enc : TypeId × Value → H) :
    ReturnsInHanded {} Try.checked os 7 .any (Rows.valueRowLineSpec.pre6 enc Try.prog Try.f7 Rows.valueRowLineRow.domain false)
      (Rows.valueRowLineSpec.post enc Try.prog Try.f7 false true false false) := by
  refine lift_law (C := Try.checked) (tb := 4) ownKnobs started (by kernel_rfl) Try.func7
    (ChangeSpec.witness6 (enc := enc) (C := Try.checked) false ⟨#[], #[.slice none 0 0, .slice none 0 0, .slice none 0 0], []⟩ 8 (by kernel_rfl) (by kernel_rfl) (by kernel_rfl) (by kernel_rfl))
    laidOut ?_ rfl rfl Try.underlying4 ?_ ?_
  · intro t ht
    rw [Try.params7] at ht
    simp only [List.mem_cons, List.not_mem_nil, or_false] at ht
    rcases ht with rfl | rfl | rfl <;> exact ⟨by kernel_rfl, of_decide_eq_true (by kernel_rfl)⟩
  · intro vs ds W p hA
    rw [Try.params7] at hA
    obtain ⟨v0, vs0, d0, ds0, p0, q0, ha, rfl, rfl, h0, r0⟩ := trodAll_cons hA
    obtain ⟨v1, vs1, d1, ds1, p1, q1, rfl, rfl, rfl, h1, r1⟩ := trodAll_cons r0
    obtain ⟨v2, vs2, d2, ds2, p2, q2, rfl, rfl, rfl, h2, r2⟩ := trodAll_cons r1
    obtain ⟨rfl, rfl, rfl⟩ := trodAll_nil r2
    rfl
  · intro W base args ds p hval hA
    rw [Try.params7] at hA hval
    obtain ⟨v0, vs0, d0, ds0, p0, q0, ha, rfl, rfl, h0, r0⟩ := trodAll_cons hA
    obtain ⟨v1, vs1, d1, ds1, p1, q1, rfl, rfl, rfl, h1, r1⟩ := trodAll_cons r0
    obtain ⟨v2, vs2, d2, ds2, p2, q2, rfl, rfl, rfl, h2, r2⟩ := trodAll_cons r1
    obtain ⟨rfl, rfl, rfl⟩ := trodAll_nil r2
    obtain rfl : args = #[v0, v1, v2] := by cases args; simp_all
    obtain ⟨A0, n0, c0, xs0, rfl, e0, hr0, z0⟩ := open_row (hval 0 _ v0 rfl rfl) h0
    obtain ⟨A1, n1, c1, xs1, rfl, e1, hr1, _⟩ := open_row (hval 1 _ v1 rfl rfl) h1
    obtain ⟨A2, n2, c2, xs2, rfl, e2, hr2, _⟩ := open_row (hval 2 _ v2 rfl rfl) h2
    exact walk A0 n0 c0 xs0 e0 hr0 z0 A1 n1 c1 xs1 e1 hr1 A2 n2 c2 xs2 e2 hr2

/-- The statement. -/
theorem proved : Rows.ValueRowLineSaid :=
  OpenClaim.holds_of_wide 7 Try.f7 rfl rfl rfl rfl rfl rfl rfl ⟨rfl, rfl, rfl, rfl, rfl⟩ rfl rfl rfl rfl rfl (by kernel_rfl) Try.func7 (by kernel_rfl)
    (of_decide_eq_true (by kernel_rfl)) (by unfold Func.isWrapper; first | (rw [if_pos (by decide +kernel)]; kernel_rfl) | (rw [if_neg (by decide +kernel)]; exact ⟨rfl, rfl⟩))
    (fun os started H enc _ => lifted os started H enc)
#print axioms proved
end Go.Proofs.Ytcjbkmbfkpjbiaa.valueRowLine
