/-
  ValueOwn answers true, for every row and every list of kinds: a row whose values may be is of its own kinds and of no others, and one with a value that may not be is refused by that. Conditions: none.
-/
import Derived.Test.YtcjbkmbfkpjbiaaRows
import Derived.Test.YtcjbkmbfkpjbiaaAwake
import Derived.Test.YtcjbkmbfkpjbiaaOpen
import Derived.Test.YtcjbkmbfkpjbiaaRef
namespace Go.Proofs.Ytcjbkmbfkpjbiaa.valueOwn
open Go.ChangeShapes Go.WideShapes Go.ChangeAt Go.RowKit

/-- Is there a value that may not be? -/
def badB (xs : List Val) : Bool := !(xs.all (fun v => chkV v == 0))

theorem bad_more {xs : List Val} {k : Nat} {v : Val} (hv : xs[k]? = some v) (h : badB (xs.take k) = false) : badB (xs.take (k + 1)) = (chkV v != 0) := by
  unfold badB at h ⊢
  rw [List.take_add_one, hv, List.all_append]
  simp only [Bool.not_eq_false'] at h
  rw [h]
  simp [bne]
theorem bad_stays {xs : List Val} {k : Nat} {v : Val} (hv : xs[k]? = some v) (h : badB (xs.take k) = true) : badB (xs.take (k + 1)) = true := by
  unfold badB at h ⊢
  rw [List.take_add_one, hv, List.all_append]
  simp only [Bool.not_eq_true'] at h
  rw [h]
  rfl

/-- What the three answers are: is there a bad value; by its own kinds; by those that are given; are they the same. -/
def Told (xs : List Val) (zs : List Int) (bad : Bool) (e f : Int) (same : Bool) : Prop :=
  badB xs = bad ∧ chkR xs (xs.map Val.k) = e ∧ chkR xs zs = f ∧ (bad = false → decide (xs.map Val.k = zs) = same)

theorem told (xs : List Val) (zs : List Int) : Told xs zs true 10 10 true ∨ Told xs zs false 0 0 true ∨ Told xs zs false 0 11 false := by
  unfold Told
  cases hb : badB xs with
  | true =>
    have hb' : xs.all (fun v => chkV v == 0) = false := by simpa [badB] using hb
    refine Or.inl ⟨rfl, ?_, ?_, fun h => by cases h⟩ <;> rw [chkR, hb'] <;> rfl
  | false =>
    have hb' : xs.all (fun v => chkV v == 0) = true := by simpa [badB] using hb
    by_cases he : xs.map Val.k = zs
    · refine Or.inr (Or.inl ⟨rfl, ?_, ?_, fun _ => decide_eq_true he⟩)
      · rw [chkR, hb', if_pos rfl, if_pos rfl]
      · rw [chkR, hb', if_pos rfl, if_pos he]
    · refine Or.inr (Or.inr ⟨rfl, ?_, ?_, fun _ => decide_eq_false he⟩)
      · rw [chkR, hb', if_pos rfl, if_pos rfl]
      · rw [chkR, hb', if_pos rfl, if_neg he]

set_option maxHeartbeats 1600000 in
theorem long (A : Option Addr) (n c : Nat) (K : Option Addr) (q f : Nat) (hlen : 200 < n ∨ 200 < q) (w : World) :
    Calls Try.prog 8 #[.slice A n c, .slice K q f] w fun e w' => e = .returned (.bool true) ∧ Below w.heap.size w w' := by
  have way : 200 < n ∨ (n ≤ 200 ∧ 200 < q) := by omega
  rcases way with h | ⟨h, h'⟩
  all_goals
    clear hlen
    go_enter Try.func8, Try.ntmps8
    go_wp2_with fail
    refine (awake_any _).mono ?_
    rintro e w1 ⟨rfl, hb1⟩
    go_wp2_with fail
    go_ret
    exact ⟨rfl, hb1⟩

set_option maxHeartbeats 1600000 in
theorem walk {w : World} (A : Option Addr) (n c : Nat) (xs : List Val) (e0 : xs.length = n) (hx : Row w A xs) (K : Option Addr) (q f : Nat) (zs : List Int) (e2 : zs.length = q) (hz : Ints w K zs) :
    Calls Try.prog 8 #[.slice A n c, .slice K q f] w fun e w' => e = .returned (.bool true) ∧ Below w.heap.size w w' := by
  by_cases hlen : 200 < n ∨ 200 < q
  · exact long A n c K q f hlen w
  have hn : n ≤ 200 := by omega
  have hq : q ≤ 200 := by omega
  subst e0
  have E2 := Lib.hid e2
  clear hlen e2
  rcases told xs zs with HT | HT | HT
  all_goals
    go_enter Try.func8, Try.ntmps8
    go_wp2_with fail
    refine (awake_any _).mono ?_
    rintro e w1 ⟨rfl, b1⟩
    go_wp2_with fail
    refine (kinds_n A _ c xs _ (hx.below b1) rfl (by omega)).mono ?_
    rintro e w2 ⟨rfl, hk2, b2'⟩
    have b2 : Below w.heap.size w w2 := b1.trans (b2'.mono b1.size)
    have el : (xs.map Val.k).length = xs.length := List.length_map _
    have EL := Lib.hid el
    clear el
    go_wp2_with fail
    refine (checkRow_n A _ xs.length xs.length c _ xs (xs.map Val.k) _ (hx.below b2) hk2 rfl EL.out (by omega)).mono ?_
    rintro e w3 ⟨rfl, b3'⟩
    rw [HT.2.1]
    have b3 : Below w.heap.size w w3 := b2.trans (b3'.mono b2.size)
    have hk3 := hk2.below b3'
    clear hk2 b2' b3'
    go_wp2_with fail
    refine (checkRow_n A K xs.length q c f xs zs _ (hx.below b3) (hz.below b3) rfl E2.out (by omega)).mono ?_
    rintro e w4 ⟨rfl, b4'⟩
    rw [HT.2.2.1]
    have b4 : Below w.heap.size w w4 := b3.trans (b4'.mono b3.size)
    have hk4 := hk3.below b4'
    clear hk3 b4'
    go_wp2_with fail
    go_loopw [9, 10] (fun o i wr => ∃ k : Nat, k ≤ xs.length ∧ i = .int .i64 k ∧ o = .bool (badB (xs.take k)) ∧ Below w4.heap.size w4 wr) (fun _ i _ => xs.length - (intOf i).toNat)
    case atStart => exact ⟨0, Nat.zero_le _, rfl, rfl, Below.refl _ _⟩
    case round =>
      obtain ⟨k, hk, rfl, rfl, hb⟩ := hrel
      have hbw : Below w.heap.size w wr := b4.trans (hb.mono b4.size)
      by_cases hlt : k < xs.length
      · obtain ⟨b, off, v, rfl, hv, c0, c1, c2⟩ := (hx.below hbw).at_ hlt
        have hV := Lib.hid hv
        clear hv
        cases hbad : badB (xs.take k) with
        | true =>
          have HS := Lib.hid (bad_stays hV.out hbad)
          clear hbad
          go_wp2_with fail
          go_roundw
          case rel => exact ⟨k + 1, by omega, by go_num, by rw [HS.out], hb⟩
          case measure => simp [intOf]; omega
        | false =>
          have HS := Lib.hid (bad_more hV.out hbad)
          clear hbad
          go_wp2_with fail
          refine (check_any v.k v.n v.s _).mono ?_
          rintro e w5 ⟨rfl, b5⟩
          go_wp2_with fail
          go_roundw
          case rel => exact ⟨k + 1, by omega, by go_num, by rw [HS.out]; rfl, hb.trans (b5.mono hb.size)⟩
          case measure => simp [intOf]; omega
      · obtain rfl : k = xs.length := by omega
        rw [List.take_length, HT.1]
        have HT4 := HT.2.2.2
        have HTT := Lib.hid HT4
        clear HT HT4
        go_wp2_with fail
        first
        | (go_ret; exact ⟨rfl, hbw⟩)
        | (refine (refInts_n _ K xs.length q _ f (xs.map Val.k) zs _ (hk4.below hb) (hz.below hbw) EL.out E2.out (by omega)).mono ?_
           rintro e w6 ⟨rfl, b6⟩
           rw [HTT.out (by first | exact rfl | trivial)]
           go_wp2_with fail
           go_ret
           exact ⟨rfl, hbw.trans (b6.mono hbw.size)⟩)

set_option maxRecDepth 100000 in
theorem lifted (os : Os) (started : os.Started) (H : Type) (enc : TypeId × Value → H) :
    ReturnsInHanded {} Try.checked os 8 .any (Rows.valueOwnSpec.pre6 enc Try.prog Try.f8 Rows.valueOwnRow.domain false)
      (Rows.valueOwnSpec.post enc Try.prog Try.f8 false true false false) := by
  refine lift_law (C := Try.checked) (tb := 4) ownKnobs started (by kernel_rfl) Try.func8
    (ChangeSpec.witness6 (enc := enc) (C := Try.checked) false ⟨#[], #[.slice none 0 0, .slice none 0 0], []⟩ 8 (by kernel_rfl) (by kernel_rfl) (by kernel_rfl) (by kernel_rfl))
    laidOut ?_ rfl rfl Try.underlying4 ?_ ?_
  · intro t ht
    rw [Try.params8] at ht
    simp only [List.mem_cons, List.not_mem_nil, or_false] at ht
    rcases ht with rfl | rfl <;> exact ⟨by kernel_rfl, of_decide_eq_true (by kernel_rfl)⟩
  · intro vs ds W p hA
    rw [Try.params8] at hA
    obtain ⟨v0, vs0, d0, ds0, p0, q0, ha, rfl, rfl, h0, r0⟩ := trodAll_cons hA
    obtain ⟨v1, vs1, d1, ds1, p1, q1, rfl, rfl, rfl, h1, r1⟩ := trodAll_cons r0
    obtain ⟨rfl, rfl, rfl⟩ := trodAll_nil r1
    rfl
  · intro W base args ds p hval hA
    rw [Try.params8] at hA hval
    obtain ⟨v0, vs0, d0, ds0, p0, q0, ha, rfl, rfl, h0, r0⟩ := trodAll_cons hA
    obtain ⟨v1, vs1, d1, ds1, p1, q1, rfl, rfl, rfl, h1, r1⟩ := trodAll_cons r0
    obtain ⟨rfl, rfl, rfl⟩ := trodAll_nil r1
    obtain rfl : args = #[v0, v1] := by cases args; simp_all
    obtain ⟨A0, n0, c0, xs0, rfl, e0, hr0, _⟩ := open_row (hval 0 _ v0 rfl rfl) h0
    obtain ⟨A1, n1, c1, xs1, rfl, e1, hr1⟩ := open_nums (hval 1 _ v1 rfl rfl) h1
    exact walk A0 n0 c0 xs0 e0 hr0 A1 n1 c1 xs1 e1 hr1

/-- The statement. -/
theorem proved : Rows.ValueOwnSaid :=
  OpenClaim.holds_of_wide 8 Try.f8 rfl rfl rfl rfl rfl rfl rfl ⟨rfl, rfl, rfl, rfl, rfl⟩ rfl rfl rfl rfl rfl (by kernel_rfl) Try.func8 (by kernel_rfl)
    (of_decide_eq_true (by kernel_rfl)) (by unfold Func.isWrapper; first | (rw [if_pos (by decide +kernel)]; kernel_rfl) | (rw [if_neg (by decide +kernel)]; exact ⟨rfl, rfl⟩))
    (fun os started H enc _ => lifted os started H enc)
#print axioms proved
end Go.Proofs.Ytcjbkmbfkpjbiaa.valueOwn
