/-
  What the document's own answers for layer 1 come to at rows: Ints, Kinds, CheckRow, CmpRow, Same (rows at most 2147483647 long).
-/
import Derived.Test.YtcjbkmbfkpjbiaaCmpRow
import Derived.OwnWalk
import Derived.Laws.AppendOwn
namespace Go.Proofs.Ytcjbkmbfkpjbiaa
open Go.RowKit

set_option maxHeartbeats 400000 in
theorem refInts_any (A B : Option Addr) (c d : Nat) (xs ys : List Int) (w : World) (hx : Ints w A xs) (hy : Ints w B ys) (hn : xs.length ≤ 2147483647) :
    Calls Try.prog 14 #[.slice A xs.length c, .slice B ys.length d] w
      fun e w' => e = .returned (.bool (decide (xs = ys))) ∧ Below w.heap.size w w' := by
  by_cases hl : xs.length = ys.length
  · have hl' : ((xs.length : Int) != (ys.length : Int)) = false := by simp [hl]
    have HL := Lib.hid hl
    have hlx : xs.length ≤ ys.length := by omega
    have hly : ys.length ≤ xs.length := by omega
    clear hl
    go_enter Try.func14, Try.ntmps14
    go_wp2_with fail
    go_loopw [5] (fun i wr => ∃ k : Nat, k ≤ xs.length ∧ i = .int .i64 k ∧ Hid (xs.take k = ys.take k) ∧ Below w.heap.size w wr) (fun i _ => xs.length - (intOf i).toNat)
    case atStart => exact ⟨0, Nat.zero_le _, rfl, Lib.hid (by simp), Below.refl _ _⟩
    case round =>
      obtain ⟨k, hk, rfl, hpre, hb⟩ := hrel
      by_cases hlt : k < xs.length
      · obtain ⟨b, off, z, rfl, hv, c0⟩ := (hx.below hb).at_ hlt
        obtain ⟨b', off', z', rfl, hv', c0'⟩ := (hy.below hb).at_ (k := k) (by omega)
        have hV := Lib.hid hv
        have hV' := Lib.hid hv'
        clear hv hv'
        have i0 : (0 : Int) ≤ (k : Int) := by omega
        by_cases hz : z = z'
        · subst hz
          go_wp2_with fail
          go_quiet (fail)
          go_wp2_with fail
          go_roundw
          case rel => exact ⟨k + 1, by omega, by go_num, Lib.hid (take_more hpre.out hV.out hV'.out), belowN hb _⟩
          case measure => simp [intOf]; omega
        · have hz' : (z != z') = true := by simpa using hz
          clear hz
          go_wp2_with fail
          go_quiet (fail)
          go_wp2_with fail
          go_ret
          refine ⟨ret_bool (decide_eq_false (fun e => ?_)).symm, belowN hb _⟩
          have h1 := hV.out
          rw [e, hV'.out] at h1
          simp at h1
          exact absurd h1.symm (by simpa using hz')
      · obtain rfl : k = xs.length := by omega
        go_wp2_with fail
        go_ret
        refine ⟨ret_bool (decide_eq_true ?_).symm, hb⟩
        have := hpre.out
        rw [List.take_length, HL.out, List.take_length] at this
        exact this
  · have hl' : ((xs.length : Int) != (ys.length : Int)) = true := by simp; omega
    have hfin : decide (xs = ys) = false := decide_eq_false (fun e => hl (by rw [e]))
    rw [hfin]
    clear hfin
    go_enter Try.func14, Try.ntmps14
    go_wp2_with fail
    go_ret
    exact ⟨rfl, Below.refl _ _⟩

/-! ### Kinds, by append -/

/-- The cells of a list of ints. -/
def intVals (zs : List Int) : List Value := zs.map (Value.int .i64)

theorem ints_of_own {w : World} {base e : Nat} {v : Value} {zs : List Int} (h : w.ownsRow base e 1 v zs.length (intVals zs)) :
    ∃ A c, v = .slice A zs.length c ∧ Ints w A zs := by
  rcases h.2 with ⟨rfl, h0⟩ | ⟨g, cap, cur, rfl, _⟩
  · have : zs = [] := by simpa [intVals] using h0
    subst this
    exact ⟨none, 0, rfl, Or.inl rfl⟩
  · refine ⟨_, _, rfl, Or.inr ⟨g, 0, rfl, fun i z hz => ?_⟩⟩
    have := h.cells (g := g) rfl i (.int .i64 z) (by simp [intVals, hz])
    rw [Addr.add] at this
    split at this
    · rename_i hi
      have hi0 : i = 0 := by simpa using hi
      subst hi0
      exact this
    · exact this

theorem kinds_more {xs : List Val} {k : Nat} {v : Val} (hv : xs[k]? = some v) : intVals ((xs.take k).map Val.k) ++ [.int .i64 v.k] = intVals ((xs.take (k + 1)).map Val.k) := by
  rw [List.take_add_one, hv]
  simp [intVals]

set_option maxHeartbeats 800000 in
theorem refKinds_any (A : Option Addr) (c : Nat) (xs : List Val) (w : World) (hr : Row w A xs) (hn : xs.length ≤ 2147483647) :
    Calls Try.prog 16 #[.slice A xs.length c] w
      fun e w' => ∃ v, e = .returned v ∧ Hid (∃ A' c', v = .slice A' xs.length c' ∧ Ints w' A' (xs.map Val.k)) ∧ Below w.heap.size w w' := by
  obtain ⟨i0, hi, hz0, hz1, hz2⟩ := info_parts intInfo
  go_enter Try.func16, Try.ntmps16
  go_wp2_with fail
  go_loopw [3, 4] (fun v i wr => ∃ k : Nat, k ≤ xs.length ∧ i = .int .i64 k ∧ wr.ownsRow w.heap.size 3 1 v k (intVals ((xs.take k).map Val.k)) ∧ Below w.heap.size w wr) (fun _ i _ => xs.length - (intOf i).toNat)
  case atStart => exact ⟨0, Nat.zero_le _, rfl, World.ownsRow_nil _ _ _ _, Below.refl _ _⟩
  case round =>
    obtain ⟨k, hk, rfl, hown, hb⟩ := hrel
    by_cases hlt : k < xs.length
    · obtain ⟨b, off, v, rfl, hv, c0, c1, c2⟩ := (hr.below hb).at_ hlt
      have hV := Lib.hid hv
      clear hv
      go_wp2_with (at_builtin; refine wpList_append_own _ rfl _ _ 30 rfl w.heap.size 3 i0 (.int .i64 0) 1 8 Try.underlying30 hi hz0 hz1 hz2 rfl (by decide) _ _ _ rfl (hown.alloc _) ⟨wr.heap.size, 0, none⟩ 1 1 [.int .i64 v.k] rfl rfl (cell_one_new _ _ _) (by simp [Value.oneCell']) (by unfold maxLen; omega) (by omega) (by simp; have := hb.size; omega) ?_; intro v' w1 hown1 hgrow _)
      have hb1 : Below w.heap.size w w1 := (hb.alloc hb.size _).grown hgrow (by have := hb.size; simp; omega) (fun g hg => (hown.lt g hg).1)
      rw [kinds_more hV.out] at hown1
      go_roundw
      case rel => exact ⟨k + 1, by omega, by go_num, hown1, hb1⟩
      case measure => simp [intOf]; omega
    · obtain rfl : k = xs.length := by omega
      go_wp2_with fail
      go_ret
      refine ⟨_, rfl, ?_, hb⟩
      rw [List.take_length] at hown
      have hl : (xs.map Val.k).length = xs.length := List.length_map _
      have h1 := hown
      rw [← hl] at h1
      obtain ⟨A', c', e1, e2⟩ := ints_of_own h1
      rw [hl] at e1
      exact ⟨A', c', e1, e2⟩

set_option maxHeartbeats 800000 in
theorem refCheckRow_any (A B : Option Addr) (c d : Nat) (xs : List Val) (zs : List Int) (w : World) (hr : Row w A xs) (hz : Ints w B zs) (hn : xs.length ≤ 2147483647) :
    Calls Try.prog 18 #[.slice A xs.length c, .slice B zs.length d] w
      fun e w' => e = .returned (.int .i64 (chkR xs zs)) ∧ Below w.heap.size w w' := by
  go_enter Try.func18, Try.ntmps18
  go_wp2_with fail
  go_loopw [5] (fun i wr => ∃ k : Nat, k ≤ xs.length ∧ i = .int .i64 k ∧ Hid ((xs.take k).all (fun v => chkV v == 0) = true) ∧ Below w.heap.size w wr) (fun i _ => xs.length - (intOf i).toNat)
  case atStart => exact ⟨0, Nat.zero_le _, rfl, Lib.hid (by simp), Below.refl _ _⟩
  case round =>
    obtain ⟨k, hk, rfl, hall, hb⟩ := hrel
    by_cases hlt : k < xs.length
    · obtain ⟨b, off, v, rfl, hv, c0, c1, c2⟩ := (hr.below hb).at_ hlt
      have hV := Lib.hid hv
      clear hv
      go_wp2_with fail
      refine (refCheck_any v.k v.n v.s _).mono ?_
      rintro e w1 ⟨rfl, hb1⟩
      have hb' : Below w.heap.size w w1 := hb.trans (hb1.mono hb.size)
      by_cases h0 : chkV v = 0
      · have H0 := Lib.hid h0
        have h1 : (chk v.k v.n v.s.toList != 0) = false := by unfold chkV at h0; simp [h0]
        clear h0
        go_wp2_with fail
        go_roundw
        case rel => exact ⟨k + 1, by omega, by go_num, Lib.hid (all_more hall.out hV.out H0.out), hb'⟩
        case measure => simp [intOf]; omega
      · have H0 := Lib.hid h0
        have h1 : (chk v.k v.n v.s.toList != 0) = true := by unfold chkV at h0; simp [h0]
        have h10 : chkV v = 10 := by
          rcases chk_two v.k v.n v.s.toList with e | e
          · exact absurd e h0
          · exact e
        have H10 := Lib.hid h10
        clear h0 h10
        go_wp2_with fail
        go_ret
        exact ⟨ret_int ((chkR_bad hV.out H0.out zs).trans H10.out).symm, hb'⟩
    · obtain rfl : k = xs.length := by omega
      have hall' : xs.all (fun v => chkV v == 0) = true := by have := hall.out; rwa [List.take_length] at this
      have HALL := Lib.hid hall'
      clear hall' hall
      by_cases hl : xs.length = zs.length
      · have hl' : ((xs.length : Int) != (zs.length : Int)) = false := by simp [hl]
        have HL := Lib.hid hl
        have hlx : xs.length ≤ zs.length := by omega
        have hly : zs.length ≤ xs.length := by omega
        clear hl
        obtain ⟨wo, rfl⟩ : ∃ wo : World, wo = wr := ⟨_, rfl⟩
        go_wp2_with fail
        go_loopw [6] (fun i wr => ∃ k : Nat, k ≤ xs.length ∧ i = .int .i64 k ∧ Hid ((xs.map Val.k).take k = zs.take k) ∧ Below w.heap.size w wr) (fun i _ => xs.length - (intOf i).toNat)
        case atStart => exact ⟨0, Nat.zero_le _, rfl, Lib.hid (by simp), hb⟩
        case round =>
          obtain ⟨k, hk, rfl, hpre, hb2⟩ := hrel
          by_cases hlt : k < xs.length
          · obtain ⟨b, off, v, rfl, hv, c0, c1, c2⟩ := (hr.below hb2).at_ hlt
            obtain ⟨b', off', z', rfl, hv', c0'⟩ := (hz.below hb2).at_ (k := k) (by omega)
            have hvk : (xs.map Val.k)[k]? = some v.k := by rw [List.getElem?_map, hv]; rfl
            have hV := Lib.hid hvk
            have hV' := Lib.hid hv'
            clear hv hv' hvk
            have i0 : (0 : Int) ≤ (k : Int) := by omega
            by_cases hq : v.k = z'
            · subst hq
              go_wp2_with fail
              go_quiet (fail)
              go_wp2_with fail
              go_roundw
              case rel => exact ⟨k + 1, by omega, by go_num, Lib.hid (take_more hpre.out hV.out hV'.out), belowN hb2 _⟩
              case measure => simp [intOf]; omega
            · have hq' : (v.k != z') = true := by simpa using hq
              have HQ := Lib.hid hq
              clear hq
              go_wp2_with fail
              go_quiet (fail)
              go_wp2_with fail
              go_ret
              refine ⟨ret_int ?_, belowN hb2 _⟩
              rw [chkR, HALL.out, if_pos rfl, if_neg]
              intro e
              have h1 := hV.out
              rw [e, hV'.out] at h1
              exact HQ.out (Option.some.inj h1).symm
          · obtain rfl : k = xs.length := by omega
            go_wp2_with fail
            go_ret
            refine ⟨ret_int ?_, hb2⟩
            rw [chkR, HALL.out, if_pos rfl, if_pos]
            have := hpre.out
            rwa [HL.out, List.take_length, ← HL.out, ← List.length_map (f := Val.k), List.take_length] at this
      · have hl' : ((xs.length : Int) != (zs.length : Int)) = true := by simp; omega
        have HL := Lib.hid hl
        clear hl
        go_wp2_with fail
        go_ret
        refine ⟨ret_int ?_, hb⟩
        rw [chkR, HALL.out, if_pos rfl, if_neg]
        intro e
        exact HL.out (by rw [← e, List.length_map])

set_option maxHeartbeats 1600000 in
theorem refCmpRow_any (A B : Option Addr) (c d : Nat) (xs ys : List Val) (w : World) (hx : Row w A xs) (hy : Row w B ys) (hn : xs.length ≤ 2147483647) (_hm : ys.length ≤ 2147483647) :
    Calls Try.prog 20 #[.slice A xs.length c, .slice B ys.length d] w
      fun e w' => e = .returned (.int .i64 (cmpR xs ys)) ∧ Below w.heap.size w w' := by
  go_enter Try.func20, Try.ntmps20
  go_wp2_with fail
  go_loopw [5] (fun i wr => ∃ k : Nat, k ≤ xs.length ∧ k ≤ ys.length ∧ i = .int .i64 k ∧ Hid (xs.take k = ys.take k) ∧ Below w.heap.size w wr) (fun i _ => xs.length - (intOf i).toNat)
  case atStart => exact ⟨0, Nat.zero_le _, Nat.zero_le _, rfl, Lib.hid (by simp), Below.refl _ _⟩
  case round =>
    obtain ⟨k, hkx, hky, rfl, hpre, hb⟩ := hrel
    by_cases hlt : k < xs.length ∧ k < ys.length
    · obtain ⟨h1, h2⟩ := hlt
      obtain ⟨b, off, u, rfl, hu, c0, c1, c2⟩ := (hx.below hb).at_ h1
      obtain ⟨b', off', v, rfl, hv, d0, d1, d2⟩ := (hy.below hb).at_ h2
      have hU := Lib.hid hu
      have hV := Lib.hid hv
      clear hu hv
      go_wp2_with fail
      go_region_with (go_at_call 13; refine (refCmp_any u.k u.n v.k v.n u.s v.s _).mono ?_; rintro e w1 ⟨rfl, hb1⟩)
      all_goals
        have hb' : Below w.heap.size w w1 := hb.trans ((Below.refl _ _).drew.trans (hb1.mono hb.size))
        by_cases h : cmpV u v = 0
        · have H := Lib.hid h
          have h0 : (vcmp u.k u.n u.s.toList v.k v.n v.s.toList != 0) = false := by unfold cmpV at h; simp [h]
          clear h
          go_wp2_with fail
          go_roundw
          case rel => exact ⟨k + 1, by omega, by omega, by go_num, Lib.hid (cmpV_take hpre.out hU.out hV.out H.out), hb'⟩
          case measure => simp [intOf]; omega
        · have H := Lib.hid h
          have h0 : (vcmp u.k u.n u.s.toList v.k v.n v.s.toList != 0) = true := by unfold cmpV at h; simp [h]
          clear h
          go_wp2_with fail
          go_ret
          exact ⟨ret_int (cmpR_at hpre.out hU.out hV.out H.out).symm, hb'⟩
    · have hend : k = xs.length ∨ k = ys.length := by omega
      have hfin := cmpR_end hpre.out hkx hky hend
      unfold icmp at hfin
      rcases Nat.lt_trichotomy xs.length ys.length with hc | hc | hc
      · rw [if_pos (by omega)] at hfin
        have HF := Lib.hid hfin
        have hge : xs.length ≤ k := by omega
        clear hfin hend hlt
        go_wp2_with fail
        go_ret
        exact ⟨ret_int HF.out.symm, hb⟩
      · rw [if_neg (by omega), if_neg (by omega)] at hfin
        have HF := Lib.hid hfin
        have hge : xs.length ≤ k := by omega
        have hl1 : xs.length ≤ ys.length := by omega
        have hl2 : ys.length ≤ xs.length := by omega
        clear hfin hend hlt hc
        go_wp2_with fail
        go_ret
        exact ⟨ret_int HF.out.symm, hb⟩
      · rw [if_neg (by omega), if_pos (by omega)] at hfin
        have HF := Lib.hid hfin
        have hge : ys.length ≤ k := by omega
        have hlt' : k < xs.length := by omega
        clear hfin hend hlt
        go_wp2_with fail
        go_ret
        exact ⟨ret_int HF.out.symm, hb⟩

set_option maxHeartbeats 400000 in
theorem same_any (A B : Option Addr) (c d : Nat) (xs ys : List Val) (w : World) (hx : Row w A xs) (hy : Row w B ys) (hn : xs.length ≤ 2147483647) (hm : ys.length ≤ 2147483647) :
    Calls Try.prog 21 #[.slice A xs.length c, .slice B ys.length d] w
      fun e w' => e = .returned (.bool (cmpR xs ys == 0)) ∧ Below w.heap.size w w' := by
  go_enter Try.func21, Try.ntmps21
  go_wp2_with fail
  refine (refCmpRow_any A B c d xs ys _ hx hy hn hm).mono ?_
  rintro e w1 ⟨rfl, hb1⟩
  go_wp2_with fail
  go_ret
  exact ⟨rfl, hb1⟩

/-! ### The same with the lengths as letters of their own -/

theorem refInts_n (A B : Option Addr) (n m c d : Nat) (xs ys : List Int) (w : World) (hx : Ints w A xs) (hy : Ints w B ys) (e1 : xs.length = n) (e2 : ys.length = m) (hn : n ≤ 2147483647) :
    Calls Try.prog 14 #[.slice A n c, .slice B m d] w
      fun e w' => e = .returned (.bool (decide (xs = ys))) ∧ Below w.heap.size w w' := by
  subst e1
  subst e2
  exact refInts_any A B c d xs ys w hx hy hn
theorem refKinds_n (A : Option Addr) (n c : Nat) (xs : List Val) (w : World) (hr : Row w A xs) (e1 : xs.length = n) (hn : n ≤ 2147483647) :
    Calls Try.prog 16 #[.slice A n c] w
      fun e w' => ∃ v, e = .returned v ∧ Hid (∃ A' c', v = .slice A' n c' ∧ Ints w' A' (xs.map Val.k)) ∧ Below w.heap.size w w' := by
  subst e1
  exact refKinds_any A c xs w hr hn
theorem refCheckRow_n (A B : Option Addr) (n m c d : Nat) (xs : List Val) (zs : List Int) (w : World) (hr : Row w A xs) (hz : Ints w B zs) (e1 : xs.length = n) (e2 : zs.length = m) (hn : n ≤ 2147483647) :
    Calls Try.prog 18 #[.slice A n c, .slice B m d] w
      fun e w' => e = .returned (.int .i64 (chkR xs zs)) ∧ Below w.heap.size w w' := by
  subst e1
  subst e2
  exact refCheckRow_any A B c d xs zs w hr hz hn
theorem refCmpRow_n (A B : Option Addr) (n m c d : Nat) (xs ys : List Val) (w : World) (hx : Row w A xs) (hy : Row w B ys) (e1 : xs.length = n) (e2 : ys.length = m) (hn : n ≤ 2147483647) (hm : m ≤ 2147483647) :
    Calls Try.prog 20 #[.slice A n c, .slice B m d] w
      fun e w' => e = .returned (.int .i64 (cmpR xs ys)) ∧ Below w.heap.size w w' := by
  subst e1
  subst e2
  exact refCmpRow_any A B c d xs ys w hx hy hn hm
theorem same_n (A B : Option Addr) (n m c d : Nat) (xs ys : List Val) (w : World) (hx : Row w A xs) (hy : Row w B ys) (e1 : xs.length = n) (e2 : ys.length = m) (hn : n ≤ 2147483647) (hm : m ≤ 2147483647) :
    Calls Try.prog 21 #[.slice A n c, .slice B m d] w
      fun e w' => e = .returned (.bool (cmpR xs ys == 0)) ∧ Below w.heap.size w w' := by
  subst e1
  subst e2
  exact same_any A B c d xs ys w hx hy hn hm

end Go.Proofs.Ytcjbkmbfkpjbiaa
