/-
  What CmpRow comes to, for every two rows (each at most 2147483647 long).
-/
import Derived.Test.YtcjcahgeaffjmaaRow
import Derived.Deep.RegionWith
namespace Go.Proofs.Ytcjcahgeaffjmaa
open Go.RowKit

theorem cmpR_drop : ∀ (k : Nat) (xs ys : List Val), xs.take k = ys.take k → k ≤ xs.length → k ≤ ys.length → cmpR xs ys = cmpR (xs.drop k) (ys.drop k)
  | 0, _, _, _, _, _ => rfl
  | k + 1, [], _, _, h, _ => by simp at h
  | k + 1, _ :: _, [], _, _, h => by simp at h
  | k + 1, x :: xs, y :: ys, h, hx, hy => by
    simp only [List.take_succ_cons, List.cons.injEq] at h
    obtain ⟨rfl, h⟩ := h
    simp only [cmpR, List.drop_succ_cons]
    rw [if_pos ((cmpV_line.same x x).2 rfl)]
    exact cmpR_drop k xs ys h (by simpa using hx) (by simpa using hy)

theorem cmpR_at {k : Nat} {xs ys : List Val} {u v : Val} (h : xs.take k = ys.take k) (hu : xs[k]? = some u) (hv : ys[k]? = some v) (hne : ¬ cmpV u v = 0) : cmpR xs ys = cmpV u v := by
  obtain ⟨hx, rfl⟩ := List.getElem?_eq_some_iff.1 hu
  obtain ⟨hy, rfl⟩ := List.getElem?_eq_some_iff.1 hv
  rw [cmpR_drop k xs ys h (by omega) (by omega), List.drop_eq_getElem_cons hx, List.drop_eq_getElem_cons hy]
  simp only [cmpR]
  rw [if_neg hne]

theorem cmpR_end {k : Nat} {xs ys : List Val} (h : xs.take k = ys.take k) (hx : k ≤ xs.length) (hy : k ≤ ys.length) (hk : k = xs.length ∨ k = ys.length) : cmpR xs ys = icmp xs.length ys.length := by
  rw [cmpR_drop k xs ys h hx hy]
  unfold icmp
  rcases Nat.lt_trichotomy xs.length ys.length with hl | hl | hl
  · obtain rfl : k = xs.length := by omega
    rw [if_pos (by omega), List.drop_length, List.drop_eq_getElem_cons (i := xs.length) (l := ys) hl]
    rfl
  · obtain rfl : k = xs.length := by omega
    rw [if_neg (by omega), if_neg (by omega), List.drop_length, hl, List.drop_length]
    rfl
  · obtain rfl : k = ys.length := by omega
    rw [if_neg (by omega), if_pos (by omega), List.drop_length, List.drop_eq_getElem_cons (i := ys.length) (l := xs) hl]
    rfl

theorem cmpV_take {k : Nat} {xs ys : List Val} {u v : Val} (h : xs.take k = ys.take k) (hu : xs[k]? = some u) (hv : ys[k]? = some v) (h0 : cmpV u v = 0) : xs.take (k + 1) = ys.take (k + 1) := by
  obtain rfl := (cmpV_line.same u v).1 h0
  exact take_more h hu hv

set_option maxHeartbeats 1600000 in
theorem cmpRow_any (A B : Option Addr) (c d : Nat) (xs ys : List Val) (w : World) (hx : Row w A xs) (hy : Row w B ys) (hn : xs.length ≤ 2147483647) (hm : ys.length ≤ 2147483647) :
    Calls Try.prog 23 #[.slice A xs.length c, .slice B ys.length d] w
      fun e w' => e = .returned (.int .i64 (cmpR xs ys)) ∧ Below w.heap.size w w' := by
  rcases Nat.lt_or_ge ys.length xs.length with hmin | hmin
  all_goals
    go_enter Try.func23, Try.ntmps23
    go_wp2_with fail
    go_step3
    go_wp2_with fail
    refine (compareInt _ _ _).mono ?_
    rintro e w' ⟨rfl, rfl⟩
    go_wp2_with fail
    go_step3
    go_wp2_with fail
    go_loopw [5, 18] (fun o i wr => ∃ k : Nat, k ≤ xs.length ∧ k ≤ ys.length ∧ i = .int .i64 k ∧ o = .int .i64 (icmp xs.length ys.length) ∧ Hid (xs.take k = ys.take k) ∧ Below w.heap.size w wr) (fun _ i _ => xs.length - (intOf i).toNat)
    case atStart => exact ⟨0, Nat.zero_le _, Nat.zero_le _, rfl, rfl, Lib.hid (by simp), Below.refl _ _⟩
    case round =>
      obtain ⟨k, hkx, hky, rfl, rfl, hpre, hb⟩ := hrel
      by_cases hlt : k < xs.length ∧ k < ys.length
      · obtain ⟨h1, h2⟩ := hlt
        obtain ⟨b, off, u, rfl, hu, c0, c1, c2⟩ := (hx.below hb).at_ h1
        obtain ⟨b', off', v, rfl, hv, d0, d1, d2⟩ := (hy.below hb).at_ h2
        have hU := Lib.hid hu
        have hV := Lib.hid hv
        clear hu hv
        go_wp2_with fail
        go_region_with (go_at_call 37; refine (cmp_any u.k u.n v.k v.n u.s v.s _).mono ?_; rintro e w1 ⟨rfl, hb1⟩)
        all_goals
          have hb' : Below w.heap.size w w1 := hb.trans ((Below.refl _ _).drew.trans (hb1.mono hb.size))
          rcases cmpV_line.range u v with h | h | h
          · have H := Lib.hid h
            have h0 : vcmp u.k u.n u.s.toList v.k v.n v.s.toList = -1 := h
            clear h
            go_wp2_with fail
            rw [Exit.noGoto_ret]
            go_ret
            exact ⟨ret_int ((cmpR_at hpre.out hU.out hV.out (by rw [H.out]; omega)).trans H.out).symm, hb'⟩
          · have H := Lib.hid h
            have h0 : vcmp u.k u.n u.s.toList v.k v.n v.s.toList = 0 := h
            clear h
            go_wp2_with fail
            go_roundw
            case rel => exact ⟨k + 1, by omega, by omega, by go_num, rfl, Lib.hid (cmpV_take hpre.out hU.out hV.out H.out), hb'⟩
            case measure => simp [intOf]; omega
          · have H := Lib.hid h
            have h0 : vcmp u.k u.n u.s.toList v.k v.n v.s.toList = 1 := h
            clear h
            go_wp2_with fail
            rw [Exit.noGoto_ret]
            go_ret
            exact ⟨ret_int ((cmpR_at hpre.out hU.out hV.out (by rw [H.out]; omega)).trans H.out).symm, hb'⟩
      · have hend : k = xs.length ∨ k = ys.length := by omega
        have HE := Lib.hid hend
        clear hend
        have hge : ¬ (k < xs.length ∧ k < ys.length) := hlt
        first | (have hge' : ys.length ≤ k := by omega) | (have hge' : xs.length ≤ k := by omega)
        clear hge hlt
        go_wp2_with fail
        first | rw [Exit.noGoto_ret] | skip
        go_ret
        exact ⟨ret_int (cmpR_end hpre.out hkx hky HE.out).symm, hb⟩
/-! ### The same with the lengths as letters of their own -/

theorem cmpRow_n (A B : Option Addr) (n m c d : Nat) (xs ys : List Val) (w : World) (hx : Row w A xs) (hy : Row w B ys) (e1 : xs.length = n) (e2 : ys.length = m) (hn : n ≤ 2147483647) (hm : m ≤ 2147483647) :
    Calls Try.prog 23 #[.slice A n c, .slice B m d] w
      fun e w' => e = .returned (.int .i64 (cmpR xs ys)) ∧ Below w.heap.size w w' := by
  subst e1
  subst e2
  exact cmpRow_any A B c d xs ys w hx hy hn hm

theorem Row.alloc {w : World} {A : Option Addr} {xs : List Val} (h : Row w A xs) (o : Obj) : Row (w.alloc o) A xs := h.below (below_one _ _)
/-- A row of one value, just laid. -/
theorem row_one (w : World) (t : TypeId) (v : Val) : Row (w.alloc (.cells #[.int .i64 v.k, .int .i64 v.n, .string v.s] t)) (some ⟨w.heap.size, 0, none⟩) [v] := by
  refine Or.inr ⟨w.heap.size, 0, rfl, fun i u hu => ?_⟩
  match i, hu with
  | 0, hu =>
    obtain rfl : v = u := by simpa using hu
    simp
/-- A row of two values, just laid. -/
theorem row_two (w : World) (t : TypeId) (v u : Val) : Row (w.alloc (.cells #[.int .i64 v.k, .int .i64 v.n, .string v.s, .int .i64 u.k, .int .i64 u.n, .string u.s] t)) (some ⟨w.heap.size, 0, none⟩) [v, u] := by
  refine Or.inr ⟨w.heap.size, 0, rfl, fun i x hu => ?_⟩
  match i, hu with
  | 0, hu =>
    obtain rfl : v = x := by simpa using hu
    simp
  | 1, hu =>
    obtain rfl : u = x := by simpa using hu
    simp
end Go.Proofs.Ytcjcahgeaffjmaa
