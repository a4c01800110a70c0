/-
  What cell's entryBytes and half come to.
-/
import Derived.Test.YtcdfjaldnelfjaaEMore
import Derived.Test.YtcdfjaldnelfjaaNSize
import Derived.Deep.Cut
namespace Go.Proofs.Ytcdfjaldnelfjaa
open Go.RowKit

theorem tsl_mem : ∀ (l : List (List UInt8)) (t : List UInt8), t ∈ l → t.length ≤ ND.tsl l
  | [], t, h => by simp at h
  | x :: l, t, h => by
    rw [ND.tsl_cons]
    rcases List.mem_cons.1 h with rfl | h
    · omega
    · have := tsl_mem l t h
      omega
theorem tsl_at {l : List (List UInt8)} {i : Nat} {t : List UInt8} (h : l[i]? = some t) : t.length ≤ ND.tsl l := tsl_mem l t (List.mem_of_getElem? h)

theorem ents_at {s : ND} {i : Nat} {t v : List UInt8} (hl : s.leaf = true) (h : s.keys[i]? = some t) (g : s.vals[i]? = some v) : s.ents.getD i 0 = 2 + t.length + v.length := by
  rw [ND.ents_leaf hl, List.getD_eq_getElem?_getD, List.getElem?_zipWith, h, g]
  rfl
theorem ents_in {s : ND} {i : Nat} {t : List UInt8} (hl : s.leaf = false) (h : s.keys[i]? = some t) : s.ents.getD i 0 = 5 + t.length := by
  rw [ND.ents_inner hl, List.getD_eq_getElem?_getD, List.getElem?_map, h]
  rfl
theorem sum_next (l : List Nat) {c : Nat} (h : c < l.length) : (l.take (c + 1)).sum = (l.take c).sum + l.getD c 0 := by
  rw [List.take_add_one, List.getElem?_eq_getElem h, List.sum_append, List.getD_eq_getElem?_getD, List.getElem?_eq_getElem h]
  simp
theorem sum_take_le (l : List Nat) (c : Nat) : (l.take c).sum ≤ l.sum := by
  conv => rhs; rw [← List.take_append_drop c l]
  rw [List.sum_append]
  omega
theorem getD_le_sum (l : List Nat) {c : Nat} (h : c < l.length) : l.getD c 0 ≤ l.sum := by
  have h1 := sum_next l h
  have h2 := sum_take_le l (c + 1)
  omega

set_option maxRecDepth 20000 in
set_option maxHeartbeats 1600000 in
theorem entry_any (lf : Bool) (A : Option Addr) (n c : Nat) (B : Option Addr) (m d : Nat) (C : Option Addr) (k e : Nat) (s : ND) (i : Nat) (w : World) (h : Nd w A n c B m d C k e s) (hl : s.leaf = lf) (hi : i < n) (hm : lf = true → m = n) (hz : s.size ≤ 1000000) :
    Calls Try.prog 56 #[.agg #[.bool lf, .slice A n c, .slice B m d, .slice C k e], .int .i64 i] w fun e w' => e = .returned (.int .i64 ((s.ents.getD i 0 : Nat) : Int)) ∧ Below w.heap.size w w' := by
  have HB := Lib.hid (nbox_new w (.bool lf) (.slice A n c) (.slice B m d) (.slice C k e))
  have b1 := below_one w (.cells #[.bool lf, .slice A n c, .slice B m d, .slice C k e] 25)
  have B1 := Lib.hid b1
  have H1 := Lib.hid (h.kept b1)
  have HL := Lib.hid hl
  have hs : ND.tsl s.keys ≤ 1000000 ∧ ND.tsl s.vals ≤ 1000000 := by unfold ND.size ND.tsz at hz; omega
  obtain ⟨hs1, hs2⟩ := hs
  clear b1 h hl hz
  go_enter Try.func56, Try.ntmps56
  go_upto_region 1 with fail
  generalize w.alloc (.cells #[.bool lf, .slice A n c, .slice B m d, .slice C k e] 25) = w1 at *
  obtain ⟨c0, c1, c2, c3⟩ := HB.out.cells
  obtain ⟨b, off, t, rfl, hv, f0⟩ := H1.out.ke.strAt hi
  have hq := tsl_at hv
  rw [toList_length] at hq
  have hq1 : t.size ≤ 1000000 := by omega
  have HV := Lib.hid hv
  clear hq hv
  cases lf with
  | false =>
    clear hm
    go_wp2_with fail
    go_ret
    exact ⟨ret_int (by rw [ents_in HL.out HV.out, toList_length]; omega), B1.out⟩
  | true =>
    obtain rfl : m = n := hm rfl
    obtain ⟨b', off', v, rfl, hv', g0⟩ := H1.out.va.strAt hi
    have hq := tsl_at hv'
    rw [toList_length] at hq
    have hq2 : v.size ≤ 1000000 := by omega
    have HV' := Lib.hid hv'
    clear hq hv' hm
    go_wp2_with fail
    go_ret
    exact ⟨ret_int (by rw [ents_at HL.out HV.out HV'.out, toList_length, toList_length]; omega), B1.out⟩

set_option maxRecDepth 20000 in
set_option maxHeartbeats 1600000 in
theorem half_any (lf : Bool) (A : Option Addr) (n c : Nat) (B : Option Addr) (m d : Nat) (C : Option Addr) (k e : Nat) (s : ND) (w : World) (h : Nd w A n c B m d C k e s) (hl : s.leaf = lf) (ho : s.ok = true) (hz : s.size ≤ 1000000) (hE : s.ents.sum ≤ 100000000) :
    Calls Try.prog 44 #[.agg #[.bool lf, .slice A n c, .slice B m d, .slice C k e]] w fun e w' => e = .returned (.int .i64 ((ND.hN s.ents : Nat) : Int)) ∧ Below w.heap.size w w' := by
  have HB := Lib.hid (nbox_new w (.bool lf) (.slice A n c) (.slice B m d) (.slice C k e))
  have b1 := below_one w (.cells #[.bool lf, .slice A n c, .slice B m d, .slice C k e] 25)
  have B1 := Lib.hid b1
  have H1 := Lib.hid (h.kept b1)
  have HL := Lib.hid hl
  have HN : Hid (s.ents.length = n) := Lib.hid (by rw [ND.ents_length ho, h.kn])
  have HM : Hid (lf = true → m = n) := Lib.hid (fun e => by rw [← h.vn, ← h.kn]; exact (ND.ok_leaf ho (by rw [hl, e])).1)
  have HZ := Lib.hid hz
  have hnn : n ≤ 1000000 := by have := h.kn; unfold ND.size ND.tsz at hz; omega
  have HSN := fun c (hc : c < n) => sum_next s.ents (c := c) (by rw [HN.out]; exact hc)
  have HST := sum_take_le s.ents
  have HSA : s.ents.take n = s.ents := List.take_of_length_le (by rw [HN.out]; exact Nat.le_refl _)
  have HO : Hid (∀ r, r ≤ n → (∀ c, c < r → 2 * (s.ents.take c).sum < s.ents.sum) → (r < n → ¬ 2 * (s.ents.take r).sum < s.ents.sum) → r = ND.hN s.ents) := Lib.hid (fun r h1 h2 h3 => ND.hN_of (by rw [HN.out]; exact h1) h2 (fun h4 => h3 (by rw [← HN.out]; exact h4)))
  have HSN := Lib.hid HSN
  have HST := Lib.hid HST
  have HSA := Lib.hid HSA
  obtain ⟨T, hT⟩ : ∃ T, s.ents.sum = T := ⟨_, rfl⟩
  rw [hT] at hE HO HST
  have HT := Lib.hid hT
  clear b1 h hl ho hz hT
  go_enter Try.func44, Try.ntmps44
  go_upto_region 1 with fail
  generalize w.alloc (.cells #[.bool lf, .slice A n c, .slice B m d, .slice C k e] 25) = w1 at *
  obtain ⟨c0, c1, c2, c3⟩ := HB.out.cells
  go_wp2_with fail
  clear c0 c1 c2 c3
  go_loopw [3, 10] (fun s3 i wr => ∃ j q : Nat, j ≤ n ∧ i = .int .i64 j ∧ s3 = .int .i64 q ∧ q ≤ T ∧ Hid (q = (s.ents.take j).sum) ∧ Hid (Below w1.heap.size w1 wr)) (fun _ i _ => n - (intOf i).toNat)
  case atStart => exact ⟨0, 0, Nat.zero_le _, rfl, rfl, Nat.zero_le _, Lib.hid (by simp), Lib.hid (Below.refl _ _)⟩
  case round =>
    obtain ⟨j, q, hj, rfl, rfl, hqT, HQ, BR⟩ := hrel
    obtain ⟨c0, c1, c2, c3⟩ := (HB.out.kept BR.out).cells
    by_cases hlt : j < n
    · have HX := Lib.hid (HSN.out j hlt)
      have hle := HST.out (j + 1)
      rw [HX.out, ← HQ.out] at hle
      rw [← HQ.out] at HX
      obtain ⟨x, hx⟩ : ∃ x, s.ents.getD j 0 = x := ⟨_, rfl⟩
      rw [hx] at hle HX
      have HXX := Lib.hid hx
      clear hx
      go_wp2_with fail
      refine (entry_any lf A n c B m d C k e s j wr (H1.out.kept BR.out) HL.out hlt HM.out HZ.out).mono ?_
      rintro e2 w2 ⟨rfl, b2⟩
      rw [HXX.out]
      have B2 := Lib.hid (chainN b2 BR.out)
      clear b2 c0 c1 c2 c3
      go_wp2_with fail
      go_roundw
      case rel => exact ⟨j + 1, q + x, by omega, by go_num, by go_num, hle, Lib.hid HX.out.symm, B2⟩
      case measure => simp [intOf]; omega
    · obtain rfl : n = j := by omega
      have hqe : q = T := by rw [HQ.out, HSA.out, HT.out]
      subst hqe
      clear HQ hqT
      obtain ⟨wv, hwv⟩ : ∃ wv : World, wv = wr := ⟨_, rfl⟩
      subst hwv
      go_wp2_with fail
      clear c0 c1 c2 c3
      go_loopw [5, 6] (fun s5 s6 wk => ∃ j b : Nat, j ≤ n ∧ s5 = .int .i64 j ∧ s6 = .int .i64 b ∧ b ≤ q ∧ Hid (b = (s.ents.take j).sum) ∧ Hid (∀ c, c < j → 2 * (s.ents.take c).sum < q) ∧ Hid (Below w1.heap.size w1 wk)) (fun s5 _ _ => n - (intOf s5).toNat)
      case atStart => exact ⟨0, 0, Nat.zero_le _, rfl, rfl, Nat.zero_le _, Lib.hid (by simp), Lib.hid (fun c hc => absurd hc (by omega)), BR⟩
      case round =>
        obtain ⟨j, b, hj, rfl, rfl, hbT, HQ, HA, BK⟩ := hrel
        obtain ⟨c0, c1, c2, c3⟩ := (HB.out.kept BK.out).cells
        by_cases hlt : 2 * b < q
        · have hjn : j < n := by
            apply Classical.byContradiction
            intro hn
            obtain rfl : n = j := by omega
            have h2 := HQ.out
            rw [HSA.out, HT.out] at h2
            omega
          have HX := Lib.hid (HSN.out j hjn)
          have hle := HST.out (j + 1)
          rw [HX.out, ← HQ.out] at hle
          rw [← HQ.out] at HX
          obtain ⟨x, hx⟩ : ∃ x, s.ents.getD j 0 = x := ⟨_, rfl⟩
          rw [hx] at hle HX
          have HXX := Lib.hid hx
          have HA2 : Hid (∀ c, c < j + 1 → 2 * (s.ents.take c).sum < q) := Lib.hid (fun c hc => by
            rcases Nat.lt_or_ge c j with h1 | h1
            · exact HA.out c h1
            · obtain rfl : c = j := by omega
              rw [← HQ.out]
              exact hlt)
          clear hx
          go_wp2_with fail
          refine (entry_any lf A n c B m d C k e s j wr (H1.out.kept BK.out) HL.out hjn HM.out HZ.out).mono ?_
          rintro e2 w2 ⟨rfl, b2⟩
          rw [HXX.out]
          have B2 := Lib.hid (chainN b2 BK.out)
          clear b2 c0 c1 c2 c3
          go_wp2_with fail
          go_roundw
          case rel => exact ⟨j + 1, b + x, by omega, by go_num, by go_num, hle, Lib.hid HX.out.symm, HA2, B2⟩
          case measure => simp [intOf]; omega
        · have HE := Lib.hid (HO.out j hj HA.out (fun _ => by rw [← HQ.out]; exact hlt))
          have hlt2 : q ≤ 2 * b := by omega
          clear hlt
          go_wp2_with fail
          go_ret
          exact ⟨ret_int (by rw [← HE.out]), chainN BK.out B1.out⟩
end Go.Proofs.Ytcdfjaldnelfjaa
