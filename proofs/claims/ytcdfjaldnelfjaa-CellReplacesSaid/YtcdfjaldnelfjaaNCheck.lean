/-
  What node's leafStands, innerStands and Check come to.
-/
import Derived.Test.YtcdfjaldnelfjaaNKeys
import Derived.Test.YtcdfjaldnelfjaaNFunc
import Derived.Deep.Cut
namespace Go.Proofs.Ytcdfjaldnelfjaa
open Go.RowKit

theorem int_ne {a b : Nat} (h : ¬ a = b) : ((a : Int) == (b : Int)) = false := by rw [beq_eq_false_iff_ne]; omega
theorem int_nz {a : Nat} (h : ¬ a = 0) : ((a : Int) == 0) = false := by rw [beq_eq_false_iff_ne]; omega
theorem int_ns {a b : Nat} (h : ¬ a = b + 1) : ((a : Int) == (b : Int) + 1) = false := by rw [beq_eq_false_iff_ne]; omega

set_option maxRecDepth 20000 in
set_option maxHeartbeats 1600000 in
theorem leafStands_any (lf : Bool) (A : Option Addr) (n c : Nat) (B : Option Addr) (m d : Nat) (C : Option Addr) (k e : Nat) (s : ND) (w : World) (h : Nd w A n c B m d C k e s) (hm : m ≤ 1000000000) :
    Calls Try.prog 52 #[.agg #[.bool lf, .slice A n c, .slice B m d, .slice C k e]] w fun e w' => e = .returned (.bool s.leafB) ∧ Below w.heap.size w w' := by
  have HB := Lib.hid (nbox_new w (.bool lf) (.slice A n c) (.slice B m d) (.slice C k e))
  have b1 := below_one w (.cells #[.bool lf, .slice A n c, .slice B m d, .slice C k e] 25)
  have B1 := Lib.hid b1
  have H1 := Lib.hid (h.kept b1)
  have HS : Hid (s.leafB = (decide (m = n) && (s.vals.all ND.valB && decide (k = 0)))) := Lib.hid (by unfold ND.leafB; rw [h.kn, h.vn, h.cn])
  clear b1 h
  go_enter Try.func52, Try.ntmps52
  go_upto_region 1 with fail
  generalize w.alloc (.cells #[.bool lf, .slice A n c, .slice B m d, .slice C k e] 25) = w1 at *
  obtain ⟨c0, c1, c2, c3⟩ := HB.out.cells
  by_cases h1 : m = n
  · subst h1
    go_wp2_with fail
    refine (containsS_any B m d s.vals w1 H1.out.va hm).mono ?_
    rintro e2 w2 ⟨rfl, rfl⟩
    cases h2 : s.vals.all ND.valB with
    | false =>
      rw [h2] at HS
      clear h2
      go_wp2_with fail
      go_ret
      exact ⟨ret_bool (by rw [HS.out, Bool.false_and, Bool.and_false]), B1.out⟩
    | true =>
      rw [h2] at HS
      clear h2
      by_cases h3 : k = 0
      · subst h3
        go_wp2_with fail
        go_ret
        exact ⟨ret_bool (by rw [HS.out]; simp), B1.out⟩
      · have hb := int_nz h3
        have HK := Lib.hid h3
        clear h3
        go_wp2_with fail
        go_ret
        exact ⟨ret_bool (by rw [HS.out, decide_eq_false HK.out]; simp), B1.out⟩
  · have hb := int_ne h1
    have HK := Lib.hid h1
    clear h1
    go_wp2_with fail
    go_ret
    exact ⟨ret_bool (by rw [HS.out, decide_eq_false HK.out, Bool.false_and]), B1.out⟩

set_option maxRecDepth 20000 in
set_option maxHeartbeats 3200000 in
theorem innerStands_any (lf : Bool) (A : Option Addr) (n c : Nat) (B : Option Addr) (m d : Nat) (C : Option Addr) (k e : Nat) (s : ND) (w : World) (h : Nd w A n c B m d C k e s) (hn : n ≤ 1000000000) (hk : k ≤ 1000000000) :
    Calls Try.prog 51 #[.agg #[.bool lf, .slice A n c, .slice B m d, .slice C k e]] w fun e w' => e = .returned (.bool s.innerB) ∧ Below w.heap.size w w' := by
  have HB := Lib.hid (nbox_new w (.bool lf) (.slice A n c) (.slice B m d) (.slice C k e))
  have b1 := below_one w (.cells #[.bool lf, .slice A n c, .slice B m d, .slice C k e] 25)
  have B1 := Lib.hid b1
  have H1 := Lib.hid (h.kept b1)
  have HS : Hid (s.innerB = (decide (0 < n) && (decide (k = n + 1) && (s.kids.all ND.kidB && decide (m = 0))))) := Lib.hid (by unfold ND.innerB; rw [h.kn, h.vn, h.cn])
  clear b1 h
  go_enter Try.func51, Try.ntmps51
  go_upto_region 1 with fail
  generalize w.alloc (.cells #[.bool lf, .slice A n c, .slice B m d, .slice C k e] 25) = w1 at *
  obtain ⟨c0, c1, c2, c3⟩ := HB.out.cells
  rcases n with _ | n
  · go_wp2_with fail
    go_ret
    exact ⟨ret_bool (by rw [HS.out]; rfl), B1.out⟩
  · by_cases h1 : k = n + 1 + 1
    · subst h1
      go_wp2_with fail
      refine (containsI_any C (n + 1 + 1) e s.kids w1 H1.out.ki hk).mono ?_
      rintro e2 w2 ⟨rfl, rfl⟩
      cases h2 : s.kids.all ND.kidB with
      | false =>
        rw [h2] at HS
        clear h2
        go_wp2_with fail
        go_ret
        exact ⟨ret_bool (by rw [HS.out, Bool.false_and, Bool.and_false, Bool.and_false]), B1.out⟩
      | true =>
        rw [h2] at HS
        clear h2
        by_cases h3 : m = 0
        · subst h3
          go_wp2_with fail
          go_ret
          exact ⟨ret_bool (by rw [HS.out]; simp), B1.out⟩
        · have hb := int_nz h3
          have HK := Lib.hid h3
          clear h3
          go_wp2_with fail
          go_ret
          exact ⟨ret_bool (by rw [HS.out, decide_eq_false HK.out]; simp), B1.out⟩
    · have hb : ((k : Int) == (n : Int) + 1 + 1) = false := by rw [beq_eq_false_iff_ne]; omega
      have HK := Lib.hid h1
      clear h1
      go_wp2_with fail
      go_ret
      exact ⟨ret_bool (by rw [HS.out, decide_eq_false HK.out, Bool.false_and, Bool.and_false]), B1.out⟩

theorem checkE_leaf {s : ND} (h : s.leaf = true) : s.checkE = if ND.rise [] s.keys && s.leafB then 0 else 100 := by
  unfold ND.checkE ND.ok
  rw [h]
  rfl
theorem checkE_inner {s : ND} (h : s.leaf = false) : s.checkE = if ND.rise [] s.keys && s.innerB then 0 else 100 := by
  unfold ND.checkE ND.ok
  rw [h]
  rfl

set_option maxRecDepth 20000 in
set_option maxHeartbeats 3200000 in
theorem ncheck_any (lf : Bool) (A : Option Addr) (n c : Nat) (B : Option Addr) (m d : Nat) (C : Option Addr) (k e : Nat) (s : ND) (w : World) (h : Nd w A n c B m d C k e s) (hl : s.leaf = lf) (hn : n ≤ 1000000000) (hm : m ≤ 1000000000) (hk : k ≤ 1000000000) :
    Calls Try.prog 32 #[.agg #[.bool lf, .slice A n c, .slice B m d, .slice C k e]] w fun e w' => e = .returned (.int .i64 s.checkE) ∧ Below w.heap.size w w' := by
  have HB := Lib.hid (nbox_new w (.bool lf) (.slice A n c) (.slice B m d) (.slice C k e))
  have b1 := below_one w (.cells #[.bool lf, .slice A n c, .slice B m d, .slice C k e] 25)
  have B1 := Lib.hid b1
  have H1 := Lib.hid (h.kept b1)
  clear b1 h
  go_enter Try.func32, Try.ntmps32
  go_upto_region 1 with fail
  generalize w.alloc (.cells #[.bool lf, .slice A n c, .slice B m d, .slice C k e] 25) = w1 at *
  obtain ⟨c0, c1, c2, c3⟩ := HB.out.cells
  cases lf with
  | true =>
    have HE := Lib.hid (checkE_leaf hl)
    clear hl
    go_wp2_with fail
    refine (keysStand_any A n c s.keys w1 H1.out.ke hn).mono ?_
    rintro e2 w2 ⟨rfl, rfl⟩
    cases h1 : ND.rise [] s.keys with
    | false =>
      rw [h1] at HE
      clear h1
      go_wp2_with fail
      go_ret
      exact ⟨ret_int (by rw [HE.out]; rfl), B1.out⟩
    | true =>
      rw [h1] at HE
      clear h1
      go_wp2_with fail
      refine (leafStands_any true A n c B m d C k e s w1 H1.out hm).mono ?_
      rintro e3 w3 ⟨rfl, b3⟩
      have B3 := Lib.hid (B1.out.trans (b3.mono B1.out.size))
      clear b3
      cases h2 : s.leafB with
      | false =>
        rw [h2] at HE
        clear h2
        go_wp2_with fail
        go_ret
        exact ⟨ret_int (by rw [HE.out]; rfl), B3.out⟩
      | true =>
        rw [h2] at HE
        clear h2
        go_wp2_with fail
        go_ret
        exact ⟨ret_int (by rw [HE.out]; rfl), B3.out⟩
  | false =>
    have HE := Lib.hid (checkE_inner hl)
    clear hl
    go_wp2_with fail
    refine (keysStand_any A n c s.keys w1 H1.out.ke hn).mono ?_
    rintro e2 w2 ⟨rfl, rfl⟩
    cases h1 : ND.rise [] s.keys with
    | false =>
      rw [h1] at HE
      clear h1
      go_wp2_with fail
      go_ret
      exact ⟨ret_int (by rw [HE.out]; rfl), B1.out⟩
    | true =>
      rw [h1] at HE
      clear h1
      go_wp2_with fail
      refine (innerStands_any false A n c B m d C k e s w1 H1.out hn hk).mono ?_
      rintro e3 w3 ⟨rfl, b3⟩
      have B3 := Lib.hid (B1.out.trans (b3.mono B1.out.size))
      clear b3
      cases h2 : s.innerB with
      | false =>
        rw [h2] at HE
        clear h2
        go_wp2_with fail
        go_ret
        exact ⟨ret_int (by rw [HE.out]; rfl), B3.out⟩
      | true =>
        rw [h2] at HE
        clear h2
        go_wp2_with fail
        go_ret
        exact ⟨ret_int (by rw [HE.out]; rfl), B3.out⟩
end Go.Proofs.Ytcdfjaldnelfjaa
