/-
  What the document's own with and without come to (package tailraceref11).
-/
import Derived.Test.YtcdfjaldnelfjaaESl
import Derived.Test.YtcdfjaldnelfjaaEPut
import Derived.Test.YtcdfjaldnelfjaaAppLn
namespace Go.Proofs.Ytcdfjaldnelfjaa
open Go.RowKit

theorem ln_str1 (w : World) (x : ByteArray) : Ln (w.alloc (.cells #[.string x] 9)) 1 (some ⟨w.heap.size, 0, none⟩) 1 1 (strVals [x.toList]) := by
  obtain ⟨A9, c9, e9, l9, _⟩ := ln_str w x
  injection e9 with e9 _ e10
  subst e9
  subst e10
  rw [← str_one]
  exact l9
set_option maxRecDepth 20000 in
set_option maxHeartbeats 6400000 in
theorem with_any (A : Option Addr) (n c : Nat) (l : List (List UInt8)) (k : Nat) (x : ByteArray) (w : World) (hl : Ln w 1 A n c (strVals l)) (hk : k ≤ n) (hn : n ≤ 700000) :
    Calls Try.prog 43 #[.slice A n c, .int .i64 k, .string x] w (JoinEnd w 9 1 (n + 1) (strVals (ND.rep l k k [x.toList]))) := by
  obtain ⟨i1, hi1, hy0, hy1, hy2⟩ := info_parts eInfoS
  have hnc := hl.le
  have HL := Lib.hid hl
  have HN := Lib.hid hl.strN
  have HLT := Lib.hid (hl.strTake hk)
  have HLD := Lib.hid (lnS_drop hl hk)
  have HU := fun w => upto_S (n := n) (c := c) (k := k) A hk hnc w
  have HF := fun w => from_S (n := n) (c := c) (k := k) A hk w
  clear hl
  have HV : Hid (strVals (l.take k) ++ strVals [x.toList] ++ strVals (l.drop k) = strVals (ND.rep l k k [x.toList])) := Lib.hid (by unfold ND.rep; rw [← strVals_append, ← strVals_append])
  have BE := Lib.hid ((below_one w (.cells #[] 9)).drew)
  have BEP := Lib.hid ((below_two w (.cells #[] 9) (.cells #[.string x] 9)).drew)
  have BPE := Lib.hid ((below_two w (.cells #[.string x] 9) (.cells #[] 9)).drew)
  have hs1 : (w.alloc (.cells #[] 9)).heap.size = w.heap.size + 1 := by simp
  have hs2 : (w.alloc (.cells #[.string x] 9)).heap.size = w.heap.size + 1 := by simp
  have OE : Hid (((w.alloc (.cells #[] 9)).drew).ownsRow w.heap.size 9 1 (.slice (some ⟨w.heap.size, 0, none⟩) 0 0) 0 []) := Lib.hid (own_empty (empty_new w _) (Nat.le_refl _))
  have OEP : Hid ((((w.alloc (.cells #[] 9)).alloc (.cells #[.string x] 9)).drew).ownsRow w.heap.size 9 1 (.slice (some ⟨w.heap.size, 0, none⟩) 0 0) 0 []) := Lib.hid (row_below (show (w.alloc (.cells #[] 9)).ownsRow w.heap.size 9 1 (.slice (some ⟨w.heap.size, 0, none⟩) 0 0) 0 [] from OE.out) ((below_one (w.alloc (.cells #[] 9)) (.cells #[.string x] 9)).drew))
  have OPE : Hid ((((w.alloc (.cells #[.string x] 9)).alloc (.cells #[] 9)).drew).ownsRow w.heap.size 9 1 (.slice (some ⟨w.heap.size + 1, 0, none⟩) 0 0) 0 []) := Lib.hid (own_empty (by have := empty_new (w.alloc (.cells #[.string x] 9)) 9; rw [hs2] at this; exact this) (Nat.le_succ _))
  have LEP : Hid (Ln (((w.alloc (.cells #[] 9)).alloc (.cells #[.string x] 9)).drew) 1 (some ⟨w.heap.size + 1, 0, none⟩) 1 1 (strVals [x.toList])) := Lib.hid (by have := (ln_str1 (w.alloc (.cells #[] 9)) x).kept ((Below.refl _ _).drew); rw [hs1] at this; exact this)
  have LPE : Hid (Ln (((w.alloc (.cells #[.string x] 9)).alloc (.cells #[] 9)).drew) 1 (some ⟨w.heap.size, 0, none⟩) 1 1 (strVals [x.toList])) := Lib.hid ((ln_str1 w x).kept ((below_one _ (.cells #[] 9)).drew))
  clear hs1 hs2
  go_enter Try.func43, Try.ntmps43
  go_wp2_with fail
  go_region_held3 (fun _ => True) (exact trivial)
    (first
      | (refine step_append_ls _ (by rfl) _ _ _ (by rfl) w.heap.size 9 i1 _ 1 16 Try.underlying22 hi1 hy0 hy1 hy2 rfl (by omega) _ 0 _ [] (by rfl) (by first | exact OE.out | exact OEP.out | exact OPE.out) _ k _ (strVals (l.take k)) (by rfl) (HLT.out.kept (by first | exact BE.out | exact BEP.out | exact BPE.out)) (strVals_one _) (by unfold maxLen; omega) (by omega) ((by first | exact BE.out | exact BEP.out | exact BPE.out) : Below w.heap.size w _).size ?_; intro A1 c1 w1 o1 g1; rw [Nat.zero_add, List.nil_append] at o1; rw [Nat.zero_add]; have B1 := Lib.hid (Below.grown (B := w.heap.size) (a := w) (by first | exact BE.out | exact BEP.out | exact BPE.out) g1 ((by first | exact BE.out | exact BEP.out | exact BPE.out) : Below w.heap.size w _).size (by intro k' e'; have := e'; simp [Value.ownBlock] at this; omega)); first | (have LP1 := Lib.hid (LEP.out.grown g1 (by simp [Value.ownBlock]))) | (have LP1 := Lib.hid (LPE.out.grown g1 (by simp [Value.ownBlock]))) | (have LP1 := Lib.hid (ln_str1 w1 x); have B1P := Lib.hid (B1.out.alloc B1.out.size (.cells #[.string x] 9)); have O1P := Lib.hid (row_below o1 (below_one w1 (.cells #[.string x] 9)))))
      | (refine step_append_ls _ (by rfl) _ _ _ (by rfl) w.heap.size 9 i1 _ 1 16 Try.underlying22 hi1 hy0 hy1 hy2 rfl (by omega) _ k _ (strVals (l.take k)) (by rfl) (by first | exact o1 | exact O1P.out) _ 1 _ (strVals [x.toList]) (by rfl) LP1.out (strVals_one _) (by unfold maxLen; omega) (by omega) (by first | exact B1.out.size | exact B1P.out.size) ?_; intro A2 c2 w2 o2 g2; have B2 := Lib.hid (own_grown_hi (B := w.heap.size) (a := w) (by first | exact B1.out | exact B1P.out) (by first | exact B1.out.size | exact B1P.out.size) (by first | exact o1 | exact O1P.out) (Nat.le_refl _) g2))
      | (refine step_append_ls _ (by rfl) _ _ _ (by rfl) w.heap.size 9 i1 _ 1 16 Try.underlying22 hi1 hy0 hy1 hy2 rfl (by omega) _ (k + 1) _ (strVals (l.take k) ++ strVals [x.toList]) (by rfl) o2 _ (n - k) _ (strVals (l.drop k)) (by rfl) (HLD.out.kept B2.out) (strVals_one _) (by unfold maxLen; omega) (by omega) B2.out.size ?_; intro A3 c3 w3 o3 g3; rw [HV.out] at o3; have B3 := Lib.hid (own_grown_hi B2.out B2.out.size o2 (Nat.le_refl _) g3); have hN : k + 1 + (n - k) = n + 1 := (by omega); have O3 : Hid (w3.ownsRow w.heap.size 9 1 (.slice A3 (n + 1) c3) (n + 1) (strVals (ND.rep l k k [x.toList]))) := (by rw [hN] at o3; exact Lib.hid o3))
      | fail)
  all_goals (
    go_wp2_with fail
    go_ret
    exact ⟨.slice A3 (n + 1) c3, by first | rfl | rw [hN] | simp, O3.out, B3.out⟩)

set_option maxRecDepth 20000 in
set_option maxHeartbeats 6400000 in
theorem without_any (A : Option Addr) (n c : Nat) (l : List (List UInt8)) (k : Nat) (w : World) (hl : Ln w 1 A n c (strVals l)) (hk : k < n) (hn : n ≤ 700000) :
    Calls Try.prog 41 #[.slice A n c, .int .i64 k] w (JoinEnd w 9 1 (n - 1) (strVals (ND.rep l k (k + 1) []))) := by
  obtain ⟨i1, hi1, hy0, hy1, hy2⟩ := info_parts eInfoS
  have hnc := hl.le
  have HL := Lib.hid hl
  have HLT := Lib.hid (hl.strTake (Nat.le_of_lt hk))
  have HLD := Lib.hid (lnS_drop hl (k := k + 1) hk)
  have HU := fun w => upto_S (n := n) (c := c) (k := k) A (Nat.le_of_lt hk) hnc w
  have HF := fun w => from_S1 (n := n) (c := c) (k := k) A hk w
  have HW : IntKind.i64.wrap ((k : Int) + 1) = (k : Int) + 1 := IntWalk.i64_in _ (by omega)
  clear hl
  have HV : Hid (strVals (l.take k) ++ strVals (l.drop (k + 1)) = strVals (ND.rep l k (k + 1) [])) := Lib.hid (by unfold ND.rep; rw [← strVals_append, List.append_nil])
  have BE := Lib.hid ((below_one w (.cells #[] 9)).drew)
  have OE : Hid (((w.alloc (.cells #[] 9)).drew).ownsRow w.heap.size 9 1 (.slice (some ⟨w.heap.size, 0, none⟩) 0 0) 0 []) := Lib.hid (own_empty (empty_new w _) (Nat.le_refl _))
  go_enter Try.func41, Try.ntmps41
  go_wp2_with fail
  go_region_held3 (fun _ => True) (exact trivial)
    (first
      | (refine step_append_ls _ (by rfl) _ _ _ (by rfl) w.heap.size 9 i1 _ 1 16 Try.underlying22 hi1 hy0 hy1 hy2 rfl (by omega) _ 0 _ [] (by rfl) OE.out _ k _ (strVals (l.take k)) (by rfl) (HLT.out.kept BE.out) (strVals_one _) (by unfold maxLen; omega) (by omega) BE.out.size ?_; intro A1 c1 w1 o1 g1; rw [Nat.zero_add, List.nil_append] at o1; rw [Nat.zero_add]; have B1 := Lib.hid (Below.grown (B := w.heap.size) (a := w) BE.out g1 BE.out.size (by intro k' e'; have := e'; simp [Value.ownBlock] at this; omega)))
      | (refine step_append_ls _ (by rfl) _ _ _ (by rfl) w.heap.size 9 i1 _ 1 16 Try.underlying22 hi1 hy0 hy1 hy2 rfl (by omega) _ k _ (strVals (l.take k)) (by rfl) o1 _ (n - (k + 1)) _ (strVals (l.drop (k + 1))) (by rfl) (HLD.out.kept B1.out) (strVals_one _) (by unfold maxLen; omega) (by omega) B1.out.size ?_; intro A3 c3 w3 o3 g3; rw [HV.out] at o3; have B3 := Lib.hid (own_grown_hi B1.out B1.out.size o1 (Nat.le_refl _) g3); have hN : k + (n - (k + 1)) = n - 1 := (by omega); have O3 : Hid (w3.ownsRow w.heap.size 9 1 (.slice A3 (n - 1) c3) (n - 1) (strVals (ND.rep l k (k + 1) []))) := (by rw [hN] at o3; exact Lib.hid o3))
      | fail)
  all_goals (
    go_wp2_with fail
    go_ret
    exact ⟨.slice A3 (n - 1) c3, by first | rfl | rw [hN] | simp, O3.out, B3.out⟩)
end Go.Proofs.Ytcdfjaldnelfjaa
