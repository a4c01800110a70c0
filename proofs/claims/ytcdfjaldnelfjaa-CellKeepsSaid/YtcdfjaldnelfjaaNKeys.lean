/-
  What node's keysStand comes to.
-/
import Derived.Test.YtcdfjaldnelfjaaNMem
namespace Go.Proofs.Ytcdfjaldnelfjaa
open Go.RowKit

theorem rise_append : ∀ (p : List UInt8) (a b : List (List UInt8)), ND.rise p (a ++ b) = (ND.rise p a && ND.rise (a.getLastD p) b)
  | p, [], b => by simp [ND.rise]
  | p, x :: a, b => by
    have e : (x :: a).getLastD p = a.getLastD x := by cases a <;> rfl
    rw [List.cons_append, ND.rise_cons, ND.rise_cons, rise_append x a b, e]
    exact (Bool.and_assoc _ _ _).symm

theorem less_not {a b : List UInt8} (h : Op.bytesLess a b = true) : Op.bytesLess b a = false ∧ (b == a) = false := by
  constructor
  · cases hb : Op.bytesLess b a with
    | false => rfl
    | true => have := less_trans a b a h hb; rw [less_irrefl] at this; cases this
  · rw [beq_eq_false_iff_ne]
    rintro rfl
    rw [less_irrefl] at h
    cases h
theorem not_less {a b : List UInt8} (h : Op.bytesLess a b = false) : Op.bytesLess b a = true ∨ (Op.bytesLess b a = false ∧ (b == a) = true) := by
  rcases less_total a b with e | e | e
  · rw [h] at e; cases e
  · right
    subst e
    exact ⟨h, beq_self_eq_true _⟩
  · exact Or.inl e

/-- The keys up to some place, and the one behind. -/
theorem rise_next {l : List (List UInt8)} {k : Nat} {t : List UInt8} (h : l[k]? = some t) : ND.rise [] (l.take (k + 1)) = (ND.rise [] (l.take k) && (Op.bytesLess ((l.take k).getLastD []) t && decide (t.length ≤ 120))) ∧ (l.take (k + 1)).getLastD [] = t := by
  rw [List.take_add_one, h, Option.toList_some]
  exact ⟨ND.rise_snoc _ _ _, by simp⟩
theorem rise_stop {l : List (List UInt8)} {k : Nat} (h : ND.rise [] (l.take k) = false) : ND.rise [] l = false := by
  have := rise_append [] (l.take k) (l.drop k)
  rw [List.take_append_drop, h] at this
  exact this

set_option maxHeartbeats 1600000 in
theorem keysStand_any (A : Option Addr) (n c : Nat) (l : List (List UInt8)) (w : World) (h : Ln w 1 A n c (strVals l)) (hn : n ≤ 1000000000) :
    Calls Try.prog 53 #[.slice A n c] w fun e w' => e = .returned (.bool (ND.rise [] l)) ∧ w = w' := by
  have HN := Lib.hid h.strN
  go_enter Try.func53, Try.ntmps53
  go_wp2_with fail
  go_loop [3, 8] (fun s i => ∃ (k : Nat) (p : ByteArray), k ≤ n ∧ i = .int .i64 k ∧ s = .string p ∧ Hid (ND.rise [] (l.take k) = true) ∧ Hid (p.toList = (l.take k).getLastD [])) (fun _ i => n - (intOf i).toNat)
  case atStart => exact ⟨0, ⟨#[]⟩, Nat.zero_le _, rfl, rfl, Lib.hid rfl, Lib.hid (by rw [toList_data]; rfl)⟩
  case round =>
    obtain ⟨k, p, hk, rfl, rfl, HR, HP⟩ := hrel
    by_cases hlt : k < n
    · obtain ⟨b, off, s, rfl, hv, c0⟩ := h.strAt hlt
      obtain ⟨h1, h2⟩ := rise_next hv
      rw [HR.out, Bool.true_and, ← HP.out, toList_length] at h1
      have H1 := Lib.hid h1
      have H2 := Lib.hid h2
      clear hv h1 h2
      cases hl : Op.bytesLess p.toList s.toList with
      | false =>
        have HE : Hid (ND.rise [] l = false) := Lib.hid (rise_stop (k := k + 1) (by rw [H1.out, hl]; rfl))
        rcases not_less hl with f1 | ⟨f1, f2⟩
        · clear hl
          go_wp2_with fail
          go_ret
          exact ⟨ret_bool HE.out.symm, rfl⟩
        · clear hl
          go_wp2_with fail
          go_ret
          exact ⟨ret_bool HE.out.symm, rfl⟩
      | true =>
        obtain ⟨f1, f2⟩ := less_not hl
        by_cases hz : s.size ≤ 120
        · have HE : Hid (ND.rise [] (l.take (k + 1)) = true) := Lib.hid (by rw [H1.out, hl, decide_eq_true hz]; rfl)
          clear hl
          go_wp2_with fail
          go_round
          case rel => exact ⟨k + 1, s, by omega, by go_num, rfl, HE, Lib.hid H2.out.symm⟩
          case measure => simp [intOf]; omega
        · have HE : Hid (ND.rise [] l = false) := Lib.hid (rise_stop (k := k + 1) (by rw [H1.out, hl, decide_eq_false hz]; rfl))
          clear hl
          go_wp2_with fail
          go_ret
          exact ⟨ret_bool HE.out.symm, rfl⟩
    · obtain rfl : n = k := by omega
      go_wp2_with fail
      go_ret
      refine ⟨ret_bool ?_, rfl⟩
      have := HR.out
      rw [List.take_of_length_le (by rw [HN.out]; omega)] at this
      exact this.symm
end Go.Proofs.Ytcdfjaldnelfjaa
