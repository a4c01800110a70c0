/-
  What frame.Unpack comes to, with bytes.Equal.
-/
import Derived.Test.YtpihblbpmmdmmaaFPack
import Derived.Test.YtpihblbpmmdmmaaText
import Derived.Test.YtpihblbpmmdmmaaClone
import Derived.Deep.QuietTactic
import Derived.BigQuiet
namespace Go.Proofs.Ytpihblbpmmdmmaa
open Go.RowKit

theorem text_eq (l m : List UInt8) : (l == m) = decide (l = m) := by
  rw [Bool.eq_iff_iff]
  simp

theorem bytesEqual_any {w : World} {R R' : Nat} {A B : Option Addr} {l m : List UInt8} (h : Bys w R A l) (k : Bys w R' B m) (n c p d : Nat) (hn : l.length = n) (hp : m.length = p) :
    Calls Try.prog 26 #[.slice A n c, .slice B p d] w fun e w' => e = .returned (.bool (decide (l = m))) ∧ w = w' := by
  have h1 := run_text (P := Try.prog) h 23 9 5 n c hn Try.underlying23 Try.underlying5 Try.underlying9
  have h2 := run_text (P := Try.prog) k 23 9 5 p d hp Try.underlying23 Try.underlying5 Try.underlying9
  have HE := Lib.hid (text_eq l m)
  clear hn hp h k
  go_enter Try.func26, Try.ntmps26
  go_wp2_with fail
  go_ret
  exact ⟨ret_bool HE.out, rfl⟩

/-- What Unpack answers. -/
def unpK (p : Int) (b : List UInt8) : Int := if IsF p b then kin b else 0
def unpB (p : Int) (b : List UInt8) : List UInt8 := if IsF p b then dat b else []
def unpE (p : Int) (b : List UInt8) : Int := if IsF p b then 0 else 50
def UnpEnd (w : World) (p : Int) (b : List UInt8) (e : Ending) (w' : World) : Prop :=
  ∃ v, e = .returned (.tuple #[.int .i64 (unpK p b), v, .int .i64 (unpE p b)]) ∧ Own w' w.heap.size v (unpB p b) ∧ Below w.heap.size w w'

theorem unp_bad {p : Int} {b : List UInt8} (h : ¬ IsF p b) {w w' : World} (hb : Below w.heap.size w w') : UnpEnd w p b (.returned (.tuple #[.int .i64 0, .slice none 0 0, .int .i64 50])) w' := by
  refine ⟨.slice none 0 0, ?_, ?_, hb⟩
  · rw [unpK, unpE, if_neg h, if_neg h]
  · rw [unpB, if_neg h]
    exact own_nil _ _

theorem dat_bys {w : World} {R b off : Nat} {l : List UInt8} (h : Bys w R (some ⟨b, off, none⟩) l) : Bys w R (some ⟨b, off + 7, none⟩) (dat l) := by
  unfold dat
  exact (h.take _).drop 7

set_option maxHeartbeats 400000 in
theorem unp_short (p : Int) (A : Option Addr) (n c : Nat) (l : List UInt8) (w : World) (hl : l.length = n) (h : n < 11) :
    Calls Try.prog 14 #[.int .i64 p, .slice A n c] w (UnpEnd w p l) := by
  have HP := Lib.hid (unp_bad (w := w) (w' := w) (p := p) (b := l) (fun hf => by have := hf.1; omega) (Below.refl _ _))
  clear hl
  go_enter Try.func14, Try.ntmps14
  go_wp2_with fail
  go_ret3
  exact HP.out

set_option maxHeartbeats 1600000 in
theorem unp_long {R : Nat} (p : Int) (A : Option Addr) (n c : Nat) (l : List UInt8) (w : World) (hl : l.length = n) (hr : Bys w R A l) (hnc : n ≤ c) (hn : n ≤ 1000000) (h : ¬ n < 11) :
    Calls Try.prog 14 #[.int .i64 p, .slice A n c] w (UnpEnd w p l) := by
  obtain ⟨b, off, z, rfl, hbR, hz, c0⟩ := hr.at_ (k := 0) (by omega)
  have HZ := Lib.hid (kin_at hz)
  have HR := Lib.hid hr
  have HL := Lib.hid hl
  have hD := dat_bys hr
  have HD := Lib.hid hD
  have hdl : (dat l).length = n - 4 - 7 := by rw [dat_length, hl]
  have HDL := Lib.hid hdl
  rw [Nat.add_zero] at c0
  have q0 : (0 : Int) < (n : Int) := by omega
  have q1 : (7 : Int) ≤ (n : Int) - 4 := by omega
  have q2 : (n : Int) - 4 ≤ (c : Int) := by omega
  have q3 : (0 : Int) ≤ (n : Int) - 4 := by omega
  have q4 : ¬ c = 7 := by omega
  clear hl hr hz hbR hD hdl
  go_enter Try.func14, Try.ntmps14
  go_wp2_with fail
  go_quiet (fail)
  rw [show wrap64 (z.toNat : Int) = (z.toNat : Int) from by unfold wrap64; have := UInt8.toNat_lt z; omega]
  have B1 := Lib.hid (belowN (Below.refl w.heap.size w) nq)
  have r1 := Lib.hid (HR.out.kept B1.out)
  have d1 := Lib.hid (HD.out.kept B1.out)
  have HN : Hid (n - 4 - 7 ≤ 1000000 ∧ n ≤ 1000000 ∧ 11 ≤ n) := ⟨by omega, hn, by omega⟩
  generalize w.drewN nq = w1 at *
  generalize n - 4 - 7 = m at *
  clear HR HD c0 q0 q1 q2 q3 q4
  have HM := HN.out.1
  go_wp2_with fail
  refine (pack_all (z.toNat : Int) p _ m (c - 7) (dat l) _ HDL.out d1.out (fun e => by cases e)).mono ?_
  rintro e w2 ⟨v, rfl, o2, b2⟩
  rw [← HZ.out] at o2 ⊢
  have B2 : Hid (Below w.heap.size w w2) := B1.out.trans (b2.mono B1.out.size)
  have r2 := Lib.hid (r1.out.kept b2)
  have d2 := Lib.hid (d1.out.kept b2)
  clear r1 d1 B1 b2
  by_cases hok : FOk (kin l) p (dat l).length
  · have e1 : packE (kin l) p (dat l) = 0 := by unfold packE; rw [if_pos hok]
    have e2 : packB (kin l) p (dat l) = frm (kin l) p (dat l) := by unfold packB; rw [if_pos hok]
    rw [e1]
    rw [e2] at o2
    obtain ⟨A3, c3, rfl, hl3, _, _, r3⟩ := Bys.of_own o2
    have R3 := Lib.hid r3
    have HE := Lib.hid (bytesEqual_any r3 r2.out ((frm (kin l) p (dat l)).length) c3 n c rfl HL.out)
    by_cases hfr : frm (kin l) p (dat l) = l
    · have hf : IsF p l := ⟨by rw [HL.out]; exact HN.out.2.2, hok, hfr⟩
      have HP : Hid (unpK p l = kin l ∧ unpE p l = 0 ∧ unpB p l = dat l) := by
        unfold unpK unpE unpB
        rw [if_pos hf, if_pos hf, if_pos hf]
        exact Lib.hid ⟨rfl, rfl, rfl⟩
      rw [decide_eq_true hfr] at HE
      generalize (frm (kin l) p (dat l)).length = N at *
      clear e1 e2 o2 hok hl3 hfr hf r3
      generalize kin l = kk at *
      go_wp2_with fail
      refine HE.out.mono ?_
      rintro e w3 ⟨rfl, rfl⟩
      go_wp2_with fail
      refine (clone_all _ m (c - 7) _ (dat l) _ d2.out HDL.out HM (fun e => by cases e)).mono ?_
      rintro e w4 ⟨v4, rfl, o4, b4⟩
      have O4 := Lib.hid o4
      have B4 : Hid (Below w.heap.size w w4) := B2.out.trans (b4.mono B2.out.size)
      have HS := Lib.hid B2.out.size
      clear o4 b4 B2 HE R3 r2 d2
      go_wp2_with fail
      go_ret3
      refine ⟨v4, ?_, ?_, B4.out⟩
      · rw [HP.out.1, HP.out.2.1]
        rfl
      · rw [HP.out.2.2]
        exact own_low O4.out HS.out
    · have HP := Lib.hid (unp_bad (p := p) (b := l) (fun hf => hfr hf.2.2) B2.out)
      rw [decide_eq_false hfr] at HE
      generalize (frm (kin l) p (dat l)).length = N at *
      clear e1 e2 o2 hok hl3 hfr r3
      generalize kin l = kk at *
      go_wp2_with fail
      refine HE.out.mono ?_
      rintro e w3 ⟨rfl, rfl⟩
      go_wp2_with fail
      go_ret3
      exact HP.out
  · have e1 : packE (kin l) p (dat l) = 1 := by unfold packE; rw [if_neg hok]
    have HP := Lib.hid (unp_bad (p := p) (b := l) (fun hf => hok hf.2.1) B2.out)
    rw [e1]
    clear e1 o2 hok
    generalize kin l = kk at *
    go_wp2_with fail
    go_ret3
    exact HP.out

/-- Unpack, whatever is handed in. -/
theorem unp_all {R : Nat} (p : Int) (A : Option Addr) (n c : Nat) (l : List UInt8) (w : World) (hl : l.length = n) (hr : Bys w R A l) (hnc : n ≤ c) (hn : n ≤ 1000000) :
    Calls Try.prog 14 #[.int .i64 p, .slice A n c] w (UnpEnd w p l) := by
  by_cases h : n < 11
  · exact unp_short p A n c l w hl h
  · exact unp_long p A n c l w hl hr hnc hn h
end Go.Proofs.Ytpihblbpmmdmmaa
