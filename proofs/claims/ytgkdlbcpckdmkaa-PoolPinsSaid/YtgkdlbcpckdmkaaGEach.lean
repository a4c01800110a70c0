/-
  What Pins and Used come to.
-/
import Derived.Test.YtgkdlbcpckdmkaaGClk
namespace Go.Proofs.Ytgkdlbcpckdmkaa
open Go.RowKit

set_option maxRecDepth 20000 in
theorem boolInfo1 : (Try.prog.info? 4).map (fun i => (i.zero, i.size, i.bytes)) = some (some (.bool false), 1, 1) := by kernel_rfl

set_option maxRecDepth 20000 in
theorem pinsOf_any (w : World) (n : Nat) (b : Bool) :
    Calls Try.prog 68 #[.agg #[.int .i64 n, .bool b]] w fun e w' => e = .returned (.int .i64 n) ∧ Below w.heap.size w w' := by
  go_enter Try.func68, Try.ntmps68
  go_wp2_with fail
  go_ret
  exact ⟨rfl, below_one _ _⟩

set_option maxRecDepth 20000 in
theorem usedOf_any (w : World) (n : Nat) (b : Bool) :
    Calls Try.prog 70 #[.agg #[.int .i64 n, .bool b]] w fun e w' => e = .returned (.bool b) ∧ Below w.heap.size w w' := by
  go_enter Try.func70, Try.ntmps70
  go_wp2_with fail
  go_ret
  exact ⟨rfl, below_one _ _⟩

/-- What is told, while places up to k are told. -/
def toP (s : CS) (k j : Nat) : Value := if j < k then .int .i64 (s.p j) else .int .i64 0
def toU (s : CS) (k j : Nat) : Value := if j < k then .bool (s.u j) else .bool false

theorem toP_start (s : CS) (j : Nat) : toP s 0 j = .int .i64 0 := by simp [toP]
theorem toP_here (s : CS) (k : Nat) : toP s k k = .int .i64 0 := by simp [toP]
theorem toP_step (s : CS) (k j : Nat) : (if j = k then Value.int .i64 (s.p k) else toP s k j) = toP s (k + 1) j := by
  unfold toP
  by_cases h : j = k
  · subst h
    rw [if_pos rfl, if_pos (by omega)]
  · rw [if_neg h]
    by_cases h2 : j < k
    · rw [if_pos h2, if_pos (by omega)]
    · rw [if_neg h2, if_neg (by omega)]
theorem toU_start (s : CS) (j : Nat) : toU s 0 j = .bool false := by simp [toU]
theorem toU_here (s : CS) (k : Nat) : toU s k k = .bool false := by simp [toU]
theorem toU_step (s : CS) (k j : Nat) : (if j = k then Value.bool (s.u k) else toU s k j) = toU s (k + 1) j := by
  unfold toU
  by_cases h : j = k
  · subst h
    rw [if_pos rfl, if_pos (by omega)]
  · rw [if_neg h]
    by_cases h2 : j < k
    · rw [if_pos h2, if_pos (by omega)]
    · rw [if_neg h2, if_neg (by omega)]

section
variable {db pb : Nat} {s : CS}

set_option maxRecDepth 20000 in
set_option maxHeartbeats 1600000 in
theorem eachP_any (w : World) (h : ClkAt w db pb s) :
    Calls Try.prog 67 #[.pointer (some ⟨db, 0, none⟩), .func (.func 68) #[] #[]] w
      fun e w' => e = .returned (.slice (some ⟨w.heap.size, 0, none⟩) s.n s.n) ∧ w'.rowIs w.heap.size 3 s.n (toP s s.n) ∧ Below w.heap.size w w' := by
  have hn := h.n2
  have hmk := fun W => run_make_row' (P := Try.prog) 22 3 (.int .i64 0) 8 Try.underlying22 intInfo rfl .i64 .i64 s.n (by omega) (by omega) W
  have c0 := h.c0
  obtain ⟨l1, l2⟩ := h.lt
  have H := Lib.hid h
  clear h
  go_enter Try.func67, Try.ntmps67
  go_wp2_with fail
  go_loopw [21] (fun i wr => ∃ k : Nat, k ≤ s.n ∧ i = .int .i64 k ∧ wr.rowIs w.heap.size 3 s.n (toP s k) ∧ Below w.heap.size w wr) (fun i _ => s.n - (intOf i).toNat)
  case atStart => exact ⟨0, Nat.zero_le _, rfl, (World.rowIs_made _ _ _ _).congr (fun j _ => (toP_start s j).symm), below_one _ _⟩
  case round =>
    obtain ⟨k, hk, rfl, hrow, hb⟩ := hrel
    by_cases hlt : k < s.n
    · have HR := H.out.below hb
      have d0 := HR.cp hlt
      have d1 := HR.cu hlt
      have g2 := hrow.lt
      have HROW := Lib.hid hrow
      have HB := Lib.hid hb
      clear HR hb hrow c0
      go_wp2_with fail
      refine (pinsOf_any _ (s.p k) (s.u k)).mono ?_
      rintro e w1 ⟨rfl, b1⟩
      have b2 : Below wr.heap.size wr w1 := (below_one wr _).trans (b1.mono (by simp))
      have HB2 := Lib.hid b2
      clear b1 b2 d0 d1 g2
      have r1 := HROW.out.of_block (HB2.out.block _ HROW.out.lt)
      have g0 := r1.cell hlt
      rw [toP_here] at g0
      have g1 := r1.frozen k
      have g2 := r1.lt
      have R1 := Lib.hid r1
      clear r1
      go_wp2_with fail
      go_roundw
      case rel =>
        refine ⟨k + 1, by omega, by go_num, (R1.out.set k _).congr (fun j _ => toP_step s k j), ?_⟩
        exact (HB.out.trans (HB2.out.mono HB.out.size)).setCell (p := ⟨w.heap.size, k, none⟩) (Nat.le_refl _) _
      case measure => simp [intOf]; omega
    · obtain rfl : k = s.n := by omega
      go_wp2_with fail
      go_ret
      exact ⟨rfl, hrow, hb⟩

set_option maxRecDepth 20000 in
set_option maxHeartbeats 1600000 in
theorem eachU_any (w : World) (h : ClkAt w db pb s) :
    Calls Try.prog 69 #[.pointer (some ⟨db, 0, none⟩), .func (.func 70) #[] #[]] w
      fun e w' => e = .returned (.slice (some ⟨w.heap.size, 0, none⟩) s.n s.n) ∧ w'.rowIs w.heap.size 4 s.n (toU s s.n) ∧ Below w.heap.size w w' := by
  have hn := h.n2
  have hmk := fun W => run_make_row' (P := Try.prog) 103 4 (.bool false) 1 Try.underlying103 boolInfo1 rfl .i64 .i64 s.n (by omega) (by omega) W
  have c0 := h.c0
  obtain ⟨l1, l2⟩ := h.lt
  have H := Lib.hid h
  clear h
  go_enter Try.func69, Try.ntmps69
  go_wp2_with fail
  go_loopw [21] (fun i wr => ∃ k : Nat, k ≤ s.n ∧ i = .int .i64 k ∧ wr.rowIs w.heap.size 4 s.n (toU s k) ∧ Below w.heap.size w wr) (fun i _ => s.n - (intOf i).toNat)
  case atStart => exact ⟨0, Nat.zero_le _, rfl, (World.rowIs_made _ _ _ _).congr (fun j _ => (toU_start s j).symm), below_one _ _⟩
  case round =>
    obtain ⟨k, hk, rfl, hrow, hb⟩ := hrel
    by_cases hlt : k < s.n
    · have HR := H.out.below hb
      have d0 := HR.cp hlt
      have d1 := HR.cu hlt
      have g2 := hrow.lt
      have HROW := Lib.hid hrow
      have HB := Lib.hid hb
      clear HR hb hrow c0
      go_wp2_with fail
      refine (usedOf_any _ (s.p k) (s.u k)).mono ?_
      rintro e w1 ⟨rfl, b1⟩
      have b2 : Below wr.heap.size wr w1 := (below_one wr _).trans (b1.mono (by simp))
      have HB2 := Lib.hid b2
      clear b1 b2 d0 d1 g2
      have r1 := HROW.out.of_block (HB2.out.block _ HROW.out.lt)
      have g0 := r1.cell hlt
      rw [toU_here] at g0
      have g1 := r1.frozen k
      have g2 := r1.lt
      have R1 := Lib.hid r1
      clear r1
      go_wp2_with fail
      go_roundw
      case rel =>
        refine ⟨k + 1, by omega, by go_num, (R1.out.set k _).congr (fun j _ => toU_step s k j), ?_⟩
        exact (HB.out.trans (HB2.out.mono HB.out.size)).setCell (p := ⟨w.heap.size, k, none⟩) (Nat.le_refl _) _
      case measure => simp [intOf]; omega
    · obtain rfl : k = s.n := by omega
      go_wp2_with fail
      go_ret
      exact ⟨rfl, hrow, hb⟩

/-- A list of bools in memory. -/
def Bls (w : World) (A : Option Addr) (zs : List Bool) : Prop :=
  zs = [] ∨ ∃ b off, A = some ⟨b, off, none⟩ ∧ ∀ i z, zs[i]? = some z → w.cell? ⟨b, off + i, none⟩ = some (.bool z)

theorem Bls.below {w w' : World} {A : Option Addr} {zs : List Bool} (h : Bls w A zs) (hb : Below w.heap.size w w') : Bls w' A zs := by
  rcases h with rfl | ⟨b, off, rfl, hc⟩
  · exact Or.inl rfl
  · refine Or.inr ⟨b, off, rfl, fun i z hz => ?_⟩
    have h0 := hc i z hz
    have hlt : b < w.heap.size := World.block_lt_of_cell? _ _ h0
    exact (hb.cell (p := ⟨b, _, none⟩) hlt).trans h0

theorem Bls.at_ {w : World} {A : Option Addr} {zs : List Bool} (h : Bls w A zs) {k : Nat} (hk : k < zs.length) :
    ∃ b off z, A = some ⟨b, off, none⟩ ∧ zs[k]? = some z ∧ w.cell? ⟨b, off + k, none⟩ = some (.bool z) := by
  rcases h with rfl | ⟨b, off, rfl, hc⟩
  · exact absurd hk (by simp)
  · exact ⟨b, off, zs[k], rfl, List.getElem?_eq_getElem hk, hc k _ (List.getElem?_eq_getElem hk)⟩

theorem pinsL_len (s : CS) : s.pinsL.length = s.n := by simp [CS.pinsL]
theorem usedL_len (s : CS) : s.usedL.length = s.n := by simp [CS.usedL]
theorem pinsL_at (s : CS) {i : Nat} (h : i < s.n) : s.pinsL[i]? = some ((s.p i : Nat) : Int) := by simp [CS.pinsL, h]
theorem usedL_at (s : CS) {i : Nat} (h : i < s.n) : s.usedL[i]? = some (s.u i) := by simp [CS.usedL, h]

/-- A row of so many ints, told. -/
theorem ints_row {w : World} {b : Nat} {t : TypeId} {f : Nat → Value} {s : CS} (h : w.rowIs b t s.n f) (hf : ∀ j, j < s.n → f j = .int .i64 (s.p j)) : Ints w (some ⟨b, 0, none⟩) s.pinsL := by
  refine Or.inr ⟨b, 0, rfl, fun i z hz => ?_⟩
  have hi : i < s.n := by
    have := (List.getElem?_eq_some_iff.1 hz).1
    rwa [pinsL_len] at this
  rw [pinsL_at s hi] at hz
  obtain rfl := Option.some.inj hz
  rw [Nat.zero_add, h.cell hi, hf i hi]
theorem bls_row {w : World} {b : Nat} {t : TypeId} {f : Nat → Value} {s : CS} (h : w.rowIs b t s.n f) (hf : ∀ j, j < s.n → f j = .bool (s.u j)) : Bls w (some ⟨b, 0, none⟩) s.usedL := by
  refine Or.inr ⟨b, 0, rfl, fun i z hz => ?_⟩
  have hi : i < s.n := by
    have := (List.getElem?_eq_some_iff.1 hz).1
    rwa [usedL_len] at this
  rw [usedL_at s hi] at hz
  obtain rfl := Option.some.inj hz
  rw [Nat.zero_add, h.cell hi, hf i hi]

set_option maxRecDepth 20000 in
theorem pins_any (w : World) (h : ClkAt w db pb s) :
    Calls Try.prog 56 #[.pointer (some ⟨db, 0, none⟩)] w
      fun e w' => e = .returned (.slice (some ⟨w.heap.size, 0, none⟩) s.n s.n) ∧ Ints w' (some ⟨w.heap.size, 0, none⟩) s.pinsL ∧ Below w.heap.size w w' := by
  have H := Lib.hid h
  clear h
  go_enter Try.func56, Try.ntmps56
  go_wp2_with fail
  refine (eachP_any _ H.out).mono ?_
  rintro e w' ⟨rfl, hr, hb⟩
  have HR := Lib.hid hr
  have HB := Lib.hid hb
  clear hr hb
  go_wp2_with fail
  go_ret
  exact ⟨rfl, ints_row HR.out (fun j hj => by unfold toP; rw [if_pos hj]), HB.out⟩

set_option maxRecDepth 20000 in
theorem used_any (w : World) (h : ClkAt w db pb s) :
    Calls Try.prog 57 #[.pointer (some ⟨db, 0, none⟩)] w
      fun e w' => e = .returned (.slice (some ⟨w.heap.size, 0, none⟩) s.n s.n) ∧ Bls w' (some ⟨w.heap.size, 0, none⟩) s.usedL ∧ Below w.heap.size w w' := by
  have H := Lib.hid h
  clear h
  go_enter Try.func57, Try.ntmps57
  go_wp2_with fail
  refine (eachU_any _ H.out).mono ?_
  rintro e w' ⟨rfl, hr, hb⟩
  have HR := Lib.hid hr
  have HB := Lib.hid hb
  clear hr hb
  go_wp2_with fail
  go_ret
  exact ⟨rfl, bls_row HR.out (fun j hj => by unfold toU; rw [if_pos hj]), HB.out⟩
end
end Go.Proofs.Ytgkdlbcpckdmkaa
