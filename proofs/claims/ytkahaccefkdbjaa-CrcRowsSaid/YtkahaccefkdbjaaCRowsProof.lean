/-
  CrcRows answers true, for every two bytes and every check sum: the table's steps of two bytes' difference are the difference of theirs; a check sum goes on by the table. Conditions: none.
-/
import Derived.Test.YtkahaccefkdbjaaRows
import Derived.Test.YtkahaccefkdbjaaCAwake
import Derived.Test.YtkahaccefkdbjaaOpenB
import Derived.Test.YtkahaccefkdbjaaOpenU32
import Derived.Deep.RegionHeld3
namespace Go.Proofs.Ytkahaccefkdbjaa.crcRows
open Go.ChangeShapes Go.WideShapes Go.ChangeAt Go.RowKit

/-- Four words of the table, in the block tb. -/
def Four (w : World) (tb i1 i2 i3 i4 y1 y2 y3 y4 : Nat) : Prop :=
  w.cell? ⟨tb, i1, none⟩ = some (.int .u32 (y1 : Int)) ∧ w.cell? ⟨tb, i2, none⟩ = some (.int .u32 (y2 : Int)) ∧ w.cell? ⟨tb, i3, none⟩ = some (.int .u32 (y3 : Int)) ∧ w.cell? ⟨tb, i4, none⟩ = some (.int .u32 (y4 : Int))

theorem Four.below {w w' : World} {tb i1 i2 i3 i4 y1 y2 y3 y4 : Nat} (h : Four w tb i1 i2 i3 i4 y1 y2 y3 y4) (hb : Below w.heap.size w w') : Four w' tb i1 i2 i3 i4 y1 y2 y3 y4 := by
  obtain ⟨h1, h2, h3, h4⟩ := h
  have l : tb < w.heap.size := World.block_lt_of_cell? _ _ h1
  exact ⟨(hb.cell (p := ⟨tb, _, none⟩) l).trans h1, (hb.cell (p := ⟨tb, _, none⟩) l).trans h2, (hb.cell (p := ⟨tb, _, none⟩) l).trans h3, (hb.cell (p := ⟨tb, _, none⟩) l).trans h4⟩

theorem more_one (s : Nat) (hs : s < 4294967296) (a : UInt8) (y : Nat) (hy : crcM s [a] = y) (w : World) (n : Nat) (hn : n = w.heap.size) :
    Calls Try.prog 12 #[.int .u32 (s : Int), .slice (some ⟨n, 0, none⟩) 1 1] (w.alloc (.cells #[.int .u8 a.toNat] 5)).drew fun e w' => e = .returned (.int .u32 (y : Int)) ∧ Below w.heap.size w w' := by
  subst hn
  subst hy
  have h : Bys (w.alloc (.cells (bv [a]).toArray 5)).drew (w.heap.size + 1) (some ⟨w.heap.size, 0, none⟩) [a] := bys_new w [a] 5
  refine (more_n s hs _ 1 1 [a] _ h rfl (by omega)).mono ?_
  rintro e w' ⟨rfl, hb⟩
  exact ⟨rfl, ((below_one w _).drew).trans (hb.mono (by simp))⟩

set_option maxHeartbeats 1600000 in
set_option maxRecDepth 20000 in
theorem walk (a b : UInt8) (s : Nat) (hs : s < 4294967296) (W : World) :
    Calls Try.prog 7 #[.int .u8 a.toNat, .int .u8 b.toNat, .int .u32 (s : Int)] W fun e W' => e = .returned (.bool true) ∧ Below W.heap.size W W' := by
  obtain ⟨Z, T, hz, hi, hZT, h1, hT, hcall⟩ := tab_is
  have HI := Lib.hid hi
  have HZ := Lib.hid hZT
  have H1 := Lib.hid h1
  have HT := Lib.hid hT
  have HC := Lib.hid hcall
  clear hi hZT h1 hT hcall
  go_enter Try.func7, Try.ntmps7
  go_wp2_with fail
  refine (awake_any _).mono ?_
  rintro e w0 ⟨rfl, b0⟩
  have B0 : Hid (Below W.heap.size W w0) := b0
  clear b0
  go_wp2_with fail
  refine (HC.out _).mono ?_
  rintro e w1 ⟨rfl, b1⟩
  have b2 : Hid (Below W.heap.size W (w1.alloc (.cells T 24))) := (B0.out.trans (b1.mono B0.out.size)).alloc (B0.out.trans (b1.mono B0.out.size)).size _
  have T2 := HT.out w1
  have hv := inv_lt hs
  have hvs := not_spell hs
  have HM := Lib.hid (show crcM s [a] = inv (crcB (inv s) a) from rfl)
  generalize inv s = v at *
  have ha := UInt8.toNat_lt a
  have hb := UInt8.toNat_lt b
  have x1 := u8_xor_nat _ _ ha hb
  have l1 := xor_lt8 ha hb
  have x4 := low_spell v a
  have l4 := low_lt v a
  have hc := crcB_lt hv a
  have y4 : bits .xor .u32 ((v : Int) / 256) ((steps8 (v % 256 ^^^ a.toNat) : Nat) : Int) = ((crcB v a : Nat) : Int) := by
    rw [crcB_table, Nat.xor_comm (steps8 _) (v / 256)]
    exact u32_xor_nat (v / 256) _ (by omega) (steps8_lt (by omega))
  have y3 : bits .xor .u32 ((steps8 a.toNat : Nat) : Int) ((steps8 b.toNat : Nat) : Int) = ((steps8 (a.toNat ^^^ b.toNat) : Nat) : Int) := by
    rw [steps8_xor]
    exact u32_xor_nat _ _ (steps8_lt (by omega)) (steps8_lt (by omega))
  have y5 := not_spell hc
  have K0 : Four (w1.alloc (.cells T 24)) w1.heap.size (a.toNat ^^^ b.toNat) a.toNat b.toNat (v % 256 ^^^ a.toNat) (steps8 (a.toNat ^^^ b.toNat)) (steps8 a.toNat) (steps8 b.toNat) (steps8 (v % 256 ^^^ a.toNat)) :=
    ⟨T2 _ l1, T2 _ (by omega), T2 _ (by omega), T2 _ l4⟩
  generalize steps8 (a.toNat ^^^ b.toNat) = z1 at *
  generalize steps8 a.toNat = z2 at *
  generalize steps8 b.toNat = z3 at *
  generalize steps8 (v % 256 ^^^ a.toNat) = z4 at *
  generalize a.toNat ^^^ b.toNat = i1 at *
  generalize v % 256 ^^^ a.toNat = i4 at *
  generalize crcB v a = cb at *
  generalize inv cb = iv at *
  go_wp2_with (refine wpList_store_row rfl 24 (.tmp 8) (.tmp 11) rfl w1.heap.size T rfl rfl 24 Z (heap_alloc_new w1 _) HI.out HZ.out H1.out ?_; rw [World.setRow_alloc_new])
  clear HI HZ H1 HT HC hz T2
  have hw2 : w1.heap.size < (w1.alloc (.cells T 24)).heap.size := by simp
  clear b1 B0
  generalize w1.alloc (.cells T 24) = w2 at *
  generalize w1.heap.size = tb at *
  have x4' : bits .xor .u8 (IntKind.u8.wrap (v : Int)) (a.toNat : Int) = (i4 : Int) := by rw [IntKind.wrap_u8']; exact x4
  have n1 : (0 : Int) ≤ (i1 : Int) := by omega
  have n1' : (i1 : Int) < 256 := by omega
  have n2 : (0 : Int) ≤ (a.toNat : Int) := by omega
  have n2' : (a.toNat : Int) < 256 := by omega
  have n3 : (0 : Int) ≤ (b.toNat : Int) := by omega
  have n3' : (b.toNat : Int) < 256 := by omega
  have n4 : (0 : Int) ≤ (i4 : Int) := by omega
  have n4' : (i4 : Int) < 256 := by omega
  have K1 : Four (w2.alloc (.cells #[.int .u8 a.toNat] 5)).drew tb i1 a.toNat b.toNat i4 z1 z2 z3 z4 := K0.below ((below_one w2 _).drew)
  have T := K0
  obtain ⟨k1, k2, k3, k4⟩ := T
  go_region_held3 (fun w' => w'.cell? ⟨tb, i1, none⟩ = some (.int .u32 (z1 : Int)) ∧ w'.cell? ⟨tb, a.toNat, none⟩ = some (.int .u32 (z2 : Int)) ∧ w'.cell? ⟨tb, b.toNat, none⟩ = some (.int .u32 (z3 : Int)) ∧ w'.cell? ⟨tb, i4, none⟩ = some (.int .u32 (z4 : Int)))
    (first | exact K2 | exact K1 | exact K0)
    (first
      | (go_at_call 12; refine (more_one s hs a iv HM.out w2 _ (by simp)).mono ?_; rintro e w3 ⟨rfl, hb3⟩; have K2 := Four.below K0 hb3))
  have B3 : Hid (Below W.heap.size W w3) := b2.out.trans (hb3.mono b2.out.size)
  clear hb3 K0 K1 K2
  go_wp2_with fail
  go_ret
  exact ⟨rfl, B3.out⟩

set_option maxRecDepth 100000 in
theorem lifted (os : Os) (started : os.Started) (H : Type) (enc : TypeId × Value → H) :
    ReturnsInHanded {} Try.checked os 7 .any (Rows.crcRowsSpec.pre6 enc Try.prog Try.f7 Rows.crcRowsRow.domain false)
      (Rows.crcRowsSpec.post enc Try.prog Try.f7 false true false false) := by
  refine lift_law (C := Try.checked) (tb := 4) ownKnobs started (by kernel_rfl) Try.func7
    (ChangeSpec.witness6 (enc := enc) (C := Try.checked) false ⟨#[], #[.int .u8 0, .int .u8 0, .int .u32 0], []⟩ 8 (by kernel_rfl) (by kernel_rfl) (by kernel_rfl) (by kernel_rfl))
    laidOut ?_ rfl rfl Try.underlying4 ?_ ?_
  · intro t ht
    rw [Try.params7] at ht
    simp only [List.mem_cons, List.not_mem_nil, or_false] at ht
    rcases ht with rfl | rfl | rfl <;> exact ⟨by kernel_rfl, of_decide_eq_true (by kernel_rfl)⟩
  · intro vs ds W p hA
    rw [Try.params7] at hA
    obtain ⟨v0, vs0, d0, ds0, p0, q0, ha, rfl, rfl, h0, r0⟩ := trodAll_cons hA
    obtain ⟨v1, vs1, d1, ds1, p1, q1, rfl, rfl, rfl, h1, r1⟩ := trodAll_cons r0
    obtain ⟨v2, vs2, d2, ds2, p2, q2, rfl, rfl, rfl, h2, r2⟩ := trodAll_cons r1
    obtain ⟨rfl, rfl, rfl⟩ := trodAll_nil r2
    rfl
  · intro W base args ds p hval hA
    rw [Try.params7] at hA hval
    obtain ⟨v0, vs0, d0, ds0, p0, q0, ha, rfl, rfl, h0, r0⟩ := trodAll_cons hA
    obtain ⟨v1, vs1, d1, ds1, p1, q1, rfl, rfl, rfl, h1, r1⟩ := trodAll_cons r0
    obtain ⟨v2, vs2, d2, ds2, p2, q2, rfl, rfl, rfl, h2, r2⟩ := trodAll_cons r1
    obtain ⟨rfl, rfl, rfl⟩ := trodAll_nil r2
    obtain rfl : args = #[v0, v1, v2] := by cases args; simp_all
    obtain ⟨b0, rfl⟩ := open_u8 (hval 0 _ v0 rfl rfl) h0
    obtain ⟨b1, rfl⟩ := open_u8 (hval 1 _ v1 rfl rfl) h1
    obtain ⟨x2, rfl, hx2⟩ := open_u32 (hval 2 _ v2 rfl rfl) h2
    exact walk b0 b1 x2 hx2 W

/-- The statement. -/
theorem proved : Rows.CrcRowsSaid :=
  OpenClaim.holds_of_wide 7 Try.f7 rfl rfl rfl rfl rfl rfl rfl ⟨rfl, rfl, rfl, rfl, rfl⟩ rfl rfl rfl rfl rfl (by kernel_rfl) Try.func7 (by kernel_rfl)
    (of_decide_eq_true (by kernel_rfl)) (by unfold Func.isWrapper; first | (rw [if_pos (by decide +kernel)]; kernel_rfl) | (rw [if_neg (by decide +kernel)]; exact ⟨rfl, rfl⟩))
    (fun os started H enc _ => lifted os started H enc)
#print axioms proved
end Go.Proofs.Ytkahaccefkdbjaa.crcRows
