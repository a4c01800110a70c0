/-
  What More and Sum come to.
-/
import Derived.Test.YtpihblbpmmdmmaaCTab
import Derived.Test.YtpihblbpmmdmmaaByte
namespace Go.Proofs.Ytpihblbpmmdmmaa
open Go.RowKit

theorem not_spell {x : Nat} (h : x < 4294967296) : bits .xor .u32 IntKind.u32.max (x : Int) = ((inv x : Nat) : Int) := by
  have := u32_xor_nat 4294967295 x (by omega) h
  rw [Nat.xor_comm] at this
  exact this

theorem low_spell (x : Nat) (c : UInt8) : bits .xor .u8 ((x : Int) % 256) (c.toNat : Int) = ((x % 256 ^^^ c.toNat : Nat) : Int) := by
  have := u8_xor_nat (x % 256) c.toNat (by omega) (UInt8.toNat_lt c)
  simpa using this

theorem low_lt (x : Nat) (c : UInt8) : x % 256 ^^^ c.toNat < 256 := xor_lt8 (by omega) (UInt8.toNat_lt c)

theorem crcB_spell {x : Nat} (h : x < 4294967296) (c : UInt8) : bits .xor .u32 ((steps8 (x % 256 ^^^ c.toNat) : Nat) : Int) ((x : Int) / 256) = ((crcB x c : Nat) : Int) := by
  rw [crcB_table]
  exact u32_xor_nat _ (x / 256) (steps8_lt (by have := low_lt x c; omega)) (by omega)

theorem tab_read (w : World) {i : Nat} (h : i < 256) (t : TypeId) : (w.alloc (.cells (tabC 256) t)).cell? ⟨w.heap.size, i, none⟩ = some (.int .u32 ((steps8 i : Nat) : Int)) := by
  rw [cell_of_row _ w.heap.size i _ t (0, 0) (heap_alloc_new w _), tabC_at 256 h, if_pos h]

/-- A world where the table lies in the block tb. -/
def Tab (w : World) (tb : Nat) : Prop := ∀ i, i < 256 → w.cell? ⟨tb, i, none⟩ = some (.int .u32 ((steps8 i : Nat) : Int))

theorem Tab.below {w w' : World} {tb : Nat} (h : Tab w tb) (hb : Below w.heap.size w w') : Tab w' tb := fun i hi =>
  (hb.cell (p := ⟨tb, i, none⟩) (World.block_lt_of_cell? _ _ (h i hi))).trans (h i hi)

/-- What a walk asks of the table, its cells being whatever. -/
def TabIs (Z T : Array Value) : Prop :=
  (∀ w, (zeroValue 52).run Try.prog w = .ok (.agg Z) w) ∧ (Try.prog.info? 52).map (·.size) = some T.size ∧ Z.size = T.size ∧ T.all (·.oneCell') = true ∧
  (∀ w : World, Tab (w.alloc (.cells T 52)) w.heap.size) ∧
  ∀ w, Calls Try.prog 31 #[] w fun e w' => e = .returned (.agg T) ∧ Below w.heap.size w w'

theorem tab_is : ∃ Z T, TabIs Z T := by
  obtain ⟨hz, hsz⟩ := zero_of_info tabInfo
  exact ⟨tabC 0, tabC 256, hz, by rw [tabC_size]; exact hsz, by rw [tabC_size, tabC_size], tabC_one _, fun w i hi => tab_read w hi _, table_any⟩

set_option maxHeartbeats 1600000 in
set_option maxRecDepth 20000 in
theorem more_any (s : Nat) (hs : s < 4294967296) {R : Nat} (A : Option Addr) (c : Nat) (l : List UInt8) (w : World) (h : Bys w R A l) (hn : l.length ≤ 1000000) :
    Calls Try.prog 29 #[.int .u32 (s : Int), .slice A l.length c] w fun e w' => e = .returned (.int .u32 ((crcM s l : Nat) : Int)) ∧ Below w.heap.size w w' := by
  obtain ⟨Z, T, hz, hi, hZT, h1, hT, hcall⟩ := tab_is
  have HI := Lib.hid hi
  have HZ := Lib.hid hZT
  have H1 := Lib.hid h1
  have HT := Lib.hid hT
  have HC := Lib.hid hcall
  clear hi hZT h1 hT hcall
  go_enter Try.func29, Try.ntmps29
  go_wp2_with fail
  refine (HC.out _).mono ?_
  rintro e w1 ⟨rfl, b1⟩
  have h1 := h.kept b1
  clear h
  go_wp2_with (refine wpList_store_row rfl 52 (.tmp 5) (.tmp 9) rfl w1.heap.size T rfl rfl 52 Z (heap_alloc_new w1 _) HI.out HZ.out H1.out ?_; rw [World.setRow_alloc_new])
  rw [not_spell hs]
  have T2 := HT.out w1
  have h2 := h1.alloc (.cells T 52)
  have b2 : Below w.heap.size w (w1.alloc (.cells T 52)) := b1.alloc b1.size _
  have HB := Lib.hid b2
  have hb1 := b1.size
  clear h1 HT HC H1 HZ HI hz b1 b2
  generalize w1.alloc (.cells T 52) = w2 at *
  generalize w1.heap.size = tb at *
  have hv := inv_lt hs
  have HE := Lib.hid (show crcM s l = inv (crcF (inv s) l) from rfl)
  generalize inv s = v at *
  go_loopw [6, 14] (fun x i wr => ∃ k : Nat, k ≤ l.length ∧ i = .int .i64 k ∧ x = .int .u32 ((crcF v (l.take k) : Nat) : Int) ∧ wr = w2) (fun _ i _ => l.length - (intOf i).toNat)
  case atStart => exact ⟨0, by omega, rfl, rfl, rfl⟩
  case round =>
    obtain ⟨k, hk, rfl, rfl, rfl⟩ := hrel
    by_cases hlt : k < l.length
    · obtain ⟨b, off, z, rfl, hb, hz, hc⟩ := h2.at_ hlt
      have HN := Lib.hid (crcF_take v hz)
      have hx := crcF_lt (l.take k) hv
      generalize crcF v (l.take k) = x at *
      have hix := low_spell x z
      have hil := low_lt x z
      have hcell := T2 _ hil
      have HX := Lib.hid (crcB_spell hx z)
      clear hz
      generalize x % 256 ^^^ z.toNat = ix at *
      go_wp2_with fail
      refine ⟨⟨k + 1, by omega, by go_num, ?_, trivial⟩, by simp [intOf]; omega⟩
      rw [HX.out, HN.out]
    · obtain rfl : k = l.length := by omega
      rw [List.take_length]
      have hx := crcF_lt l hv
      have HX := Lib.hid (not_spell hx)
      generalize crcF v l = x at *
      go_wp2_with fail
      go_ret
      refine ⟨ret_num ?_, HB.out⟩
      rw [HX.out, HE.out]

theorem more_n (s : Nat) (hs : s < 4294967296) {R : Nat} (A : Option Addr) (n c : Nat) (l : List UInt8) (w : World) (h : Bys w R A l) (hl : l.length = n) (hn : n ≤ 1000000) :
    Calls Try.prog 29 #[.int .u32 (s : Int), .slice A n c] w fun e w' => e = .returned (.int .u32 ((crcM s l : Nat) : Int)) ∧ Below w.heap.size w w' := by
  subst hl
  exact more_any s hs A c l w h hn

set_option maxHeartbeats 400000 in
theorem sum_n {R : Nat} (A : Option Addr) (n c : Nat) (l : List UInt8) (w : World) (h : Bys w R A l) (hl : l.length = n) (hn : n ≤ 1000000) :
    Calls Try.prog 23 #[.slice A n c] w fun e w' => e = .returned (.int .u32 ((crcM 0 l : Nat) : Int)) ∧ Below w.heap.size w w' := by
  have HM := Lib.hid (more_n 0 (by omega) A n c l w h hl hn)
  generalize crcM 0 l = x at *
  go_enter Try.func23, Try.ntmps23
  go_wp2_with fail
  refine HM.out.mono ?_
  rintro e w1 ⟨rfl, b1⟩
  go_wp2_with fail
  go_ret
  exact ⟨rfl, b1⟩
end Go.Proofs.Ytpihblbpmmdmmaa
