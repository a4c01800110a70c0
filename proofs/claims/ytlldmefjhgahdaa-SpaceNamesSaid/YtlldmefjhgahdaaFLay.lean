/-
  What the closure that lays numbers comes to, and what makes it.
-/
import Derived.Test.YtlldmefjhgahdaaOwnB
import Derived.Test.YtlldmefjhgahdaaFPure
import Derived.Deep.RegionLaw
import Derived.Deep.AppendLies
namespace Go.Proofs.Ytlldmefjhgahdaa
open Go.RowKit

/-- The array's cells, of which the last j are laid. -/
def wdC (x : Nat) : Nat → Array Value
  | 0 => #[.int .u8 0, .int .u8 0, .int .u8 0, .int .u8 0]
  | 1 => #[.int .u8 0, .int .u8 0, .int .u8 0, .int .u8 ((x : Int) % 256)]
  | 2 => #[.int .u8 0, .int .u8 0, .int .u8 ((x : Int) / 256 % 256), .int .u8 ((x : Int) % 256)]
  | 3 => #[.int .u8 0, .int .u8 ((x : Int) / 256 / 256 % 256), .int .u8 ((x : Int) / 256 % 256), .int .u8 ((x : Int) % 256)]
  | _ => #[.int .u8 ((x : Int) / 256 / 256 / 256), .int .u8 ((x : Int) / 256 / 256 % 256), .int .u8 ((x : Int) / 256 % 256), .int .u8 ((x : Int) % 256)]

/-- What is left of the number. -/
def lft (x : Nat) : Nat → Int
  | 0 => x
  | 1 => (x : Int) / 256
  | 2 => (x : Int) / 256 / 256
  | 3 => (x : Int) / 256 / 256 / 256
  | _ => (x : Int) / 256 / 256 / 256 / 256

theorem wd_bv {x : Nat} (hx : x < 4294967296) {d : Nat} : (wdC x 4).toList.drop (4 - d) = bv (be d x) := by
  unfold be bv
  rw [List.map_drop]
  congr 1
  show [Value.int .u8 ((x : Int) / 256 / 256 / 256), .int .u8 ((x : Int) / 256 / 256 % 256), .int .u8 ((x : Int) / 256 % 256), .int .u8 ((x : Int) % 256)] =
    [Value.int .u8 ((UInt8.ofNat (x / 16777216)).toNat : Int), .int .u8 ((UInt8.ofNat (x / 65536)).toNat : Int), .int .u8 ((UInt8.ofNat (x / 256)).toNat : Int), .int .u8 ((UInt8.ofNat x).toNat : Int)]
  rw [ofNat_toNat, ofNat_toNat, ofNat_toNat, ofNat_toNat]
  simp only [List.cons.injEq, Value.int.injEq, and_true, true_and]
  omega

theorem lay_news (w : World) {x : Nat} (hx : x < 4294967296) {d : Nat} (t : TypeId) : ∀ j u, (bv (be d x))[j]? = some u → (w.alloc (.cells (wdC x 4) t)).drew.cell? ((⟨w.heap.size, 4 - d, none⟩ : Addr).add j) = some u := by
  intro j u h
  rw [← wd_bv hx, List.getElem?_drop] at h
  have e : (w.alloc (.cells (wdC x 4) t)).drew.heap[w.heap.size]? = some (.cells (wdC x 4) t) := heap_alloc_new w _
  rw [addr_add, cell_of_row _ w.heap.size (4 - d + j) _ t (0, 0) e]
  simpa using h

/-- Bytes that grow: a value in the block fb, a pointer to it in the block pb; nothing below B is touched. -/
structure LayAt (w : World) (B fb pb base : Nat) (l : List UInt8) : Prop where
  bf : B ≤ fb
  bp : B ≤ pb
  fl : fb < base
  pl : pb < base
  ne : fb ≠ pb
  sz : base ≤ w.heap.size
  cp : w.cell? ⟨pb, 0, none⟩ = some (.pointer (some ⟨fb, 0, none⟩))
  ff : w.frozen? ⟨fb, 0, none⟩ = false
  cf : ∃ v, w.cell? ⟨fb, 0, none⟩ = some v ∧ Own w base v l

theorem fown_of_block {w w' : World} {base : Nat} {v : Value} {l : List UInt8} (h : Own w base v l) (hk : ∀ k, v.ownBlock = some k → w'.heap[k]? = w.heap[k]?) : Own w' base v l := by
  obtain ⟨h1, h2⟩ := h
  refine ⟨h1, ?_⟩
  rcases h2 with h2 | ⟨g, cap, cur, hv, hg, hh, r⟩
  · exact Or.inl h2
  · exact Or.inr ⟨g, cap, cur, hv, hg, by rw [hk g (by rw [hv]; rfl)]; exact hh, r⟩

section
variable {w w' : World} {B fb pb base : Nat} {l m : List UInt8}

theorem LayAt.below (h : LayAt w B fb pb base l) (hb : Below w.heap.size w w') : LayAt w' B fb pb base l := by
  obtain ⟨v, h1, h2⟩ := h.cf
  have := h.fl
  have := h.pl
  have := h.sz
  exact ⟨h.bf, h.bp, h.fl, h.pl, h.ne, Nat.le_trans h.sz hb.size, (hb.cell (p := ⟨pb, 0, none⟩) (by simp only; omega)).trans h.cp, (hb.frozen (p := ⟨fb, 0, none⟩) (by simp only; omega)).trans h.ff,
    v, (hb.cell (p := ⟨fb, 0, none⟩) (by simp only; omega)).trans h1, own_below h2 hb⟩

/-- A longer value is written. -/
theorem LayAt.put (h : LayAt w B fb pb base l) {w1 : World} {row : Option Nat} {v1 : Value} (hg : w.grownBy w1 row) (hr : ∀ k, row = some k → base ≤ k) (ho : Own w1 base v1 m) : LayAt (w1.setCell ⟨fb, 0, none⟩ v1) B fb pb base m := by
  have hf := h.fl
  have hp := h.pl
  have hs := h.sz
  have hs1 := hg.size
  have e1 : w1.heap[fb]? = w.heap[fb]? := hg.block fb (by omega) (fun e => by have := hr fb e.symm; omega)
  have e2 : w1.heap[pb]? = w.heap[pb]? := hg.block pb (by omega) (fun e => by have := hr pb e.symm; omega)
  obtain ⟨v, c1, _⟩ := h.cf
  have c2 : w1.cell? ⟨fb, 0, none⟩ = some v := (World.cell?_of_block (a := ⟨fb, 0, none⟩) e1).trans c1
  have f2 : w1.frozen? ⟨fb, 0, none⟩ = false := (World.frozen?_of_block (a := ⟨fb, 0, none⟩) e1).trans h.ff
  have c3 : w1.cell? ⟨pb, 0, none⟩ = some (.pointer (some ⟨fb, 0, none⟩)) := (World.cell?_of_block (a := ⟨pb, 0, none⟩) e2).trans h.cp
  refine ⟨h.bf, h.bp, hf, hp, h.ne, ?_, ?_, ?_, v1, ?_, ?_⟩
  · simp [World.setCell]; omega
  · rw [World.cell?_setCell_other _ _ _ _ (fun e => h.ne (congrArg Addr.block e))]; exact c3
  · simpa using f2
  · exact World.cell?_setCell_same _ _ _ c2
  · exact fown_of_block ho (fun k hk => Below.heap_setCell _ _ _ _ (fun e => by have := (ho.lt k hk).1; simp only at e; omega))

set_option maxRecDepth 20000 in
theorem lay_done {w2 : World} {C : Array Value} {t : TypeId} {v v2 : Value} {d x : Nat} (h : LayAt w B fb pb base l) (hd : d ≤ 4) (hgrow : (w.alloc (.cells C t)).drew.grownBy w2 v.ownBlock) (o1 : (w.alloc (.cells C t)).ownsRow base 5 1 v l.length (bv l))
    (hown2 : w2.ownsRow base 5 1 v2 (l.length + d) (bv l ++ bv (be d x))) : LayAt (w2.setCell ⟨fb, 0, none⟩ v2) B fb pb base (l ++ be d x) ∧ Below B w (w2.setCell ⟨fb, 0, none⟩ v2) := by
  have hB : B ≤ w.heap.size := by have := h.bf; have := h.fl; have := h.sz; omega
  have hg : (w.alloc (.cells C t)).grownBy w2 v.ownBlock := ⟨hgrow.os, hgrow.tape, hgrow.output, hgrow.size, hgrow.block⟩
  refine ⟨(h.below (below_one w _)).put hg (fun k hk => (o1.lt k hk).1) ?_, ?_⟩
  · unfold Own
    rw [bv_append, List.length_append, be_length x hd]
    exact hown2
  · refine Below.setCell (((Below.refl _ _).alloc hB _).grown hg (by simp; omega) (fun g hg => ?_)) (p := ⟨fb, 0, none⟩) h.bf _
    have := (o1.lt g hg).1
    have := h.bf
    have := h.fl
    omega
end

set_option maxRecDepth 20000 in
set_option maxHeartbeats 1600000 in
theorem lay_any (x : Nat) (hx : x < 4294967296) (d : Nat) (hd : d = 1 ∨ d = 2 ∨ d = 4) (w : World) (B fb pb base : Nat) (l : List UInt8) (h : LayAt w B fb pb base l) (hl : l.length ≤ 1000000) :
    Calls Try.prog 65 #[.int .u32 (x : Int), .int .i64 d, .pointer (some ⟨pb, 0, none⟩)] w fun e w' => e = .returned (.tuple #[]) ∧ LayAt w' B fb pb base (l ++ be d x) ∧ Below B w w' := by
  obtain ⟨i0, hi, hz0, hz1, hz2⟩ := info_parts byteInfo
  go_enter Try.func65, Try.ntmps65
  go_wp2_with fail
  go_loopw [0, 6] (fun v i wr => ∃ j : Nat, j ≤ 4 ∧ i = .int .i64 (3 - (j : Int)) ∧ v = .int .u32 (lft x j) ∧ wr = w.alloc (.cells (wdC x j) 85)) (fun _ i _ => (intOf i + 1).toNat)
  case atStart => exact ⟨0, by omega, rfl, rfl, rfl⟩
  case round =>
    obtain ⟨j, hj, rfl, rfl, rfl⟩ := hrel
    by_cases hlt : j < 4
    · rcases (show j = 0 ∨ j = 1 ∨ j = 2 ∨ j = 3 by omega) with rfl | rfl | rfl | rfl
      · rw [show lft x 0 = (x : Int) from rfl, show wdC x 0 = #[.int .u8 0, .int .u8 0, .int .u8 0, .int .u8 0] from rfl]
        go_wp2_with fail
        exact ⟨⟨1, by omega, rfl, rfl, rfl⟩, by decide⟩
      · rw [show lft x 1 = (x : Int) / 256 from rfl, show wdC x 1 = #[.int .u8 0, .int .u8 0, .int .u8 0, .int .u8 ((x : Int) % 256)] from rfl]
        go_wp2_with fail
        exact ⟨⟨2, by omega, rfl, rfl, rfl⟩, by decide⟩
      · rw [show lft x 2 = (x : Int) / 256 / 256 from rfl, show wdC x 2 = #[.int .u8 0, .int .u8 0, .int .u8 ((x : Int) / 256 % 256), .int .u8 ((x : Int) % 256)] from rfl]
        go_wp2_with fail
        exact ⟨⟨3, by omega, rfl, rfl, rfl⟩, by decide⟩
      · rw [show lft x 3 = (x : Int) / 256 / 256 / 256 from rfl, show wdC x 3 = #[.int .u8 0, .int .u8 ((x : Int) / 256 / 256 % 256), .int .u8 ((x : Int) / 256 % 256), .int .u8 ((x : Int) % 256)] from rfl]
        go_wp2_with fail
        exact ⟨⟨4, by omega, rfl, rfl, rfl⟩, by decide⟩
    · obtain rfl : j = 4 := by omega
      have hN := fun d => lay_news w hx (d := d) 85
      have HN := Lib.hid hN
      have h1 := h.below (below_one w (.cells (wdC x 4) 85))
      have hsz := h.sz
      have hff := h.ff
      have H0 := Lib.hid h
      obtain ⟨v, c1, o1⟩ := h1.cf
      have c2 := h1.cp
      have f1 := h1.ff
      have hfl := h.fl
      have hpl := h.pl
      have hgf : fb < (w.alloc (.cells (wdC x 4) 85)).drew.heap.size := by have := h1.fl; have := h1.sz; simp at *; omega
      have hgp : pb < (w.alloc (.cells (wdC x 4) 85)).drew.heap.size := by have := h1.pl; have := h1.sz; simp at *; omega
      generalize wdC x 4 = C at *
      generalize lft x 4 = y at *
      clear hN h h1
      unfold Own at o1
      have nf : v.ownBlock ≠ some fb := fun e => by have := (o1.lt _ e).1; omega
      have np : v.ownBlock ≠ some pb := fun e => by have := (o1.lt _ e).1; omega
      have k3 : IntKind.i64.wrap 3 = 3 := rfl
      have k2 : IntKind.i64.wrap 2 = 2 := rfl
      have k0 : IntKind.i64.wrap 0 = 0 := rfl
      rcases hd with rfl | rfl | rfl
      · go_wp2_with fail
        go_region_law
          ((refine step_append_lies _ (by rfl) _ _ _ (by rfl) base 5 i0 _ 1 1 Try.underlying59 hi hz0 hz1 hz2 rfl (by omega) v l.length (bv l) (by rfl) o1.drew
              ⟨w.heap.size, 3, none⟩ 1 1 (bv (be 1 x)) (by rfl) (by rfl) (HN.out 1) (bv_one _)
              (by omega) (by unfold maxLen; omega) (by omega) (by simp; omega) (w.heap.size + 1) (by simp) ?_; intro gg cap w2 hown2 hgrow hat hlt2; have T0 : w2.cell? ⟨pb, 0, none⟩ = some (.pointer (some ⟨fb, 0, none⟩)) := (hgrow.cell_far _ hgp np.symm).trans c2; have T1 : w2.cell? ⟨fb, 0, none⟩ = some v := (hgrow.cell_far _ hgf nf.symm).trans c1; have T2 : w2.frozen? ⟨fb, 0, none⟩ = false := (World.frozen?_of_block (a := ⟨fb, 0, none⟩) (hgrow.block fb hgf nf.symm)).trans f1))
        all_goals (go_end0; exact ⟨rfl, lay_done H0.out (by omega) hgrow o1 hown2⟩)
      · go_wp2_with fail
        go_region_law
          ((refine step_append_lies _ (by rfl) _ _ _ (by rfl) base 5 i0 _ 1 1 Try.underlying59 hi hz0 hz1 hz2 rfl (by omega) v l.length (bv l) (by rfl) o1.drew
              ⟨w.heap.size, 2, none⟩ 2 2 (bv (be 2 x)) (by rfl) (by rfl) (HN.out 2) (bv_one _)
              (by omega) (by unfold maxLen; omega) (by omega) (by simp; omega) (w.heap.size + 1) (by simp) ?_; intro gg cap w2 hown2 hgrow hat hlt2; have T0 : w2.cell? ⟨pb, 0, none⟩ = some (.pointer (some ⟨fb, 0, none⟩)) := (hgrow.cell_far _ hgp np.symm).trans c2; have T1 : w2.cell? ⟨fb, 0, none⟩ = some v := (hgrow.cell_far _ hgf nf.symm).trans c1; have T2 : w2.frozen? ⟨fb, 0, none⟩ = false := (World.frozen?_of_block (a := ⟨fb, 0, none⟩) (hgrow.block fb hgf nf.symm)).trans f1))
        all_goals (go_end0; exact ⟨rfl, lay_done H0.out (by omega) hgrow o1 hown2⟩)
      · go_wp2_with fail
        go_region_law
          ((refine step_append_lies _ (by rfl) _ _ _ (by rfl) base 5 i0 _ 1 1 Try.underlying59 hi hz0 hz1 hz2 rfl (by omega) v l.length (bv l) (by rfl) o1.drew
              ⟨w.heap.size, 0, none⟩ 4 4 (bv (be 4 x)) (by rfl) (by rfl) (HN.out 4) (bv_one _)
              (by omega) (by unfold maxLen; omega) (by omega) (by simp; omega) (w.heap.size + 1) (by simp) ?_; intro gg cap w2 hown2 hgrow hat hlt2; have T0 : w2.cell? ⟨pb, 0, none⟩ = some (.pointer (some ⟨fb, 0, none⟩)) := (hgrow.cell_far _ hgp np.symm).trans c2; have T1 : w2.cell? ⟨fb, 0, none⟩ = some v := (hgrow.cell_far _ hgf nf.symm).trans c1; have T2 : w2.frozen? ⟨fb, 0, none⟩ = false := (World.frozen?_of_block (a := ⟨fb, 0, none⟩) (hgrow.block fb hgf nf.symm)).trans f1))
        all_goals (go_end0; exact ⟨rfl, lay_done H0.out (by omega) hgrow o1 hown2⟩)
end Go.Proofs.Ytlldmefjhgahdaa
