/-
  What hold comes to: a frame comes to hold a sector's bytes, and is used.
-/
import Derived.Test.YtgkdlbcpckdmkaaPMeth
namespace Go.Proofs.Ytgkdlbcpckdmkaa
open Go.RowKit

section
variable {F D : Nat → Prop} {pb fb cb rb db : Nat} {g : Nat → Value} {s : PP}

theorem useS_n' (c : CS) (i : Int) : (c.useS i).n = c.n := by
  unfold CS.useS CS.setU
  split <;> rfl

/-- The clock was told of a use, behind a call. -/
theorem PoolAt.use {w w' : World} (h : PoolAt w F D pb fb cb rb db g s) (i : Nat) {v : Value} {e : Ending} (hg : CGoes w cb rb (s.c.useS i) v e w') : e = .returned v ∧ PoolAt w' F D pb fb cb rb db g (s.used i) ∧ Moves w F w' F := by
  obtain ⟨he, hc, hk⟩ := hg
  exact ⟨he, h.clock (useS_n' _ _) hc hk, hk.more (by rintro k (rfl | rfl); exact h.core.fc; exact h.core.fr), fun _ hF => Or.inl hF⟩

theorem hold_laid {w w2 w3 : World} (h : PoolAt w F D pb fb cb rb db g s) {i : Nat} {n : Int} (hn : s.k.has n = true) {v : Value} {l : List UInt8} (hl : l.length ≤ 1024)
    (e2 : w2 = (w.setCell ⟨fb, i * 4 + 1, none⟩ (.int .i64 n)).setCell ⟨fb, i * 4 + 2, none⟩ (.bool true)) (ho : Own w3 w2.heap.size v l) (hb : Below w2.heap.size w2 w3) :
    PoolAt (w3.setCell ⟨fb, i * 4, none⟩ v) (fun k => F k ∨ w.heap.size ≤ k ∧ k < (w3.setCell ⟨fb, i * 4, none⟩ v).heap.size) D pb fb cb rb db (at1 g i v) (s.lay i n l (s.d i)) ∧ Kept (· = fb) w (w3.setCell ⟨fb, i * 4, none⟩ v) := by
  have k2 : Kept (· = fb) w w2 := by
    rw [e2]
    exact (Kept.setCell (F := (· = fb)) w (a := ⟨fb, i * 4 + 1, none⟩) rfl _).next (Kept.setCell (F := (· = fb)) _ (a := ⟨fb, i * 4 + 2, none⟩) rfl _)
  have r2 : w2.rowIs fb 69 (s.m * 4) (frc g (at1 s.sec i n) (at1 s.ful i true) s.d) := by
    rw [e2]
    have r1 := (h.row.set (i * 4 + 1) (.int .i64 n)).congr (fun k _ => frc_set1 g s.sec s.ful s.d i n k)
    exact (r1.set (i * 4 + 2) (.bool true)).congr (fun k _ => frc_set2 g _ s.ful s.d i true k)
  have r3 := r2.of_block (hb.block _ r2.lt)
  have r4 := (r3.set (i * 4) v).congr (fun k _ => frc_set0 g (at1 s.sec i n) (at1 s.ful i true) s.d i v k)
  have k3 : Kept (· = fb) w (w3.setCell ⟨fb, i * 4, none⟩ v) := (k2.next (Kept.below hb _)).next (Kept.setCell (F := (· = fb)) _ (a := ⟨fb, i * 4, none⟩) rfl _)
  have hs : w2.heap.size = w.heap.size := by rw [e2]; simp [World.setCell]
  refine ⟨h.laid hn hl k3 ?_ r4, k3⟩
  rw [hs] at ho
  refine own_of_block ho (fun q hq => Below.heap_setCell _ _ _ _ (fun e => ?_))
  have h1 := (ho.lt q hq).1
  have h2 := h.core.lt fb h.core.ff
  have h3 : q = fb := e
  omega

set_option maxRecDepth 20000 in
set_option maxHeartbeats 800000 in
theorem hold_any (w : World) (i : Nat) (hi : i < s.m) (n : Int) (hn : s.k.has n = true) (A : Option Addr) (m c : Nat) (l : List UInt8) (hl : l.length = m) (h24 : m ≤ 1024) (hx : Out w F A l) (hz : A = none → m = 0 ∧ c = 0) (h : PoolAt w F D pb fb cb rb db g s) :
    Calls Try.prog 28 #[.pointer (some ⟨pb, 0, none⟩), .int .i64 i, .int .i64 n, .slice A m c] w (PEnd w F pb fb cb rb db ((s.lay i n l (s.d i)).used i) (.tuple #[])) := by
  have hm := h.core.m1.2
  have c1 := h.core.c1
  have d1 := h.s1 hi
  have d2 := h.s2 hi
  have f1 := h.sf (i * 4 + 1)
  have f2 := h.sf (i * 4 + 2)
  have H := Lib.hid h
  have HL := Lib.hid (show l.length ≤ 1024 by omega)
  have HN := Lib.hid hn
  have HX : Hid (Out ((w.setCell ⟨fb, i * 4 + 1, none⟩ (.int .i64 n)).setCell ⟨fb, i * 4 + 2, none⟩ (.bool true)) F A l) :=
    hx.kept ((Kept.setCell (F := F) w (a := ⟨fb, i * 4 + 1, none⟩) h.core.ff _).next (Kept.setCell (F := F) _ (a := ⟨fb, i * 4 + 2, none⟩) h.core.ff _))
  have HI := Lib.hid hi
  have HE := Lib.hid hl
  have HZ := Lib.hid hz
  clear h hn hx hl hz
  go_enter Try.func28, Try.ntmps28
  go_wp2_with fail
  have HR : Hid (((w.setCell ⟨fb, i * 4 + 1, none⟩ (.int .i64 n)).setCell ⟨fb, i * 4 + 2, none⟩ (.bool true)).rowIs fb 69 (s.m * 4) (frc g (at1 s.sec i n) (at1 s.ful i true) s.d)) :=
    ((((H.out.row.set (i * 4 + 1) (.int .i64 n)).congr (fun k _ => frc_set1 g s.sec s.ful s.d i n k)).set (i * 4 + 2) (.bool true)).congr (fun k _ => frc_set2 g _ s.ful s.d i true k))
  refine (play_any fb (i * 4) A m c _ l (g i) _ HX.out.bys HE.out (by omega) HZ.out ((HR.out.cell (by have := HI.out; omega)).trans (by rw [frc_0])) (HR.out.frozen _)).mono ?_
  rintro e w4 ⟨v, w3, rfl, ho, hb, rfl⟩
  obtain ⟨p4, k4⟩ := hold_laid H.out HN.out HL.out rfl ho hb
  have c2 := p4.core.c2
  have P4 := Lib.hid p4
  have K4 := Lib.hid k4
  clear p4 k4 ho hb c1 d1 d2 f1 f2 HR HX
  go_wp2_with fail
  refine (use_any _ (i : Int) P4.out.core.clk).mono ?_
  rintro e w5 hu
  obtain ⟨rfl, p5, m5⟩ := P4.out.use i hu
  have P5 := Lib.hid p5
  have M5 := Lib.hid m5
  clear p5 m5 hu c2
  go_wp2_with fail
  go_end0
  exact ⟨rfl, _, D, _, P5.out, (Moves.new (K4.out.more (by rintro k rfl; exact H.out.core.ff))).trans M5.out⟩
end
end Go.Proofs.Ytgkdlbcpckdmkaa
