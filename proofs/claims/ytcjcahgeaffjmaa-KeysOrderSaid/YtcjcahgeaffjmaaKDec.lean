/-
  What keys.Decode comes to, at any bytes (at most 1000000).
-/
import Derived.Test.YtcjcahgeaffjmaaKCatch
import Derived.Test.YtcjcahgeaffjmaaCmpRow
import Derived.Deep.RegionWith
import Derived.Deep.RegionLaw
import Derived.Deep.AppendLies
import Derived.RegionDies
import Derived.Outline
namespace Go.Proofs.Ytcjcahgeaffjmaa
open Go.RowKit

/-- Where the row's beginning is ys, and rest is left. -/
def Decs (l : List UInt8) (ys : List Val) (rest : List UInt8) : Prop := dec l = (dec rest).map (ys ++ ·)

theorem Decs.start (l : List UInt8) : Decs l [] l := by
  unfold Decs
  simp
theorem Decs.step {l rest r : List UInt8} {ys : List Val} {v : Val} (h : Decs l ys rest) (hv : valD rest = some (v, r)) (h0 : chkV v = 0) : Decs l (ys ++ [v]) r := by
  unfold Decs at h ⊢
  rw [h, dec_some hv, if_pos h0, Option.map_map]
  congr 1
  funext p
  simp
theorem Decs.done {l : List UInt8} {ys : List Val} (h : Decs l ys []) : dec l = some ys := by
  unfold Decs at h
  rw [h, dec_nil]
  simp
theorem Decs.bad {l rest r : List UInt8} {ys : List Val} {v : Val} (h : Decs l ys rest) (hv : valD rest = some (v, r)) (h0 : ¬ chkV v = 0) : dec l = none := by
  unfold Decs at h
  rw [h, dec_some hv, if_neg h0]
  rfl
theorem Decs.none_ {l rest : List UInt8} {ys : List Val} (h : Decs l ys rest) (hr : rest ≠ []) (hv : valD rest = none) : dec l = none := by
  unfold Decs at h
  rw [h, dec_none hr hv]
  rfl

/-- What Decode holds while it goes on: the row so far in block B, the error in block B + 1, the reader in block B + 2. -/
structure DecMem (w : World) (B : Nat) (v : Value) (ys : List Val) (rest : List UInt8) : Prop where
  c0 : w.cell? ⟨B, 0, none⟩ = some v
  f0 : w.frozen? ⟨B, 0, none⟩ = false
  c1 : w.cell? ⟨B + 1, 0, none⟩ = some (.int .i64 0)
  f1 : w.frozen? ⟨B + 1, 0, none⟩ = false
  own : w.ownsRow (B + 3) 38 3 v ys.length (rowVals ys)
  rdr : Rdr w (B + 1 + 1) rest

theorem DecMem.lt {w : World} {B : Nat} {v : Value} {ys : List Val} {rest : List UInt8} (h : DecMem w B v ys rest) : B + 1 + 1 < w.heap.size := h.rdr.lt

theorem DecMem.grown {w w' : World} {B : Nat} {v : Value} {ys : List Val} {rest r : List UInt8} (h : DecMem w B v ys rest) (hg : w.grownBy w' (some (B + 1 + 1))) (hr : Rdr w' (B + 1 + 1) r) : DecMem w' B v ys r := by
  have hl := h.lt
  have e0 : w'.heap[B]? = w.heap[B]? := hg.block B (by omega) (fun e => by injection e with e; omega)
  have e1 : w'.heap[B + 1]? = w.heap[B + 1]? := hg.block (B + 1) (by omega) (fun e => by injection e with e; omega)
  refine ⟨(World.cell?_of_block (a := ⟨B, 0, none⟩) e0).trans h.c0, (World.frozen?_of_block (a := ⟨B, 0, none⟩) e0).trans h.f0, (World.cell?_of_block (a := ⟨B + 1, 0, none⟩) e1).trans h.c1, (World.frozen?_of_block (a := ⟨B + 1, 0, none⟩) e1).trans h.f1, h.own.kept hg ?_, hr⟩
  cases e : v.ownBlock with
  | none => exact Or.inl rfl
  | some g =>
    right
    intro e'
    have := (h.own.lt g e).1
    injection e' with e'
    omega

theorem DecMem.kept {w w' : World} {B : Nat} {v : Value} {ys : List Val} {rest : List UInt8} (h : DecMem w B v ys rest) (hb : Below w.heap.size w w') : DecMem w' B v ys rest := by
  have hl := h.lt
  have hg : w.grownBy w' none := ⟨hb.os, hb.tape, hb.output, hb.size, fun k hk _ => hb.block k hk⟩
  refine ⟨(hb.cell (p := ⟨B, 0, none⟩) (by simp only; omega)).trans h.c0, (hb.frozen (p := ⟨B, 0, none⟩) (by simp only; omega)).trans h.f0, (hb.cell (p := ⟨B + 1, 0, none⟩) (by simp only; omega)).trans h.c1, (hb.frozen (p := ⟨B + 1, 0, none⟩) (by simp only; omega)).trans h.f1, h.own.kept hg ?_, h.rdr.kept hb⟩
  cases e : v.ownBlock with
  | none => exact Or.inl rfl
  | some g => exact Or.inr (by simp)

theorem DecMem.drew {w : World} {B : Nat} {v : Value} {ys : List Val} {rest : List UInt8} (h : DecMem w B v ys rest) : DecMem w.drew B v ys rest := ⟨h.c0, h.f0, h.c1, h.f1, h.own, h.rdr⟩

theorem DecMem.cells {w w' : World} {B : Nat} {v : Value} {ys : List Val} {rest : List UInt8} (h : DecMem w B v ys rest) (hg : w.grownBy w' (some (B + 1 + 1))) :
    w'.cell? ⟨B, 0, none⟩ = some v ∧ w'.frozen? ⟨B, 0, none⟩ = false ∧ w'.cell? ⟨B + 1, 0, none⟩ = some (.int .i64 0) ∧ w'.frozen? ⟨B + 1, 0, none⟩ = false := by
  have hl := h.lt
  have e0 : w'.heap[B]? = w.heap[B]? := hg.block B (by omega) (fun e => by injection e with e; omega)
  have e1 : w'.heap[B + 1]? = w.heap[B + 1]? := hg.block (B + 1) (by omega) (fun e => by injection e with e; omega)
  exact ⟨(World.cell?_of_block (a := ⟨B, 0, none⟩) e0).trans h.c0, (World.frozen?_of_block (a := ⟨B, 0, none⟩) e0).trans h.f0, (World.cell?_of_block (a := ⟨B + 1, 0, none⟩) e1).trans h.c1, (World.frozen?_of_block (a := ⟨B + 1, 0, none⟩) e1).trans h.f1⟩

def errB (l : List UInt8) : Int := if (dec l).isSome then 0 else 20

/-- What Decode answers. -/
def DecEnd (w : World) (l : List UInt8) (e : Ending) (w' : World) : Prop :=
  ∃ A c, e = .returned (.tuple #[.slice A ((dec l).getD []).length c, .int .i64 (errB l)]) ∧ Row w' A ((dec l).getD []) ∧ Below w.heap.size w w'

theorem DecMem.slice {w : World} {B : Nat} {v : Value} {ys : List Val} {rest : List UInt8} (h : DecMem w B v ys rest) : ∃ A c, v = .slice A ys.length c ∧ Row w A ys := row_of_own h.own

/-- A method that takes v and leaves r'. -/
def TakeOk (f rb : Nat) (r : List UInt8) (v : Val) (r' : List UInt8) : Prop :=
  ∀ W, Rdr W rb r → Calls Try.prog f #[.pointer (some ⟨rb, 0, none⟩)] W fun e w' => e = .returned (.agg #[.int .i64 v.k, .int .i64 v.n, .string v.s]) ∧ Rdr w' rb r' ∧ W.grownBy w' (some rb)
/-- A method that gives up. -/
def TakeNo (f rb : Nat) (r : List UInt8) : Prop :=
  ∀ W, Rdr W rb r → Calls Try.prog f #[.pointer (some ⟨rb, 0, none⟩)] W fun e w' => e = .panicked nope ∧ W.grownBy w' (some rb)

theorem take_num (rb : Nat) (r : List UInt8) : (∃ v r', valD (1 :: r) = some (v, r') ∧ TakeOk 39 rb r v r') ∨ (valD (1 :: r) = none ∧ TakeNo 39 rb r) := by
  by_cases h8 : 8 ≤ r.length
  · exact Or.inl ⟨_, _, by rw [valD, if_pos rfl, if_pos h8], fun W h => number_ok rb r W h h8⟩
  · exact Or.inr ⟨by rw [valD, if_pos rfl, if_neg h8], fun W h => number_no rb r W h (by omega)⟩

theorem take_text (rb : Nat) (r : List UInt8) (hr : r.length ≤ 1000000) : (∃ v r', valD (2 :: r) = some (v, r') ∧ TakeOk 40 rb r v r') ∨ (valD (2 :: r) = none ∧ TakeNo 40 rb r) := by
  cases ht : txt r with
  | none =>
    refine Or.inr ⟨by rw [valD, if_neg (by decide), if_pos rfl, ht]; rfl, fun W h => (text_any rb r W h hr).mono ?_⟩
    rintro e w' (⟨s, t, h1, _⟩ | ⟨_, h2, h3⟩)
    · rw [ht] at h1; cases h1
    · exact ⟨h2, h3⟩
  | some p =>
    obtain ⟨s, t⟩ := p
    refine Or.inl ⟨⟨2, 0, ⟨s.toArray⟩⟩, t, by rw [valD, if_neg (by decide), if_pos rfl, ht]; rfl, fun W h => (text_any rb r W h hr).mono ?_⟩
    rintro e w' (⟨s', t', h1, h2, h3, h4⟩ | ⟨h1, _⟩)
    · rw [ht] at h1
      obtain ⟨rfl, rfl⟩ := Prod.mk.inj (Option.some.inj h1)
      exact ⟨h2, h3, h4⟩
    · rw [ht] at h1; cases h1

/-- The call that Decode defers. -/
def late (B : Nat) : Deferred := { target := .fn (.func 24) #[.pointer (some ⟨B, 0, none⟩), .pointer (some ⟨B + 1, 0, none⟩)], args := #[] }

theorem res_run {w : World} {T : Array Value} {B : Nat} {A : Option Addr} {n c : Nat} {k : Int} (h2 : T[2]? = some (.pointer (some ⟨B, 0, none⟩))) (h3 : T[3]? = some (.pointer (some ⟨B + 1, 0, none⟩)))
    (c0 : w.cell? ⟨B, 0, none⟩ = some (.slice A n c)) (c1 : w.cell? ⟨B + 1, 0, none⟩ = some (.int .i64 k)) :
    (results Try.f12 T).run Try.prog w = .ok (.tuple #[.slice A n c, .int .i64 k]) w := by
  simp [results, Try.results12, go_sem, h2, h3, c0, c1]

theorem dec_door {w wp : World} {l : List UInt8} {T : Array Value} {x y : Value} (h2 : T[2]? = some (.pointer (some ⟨w.heap.size, 0, none⟩))) (h3 : T[3]? = some (.pointer (some ⟨w.heap.size + 1, 0, none⟩)))
    (c0 : wp.cell? ⟨w.heap.size, 0, none⟩ = some x) (f0 : wp.frozen? ⟨w.heap.size, 0, none⟩ = false) (c1 : wp.cell? ⟨w.heap.size + 1, 0, none⟩ = some y) (f1 : wp.frozen? ⟨w.heap.size + 1, 0, none⟩ = false)
    (hb : Below w.heap.size w wp) (hd : dec l = none) :
    bodyPostD Try.prog Try.f12 (DecEnd w l) (Exit.panic nope) { tmps := T, defers := [late w.heap.size] } wp := by
  show Leaves Try.prog Try.f12 T (DecEnd w l) [late w.heap.size] (.panicking nope) wp
  refine leaves_cons (f := 24) (args := #[.pointer (some ⟨w.heap.size, 0, none⟩), .pointer (some ⟨w.heap.size + 1, 0, none⟩)]) (by simp) (by simp [go_sem]) ?_
  refine (catch_nope w.heap.size x y [] _ c0 c1 f0 f1).mono ?_
  rintro e u' w'' ⟨rfl, rfl, rfl⟩
  have lt1 : w.heap.size + 1 < wp.heap.size := World.block_lt_of_cell? _ _ c1
  refine ⟨_, res_run (k := 20) (A := none) (n := 0) (c := 0) h2 h3 ?_ ?_, ?_⟩
  · rw [World.cell?_alloc_lt _ _ _ (by simp [World.setCell]; omega), World.cell?_setCell_other _ _ _ _ (by simp)]
    exact World.cell?_setCell_same _ _ _ c0
  · rw [World.cell?_alloc_lt _ _ _ (by simp [World.setCell]; omega)]
    exact World.cell?_setCell_same _ _ _ ((World.cell?_setCell_other _ _ _ _ (by simp)).trans c1)
  · refine ⟨none, 0, ?_, ?_, ?_⟩
    · unfold errB
      rw [hd]
      rfl
    · rw [hd]
      exact Or.inl rfl
    · exact ((hb.setCell (p := ⟨w.heap.size, 0, none⟩) (Nat.le_refl _) _).setCell (p := ⟨w.heap.size + 1, 0, none⟩) (by simp) _).alloc (by simp [World.setCell]; omega) _

theorem bys_set {w : World} {R : Nat} {A : Option Addr} {l : List UInt8} {p : Addr} {v : Value} (h : Bys w R A l) (hp : w.cell? p = some v) (hv : ∀ z, v ≠ .int .u8 z) (u : Value) : Bys (w.setCell p u) R A l := by
  rcases h with rfl | ⟨b, off, rfl, hb, hc⟩
  · exact Or.inl rfl
  · refine Or.inr ⟨b, off, rfl, hb, fun i z hz => ?_⟩
    have h0 := hc i z hz
    rw [World.cell?_setCell_other]
    · exact h0
    · rintro rfl
      rw [h0] at hp
      exact hv _ (Option.some.inj hp).symm

theorem end_mem {w : World} {B : Nat} {v : Value} {ys : List Val} {rest : List UInt8} (M : DecMem w B v ys rest) (k : Value) (hk : k = .int .i64 0) :
    ((w.setCell ⟨B, 0, none⟩ v).setCell ⟨B + 1, 0, none⟩ k).cell? ⟨B, 0, none⟩ = some v ∧ ((w.setCell ⟨B, 0, none⟩ v).setCell ⟨B + 1, 0, none⟩ k).cell? ⟨B + 1, 0, none⟩ = some (.int .i64 0) ∧
      ∀ A c, v = .slice A ys.length c → Row ((w.setCell ⟨B, 0, none⟩ v).setCell ⟨B + 1, 0, none⟩ k) A ys := by
  subst hk
  refine ⟨(World.cell?_setCell_other _ _ _ _ (by simp)).trans (World.cell?_setCell_same _ _ _ M.c0), World.cell?_setCell_same _ _ _ ((World.cell?_setCell_other _ _ _ _ (by simp)).trans M.c1), ?_⟩
  have ho := ownsRow_setCell_below (ownsRow_setCell_below M.own (a := ⟨B, 0, none⟩) (by simp only; omega) v) (a := ⟨B + 1, 0, none⟩) (by simp only; omega) (.int .i64 0)
  obtain ⟨A', c', e, hr⟩ := row_of_own ho
  intro A c e2
  rw [e2] at e
  injection e with e
  subst e
  exact hr

theorem push_mem {w w4 : World} {B g cap : Nat} {A : Option Addr} {c : Nat} {v : Val} {ys : List Val} {r : List UInt8} {o : Obj} (M : DecMem w B (.slice A ys.length c) ys r)
    (h4 : w4.ownsRow (B + 3) 38 3 (.slice (some ⟨g, 0, none⟩) (ys.length + 1) cap) (ys.length + 1) (rowVals ys ++ rowVals [v])) (g4 : (w.alloc o).grownBy w4 (Value.slice A ys.length c).ownBlock) :
    w4.cell? ⟨B, 0, none⟩ = some (.slice A ys.length c) ∧ w4.frozen? ⟨B, 0, none⟩ = false ∧
      Hid (DecMem (w4.setCell ⟨B, 0, none⟩ (.slice (some ⟨g, 0, none⟩) (ys.length + 1) cap)) B (.slice (some ⟨g, 0, none⟩) (ys.length + 1) cap) (ys ++ [v]) r) ∧
      Hid (∀ w0, Below B w0 w → Below B w0 (w4.setCell ⟨B, 0, none⟩ (.slice (some ⟨g, 0, none⟩) (ys.length + 1) cap))) := by
  have hl := M.lt
  have b4 : Below (B + 3) w w4 := ((Below.refl _ _).alloc (by omega) _).grown g4 (by simp; omega) (fun k hk => (M.own.lt k hk).1)
  have c0 := (b4.cell (p := ⟨B, 0, none⟩) (by simp only; omega)).trans M.c0
  have f0 := (b4.frozen (p := ⟨B, 0, none⟩) (by simp only; omega)).trans M.f0
  refine ⟨c0, f0, ⟨World.cell?_setCell_same _ _ _ c0, by rw [World.frozen?_setCell]; exact f0, ?_, ?_, ?_, ?_⟩, ?_⟩
  · rw [World.cell?_setCell_other _ _ _ _ (by simp)]
    exact (b4.cell (p := ⟨B + 1, 0, none⟩) (by simp only; omega)).trans M.c1
  · rw [World.frozen?_setCell]
    exact (b4.frozen (p := ⟨B + 1, 0, none⟩) (by simp only; omega)).trans M.f1
  · rw [rowVals_append, List.length_append]
    exact ownsRow_setCell_below h4 (a := ⟨B, 0, none⟩) (by simp only; omega) _
  · obtain ⟨A', c', r0, r1, r2, r3, r4⟩ := M.rdr.below b4 (by omega)
    refine ⟨A', c', ?_, ?_, r2, r3, ?_⟩
    · rw [World.cell?_setCell_other _ _ _ _ (by simp)]
      exact r0
    · rw [World.frozen?_setCell]
      exact r1
    · exact bys_set r4 c0 (by simp) _
  · intro w0 hb
    exact (hb.trans (b4.mono (by omega))).setCell (p := ⟨B, 0, none⟩) (Nat.le_refl _) _

theorem dec_leave {w wp : World} {l : List UInt8} {ys : List Val} {T : Array Value} {A : Option Addr} {c : Nat} (h2 : T[2]? = some (.pointer (some ⟨w.heap.size, 0, none⟩))) (h3 : T[3]? = some (.pointer (some ⟨w.heap.size + 1, 0, none⟩)))
    (c0 : wp.cell? ⟨w.heap.size, 0, none⟩ = some (.slice A ys.length c)) (c1 : wp.cell? ⟨w.heap.size + 1, 0, none⟩ = some (.int .i64 0)) (hr : Row wp A ys)
    (hb : Below w.heap.size w wp) (hd : dec l = some ys) :
    bodyPostD Try.prog Try.f12 (DecEnd w l) Exit.ret { tmps := T, defers := [late w.heap.size] } wp := by
  show Leaves Try.prog Try.f12 T (DecEnd w l) [late w.heap.size] .returning wp
  refine leaves_cons (f := 24) (args := #[.pointer (some ⟨w.heap.size, 0, none⟩), .pointer (some ⟨w.heap.size + 1, 0, none⟩)]) (by simp) (by simp [go_sem]) ?_
  refine (catch_idle _ _ _).mono ?_
  rintro e u' w'' ⟨rfl, rfl, hb2⟩
  have lt0 : w.heap.size < wp.heap.size := World.block_lt_of_cell? _ _ c0
  have lt1 : w.heap.size + 1 < wp.heap.size := World.block_lt_of_cell? _ _ c1
  refine ⟨_, res_run h2 h3 ((hb2.cell (p := ⟨w.heap.size, 0, none⟩) lt0).trans c0) ((hb2.cell (p := ⟨w.heap.size + 1, 0, none⟩) lt1).trans c1), A, c, ?_, ?_, hb.trans (hb2.mono hb.size)⟩
  · unfold errB
    rw [hd]
    rfl
  · rw [hd]
    exact hr.below hb2

theorem dec_start {w : World} {A : Option Addr} {c : Nat} {l : List UInt8} (hx : Bys w w.heap.size A l) (hc : l.length ≤ c) (hc' : c ≤ maxLen) :
    DecMem (((w.alloc (.cells #[.slice none 0 0] 23)).alloc (.cells #[.int .i64 0] 26)).alloc (.cells #[.slice A l.length c] 43)) w.heap.size (.slice none 0 0) [] l := by
  have h : ∀ (u v x : TypeId), (((w.alloc (.cells #[.slice none 0 0] u)).alloc (.cells #[.int .i64 0] v)).alloc (.cells #[.slice A l.length c] x)).cell? ⟨w.heap.size, 0, none⟩ = some (.slice none 0 0) ∧
      (((w.alloc (.cells #[.slice none 0 0] u)).alloc (.cells #[.int .i64 0] v)).alloc (.cells #[.slice A l.length c] x)).frozen? ⟨w.heap.size, 0, none⟩ = false ∧
      (((w.alloc (.cells #[.slice none 0 0] u)).alloc (.cells #[.int .i64 0] v)).alloc (.cells #[.slice A l.length c] x)).cell? ⟨w.heap.size + 1, 0, none⟩ = some (.int .i64 0) ∧
      (((w.alloc (.cells #[.slice none 0 0] u)).alloc (.cells #[.int .i64 0] v)).alloc (.cells #[.slice A l.length c] x)).frozen? ⟨w.heap.size + 1, 0, none⟩ = false ∧
      (((w.alloc (.cells #[.slice none 0 0] u)).alloc (.cells #[.int .i64 0] v)).alloc (.cells #[.slice A l.length c] x)).cell? ⟨w.heap.size + 1 + 1, 0, none⟩ = some (.slice A l.length c) ∧
      (((w.alloc (.cells #[.slice none 0 0] u)).alloc (.cells #[.int .i64 0] v)).alloc (.cells #[.slice A l.length c] x)).frozen? ⟨w.heap.size + 1 + 1, 0, none⟩ = false := by
    intro u v x
    refine ⟨?_, ?_, ?_, ?_, ?_, ?_⟩ <;> go_simp
  obtain ⟨h0, h1, h2, h3, h4, h5⟩ := h _ _ _
  exact ⟨h0, h1, h2, h3, World.ownsRow_nil _ _ _ _, A, c, h4, h5, hc, hc', (((hx.alloc _).alloc _).alloc _).more (by omega)⟩

set_option maxHeartbeats 3200000 in
theorem dec_any (A : Option Addr) (c : Nat) (l : List UInt8) (w : World) (hx : Bys w w.heap.size A l) (hc : l.length ≤ c) (hc' : c ≤ maxLen) (hn : l.length ≤ 1000000) :
    Calls Try.prog 12 #[.slice A l.length c] w (DecEnd w l) := by
  have hmf : ∀ (fn : Fn) (first cap : Array Value) (w : World), (Instr.makeFunc fn first cap).run Try.prog w = .ok (.func fn first cap) w := fun _ _ _ _ => rfl
  go_enter_defers Try.func12, Try.ntmps12
  go_wp2_with fail
  go_loopg [5] l.length (fun k _ wr => ∃ v ys rest, k = rest.length ∧ ys.length + rest.length ≤ l.length ∧ Hid (Decs l ys rest) ∧ DecMem wr w.heap.size v ys rest ∧ Below w.heap.size w wr)
  case atStart => exact ⟨.slice none 0 0, [], l, rfl, by simp, Decs.start l, dec_start hx hc hc', (((Below.refl _ _).alloc (Nat.le_refl _) _).alloc (by simp) _).alloc (by simp; omega) _⟩
  case round =>
    obtain ⟨v, ys, rest, rfl, hle, HD, M, b⟩ := hrel
    obtain ⟨A2, c2, rfl, hr2⟩ := M.slice
    obtain ⟨A', c', r0, r1, r2, r3, r4⟩ := M.rdr
    rcases rest with _ | ⟨z, r⟩
    · obtain ⟨x0, x1, x2⟩ := end_mem M (.int .i64 0) rfl
      obtain ⟨k0, k1, k2, k3, k4, k5⟩ := M
      rw [List.length_nil] at r0
      have E0 := Lib.hid x0
      have E1 := Lib.hid x1
      have E2 := Lib.hid (x2 A2 c2 rfl)
      have E3 := Lib.hid ((b.setCell (p := ⟨w.heap.size, 0, none⟩) (Nat.le_refl _) (.slice A2 ys.length c2)).setCell (p := ⟨w.heap.size + 1, 0, none⟩) (by simp) (.int .i64 0))
      clear x0 x1 x2
      go_wp2_with fail
      exact dec_leave rfl rfl E0.out E1.out E2.out E3.out HD.out.done
    · rw [List.length_cons] at r0
      go_wp2_with fail
      by_cases h12 : z = 1 ∨ z = 2
      · rcases h12 with rfl | rfl
        case' inl =>
          have ways := take_num (w.heap.size + 1 + 1) r
          refine (taker_num _ r _ M.rdr).mono ?_
          rintro e w1 ⟨rfl, h1, g1⟩
        case' inr =>
          have ways := take_text (w.heap.size + 1 + 1) r (by rw [List.length_cons] at hle; omega)
          refine (taker_text _ r _ M.rdr).mono ?_
          rintro e w1 ⟨rfl, h1, g1⟩
        all_goals
          have b1 : Below w.heap.size w w1 := b.trans ((grown_below g1 (by have := M.lt; omega)).mono (by omega))
          have M1 := (M.grown g1 h1).drew
          clear M h1 r0 r1 r2 r3 r4 g1
          obtain ⟨i0, hi, hz0, hz1, hz2⟩ := info_parts valInfo
          rw [List.length_cons] at hle
          unfold takes
          go_wp2_with fail
          have m0 := M1.c0
          have m1 := M1.f0
          rcases ways with ⟨v, r', hv, HT⟩ | ⟨hv, HT⟩
          · by_cases hk : chkV v = 0
            · have HC := fun W => checked_ok v W hk
              have HD' := Lib.hid (HD.out.step hv hk)
              have hlt := valD_length hv
              rw [List.length_cons] at hlt
              clear hv hk
              first
              | go_region_law (first
                | (go_simp; (first | go_at_call 39 | go_at_call 40); refine (HT _ M1.rdr).mono ?_; rintro e w2 ⟨rfl, h2, g2⟩; have M2 := M1.grown g2 h2; have b2 : Below w.heap.size w w2 := b1.drew.trans ((grown_below g2 (by have := M1.lt; omega)).mono (by omega)); have p0 := M2.c0; have p1 := M2.f0)
                | (go_simp; go_at_call 26; refine (HC _).mono ?_; rintro e w3 ⟨rfl, b3⟩; have M3 := M2.kept b3; have b3' : Below w.heap.size w w3 := b2.trans (b3.mono b2.size); have q0 := M3.c0; have q1 := M3.f0; have q2 : w.heap.size < w3.heap.size := by have := M3.lt; omega)
                | (refine step_append_lies _ rfl (.tmp 14) (.tmp 18) 23 rfl (w.heap.size + 3) 38 i0 _ 3 32 Try.underlying23 hi hz0 hz1 hz2 rfl (by decide) (.slice A2 ys.length c2) ys.length (rowVals ys) (by simp [Act.eval]) (M3.own.alloc _) ⟨w3.heap.size, 0, none⟩ 1 1 (rowVals [v]) (by simp [Act.eval]) rfl (Row.cells (row_one _ _ v)) (rowVals_one _) (by omega) (by unfold maxLen; omega) (by omega) (by have := M3.lt; simp; omega) _ rfl ?_; intro g4 cap4 w4 o4 gr4 at4 lt4; obtain ⟨s0, s1, S2, S3⟩ := push_mem M3 o4 gr4))
              | fail
              all_goals
                go_wp2_with fail
                go_roundg r'.length
                case measure => simp only [List.length_cons]; omega
                case rel => exact ⟨_, ys ++ [v], r', rfl, by rw [List.length_append, List.length_singleton]; omega, HD', S2.out, S3.out _ b3'⟩
            · have HC := fun W => checked_no v W hk
              have HN := Lib.hid (HD.out.bad hv hk)
              clear hv hk
              first | go_region_dies | fail
              all_goals
                refine (HT _ M1.rdr).mono ?_
                rintro e w2 ⟨rfl, h2, g2⟩
                have M2 := M1.grown g2 h2
                have b2 : Below w.heap.size w w2 := b1.drew.trans ((grown_below g2 (by have := M1.lt; omega)).mono (by omega))
                have p0 := M2.c0
                have p1 := M2.f0
                rename_i K' hK'
                refine hK' _ _ ?_
                clear hK' K'
                first
                | (refine wpAny_ready (rs := [3]) (by decide +kernel) (by simp) ?_
                   refine AllReady.cons rfl (fun K' hK' => ?_) AllReady.nil)
                | (refine wpAny_ready (rs := [0, 3]) (by decide +kernel) (by simp) ?_
                   refine AllReady.cons rfl (fun K' hK' => ?_) (AllReady.cons rfl (fun K' hK' => ?_) AllReady.nil)
                   go_simp
                   refine hK' _ _ ?_
                   clear hK' K'
                   refine wpAny_ready (rs := [3]) (by kernel_rfl) (by simp) ?_
                   refine AllReady.cons rfl (fun K' hK' => ?_) AllReady.nil)
                all_goals
                  go_simp
                  refine (HC _).mono ?_
                  rintro e w3 ⟨rfl, b3⟩
                  have M3 := M2.kept b3
                  exact dec_door rfl rfl M3.c0 M3.f0 M3.c1 M3.f1 (b2.trans (b3.mono b2.size)) HN.out
          · have HN := Lib.hid (HD.out.none_ (by simp) hv)
            clear hv
            first | go_region_dies | fail
            all_goals
              refine (HT _ M1.rdr).mono ?_
              rintro e w2 ⟨rfl, g2⟩
              obtain ⟨n0, n1, n2, n3⟩ := M1.cells g2
              exact dec_door rfl rfl n0 n1 n2 n3 (b1.drew.trans ((grown_below g2 (by have := M1.lt; omega)).mono (by omega))) HN.out
      · have hz1 : ¬ z = 1 := fun e => h12 (Or.inl e)
        have hz2 : ¬ z = 2 := fun e => h12 (Or.inr e)
        have HN := Lib.hid (HD.out.none_ (by simp) (by rw [valD, if_neg hz1, if_neg hz2]))
        refine (taker_bad _ z r _ M.rdr hz1 hz2).mono ?_
        rintro e w1 ⟨rfl, g1⟩
        obtain ⟨n0, n1, n2, n3⟩ := M.cells g1
        go_wp2_with fail
        exact dec_door rfl rfl n0 n1 n2 n3 (b.trans ((grown_below g1 (by have := M.lt; omega)).mono (by omega))) HN.out
end Go.Proofs.Ytcjcahgeaffjmaa
