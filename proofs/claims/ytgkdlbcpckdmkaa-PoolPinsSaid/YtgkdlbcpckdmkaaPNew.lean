/-
  What Drop and New come to.
-/
import Derived.Test.YtgkdlbcpckdmkaaPMeth
import Derived.Test.YtgkdlbcpckdmkaaPRoom
import Derived.Lib.LazyBuf
import Derived.Laws.MakeOwn
namespace Go.Proofs.Ytgkdlbcpckdmkaa
open Go.RowKit

theorem zero_size (m : Nat) : (Builtin.zeroCells noFrame m).size = m * 4 := by
  simp [Builtin.zeroCells, noFrame]
theorem zero_at (m j : Nat) (h : j < m * 4) : (Builtin.zeroCells noFrame m).toList[j]? = some (frc (fun _ => .slice none 0 0) (fun _ => 0) (fun _ => false) (fun _ => false) j) := by
  rw [Array.getElem?_toList]
  unfold Builtin.zeroCells
  rw [Array.getElem?_map, Array.getElem?_range]
  rw [if_pos (by show j < m * 4; exact h)]
  simp only [Option.map_some, Option.some.injEq]
  show noFrame[j % 4]! = _
  unfold frc
  rcases (show j % 4 = 0 ∨ j % 4 = 1 ∨ j % 4 = 2 ∨ j % 4 = 3 by omega) with e | e | e | e
  · rw [e, if_pos rfl]
    rfl
  · rw [e, if_neg (by omega), if_pos rfl]
    rfl
  · rw [e, if_neg (by omega), if_neg (by omega), if_pos rfl]
    rfl
  · rw [e, if_neg (by omega), if_neg (by omega), if_neg (by omega)]
    rfl

theorem kept_setCells {F : Nat → Prop} {b : Nat} (hb : F b) : ∀ (vs : List Value) (o : Nat) (w : World), Kept F w (w.setCells b o vs)
  | [], _, w => Kept.refl F w
  | v :: r, o, w => (Kept.setCell (F := F) w (a := ⟨b, o, none⟩) hb v).next (kept_setCells hb r (o + 1) _)

/-- Empty frames. -/
def noFrc : Nat → Value := frc (fun _ => .slice none 0 0) (fun _ => 0) (fun _ => false) (fun _ => false)

section
variable {w : World} {fb m : Nat} {f : Nat → Value}

set_option maxRecDepth 20000 in
theorem clear_run (hm : 1 ≤ m) (h : w.rowIs fb 69 (m * 4) f) (ty : TypeId) :
    (Builtin.clear_ #[57] ty #[.slice (some ⟨fb, 0, none⟩) m m]).run Try.prog w = .ok (.tuple #[]) (w.setCells fb 0 (Builtin.zeroCells noFrame m).toList) ∧
    (w.setCells fb 0 (Builtin.zeroCells noFrame m).toList).rowIs fb 69 (m * 4) noFrc ∧ Kept (· = fb) w (w.setCells fb 0 (Builtin.zeroCells noFrame m).toList) := by
  obtain ⟨i, hi, hzz⟩ := Option.map_eq_some_iff.1 frameInfo
  simp only [Prod.mk.injEq] at hzz
  obtain ⟨hz, _, _⟩ := hzz
  have hs := zero_size m
  refine ⟨?_, ?_, kept_setCells (F := (· = fb)) rfl _ _ _⟩
  · have hrun := run_storeCells_cells (P := Try.prog) fb 0 (Builtin.zeroCells noFrame m).toList 0 w (fun j hj => by
      have hj' : j < m * 4 := by rw [← hs]; simpa using hj
      simp only [Nat.zero_add]
      rw [h.cell hj']
      rfl) (fun j _ => h.frozen _) (fun v hv => by
      obtain ⟨j, hj⟩ := List.getElem?_of_mem hv
      have hj' : j < m * 4 := by
        have := (List.getElem?_eq_some_iff.1 hj).1
        rw [← hs]
        simpa using this
      rw [zero_at m j hj'] at hj
      obtain rfl := Option.some.inj hj
      unfold frc
      split
      · rfl
      · split
        · rfl
        · split <;> rfl)
    obtain ⟨k, rfl⟩ : ∃ k, m = k + 1 := ⟨m - 1, by omega⟩
    have hzv : (zeroValue 69).run Try.prog w = .ok (.agg noFrame) w := by
      simp [zeroValue, typeInfo, hi, hz, Sem.run_bind, Result.andThen]
      rfl
    simp only [Nat.add_zero] at hrun
    simp [Builtin.clear_, run_underlying Try.underlying57, hzv, Result.andThen, Value.cells, hrun]
  · have := Go.rowIs_setCells (Builtin.zeroCells noFrame m).toList 0 w f h
    refine this.congr (fun j hj => ?_)
    have hl : (Builtin.zeroCells noFrame m).toList.length = m * 4 := by rw [Array.length_toList, hs]
    rw [if_pos (by rw [hl]; omega), Nat.sub_zero, zero_at m j hj]
    rfl
end

section
variable {ops : Array Oper} {rest : List Oper} {o : Oper} {a : Act} {w : World} {Q : Exit → Act → World → Prop}

theorem wpList_clear_row (hg : o.guard = none) (x : Operand) (hop : o.op = Op.call { callee := Callee.builtin Builtin.clear, args := #[x], argTypes := #[57] })
    {fb m : Nat} {f : Nat → Value} (hx : a.eval x = .slice (some ⟨fb, 0, none⟩) m m) (hm : 1 ≤ m) (h : w.rowIs fb 69 (m * 4) f)
    (hK : ∀ w', w'.rowIs fb 69 (m * 4) noFrc → Kept (· = fb) w w' → wpList Try.prog ops Q rest (a.put o.dst (.tuple #[])) w') :
    wpList Try.prog ops Q (o :: rest) a w := by
  refine wpList_plain hg fun K' hK' => ?_
  obtain ⟨hrun, r1, r2⟩ := clear_run hm h o.type
  unfold Oper.wp
  simp [execOp, hop, resolve, invoke, builtin, hx, hrun, Result.andThen]
  exact hK' _ _ (hK _ r1 r2)
end

/-- What Drop leaves: empty frames, and a new clock. -/
def RawEnd (w : World) (pb fb db m : Nat) (e : Ending) (w' : World) : Prop :=
  ∃ cb rb, e = .returned (.tuple #[]) ∧ w'.heap[pb]? = some (.cells #[.pointer (some ⟨db, 0, none⟩), .slice (some ⟨fb, 0, none⟩) m m, .pointer (some ⟨cb, 0, none⟩)] 60 (0, 0)) ∧
    w'.rowIs fb 69 (m * 4) noFrc ∧ ClkAt w' cb rb (CS.new m) ∧ w.heap.size ≤ cb ∧ w.heap.size ≤ rb ∧ Kept (fun k => k = pb ∨ k = fb) w w'

set_option maxRecDepth 20000 in
set_option maxHeartbeats 800000 in
theorem drop_raw (w : World) (pb fb db m : Nat) (u : Value) (f : Nat → Value) (hm1 : 1 ≤ m) (hm2 : m ≤ 1000)
    (hs : w.heap[pb]? = some (.cells #[.pointer (some ⟨db, 0, none⟩), .slice (some ⟨fb, 0, none⟩) m m, u] 60 (0, 0))) (hr : w.rowIs fb 69 (m * 4) f) :
    Calls Try.prog 22 #[.pointer (some ⟨pb, 0, none⟩)] w (RawEnd w pb fb db m) := by
  have c0 : w.cell? ⟨pb, 0, none⟩ = some (.pointer (some ⟨db, 0, none⟩)) := (cell_of_row w pb 0 _ _ _ hs).trans rfl
  have c1 : w.cell? ⟨pb, 1, none⟩ = some (.slice (some ⟨fb, 0, none⟩) m m) := (cell_of_row w pb 1 _ _ _ hs).trans rfl
  have HM := Lib.hid (made_yes w pb db c0)
  have HS := Lib.hid hs
  have HR := Lib.hid hr
  have hlp : pb < w.heap.size := World.block_lt_of_cell? _ _ c0
  have hne : pb ≠ fb := by
    obtain ⟨cur, hc, _⟩ := hr
    exact block_ne hs hc pool_types.1.1
  clear hs hr
  go_enter Try.func22, Try.ntmps22
  go_wp2_with fail
  refine HM.out.mono ?_
  rintro e w' ⟨rfl, rfl⟩
  clear HM
  go_wp2_with (refine wpList_clear_row rfl (.tmp 8) rfl rfl hm1 HR.out ?_; intro w1 hr1 hk1; have hs1 := (hk1.block pb hlp hne).trans HS.out; have d1 : w1.cell? ⟨pb, 1, none⟩ = some (.slice (some ⟨fb, 0, none⟩) m m) := (cell_of_row w1 pb 1 _ _ _ hs1).trans rfl)
  have hlp1 : pb < w1.heap.size := World.block_lt_of_cell? _ _ d1
  have HR1 := Lib.hid hr1
  have HK1 := Lib.hid hk1
  have HS1 := Lib.hid hs1
  have HC := Lib.hid (gnew_good w1 m hm1 hm2)
  clear hr1 hk1 hs1 c0 c1 HR HS
  refine HC.out.mono ?_
  rintro e w2 ⟨cb, rb, rfl, hc2, hb1, hb2, hb⟩
  have hs2 := (hb.block pb hlp1).trans HS1.out
  have d2 : w2.cell? ⟨pb, 2, none⟩ = some u := (cell_of_row w2 pb 2 _ _ _ hs2).trans rfl
  have f2 : w2.frozen? ⟨pb, 2, none⟩ = false := frozen_of_row w2 pb 2 _ _ hs2
  have HS2 := Lib.hid hs2
  have HC2 := Lib.hid hc2
  have HB := Lib.hid hb
  have HB1 := Lib.hid hb1
  have HB2 := Lib.hid hb2
  clear hs2 hc2 hb hb1 hb2 d1 HC
  go_wp2_with fail
  go_end0
  have hnb : cb ≠ pb ∧ rb ≠ pb := by
    have := HB1.out
    have := HB2.out
    omega
  refine ⟨cb, rb, rfl, by rw [Joins.block_setCell HS2.out]; rfl, ?_, ?_, Nat.le_trans HK1.out.size HB1.out, Nat.le_trans HK1.out.size HB2.out, ?_⟩
  · exact (HR1.out.of_block (HB.out.block _ HR1.out.lt)).setOther (fun e => hne e.symm) _
  · exact HC2.out.same (Below.heap_setCell _ _ _ _ hnb.1) (Below.heap_setCell _ _ _ _ hnb.2)
  · exact ((HK1.out.more (fun k e => Or.inr e)).next (Kept.below HB.out _)).next (Kept.setCell (F := fun k => k = pb ∨ k = fb) _ (a := ⟨pb, 2, none⟩) (Or.inl rfl) _)

section
variable {F D : Nat → Prop} {pb fb cb rb db : Nat} {g : Nat → Value} {s : PP}

/-- What Drop leaves of a pool. -/
def DropEnd (w : World) (F : Nat → Prop) (pb fb db : Nat) (s : PP) (e : Ending) (w' : World) : Prop :=
  e = .returned (.tuple #[]) ∧ ∃ F' D' cb rb g', PoolAt w' F' D' pb fb cb rb db g' s.drop ∧ Moves w F w' F'

theorem drop_cells (s : PP) : frc (fun _ => .slice none 0 0) s.drop.sec s.drop.ful s.drop.d = noFrc := by
  have e1 : s.drop.sec = fun _ => 0 := funext fun _ => rfl
  have e2 : s.drop.ful = fun _ => false := funext fun _ => rfl
  have e3 : s.drop.d = fun _ => false := rfl
  rw [e1, e2, e3]
  rfl

/-- A pool that was made anew: its struct, its frames, its clock; a disk that was not touched. -/
theorem raw_pool {w w' : World} {m : Nat} {k : PS} {cb rb : Nat} (s : PP) (hsm : s.m = m) (hk : s.k = k) (hs : w'.heap[pb]? = some (.cells #[.pointer (some ⟨db, 0, none⟩), .slice (some ⟨fb, 0, none⟩) m m, .pointer (some ⟨cb, 0, none⟩)] 60 (0, 0)))
    (hr : w'.rowIs fb 69 (m * 4) noFrc) (hc : ClkAt w' cb rb (CS.new m)) (hd : Dk w' D db k) (dp : ¬ D pb) (df : ¬ D fb) (dc : ¬ D cb) (dr : ¬ D rb)
    (hp : F pb) (hf : F fb) (hD : ∀ k, D k → F k) (hl : ∀ k, F k → k < w.heap.size) (h1 : w.heap.size ≤ cb) (h2 : w.heap.size ≤ rb) (hz : w.heap.size ≤ w'.heap.size) :
    PoolAt w' (fun k => F k ∨ w.heap.size ≤ k ∧ k < w'.heap.size) D pb fb cb rb db (fun _ => .slice none 0 0) s.drop := by
  subst hsm hk
  obtain ⟨cur, hcur, _⟩ := id hr
  refine ⟨⟨hs, ⟨cur, hcur⟩, hc, rfl, hd, Or.inl hp, Or.inl hf, Or.inr ⟨h1, hc.lt.1⟩, Or.inr ⟨h2, hc.lt.2⟩, fun k hk => Or.inl (hD k hk), dp, df, dc, dr, fun k hk => ?_⟩, ?_, fun i _ => ⟨own_nil _ _, Nat.zero_le _, fun q hq => by cases hq⟩, ⟨fun _ _ _ => rfl, fun _ _ => Or.inl rfl⟩⟩
  · rcases hk with e | e
    · exact Nat.lt_of_lt_of_le (hl k e) hz
    · exact e.2
  · show w'.rowIs fb _ (s.m * 4) (frc (fun _ => .slice none 0 0) s.drop.sec s.drop.ful s.drop.d)
    rw [drop_cells]
    exact hr

set_option maxRecDepth 20000 in
theorem drop_any (w : World) (h : PoolAt w F D pb fb cb rb db g s) :
    Calls Try.prog 22 #[.pointer (some ⟨pb, 0, none⟩)] w (DropEnd w F pb fb db s) := by
  obtain ⟨m1, m2⟩ := h.core.m1
  refine (drop_raw w pb fb db s.m _ _ m1 m2 h.core.str h.row).mono ?_
  rintro e w' ⟨cb', rb', rfl, hs, hr, hc, h1, h2, hk⟩
  have no : ∀ b, w.heap.size ≤ b → ¬ D b := fun b hb hD => by
    have := h.core.lt b (h.core.fd b hD)
    omega
  have hd : Dk w' D db s.k := h.core.dk.kept hk (fun k hD e => by
    rcases e with e | e
    · exact h.core.dp (by rw [← e]; exact hD)
    · exact h.core.df (by rw [← e]; exact hD))
  exact ⟨rfl, _, D, cb', rb', _, raw_pool s rfl rfl hs hr hc hd h.core.dp h.core.df (no _ h1) (no _ h2) h.core.fp h.core.ff h.core.fd h.core.lt h1 h2 hk.size,
    Moves.new (hk.more (by rintro k (rfl | rfl); exact h.core.fp; exact h.core.ff))⟩

/-- The cells of so many empty frames. -/
def frC (n : Nat) : Array Value := madeCells noFrame (n * 4)
theorem frC_size (n : Nat) : (frC n).size = n * 4 := size_madeCells _ _
theorem frC_at (n i : Nat) (h : i < n * 4) : (frC n)[i]? = some (noFrc i) := by
  unfold frC madeCells noFrc frc
  rcases (show i % 4 = 0 ∨ i % 4 = 1 ∨ i % 4 = 2 ∨ i % 4 = 3 by omega) with e | e | e | e
  · rw [if_pos e]
    simp [e, h, noFrame]
  · rw [if_neg (by omega), if_pos e]
    simp [e, h, noFrame]
  · rw [if_neg (by omega), if_neg (by omega), if_pos e]
    simp [e, h, noFrame]
  · rw [if_neg (by omega), if_neg (by omega), if_neg (by omega)]
    simp [e, h, noFrame]

set_option maxRecDepth 20000 in
theorem make_frames (w : World) (n : Nat) (hn : n ≤ 1000) : (Instr.makeSlice 57 (.int .i64 (n : Int)) (.int .i64 (n : Int))).run Try.prog w = .ok (.slice (some ⟨w.heap.size, 0, none⟩) n n) (w.alloc (.cells (frC n) 69)) := by
  obtain ⟨i, hi, hzz⟩ := Option.map_eq_some_iff.1 frameInfo
  simp only [Prod.mk.injEq] at hzz
  obtain ⟨hz, hs, hb⟩ := hzz
  have hr := run_make (P := Try.prog) w 57 69 i _ Try.underlying57 hi hz .i64 .i64 (n : Int) (n : Int) (by omega) (Int.le_refl _) (by rw [hb]; omega) (by omega)
  simp only [Int.toNat_natCast, hs] at hr
  exact hr

/-- A new pool. -/
def PMade (w : World) (D : Nat → Prop) (db : Nat) (k : PS) (n : Nat) (e : Ending) (w' : World) : Prop :=
  ∃ pb fb cb rb g F, e = .returned (.tuple #[.pointer (some ⟨pb, 0, none⟩), .int .i64 0]) ∧ PoolAt w' F D pb fb cb rb db g (PP.new k n) ∧ Moves w D w' F ∧ Below w.heap.size w w'

set_option maxRecDepth 20000 in
set_option maxHeartbeats 800000 in
theorem pnew_any (w : World) (n : Nat) (k : PS) (h1 : 1 ≤ n) (h2 : n ≤ 1000) (hd : Dk w D db k) :
    Calls Try.prog 9 #[.pointer (some ⟨db, 0, none⟩), .int .i64 n] w (PMade w D db k n) := by
  have hm := make_frames w n h2
  have HD := Lib.hid hd
  have HRAW : Hid (Calls Try.prog 22 #[.pointer (some ⟨w.heap.size + 1, 0, none⟩)] ((w.alloc (.cells (frC n) 69)).alloc (.cells #[.pointer (some ⟨db, 0, none⟩), .slice (some ⟨w.heap.size, 0, none⟩) n n, .pointer none] 60)) (RawEnd ((w.alloc (.cells (frC n) 69)).alloc (.cells #[.pointer (some ⟨db, 0, none⟩), .slice (some ⟨w.heap.size, 0, none⟩) n n, .pointer none] 60)) (w.heap.size + 1) w.heap.size db n)) := by
    refine Lib.hid (drop_raw _ _ _ _ _ (.pointer none) noFrc h1 h2 ?_ ?_)
    · have := heap_alloc_new (w.alloc (.cells (frC n) 69)) (.cells #[.pointer (some ⟨db, 0, none⟩), .slice (some ⟨w.heap.size, 0, none⟩) n n, .pointer none] 60)
      rw [show (w.alloc (.cells (frC n) 69)).heap.size = w.heap.size + 1 by simp] at this
      exact this
    · have := World.rowIs_alloc w (frC n) 69 noFrc (fun i hi => frC_at n i (by rw [frC_size] at hi; exact hi))
      rw [frC_size] at this
      exact this.alloc _
  clear hd
  go_enter Try.func9, Try.ntmps9
  go_wp2_with fail
  refine HRAW.out.mono ?_
  rintro e w' ⟨cb, rb, rfl, hs, hr, hc, b1, b2, hk⟩
  have HS := Lib.hid hs
  have HR := Lib.hid hr
  have HC := Lib.hid hc
  have HB1 := Lib.hid b1
  have HB2 := Lib.hid b2
  have HK := Lib.hid hk
  clear hs hr hc b1 b2 hk HRAW hm
  go_wp2_with fail
  go_ret2
  generalize hw0 : (w.alloc (.cells (frC n) 69)).alloc (.cells #[.pointer (some ⟨db, 0, none⟩), .slice (some ⟨w.heap.size, 0, none⟩) n n, .pointer none] 60) = w0 at *
  have hz0 : w0.heap.size = w.heap.size + 2 := by rw [← hw0]; simp
  have hb0 : Below w.heap.size w w0 := by rw [← hw0]; exact below_two _ _ _
  have hlt := HD.out.lt
  have hbw : Below w.heap.size w w' := hb0.trans (HK.out.toBelow (by rintro k (rfl | rfl) <;> omega) hb0.size)
  have hd' : Dk w' D db k := HD.out.below hbw
  have no : ∀ b, w.heap.size ≤ b → ¬ D b := fun b hb hD => by
    have := hlt b hD
    omega
  have hb1 := HB1.out
  have hb2 := HB2.out
  have hP := raw_pool (F := fun k => D k ∨ w.heap.size ≤ k ∧ k < w0.heap.size) (w := w0) (PP.new k n) rfl rfl HS.out HR.out HC.out hd' (no _ (by omega)) (no _ (by omega)) (no _ (by omega)) (no _ (by omega)) (Or.inr (by omega)) (Or.inr (by omega)) (fun _ h => Or.inl h)
    (fun b hb => by
      rcases hb with e | e
      · have := hlt b e
        omega
      · exact e.2) hb1 hb2 HK.out.size
  refine ⟨_, _, cb, rb, _, _, rfl, hP, ⟨Kept.below hbw _, fun b hb => ?_⟩, hbw⟩
  rcases hb with (e | e) | e
  · exact Or.inl e
  · exact Or.inr e.1
  · exact Or.inr (by omega)
end
end Go.Proofs.Ytgkdlbcpckdmkaa
