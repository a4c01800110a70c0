/-
  A part of the proof: what its texts say stands at the head of each. Conditions: none.
-/
import Derived.Deep.QuietTactic
import Derived.BigQuiet
import Derived.ProofKit
import Derived.OpenShut
import Derived.ChangeOld
import Derived.Lib.SmallJoins
import Derived.Deep.Slices
import Derived.Deep.Fields
import Derived.Carry
import Derived.Test.YtnmiccagkfpkiaaGreatZD1
import Derived.Test.YtnmiccagkfpkiaaGreatZD2
import Derived.Test.YtnmiccagkfpkiaaGreatZD3
import Derived.Test.YtnmiccagkfpkiaaGreatZD4

/-
  A disk in the midst of a law: what lies outside of it stays.
-/
namespace Go.Proofs.YtnmiccagkfpkiaaGreat
open Go.RowKit Go.Maps

/-- A disk that was made since the world W. -/
structure Live (W : World) (F : Nat → Prop) (w : World) (db : Nat) (s : PS) : Prop where
  dk : Dk w F db s
  base : ∀ k, F k → W.heap.size ≤ k
  below : Below W.heap.size W w

/-- From w, with the disk's blocks F, to w', with F'. -/
structure Moves (w : World) (F : Nat → Prop) (w' : World) (F' : Nat → Prop) : Prop where
  kept : Kept F w w'
  news : ∀ k, F' k → F k ∨ w.heap.size ≤ k

def LGoes (W : World) (F : Nat → Prop) (w : World) (db : Nat) (s' : PS) (v : Value) (e : Ending) (w' : World) : Prop :=
  e = .returned v ∧ ∃ F', Live W F' w' db s' ∧ Moves w F w' F'

section
variable {W w w' w2 : World} {F F' F2 : Nat → Prop} {db : Nat} {s s' : PS}

theorem Dk.lt (h : Dk w F db s) : ∀ k, F k → k < w.heap.size := by
  obtain ⟨bl, bw, gL, gW, h⟩ := h
  exact h.lt

theorem Dk.ok (h : Dk w F db s) : s.Ok := by
  obtain ⟨bl, bw, gL, gW, h⟩ := h
  exact h.ok

theorem Dk.s2 (h : Dk w F db s) : 2 ≤ s.size := by
  obtain ⟨bl, bw, gL, gW, h⟩ := h
  exact h.s2

theorem Dk.s4 (h : Dk w F db s) : s.size ≤ 4096 := by
  obtain ⟨bl, bw, gL, gW, h⟩ := h
  exact h.s4

theorem Moves.trans (h : Moves w F w' F') (k : Moves w' F' w2 F2) : Moves w F w2 F2 :=
  ⟨h.kept.trans k.kept h.news, fun j hj => by
    rcases k.news j hj with h1 | h1
    · exact h.news j h1
    · exact Or.inr (Nat.le_trans h.kept.size h1)⟩

theorem Moves.of_below (h : Below w.heap.size w w') : Moves w F w' F := ⟨Kept.below h F, fun _ hk => Or.inl hk⟩

theorem Moves.out {A : Option Addr} {l : List UInt8} (h : Moves w F w' F') (o : Out w F A l) : Out w' F' A l := by
  rcases l with _ | ⟨y, l⟩
  · exact Or.inl rfl
  · rcases o with o | ⟨b, off, e, hb, hc⟩
    · cases o
    · have hlt : b < w.heap.size := World.block_lt_of_cell? _ _ (hc 0 y rfl)
      refine Or.inr ⟨b, off, e, fun h' => ?_, fun i z hz => (World.cell?_of_block (w := w) (h.kept.block b hlt hb)).trans (hc i z hz)⟩
      rcases h.news b h' with h' | h'
      · exact hb h'
      · omega

theorem Moves.outN {A : Option Addr} {l : List Int} (h : Moves w F w' F') (o : OutN w F A l) : OutN w' F' A l := by
  rcases l with _ | ⟨y, l⟩
  · exact Or.inl rfl
  · rcases o with o | ⟨b, off, e, hb, hc⟩
    · cases o
    · have hlt : b < w.heap.size := World.block_lt_of_cell? _ _ (hc 0 y rfl).1
      refine Or.inr ⟨b, off, e, fun h' => ?_, fun i z hz => ⟨(World.cell?_of_block (w := w) (h.kept.block b hlt hb)).trans (hc i z hz).1, (hc i z hz).2⟩⟩
      rcases h.news b h' with h' | h'
      · exact hb h'
      · omega

/-- A block outside of the disk stays. -/
theorem Moves.block (h : Moves w F w' F') {b : Nat} (hb : b < w.heap.size) (hF : ¬ F b) : w'.heap[b]? = w.heap[b]? ∧ ¬ F' b :=
  ⟨h.kept.block b hb hF, fun h' => by
    rcases h.news b h' with h' | h'
    · exact hF h'
    · omega⟩

theorem Live.le (h : Live W F w db s) : W.heap.size ≤ w.heap.size := h.below.size

theorem Live.goes {v : Value} {e : Ending} (h : Live W F w db s) (g : Goes w F db s' v e w') : LGoes W F w db s' v e w' := by
  obtain ⟨he, F', hd, hF, hk⟩ := g
  refine ⟨he, F', ⟨hd, fun k hk' => ?_, h.below.trans (hk.toBelow h.base h.le)⟩, hk, hF⟩
  rcases hF k hk' with h1 | h1
  · exact h.base k h1
  · exact Nat.le_trans h.le h1

theorem Live.next (h : Live W F w db s) (hb : Below w.heap.size w w') : Live W F w' db s :=
  ⟨h.dk.below hb, h.base, h.below.trans (hb.mono h.le)⟩

theorem Live.alloc (h : Live W F w db s) (o : Obj) : Live W F (w.alloc o) db s := h.next (below_one w o)

/-- Bytes just laid lie outside. -/
theorem Live.out_new (h : Live W F w db s) (l : List UInt8) (t : TypeId) : Out (w.alloc (.cells (bv l).toArray t)) F (some ⟨w.heap.size, 0, none⟩) l := by
  rcases bys_new w l t with e | ⟨b, off, e, _, hc⟩
  · exact Or.inl e
  · refine Or.inr ⟨b, off, e, fun hb => ?_, hc⟩
    have := h.dk.lt b hb
    injection e with e
    injection e with e1 e2
    omega

theorem Live.outN_one (h : Live W F w db s) (x : Int) (h1 : -9223372036854775808 ≤ x) (h2 : x ≤ 9223372036854775807) (t : TypeId) : OutN (w.alloc (.cells #[.int .i64 x] t)) F (some ⟨w.heap.size, 0, none⟩) [x] := by
  refine Or.inr ⟨w.heap.size, 0, rfl, fun hb => by have := h.dk.lt _ hb; omega, fun i z hz => ?_⟩
  rcases i with _ | i
  · obtain rfl : x = z := by simpa using hz
    exact ⟨by simp, h1, h2⟩
  · simp at hz

/-- What was read lies outside. -/
theorem own_out {A : Option Addr} {n c : Nat} {l : List UInt8} (h : Dk w F db s) (o : Own w' w.heap.size (.slice A n c) l) : Out w' F A l := by
  have hb := own_bys o
  rcases hb with hb | ⟨b, off, e, _, hc⟩
  · exact Or.inl hb
  · refine Or.inr ⟨b, off, e, fun hF => ?_, hc⟩
    have h1 := h.lt b hF
    have h2 := (o.lt b (by rw [e]; rfl)).1
    omega

theorem Out.first {A : Option Addr} {y : UInt8} {l : List UInt8} (o : Out w F A (y :: l)) : ∃ b off, A = some ⟨b, off, none⟩ ∧ w.cell? ⟨b, off, none⟩ = some (.int .u8 y.toNat) := by
  rcases o with o | ⟨b, off, e, _, hc⟩
  · cases o
  · exact ⟨b, off, e, hc 0 y rfl⟩
end

section
variable {W : World} {F : Nat → Prop} {db : Nat} {s : PS}

set_option maxRecDepth 20000 in
theorem write_live (w : World) (n : Int) (h1 : -9223372036854775808 ≤ n) (h2 : n ≤ 9223372036854775807) (A : Option Addr) (m c : Nat) (l : List UInt8) (hl : l.length = m) (hx : Out w F A l) (hz : A = none → m = 0 ∧ c = 0) (h : Live W F w db s) :
    Calls Tryz.prog 19 #[.pointer (some ⟨db, 0, none⟩), .int .i64 n, .slice A m c] w (LGoes W F w db (s.written n l) (.int .i64 (s.writeE n l))) :=
  (write_any w n h1 h2 A m c l hl hx hz h.dk).mono fun _ _ g => h.goes g
set_option maxRecDepth 20000 in
theorem flush_live (w : World) (h : Live W F w db s) :
    Calls Tryz.prog 20 #[.pointer (some ⟨db, 0, none⟩)] w (LGoes W F w db s.flushed (.int .i64 s.flushE)) :=
  (flush_any w h.dk).mono fun _ _ g => h.goes g
/-- What Read answers, in the midst of a law. -/
def LRead (W : World) (F : Nat → Prop) (w : World) (db : Nat) (s : PS) (l : List UInt8) (err : Int) (e : Ending) (w' : World) : Prop :=
  ∃ A c, e = .returned (.tuple #[.slice A l.length c, .int .i64 err]) ∧ Out w' F A l ∧ Live W F w' db s ∧ Moves w F w' F

set_option maxRecDepth 20000 in
theorem read_live (w : World) (n : Int) (h1 : -9223372036854775808 ≤ n) (h2 : n ≤ 9223372036854775807) (h : Live W F w db s) :
    Calls Tryz.prog 25 #[.pointer (some ⟨db, 0, none⟩), .int .i64 n] w (LRead W F w db s (s.readB n) (s.readE n)) :=
  (read_any w n h1 h2 h.dk).mono fun _ _ ⟨A, c, he, ho, hb⟩ => ⟨A, c, he, own_out h.dk ho, h.next hb, Moves.of_below hb⟩

/-- A new disk, in the midst of a law. -/
def LMade (W w : World) (n : Nat) (e : Ending) (w' : World) : Prop :=
  ∃ db F, e = .returned (.tuple #[.pointer (some ⟨db, 0, none⟩), .int .i64 0]) ∧ Live W F w' db (PS.new n) ∧ Below w.heap.size w w' ∧ ∀ k, F k → w.heap.size ≤ k

set_option maxRecDepth 20000 in
theorem new_live (w : World) (n : Nat) (h2 : 2 ≤ n) (h4 : n ≤ 4096) (hb : Below W.heap.size W w) : Calls Tryz.prog 5 #[.int .i64 n] w (LMade W w n) :=
  (new_good w n h2 h4).mono fun _ _ ⟨db, F, he, hd, hF, hb'⟩ => ⟨db, F, he, ⟨hd, fun k hk => Nat.le_trans hb.size (hF k hk), hb.trans (hb'.mono hb.size)⟩, hb', hF⟩
end

theorem PS.written_size (s : PS) (n : Int) (l : List UInt8) : (s.written n l).size = s.size := by
  unfold PS.written
  split
  · rfl
  · split
    · rfl
    · split
      · exact PS.acted_size s
      · exact PS.acted_size s
theorem PS.flushed_size (s : PS) : s.flushed.size = s.size := by
  unfold PS.flushed
  split
  · rfl
  · split
    · exact PS.acted_size s
    · exact PS.acted_size s
end Go.Proofs.YtnmiccagkfpkiaaGreat

/-
  What Write comes to.
-/
namespace Go.Proofs.YtnmiccagkfpkiaaGreat
open Go.RowKit Go.Maps

theorem uown_nilz {w : World} {base n c : Nat} {A : Option Addr} {l : List UInt8} (h : Own w base (.slice A n c) l) : A = none → n = 0 ∧ c = 0 := by
  intro e
  subst e
  rcases h.2 with ⟨h2, h3⟩ | ⟨g, cap, cur, h2, _⟩
  · simp only [Value.slice.injEq] at h2
    exact ⟨h2.2.1, h2.2.2⟩
  · simp only [Value.slice.injEq] at h2
    cases h2.1

set_option maxRecDepth 20000 in
set_option maxHeartbeats 3200000 in
theorem uwrite_live {W : World} {F : Nat → Prop} {db : Nat} {d : PS} (ep ro he ct : Int) (A : Option Addr) (n c : Nat) (pg : List Int) (w : World) (hz : Ln w 1 A n c (intVals pg)) (hn : n ≤ 1000000) (h : Live W F w db d) :
    Calls Tryz.prog 9 #[.pointer (some ⟨db, 0, none⟩), .agg #[.int .i64 ep, .int .i64 ro, .int .i64 he, .slice A n c, .int .i64 ct]] w (LGoes W F w db (d.supered ⟨ep, ro, he, ct, pg⟩) (.int .i64 (d.superE ⟨ep, ro, he, ct, pg⟩))) := by
  have HB := Lib.hid (ubox_new w (.int .i64 ep) (.int .i64 ro) (.int .i64 he) (.slice A n c) (.int .i64 ct))
  have b1 := below_one w (.cells #[.int .i64 ep, .int .i64 ro, .int .i64 he, .slice A n c, .int .i64 ct] 33)
  have B1 := Lib.hid b1
  have HZ := Lib.hid (hz.kept b1)
  have HD := Lib.hid (h.next b1)
  clear hz h b1
  go_enter Tryz.func9, Tryz.ntmps9
  go_upto_region 1 with fail
  generalize w.alloc (.cells #[.int .i64 ep, .int .i64 ro, .int .i64 he, .slice A n c, .int .i64 ct] 33) = w1 at *
  obtain ⟨c0, c1, c2, c3, c4⟩ := HB.out.cells
  go_wp2_with fail
  refine (uencode_any ep ro he ct A n c pg w1 HZ.out hn).mono ?_
  rintro e w2 ⟨v2, rfl, o2, b2⟩
  have B2 := Lib.hid (B1.out.trans (b2.mono B1.out.size))
  have HB2 := Lib.hid (HB.out.kept b2)
  have HD2 := Lib.hid (HD.out.next b2)
  have O2 := Lib.hid o2
  clear b2 o2 c0 c1 c2 c3 c4 HB HD HZ
  cases hk : (SB.mk ep ro he ct pg).okB with
  | false =>
    have HE : Hid (d.supered ⟨ep, ro, he, ct, pg⟩ = d ∧ d.superE ⟨ep, ro, he, ct, pg⟩ = 90) := Lib.hid (by unfold PS.supered PS.superE; rw [if_neg (by rw [hk]; decide), if_neg (by rw [hk]; decide)]; exact ⟨rfl, rfl⟩)
    rw [checkE_bad hk]
    clear hk
    go_wp2_with fail
    go_ret
    rw [HE.out.1, HE.out.2]
    exact ⟨rfl, F, HD2.out, Moves.of_below B2.out⟩
  | true =>
    have HK := Lib.hid hk
    have hep : 0 ≤ ep := (SB.ep_ok hk).1
    have HE : Hid (d.supered ⟨ep, ro, he, ct, pg⟩ = (if d.writeE (ep % 2) (SB.mk ep ro he ct pg).fr = 0 then (d.written (ep % 2) (SB.mk ep ro he ct pg).fr).flushed else d.written (ep % 2) (SB.mk ep ro he ct pg).fr) ∧ d.superE ⟨ep, ro, he, ct, pg⟩ = (if d.writeE (ep % 2) (SB.mk ep ro he ct pg).fr = 0 then (d.written (ep % 2) (SB.mk ep ro he ct pg).fr).flushE else d.writeE (ep % 2) (SB.mk ep ro he ct pg).fr)) := Lib.hid ⟨if_pos hk, if_pos hk⟩
    have HB' : (SB.mk ep ro he ct pg).encB = (SB.mk ep ro he ct pg).bytes := if_pos hk
    rw [HB'] at O2
    have HP : Hid (packE 1 (ep % 2) (SB.mk ep ro he ct pg).bytes = 0 ∧ packB 1 (ep % 2) (SB.mk ep ro he ct pg).bytes = (SB.mk ep ro he ct pg).fr) := Lib.hid ⟨if_pos (SB.fr_ok hk), if_pos (SB.fr_ok hk)⟩
    rw [checkE_good hk]
    obtain ⟨A2, m2, rfl, e2, hc2, _, y2⟩ := Bys.of_own O2.out
    have Y2 := Lib.hid y2
    have Z2 := Lib.hid (uown_nilz O2.out)
    obtain ⟨m, hm⟩ : ∃ m, (SB.mk ep ro he ct pg).bytes.length = m := ⟨_, rfl⟩
    rw [hm] at Z2 ⊢
    have HM := Lib.hid hm
    have R2 : Hid (0 ≤ ep % 2 ∧ ep % 2 ≤ 1) := Lib.hid (by omega)
    clear HB' hk O2 hm e2 hc2 y2
    obtain ⟨c0, c1, c2, c3, c4⟩ := HB2.out.cells
    go_wp2_with fail
    refine (sectorOf_any ep _ _ _ _ w2 hep).mono ?_
    rintro e w3 ⟨rfl, b3⟩
    have B3 := Lib.hid (B2.out.trans (b3.mono B2.out.size))
    have HD3 := Lib.hid (HD2.out.next b3)
    have Y3 := Lib.hid (Y2.out.kept b3)
    obtain ⟨q, hq⟩ : ∃ q, ep % 2 = q := ⟨_, rfl⟩
    rw [hq] at HE HP R2 ⊢
    obtain ⟨L, hL⟩ : ∃ L, (SB.mk ep ro he ct pg).fr = L := ⟨_, rfl⟩
    rw [hL] at HE HP
    have R2q := R2.out
    clear b3 hq hL c0 c1 c2 c3 c4 HB2 Y2 HD2
    go_wp2_with fail
    refine (pack_all 1 q A2 m m2 (SB.mk ep ro he ct pg).bytes w3 HM.out Y3.out Z2.out).mono ?_
    rintro e w4 ⟨v4, rfl, o4, b4⟩
    rw [HP.out.2] at o4
    rw [HP.out.1]
    have HD4 := Lib.hid (HD3.out.next b4)
    have B4 := Lib.hid (B3.out.trans (b4.mono B3.out.size))
    obtain ⟨A4, m4, rfl, e4, hc4, _, y4⟩ := Bys.of_own o4
    have O4 := Lib.hid (own_out HD3.out.dk o4)
    have Z4 := Lib.hid (uown_nilz o4)
    obtain ⟨r, hr⟩ : ∃ r, L.length = r := ⟨_, rfl⟩
    rw [hr] at Z4 ⊢
    have HRr := Lib.hid hr
    clear b4 o4 e4 hc4 y4 hr HD3 Y3
    go_wp2_with fail
    refine (write_live (W := W) w4 q (by omega) (by omega) A4 r m4 L HRr.out O4.out Z4.out HD4.out).mono ?_
    rintro e w5 ⟨rfl, F5, hv5, hm5⟩
    have HV5 := Lib.hid hv5
    have HM5 := Lib.hid ((Moves.of_below (F := F) B4.out).trans hm5)
    clear hv5 hm5
    by_cases hw : d.writeE q L = 0
    · rw [hw]
      have HE1 := Lib.hid (HE.out.1.trans (if_pos hw))
      have HE2 := Lib.hid (HE.out.2.trans (if_pos hw))
      clear hw HE
      go_wp2_with fail
      refine (flush_live (W := W) w5 HV5.out).mono ?_
      rintro e w6 ⟨rfl, F6, hv6, hm6⟩
      have HV6 := Lib.hid hv6
      have HM6 := Lib.hid (HM5.out.trans hm6)
      clear hv6 hm6
      go_wp2_with fail
      go_ret
      rw [HE1.out, HE2.out]
      exact ⟨rfl, F6, HV6.out, HM6.out⟩
    · have hb : (d.writeE q L == 0) = false := by rw [beq_eq_false_iff_ne]; exact hw
      have HE1 := Lib.hid (HE.out.1.trans (if_neg hw))
      have HE2 := Lib.hid (HE.out.2.trans (if_neg hw))
      generalize d.writeE q L = er at *
      clear hw HE
      go_wp2_with fail
      go_ret
      rw [HE1.out, HE2.out]
      exact ⟨rfl, F5, HV5.out, HM5.out⟩
end Go.Proofs.YtnmiccagkfpkiaaGreat

/-
  What the closure of Choose comes to, and the array that it reads.
-/
namespace Go.Proofs.YtnmiccagkfpkiaaGreat
open Go.RowKit Go.Maps

/-- A block that holds two superblocks. -/
def UArr (w : World) (g : Nat) (x y z p c x' y' z' p' c' : Value) : Prop := w.heap[g]? = some (.cells #[x, y, z, p, c, x', y', z', p', c'] 63 (0, 0))
section
variable {w w' : World} {g : Nat} {x y z p c x' y' z' p' c' : Value}
theorem UArr.lt (h : UArr w g x y z p c x' y' z' p' c') : g < w.heap.size := (Array.getElem?_eq_some_iff.1 h).1
theorem UArr.kept (h : UArr w g x y z p c x' y' z' p' c') (hb : Below w.heap.size w w') : UArr w' g x y z p c x' y' z' p' c' := (hb.block g h.lt).trans h
theorem UArr.cell (h : UArr w g x y z p c x' y' z' p' c') (j : Nat) : w.cell? ⟨g, j, none⟩ = #[x, y, z, p, c, x', y', z', p', c'][j]? := cell_of_row w g j _ _ _ h
theorem UArr.free (h : UArr w g x y z p c x' y' z' p' c') (j : Nat) : w.frozen? ⟨g, j, none⟩ = false := frozen_of_row w g j _ _ h
theorem UArr.set (h : UArr w g x y z p c x' y' z' p' c') (j : Nat) (u : Value) : (w.setCell ⟨g, j, none⟩ u).heap[g]? = some (.cells (#[x, y, z, p, c, x', y', z', p', c'].setIfInBounds j u) 63 (0, 0)) := by
  unfold UArr at h
  rw [Joins.block_setCell h]
end

set_option maxRecDepth 20000 in
theorem run_two0 (x y z p c x' y' z' p' c' : Value) (w : World) : (Instr.index 63 (.agg #[x, y, z, p, c, x', y', z', p', c']) (.int .i64 0)).run Tryz.prog w = .ok (.agg #[x, y, z, p, c]) w := by
  simp [Instr.index, run_underlying Tryz.underlying63, asIntOf, go_sem]
set_option maxRecDepth 20000 in
theorem run_two1 (x y z p c x' y' z' p' c' : Value) (w : World) : (Instr.index 63 (.agg #[x, y, z, p, c, x', y', z', p', c']) (.int .i64 1)).run Tryz.prog w = .ok (.agg #[x', y', z', p', c']) w := by
  simp [Instr.index, run_underlying Tryz.underlying63, asIntOf, go_sem]

set_option maxRecDepth 20000 in
theorem counts0_any (e0 e1 : Int) (g : Nat) (y z p c y' z' p' c' : Value) (w : World) (h : UArr w g (.int .i64 e0) y z p c (.int .i64 e1) y' z' p' c') :
    Calls Tryz.prog 27 #[.int .i64 0, .pointer (some ⟨g, 0, none⟩)] w fun e w' => e = .returned (.bool (decide (e0 > e1))) ∧ Below w.heap.size w w' := by
  have c0 := h.cell 0
  have c5 := h.cell 5
  simp at c0 c5
  clear h
  go_enter Tryz.func27, Tryz.ntmps27
  go_wp2_with fail
  go_quiet (fail)
  go_wp2_with fail
  go_ret
  exact ⟨rfl, ⟨rfl, rfl, rfl, Nat.le_refl _, fun _ _ => rfl⟩⟩

set_option maxRecDepth 20000 in
theorem counts1_any (e0 e1 : Int) (g : Nat) (y z p c y' z' p' c' : Value) (w : World) (h : UArr w g (.int .i64 e0) y z p c (.int .i64 e1) y' z' p' c') :
    Calls Tryz.prog 27 #[.int .i64 1, .pointer (some ⟨g, 0, none⟩)] w fun e w' => e = .returned (.bool (decide (e1 > e0))) ∧ Below w.heap.size w w' := by
  have c0 := h.cell 0
  have c5 := h.cell 5
  simp at c0 c5
  clear h
  go_enter Tryz.func27, Tryz.ntmps27
  go_wp2_with fail
  go_quiet (fail)
  go_wp2_with fail
  go_ret
  exact ⟨rfl, ⟨rfl, rfl, rfl, Nat.le_refl _, fun _ _ => rfl⟩⟩
end Go.Proofs.YtnmiccagkfpkiaaGreat

/-
  What Choose comes to.
-/
namespace Go.Proofs.YtnmiccagkfpkiaaGreat
open Go.RowKit Go.Maps

section
variable {w w' : World} {g : Nat} {x y z p c x' y' z' p' c' : Value}
theorem UArr.put0 (h : UArr w g x y z p c x' y' z' p' c') (a b d e f : Value) : UArr (((((w.setCell ⟨g, 0, none⟩ a).setCell ⟨g, 1, none⟩ b).setCell ⟨g, 2, none⟩ d).setCell ⟨g, 3, none⟩ e).setCell ⟨g, 4, none⟩ f) g a b d e f x' y' z' p' c' := by
  unfold UArr at h ⊢
  rw [Joins.block_setCell (Joins.block_setCell (Joins.block_setCell (Joins.block_setCell (Joins.block_setCell h a) b) d) e) f]
  rfl
theorem UArr.put1 (h : UArr w g x y z p c x' y' z' p' c') (a b d e f : Value) : UArr (((((w.setCell ⟨g, 5, none⟩ a).setCell ⟨g, 6, none⟩ b).setCell ⟨g, 7, none⟩ d).setCell ⟨g, 8, none⟩ e).setCell ⟨g, 9, none⟩ f) g x y z p c a b d e f := by
  unfold UArr at h ⊢
  rw [Joins.block_setCell (Joins.block_setCell (Joins.block_setCell (Joins.block_setCell (Joins.block_setCell h a) b) d) e) f]
  rfl
end
theorem UBut.five (w : World) (r i j k l m : Nat) (x y z p c : Value) : UBut r w (((((w.setCell ⟨r, i, none⟩ x).setCell ⟨r, j, none⟩ y).setCell ⟨r, k, none⟩ z).setCell ⟨r, l, none⟩ p).setCell ⟨r, m, none⟩ c) := (((((UBut.refl r w).set i x).set j y).set k z).set l p).set m c
theorem below_five {B r : Nat} {a w : World} (h : Below B a w) (hr : B ≤ r) (i j k l m : Nat) (x y z p c : Value) : Below B a (((((w.setCell ⟨r, i, none⟩ x).setCell ⟨r, j, none⟩ y).setCell ⟨r, k, none⟩ z).setCell ⟨r, l, none⟩ p).setCell ⟨r, m, none⟩ c) := ((((h.setCell hr _).setCell hr _).setCell hr _).setCell hr _).setCell hr _

/-- The array holds two superblocks. -/
structure UTwo (w : World) (g : Nat) (s t : SB) (A : Option Addr) (c : Nat) (B : Option Addr) (e : Nat) : Prop where
  arr : UArr w g (.int .i64 s.ep) (.int .i64 s.ro) (.int .i64 s.he) (.slice A s.pg.length c) (.int .i64 s.ct) (.int .i64 t.ep) (.int .i64 t.ro) (.int .i64 t.he) (.slice B t.pg.length e) (.int .i64 t.ct)
  l0 : Ln w 1 A s.pg.length c (intVals s.pg)
  h0 : UHi (g + 1) A
  l1 : Ln w 1 B t.pg.length e (intVals t.pg)
  h1 : UHi (g + 1) B
section
variable {w w' : World} {g : Nat} {s t u : SB} {A B C : Option Addr} {c e f : Nat}
theorem UTwo.kept (h : UTwo w g s t A c B e) (hb : Below w.heap.size w w') : UTwo w' g s t A c B e := ⟨h.arr.kept hb, h.l0.kept hb, h.h0, h.l1.kept hb, h.h1⟩
theorem UTwo.put0 (h : UTwo w g s t A c B e) (hl : Ln w 1 C u.pg.length f (intVals u.pg)) (hh : UHi (g + 1) C) : UTwo (((((w.setCell ⟨g, 0, none⟩ (.int .i64 u.ep)).setCell ⟨g, 1, none⟩ (.int .i64 u.ro)).setCell ⟨g, 2, none⟩ (.int .i64 u.he)).setCell ⟨g, 3, none⟩ (.slice C u.pg.length f)).setCell ⟨g, 4, none⟩ (.int .i64 u.ct)) g u t C f B e :=
  ⟨h.arr.put0 _ _ _ _ _, hl.ubut (UBut.five w g 0 1 2 3 4 _ _ _ _ _) hh, hh, h.l1.ubut (UBut.five w g 0 1 2 3 4 _ _ _ _ _) h.h1, h.h1⟩
theorem UTwo.put1 (h : UTwo w g s t A c B e) (hl : Ln w 1 C u.pg.length f (intVals u.pg)) (hh : UHi (g + 1) C) : UTwo (((((w.setCell ⟨g, 5, none⟩ (.int .i64 u.ep)).setCell ⟨g, 6, none⟩ (.int .i64 u.ro)).setCell ⟨g, 7, none⟩ (.int .i64 u.he)).setCell ⟨g, 8, none⟩ (.slice C u.pg.length f)).setCell ⟨g, 9, none⟩ (.int .i64 u.ct)) g s u A c C f :=
  ⟨h.arr.put1 _ _ _ _ _, h.l0.ubut (UBut.five w g 5 6 7 8 9 _ _ _ _ _) h.h0, h.h0, hl.ubut (UBut.five w g 5 6 7 8 9 _ _ _ _ _) hh, hh⟩
end

theorem UBox.five {w : World} {g r : Nat} {x y z p c : Value} (h : UBox w r x y z p c) (hne : r ≠ g) (i j k l m : Nat) (a b d e f : Value) : UBox (((((w.setCell ⟨g, i, none⟩ a).setCell ⟨g, j, none⟩ b).setCell ⟨g, k, none⟩ d).setCell ⟨g, l, none⟩ e).setCell ⟨g, m, none⟩ f) r x y z p c :=
  h.but (UBut.five w g i j k l m a b d e f) hne

/-- What Choose answers where nothing is. -/
theorem uzero_end {w w1 : World} {er : Int} (hb : Below w.heap.size w w1) : UEnd w er SB.zero (.returned (.tuple #[.agg #[.int .i64 0, .int .i64 0, .int .i64 0, .slice none 0 0, .int .i64 0], .int .i64 er])) (((((w1.setCell ⟨w.heap.size, 0, none⟩ (.int .i64 0)).setCell ⟨w.heap.size, 1, none⟩ (.int .i64 0)).setCell ⟨w.heap.size, 2, none⟩ (.int .i64 0)).setCell ⟨w.heap.size, 3, none⟩ (.slice none 0 0)).setCell ⟨w.heap.size, 4, none⟩ (.int .i64 0)) :=
  uput_done (pg := []) hb (Nat.le_refl _) (Ln.none_ w1 1) (UHi.none_ _) _ _ _ _ _

/-- What the first loop keeps. -/
def UFill (w : World) (d : PS) (k : Nat) (wr : World) : Prop :=
  ∃ A c B e, UTwo wr (w.heap.size + 1) (if 0 < k then SB.lieV 0 (d.readB 0) else SB.zero) (if 1 < k then SB.lieV 1 (d.readB 1) else SB.zero) A c B e ∧ UBox wr w.heap.size (.int .i64 0) (.int .i64 0) (.int .i64 0) (.slice none 0 0) (.int .i64 0) ∧ Below w.heap.size w wr
theorem UFill.below {w wr : World} {d : PS} {k : Nat} (h : UFill w d k wr) : Below w.heap.size w wr := by
  obtain ⟨A, c, B, e, _, _, h⟩ := h
  exact h

set_option maxRecDepth 20000 in
set_option maxHeartbeats 6400000 in
theorem choose_any {F : Nat → Prop} {db : Nat} {d : PS} (w : World) (h : Dk w F db d) :
    Calls Tryz.prog 11 #[.pointer (some ⟨db, 0, none⟩)] w (UEnd w d.chooseE d.chooseS) := by
  have hmf : ∀ (fn : Fn) (first cap : Array Value) (w : World), (Instr.makeFunc fn first cap).run Tryz.prog w = .ok (.func fn first cap) w := fun _ _ _ _ => rfl
  have b0 := below_two w (.cells #[.int .i64 0, .int .i64 0, .int .i64 0, .slice none 0 0, .int .i64 0] 33) (.cells #[.int .i64 0, .int .i64 0, .int .i64 0, .slice none 0 0, .int .i64 0, .int .i64 0, .int .i64 0, .int .i64 0, .slice none 0 0, .int .i64 0] 63)
  have HR := (ubox_new w (.int .i64 0) (.int .i64 0) (.int .i64 0) (.slice none 0 0) (.int .i64 0)).kept (below_one _ (.cells #[.int .i64 0, .int .i64 0, .int .i64 0, .slice none 0 0, .int .i64 0, .int .i64 0, .int .i64 0, .int .i64 0, .slice none 0 0, .int .i64 0] 63))
  have HA : UArr ((w.alloc (.cells #[.int .i64 0, .int .i64 0, .int .i64 0, .slice none 0 0, .int .i64 0] 33)).alloc (.cells #[.int .i64 0, .int .i64 0, .int .i64 0, .slice none 0 0, .int .i64 0, .int .i64 0, .int .i64 0, .int .i64 0, .slice none 0 0, .int .i64 0] 63)) (w.heap.size + 1) (.int .i64 0) (.int .i64 0) (.int .i64 0) (.slice none 0 0) (.int .i64 0) (.int .i64 0) (.int .i64 0) (.int .i64 0) (.slice none 0 0) (.int .i64 0) := by
    have := heap_alloc_new (w.alloc (.cells #[.int .i64 0, .int .i64 0, .int .i64 0, .slice none 0 0, .int .i64 0] 33)) (.cells #[.int .i64 0, .int .i64 0, .int .i64 0, .slice none 0 0, .int .i64 0, .int .i64 0, .int .i64 0, .int .i64 0, .slice none 0 0, .int .i64 0] 63)
    rw [show (w.alloc (.cells #[.int .i64 0, .int .i64 0, .int .i64 0, .slice none 0 0, .int .i64 0] 33)).heap.size = w.heap.size + 1 by simp] at this
    exact this
  have HD := Lib.hid h
  have HF0 : Hid (UFill w d 0 _) := Lib.hid ⟨none, 0, none, 0, ⟨HA, Ln.none_ _ 1, UHi.none_ _, Ln.none_ _ 1, UHi.none_ _⟩, HR, b0⟩
  have HOK := Lib.hid h.ok
  have HS2 := Lib.hid h.s2
  clear h HR HA b0
  go_enter Tryz.func11, Tryz.ntmps11
  go_upto_region 2 with fail
  generalize (w.alloc (.cells #[.int .i64 0, .int .i64 0, .int .i64 0, .slice none 0 0, .int .i64 0] 33)).alloc (.cells #[.int .i64 0, .int .i64 0, .int .i64 0, .slice none 0 0, .int .i64 0, .int .i64 0, .int .i64 0, .int .i64 0, .slice none 0 0, .int .i64 0] 63) = w0 at *
  go_wp2_with fail
  go_loopw [11] (fun i wr => ∃ (k : Nat) (z : Int), (k = 0 ∧ z = 0 ∨ k = 1 ∧ z = 1 ∨ k = 2 ∧ z = 2) ∧ i = .int .i64 z ∧ Hid (UFill w d k wr) ∧ (d.down = true → k = 0)) (fun i _ => 2 - (RowKit.intOf i).toNat)
  case atStart => exact ⟨0, 0, by omega, rfl, HF0, fun _ => rfl⟩
  case round =>
    obtain ⟨k, z, hk, rfl, HFk, hdn⟩ := hrel
    clear HF0
    rcases hk with ⟨rfl, rfl⟩ | ⟨rfl, rfl⟩ | ⟨rfl, rfl⟩
    · obtain ⟨A, c, B, e, t, bx, b⟩ := HFk.out
      clear HFk
      by_cases hd : d.down = true
      · go_wp2_with fail
        refine (read_any wr 0 (by omega) (by omega) (HD.out.below b)).mono ?_
        rintro e w1 ⟨A1, c1, rfl, o1, b1⟩
        rw [PS.readE_down hd]
        have HZ := Lib.hid (uzero_end (er := 40) (b.trans (b1.mono b.size)))
        have HQ := Lib.hid (PS.choose_down hd)
        have HR1 := Lib.hid (bx.kept b1)
        obtain ⟨q0, q1, q2, q3, q4⟩ := HR1.out.cells
        obtain ⟨f0, f1, f2, f3, f4⟩ := HR1.out.free
        obtain ⟨e0, e1, e2, e3, e4⟩ := (Lib.hid (HR1.out.put (.int .i64 0) (.int .i64 0) (.int .i64 0) (.slice none 0 0) (.int .i64 0))).out.cells
        clear t bx b o1 b1 hd hdn
        go_wp2_with fail
        refine bodyPost_ret (v := .tuple #[.agg #[.int .i64 0, .int .i64 0, .int .i64 0, .slice none 0 0, .int .i64 0], .int .i64 40]) (by simp [results, Tryz.results11, go_sem, e0, e1, e2, e3, e4]) rfl ?_
        rw [HQ.out.1, HQ.out.2]
        exact HZ.out
      · have hd' : d.down = false := by simpa using hd
        have HDN := Lib.hid hd
        go_wp2_with fail
        refine (read_any wr 0 (by omega) (by omega) (HD.out.below b)).mono ?_
        rintro e w1 ⟨A1, c1, rfl, o1, b1⟩
        rw [PS.readE_up hd' (by omega) (by have := HS2.out; omega)]
        have T1 := Lib.hid (t.kept b1)
        have X1 := Lib.hid (bx.kept b1)
        have B1 := Lib.hid (b.trans (b1.mono b.size))
        obtain ⟨A1', m1, e1, _, hmc, _, y1⟩ := Bys.of_own o1
        simp only [Value.slice.injEq, true_and] at e1
        obtain ⟨rfl, rfl⟩ := e1
        have Y1 := Lib.hid y1
        have hle := PS.readB_le HOK.out 0
        obtain ⟨m, hm⟩ : ∃ m, (d.readB 0).length = m := ⟨_, rfl⟩
        rw [hm] at hle hmc ⊢
        have HM := Lib.hid hm
        clear t bx b o1 b1 hd hd' hdn y1 hm
        go_wp2_with fail
        refine (lying_any 0 A1 m c1 (d.readB 0) w1 HM.out Y1.out hmc (by omega)).mono ?_
        rintro e w2 ⟨v2, rfl, s2, b2⟩
        obtain ⟨A2, c2, rfl, l2, i2⟩ := s2
        have T2 := Lib.hid (T1.out.kept b2)
        have X2 := Lib.hid (X1.out.kept b2)
        have B2 := Lib.hid (B1.out.trans (b2.mono B1.out.size))
        have I2 : Hid (UHi (w.heap.size + 1 + 1) A2) := Lib.hid (i2.low (by have := T1.out.arr.lt; omega))
        have L2 := Lib.hid l2
        clear b2 l2 i2 T1 X1 B1 Y1 HM hmc hle
        have a0 := T2.out.arr.cell 0
        have a1 := T2.out.arr.cell 1
        have a2 := T2.out.arr.cell 2
        have a3 := T2.out.arr.cell 3
        have a4 := T2.out.arr.cell 4
        have g0 := T2.out.arr.free 0
        have g1 := T2.out.arr.free 1
        have g2 := T2.out.arr.free 2
        have g3 := T2.out.arr.free 3
        have g4 := T2.out.arr.free 4
        simp at a0 a1 a2 a3 a4
        have HN : Hid (UFill w d 1 _) := Lib.hid ⟨A2, c2, B, e, T2.out.put0 L2.out I2.out, X2.out.five (by omega) 0 1 2 3 4 _ _ _ _ _, below_five B2.out (by omega) 0 1 2 3 4 _ _ _ _ _⟩
        go_wp2_with fail
        go_roundw
        case rel => exact ⟨1, 1, by omega, by go_num, HN, fun h => absurd h HDN.out⟩
        case measure => simp [RowKit.intOf]
    · obtain ⟨A, c, B, e, t, bx, b⟩ := HFk.out
      clear HFk
      by_cases hd : d.down = true
      · go_wp2_with fail
        refine (read_any wr 1 (by omega) (by omega) (HD.out.below b)).mono ?_
        rintro e w1 ⟨A1, c1, rfl, o1, b1⟩
        rw [PS.readE_down hd]
        have HZ := Lib.hid (uzero_end (er := 40) (b.trans (b1.mono b.size)))
        have HQ := Lib.hid (PS.choose_down hd)
        have HR1 := Lib.hid (bx.kept b1)
        obtain ⟨q0, q1, q2, q3, q4⟩ := HR1.out.cells
        obtain ⟨f0, f1, f2, f3, f4⟩ := HR1.out.free
        obtain ⟨e0, e1, e2, e3, e4⟩ := (Lib.hid (HR1.out.put (.int .i64 0) (.int .i64 0) (.int .i64 0) (.slice none 0 0) (.int .i64 0))).out.cells
        clear t bx b o1 b1 hd hdn
        go_wp2_with fail
        refine bodyPost_ret (v := .tuple #[.agg #[.int .i64 0, .int .i64 0, .int .i64 0, .slice none 0 0, .int .i64 0], .int .i64 40]) (by simp [results, Tryz.results11, go_sem, e0, e1, e2, e3, e4]) rfl ?_
        rw [HQ.out.1, HQ.out.2]
        exact HZ.out
      · have hd' : d.down = false := by simpa using hd
        have HDN := Lib.hid hd
        go_wp2_with fail
        refine (read_any wr 1 (by omega) (by omega) (HD.out.below b)).mono ?_
        rintro e w1 ⟨A1, c1, rfl, o1, b1⟩
        rw [PS.readE_up hd' (by omega) (by have := HS2.out; omega)]
        have T1 := Lib.hid (t.kept b1)
        have X1 := Lib.hid (bx.kept b1)
        have B1 := Lib.hid (b.trans (b1.mono b.size))
        obtain ⟨A1', m1, e1, _, hmc, _, y1⟩ := Bys.of_own o1
        simp only [Value.slice.injEq, true_and] at e1
        obtain ⟨rfl, rfl⟩ := e1
        have Y1 := Lib.hid y1
        have hle := PS.readB_le HOK.out 1
        obtain ⟨m, hm⟩ : ∃ m, (d.readB 1).length = m := ⟨_, rfl⟩
        rw [hm] at hle hmc ⊢
        have HM := Lib.hid hm
        clear t bx b o1 b1 hd hd' hdn y1 hm
        go_wp2_with fail
        refine (lying_any 1 A1 m c1 (d.readB 1) w1 HM.out Y1.out hmc (by omega)).mono ?_
        rintro e w2 ⟨v2, rfl, s2, b2⟩
        obtain ⟨A2, c2, rfl, l2, i2⟩ := s2
        have T2 := Lib.hid (T1.out.kept b2)
        have X2 := Lib.hid (X1.out.kept b2)
        have B2 := Lib.hid (B1.out.trans (b2.mono B1.out.size))
        have I2 : Hid (UHi (w.heap.size + 1 + 1) A2) := Lib.hid (i2.low (by have := T1.out.arr.lt; omega))
        have L2 := Lib.hid l2
        clear b2 l2 i2 T1 X1 B1 Y1 HM hmc hle
        have a0 := T2.out.arr.cell 5
        have a1 := T2.out.arr.cell 6
        have a2 := T2.out.arr.cell 7
        have a3 := T2.out.arr.cell 8
        have a4 := T2.out.arr.cell 9
        have g0 := T2.out.arr.free 5
        have g1 := T2.out.arr.free 6
        have g2 := T2.out.arr.free 7
        have g3 := T2.out.arr.free 8
        have g4 := T2.out.arr.free 9
        simp at a0 a1 a2 a3 a4
        have HN : Hid (UFill w d 2 _) := Lib.hid ⟨A, c, A2, c2, T2.out.put1 L2.out I2.out, X2.out.five (by omega) 5 6 7 8 9 _ _ _ _ _, below_five B2.out (by omega) 5 6 7 8 9 _ _ _ _ _⟩
        go_wp2_with fail
        go_roundw
        case rel => exact ⟨2, 2, by omega, by go_num, HN, fun h => absurd h HDN.out⟩
        case measure => simp [RowKit.intOf]
    · obtain ⟨A, c, B, e, t, bx, b⟩ := HFk.out
      clear HFk
      have hd : d.down = false := by
        cases h : d.down with
        | false => rfl
        | true => exact absurd (hdn h) (by decide)
      rw [if_pos (by decide), if_pos (by decide)] at t
      have HC1 := Lib.hid (@SB.choose_first (d.readB 0) (d.readB 1))
      have HC2 := Lib.hid (@SB.choose_second (d.readB 0) (d.readB 1))
      have HC3 := Lib.hid (@SB.choose_none (d.readB 0) (d.readB 1))
      have HCC : Hid (d.chosen = SB.choose (SB.lie 0 (d.readB 0)) (SB.lie 1 (d.readB 1))) := Lib.hid rfl
      have HUP := Lib.hid hd
      generalize SB.choose (SB.lie 0 (d.readB 0)) (SB.lie 1 (d.readB 1)) = o at *
      generalize SB.lieV 0 (d.readB 0) = x at *
      generalize SB.lieV 1 (d.readB 1) = y at *
      obtain ⟨x0, x1, x2, x4, px⟩ := x
      obtain ⟨y0, y1, y2, y4, py⟩ := y
      have HT := Lib.hid t
      have HX := Lib.hid bx
      have HB := Lib.hid b
      have a0 := t.arr.cell 0
      have a1 := t.arr.cell 1
      have a2 := t.arr.cell 2
      have a3 := t.arr.cell 3
      have a4 := t.arr.cell 4
      have a5 := t.arr.cell 5
      have a6 := t.arr.cell 6
      have a7 := t.arr.cell 7
      have a8 := t.arr.cell 8
      have a9 := t.arr.cell 9
      simp at a0 a1 a2 a3 a4 a5 a6 a7 a8 a9
      obtain ⟨nx, hnx⟩ : ∃ nx, px.length = nx := ⟨_, rfl⟩
      obtain ⟨ny, hny⟩ : ∃ ny, py.length = ny := ⟨_, rfl⟩
      rw [hnx] at a3
      rw [hny] at a8
      have HNX := Lib.hid hnx
      have HNY := Lib.hid hny
      clear hd hdn t bx b hnx hny HS2 HOK HD
      go_wp2_with fail
      clear a0 a1 a2 a3 a4 a5 a6 a7 a8 a9
      have hix0 := run_two0 (.int .i64 x0) (.int .i64 x1) (.int .i64 x2) (.slice A nx c) (.int .i64 x4) (.int .i64 y0) (.int .i64 y1) (.int .i64 y2) (.slice B ny e) (.int .i64 y4)
      have hix1 := run_two1 (.int .i64 x0) (.int .i64 x1) (.int .i64 x2) (.slice A nx c) (.int .i64 x4) (.int .i64 y0) (.int .i64 y1) (.int .i64 y2) (.slice B ny e) (.int .i64 y4)
      obtain ⟨wo, rfl⟩ : ∃ wo : World, wo = wr := ⟨_, rfl⟩
      go_loopw [32] (fun i wk => ∃ z : Int, (z = 0 ∨ z = 1 ∧ ¬ x0 > y0 ∨ z = 2 ∧ ¬ x0 > y0 ∧ ¬ y0 > x0) ∧ i = .int .i64 z ∧ Hid (UTwo wk (w.heap.size + 1) ⟨x0, x1, x2, x4, px⟩ ⟨y0, y1, y2, y4, py⟩ A c B e) ∧ Hid (UBox wk w.heap.size (.int .i64 0) (.int .i64 0) (.int .i64 0) (.slice none 0 0) (.int .i64 0)) ∧ Hid (Below w.heap.size w wk)) (fun i _ => 2 - (RowKit.intOf i).toNat)
      case atStart => exact ⟨0, Or.inl rfl, rfl, HT, HX, HB⟩
      case round =>
        obtain ⟨z, hz, rfl, HTk, HXk, HBk⟩ := hrel
        clear HT HX HB
        rcases hz with rfl | ⟨rfl, hn⟩ | ⟨rfl, hn, hn2⟩
        · have bx := below_one wr (.cells #[.int .i64 x0, .int .i64 x1, .int .i64 x2, .slice A nx c, .int .i64 x4] 33)
          have HU := Lib.hid (ubox_new wr (.int .i64 x0) (.int .i64 x1) (.int .i64 x2) (.slice A nx c) (.int .i64 x4))
          have HT5 := Lib.hid (HTk.out.kept bx)
          have HX5 := Lib.hid (HXk.out.kept bx)
          have HB5 := Lib.hid (HBk.out.trans (bx.mono HBk.out.size))
          clear bx HTk HXk HBk
          go_upto_region 14 with fail
          generalize wr.alloc (.cells #[.int .i64 x0, .int .i64 x1, .int .i64 x2, .slice A nx c, .int .i64 x4] 33) = w5 at *
          go_wp2_with fail
          refine (counts0_any x0 y0 _ _ _ _ _ _ _ _ _ w5 HT5.out.arr).mono ?_
          rintro e6 w6 ⟨rfl, b6⟩
          have HU6 := Lib.hid (HU.out.kept b6)
          have HT6 := Lib.hid (HT5.out.kept b6)
          have HX6 := Lib.hid (HX5.out.kept b6)
          have HB6 := Lib.hid (HB5.out.trans (b6.mono HB5.out.size))
          clear b6 HU HT5 HX5 HB5
          by_cases hc : x0 > y0
          · rw [decide_eq_true hc]
            have HR := Lib.hid (PS.choose_up HUP.out (HCC.out.trans (HC1.out hc)))
            have l := HT6.out.l0
            have h1 := HT6.out.h0
            simp only [HNX.out] at l
            obtain ⟨q0, q1, q2, q3, q4⟩ := HX6.out.cells
            obtain ⟨f0, f1, f2, f3, f4⟩ := HX6.out.free
            obtain ⟨v0, v1, v2, v3, v4⟩ := HU6.out.cells
            obtain ⟨e0, e1, e2, e3, e4⟩ := (Lib.hid (HX6.out.put (.int .i64 x0) (.int .i64 x1) (.int .i64 x2) (.slice A nx c) (.int .i64 x4))).out.cells
            have HZ := Lib.hid (uput_done (ep := x0) (ro := x1) (he := x2) (ct := x4) (err := 0) HB6.out (Nat.le_refl w.heap.size) l (h1.low (by omega)) (.int .i64 x0) (.int .i64 x1) (.int .i64 x2) (.slice A nx c) (.int .i64 x4))
            clear hc l h1
            go_wp2_with fail
            refine bodyPost_ret (v := .tuple #[.agg #[.int .i64 x0, .int .i64 x1, .int .i64 x2, .slice A nx c, .int .i64 x4], .int .i64 0]) (by simp [results, Tryz.results11, go_sem, e0, e1, e2, e3, e4]) rfl ?_
            rw [HR.out.1, HR.out.2]
            exact HZ.out
          · rw [decide_eq_false hc]
            go_wp2_with fail
            go_roundw
            case rel => exact ⟨1, Or.inr (Or.inl ⟨rfl, by omega⟩), by go_num, HT6, HX6, HB6⟩
            case measure => simp [RowKit.intOf]
        · have bx := below_one wr (.cells #[.int .i64 y0, .int .i64 y1, .int .i64 y2, .slice B ny e, .int .i64 y4] 33)
          have HU := Lib.hid (ubox_new wr (.int .i64 y0) (.int .i64 y1) (.int .i64 y2) (.slice B ny e) (.int .i64 y4))
          have HT5 := Lib.hid (HTk.out.kept bx)
          have HX5 := Lib.hid (HXk.out.kept bx)
          have HB5 := Lib.hid (HBk.out.trans (bx.mono HBk.out.size))
          clear bx HTk HXk HBk
          go_upto_region 14 with fail
          generalize wr.alloc (.cells #[.int .i64 y0, .int .i64 y1, .int .i64 y2, .slice B ny e, .int .i64 y4] 33) = w5 at *
          go_wp2_with fail
          refine (counts1_any x0 y0 _ _ _ _ _ _ _ _ _ w5 HT5.out.arr).mono ?_
          rintro e6 w6 ⟨rfl, b6⟩
          have HU6 := Lib.hid (HU.out.kept b6)
          have HT6 := Lib.hid (HT5.out.kept b6)
          have HX6 := Lib.hid (HX5.out.kept b6)
          have HB6 := Lib.hid (HB5.out.trans (b6.mono HB5.out.size))
          clear b6 HU HT5 HX5 HB5
          by_cases hc : y0 > x0
          · rw [decide_eq_true hc]
            have HR := Lib.hid (PS.choose_up HUP.out (HCC.out.trans (HC2.out hc)))
            have l := HT6.out.l1
            have h1 := HT6.out.h1
            simp only [HNY.out] at l
            obtain ⟨q0, q1, q2, q3, q4⟩ := HX6.out.cells
            obtain ⟨f0, f1, f2, f3, f4⟩ := HX6.out.free
            obtain ⟨v0, v1, v2, v3, v4⟩ := HU6.out.cells
            obtain ⟨e0, e1, e2, e3, e4⟩ := (Lib.hid (HX6.out.put (.int .i64 y0) (.int .i64 y1) (.int .i64 y2) (.slice B ny e) (.int .i64 y4))).out.cells
            have HZ := Lib.hid (uput_done (ep := y0) (ro := y1) (he := y2) (ct := y4) (err := 0) HB6.out (Nat.le_refl w.heap.size) l (h1.low (by omega)) (.int .i64 y0) (.int .i64 y1) (.int .i64 y2) (.slice B ny e) (.int .i64 y4))
            clear hc l h1
            go_wp2_with fail
            refine bodyPost_ret (v := .tuple #[.agg #[.int .i64 y0, .int .i64 y1, .int .i64 y2, .slice B ny e, .int .i64 y4], .int .i64 0]) (by simp [results, Tryz.results11, go_sem, e0, e1, e2, e3, e4]) rfl ?_
            rw [HR.out.1, HR.out.2]
            exact HZ.out
          · rw [decide_eq_false hc]
            go_wp2_with fail
            go_roundw
            case rel => exact ⟨2, Or.inr (Or.inr ⟨rfl, by omega, by omega⟩), by go_num, HT6, HX6, HB6⟩
            case measure => simp [RowKit.intOf]
        · have HR := Lib.hid (PS.choose_up_none HUP.out (HCC.out.trans (HC3.out (by omega) (by omega))))
          obtain ⟨q0, q1, q2, q3, q4⟩ := HXk.out.cells
          obtain ⟨f0, f1, f2, f3, f4⟩ := HXk.out.free
          obtain ⟨e0, e1, e2, e3, e4⟩ := (Lib.hid (HXk.out.put (.int .i64 0) (.int .i64 0) (.int .i64 0) (.slice none 0 0) (.int .i64 0))).out.cells
          have HZ := Lib.hid (uzero_end (er := 91) HBk.out)
          go_wp2_with fail
          refine bodyPost_ret (v := .tuple #[.agg #[.int .i64 0, .int .i64 0, .int .i64 0, .slice none 0 0, .int .i64 0], .int .i64 91]) (by simp [results, Tryz.results11, go_sem, e0, e1, e2, e3, e4]) rfl ?_
          rw [HR.out.1, HR.out.2]
          exact HZ.out
end Go.Proofs.YtnmiccagkfpkiaaGreat

/-
  What the laws' awake comes to.
-/
namespace Go.Proofs.YtnmiccagkfpkiaaGreat
open Go.RowKit Go.Maps

def sup4 : SB := ⟨4, 0, 0, 0, [2]⟩
def sup5 : SB := ⟨5, 3, 1, 0, [2]⟩
theorem sup4_ok : sup4.okB = true := by decide
theorem sup5_ok : sup5.okB = true := by decide
theorem zero_bad : SB.zero.okB = false := by decide

/-- What awake's calls answer. -/
theorem awake_facts : (PS.new 4).chooseE = 91 ∧ (PS.new 4).chooseS = SB.zero ∧ (PS.new 4).superE sup4 = 0 ∧ ((PS.new 4).supered sup4).superE sup5 = 0 ∧
    (((PS.new 4).supered sup4).supered sup5).chooseE = 0 ∧ (((PS.new 4).supered sup4).supered sup5).chooseS = sup5 := by
  have c0 := Calm.new (n := 4) (by omega)
  obtain ⟨a1, a2⟩ := PS.choose_up_none c0.up (c0.none_ (fun n => lie_nil n))
  obtain ⟨b1, b2⟩ := c0.lays sup4_ok
  rw [b2]
  have c1 := c0.put (sup4.ep % 2) sup4.fr
  obtain ⟨d1, d2⟩ := c1.lays sup5_ok
  rw [d2]
  have c2 := c1.put (sup5.ep % 2) sup5.fr
  have h := PS.choose_up c2.up (c2.two (s := sup4) (t := sup5)
    (by rw [PS.put_off _ _ (show sup4.ep % 2 ≠ sup5.ep % 2 by decide), PS.put_at]; exact SB.lie_fr sup4_ok)
    (by rw [PS.put_at]; exact SB.lie_fr sup5_ok) (by decide) (by decide))
  exact ⟨a1, a2, b1, d1, h.1, h.2⟩

set_option maxRecDepth 20000 in
set_option maxHeartbeats 3200000 in
theorem awake_any (w : World) :
    Calls Tryz.prog 4 #[] w fun e w' => e = .returned (.bool true) ∧ Below w.heap.size w w' := by
  obtain ⟨k1, k2, k3, k4, k5, k6⟩ := awake_facts
  have K1 := Lib.hid k1
  have K2 := Lib.hid k2
  have K3 := Lib.hid k3
  have K4 := Lib.hid k4
  have K5 := Lib.hid k5
  have K6 := Lib.hid k6
  clear k1 k2 k3 k4 k5 k6
  go_enter Tryz.func4, Tryz.ntmps4
  go_wp2_with fail
  refine (new_live (W := w) w 4 (by omega) (by omega) (Below.refl _ _)).mono ?_
  rintro e w1 ⟨db, F1, rfl, hv1, -, -⟩
  have HV1 := Lib.hid hv1
  clear hv1
  go_wp2_with fail
  refine (choose_any w1 HV1.out.dk).mono ?_
  rintro e w2 ⟨v2, rfl, s2, b2⟩
  rw [K2.out] at s2
  obtain ⟨A2, c2, rfl, _, _⟩ := s2
  rw [K1.out]
  have HV2 := Lib.hid (HV1.out.next b2)
  clear b2 HV1
  simp only [SB.zero, List.length_nil]
  have b3 := below_two w2 (.cells #[.int .i64 0, .int .i64 0, .int .i64 0, .slice A2 0 c2, .int .i64 0] 33) (.cells #[.int .i64 2] 3)
  have HV3 := Lib.hid (HV2.out.next b3)
  have HL3 := ln_one (w2.alloc (.cells #[.int .i64 0, .int .i64 0, .int .i64 0, .slice A2 0 c2, .int .i64 0] 33)) 2 3
  rw [show (w2.alloc (.cells #[.int .i64 0, .int .i64 0, .int .i64 0, .slice A2 0 c2, .int .i64 0] 33)).heap.size = w2.heap.size + 1 by simp] at HL3
  have HL3 := Lib.hid HL3
  clear b3 HV2
  go_wp2_with fail
  generalize (w2.alloc (.cells #[.int .i64 0, .int .i64 0, .int .i64 0, .slice A2 0 c2, .int .i64 0] 33)).alloc (.cells #[.int .i64 2] 3) = w3 at *
  refine (uwrite_live (W := w) 4 0 0 0 _ 1 1 [2] w3 HL3.out (by omega) HV3.out).mono ?_
  rintro e w4 ⟨rfl, F4, hv4, -⟩
  have HV4 : Hid (Live w F4 w4 db ((PS.new 4).supered sup4)) := Lib.hid hv4
  rw [show (PS.new 4).superE ⟨4, 0, 0, 0, [2]⟩ = 0 from K3.out]
  clear hv4 HV3 HL3
  have HV5 := Lib.hid (HV4.out.next (below_one w4 (.cells #[.int .i64 2] 3)))
  have HL5 := Lib.hid (ln_one w4 2 3)
  go_wp2_with fail
  generalize w4.alloc (.cells #[.int .i64 2] 3) = w5 at *
  refine (uwrite_live (W := w) 5 3 1 0 _ 1 1 [2] w5 HL5.out (by omega) HV5.out).mono ?_
  rintro e w6 ⟨rfl, F6, hv6, -⟩
  have HV6 : Hid (Live w F6 w6 db (((PS.new 4).supered sup4).supered sup5)) := Lib.hid hv6
  rw [show ((PS.new 4).supered sup4).superE ⟨5, 3, 1, 0, [2]⟩ = 0 from K4.out]
  clear hv6 HV5 HL5 HV4
  go_wp2_with fail
  refine (choose_any w6 HV6.out.dk).mono ?_
  rintro e w7 ⟨v7, rfl, s7, b7⟩
  rw [K6.out] at s7
  obtain ⟨A7, c7, rfl, _, _⟩ := s7
  rw [K5.out]
  have HV7 := Lib.hid (HV6.out.next b7)
  clear b7 HV6
  simp only [sup5, List.length_cons, List.length_nil]
  have HU := Lib.hid (ubox_new w7 (.int .i64 5) (.int .i64 3) (.int .i64 1) (.slice A7 1 c7) (.int .i64 0))
  have HV8 := Lib.hid (HV7.out.next (below_one w7 (.cells #[.int .i64 5, .int .i64 3, .int .i64 1, .slice A7 1 c7, .int .i64 0] 33)))
  clear HV7
  go_upto_region 8 with fail
  generalize w7.alloc (.cells #[.int .i64 5, .int .i64 3, .int .i64 1, .slice A7 1 c7, .int .i64 0] 33) = w8 at *
  go_wp2_with fail
  refine (uencode_any 0 0 0 0 none 0 0 [] w8 (Ln.none_ _ 1) (by omega)).mono ?_
  rintro e w9 ⟨v9, rfl, _, b9⟩
  rw [show SB.checkE ⟨0, 0, 0, 0, []⟩ = 90 from checkE_bad zero_bad]
  have HU9 := Lib.hid (HU.out.kept b9)
  have HV9 := Lib.hid (HV8.out.next b9)
  obtain ⟨x0, x1, x2, x3, x4⟩ := HU9.out.cells
  clear b9 HU HV8
  go_wp2_with fail
  go_ret
  exact ⟨rfl, HV9.out.below⟩
end Go.Proofs.YtnmiccagkfpkiaaGreat

/-
  The frame of every law's proof: how a walk that answers true and only makes memory becomes the given statement.
-/
namespace Go.Proofs.YtnmiccagkfpkiaaGreat
open Go.ChangeShapes Go.WideShapes Go.ChangeAt Go.RowKit Go.Joins Go.Deep

theorem ownKnobs : ownKnob Tryz.prog.godebug = none := by kernel_rfl
theorem laidOut : laidOutB Tryz.prog = true := by kernel_rfl

section
variable {H : Type} {enc : TypeId × Value → H}

/-- What was read before a call that only made memory reads the same behind it. -/
theorem all_again {P : Program} (hl : laidOutB P = true) {W W' : World} (hb : Below W.heap.size W W') :
    ∀ (ts : List TypeId) (vs : List Value) (ds : List (DataW H)) (ps : List MemPlace), (∀ t ∈ ts, P.readableRec t = true ∧ t < P.types.size) →
      DataW.TrodAll enc P W 0 (fun _ => true) true ts vs ds ps → DataW.TrodAll enc P W' 0 (fun b => decide (b < W.heap.size)) true ts vs ds ps
  | [], _, _, _, _, h => by
    obtain ⟨rfl, rfl, rfl⟩ := trodAll_nil h
    exact trodAll_mk0
  | t :: ts, _, _, _, hr, h => by
    obtain ⟨v, vs, d, ds, p, q, rfl, rfl, rfl, h0, h1⟩ := trodAll_cons h
    have lt0 : ∀ x ∈ p, x.block < W.heap.size := by
      obtain ⟨m, hm⟩ := h0
      exact DataW.trod_lt m _ _ _ hm
    exact trodAll_cons_mk (Below.trod hl (hr t (by simp)).1 (hr t (by simp)).2 h0 hb lt0) (all_again hl hb ts vs ds q (fun u hu => hr u (by simp [hu])) h1)

theorem lift_law {C : Checked} {os : Os} {F : FuncId} {fn : Func} {s : ChangeSpec} {conds : List PathCond} {tb : TypeId}
    (own : ownKnob C.prog.godebug = none) (started : os.Started) (noInit : C.prog.inits.idxOf? F = none) (hfn : C.prog.funcs[F]? = some fn)
    (witness : ∃ (w : World) (tape : Tape) (i : Input), w.os = os ∧ (w.forCall tape i).Shaped C.prog ∧ i.vars = [] ∧ Input.okWide C.prog (w.forCall tape i) .any w.heap.size F i ∧
      s.pre6 enc C.prog fn conds false (w.forCall tape i).memory i.args ∧ ({} : Assume).holds C.prog (lone (Frame.enter C.prog F i.args .normal) [] (w.forCall tape i)))
    (hl : laidOutB C.prog = true) (hread : ∀ t ∈ fn.params.toList, C.prog.readableRec t = true ∧ t < C.prog.types.size) (hvars : s.vars = [])
    (hres : fn.resultTypes = #[tb]) (hb : C.prog.underlying tb = some .bool)
    (hspec : ∀ (vs : List Value) (ds : List (DataW H)) (W : World) (p : List MemPlace), DataW.TrodAll enc C.prog W 0 (fun _ => true) true fn.params.toList vs ds p →
      s.fn H ds = { results := [.lit (.bool true)], args := ds })
    (walk : ∀ (W : World) (base : Nat) (args : Array Value) (ds : List (DataW H)) (p : List MemPlace),
      (∀ (j : Nat) t v, fn.params[j]? = some t → args[j]? = some v → Value.okWide C.prog W .any base t v) →
      DataW.TrodAll enc C.prog W 0 (fun _ => true) true fn.params.toList args.toList ds p →
      Calls C.prog F args W fun e W' => e = .returned (.bool true) ∧ Below W.heap.size W W') :
    ReturnsInHanded {} C os F .any (s.pre6 enc C.prog fn conds false) (s.post enc C.prog fn false true false false) := by
  refine returnsInHanded_of_change own started noInit hfn witness ?_
  intro W base args ds gs before hval hW _ _
  have hW' := hW
  obtain ⟨p, q, hA, hV, rfl, _, _⟩ := hW
  rw [hvars] at hV
  obtain ⟨rfl, rfl⟩ := trodVars_none hV
  refine (walk W base args ds p hval hA).mono fun e W' ⟨he, bel⟩ => ?_
  subst he
  have hs := hspec _ _ _ _ hA
  refine ⟨_, rfl, ds, [], _, [], p, [], hW', ?_, ?_, ?_, bel.frame _, fun h => by cases h⟩
  · rw [List.append_nil, hs, hres]
    exact trodAll_mk1 (shut_bool hb _)
  · rw [List.append_nil, hs]
    exact all_again hl bel _ _ _ _ hread hA
  · rw [List.append_nil, hs, hvars]
    rfl
end

theorem intCells : Tryz.prog.cellsOf 3 = 1 := by kernel_rfl

theorem add_at (b off : Nat) (n : Nat) : (⟨b, off, none⟩ : Addr).add n = ⟨b, off + n, none⟩ := by
  unfold Addr.add
  split
  · rename_i h
    have : n = 0 := by simpa using h
    subst this
    rfl
  · rfl

theorem pick_each {α β : Type} (R : Nat → α → Prop) (g : α → β) : ∀ (n : Nat), (∀ i, i < n → ∃ a, R i a) → ∃ l : List α, l.length = n ∧ ∀ i a, l[i]? = some a → R i a
  | 0, _ => ⟨[], rfl, fun i a h => by simp at h⟩
  | n + 1, h => by
    obtain ⟨l, hl, hr⟩ := pick_each R g n (fun i hi => h i (by omega))
    obtain ⟨a, ha⟩ := h n (by omega)
    refine ⟨l ++ [a], by simp [hl], fun i x hx => ?_⟩
    by_cases hi : i < l.length
    · rw [List.getElem?_append_left hi] at hx
      exact hr i x hx
    · rw [List.getElem?_append_right (by omega)] at hx
      have h0 : i - l.length = 0 := by
        rcases Nat.eq_zero_or_pos (i - l.length) with e | e
        · exact e
        · have e2 : i - l.length = (i - l.length - 1) + 1 := by omega
          rw [e2] at hx
          simp at hx
      rw [h0] at hx
      have e1 : i = n := by omega
      subst e1
      obtain rfl : a = x := by simpa using hx
      exact ha

end Go.Proofs.YtnmiccagkfpkiaaGreat

/-
  A number that comes in.
-/
namespace Go.Proofs.YtnmiccagkfpkiaaGreat
open Go.ChangeShapes Go.WideShapes Go.ChangeAt Go.RowKit Go.Joins Go.Deep
section
variable {H : Type} {enc : TypeId × Value → H} {w : World} {base : Nat} {spare : Nat → Bool} {held : Bool}
set_option maxRecDepth 20000 in
/-- A number that comes in. -/
theorem open_i64 {v : Value} {d : DataW H} {p : List MemPlace} {r : Reach} {b0 : Nat} (hv : Value.okWide Tryz.prog w r b0 3 v) (h : DataW.Trod enc Tryz.prog w base spare held 3 v d p) :
    ∃ z : Int, v = .int .i64 z ∧ -9223372036854775808 ≤ z ∧ z ≤ 9223372036854775807 := by
  obtain ⟨n, rfl⟩ := okWide_int Tryz.underlying3 hv
  obtain ⟨fuel, hf⟩ := h
  obtain ⟨m, hm, _, hwf⟩ := DataW.trod_int Tryz.underlying3 hf
  simp [Value.cells] at hm
  subst hm
  simp only [Lit.wf, Bool.and_eq_true, decide_eq_true_eq] at hwf
  have h1 : IntKind.i64.min = -9223372036854775808 := rfl
  have h2 : IntKind.i64.max = 9223372036854775807 := rfl
  exact ⟨n, rfl, by omega, by omega⟩
end
end Go.Proofs.YtnmiccagkfpkiaaGreat

/-
  A list of bytes that comes in.
-/
namespace Go.Proofs.YtnmiccagkfpkiaaGreat
open Go.ChangeShapes Go.WideShapes Go.ChangeAt Go.RowKit Go.Joins Go.Deep
section
variable {H : Type} {enc : TypeId × Value → H} {w : World} {base : Nat} {spare : Nat → Bool} {held : Bool}

set_option maxRecDepth 20000 in
theorem byteCells1 : Tryz.prog.cellsOf 5 = 1 := by kernel_rfl

theorem byte_of_wf {z : Int} (h : (Lit.int .u8 z).wf = true) : ∃ b : UInt8, z = (b.toNat : Int) := by
  have h1 : 0 ≤ z ∧ z < 256 := by
    simp only [Lit.wf, Bool.and_eq_true, decide_eq_true_eq] at h
    have h1 : IntKind.u8.min = 0 := rfl
    have h2 : IntKind.u8.max = 255 := rfl
    omega
  refine ⟨UInt8.ofNat z.toNat, ?_⟩
  rw [ofNat_toNat]
  omega

set_option maxRecDepth 20000 in
/-- A slice of bytes that comes in. -/
theorem open_bytesz {v : Value} {d : DataW H} {p : List MemPlace} {r : Reach} {b0 : Nat} (hv : Value.okWide Tryz.prog w r b0 34 v) (h : DataW.Trod enc Tryz.prog w base spare held 34 v d p) :
    ∃ (A : Option Addr) (n c : Nat) (l : List UInt8), v = .slice A n c ∧ l.length = n ∧ Bys w w.heap.size A l ∧ n ≤ c ∧ c ≤ maxLen ∧ (A = none → n = 0 ∧ c = 0) := by
  obtain ⟨A, n, c, rfl⟩ := okWide_slice Tryz.underlying34 hv
  obtain ⟨fuel, hf⟩ := h
  rcases open_slice Tryz.underlying34 hf with ⟨hcs, _⟩ | ⟨a, len, cap, m, f, D, Pl, hcs, _, hl, hcm, hm, _, hi⟩
  · simp [Value.cells] at hcs
    obtain ⟨rfl, rfl, rfl⟩ := hcs
    exact ⟨none, 0, 0, [], rfl, rfl, Or.inl rfl, Nat.le_refl _, Nat.zero_le _, fun _ => ⟨rfl, rfl⟩⟩
  · simp [Value.cells] at hcs
    obtain ⟨rfl, rfl, rfl⟩ := hcs
    have hlm : n ≤ m := by rw [hm]; split <;> omega
    have each : ∀ i, i < n → ∃ z : UInt8, w.cell? (a.add i) = some (.int .u8 z.toNat) := by
      intro i hin
      obtain ⟨cs', hc, ht⟩ := hi i (by omega)
      rw [byteCells1] at hc
      obtain ⟨z, rfl, _, hwf⟩ := DataW.trod_int Tryz.underlying5 ht
      obtain ⟨b, rfl⟩ := byte_of_wf hwf
      obtain ⟨_, _, hat⟩ := World.cells?_some hc
      have := hat 0 (by omega)
      rw [Nat.mul_one] at this
      refine ⟨b, ?_⟩
      simpa [Addr.add] using this
    obtain ⟨zs, hlen, hx⟩ := pick_each (fun i (z : UInt8) => w.cell? (a.add i) = some (.int .u8 z.toNat)) (fun v => v) n each
    refine ⟨_, _, _, zs, rfl, hlen, ?_, hl, hcm, fun h => by cases h⟩
    by_cases hx0 : zs = []
    · exact Or.inl hx0
    · right
      obtain ⟨b, off, spot⟩ := a
      have hpos : 0 < zs.length := by
        rcases zs with _ | ⟨y, ys⟩
        · exact absurd rfl hx0
        · simp
      have h00 := hx 0 _ (List.getElem?_eq_getElem hpos)
      have hs : spot = none := by
        simpa [Addr.add] using World.cell?_spot h00
      subst hs
      refine ⟨b, off, rfl, ?_, fun i v hv => ?_⟩
      · rw [add_at] at h00
        exact World.block_lt_of_cell? _ _ h00
      · have h0 := hx i v hv
        rw [add_at] at h0
        exact h0

set_option maxRecDepth 20000 in
theorem open_bytes {v : Value} {d : DataW H} {p : List MemPlace} {r : Reach} {b0 : Nat} (hv : Value.okWide Tryz.prog w r b0 34 v) (h : DataW.Trod enc Tryz.prog w base spare held 34 v d p) :
    ∃ (A : Option Addr) (n c : Nat) (l : List UInt8), v = .slice A n c ∧ l.length = n ∧ Bys w w.heap.size A l ∧ n ≤ c ∧ c ≤ maxLen := by
  obtain ⟨A, n, c, l, h1, h2, h3, h4, h5, _⟩ := open_bytesz hv h
  exact ⟨A, n, c, l, h1, h2, h3, h4, h5⟩

set_option maxRecDepth 20000 in
/-- A byte that comes in. -/
theorem open_u8 {v : Value} {d : DataW H} {p : List MemPlace} {r : Reach} {b0 : Nat} (hv : Value.okWide Tryz.prog w r b0 5 v) (h : DataW.Trod enc Tryz.prog w base spare held 5 v d p) :
    ∃ z : UInt8, v = .int .u8 z.toNat := by
  obtain ⟨n, rfl⟩ := okWide_int Tryz.underlying5 hv
  obtain ⟨fuel, hf⟩ := h
  obtain ⟨m, hm, _, hwf⟩ := DataW.trod_int Tryz.underlying5 hf
  simp [Value.cells] at hm
  subst hm
  obtain ⟨b, rfl⟩ := byte_of_wf hwf
  exact ⟨b, rfl⟩
end
end Go.Proofs.YtnmiccagkfpkiaaGreat

/-
  Numbers, and bytes, that come in, as a part of something.
-/
namespace Go.Proofs.YtnmiccagkfpkiaaGreat
open Go.ChangeShapes Go.WideShapes Go.ChangeAt Go.RowKit Go.Joins Go.Deep

def In64 (z : Int) : Prop := -9223372036854775808 ≤ z ∧ z ≤ 9223372036854775807

/-- Numbers below R. -/
def Nums (w : World) (R : Nat) (A : Option Addr) (l : List Int) : Prop :=
  l = [] ∨ ∃ b off, A = some ⟨b, off, none⟩ ∧ b < R ∧ ∀ i z, l[i]? = some z → w.cell? ⟨b, off + i, none⟩ = some (.int .i64 z) ∧ -9223372036854775808 ≤ z ∧ z ≤ 9223372036854775807

section
variable {w w' : World} {R : Nat} {A : Option Addr}

theorem Nums.below {l : List Int} (h : Nums w R A l) (hb : Below R w w') : Nums w' R A l := by
  rcases h with rfl | ⟨b, off, rfl, hR, hc⟩
  · exact Or.inl rfl
  · exact Or.inr ⟨b, off, rfl, hR, fun i z hz => ⟨(hb.cell (p := ⟨b, _, none⟩) hR).trans (hc i z hz).1, (hc i z hz).2⟩⟩

theorem Nums.outN {l : List Int} {F : Nat → Prop} (h : Nums w R A l) (hF : ∀ k, F k → R ≤ k) : OutN w F A l := by
  rcases h with h | ⟨b, off, e, hR, hc⟩
  · exact Or.inl h
  · exact Or.inr ⟨b, off, e, fun hb => by have := hF b hb; omega, hc⟩

end

section
variable {H : Type} {enc : TypeId × Value → H} {w : World} {base : Nat} {spare : Nat → Bool} {held : Bool}

theorem in64_of {z : Int} (h : (Lit.int .i64 z).wf = true) : In64 z := by
  simp only [Lit.wf, Bool.and_eq_true, decide_eq_true_eq] at h
  have h1 : IntKind.i64.min = -9223372036854775808 := rfl
  have h2 : IntKind.i64.max = 9223372036854775807 := rfl
  exact ⟨by omega, by omega⟩

set_option maxRecDepth 20000 in
theorem numCells1 : Tryz.prog.cellsOf 3 = 1 := by kernel_rfl
set_option maxRecDepth 20000 in
theorem bytesCells1 : Tryz.prog.cellsOf 34 = 1 := by kernel_rfl
set_option maxRecDepth 20000 in
theorem numsCells1 : Tryz.prog.cellsOf 31 = 1 := by kernel_rfl
set_option maxRecDepth 20000 in
theorem bytes_of {fuel : Nat} {v : Value} {x : DataW H × List MemPlace} (hf : DataW.trod enc Tryz.prog w base spare held fuel 34 [v] = some x) :
    ∃ (A : Option Addr) (n c : Nat) (l : List UInt8), v = .slice A n c ∧ l.length = n ∧ Bys w w.heap.size A l ∧ n ≤ c ∧ c ≤ maxLen ∧ (A = none → n = 0 ∧ c = 0) := by
  rcases open_slice Tryz.underlying34 hf with ⟨hcs, _⟩ | ⟨a, n, c, m, f, D, Pl, hcs, _, hl, hcm, hm, _, hi⟩
  · simp at hcs
    subst hcs
    exact ⟨none, 0, 0, [], rfl, rfl, Or.inl rfl, Nat.le_refl _, Nat.zero_le _, fun _ => ⟨rfl, rfl⟩⟩
  · simp at hcs
    subst hcs
    have hlm : n ≤ m := by rw [hm]; split <;> omega
    have each : ∀ i, i < n → ∃ z : UInt8, w.cell? (a.add i) = some (.int .u8 z.toNat) := by
      intro i hin
      obtain ⟨cs', hc, ht⟩ := hi i (by omega)
      rw [byteCells1] at hc
      obtain ⟨z, rfl, _, hwf⟩ := DataW.trod_int Tryz.underlying5 ht
      obtain ⟨b, rfl⟩ := byte_of_wf hwf
      obtain ⟨_, _, hat⟩ := World.cells?_some hc
      have := hat 0 (by omega)
      rw [Nat.mul_one] at this
      refine ⟨b, ?_⟩
      simpa [Addr.add] using this
    obtain ⟨zs, hlen, hx⟩ := pick_each (fun i (z : UInt8) => w.cell? (a.add i) = some (.int .u8 z.toNat)) (fun v => v) n each
    refine ⟨_, _, _, zs, rfl, hlen, ?_, hl, hcm, fun h => by cases h⟩
    by_cases hx0 : zs = []
    · exact Or.inl hx0
    · right
      obtain ⟨b, off, spot⟩ := a
      have hpos : 0 < zs.length := by
        rcases zs with _ | ⟨y, ys⟩
        · exact absurd rfl hx0
        · simp
      have h00 := hx 0 _ (List.getElem?_eq_getElem hpos)
      have hs : spot = none := by
        simpa [Addr.add] using World.cell?_spot h00
      subst hs
      refine ⟨b, off, rfl, ?_, fun i v hv => ?_⟩
      · rw [add_at] at h00
        exact World.block_lt_of_cell? _ _ h00
      · have h0 := hx i v hv
        rw [add_at] at h0
        exact h0

set_option maxRecDepth 20000 in
theorem nums_of {fuel : Nat} {v : Value} {x : DataW H × List MemPlace} (hf : DataW.trod enc Tryz.prog w base spare held fuel 31 [v] = some x) :
    ∃ (A : Option Addr) (n c : Nat) (l : List Int), v = .slice A n c ∧ l.length = n ∧ Nums w w.heap.size A l ∧ n ≤ c ∧ c ≤ maxLen := by
  rcases open_slice Tryz.underlying31 hf with ⟨hcs, _⟩ | ⟨a, n, c, m, f, D, Pl, hcs, _, hl, hcm, hm, _, hi⟩
  · simp at hcs
    subst hcs
    exact ⟨none, 0, 0, [], rfl, rfl, Or.inl rfl, Nat.le_refl _, Nat.zero_le _⟩
  · simp at hcs
    subst hcs
    have hlm : n ≤ m := by rw [hm]; split <;> omega
    have each : ∀ i, i < n → ∃ z : Int, w.cell? (a.add i) = some (.int .i64 z) ∧ In64 z := by
      intro i hin
      obtain ⟨cs', hc, ht⟩ := hi i (by omega)
      rw [numCells1] at hc
      obtain ⟨z, rfl, _, hwf⟩ := DataW.trod_int Tryz.underlying3 ht
      obtain ⟨_, _, hat⟩ := World.cells?_some hc
      have := hat 0 (by omega)
      rw [Nat.mul_one] at this
      refine ⟨z, ?_, in64_of hwf⟩
      simpa [Addr.add] using this
    obtain ⟨zs, hlen, hx⟩ := pick_each (fun i (z : Int) => w.cell? (a.add i) = some (.int .i64 z) ∧ In64 z) (fun v => v) n each
    refine ⟨_, _, _, zs, rfl, hlen, ?_, hl, hcm⟩
    by_cases hx0 : zs = []
    · exact Or.inl hx0
    · right
      obtain ⟨b, off, spot⟩ := a
      have hpos : 0 < zs.length := by
        rcases zs with _ | ⟨y, ys⟩
        · exact absurd rfl hx0
        · simp
      have h00 := (hx 0 _ (List.getElem?_eq_getElem hpos)).1
      have hs : spot = none := by
        simpa [Addr.add] using World.cell?_spot h00
      subst hs
      refine ⟨b, off, rfl, ?_, fun i v hv => ?_⟩
      · rw [add_at] at h00
        exact World.block_lt_of_cell? _ _ h00
      · have h0 := hx i v hv
        rw [add_at] at h0
        exact h0

set_option maxRecDepth 20000 in
/-- Numbers that come in. -/
theorem open_numsR {v : Value} {d : DataW H} {p : List MemPlace} {r : Reach} {b0 : Nat} (hv : Value.okWide Tryz.prog w r b0 31 v) (h : DataW.Trod enc Tryz.prog w base spare held 31 v d p) :
    ∃ (A : Option Addr) (n c : Nat) (l : List Int), v = .slice A n c ∧ l.length = n ∧ Nums w w.heap.size A l ∧ n ≤ maxLen := by
  obtain ⟨A, n, c, rfl⟩ := okWide_slice Tryz.underlying31 hv
  obtain ⟨fuel, hf⟩ := h
  obtain ⟨A', n', c', l, e, h1, h2, h3, h4⟩ := nums_of (v := .slice A n c) hf
  injection e with e1 e2 e3
  subst e1
  subst e2
  exact ⟨A, n, c, l, rfl, h1, h2, Nat.le_trans h3 h4⟩
end
end Go.Proofs.YtnmiccagkfpkiaaGreat

/-
  A superblock that comes in.
-/
namespace Go.Proofs.YtnmiccagkfpkiaaGreat
open Go.ChangeShapes Go.WideShapes Go.ChangeAt Go.RowKit Go.Joins Go.Deep

theorem list5 {α : Type} {l : List α} (h : l.length = 5) : ∃ a b c d e, l = [a, b, c, d, e] := by
  match l, h with
  | [a, b, c, d, e], _ => exact ⟨a, b, c, d, e, rfl⟩

section
variable {H : Type} {enc : TypeId × Value → H} {w : World} {base : Nat} {spare : Nat → Bool} {held : Bool}

set_option maxRecDepth 20000 in
theorem superCells5 : Tryz.prog.cellsOf 33 = 5 := by kernel_rfl

set_option maxRecDepth 20000 in
theorem uNums_of {fuel : Nat} {v : Value} {x : DataW H × List MemPlace} (hf : DataW.trod enc Tryz.prog w base spare held fuel 31 [v] = some x) :
    ∃ (A : Option Addr) (n c : Nat) (l : List Int), v = .slice A n c ∧ Ln w 1 A n c (intVals l) ∧ c ≤ maxLen := by
  rcases open_slice Tryz.underlying31 hf with ⟨hcs, _⟩ | ⟨a, n, c, m, f, D, Pl, hcs, _, hl, hcm, hm, _, hi⟩
  · simp at hcs
    subst hcs
    exact ⟨none, 0, 0, [], rfl, Ln.none_ w 1, Nat.zero_le _⟩
  · simp at hcs
    subst hcs
    have hlm : n ≤ m := by rw [hm]; split <;> omega
    have each : ∀ i, i < n → ∃ z : Int, w.cell? (a.add i) = some (.int .i64 z) := by
      intro i hin
      obtain ⟨cs', hc, ht⟩ := hi i (by omega)
      rw [numCells1] at hc
      obtain ⟨z, rfl, _, hwf⟩ := DataW.trod_int Tryz.underlying3 ht
      obtain ⟨_, _, hat⟩ := World.cells?_some hc
      have := hat 0 (by omega)
      rw [Nat.mul_one] at this
      refine ⟨z, ?_⟩
      simpa [Addr.add] using this
    obtain ⟨zs, hlen, hx⟩ := pick_each (fun i (z : Int) => w.cell? (a.add i) = some (.int .i64 z)) (fun v => v) n each
    refine ⟨_, _, _, zs, rfl, ⟨by rw [intVals_length, hlen, Nat.mul_one], hl, fun e => (by cases e), fun ad e j u hu => ?_⟩, hcm⟩
    obtain rfl := Option.some.inj e
    rw [intVals, List.getElem?_map] at hu
    obtain ⟨z, hz, rfl⟩ := Option.map_eq_some_iff.1 hu
    exact hx j z hz

set_option maxRecDepth 20000 in
theorem super_of {fuel : Nat} {cs : List Value} {x : DataW H × List MemPlace} (h : DataW.trod enc Tryz.prog w base spare held fuel 33 cs = some x) :
    ∃ (s : SB) (A : Option Addr) (n c : Nat), cs = [.int .i64 s.ep, .int .i64 s.ro, .int .i64 s.he, .slice A n c, .int .i64 s.ct] ∧ Ln w 1 A n c (intVals s.pg) ∧ In64 s.ep ∧ c ≤ maxLen := by
  obtain ⟨ys, n, _, _, hlen, hys, hf⟩ := DataW.trod_struct Tryz.underlying33 h
  obtain ⟨a, b, c, d, e, rfl⟩ := list5 (hlen.trans superCells5)
  obtain ⟨y0, y1, y2, y3, y4, rfl⟩ := list5 hys
  have h0 : DataW.trod enc Tryz.prog w base spare held n 3 ([a, b, c, d, e].take (Tryz.prog.cellsOf 3)) = some y0 := hf 0 _ rfl
  have h1 : DataW.trod enc Tryz.prog w base spare held n 3 ([b, c, d, e].take (Tryz.prog.cellsOf 3)) = some y1 := hf 1 _ rfl
  have h2 : DataW.trod enc Tryz.prog w base spare held n 3 ([c, d, e].take (Tryz.prog.cellsOf 3)) = some y2 := hf 2 _ rfl
  have h3 : DataW.trod enc Tryz.prog w base spare held n 31 ([d, e].take (Tryz.prog.cellsOf 31)) = some y3 := hf 3 _ rfl
  have h4 : DataW.trod enc Tryz.prog w base spare held n 3 ([e].take (Tryz.prog.cellsOf 3)) = some y4 := hf 4 _ rfl
  rw [numCells1] at h0 h1 h2 h4
  rw [numsCells1] at h3
  obtain ⟨z0, e0, _, w0⟩ := DataW.trod_int Tryz.underlying3 h0
  obtain ⟨z1, e1, _, _⟩ := DataW.trod_int Tryz.underlying3 h1
  obtain ⟨z2, e2, _, _⟩ := DataW.trod_int Tryz.underlying3 h2
  obtain ⟨z4, e4, _, _⟩ := DataW.trod_int Tryz.underlying3 h4
  obtain ⟨A, m, k, l, e3, l3, hk⟩ := uNums_of h3
  simp only [List.take_succ_cons, List.take_zero, List.cons.injEq, and_true] at e0 e1 e2 e4
  exact ⟨⟨z0, z1, z2, z4, l⟩, A, m, k, by rw [e0, e1, e2, e3, e4], l3, in64_of w0, hk⟩

set_option maxRecDepth 20000 in
/-- A superblock that comes in. -/
theorem open_super {v : Value} {d : DataW H} {p : List MemPlace} {r : Reach} {b0 : Nat} (hv : Value.okWide Tryz.prog w r b0 33 v) (h : DataW.Trod enc Tryz.prog w base spare held 33 v d p) :
    ∃ (s : SB) (A : Option Addr) (n c : Nat), v = .agg #[.int .i64 s.ep, .int .i64 s.ro, .int .i64 s.he, .slice A n c, .int .i64 s.ct] ∧ Ln w 1 A n c (intVals s.pg) ∧ In64 s.ep := by
  obtain ⟨cs, rfl, hsz⟩ := okWide_struct Tryz.underlying33 hv
  obtain ⟨fuel, hf⟩ := h
  obtain ⟨l⟩ := cs
  obtain ⟨s, A, n, c, e, h1, h2, _⟩ := super_of (cs := l) (by simpa [Value.cells] using hf)
  exact ⟨s, A, n, c, by rw [e], h1, h2⟩
end
end Go.Proofs.YtnmiccagkfpkiaaGreat

/-
  A call of a script that comes in.
-/
namespace Go.Proofs.YtnmiccagkfpkiaaGreat
open Go.ChangeShapes Go.WideShapes Go.ChangeAt Go.RowKit Go.Joins Go.Deep

/-- One call of a script: its numbers, its bytes and its sectors, and where they lie. -/
structure Cl where
  kind : Int
  n : Int
  bA : Option Addr
  bn : Nat
  bc : Nat
  b : List UInt8
  kA : Option Addr
  kn : Nat
  kc : Nat
  k : List Int
  at_ : Int
  by_ : UInt8

/-- What lies at a call's six cells. -/
structure ClAt (w : World) (R : Nat) (c : Cl) : Prop where
  kind : In64 c.kind
  n : In64 c.n
  at_ : In64 c.at_
  bl : c.b.length = c.bn
  bb : Bys w R c.bA c.b
  bz : c.bA = none → c.bn = 0 ∧ c.bc = 0
  bm : c.bn ≤ maxLen
  kl : c.k.length = c.kn
  kk : Nums w R c.kA c.k
  km : c.kn ≤ maxLen

def Cl.vals (c : Cl) : List Value := [.int .i64 c.kind, .int .i64 c.n, .slice c.bA c.bn c.bc, .slice c.kA c.kn c.kc, .int .i64 c.at_, .int .u8 c.by_.toNat]

/-- A script below R. -/
def Script (w : World) (R : Nat) (A : Option Addr) (l : List Cl) : Prop :=
  l = [] ∨ ∃ b off, A = some ⟨b, off, none⟩ ∧ b < R ∧ ∀ i c, l[i]? = some c → ClAt w R c ∧
    w.cell? ⟨b, off + i * 6, none⟩ = some (.int .i64 c.kind) ∧ w.cell? ⟨b, off + i * 6 + 1, none⟩ = some (.int .i64 c.n) ∧ w.cell? ⟨b, off + i * 6 + 2, none⟩ = some (.slice c.bA c.bn c.bc) ∧
    w.cell? ⟨b, off + i * 6 + 3, none⟩ = some (.slice c.kA c.kn c.kc) ∧ w.cell? ⟨b, off + i * 6 + 4, none⟩ = some (.int .i64 c.at_) ∧ w.cell? ⟨b, off + i * 6 + 5, none⟩ = some (.int .u8 c.by_.toNat)

section
variable {w w' : World} {R : Nat} {A : Option Addr}

theorem ClAt.below {c : Cl} (h : ClAt w R c) (hb : Below R w w') : ClAt w' R c :=
  { h with
    bb := h.bb.below hb
    kk := h.kk.below hb }

theorem Script.below {l : List Cl} (h : Script w R A l) (hb : Below R w w') : Script w' R A l := by
  rcases h with rfl | ⟨b, off, rfl, hR, hc⟩
  · exact Or.inl rfl
  · refine Or.inr ⟨b, off, rfl, hR, fun i c hi => ?_⟩
    obtain ⟨h0, h1, h2, h3, h4, h5, h6⟩ := hc i c hi
    exact ⟨h0.below hb, (hb.cell (p := ⟨b, _, none⟩) hR).trans h1, (hb.cell (p := ⟨b, _, none⟩) hR).trans h2, (hb.cell (p := ⟨b, _, none⟩) hR).trans h3, (hb.cell (p := ⟨b, _, none⟩) hR).trans h4, (hb.cell (p := ⟨b, _, none⟩) hR).trans h5, (hb.cell (p := ⟨b, _, none⟩) hR).trans h6⟩

theorem Script.at_ {l : List Cl} (h : Script w R A l) {k : Nat} (hk : k < l.length) :
    ∃ b off c, A = some ⟨b, off, none⟩ ∧ b < R ∧ l[k]? = some c ∧ ClAt w R c ∧
    w.cell? ⟨b, off + k * 6, none⟩ = some (.int .i64 c.kind) ∧ w.cell? ⟨b, off + k * 6 + 1, none⟩ = some (.int .i64 c.n) ∧ w.cell? ⟨b, off + k * 6 + 2, none⟩ = some (.slice c.bA c.bn c.bc) ∧
    w.cell? ⟨b, off + k * 6 + 3, none⟩ = some (.slice c.kA c.kn c.kc) ∧ w.cell? ⟨b, off + k * 6 + 4, none⟩ = some (.int .i64 c.at_) ∧ w.cell? ⟨b, off + k * 6 + 5, none⟩ = some (.int .u8 c.by_.toNat) := by
  rcases h with rfl | ⟨b, off, rfl, hR, hc⟩
  · exact absurd hk (by simp)
  · exact ⟨b, off, l[k], rfl, hR, List.getElem?_eq_getElem hk, hc k _ (List.getElem?_eq_getElem hk)⟩
end

section
variable {H : Type} {enc : TypeId × Value → H} {w : World} {base : Nat} {spare : Nat → Bool} {held : Bool}

set_option maxRecDepth 20000 in
theorem callCells6 : Tryz.prog.cellsOf 36 = 6 := by kernel_rfl

theorem six {α : Type} {l : List α} (h : l.length = 6) : ∃ a b c d e f, l = [a, b, c, d, e, f] := by
  match l, h with
  | [a, b, c, d, e, f], _ => exact ⟨a, b, c, d, e, f, rfl⟩

set_option maxRecDepth 20000 in
theorem call_of {fuel : Nat} {cs : List Value} {x : DataW H × List MemPlace} (h : DataW.trod enc Tryz.prog w base spare held fuel 36 cs = some x) :
    ∃ c : Cl, cs = c.vals ∧ ClAt w w.heap.size c := by
  obtain ⟨ys, n, _, _, hlen, hys, hf⟩ := DataW.trod_struct Tryz.underlying36 h
  obtain ⟨a, b, c, d, e, f, rfl⟩ := six (hlen.trans callCells6)
  obtain ⟨y0, y1, y2, y3, y4, y5, rfl⟩ := six hys
  have h0 : DataW.trod enc Tryz.prog w base spare held n 3 ([a, b, c, d, e, f].take (Tryz.prog.cellsOf 3)) = some y0 := hf 0 _ rfl
  have h1 : DataW.trod enc Tryz.prog w base spare held n 3 ([b, c, d, e, f].take (Tryz.prog.cellsOf 3)) = some y1 := hf 1 _ rfl
  have h2 : DataW.trod enc Tryz.prog w base spare held n 34 ([c, d, e, f].take (Tryz.prog.cellsOf 34)) = some y2 := hf 2 _ rfl
  have h3 : DataW.trod enc Tryz.prog w base spare held n 31 ([d, e, f].take (Tryz.prog.cellsOf 31)) = some y3 := hf 3 _ rfl
  have h4 : DataW.trod enc Tryz.prog w base spare held n 3 ([e, f].take (Tryz.prog.cellsOf 3)) = some y4 := hf 4 _ rfl
  have h5 : DataW.trod enc Tryz.prog w base spare held n 5 ([f].take (Tryz.prog.cellsOf 5)) = some y5 := hf 5 _ rfl
  rw [numCells1] at h0 h1 h4
  rw [bytesCells1] at h2
  rw [numsCells1] at h3
  rw [byteCells1] at h5
  obtain ⟨z0, e0, _, w0⟩ := DataW.trod_int Tryz.underlying3 h0
  obtain ⟨z1, e1, _, w1⟩ := DataW.trod_int Tryz.underlying3 h1
  obtain ⟨z4, e4, _, w4⟩ := DataW.trod_int Tryz.underlying3 h4
  obtain ⟨z5, e5, _, w5⟩ := DataW.trod_int Tryz.underlying5 h5
  obtain ⟨bA, bn, bc, bl, e2, r1, r2, r3, r4, r5⟩ := bytes_of h2
  obtain ⟨kA, kn, kc, kl, e3, q1, q2, q3, q4⟩ := nums_of h3
  obtain ⟨u, rfl⟩ := byte_of_wf w5
  simp only [List.take_succ_cons, List.take_zero, List.cons.injEq, and_true] at e0 e1 e4 e5
  refine ⟨⟨z0, z1, bA, bn, bc, bl, kA, kn, kc, kl, z4, u⟩, ?_, ⟨in64_of w0, in64_of w1, in64_of w4, r1, r2, r5, Nat.le_trans r3 r4, q1, q2, Nat.le_trans q3 q4⟩⟩
  rw [e0, e1, e2, e3, e4, e5]
  rfl

end
end Go.Proofs.YtnmiccagkfpkiaaGreat
