/-
  PoolHolds answers true, for every number of frames, all places and all texts: what is got of a pool is what was put last, or nothing; behind a flush the disk holds it. Conditions: none.
-/
import Derived.Test.YtgkdlbcpckdmkaaRows
import Derived.Test.YtgkdlbcpckdmkaaZH2
import Derived.Test.YtgkdlbcpckdmkaaZH3
import Derived.Deep.QuietTactic
import Derived.BigQuiet
import Derived.IntWalk
namespace Go.Proofs.Ytgkdlbcpckdmkaa.poolHolds
open Go.ChangeShapes Go.WideShapes Go.ChangeAt Go.RowKit

/-- The cells of eight texts. -/
def texts (f : Nat → List UInt8) : Array Value := #[.string ⟨(f 0).toArray⟩, .string ⟨(f 1).toArray⟩, .string ⟨(f 2).toArray⟩, .string ⟨(f 3).toArray⟩, .string ⟨(f 4).toArray⟩, .string ⟨(f 5).toArray⟩, .string ⟨(f 6).toArray⟩, .string ⟨(f 7).toArray⟩]

theorem texts_at (f : Nat → List UInt8) : ∀ i, i < 8 → (texts f)[i]? = some (.string ⟨(f i).toArray⟩) := by
  intro i hi
  match i, hi with
  | 0, _ => rfl
  | 1, _ => rfl
  | 2, _ => rfl
  | 3, _ => rfl
  | 4, _ => rfl
  | 5, _ => rfl
  | 6, _ => rfl
  | 7, _ => rfl

def setAt (f : Nat → List UInt8) (x : Nat) (l : List UInt8) : Nat → List UInt8 := fun i => if i = x then l else f i

theorem texts_set (f : Nat → List UInt8) (l : List UInt8) : ∀ x, x < 8 → (texts f).setIfInBounds x (.string ⟨l.toArray⟩) = texts (setAt f x l) := by
  intro x hx
  match x, hx with
  | 0, _ => rfl
  | 1, _ => rfl
  | 2, _ => rfl
  | 3, _ => rfl
  | 4, _ => rfl
  | 5, _ => rfl
  | 6, _ => rfl
  | 7, _ => rfl

/-- The eight texts lie at block q, outside of F. -/
structure TextsAt (w : World) (F : Nat → Prop) (q : Nat) (f : Nat → List UInt8) : Prop where
  blk : w.heap[q]? = some (.cells (texts f) 9 (0, 0))
  out : ¬ F q

section
variable {w w' : World} {F F' : Nat → Prop} {q : Nat} {f : Nat → List UInt8}
theorem TextsAt.lt (h : TextsAt w F q f) : q < w.heap.size := (Array.getElem?_eq_some_iff.1 h.blk).1
theorem TextsAt.moves (h : TextsAt w F q f) (m : Moves w F w' F') : TextsAt w' F' q f := by
  obtain ⟨h1, h2⟩ := m.block h.lt h.out
  exact ⟨h1.trans h.blk, h2⟩
theorem TextsAt.cell (h : TextsAt w F q f) {i : Nat} (hi : i < 8) : w.cell? ⟨q, i, none⟩ = some (.string ⟨(f i).toArray⟩) := (cell_of_row w q i _ _ _ h.blk).trans (texts_at f i hi)
theorem TextsAt.free (h : TextsAt w F q f) (i : Nat) : w.frozen? ⟨q, i, none⟩ = false := frozen_of_row w q i _ _ h.blk
theorem TextsAt.set (h : TextsAt w F q f) {x : Nat} (hx : x < 8) (l : List UInt8) : TextsAt (w.setCell ⟨q, x, none⟩ (.string ⟨l.toArray⟩)) F q (setAt f x l) :=
  ⟨by rw [Joins.block_setCell h.blk, texts_set f l x hx], h.out⟩
end

/-- A pool that holds f, and what is wanted. -/
structure HAt (W : World) (pb db fr tq : Nat) (F : Nat → Prop) (s : PP) (f : Int → List UInt8) (g : Nat → List UInt8) (w : World) : Prop where
  live : PLive W F w pb db s
  free : Free s f fr 8
  texts : TextsAt w F tq g
  base : W.heap.size ≤ tq
  same : ∀ i : Nat, i < 8 → f (i : Int) = g i

def HRel (W : World) (pb db fr tq : Nat) (w : World) : Prop := ∃ F s f g, HAt W pb db fr tq F s f g w

section
variable {W w w' : World} {pb db fr tq : Nat} {F F' : Nat → Prop} {s s' : PP} {f f' : Int → List UInt8} {g : Nat → List UInt8}
theorem HAt.next (h : HAt W pb db fr tq F s f g w) (hb : Below w.heap.size w w') : HAt W pb db fr tq F s f g w' :=
  { h with
    live := h.live.next hb
    texts := h.texts.moves (Moves.of_below hb) }
theorem HAt.drewN (h : HAt W pb db fr tq F s f g w) (n : Nat) : HAt W pb db fr tq F s f g (w.drewN n) := h.next (belowN (Below.refl _ _) n)
/-- The pool has gone on. -/
theorem HAt.moved (h : HAt W pb db fr tq F s f g w) (hl : PLive W F' w' pb db s') (hf : Free s' f' fr 8) (hm : Moves w F w' F') (he : ∀ i : Nat, i < 8 → f' (i : Int) = g i) : HAt W pb db fr tq F' s' f' g w' :=
  ⟨hl, hf, h.texts.moves hm, h.base, he⟩
/-- What is wanted goes on, behind a put. -/
theorem HAt.want {x : Nat} {l : List UInt8} (h1 : PLive W F w pb db s) (h2 : Free s (PP.upd f (x : Nat) l) fr 8) (h3 : TextsAt w F tq g) (h4 : W.heap.size ≤ tq) (h5 : ∀ i : Nat, i < 8 → f (i : Int) = g i) (hx : x < 8) :
    HAt W pb db fr tq F s (PP.upd f (x : Nat) l) (setAt g x l) (w.setCell ⟨tq, x, none⟩ (.string ⟨l.toArray⟩)) := by
  refine ⟨h1.other (G := (· = tq)) (G' := (· = tq)) ⟨Kept.setCell (F := (· = tq)) w (a := ⟨tq, x, none⟩) rfl _, fun _ h => Or.inl h⟩ (fun k hk e => h3.out (by rw [← e]; exact hk)) (h1.below.setCell h4 _), h2, h3.set hx l, h4, fun i hi => ?_⟩
  unfold PP.upd setAt
  by_cases e : i = x
  · rw [if_pos e, if_pos (by omega)]
  · rw [if_neg e, if_neg (by omega)]
    exact h5 i hi
end

/-- What is read of the disk behind a flush. -/
theorem flushed_reads {s s7 : PP} {f : Int → List UInt8} {g : Nat → List UInt8} {fr : Nat} (h : Free s7 f fr 8) (k : PP.FlushedA s f s7) (he : ∀ i : Nat, i < 8 → f (i : Int) = g i) (hz : s.k.size = 8) : ∀ i : Nat, i < 8 → s7.k.readB (i : Int) = g i ∧ s7.k.readE (i : Int) = 0 := fun i hi => by
  have hh : s7.k.has (i : Int) = true := (s7.k.has_at _).2 (by rw [h.size]; omega)
  obtain ⟨r1, r2⟩ := h.holds.well.read hh
  refine ⟨?_, r1⟩
  rw [r2]
  unfold PS.held
  rw [k.waits]
  show s7.k.L (i : Int) = _
  rw [k.lasts (i : Int) ((s.k.has_at _).2 (by rw [hz]; omega)), he i hi]
theorem flushed_clean {s s7 : PP} {f : Int → List UInt8} {fr : Nat} (h : Free s7 f fr 8) (k : PP.FlushedA s f s7) (hm : s.m = fr) : (∀ j, j < s7.m → s7.d j = false) ∧ s7.k.waitsOf = [] := by
  refine ⟨fun j hj => k.clean j (by rw [h.m_] at hj; rw [hm]; exact hj), ?_⟩
  unfold PS.waitsOf
  rw [List.filterMap_eq_nil_iff]
  intro q _
  rw [k.waits]
  rfl

theorem tmod8 (x j : Nat) : Int.tmod ((x : Int) + (j : Int)) 8 = (((x + j) % 8 : Nat) : Int) := by
  rw [← Int.natCast_add]
  exact (Int.ofNat_tmod (x + j) 8)

set_option maxRecDepth 20000 in
set_option maxHeartbeats 12800000 in
theorem walkIn {W : World} (fr : Nat) (f1 : 1 ≤ fr) (f2 : fr ≤ 10) (A : Option Addr) (n c : Nat) (xs : List Int) (hl : xs.length = n) (hs : Nums W W.heap.size A xs) (_ : n ≤ maxLen)
    (B : Option Addr) (m d : Nat) (ts : List Tx) (htl : ts.length = m) (hts : Texts W W.heap.size B ts) (_ : m ≤ maxLen) :
    Calls Try.prog 3 #[.int .i64 fr, .slice A n c, .slice B m d] W fun e W' => e = .returned (.bool true) ∧ Below W.heap.size W W' := by
  have HL := Lib.hid hl
  have HS := Lib.hid hs
  have HTL := Lib.hid htl
  have HTS := Lib.hid hts
  clear hl hs htl hts
  have hmk : ∀ w, (Instr.makeSlice 32 (.int .i64 8) (.int .i64 8)).run Try.prog w = .ok (.slice (some ⟨w.heap.size, 0, none⟩) 8 8) (w.alloc (.cells #[.string ⟨#[]⟩, .string ⟨#[]⟩, .string ⟨#[]⟩, .string ⟨#[]⟩, .string ⟨#[]⟩, .string ⟨#[]⟩, .string ⟨#[]⟩, .string ⟨#[]⟩] 9)) := fun _ => by kernel_rfl
  go_enter Try.func3, Try.ntmps3
  go_wp2_with fail
  refine (awake_any _).mono ?_
  rintro e w1 ⟨rfl, b1⟩
  have B1 := Lib.hid b1
  clear b1
  go_wp2_with fail
  refine (new_live (W := W) w1 8 (by omega) (by omega) B1.out).mono ?_
  rintro e w2 ⟨db, D2, rfl, hv2, -, -⟩
  have HV2 := Lib.hid hv2
  clear hv2 B1
  go_wp2_with fail
  refine (pnew_live (W := W) w2 fr f1 (by omega) HV2.out).mono ?_
  rintro e w3 ⟨pb, F3, rfl, hv3, -, -⟩
  have HV3 := Lib.hid hv3
  clear hv3 HV2
  go_wp2_with fail
  have HR : Hid (HRel W pb db fr w3.heap.size (w3.alloc (.cells #[.string ⟨#[]⟩, .string ⟨#[]⟩, .string ⟨#[]⟩, .string ⟨#[]⟩, .string ⟨#[]⟩, .string ⟨#[]⟩, .string ⟨#[]⟩, .string ⟨#[]⟩] 9))) :=
    ⟨F3, _, _, fun _ => [], HV3.out.alloc _, free_new (new_well 8) (new_ok 8) f1 rfl, ⟨heap_alloc_new w3 _, fun h => by have := HV3.out.lt _ h; omega⟩, HV3.out.le, fun _ _ => rfl⟩
  clear HV3 hmk
  generalize w3.heap.size = tq at *
  go_loopg [13] n (fun g i wr => ∃ j : Nat, g = n - j ∧ j ≤ n ∧ i = .int .i64 j ∧ HRel W pb db fr tq wr)
  case atStart => exact ⟨0, rfl, Nat.zero_le _, rfl, HR.out⟩
  case round =>
    obtain ⟨j, rfl, hj, rfl, hr⟩ := hrel
    have HRR := Lib.hid hr
    clear hr HR
    by_cases hgo : j < n ∧ j < m ∧ j < 60
    · obtain ⟨g1, g2, g3⟩ := hgo
      obtain ⟨F, s, f, g, hat⟩ := HRR.out
      have HAT := Lib.hid hat
      have HBW := Lib.hid hat.live.below
      obtain ⟨b, off, x, rfl, hbl, cW, x1, x2⟩ : ∃ b off z, A = some ⟨b, off, none⟩ ∧ b < W.heap.size ∧ W.cell? ⟨b, off + j, none⟩ = some (.int .i64 z) ∧ -9223372036854775808 ≤ z ∧ z ≤ 9223372036854775807 := by
        rcases HS.out with e | ⟨b, off, e, hb, hc⟩
        · have := HL.out
          rw [e] at this
          simp at this
          omega
        · have hlt : j < xs.length := by rw [HL.out]; exact g1
          have h0 := hc j _ (List.getElem?_eq_getElem hlt)
          exact ⟨b, off, xs[j], e, hb, h0.1, h0.2.1, h0.2.2⟩
      obtain ⟨b2, off2, t, rfl, hbl2, -, htx, dW⟩ := HTS.out.at_ (k := j) (by rw [HTL.out]; exact g2)
      have c0 := (hat.live.below.cell (p := ⟨b, off + j, none⟩) hbl).trans cW
      have c1 := (hat.live.below.cell (p := ⟨b2, off2 + j, none⟩) hbl2).trans dW
      obtain ⟨t1, t2, t3, t4, t5⟩ := htx
      have HDW := Lib.hid dW
      have HB2 := Lib.hid hbl2
      clear hat cW dW hbl hbl2
      by_cases q1 : x < 0
      · clear t1 t2 t3 t4 t5 HAT
        go_wp2_with fail
        go_roundg (n - (j + 1))
        case measure => omega
        case rel => exact ⟨j + 1, rfl, by omega, by go_num, HRR.out⟩
      · by_cases q2 : 7 < x
        · clear t1 t2 t3 t4 t5 HAT
          go_wp2_with fail
          go_roundg (n - (j + 1))
          case measure => omega
          case rel => exact ⟨j + 1, rfl, by omega, by go_num, HRR.out⟩
        · by_cases q3 : 1000 < t.n
          · clear t1 t2 t3 t4 t5 HAT
            go_wp2_with fail
            go_roundg (n - (j + 1))
            case measure => omega
            case rel => exact ⟨j + 1, rfl, by omega, by go_num, HRR.out⟩
          · obtain ⟨X, rfl⟩ : ∃ X : Nat, x = (X : Int) := ⟨x.toNat, by omega⟩
            have hX : X < 8 := by omega
            obtain ⟨p1, p2⟩ := HAT.out.free.put (n := (X : Int)) (by omega) (by omega) (l := t.l) (by rw [t1]; omega)
            have HP := Lib.hid (put_live (W := W) wr (X : Int) x1 x2 t.A t.n t.c t.l t1 (Out.of_bys (t2.below HBW.out) HAT.out.live.base) t5 HAT.out.live)
            have HP2 := Lib.hid p2
            have HT1 := Lib.hid t1
            have HT2 := Lib.hid t2
            rw [p1] at HP
            generalize (s.put (X : Int) t.l).2 = s1 at *
            clear p1 p2 t1 t2 t3 t4 t5 q1 q2 HRR
            go_wp2_with fail
            refine HP.out.mono ?_
            rintro e w4 ⟨rfl, F4, hv4, hm4⟩
            have d1 := (hv4.below.cell (p := ⟨b2, off2 + j, none⟩) HB2.out).trans HDW.out
            have hcv := run_text (P := Try.prog) (w := w4) (R := W.heap.size) (HT2.out.below hv4.below) 33 9 5 t.n t.c HT1.out Try.underlying33 Try.underlying5 Try.underlying9
            have htx4 := HAT.out.texts.moves hm4
            have e0 := htx4.cell hX
            have e1 := htx4.free X
            have HW5 := Lib.hid (HAt.want hv4 HP2.out htx4 HAT.out.base HAT.out.same hX)
            have h8 := tmod8 X j
            obtain ⟨Y, hY⟩ : ∃ Y : Nat, Y = (X + j) % 8 := ⟨_, rfl⟩
            have hY8 : Y < 8 := by omega
            rw [← hY] at h8
            clear hv4 hm4 htx4 HP HP2 HAT c0 c1 hY
            go_wp2_with fail
            clear hcv e0 e1 d1
            obtain ⟨r1, r2, r3⟩ := HW5.out.free.get (n := (Y : Int)) (by omega) (by omega)
            have HG := Lib.hid (get_live (W := W) _ (Y : Int) (by omega) (by omega) HW5.out.live)
            rw [r1, r2] at HG
            have HR3 := Lib.hid r3
            generalize (s1.get (Y : Int)).2.2 = s2 at *
            clear r1 r2 r3
            refine HG.out.mono ?_
            rintro e w6 ⟨A6, c6, F6, rfl, ho6, -, hv6, hm6, -⟩
            have hw6 := HW5.out.moved hv6 HR3.out hm6 HW5.out.same
            have k0 := hw6.texts.cell hY8
            rw [← hw6.same Y hY8] at k0
            generalize hLL : PP.upd f (X : Int) t.l (Y : Int) = L at *
            have hcv := fun q => run_text (P := Try.prog) (w := w6.drewN q) (R := w6.heap.size) (show Bys (w6.drewN q) w6.heap.size A6 L from ho6.bys) 33 9 5 L.length c6 rfl Try.underlying33 Try.underlying5 Try.underlying9
            have HW6 := Lib.hid hw6
            have hwr : IntKind.i64.wrap ((X : Int) + (j : Int)) = (X : Int) + (j : Int) := IntWalk.i64_in _ (by omega)
            clear hw6 hv6 hm6 ho6 HG HR3 HW5 hLL
            go_wp2_with fail
            go_quiet (fail)
            clear hcv k0 hwr h8
            go_wp2_with fail
            go_roundg (n - (j + 1))
            case measure => omega
            case rel => exact ⟨j + 1, rfl, by omega, by go_num, _, _, _, _, HW6.out.drewN _⟩
    · obtain ⟨F, s, f, g, hat⟩ := HRR.out
      have HAT := Lib.hid hat
      have HFL := Lib.hid (pflush_live (W := W) wr (by rw [hat.free.m_]; omega) hat.live)
      clear hat
      have hcase : (n ≤ j) ∨ (j < n ∧ m ≤ j) ∨ (j < n ∧ j < m ∧ 60 ≤ j) := by omega
      clear hgo HRR
      rcases hcase with hx | ⟨hx, hy⟩ | ⟨hx, hy, hz⟩
      all_goals
        go_wp2_with fail
        refine HFL.out.mono ?_
        rintro e w7 ⟨js, hjs, rfl, F7, hv7, hm7⟩
        obtain ⟨r1, r2, r3⟩ := HAT.out.free.flush HAT.out.live.fit hjs
        rw [r1]
        have HRD := Lib.hid (flushed_reads r2 r3 HAT.out.same HAT.out.free.size)
        have HCL := Lib.hid (flushed_clean r2 r3 HAT.out.free.m_)
        have HW7 := Lib.hid (HAT.out.moved hv7 r2 hm7 HAT.out.same)
        generalize (s.flushA js).2 = s7 at *
        clear hv7 hm7 hjs r1 r2 r3 HAT HFL
        go_wp2_with fail
        go_loopw [19] (fun i wi => ∃ t : Nat, t ≤ 8 ∧ i = .int .i64 t ∧ Hid (HAt W pb db fr tq F7 s7 f g wi)) (fun i _ => 8 - (RowKit.intOf i).toNat)
        case atStart => exact ⟨0, Nat.zero_le _, rfl, HW7⟩
        case round =>
          obtain ⟨t, ht, rfl, HWT⟩ := hrel
          by_cases ht8 : t < 8
          · obtain ⟨z1, z2⟩ := HRD.out t ht8
            have HP := Lib.hid (pread_live (W := W) _ (t : Int) (by omega) (by omega) HWT.out.live)
            rw [z1, z2] at HP
            clear z1 z2
            go_wp2_with fail
            refine HP.out.mono ?_
            rintro e w8 ⟨A8, c8, rfl, ho8, hb8⟩
            have hw8 := HWT.out.next hb8
            have k0 := hw8.texts.cell ht8
            generalize g t = L at *
            have hcv := fun q => run_text (P := Try.prog) (w := w8.drewN q) (R := w8.heap.size) (show Bys (w8.drewN q) w8.heap.size A8 L from own_bys ho8) 33 9 5 L.length c8 rfl Try.underlying33 Try.underlying5 Try.underlying9
            have HW8 := Lib.hid hw8
            clear hw8 hb8 ho8 HP
            go_wp2_with fail
            go_quiet (fail)
            clear hcv k0
            go_wp2_with fail
            go_roundw
            case rel => exact ⟨t + 1, by omega, by go_num, HW8.out.drewN _⟩
            case measure => simp [RowKit.intOf]; omega
          · have hm12 : s7.m ≤ 12 := by rw [HWT.out.free.m_]; omega
            have HM12 := Lib.hid hm12
            obtain ⟨D, hD⟩ := HWT.out.live.disk
            have HD := Lib.hid hD
            clear hm12 hD HRD HW7
            go_wp2_with (first
              | (refine (dirty_live (W := W) _ HM12.out HWT.out.live).mono ?_; rintro e w9 ⟨A9, c9, js9, rfl, -, hj9, hb9⟩; obtain rfl := PP.js_none hj9 HCL.out.1; have HD9 := Lib.hid (HD.out.next hb9))
              | (refine (waits_live (W := W) _ HD9.out).mono ?_; rintro e w10 ⟨A10, c10, rfl, -, -, hv10, -⟩; rw [HCL.out.2]; have HB10 := Lib.hid hv10.below))
            go_ret
            exact ⟨rfl, HB10.out⟩

set_option maxRecDepth 20000 in
set_option maxHeartbeats 1600000 in
theorem walk (z : Int) (_ : -9223372036854775808 ≤ z) (_ : z ≤ 9223372036854775807) (A : Option Addr) (n c : Nat) (xs : List Int) (hl : xs.length = n) {W : World} (hs : Nums W W.heap.size A xs) (hn : n ≤ maxLen)
    (B : Option Addr) (m d : Nat) (ts : List Tx) (htl : ts.length = m) (hts : Texts W W.heap.size B ts) (hm : m ≤ maxLen) :
    Calls Try.prog 3 #[.int .i64 z, .slice A n c, .slice B m d] W fun e W' => e = .returned (.bool true) ∧ Below W.heap.size W W' := by
  by_cases h1 : z < 1
  · clear hs hts hl htl
    go_enter Try.func3, Try.ntmps3
    go_wp2_with fail
    refine (awake_any _).mono ?_
    rintro e w1 ⟨rfl, b1⟩
    go_wp2_with fail
    refine (new_live (W := W) w1 8 (by omega) (by omega) b1).mono ?_
    rintro e w2 ⟨db, D2, rfl, hv2, -, -⟩
    have HB := Lib.hid hv2.below
    clear b1 hv2
    go_wp2_with fail
    go_ret
    exact ⟨rfl, HB.out⟩
  · by_cases h2 : 10 < z
    · clear hs hts hl htl
      go_enter Try.func3, Try.ntmps3
      go_wp2_with fail
      refine (awake_any _).mono ?_
      rintro e w1 ⟨rfl, b1⟩
      go_wp2_with fail
      refine (new_live (W := W) w1 8 (by omega) (by omega) b1).mono ?_
      rintro e w2 ⟨db, D2, rfl, hv2, -, -⟩
      have HB := Lib.hid hv2.below
      clear b1 hv2
      go_wp2_with fail
      go_ret
      exact ⟨rfl, HB.out⟩
    · obtain ⟨fr, rfl⟩ : ∃ fr : Nat, z = (fr : Int) := ⟨z.toNat, by omega⟩
      exact walkIn fr (by omega) (by omega) A n c xs hl hs hn B m d ts htl hts hm

set_option maxRecDepth 100000 in
theorem lifted (os : Os) (started : os.Started) (H : Type) (enc : TypeId × Value → H) :
    ReturnsInHanded {} Try.checked os 3 .any (Rows.poolHoldsSpec.pre6 enc Try.prog Try.f3 Rows.poolHoldsRow.domain false)
      (Rows.poolHoldsSpec.post enc Try.prog Try.f3 false true false false) := by
  refine lift_law (C := Try.checked) (tb := 4) ownKnobs started (by kernel_rfl) Try.func3
    (ChangeSpec.witness6 (enc := enc) (C := Try.checked) false ⟨#[], #[.int .i64 0, .slice none 0 0, .slice none 0 0], []⟩ 8 (by kernel_rfl) (by kernel_rfl) (by kernel_rfl) (by kernel_rfl))
    laidOut ?_ rfl rfl Try.underlying4 ?_ ?_
  · intro t ht
    rw [Try.params3] at ht
    simp only [List.mem_cons, List.not_mem_nil, or_false] at ht
    rcases ht with rfl | rfl | rfl <;> exact ⟨by kernel_rfl, of_decide_eq_true (by kernel_rfl)⟩
  · intro vs ds W p hA
    rw [Try.params3] at hA
    obtain ⟨v0, vs0, d0, ds0, p0, q0, ha, rfl, rfl, h0, r0⟩ := trodAll_cons hA
    obtain ⟨v1, vs1, d1, ds1, p1, q1, rfl, rfl, rfl, h1, r1⟩ := trodAll_cons r0
    obtain ⟨v2, vs2, d2, ds2, p2, q2, rfl, rfl, rfl, h2, r2⟩ := trodAll_cons r1
    obtain ⟨rfl, rfl, rfl⟩ := trodAll_nil r2
    rfl
  · intro W base args ds p hval hA
    rw [Try.params3] at hA hval
    obtain ⟨v0, vs0, d0, ds0, p0, q0, ha, rfl, rfl, h0, r0⟩ := trodAll_cons hA
    obtain ⟨v1, vs1, d1, ds1, p1, q1, rfl, rfl, rfl, h1, r1⟩ := trodAll_cons r0
    obtain ⟨v2, vs2, d2, ds2, p2, q2, rfl, rfl, rfl, h2, r2⟩ := trodAll_cons r1
    obtain ⟨rfl, rfl, rfl⟩ := trodAll_nil r2
    obtain rfl : args = #[v0, v1, v2] := by cases args; simp_all
    obtain ⟨i0, rfl, lo0, hi0⟩ := open_i64 (hval 0 _ v0 rfl rfl) h0
    obtain ⟨A1, n1, c1, xs1, rfl, e1, hr1, y1⟩ := open_numsR (hval 1 _ v1 rfl rfl) h1
    obtain ⟨A2, n2, c2, xs2, rfl, e2, hr2, y2⟩ := open_texts (hval 2 _ v2 rfl rfl) h2
    exact walk i0 lo0 hi0 A1 n1 c1 xs1 e1 hr1 y1 A2 n2 c2 xs2 e2 hr2 y2

/-- The statement. -/
theorem proved : Rows.PoolHoldsSaid :=
  OpenClaim.holds_of_wide 3 Try.f3 rfl rfl rfl rfl rfl rfl rfl ⟨rfl, rfl, rfl, rfl, rfl⟩ rfl rfl rfl rfl rfl (by kernel_rfl) Try.func3 (by kernel_rfl)
    (of_decide_eq_true (by kernel_rfl)) (by unfold Func.isWrapper; first | (rw [if_pos (by decide +kernel)]; kernel_rfl) | (rw [if_neg (by decide +kernel)]; exact ⟨rfl, rfl⟩))
    (fun os started H enc _ => lifted os started H enc)
#print axioms proved
end Go.Proofs.Ytgkdlbcpckdmkaa.poolHolds
