/-
  Two disks side by side: the program's and the document's. What the laws' own Same, Shows and Did come to.
-/
import Derived.Test.YtillllegbgaalaaDRefLi
import Derived.Test.YtillllegbgaalaaDRefTu
import Derived.Test.YtillllegbgaalaaDDone
import Derived.Test.YtillllegbgaalaaText
namespace Go.Proofs.Ytillllegbgaalaa
open Go.RowKit Go.Maps

theorem hout_below {w w' : World} {F : Nat → Prop} {A : Option Addr} {qs : List (Int × List UInt8)} (h : HOut w F A qs) (hb : Below w.heap.size w w') : HOut w' F A qs := (Moves.of_below hb).hout h

set_option maxRecDepth 20000 in
set_option maxHeartbeats 1600000 in
theorem sameHeld_any (w : World) (F F' : Nat → Prop) (A B : Option Addr) (c d : Nat) (qs : List (Int × List UInt8)) (hn : qs.length ≤ 4096) (ha : HOut w F A qs) (hb : HOut w F' B qs) :
    Calls Try.prog 33 #[.slice A qs.length c, .slice B qs.length d] w fun e w' => e = .returned (.bool true) ∧ Below w.heap.size w w' := by
  have HA := Lib.hid ha
  have HB := Lib.hid hb
  clear ha hb
  go_enter Try.func33, Try.ntmps33
  go_wp2_with fail
  go_loopw [5] (fun i wr => ∃ j : Nat, j ≤ qs.length ∧ i = .int .i64 j ∧ Below w.heap.size w wr) (fun i _ => qs.length - (RowKit.intOf i).toNat)
  case atStart => exact ⟨0, Nat.zero_le _, rfl, Below.refl _ _⟩
  case round =>
    obtain ⟨j, hj, rfl, hbw⟩ := hrel
    have HBW := Lib.hid hbw
    by_cases hlt : j < qs.length
    · obtain ⟨b1, o1, q1, A1, c1, rfl, -, hq1, x0, x1, u1⟩ := (hout_below HA.out hbw).at_ hlt
      obtain ⟨b2, o2, q2, A2, c2, rfl, -, hq2, y0, y1, u2⟩ := (hout_below HB.out hbw).at_ hlt
      obtain rfl : q1 = q2 := Option.some.inj (hq1.symm.trans hq2)
      have t1 := fun n => run_text (P := Try.prog) (w := wr.drewN n) (R := wr.heap.size) (show Bys (wr.drewN n) wr.heap.size A1 q1.2 from u1.bys) 32 9 5 q1.2.length c1 rfl Try.underlying32 Try.underlying5 Try.underlying9
      have t2 := fun n => run_text (P := Try.prog) (w := wr.drewN n) (R := wr.heap.size) (show Bys (wr.drewN n) wr.heap.size A2 q1.2 from u2.bys) 32 9 5 q1.2.length c2 rfl Try.underlying32 Try.underlying5 Try.underlying9
      clear hbw hq1 hq2 u1 u2
      go_wp2_with fail
      go_quiet (fail)
      clear t1 t2 x0 x1 y0 y1
      go_wp2_with fail
      go_roundw
      case rel => exact ⟨j + 1, by omega, by go_num, belowN HBW.out _⟩
      case measure => simp [RowKit.intOf]; omega
    · clear hbw
      go_wp2_with fail
      go_ret
      exact ⟨rfl, HBW.out⟩

/-- Both disks, apart. -/
structure Pair (W : World) (F G : Nat → Prop) (w : World) (db rb : Nat) (s : PS) : Prop where
  live : Live W F w db s
  ref : Rk w G rb s
  off : ∀ k, F k → ¬ G k
  base : ∀ k, G k → W.heap.size ≤ k

def PairE (W : World) (w : World) (db rb : Nat) (s : PS) : Prop := ∃ F G, Pair W F G w db rb s

section
variable {W w w' : World} {F G : Nat → Prop} {db rb : Nat} {s s' : PS}

theorem Pair.next (h : Pair W F G w db rb s) (hb : Below w.heap.size w w') : Pair W F G w' db rb s := ⟨h.live.next hb, h.ref.below hb, h.off, h.base⟩
theorem PairE.next (h : PairE W w db rb s) (hb : Below w.heap.size w w') : PairE W w' db rb s := by
  obtain ⟨F, G, h⟩ := h
  exact ⟨F, G, h.next hb⟩
theorem PairE.below (h : PairE W w db rb s) : Below W.heap.size W w := by
  obtain ⟨F, G, h⟩ := h
  exact h.live.below

/-- The program's disk has gone on; the document's has not yet. -/
structure Half (W : World) (F G : Nat → Prop) (w : World) (db rb : Nat) (s' s : PS) : Prop where
  live : Live W F w db s'
  ref : Rk w G rb s
  off : ∀ k, F k → ¬ G k
  base : ∀ k, G k → W.heap.size ≤ k

theorem Pair.half {v : Value} {e : Ending} (h : Pair W F G w db rb s) (g : LGoes W F w db s' v e w') : e = .returned v ∧ ∃ F', Half W F' G w' db rb s' s := by
  obtain ⟨he, F', hv, hm⟩ := g
  refine ⟨he, F', hv, h.ref.kept hm.kept (fun k hG hF => h.off k hF hG), fun k hF hG => ?_, h.base⟩
  rcases hm.news k hF with h1 | h1
  · exact h.off k h1 hG
  · have := h.ref.lt k hG
    omega

theorem Half.whole {v : Value} {e : Ending} (h : Half W F G w db rb s' s) (g : RGoes w G rb s' v e w') : e = .returned v ∧ PairE W w' db rb s' := by
  obtain ⟨he, G', hr, hn, hk⟩ := g
  have hl : Live W F w' db s' := ⟨h.live.dk.kept hk h.off, h.live.base, h.live.below.trans (hk.toBelow h.base h.live.le)⟩
  refine ⟨he, F, G', hl, hr, fun k hF hG => ?_, fun k hG => ?_⟩
  · rcases hn k hG with h1 | h1
    · exact h.off k hF h1
    · have := h.live.dk.lt k hF
      omega
  · rcases hn k hG with h1 | h1
    · exact h.base k h1
    · exact Nat.le_trans h.live.le h1

theorem Half.next (h : Half W F G w db rb s' s) (hb : Below w.heap.size w w') : Half W F G w' db rb s' s := ⟨h.live.next hb, h.ref.below hb, h.off, h.base⟩
end

theorem down_back {F : Nat → Prop} {db : Nat} {s : PS} (w : World) (h : Dk w F db s) : Calls Try.prog 23 #[.pointer (some ⟨db, 0, none⟩)] w fun e w' => e = .returned (.bool s.down) ∧ w' = w := (down_any w h).mono fun _ _ ⟨h1, h2⟩ => ⟨h1, h2.symm⟩
theorem size_back {F : Nat → Prop} {db : Nat} {s : PS} (w : World) (h : Dk w F db s) : Calls Try.prog 24 #[.pointer (some ⟨db, 0, none⟩)] w fun e w' => e = .returned (.int .i64 s.size) ∧ w' = w := (size_any w h).mono fun _ _ ⟨h1, h2⟩ => ⟨h1, h2.symm⟩

theorem lastsOf_len (s : PS) : s.lastsOf.length ≤ s.size := lastsTo_len s s.size
theorem waitsOf_len (s : PS) : s.waitsOf.length ≤ s.size := waitsTo_len s s.size

set_option maxRecDepth 20000 in
set_option maxHeartbeats 1600000 in
theorem shows_any {W : World} {db rb : Nat} {s : PS} (w : World) (h : PairE W w db rb s) :
    Calls Try.prog 14 #[.pointer (some ⟨db, 0, none⟩), .pointer (some ⟨rb, 0, none⟩)] w fun e w' => e = .returned (.bool true) ∧ PairE W w' db rb s := by
  obtain ⟨F, G, h⟩ := h
  have hs4 := h.live.dk.s4
  have hl1 := lastsOf_len s
  have hl2 := waitsOf_len s
  have H0 := Lib.hid h
  clear h
  go_enter Try.func14, Try.ntmps14
  go_wp2_with fail
  refine (lasts_both (W := W) w H0.out.live).mono ?_
  rintro e w1 ⟨⟨A1, c1, rfl, -, ho1, hv1, hm1⟩, hb1⟩
  have HO1 := Lib.hid (ho1 (fun _ => False) (fun k hk => hk.elim))
  have H1 := Lib.hid (H0.out.next hb1)
  clear ho1 hv1 hm1 hb1 H0
  go_wp2_with fail
  refine (refLasts_any w1 H1.out.ref).mono ?_
  rintro e w2 ⟨A2, c2, rfl, ho2, hb2⟩
  have HO2 := Lib.hid ho2
  have HO1' := Lib.hid (hout_below HO1.out hb2)
  have H2 := Lib.hid (H1.out.next hb2)
  clear ho2 hb2 HO1 H1
  go_wp2_with fail
  refine (sameHeld_any w2 _ _ A1 A2 c1 c2 s.lastsOf (by omega) HO1'.out HO2.out).mono ?_
  rintro e w3 ⟨rfl, hb3⟩
  have H3 := Lib.hid (H2.out.next hb3)
  clear hb3 HO1' HO2 H2
  go_wp2_with fail
  refine (waits_both (W := W) w3 H3.out.live).mono ?_
  rintro e w4 ⟨⟨A4, c4, rfl, -, ho4, hv4, hm4⟩, hb4⟩
  have HO4 := Lib.hid (ho4 (fun _ => False) (fun k hk => hk.elim))
  have H4 := Lib.hid (H3.out.next hb4)
  clear ho4 hv4 hm4 hb4 H3
  go_wp2_with fail
  refine (refWaits_any w4 H4.out.ref).mono ?_
  rintro e w5 ⟨A5, c5, rfl, ho5, hb5⟩
  have HO5 := Lib.hid ho5
  have HO4' := Lib.hid (hout_below HO4.out hb5)
  have H5 := Lib.hid (H4.out.next hb5)
  clear ho5 hb5 HO4 H4
  go_wp2_with fail
  refine (sameHeld_any w5 _ _ A4 A5 c4 c5 s.waitsOf (by omega) HO4'.out HO5.out).mono ?_
  rintro e w6 ⟨rfl, hb6⟩
  have H6 := Lib.hid (H5.out.next hb6)
  clear hb6 HO4' HO5 H5
  obtain ⟨lb, wb, ib, left, rL, rW, rI, hr⟩ := H6.out.ref
  have d0 := hr.cell 0 (v := .slice (some ⟨lb, 0, none⟩) s.size s.size) rfl
  have d3 := hr.cell 3 (v := .bool s.down) rfl
  have HDK : Hid (∀ n, Dk (w6.drewN n) F db s) := fun n => H6.out.live.dk.below ⟨rfl, rfl, rfl, Nat.le_refl _, fun _ _ => rfl⟩
  clear hr
  go_wp2_with fail
  go_quiet (first
    | (go_at_call 23; exact Calls.quiet_of_same (down_back _ (HDK.out _)))
    | (go_at_call 24; exact Calls.quiet_of_same (size_back _ (HDK.out _))))
  clear d0 d3
  go_wp2_with fail
  go_ret
  exact ⟨rfl, F, G, H6.out.next ⟨rfl, rfl, rfl, Nat.le_refl _, fun _ _ => rfl⟩⟩

/-- What lies in the box of a call. -/
structure BoxAt (w : World) (b : Nat) (c : Cl) : Prop where
  c0 : w.cell? ⟨b, 0, none⟩ = some (.int .i64 c.kind)
  c1 : w.cell? ⟨b, 1, none⟩ = some (.int .i64 c.n)
  c2 : w.cell? ⟨b, 2, none⟩ = some (.slice c.bA c.bn c.bc)
  c3 : w.cell? ⟨b, 3, none⟩ = some (.slice c.kA c.kn c.kc)
  c4 : w.cell? ⟨b, 4, none⟩ = some (.int .i64 c.at_)
  c5 : w.cell? ⟨b, 5, none⟩ = some (.int .u8 c.by_.toNat)

theorem BoxAt.lt {w : World} {b : Nat} {c : Cl} (h : BoxAt w b c) : b < w.heap.size := World.block_lt_of_cell? _ _ h.c0
theorem BoxAt.block {w w' : World} {b : Nat} {c : Cl} (h : BoxAt w b c) (e : w'.heap[b]? = w.heap[b]?) : BoxAt w' b c := by
  have k := fun j => World.cell?_of_block (w := w) (w' := w') (a := ⟨b, j, none⟩) e
  exact ⟨(k 0).trans h.c0, (k 1).trans h.c1, (k 2).trans h.c2, (k 3).trans h.c3, (k 4).trans h.c4, (k 5).trans h.c5⟩
theorem BoxAt.three {w : World} {b : Nat} {c : Cl} (h : BoxAt w b c) : w.cell? ⟨b, 1, none⟩ = some (.int .i64 c.n) ∧ w.cell? ⟨b, 2, none⟩ = some (.slice c.bA c.bn c.bc) := ⟨h.c1, h.c2⟩
theorem BoxAt.four {w : World} {b : Nat} {c : Cl} (h : BoxAt w b c) : w.cell? ⟨b, 1, none⟩ = some (.int .i64 c.n) ∧ w.cell? ⟨b, 4, none⟩ = some (.int .i64 c.at_) ∧ w.cell? ⟨b, 5, none⟩ = some (.int .u8 c.by_.toNat) := ⟨h.c1, h.c4, h.c5⟩

section
variable {W w w' : World} {F G : Nat → Prop} {db rb : Nat} {s s' : PS}

/-- What is known behind the first of two calls. -/
structure Mid2 (W : World) (F G : Nat → Prop) (w : World) (db rb : Nat) (s' s : PS) (b : Nat) (c : Cl) : Prop where
  half : Half W F G w db rb s' s
  box : BoxAt w b c
  cl : ClAt w W.heap.size c

theorem Pair.step {v : Value} {e : Ending} {b : Nat} {c : Cl} (h : Pair W F G w db rb s) (hb : BoxAt w b c) (hF : ¬ F b) (hc : ClAt w W.heap.size c) (g : LGoes W F w db s' v e w') : e = .returned v ∧ ∃ F', Mid2 W F' G w' db rb s' s b c := by
  obtain ⟨he, F', hh⟩ := h.half g
  obtain ⟨_, _, hv, hm⟩ := g
  exact ⟨he, F', hh, hb.block (hm.kept.block b hb.lt hF), hc.below (hm.kept.toBelow h.live.base h.live.le)⟩

theorem Mid2.step {v : Value} {e : Ending} {b : Nat} {c : Cl} (h : Mid2 W F G w db rb s' s b c) (hG : ¬ G b) (g : RGoes w G rb s' v e w') : e = .returned v ∧ PairE W w' db rb s' ∧ BoxAt w' b c := by
  obtain ⟨he, hp⟩ := h.half.whole g
  obtain ⟨_, _, _, _, hk⟩ := g
  exact ⟨he, hp, h.box.block (hk.block b h.box.lt hG)⟩

theorem Pair.drew (h : Pair W F G w db rb s) : Pair W F G w.drew db rb s := h.next ⟨rfl, rfl, rfl, Nat.le_refl _, fun _ _ => rfl⟩
end

def DidEnd (W : World) (db rb : Nat) (e : Ending) (w' : World) : Prop := e = .returned (.bool true) ∧ ∃ s', PairE W w' db rb s'

set_option maxRecDepth 20000 in
set_option maxHeartbeats 6400000 in
theorem did_any {W : World} {db rb : Nat} {s : PS} {c : Cl} (w : World) (h : PairE W w db rb s) (hc : ClAt w W.heap.size c) (hsm : c.small = true) :
    Calls Try.prog 13 #[.pointer (some ⟨db, 0, none⟩), .pointer (some ⟨rb, 0, none⟩), .agg #[.int .i64 c.kind, .int .i64 c.n, .slice c.bA c.bn c.bc, .slice c.kA c.kn c.kc, .int .i64 c.at_, .int .u8 c.by_.toNat]] w (DidEnd W db rb) := by
  obtain ⟨F, G, h⟩ := h
  have hk : c.bn ≤ 1100 ∧ c.kn ≤ 60 := by unfold Cl.small at hsm; exact of_decide_eq_true hsm
  have HP : Hid (Pair W F G (w.alloc (.cells #[.int .i64 c.kind, .int .i64 c.n, .slice c.bA c.bn c.bc, .slice c.kA c.kn c.kc, .int .i64 c.at_, .int .u8 c.by_.toNat] 35)) db rb s) := h.next (below_one w _)
  have HC : Hid (ClAt (w.alloc (.cells #[.int .i64 c.kind, .int .i64 c.n, .slice c.bA c.bn c.bc, .slice c.kA c.kn c.kc, .int .i64 c.at_, .int .u8 c.by_.toNat] 35)) W.heap.size c) := hc.below ((below_one w _).mono h.live.le)
  have HBX : Hid (BoxAt (w.alloc (.cells #[.int .i64 c.kind, .int .i64 c.n, .slice c.bA c.bn c.bc, .slice c.kA c.kn c.kc, .int .i64 c.at_, .int .u8 c.by_.toNat] 35)) w.heap.size c) := ⟨by simp, by simp, by simp, by simp, by simp, by simp⟩
  have HNF : Hid (¬ F w.heap.size) := fun e => by have := h.live.dk.lt _ e; omega
  have HNG : Hid (¬ G w.heap.size) := fun e => by have := h.ref.lt _ e; omega
  obtain ⟨hk1, hk2⟩ := hk
  clear h hc hsm
  by_cases q1 : c.kind = 1
  · have b1 : (c.kind == 1) = true := by rw [q1]; rfl
    clear q1
    go_enter Try.func13, Try.ntmps13
    go_wp2_with fail
    generalize w.alloc (.cells #[.int .i64 c.kind, .int .i64 c.n, .slice c.bA c.bn c.bc, .slice c.kA c.kn c.kc, .int .i64 c.at_, .int .u8 c.by_.toNat] 35) = wx at *
    generalize w.heap.size = bx at *
    have K0 := (HBX.out.block (w' := wx.drew) rfl).three
    obtain ⟨x1, x2⟩ := K0
    have K0 := (HBX.out.block (w' := wx.drew) rfl).three
    have HCd : Hid (ClAt wx.drew W.heap.size c) := HC.out.below ⟨rfl, rfl, rfl, Nat.le_refl _, fun _ _ => rfl⟩
    go_region_held3 (fun w' => w'.cell? ⟨bx, 1, none⟩ = some (.int .i64 c.n) ∧ w'.cell? ⟨bx, 2, none⟩ = some (.slice c.bA c.bn c.bc))
      (first | exact K2 | exact K1 | exact K0)
      (first
        | (go_at_call 17; refine (write_live (W := W) wx.drew c.n HC.out.n.1 HC.out.n.2 c.bA c.bn c.bc c.b HC.out.bl (Out.of_bys HCd.out.bb HP.out.live.base) HC.out.bz HP.out.drew.live).mono ?_; intro e w2 hg2; obtain ⟨rfl, F2, hm2⟩ := HP.out.drew.step (HBX.out.block (w' := wx.drew) rfl) HNF.out HCd.out hg2; have K1 := hm2.box.three)
        | (go_at_call 27; refine (refWrite_any w2 c.n c.bA c.bn c.bc c.b HC.out.bl (Out.of_bys hm2.cl.bb HP.out.base) HC.out.bz hm2.half.ref).mono ?_; intro e w3 hg3; obtain ⟨rfl, hp3, hx3⟩ := hm2.step HNG.out hg3; have K2 := hx3.three))
    have HP3 := Lib.hid hp3
    go_wp2_with fail
    go_ret
    exact ⟨rfl, _, HP3.out⟩
  have b1 : (c.kind == 1) = false := by rw [beq_eq_false_iff_ne]; exact q1
  clear q1
  by_cases q2 : c.kind = 2
  · have b2 : (c.kind == 2) = true := by rw [q2]; rfl
    clear q2
    go_enter Try.func13, Try.ntmps13
    go_wp2_with fail
    generalize w.alloc (.cells #[.int .i64 c.kind, .int .i64 c.n, .slice c.bA c.bn c.bc, .slice c.kA c.kn c.kc, .int .i64 c.at_, .int .u8 c.by_.toNat] 35) = wx at *
    generalize w.heap.size = bx at *
    have x1 := HBX.out.c1
    (try clear x1)
    refine (read_live (W := W) wx c.n HC.out.n.1 HC.out.n.2 HP.out.live).mono ?_
    rintro e w2 ⟨A2, c2, rfl, ho2, hv2, hm2⟩
    have hx2 := HBX.out.block (hm2.kept.block bx HBX.out.lt HNF.out)
    have HR2 : Hid (Pair W F G w2 db rb s) := ⟨hv2, HP.out.ref.kept hm2.kept (fun k hG hF => HP.out.off k hF hG), HP.out.off, HP.out.base⟩
    have y1 := hx2.c1
    have HO2 := Lib.hid ho2.bys
    clear ho2 hv2 hm2 hx2
    go_wp2_with fail
    refine (refRead_any w2 c.n HR2.out.ref).mono ?_
    rintro e w3 ⟨A3, c3, rfl, ho3, rfl⟩
    have t1 := run_text (P := Try.prog) (w := w2) HO2.out 32 9 5 (s.readB c.n).length c2 rfl Try.underlying32 Try.underlying5 Try.underlying9
    have t2 := run_text (P := Try.prog) (w := w2) ho3 32 9 5 (s.readB c.n).length c3 rfl Try.underlying32 Try.underlying5 Try.underlying9
    clear ho3
    generalize s.readE c.n = er at *
    go_wp2_with fail
    go_ret
    exact ⟨rfl, s, F, G, HR2.out⟩
  have b2 : (c.kind == 2) = false := by rw [beq_eq_false_iff_ne]; exact q2
  clear q2
  by_cases q3 : c.kind = 3
  · have b3 : (c.kind == 3) = true := by rw [q3]; rfl
    clear q3
    go_enter Try.func13, Try.ntmps13
    go_wp2_with fail
    generalize w.alloc (.cells #[.int .i64 c.kind, .int .i64 c.n, .slice c.bA c.bn c.bc, .slice c.kA c.kn c.kc, .int .i64 c.at_, .int .u8 c.by_.toNat] 35) = wx at *
    generalize w.heap.size = bx at *
    refine (flush_live (W := W) wx HP.out.live).mono ?_
    intro e w2 hg2
    obtain ⟨rfl, F2, hm2⟩ := HP.out.step HBX.out HNF.out HC.out hg2
    have HM2 := Lib.hid hm2
    clear hg2 hm2
    go_wp2_with fail
    refine (refFlush_any w2 HM2.out.half.ref).mono ?_
    intro e w3 hg3
    obtain ⟨rfl, hp3, -⟩ := HM2.out.step HNG.out hg3
    have HP3 := Lib.hid hp3
    clear hg3 hp3
    generalize s.flushE = er at *
    go_wp2_with fail
    go_ret
    exact ⟨rfl, _, HP3.out⟩
  have b3 : (c.kind == 3) = false := by rw [beq_eq_false_iff_ne]; exact q3
  clear q3
  by_cases q4 : c.kind = 4
  · have b4 : (c.kind == 4) = true := by rw [q4]; rfl
    clear q4
    go_enter Try.func13, Try.ntmps13
    go_wp2_with fail
    generalize w.alloc (.cells #[.int .i64 c.kind, .int .i64 c.n, .slice c.bA c.bn c.bc, .slice c.kA c.kn c.kc, .int .i64 c.at_, .int .u8 c.by_.toNat] 35) = wx at *
    generalize w.heap.size = bx at *
    refine (fuse_live (W := W) wx c.n HC.out.n.1 HC.out.n.2 HP.out.live).mono ?_
    intro e w2 hg2
    obtain ⟨rfl, F2, hm2⟩ := HP.out.step HBX.out HNF.out HC.out hg2
    have y1 := hm2.box.c1
    have HM2 := Lib.hid hm2
    clear hg2 hm2
    go_wp2_with fail
    refine (refFuse_any w2 c.n HC.out.n.1 HC.out.n.2 HM2.out.half.ref).mono ?_
    intro e w3 hg3
    obtain ⟨rfl, hp3, -⟩ := HM2.out.step HNG.out hg3
    have HP3 := Lib.hid hp3
    clear hg3 hp3 y1
    go_wp2_with fail
    go_ret
    exact ⟨rfl, _, HP3.out⟩
  have b4 : (c.kind == 4) = false := by rw [beq_eq_false_iff_ne]; exact q4
  clear q4
  by_cases q5 : c.kind = 5
  · have b5 : (c.kind == 5) = true := by rw [q5]; rfl
    clear q5
    go_enter Try.func13, Try.ntmps13
    go_wp2_with fail
    generalize w.alloc (.cells #[.int .i64 c.kind, .int .i64 c.n, .slice c.bA c.bn c.bc, .slice c.kA c.kn c.kc, .int .i64 c.at_, .int .u8 c.by_.toNat] 35) = wx at *
    generalize w.heap.size = bx at *
    refine (restart_live (W := W) wx c.kA c.kn c.kc c.k HC.out.kl (by omega) (HC.out.kk.outN HP.out.live.base) HP.out.live).mono ?_
    intro e w2 hg2
    obtain ⟨rfl, F2, hm2⟩ := HP.out.step HBX.out HNF.out HC.out hg2
    have y1 := hm2.box.c3
    have HM2 := Lib.hid hm2
    clear hg2 hm2
    go_wp2_with fail
    refine (refRestart_any w2 c.kA c.kn c.kc c.k HC.out.kl (by omega) (HM2.out.cl.kk.outN HP.out.base) HM2.out.half.ref).mono ?_
    intro e w3 hg3
    obtain ⟨rfl, hp3, -⟩ := HM2.out.step HNG.out hg3
    have HP3 := Lib.hid hp3
    clear hg3 hp3 y1
    go_wp2_with fail
    go_ret
    exact ⟨rfl, _, HP3.out⟩
  have b5 : (c.kind == 5) = false := by rw [beq_eq_false_iff_ne]; exact q5
  clear q5
  by_cases q6 : c.kind = 6
  · have b6 : (c.kind == 6) = true := by rw [q6]; rfl
    clear q6
    go_enter Try.func13, Try.ntmps13
    go_wp2_with fail
    generalize w.alloc (.cells #[.int .i64 c.kind, .int .i64 c.n, .slice c.bA c.bn c.bc, .slice c.kA c.kn c.kc, .int .i64 c.at_, .int .u8 c.by_.toNat] 35) = wx at *
    generalize w.heap.size = bx at *
    have K0 := (HBX.out.block (w' := wx.drew) rfl).four
    obtain ⟨x1, x2, x3⟩ := K0
    have K0 := (HBX.out.block (w' := wx.drew) rfl).four
    have HCd : Hid (ClAt wx.drew W.heap.size c) := HC.out.below ⟨rfl, rfl, rfl, Nat.le_refl _, fun _ _ => rfl⟩
    go_region_held3 (fun w' => w'.cell? ⟨bx, 1, none⟩ = some (.int .i64 c.n) ∧ w'.cell? ⟨bx, 4, none⟩ = some (.int .i64 c.at_) ∧ w'.cell? ⟨bx, 5, none⟩ = some (.int .u8 c.by_.toNat))
      (first | exact K2 | exact K1 | exact K0)
      (first
        | (go_at_call 25; refine (turn_live (W := W) wx.drew c.n HC.out.n.1 HC.out.n.2 c.at_ HC.out.at_.1 HC.out.at_.2 c.by_ HP.out.drew.live).mono ?_; intro e w2 hg2; obtain ⟨rfl, F2, hm2⟩ := HP.out.drew.step (HBX.out.block (w' := wx.drew) rfl) HNF.out HCd.out hg2; have K1 := hm2.box.four)
        | (go_at_call 32; refine (refTurn_any w2 c.n c.at_ HC.out.at_.1 HC.out.at_.2 c.by_ hm2.half.ref).mono ?_; intro e w3 hg3; obtain ⟨rfl, hp3, hx3⟩ := hm2.step HNG.out hg3; have K2 := hx3.four))
    have HP3 := Lib.hid hp3
    go_wp2_with fail
    go_ret
    exact ⟨rfl, _, HP3.out⟩
  have b6 : (c.kind == 6) = false := by rw [beq_eq_false_iff_ne]; exact q6
  clear q6
  go_enter Try.func13, Try.ntmps13
  go_wp2_with fail
  generalize w.alloc (.cells #[.int .i64 c.kind, .int .i64 c.n, .slice c.bA c.bn c.bc, .slice c.kA c.kn c.kc, .int .i64 c.at_, .int .u8 c.by_.toNat] 35) = wx at *
  generalize w.heap.size = bx at *
  go_ret
  exact ⟨rfl, s, F, G, HP.out⟩
end Go.Proofs.Ytillllegbgaalaa
