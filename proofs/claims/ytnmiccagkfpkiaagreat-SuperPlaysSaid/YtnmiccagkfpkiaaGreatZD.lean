/-
  SuperPlays answers true, whatever script: superblocks, whatever is written, and whatever is done to the disk, are laid and chosen as the document says, behind each call. Conditions: none.
-/
import Derived.Test.YtnmiccagkfpkiaaGreatRows
import Derived.Test.YtnmiccagkfpkiaaGreatZD5
import Derived.Test.YtnmiccagkfpkiaaGreatZD6
import Derived.Test.YtnmiccagkfpkiaaGreatZD7
import Derived.Test.YtnmiccagkfpkiaaGreatZD8
import Derived.Test.YtnmiccagkfpkiaaGreatZD9
import Derived.Test.YtnmiccagkfpkiaaGreatZD10
import Derived.Deep.LoopGhost
import Derived.Deep.RegionHeld3
namespace Go.Proofs.YtnmiccagkfpkiaaGreat.superPlays
open Go.ChangeShapes Go.WideShapes Go.ChangeAt Go.RowKit Go.Maps

def PlaysRel (W : World) (db rb : Nat) (w : World) : Prop := ∃ s, PairE W w db rb s

theorem PlaysRel.below {W w : World} {db rb : Nat} (h : PlaysRel W db rb w) : Below W.heap.size W w := by
  obtain ⟨s, h⟩ := h
  exact h.below
theorem PlaysRel.next {W w w' : World} {db rb : Nat} (h : PlaysRel W db rb w) (hb : Below w.heap.size w w') : PlaysRel W db rb w' := by
  obtain ⟨s, h⟩ := h
  exact ⟨s, h.next hb⟩

/-- Both disks, just made. -/
theorem pair_made {W w2 w3 : World} {F G : Nat → Prop} {db rb n : Nat} (hv : Live W F w2 db (PS.new n)) (hr : Rk w3 G rb (PS.new n)) (hG : ∀ k, G k → w2.heap.size ≤ k) (hb : Below w2.heap.size w2 w3) : PlaysRel W db rb w3 :=
  ⟨_, F, G, hv.next hb, hr, fun k hF hG' => by have := hv.dk.lt k hF; have := hG k hG'; omega, fun k hk => Nat.le_trans hv.le (hG k hk)⟩

/-- The block of a call. -/
def CBox (w : World) (g : Nat) (u : UCl) : Prop :=
  w.heap[g]? = some (.cells #[.int .i64 u.kind, .int .i64 u.s.ep, .int .i64 u.s.ro, .int .i64 u.s.he, .slice u.A u.n u.c, .int .i64 u.s.ct, .int .i64 u.d.kind, .int .i64 u.d.n, .slice u.d.bA u.d.bn u.d.bc, .slice u.d.kA u.d.kn u.d.kc, .int .i64 u.d.at_, .int .u8 u.d.by_.toNat] 38 (0, 0))
section
variable {w w' : World} {g : Nat} {u : UCl}
theorem CBox.lt (h : CBox w g u) : g < w.heap.size := (Array.getElem?_eq_some_iff.1 h).1
theorem CBox.kept (h : CBox w g u) (hb : Below w.heap.size w w') : CBox w' g u := (hb.block g h.lt).trans h
theorem CBox.block (h : CBox w g u) (e : w'.heap[g]? = w.heap[g]?) : CBox w' g u := Eq.trans e h
theorem CBox.sup (h : CBox w g u) : w.cell? ⟨g, 1, none⟩ = some (.int .i64 u.s.ep) ∧ w.cell? ⟨g, 2, none⟩ = some (.int .i64 u.s.ro) ∧ w.cell? ⟨g, 3, none⟩ = some (.int .i64 u.s.he) ∧ w.cell? ⟨g, 4, none⟩ = some (.slice u.A u.n u.c) ∧ w.cell? ⟨g, 5, none⟩ = some (.int .i64 u.s.ct) :=
  ⟨(cell_of_row w g 1 _ _ _ h).trans rfl, (cell_of_row w g 2 _ _ _ h).trans rfl, (cell_of_row w g 3 _ _ _ h).trans rfl, (cell_of_row w g 4 _ _ _ h).trans rfl, (cell_of_row w g 5 _ _ _ h).trans rfl⟩
theorem CBox.kind (h : CBox w g u) : w.cell? ⟨g, 0, none⟩ = some (.int .i64 u.kind) := (cell_of_row w g 0 _ _ _ h).trans rfl
theorem CBox.dsk (h : CBox w g u) : w.cell? ⟨g, 6, none⟩ = some (.int .i64 u.d.kind) ∧ w.cell? ⟨g, 7, none⟩ = some (.int .i64 u.d.n) ∧ w.cell? ⟨g, 8, none⟩ = some (.slice u.d.bA u.d.bn u.d.bc) ∧ w.cell? ⟨g, 9, none⟩ = some (.slice u.d.kA u.d.kn u.d.kc) ∧ w.cell? ⟨g, 10, none⟩ = some (.int .i64 u.d.at_) ∧ w.cell? ⟨g, 11, none⟩ = some (.int .u8 u.d.by_.toNat) :=
  ⟨(cell_of_row w g 6 _ _ _ h).trans rfl, (cell_of_row w g 7 _ _ _ h).trans rfl, (cell_of_row w g 8 _ _ _ h).trans rfl, (cell_of_row w g 9 _ _ _ h).trans rfl, (cell_of_row w g 10 _ _ _ h).trans rfl, (cell_of_row w g 11 _ _ _ h).trans rfl⟩
end

section
variable {W w w' : World} {F G : Nat → Prop} {db rb g : Nat} {s s' : PS} {u : UCl}
theorem pair_step {v : Value} {e : Ending} (h : Pair W F G w db rb s) (hb : CBox w g u) (hF : ¬ F g) (k : LGoes W F w db s' v e w') : e = .returned v ∧ ∃ F', Half W F' G w' db rb s' s ∧ CBox w' g u := by
  obtain ⟨he, F', hh⟩ := h.half k
  obtain ⟨_, _, _, hm⟩ := k
  exact ⟨he, F', hh, hb.block (hm.kept.block g hb.lt hF)⟩
theorem half_step {v : Value} {e : Ending} (h : Half W F G w db rb s' s) (hb : CBox w g u) (hG : ¬ G g) (k : RGoes w G rb s' v e w') : e = .returned v ∧ PairE W w' db rb s' ∧ CBox w' g u := by
  obtain ⟨he, hp⟩ := h.whole k
  obtain ⟨_, _, _, _, hk⟩ := k
  exact ⟨he, hp, hb.block (hk.block g hb.lt hG)⟩
end

set_option maxRecDepth 20000 in
set_option maxHeartbeats 12800000 in
theorem walk {W : World} (A : Option Addr) (m cp : Nat) (us : List UCl) (hl : us.length = m) (hs : UScript W A us) (_ : m ≤ maxLen) :
    Calls Tryz.prog 3 #[.slice A m cp] W fun e W' => e = .returned (.bool true) ∧ Below W.heap.size W W' := by
  have HL := Lib.hid hl
  have HS := Lib.hid hs
  clear hl hs
  go_enter Tryz.func3, Tryz.ntmps3
  go_wp2_with fail
  refine (awake_any _).mono ?_
  rintro e w1 ⟨rfl, b1⟩
  have B1 := Lib.hid b1
  clear b1
  go_wp2_with fail
  refine (new_live (W := W) w1 8 (by omega) (by omega) B1.out).mono ?_
  rintro e w2 ⟨db, F2, rfl, hv2, -, -⟩
  have HV2 := Lib.hid hv2
  clear hv2 B1
  go_wp2_with fail
  refine (refNew_good w2 8 (by omega) (by omega)).mono ?_
  rintro e w3 ⟨rb, G3, rfl, hr3, hG3, hb3⟩
  have HR : Hid (PlaysRel W db rb w3) := pair_made HV2.out hr3 hG3 hb3
  clear hr3 hG3 hb3 HV2
  go_wp2_with fail
  go_loopg [8] m (fun gh i wr => ∃ j : Nat, gh = m - j ∧ j ≤ m ∧ i = .int .i64 j ∧ PlaysRel W db rb wr)
  case atStart => exact ⟨0, rfl, Nat.zero_le _, rfl, HR.out⟩
  case round =>
    obtain ⟨j, rfl, hj, rfl, hr⟩ := hrel
    have HRR := Lib.hid hr
    clear hr HR
    by_cases hlt : j < m
    case neg =>
      go_wp2_with fail
      go_ret
      exact ⟨rfl, HRR.out.below⟩
    by_cases h40 : j < 40
    case neg =>
      go_wp2_with fail
      go_ret
      exact ⟨rfl, HRR.out.below⟩
    obtain ⟨b, off, u, rfl, hbR, hua, hcl⟩ := HS.out.at_ (k := j) (by rw [HL.out]; exact hlt)
    have HUA := Lib.hid hua
    have hx : ∀ i, i < 12 → wr.cell? ⟨b, off + j * 12 + i, none⟩ = u.vals[i]? := fun i hi => (HRR.out.below.cell (p := ⟨b, _, none⟩) hbR).trans (hcl i hi)
    have c0 : wr.cell? ⟨b, off + j * 12, none⟩ = some (.int .i64 u.kind) := hx 0 (by omega)
    have c1 : wr.cell? ⟨b, off + j * 12 + 1, none⟩ = some (.int .i64 u.s.ep) := hx 1 (by omega)
    have c2 : wr.cell? ⟨b, off + j * 12 + 2, none⟩ = some (.int .i64 u.s.ro) := hx 2 (by omega)
    have c3 : wr.cell? ⟨b, off + j * 12 + 3, none⟩ = some (.int .i64 u.s.he) := hx 3 (by omega)
    have c4 : wr.cell? ⟨b, off + j * 12 + 4, none⟩ = some (.slice u.A u.n u.c) := hx 4 (by omega)
    have c5 : wr.cell? ⟨b, off + j * 12 + 5, none⟩ = some (.int .i64 u.s.ct) := hx 5 (by omega)
    have c6 : wr.cell? ⟨b, off + j * 12 + 6, none⟩ = some (.int .i64 u.d.kind) := hx 6 (by omega)
    have c7 : wr.cell? ⟨b, off + j * 12 + 7, none⟩ = some (.int .i64 u.d.n) := hx 7 (by omega)
    have c8 : wr.cell? ⟨b, off + j * 12 + 8, none⟩ = some (.slice u.d.bA u.d.bn u.d.bc) := hx 8 (by omega)
    have c9 : wr.cell? ⟨b, off + j * 12 + 9, none⟩ = some (.slice u.d.kA u.d.kn u.d.kc) := hx 9 (by omega)
    have c10 : wr.cell? ⟨b, off + j * 12 + 10, none⟩ = some (.int .i64 u.d.at_) := hx 10 (by omega)
    have c11 : wr.cell? ⟨b, off + j * 12 + 11, none⟩ = some (.int .u8 u.d.by_.toNat) := hx 11 (by omega)
    clear hua hx hcl hbR
    go_upto_region 10 with fail
    clear c0 c1 c2 c3 c4 c5 c6 c7 c8 c9 c10 c11
    have hF0 : Hid (∃ s F G, Pair W F G wr db rb s) := by obtain ⟨s, F, G, h⟩ := HRR.out; exact Lib.hid ⟨s, F, G, h⟩
    obtain ⟨s, F, G, hp⟩ := hF0.out
    have HNF : Hid (¬ F wr.heap.size) := Lib.hid (fun e => by have := hp.live.dk.lt _ e; omega)
    have HNG : Hid (¬ G wr.heap.size) := Lib.hid (fun e => by have := hp.ref.lt _ e; omega)
    have CB : Hid (CBox (wr.alloc (.cells #[.int .i64 u.kind, .int .i64 u.s.ep, .int .i64 u.s.ro, .int .i64 u.s.he, .slice u.A u.n u.c, .int .i64 u.s.ct, .int .i64 u.d.kind, .int .i64 u.d.n, .slice u.d.bA u.d.bn u.d.bc, .slice u.d.kA u.d.kn u.d.kc, .int .i64 u.d.at_, .int .u8 u.d.by_.toNat] 38)) wr.heap.size u) := Lib.hid (heap_alloc_new wr _)
    have HP := Lib.hid (hp.next (below_one wr (.cells #[.int .i64 u.kind, .int .i64 u.s.ep, .int .i64 u.s.ro, .int .i64 u.s.he, .slice u.A u.n u.c, .int .i64 u.s.ct, .int .i64 u.d.kind, .int .i64 u.d.n, .slice u.d.bA u.d.bn u.d.bc, .slice u.d.kA u.d.kn u.d.kc, .int .i64 u.d.at_, .int .u8 u.d.by_.toNat] 38)))
    clear hp hF0 HRR
    generalize wr.alloc (.cells #[.int .i64 u.kind, .int .i64 u.s.ep, .int .i64 u.s.ro, .int .i64 u.s.he, .slice u.A u.n u.c, .int .i64 u.s.ct, .int .i64 u.d.kind, .int .i64 u.d.n, .slice u.d.bA u.d.bn u.d.bc, .slice u.d.kA u.d.kn u.d.kc, .int .i64 u.d.at_, .int .u8 u.d.by_.toNat] 38) = w4 at *
    generalize wr.heap.size = g at *
    obtain ⟨c6, c7, c8, c9, c10, c11⟩ := CB.out.dsk
    go_wp2_with fail
    refine (small_any u.d w4).mono ?_
    rintro e w5 ⟨rfl, b5⟩
    have CB5 := Lib.hid (CB.out.kept b5)
    have HP5 := Lib.hid (HP.out.next b5)
    clear b5 CB HP c6 c7 c8 c9 c10 c11
    cases hsm : u.d.small with
    | false =>
      clear hsm
      go_wp2_with fail
      go_roundg (m - (j + 1))
      case measure => omega
      case rel => exact ⟨j + 1, rfl, by omega, by go_num, s, F, G, HP5.out⟩
    | true =>
    have HSM := Lib.hid hsm
    clear hsm
    obtain ⟨c1, c2, c3, c4, c5⟩ := CB5.out.sup
    go_wp2_with fail
    refine (ufew_any _ _ _ _ u.A u.n u.c w5).mono ?_
    rintro e w6 ⟨rfl, b6⟩
    have CB6 := Lib.hid (CB5.out.kept b6)
    have HP6 := Lib.hid (HP5.out.next b6)
    clear b6 CB5 HP5 c1 c2 c3 c4 c5
    by_cases hn : u.n ≤ 200
    case neg =>
      rw [decide_eq_false hn]
      clear hn
      go_wp2_with fail
      go_roundg (m - (j + 1))
      case measure => omega
      case rel => exact ⟨j + 1, rfl, by omega, by go_num, s, F, G, HP6.out⟩
    rw [decide_eq_true hn]
    have c0 := CB6.out.kind
    by_cases hk1 : u.kind = 1
    · have hb1 : (u.kind == 1) = true := by rw [hk1]; rfl
      clear hk1
      go_wp2_with fail
      clear c0
      have K0 := (CB6.out.block (w' := w6.drew) rfl).sup
      have LN : Hid (Ln w6.drew 1 u.A u.n u.c (intVals u.s.pg)) := Lib.hid ((HUA.out.ln.kept HP6.out.live.below).kept ⟨rfl, rfl, rfl, Nat.le_refl _, fun _ _ => rfl⟩)
      go_region_held3 (fun w' => w'.cell? ⟨g, 1, none⟩ = some (.int .i64 u.s.ep) ∧ w'.cell? ⟨g, 2, none⟩ = some (.int .i64 u.s.ro) ∧ w'.cell? ⟨g, 3, none⟩ = some (.int .i64 u.s.he) ∧ w'.cell? ⟨g, 4, none⟩ = some (.slice u.A u.n u.c) ∧ w'.cell? ⟨g, 5, none⟩ = some (.int .i64 u.s.ct))
        (first | exact K2 | exact K1 | exact K0)
        (first
          | (go_at_call 9; refine (uwrite_live (W := W) u.s.ep u.s.ro u.s.he u.s.ct u.A u.n u.c u.s.pg w6.drew LN.out (by omega) HP6.out.drew.live).mono ?_; intro e w7 hg7; obtain ⟨rfl, F7, hm7, hx7⟩ := pair_step HP6.out.drew (CB6.out.block (w' := w6.drew) rfl) HNF.out hg7; have K1 := hx7.sup)
          | (go_at_call 10; refine (refUWrite_any u.s.ep u.s.ro u.s.he u.s.ct u.A u.n u.c u.s.pg w7 (HUA.out.ln.kept hm7.live.below) (by omega) hm7.ref).mono ?_; intro e w8 hg8; obtain ⟨rfl, hp8, hx8⟩ := half_step hm7 hx7 HNG.out hg8; have K2 := hx8.sup)
          | fail)
      all_goals (
        have HP8 := Lib.hid hp8
        clear hp8 hm7 hx7 hx8 hg7 hg8 K0 K1 K2
        go_wp2_with fail
        refine (shows_any _ HP8.out).mono ?_
        rintro e w9 ⟨rfl, hp9⟩
        have HR9 : Hid (PlaysRel W db rb w9) := Lib.hid ⟨_, hp9⟩
        clear hp9 HP8
        go_wp2_with fail
        go_roundg (m - (j + 1))
        case measure => omega
        case rel => exact ⟨j + 1, rfl, by omega, by go_num, HR9.out⟩)
    have hb1 : (u.kind == 1) = false := by rw [beq_eq_false_iff_ne]; exact hk1
    by_cases hk2 : u.kind = 2
    · have hb2 : (u.kind == 2) = true := by rw [hk2]; rfl
      clear hk1 hk2
      go_wp2_with fail
      refine (choose_any w6 HP6.out.live.dk).mono ?_
      rintro e w7 ⟨v7, rfl, s7, b7⟩
      obtain ⟨x, hx⟩ : ∃ x, s.chooseS = x := ⟨_, rfl⟩
      obtain ⟨E, hE⟩ : ∃ E, s.chooseE = E := ⟨_, rfl⟩
      rw [hx] at s7
      rw [hE]
      have HX := Lib.hid hx
      have HE := Lib.hid hE
      obtain ⟨A7, c7, rfl, l7, _⟩ := s7
      obtain ⟨z1, z2, z3⟩ := uboxed b7 l7 x.ep x.ro x.he x.ct
      have HX7 := Lib.hid z2
      have HL7 := Lib.hid z3
      have HP7 := Lib.hid (HP6.out.next z1)
      have hxl : x.pg.length ≤ 1000 := by
        rw [← hx]
        unfold PS.chooseS
        split
        · exact Nat.zero_le _
        · cases h : s.chosen with
          | none => exact Nat.zero_le _
          | some y =>
            have h1 : SB.choose (SB.lie 0 (s.readB 0)) (SB.lie 1 (s.readB 1)) = some y := h
            have h2 : y.okB = true := by
              cases e0 : SB.lie 0 (s.readB 0) with
              | none =>
                rw [e0] at h1
                have h1 : SB.lie 1 (s.readB 1) = some y := h1
                exact (SB.lie_ok h1).1
              | some a =>
                cases e1 : SB.lie 1 (s.readB 1) with
                | none =>
                  rw [e0, e1] at h1
                  obtain rfl := Option.some.inj h1
                  exact (SB.lie_ok e0).1
                | some c =>
                  rw [e0, e1] at h1
                  have h1 : (if c.ep < a.ep then some a else some c) = some y := h1
                  split at h1
                  · obtain rfl := Option.some.inj h1
                    exact (SB.lie_ok e0).1
                  · obtain rfl := Option.some.inj h1
                    exact (SB.lie_ok e1).1
            have h3 := (SB.pg_ok h2).2
            show y.pg.length ≤ 1000
            omega
      obtain ⟨q, hq⟩ : ∃ q, x.pg.length = q := ⟨_, rfl⟩
      rw [hq] at HX7 HL7 HP7 hxl ⊢
      have HQ := Lib.hid hq
      clear z1 z2 z3 b7 l7 hx hE hq c0
      go_upto_region 17 with fail
      generalize hw8 : w7.alloc (.cells #[.int .i64 x.ep, .int .i64 x.ro, .int .i64 x.he, .slice A7 q c7, .int .i64 x.ct] 33) = w8 at *
      clear hw8
      generalize w7.heap.size = r7 at *
      go_wp2_with fail
      refine (refChoose_any w8 HP7.out.live.dk.ok HP7.out.ref).mono ?_
      rintro e w9 ⟨v9, rfl, s9, b9⟩
      rw [HX.out] at s9
      rw [HE.out]
      obtain ⟨A9, c9, rfl, l9, _⟩ := s9
      rw [HQ.out] at l9 ⊢
      obtain ⟨z1, z2, z3⟩ := uboxed b9 l9 x.ep x.ro x.he x.ct
      have HX9 := Lib.hid z2
      have HL9 := Lib.hid z3
      have HP9 := Lib.hid (HP7.out.next z1)
      have HX8 := Lib.hid (HX7.out.kept z1)
      have HL8 := Lib.hid (HL7.out.kept z1)
      clear z1 z2 z3 b9 l9 HP7 HX7 HL7
      go_upto_region 18 with fail
      generalize hw10 : w9.alloc (.cells #[.int .i64 x.ep, .int .i64 x.ro, .int .i64 x.he, .slice A9 q c9, .int .i64 x.ct] 33) = w10 at *
      clear hw10
      generalize w9.heap.size = r9 at *
      obtain ⟨x0, x1, x2, x3, x4⟩ := HX8.out.cells
      obtain ⟨y0, y1, y2, y3, y4⟩ := HX9.out.cells
      go_wp2_with fail
      refine (usame_any x.ep x.ro x.he x.ct x.ep x.ro x.he x.ct A7 A9 q c7 q c9 x.pg x.pg w10 HL8.out HL9.out (by omega)).mono ?_
      rintro e w11 ⟨r, rfl, hr, b11⟩
      have hr := hr rfl
      subst hr
      have HP11 := Lib.hid (HP9.out.next b11)
      clear b11 HP9 HX8 HX9 HL8 HL9 x0 x1 x2 x3 x4 y0 y1 y2 y3 y4
      go_wp2_with fail
      refine (shows_any (s := s) w11 ⟨F, G, HP11.out⟩).mono ?_
      rintro e w12 ⟨rfl, hp12⟩
      have HR12 : Hid (PlaysRel W db rb w12) := Lib.hid ⟨_, hp12⟩
      clear hp12 HP11
      go_wp2_with fail
      go_roundg (m - (j + 1))
      case measure => omega
      case rel => exact ⟨j + 1, rfl, by omega, by go_num, HR12.out⟩
    have hb2 : (u.kind == 2) = false := by rw [beq_eq_false_iff_ne]; exact hk2
    clear hk1 hk2
    obtain ⟨c6, c7, c8, c9, c10, c11⟩ := CB6.out.dsk
    go_wp2_with fail
    refine (did_any (s := s) (c := u.d) w6 ⟨F, G, HP6.out⟩ (HUA.out.d.below HP6.out.live.below) HSM.out).mono ?_
    rintro e w7 ⟨rfl, s7, hp7⟩
    have HP7 := Lib.hid hp7
    clear hp7 CB6 HP6 c0 c6 c7 c8 c9 c10 c11
    go_wp2_with fail
    refine (shows_any w7 HP7.out).mono ?_
    rintro e w8 ⟨rfl, hp8⟩
    have HR8 : Hid (PlaysRel W db rb w8) := Lib.hid ⟨_, hp8⟩
    clear hp8 HP7
    go_wp2_with fail
    go_roundg (m - (j + 1))
    case measure => omega
    case rel => exact ⟨j + 1, rfl, by omega, by go_num, HR8.out⟩

set_option maxRecDepth 100000 in
theorem lifted (os : Os) (started : os.Started) (H : Type) (enc : TypeId × Value → H) :
    ReturnsInHanded {} Tryz.checked os 3 .any (Rows.superPlaysSpec.pre6 enc Tryz.prog Tryz.f3 Rows.superPlaysRow.domain false)
      (Rows.superPlaysSpec.post enc Tryz.prog Tryz.f3 false true false false) := by
  refine lift_law (C := Tryz.checked) (tb := 4) ownKnobs started (by kernel_rfl) Tryz.func3
    (ChangeSpec.witness6 (enc := enc) (C := Tryz.checked) false ⟨#[], #[.slice none 0 0], []⟩ 8 (by kernel_rfl) (by kernel_rfl) (by kernel_rfl) (by kernel_rfl))
    laidOut ?_ rfl rfl Tryz.underlying4 ?_ ?_
  · intro t ht
    rw [Tryz.params3] at ht
    simp only [List.mem_cons, List.not_mem_nil, or_false] at ht
    subst ht
    exact ⟨by kernel_rfl, of_decide_eq_true (by kernel_rfl)⟩
  · intro vs ds W p hA
    rw [Tryz.params3] at hA
    obtain ⟨v0, vs0, d0, ds0, p0, q0, ha, rfl, rfl, h0, r0⟩ := trodAll_cons hA
    obtain ⟨rfl, rfl, rfl⟩ := trodAll_nil r0
    rfl
  · intro W base args ds p hval hA
    rw [Tryz.params3] at hA hval
    obtain ⟨v0, vs0, d0, ds0, p0, q0, ha, rfl, rfl, h0, r0⟩ := trodAll_cons hA
    obtain ⟨rfl, rfl, rfl⟩ := trodAll_nil r0
    obtain rfl : args = #[v0] := by cases args; simp_all
    obtain ⟨A0, n0, c0, xs0, rfl, e0, hr0, y0⟩ := open_ucalls (hval 0 _ v0 rfl rfl) h0
    exact walk A0 n0 c0 xs0 e0 hr0 y0

/-- The statement. -/
theorem proved : Rows.SuperPlaysSaid :=
  OpenClaim.holds_of_wide 3 Tryz.f3 rfl rfl rfl rfl rfl rfl rfl ⟨rfl, rfl, rfl, rfl, rfl⟩ rfl rfl rfl rfl rfl (by kernel_rfl) Tryz.func3 (by kernel_rfl)
    (of_decide_eq_true (by kernel_rfl)) (by unfold Func.isWrapper; first | (rw [if_pos (by decide +kernel)]; kernel_rfl) | (rw [if_neg (by decide +kernel)]; exact ⟨rfl, rfl⟩))
    (fun os started H enc _ => lifted os started H enc)
#print axioms proved
end Go.Proofs.YtnmiccagkfpkiaaGreat.superPlays
