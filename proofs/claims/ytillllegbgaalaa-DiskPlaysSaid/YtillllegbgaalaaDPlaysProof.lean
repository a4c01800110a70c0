/-
  DiskPlays answers true, for every number of sectors and every script: a disk, whatever is written, flushed, turned, and wherever the power goes, answers, and holds, what the document says, behind each call. Conditions: none.
-/
import Derived.Test.YtillllegbgaalaaRows
import Derived.Test.YtillllegbgaalaaDAwake
import Derived.Test.YtillllegbgaalaaDPair
import Derived.Test.YtillllegbgaalaaDRefNew
namespace Go.Proofs.Ytillllegbgaalaa.diskPlays
open Go.ChangeShapes Go.WideShapes Go.ChangeAt Go.RowKit

def PlaysRel (W : World) (db rb : Nat) (w : World) : Prop := ∃ s, PairE W w db rb s

theorem PlaysRel.below {W w : World} {db rb : Nat} (h : PlaysRel W db rb w) : Below W.heap.size W w := by
  obtain ⟨s, h⟩ := h
  exact h.below
theorem PlaysRel.next {W w w' : World} {db rb : Nat} (h : PlaysRel W db rb w) (hb : Below w.heap.size w w') : PlaysRel W db rb w' := by
  obtain ⟨s, h⟩ := h
  exact ⟨s, h.next hb⟩

/-- Both disks, just made. -/
theorem pair_made {W w2 w3 : World} {F G : Nat → Prop} {db rb n : Nat} (hv : Live W F w2 db (PS.new n)) (hr : Rk w3 G rb (PS.new n)) (hG : ∀ k, G k → w2.heap.size ≤ k) (hb : Below w2.heap.size w2 w3) : PlaysRel W db rb w3 :=
  ⟨_, F, G, hv.next hb, hr, fun k hF hG' => by have := hv.dk.lt k hF; have := hG k hG'; omega, fun k hk => Nat.le_trans hv.le (hG k hk)⟩

set_option maxRecDepth 20000 in
set_option maxHeartbeats 6400000 in
theorem walk_small {W : World} (n : Nat) (h2 : 2 ≤ n) (h100 : n ≤ 100) (A : Option Addr) (m cp : Nat) (cs : List Cl) (hl : cs.length = m) (hs : Script W W.heap.size A cs) :
    Calls Try.prog 3 #[.int .i64 (n : Int), .slice A m cp] W fun e W' => e = .returned (.bool true) ∧ Below W.heap.size W W' := by
  have HL := Lib.hid hl
  have HS := Lib.hid hs
  clear hl hs
  go_enter Try.func3, Try.ntmps3
  go_wp2_with fail
  refine (awake_any _).mono ?_
  rintro e w1 ⟨rfl, b1⟩
  have B1 := Lib.hid b1
  clear b1
  go_wp2_with fail
  refine (new_live (W := W) w1 n (by omega) (by omega) B1.out).mono ?_
  rintro e w2 ⟨db, F2, rfl, hv2, -, -⟩
  have HV2 := Lib.hid hv2
  clear hv2 B1
  go_wp2_with fail
  refine (refNew_good w2 n (by omega) (by omega)).mono ?_
  rintro e w3 ⟨rb, G3, rfl, hr3, hG3, hb3⟩
  have HR : Hid (PlaysRel W db rb w3) := pair_made HV2.out hr3 hG3 hb3
  clear hr3 hG3 hb3 HV2
  go_wp2_with fail
  go_loopg [10] m (fun g i wr => ∃ j : Nat, g = m - j ∧ j ≤ m ∧ i = .int .i64 j ∧ PlaysRel W db rb wr)
  case atStart => exact ⟨0, rfl, Nat.zero_le _, rfl, HR.out⟩
  case round =>
    obtain ⟨j, rfl, hj, rfl, hr⟩ := hrel
    have HRR := Lib.hid hr
    clear hr HR
    by_cases hlt : j < m
    · by_cases h60 : j < 60
      · obtain ⟨b, off, c, rfl, hbR, -, hca, c0, c1, c2, c3, c4, c5⟩ := (HS.out.below HRR.out.below).at_ (k := j) (by rw [HL.out]; exact hlt)
        have HCA := Lib.hid hca
        clear hca
        go_wp2_with fail
        refine (small_any c _).mono ?_
        rintro e w5 ⟨rfl, b5⟩
        have hbl : b < wr.heap.size := World.block_lt_of_cell? _ _ c0
        have d0 := (b5.cell (p := ⟨b, _, none⟩) hbl).trans c0
        have d1 := (b5.cell (p := ⟨b, _, none⟩) hbl).trans c1
        have d2 := (b5.cell (p := ⟨b, _, none⟩) hbl).trans c2
        have d3 := (b5.cell (p := ⟨b, _, none⟩) hbl).trans c3
        have d4 := (b5.cell (p := ⟨b, _, none⟩) hbl).trans c4
        have d5 := (b5.cell (p := ⟨b, _, none⟩) hbl).trans c5
        have HR5 := Lib.hid (HRR.out.next b5)
        have HC5 := Lib.hid (HCA.out.below (b5.mono HRR.out.below.size))
        clear c0 c1 c2 c3 c4 c5 b5 HRR HCA hbl
        by_cases hsm : c.small = true
        · have HSM := Lib.hid hsm
          rw [hsm]
          clear hsm
          obtain ⟨s5, hp5⟩ := HR5.out
          have HP5 := Lib.hid hp5
          clear hp5
          go_wp2_with fail
          refine (did_any (c := c) w5 HP5.out HC5.out HSM.out).mono ?_
          rintro e w6 ⟨rfl, s6, hp6⟩
          have HP6 := Lib.hid hp6
          clear hp6 d0 d1 d2 d3 d4 d5 HP5 HR5 HC5
          go_wp2_with fail
          refine (shows_any w6 HP6.out).mono ?_
          rintro e w7 ⟨rfl, hp7⟩
          have HR7 : Hid (PlaysRel W db rb w7) := ⟨s6, hp7⟩
          clear hp7 HP6
          go_wp2_with fail
          go_roundg (m - (j + 1))
          case measure => omega
          case rel => exact ⟨j + 1, rfl, by omega, by go_num, HR7.out⟩
        · have hsm' : c.small = false := by simpa using hsm
          rw [hsm']
          clear hsm hsm' d0 d1 d2 d3 d4 d5
          go_wp2_with fail
          go_roundg (m - (j + 1))
          case measure => omega
          case rel => exact ⟨j + 1, rfl, by omega, by go_num, HR5.out⟩
      · go_wp2_with fail
        go_ret
        exact ⟨rfl, HRR.out.below⟩
    · go_wp2_with fail
      go_ret
      exact ⟨rfl, HRR.out.below⟩

set_option maxRecDepth 20000 in
set_option maxHeartbeats 6400000 in
theorem walk_big {W : World} (z : Int) (h1 : 100 < z) (h4 : z ≤ 4096) (A : Option Addr) (m cp : Nat) (cs : List Cl) (hl : cs.length = m) (hs : Script W W.heap.size A cs) :
    Calls Try.prog 3 #[.int .i64 z, .slice A m cp] W fun e W' => e = .returned (.bool true) ∧ Below W.heap.size W W' := by
  have HL := Lib.hid hl
  have HS := Lib.hid hs
  clear hl hs
  go_enter Try.func3, Try.ntmps3
  go_wp2_with fail
  refine (awake_any _).mono ?_
  rintro e w1 ⟨rfl, b1⟩
  have B1 := Lib.hid b1
  clear b1
  go_wp2_with fail
  refine (new_live (W := W) w1 100 (by omega) (by omega) B1.out).mono ?_
  rintro e w2 ⟨db, F2, rfl, hv2, -, -⟩
  have HV2 := Lib.hid hv2
  clear hv2 B1
  go_wp2_with fail
  refine (refNew_good w2 100 (by omega) (by omega)).mono ?_
  rintro e w3 ⟨rb, G3, rfl, hr3, hG3, hb3⟩
  have HR : Hid (PlaysRel W db rb w3) := pair_made HV2.out hr3 hG3 hb3
  clear hr3 hG3 hb3 HV2
  go_wp2_with fail
  go_loopg [10] m (fun g i wr => ∃ j : Nat, g = m - j ∧ j ≤ m ∧ i = .int .i64 j ∧ PlaysRel W db rb wr)
  case atStart => exact ⟨0, rfl, Nat.zero_le _, rfl, HR.out⟩
  case round =>
    obtain ⟨j, rfl, hj, rfl, hr⟩ := hrel
    have HRR := Lib.hid hr
    clear hr HR
    by_cases hlt : j < m
    · by_cases h60 : j < 60
      · obtain ⟨b, off, c, rfl, hbR, -, hca, c0, c1, c2, c3, c4, c5⟩ := (HS.out.below HRR.out.below).at_ (k := j) (by rw [HL.out]; exact hlt)
        have HCA := Lib.hid hca
        clear hca
        go_wp2_with fail
        refine (small_any c _).mono ?_
        rintro e w5 ⟨rfl, b5⟩
        have hbl : b < wr.heap.size := World.block_lt_of_cell? _ _ c0
        have d0 := (b5.cell (p := ⟨b, _, none⟩) hbl).trans c0
        have d1 := (b5.cell (p := ⟨b, _, none⟩) hbl).trans c1
        have d2 := (b5.cell (p := ⟨b, _, none⟩) hbl).trans c2
        have d3 := (b5.cell (p := ⟨b, _, none⟩) hbl).trans c3
        have d4 := (b5.cell (p := ⟨b, _, none⟩) hbl).trans c4
        have d5 := (b5.cell (p := ⟨b, _, none⟩) hbl).trans c5
        have HR5 := Lib.hid (HRR.out.next b5)
        have HC5 := Lib.hid (HCA.out.below (b5.mono HRR.out.below.size))
        clear c0 c1 c2 c3 c4 c5 b5 HRR HCA hbl
        by_cases hsm : c.small = true
        · have HSM := Lib.hid hsm
          rw [hsm]
          clear hsm
          obtain ⟨s5, hp5⟩ := HR5.out
          have HP5 := Lib.hid hp5
          clear hp5
          go_wp2_with fail
          refine (did_any (c := c) w5 HP5.out HC5.out HSM.out).mono ?_
          rintro e w6 ⟨rfl, s6, hp6⟩
          have HP6 := Lib.hid hp6
          clear hp6 d0 d1 d2 d3 d4 d5 HP5 HR5 HC5
          go_wp2_with fail
          refine (shows_any w6 HP6.out).mono ?_
          rintro e w7 ⟨rfl, hp7⟩
          have HR7 : Hid (PlaysRel W db rb w7) := ⟨s6, hp7⟩
          clear hp7 HP6
          go_wp2_with fail
          go_roundg (m - (j + 1))
          case measure => omega
          case rel => exact ⟨j + 1, rfl, by omega, by go_num, HR7.out⟩
        · have hsm' : c.small = false := by simpa using hsm
          rw [hsm']
          clear hsm hsm' d0 d1 d2 d3 d4 d5
          go_wp2_with fail
          go_roundg (m - (j + 1))
          case measure => omega
          case rel => exact ⟨j + 1, rfl, by omega, by go_num, HR5.out⟩
      · go_wp2_with fail
        go_ret
        exact ⟨rfl, HRR.out.below⟩
    · go_wp2_with fail
      go_ret
      exact ⟨rfl, HRR.out.below⟩

set_option maxRecDepth 20000 in
set_option maxHeartbeats 6400000 in
theorem walk_bad {W : World} (z : Int) (h : z < 2 ∨ 4096 < z) (A : Option Addr) (m cp : Nat) (cs : List Cl) (_ : cs.length = m) (_ : Script W W.heap.size A cs) :
    Calls Try.prog 3 #[.int .i64 z, .slice A m cp] W fun e W' => e = .returned (.bool true) ∧ Below W.heap.size W W' := by
  go_enter Try.func3, Try.ntmps3
  go_wp2_with fail
  refine (awake_any _).mono ?_
  rintro e w1 ⟨rfl, b1⟩
  have B1 := Lib.hid b1
  clear b1
  have HZ := Lib.hid h
  rcases h with h | h
  all_goals
    go_wp2_with fail
    refine (new_bad w1 z HZ.out).mono ?_
    rintro e w' ⟨rfl, rfl⟩
    go_wp2_with fail
    refine (refNew_bad w1 z HZ.out).mono ?_
    rintro e w' ⟨rfl, rfl⟩
    go_wp2_with fail
    go_ret
    exact ⟨rfl, B1.out⟩

theorem walk {W : World} (z : Int) (_ : -9223372036854775808 ≤ z) (_ : z ≤ 9223372036854775807) (A : Option Addr) (m cp : Nat) (cs : List Cl) (hl : cs.length = m) (hs : Script W W.heap.size A cs) (_ : m ≤ maxLen) :
    Calls Try.prog 3 #[.int .i64 z, .slice A m cp] W fun e W' => e = .returned (.bool true) ∧ Below W.heap.size W W' := by
  by_cases hb : z < 2 ∨ 4096 < z
  · exact walk_bad z hb A m cp cs hl hs
  · by_cases h1 : 100 < z
    · exact walk_big z h1 (by omega) A m cp cs hl hs
    · obtain ⟨n, rfl⟩ : ∃ n : Nat, z = (n : Int) := ⟨z.toNat, by omega⟩
      exact walk_small n (by omega) (by omega) A m cp cs hl hs

set_option maxRecDepth 100000 in
theorem lifted (os : Os) (started : os.Started) (H : Type) (enc : TypeId × Value → H) :
    ReturnsInHanded {} Try.checked os 3 .any (Rows.diskPlaysSpec.pre6 enc Try.prog Try.f3 Rows.diskPlaysRow.domain false)
      (Rows.diskPlaysSpec.post enc Try.prog Try.f3 false true false false) := by
  refine lift_law (C := Try.checked) (tb := 4) ownKnobs started (by kernel_rfl) Try.func3
    (ChangeSpec.witness6 (enc := enc) (C := Try.checked) false ⟨#[], #[.int .i64 0, .slice none 0 0], []⟩ 8 (by kernel_rfl) (by kernel_rfl) (by kernel_rfl) (by kernel_rfl))
    laidOut ?_ rfl rfl Try.underlying4 ?_ ?_
  · intro t ht
    rw [Try.params3] at ht
    simp only [List.mem_cons, List.not_mem_nil, or_false] at ht
    rcases ht with rfl | rfl <;> exact ⟨by kernel_rfl, of_decide_eq_true (by kernel_rfl)⟩
  · intro vs ds W p hA
    rw [Try.params3] at hA
    obtain ⟨v0, vs0, d0, ds0, p0, q0, ha, rfl, rfl, h0, r0⟩ := trodAll_cons hA
    obtain ⟨v1, vs1, d1, ds1, p1, q1, rfl, rfl, rfl, h1, r1⟩ := trodAll_cons r0
    obtain ⟨rfl, rfl, rfl⟩ := trodAll_nil r1
    rfl
  · intro W base args ds p hval hA
    rw [Try.params3] at hA hval
    obtain ⟨v0, vs0, d0, ds0, p0, q0, ha, rfl, rfl, h0, r0⟩ := trodAll_cons hA
    obtain ⟨v1, vs1, d1, ds1, p1, q1, rfl, rfl, rfl, h1, r1⟩ := trodAll_cons r0
    obtain ⟨rfl, rfl, rfl⟩ := trodAll_nil r1
    obtain rfl : args = #[v0, v1] := by cases args; simp_all
    obtain ⟨i0, rfl, lo0, hi0⟩ := open_i64 (hval 0 _ v0 rfl rfl) h0
    obtain ⟨A1, n1, c1, xs1, rfl, e1, hr1, y1⟩ := open_calls (hval 1 _ v1 rfl rfl) h1
    exact walk i0 lo0 hi0 A1 n1 c1 xs1 e1 hr1 y1

/-- The statement. -/
theorem proved : Rows.DiskPlaysSaid :=
  OpenClaim.holds_of_wide 3 Try.f3 rfl rfl rfl rfl rfl rfl rfl ⟨rfl, rfl, rfl, rfl, rfl⟩ rfl rfl rfl rfl rfl (by kernel_rfl) Try.func3 (by kernel_rfl)
    (of_decide_eq_true (by kernel_rfl)) (by unfold Func.isWrapper; first | (rw [if_pos (by decide +kernel)]; kernel_rfl) | (rw [if_neg (by decide +kernel)]; exact ⟨rfl, rfl⟩))
    (fun os started H enc _ => lifted os started H enc)
#print axioms proved
end Go.Proofs.Ytillllegbgaalaa.diskPlays
