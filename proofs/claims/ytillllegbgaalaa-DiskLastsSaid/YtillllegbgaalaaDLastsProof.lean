/-
  DiskLasts answers true, for every script, every two sectors and lists of bytes and every crash: what is flushed is there behind any crash that keeps what it likes, if its sector is not written since; and is it, or what was written since, else. Conditions: none.
-/
import Derived.Test.YtillllegbgaalaaRows
import Derived.Test.YtillllegbgaalaaDAwake
import Derived.Test.YtillllegbgaalaaDDone
import Derived.Test.YtillllegbgaalaaDList
import Derived.Test.YtillllegbgaalaaSameB
namespace Go.Proofs.Ytillllegbgaalaa.diskLasts
open Go.ChangeShapes Go.WideShapes Go.ChangeAt Go.RowKit

def t1 (s : PS) : PS := s.restarted []
def t2 (s : PS) (n : Int) (b : List UInt8) : PS := (t1 s).written n b
def t3 (s : PS) (n : Int) (b : List UInt8) : PS := (t2 s n b).flushed
def t4 (s : PS) (n : Int) (b : List UInt8) (m : Int) (c : List UInt8) : PS := (t3 s n b).written m c
def t5 (s : PS) (n : Int) (b : List UInt8) (m : Int) (c : List UInt8) (keep : List Int) : PS := (t4 s n b m c).restarted keep

section
variable {s : PS} {n m : Int} {b c : List UInt8} {keep : List Int}

theorem t1_acted (s : PS) : (t1 s).acted = t1 s := rfl

theorem t1_good (h8 : s.size = 8) (h0 : 0 ≤ n) (h7 : n ≤ 7) (hb : b.length ≤ 1024) : (t1 s).bad n b = false := by
  unfold PS.bad PS.has
  have e1 : decide (0 ≤ n ∧ n < ((t1 s).size : Int)) = true := by
    rw [decide_eq_true_iff]
    show 0 ≤ n ∧ n < (s.size : Int)
    omega
  rw [e1]
  have e2 : decide (1024 < b.length) = false := by rw [decide_eq_false_iff_not]; omega
  rw [e2]
  rfl

theorem t2_eq (h8 : s.size = 8) (h0 : 0 ≤ n) (h7 : n ≤ 7) (hb : b.length ≤ 1024) : (t1 s).writeE n b = 0 ∧ t2 s n b = (t1 s).lay n b := by
  unfold t2 PS.writeE PS.written
  rw [t1_good h8 h0 h7 hb]
  exact ⟨rfl, rfl⟩

theorem t3_eq (h8 : s.size = 8) (h0 : 0 ≤ n) (h7 : n ≤ 7) (hb : b.length ≤ 1024) : (t2 s n b).flushE = 0 ∧ t3 s n b = ((t1 s).lay n b).all := by
  unfold t3
  rw [(t2_eq h8 h0 h7 hb).2]
  exact ⟨rfl, rfl⟩

theorem t3_at (h8 : s.size = 8) (h0 : 0 ≤ n) (h7 : n ≤ 7) (hb : b.length ≤ 1024) : (t3 s n b).L n = b ∧ (t3 s n b).W = (fun _ => none) := by
  rw [(t3_eq h8 h0 h7 hb).2]
  refine ⟨?_, rfl⟩
  show ((t1 s).lay n b).held n = b
  unfold PS.held PS.lay
  simp

theorem t5_up : (t5 s n b m c keep).readE n = if (t5 s n b m c keep).has n then 0 else 41 := rfl

theorem t5_has (h8 : s.size = 8) (h0 : 0 ≤ n) (h7 : n ≤ 7) (hb : b.length ≤ 1024) : (t5 s n b m c keep).has n = true := by
  have e : (t5 s n b m c keep).size = 8 := by
    show (t4 s n b m c).size = 8
    unfold t4
    rw [PS.written_size, (t3_eq h8 h0 h7 hb).2]
    exact h8
  rw [PS.has_iff, e]
  omega

theorem t4_cases (h8 : s.size = 8) (h0 : 0 ≤ n) (h7 : n ≤ 7) (hb : b.length ≤ 1024) : t4 s n b m c = t3 s n b ∨ t4 s n b m c = (t3 s n b).lay m c := by
  unfold t4
  have e := (t3_eq h8 h0 h7 hb).2
  unfold PS.written
  have h1 : (t3 s n b).down = false := by rw [e]; rfl
  have h2 : (t3 s n b).may = true := by rw [e]; rfl
  have h3 : (t3 s n b).acted = t3 s n b := by rw [e]; rfl
  rw [h1, h2, h3]
  cases (t3 s n b).bad m c
  · exact Or.inr rfl
  · exact Or.inl rfl

theorem t5_at (h8 : s.size = 8) (h0 : 0 ≤ n) (h7 : n ≤ 7) (hb : b.length ≤ 1024) : (t5 s n b m c keep).readE n = 0 ∧ ((t5 s n b m c keep).readB n = b ∨ (m = n ∧ (t5 s n b m c keep).readB n = c)) := by
  have hh := t5_has (m := m) (c := c) (keep := keep) h8 h0 h7 hb
  refine ⟨by rw [t5_up, hh]; rfl, ?_⟩
  have e0 : (t5 s n b m c keep).readB n = (t5 s n b m c keep).L n := by
    unfold PS.readB
    rw [hh]
    rfl
  have e1 : (t5 s n b m c keep).L n = if n ∈ keep then (t4 s n b m c).held n else (t4 s n b m c).L n := rfl
  obtain ⟨k1, k2⟩ := t3_at h8 h0 h7 hb
  rw [e0, e1]
  rcases t4_cases (m := m) (c := c) h8 h0 h7 hb with e | e
  · rw [e]
    left
    unfold PS.held
    rw [k2, k1]
    split <;> rfl
  · rw [e]
    by_cases hk : n ∈ keep
    · rw [if_pos hk]
      by_cases hm : n = m
      · right
        refine ⟨hm.symm, ?_⟩
        unfold PS.held PS.lay
        simp [hm]
      · left
        unfold PS.held PS.lay
        simp [hm, k1, k2]
    · rw [if_neg hk]
      left
      exact k1

theorem t5_waits : (t5 s n b m c keep).waitsOf = [] := by
  unfold PS.waitsOf
  rw [List.filterMap_eq_nil_iff]
  intro k _
  rfl
end

set_option maxRecDepth 20000 in
set_option maxHeartbeats 6400000 in
theorem walk {W : World} (A : Option Addr) (q cp : Nat) (cs : List Cl) (hl : cs.length = q) (hs : Script W W.heap.size A cs) (_ : q ≤ maxLen)
    (n : Int) (lo : -9223372036854775808 ≤ n) (hi : n ≤ 9223372036854775807) (B : Option Addr) (bn bc : Nat) (b : List UInt8) (hbl : b.length = bn) (hb : Bys W W.heap.size B b) (_ : bn ≤ bc) (_ : bc ≤ maxLen) (hbz : B = none → bn = 0 ∧ bc = 0)
    (m : Int) (lo' : -9223372036854775808 ≤ m) (hi' : m ≤ 9223372036854775807) (C : Option Addr) (cn cc : Nat) (c : List UInt8) (hcl : c.length = cn) (hc : Bys W W.heap.size C c) (_ : cn ≤ cc) (_ : cc ≤ maxLen) (hcz : C = none → cn = 0 ∧ cc = 0)
    (K : Option Addr) (kn kc : Nat) (keep : List Int) (hkl : keep.length = kn) (hk : Nums W W.heap.size K keep) (_ : kn ≤ maxLen) :
    Calls Try.prog 4 #[.slice A q cp, .int .i64 n, .slice B bn bc, .int .i64 m, .slice C cn cc, .slice K kn kc] W fun e W' => e = .returned (.bool true) ∧ Below W.heap.size W W' := by
  have HL := Lib.hid hl
  have HS := Lib.hid hs
  have HBL := Lib.hid hbl
  have HB := Lib.hid hb
  have HBZ := Lib.hid hbz
  have HCL := Lib.hid hcl
  have HC := Lib.hid hc
  have HCZ := Lib.hid hcz
  have HKL := Lib.hid hkl
  have HK := Lib.hid hk
  clear hl hs hbl hb hbz hcl hc hcz hkl hk
  go_enter Try.func4, Try.ntmps4
  go_wp2_with fail
  refine (awake_any _).mono ?_
  rintro e w1 ⟨rfl, b1⟩
  have B1 := Lib.hid b1
  clear b1
  go_wp2_with fail
  refine (new_live (W := W) w1 8 (by omega) (by omega) B1.out).mono ?_
  rintro e w2 ⟨db, F2, rfl, hv2, -, -⟩
  have HV2 : Hid (DoneRel W db 8 w2) := ⟨F2, _, hv2, rfl⟩
  have HB2 := Lib.hid hv2.below
  clear hv2 B1
  by_cases g1 : bn ≤ 1024
  · by_cases g2 : cn ≤ 1024
    · by_cases g3 : kn ≤ 60
      · by_cases g4 : 0 ≤ n
        · by_cases g5 : n ≤ 7
          · go_wp2_with fail
            refine (done_any (W := W) w2 db 8 A q cp cs HL.out HS.out HV2.out).mono ?_
            rintro e w3 ⟨rfl, F3, s, hv3, hs3⟩
            have HV3 := Lib.hid hv3
            have HS3 := Lib.hid hs3
            clear hv3 hs3 HV2 HB2
            go_wp2_with fail
            refine (restart_live (W := W) w3 none 0 0 [] rfl (by omega) (Or.inl rfl) HV3.out).mono ?_
            rintro e w4 ⟨rfl, F4, hv4, -⟩
            have HV4 : Hid (Live W F4 w4 db (t1 s)) := hv4
            clear hv4 HV3
            have hb1024 : b.length ≤ 1024 := by rw [HBL.out]; exact g1
            obtain ⟨p1, -⟩ := t2_eq HS3.out g4 g5 hb1024
            obtain ⟨p2, -⟩ := t3_eq HS3.out g4 g5 hb1024
            obtain ⟨p3, p4⟩ := t5_at (m := m) (c := c) (keep := keep) HS3.out g4 g5 hb1024
            have P1 := Lib.hid p1
            have P2 := Lib.hid p2
            have P3 := Lib.hid p3
            have P4 := Lib.hid p4
            clear p1 p2 p3 p4 hb1024
            go_wp2_with fail
            refine (write_live (W := W) w4 n lo hi B bn bc b HBL.out (Out.of_bys (HB.out.below HV4.out.below) HV4.out.base) HBZ.out HV4.out).mono ?_
            rintro e w5 ⟨rfl, F5, hv5, -⟩
            have HV5 : Hid (Live W F5 w5 db (t2 s n b)) := hv5
            rw [P1.out]
            clear hv5 HV4
            go_wp2_with fail
            refine (flush_live (W := W) w5 HV5.out).mono ?_
            rintro e w6 ⟨rfl, F6, hv6, -⟩
            have HV6 : Hid (Live W F6 w6 db (t3 s n b)) := hv6
            rw [P2.out]
            clear hv6 HV5
            go_wp2_with fail
            refine (write_live (W := W) w6 m lo' hi' C cn cc c HCL.out (Out.of_bys (HC.out.below HV6.out.below) HV6.out.base) HCZ.out HV6.out).mono ?_
            rintro e w7 ⟨rfl, F7, hv7, -⟩
            have HV7 : Hid (Live W F7 w7 db (t4 s n b m c)) := hv7
            clear hv7 HV6
            go_wp2_with fail
            refine (restart_live (W := W) w7 K kn kc keep HKL.out (by omega) ((HK.out.below HV7.out.below).outN HV7.out.base) HV7.out).mono ?_
            rintro e w8 ⟨rfl, F8, hv8, -⟩
            have HV8 : Hid (Live W F8 w8 db (t5 s n b m c keep)) := hv8
            clear hv8 HV7
            go_wp2_with fail
            refine (read_live (W := W) w8 n lo hi HV8.out).mono ?_
            rintro e w9 ⟨A9, c9, rfl, ho9, hv9, -⟩
            have HV9 := Lib.hid hv9
            have HO9 := Lib.hid ho9
            have HWT : Hid ((t5 s n b m c keep).waitsOf = []) := t5_waits
            rw [P3.out]
            clear ho9 hv9 HV8
            have p4 := P4.out
            generalize (t5 s n b m c keep).readB n = x at *
            have HSB := Lib.hid (sameB_any HO9.out.bys (HB.out.below HV9.out.below) x.length c9 bn bc rfl HBL.out)
            have HSC := Lib.hid (sameB_any HO9.out.bys (HC.out.below HV9.out.below) x.length c9 cn cc rfl HCL.out)
            go_wp2_with fail
            refine HSB.out.mono ?_
            rintro e w' ⟨rfl, rfl⟩
            go_wp2_with fail
            refine HSC.out.mono ?_
            rintro e w' ⟨rfl, rfl⟩
            have HWC := Lib.hid (waits_live (W := W) w9 HV9.out)
            clear HSB HSC HO9
            by_cases hx : x = b
            · have e1 : (x == b) = true := by rw [hx]; simp
              rw [e1]
              clear hx e1 p4 P4
              go_wp2_with fail
              refine HWC.out.mono ?_
              rintro e w10 ⟨A10, c10, rfl, -, -, hv10, -⟩
              rw [HWT.out]
              have HB10 := Lib.hid hv10.below
              clear hv10 HWC
              go_wp2_with fail
              go_ret
              exact ⟨rfl, HB10.out⟩
            · have e1 : (x == b) = false := by rw [beq_eq_false_iff_ne]; exact hx
              obtain ⟨h1, h2⟩ := p4.resolve_left hx
              have e2 : (x == c) = true := by rw [h2]; simp
              have e3 : (m == n) = true := by rw [h1]; simp
              rw [e1, e2]
              clear hx e1 e2 h1 h2 p4 P4
              go_wp2_with fail
              refine HWC.out.mono ?_
              rintro e w10 ⟨A10, c10, rfl, -, -, hv10, -⟩
              rw [HWT.out]
              have HB10 := Lib.hid hv10.below
              clear hv10 HWC
              go_wp2_with fail
              go_ret
              exact ⟨rfl, HB10.out⟩
          · go_wp2_with fail
            go_ret
            exact ⟨rfl, HB2.out⟩
        · go_wp2_with fail
          go_ret
          exact ⟨rfl, HB2.out⟩
      · go_wp2_with fail
        go_ret
        exact ⟨rfl, HB2.out⟩
    · go_wp2_with fail
      go_ret
      exact ⟨rfl, HB2.out⟩
  · go_wp2_with fail
    go_ret
    exact ⟨rfl, HB2.out⟩

set_option maxRecDepth 100000 in
theorem lifted (os : Os) (started : os.Started) (H : Type) (enc : TypeId × Value → H) :
    ReturnsInHanded {} Try.checked os 4 .any (Rows.diskLastsSpec.pre6 enc Try.prog Try.f4 Rows.diskLastsRow.domain false)
      (Rows.diskLastsSpec.post enc Try.prog Try.f4 false true false false) := by
  refine lift_law (C := Try.checked) (tb := 4) ownKnobs started (by kernel_rfl) Try.func4
    (ChangeSpec.witness6 (enc := enc) (C := Try.checked) false ⟨#[], #[.slice none 0 0, .int .i64 0, .slice none 0 0, .int .i64 0, .slice none 0 0, .slice none 0 0], []⟩ 8 (by kernel_rfl) (by kernel_rfl) (by kernel_rfl) (by kernel_rfl))
    laidOut ?_ rfl rfl Try.underlying4 ?_ ?_
  · intro t ht
    rw [Try.params4] at ht
    simp only [List.mem_cons, List.not_mem_nil, or_false] at ht
    rcases ht with rfl | rfl | rfl | rfl | rfl | rfl <;> exact ⟨by kernel_rfl, of_decide_eq_true (by kernel_rfl)⟩
  · intro vs ds W p hA
    rw [Try.params4] at hA
    obtain ⟨v0, vs0, d0, ds0, p0, q0, ha, rfl, rfl, h0, r0⟩ := trodAll_cons hA
    obtain ⟨v1, vs1, d1, ds1, p1, q1, rfl, rfl, rfl, h1, r1⟩ := trodAll_cons r0
    obtain ⟨v2, vs2, d2, ds2, p2, q2, rfl, rfl, rfl, h2, r2⟩ := trodAll_cons r1
    obtain ⟨v3, vs3, d3, ds3, p3, q3, rfl, rfl, rfl, h3, r3⟩ := trodAll_cons r2
    obtain ⟨v4, vs4, d4, ds4, p4, q4, rfl, rfl, rfl, h4, r4⟩ := trodAll_cons r3
    obtain ⟨v5, vs5, d5, ds5, p5, q5, rfl, rfl, rfl, h5, r5⟩ := trodAll_cons r4
    obtain ⟨rfl, rfl, rfl⟩ := trodAll_nil r5
    rfl
  · intro W base args ds p hval hA
    rw [Try.params4] at hA hval
    obtain ⟨v0, vs0, d0, ds0, p0, q0, ha, rfl, rfl, h0, r0⟩ := trodAll_cons hA
    obtain ⟨v1, vs1, d1, ds1, p1, q1, rfl, rfl, rfl, h1, r1⟩ := trodAll_cons r0
    obtain ⟨v2, vs2, d2, ds2, p2, q2, rfl, rfl, rfl, h2, r2⟩ := trodAll_cons r1
    obtain ⟨v3, vs3, d3, ds3, p3, q3, rfl, rfl, rfl, h3, r3⟩ := trodAll_cons r2
    obtain ⟨v4, vs4, d4, ds4, p4, q4, rfl, rfl, rfl, h4, r4⟩ := trodAll_cons r3
    obtain ⟨v5, vs5, d5, ds5, p5, q5, rfl, rfl, rfl, h5, r5⟩ := trodAll_cons r4
    obtain ⟨rfl, rfl, rfl⟩ := trodAll_nil r5
    obtain rfl : args = #[v0, v1, v2, v3, v4, v5] := by cases args; simp_all
    obtain ⟨A0, n0, c0, xs0, rfl, e0, hr0, y0⟩ := open_calls (hval 0 _ v0 rfl rfl) h0
    obtain ⟨i1, rfl, lo1, hi1⟩ := open_i64 (hval 1 _ v1 rfl rfl) h1
    obtain ⟨A2, n2, c2, xs2, rfl, e2, hr2, y2, z2, o2⟩ := open_bytesz (hval 2 _ v2 rfl rfl) h2
    obtain ⟨i3, rfl, lo3, hi3⟩ := open_i64 (hval 3 _ v3 rfl rfl) h3
    obtain ⟨A4, n4, c4, xs4, rfl, e4, hr4, y4, z4, o4⟩ := open_bytesz (hval 4 _ v4 rfl rfl) h4
    obtain ⟨A5, n5, c5, xs5, rfl, e5, hr5, y5⟩ := open_numsR (hval 5 _ v5 rfl rfl) h5
    exact walk A0 n0 c0 xs0 e0 hr0 y0 i1 lo1 hi1 A2 n2 c2 xs2 e2 hr2 y2 z2 o2 i3 lo3 hi3 A4 n4 c4 xs4 e4 hr4 y4 z4 o4 A5 n5 c5 xs5 e5 hr5 y5

/-- The statement. -/
theorem proved : Rows.DiskLastsSaid :=
  OpenClaim.holds_of_wide 4 Try.f4 rfl rfl rfl rfl rfl rfl rfl ⟨rfl, rfl, rfl, rfl, rfl⟩ rfl rfl rfl rfl rfl (by kernel_rfl) Try.func4 (by kernel_rfl)
    (of_decide_eq_true (by kernel_rfl)) (by unfold Func.isWrapper; first | (rw [if_pos (by decide +kernel)]; kernel_rfl) | (rw [if_neg (by decide +kernel)]; exact ⟨rfl, rfl⟩))
    (fun os started H enc _ => lifted os started H enc)
#print axioms proved
end Go.Proofs.Ytillllegbgaalaa.diskLasts
