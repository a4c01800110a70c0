/-
  PoolFrames answers true, for all numbers of frames and every script: how many frames there are is not seen by what is got. Conditions: none.
-/
import Derived.Test.YtgkdlbcpckdmkaaRows
import Derived.Test.YtgkdlbcpckdmkaaZF2
import Derived.Test.YtgkdlbcpckdmkaaZF3
import Derived.Deep.RegionHeld3
import Derived.Deep.QuietTactic
import Derived.BigQuiet
namespace Go.Proofs.Ytgkdlbcpckdmkaa.poolFrames
open Go.ChangeShapes Go.WideShapes Go.ChangeAt Go.RowKit

/-- Two pools apart, of which the same is got. -/
structure Two (W : World) (pa da ma pb db mb : Nat) (F G : Nat → Prop) (s t : PP) (f : Int → List UInt8) (w : World) : Prop where
  a : PLive W F w pa da s
  b : PLive W G w pb db t
  fa : Free s f ma 8
  fb : Free t f mb 8
  off : ∀ k, F k → ¬ G k

def TRel (W : World) (pa da ma pb db mb : Nat) (w : World) : Prop := ∃ F G s t f, Two W pa da ma pb db mb F G s t f w

section
variable {W w w' : World} {pa da ma pb db mb : Nat} {F G F' G' : Nat → Prop} {s t s' t' : PP} {f f' : Int → List UInt8}

/-- The one has gone on; the other one stays. -/
theorem apart_step (hb : PLive W G w pb db t) (ha : PLive W F' w' pa da s') (hm : Moves w F w' F') (off : ∀ k, F k → ¬ G k) : PLive W G w' pb db t ∧ ∀ k, F' k → ¬ G k := by
  refine ⟨hb.other hm (fun k hG hF => off k hF hG) ha.below, fun k hF hG => ?_⟩
  rcases hm.news k hF with e | e
  · exact off k e hG
  · have := hb.lt k hG
    omega

theorem Two.next (h : Two W pa da ma pb db mb F G s t f w) (hb : Below w.heap.size w w') : Two W pa da ma pb db mb F G s t f w' := { h with
  a := h.a.next hb
  b := h.b.next hb }

/-- A call's nine cells lie at block q, outside of both pools. -/
structure CAt (w : World) (F G : Nat → Prop) (q : Nat) (c : PCl) : Prop where
  blk : w.heap[q]? = some (.cells c.vals.toArray 48 (0, 0))
  oa : ¬ F q
  ob : ¬ G q
theorem CAt.lt {q : Nat} {c : PCl} (h : CAt w F G q c) : q < w.heap.size := (Array.getElem?_eq_some_iff.1 h.blk).1
theorem CAt.cell {q : Nat} {c : PCl} (h : CAt w F G q c) (j : Nat) {v : Value} (e : c.vals[j]? = some v) : w.cell? ⟨q, j, none⟩ = some v := (cell_of_row w q j _ _ _ h.blk).trans (by rw [List.getElem?_toArray]; exact e)
theorem CAt.movesA {q : Nat} {c : PCl} (h : CAt w F G q c) (m : Moves w F w' F') : CAt w' F' G q c := by
  obtain ⟨h1, h2⟩ := m.block h.lt h.oa
  exact ⟨h1.trans h.blk, h2, h.ob⟩
theorem CAt.movesB {q : Nat} {c : PCl} (h : CAt w F G q c) (m : Moves w G w' G') : CAt w' F G' q c := by
  obtain ⟨h1, h2⟩ := m.block h.lt h.ob
  exact ⟨h1.trans h.blk, h.oa, h2⟩
theorem CAt.below {q : Nat} {c : PCl} (h : CAt w F G q c) (hb : Below w.heap.size w w') : CAt w' F G q c := ⟨(hb.block q h.lt).trans h.blk, h.oa, h.ob⟩
/-- What is got of both. -/
theorem two_get (fa : Free s f ma 8) (fb : Free t f mb 8) (n : Int) : ∃ e l s' t', s.get n = (e, l, s') ∧ t.get n = (e, l, t') ∧ Free s' f ma 8 ∧ Free t' f mb 8 := by
  by_cases h : 0 ≤ n ∧ n < 8
  · obtain ⟨a1, a2, a3⟩ := fa.get (n := n) h.1 h.2
    obtain ⟨b1, b2, b3⟩ := fb.get (n := n) h.1 h.2
    exact ⟨0, f n, _, _, by rw [← a1, ← a2], by rw [← b1, ← b2], a3, b3⟩
  · have no : ∀ k : PS, k.size = 8 → k.has n = false := fun k hk => by
      cases hh : k.has n with
      | false => rfl
      | true =>
        have := (k.has_at n).1 hh
        rw [hk] at this
        exact absurd this h
    exact ⟨41, [], s, t, fa.holds.getBad (no _ fa.size), fb.holds.getBad (no _ fb.size), fa, fb⟩
/-- What is put into both. -/
theorem two_put (fa : Free s f ma 8) (fb : Free t f mb 8) (n : Int) (l : List UInt8) : ∃ e s' t' f', s.put n l = (e, s') ∧ t.put n l = (e, t') ∧ Free s' f' ma 8 ∧ Free t' f' mb 8 := by
  by_cases h : (0 ≤ n ∧ n < 8) ∧ l.length ≤ 1024
  · obtain ⟨a1, a3⟩ := fa.put (n := n) h.1.1 h.1.2 h.2
    obtain ⟨b1, b3⟩ := fb.put (n := n) h.1.1 h.1.2 h.2
    exact ⟨0, _, _, _, by rw [← a1], by rw [← b1], a3, b3⟩
  · have no : ∀ k : PS, k.size = 8 → k.bad n l = true := fun k hk => by
      unfold PS.bad
      cases hh : k.has n with
      | false => rfl
      | true =>
        have := (k.has_at n).1 hh
        rw [hk] at this
        have h2 : 1024 < l.length := by
          rcases Nat.lt_or_ge 1024 l.length with e | e
          · exact e
          · exact absurd ⟨this, e⟩ h
        simp [h2]
    exact ⟨41, s, t, f, PP.put_bad (no _ fa.size), PP.put_bad (no _ fb.size), fa, fb⟩
/-- Behind a flush of both the same lasts. -/
theorem two_lasts {sa ta : PP} (fa : Free sa f ma 8) (fb : Free ta f mb 8) (ha : PP.FlushedA s f sa) (hb : PP.FlushedA t f ta) (za : s.k.size = 8) (zb : t.k.size = 8) : sa.k.lastsOf = ta.k.lastsOf := by
  unfold PS.lastsOf
  rw [fa.size, fb.size]
  congr 1
  refine List.map_congr_left (fun k hk => ?_)
  have hk8 := List.mem_range.1 hk
  rw [ha.lasts (k : Int) ((s.k.has_at _).2 (by rw [za]; omega)), hb.lasts (k : Int) ((t.k.has_at _).2 (by rw [zb]; omega))]
theorem lasts_le (k : PS) : k.lastsOf.length ≤ k.size := by
  unfold PS.lastsOf
  refine Nat.le_trans (List.length_filter_le _ _) ?_
  simp
end

set_option maxRecDepth 20000 in
set_option maxHeartbeats 12800000 in
theorem walkIn {W : World} (ma mb : Nat) (a1 : 1 ≤ ma) (a2 : ma ≤ 10) (b1 : 1 ≤ mb) (b2 : mb ≤ 10) (A : Option Addr) (n cp : Nat) (cs : List PCl) (hl : cs.length = n) (hs : PScript W W.heap.size A cs) (_ : n ≤ maxLen) :
    Calls Try.prog 5 #[.int .i64 ma, .int .i64 mb, .slice A n cp] W fun e W' => e = .returned (.bool true) ∧ Below W.heap.size W W' := by
  have HL := Lib.hid hl
  have HS := Lib.hid hs
  clear hl hs
  go_enter Try.func5, Try.ntmps5
  go_wp2_with fail
  refine (awake_any _).mono ?_
  rintro e w1 ⟨rfl, b1'⟩
  have B1 := Lib.hid b1'
  clear b1'
  go_wp2_with fail
  refine (new_live (W := W) w1 8 (by omega) (by omega) B1.out).mono ?_
  rintro e w2 ⟨da, D2, rfl, hv2, -, -⟩
  have HV2 := Lib.hid hv2
  clear hv2 B1
  go_wp2_with fail
  refine (new_live (W := W) w2 8 (by omega) (by omega) HV2.out.below).mono ?_
  rintro e w3 ⟨db, E3, rfl, hv3, hb3, hE3⟩
  have HV3 := Lib.hid hv3
  have HD3 := Lib.hid (HV2.out.next hb3)
  have HO3 : Hid (∀ k, D2 k → ¬ E3 k) := Lib.hid (fun k hD hE => by
    have h1 := HV2.out.dk.lt k hD
    have h2 := hE3 k hE
    omega)
  clear hv3 hb3 hE3 HV2
  go_wp2_with fail
  refine (pnew_live (W := W) w3 ma a1 (by omega) HD3.out).mono ?_
  rintro e w4 ⟨pa, F4, rfl, hv4, hm4, hb4⟩
  have HA4 := Lib.hid hv4
  have HD4 := Lib.hid (HV3.out.next hb4)
  have HO4 : Hid (∀ k, F4 k → ¬ E3 k) := Lib.hid (fun k hF hE => by
    have h1 := HV3.out.dk.lt k hE
    rcases hm4.news k hF with e | e
    · exact HO3.out k e hE
    · omega)
  clear hv4 hm4 hb4 HV3 HD3 HO3
  go_wp2_with fail
  refine (pnew_live (W := W) w4 mb b1 (by omega) HD4.out).mono ?_
  rintro e w5 ⟨pb, G5, rfl, hv5, hm5, hb5⟩
  have HR : Hid (TRel W pa da ma pb db mb w5) := Lib.hid ⟨F4, G5, _, _, _, HA4.out.next hb5, hv5, free_new (new_well 8) (new_ok 8) a1 rfl, free_new (new_well 8) (new_ok 8) b1 rfl, fun k hF hG => by
    have h1 := HA4.out.lt k hF
    rcases hm5.news k hG with e | e
    · exact HO4.out k hF e
    · omega⟩
  clear hv5 hm5 hb5 HA4 HD4 HO4
  go_wp2_with fail
  go_loopg [16] n (fun g i wr => ∃ j : Nat, g = n - j ∧ j ≤ n ∧ i = .int .i64 j ∧ TRel W pa da ma pb db mb wr)
  case atStart => exact ⟨0, rfl, Nat.zero_le _, rfl, HR.out⟩
  case round =>
    obtain ⟨j, rfl, hj, rfl, hr⟩ := hrel
    have HRR := Lib.hid hr
    clear hr HR
    by_cases hgo : j < n ∧ j < 60
    · obtain ⟨g1, g2⟩ := hgo
      obtain ⟨F, G, s, t, f, htw⟩ := HRR.out
      have HT := Lib.hid htw
      obtain ⟨b, off, c, rfl, hbl, -, hca, hcW⟩ := HS.out.at_ (k := j) (by rw [HL.out]; exact g1)
      have hb0 := htw.a.below
      have cell : ∀ k, k < 9 → wr.cell? ⟨b, off + j * 9 + k, none⟩ = c.vals[k]? := fun k hk => (hb0.cell (p := ⟨b, off + j * 9 + k, none⟩) hbl).trans (hcW k hk)
      have c0 : wr.cell? ⟨b, off + j * 9, none⟩ = some (.int .i64 c.kind) := cell 0 (by omega)
      have c1 : wr.cell? ⟨b, off + j * 9 + 1, none⟩ = some (.int .i64 c.n) := cell 1 (by omega)
      have c2 : wr.cell? ⟨b, off + j * 9 + 2, none⟩ = some (.slice c.bA c.bn c.bc) := cell 2 (by omega)
      have c3 : wr.cell? ⟨b, off + j * 9 + 3, none⟩ = some (.int .i64 c.d.kind) := cell 3 (by omega)
      have c4 : wr.cell? ⟨b, off + j * 9 + 4, none⟩ = some (.int .i64 c.d.n) := cell 4 (by omega)
      have c5 : wr.cell? ⟨b, off + j * 9 + 5, none⟩ = some (.slice c.d.bA c.d.bn c.d.bc) := cell 5 (by omega)
      have c6 : wr.cell? ⟨b, off + j * 9 + 6, none⟩ = some (.slice c.d.kA c.d.kn c.d.kc) := cell 6 (by omega)
      have c7 : wr.cell? ⟨b, off + j * 9 + 7, none⟩ = some (.int .i64 c.d.at_) := cell 7 (by omega)
      have c8 : wr.cell? ⟨b, off + j * 9 + 8, none⟩ = some (.int .u8 c.d.by_.toNat) := cell 8 (by omega)
      have HCA := Lib.hid hca
      clear htw hbl hca hcW hb0 cell HRR
      go_wp2_with fail
      refine (small7_any c _).mono ?_
      rintro e w6 ⟨rfl, b6⟩
      have HB6 : Hid (Below wr.heap.size wr w6) := (below_one wr _).trans (b6.mono (by simp))
      have HC6 : Hid (CAt w6 F G wr.heap.size c) := Lib.hid ⟨(b6.block wr.heap.size (by simp)).trans (heap_alloc_new wr _), fun h => by have := HT.out.a.lt _ h; omega, fun h => by have := HT.out.b.lt _ h; omega⟩
      have HT6 := Lib.hid (HT.out.next HB6.out)
      clear b6 c0 c1 c2 c3 c4 c5 c6 c7 c8 HB6 HT
      generalize wr.heap.size = q at *
      cases hsm : c.small with
      | false =>
        clear hsm
        go_wp2_with fail
        go_roundg (n - (j + 1))
        case measure => omega
        case rel => exact ⟨j + 1, rfl, by omega, by go_num, _, _, _, _, _, HT6.out⟩
      | true =>
        have HBN : Hid (c.bn ≤ 1100) := Lib.hid (by
          unfold PCl.small at hsm
          simp at hsm
          exact hsm.2)
        clear hsm
        by_cases k1 : c.kind = 1
        · have KK := Lib.hid k1
          have d0 : w6.cell? ⟨q, 0, none⟩ = some (.int .i64 1) := by rw [← k1]; exact HC6.out.cell 0 rfl
          have d1 : w6.cell? ⟨q, 1, none⟩ = some (.int .i64 c.n) := HC6.out.cell 1 rfl
          obtain ⟨er, l, s1, t1, eg, eh, fa1, fb1⟩ := two_get HT6.out.fa HT6.out.fb c.n
          have HG := Lib.hid (get_live (W := W) w6 c.n HCA.out.n.1 HCA.out.n.2 HT6.out.a)
          rw [eg] at HG
          have HEH := Lib.hid eh
          have HFA := Lib.hid fa1
          have HFB := Lib.hid fb1
          clear k1 eg eh fa1 fb1
          go_wp2_with fail
          refine HG.out.mono ?_
          rintro e w7 ⟨A7, c7, F7, rfl, -, ho7, hv7, hm7, -⟩
          have HX7 : Hid (Out w7 G A7 l) := own_outD ho7 (fun r hr hG => by
            have h1 := (ho7.lt r hr).1
            have h2 := HT6.out.b.lt r hG
            omega)
          have HA7 := Lib.hid hv7
          obtain ⟨hb7, hoff7⟩ := apart_step HT6.out.b hv7 hm7 HT6.out.off
          have HC7 := Lib.hid (HC6.out.movesA hm7)
          have HOF7 := Lib.hid hoff7
          have HG2 := Lib.hid (get_live (W := W) w7 c.n HCA.out.n.1 HCA.out.n.2 hb7)
          rw [HEH.out] at HG2
          have e0 : w7.cell? ⟨q, 0, none⟩ = some (.int .i64 c.kind) := HC7.out.cell 0 rfl
          have e1 : w7.cell? ⟨q, 1, none⟩ = some (.int .i64 c.n) := HC7.out.cell 1 rfl
          clear hv7 hm7 ho7 hb7 hoff7 HG HT6 HC6 d0 d1
          go_wp2_with fail
          refine HG2.out.mono ?_
          rintro e w8 ⟨A8, c8, G8, rfl, hx8, -, hv8, hm8, -⟩
          obtain ⟨ha8, hoff8⟩ := apart_step HA7.out hv8 hm8 (fun k hG hF => HOF7.out k hF hG)
          have HT8 : Hid (Two W pa da ma pb db mb F7 G8 s1 t1 f w8) := ⟨ha8, hv8, HFA.out, HFB.out, fun k hF hG => hoff8 k hG hF⟩
          have hx7 := hm8.out HX7.out
          have hcv1 := run_text (P := Try.prog) (w := w8) (R := w8.heap.size) hx7.bys 33 9 5 l.length c7 rfl Try.underlying33 Try.underlying5 Try.underlying9
          have hcv2 := run_text (P := Try.prog) (w := w8) (R := w8.heap.size) hx8.bys 33 9 5 l.length c8 rfl Try.underlying33 Try.underlying5 Try.underlying9
          have e0 : w8.cell? ⟨q, 0, none⟩ = some (.int .i64 c.kind) := (HC7.out.movesB hm8).cell 0 rfl
          rw [KK.out] at e0
          clear hx7 hx8 hv8 hm8 ha8 hoff8 HA7 HX7 HOF7 HG2 HC7
          go_wp2_with fail
          go_quiet (fail)
          clear hcv1 hcv2
          go_wp2_with fail
          go_roundg (n - (j + 1))
          case measure => omega
          case rel => exact ⟨j + 1, rfl, by omega, by go_num, _, _, _, _, _, HT8.out.next (belowN (Below.refl _ _) _)⟩
        · by_cases k2 : c.kind = 2
          · have b1 : (c.kind == 1) = false := by rw [beq_eq_false_iff_ne]; exact k1
            have d0' : w6.cell? ⟨q, 0, none⟩ = some (.int .i64 c.kind) := HC6.out.cell 0 rfl
            have d0 : w6.cell? ⟨q, 0, none⟩ = some (.int .i64 2) := by rw [← k2]; exact d0'
            have d1 : w6.cell? ⟨q, 1, none⟩ = some (.int .i64 c.n) := HC6.out.cell 1 rfl
            have d2 : w6.cell? ⟨q, 2, none⟩ = some (.slice c.bA c.bn c.bc) := HC6.out.cell 2 rfl
            obtain ⟨er, s1, t1, f1, eg, eh, fa1, fb1⟩ := two_put HT6.out.fa HT6.out.fb c.n c.b
            have HTD := Lib.hid (HT6.out.next (Below.refl _ _).drew)
            have hbys := HCA.out.bb
            have HG := Lib.hid (put_live (W := W) w6.drew c.n HCA.out.n.1 HCA.out.n.2 c.bA c.bn c.bc c.b HCA.out.bl (Out.of_bys (hbys.below HTD.out.a.below) HTD.out.a.base) HCA.out.bz HTD.out.a)
            rw [eg] at HG
            have HEH := Lib.hid eh
            have HFA := Lib.hid fa1
            have HFB := Lib.hid fb1
            have HC7 := Lib.hid (HC6.out.below (Below.refl _ _).drew)
            have KK := Lib.hid k2
            clear k1 k2 eg eh fa1 fb1 HT6 HC6 d0' hbys
            go_wp2_with fail
            have K0 : w6.drew.cell? ⟨q, 0, none⟩ = some (.int .i64 2) ∧ w6.drew.cell? ⟨q, 1, none⟩ = some (.int .i64 c.n) ∧ w6.drew.cell? ⟨q, 2, none⟩ = some (.slice c.bA c.bn c.bc) := ⟨d0, d1, d2⟩
            go_region_held3 (fun w' => w'.cell? ⟨q, 0, none⟩ = some (.int .i64 2) ∧ w'.cell? ⟨q, 1, none⟩ = some (.int .i64 c.n) ∧ w'.cell? ⟨q, 2, none⟩ = some (.slice c.bA c.bn c.bc))
              (first | exact K2 | exact K1 | exact K0)
              (first
                | (go_at_call 10; refine (put_live (W := W) w7 c.n HCA.out.n.1 HCA.out.n.2 c.bA c.bn c.bc c.b HCA.out.bl (Out.of_bys (HCA.out.bb.below hb7.below) hb7.base) HCA.out.bz hb7).mono ?_; rw [HEH.out]; rintro e w8 ⟨rfl, G8, hv8, hm8⟩; have hc8 := hc7.movesB hm8; have K2 := And.intro ((hc8.cell 0 rfl).trans (by rw [KK.out])) (And.intro (hc8.cell 1 rfl) (hc8.cell 2 rfl)); obtain ⟨ha8, hoff8⟩ := apart_step hv7 hv8 hm8 (fun k hG hF => hoff7 k hF hG))
                | (go_at_call 10; refine HG.out.mono ?_; rintro e w7 ⟨rfl, F7, hv7, hm7⟩; have hc7 := HC7.out.movesA hm7; have K1 := And.intro ((hc7.cell 0 rfl).trans (by rw [KK.out])) (And.intro (hc7.cell 1 rfl) (hc7.cell 2 rfl)); obtain ⟨hb7, hoff7⟩ := apart_step HTD.out.b hv7 hm7 HTD.out.off))
            have HT8 : Hid (Two W pa da ma pb db mb F7 G8 s1 t1 f1 w8) := ⟨ha8, hv8, HFA.out, HFB.out, fun k hF hG => hoff8 k hG hF⟩
            have e0 : w8.cell? ⟨q, 0, none⟩ = some (.int .i64 2) := K2.1
            clear K0 K1 K2 hc7 hc8 hv7 hm7 hb7 hoff7 hv8 hm8 ha8 hoff8 d0 d1 d2 HG HTD HC7
            go_wp2_with fail
            go_roundg (n - (j + 1))
            case measure => omega
            case rel => exact ⟨j + 1, rfl, by omega, by go_num, _, _, _, _, _, HT8.out⟩
          · by_cases k5 : c.kind = 5
            · have b1 : (c.kind == 1) = false := by rw [beq_eq_false_iff_ne]; exact k1
              have b2 : (c.kind == 2) = false := by rw [beq_eq_false_iff_ne]; exact k2
              have d0 : w6.cell? ⟨q, 0, none⟩ = some (.int .i64 5) := by rw [← k5]; exact HC6.out.cell 0 rfl
              have HTM : Hid (∀ m, Two W pa da ma pb db mb F G s t f (w6.drewN m)) := fun m => HT6.out.next (belowN (Below.refl _ _) m)
              clear k1 k2 k5
              go_wp2_with fail
              go_quiet (fail)
              have HTD := Lib.hid (HTM.out nq)
              have e0 : (w6.drewN nq).cell? ⟨q, 0, none⟩ = some (.int .i64 5) := d0
              clear d0
              generalize w6.drewN nq = w6' at *
              have HPF := Lib.hid (pflush_live (W := W) w6' (by rw [HT6.out.fa.m_]; omega) HTD.out.a)
              go_wp2_with fail
              refine HPF.out.mono ?_
              rintro e w7 ⟨js7, hj7, rfl, F7, hv7, hm7⟩
              obtain ⟨r1, r2, r3⟩ := HTD.out.fa.flush HTD.out.a.fit hj7
              rw [r1]
              obtain ⟨hb7, hoff7⟩ := apart_step HTD.out.b hv7 hm7 HTD.out.off
              generalize (s.flushA js7).2 = s7 at *
              have HA7 := Lib.hid hv7
              have HB7 := Lib.hid hb7
              have HO7 := Lib.hid hoff7
              have HR2 := Lib.hid r2
              clear hv7 hm7 hj7 r1 r2 r3 hb7 hoff7 HPF
              go_wp2_with fail
              refine (pflush_live (W := W) w7 (by rw [HTD.out.fb.m_]; omega) HB7.out).mono ?_
              rintro e w8 ⟨js8, hj8, rfl, G8, hv8, hm8⟩
              obtain ⟨q1, q2, q3⟩ := HTD.out.fb.flush HB7.out.fit hj8
              rw [q1]
              obtain ⟨ha8, hoff8⟩ := apart_step HA7.out hv8 hm8 (fun k hG hF => HO7.out k hF hG)
              have HT8 : Hid (TRel W pa da ma pb db mb w8) := ⟨_, _, _, _, _, ha8, hv8, HR2.out, q2, fun k hF hG => hoff8 k hG hF⟩
              clear hv8 hm8 hj8 q1 q2 q3 ha8 hoff8 HTD HA7 HB7 HO7 HR2
              go_wp2_with fail
              go_roundg (n - (j + 1))
              case measure => omega
              case rel => exact ⟨j + 1, rfl, by omega, by go_num, HT8.out⟩
            · have b1 : (c.kind == 1) = false := by rw [beq_eq_false_iff_ne]; exact k1
              have b2 : (c.kind == 2) = false := by rw [beq_eq_false_iff_ne]; exact k2
              have b5 : (c.kind == 5) = false := by rw [beq_eq_false_iff_ne]; exact k5
              have d0 : w6.cell? ⟨q, 0, none⟩ = some (.int .i64 c.kind) := HC6.out.cell 0 rfl
              clear k1 k2 k5
              go_wp2_with fail
              go_quiet (fail)
              go_wp2_with fail
              go_roundg (n - (j + 1))
              case measure => omega
              case rel => exact ⟨j + 1, rfl, by omega, by go_num, _, _, _, _, _, HT6.out.next (belowN (Below.refl _ _) _)⟩
    · obtain ⟨F, G, s, t, f, htw⟩ := HRR.out
      have HT := Lib.hid htw
      have hcase : (n ≤ j) ∨ (j < n ∧ 60 ≤ j) := by omega
      clear hgo HRR htw
      rcases hcase with hx | ⟨hx, hy⟩
      all_goals
        go_wp2_with fail
        refine (pflush_live (W := W) wr (by rw [HT.out.fa.m_]; omega) HT.out.a).mono ?_
        rintro e w7 ⟨js7, hj7, rfl, F7, hv7, hm7⟩
        obtain ⟨r1, r2, r3⟩ := HT.out.fa.flush HT.out.a.fit hj7
        rw [r1]
        obtain ⟨hb7, hoff7⟩ := apart_step HT.out.b hv7 hm7 HT.out.off
        generalize (s.flushA js7).2 = s7 at *
        have HA7 := Lib.hid hv7
        have HB7 := Lib.hid hb7
        have HO7 := Lib.hid hoff7
        have HR2 := Lib.hid r2
        have HR3 := Lib.hid r3
        clear hv7 hm7 hj7 r1 r2 r3 hb7 hoff7
        go_wp2_with fail
        refine (pflush_live (W := W) w7 (by rw [HT.out.fb.m_]; omega) HB7.out).mono ?_
        rintro e w8 ⟨js8, hj8, rfl, G8, hv8, hm8⟩
        obtain ⟨q1, q2, q3⟩ := HT.out.fb.flush HB7.out.fit hj8
        rw [q1]
        obtain ⟨ha8, -⟩ := apart_step HA7.out hv8 hm8 (fun k hG hF => HO7.out k hF hG)
        generalize (t.flushA js8).2 = t8 at *
        have HEQ := Lib.hid (two_lasts HR2.out q2 HR3.out q3 HT.out.fa.size HT.out.fb.size)
        have hlen : s7.k.lastsOf.length ≤ 8 := by
          have := lasts_le s7.k
          rw [HR2.out.size] at this
          exact this
        obtain ⟨D8, hd8⟩ := ha8.disk
        obtain ⟨E8, he8⟩ := hv8.disk
        have HDA := Lib.hid hd8
        have HDB := Lib.hid he8
        clear hv8 hm8 hj8 q1 q2 q3 ha8 hd8 he8 HA7 HB7 HO7 HR2 HR3 HT
        have HLA := Lib.hid (lasts_both (W := W) w8 HDA.out)
        generalize s7.k.lastsOf = qs at *
        go_wp2_with fail
        refine HLA.out.mono ?_
        rintro e w9 ⟨⟨A9, c9, rfl, -, ho9, -, -⟩, hb9⟩
        have HO9 := Lib.hid (ho9 D8 HDA.out.dk.lt)
        have HB9 := Lib.hid (HDB.out.next hb9)
        clear ho9 hb9 HLA
        go_wp2_with fail
        refine (lasts_both (W := W) w9 HB9.out).mono ?_
        rw [← HEQ.out]
        rintro e w10 ⟨⟨A10, c10, rfl, -, ho10, hv10, -⟩, hb10⟩
        have HOA := Lib.hid (hout_below HO9.out hb10)
        have HOB := Lib.hid (ho10 E8 HB9.out.dk.lt)
        have HV10 := Lib.hid hv10
        clear ho10 hv10 hb10 HO9 HB9 HEQ
        go_wp2_with fail
        refine (sameHeld_any w10 D8 E8 A9 A10 c9 c10 qs (by omega) HOA.out HOB.out).mono ?_
        rintro e w11 ⟨rfl, hb11⟩
        have HE := Lib.hid (HV10.out.below.trans (hb11.mono HV10.out.le))
        clear hb11
        go_wp2_with fail
        go_ret
        exact ⟨rfl, HE.out⟩

set_option maxRecDepth 20000 in
set_option maxHeartbeats 3200000 in
theorem walk (a : Int) (_ : -9223372036854775808 ≤ a) (_ : a ≤ 9223372036854775807) (b : Int) (_ : -9223372036854775808 ≤ b) (_ : b ≤ 9223372036854775807) (A : Option Addr) (n c : Nat) (cs : List PCl) (hl : cs.length = n) {W : World} (hs : PScript W W.heap.size A cs) (hn : n ≤ maxLen) :
    Calls Try.prog 5 #[.int .i64 a, .int .i64 b, .slice A n c] W fun e W' => e = .returned (.bool true) ∧ Below W.heap.size W W' := by
  by_cases h1 : a < 1
  · clear hs hl
    go_enter Try.func5, Try.ntmps5
    go_wp2_with fail
    refine (awake_any _).mono ?_
    rintro e w1 ⟨rfl, b1⟩
    go_wp2_with fail
    refine (new_live (W := W) w1 8 (by omega) (by omega) b1).mono ?_
    rintro e w2 ⟨da, D2, rfl, hv2, -, -⟩
    go_wp2_with fail
    refine (new_live (W := W) w2 8 (by omega) (by omega) hv2.below).mono ?_
    rintro e w3 ⟨db, D3, rfl, hv3, -, -⟩
    have HB := Lib.hid hv3.below
    clear b1 hv2 hv3
    go_wp2_with fail
    go_ret
    exact ⟨rfl, HB.out⟩
  · by_cases h2 : 10 < a
    · clear hs hl
      go_enter Try.func5, Try.ntmps5
      go_wp2_with fail
      refine (awake_any _).mono ?_
      rintro e w1 ⟨rfl, b1⟩
      go_wp2_with fail
      refine (new_live (W := W) w1 8 (by omega) (by omega) b1).mono ?_
      rintro e w2 ⟨da, D2, rfl, hv2, -, -⟩
      go_wp2_with fail
      refine (new_live (W := W) w2 8 (by omega) (by omega) hv2.below).mono ?_
      rintro e w3 ⟨db, D3, rfl, hv3, -, -⟩
      have HB := Lib.hid hv3.below
      clear b1 hv2 hv3
      go_wp2_with fail
      go_ret
      exact ⟨rfl, HB.out⟩
    · by_cases h3 : b < 1
      · clear hs hl
        go_enter Try.func5, Try.ntmps5
        go_wp2_with fail
        refine (awake_any _).mono ?_
        rintro e w1 ⟨rfl, b1⟩
        go_wp2_with fail
        refine (new_live (W := W) w1 8 (by omega) (by omega) b1).mono ?_
        rintro e w2 ⟨da, D2, rfl, hv2, -, -⟩
        go_wp2_with fail
        refine (new_live (W := W) w2 8 (by omega) (by omega) hv2.below).mono ?_
        rintro e w3 ⟨db, D3, rfl, hv3, -, -⟩
        have HB := Lib.hid hv3.below
        clear b1 hv2 hv3
        go_wp2_with fail
        go_ret
        exact ⟨rfl, HB.out⟩
      · by_cases h4 : 10 < b
        · clear hs hl
          go_enter Try.func5, Try.ntmps5
          go_wp2_with fail
          refine (awake_any _).mono ?_
          rintro e w1 ⟨rfl, b1⟩
          go_wp2_with fail
          refine (new_live (W := W) w1 8 (by omega) (by omega) b1).mono ?_
          rintro e w2 ⟨da, D2, rfl, hv2, -, -⟩
          go_wp2_with fail
          refine (new_live (W := W) w2 8 (by omega) (by omega) hv2.below).mono ?_
          rintro e w3 ⟨db, D3, rfl, hv3, -, -⟩
          have HB := Lib.hid hv3.below
          clear b1 hv2 hv3
          go_wp2_with fail
          go_ret
          exact ⟨rfl, HB.out⟩
        · obtain ⟨ma, rfl⟩ : ∃ m : Nat, a = (m : Int) := ⟨a.toNat, by omega⟩
          obtain ⟨mb, rfl⟩ : ∃ m : Nat, b = (m : Int) := ⟨b.toNat, by omega⟩
          exact walkIn ma mb (by omega) (by omega) (by omega) (by omega) A n c cs hl hs hn

set_option maxRecDepth 100000 in
theorem lifted (os : Os) (started : os.Started) (H : Type) (enc : TypeId × Value → H) :
    ReturnsInHanded {} Try.checked os 5 .any (Rows.poolFramesSpec.pre6 enc Try.prog Try.f5 Rows.poolFramesRow.domain false)
      (Rows.poolFramesSpec.post enc Try.prog Try.f5 false true false false) := by
  refine lift_law (C := Try.checked) (tb := 4) ownKnobs started (by kernel_rfl) Try.func5
    (ChangeSpec.witness6 (enc := enc) (C := Try.checked) false ⟨#[], #[.int .i64 0, .int .i64 0, .slice none 0 0], []⟩ 8 (by kernel_rfl) (by kernel_rfl) (by kernel_rfl) (by kernel_rfl))
    laidOut ?_ rfl rfl Try.underlying4 ?_ ?_
  · intro t ht
    rw [Try.params5] at ht
    simp only [List.mem_cons, List.not_mem_nil, or_false] at ht
    rcases ht with rfl | rfl | rfl <;> exact ⟨by kernel_rfl, of_decide_eq_true (by kernel_rfl)⟩
  · intro vs ds W p hA
    rw [Try.params5] at hA
    obtain ⟨v0, vs0, d0, ds0, p0, q0, ha, rfl, rfl, h0, r0⟩ := trodAll_cons hA
    obtain ⟨v1, vs1, d1, ds1, p1, q1, rfl, rfl, rfl, h1, r1⟩ := trodAll_cons r0
    obtain ⟨v2, vs2, d2, ds2, p2, q2, rfl, rfl, rfl, h2, r2⟩ := trodAll_cons r1
    obtain ⟨rfl, rfl, rfl⟩ := trodAll_nil r2
    rfl
  · intro W base args ds p hval hA
    rw [Try.params5] at hA hval
    obtain ⟨v0, vs0, d0, ds0, p0, q0, ha, rfl, rfl, h0, r0⟩ := trodAll_cons hA
    obtain ⟨v1, vs1, d1, ds1, p1, q1, rfl, rfl, rfl, h1, r1⟩ := trodAll_cons r0
    obtain ⟨v2, vs2, d2, ds2, p2, q2, rfl, rfl, rfl, h2, r2⟩ := trodAll_cons r1
    obtain ⟨rfl, rfl, rfl⟩ := trodAll_nil r2
    obtain rfl : args = #[v0, v1, v2] := by cases args; simp_all
    obtain ⟨i0, rfl, lo0, hi0⟩ := open_i64 (hval 0 _ v0 rfl rfl) h0
    obtain ⟨i1, rfl, lo1, hi1⟩ := open_i64 (hval 1 _ v1 rfl rfl) h1
    obtain ⟨A2, n2, c2, xs2, rfl, e2, hr2, y2⟩ := open_pcalls (hval 2 _ v2 rfl rfl) h2
    exact walk i0 lo0 hi0 i1 lo1 hi1 A2 n2 c2 xs2 e2 hr2 y2

/-- The statement. -/
theorem proved : Rows.PoolFramesSaid :=
  OpenClaim.holds_of_wide 5 Try.f5 rfl rfl rfl rfl rfl rfl rfl ⟨rfl, rfl, rfl, rfl, rfl⟩ rfl rfl rfl rfl rfl (by kernel_rfl) Try.func5 (by kernel_rfl)
    (of_decide_eq_true (by kernel_rfl)) (by unfold Func.isWrapper; first | (rw [if_pos (by decide +kernel)]; kernel_rfl) | (rw [if_neg (by decide +kernel)]; exact ⟨rfl, rfl⟩))
    (fun os started H enc _ => lifted os started H enc)
#print axioms proved
end Go.Proofs.Ytgkdlbcpckdmkaa.poolFrames
