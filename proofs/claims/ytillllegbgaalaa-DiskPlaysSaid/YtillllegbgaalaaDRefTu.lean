/-
  What the document's own Turn comes to.
-/
import Derived.Test.YtillllegbgaalaaDRefWr
namespace Go.Proofs.Ytillllegbgaalaa
open Go.RowKit Go.Maps

section
variable {G : Nat → Prop} {rb lb wb ib : Nat} {left : Int} {rL rW : Rw} {rI : List Bool} {s : PS}

theorem RefAt.turnW {w w5 : World} {i : Nat} {v : Value} {l : List UInt8} (h : RefAt w G rb lb wb ib left rL rW rI s) (hi : i < s.size) (hb : rI[i]? = some true) (hl : l.length ≤ 1024) (hbe : Below w.heap.size w w5) (ho : Own w5 w.heap.size v l) :
    RefAt (w5.setCell ⟨wb, i, none⟩ v) (fun k => G k ∨ (w.heap.size ≤ k ∧ k < w5.heap.size)) rb lb wb ib left rL (rW.set i (v, l)) rI (s.lay i l) := by
  have h5 := h.bigger hbe
  refine h5.putW (i := i) (p := (v, l)) (W' := fun j => if j = (i : Int) then some l else s.W j) ⟨own_base ho, hl, fun k hk => Or.inr (ho.lt k hk)⟩ ?_
  intro j b hj
  by_cases e : j = i
  · subst e
    rw [hb] at hj
    obtain rfl : true = b := by simpa using hj
    simp
  · rw [if_neg e, if_neg (by omega)]
    have hjs : j < s.size := by have := (List.getElem?_eq_some_iff.1 hj).1; rw [h.nI] at this; exact this
    have hq := List.getElem?_eq_getElem (l := rW) (i := j) (by rw [h.nW]; exact hjs)
    have := h.sW j _ b hq hj
    cases b with
    | false => rw [this]; rfl
    | true => rfl

theorem RefAt.turnL {w w5 : World} {i : Nat} {v : Value} {l : List UInt8} (h : RefAt w G rb lb wb ib left rL rW rI s) (hl : l.length ≤ 1024) (hbe : Below w.heap.size w w5) (ho : Own w5 w.heap.size v l) :
    RefAt (w5.setCell ⟨lb, i, none⟩ v) (fun k => G k ∨ (w.heap.size ≤ k ∧ k < w5.heap.size)) rb lb wb ib left (rL.set i (v, l)) rW rI { s with L := fun j => if j = (i : Int) then l else s.L j } := by
  have h5 := h.bigger hbe
  refine h5.putL (i := i) (p := (v, l)) ⟨own_base ho, hl, fun k hk => Or.inr (ho.lt k hk)⟩ ?_
  intro j _
  by_cases e : j = i
  · subst e
    rw [if_pos rfl, if_pos rfl]
  · rw [if_neg e, if_neg (by omega)]

set_option maxRecDepth 20000 in
set_option maxHeartbeats 3200000 in
theorem refTurn_any (w : World) (n : Int) (at_ : Int) (h3 : -9223372036854775808 ≤ at_) (h4 : at_ ≤ 9223372036854775807) (by_ : UInt8) (h : Rk w G rb s) :
    Calls Try.prog 32 #[.pointer (some ⟨rb, 0, none⟩), .int .i64 n, .int .i64 at_, .int .u8 by_.toNat] w (RGoes w G rb (s.turned n at_ by_) (.int .i64 (s.turnE n at_))) := by
  have H0 := Lib.hid h
  obtain ⟨i0, hi, hz0, hz1, hz2⟩ := info_parts byteInfo
  obtain ⟨lb, wb, ib, left, rL, rW, rI, h⟩ := h
  have c0 := h.cell 0 (v := .slice (some ⟨lb, 0, none⟩) s.size s.size) rfl
  have c1 := h.cell 1 (v := .slice (some ⟨wb, 0, none⟩) s.size s.size) rfl
  have c2 := h.cell 2 (v := .slice (some ⟨ib, 0, none⟩) s.size s.size) rfl
  have HC0 := Lib.hid (refIs_any (s := s) w n _ c0)
  by_cases hh : s.has n = true
  · rw [hh] at HC0
    obtain ⟨hn0, hn1⟩ := PS.has_iff.1 hh
    obtain ⟨i, rfl⟩ : ∃ i : Nat, n = (i : Int) := ⟨n.toNat, by omega⟩
    have his : i < s.size := by omega
    have hs4 := h.s4
    obtain ⟨p, q, bb, e1, e2, e3, k1, k2, k3, f1, f2, f3⟩ := h.at_ his
    have hheld := h.held_at e1 e2 e3
    obtain ⟨pA, pc, hpv, hpc, hpz⟩ := own_slice (h.oL i p e1).1
    obtain ⟨qA, qc, hqv, hqc, hqz⟩ := own_slice (h.oW i q e2).1
    rw [hpv] at k1
    rw [hqv] at k2
    have hp4 := (h.oL i p e1).2.1
    have hq4 := (h.oW i q e2).2.1
    have HBP := Lib.hid (show Bys w w.heap.size pA p.2 from by have := (h.oL i p e1).1; rw [hpv] at this; exact own_bys this)
    have HBQ := Lib.hid (show Bys w w.heap.size qA q.2 from by have := (h.oW i q e2).1; rw [hqv] at this; exact own_bys this)
    -- what it holds, whichever
    obtain ⟨hA, hc, hlb, hhz, hsel⟩ : ∃ (hA : Option Addr) (hc : Nat), Bys w w.heap.size hA (s.held i) ∧ (hA = none → (s.held i).length = 0 ∧ hc = 0) ∧ ((bb = true ∧ qA = hA ∧ qc = hc ∧ q.2 = s.held i) ∨ (bb = false ∧ pA = hA ∧ pc = hc ∧ p.2 = s.held i)) := by
      rw [hheld]
      cases bb with
      | true => exact ⟨qA, qc, HBQ.out, hqz, Or.inl ⟨rfl, rfl, rfl, rfl⟩⟩
      | false => exact ⟨pA, pc, HBP.out, hpz, Or.inr ⟨rfl, rfl, rfl, rfl⟩⟩
    have HLB := Lib.hid hlb
    have HHZ := Lib.hid hhz
    have hle : (s.held i).length ≤ 1024 := by
      rw [hheld]
      cases bb
      · exact hp4
      · exact hq4
    have HR := Lib.hid h
    have HE3 := Lib.hid e3
    have HE2 := Lib.hid e2
    have hn := h.nes
    obtain ⟨n1, n2, n3, n4, n5⟩ := hn
    have n6 := h.ne
    clear h e1 e2 e3 hpv hqv hpc hqc hpz hqz hheld HBP HBQ hlb hhz
    by_cases hg : s.held i = [] ∨ at_ < 0
    · have eB : s.turned (i : Int) at_ by_ = s := by unfold PS.turned; rw [if_pos hh, if_pos hg]
      have eE : s.turnE (i : Int) at_ = 1 := by unfold PS.turnE; rw [if_pos hh, if_pos hg]
      rw [eB, eE]
      by_cases hl : s.held i = []
      · rw [hl] at hsel
        rcases hsel with ⟨rfl, rfl, rfl, hq⟩ | ⟨rfl, rfl, rfl, hq⟩
        · rw [hq] at k2
          clear eB eE hg hl hle hq hh hp4 hq4
          go_enter Try.func32, Try.ntmps32
          go_wp2_with fail
          refine HC0.out.mono ?_
          rintro e w' ⟨rfl, rfl⟩
          go_wp2_with fail
          go_ret
          exact ⟨rfl, G, H0.out, fun k hk => Or.inl hk, Kept.refl _ _⟩
        · rw [hq] at k1
          clear eB eE hg hl hle hq hh hp4 hq4
          go_enter Try.func32, Try.ntmps32
          go_wp2_with fail
          refine HC0.out.mono ?_
          rintro e w' ⟨rfl, rfl⟩
          go_wp2_with fail
          go_ret
          exact ⟨rfl, G, H0.out, fun k hk => Or.inl hk, Kept.refl _ _⟩
      · have h0 : at_ < 0 := hg.resolve_left hl
        have hl0 : (((s.held i).length : Int) == 0) = false := by
          rw [beq_eq_false_iff_ne]
          intro e
          exact hl (List.eq_nil_of_length_eq_zero (by omega))
        rcases hsel with ⟨rfl, rfl, rfl, hq⟩ | ⟨rfl, rfl, rfl, hq⟩
        · rw [hq] at k2
          clear eB eE hg hl hle hq hh hp4 hq4
          go_enter Try.func32, Try.ntmps32
          go_wp2_with fail
          refine HC0.out.mono ?_
          rintro e w' ⟨rfl, rfl⟩
          go_wp2_with fail
          go_ret
          exact ⟨rfl, G, H0.out, fun k hk => Or.inl hk, Kept.refl _ _⟩
        · rw [hq] at k1
          clear eB eE hg hl hle hq hh hp4 hq4
          go_enter Try.func32, Try.ntmps32
          go_wp2_with fail
          refine HC0.out.mono ?_
          rintro e w' ⟨rfl, rfl⟩
          go_wp2_with fail
          go_ret
          exact ⟨rfl, G, H0.out, fun k hk => Or.inl hk, Kept.refl _ _⟩
    · have hl : ¬ s.held i = [] := fun e => hg (Or.inl e)
      have h0 : 0 ≤ at_ := by
        by_cases e : at_ < 0
        · exact absurd (Or.inr e) hg
        · omega
      have eE : s.turnE (i : Int) at_ = 0 := by unfold PS.turnE; rw [if_pos hh, if_neg hg]
      rw [eE]
      have hl0 : (((s.held i).length : Int) == 0) = false := by
        rw [beq_eq_false_iff_ne]
        intro e
        exact hl (List.eq_nil_of_length_eq_zero (by omega))
      have hl1 : 1 ≤ (s.held i).length := by
        rcases Nat.eq_zero_or_pos (s.held i).length with e | e
        · exact absurd (List.eq_nil_of_length_eq_zero e) hl
        · exact e
      obtain ⟨k, hk, hki⟩ := spot_of at_ (s.held i).length (by omega)
      have hkt : at_.tmod ((s.held i).length : Int) = (k : Int) := by rw [Int.tmod_eq_emod_of_nonneg h0]; exact hki
      have HTW : Hid (PS.twist (s.held i) at_ by_ = (s.held i).modify k (· ^^^ by_)) := by
        unfold PS.twist
        rw [hki]
        exact Lib.hid rfl
      have HKI := Lib.hid hki
      have HKT := Lib.hid hkt
      have hown0 := own_made w
      have HLZ : Hid (Lies (w.alloc (.cells #[] 5)) hA (s.held i).length hc (bv (s.held i))) := Lies.bys (HLB.out.alloc _) HHZ.out
      have HHG := Lib.hid hg
      have HHH := Lib.hid hh
      rcases hsel with ⟨rfl, rfl, rfl, hq⟩ | ⟨rfl, rfl, rfl, hq⟩
      · rw [hq] at k2
        have HQH := Lib.hid hq
        clear eE hg hl hq hh hp4 hq4 hki hkt
        go_enter Try.func32, Try.ntmps32
        go_wp2_with fail
        refine HC0.out.mono ?_
        rintro e w' ⟨rfl, rfl⟩
        go_wp2_with (at_builtin; refine wpList_append_lay _ rfl (.tmp 45) (.tmp 46) 32 rfl w.heap.size 5 i0 _ 1 1 Try.underlying32 hi hz0 hz1 hz2 rfl (by decide) _ _ _ rfl hown0 qA (s.held i).length qc (bv (s.held i)) rfl (by rw [bv_length]; omega) HLZ.out (bv_one _) (by unfold maxLen; omega) (by omega) (by simp) ?_; intro v8 w8 hown8 hg8; obtain ⟨g, cap, z, rfl, hz, hcell, hfr, hbg, hst⟩ := own_store (k := k) (bytes_one rfl hown8) hk)
        have B8 : Below w.heap.size w w8 := ((Below.refl _ _).alloc (Nat.le_refl _) _).grown hg8 (by simp) (fun g hg => (hown0.lt g hg).1)
        have hx := xor_u8 z by_
        have ho9 := hst (z ^^^ by_)
        have hms : (s.held i).modify k (· ^^^ by_) = (s.held i).set k (z ^^^ by_) := modify_set (· ^^^ by_) hz
        generalize z ^^^ by_ = d at *
        rw [← hms, ← HTW.out] at ho9
        clear hms
        have B9 : Below w.heap.size w (w8.setCell ⟨g, k, none⟩ (.int .u8 d.toNat)).drew := (B8.setCell (p := ⟨g, k, none⟩) hbg _).drew
        have hcap : (s.held i).length ≤ cap := by
          obtain ⟨_, _, e, hc, _⟩ := own_slice (bytes_one rfl hown8)
          injection e with _ _ e
          rw [e]
          exact hc
        have HO9 : Hid (Own (w8.setCell ⟨g, k, none⟩ (.int .u8 d.toNat)).drew w.heap.size (.slice (some ⟨g, 0, none⟩) (s.held i).length cap) (PS.twist (s.held i) at_ by_)) := ho9
        have hki := HKI.out
        have hkt := HKT.out
        clear ho9 hst hz hown8 hg8 B8 hown0
        go_region
        (try rw [hx])
        clear hcell hfr hx hki hkt
        generalize (w8.setCell ⟨g, k, none⟩ (.int .u8 d.toNat)).drew = w9 at *
        have j2 := (B9.cell (p := ⟨rb, 2, none⟩) (World.block_lt_of_cell? _ _ c2)).trans c2
        have j3 := (B9.cell (p := ⟨ib, i, none⟩) (World.block_lt_of_cell? _ _ k3)).trans k3
        have j1 := (B9.cell (p := ⟨rb, 1, none⟩) (World.block_lt_of_cell? _ _ c1)).trans c1
        have jr := (B9.cell (p := ⟨wb, i, none⟩) (World.block_lt_of_cell? _ _ k2)).trans k2
        have jf := (B9.frozen (p := ⟨wb, i, none⟩) (World.block_lt_of_cell? _ _ k2)).trans f2
        have HB9 := Lib.hid B9
        clear B9 c0 c1 c2 k1 k2 k3 f1 f2 f3 HLB HHZ HLZ
        go_wp2_with fail
        go_ret
        have htl : (PS.twist (s.held i) at_ by_).length ≤ 1024 := by
          unfold PS.twist
          rw [List.length_modify]
          exact hle
        have hsw : s.W (i : Int) = some (s.held i) := by
          have h1 := HR.out.sW i q true HE2.out HE3.out
          rw [h1, HQH.out]
          rfl
        have hfin := HR.out.turnW his HE3.out htl HB9.out HO9.out
        have eT : s.turned (i : Int) at_ by_ = s.lay i (PS.twist (s.held i) at_ by_) := by
          unfold PS.turned
          rw [if_pos HHH.out, if_neg HHG.out, hsw]
        rw [eT]
        refine ⟨rfl, _, hfin.rk, fun k hk => ?_, (Kept.below HB9.out G).next (Kept.setCell _ HR.out.gw _)⟩
        rcases hk with hk | hk
        · exact Or.inl hk
        · exact Or.inr hk.1
      · rw [hq] at k1
        clear eE hg hl hq hh hp4 hq4 hki hkt
        go_enter Try.func32, Try.ntmps32
        go_wp2_with fail
        refine HC0.out.mono ?_
        rintro e w' ⟨rfl, rfl⟩
        go_wp2_with (at_builtin; refine wpList_append_lay _ rfl (.tmp 45) (.tmp 46) 32 rfl w.heap.size 5 i0 _ 1 1 Try.underlying32 hi hz0 hz1 hz2 rfl (by decide) _ _ _ rfl hown0 pA (s.held i).length pc (bv (s.held i)) rfl (by rw [bv_length]; omega) HLZ.out (bv_one _) (by unfold maxLen; omega) (by omega) (by simp) ?_; intro v8 w8 hown8 hg8; obtain ⟨g, cap, z, rfl, hz, hcell, hfr, hbg, hst⟩ := own_store (k := k) (bytes_one rfl hown8) hk)
        have B8 : Below w.heap.size w w8 := ((Below.refl _ _).alloc (Nat.le_refl _) _).grown hg8 (by simp) (fun g hg => (hown0.lt g hg).1)
        have hx := xor_u8 z by_
        have ho9 := hst (z ^^^ by_)
        have hms : (s.held i).modify k (· ^^^ by_) = (s.held i).set k (z ^^^ by_) := modify_set (· ^^^ by_) hz
        generalize z ^^^ by_ = d at *
        rw [← hms, ← HTW.out] at ho9
        clear hms
        have B9 : Below w.heap.size w (w8.setCell ⟨g, k, none⟩ (.int .u8 d.toNat)).drew := (B8.setCell (p := ⟨g, k, none⟩) hbg _).drew
        have hcap : (s.held i).length ≤ cap := by
          obtain ⟨_, _, e, hc, _⟩ := own_slice (bytes_one rfl hown8)
          injection e with _ _ e
          rw [e]
          exact hc
        have HO9 : Hid (Own (w8.setCell ⟨g, k, none⟩ (.int .u8 d.toNat)).drew w.heap.size (.slice (some ⟨g, 0, none⟩) (s.held i).length cap) (PS.twist (s.held i) at_ by_)) := ho9
        have hki := HKI.out
        have hkt := HKT.out
        clear ho9 hst hz hown8 hg8 B8 hown0
        go_region
        (try rw [hx])
        clear hcell hfr hx hki hkt
        generalize (w8.setCell ⟨g, k, none⟩ (.int .u8 d.toNat)).drew = w9 at *
        have j2 := (B9.cell (p := ⟨rb, 2, none⟩) (World.block_lt_of_cell? _ _ c2)).trans c2
        have j3 := (B9.cell (p := ⟨ib, i, none⟩) (World.block_lt_of_cell? _ _ k3)).trans k3
        have j1 := (B9.cell (p := ⟨rb, 0, none⟩) (World.block_lt_of_cell? _ _ c0)).trans c0
        have jr := (B9.cell (p := ⟨lb, i, none⟩) (World.block_lt_of_cell? _ _ k1)).trans k1
        have jf := (B9.frozen (p := ⟨lb, i, none⟩) (World.block_lt_of_cell? _ _ k1)).trans f1
        have HB9 := Lib.hid B9
        clear B9 c0 c1 c2 k1 k2 k3 f1 f2 f3 HLB HHZ HLZ
        go_wp2_with fail
        go_ret
        have htl : (PS.twist (s.held i) at_ by_).length ≤ 1024 := by
          unfold PS.twist
          rw [List.length_modify]
          exact hle
        have hsw : s.W (i : Int) = none := by
          have h1 := HR.out.sW i q false HE2.out HE3.out
          rw [h1]
          rfl
        have hfin := HR.out.turnL (i := i) htl HB9.out HO9.out
        have eT : s.turned (i : Int) at_ by_ = { s with L := fun j => if j = (i : Int) then PS.twist (s.held i) at_ by_ else s.L j } := by
          have h2 : s.L (i : Int) = s.held i := by unfold PS.held; rw [hsw]; rfl
          unfold PS.turned
          rw [if_pos HHH.out, if_neg HHG.out, hsw]
          simp only [h2]
        rw [eT]
        refine ⟨rfl, _, hfin.rk, fun k hk => ?_, (Kept.below HB9.out G).next (Kept.setCell _ HR.out.gl _)⟩
        rcases hk with hk | hk
        · exact Or.inl hk
        · exact Or.inr hk.1
  · have hh' : s.has n = false := by simpa using hh
    rw [hh'] at HC0
    have eB : s.turned n at_ by_ = s := by unfold PS.turned; rw [if_neg hh]
    have eE : s.turnE n at_ = 41 := by unfold PS.turnE; rw [if_neg hh]
    rw [eB, eE]
    clear h eB eE hh hh'
    go_enter Try.func32, Try.ntmps32
    go_wp2_with fail
    refine HC0.out.mono ?_
    rintro e w' ⟨rfl, rfl⟩
    go_wp2_with fail
    go_ret
    exact ⟨rfl, G, H0.out, fun k hk => Or.inl hk, Kept.refl _ _⟩
end
end Go.Proofs.Ytillllegbgaalaa
