/-
  FrameTurns answers true, for every kind, every place, every list of bytes, every place in the frame and every byte: a frame one of whose bytes is another one is none. Conditions: none.
-/
import Derived.Test.YtpihblbpmmdmmaaRows
import Derived.Test.YtpihblbpmmdmmaaFAwake
import Derived.Test.YtpihblbpmmdmmaaMod
import Derived.Test.YtpihblbpmmdmmaaOpenB
namespace Go.Proofs.Ytpihblbpmmdmmaa.frameTurns
open Go.ChangeShapes Go.WideShapes Go.ChangeAt Go.RowKit

theorem set_same {l : List UInt8} {k : Nat} {z : UInt8} (h : l[k]? = some z) : l.set k z = l := by
  apply List.ext_getElem?
  intro j
  rw [List.getElem?_set]
  by_cases hj : k = j
  · subst hj
    rw [if_pos rfl, h, if_pos (List.getElem?_eq_some_iff.1 h).1]
  · rw [if_neg hj]

theorem turn_cases {k p : Int} {l : List UInt8} {i : Nat} {z d b : UInt8} (h : FOk k p l.length) (hz : (frm k p l)[i]? = some z ∧ d = z ^^^ b) :
    (unpE p ((frm k p l).set i d) = 0 ∧ ((b.toNat : Int) == 0) = true) ∨ (unpE p ((frm k p l).set i d) = 50 ∧ ((b.toNat : Int) == 0) = false) := by
  obtain ⟨hz, rfl⟩ := hz
  by_cases hb : b = 0
  · subst hb
    rw [UInt8.xor_zero, set_same hz, unpE, if_pos (isF_frm h)]
    exact Or.inl ⟨rfl, rfl⟩
  · right
    have hf : ¬ IsF p ((frm k p l).set i (z ^^^ b)) := fun hf => hb (by
      have h1 := isF_turn hz hf
      have h2 : z ^^^ (z ^^^ b) = z ^^^ z := congrArg (z ^^^ ·) h1
      rw [UInt8.xor_self, ← UInt8.xor_assoc, UInt8.xor_self, UInt8.zero_xor] at h2
      exact h2)
    rw [unpE, if_neg hf]
    exact ⟨rfl, byte_not (d := 0) hb⟩

set_option maxHeartbeats 1600000 in
theorem walk {W : World} (k : Int) (_ : -9223372036854775808 ≤ k) (_ : k ≤ 9223372036854775807) (p : Int) (_ : -9223372036854775808 ≤ p) (_ : p ≤ 9223372036854775807)
    (A : Option Addr) (n c : Nat) (l : List UInt8) (hl : l.length = n) (hr : Bys W W.heap.size A l) (_ : n ≤ c) (_ : c ≤ maxLen) (hz : A = none → n = 0 ∧ c = 0) (i : Int) (lo : -9223372036854775808 ≤ i) (hi : i ≤ 9223372036854775807) (by_ : UInt8) :
    Calls Try.prog 8 #[.int .i64 k, .int .i64 p, .slice A n c, .int .i64 i, .int .u8 by_.toNat] W fun e W' => e = .returned (.bool true) ∧ Below W.heap.size W W' := by
  obtain ⟨i0, hi5, hz0, hz1, hz2⟩ := info_parts byteInfo
  have HZ := Lib.hid hz
  clear hz
  go_enter Try.func8, Try.ntmps8
  go_wp2_with fail
  refine (awake_any _).mono ?_
  rintro e w1 ⟨rfl, b1⟩
  have h1 := Lib.hid (hr.kept b1)
  have B1 : Hid (Below W.heap.size W w1) := b1
  clear hr b1
  by_cases hn : n ≤ 2000
  · go_wp2_with fail
    refine (pack_all k p A n c l _ hl h1.out HZ.out).mono ?_
    rintro e w2 ⟨v2, rfl, o2, b2⟩
    have B2 : Hid (Below W.heap.size W w2) := B1.out.trans (b2.mono B1.out.size)
    clear h1 B1 b2
    by_cases hok : FOk k p l.length
    · rw [packB, if_pos hok] at o2
      rw [packE, if_pos hok]
      obtain ⟨A2, c2, rfl, e2, hc2, _, r2⟩ := Bys.of_own o2
      have HOK := Lib.hid hok
      have HT := Lib.hid (fun (j : Nat) (z d : UInt8) (hz : (frm k p l)[j]? = some z ∧ d = z ^^^ by_) => turn_cases (b := by_) hok hz)
      have hF : (frm k p l).length = n + 11 := by rw [frm_length, hl]
      generalize frm k p l = F at *
      obtain ⟨g2, off2, _, rfl, _, _, _⟩ := r2.at_ (k := 0) (by omega)
      obtain ⟨N, hN⟩ : ∃ N, F.length = N := ⟨_, rfl⟩
      rw [hN] at hc2 hF ⊢
      have hN0 : ¬ N = 0 := by omega
      have hNs : N ≤ 2011 := by omega
      have hnb : ((N : Int) == 0) = false := by rw [beq_eq_false_iff_ne]; omega
      have hown0 := own_made w2
      have lz := Lies.bys (c := c2) (r2.alloc (.cells #[] 5)) (n := N) (fun e => by cases e)
      have hl' : (bv F).length = N := (bv_length F).trans hN
      have HZS := Lib.hid B2.out.size
      clear o2 e2 r2 hok hF hl HZ
      rcases Int.lt_or_le i 0 with hi0 | hi0
      · obtain ⟨kk, hkk, hki⟩ := mod_neg i N hi0 hN0
        go_wp2_with (at_builtin; refine wpList_append_lay _ rfl (.tmp 51) (.tmp 52) 23 rfl w2.heap.size 5 i0 _ 1 1 Try.underlying23 hi5 hz0 hz1 hz2 rfl (by decide) _ _ _ rfl hown0 (some ⟨g2, off2, none⟩) N c2 (bv F) rfl (by omega) lz (bv_one _) (by unfold maxLen; omega) (by omega) (by simp) ?_; intro v8 w8 hown8 hg8; obtain ⟨g, cap, z, dd, rfl, hcell, hfr, hbg, hcap, hst, hxr, HQ⟩ := turned_at (k := kk) by_ (bytes_one hN hown8) hN hkk)
        have b9 : Below w2.heap.size w2 (w8.setCell ⟨g, kk, none⟩ (.int .u8 dd.toNat)) := (((Below.refl _ _).alloc (Nat.le_refl _) _).grown hg8 (by simp) (fun g hg => (hown0.lt g hg).1)).setCell hbg _
        have j9 := Lib.hid (own_bys hst)
        have HL := Lib.hid (show (F.set kk dd).length = N from by rw [List.length_set]; exact hN)
        clear hcell hfr hst hxr hg8 hown8 hown0 lz hl' hki
        generalize w8.setCell ⟨g, kk, none⟩ (.int .u8 dd.toNat) = w9 at *
        have B9 : Hid (Below W.heap.size W w9) := B2.out.trans (b9.mono HZS.out)
        clear b9 B2
        refine (unp_all p _ N cap (F.set kk dd) _ HL.out j9.out hcap (by omega)).mono ?_
        rintro e w10 ⟨v10, rfl, o10, b10⟩
        have B10 : Hid (Below W.heap.size W w10) := B9.out.trans (b10.mono B9.out.size)
        have ht := HT.out kk z dd HQ.out
        clear j9 B9 b10 o10 HQ HL HT
        generalize unpK p (F.set kk dd) = K at *
        generalize unpE p (F.set kk dd) = E at *
        rcases ht with ⟨rfl, ht⟩ | ⟨rfl, ht⟩
        · go_wp2_with fail
          go_ret
          exact ⟨rfl, B10.out⟩
        · go_wp2_with fail
          go_ret
          exact ⟨rfl, B10.out⟩
      · obtain ⟨kk, hkk, hki⟩ := mod_pos i N hN0
        go_wp2_with (at_builtin; refine wpList_append_lay _ rfl (.tmp 51) (.tmp 52) 23 rfl w2.heap.size 5 i0 _ 1 1 Try.underlying23 hi5 hz0 hz1 hz2 rfl (by decide) _ _ _ rfl hown0 (some ⟨g2, off2, none⟩) N c2 (bv F) rfl (by omega) lz (bv_one _) (by unfold maxLen; omega) (by omega) (by simp) ?_; intro v8 w8 hown8 hg8; obtain ⟨g, cap, z, dd, rfl, hcell, hfr, hbg, hcap, hst, hxr, HQ⟩ := turned_at (k := kk) by_ (bytes_one hN hown8) hN hkk)
        have b9 : Below w2.heap.size w2 (w8.setCell ⟨g, kk, none⟩ (.int .u8 dd.toNat)) := (((Below.refl _ _).alloc (Nat.le_refl _) _).grown hg8 (by simp) (fun g hg => (hown0.lt g hg).1)).setCell hbg _
        have j9 := Lib.hid (own_bys hst)
        have HL := Lib.hid (show (F.set kk dd).length = N from by rw [List.length_set]; exact hN)
        clear hcell hfr hst hxr hg8 hown8 hown0 lz hl' hki
        generalize w8.setCell ⟨g, kk, none⟩ (.int .u8 dd.toNat) = w9 at *
        have B9 : Hid (Below W.heap.size W w9) := B2.out.trans (b9.mono HZS.out)
        clear b9 B2
        refine (unp_all p _ N cap (F.set kk dd) _ HL.out j9.out hcap (by omega)).mono ?_
        rintro e w10 ⟨v10, rfl, o10, b10⟩
        have B10 : Hid (Below W.heap.size W w10) := B9.out.trans (b10.mono B9.out.size)
        have ht := HT.out kk z dd HQ.out
        clear j9 B9 b10 o10 HQ HL HT
        generalize unpK p (F.set kk dd) = K at *
        generalize unpE p (F.set kk dd) = E at *
        rcases ht with ⟨rfl, ht⟩ | ⟨rfl, ht⟩
        · go_wp2_with fail
          go_ret
          exact ⟨rfl, B10.out⟩
        · go_wp2_with fail
          go_ret
          exact ⟨rfl, B10.out⟩
    · rw [packB, if_neg hok] at o2
      rw [packE, if_neg hok]
      obtain ⟨A2, c2, rfl, e2, _, _, r2⟩ := Bys.of_own o2
      clear o2 e2 r2 hok
      go_wp2_with fail
      go_ret
      exact ⟨rfl, B2.out⟩
  · go_wp2_with fail
    go_ret
    exact ⟨rfl, B1.out⟩

set_option maxRecDepth 100000 in
theorem lifted (os : Os) (started : os.Started) (H : Type) (enc : TypeId × Value → H) :
    ReturnsInHanded {} Try.checked os 8 .any (Rows.frameTurnsSpec.pre6 enc Try.prog Try.f8 Rows.frameTurnsRow.domain false)
      (Rows.frameTurnsSpec.post enc Try.prog Try.f8 false true false false) := by
  refine lift_law (C := Try.checked) (tb := 4) ownKnobs started (by kernel_rfl) Try.func8
    (ChangeSpec.witness6 (enc := enc) (C := Try.checked) false ⟨#[], #[.int .i64 0, .int .i64 0, .slice none 0 0, .int .i64 0, .int .u8 0], []⟩ 8 (by kernel_rfl) (by kernel_rfl) (by kernel_rfl) (by kernel_rfl))
    laidOut ?_ rfl rfl Try.underlying4 ?_ ?_
  · intro t ht
    rw [Try.params8] at ht
    simp only [List.mem_cons, List.not_mem_nil, or_false] at ht
    rcases ht with rfl | rfl | rfl | rfl | rfl <;> exact ⟨by kernel_rfl, of_decide_eq_true (by kernel_rfl)⟩
  · intro vs ds W p hA
    rw [Try.params8] at hA
    obtain ⟨v0, vs0, d0, ds0, p0, q0, ha, rfl, rfl, h0, r0⟩ := trodAll_cons hA
    obtain ⟨v1, vs1, d1, ds1, p1, q1, rfl, rfl, rfl, h1, r1⟩ := trodAll_cons r0
    obtain ⟨v2, vs2, d2, ds2, p2, q2, rfl, rfl, rfl, h2, r2⟩ := trodAll_cons r1
    obtain ⟨v3, vs3, d3, ds3, p3, q3, rfl, rfl, rfl, h3, r3⟩ := trodAll_cons r2
    obtain ⟨v4, vs4, d4, ds4, p4, q4, rfl, rfl, rfl, h4, r4⟩ := trodAll_cons r3
    obtain ⟨rfl, rfl, rfl⟩ := trodAll_nil r4
    rfl
  · intro W base args ds p hval hA
    rw [Try.params8] at hA hval
    obtain ⟨v0, vs0, d0, ds0, p0, q0, ha, rfl, rfl, h0, r0⟩ := trodAll_cons hA
    obtain ⟨v1, vs1, d1, ds1, p1, q1, rfl, rfl, rfl, h1, r1⟩ := trodAll_cons r0
    obtain ⟨v2, vs2, d2, ds2, p2, q2, rfl, rfl, rfl, h2, r2⟩ := trodAll_cons r1
    obtain ⟨v3, vs3, d3, ds3, p3, q3, rfl, rfl, rfl, h3, r3⟩ := trodAll_cons r2
    obtain ⟨v4, vs4, d4, ds4, p4, q4, rfl, rfl, rfl, h4, r4⟩ := trodAll_cons r3
    obtain ⟨rfl, rfl, rfl⟩ := trodAll_nil r4
    obtain rfl : args = #[v0, v1, v2, v3, v4] := by cases args; simp_all
    obtain ⟨i0, rfl, lo0, hi0⟩ := open_i64 (hval 0 _ v0 rfl rfl) h0
    obtain ⟨i1, rfl, lo1, hi1⟩ := open_i64 (hval 1 _ v1 rfl rfl) h1
    obtain ⟨A2, n2, c2, xs2, rfl, e2, hr2, y2, z2, o2⟩ := open_bytesz (hval 2 _ v2 rfl rfl) h2
    obtain ⟨i3, rfl, lo3, hi3⟩ := open_i64 (hval 3 _ v3 rfl rfl) h3
    obtain ⟨b4, rfl⟩ := open_u8 (hval 4 _ v4 rfl rfl) h4
    exact walk i0 lo0 hi0 i1 lo1 hi1 A2 n2 c2 xs2 e2 hr2 y2 z2 o2 i3 lo3 hi3 b4

/-- The statement. -/
theorem proved : Rows.FrameTurnsSaid :=
  OpenClaim.holds_of_wide 8 Try.f8 rfl rfl rfl rfl rfl rfl rfl ⟨rfl, rfl, rfl, rfl, rfl⟩ rfl rfl rfl rfl rfl (by kernel_rfl) Try.func8 (by kernel_rfl)
    (of_decide_eq_true (by kernel_rfl)) (by unfold Func.isWrapper; first | (rw [if_pos (by decide +kernel)]; kernel_rfl) | (rw [if_neg (by decide +kernel)]; exact ⟨rfl, rfl⟩))
    (fun os started H enc _ => lifted os started H enc)
#print axioms proved
end Go.Proofs.Ytpihblbpmmdmmaa.frameTurns
