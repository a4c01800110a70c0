/-
  What the pool's Flush comes to.
-/
import Derived.Test.YtgkdlbcpckdmkaaPUnw
import Derived.Test.YtgkdlbcpckdmkaaPGet
namespace Go.Proofs.Ytgkdlbcpckdmkaa
open Go.RowKit

/-- Frames are written, one behind the other, till the first error. -/
def PP.washL : List Nat → PP → Int × PP
  | [], s => (0, s)
  | j :: js, s => if (s.writeA j).1 = 0 then washL js (s.writeA j).2 else s.writeA j

/-- All that is dirty is written; then the disk is flushed. -/
def PP.flushA (s : PP) (js : List Nat) : Int × PP :=
  if (s.washL js).1 = 0 then ((s.washL js).2.k.flushE, { (s.washL js).2 with k := (s.washL js).2.k.flushed }) else s.washL js

def FlushEnd (w : World) (F : Nat → Prop) (pb fb cb rb db : Nat) (s : PP) (e : Ending) (w' : World) : Prop :=
  ∃ js, Js s js ∧ PEnd w F pb fb cb rb db (s.flushA js).2 (.int .i64 (s.flushA js).1) e w'

/-- As far as the frames were written. -/
def WashRel (w : World) (F : Nat → Prop) (pb fb cb rb db : Nat) (s : PP) (js : List Nat) (q : Nat) (wr : World) : Prop :=
  ∃ F' D' g' t, PoolAt wr F' D' pb fb cb rb db g' t ∧ Moves w F wr F' ∧ t.washL (js.drop q) = s.washL js ∧ t.at_ = s.at_ ∧ t.m = s.m

section
variable {F D : Nat → Prop} {pb fb cb rb db : Nat} {g : Nat → Value} {s : PP}

theorem Js.mem {js : List Nat} (h : Js s js) {q j : Nat} (hq : js[q]? = some j) : j < s.m ∧ s.d j = true := by
  have h1 := h.perm.mem_iff.1 (List.mem_of_getElem? hq)
  rw [List.mem_filter] at h1
  exact ⟨List.mem_range.1 h1.1, h1.2⟩

set_option maxRecDepth 20000 in
set_option maxHeartbeats 1600000 in
theorem pflush_any (w : World) (hm12 : s.m ≤ 12) (h : PoolAt w F D pb fb cb rb db g s) :
    Calls Try.prog 12 #[.pointer (some ⟨pb, 0, none⟩)] w (FlushEnd w F pb fb cb rb db s) := by
  have H := Lib.hid h
  have HM := Lib.hid (made_yes w pb db h.core.c0)
  have HU := Lib.hid (unwritten_any w hm12 h)
  clear h
  go_enter Try.func12, Try.ntmps12
  go_wp2_with fail
  refine HM.out.mono ?_
  rintro e w' ⟨rfl, rfl⟩
  clear HM
  go_wp2_with fail
  refine HU.out.mono ?_
  rintro e w1 ⟨A, c, js, rfl, hp, hj, hb⟩
  have HP := Lib.hid hp
  have HJ := Lib.hid hj
  have HB := Lib.hid hb
  have hlen : js.length ≤ 12 := by
    have := hj.perm.length_eq
    have := js_len s.d s.m
    omega
  have H1 := Lib.hid (H.out.below hb)
  obtain ⟨N, hN⟩ : ∃ N, js.length = N := ⟨_, rfl⟩
  have HN := Lib.hid hN
  rw [hN] at hlen
  rw [hN]
  clear hp hj hb HU hN
  go_wp2_with fail
  go_loopw [12] (fun i wr => ∃ q : Nat, q ≤ N ∧ i = .int .i64 q ∧ Hid (WashRel w1 F pb fb cb rb db s js q wr)) (fun i _ => N - (RowKit.intOf i).toNat)
  case atStart => exact ⟨0, Nat.zero_le _, rfl, Lib.hid ⟨F, D, g, s, H1.out, Moves.refl _ _, rfl, rfl, rfl⟩⟩
  case round =>
    obtain ⟨q, hq, rfl, hr⟩ := hrel
    obtain ⟨F', D', g', t, ht, hm, hw, ha, hmm⟩ := hr.out
    by_cases hlt : q < N
    · have hlq : q < js.length := by rw [HN.out]; exact hlt
      obtain ⟨j, hJ⟩ : ∃ j, js[q]'hlq = j := ⟨_, rfl⟩
      have hqj : js[q]? = some j := by rw [← hJ]; exact List.getElem?_eq_getElem hlq
      obtain ⟨j1, j2⟩ := HJ.out.mem hqj
      have hat : t.at_ j ≠ -1 := by
        rw [ha]
        intro e
        have := H.out.fit.vd j j1 e
        rw [j2] at this
        cases this
      have hjt : j < t.m := by rw [hmm]; exact j1
      have hdrop : js.drop q = j :: js.drop (q + 1) := by
        rw [List.drop_eq_getElem_cons hlq, hJ]
      obtain ⟨b, hA, hbb, hbc⟩ : ∃ b, A = some ⟨b, 0, none⟩ ∧ w.heap.size ≤ b ∧ ∀ i j, js[i]? = some j → w1.cell? ⟨b, i, none⟩ = some (.pointer (some ⟨fb, j * 4, none⟩)) := by
        rcases HP.out with e | e
        · rw [e] at hlq
          exact absurd hlq (by simp)
        · exact e
      have hcell : wr.cell? ⟨b, q, none⟩ = some (.pointer (some ⟨fb, j * 4, none⟩)) := by
        have h0 := hbc q j hqj
        have hlb := World.block_lt_of_cell? _ _ h0
        have hnF : ¬ F b := fun hF => by
          have := H.out.core.lt b hF
          omega
        exact (World.cell?_of_block (w := w1) (hm.block hlb hnF).1).trans h0
      have HW := Lib.hid (pwrite_any wr j hjt hat ht)
      have HM1 := Lib.hid hm
      obtain ⟨a1, a2, _⟩ := writeA_at t j
      have HA := Lib.hid (a1.trans ha)
      have HMM := Lib.hid (a2.trans hmm)
      rw [hdrop] at hw
      have HWL : Hid ((if (t.writeA j).1 = 0 then PP.washL (js.drop (q + 1)) (t.writeA j).2 else t.writeA j) = s.washL js) := hw
      subst hA
      clear hr ht hm hw ha hmm hqj hJ j1 j2 hat hjt hdrop hbc hbb a1 a2 hlq
      go_wp2_with fail
      refine HW.out.mono ?_
      rintro e w2 ⟨rfl, F2, D2, g2, p2, m2⟩
      have P2 := Lib.hid p2
      have M2 := Lib.hid m2
      clear p2 m2 HW hcell
      by_cases hE : (t.writeA j).1 = 0
      · have HE : Hid (PP.washL (js.drop (q + 1)) (t.writeA j).2 = s.washL js) := Lib.hid (by rw [← HWL.out, if_pos hE])
        rw [hE]
        clear hE HWL
        go_wp2_with fail
        go_roundw
        case rel => exact ⟨q + 1, by omega, by go_num, Lib.hid ⟨F2, D2, g2, _, P2.out, HM1.out.trans M2.out, HE.out, HA.out, HMM.out⟩⟩
        case measure => simp [RowKit.intOf]; omega
      · have hb : ((t.writeA j).1 != 0) = true := by rw [bne_iff_ne]; exact hE
        have HE : Hid (s.flushA js = t.writeA j) := Lib.hid (by
          unfold PP.flushA
          rw [← HWL.out, if_neg hE, if_neg hE])
        clear hE HWL
        go_wp2_with fail
        go_ret
        refine ⟨js, HJ.out, ?_⟩
        rw [HE.out]
        exact ⟨rfl, F2, D2, g2, P2.out, ((Moves.of_below HB.out).trans HM1.out).trans M2.out⟩
    · obtain rfl : q = N := by omega
      rw [List.drop_eq_nil_of_le (by rw [HN.out]; exact Nat.le_refl _)] at hw
      have HE : Hid (s.flushA js = (t.k.flushE, { t with k := t.k.flushed })) := Lib.hid (by
        unfold PP.flushA
        rw [← hw]
        rfl)
      have HT := Lib.hid ht
      have c0 := ht.core.c0
      have HM1 := Lib.hid hm
      clear hr ht hm hw ha hmm
      go_wp2_with fail
      refine (flush_any wr HT.out.core.dk).mono ?_
      rintro e w2 ⟨rfl, D2, hd2, hN2, hk2⟩
      have P2 := Lib.hid (HT.out.disk (PS.flushed_size _) hd2 hN2 hk2)
      have M2 := Lib.hid (Moves.new (hk2.more (fun k hD => HT.out.core.fd k hD)))
      clear hd2 hN2 hk2 c0
      go_wp2_with fail
      go_ret
      refine ⟨js, HJ.out, ?_⟩
      rw [HE.out]
      exact ⟨rfl, _, D2, g', P2.out, ((Moves.of_below HB.out).trans HM1.out).trans M2.out⟩
end
end Go.Proofs.Ytgkdlbcpckdmkaa
