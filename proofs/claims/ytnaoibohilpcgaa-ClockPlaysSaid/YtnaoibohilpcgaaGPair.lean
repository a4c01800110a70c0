/-
  Two clocks side by side: the program's and the document's. What the law's own did comes to.
-/
import Derived.Test.YtnaoibohilpcgaaGLive
import Derived.Test.YtnaoibohilpcgaaGRefMeth
import Derived.Test.YtnaoibohilpcgaaGRefVic
import Derived.Test.YtnaoibohilpcgaaGRefNew
import Derived.Deep.RegionHeld3
namespace Go.Proofs.Ytnaoibohilpcgaa
open Go.RowKit

/-- Both clocks, apart. -/
structure GBoth (W w : World) (db pb rb qb vb : Nat) (s t : CS) : Prop where
  live : CLive W w db pb s
  ref : RClk w rb qb vb t
  off : ∀ k, Two db pb k → ¬ Thr rb qb vb k
  base : ∀ k, Thr rb qb vb k → W.heap.size ≤ k

theorem gcell_kept {w w' : World} {F : Nat → Prop} (hk : Kept F w w') {b j : Nat} {v : Value} (h : w.cell? ⟨b, j, none⟩ = some v) (hb : ¬ F b) : w'.cell? ⟨b, j, none⟩ = some v := by
  have hlt : b < w.heap.size := World.block_lt_of_cell? _ _ h
  exact (World.cell?_of_block (w := w) (hk.block b hlt hb)).trans h

section
variable {W w w' : World} {db pb rb qb vb : Nat} {s t s' t' : CS}

theorem GBoth.next (h : GBoth W w db pb rb qb vb s t) (hb : Below w.heap.size w w') : GBoth W w' db pb rb qb vb s t := ⟨h.live.next hb, h.ref.below hb, h.off, h.base⟩
theorem GBoth.drew (h : GBoth W w db pb rb qb vb s t) : GBoth W w.drew db pb rb qb vb s t := ⟨h.live.drew, h.ref.drew, h.off, h.base⟩
theorem GBoth.clk {v : Value} {e : Ending} (h : GBoth W w db pb rb qb vb s t) (g : CGoes w db pb s' v e w') : e = .returned v ∧ GBoth W w' db pb rb qb vb s' t := by
  obtain ⟨he, hl⟩ := h.live.goes g
  exact ⟨he, hl, h.ref.kept g.2.2 (fun hk => h.off _ hk (Or.inl rfl)) (fun hk => h.off _ hk (Or.inr (Or.inl rfl))) (fun hk => h.off _ hk (Or.inr (Or.inr rfl))), h.off, h.base⟩
theorem GBoth.rf {v : Value} {e : Ending} (h : GBoth W w db pb rb qb vb s t) (g : RGoes w rb qb vb t' v e w') : e = .returned v ∧ GBoth W w' db pb rb qb vb s t' := by
  obtain ⟨he, hr, hk⟩ := g
  exact ⟨he, ⟨h.live.ck.kept hk (h.off _ (Or.inl rfl)) (h.off _ (Or.inr rfl)), h.live.b1, h.live.b2, h.live.below.trans (hk.toBelow h.base h.live.le)⟩, hr, h.off, h.base⟩
theorem GBoth.newT (h : GBoth W w db pb rb qb vb s t) : ¬ Two db pb w.heap.size ∧ ¬ Thr rb qb vb w.heap.size := by
  obtain ⟨l1, l2⟩ := h.live.ck.lt
  obtain ⟨l3, l4, l5⟩ := h.ref.lt
  constructor
  · rintro (e | e) <;> omega
  · rintro (e | e | e) <;> omega
end

def DidG (W : World) (db pb rb qb vb : Nat) (s : CS) (e : Ending) (w' : World) : Prop := e = .returned (.bool true) ∧ GBoth W w' db pb rb qb vb s s

section
variable {W : World} {db pb rb qb vb : Nat} {s : CS}

set_option maxRecDepth 20000 in
set_option maxHeartbeats 6400000 in
theorem gdid_any (w : World) (x y : Int) (hm : s.Max 9223372036854775806) (h : GBoth W w db pb rb qb vb s s) :
    Calls Try.prog 12 #[.pointer (some ⟨db, 0, none⟩), .pointer (some ⟨rb, 0, none⟩), .agg #[.int .i64 x, .int .i64 y]] w (DidG W db pb rb qb vb (s.doneS x y)) := by
  have HP : Hid (GBoth W (w.alloc (.cells #[.int .i64 x, .int .i64 y] 33)) db pb rb qb vb s s) := h.next (below_one w _)
  have K : Hid ((w.alloc (.cells #[.int .i64 x, .int .i64 y] 33)).cell? ⟨w.heap.size, 1, none⟩ = some (.int .i64 y)) := Lib.hid (by simp)
  obtain ⟨n1, n2⟩ := h.newT
  have N1 := Lib.hid n1
  have N2 := Lib.hid n2
  have HM := Lib.hid hm
  clear h n1 n2 hm
  by_cases q1 : x = 1
  · have b1 : (x == 1) = true := by rw [q1]; rfl
    have HQ : Hid (s.doneS x y = s.useS y) := Lib.hid (by subst q1; rfl)
    clear q1
    go_enter Try.func12, Try.ntmps12
    go_wp2_with fail
    generalize w.alloc (.cells #[.int .i64 x, .int .i64 y] 33) = wx at *
    generalize w.heap.size = bx at *
    have x1 : wx.drew.cell? ⟨bx, 1, none⟩ = some (.int .i64 y) := K.out
    have K0 : wx.drew.cell? ⟨bx, 1, none⟩ = some (.int .i64 y) := K.out
    go_region_held3 (fun w' => w'.cell? ⟨bx, 1, none⟩ = some (.int .i64 y))
      (first | exact K2 | exact K1 | exact K0)
      (first
        | (go_at_call 20; refine (use_any (s := s) wx.drew y HP.out.drew.live.ck).mono ?_; intro e w2 hg2; obtain ⟨rfl, hb2⟩ := HP.out.drew.clk hg2; have K1 := gcell_kept hg2.2.2 K0 N1.out)
        | (go_at_call 23; refine (refUse_any (s := s) w2 y hb2.ref).mono ?_; intro e w3 hg3; obtain ⟨rfl, hb3⟩ := hb2.rf hg3; have K2 := gcell_kept hg3.2.2 K1 N2.out))
    have HP3 := Lib.hid hb3
    go_wp2_with fail
    go_ret
    rw [HQ.out]
    exact ⟨rfl, HP3.out⟩
  have b1 : (x == 1) = false := by rw [beq_eq_false_iff_ne]; exact q1
  by_cases q2 : x = 2
  · have b2 : (x == 2) = true := by rw [q2]; rfl
    have HQ : Hid (s.doneS x y = s.pinS y) := Lib.hid (by subst q2; rfl)
    clear q2
    go_enter Try.func12, Try.ntmps12
    go_wp2_with fail
    generalize w.alloc (.cells #[.int .i64 x, .int .i64 y] 33) = wx at *
    generalize w.heap.size = bx at *
    have x1 : wx.drew.cell? ⟨bx, 1, none⟩ = some (.int .i64 y) := K.out
    have K0 : wx.drew.cell? ⟨bx, 1, none⟩ = some (.int .i64 y) := K.out
    go_region_held3 (fun w' => w'.cell? ⟨bx, 1, none⟩ = some (.int .i64 y))
      (first | exact K2 | exact K1 | exact K0)
      (first
        | (go_at_call 21; refine (pin_any (s := s) wx.drew y HM.out HP.out.drew.live.ck).mono ?_; intro e w2 hg2; obtain ⟨rfl, hb2⟩ := HP.out.drew.clk hg2; have K1 := gcell_kept hg2.2.2 K0 N1.out)
        | (go_at_call 24; refine (refPin_any (s := s) w2 y HM.out hb2.ref).mono ?_; intro e w3 hg3; obtain ⟨rfl, hb3⟩ := hb2.rf hg3; have K2 := gcell_kept hg3.2.2 K1 N2.out))
    have HP3 := Lib.hid hb3
    go_wp2_with fail
    go_ret
    rw [HQ.out]
    exact ⟨rfl, HP3.out⟩
  have b2 : (x == 2) = false := by rw [beq_eq_false_iff_ne]; exact q2
  by_cases q3 : x = 3
  · have b3 : (x == 3) = true := by rw [q3]; rfl
    have HQ : Hid (s.doneS x y = s.unS y) := Lib.hid (by subst q3; rfl)
    clear q3
    go_enter Try.func12, Try.ntmps12
    go_wp2_with fail
    generalize w.alloc (.cells #[.int .i64 x, .int .i64 y] 33) = wx at *
    generalize w.heap.size = bx at *
    have x1 : wx.drew.cell? ⟨bx, 1, none⟩ = some (.int .i64 y) := K.out
    have K0 : wx.drew.cell? ⟨bx, 1, none⟩ = some (.int .i64 y) := K.out
    go_region_held3 (fun w' => w'.cell? ⟨bx, 1, none⟩ = some (.int .i64 y))
      (first | exact K2 | exact K1 | exact K0)
      (first
        | (go_at_call 22; refine (unpin_any (s := s) wx.drew y HP.out.drew.live.ck).mono ?_; intro e w2 hg2; obtain ⟨rfl, hb2⟩ := HP.out.drew.clk hg2; have K1 := gcell_kept hg2.2.2 K0 N1.out)
        | (go_at_call 25; refine (refUnpin_any (s := s) w2 y hb2.ref).mono ?_; intro e w3 hg3; obtain ⟨rfl, hb3⟩ := hb2.rf hg3; have K2 := gcell_kept hg3.2.2 K1 N2.out))
    have HP3 := Lib.hid hb3
    go_wp2_with fail
    go_ret
    rw [HQ.out]
    exact ⟨rfl, HP3.out⟩
  have b3 : (x == 3) = false := by rw [beq_eq_false_iff_ne]; exact q3
  by_cases q4 : x = 4
  · have b4 : (x == 4) = true := by rw [q4]; rfl
    have HQ : Hid (s.doneS x y = s.vicS) := Lib.hid (by subst q4; rfl)
    clear q1 q2 q3 q4
    go_enter Try.func12, Try.ntmps12
    go_wp2_with fail
    generalize w.alloc (.cells #[.int .i64 x, .int .i64 y] 33) = wx at *
    generalize w.heap.size = bx at *
    refine (victim_any (s := s) wx HP.out.live.ck).mono ?_
    intro e w2 hg2
    obtain ⟨rfl, hb2⟩ := HP.out.clk hg2
    have HB2 := Lib.hid hb2
    clear hg2 hb2
    go_wp2_with fail
    refine (refVictim_any (s := s) w2 HB2.out.ref).mono ?_
    intro e w3 hg3
    obtain ⟨rfl, hb3⟩ := HB2.out.rf hg3
    have HB3 := Lib.hid hb3
    clear hg3 hb3
    generalize s.vicI = vi at *
    generalize s.vicE = ve at *
    go_wp2_with fail
    go_ret
    rw [HQ.out]
    exact ⟨rfl, HB3.out⟩
  have b4 : (x == 4) = false := by rw [beq_eq_false_iff_ne]; exact q4
  have HQ : Hid (s.doneS x y = s) := Lib.hid (by unfold CS.doneS; rw [if_neg q1, if_neg q2, if_neg q3, if_neg q4])
  clear q1 q2 q3 q4
  go_enter Try.func12, Try.ntmps12
  go_wp2_with fail
  go_ret
  rw [HQ.out]
  exact ⟨rfl, HP.out⟩
end
end Go.Proofs.Ytnaoibohilpcgaa
