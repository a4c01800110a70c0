/-
  What the document's own Victim comes to.
-/
import Derived.Test.YtnaoibohilpcgaaGRef
import Derived.BigRegion
import Derived.Deep.LoopGhost
namespace Go.Proofs.Ytnaoibohilpcgaa
open Go.RowKit

section
variable {rb qb vb : Nat} {s : CS}

/-- Is one of the first k places free? -/
def anyK (s : CS) (k : Nat) : Bool := (List.range k).any fun j => s.p j == 0
theorem anyK_succ (s : CS) (k : Nat) : anyK s (k + 1) = (anyK s k || s.p k == 0) := by
  unfold anyK
  rw [List.range_succ, List.any_append]
  simp

def RVicRel (w : World) (rb qb vb : Nat) (r : Nat × CS) (g : Nat) (wr : World) : Prop :=
  ∃ c, RClk wr rb qb vb c ∧ CS.go g c = some r ∧ Kept (Thr rb qb vb) w wr

set_option maxHeartbeats 3200000 in
theorem refVictim_any (w : World) (h : RClk w rb qb vb s) :
    Calls Try.prog 26 #[.pointer (some ⟨rb, 0, none⟩)] w (RGoes w rb qb vb s.vicS (.tuple #[.int .i64 s.vicI, .int .i64 s.vicE])) := by
  have c0 := h.c0
  have hn := h.n2
  have H := Lib.hid h
  clear h
  go_enter Try.func26, Try.ntmps26
  go_wp2_with fail
  go_loopw [4, 5] (fun f i wr => ∃ k : Nat, k ≤ s.n ∧ i = .int .i64 k ∧ f = .bool (anyK s k) ∧ w = wr) (fun _ i _ => s.n - (intOf i).toNat)
  case atStart => exact ⟨0, Nat.zero_le _, rfl, rfl, rfl⟩
  case round =>
    obtain ⟨k, hk, rfl, rfl, rfl⟩ := hrel
    by_cases hlt : k < s.n
    · have d0 := H.out.cp hlt
      have HS := Lib.hid (anyK_succ s k)
      cases ha : anyK s k with
      | true =>
        have HA := Lib.hid ha
        clear ha
        go_wp2_with fail
        go_roundw
        case rel => exact ⟨k + 1, by omega, by go_num, by rw [HS.out, HA.out]; rfl, trivial⟩
        case measure => simp [intOf]; omega
      | false =>
        have HA := Lib.hid ha
        clear ha
        by_cases h0 : s.p k = 0
        · have HH0 := Lib.hid h0
          rw [h0] at d0
          clear h0
          go_wp2_with fail
          go_roundw
          case rel => exact ⟨k + 1, by omega, by go_num, by rw [HS.out, HA.out, HH0.out]; rfl, trivial⟩
          case measure => simp [intOf]; omega
        · have hb0 : ((s.p k : Int) == 0) = false := by rw [beq_eq_false_iff_ne]; omega
          have HH0 := Lib.hid h0
          clear h0
          go_wp2_with fail
          go_roundw
          case rel => exact ⟨k + 1, by omega, by go_num, by rw [HS.out, HA.out, show (s.p k == 0) = false by rw [beq_eq_false_iff_ne]; exact HH0.out]; rfl, trivial⟩
          case measure => simp [intOf]; omega
    · obtain rfl : k = s.n := by omega
      clear hk hlt
      rw [show anyK s s.n = s.free from rfl]
      cases hf : s.free with
      | false =>
        have HV := Lib.hid (CS.vic_no hf)
        clear hf
        go_wp2_with fail
        go_loopg [6] 0 (fun g i wr => w = wr)
        case atStart => exact rfl
        case round =>
          subst hrel
          go_wp2_with fail
          go_ret2
          rw [HV.out.1, HV.out.2.1, HV.out.2.2]
          exact ⟨rfl, H.out, Kept.refl _ _⟩
      | true =>
        obtain ⟨r, hw, hgo, _⟩ := CS.way_of H.out.hn hf
        have HV := Lib.hid (CS.vic_of hw)
        have HGO := Lib.hid hgo
        clear hf hw hgo
        go_wp2_with fail
        clear c0
        go_loopg [6] (2 * s.n) (fun g i wr => RVicRel w rb qb vb r g wr)
        case atStart => exact ⟨s, H.out, HGO.out, Kept.refl _ _⟩
        case round =>
          obtain ⟨c, hc, hg, hk⟩ := hrel
          have e0 := hc.c0
          have e1 := hc.c1
          have e2 := hc.c2
          have ef := hc.f 2
          have hn1 := hc.n1
          have hn2 := hc.n2
          have hhn := hc.hn
          have HC := Lib.hid hc
          have HK := Lib.hid hk
          have HG := Lib.hid hg
          clear hc hg hk
          obtain ⟨g, rfl⟩ : ∃ g, gk = g + 1 := by
            cases gk with
            | zero => cases HG.out
            | succ g => exact ⟨g, rfl⟩
          have hz : ((c.n : Int) == 0) = false := by rw [beq_eq_false_iff_ne]; omega
          go_wp2_with fail
          go_region
          all_goals
            have k2 : RClk ((wr.setCell ⟨rb, 2, none⟩ (.int .i64 (((c.h : Int) + 1) % (c.n : Int)))).drew) rb qb vb c.next := by
              have e : (((c.h + 1) % c.n : Nat) : Int) = ((c.h : Int) + 1) % (c.n : Int) := by
                rw [Int.natCast_emod]
                rfl
              have := HC.out.setH (m := (c.h + 1) % c.n) (Nat.mod_lt _ (by omega))
              rw [e] at this
              exact this.drew
            have kk : Kept (Thr rb qb vb) w ((wr.setCell ⟨rb, 2, none⟩ (.int .i64 (((c.h : Int) + 1) % (c.n : Int)))).drew) := (HK.out.next (Kept.thr_r wr _)).drawn
            generalize (wr.setCell ⟨rb, 2, none⟩ (.int .i64 (((c.h : Int) + 1) % (c.n : Int)))).drew = w2 at k2 kk ⊢
            have d0 : w2.cell? ⟨rb, 0, none⟩ = some (.slice (some ⟨qb, 0, none⟩) c.n c.n) := k2.c0
            have d1 : w2.cell? ⟨rb, 1, none⟩ = some (.slice (some ⟨vb, 0, none⟩) c.n c.n) := k2.c1
            have dp : w2.cell? ⟨qb, c.h, none⟩ = some (.int .i64 (c.p c.h)) := k2.cp (i := c.h) (by show c.h < c.n; exact hhn)
            have du : w2.cell? ⟨vb, c.h, none⟩ = some (.bool (c.u c.h)) := k2.cu (i := c.h) (by show c.h < c.n; exact hhn)
            have fu : w2.frozen? ⟨vb, c.h, none⟩ = false := k2.ru.frozen _
            have H2 := Lib.hid k2
            have HK2 := Lib.hid kk
            clear e0 e1 e2 ef k2 kk HC HK hz
            by_cases h0 : c.p c.h = 0
            · have HH0 := Lib.hid h0
              rw [h0] at dp
              clear h0
              cases hu : c.u c.h with
              | false =>
                rw [hu] at du
                have HU := Lib.hid hu
                clear hu
                go_wp2_with fail
                go_ret2
                have := HG.out
                rw [CS.go, if_pos HH0.out, if_neg (by rw [HU.out]; decide)] at this
                obtain rfl := Option.some.inj this
                rw [HV.out.1, HV.out.2.1, HV.out.2.2]
                exact ⟨rfl, H2.out, HK2.out⟩
              | true =>
                rw [hu] at du
                have HU := Lib.hid hu
                clear hu
                go_wp2_with fail
                go_roundg g
                case measure => omega
                case rel =>
                  have := HG.out
                  rw [CS.go, if_pos HH0.out, if_pos HU.out] at this
                  exact ⟨_, H2.out.setU false, this, HK2.out.next (Kept.thr_v _ _)⟩
            · have hp0 : 0 < c.p c.h := by omega
              have HH0 := Lib.hid h0
              clear h0
              go_wp2_with fail
              go_roundg g
              case measure => omega
              case rel =>
                have := HG.out
                rw [CS.go, if_neg HH0.out] at this
                exact ⟨_, H2.out, this, HK2.out⟩
end
end Go.Proofs.Ytnaoibohilpcgaa
