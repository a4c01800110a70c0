/-
  Lists of lists of bytes in memory; slices.EqualFunc at them, with bytes.Equal.
-/
import Derived.Test.YtlldmefjhgahdaaSMem
import Derived.Test.YtlldmefjhgahdaaFEqB
namespace Go.Proofs.Ytlldmefjhgahdaa
open Go.RowKit

/-- Lists of bytes, at address A. -/
def Bps (w : World) (A : Option Addr) (ps : List (List UInt8)) : Prop :=
  ps = [] ∨ ∃ b off, A = some ⟨b, off, none⟩ ∧ ∀ i p, ps[i]? = some p → ∃ A' c', w.cell? ⟨b, off + i, none⟩ = some (.slice A' p.length c') ∧ Ln w 1 A' p.length c' (bv p)

section
variable {w w' : World} {A : Option Addr} {ps : List (List UInt8)}
theorem Bps.kept (h : Bps w A ps) (hb : Below w.heap.size w w') : Bps w' A ps := by
  rcases h with rfl | ⟨b, off, rfl, hc⟩
  · exact Or.inl rfl
  · refine Or.inr ⟨b, off, rfl, fun i p hp => ?_⟩
    obtain ⟨A', c', h1, h2⟩ := hc i p hp
    exact ⟨A', c', (hb.cell (p := ⟨b, _, none⟩) (World.block_lt_of_cell? _ _ h1)).trans h1, h2.kept hb⟩
theorem Bps.at_ (h : Bps w A ps) {k : Nat} (hk : k < ps.length) :
    ∃ b off p A' c', A = some ⟨b, off, none⟩ ∧ ps[k]? = some p ∧ w.cell? ⟨b, off + k, none⟩ = some (.slice A' p.length c') ∧ Ln w 1 A' p.length c' (bv p) := by
  rcases h with rfl | ⟨b, off, rfl, hc⟩
  · exact absurd hk (by simp)
  · obtain ⟨A', c', h1, h2⟩ := hc k _ (List.getElem?_eq_getElem hk)
    exact ⟨b, off, ps[k], A', c', rfl, List.getElem?_eq_getElem hk, h1, h2⟩
theorem Ln.bys {n c : Nat} {l : List UInt8} (h : Ln w 1 A n c (bv l)) : Bys w w.heap.size A l := by
  rcases l with _ | ⟨z, l⟩
  · exact Or.inl rfl
  · obtain ⟨b, off, rfl, hb⟩ := h.spot (by simp [bv])
    exact Or.inr ⟨b, off, rfl, hb, fun i z hz => h.cell (by rw [bv, List.getElem?_map, hz]; rfl)⟩
theorem Ln.byteN {n c : Nat} {l : List UInt8} (h : Ln w 1 A n c (bv l)) : l.length = n := by
  have := h.len
  rw [bv_length] at this
  omega
theorem Ln.byteTake {n c : Nat} {l : List UInt8} (h : Ln w 1 A n c (bv l)) {k : Nat} (hk : k ≤ n) : Ln w 1 A k c (bv (l.take k)) := by
  have := h.take hk
  rw [Nat.mul_one, bv, ← List.map_take] at this
  exact this
theorem Ln.byteDrop {n c b off : Nat} {l : List UInt8} (h : Ln w 1 (some ⟨b, off, none⟩) n c (bv l)) {k : Nat} (hk : k ≤ n) : Ln w 1 (some ⟨b, off + k, none⟩) (n - k) (c - k) (bv (l.drop k)) := by
  have := h.drop hk
  rw [Nat.mul_one, bv, ← List.map_drop] at this
  exact this
theorem Ln.cap {n c d : Nat} {sz : Nat} {cs : List Value} (h : Ln w sz A n c cs) (hd : n ≤ d) (hz : A = none → d = 0) : Ln w sz A n d cs := ⟨h.len, hd, fun e => ⟨(h.lies.1 e).1, hz e⟩, h.lies.2⟩
end

theorem bps_more {ps qs : List (List UInt8)} {k : Nat} {p : List UInt8} (h : ps.take k = qs.take k) (hp : ps[k]? = some p) (hq : qs[k]? = some p) : ps.take (k + 1) = qs.take (k + 1) := take_more h hp hq

set_option maxRecDepth 20000 in
set_option maxHeartbeats 1600000 in
theorem equalF_any (A B : Option Addr) (n c m d : Nat) (ps qs : List (List UInt8)) (w : World) (ha : Bps w A ps) (hb : Bps w B qs) (hn : ps.length = n) (hm : qs.length = m) (hn2 : n ≤ 1000000) :
    Calls Try.prog 45 #[.slice A n c, .slice B m d, .func (.func 46) #[] #[]] w fun e w' => e = .returned (.bool (decide (ps = qs))) ∧ w' = w := by
  have HA := Lib.hid ha
  have HB := Lib.hid hb
  have HN := Lib.hid hn
  have HM := Lib.hid hm
  clear ha hb
  by_cases hl : n = m
  · have hl' : ((n : Int) != (m : Int)) = false := by simp [hl]
    have HL := Lib.hid hl
    clear hn hm
    go_enter Try.func45, Try.ntmps45
    clear hl
    go_wp2_with fail
    obtain ⟨wo, rfl⟩ : ∃ wo : World, wo = w := ⟨_, rfl⟩
    go_loopw [17] (fun i wr => ∃ k : Nat, k ≤ n ∧ i = .int .i64 k ∧ Hid (ps.take k = qs.take k) ∧ wr = wo) (fun i _ => n - (intOf i).toNat)
    case atStart => exact ⟨0, Nat.zero_le _, rfl, Lib.hid (by simp), rfl⟩
    case round =>
      obtain ⟨k, hk, rfl, hpre, hw⟩ := hrel
      have hw' := hw.symm
      subst hw'
      clear hw
      by_cases hlt : k < n
      · obtain ⟨b, off, p, A', c', rfl, hp, c0, l0⟩ := HA.out.at_ (k := k) (by rw [HN.out]; exact hlt)
        have hlt2 : k < m := by rw [← HL.out]; exact hlt
        obtain ⟨b2, off2, q, B', d', rfl, hq, c1, l1⟩ := HB.out.at_ (k := k) (by rw [HM.out]; exact hlt2)
        have HP := Lib.hid hp
        have HQ := Lib.hid hq
        have HE := Lib.hid (bytesEqual_any l0.bys l1.bys p.length c' q.length d' rfl rfl)
        clear hp hq l0 l1
        by_cases hpq : p = q
        · subst hpq
          have HE2 := HE.out
          rw [show decide (p = p) = true from decide_eq_true rfl] at HE2
          have HE3 := Lib.hid HE2
          clear HE HE2
          go_wp2_with fail
          refine HE3.out.mono ?_
          rintro e w1 ⟨rfl, rfl⟩
          have HX := Lib.hid (bps_more hpre.out HP.out HQ.out)
          clear HE3 c0 c1 HP HQ hpre
          go_wp2_with fail
          go_roundw
          case rel => exact ⟨k + 1, by omega, by go_num, HX, trivial⟩
          case measure => simp [intOf]; omega
        · have HE2 := HE.out
          rw [decide_eq_false hpq] at HE2
          have HE3 := Lib.hid HE2
          have HX : Hid (decide (ps = qs) = false) := Lib.hid (decide_eq_false (fun e => hpq (by have h1 := HP.out; rw [e, HQ.out] at h1; exact (Option.some.inj h1).symm)))
          clear HE HE2 hpq
          go_wp2_with fail
          refine HE3.out.mono ?_
          rintro e w1 ⟨rfl, rfl⟩
          go_wp2_with fail
          go_ret
          exact ⟨ret_bool HX.out.symm, rfl⟩
      · obtain rfl : n = k := by omega
        have HX : Hid (decide (ps = qs) = true) := Lib.hid (decide_eq_true (by
          have := hpre.out
          rw [List.take_of_length_le (by rw [HN.out]; exact Nat.le_refl _), List.take_of_length_le (by rw [HM.out, HL.out]; exact Nat.le_refl _)] at this
          exact this))
        go_wp2_with fail
        go_ret
        exact ⟨ret_bool HX.out.symm, rfl⟩
  · have hl' : ((n : Int) != (m : Int)) = true := by simp; omega
    have HX : Hid (decide (ps = qs) = false) := Lib.hid (decide_eq_false (fun e => hl (by rw [← hn, ← hm, e])))
    clear hn hm
    go_enter Try.func45, Try.ntmps45
    clear hl
    go_wp2_with fail
    go_ret
    exact ⟨ret_bool HX.out.symm, rfl⟩
end Go.Proofs.Ytlldmefjhgahdaa
