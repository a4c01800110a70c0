/-
  What the pool's own small functions come to: made, find, told, lay, hold.
-/
import Derived.Test.YtgkdlbcpckdmkaaPool
import Derived.Test.YtgkdlbcpckdmkaaClone
namespace Go.Proofs.Ytgkdlbcpckdmkaa
open Go.RowKit

set_option maxRecDepth 20000 in
theorem made_yes (w : World) (pb db : Nat) (c0 : w.cell? ⟨pb, 0, none⟩ = some (.pointer (some ⟨db, 0, none⟩))) :
    Calls Try.prog 24 #[.pointer (some ⟨pb, 0, none⟩)] w fun e w' => e = .returned (.bool true) ∧ w = w' := by
  go_enter Try.func24, Try.ntmps24
  go_wp2_with fail
  go_ret
  exact ⟨rfl, rfl⟩

set_option maxRecDepth 20000 in
theorem made_no (w : World) : Calls Try.prog 24 #[.pointer none] w fun e w' => e = .returned (.bool false) ∧ w = w' := by
  go_enter Try.func24, Try.ntmps24
  go_wp2_with fail
  go_ret
  exact ⟨rfl, rfl⟩

set_option maxRecDepth 20000 in
theorem told_any (A : Option Addr) (n c R : Nat) (l : List UInt8) (w : World) (hx : Bys w R A l) (e : l.length = n) (hn : n ≤ 1000000) (hz : A = none → n = 0 ∧ c = 0) :
    Calls Try.prog 30 #[.slice A n c] w (Owned w.heap.size w l) := by
  have HC := Lib.hid (clone_all A n c R l w hx e hn hz)
  clear hx e hn hz
  go_enter Try.func30, Try.ntmps30
  go_wp2_with fail
  refine HC.out.mono ?_
  rintro e w1 ⟨v1, rfl, o1, b1⟩
  have HO := Lib.hid o1
  have HB := Lib.hid b1
  clear o1 b1
  go_wp2_with fail
  go_ret
  exact ⟨v1, rfl, HO.out, HB.out⟩

/-- What lay leaves: bytes of its own, behind the pointer. -/
def LayEnd (w : World) (fb o : Nat) (l : List UInt8) (e : Ending) (w' : World) : Prop :=
  ∃ v w1, e = .returned (.tuple #[]) ∧ Own w1 w.heap.size v l ∧ Below w.heap.size w w1 ∧ w' = w1.setCell ⟨fb, o, none⟩ v

set_option maxRecDepth 20000 in
theorem play_any (fb o : Nat) (A : Option Addr) (n c R : Nat) (l : List UInt8) (u : Value) (w : World) (hx : Bys w R A l) (e : l.length = n) (hn : n ≤ 1000000) (hz : A = none → n = 0 ∧ c = 0)
    (cc : w.cell? ⟨fb, o, none⟩ = some u) (cf : w.frozen? ⟨fb, o, none⟩ = false) :
    Calls Try.prog 44 #[.pointer (some ⟨fb, o, none⟩), .slice A n c] w (LayEnd w fb o l) := by
  have HC := Lib.hid (clone_all A n c R l w hx e hn hz)
  have lt : fb < w.heap.size := World.block_lt_of_cell? _ _ cc
  clear hx e hn hz
  go_enter Try.func44, Try.ntmps44
  go_wp2_with fail
  refine HC.out.mono ?_
  rintro e w1 ⟨v1, rfl, o1, b1⟩
  have d1 := (b1.cell (p := ⟨fb, o, none⟩) lt).trans cc
  have d2 := (b1.frozen (p := ⟨fb, o, none⟩) lt).trans cf
  obtain ⟨A1, c1, rfl, -, -⟩ := own_slice o1
  have HO := Lib.hid o1
  have HB := Lib.hid b1
  clear o1 b1 cc cf
  go_wp2_with fail
  go_end0
  exact ⟨_, w1, rfl, HO.out, HB.out, rfl⟩

section
variable {F D : Nat → Prop} {pb fb cb rb db : Nat} {g : Nat → Value} {s : PP}

/-- What find answers. -/
def findA (o : Option Nat) : Value := .tuple #[.int .i64 ((o.getD 0 : Nat) : Int), .bool o.isSome]

theorem find_here {s : PP} {n : Int} {k : Nat} (hf : Fit s) (hk : k < s.m) (hu : s.ful k = true) (hs : s.sec k = n) (hp : ∀ j, j < k → ¬ (s.ful j = true ∧ s.sec j = n)) : s.find n = some k := by
  have hat : ∀ j, s.ful j = true → s.at_ j ≠ -1 ∧ s.sec j = s.at_ j := fun j hj => by
    have h1 : s.at_ j ≠ -1 := by
      unfold PP.ful at hj
      simpa using hj
    exact ⟨h1, by unfold PP.sec; rw [if_neg h1]⟩
  have h1 := hat k hu
  have hn : 0 ≤ n := by
    rcases hf.rng k hk with e | e
    · exact absurd e h1.1
    · have := (s.k.has_at _).1 e
      omega
  unfold PP.find PP.first
  rw [if_neg (by omega), List.find?_range_eq_some]
  refine ⟨by rw [← hs, h1.2]; simp, List.mem_range.2 hk, fun j hj => ?_⟩
  have h2 := hp j hj
  by_cases e : s.at_ j = n
  · refine absurd ⟨?_, ?_⟩ h2
    · unfold PP.ful
      simp [e]
      omega
    · unfold PP.sec
      rw [if_neg (by omega), e]
  · simpa using e

theorem find_nowhere {s : PP} {n : Int} (hp : ∀ j, j < s.m → ¬ (s.ful j = true ∧ s.sec j = n)) : s.find n = none := by
  unfold PP.find PP.first
  split
  · rfl
  · rw [List.find?_eq_none]
    intro j hj h
    have e : s.at_ j = n := by simpa using h
    refine hp j (List.mem_range.1 hj) ⟨?_, ?_⟩
    · unfold PP.ful
      simp [e]
      omega
    · unfold PP.sec
      rw [if_neg (by omega), e]

set_option maxRecDepth 20000 in
set_option maxHeartbeats 1600000 in
theorem find_any (w : World) (n : Int) (h : PoolAt w F D pb fb cb rb db g s) :
    Calls Try.prog 26 #[.pointer (some ⟨pb, 0, none⟩), .int .i64 n] w fun e w' => e = .returned (findA (s.find n)) ∧ w = w' := by
  have hm := h.core.m1.2
  have c1 := h.core.c1
  have H := Lib.hid h
  clear h
  go_enter Try.func26, Try.ntmps26
  go_wp2_with fail
  go_loopw [13] (fun i wr => ∃ k : Nat, k ≤ s.m ∧ i = .int .i64 k ∧ Hid (∀ j, j < k → ¬ (s.ful j = true ∧ s.sec j = n)) ∧ w = wr) (fun i _ => s.m - (RowKit.intOf i).toNat)
  case atStart => exact ⟨0, Nat.zero_le _, rfl, Lib.hid (fun j hj => by omega), rfl⟩
  case round =>
    obtain ⟨k, hk, rfl, hpre, rfl⟩ := hrel
    by_cases hlt : k < s.m
    · have d1 := H.out.s1 hlt
      have d2 := H.out.s2 hlt
      by_cases hu : s.ful k = true
      · rw [hu] at d2
        by_cases hs : s.sec k = n
        · rw [hs] at d1
          have HE := Lib.hid (find_here H.out.fit hlt hu hs hpre.out)
          clear hu hs
          go_wp2_with fail
          go_ret2
          refine ⟨?_, rfl⟩
          rw [HE.out]
          rfl
        · have HP : Hid (∀ j, j < k + 1 → ¬ (s.ful j = true ∧ s.sec j = n)) := fun j hj => by
            rcases Nat.lt_or_ge j k with e | e
            · exact hpre.out j e
            · obtain rfl : j = k := by omega
              exact fun h2 => hs h2.2
          have hs' : (s.sec k == n) = false := by simpa using hs
          clear hs hu hpre
          go_wp2_with fail
          go_roundw
          case rel => exact ⟨k + 1, by omega, by go_num, HP, trivial⟩
          case measure => simp [RowKit.intOf]; omega
      · have hu' : s.ful k = false := by simpa using hu
        rw [hu'] at d2
        have HP : Hid (∀ j, j < k + 1 → ¬ (s.ful j = true ∧ s.sec j = n)) := fun j hj => by
          rcases Nat.lt_or_ge j k with e | e
          · exact hpre.out j e
          · obtain rfl : j = k := by omega
            exact fun h2 => hu h2.1
        clear hu hu' hpre
        go_wp2_with fail
        go_roundw
        case rel => exact ⟨k + 1, by omega, by go_num, HP, trivial⟩
        case measure => simp [RowKit.intOf]; omega
    · obtain rfl : k = s.m := by omega
      have HE := Lib.hid (find_nowhere hpre.out)
      clear hpre
      go_wp2_with fail
      go_ret2
      refine ⟨?_, rfl⟩
      rw [HE.out]
      rfl
end
end Go.Proofs.Ytgkdlbcpckdmkaa
