/-
  What known comes to: the pages of both lists.
-/
import Derived.Test.YtlldmefjhgahdaaSBox
import Derived.Test.YtlldmefjhgahdaaSPages
import Derived.Test.YtlldmefjhgahdaaSJoinI
import Derived.Test.YtlldmefjhgahdaaSPlace
import Derived.Deep.RegionHeld3
namespace Go.Proofs.Ytlldmefjhgahdaa
open Go.RowKit

theorem pages_vals (s : SS) (A B : Option Addr) (n c m d : Nat) : pcs [⟨A, n, c, intVals s.fr⟩, ⟨B, m, d, intVals (s.pe.map (·.2))⟩] = intVals s.pages := by
  unfold pcs SS.pages
  rw [sIntVals_append]
  simp

theorem own_base_low {w : World} {base base' n sz : Nat} {e : TypeId} {v : Value} {xs : List Value} (h : w.ownsRow base e sz v n xs) (hb : base' ≤ base) : w.ownsRow base' e sz v n xs := by
  refine ⟨h.1, ?_⟩
  rcases h.2 with h2 | ⟨g, cap, cur, h2, h3, h4⟩
  · exact Or.inl h2
  · exact Or.inr ⟨g, cap, cur, h2, by omega, h4⟩

set_option maxRecDepth 20000 in
set_option maxHeartbeats 3200000 in
theorem known_any (s : SS) (h : Int) (A B : Option Addr) (n c m d : Nat) (w : World) (hs : Sp w A n c B m d s) (hn : n ≤ 400000) (hm : m ≤ 400000) :
    Calls Try.prog 53 #[.agg #[.int .i64 h, .slice A n c, .slice B m d]] w (JoinEnd w 3 1 (n + m) (intVals s.pages)) := by
  have HS := Lib.hid (hs.kept ((below_one w (.cells #[.int .i64 h, .slice A n c, .slice B m d] 26)).drew))
  have HB := Lib.hid ((box_new w (.int .i64 h) (.slice A n c) (.slice B m d)).kept ((Below.refl _ _).drew))
  have B1 := Lib.hid ((below_one w (.cells #[.int .i64 h, .slice A n c, .slice B m d] 26)).drew)
  have HV := Lib.hid (pages_vals s)
  clear hs
  go_enter Try.func53, Try.ntmps53
  go_wp2_with fail
  generalize w.alloc (.cells #[.int .i64 h, .slice A n c, .slice B m d] 26) = w0 at *
  have K0 : w0.drew.cell? ⟨w.heap.size, 1, none⟩ = some (.slice A n c) ∧ w0.drew.cell? ⟨w.heap.size, 2, none⟩ = some (.slice B m d) := HB.out.cells.2
  obtain ⟨x1, x2⟩ := K0
  have K0 : w0.drew.cell? ⟨w.heap.size, 1, none⟩ = some (.slice A n c) ∧ w0.drew.cell? ⟨w.heap.size, 2, none⟩ = some (.slice B m d) := HB.out.cells.2
  go_region_held3 (fun w' => w'.cell? ⟨w.heap.size, 1, none⟩ = some (.slice A n c) ∧ w'.cell? ⟨w.heap.size, 2, none⟩ = some (.slice B m d))
    (first | exact K3 | exact K2 | exact K1 | exact K0)
    (first
      | (go_at_call 38; refine (pagesOf_any B m d s.pe w0.drew HS.out.pe (by omega)).mono ?_; rintro e w1 ⟨v1, rfl, o1, b1⟩; obtain ⟨A1, c1, rfl, hc1, l1⟩ := Ln.of_own o1; have K1 := (HB.out.kept b1).cells.2; have K2 := ((HB.out.kept b1).kept (below_one _ (.cells #[.slice A n c, .slice A1 m c1] 23))).cells.2; have P2 := pile_two (HS.out.fr.kept b1) (intVals_one _) l1 (intVals_one _) 23)
      | (go_at_call 31; refine (join_I _ 2 2 (n + m) _ _ P2 rfl (by simp [tot]) (by omega) (by decide)).mono ?_; rintro e w2 ⟨v2, rfl, o2, b2⟩; have K3 := (((HB.out.kept b1).kept (below_one _ (.cells #[.slice A n c, .slice A1 m c1] 23))).kept b2).cells.2))
  rw [HV.out] at o2
  have B2 := Lib.hid (B1.out.trans (b1.mono B1.out.size))
  have B3 := Lib.hid ((B2.out.alloc B2.out.size (.cells #[.slice A n c, .slice A1 m c1] 23)).trans (b2.mono (B2.out.alloc B2.out.size (.cells #[.slice A n c, .slice A1 m c1] 23)).size))
  have O2 := Lib.hid o2
  clear K0 K1 K2 K3 x1 x2 P2 o2 b1 b2 o1 l1
  go_wp2_with fail
  go_ret
  exact ⟨_, rfl, own_base_low O2.out (B2.out.alloc B2.out.size (.cells #[.slice A n c, .slice A1 m c1] 23)).size, B3.out⟩
end Go.Proofs.Ytlldmefjhgahdaa
