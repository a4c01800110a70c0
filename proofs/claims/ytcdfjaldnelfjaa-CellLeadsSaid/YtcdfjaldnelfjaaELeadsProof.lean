/-
  CellLeads answers true, whatever node and key: a kid leads to just the keys that are not before the key ahead of it, and before the key behind it. Conditions: none.
-/
import Derived.Test.YtcdfjaldnelfjaaRows
import Derived.Test.YtcdfjaldnelfjaaEAwake
import Derived.Test.YtcdfjaldnelfjaaEMid
import Derived.Test.YtcdfjaldnelfjaaERFind
namespace Go.Proofs.Ytcdfjaldnelfjaa.cellLeads
open Go.ChangeShapes Go.WideShapes Go.ChangeAt Go.RowKit

set_option maxRecDepth 20000 in
set_option maxHeartbeats 6400000 in
theorem walk {W : World} (s : ND) (A : Option Addr) (n c : Nat) (B : Option Addr) (m d : Nat) (C : Option Addr) (k ec : Nat) (hs : Nd W A n c B m d C k ec s) (x : ByteArray) :
    Calls Try.prog 10 #[.agg #[.bool s.leaf, .slice A n c, .slice B m d, .slice C k ec], .string x] W fun e w' => e = .returned (.bool true) ∧ Below W.heap.size W w' := by
  have b0 := below_one W (.cells #[.bool s.leaf, .slice A n c, .slice B m d, .slice C k ec] 25)
  have M0 : Hid (Mid W (W.alloc (.cells #[.bool s.leaf, .slice A n c, .slice B m d, .slice C k ec] 25)) s A n c B m d C k ec) := Lib.hid ⟨nbox_new W _ _ _ _, hs.kept b0, b0⟩
  clear hs b0
  go_enter Try.func10, Try.ntmps10
  go_upto_region 1 with fail
  generalize W.alloc (.cells #[.bool s.leaf, .slice A n c, .slice B m d, .slice C k ec] 25) = w0 at *
  go_wp2_with fail
  refine (awake_any _).mono ?_
  rintro e w1 ⟨rfl, b1⟩
  have M1 := Lib.hid (M0.out.next b1)
  obtain ⟨c0, c1, c2, c3⟩ := M1.out.box.cells
  clear b1 M0
  go_wp2_with fail
  refine (may_any _ A n c B m d C k ec s w1 M1.out.nd rfl).mono ?_
  rintro e w2 ⟨r, rfl, hr, b2⟩
  have M2 := Lib.hid (M1.out.next b2)
  have HR := Lib.hid hr
  clear b2 hr c0 c1 c2 c3 M1
  obtain ⟨c0, c1, c2, c3⟩ := M2.out.box.cells
  cases r with
  | false =>
    go_wp2_with fail
    go_ret
    exact ⟨rfl, M2.out.below⟩
  | true =>
  obtain ⟨hsm, hok⟩ := HR.out rfl
  have h1 : n ≤ 300 := by rw [← M2.out.nd.kn]; exact hsm.1
  have HO := Lib.hid hok
  clear hsm hok HR
  cases hl : s.leaf with
  | true =>
    rw [hl] at c0
    clear hl
    go_wp2_with fail
    go_ret
    exact ⟨rfl, M2.out.below⟩
  | false =>
  rw [hl] at c0
  have HL := Lib.hid hl
  clear hl
  go_wp2_with fail
  refine (kid_any false A n c B m d C k ec s x w2 M2.out.nd (ND.ok_rise HO.out) (by omega)).mono ?_
  rintro e w3 ⟨rfl, b3⟩
  have M3 := Lib.hid (M2.out.next b3)
  clear b3 c0 c1 c2 c3 M2
  obtain ⟨c0, c1, c2, c3⟩ := M3.out.box.cells
  obtain ⟨p, hp⟩ : ∃ p, ND.kidN x.toList s.keys = p := ⟨_, rfl⟩
  have hpn : p ≤ n := by rw [← hp, ← M3.out.nd.kn]; exact ND.kidN_le _ _
  have HA : Hid (∀ i t, i < p → s.keys[i]? = some t → Op.bytesLess x.toList t = false) := Lib.hid (fun i t hi ht => ND.kidN_before (by rw [hp]; exact hi) ht)
  have HZ : Hid (∀ t, s.keys[p]? = some t → Op.bytesLess x.toList t = true) := Lib.hid (fun t ht => ND.kidN_behind (by rw [hp]; exact ht))
  rw [hp]
  clear hp
  have hq0 : decide ((p : Int) < 0) = false := decide_eq_false (by omega)
  have hq1 : decide ((n : Int) < (p : Int)) = false := decide_eq_false (by omega)
  go_upto_region 7 with fail
  by_cases hp0 : p = 0
  case pos =>
    subst hp0
    by_cases hn0 : n = 0
    case pos =>
      subst hn0
      go_wp2_with fail
      go_ret
      exact ⟨rfl, M3.out.below⟩
    case neg =>
      obtain ⟨b, off, t, rfl, hv, ct⟩ := M3.out.nd.ke.strAt (show 0 < n by omega)
      have hz := HZ.out _ hv
      have e1 : ((0 : Int) == (n : Int)) = false := by rw [beq_eq_false_iff_ne]; omega
      rw [Nat.add_zero] at ct
      have hn1 : (0 : Int) < (n : Int) := by omega
      clear hv hn0
      go_wp2_with fail
      go_ret
      exact ⟨rfl, M3.out.below⟩
  case neg =>
    obtain ⟨b, off, u, rfl, hu, cu⟩ := M3.out.nd.ke.strAt (show p - 1 < n by omega)
    have ha := HA.out _ _ (by omega) hu
    have hq := leq_less u.toList x.toList
    rw [ha] at hq
    have e0 : ((p : Int) == 0) = false := by rw [beq_eq_false_iff_ne]; omega
    have i1 : (0 : Int) ≤ (p : Int) - 1 := by omega
    have i2 : ((p : Int) - 1).toNat = p - 1 := by omega
    have i3 : (p : Int) - 1 < n := by omega
    have i4 : p - 1 < n := by omega
    clear hu ha hp0
    by_cases hpe : p = n
    case pos =>
      subst hpe
      have e1 : ((p : Int) == (p : Int)) = true := beq_self_eq_true _
      go_wp2_with fail
      go_ret
      exact ⟨rfl, M3.out.below⟩
    case neg =>
      obtain ⟨b', off', t, eA, hv, ct⟩ := M3.out.nd.ke.strAt (show p < n by omega)
      injection eA with eA
      injection eA with eb eo _
      subst eb
      subst eo
      have hz := HZ.out _ hv
      have e1 : ((p : Int) == (n : Int)) = false := by rw [beq_eq_false_iff_ne]; omega
      have j1 : (0 : Int) ≤ (p : Int) := by omega
      have j2 : (p : Int) < (n : Int) := by omega
      clear hv hpe
      go_wp2_with fail
      go_ret
      exact ⟨rfl, M3.out.below⟩

set_option maxRecDepth 100000 in
theorem lifted (os : Os) (started : os.Started) (H : Type) (enc : TypeId × Value → H) :
    ReturnsInHanded {} Try.checked os 10 .any (Rows.cellLeadsSpec.pre6 enc Try.prog Try.f10 Rows.cellLeadsRow.domain false)
      (Rows.cellLeadsSpec.post enc Try.prog Try.f10 false true false false) := by
  refine lift_law (C := Try.checked) (tb := 4) ownKnobs started (by kernel_rfl) Try.func10
    (ChangeSpec.witness6 (enc := enc) (C := Try.checked) false ⟨#[], #[.agg #[.bool false, .slice none 0 0, .slice none 0 0, .slice none 0 0], .string ⟨#[]⟩], []⟩ 8 (by kernel_rfl) (by kernel_rfl) (by kernel_rfl) (by kernel_rfl))
    laidOut ?_ rfl rfl Try.underlying4 ?_ ?_
  · intro t ht
    rw [Try.params10] at ht
    simp only [List.mem_cons, List.not_mem_nil, or_false] at ht
    rcases ht with rfl | rfl <;> exact ⟨by kernel_rfl, of_decide_eq_true (by kernel_rfl)⟩
  · intro vs ds W p hA
    rw [Try.params10] at hA
    obtain ⟨v0, vs0, d0, ds0, p0, q0, ha, rfl, rfl, h0, r0⟩ := trodAll_cons hA
    obtain ⟨v1, vs1, d1, ds1, p1, q1, rfl, rfl, rfl, h1, r1⟩ := trodAll_cons r0
    obtain ⟨rfl, rfl, rfl⟩ := trodAll_nil r1
    rfl
  · intro W base args ds p hval hA
    rw [Try.params10] at hA hval
    obtain ⟨v0, vs0, d0, ds0, p0, q0, ha, rfl, rfl, h0, r0⟩ := trodAll_cons hA
    obtain ⟨v1, vs1, d1, ds1, p1, q1, rfl, rfl, rfl, h1, r1⟩ := trodAll_cons r0
    obtain ⟨rfl, rfl, rfl⟩ := trodAll_nil r1
    obtain rfl : args = #[v0, v1] := by cases args; simp_all
    obtain ⟨s0, A0, n0, c0, B0, m0, d0, C0, k0, e0, rfl, hs0, _⟩ := open_node (hval 0 _ v0 rfl rfl) h0
    obtain ⟨t1, rfl⟩ := open_text (hval 1 _ v1 rfl rfl) h1
    exact walk s0 A0 n0 c0 B0 m0 d0 C0 k0 e0 hs0 t1

/-- The statement. -/
theorem proved : Rows.CellLeadsSaid :=
  OpenClaim.holds_of_wide 10 Try.f10 rfl rfl rfl rfl rfl rfl rfl ⟨rfl, rfl, rfl, rfl, rfl⟩ rfl rfl rfl rfl rfl (by kernel_rfl) Try.func10 (by kernel_rfl)
    (of_decide_eq_true (by kernel_rfl)) (by unfold Func.isWrapper; first | (rw [if_pos (by decide +kernel)]; kernel_rfl) | (rw [if_neg (by decide +kernel)]; exact ⟨rfl, rfl⟩))
    (fun os started H enc _ => lifted os started H enc)
#print axioms proved
end Go.Proofs.Ytcdfjaldnelfjaa.cellLeads
