/-
  NodeTells answers true, whatever node: whether it may be, its size, and its bytes, are what the document says, or its error. Conditions: none.
-/
import Derived.Test.YtgnlmbelaempcaaRows
import Derived.Test.YtgnlmbelaempcaaNAwake
import Derived.Test.YtgnlmbelaempcaaNFew
import Derived.Test.YtgnlmbelaempcaaNLaw
import Derived.Test.YtgnlmbelaempcaaNREnc
import Derived.Deep.RegionHeld3
namespace Go.Proofs.Ytgnlmbelaempcaa.nodeTells
open Go.ChangeShapes Go.WideShapes Go.ChangeAt Go.RowKit

/-- What stays: the argument's block. -/
structure Mid (W w : World) (s : ND) (A : Option Addr) (n c : Nat) (B : Option Addr) (m d : Nat) (C : Option Addr) (k e : Nat) : Prop where
  box : NBox w W.heap.size (.bool s.leaf) (.slice A n c) (.slice B m d) (.slice C k e)
  nd : Nd w A n c B m d C k e s
  below : Below W.heap.size W w
theorem Mid.next {W w w' : World} {s : ND} {A B C : Option Addr} {n c m d k e : Nat} (h : Mid W w s A n c B m d C k e) (b : Below w.heap.size w w') : Mid W w' s A n c B m d C k e :=
  ⟨h.box.kept b, h.nd.kept b, chainN b h.below⟩

set_option maxRecDepth 20000 in
set_option maxHeartbeats 6400000 in
theorem walk {W : World} (s : ND) (A : Option Addr) (n c : Nat) (B : Option Addr) (m d : Nat) (C : Option Addr) (k ec : Nat) (hs : Nd W A n c B m d C k ec s) :
    Calls Try.prog 4 #[.agg #[.bool s.leaf, .slice A n c, .slice B m d, .slice C k ec]] W fun e w' => e = .returned (.bool true) ∧ Below W.heap.size W w' := by
  have b0 := below_one W (.cells #[.bool s.leaf, .slice A n c, .slice B m d, .slice C k ec] 26)
  have M0 : Hid (Mid W (W.alloc (.cells #[.bool s.leaf, .slice A n c, .slice B m d, .slice C k ec] 26)) s A n c B m d C k ec) := Lib.hid ⟨nbox_new W _ _ _ _, hs.kept b0, b0⟩
  clear hs b0
  go_enter Try.func4, Try.ntmps4
  go_upto_region 1 with fail
  generalize W.alloc (.cells #[.bool s.leaf, .slice A n c, .slice B m d, .slice C k ec] 26) = w0 at *
  go_wp2_with fail
  refine (awake_any _).mono ?_
  rintro e w1 ⟨rfl, b1⟩
  have M1 := Lib.hid (M0.out.next b1)
  obtain ⟨c0, c1, c2, c3⟩ := M1.out.box.cells
  clear b1 M0
  go_wp2_with fail
  refine (nfew_any _ A n c B m d C k ec s w1 M1.out.nd).mono ?_
  rintro e w2 ⟨r, rfl, hr, b2⟩
  have M2 := Lib.hid (M1.out.next b2)
  clear b2 M1 c0 c1 c2 c3
  obtain ⟨c0, c1, c2, c3⟩ := M2.out.box.cells
  cases r with
  | false =>
    clear hr
    go_wp2_with fail
    go_ret
    exact ⟨rfl, M2.out.below⟩
  | true =>
    have hS := hr rfl
    have HSm := Lib.hid hS
    clear hr hS
    have hn : n ≤ 300 := by have := HSm.out.1; rw [M2.out.nd.kn] at this; exact this
    have hmm : m ≤ 300 := by have := HSm.out.2.1; rw [M2.out.nd.vn] at this; exact this
    have hkk : k ≤ 300 := by have := HSm.out.2.2.1; rw [M2.out.nd.cn] at this; exact this
    have HZZ : Hid (s.size ≤ 200000) := Lib.hid HSm.out.size
    go_wp2_with fail
    refine (nencode_any s.leaf A n c B m d C k ec s w2 M2.out.nd rfl (by have := HZZ.out; omega)).mono ?_
    rintro e w3 ⟨v3, rfl, o3, b3⟩
    have M3 := Lib.hid (M2.out.next b3)
    obtain ⟨A3, c3', rfl, _, _, _, y3⟩ := Bys.of_own o3
    clear b3 M2 o3 c0 c1 c2 c3
    obtain ⟨E, hE⟩ : ∃ E, s.encB = E := ⟨_, rfl⟩
    obtain ⟨N, hN⟩ : ∃ N, E.length = N := ⟨_, rfl⟩
    obtain ⟨K, hK⟩ : ∃ K, s.encK = K := ⟨_, rfl⟩
    obtain ⟨G, hG⟩ : ∃ G, s.encE = G := ⟨_, rfl⟩
    rw [hE] at y3 ⊢
    rw [hN, hK, hG]
    have Y3 := Lib.hid y3
    have HE := Lib.hid hE
    have HN := Lib.hid hN
    have HK := Lib.hid hK
    have HG := Lib.hid hG
    clear hE hN hK hG y3
    obtain ⟨c0, c1, c2, c3⟩ := M3.out.box.cells
    go_wp2_with fail
    refine (rencode_any s.leaf A n c B m d C k ec s w3 M3.out.nd rfl (by have := HZZ.out; omega)).mono ?_
    rintro e w4 ⟨v4, rfl, o4, b4⟩
    rw [HE.out] at o4
    rw [HK.out, HG.out]
    have M4 := Lib.hid (M3.out.next b4)
    have Y4 := Lib.hid (Y3.out.kept b4)
    obtain ⟨A4, c4', rfl, _, _, _, y4⟩ := Bys.of_own o4
    rw [HN.out]
    have Z4 := Lib.hid y4
    clear b4 M3 Y3 o4 y4 c0 c1 c2 c3
    obtain ⟨Q, hQ⟩ : ∃ Q, s.checkE = Q := ⟨_, rfl⟩
    obtain ⟨Z, hZ⟩ : ∃ Z, s.size = Z := ⟨_, rfl⟩
    have HQ := Lib.hid hQ
    have HZ := Lib.hid hZ
    clear hQ hZ
    obtain ⟨S, hS⟩ : ∃ S : ByteArray, (⟨E.toArray⟩ : ByteArray) = S := ⟨_, rfl⟩
    have HS := Lib.hid hS
    clear hS
    have KL : Hid (∀ X : World, Below w4.heap.size w4 X → Nd X A n c B m d C k ec s) := Lib.hid (fun X hb => M4.out.nd.kept hb)
    have KK : Hid (∀ X : World, Below w4.heap.size w4 X → X.cell? ⟨W.heap.size, 0, none⟩ = some (.bool s.leaf) ∧ X.cell? ⟨W.heap.size, 1, none⟩ = some (.slice A n c) ∧ X.cell? ⟨W.heap.size, 2, none⟩ = some (.slice B m d) ∧ X.cell? ⟨W.heap.size, 3, none⟩ = some (.slice C k ec) ∧ (convert 28 9 (.slice A3 N c3')).run Try.prog X = .ok (.string S) X ∧ (convert 28 9 (.slice A4 N c4')).run Try.prog X = .ok (.string S) X) := Lib.hid (fun X hb => by
      obtain ⟨h0, h1, h2, h3⟩ := (M4.out.box.kept hb).cells
      refine ⟨h0, h1, h2, h3, ?_, ?_⟩
      · rw [← HS.out]
        exact run_text (P := Try.prog) (w := X) (Y4.out.kept hb) 28 9 5 N c3' HN.out Try.underlying28 Try.underlying5 Try.underlying9
      · rw [← HS.out]
        exact run_text (P := Try.prog) (w := X) (Z4.out.kept hb) 28 9 5 N c4' HN.out Try.underlying28 Try.underlying5 Try.underlying9)
    have BD := Lib.hid ((Below.refl w4.heap.size w4).drew)
    have K0 := KK.out _ BD.out
    have BW := Lib.hid M4.out.below
    clear M4 Y4 Z4 HE HK HG
    go_wp2_with fail
    go_region_held3 (fun X => X.cell? ⟨W.heap.size, 0, none⟩ = some (.bool s.leaf) ∧ X.cell? ⟨W.heap.size, 1, none⟩ = some (.slice A n c) ∧ X.cell? ⟨W.heap.size, 2, none⟩ = some (.slice B m d) ∧ X.cell? ⟨W.heap.size, 3, none⟩ = some (.slice C k ec) ∧ (convert 28 9 (.slice A3 N c3')).run Try.prog X = .ok (.string S) X ∧ (convert 28 9 (.slice A4 N c4')).run Try.prog X = .ok (.string S) X)
      (first | exact K4 | exact K3 | exact K2 | exact K1 | exact K0)
      (first
        | (go_at_call 13; refine (ncheck_any s.leaf A n c B m d C k ec s _ (KL.out _ (by first | exact Bc.out | exact Bb.out | exact Ba.out | exact BD.out)) rfl (by omega) (by omega) (by omega)).mono ?_; rintro e1 wa ⟨rfl, ba⟩; rw [HQ.out]; first | (have Bd := Lib.hid (chainN ba Bc.out); have K4 := KK.out _ Bd.out) | (have Bc := Lib.hid (chainN ba Bb.out); have K3 := KK.out _ Bc.out) | (have Bb := Lib.hid (chainN ba Ba.out); have K2 := KK.out _ Bb.out) | (have Ba := Lib.hid (chainN ba BD.out); have K1 := KK.out _ Ba.out))
        | (go_at_call 14; refine (rcheck_any s.leaf A n c B m d C k ec s _ (KL.out _ (by first | exact Bc.out | exact Bb.out | exact Ba.out | exact BD.out)) rfl (by omega) (by omega) (by omega)).mono ?_; rintro e1 wa ⟨rfl, ba⟩; rw [HQ.out]; first | (have Bd := Lib.hid (chainN ba Bc.out); have K4 := KK.out _ Bd.out) | (have Bc := Lib.hid (chainN ba Bb.out); have K3 := KK.out _ Bc.out) | (have Bb := Lib.hid (chainN ba Ba.out); have K2 := KK.out _ Bb.out) | (have Ba := Lib.hid (chainN ba BD.out); have K1 := KK.out _ Ba.out))
        | (go_at_call 15; refine (nsize_any s.leaf A n c B m d C k ec s _ (KL.out _ (by first | exact Bc.out | exact Bb.out | exact Ba.out | exact BD.out)) (by have := HZZ.out; omega)).mono ?_; rintro e1 wa ⟨rfl, ba⟩; rw [HZ.out]; first | (have Bd := Lib.hid (chainN ba Bc.out); have K4 := KK.out _ Bd.out) | (have Bc := Lib.hid (chainN ba Bb.out); have K3 := KK.out _ Bc.out) | (have Bb := Lib.hid (chainN ba Ba.out); have K2 := KK.out _ Bb.out) | (have Ba := Lib.hid (chainN ba BD.out); have K1 := KK.out _ Ba.out))
        | (go_at_call 16; refine (rsize_any s.leaf A n c B m d C k ec s _ (KL.out _ (by first | exact Bc.out | exact Bb.out | exact Ba.out | exact BD.out)) (by have := HZZ.out; omega)).mono ?_; rintro e1 wa ⟨rfl, ba⟩; rw [HZ.out]; first | (have Bd := Lib.hid (chainN ba Bc.out); have K4 := KK.out _ Bd.out) | (have Bc := Lib.hid (chainN ba Bb.out); have K3 := KK.out _ Bc.out) | (have Bb := Lib.hid (chainN ba Ba.out); have K2 := KK.out _ Bb.out) | (have Ba := Lib.hid (chainN ba BD.out); have K1 := KK.out _ Ba.out))
        | fail)
    all_goals (
      have BE := Lib.hid (chainN Bd.out BW.out)
      clear K0 K1 K2 K3 K4
      go_wp2_with fail
      go_ret
      exact ⟨rfl, BE.out⟩)

set_option maxRecDepth 100000 in
theorem lifted (os : Os) (started : os.Started) (H : Type) (enc : TypeId × Value → H) :
    ReturnsInHanded {} Try.checked os 4 .any (Rows.nodeTellsSpec.pre6 enc Try.prog Try.f4 Rows.nodeTellsRow.domain false)
      (Rows.nodeTellsSpec.post enc Try.prog Try.f4 false true false false) := by
  refine lift_law (C := Try.checked) (tb := 4) ownKnobs started (by kernel_rfl) Try.func4
    (ChangeSpec.witness6 (enc := enc) (C := Try.checked) false ⟨#[], #[.agg #[.bool false, .slice none 0 0, .slice none 0 0, .slice none 0 0]], []⟩ 8 (by kernel_rfl) (by kernel_rfl) (by kernel_rfl) (by kernel_rfl))
    laidOut ?_ rfl rfl Try.underlying4 ?_ ?_
  · intro t ht
    rw [Try.params4] at ht
    simp only [List.mem_cons, List.not_mem_nil, or_false] at ht
    subst ht
    exact ⟨by kernel_rfl, of_decide_eq_true (by kernel_rfl)⟩
  · intro vs ds W p hA
    rw [Try.params4] at hA
    obtain ⟨v0, vs0, d0, ds0, p0, q0, ha, rfl, rfl, h0, r0⟩ := trodAll_cons hA
    obtain ⟨rfl, rfl, rfl⟩ := trodAll_nil r0
    rfl
  · intro W base args ds p hval hA
    rw [Try.params4] at hA hval
    obtain ⟨v0, vs0, d0, ds0, p0, q0, ha, rfl, rfl, h0, r0⟩ := trodAll_cons hA
    obtain ⟨rfl, rfl, rfl⟩ := trodAll_nil r0
    obtain rfl : args = #[v0] := by cases args; simp_all
    obtain ⟨s0, A0, n0, c0, B0, m0, d0, C0, k0, e0, rfl, hs0, _⟩ := open_node (hval 0 _ v0 rfl rfl) h0
    exact walk s0 A0 n0 c0 B0 m0 d0 C0 k0 e0 hs0

/-- The statement. -/
theorem proved : Rows.NodeTellsSaid :=
  OpenClaim.holds_of_wide 4 Try.f4 rfl rfl rfl rfl rfl rfl rfl ⟨rfl, rfl, rfl, rfl, rfl⟩ rfl rfl rfl rfl rfl (by kernel_rfl) Try.func4 (by kernel_rfl)
    (of_decide_eq_true (by kernel_rfl)) (by unfold Func.isWrapper; first | (rw [if_pos (by decide +kernel)]; kernel_rfl) | (rw [if_neg (by decide +kernel)]; exact ⟨rfl, rfl⟩))
    (fun os started H enc _ => lifted os started H enc)
#print axioms proved
end Go.Proofs.Ytgnlmbelaempcaa.nodeTells
