/-
  What frame.Pack comes to, with isKind and layer.
-/
import Derived.Test.YtpihblbpmmdmmaaFLay
import Derived.Test.YtpihblbpmmdmmaaCMore
namespace Go.Proofs.Ytpihblbpmmdmmaa
open Go.RowKit

set_option maxHeartbeats 400000 in
theorem isKind_any (k : Int) (w : World) :
    Calls Try.prog 21 #[.int .i64 k] w fun e w' => e = .returned (.bool (decide (1 ≤ k ∧ k ≤ 4))) ∧ w = w' := by
  by_cases h1 : 1 ≤ k
  · by_cases h2 : k ≤ 4
    · have HD := Lib.hid (show decide (1 ≤ k ∧ k ≤ 4) = true from decide_eq_true ⟨h1, h2⟩)
      go_enter Try.func21, Try.ntmps21
      go_wp2_with fail
      go_ret
      exact ⟨ret_bool (by simp [h1, h2]), rfl⟩
    · have HD := Lib.hid (show decide (1 ≤ k ∧ k ≤ 4) = false from decide_eq_false (fun h => h2 h.2))
      go_enter Try.func21, Try.ntmps21
      go_wp2_with fail
      go_ret
      exact ⟨ret_bool (by simp; omega), rfl⟩
  · have HD := Lib.hid (show decide (1 ≤ k ∧ k ≤ 4) = false from decide_eq_false (fun h => h1 h.1))
    go_enter Try.func21, Try.ntmps21
    go_wp2_with fail
    go_ret
    exact ⟨ret_bool (by simp; omega), rfl⟩

set_option maxHeartbeats 400000 in
theorem layer_any (fb : Nat) (w : World) :
    Calls Try.prog 22 #[.pointer (some ⟨fb, 0, none⟩)] w fun e w' => e = .returned (.func (.func 28) #[] #[.pointer (some ⟨w.heap.size, 0, none⟩)]) ∧ w' = w.alloc (.cells #[.pointer (some ⟨fb, 0, none⟩)] 43) := by
  have hmf : ∀ (fn : Fn) (first cap : Array Value) (w : World), (Instr.makeFunc fn first cap).run Try.prog w = .ok (.func fn first cap) w := fun _ _ _ _ => rfl
  go_enter Try.func22, Try.ntmps22
  go_wp2_with fail
  go_ret
  exact ⟨rfl, rfl⟩

/-- Where bytes begin to grow. -/
theorem lay_start (w : World) (t u : TypeId) : LayAt ((w.alloc (.cells #[.slice none 0 0] t)).alloc (.cells #[.pointer (some ⟨w.heap.size, 0, none⟩)] u)) w.heap.size w.heap.size (w.heap.size + 1) (w.heap.size + 2) [] := by
  have hs : (w.alloc (.cells #[.slice none 0 0] t)).heap.size = w.heap.size + 1 := by simp
  have e1 : ((w.alloc (.cells #[.slice none 0 0] t)).alloc (.cells #[.pointer (some ⟨w.heap.size, 0, none⟩)] u)).heap[w.heap.size + 1]? = some (.cells #[.pointer (some ⟨w.heap.size, 0, none⟩)] u) := by
    have := heap_alloc_new (w.alloc (.cells #[.slice none 0 0] t)) (.cells #[.pointer (some ⟨w.heap.size, 0, none⟩)] u)
    rwa [hs] at this
  have e0 : ((w.alloc (.cells #[.slice none 0 0] t)).alloc (.cells #[.pointer (some ⟨w.heap.size, 0, none⟩)] u)).heap[w.heap.size]? = some (.cells #[.slice none 0 0] t) := by
    rw [heap_alloc_old _ _ (by rw [hs]; omega)]
    exact heap_alloc_new w _
  refine ⟨Nat.le_refl _, by omega, by omega, by omega, by omega, by simp, ?_, ?_, .slice none 0 0, ?_, own_nil _ _⟩
  · rw [cell_of_row _ _ 0 _ u (0, 0) e1]; rfl
  · simp
  · rw [cell_of_row _ _ 0 _ t (0, 0) e0]; rfl

/-- What Pack answers. -/
def packB (k p : Int) (l : List UInt8) : List UInt8 := if FOk k p l.length then frm k p l else []
def packE (k p : Int) (l : List UInt8) : Int := if FOk k p l.length then 0 else 1
def PackEnd (w : World) (k p : Int) (l : List UInt8) (e : Ending) (w' : World) : Prop :=
  ∃ v, e = .returned (.tuple #[v, .int .i64 (packE k p l)]) ∧ Own w' w.heap.size v (packB k p l) ∧ Below w.heap.size w w'

theorem pack_bad {k p : Int} {l : List UInt8} (h : ¬ FOk k p l.length) (w w' : World) (hw : w = w') : PackEnd w k p l (.returned (.tuple #[.slice none 0 0, .int .i64 1])) w' := by
  subst hw
  refine ⟨.slice none 0 0, ?_, ?_, Below.refl _ _⟩
  · rw [packE, if_neg h]
  · rw [packB, if_neg h]
    exact own_nil _ _

theorem own_low {w : World} {base base' : Nat} {v : Value} {l : List UInt8} (h : Own w base v l) (hb : base' ≤ base) : Own w base' v l := by
  unfold Own at h ⊢
  refine ⟨h.1, ?_⟩
  rcases h.2 with h2 | ⟨g, cap, cur, h2, h3, h4⟩
  · exact Or.inl h2
  · exact Or.inr ⟨g, cap, cur, h2, by omega, h4⟩

set_option maxHeartbeats 800000 in
theorem pack_no (k p : Int) (A : Option Addr) (n c : Nat) (l : List UInt8) (w : World) (hl : l.length = n) (h : ¬ FOk k p l.length) :
    Calls Try.prog 12 #[.int .i64 k, .int .i64 p, .slice A n c] w (PackEnd w k p l) := by
  have HP := Lib.hid (fun w' => pack_bad (k := k) (p := p) (l := l) h w w')
  have HK := Lib.hid (isKind_any k)
  by_cases hk : 1 ≤ k ∧ k ≤ 4
  · rw [show decide (1 ≤ k ∧ k ≤ 4) = true from decide_eq_true hk] at HK
    by_cases hp0 : p < 0
    · clear h hk
      go_enter Try.func12, Try.ntmps12
      go_wp2_with fail
      refine (HK.out _).mono ?_
      rintro e w' ⟨rfl, rfl⟩
      go_wp2_with fail
      go_ret2
      exact HP.out _ rfl
    · by_cases hp1 : p > 2147483647
      · clear h hk
        go_enter Try.func12, Try.ntmps12
        go_wp2_with fail
        refine (HK.out _).mono ?_
        rintro e w' ⟨rfl, rfl⟩
        go_wp2_with fail
        go_ret2
        exact HP.out _ rfl
      · have hn : 1000 < n := by
          have : ¬ l.length ≤ 1000 := fun hle => h ⟨hk.1, hk.2, by omega, by omega, hle⟩
          omega
        clear h hk hl
        go_enter Try.func12, Try.ntmps12
        go_wp2_with fail
        refine (HK.out _).mono ?_
        rintro e w' ⟨rfl, rfl⟩
        go_wp2_with fail
        go_ret2
        exact HP.out _ rfl
  · rw [show decide (1 ≤ k ∧ k ≤ 4) = false from decide_eq_false hk] at HK
    clear h hk
    go_enter Try.func12, Try.ntmps12
    go_wp2_with fail
    refine (HK.out _).mono ?_
    rintro e w' ⟨rfl, rfl⟩
    go_wp2_with fail
    go_ret2
    exact HP.out _ rfl

theorem lay1 (x : Nat) (hx : x < 4294967296) (w : World) (B fb pb base : Nat) (l : List UInt8) (h : LayAt w B fb pb base l) (hl : l.length ≤ 1000000) :
    Calls Try.prog 28 #[.int .u32 (x : Int), .int .i64 1, .pointer (some ⟨pb, 0, none⟩)] w fun e w' => e = .returned (.tuple #[]) ∧ LayAt w' B fb pb base (l ++ be 1 x) ∧ Below B w w' :=
  lay_any x hx 1 (Or.inl rfl) w B fb pb base l h hl
theorem lay2 (x : Nat) (hx : x < 4294967296) (w : World) (B fb pb base : Nat) (l : List UInt8) (h : LayAt w B fb pb base l) (hl : l.length ≤ 1000000) :
    Calls Try.prog 28 #[.int .u32 (x : Int), .int .i64 2, .pointer (some ⟨pb, 0, none⟩)] w fun e w' => e = .returned (.tuple #[]) ∧ LayAt w' B fb pb base (l ++ be 2 x) ∧ Below B w w' :=
  lay_any x hx 2 (Or.inr (Or.inl rfl)) w B fb pb base l h hl
theorem lay4 (x : Nat) (hx : x < 4294967296) (w : World) (B fb pb base : Nat) (l : List UInt8) (h : LayAt w B fb pb base l) (hl : l.length ≤ 1000000) :
    Calls Try.prog 28 #[.int .u32 (x : Int), .int .i64 4, .pointer (some ⟨pb, 0, none⟩)] w fun e w' => e = .returned (.tuple #[]) ∧ LayAt w' B fb pb base (l ++ be 4 x) ∧ Below B w w' :=
  lay_any x hx 4 (Or.inr (Or.inr rfl)) w B fb pb base l h hl

/-- What append leaves, of two lists. -/
theorem own_grown {w : World} {base n m : Nat} {v : Value} {a b : List UInt8} (h : w.ownsRow base 5 1 v (n + m) (bv a ++ bv b)) :
    ∃ A c, v = .slice A (n + m) c ∧ Own w base (.slice A (n + m) c) (a ++ b) ∧ Bys w w.heap.size A (a ++ b) := by
  rw [← bv_append] at h
  obtain ⟨A, c, rfl, hl, _, _, r⟩ := Bys.of_own h
  refine ⟨A, c, rfl, ?_, r⟩
  unfold Own
  rw [hl]
  exact h

/-- The cells at which bytes grow. -/
theorem LayAt.look {w : World} {B fb pb base : Nat} {l : List UInt8} (h : LayAt w B fb pb base l) {n : Nat} (hl : l.length = n) :
    ∃ v, w.cell? ⟨fb, 0, none⟩ = some v ∧ w.frozen? ⟨fb, 0, none⟩ = false ∧ w.ownsRow base 5 1 v n (bv l) ∧ v.ownBlock ≠ some fb ∧ fb < w.heap.size ∧ base ≤ w.heap.size := by
  obtain ⟨v, h1, h2⟩ := h.cf
  have := h.fl
  refine ⟨v, h1, h.ff, by rw [← hl]; exact h2, fun e => ?_, World.block_lt_of_cell? _ _ h1, h.sz⟩
  have := (h2.lt _ e).1
  omega

set_option maxHeartbeats 1600000 in
theorem pack_yes {R : Nat} (k p : Nat) (A : Option Addr) (n c : Nat) (l : List UInt8) (w : World) (hl : l.length = n) (hr : Bys w R A l) (hz : A = none → n = 0 ∧ c = 0) (h : FOk k p l.length) :
    Calls Try.prog 12 #[.int .i64 k, .int .i64 p, .slice A n c] w (PackEnd w k p l) := by
  have HP : Hid (packE k p l = 0 ∧ packB k p l = frm k p l) := by
    unfold packE packB
    rw [if_pos h, if_pos h]
    exact Lib.hid ⟨rfl, rfl⟩
  have HK := Lib.hid (isKind_any k)
  rw [show decide (1 ≤ (k : Int) ∧ (k : Int) ≤ 4) = true from decide_eq_true ⟨h.1, h.2.1⟩] at HK
  have hk4 : k ≤ 4 := by have := h.2.1; omega
  have hp4 : p ≤ 2147483647 := by have := h.2.2.2.1; omega
  have hn : n ≤ 1000 := by have := h.2.2.2.2; omega
  obtain ⟨i0, hi, hz0, hz1, hz2⟩ := info_parts byteInfo
  have HL := Lib.hid hl
  have HR := Lib.hid hr
  have HZ := Lib.hid hz
  clear h hl hr hz
  go_enter Try.func12, Try.ntmps12
  go_wp2_with fail
  refine (HK.out _).mono ?_
  rintro e w' ⟨rfl, rfl⟩
  go_wp2_with fail
  refine (layer_any _ _).mono ?_
  rintro e w1 ⟨rfl, rfl⟩
  have L0 := Lib.hid (lay_start w 23 43)
  have B0 := Lib.hid (below_two w (.cells #[.slice none 0 0] 23) (.cells #[.pointer (some ⟨w.heap.size, 0, none⟩)] 43))
  go_wp2_with fail
  generalize (w.alloc (.cells #[.slice none 0 0] 23)).alloc (.cells #[.pointer (some ⟨w.heap.size, 0, none⟩)] 43) = w0 at *
  refine (lay1 k (by omega) _ w.heap.size w.heap.size _ (w.heap.size + 2) [] L0.out (by simp)).mono ?_
  rintro e w1 ⟨rfl, l1, b1⟩
  have L1 := Lib.hid l1
  have B1 := Lib.hid (B0.out.trans b1)
  clear l1 b1 L0 B0
  go_wp2_with fail
  refine (lay4 p (by omega) _ w.heap.size w.heap.size _ (w.heap.size + 2) _ L1.out (by simp [be_length])).mono ?_
  rintro e w2 ⟨rfl, l2, b2⟩
  have L2 := Lib.hid l2
  have B2 := Lib.hid (B1.out.trans b2)
  clear l2 b2 L1 B1
  go_wp2_with fail
  refine (lay2 n (by omega) _ w.heap.size w.heap.size _ (w.heap.size + 2) _ L2.out (by simp [be_length])).mono ?_
  rintro e w3 ⟨rfl, l3, b3⟩
  have HD : Hid ([] ++ be 1 k ++ be 4 p ++ be 2 n ++ l = bod (k : Int) (p : Int) l) := by
    rw [List.nil_append, ← HL.out]
    exact Lib.hid rfl
  have h7 : ([] ++ be 1 k ++ be 4 p ++ be 2 n).length = 7 := by simp [be_length]
  generalize [] ++ be 1 k ++ be 4 p ++ be 2 n = hd at *
  have L3 := Lib.hid l3
  have B3 := Lib.hid (B2.out.trans b3)
  have H7 := Lib.hid h7
  obtain ⟨v3, c3, f3, o3, n3, g3, s3⟩ := l3.look h7
  have lz := Lib.hid (Lies.bys ((HR.out.kept B3.out)) HZ.out)
  clear l3 b3 L2 B2 h7
  go_wp2_with (at_builtin; refine wpList_append_lay _ rfl (.tmp 40) (.tmp 41) 23 rfl (w.heap.size + 2) 5 i0 _ 1 1 Try.underlying23 hi hz0 hz1 hz2 rfl (by decide) _ _ _ rfl o3 A n c (bv l) rfl (by rw [bv_length, HL.out]; omega) lz.out (bv_one _) (by unfold maxLen; omega) (by omega) (by omega) ?_; intro v4 w4 hown4 hg4; obtain ⟨A4, c4, rfl, o4, r4⟩ := own_grown hown4; have d4 : w4.cell? ⟨w.heap.size, 0, none⟩ = some v3 := (hg4.cell_far _ g3 n3.symm).trans c3; have e4 : w4.frozen? ⟨w.heap.size, 0, none⟩ = false := (World.frozen?_of_block (a := ⟨w.heap.size, 0, none⟩) (hg4.block _ g3 n3.symm)).trans f3)
  have o5 : Own (w4.setCell ⟨w.heap.size, 0, none⟩ (.slice A4 (7 + n) c4)) (w.heap.size + 2) (.slice A4 (7 + n) c4) (hd ++ l) := own_of_block o4 (fun k hk => Below.heap_setCell _ _ _ _ (fun e => by have := (o4.lt k hk).1; simp only at e; omega))
  have R5 := Lib.hid (own_bys o5)
  have L5 := Lib.hid (L3.out.put hg4 (fun k hk => (o3.lt k hk).1) o4)
  have B5 : Hid (Below w.heap.size w (w4.setCell ⟨w.heap.size, 0, none⟩ (.slice A4 (7 + n) c4))) := (B3.out.grown hg4 B3.out.size (fun g hg => by have := (o3.lt g hg).1; omega)).setCell (p := ⟨w.heap.size, 0, none⟩) (Nat.le_refl _) _
  have hsum : (hd ++ l).length = 7 + n := by rw [List.length_append, H7.out, HL.out]
  clear o5 o4 r4 d4 e4 hg4 hown4 c3 f3 o3 n3 g3 s3 lz L3 B3
  generalize w4.setCell ⟨w.heap.size, 0, none⟩ (.slice A4 (7 + n) c4) = w5 at *
  have HX := Lib.hid (crcM_lt (s := 0) (by omega) (hd ++ l))
  refine (sum_n A4 (7 + n) c4 (hd ++ l) _ R5.out hsum (by omega)).mono ?_
  rintro e w6 ⟨rfl, b6⟩
  have L6 := Lib.hid (L5.out.below b6)
  have B6 : Hid (Below w.heap.size w w6) := B5.out.trans (b6.mono B5.out.size)
  have HF : Hid (hd ++ l ++ be 4 (crcM 0 (hd ++ l)) = frm (k : Int) (p : Int) l) := by
    rw [HD.out]
    exact Lib.hid rfl
  have hsm := Lib.hid hsum
  clear b6 R5 L5 B5 HD hsum H7
  generalize crcM 0 (hd ++ l) = x at *
  go_wp2_with fail
  refine (lay4 x HX.out _ w.heap.size w.heap.size _ (w.heap.size + 2) _ L6.out (by rw [hsm.out]; omega)).mono ?_
  rintro e w7 ⟨rfl, l7, b7⟩
  have B7 : Hid (Below w.heap.size w w7) := B6.out.trans b7
  rw [HF.out] at l7
  obtain ⟨v7, c7, o7⟩ := l7.cf
  have O7 := Lib.hid o7
  clear l7 b7 L6 B6 o7 HF
  go_wp2_with fail
  go_ret2
  refine ⟨v7, ?_, ?_, B7.out⟩
  · rw [HP.out.1]
    rfl
  · rw [HP.out.2]
    exact own_low O7.out (by omega)

/-- Pack, whatever is handed in. -/
theorem pack_all {R : Nat} (k p : Int) (A : Option Addr) (n c : Nat) (l : List UInt8) (w : World) (hl : l.length = n) (hr : Bys w R A l) (hz : A = none → n = 0 ∧ c = 0) :
    Calls Try.prog 12 #[.int .i64 k, .int .i64 p, .slice A n c] w (PackEnd w k p l) := by
  by_cases h : FOk k p l.length
  · obtain ⟨k', rfl⟩ : ∃ k' : Nat, k = k' := ⟨k.toNat, by have := h.1; omega⟩
    obtain ⟨p', rfl⟩ : ∃ p' : Nat, p = p' := ⟨p.toNat, by have := h.2.2.1; omega⟩
    exact pack_yes k' p' A n c l w hl hr hz h
  · exact pack_no k p A n c l w hl h
end Go.Proofs.Ytpihblbpmmdmmaa
