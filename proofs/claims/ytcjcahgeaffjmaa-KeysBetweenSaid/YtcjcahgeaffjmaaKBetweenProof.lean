/-
  KeysBetween answers true, for every two lists of bytes: bytes are between some and what is behind all that begin with these just if they begin with them. Conditions: none.
-/
import Derived.Test.YtcjcahgeaffjmaaRows
import Derived.Test.YtcjcahgeaffjmaaKAwake
import Derived.Test.YtcjcahgeaffjmaaOpenBytes
import Derived.Deep.QuietTactic
import Derived.BigQuiet
namespace Go.Proofs.Ytcjcahgeaffjmaa.keysBetween
open Go.ChangeShapes Go.WideShapes Go.ChangeAt Go.RowKit

set_option maxHeartbeats 800000 in
theorem long (A : Option Addr) (n c : Nat) (B : Option Addr) (m d : Nat) (hlen : 2000 < n ∨ 2000 < m) (w : World) :
    Calls Try.prog 8 #[.slice A n c, .slice B m d] w fun e w' => e = .returned (.bool true) ∧ Below w.heap.size w w' := by
  have way : 2000 < n ∨ (n ≤ 2000 ∧ 2000 < m) := by omega
  rcases way with h | ⟨h, h'⟩
  all_goals
    clear hlen
    go_enter Try.func8, Try.ntmps8
    go_wp2_with fail
    refine (awake_any _).mono ?_
    rintro e w1 ⟨rfl, hb1⟩
    go_wp2_with fail
    go_ret
    exact ⟨rfl, hb1⟩

theorem prefix_take (l k : List UInt8) : l.isPrefixOf k = (decide (l.length ≤ k.length) && (k.take l.length == l)) := by
  rw [Bool.eq_iff_iff, List.isPrefixOf_iff_prefix, Bool.and_eq_true, decide_eq_true_eq, beq_iff_eq]
  constructor
  · rintro ⟨t, rfl⟩
    exact ⟨by simp, by simp⟩
  · rintro ⟨_, h⟩
    exact ⟨k.drop l.length, by conv => lhs; lhs; rw [← h]
                               exact List.take_append_drop _ _⟩

/-- The ways that an order may be, with what is behind. -/
theorem ways (l k : List UInt8) :
    (l.isPrefixOf k = true ∧ scmp l k ≤ 0 ∧ nx l = none) ∨
    (∃ r, l.isPrefixOf k = true ∧ scmp l k ≤ 0 ∧ nx l = some r ∧ scmp k r < 0) ∨
    (l.isPrefixOf k = false ∧ 0 < scmp l k) ∨
    (∃ r, l.isPrefixOf k = false ∧ scmp l k ≤ 0 ∧ nx l = some r ∧ 0 ≤ scmp k r) := by
  have hb := between l k
  have t := scmp_line.turn k l
  have hle : scmp l k ≤ 0 ↔ Op.bytesLess k l = false := by
    cases e : Op.bytesLess k l with
    | true =>
      have := scmp_gt e
      constructor
      · intro h; omega
      · intro h; cases h
    | false =>
      refine ⟨fun _ => rfl, fun _ => ?_⟩
      rcases scmp_line.range l k with h | h | h
      · omega
      · omega
      · have h2 : scmp k l = -1 := by have := scmp_line.turn l k; omega
        rw [lt_of_scmp h2] at e
        cases e
  have hlt : ∀ r, scmp k r < 0 ↔ Op.bytesLess k r = true := by
    intro r
    constructor
    · intro h
      rcases scmp_line.range k r with h2 | h2 | h2
      · exact lt_of_scmp h2
      · omega
      · omega
    · intro h
      rw [scmp_lt h]
      omega
  cases hp : l.isPrefixOf k with
  | true =>
    obtain ⟨h1, h2⟩ := hb.2 hp
    cases hn : nx l with
    | none => exact Or.inl ⟨rfl, hle.2 h1, rfl⟩
    | some r => exact Or.inr (Or.inl ⟨r, rfl, hle.2 h1, rfl, (hlt r).2 (h2 r hn)⟩)
  | false =>
    by_cases h1 : 0 < scmp l k
    · exact Or.inr (Or.inr (Or.inl ⟨rfl, h1⟩))
    · have h1' : scmp l k ≤ 0 := by omega
      right; right; right
      cases hn : nx l with
      | none =>
        have := hb.1 ⟨hle.1 h1', fun n e => by rw [hn] at e; cases e⟩
        rw [hp] at this
        cases this
      | some r =>
        refine ⟨r, rfl, h1', rfl, ?_⟩
        rcases Int.lt_or_le (scmp k r) 0 with h | h
        · have := hb.1 ⟨hle.1 h1', fun n e => by rw [hn] at e; obtain rfl := Option.some.inj e; exact (hlt r).1 h⟩
          rw [hp] at this
          cases this
        · exact h

/-- The same, of what Next answers. -/
theorem ways' (l k : List UInt8) :
    (l.isPrefixOf k = true ∧ scmp l k ≤ 0 ∧ (nx l).isSome = false) ∨
    (l.isPrefixOf k = true ∧ scmp l k ≤ 0 ∧ (nx l).isSome = true ∧ scmp k ((nx l).getD []) < 0) ∨
    (l.isPrefixOf k = false ∧ 0 < scmp l k) ∨
    (l.isPrefixOf k = false ∧ scmp l k ≤ 0 ∧ (nx l).isSome = true ∧ 0 ≤ scmp k ((nx l).getD [])) := by
  rcases ways l k with ⟨h1, h2, h3⟩ | ⟨r, h1, h2, h3, h4⟩ | ⟨h1, h2⟩ | ⟨r, h1, h2, h3, h4⟩
  · exact Or.inl ⟨h1, h2, by rw [h3]; rfl⟩
  · exact Or.inr (Or.inl ⟨h1, h2, by rw [h3]; rfl, by rw [h3]; exact h4⟩)
  · exact Or.inr (Or.inr (Or.inl ⟨h1, h2⟩))
  · exact Or.inr (Or.inr (Or.inr ⟨h1, h2, by rw [h3]; rfl, by rw [h3]; exact h4⟩))

theorem all_step {l : List UInt8} {j : Nat} {z : UInt8} (hz : l[j]? = some z) : (l.take (j + 1)).all (· == 255) = ((l.take j).all (· == 255) && z == 255) := by
  rw [List.take_add_one, hz, List.all_append]
  simp

set_option maxHeartbeats 3200000 in
set_option maxRecDepth 100000 in
theorem main {w : World} (A : Option Addr) (n c : Nat) (l : List UInt8) (e0 : l.length = n) (hx : Bys w w.heap.size A l) (y0 : n ≤ c)
    (B : Option Addr) (m d : Nat) (k : List UInt8) (e1 : k.length = m) (hy : Bys w w.heap.size B k) (x0 : m ≤ d) (hn : n ≤ 2000) (hm : m ≤ 2000) (hpos : 0 < n) :
    Calls Try.prog 8 #[.slice A n c, .slice B m d] w fun e w' => e = .returned (.bool true) ∧ Below w.heap.size w w' := by
  have N1 := fun W (h : Bys W w.heap.size A l) => next_any A c w.heap.size l W h (by omega) (by omega)
  have PT : Hid (l.isPrefixOf k = (decide (n ≤ m) && (k.take n == l))) := by rw [prefix_take l k, e0, e1]; exact Lib.hid rfl
  have NA := Lib.hid (nx_all l)
  have WY := Lib.hid (ways' l k)
  rw [e0] at N1
  have E0 := Lib.hid e0
  have E1 := Lib.hid e1
  clear e0 e1
  go_enter Try.func8, Try.ntmps8
  go_wp2_with fail
  refine (awake_any _).mono ?_
  rintro e w1 ⟨rfl, b1⟩
  have T1 : ∀ q, (convert 24 9 (.slice A n c)).run Try.prog (w1.drewN q) = .ok (.string ⟨l.toArray⟩) (w1.drewN q) := fun q => run_text (hx.below (belowN b1 q)) 24 9 5 n c E0.out Try.underlying24 Try.underlying5 Try.underlying9
  by_cases hnm : n ≤ m
  case' pos =>
    have T2 : ∀ q, (convert 24 9 (.slice B n d)).run Try.prog (w1.drewN q) = .ok (.string ⟨(k.take n).toArray⟩) (w1.drewN q) := fun q => run_text ((hy.below (belowN b1 q)).take n) 24 9 5 n d (by rw [List.length_take, E1.out]; omega) Try.underlying24 Try.underlying5 Try.underlying9
    have hdec : decide (n ≤ m) = true := decide_eq_true hnm
    have hbg : (k.take n == l) = l.isPrefixOf k := by rw [PT.out, hdec]; rfl
    have HBG := Lib.hid hbg
    clear hbg
    go_wp2_with fail
    go_quiet (fail)
    go_wp2_with fail
    rw [HBG.out]
    clear T2 HBG
  case' neg =>
    have hdec : decide (n ≤ m) = false := decide_eq_false hnm
    have hbg : false = l.isPrefixOf k := by rw [PT.out, hdec]; rfl
    have HBG := Lib.hid hbg
    clear hbg
    go_wp2_with fail
    go_quiet (fail)
    go_wp2_with fail
  all_goals
    refine (N1 _ (hx.below (belowN b1 _))).mono ?_
    rintro e w2 ⟨A2, c2, rfl, h2, b2'⟩
    have b2 : Below w.heap.size w w2 := (belowN b1 _).trans (b2'.mono b1.size)
    clear b2' b1 T1 N1
    generalize (nx l).getD [] = R at *
    generalize (nx l).isSome = S at *
    go_wp2_with fail
    refine (keysCmp_any (hx.below b2) (hy.below b2) _ _ _ _ E0.out E1.out).mono ?_
    rintro e w3 ⟨rfl, rfl⟩
    generalize scmp l k = s1 at *
    rcases WY.out with ⟨hp, h1, rfl⟩ | ⟨hp, h1, rfl, h4⟩ | ⟨hp, h1⟩ | ⟨hp, h1, rfl, h4⟩
    all_goals
      try (exfalso; have h5 := HBG.out; rw [hp] at h5; exact Bool.noConfusion h5)
    all_goals
      try rw [hp]
      have HP := Lib.hid hp
      clear hp WY
      go_wp2_with fail
      try (refine (keysCmp_any (hy.below b2) h2 _ _ _ _ E1.out rfl).mono ?_; rintro e w4 ⟨rfl, rfl⟩; generalize scmp k R = s2 at *; go_wp2_with fail)
      go_loop [10, 11] (fun al i => ∃ (j : Nat) (q : Bool), j ≤ n ∧ i = .int .i64 j ∧ al = .bool q ∧ Hid (q = (l.take j).all (· == 255))) (fun _ i => n - (intOf i).toNat)
      case atStart => exact ⟨0, true, by omega, rfl, rfl, Lib.hid rfl⟩
      case round =>
        obtain ⟨j, q, hj, rfl, rfl, HQ⟩ := hrel
        by_cases hlt : j < n
        · obtain ⟨b, off, z, rfl, hbR, hz, c0⟩ := (hx.below b2).at_ (k := j) (by rw [E0.out]; exact hlt)
          have HZ := Lib.hid (all_step hz)
          clear hz
          rcases q with _ | _
          · go_wp2_with fail
            go_round
            case rel => exact ⟨j + 1, false, by omega, by go_num, rfl, Lib.hid (by rw [HZ.out, ← HQ.out]; rfl)⟩
            case measure => simp [intOf]; omega
          · by_cases hz5 : z = 255
            · have hc' : ((z.toNat : Int) == 255) = true := by rw [hz5]; rfl
              have H5 := Lib.hid hz5
              clear hz5
              go_wp2_with fail
              go_round
              case rel => exact ⟨j + 1, true, by omega, by go_num, rfl, Lib.hid (by rw [HZ.out, ← HQ.out, H5.out]; rfl)⟩
              case measure => simp [intOf]; omega
            · have hc' : ((z.toNat : Int) == 255) = false := byte_not (d := 255) hz5
              have h5 : (z == 255) = false := by simpa using hz5
              have H5 := Lib.hid h5
              clear hz5 h5
              go_wp2_with fail
              go_round
              case rel => exact ⟨j + 1, false, by omega, by go_num, rfl, Lib.hid (by rw [HZ.out, ← HQ.out, H5.out]; rfl)⟩
              case measure => simp [intOf]; omega
        · obtain rfl : j = n := by omega
          have hq : q = l.all (· == 255) := by rw [HQ.out, List.take_of_length_le (by rw [E0.out]; omega)]
          have hna := NA.out
          rw [← hq] at hna
          clear hq HQ NA
          rcases q with _ | _
          all_goals
            simp only [Bool.not_false, Bool.not_true] at hna
          all_goals
            try (exact Bool.noConfusion hna)
          all_goals
            try subst hna
            go_wp2_with fail
            go_ret
            first | exact ⟨rfl, b2⟩ | exact ⟨ret_bool (by simp; omega), b2⟩

set_option maxHeartbeats 3200000 in
set_option maxRecDepth 100000 in
theorem empty {w : World} (A : Option Addr) (c : Nat) (hx : Bys w w.heap.size A []) (B : Option Addr) (m d : Nat) (k : List UInt8) (e1 : k.length = m) (hy : Bys w w.heap.size B k) (hm : m ≤ 2000) :
    Calls Try.prog 8 #[.slice A 0 c, .slice B m d] w fun e w' => e = .returned (.bool true) ∧ Below w.heap.size w w' := by
  have N1 := fun W (h : Bys W w.heap.size A []) => next_any A c w.heap.size [] W h (by simp) (by simp)
  rw [List.length_nil] at N1
  have hs : scmp [] k ≤ 0 := by
    rcases ways' [] k with ⟨_, h, _⟩ | ⟨_, h, _⟩ | ⟨h, _⟩ | ⟨h, _⟩
    · exact h
    · exact h
    · cases h
    · cases h
  have E1 := Lib.hid e1
  clear e1
  go_enter Try.func8, Try.ntmps8
  go_wp2_with fail
  refine (awake_any _).mono ?_
  rintro e w1 ⟨rfl, b1⟩
  have T1 : ∀ q, (convert 24 9 (.slice A 0 c)).run Try.prog (w1.drewN q) = .ok (.string ⟨#[]⟩) (w1.drewN q) := fun q => run_text (hx.below (belowN b1 q)) 24 9 5 0 c rfl Try.underlying24 Try.underlying5 Try.underlying9
  have T2 : ∀ q, (convert 24 9 (.slice B 0 d)).run Try.prog (w1.drewN q) = .ok (.string ⟨#[]⟩) (w1.drewN q) := fun q => run_text ((hy.below (belowN b1 q)).take 0) 24 9 5 0 d rfl Try.underlying24 Try.underlying5 Try.underlying9
  go_wp2_with fail
  go_quiet (fail)
  go_wp2_with fail
  refine (N1 _ (hx.below (belowN b1 _))).mono ?_
  rintro e w2 ⟨A2, c2, rfl, h2, b2'⟩
  have b2 : Below w.heap.size w w2 := (belowN b1 _).trans (b2'.mono b1.size)
  clear b2' b1 T1 T2 N1
  rw [show (nx []).isSome = false from rfl]
  go_wp2_with fail
  refine (keysCmp_any (hx.below b2) (hy.below b2) _ _ _ _ rfl E1.out).mono ?_
  rintro e w3 ⟨rfl, rfl⟩
  generalize scmp [] k = s1 at *
  go_wp2_with fail
  go_loop [10, 11] (fun al i => i = .int .i64 0 ∧ al = .bool false) (fun _ _ => 0)
  case atStart => exact ⟨rfl, rfl⟩
  case round =>
    obtain ⟨rfl, rfl⟩ := hrel
    go_wp2_with fail
    go_ret
    exact ⟨rfl, b2⟩

theorem walk {w : World} (A : Option Addr) (n c : Nat) (l : List UInt8) (e0 : l.length = n) (hx : Bys w w.heap.size A l) (y0 : n ≤ c) (_ : c ≤ maxLen)
    (B : Option Addr) (m d : Nat) (k : List UInt8) (e1 : k.length = m) (hy : Bys w w.heap.size B k) (x0 : m ≤ d) (_ : d ≤ maxLen) :
    Calls Try.prog 8 #[.slice A n c, .slice B m d] w fun e w' => e = .returned (.bool true) ∧ Below w.heap.size w w' := by
  by_cases hlen : 2000 < n ∨ 2000 < m
  · exact long A n c B m d hlen w
  · rcases Nat.eq_zero_or_pos n with rfl | hpos
    · obtain rfl : l = [] := List.eq_nil_of_length_eq_zero e0
      exact empty A c hx B m d k e1 hy (by omega)
    · exact main A n c l e0 hx y0 B m d k e1 hy x0 (by omega) (by omega) hpos

set_option maxRecDepth 100000 in
theorem lifted (os : Os) (started : os.Started) (H : Type) (enc : TypeId × Value → H) :
    ReturnsInHanded {} Try.checked os 8 .any (Rows.keysBetweenSpec.pre6 enc Try.prog Try.f8 Rows.keysBetweenRow.domain false)
      (Rows.keysBetweenSpec.post enc Try.prog Try.f8 false true false false) := by
  refine lift_law (C := Try.checked) (tb := 4) ownKnobs started (by kernel_rfl) Try.func8
    (ChangeSpec.witness6 (enc := enc) (C := Try.checked) false ⟨#[], #[.slice none 0 0, .slice none 0 0], []⟩ 8 (by kernel_rfl) (by kernel_rfl) (by kernel_rfl) (by kernel_rfl))
    laidOut ?_ rfl rfl Try.underlying4 ?_ ?_
  · intro t ht
    rw [Try.params8] at ht
    simp only [List.mem_cons, List.not_mem_nil, or_false] at ht
    rcases ht with rfl | rfl <;> exact ⟨by kernel_rfl, of_decide_eq_true (by kernel_rfl)⟩
  · intro vs ds W p hA
    rw [Try.params8] at hA
    obtain ⟨v0, vs0, d0, ds0, p0, q0, ha, rfl, rfl, h0, r0⟩ := trodAll_cons hA
    obtain ⟨v1, vs1, d1, ds1, p1, q1, rfl, rfl, rfl, h1, r1⟩ := trodAll_cons r0
    obtain ⟨rfl, rfl, rfl⟩ := trodAll_nil r1
    rfl
  · intro W base args ds p hval hA
    rw [Try.params8] at hA hval
    obtain ⟨v0, vs0, d0, ds0, p0, q0, ha, rfl, rfl, h0, r0⟩ := trodAll_cons hA
    obtain ⟨v1, vs1, d1, ds1, p1, q1, rfl, rfl, rfl, h1, r1⟩ := trodAll_cons r0
    obtain ⟨rfl, rfl, rfl⟩ := trodAll_nil r1
    obtain rfl : args = #[v0, v1] := by cases args; simp_all
    obtain ⟨A0, n0, c0, xs0, rfl, e0, hr0, y0, z0⟩ := open_bytes (hval 0 _ v0 rfl rfl) h0
    obtain ⟨A1, n1, c1, xs1, rfl, e1, hr1, y1, z1⟩ := open_bytes (hval 1 _ v1 rfl rfl) h1
    exact walk A0 n0 c0 xs0 e0 hr0 y0 z0 A1 n1 c1 xs1 e1 hr1 y1 z1

/-- The statement. -/
theorem proved : Rows.KeysBetweenSaid :=
  OpenClaim.holds_of_wide 8 Try.f8 rfl rfl rfl rfl rfl rfl rfl ⟨rfl, rfl, rfl, rfl, rfl⟩ rfl rfl rfl rfl rfl (by kernel_rfl) Try.func8 (by kernel_rfl)
    (of_decide_eq_true (by kernel_rfl)) (by unfold Func.isWrapper; first | (rw [if_pos (by decide +kernel)]; kernel_rfl) | (rw [if_neg (by decide +kernel)]; exact ⟨rfl, rfl⟩))
    (fun os started H enc _ => lifted os started H enc)
#print axioms proved
end Go.Proofs.Ytcjcahgeaffjmaa.keysBetween
