/-
  What node's Encode comes to.
-/
import Derived.Test.YtgnlmbelaempcaaNCheck
import Derived.Test.YtgnlmbelaempcaaNSize
import Derived.Test.YtgnlmbelaempcaaNNum
namespace Go.Proofs.Ytgnlmbelaempcaa
open Go.RowKit

theorem encL_next : ∀ {ks vs : List (List UInt8)} {k : Nat} {a b : List UInt8}, ks[k]? = some a → vs[k]? = some b → ND.encL (ks.take (k + 1)) (vs.take (k + 1)) = ND.encL (ks.take k) (vs.take k) ++ ND.tx a ++ ND.tx b
  | [], _, _, _, _, h, _ => by simp at h
  | _ :: _, [], _, _, _, _, h => by simp at h
  | x :: ks, y :: vs, 0, a, b, h, g => by
    obtain rfl : x = a := by simpa using h
    obtain rfl : y = b := by simpa using g
    simp [ND.encL]
  | x :: ks, y :: vs, k + 1, a, b, h, g => by
    have := encL_next (ks := ks) (vs := vs) (k := k) (by simpa using h) (by simpa using g)
    rw [List.take_succ_cons, List.take_succ_cons, ND.encL_cons, this, List.take_succ_cons, List.take_succ_cons, ND.encL_cons]
    simp [List.append_assoc]
theorem encI_next : ∀ {ks : List (List UInt8)} {cs : List Int} {k : Nat} {a : List UInt8} {b : Int}, ks[k]? = some a → cs[k]? = some b → ND.encI (ks.take (k + 1)) (cs.take (k + 1)) = ND.encI (ks.take k) (cs.take k) ++ ND.tx a ++ ND.kd b
  | [], _, _, _, _, h, _ => by simp at h
  | _ :: _, [], _, _, _, _, h => by simp at h
  | x :: ks, y :: vs, 0, a, b, h, g => by
    obtain rfl : x = a := by simpa using h
    obtain rfl : y = b := by simpa using g
    simp [ND.encI]
  | x :: ks, y :: vs, k + 1, a, b, h, g => by
    have := encI_next (ks := ks) (cs := vs) (k := k) (by simpa using h) (by simpa using g)
    rw [List.take_succ_cons, List.take_succ_cons, ND.encI_cons, this, List.take_succ_cons, List.take_succ_cons, ND.encI_cons]
    simp [List.append_assoc]
theorem tsz_take_le (l : List (List UInt8)) (k : Nat) : ND.tsz (l.take k) ≤ ND.tsz l := by
  unfold ND.tsz
  have := tsl_take_le l k
  rw [List.length_take]
  omega

/-- A leaf's bytes up to some entry; an inner one's. -/
def upL (s : ND) (k : Nat) : List UInt8 := be 2 s.keys.length ++ ND.encL (s.keys.take k) (s.vals.take k)
def upI (s : ND) (k : Nat) : List UInt8 := be 2 s.keys.length ++ ND.kd (s.kids.headD 0) ++ ND.encI (s.keys.take k) ((s.kids.drop 1).take k)
theorem upL_length {s : ND} (ho : s.ok = true) (hl : s.leaf = true) (k : Nat) : (upL s k).length ≤ s.size := by
  obtain ⟨h1, _, _⟩ := ND.ok_leaf ho hl
  have h2 := tsz_take_le s.keys k
  have h3 := tsz_take_le s.vals k
  unfold upL
  rw [List.length_append, be_length _ (by omega), ND.encL_length _ _ (by rw [List.length_take, List.length_take, h1])]
  unfold ND.size
  omega
theorem upI_length {s : ND} (ho : s.ok = true) (hl : s.leaf = false) (k : Nat) : (upI s k).length ≤ s.size := by
  obtain ⟨_, h1, _, _⟩ := ND.ok_inner ho hl
  have h2 := tsz_take_le s.keys k
  unfold upI
  rw [List.length_append, List.length_append, be_length _ (by omega), ND.kd_length, ND.encI_length _ _ (by rw [List.length_take, List.length_take, List.length_drop]; omega), List.length_take, List.length_drop]
  unfold ND.size
  omega
theorem upL_zero (s : ND) : upL s 0 = be 2 s.keys.length := by simp [upL, ND.encL]
theorem upI_zero {s : ND} {z : Int} (h : s.kids[0]? = some z) : upI s 0 = be 2 s.keys.length ++ ND.kd z := by
  have : s.kids.headD 0 = z := by cases hs : s.kids with
    | nil => rw [hs] at h; simp at h
    | cons x l => rw [hs] at h; simpa using h
  unfold upI
  rw [this]
  simp [ND.encI]
theorem upL_next {s : ND} {k : Nat} {a b : List UInt8} (h : s.keys[k]? = some a) (g : s.vals[k]? = some b) : upL s (k + 1) = upL s k ++ ND.tx a ++ ND.tx b := by
  unfold upL
  rw [encL_next h g]
  simp [List.append_assoc]
theorem upI_next {s : ND} {k : Nat} {a : List UInt8} {z : Int} (h : s.keys[k]? = some a) (g : s.kids[k + 1]? = some z) : upI s (k + 1) = upI s k ++ ND.tx a ++ ND.kd z := by
  have g' : (s.kids.drop 1)[k]? = some z := by rw [List.getElem?_drop, Nat.add_comm]; exact g
  unfold upI
  rw [encI_next h g']
  simp [List.append_assoc]
theorem upL_all {s : ND} (ho : s.ok = true) (hl : s.leaf = true) : upL s s.keys.length = s.enc := by
  obtain ⟨h1, _, _⟩ := ND.ok_leaf ho hl
  unfold upL ND.enc ND.body
  rw [if_pos hl, List.take_length, ← h1, List.take_length]
theorem upI_all {s : ND} (ho : s.ok = true) (hl : s.leaf = false) : upI s s.keys.length = s.enc := by
  obtain ⟨_, h1, _, _⟩ := ND.ok_inner ho hl
  unfold upI ND.enc ND.body
  rw [if_neg (by rw [hl]; decide), List.take_length, List.append_assoc]
  cases hs : s.kids with
  | nil => rw [hs] at h1; simp at h1
  | cons x l =>
    rw [hs] at h1
    dsimp only [List.headD, List.drop]
    rw [List.take_of_length_le (by simp at h1; omega)]

theorem nkey_small {s : ND} {k : Nat} {a : ByteArray} (ho : s.ok = true) (h : s.keys[k]? = some a.toList) : a.size ≤ 1000000 := by
  have := ND.ok_keys ho _ (List.mem_of_getElem? h)
  rw [toList_length] at this
  omega
theorem nval_small {s : ND} {k : Nat} {a : ByteArray} (ho : s.ok = true) (h : s.vals[k]? = some a.toList) : a.size ≤ 1000000 := by
  have := ND.ok_vals ho _ (List.mem_of_getElem? h)
  rw [toList_length] at this
  omega
theorem be2_mod {n : Nat} (h : n ≤ 1000000) : be 2 (mod32 (n : Int)) = be 2 n := by
  rw [show mod32 (n : Int) = n by unfold mod32; omega]

theorem nown_low {w : World} {base base' : Nat} {v : Value} {l : List UInt8} (h : Own w base v l) (hb : base' ≤ base) : Own w base' v l := by
  unfold Own at h ⊢
  refine ⟨h.1, ?_⟩
  rcases h.2 with ⟨h1, h2⟩ | ⟨g, cap, cur, h1, h2, h3⟩
  · exact Or.inl ⟨h1, h2⟩
  · exact Or.inr ⟨g, cap, cur, h1, by omega, h3⟩
theorem cell_on {a w : World} {p : Addr} {v : Value} (hb : Below a.heap.size a w) (h : a.cell? p = some v) : w.cell? p = some v := (hb.cell (World.block_lt_of_cell? _ _ h)).trans h

/-- What Encode answers. -/
def NEncEnd (w : World) (s : ND) (e : Ending) (w' : World) : Prop :=
  ∃ v, e = .returned (.tuple #[.int .i64 s.encK, v, .int .i64 s.encE]) ∧ Own w' w.heap.size v s.encB ∧ Below w.heap.size w w'
theorem nenc_bad {w w' : World} {s : ND} (h : s.ok = false) (hb : Below w.heap.size w w') : NEncEnd w s (.returned (.tuple #[.int .i64 0, .slice none 0 0, .int .i64 100])) w' := by
  have e1 : s.encE = 100 := if_neg (by rw [h]; decide)
  have hf : s.fits = false := by unfold ND.fits; rw [h]; rfl
  have e2 : s.encK = 0 := if_neg (by rw [hf]; decide)
  have e3 : s.encB = [] := if_neg (by rw [hf]; decide)
  exact ⟨_, by rw [e1, e2], by rw [e3]; exact own_nil _ _, hb⟩
theorem nenc_big {w w' : World} {s : ND} (h : s.ok = true) (hz : ¬ s.size ≤ 1000) (hb : Below w.heap.size w w') : NEncEnd w s (.returned (.tuple #[.int .i64 0, .slice none 0 0, .int .i64 101])) w' := by
  have e1 : s.encE = 101 := by unfold ND.encE; rw [if_pos h, if_neg hz]
  have hf : s.fits = false := by unfold ND.fits; rw [h, decide_eq_false hz]; rfl
  have e2 : s.encK = 0 := if_neg (by rw [hf]; decide)
  have e3 : s.encB = [] := if_neg (by rw [hf]; decide)
  exact ⟨_, by rw [e1, e2], by rw [e3]; exact own_nil _ _, hb⟩
theorem nenc_good {w w' : World} {s : ND} {v : Value} {base : Nat} (h : s.ok = true) (hz : s.size ≤ 1000) (ho : Own w' base v s.enc) (hle : w.heap.size ≤ base) (hb : Below w.heap.size w w') :
    NEncEnd w s (.returned (.tuple #[.int .i64 (if s.leaf then 2 else 3), v, .int .i64 0])) w' := by
  have e1 := ND.encE_fits h hz
  exact ⟨v, by rw [e1, ND.encK_of e1], by rw [ND.encB_of e1]; exact nown_low ho hle, hb⟩

theorem ncheck_good {s : ND} (h : s.ok = true) : s.checkE = 0 := if_pos h
theorem ncheck_bad {s : ND} (h : s.ok = false) : s.checkE = 100 := if_neg (by rw [h]; decide)

set_option maxRecDepth 20000 in
set_option maxHeartbeats 6400000 in
theorem nencode_any (lf : Bool) (A : Option Addr) (n c : Nat) (B : Option Addr) (m d : Nat) (C : Option Addr) (k e : Nat) (s : ND) (w : World) (h : Nd w A n c B m d C k e s) (hl : s.leaf = lf) (hz : s.size ≤ 1000000) :
    Calls Try.prog 11 #[.agg #[.bool lf, .slice A n c, .slice B m d, .slice C k e]] w (NEncEnd w s) := by
  have HB := Lib.hid (nbox_new w (.bool lf) (.slice A n c) (.slice B m d) (.slice C k e))
  have b1 := below_one w (.cells #[.bool lf, .slice A n c, .slice B m d, .slice C k e] 26)
  have B1 := Lib.hid b1
  have H1 := Lib.hid (h.kept b1)
  have hn : n ≤ 1000000 := by have := h.kn; unfold ND.size ND.tsz at hz; omega
  have hm : m ≤ 1000000 := by have := h.vn; unfold ND.size ND.tsz at hz; omega
  have hk : k ≤ 1000000 := by have := h.cn; unfold ND.size ND.tsz at hz; omega
  have HKN := Lib.hid h.kn
  have HVN := Lib.hid h.vn
  have HCN := Lib.hid h.cn
  have HL := Lib.hid hl
  clear b1 h hl
  go_enter Try.func11, Try.ntmps11
  go_upto_region 1 with fail
  generalize w.alloc (.cells #[.bool lf, .slice A n c, .slice B m d, .slice C k e] 26) = w1 at *
  obtain ⟨c0, c1, c2, c3⟩ := HB.out.cells
  go_wp2_with fail
  refine (ncheck_any lf A n c B m d C k e s w1 H1.out HL.out (by omega) (by omega) (by omega)).mono ?_
  rintro e2 w2 ⟨rfl, b2⟩
  have B2 := Lib.hid (B1.out.trans (b2.mono B1.out.size))
  have HB2 := Lib.hid (HB.out.kept b2)
  have H2 := Lib.hid (H1.out.kept b2)
  clear b2 c0 c1 c2 c3 HB H1
  obtain ⟨c0, c1, c2, c3⟩ := HB2.out.cells
  cases hk : s.ok with
  | false =>
    rw [ncheck_bad hk]
    have HE := Lib.hid (nenc_bad hk B2.out)
    clear hk
    go_wp2_with fail
    go_ret3
    exact HE.out
  | true =>
    rw [ncheck_good hk]
    have HO := Lib.hid hk
    clear hk
    go_wp2_with fail
    refine (nsize_any lf A n c B m d C k e s w2 H2.out (by omega)).mono ?_
    rintro e3 w3 ⟨rfl, b3⟩
    have B3 := Lib.hid (B2.out.trans (b3.mono B2.out.size))
    have HB3 := Lib.hid (HB2.out.kept b3)
    have H3 := Lib.hid (H2.out.kept b3)
    clear b3 c0 c1 c2 c3 HB2 H2
    obtain ⟨c0, c1, c2, c3⟩ := HB3.out.cells
    by_cases hbig : s.size ≤ 1000
    case neg =>
      have HE := Lib.hid (nenc_big HO.out hbig B3.out)
      have hb : 1000 < s.size := by omega
      go_wp2_with fail
      go_ret3
      exact HE.out
    have HBig := Lib.hid hbig
    have Bs := B3.out.size
    go_wp2_with fail
    refine (nappTwo w3.heap.size (.slice none 0 0) [] (n : Int) w3 (own_nil _ _) (Nat.le_refl _) (by simp)).mono ?_
    rintro e4 w4 ⟨v4, rfl, o4, b4⟩
    rw [List.nil_append, be2_mod hn, ← HKN.out] at o4
    have O4 := Lib.hid o4
    have B4 := Lib.hid b4
    clear o4 b4 c0 c1 c2 c3
    obtain ⟨c0, c1, c2, c3⟩ := (HB3.out.kept B4.out).cells
    cases lf with
    | true =>
      have hu := fun j => upL_length HO.out HL.out j
      have HU := Lib.hid hu
      have HA := Lib.hid (upL_all HO.out HL.out)
      have hmn : m = n := by have := (ND.ok_leaf HO.out HL.out).1; rw [HVN.out, HKN.out] at this; exact this
      subst hmn
      clear hu
      go_wp2_with fail
      go_loopw [6, 28] (fun v i wr => ∃ j : Nat, j ≤ m ∧ i = .int .i64 j ∧ Hid (Own wr w3.heap.size v (upL s j)) ∧ Hid (Below w3.heap.size w3 wr)) (fun _ i _ => m - (intOf i).toNat)
      case atStart => exact ⟨0, Nat.zero_le _, rfl, Lib.hid (by rw [upL_zero]; exact O4.out), B4⟩
      case round =>
        obtain ⟨j, hj, rfl, HOj, HBj⟩ := hrel
        clear c0 c1 c2 c3
        obtain ⟨c0, c1, c2, c3⟩ := (HB3.out.kept HBj.out).cells
        by_cases hlt : j < m
        · obtain ⟨b, off, s1, rfl, hv, f3⟩ := H3.out.ke.strAt hlt
          obtain ⟨b', off', s2, rfl, hv', g3⟩ := H3.out.va.strAt hlt
          have HN := Lib.hid (upL_next hv hv')
          have z1 := nkey_small HO.out hv
          have z2 := nval_small HO.out hv'
          have z3 := HU.out j
          have z4 : s1.size ≤ 120 := by have := ND.ok_keys HO.out _ (List.mem_of_getElem? hv); rw [toList_length] at this; exact this
          have HG := Lib.hid g3
          have f0 := cell_on HBj.out f3
          clear hv hv' f3 g3
          go_wp2_with fail
          refine (nappText w3.heap.size _ (upL s j) s1 _ HOj.out HBj.out.size (by omega) z1).mono ?_
          rintro e5 w5 ⟨v5, rfl, o5, b5⟩
          have O5 := Lib.hid o5
          have B5 := Lib.hid (HBj.out.trans b5)
          have hz5 : (upL s j ++ ND.tx s1.toList).length ≤ 1200 := by rw [List.length_append, ND.tx_length, toList_length]; omega
          clear o5 b5 c0 c1 c2 c3 f0
          obtain ⟨c0, c1, c2, c3⟩ := (HB3.out.kept B5.out).cells
          have g0 := cell_on B5.out HG.out
          go_wp2_with fail
          refine (nappText w3.heap.size _ _ s2 _ O5.out B5.out.size (by omega) z2).mono ?_
          rintro e6 w6 ⟨v6, rfl, o6, b6⟩
          rw [← HN.out] at o6
          have O6 := Lib.hid o6
          have B6 := Lib.hid (B5.out.trans b6)
          clear o6 b6 c0 c1 c2 c3 g0
          go_wp2_with fail
          go_roundw
          case rel => exact ⟨j + 1, by omega, by go_num, O6, B6⟩
          case measure => simp [intOf]; omega
        · obtain rfl : m = j := by omega
          have o5 := HOj.out
          rw [← HKN.out, HA.out] at o5
          have HE := Lib.hid (nenc_good HO.out HBig.out o5 Bs (B3.out.trans (HBj.out.mono Bs)))
          rw [HL.out] at HE
          clear o5
          go_wp2_with fail
          go_ret3
          exact HE.out
    | false =>
      have hu := fun j => upI_length HO.out HL.out j
      have HU := Lib.hid hu
      have HA := Lib.hid (upI_all HO.out HL.out)
      have hkn : k = n + 1 := by have := (ND.ok_inner HO.out HL.out).2.1; rw [HKN.out, HCN.out] at this; exact this
      subst hkn
      clear hu
      obtain ⟨bk, ok, z, rfl, hv0, f3⟩ := H3.out.ki.intAt (k := 0) (by omega)
      rw [Nat.add_zero] at f3
      have HZ := Lib.hid (upI_zero hv0)
      have q0 := cell_on B4.out f3
      clear hv0 f3
      go_wp2_with fail
      refine (nappFour w3.heap.size _ _ z _ O4.out B4.out.size (by rw [be_length _ (by omega)]; omega)).mono ?_
      rintro e5 w5 ⟨v5, rfl, o5, b5⟩
      rw [← HZ.out] at o5
      have O5 := Lib.hid o5
      have B5 := Lib.hid (B4.out.trans b5)
      clear o5 b5 c0 c1 c2 c3 q0
      obtain ⟨c0, c1, c2, c3⟩ := (HB3.out.kept B5.out).cells
      go_wp2_with fail
      go_loopw [6, 54] (fun v i wr => ∃ j : Nat, j ≤ n ∧ i = .int .i64 j ∧ Hid (Own wr w3.heap.size v (upI s j)) ∧ Hid (Below w3.heap.size w3 wr)) (fun _ i _ => n - (intOf i).toNat)
      case atStart => exact ⟨0, Nat.zero_le _, rfl, O5, B5⟩
      case round =>
        obtain ⟨j, hj, rfl, HOj, HBj⟩ := hrel
        clear c0 c1 c2 c3
        obtain ⟨c0, c1, c2, c3⟩ := (HB3.out.kept HBj.out).cells
        by_cases hlt : j < n
        · obtain ⟨b, off, s1, rfl, hv, f3⟩ := H3.out.ke.strAt hlt
          obtain ⟨b', off', z2, hA, hv', g3⟩ := H3.out.ki.intAt (k := j + 1) (by omega)
          obtain ⟨rfl, rfl⟩ : bk = b' ∧ ok = off' := by
            have := Option.some.inj hA
            injection this with h1 h2
            exact ⟨h1, h2⟩
          have HN := Lib.hid (upI_next hv hv')
          have z1 := nkey_small HO.out hv
          have z3 := HU.out j
          have z4 : s1.size ≤ 120 := by have := ND.ok_keys HO.out _ (List.mem_of_getElem? hv); rw [toList_length] at this; exact this
          have HG := Lib.hid g3
          have f0 := cell_on HBj.out f3
          clear hv hv' f3 g3 hA
          go_wp2_with fail
          refine (nappText w3.heap.size _ (upI s j) s1 _ HOj.out HBj.out.size (by omega) z1).mono ?_
          rintro e6 w6 ⟨v6, rfl, o6, b6⟩
          have O6 := Lib.hid o6
          have B6 := Lib.hid (HBj.out.trans b6)
          have hz5 : (upI s j ++ ND.tx s1.toList).length ≤ 1200 := by rw [List.length_append, ND.tx_length, toList_length]; omega
          clear o6 b6 c0 c1 c2 c3 f0
          obtain ⟨c0, c1, c2, c3⟩ := (HB3.out.kept B6.out).cells
          have g0 := cell_on B6.out HG.out
          go_wp2_with fail
          refine (nappFour w3.heap.size _ _ z2 _ O6.out B6.out.size (by omega)).mono ?_
          rintro e7 w7 ⟨v7, rfl, o7, b7⟩
          rw [← HN.out] at o7
          have O7 := Lib.hid o7
          have B7 := Lib.hid (B6.out.trans b7)
          clear o7 b7 c0 c1 c2 c3 g0
          go_wp2_with fail
          go_roundw
          case rel => exact ⟨j + 1, by omega, by go_num, O7, B7⟩
          case measure => simp [intOf]; omega
        · obtain rfl : n = j := by omega
          have o5 := HOj.out
          rw [← HKN.out, HA.out] at o5
          have HE := Lib.hid (nenc_good HO.out HBig.out o5 Bs (B3.out.trans (HBj.out.mono Bs)))
          rw [HL.out] at HE
          clear o5
          go_wp2_with fail
          go_ret3
          exact HE.out
end Go.Proofs.Ytgnlmbelaempcaa
