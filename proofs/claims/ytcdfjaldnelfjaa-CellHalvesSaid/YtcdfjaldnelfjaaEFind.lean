/-
  What cell's Find and Kid come to.
-/
import Derived.Test.YtcdfjaldnelfjaaEMore
import Derived.Test.YtcdfjaldnelfjaaNSize
import Derived.Deep.QuietTactic
import Derived.BigQuiet
import Derived.Deep.Cut
import Derived.IntWalk
import Derived.Shelf.Abstract
namespace Go.Proofs.Ytcdfjaldnelfjaa
open Go.RowKit

/-- A block that holds a text. -/
def KBox (w : World) (g : Nat) (s : ByteArray) : Prop := w.heap[g]? = some (.cells #[.string s] 9 (0, 0))
theorem KBox.lt {w : World} {g : Nat} {s : ByteArray} (h : KBox w g s) : g < w.heap.size := (Array.getElem?_eq_some_iff.1 h).1
theorem KBox.kept {w w' : World} {g : Nat} {s : ByteArray} (h : KBox w g s) (hb : Below w.heap.size w w') : KBox w' g s := (hb.block g h.lt).trans h
theorem KBox.cell {w : World} {g : Nat} {s : ByteArray} (h : KBox w g s) : w.cell? ⟨g, 0, none⟩ = some (.string s) := (cell_of_row w g 0 _ _ _ h).trans rfl

theorem gtr_less (a b : List UInt8) : (!Op.bytesLess a b && !a == b) = Op.bytesLess b a := by
  rcases less_total a b with h | h | h
  · rw [h]
    cases hb : Op.bytesLess b a with
    | false => rfl
    | true => have := less_trans a b a h hb; rw [less_irrefl] at this; cases this
  · subst h
    rw [less_irrefl]
    simp
  · rw [h]
    have h1 : Op.bytesLess a b = false := by
      cases hb : Op.bytesLess a b with
      | false => rfl
      | true => have := less_trans a b a hb h; rw [less_irrefl] at this; cases this
    have h2 : (a == b) = false := by
      rw [beq_eq_false_iff_ne]
      rintro rfl
      rw [less_irrefl] at h
      cases h
    rw [h1, h2]
    rfl

set_option maxRecDepth 20000 in
set_option maxHeartbeats 1600000 in
theorem notBefore_any (g h : Nat) (A : Option Addr) (n c : Nat) (l : List (List UInt8)) (key : ByteArray) (i : Nat) (p : Bool) (w : World) (c1 : w.cell? ⟨g, 1, none⟩ = some (.slice A n c)) (ck : w.cell? ⟨h, 0, none⟩ = some (.string key)) (hl : Ln w 1 A n c (strVals l)) (hi : i < n)
    (hp : ∀ t, l[i]? = some t → p = !Op.bytesLess t key.toList) :
    Calls Try.prog 35 #[.int .i64 i, .pointer (some ⟨g, 0, none⟩), .pointer (some ⟨h, 0, none⟩)] w fun e w' => e = .returned (.bool p) ∧ Below w.heap.size w w' := by
  obtain ⟨b, off, s, rfl, hv, c0⟩ := hl.strAt hi
  have HP := Lib.hid (hp _ hv)
  clear hp hv hl
  go_enter Try.func35, Try.ntmps35
  go_wp2_with fail
  go_quiet (fail)
  go_wp2_with fail
  go_ret
  exact ⟨ret_bool HP.out.symm, belowN (Below.refl _ _) _⟩

set_option maxRecDepth 20000 in
set_option maxHeartbeats 1600000 in
theorem behind_any (g h : Nat) (A : Option Addr) (n c : Nat) (l : List (List UInt8)) (key : ByteArray) (i : Nat) (p : Bool) (w : World) (c1 : w.cell? ⟨g, 1, none⟩ = some (.slice A n c)) (ck : w.cell? ⟨h, 0, none⟩ = some (.string key)) (hl : Ln w 1 A n c (strVals l)) (hi : i < n)
    (hp : ∀ t, l[i]? = some t → p = Op.bytesLess key.toList t) :
    Calls Try.prog 37 #[.int .i64 i, .pointer (some ⟨g, 0, none⟩), .pointer (some ⟨h, 0, none⟩)] w fun e w' => e = .returned (.bool p) ∧ Below w.heap.size w w' := by
  obtain ⟨b, off, s, rfl, hv, c0⟩ := hl.strAt hi
  have HP := Lib.hid (hp _ hv)
  clear hp hv hl
  go_enter Try.func37, Try.ntmps37
  go_wp2_with fail
  go_quiet (fail)
  go_wp2_with fail
  go_ret
  exact ⟨ret_bool (by rw [HP.out]; exact gtr_less _ _), belowN (Below.refl _ _) _⟩

/-- What a search answers. -/
def SeekEnd (w : World) (n : Nat) (p : Nat → Bool) (e : Ending) (w' : World) : Prop := ∃ r : Nat, e = .returned (.int .i64 r) ∧ r ≤ n ∧ (∀ i, i < r → p i = false) ∧ (∀ i, r ≤ i → i < n → p i = true) ∧ Below w.heap.size w w'

set_option maxRecDepth 20000 in
set_option maxHeartbeats 1600000 in
theorem search_any (f : Nat) (x y : Value) (n : Nat) (p : Nat → Bool) (w : World) (hn : n ≤ 1000000)
    (hmono : ∀ i j, i ≤ j → j < n → p i = true → p j = true)
    (eg : ∀ args w, (callFunc f args).run Try.prog w = .ok (.enter f args) w)
    (hf : ∀ (i : Nat) (wx : World), i < n → Below w.heap.size w wx → Calls Try.prog f #[.int .i64 i, x, y] wx fun e w' => e = .returned (.bool (p i)) ∧ Below wx.heap.size wx w') :
    Calls Try.prog 36 #[.int .i64 n, .func (.func f) #[] #[x, y]] w (SeekEnd w n p) := by
  have HM := Lib.hid hmono
  have HF := Lib.hid hf
  clear hmono hf
  go_enter Try.func36, Try.ntmps36
  go_wp2_with fail
  obtain ⟨wo, rfl⟩ : ∃ wo : World, wo = w := ⟨_, rfl⟩
  go_loopw [5, 6] (fun s5 s6 wr => ∃ lo hi : Nat, lo ≤ hi ∧ hi ≤ n ∧ s5 = .int .i64 lo ∧ s6 = .int .i64 hi ∧ Hid (∀ i, i < lo → p i = false) ∧ Hid (∀ i, hi ≤ i → i < n → p i = true) ∧ Hid (Below wo.heap.size wo wr)) (fun s5 s6 _ => (intOf s6).toNat - (intOf s5).toNat)
  case atStart => exact ⟨0, n, by omega, by omega, rfl, rfl, Lib.hid (fun i hi => absurd hi (by omega)), Lib.hid (fun i h1 h2 => absurd h2 (by omega)), Lib.hid (Below.refl _ _)⟩
  case round =>
    obtain ⟨lo, hi, h1, h2, rfl, rfl, HA, HZ, HB⟩ := hrel
    by_cases hlt : lo < hi
    · have hc := HF.out ((lo + hi) / 2) wr (by omega) HB.out
      have em : (((lo + hi) / 2 : Nat) : Int) = ((lo : Int) + (hi : Int)) / 2 := by omega
      rw [em] at hc
      have HC := Lib.hid hc
      clear hc em
      go_wp2_with fail
      refine HC.out.mono ?_
      rintro e w1 ⟨rfl, b1⟩
      have B1 := Lib.hid (chainN b1 HB.out)
      clear b1 HC HB
      cases hp : p ((lo + hi) / 2) with
      | false =>
        have HP := Lib.hid hp
        clear hp
        go_wp2_with fail
        go_roundw
        case rel => exact ⟨(lo + hi) / 2 + 1, hi, by omega, h2, by first | go_num | (simp; omega), rfl, Lib.hid (fun i hj => by
          cases hq : p i with
          | false => rfl
          | true => have := HM.out i ((lo + hi) / 2) (by omega) (by omega) hq; rw [HP.out] at this; cases this), HZ, B1⟩
        case measure => simp [intOf]; omega
      | true =>
        have HP := Lib.hid hp
        clear hp
        go_wp2_with fail
        go_roundw
        case rel => exact ⟨lo, (lo + hi) / 2, by omega, by omega, rfl, by first | go_num | (simp; omega), HA, Lib.hid (fun i h3 h4 => HM.out ((lo + hi) / 2) i h3 h4 HP.out), B1⟩
        case measure => simp [intOf]; omega
    · obtain rfl : lo = hi := by omega
      go_wp2_with fail
      go_ret
      exact ⟨lo, rfl, h2, HA.out, HZ.out, HB.out⟩

theorem at_getD {l : List (List UInt8)} {i : Nat} {t : List UInt8} (h : l[i]? = some t) : l.getD i [] = t := by
  rw [List.getD_eq_getElem?_getD, h]
  rfl
theorem getD_at {l : List (List UInt8)} {i : Nat} (h : i < l.length) : l[i]? = some (l.getD i []) := by
  rw [List.getD_eq_getElem?_getD, List.getElem?_eq_getElem h]
  rfl

/-- Where keys that rise are no longer before a key, they stay so. -/
theorem mono_find {l : List (List UInt8)} {key : List UInt8} {n : Nat} (hl : l.length = n) (hr : ND.rise [] l = true) (i j : Nat) (hij : i ≤ j) (hj : j < n) (h : (!Op.bytesLess (l.getD i []) key) = true) : (!Op.bytesLess (l.getD j []) key) = true := by
  rcases Nat.lt_or_ge i j with h1 | h1
  · cases hb : Op.bytesLess (l.getD j []) key with
    | false => rfl
    | true =>
      have := less_trans _ _ _ (ND.rise_pair [] l hr i j _ _ h1 (getD_at (by omega)) (getD_at (by omega))) hb
      rw [this] at h
      cases h
  · obtain rfl : i = j := by omega
    exact h
theorem mono_kid {l : List (List UInt8)} {key : List UInt8} {n : Nat} (hl : l.length = n) (hr : ND.rise [] l = true) (i j : Nat) (hij : i ≤ j) (hj : j < n) (h : Op.bytesLess key (l.getD i []) = true) : Op.bytesLess key (l.getD j []) = true := by
  rcases Nat.lt_or_ge i j with h1 | h1
  · exact less_trans _ _ _ h (ND.rise_pair [] l hr i j _ _ h1 (getD_at (by omega)) (getD_at (by omega)))
  · obtain rfl : i = j := by omega
    exact h

/-- The argument's block, and the key's. -/
theorem nkbox (w : World) (x y z p : Value) (key : ByteArray) : NBox ((w.alloc (.cells #[x, y, z, p] 25)).alloc (.cells #[.string key] 9)) w.heap.size x y z p ∧
    KBox ((w.alloc (.cells #[x, y, z, p] 25)).alloc (.cells #[.string key] 9)) (w.heap.size + 1) key ∧ Below w.heap.size w ((w.alloc (.cells #[x, y, z, p] 25)).alloc (.cells #[.string key] 9)) := by
  refine ⟨(nbox_new w x y z p).kept (below_one _ _), ?_, below_two _ _ _⟩
  have h : KBox ((w.alloc (.cells #[x, y, z, p] 25)).alloc (.cells #[.string key] 9)) (w.alloc (.cells #[x, y, z, p] 25)).heap.size key := heap_alloc_new _ _
  rw [show (w.alloc (.cells #[x, y, z, p] 25)).heap.size = w.heap.size + 1 by simp] at h
  exact h

/-- A call that answers a place, and whether. -/
def PlaceEnd (w : World) (r : Nat) (is : Bool) (e : Ending) (w' : World) : Prop := e = .returned (.tuple #[.int .i64 r, .bool is]) ∧ Below w.heap.size w w'

set_option maxRecDepth 20000 in
set_option maxHeartbeats 1600000 in
theorem find_any (lf : Bool) (A : Option Addr) (n c : Nat) (B : Option Addr) (m d : Nat) (C : Option Addr) (k e : Nat) (s : ND) (key : ByteArray) (w : World) (h : Nd w A n c B m d C k e s) (hr : ND.rise [] s.keys = true) (hn : n ≤ 1000000) :
    Calls Try.prog 13 #[.agg #[.bool lf, .slice A n c, .slice B m d, .slice C k e], .string key] w (PlaceEnd w (ND.findN key.toList s.keys) (ND.isAt key.toList s.keys)) := by
  obtain ⟨tb1, tb2, tb3⟩ := nkbox w (.bool lf) (.slice A n c) (.slice B m d) (.slice C k e) key
  have HS := Lib.hid (h.kept tb3)
  have HB := Lib.hid tb1
  have HK := Lib.hid tb2
  have B0 := Lib.hid tb3
  have HN := Lib.hid h.kn
  have HR := Lib.hid hr
  have eg : ∀ args w, (callFunc 35 args).run Try.prog w = .ok (.enter 35 args) w := enters_of Try.func35 (by kernel_rfl) rfl
  clear h hr tb1 tb2 tb3
  go_enter Try.func13, Try.ntmps13
  go_upto_region 1 with fail
  generalize (w.alloc (.cells #[.bool lf, .slice A n c, .slice B m d, .slice C k e] 25)).alloc (.cells #[.string key] 9) = w0 at *
  obtain ⟨c0, c1, c2, c3⟩ := HB.out.cells
  go_wp2_with fail
  refine (search_any 35 (.pointer (some ⟨w.heap.size, 0, none⟩)) (.pointer (some ⟨w.heap.size + 1, 0, none⟩)) n (fun i => !Op.bytesLess (s.keys.getD i []) key.toList) w0 hn
    (fun i j h1 h2 h3 => mono_find HN.out HR.out i j h1 h2 h3) eg
    (fun i wx hi hb => notBefore_any _ _ A n c s.keys key i _ wx (HB.out.kept hb).cells.2.1 (HK.out.kept hb).cell (HS.out.ke.kept hb) hi (fun t ht => by simp only [at_getD ht]))).mono ?_
  rintro e1 w1 ⟨r, rfl, hrn, hr1, hr2, b1⟩
  have hE : r = ND.findN key.toList s.keys := ND.findN_of (by rw [HN.out]; exact hrn) (fun i t hi ht => by have := hr1 i hi; simp only [at_getD ht] at this; simpa using this)
    (fun t ht => by have hlt := (List.getElem?_eq_some_iff.1 ht).1; have := hr2 r (Nat.le_refl _) (by rw [← HN.out]; exact hlt); simp only [at_getD ht] at this; simpa using this)
  have HE := Lib.hid hE
  have B1 := Lib.hid (chainN b1 B0.out)
  have HB1 := Lib.hid (HB.out.kept b1)
  have HK1 := Lib.hid (HK.out.kept b1)
  have HS1 := Lib.hid (HS.out.kept b1)
  clear hr1 hr2 b1 eg c0 c1 c2 c3 hE
  obtain ⟨c0, c1, c2, c3⟩ := HB1.out.cells
  have ck := HK1.out.cell
  by_cases hlt : r < n
  · obtain ⟨b, off, t, rfl, hv, f0⟩ := HS1.out.ke.strAt hlt
    have HV := Lib.hid hv
    have hd : decide ((r : Int) < (n : Int)) = true := decide_eq_true (by omega)
    clear hv
    go_wp2_with fail
    go_quiet (fail)
    go_wp2_with fail
    go_ret2
    refine ⟨?_, belowN B1.out _⟩
    rw [← HE.out]
    have e1 : ND.isAt key.toList s.keys = (t.toList == key.toList) := by
      unfold ND.isAt
      rw [← HE.out, HV.out]
      rw [Bool.eq_iff_iff]
      simp
    rw [e1]
    rfl
  · have hd : decide ((r : Int) < (n : Int)) = false := decide_eq_false (by omega)
    have e1 : Hid (ND.isAt key.toList s.keys = false) := Lib.hid (ND.isAt_end (by rw [← HE.out, HN.out]; exact hlt))
    go_wp2_with fail
    go_quiet (fail)
    go_wp2_with fail
    go_ret2
    refine ⟨?_, belowN B1.out _⟩
    rw [← HE.out, e1.out]
    rfl

set_option maxRecDepth 20000 in
set_option maxHeartbeats 1600000 in
theorem kid_any (lf : Bool) (A : Option Addr) (n c : Nat) (B : Option Addr) (m d : Nat) (C : Option Addr) (k e : Nat) (s : ND) (key : ByteArray) (w : World) (h : Nd w A n c B m d C k e s) (hr : ND.rise [] s.keys = true) (hn : n ≤ 1000000) :
    Calls Try.prog 15 #[.agg #[.bool lf, .slice A n c, .slice B m d, .slice C k e], .string key] w fun e w' => e = .returned (.int .i64 ((ND.kidN key.toList s.keys : Nat) : Int)) ∧ Below w.heap.size w w' := by
  obtain ⟨tb1, tb2, tb3⟩ := nkbox w (.bool lf) (.slice A n c) (.slice B m d) (.slice C k e) key
  have HS := Lib.hid (h.kept tb3)
  have HB := Lib.hid tb1
  have HK := Lib.hid tb2
  have B0 := Lib.hid tb3
  have HN := Lib.hid h.kn
  have HR := Lib.hid hr
  have eg : ∀ args w, (callFunc 37 args).run Try.prog w = .ok (.enter 37 args) w := enters_of Try.func37 (by kernel_rfl) rfl
  clear h hr tb1 tb2 tb3
  go_enter Try.func15, Try.ntmps15
  go_upto_region 1 with fail
  generalize (w.alloc (.cells #[.bool lf, .slice A n c, .slice B m d, .slice C k e] 25)).alloc (.cells #[.string key] 9) = w0 at *
  obtain ⟨c0, c1, c2, c3⟩ := HB.out.cells
  go_wp2_with fail
  refine (search_any 37 (.pointer (some ⟨w.heap.size, 0, none⟩)) (.pointer (some ⟨w.heap.size + 1, 0, none⟩)) n (fun i => Op.bytesLess key.toList (s.keys.getD i [])) w0 hn
    (fun i j h1 h2 h3 => mono_kid HN.out HR.out i j h1 h2 h3) eg
    (fun i wx hi hb => behind_any _ _ A n c s.keys key i _ wx (HB.out.kept hb).cells.2.1 (HK.out.kept hb).cell (HS.out.ke.kept hb) hi (fun t ht => by simp only [at_getD ht]))).mono ?_
  rintro e1 w1 ⟨r, rfl, hrn, hr1, hr2, b1⟩
  have HE : Hid (r = ND.kidN key.toList s.keys) := Lib.hid (ND.kidN_of (by rw [HN.out]; exact hrn) (fun i t hi ht => by have := hr1 i hi; simp only [at_getD ht] at this; exact this)
    (fun t ht => by have hlt := (List.getElem?_eq_some_iff.1 ht).1; have := hr2 r (Nat.le_refl _) (by rw [← HN.out]; exact hlt); simp only [at_getD ht] at this; exact this))
  have B1 := Lib.hid (chainN b1 B0.out)
  clear hr1 hr2 b1 eg c0 c1 c2 c3
  go_wp2_with fail
  go_ret
  exact ⟨by rw [HE.out]; rfl, B1.out⟩

set_option maxRecDepth 20000 in
set_option maxHeartbeats 1600000 in
theorem fits_any (lf : Bool) (A : Option Addr) (n c : Nat) (B : Option Addr) (m d : Nat) (C : Option Addr) (k e : Nat) (s : ND) (w : World) (h : Nd w A n c B m d C k e s) (hz : s.size ≤ 1000000000) :
    Calls Try.prog 17 #[.agg #[.bool lf, .slice A n c, .slice B m d, .slice C k e]] w fun e w' => e = .returned (.bool (decide (s.size ≤ 1000))) ∧ Below w.heap.size w w' := by
  have HB := Lib.hid (nbox_new w (.bool lf) (.slice A n c) (.slice B m d) (.slice C k e))
  have b1 := below_one w (.cells #[.bool lf, .slice A n c, .slice B m d, .slice C k e] 25)
  have B1 := Lib.hid b1
  have H1 := Lib.hid (h.kept b1)
  have HZ := Lib.hid hz
  clear b1 h hz
  go_enter Try.func17, Try.ntmps17
  go_upto_region 1 with fail
  generalize w.alloc (.cells #[.bool lf, .slice A n c, .slice B m d, .slice C k e] 25) = w1 at *
  obtain ⟨c0, c1, c2, c3⟩ := HB.out.cells
  go_wp2_with fail
  refine (nsize_any lf A n c B m d C k e s w1 H1.out HZ.out).mono ?_
  rintro e1 w2 ⟨rfl, b2⟩
  have B2 := Lib.hid (chainN b2 B1.out)
  clear b2
  go_wp2_with fail
  go_ret
  exact ⟨ret_bool (by rw [Bool.eq_iff_iff]; simp; omega), B2.out⟩
set_option maxRecDepth 20000 in
set_option maxHeartbeats 1600000 in
theorem low_any (lf : Bool) (A : Option Addr) (n c : Nat) (B : Option Addr) (m d : Nat) (C : Option Addr) (k e : Nat) (s : ND) (w : World) (h : Nd w A n c B m d C k e s) (hz : s.size ≤ 1000000000) :
    Calls Try.prog 19 #[.agg #[.bool lf, .slice A n c, .slice B m d, .slice C k e]] w fun e w' => e = .returned (.bool (decide (s.size < 300))) ∧ Below w.heap.size w w' := by
  have HB := Lib.hid (nbox_new w (.bool lf) (.slice A n c) (.slice B m d) (.slice C k e))
  have b1 := below_one w (.cells #[.bool lf, .slice A n c, .slice B m d, .slice C k e] 25)
  have B1 := Lib.hid b1
  have H1 := Lib.hid (h.kept b1)
  have HZ := Lib.hid hz
  clear b1 h hz
  go_enter Try.func19, Try.ntmps19
  go_upto_region 1 with fail
  generalize w.alloc (.cells #[.bool lf, .slice A n c, .slice B m d, .slice C k e] 25) = w1 at *
  obtain ⟨c0, c1, c2, c3⟩ := HB.out.cells
  go_wp2_with fail
  refine (nsize_any lf A n c B m d C k e s w1 H1.out HZ.out).mono ?_
  rintro e1 w2 ⟨rfl, b2⟩
  have B2 := Lib.hid (chainN b2 B1.out)
  clear b2
  go_wp2_with fail
  go_ret
  exact ⟨ret_bool (by rw [Bool.eq_iff_iff]; simp; omega), B2.out⟩
end Go.Proofs.Ytcdfjaldnelfjaa
