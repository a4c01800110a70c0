/-
  What the laws' Few comes to; a node that comes in.
-/
import Derived.Test.YtcdfjaldnelfjaaNMem
import Derived.Test.YtcdfjaldnelfjaaOpenI
import Derived.Deep.Cut
namespace Go.Proofs.Ytcdfjaldnelfjaa
open Go.ChangeShapes Go.WideShapes Go.ChangeAt Go.RowKit Go.Joins Go.Deep

/-- A node of few and short keys, values, kids. -/
def Small (s : ND) : Prop := s.keys.length ≤ 300 ∧ s.vals.length ≤ 300 ∧ s.kids.length ≤ 300 ∧ (∀ t ∈ s.keys, t.length ≤ 300) ∧ (∀ t ∈ s.vals, t.length ≤ 300)
theorem Small.size {s : ND} (h : Small s) : s.size ≤ 200000 := by
  obtain ⟨h1, h2, h3, h4, h5⟩ := h
  have a := ND.tsl_le _ _ h4
  have b := ND.tsl_le _ _ h5
  unfold ND.size ND.tsz
  omega
/-- What Few answers. -/
def FewEnd (w : World) (s : ND) (e : Ending) (w' : World) : Prop := ∃ r : Bool, e = .returned (.bool r) ∧ (r = true → Small s) ∧ Below w.heap.size w w'

theorem few_next {l : List (List UInt8)} {k : Nat} {t : ByteArray} (hv : l[k]? = some t.toList) (h : t.size ≤ 300) (h0 : ∀ x ∈ l.take k, x.length ≤ 300) : ∀ x ∈ l.take (k + 1), x.length ≤ 300 := by
  rw [List.take_add_one, hv, Option.toList_some]
  intro x hx
  rcases List.mem_append.1 hx with hx | hx
  · exact h0 x hx
  · rw [List.mem_singleton.1 hx, toList_length]
    exact h

set_option maxRecDepth 20000 in
set_option maxHeartbeats 1600000 in
theorem nfew_any (lf : Bool) (A : Option Addr) (n c : Nat) (B : Option Addr) (m d : Nat) (C : Option Addr) (k e : Nat) (s : ND) (w : World) (h : Nd w A n c B m d C k e s) :
    Calls Try.prog 34 #[.agg #[.bool lf, .slice A n c, .slice B m d, .slice C k e]] w (FewEnd w s) := by
  have HB := Lib.hid (nbox_new w (.bool lf) (.slice A n c) (.slice B m d) (.slice C k e))
  have b1 := below_one w (.cells #[.bool lf, .slice A n c, .slice B m d, .slice C k e] 25)
  have B1 := Lib.hid b1
  have H1 := Lib.hid (h.kept b1)
  have HKN := Lib.hid h.kn
  have HVN := Lib.hid h.vn
  have HCN := Lib.hid h.cn
  clear b1 h
  go_enter Try.func34, Try.ntmps34
  go_upto_region 1 with fail
  generalize w.alloc (.cells #[.bool lf, .slice A n c, .slice B m d, .slice C k e] 25) = w1 at *
  obtain ⟨c0, c1, c2, c3⟩ := HB.out.cells
  by_cases h1 : n ≤ 300
  case neg =>
    have h1' : 300 < n := by omega
    clear h1
    go_wp2_with fail
    go_ret
    exact ⟨false, rfl, (fun e => by cases e), B1.out⟩
  by_cases h2 : m ≤ 300
  case neg =>
    have h2' : 300 < m := by omega
    clear h2
    go_wp2_with fail
    go_ret
    exact ⟨false, rfl, (fun e => by cases e), B1.out⟩
  by_cases h3 : k ≤ 300
  case neg =>
    have h3' : 300 < k := by omega
    clear h3
    go_wp2_with fail
    go_ret
    exact ⟨false, rfl, (fun e => by cases e), B1.out⟩
  go_wp2_with fail
  go_loop [3] (fun i => ∃ j : Nat, j ≤ n ∧ i = .int .i64 j ∧ Hid (∀ x ∈ s.keys.take j, x.length ≤ 300)) (fun i => n - (RowKit.intOf i).toNat)
  case atStart => exact ⟨0, Nat.zero_le _, rfl, Lib.hid (fun x hx => by simp at hx)⟩
  case round =>
    obtain ⟨j, hj, rfl, HA⟩ := hrel
    by_cases hlt : j < n
    · obtain ⟨b, off, t, rfl, hv, f0⟩ := H1.out.ke.strAt hlt
      by_cases hz : t.size ≤ 300
      · have HE := Lib.hid (few_next hv hz HA.out)
        clear hv
        go_wp2_with fail
        go_round
        case rel => exact ⟨j + 1, by omega, by go_num, HE⟩
        case measure => simp [RowKit.intOf]; omega
      · have hz2 : 300 < t.size := by omega
        clear hv hz
        go_wp2_with fail
        go_ret
        exact ⟨false, rfl, (fun e => by cases e), B1.out⟩
    · obtain rfl : n = j := by omega
      have HKA : Hid (∀ x ∈ s.keys, x.length ≤ 300) := Lib.hid (by have := HA.out; rw [List.take_of_length_le (by rw [HKN.out]; omega)] at this; exact this)
      clear HA hj hlt
      go_wp2_with fail
      go_loop [4] (fun i => ∃ j : Nat, j ≤ m ∧ i = .int .i64 j ∧ Hid (∀ x ∈ s.vals.take j, x.length ≤ 300)) (fun i => m - (RowKit.intOf i).toNat)
      case atStart => exact ⟨0, Nat.zero_le _, rfl, Lib.hid (fun x hx => by simp at hx)⟩
      case round =>
        obtain ⟨j, hj, rfl, HA⟩ := hrel
        by_cases hlt : j < m
        · obtain ⟨b, off, t, rfl, hv, f0⟩ := H1.out.va.strAt hlt
          by_cases hz : t.size ≤ 300
          · have HE := Lib.hid (few_next hv hz HA.out)
            clear hv
            go_wp2_with fail
            go_round
            case rel => exact ⟨j + 1, by omega, by go_num, HE⟩
            case measure => simp [RowKit.intOf]; omega
          · have hz2 : 300 < t.size := by omega
            clear hv hz
            go_wp2_with fail
            go_ret
            exact ⟨false, rfl, (fun e => by cases e), B1.out⟩
        · obtain rfl : m = j := by omega
          have HVA : Hid (∀ x ∈ s.vals, x.length ≤ 300) := Lib.hid (by have := HA.out; rw [List.take_of_length_le (by rw [HVN.out]; omega)] at this; exact this)
          go_wp2_with fail
          go_ret
          exact ⟨true, rfl, fun _ => ⟨by rw [HKN.out]; exact h1, by rw [HVN.out]; exact h2, by rw [HCN.out]; exact h3, HKA.out, HVA.out⟩, B1.out⟩

/-! ### What comes in -/

theorem list4 {α : Type} {l : List α} (h : l.length = 4) : ∃ a b c d, l = [a, b, c, d] := by
  match l, h with
  | [a, b, c, d], _ => exact ⟨a, b, c, d, rfl⟩

section
variable {H : Type} {enc : TypeId × Value → H} {w : World} {base : Nat} {spare : Nat → Bool} {held : Bool}

set_option maxRecDepth 20000 in
theorem nodeCells4 : Try.prog.cellsOf 25 = 4 := by kernel_rfl
set_option maxRecDepth 20000 in
theorem strCells1 : Try.prog.cellsOf 9 = 1 := by kernel_rfl
set_option maxRecDepth 20000 in
theorem strsCells1 : Try.prog.cellsOf 22 = 1 := by kernel_rfl
set_option maxRecDepth 20000 in
theorem nintsCells1 : Try.prog.cellsOf 23 = 1 := by kernel_rfl
set_option maxRecDepth 20000 in
theorem nboolCells1 : Try.prog.cellsOf 4 = 1 := by kernel_rfl

set_option maxRecDepth 20000 in
theorem nints_of {fuel : Nat} {v : Value} {x : DataW H × List MemPlace} (hf : DataW.trod enc Try.prog w base spare held fuel 23 [v] = some x) :
    ∃ (A : Option Addr) (n c : Nat) (l : List Int), v = .slice A n c ∧ Ln w 1 A n c (intVals l) ∧ c ≤ maxLen := by
  rcases open_slice Try.underlying23 hf with ⟨hcs, _⟩ | ⟨a, n, c, m, f, D, Pl, hcs, _, hl, hcm, hm, _, hi⟩
  · simp at hcs
    subst hcs
    exact ⟨none, 0, 0, [], rfl, Ln.none_ w 1, Nat.zero_le _⟩
  · simp at hcs
    subst hcs
    have hlm : n ≤ m := by rw [hm]; split <;> omega
    have each : ∀ i, i < n → ∃ z : Int, w.cell? (a.add i) = some (.int .i64 z) := by
      intro i hin
      obtain ⟨cs', hc, ht⟩ := hi i (by omega)
      rw [intCells] at hc
      obtain ⟨z, rfl, _, hwf⟩ := DataW.trod_int Try.underlying3 ht
      obtain ⟨_, _, hat⟩ := World.cells?_some hc
      have := hat 0 (by omega)
      rw [Nat.mul_one] at this
      refine ⟨z, ?_⟩
      simpa [Addr.add] using this
    obtain ⟨zs, hlen, hx⟩ := pick_each (fun i (z : Int) => w.cell? (a.add i) = some (.int .i64 z)) (fun v => v) n each
    refine ⟨_, _, _, zs, rfl, ⟨by rw [intVals_length, hlen, Nat.mul_one], hl, fun e => (by cases e), fun ad e j u hu => ?_⟩, hcm⟩
    obtain rfl := Option.some.inj e
    rw [intVals, List.getElem?_map] at hu
    obtain ⟨z, hz, rfl⟩ := Option.map_eq_some_iff.1 hu
    exact hx j z hz

set_option maxRecDepth 20000 in
theorem nstrs_of {fuel : Nat} {v : Value} {x : DataW H × List MemPlace} (hf : DataW.trod enc Try.prog w base spare held fuel 22 [v] = some x) :
    ∃ (A : Option Addr) (n c : Nat) (l : List (List UInt8)), v = .slice A n c ∧ Ln w 1 A n c (strVals l) ∧ c ≤ maxLen := by
  rcases open_slice Try.underlying22 hf with ⟨hcs, _⟩ | ⟨a, n, c, m, f, D, Pl, hcs, _, hl, hcm, hm, _, hi⟩
  · simp at hcs
    subst hcs
    exact ⟨none, 0, 0, [], rfl, Ln.none_ w 1, Nat.zero_le _⟩
  · simp at hcs
    subst hcs
    have hlm : n ≤ m := by rw [hm]; split <;> omega
    have each : ∀ i, i < n → ∃ t : List UInt8, w.cell? (a.add i) = some (.string (tb t)) := by
      intro i hin
      obtain ⟨cs', hc, ht⟩ := hi i (by omega)
      rw [strCells1] at hc
      obtain ⟨z, rfl, _⟩ := DataW.trod_string Try.underlying9 ht
      obtain ⟨_, _, hat⟩ := World.cells?_some hc
      have := hat 0 (by omega)
      rw [Nat.mul_one] at this
      refine ⟨z.toList, ?_⟩
      rw [tb_back]
      simpa [Addr.add] using this
    obtain ⟨zs, hlen, hx⟩ := pick_each (fun i (t : List UInt8) => w.cell? (a.add i) = some (.string (tb t))) (fun v => v) n each
    refine ⟨_, _, _, zs, rfl, ⟨by rw [strVals_length, hlen, Nat.mul_one], hl, fun e => (by cases e), fun ad e j u hu => ?_⟩, hcm⟩
    obtain rfl := Option.some.inj e
    rw [strVals, List.getElem?_map] at hu
    obtain ⟨z, hz, rfl⟩ := Option.map_eq_some_iff.1 hu
    exact hx j z hz

set_option maxRecDepth 20000 in
theorem node_of {fuel : Nat} {cs : List Value} {x : DataW H × List MemPlace} (h : DataW.trod enc Try.prog w base spare held fuel 25 cs = some x) :
    ∃ (s : ND) (A : Option Addr) (n c : Nat) (B : Option Addr) (m d : Nat) (C : Option Addr) (k e : Nat), cs = [.bool s.leaf, .slice A n c, .slice B m d, .slice C k e] ∧ Nd w A n c B m d C k e s ∧ c ≤ maxLen ∧ d ≤ maxLen ∧ e ≤ maxLen := by
  obtain ⟨ys, n, _, _, hlen, hys, hf⟩ := DataW.trod_struct Try.underlying25 h
  obtain ⟨a, b, c, d, rfl⟩ := list4 (hlen.trans nodeCells4)
  obtain ⟨y0, y1, y2, y3, rfl⟩ := list4 hys
  have h0 : DataW.trod enc Try.prog w base spare held n 4 ([a, b, c, d].take (Try.prog.cellsOf 4)) = some y0 := hf 0 _ rfl
  have h1 : DataW.trod enc Try.prog w base spare held n 22 ([b, c, d].take (Try.prog.cellsOf 22)) = some y1 := hf 1 _ rfl
  have h2 : DataW.trod enc Try.prog w base spare held n 22 ([c, d].take (Try.prog.cellsOf 22)) = some y2 := hf 2 _ rfl
  have h3 : DataW.trod enc Try.prog w base spare held n 23 ([d].take (Try.prog.cellsOf 23)) = some y3 := hf 3 _ rfl
  rw [nboolCells1] at h0
  rw [strsCells1] at h1 h2
  rw [nintsCells1] at h3
  obtain ⟨z0, e0, _⟩ := DataW.trod_bool Try.underlying4 h0
  obtain ⟨A, i1, k1, l1, e1, q1, g1⟩ := nstrs_of h1
  obtain ⟨B, i2, k2, l2, e2, q2, g2⟩ := nstrs_of h2
  obtain ⟨C, i3, k3, l3, e3, q3, g3⟩ := nints_of h3
  simp only [List.take_succ_cons, List.take_zero, List.cons.injEq, and_true] at e0
  exact ⟨⟨z0, l1, l2, l3⟩, A, i1, k1, B, i2, k2, C, i3, k3, by rw [e0, e1, e2, e3], ⟨q1, q2, q3⟩, g1, g2, g3⟩

set_option maxRecDepth 20000 in
/-- A node that comes in. -/
theorem open_node {v : Value} {d : DataW H} {p : List MemPlace} {r : Reach} {b0 : Nat} (hv : Value.okWide Try.prog w r b0 25 v) (h : DataW.Trod enc Try.prog w base spare held 25 v d p) :
    ∃ (s : ND) (A : Option Addr) (n c : Nat) (B : Option Addr) (m d : Nat) (C : Option Addr) (k e : Nat), v = .agg #[.bool s.leaf, .slice A n c, .slice B m d, .slice C k e] ∧ Nd w A n c B m d C k e s ∧ c ≤ maxLen ∧ d ≤ maxLen ∧ e ≤ maxLen := by
  obtain ⟨cs, rfl, hsz⟩ := okWide_struct Try.underlying25 hv
  obtain ⟨fuel, hf⟩ := h
  obtain ⟨l⟩ := cs
  obtain ⟨s, A, n, c, B, m, d, C, k, e, e0, h1, h2⟩ := node_of (cs := l) (by simpa [Value.cells] using hf)
  exact ⟨s, A, n, c, B, m, d, C, k, e, by rw [e0], h1, h2⟩

set_option maxRecDepth 20000 in
/-- A text that comes in. -/
theorem open_text {v : Value} {d : DataW H} {p : List MemPlace} {r : Reach} {b0 : Nat} (hv : Value.okWide Try.prog w r b0 9 v) (h : DataW.Trod enc Try.prog w base spare held 9 v d p) :
    ∃ s : ByteArray, v = .string s := by
  obtain ⟨s, rfl⟩ := okWide_string Try.underlying9 hv
  exact ⟨s, rfl⟩
end
end Go.Proofs.Ytcdfjaldnelfjaa
