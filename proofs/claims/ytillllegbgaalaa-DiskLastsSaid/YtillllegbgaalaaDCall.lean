/-
  A script of calls that comes in.
-/
import Derived.Test.YtillllegbgaalaaOpenB
import Derived.Test.YtillllegbgaalaaDLive
namespace Go.Proofs.Ytillllegbgaalaa
open Go.ChangeShapes Go.WideShapes Go.ChangeAt Go.RowKit Go.Joins Go.Deep

/-- One call of a script: its numbers, its bytes and its sectors, and where they lie. -/
structure Cl where
  kind : Int
  n : Int
  bA : Option Addr
  bn : Nat
  bc : Nat
  b : List UInt8
  kA : Option Addr
  kn : Nat
  kc : Nat
  k : List Int
  at_ : Int
  by_ : UInt8

def In64 (z : Int) : Prop := -9223372036854775808 ≤ z ∧ z ≤ 9223372036854775807

/-- Numbers below R. -/
def Nums (w : World) (R : Nat) (A : Option Addr) (l : List Int) : Prop :=
  l = [] ∨ ∃ b off, A = some ⟨b, off, none⟩ ∧ b < R ∧ ∀ i z, l[i]? = some z → w.cell? ⟨b, off + i, none⟩ = some (.int .i64 z) ∧ -9223372036854775808 ≤ z ∧ z ≤ 9223372036854775807

/-- What lies at a call's six cells. -/
structure ClAt (w : World) (R : Nat) (c : Cl) : Prop where
  kind : In64 c.kind
  n : In64 c.n
  at_ : In64 c.at_
  bl : c.b.length = c.bn
  bb : Bys w R c.bA c.b
  bz : c.bA = none → c.bn = 0 ∧ c.bc = 0
  bm : c.bn ≤ maxLen
  kl : c.k.length = c.kn
  kk : Nums w R c.kA c.k
  km : c.kn ≤ maxLen

def Cl.vals (c : Cl) : List Value := [.int .i64 c.kind, .int .i64 c.n, .slice c.bA c.bn c.bc, .slice c.kA c.kn c.kc, .int .i64 c.at_, .int .u8 c.by_.toNat]

/-- A script below R. -/
def Script (w : World) (R : Nat) (A : Option Addr) (l : List Cl) : Prop :=
  l = [] ∨ ∃ b off, A = some ⟨b, off, none⟩ ∧ b < R ∧ ∀ i c, l[i]? = some c → ClAt w R c ∧
    w.cell? ⟨b, off + i * 6, none⟩ = some (.int .i64 c.kind) ∧ w.cell? ⟨b, off + i * 6 + 1, none⟩ = some (.int .i64 c.n) ∧ w.cell? ⟨b, off + i * 6 + 2, none⟩ = some (.slice c.bA c.bn c.bc) ∧
    w.cell? ⟨b, off + i * 6 + 3, none⟩ = some (.slice c.kA c.kn c.kc) ∧ w.cell? ⟨b, off + i * 6 + 4, none⟩ = some (.int .i64 c.at_) ∧ w.cell? ⟨b, off + i * 6 + 5, none⟩ = some (.int .u8 c.by_.toNat)

section
variable {w w' : World} {R : Nat} {A : Option Addr}

theorem Nums.below {l : List Int} (h : Nums w R A l) (hb : Below R w w') : Nums w' R A l := by
  rcases h with rfl | ⟨b, off, rfl, hR, hc⟩
  · exact Or.inl rfl
  · exact Or.inr ⟨b, off, rfl, hR, fun i z hz => ⟨(hb.cell (p := ⟨b, _, none⟩) hR).trans (hc i z hz).1, (hc i z hz).2⟩⟩

theorem Nums.outN {l : List Int} {F : Nat → Prop} (h : Nums w R A l) (hF : ∀ k, F k → R ≤ k) : OutN w F A l := by
  rcases h with h | ⟨b, off, e, hR, hc⟩
  · exact Or.inl h
  · exact Or.inr ⟨b, off, e, fun hb => by have := hF b hb; omega, hc⟩

theorem ClAt.below {c : Cl} (h : ClAt w R c) (hb : Below R w w') : ClAt w' R c :=
  { h with
    bb := h.bb.below hb
    kk := h.kk.below hb }

theorem Script.below {l : List Cl} (h : Script w R A l) (hb : Below R w w') : Script w' R A l := by
  rcases h with rfl | ⟨b, off, rfl, hR, hc⟩
  · exact Or.inl rfl
  · refine Or.inr ⟨b, off, rfl, hR, fun i c hi => ?_⟩
    obtain ⟨h0, h1, h2, h3, h4, h5, h6⟩ := hc i c hi
    exact ⟨h0.below hb, (hb.cell (p := ⟨b, _, none⟩) hR).trans h1, (hb.cell (p := ⟨b, _, none⟩) hR).trans h2, (hb.cell (p := ⟨b, _, none⟩) hR).trans h3, (hb.cell (p := ⟨b, _, none⟩) hR).trans h4, (hb.cell (p := ⟨b, _, none⟩) hR).trans h5, (hb.cell (p := ⟨b, _, none⟩) hR).trans h6⟩

theorem Script.at_ {l : List Cl} (h : Script w R A l) {k : Nat} (hk : k < l.length) :
    ∃ b off c, A = some ⟨b, off, none⟩ ∧ b < R ∧ l[k]? = some c ∧ ClAt w R c ∧
    w.cell? ⟨b, off + k * 6, none⟩ = some (.int .i64 c.kind) ∧ w.cell? ⟨b, off + k * 6 + 1, none⟩ = some (.int .i64 c.n) ∧ w.cell? ⟨b, off + k * 6 + 2, none⟩ = some (.slice c.bA c.bn c.bc) ∧
    w.cell? ⟨b, off + k * 6 + 3, none⟩ = some (.slice c.kA c.kn c.kc) ∧ w.cell? ⟨b, off + k * 6 + 4, none⟩ = some (.int .i64 c.at_) ∧ w.cell? ⟨b, off + k * 6 + 5, none⟩ = some (.int .u8 c.by_.toNat) := by
  rcases h with rfl | ⟨b, off, rfl, hR, hc⟩
  · exact absurd hk (by simp)
  · exact ⟨b, off, l[k], rfl, hR, List.getElem?_eq_getElem hk, hc k _ (List.getElem?_eq_getElem hk)⟩
end

section
variable {H : Type} {enc : TypeId × Value → H} {w : World} {base : Nat} {spare : Nat → Bool} {held : Bool}

theorem in64_of {z : Int} (h : (Lit.int .i64 z).wf = true) : In64 z := by
  simp only [Lit.wf, Bool.and_eq_true, decide_eq_true_eq] at h
  have h1 : IntKind.i64.min = -9223372036854775808 := rfl
  have h2 : IntKind.i64.max = 9223372036854775807 := rfl
  exact ⟨by omega, by omega⟩

theorem numCells1 : Try.prog.cellsOf 3 = 1 := by kernel_rfl
theorem bytesCells1 : Try.prog.cellsOf 32 = 1 := by kernel_rfl
theorem numsCells1 : Try.prog.cellsOf 33 = 1 := by kernel_rfl
theorem callCells6 : Try.prog.cellsOf 35 = 6 := by kernel_rfl

theorem bytes_of {fuel : Nat} {v : Value} {x : DataW H × List MemPlace} (hf : DataW.trod enc Try.prog w base spare held fuel 32 [v] = some x) :
    ∃ (A : Option Addr) (n c : Nat) (l : List UInt8), v = .slice A n c ∧ l.length = n ∧ Bys w w.heap.size A l ∧ n ≤ c ∧ c ≤ maxLen ∧ (A = none → n = 0 ∧ c = 0) := by
  rcases open_slice Try.underlying32 hf with ⟨hcs, _⟩ | ⟨a, n, c, m, f, D, Pl, hcs, _, hl, hcm, hm, _, hi⟩
  · simp at hcs
    subst hcs
    exact ⟨none, 0, 0, [], rfl, rfl, Or.inl rfl, Nat.le_refl _, Nat.zero_le _, fun _ => ⟨rfl, rfl⟩⟩
  · simp at hcs
    subst hcs
    have hlm : n ≤ m := by rw [hm]; split <;> omega
    have each : ∀ i, i < n → ∃ z : UInt8, w.cell? (a.add i) = some (.int .u8 z.toNat) := by
      intro i hin
      obtain ⟨cs', hc, ht⟩ := hi i (by omega)
      rw [byteCells1] at hc
      obtain ⟨z, rfl, _, hwf⟩ := DataW.trod_int Try.underlying5 ht
      obtain ⟨b, rfl⟩ := byte_of_wf hwf
      obtain ⟨_, _, hat⟩ := World.cells?_some hc
      have := hat 0 (by omega)
      rw [Nat.mul_one] at this
      refine ⟨b, ?_⟩
      simpa [Addr.add] using this
    obtain ⟨zs, hlen, hx⟩ := pick_each (fun i (z : UInt8) => w.cell? (a.add i) = some (.int .u8 z.toNat)) (fun v => v) n each
    refine ⟨_, _, _, zs, rfl, hlen, ?_, hl, hcm, fun h => by cases h⟩
    by_cases hx0 : zs = []
    · exact Or.inl hx0
    · right
      obtain ⟨b, off, spot⟩ := a
      have hpos : 0 < zs.length := by
        rcases zs with _ | ⟨y, ys⟩
        · exact absurd rfl hx0
        · simp
      have h00 := hx 0 _ (List.getElem?_eq_getElem hpos)
      have hs : spot = none := by
        simpa [Addr.add] using World.cell?_spot h00
      subst hs
      refine ⟨b, off, rfl, ?_, fun i v hv => ?_⟩
      · rw [add_at] at h00
        exact World.block_lt_of_cell? _ _ h00
      · have h0 := hx i v hv
        rw [add_at] at h0
        exact h0

theorem nums_of {fuel : Nat} {v : Value} {x : DataW H × List MemPlace} (hf : DataW.trod enc Try.prog w base spare held fuel 33 [v] = some x) :
    ∃ (A : Option Addr) (n c : Nat) (l : List Int), v = .slice A n c ∧ l.length = n ∧ Nums w w.heap.size A l ∧ n ≤ c ∧ c ≤ maxLen := by
  rcases open_slice Try.underlying33 hf with ⟨hcs, _⟩ | ⟨a, n, c, m, f, D, Pl, hcs, _, hl, hcm, hm, _, hi⟩
  · simp at hcs
    subst hcs
    exact ⟨none, 0, 0, [], rfl, rfl, Or.inl rfl, Nat.le_refl _, Nat.zero_le _⟩
  · simp at hcs
    subst hcs
    have hlm : n ≤ m := by rw [hm]; split <;> omega
    have each : ∀ i, i < n → ∃ z : Int, w.cell? (a.add i) = some (.int .i64 z) ∧ In64 z := by
      intro i hin
      obtain ⟨cs', hc, ht⟩ := hi i (by omega)
      rw [numCells1] at hc
      obtain ⟨z, rfl, _, hwf⟩ := DataW.trod_int Try.underlying3 ht
      obtain ⟨_, _, hat⟩ := World.cells?_some hc
      have := hat 0 (by omega)
      rw [Nat.mul_one] at this
      refine ⟨z, ?_, in64_of hwf⟩
      simpa [Addr.add] using this
    obtain ⟨zs, hlen, hx⟩ := pick_each (fun i (z : Int) => w.cell? (a.add i) = some (.int .i64 z) ∧ In64 z) (fun v => v) n each
    refine ⟨_, _, _, zs, rfl, hlen, ?_, hl, hcm⟩
    by_cases hx0 : zs = []
    · exact Or.inl hx0
    · right
      obtain ⟨b, off, spot⟩ := a
      have hpos : 0 < zs.length := by
        rcases zs with _ | ⟨y, ys⟩
        · exact absurd rfl hx0
        · simp
      have h00 := (hx 0 _ (List.getElem?_eq_getElem hpos)).1
      have hs : spot = none := by
        simpa [Addr.add] using World.cell?_spot h00
      subst hs
      refine ⟨b, off, rfl, ?_, fun i v hv => ?_⟩
      · rw [add_at] at h00
        exact World.block_lt_of_cell? _ _ h00
      · have h0 := hx i v hv
        rw [add_at] at h0
        exact h0

theorem six {α : Type} {l : List α} (h : l.length = 6) : ∃ a b c d e f, l = [a, b, c, d, e, f] := by
  match l, h with
  | [a, b, c, d, e, f], _ => exact ⟨a, b, c, d, e, f, rfl⟩

theorem call_of {fuel : Nat} {cs : List Value} {x : DataW H × List MemPlace} (h : DataW.trod enc Try.prog w base spare held fuel 35 cs = some x) :
    ∃ c : Cl, cs = c.vals ∧ ClAt w w.heap.size c := by
  obtain ⟨ys, n, _, _, hlen, hys, hf⟩ := DataW.trod_struct Try.underlying35 h
  obtain ⟨a, b, c, d, e, f, rfl⟩ := six (hlen.trans callCells6)
  obtain ⟨y0, y1, y2, y3, y4, y5, rfl⟩ := six hys
  have h0 : DataW.trod enc Try.prog w base spare held n 3 ([a, b, c, d, e, f].take (Try.prog.cellsOf 3)) = some y0 := hf 0 _ rfl
  have h1 : DataW.trod enc Try.prog w base spare held n 3 ([b, c, d, e, f].take (Try.prog.cellsOf 3)) = some y1 := hf 1 _ rfl
  have h2 : DataW.trod enc Try.prog w base spare held n 32 ([c, d, e, f].take (Try.prog.cellsOf 32)) = some y2 := hf 2 _ rfl
  have h3 : DataW.trod enc Try.prog w base spare held n 33 ([d, e, f].take (Try.prog.cellsOf 33)) = some y3 := hf 3 _ rfl
  have h4 : DataW.trod enc Try.prog w base spare held n 3 ([e, f].take (Try.prog.cellsOf 3)) = some y4 := hf 4 _ rfl
  have h5 : DataW.trod enc Try.prog w base spare held n 5 ([f].take (Try.prog.cellsOf 5)) = some y5 := hf 5 _ rfl
  rw [numCells1] at h0 h1 h4
  rw [bytesCells1] at h2
  rw [numsCells1] at h3
  rw [byteCells1] at h5
  obtain ⟨z0, e0, _, w0⟩ := DataW.trod_int Try.underlying3 h0
  obtain ⟨z1, e1, _, w1⟩ := DataW.trod_int Try.underlying3 h1
  obtain ⟨z4, e4, _, w4⟩ := DataW.trod_int Try.underlying3 h4
  obtain ⟨z5, e5, _, w5⟩ := DataW.trod_int Try.underlying5 h5
  obtain ⟨bA, bn, bc, bl, e2, r1, r2, r3, r4, r5⟩ := bytes_of h2
  obtain ⟨kA, kn, kc, kl, e3, q1, q2, q3, q4⟩ := nums_of h3
  obtain ⟨u, rfl⟩ := byte_of_wf w5
  simp only [List.take_succ_cons, List.take_zero, List.cons.injEq, and_true] at e0 e1 e4 e5
  refine ⟨⟨z0, z1, bA, bn, bc, bl, kA, kn, kc, kl, z4, u⟩, ?_, ⟨in64_of w0, in64_of w1, in64_of w4, r1, r2, r5, Nat.le_trans r3 r4, q1, q2, Nat.le_trans q3 q4⟩⟩
  rw [e0, e1, e2, e3, e4, e5]
  rfl

/-- A script that comes in. -/
theorem open_calls {v : Value} {d : DataW H} {p : List MemPlace} {r : Reach} {b0 : Nat} (hv : Value.okWide Try.prog w r b0 22 v) (h : DataW.Trod enc Try.prog w base spare held 22 v d p) :
    ∃ (A : Option Addr) (n c : Nat) (l : List Cl), v = .slice A n c ∧ l.length = n ∧ Script w w.heap.size A l ∧ n ≤ maxLen := by
  obtain ⟨A, n, c, rfl⟩ := okWide_slice Try.underlying22 hv
  obtain ⟨fuel, hf⟩ := h
  rcases open_slice Try.underlying22 hf with ⟨hcs, _⟩ | ⟨a, len, cap, m, f, D, Pl, hcs, _, hl, hcm, hm, _, hi⟩
  · simp [Value.cells] at hcs
    obtain ⟨rfl, rfl, rfl⟩ := hcs
    exact ⟨none, 0, 0, [], rfl, rfl, Or.inl rfl, Nat.zero_le _⟩
  · simp [Value.cells] at hcs
    obtain ⟨rfl, rfl, rfl⟩ := hcs
    have hlm : n ≤ m := by rw [hm]; split <;> omega
    have each : ∀ i, i < n → ∃ c : Cl, ClAt w w.heap.size c ∧ ∀ j, j < 6 → w.cell? ((a.add (i * 6)).add j) = c.vals[j]? := by
      intro i hin
      obtain ⟨cs', hc, ht⟩ := hi i (by omega)
      rw [callCells6] at hc
      obtain ⟨c, rfl, hca⟩ := call_of ht
      obtain ⟨_, _, hat⟩ := World.cells?_some hc
      exact ⟨c, hca, fun j hj => hat j hj⟩
    obtain ⟨xs, hlen, hx⟩ := pick_each (fun i (c : Cl) => ClAt w w.heap.size c ∧ ∀ j, j < 6 → w.cell? ((a.add (i * 6)).add j) = c.vals[j]?) (fun v => v) n each
    refine ⟨_, _, _, xs, rfl, hlen, ?_, Nat.le_trans hl hcm⟩
    by_cases hx0 : xs = []
    · exact Or.inl hx0
    · right
      obtain ⟨b, off, spot⟩ := a
      have hpos : 0 < xs.length := by
        rcases xs with _ | ⟨y, ys⟩
        · exact absurd rfl hx0
        · simp
      have h00 := (hx 0 _ (List.getElem?_eq_getElem hpos)).2 0 (by omega)
      have h01 : w.cell? (((⟨b, off, spot⟩ : Addr).add (0 * 6)).add 0) = some (.int .i64 xs[0].kind) := h00
      have hs : spot = none := by
        simpa [Addr.add] using World.cell?_spot h01
      subst hs
      refine ⟨b, off, rfl, ?_, fun i c hc => ?_⟩
      · rw [add_at, add_at] at h01
        exact World.block_lt_of_cell? _ _ h01
      · obtain ⟨h0, h1⟩ := hx i c hc
        have g0 := h1 0 (by omega)
        have g1 := h1 1 (by omega)
        have g2 := h1 2 (by omega)
        have g3 := h1 3 (by omega)
        have g4 := h1 4 (by omega)
        have g5 := h1 5 (by omega)
        rw [add_at, add_at] at g0 g1 g2 g3 g4 g5
        exact ⟨h0, g0, g1, g2, g3, g4, g5⟩

/-- Numbers that come in. -/
theorem open_numsR {v : Value} {d : DataW H} {p : List MemPlace} {r : Reach} {b0 : Nat} (hv : Value.okWide Try.prog w r b0 33 v) (h : DataW.Trod enc Try.prog w base spare held 33 v d p) :
    ∃ (A : Option Addr) (n c : Nat) (l : List Int), v = .slice A n c ∧ l.length = n ∧ Nums w w.heap.size A l ∧ n ≤ maxLen := by
  obtain ⟨A, n, c, rfl⟩ := okWide_slice Try.underlying33 hv
  obtain ⟨fuel, hf⟩ := h
  obtain ⟨A', n', c', l, e, h1, h2, h3, h4⟩ := nums_of (v := .slice A n c) hf
  injection e with e1 e2 e3
  subst e1
  subst e2
  exact ⟨A, n, c, l, rfl, h1, h2, Nat.le_trans h3 h4⟩
end
end Go.Proofs.Ytillllegbgaalaa
