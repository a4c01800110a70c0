/-
  Lists of ints, of freed pages and of lists in memory; pages' lists as a value.
-/
import Derived.Test.YtcdfjaldnelfjaaOwnB
import Derived.Test.YtcdfjaldnelfjaaInts
import Derived.Test.YtcdfjaldnelfjaaSPure
namespace Go.Proofs.Ytcdfjaldnelfjaa
open Go.RowKit

/-- A list of n elements, of sz cells each, at address A. -/
structure Ln (w : World) (sz : Nat) (A : Option Addr) (n c : Nat) (cs : List Value) : Prop where
  len : cs.length = n * sz
  le : n ≤ c
  lies : Lies w A n c cs

/-- The cells of freed pages. -/
def prVals : List (Int × Int) → List Value
  | [] => []
  | p :: ps => .int .i64 p.1 :: .int .i64 p.2 :: prVals ps
theorem prVals_length : ∀ ps, (prVals ps).length = ps.length * 2
  | [] => rfl
  | p :: ps => by simp only [prVals, List.length_cons, prVals_length ps]; omega
theorem prVals_append : ∀ ps qs, prVals (ps ++ qs) = prVals ps ++ prVals qs
  | [], _ => rfl
  | p :: ps, qs => by simp only [List.cons_append, prVals, prVals_append ps qs]
theorem prVals_at : ∀ (ps : List (Int × Int)) (i : Nat) (p : Int × Int), ps[i]? = some p → (prVals ps)[i * 2]? = some (.int .i64 p.1) ∧ (prVals ps)[i * 2 + 1]? = some (.int .i64 p.2)
  | [], i, p, h => by simp at h
  | x :: ps, 0, p, h => by
    obtain rfl : x = p := by simpa using h
    exact ⟨rfl, rfl⟩
  | x :: ps, i + 1, p, h => by
    have := prVals_at ps i p (by simpa using h)
    have e : (i + 1) * 2 = i * 2 + 1 + 1 := by omega
    rw [e]
    simpa [prVals] using this
theorem prVals_take : ∀ (ps : List (Int × Int)) (k : Nat), (prVals ps).take (k * 2) = prVals (ps.take k)
  | [], k => by simp [prVals]
  | x :: ps, 0 => by simp [prVals]
  | x :: ps, k + 1 => by
    rw [show (k + 1) * 2 = k * 2 + 1 + 1 by omega]
    simp only [prVals, List.take_succ_cons, prVals_take ps k]
theorem prVals_drop : ∀ (ps : List (Int × Int)) (k : Nat), (prVals ps).drop (k * 2) = prVals (ps.drop k)
  | [], k => by simp [prVals]
  | x :: ps, 0 => by simp [prVals]
  | x :: ps, k + 1 => by
    rw [show (k + 1) * 2 = k * 2 + 1 + 1 by omega]
    simp only [prVals, List.drop_succ_cons, prVals_drop ps k]
theorem prVals_one (ps : List (Int × Int)) : ∀ u ∈ prVals ps, u.oneCell' = true := by
  induction ps with
  | nil => intro u hu; simp [prVals] at hu
  | cons p ps ih =>
    intro u hu
    unfold prVals at hu
    rcases List.mem_cons.1 hu with rfl | hu
    · rfl
    · rcases List.mem_cons.1 hu with rfl | hu
      · rfl
      · exact ih u hu
theorem intVals_one (zs : List Int) : ∀ u ∈ intVals zs, u.oneCell' = true := by
  intro u hu
  obtain ⟨b, _, rfl⟩ := List.mem_map.1 hu
  rfl
theorem intVals_length (zs : List Int) : (intVals zs).length = zs.length := List.length_map _
theorem sIntVals_append (a b : List Int) : intVals (a ++ b) = intVals a ++ intVals b := List.map_append

section
variable {w w' : World} {sz : Nat} {A : Option Addr} {n c : Nat} {cs : List Value}
theorem Ln.kept (h : Ln w sz A n c cs) (hb : Below w.heap.size w w') : Ln w' sz A n c cs := ⟨h.len, h.le, h.lies.kept hb⟩
theorem Ln.none_ (w : World) (sz : Nat) : Ln w sz none 0 0 [] := ⟨by simp, Nat.le_refl _, fun _ => ⟨rfl, rfl⟩, fun ad e => (by cases e)⟩
theorem Ln.empty (w : World) (sz : Nat) (ad : Addr) (c : Nat) : Ln w sz (some ad) 0 c [] := ⟨by simp, Nat.zero_le _, fun e => (by cases e), fun ad _ j u hu => by simp at hu⟩

theorem Ln.of_own {base : Nat} {e : TypeId} {v : Value} (h : w.ownsRow base e sz v n cs) : ∃ A c, v = .slice A n c ∧ c ≤ maxLen ∧ Ln w sz A n c cs := by
  have h1 := h.1
  rcases h.2 with ⟨rfl, h0⟩ | ⟨g, cap, cur, rfl, hb, hh, hnc, hm, _⟩
  · subst h0
    obtain rfl : cs = [] := List.eq_nil_of_length_eq_zero (by omega)
    exact ⟨none, 0, rfl, Nat.zero_le _, Ln.none_ w sz⟩
  · refine ⟨_, _, rfl, hm, h1, hnc, fun e => (by cases e), fun ad e j u hu => ?_⟩
    obtain rfl := Option.some.inj e
    exact h.cells (g := g) rfl j u hu

theorem Ln.spot (h : Ln w sz A n c cs) (hn : 0 < cs.length) : ∃ b off, A = some ⟨b, off, none⟩ ∧ b < w.heap.size := by
  rcases A with _ | ⟨b, off, sp⟩
  · obtain ⟨rfl, rfl⟩ := h.lies.1 rfl
    have := h.len
    omega
  · have h0 := h.lies.2 _ rfl 0 cs[0] (by simp [hn])
    have hs : sp = none := by simpa [Addr.add] using World.cell?_spot h0
    subst hs
    rw [addr_add] at h0
    exact ⟨b, off, rfl, World.block_lt_of_cell? _ _ h0⟩

theorem Ln.cell {b off : Nat} (h : Ln w sz (some ⟨b, off, none⟩) n c cs) {j : Nat} {u : Value} (hu : cs[j]? = some u) : w.cell? ⟨b, off + j, none⟩ = some u := by
  have := h.lies.2 _ rfl j u hu
  rw [addr_add] at this
  exact this

theorem Ln.ints {zs : List Int} (h : Ln w 1 A n c (intVals zs)) : Ints w A zs := by
  rcases zs with _ | ⟨z, zs⟩
  · exact Or.inl rfl
  · obtain ⟨b, off, rfl, _⟩ := h.spot (by simp [intVals])
    exact Or.inr ⟨b, off, rfl, fun i z hz => h.cell (by rw [intVals, List.getElem?_map, hz]; rfl)⟩
theorem Ln.intN {zs : List Int} (h : Ln w 1 A n c (intVals zs)) : zs.length = n := by
  have := h.len
  rw [intVals_length] at this
  omega
theorem Ln.prN {ps : List (Int × Int)} (h : Ln w 2 A n c (prVals ps)) : ps.length = n := by
  have := h.len
  rw [prVals_length] at this
  omega
theorem Ln.intAt {zs : List Int} (h : Ln w 1 A n c (intVals zs)) {k : Nat} (hk : k < n) :
    ∃ b off z, A = some ⟨b, off, none⟩ ∧ zs[k]? = some z ∧ w.cell? ⟨b, off + k, none⟩ = some (.int .i64 z) := h.ints.at_ (by rw [h.intN]; exact hk)
theorem Ln.prAt {ps : List (Int × Int)} (h : Ln w 2 A n c (prVals ps)) {k : Nat} (hk : k < n) :
    ∃ b off x y, A = some ⟨b, off, none⟩ ∧ ps[k]? = some (x, y) ∧ w.cell? ⟨b, off + k * 2, none⟩ = some (.int .i64 x) ∧ w.cell? ⟨b, off + k * 2 + 1, none⟩ = some (.int .i64 y) := by
  have hl := h.prN
  obtain ⟨b, off, rfl, _⟩ := h.spot (by rw [prVals_length]; omega)
  have hp : ps[k]? = some ps[k] := List.getElem?_eq_getElem (by omega)
  obtain ⟨h1, h2⟩ := prVals_at ps k _ hp
  exact ⟨b, off, (ps[k]).1, (ps[k]).2, rfl, hp, h.cell h1, h.cell h2⟩

theorem Ln.take (h : Ln w sz A n c cs) {k : Nat} (hk : k ≤ n) : Ln w sz A k c (cs.take (k * sz)) := by
  have hle := h.le
  have hm : k * sz ≤ n * sz := Nat.mul_le_mul_right _ hk
  refine ⟨by rw [List.length_take, h.len]; omega, by omega, fun e => ?_, fun ad e j u hu => h.lies.2 ad e j u ?_⟩
  · obtain ⟨h1, h2⟩ := h.lies.1 e
    omega
  · rw [List.getElem?_take] at hu
    split at hu
    · exact hu
    · cases hu
theorem Ln.drop {b off : Nat} (h : Ln w sz (some ⟨b, off, none⟩) n c cs) {k : Nat} (hk : k ≤ n) : Ln w sz (some ⟨b, off + k * sz, none⟩) (n - k) (c - k) (cs.drop (k * sz)) := by
  have hle := h.le
  refine ⟨by rw [List.length_drop, h.len, Nat.sub_mul], by omega, fun e => (by cases e), fun ad e j u hu => ?_⟩
  obtain rfl := Option.some.inj e
  rw [List.getElem?_drop] at hu
  rw [addr_add, show off + k * sz + j = off + (k * sz + j) by omega]
  exact h.cell hu
theorem Ln.prTake {ps : List (Int × Int)} (h : Ln w 2 A n c (prVals ps)) {k : Nat} (hk : k ≤ n) : Ln w 2 A k c (prVals (ps.take k)) := by
  have := h.take hk
  rw [prVals_take] at this
  exact this
theorem Ln.intTake {zs : List Int} (h : Ln w 1 A n c (intVals zs)) {k : Nat} (hk : k ≤ n) : Ln w 1 A k c (intVals (zs.take k)) := by
  have := h.take hk
  rw [Nat.mul_one, intVals, ← List.map_take] at this
  exact this
theorem Ln.prDrop {b off : Nat} {ps : List (Int × Int)} (h : Ln w 2 (some ⟨b, off, none⟩) n c (prVals ps)) {k : Nat} (hk : k ≤ n) : Ln w 2 (some ⟨b, off + k * 2, none⟩) (n - k) (c - k) (prVals (ps.drop k)) := by
  have := h.drop hk
  rw [prVals_drop] at this
  exact this
theorem Ln.intDrop {b off : Nat} {zs : List Int} (h : Ln w 1 (some ⟨b, off, none⟩) n c (intVals zs)) {k : Nat} (hk : k ≤ n) : Ln w 1 (some ⟨b, off + k, none⟩) (n - k) (c - k) (intVals (zs.drop k)) := by
  have := h.drop hk
  rw [Nat.mul_one, intVals, ← List.map_drop] at this
  exact this
end

/-! ### Lists of lists -/

/-- One list, and where it lies. -/
structure Pc where
  A : Option Addr
  n : Nat
  c : Nat
  cs : List Value

def tot (ps : List Pc) : Nat := (ps.map Pc.n).sum
def pcs (ps : List Pc) : List Value := ps.flatMap Pc.cs
theorem tot_take {ps : List Pc} {k : Nat} {p : Pc} (h : ps[k]? = some p) : tot (ps.take (k + 1)) = tot (ps.take k) + p.n := by
  unfold tot
  rw [List.take_add_one, h, Option.toList_some, List.map_append, List.sum_append]
  simp
theorem pcs_take {ps : List Pc} {k : Nat} {p : Pc} (h : ps[k]? = some p) : pcs (ps.take (k + 1)) = pcs (ps.take k) ++ p.cs := by
  unfold pcs
  rw [List.take_add_one, h, Option.toList_some, List.flatMap_append]
  simp
theorem tot_le (ps : List Pc) (k : Nat) : tot (ps.take k) ≤ tot ps := by
  conv => rhs; rw [← List.take_append_drop k ps]
  unfold tot
  rw [List.map_append, List.sum_append]
  omega

/-- Lists, of elements of sz cells, at address A. -/
def Pile (w : World) (sz : Nat) (A : Option Addr) (ps : List Pc) : Prop :=
  ps = [] ∨ ∃ b off, A = some ⟨b, off, none⟩ ∧ ∀ i p, ps[i]? = some p → w.cell? ⟨b, off + i, none⟩ = some (.slice p.A p.n p.c) ∧ Ln w sz p.A p.n p.c p.cs ∧ ∀ u ∈ p.cs, u.oneCell' = true

section
variable {w w' : World} {sz : Nat} {A : Option Addr}
theorem Pile.kept {ps : List Pc} (h : Pile w sz A ps) (hb : Below w.heap.size w w') : Pile w' sz A ps := by
  rcases h with rfl | ⟨b, off, rfl, hc⟩
  · exact Or.inl rfl
  · refine Or.inr ⟨b, off, rfl, fun i p hp => ?_⟩
    obtain ⟨h1, h2, h3⟩ := hc i p hp
    exact ⟨(hb.cell (p := ⟨b, _, none⟩) (World.block_lt_of_cell? _ _ h1)).trans h1, h2.kept hb, h3⟩
theorem Pile.at_ {ps : List Pc} (h : Pile w sz A ps) {k : Nat} (hk : k < ps.length) :
    ∃ b off p, A = some ⟨b, off, none⟩ ∧ ps[k]? = some p ∧ w.cell? ⟨b, off + k, none⟩ = some (.slice p.A p.n p.c) ∧ Ln w sz p.A p.n p.c p.cs ∧ ∀ u ∈ p.cs, u.oneCell' = true := by
  rcases h with rfl | ⟨b, off, rfl, hc⟩
  · exact absurd hk (by simp)
  · exact ⟨b, off, ps[k], rfl, List.getElem?_eq_getElem hk, hc k _ (List.getElem?_eq_getElem hk)⟩
theorem pile_one {B : Option Addr} {n c : Nat} {cs : List Value} (h : Ln w sz B n c cs) (h1 : ∀ u ∈ cs, u.oneCell' = true) (t : TypeId) : Pile (w.alloc (.cells #[.slice B n c] t)) sz (some ⟨w.heap.size, 0, none⟩) [⟨B, n, c, cs⟩] := by
  refine Or.inr ⟨_, _, rfl, fun i p hp => ?_⟩
  match i, hp with
  | 0, hp =>
    obtain rfl := Option.some.inj hp
    exact ⟨by simp, h.kept (below_one _ _), h1⟩
theorem pile_two {B C : Option Addr} {n c m d : Nat} {cs ds : List Value} (h : Ln w sz B n c cs) (h1 : ∀ u ∈ cs, u.oneCell' = true) (g : Ln w sz C m d ds) (g1 : ∀ u ∈ ds, u.oneCell' = true) (t : TypeId) :
    Pile (w.alloc (.cells #[.slice B n c, .slice C m d] t)) sz (some ⟨w.heap.size, 0, none⟩) [⟨B, n, c, cs⟩, ⟨C, m, d, ds⟩] := by
  refine Or.inr ⟨_, _, rfl, fun i p hp => ?_⟩
  match i, hp with
  | 0, hp =>
    obtain rfl := Option.some.inj hp
    exact ⟨by simp, h.kept (below_one _ _), h1⟩
  | 1, hp =>
    obtain rfl := Option.some.inj hp
    exact ⟨by simp, g.kept (below_one _ _), g1⟩
theorem pile_three {B C D : Option Addr} {n c m d k e : Nat} {cs ds es : List Value} (h : Ln w sz B n c cs) (h1 : ∀ u ∈ cs, u.oneCell' = true) (g : Ln w sz C m d ds) (g1 : ∀ u ∈ ds, u.oneCell' = true) (f : Ln w sz D k e es) (f1 : ∀ u ∈ es, u.oneCell' = true) (t : TypeId) :
    Pile (w.alloc (.cells #[.slice B n c, .slice C m d, .slice D k e] t)) sz (some ⟨w.heap.size, 0, none⟩) [⟨B, n, c, cs⟩, ⟨C, m, d, ds⟩, ⟨D, k, e, es⟩] := by
  refine Or.inr ⟨_, _, rfl, fun i p hp => ?_⟩
  match i, hp with
  | 0, hp =>
    obtain rfl := Option.some.inj hp
    exact ⟨by simp, h.kept (below_one _ _), h1⟩
  | 1, hp =>
    obtain rfl := Option.some.inj hp
    exact ⟨by simp, g.kept (below_one _ _), g1⟩
  | 2, hp =>
    obtain rfl := Option.some.inj hp
    exact ⟨by simp, f.kept (below_one _ _), f1⟩
end
theorem ln_one (w : World) (a : Int) (t : TypeId) : Ln (w.alloc (.cells #[.int .i64 a] t)) 1 (some ⟨w.heap.size, 0, none⟩) 1 1 (intVals [a]) :=
  ⟨rfl, Nat.le_refl _, fun e => (by cases e), fun ad e j u hu => by
    obtain rfl := Option.some.inj e
    rw [addr_add]
    match j, hu with
    | 0, hu =>
      obtain rfl := Option.some.inj hu
      simp⟩
theorem ln_two (w : World) (a b : Int) (t : TypeId) : Ln (w.alloc (.cells #[.int .i64 a, .int .i64 b] t)) 1 (some ⟨w.heap.size, 0, none⟩) 2 2 (intVals [a, b]) :=
  ⟨rfl, Nat.le_refl _, fun e => (by cases e), fun ad e j u hu => by
    obtain rfl := Option.some.inj e
    exact cell_two_new w _ _ t j u hu⟩
theorem ln_pair (w : World) (a b : Int) (t : TypeId) : Ln (w.alloc (.cells #[.int .i64 a, .int .i64 b] t)) 2 (some ⟨w.heap.size, 0, none⟩) 1 1 (prVals [(a, b)]) :=
  ⟨rfl, Nat.le_refl _, fun e => (by cases e), fun ad e j u hu => by
    obtain rfl := Option.some.inj e
    exact cell_two_new w _ _ t j u hu⟩

/-- A call that answers one list of its own. -/
def JoinEnd (w : World) (t : TypeId) (sz N : Nat) (cs : List Value) (e : Ending) (w' : World) : Prop :=
  ∃ v, e = .returned v ∧ w'.ownsRow w.heap.size t sz v N cs ∧ Below w.heap.size w w'

/-! ### Pages' lists -/

structure Sp (w : World) (A : Option Addr) (n c : Nat) (B : Option Addr) (m d : Nat) (s : SS) : Prop where
  fr : Ln w 1 A n c (intVals s.fr)
  pe : Ln w 2 B m d (prVals s.pe)
theorem Sp.kept {w w' : World} {A B : Option Addr} {n c m d : Nat} {s : SS} (h : Sp w A n c B m d s) (hb : Below w.heap.size w w') : Sp w' A n c B m d s := ⟨h.fr.kept hb, h.pe.kept hb⟩
theorem Sp.fl {w : World} {A B : Option Addr} {n c m d : Nat} {s : SS} (h : Sp w A n c B m d s) : s.fr.length = n := h.fr.intN
theorem Sp.pl {w : World} {A B : Option Addr} {n c m d : Nat} {s : SS} (h : Sp w A n c B m d s) : s.pe.length = m := h.pe.prN
theorem Sp.zero (w : World) : Sp w none 0 0 none 0 0 SS.none := ⟨Ln.none_ w 1, Ln.none_ w 2⟩

/-- Pages' lists that are answered. -/
def SpV (w' : World) (v : Value) (s : SS) : Prop := ∃ A n c B m d, v = .agg #[.int .i64 s.hi, .slice A n c, .slice B m d] ∧ Sp w' A n c B m d s

end Go.Proofs.Ytcdfjaldnelfjaa
