/-
  A part of the proof: what its texts say stands at the head of each. Conditions: none.
-/
import Derived.Test.YtlldmefjhgahdaaProg
import Derived.WalkKit
import Derived.WalkLawsBesides
import Derived.WalkSpells
import Derived.KernelRfl
import Derived.Deep.OwnRows
import Derived.Lib.Hide
import Derived.OwnWalk
import Derived.Laws.AppendOwn
import Derived.Maps.AppendAt
import Derived.Laws.AppendOwnNone
import Derived.Laws.OwnMore
import Derived.Lib.SmallJoins
import Derived.Laws.MakeOwn
import Derived.Deep.RegionHeld3
import Derived.IntWalk
import Derived.Shelf.SortM.Plain
import Derived.Shelf.SortM.SortNone
import Derived.Ground.SlgmProg
import Derived.Sort.OwnSortedInts

/-
  Plain facts on bytes as numbers; nothing here names the program.
-/
namespace Go.Proofs.Ytlldmefjhgahdaa

theorem byte_lt (c : UInt8) : c.toNat < 256 := UInt8.toNat_lt c
theorem ofNat_toNat (n : Nat) : (UInt8.ofNat n).toNat = n % 256 := by simp

end Go.Proofs.Ytlldmefjhgahdaa

/-
  Plain words on memory, results and bytes that all texts stand on; nothing here names a function of the program.
-/
namespace Go.Proofs.Ytlldmefjhgahdaa
open Go.RowKit

theorem below_two (w : World) (o o' : Obj) : Below w.heap.size w ((w.alloc o).alloc o') :=
  ((Below.refl _ _).alloc (Nat.le_refl _) _).alloc (by simp) _

theorem below_one (w : World) (o : Obj) : Below w.heap.size w (w.alloc o) :=
  (Below.refl _ _).alloc (Nat.le_refl _) _

theorem belowN {B : Nat} {a w : World} (h : Below B a w) (n : Nat) : Below B a (w.drewN n) := ⟨h.os, h.tape, h.output, h.size, h.block⟩

theorem ret_bool {a b : Bool} (h : a = b) : Ending.returned (.bool a) = .returned (.bool b) := by rw [h]
theorem ret_int {a b : Int} (h : a = b) : Ending.returned (.int .i64 a) = .returned (.int .i64 b) := by rw [h]
theorem ret_num {k : IntKind} {a b : Int} (h : a = b) : Ending.returned (.int k a) = .returned (.int k b) := by rw [h]

theorem take_more {α : Type} {xs ys : List α} {k : Nat} {z : α} (h : xs.take k = ys.take k) (hx : xs[k]? = some z) (hy : ys[k]? = some z) : xs.take (k + 1) = ys.take (k + 1) := by
  rw [List.take_add_one, List.take_add_one, h, hx, hy]

theorem addr_add (b off n : Nat) : (⟨b, off, none⟩ : Addr).add n = ⟨b, off + n, none⟩ := by
  unfold Addr.add
  split
  · rename_i h
    have : n = 0 := by simpa using h
    subst this
    rfl
  · rfl

theorem byte_zero {c : UInt8} (h : c = 0) : ((c.toNat : Int) == 0) = true := by rw [h]; rfl
theorem byte_not {c d : UInt8} (h : ¬ c = d) : ((c.toNat : Int) == (d.toNat : Int)) = false := by
  rw [beq_eq_false_iff_ne]
  intro e
  exact h (UInt8.toNat_inj.1 (by omega))

end Go.Proofs.Ytlldmefjhgahdaa

/-
  What is meant by a list of bytes in memory.
-/
namespace Go.Proofs.Ytlldmefjhgahdaa
open Go.RowKit

/-- The cells of a list of bytes. -/
def bv (l : List UInt8) : List Value := l.map (fun b => Value.int .u8 b.toNat)

theorem bv_append (a b : List UInt8) : bv (a ++ b) = bv a ++ bv b := List.map_append
theorem bv_length (l : List UInt8) : (bv l).length = l.length := List.length_map _
theorem bv_one (l : List UInt8) : ∀ u ∈ bv l, u.oneCell' = true := by
  intro u hu
  obtain ⟨b, _, rfl⟩ := List.mem_map.1 hu
  rfl
theorem bv_at {l : List UInt8} {j : Nat} {u : Value} (h : (bv l)[j]? = some u) : ∃ z, l[j]? = some z ∧ u = .int .u8 z.toNat := by
  unfold bv at h
  rw [List.getElem?_map] at h
  obtain ⟨z, h1, h2⟩ := Option.map_eq_some_iff.1 h
  exact ⟨z, h1, h2.symm⟩

/-- A slice of bytes, at address A, in a block below R, whose elements are l. -/
def Bys (w : World) (R : Nat) (A : Option Addr) (l : List UInt8) : Prop :=
  l = [] ∨ ∃ b off, A = some ⟨b, off, none⟩ ∧ b < R ∧ ∀ i z, l[i]? = some z → w.cell? ⟨b, off + i, none⟩ = some (.int .u8 z.toNat)

section
variable {w w' : World} {R R' : Nat} {A : Option Addr} {l : List UInt8}

theorem Bys.below (h : Bys w R A l) (hb : Below R w w') : Bys w' R A l := by
  rcases h with rfl | ⟨b, off, rfl, hR, hc⟩
  · exact Or.inl rfl
  · exact Or.inr ⟨b, off, rfl, hR, fun i z hz => (hb.cell (p := ⟨b, _, none⟩) hR).trans (hc i z hz)⟩

theorem Bys.kept (h : Bys w R A l) (hb : Below w.heap.size w w') : Bys w' R A l := by
  rcases h with rfl | ⟨b, off, rfl, hR, hc⟩
  · exact Or.inl rfl
  · refine Or.inr ⟨b, off, rfl, hR, fun i z hz => ?_⟩
    have h0 := hc i z hz
    exact (hb.cell (p := ⟨b, _, none⟩) (World.block_lt_of_cell? _ _ h0)).trans h0

theorem Bys.alloc (h : Bys w R A l) (o : Obj) : Bys (w.alloc o) R A l := h.kept (below_one _ _)

theorem Bys.more (h : Bys w R A l) (hR : R ≤ R') : Bys w R' A l := by
  rcases h with rfl | ⟨b, off, rfl, hb, hc⟩
  · exact Or.inl rfl
  · exact Or.inr ⟨b, off, rfl, by omega, hc⟩

theorem Bys.nil (w : World) (R : Nat) (A : Option Addr) : Bys w R A [] := Or.inl rfl

theorem Bys.at_ (h : Bys w R A l) {k : Nat} (hk : k < l.length) :
    ∃ b off z, A = some ⟨b, off, none⟩ ∧ b < R ∧ l[k]? = some z ∧ w.cell? ⟨b, off + k, none⟩ = some (.int .u8 z.toNat) := by
  rcases h with rfl | ⟨b, off, rfl, hb, hc⟩
  · exact absurd hk (by simp)
  · exact ⟨b, off, l[k], rfl, hb, List.getElem?_eq_getElem hk, hc k _ (List.getElem?_eq_getElem hk)⟩

/-- Its cells, at its address. -/
theorem Bys.cells {ad : Addr} (h : Bys w R (some ad) l) : ∀ j u, (bv l)[j]? = some u → w.cell? (ad.add j) = some u := by
  intro j u hu
  obtain ⟨z, hz, rfl⟩ := bv_at hu
  rcases h with rfl | ⟨b, off, e, _, hc⟩
  · simp at hz
  · obtain rfl : ad = ⟨b, off, none⟩ := Option.some.inj e
    rw [addr_add]
    exact hc j z hz

theorem Bys.none_ (h : Bys w R none l) : l = [] := by
  rcases h with h | ⟨b, off, e, _⟩
  · exact h
  · cases e

theorem Bys.drop {b off : Nat} (h : Bys w R (some ⟨b, off, none⟩) l) (k : Nat) : Bys w R (some ⟨b, off + k, none⟩) (l.drop k) := by
  rcases h with rfl | ⟨b', off', e, hb, hc⟩
  · exact Or.inl (by simp)
  · obtain ⟨rfl, rfl⟩ : b = b' ∧ off = off' := by
      have := Option.some.inj e
      injection this with h1 h2
      exact ⟨h1, h2⟩
    refine Or.inr ⟨b, off + k, rfl, hb, fun i z hz => ?_⟩
    rw [List.getElem?_drop] at hz
    have := hc (k + i) z hz
    rw [show off + k + i = off + (k + i) from by omega]
    exact this

theorem Bys.take (h : Bys w R A l) (k : Nat) : Bys w R A (l.take k) := by
  rcases h with rfl | ⟨b, off, rfl, hb, hc⟩
  · exact Or.inl (by simp)
  · refine Or.inr ⟨b, off, rfl, hb, fun i z hz => hc i z ?_⟩
    rw [List.getElem?_take] at hz
    split at hz
    · exact hz
    · cases hz

theorem Bys.of_own {base : Nat} {e : TypeId} {v : Value} {n : Nat} (h : w.ownsRow base e 1 v n (bv l)) :
    ∃ A c, v = .slice A n c ∧ l.length = n ∧ n ≤ c ∧ c ≤ maxLen ∧ Bys w w.heap.size A l := by
  have hl : l.length = n := by have := h.1; rw [bv_length] at this; omega
  have hlt := h.lt
  rcases h.2 with ⟨rfl, h0⟩ | ⟨g, cap, cur, rfl, hb, hh, hnc, hm, _⟩
  · subst h0
    exact ⟨none, 0, rfl, hl, Nat.le_refl _, Nat.zero_le _, Or.inl (List.eq_nil_of_length_eq_zero hl)⟩
  · refine ⟨_, _, rfl, hl, hnc, hm, Or.inr ⟨g, 0, rfl, (hlt g rfl).2, fun i z hz => ?_⟩⟩
    have := h.cells (g := g) rfl i (.int .u8 z.toNat) (by unfold bv; rw [List.getElem?_map, hz]; rfl)
    rw [addr_add] at this
    exact this
end

/-- Bytes just laid. -/
theorem bys_new (w : World) (l : List UInt8) (t : TypeId) : Bys (w.alloc (.cells (bv l).toArray t)) (w.heap.size + 1) (some ⟨w.heap.size, 0, none⟩) l := by
  refine Or.inr ⟨w.heap.size, 0, rfl, by omega, fun i z hz => ?_⟩
  have h : (bv l).toArray[i]? = some (.int .u8 z.toNat) := by
    rw [List.getElem?_toArray]
    unfold bv
    rw [List.getElem?_map, hz]
    rfl
  have hb : (w.alloc (.cells (bv l).toArray t)).heap[w.heap.size]? = some (.cells (bv l).toArray t) := heap_alloc_new w _
  rw [Nat.zero_add, cell_of_row _ w.heap.size i _ t (0, 0) hb]
  exact h

/-- Bytes that some value is. -/
def IsB (w : World) (v : Value) (l : List UInt8) : Prop := ∃ A c, v = .slice A l.length c ∧ Bys w w.heap.size A l

theorem IsB.below {w w' : World} {v : Value} {l : List UInt8} (h : IsB w v l) (hb : Below w.heap.size w w') : IsB w' v l := by
  obtain ⟨A, c, e, h1⟩ := h
  exact ⟨A, c, e, (h1.kept hb).more hb.size⟩

theorem bys_lit (w : World) (l : List UInt8) (t : TypeId) : Bys (w.alloc (.cells (bv l).toArray t)) (w.alloc (.cells (bv l).toArray t)).heap.size (some ⟨w.heap.size, 0, none⟩) l := by
  have := bys_new w l t
  rwa [show w.heap.size + 1 = (w.alloc (.cells (bv l).toArray t)).heap.size from by simp] at this

end Go.Proofs.Ytlldmefjhgahdaa

/-
  Lists of bytes of one's own, that are made by append.
-/
namespace Go.Proofs.Ytlldmefjhgahdaa
open Go.RowKit

theorem byteInfo : (Try.prog.info? 5).map (fun i => (i.zero, i.size, i.bytes)) = some (some (.int .u8 0), 1, 1) := by kernel_rfl

/-- A list of bytes of one's own, in a block from base on. -/
def Own (w : World) (base : Nat) (v : Value) (l : List UInt8) : Prop := w.ownsRow base 5 1 v l.length (bv l)

/-- A call that answers a list of bytes of its own, and changes nothing below base. -/
def Owned (base : Nat) (w : World) (l : List UInt8) (e : Ending) (w' : World) : Prop :=
  ∃ v, e = .returned v ∧ Own w' base v l ∧ Below base w w'

theorem own_nil (w : World) (base : Nat) : Own w base (.slice none 0 0) [] := World.ownsRow_nil _ _ _ _

/-- One byte more. -/
theorem own_push {w : World} {base : Nat} {v : Value} {l : List UInt8} {c : UInt8} {z : Int} (hz : z = c.toNat) (h : w.ownsRow base 5 1 v (l.length + 1) (bv l ++ [.int .u8 z])) :
    Own w base v (l ++ [c]) := by
  unfold Own
  rw [bv_append, List.length_append]
  rw [hz] at h
  exact h
/-- Two bytes more. -/
theorem own_push2 {w : World} {base : Nat} {v : Value} {l : List UInt8} {c d : UInt8} {z y : Int} (hz : z = c.toNat) (hy : y = d.toNat) (h : w.ownsRow base 5 1 v (l.length + 2) (bv l ++ [.int .u8 z, .int .u8 y])) :
    Own w base v (l ++ [c, d]) := by
  unfold Own
  rw [bv_append, List.length_append]
  rw [hz, hy] at h
  exact h

theorem cell_two_new (w : World) (x y : Value) (t : TypeId) : ∀ j u, [x, y][j]? = some u → (w.alloc (.cells #[x, y] t)).cell? ((⟨w.heap.size, 0, none⟩ : Addr).add j) = some u := by
  intro j u h
  rw [addr_add]
  match j, h with
  | 0, h =>
    obtain rfl : x = u := by simpa using h
    simp
  | 1, h =>
    obtain rfl : y = u := by simpa using h
    simp

/-- A source whose cells are news: nil and empty, or at an address where they lie. -/
def Lies (w : World) (A : Option Addr) (m c : Nat) (news : List Value) : Prop :=
  (A = none → m = 0 ∧ c = 0) ∧ ∀ ad, A = some ad → ∀ j u, news[j]? = some u → w.cell? (ad.add j) = some u

theorem wpList_append_lay {P : Program} (w : World) {ops : Array Oper} {rest : List Oper} {o : Oper} {a : Act} {Q : Exit → Act → World → Prop} (hgd : o.guard = none) (s x : Operand) (t : TypeId)
    (ho : o.op = .call { callee := .builtin .append, args := #[s, x], argTypes := #[t, t] })
    (base : Nat) (e : TypeId) (i : TypeInfo) (z : Value) (size bytes : Nat) (ht : P.underlying t = some (.slice e)) (hi : P.info? e = some i) (hz : i.zero = some z)
    (hsize : i.size = size) (hby : i.bytes = bytes) (hzs : z.cells.size = size) (hsz : 0 < size)
    (v : Value) (n : Nat) (xs : List Value) (hs : a.eval s = v) (hown : w.ownsRow base e size v n xs)
    (A : Option Addr) (m c : Nat) (news : List Value) (hx : a.eval x = .slice A m c) (hl : news.length = m * size) (hnews : Lies w A m c news) (h1 : ∀ u ∈ news, u.oneCell' = true)
    (h63 : n + m ≤ maxLen) (hbytes : (n + m) * bytes ≤ 140737488355328) (hbase : base ≤ w.heap.size)
    (h : ∀ v' w', w'.ownsRow base e size v' (n + m) (xs ++ news) → w.grownBy w' v.ownBlock → wpList P ops Q rest (a.put o.dst v') w') : wpList P ops Q (o :: rest) a w := by
  rcases A with _ | ad
  · obtain ⟨rfl, rfl⟩ := hnews.1 rfl
    obtain rfl : news = [] := List.eq_nil_of_length_eq_zero (by omega)
    refine wpList_append_own_none hgd s x t ho base e i size ht hi v n xs hs hown hx ?_
    exact h v w (by simpa using hown) (World.grownBy.refl _ _)
  · exact wpList_append_own w hgd s x t ho base e i z size bytes ht hi hz hsize hby hzs hsz v n xs hs hown ad m c news hx hl (hnews.2 ad rfl) h1 h63 hbytes hbase (fun v' w' h2 h3 _ => h v' w' h2 h3)

theorem Lies.kept {w w' : World} {A : Option Addr} {m c : Nat} {news : List Value} (h : Lies w A m c news) (hb : Below w.heap.size w w') : Lies w' A m c news :=
  ⟨h.1, fun ad e j u hu => (hb.cell (World.block_lt_of_cell? _ _ (h.2 ad e j u hu))).trans (h.2 ad e j u hu)⟩

theorem Lies.bys {w : World} {R : Nat} {A : Option Addr} {n c : Nat} {l : List UInt8} (h : Bys w R A l) (hz : A = none → n = 0 ∧ c = 0) : Lies w A n c (bv l) :=
  ⟨hz, fun ad e j u hu => by subst e; exact h.cells j u hu⟩

theorem own_below {w w' : World} {base : Nat} {v : Value} {l : List UInt8} (h : Own w base v l) (hb : Below w.heap.size w w') : Own w' base v l := by
  unfold Own at h ⊢
  have hg : w.grownBy w' none := ⟨hb.os, hb.tape, hb.output, hb.size, fun k hk _ => hb.block k hk⟩
  refine h.kept hg ?_
  cases e : v.ownBlock with
  | none => exact Or.inl rfl
  | some g => exact Or.inr (by simp)

/-- One list, appended to none. -/
theorem bytes_one {w : World} {base n : Nat} {v : Value} {xs : List UInt8} (e0 : xs.length = n) (h : w.ownsRow base 5 1 v (0 + n) ([] ++ bv xs)) : Own w base v xs := by
  unfold Own
  rw [List.nil_append, Nat.zero_add] at h
  rw [e0]
  exact h

/-- Two lists, one behind the other. -/
theorem bytes_join {w : World} {base n m : Nat} {v : Value} {xs ys : List UInt8} (e0 : xs.length = n) (e1 : ys.length = m) (h : w.ownsRow base 5 1 v (0 + n + m) ([] ++ bv xs ++ bv ys)) :
    Own w base v (xs ++ ys) := by
  unfold Own
  rw [List.nil_append, ← bv_append, Nat.zero_add] at h
  have hl : (xs ++ ys).length = n + m := by simp [e0, e1]
  rw [hl]
  exact h

/-- A list that is empty and one's own, just made. -/
theorem own_made (w : World) : (w.alloc (.cells #[] 5)).ownsRow w.heap.size 5 1 (.slice (some ⟨w.heap.size, 0, none⟩) 0 0) 0 [] :=
  World.ownsRow_made w #[] 0 (Nat.le_refl _) (by unfold maxLen; omega) rfl

theorem own_bys {w : World} {base n c : Nat} {A : Option Addr} {l : List UInt8} (h : Own w base (.slice A n c) l) : Bys w w.heap.size A l := by
  obtain ⟨A', c', e, _, _, _, hb⟩ := Bys.of_own h
  injection e with e1 e2 e3
  subst e1
  exact hb

/-- One byte of a list of one's own is written. -/
theorem own_store {w : World} {base : Nat} {v : Value} {l : List UInt8} {k : Nat} (h : Own w base v l) (hk : k < l.length) :
    ∃ g cap z, v = .slice (some ⟨g, 0, none⟩) l.length cap ∧ l[k]? = some z ∧ w.cell? ⟨g, k, none⟩ = some (.int .u8 z.toNat) ∧ w.frozen? ⟨g, k, none⟩ = false ∧ base ≤ g ∧
      ∀ d : UInt8, Own (w.setCell ⟨g, k, none⟩ (.int .u8 d.toNat)) base v (l.set k d) := by
  unfold Own at h
  obtain ⟨g, cap, rfl, hb⟩ : ∃ g cap, v = .slice (some ⟨g, 0, none⟩) l.length cap ∧ base ≤ g := by
    rcases h.2 with ⟨_, h0⟩ | ⟨g, cap, cur, e, hb, _⟩
    · omega
    · exact ⟨g, cap, e, hb⟩
  have hz : l[k]? = some l[k] := List.getElem?_eq_getElem hk
  refine ⟨g, cap, l[k], rfl, hz, ?_, h.frozenAt k, hb, fun d => ?_⟩
  · rw [h.cellAt k (by omega)]
    unfold bv
    rw [List.getElem?_map, hz]
    rfl
  · have := (h.stored k (.int .u8 d.toNat)).1
    unfold Own
    rw [List.length_set]
    unfold bv at this ⊢
    rw [List.map_set]
    exact this

end Go.Proofs.Ytlldmefjhgahdaa

/-
  What is meant by a list of ints in memory, and by one of one's own.
-/
namespace Go.Proofs.Ytlldmefjhgahdaa
open Go.RowKit

set_option maxRecDepth 20000 in
theorem intInfo : (Try.prog.info? 3).map (fun i => (i.zero, i.size, i.bytes)) = some (some (.int .i64 0), 1, 8) := by kernel_rfl

/-- A slice of ints, at address A, whose elements are zs. -/
def Ints (w : World) (A : Option Addr) (zs : List Int) : Prop :=
  zs = [] ∨ ∃ b off, A = some ⟨b, off, none⟩ ∧ ∀ i z, zs[i]? = some z → w.cell? ⟨b, off + i, none⟩ = some (.int .i64 z)

theorem Ints.below {w w' : World} {A : Option Addr} {zs : List Int} (h : Ints w A zs) (hb : Below w.heap.size w w') : Ints w' A zs := by
  rcases h with rfl | ⟨b, off, rfl, hc⟩
  · exact Or.inl rfl
  · refine Or.inr ⟨b, off, rfl, fun i z hz => ?_⟩
    have h0 := hc i z hz
    have hlt : b < w.heap.size := World.block_lt_of_cell? _ _ h0
    exact (hb.cell (p := ⟨b, _, none⟩) hlt).trans h0

theorem Ints.at_ {w : World} {A : Option Addr} {zs : List Int} (h : Ints w A zs) {k : Nat} (hk : k < zs.length) :
    ∃ b off z, A = some ⟨b, off, none⟩ ∧ zs[k]? = some z ∧ w.cell? ⟨b, off + k, none⟩ = some (.int .i64 z) := by
  rcases h with rfl | ⟨b, off, rfl, hc⟩
  · exact absurd hk (by simp)
  · exact ⟨b, off, zs[k], rfl, List.getElem?_eq_getElem hk, hc k _ (List.getElem?_eq_getElem hk)⟩

/-- The cells of a list of ints. -/
def intVals (zs : List Int) : List Value := zs.map (Value.int .i64)

theorem ints_of_own {w : World} {base e : Nat} {v : Value} {zs : List Int} (h : w.ownsRow base e 1 v zs.length (intVals zs)) :
    ∃ A c, v = .slice A zs.length c ∧ Ints w A zs := by
  rcases h.2 with ⟨rfl, h0⟩ | ⟨g, cap, cur, rfl, _⟩
  · have : zs = [] := by simpa [intVals] using h0
    subst this
    exact ⟨none, 0, rfl, Or.inl rfl⟩
  · refine ⟨_, _, rfl, Or.inr ⟨g, 0, rfl, fun i z hz => ?_⟩⟩
    have := h.cells (g := g) rfl i (.int .i64 z) (by simp [intVals, hz])
    rw [Addr.add] at this
    split at this
    · rename_i hi
      have hi0 : i = 0 := by simpa using hi
      subst hi0
      exact this
    · exact this

end Go.Proofs.Ytlldmefjhgahdaa

/-
  The plain lists of pages: what each call answers, and what becomes of them. Nothing here names the program.
-/
namespace Go.Proofs.Ytlldmefjhgahdaa

/-- Pages' lists: the least page that was never used, the free ones, those that pend with their epochs. -/
structure SS where
  hi : Int
  fr : List Int
  pe : List (Int × Int)

namespace SS
def none : SS := ⟨0, [], []⟩
def may (s : SS) (p : Int) : Bool := decide (2 ≤ p ∧ p < s.hi)
def known (s : SS) (p : Int) : Bool := decide (p ∈ s.fr) || decide (p ∈ s.pe.map (·.2))
def last (s : SS) : Int := (s.pe.getLast?.map (·.1)).getD 0

/-- Lists that may be (P8.1). -/
structure Fine (s : SS) (top : Int) : Prop where
  lo : 2 ≤ s.hi
  hi : s.hi ≤ top
  up : s.fr.Pairwise (· < ·)
  inF : ∀ p ∈ s.fr, 2 ≤ p ∧ p < s.hi
  ups : s.pe.Pairwise (fun x y => x.1 ≤ y.1)
  pos : ∀ x ∈ s.pe, 0 ≤ x.1
  inP : ∀ x ∈ s.pe, 2 ≤ x.2 ∧ x.2 < s.hi
  out : ∀ x ∈ s.pe, x.2 ∉ s.fr
  once : (s.pe.map (·.2)).Nodup

open Classical in
noncomputable def check (s : SS) (top : Int) : Int := if Fine s top then 0 else 80

/-- A page at its place: ahead of the first one that is not less. -/
def ins (p : Int) : List Int → List Int
  | [] => [p]
  | x :: l => if x < p then x :: ins p l else p :: x :: l

/-- P8.2: an error or OK, the page, what is left. -/
def take (s : SS) (top : Int) : Int × Int × SS :=
  match s.fr with
  | p :: l => (0, p, { s with fr := l })
  | [] => if s.hi < top then (0, s.hi, { s with hi := s.hi + 1 }) else (81, 0, none)
/-- P8.3 -/
def giveBad (s : SS) (e p : Int) : Bool := !s.may p || s.known p || decide (e < 0) || decide (e < s.last)
def give (s : SS) (e p : Int) : Int × SS := if s.giveBad e p then (1, none) else (0, { s with pe := s.pe ++ [(e, p)] })
def backBad (s : SS) (p : Int) : Bool := !s.may p || s.known p
def back (s : SS) (p : Int) : Int × SS := if s.backBad p then (1, none) else (0, { s with fr := ins p s.fr })
/-- P8.4: how many go, at most so many. -/
def count (e : Int) : Nat → List (Int × Int) → Nat
  | 0, _ => 0
  | _ + 1, [] => 0
  | b + 1, x :: l => if x.1 ≤ e then count e b l + 1 else 0
def insAll : List (Int × Int) → List Int → List Int
  | [], f => f
  | x :: l, f => insAll l (ins x.2 f)
def reclaim (s : SS) (e : Int) (b : Nat) : SS × Nat :=
  ({ s with fr := insAll (s.pe.take (count e b s.pe)) s.fr, pe := s.pe.drop (count e b s.pe) }, count e b s.pe)
/-- P8.5: the numbers, and their parts. -/
def pairs : List (Int × Int) → List Int
  | [] => []
  | x :: l => x.1 :: x.2 :: pairs l
def nums (s : SS) : List Int := s.hi :: (s.fr.length : Int) :: (s.fr ++ (s.pe.length : Int) :: pairs s.pe)
/-- Cut in pieces of so many, the last one perhaps shorter; with g pieces at most. -/
def cut (m : Nat) : Nat → List Int → List (List Int)
  | 0, _ => []
  | g + 1, l => if l = [] then [] else l.take m :: cut m g (l.drop m)

theorem ins_mem (p q : Int) : ∀ l, q ∈ ins p l ↔ q = p ∨ q ∈ l
  | [] => by simp [ins]
  | x :: l => by
    unfold ins
    split
    · rw [List.mem_cons, ins_mem p q l, List.mem_cons]
      constructor
      · rintro (h | h | h)
        · exact Or.inr (Or.inl h)
        · exact Or.inl h
        · exact Or.inr (Or.inr h)
      · rintro (h | h | h)
        · exact Or.inr (Or.inl h)
        · exact Or.inl h
        · exact Or.inr (Or.inr h)
    · rw [List.mem_cons]
theorem ins_length (p : Int) : ∀ l, (ins p l).length = l.length + 1
  | [] => rfl
  | x :: l => by
    unfold ins
    split
    · rw [List.length_cons, ins_length p l, List.length_cons]
    · rfl
theorem ins_up (p : Int) : ∀ l, l.Pairwise (· < ·) → p ∉ l → (ins p l).Pairwise (· < ·)
  | [], _, _ => by simp [ins]
  | x :: l, h, hp => by
    obtain ⟨h1, h2⟩ := List.pairwise_cons.1 h
    have hx : p ≠ x := fun e => hp (by simp [e])
    have hl : p ∉ l := fun e => hp (by simp [e])
    unfold ins
    split
    · rename_i hlt
      refine List.pairwise_cons.2 ⟨fun y hy => ?_, ins_up p l h2 hl⟩
      rcases (ins_mem p y l).1 hy with e | e
      · omega
      · exact h1 y e
    · rename_i hlt
      refine List.pairwise_cons.2 ⟨fun y hy => ?_, h⟩
      rcases List.mem_cons.1 hy with e | e
      · omega
      · have := h1 y e
        omega

theorem known_iff (s : SS) (p : Int) : s.known p = true ↔ p ∈ s.fr ∨ p ∈ s.pe.map (·.2) := by
  unfold known
  simp
theorem known_no {s : SS} {p : Int} (h : s.known p = false) : p ∉ s.fr ∧ p ∉ s.pe.map (·.2) := by
  refine ⟨fun e => ?_, fun e => ?_⟩
  · rw [(s.known_iff p).2 (Or.inl e)] at h
    cases h
  · rw [(s.known_iff p).2 (Or.inr e)] at h
    cases h

section
variable {s : SS} {top : Int}

theorem check_ok (h : Fine s top) : s.check top = 0 := by unfold check; rw [if_pos h]
theorem check_bad (h : ¬ Fine s top) : s.check top = 80 := by unfold check; rw [if_neg h]
theorem check_fine (h : s.check top = 0) : Fine s top := by
  unfold check at h
  split at h
  · assumption
  · cases h

/-- What Take leaves. -/
theorem Fine.take (h : Fine s top) (he : (s.take top).1 = 0) :
    Fine (s.take top).2.2 top ∧ (s.take top).2.2.known (s.take top).2.1 = false ∧ 2 ≤ (s.take top).2.1 ∧ (s.take top).2.1 < (s.take top).2.2.hi ∧
    ((s.take top).2.2.hi = s.hi ∧ (s.take top).2.2.fr.length + 1 = s.fr.length ∨ (s.take top).2.2.hi = s.hi + 1 ∧ s.fr = [] ∧ (s.take top).2.2.fr = []) ∧ (s.take top).2.2.pe = s.pe := by
  unfold SS.take at he ⊢
  cases hf : s.fr with
  | cons p l =>
    have h1 := h.up
    have h2 := h.inF
    have h3 := h.out
    rw [hf] at h1 h2 h3
    obtain ⟨u1, u2⟩ := List.pairwise_cons.1 h1
    simp only
    refine ⟨⟨h.lo, h.hi, u2, fun q hq => h2 q (by simp [hq]), h.ups, h.pos, h.inP, fun x hx e => h3 x hx (by simp [e]), h.once⟩, ?_, (h2 p (by simp)).1, (h2 p (by simp)).2, Or.inl ⟨trivial, by simp⟩, trivial⟩
    cases hk : SS.known { s with fr := l } p with
    | false => rfl
    | true =>
      rcases (SS.known_iff _ p).1 hk with e | e
      · have := u1 p e
        omega
      · obtain ⟨x, hx, hxp⟩ := List.mem_map.1 e
        exact absurd (show x.2 ∈ p :: l by rw [hxp]; simp) (h3 x hx)
  | nil =>
    rw [hf] at he
    simp only at he ⊢
    by_cases hlt : s.hi < top
    · have hlo := h.lo
      rw [if_pos hlt]
      refine ⟨⟨by show 2 ≤ s.hi + 1; omega, by show s.hi + 1 ≤ top; omega, List.Pairwise.nil, fun q hq => (by cases hq), h.ups, h.pos, fun x hx => ?_, fun x _ hq => (by cases hq), h.once⟩, ?_, hlo, by show s.hi < s.hi + 1; omega, Or.inr ⟨rfl, trivial, rfl⟩, rfl⟩
      · have := h.inP x hx
        show 2 ≤ x.2 ∧ x.2 < s.hi + 1
        omega
      · show SS.known ⟨s.hi + 1, [], s.pe⟩ s.hi = false
        cases hk : SS.known ⟨s.hi + 1, [], s.pe⟩ s.hi with
        | false => rfl
        | true =>
          rcases (SS.known_iff _ s.hi).1 hk with e | e
          · cases e
          · obtain ⟨x, hx, hxp⟩ := List.mem_map.1 e
            have := h.inP x hx
            omega
    · rw [if_neg hlt] at he
      cases he

/-- What Give leaves. -/
theorem Fine.give (h : Fine s top) {e p : Int} (hb : s.giveBad e p = false) : Fine { s with pe := s.pe ++ [(e, p)] } top := by
  unfold giveBad at hb
  simp only [Bool.or_eq_false_iff, Bool.not_eq_false', decide_eq_false_iff_not] at hb
  obtain ⟨⟨⟨b1, b2⟩, b3⟩, b4⟩ := hb
  obtain ⟨k1, k2⟩ := known_no b2
  have b1' : 2 ≤ p ∧ p < s.hi := of_decide_eq_true b1
  have hl : ∀ x ∈ s.pe, x.1 ≤ e := fun x hx => by
    unfold SS.last at b4
    have hne : s.pe ≠ [] := List.ne_nil_of_mem hx
    rw [List.getLast?_eq_some_getLast hne] at b4
    simp only [Option.map_some, Option.getD_some] at b4
    have : x.1 ≤ (s.pe.getLast hne).1 := by
      obtain ⟨i, hi, rfl⟩ := List.mem_iff_getElem.1 hx
      rw [List.getLast_eq_getElem]
      by_cases e1 : i = s.pe.length - 1
      · subst e1
        exact Int.le_refl _
      · exact List.pairwise_iff_getElem.1 h.ups i (s.pe.length - 1) hi (by omega) (by omega)
    omega
  refine ⟨h.lo, h.hi, h.up, h.inF, ?_, fun x hx => ?_, fun x hx => ?_, fun x hx => ?_, ?_⟩
  · refine List.pairwise_append.2 ⟨h.ups, by simp, fun x hx y hy => ?_⟩
    obtain rfl : y = (e, p) := by simpa using hy
    exact hl x hx
  · rcases List.mem_append.1 hx with e1 | e1
    · exact h.pos x e1
    · obtain rfl : x = (e, p) := by simpa using e1
      show 0 ≤ e
      omega
  · rcases List.mem_append.1 hx with e1 | e1
    · exact h.inP x e1
    · obtain rfl : x = (e, p) := by simpa using e1
      exact b1'
  · rcases List.mem_append.1 hx with e1 | e1
    · exact h.out x e1
    · obtain rfl : x = (e, p) := by simpa using e1
      exact k1
  · rw [List.map_append]
    refine List.nodup_append.2 ⟨h.once, by simp, fun x hx y hy => ?_⟩
    obtain rfl : y = p := by simpa using hy
    exact fun e1 => k2 (by rw [← e1]; exact hx)

/-- What Back leaves. -/
theorem Fine.back (h : Fine s top) {p : Int} (hb : s.backBad p = false) : Fine { s with fr := ins p s.fr } top := by
  unfold backBad at hb
  simp only [Bool.or_eq_false_iff, Bool.not_eq_false'] at hb
  obtain ⟨k1, k2⟩ := known_no hb.2
  have b1 : 2 ≤ p ∧ p < s.hi := of_decide_eq_true hb.1
  refine ⟨h.lo, h.hi, ins_up p _ h.up k1, fun q hq => ?_, h.ups, h.pos, h.inP, fun x hx e => ?_, h.once⟩
  · rcases (ins_mem p q _).1 hq with e | e
    · rw [e]
      exact b1
    · exact h.inF q e
  · rcases (ins_mem p x.2 _).1 e with e1 | e1
    · exact k2 (List.mem_map.2 ⟨x, hx, e1⟩)
    · exact h.out x hx e1

/-- The first one of Pending goes to Free. -/
theorem Fine.first (h : Fine s top) {x : Int × Int} {l : List (Int × Int)} (hp : s.pe = x :: l) : Fine { s with fr := ins x.2 s.fr, pe := l } top := by
  have h1 := h.ups
  have h2 := h.pos
  have h3 := h.inP
  have h4 := h.out
  have h5 := h.once
  rw [hp] at h1 h2 h3 h4 h5
  rw [List.map_cons] at h5
  obtain ⟨u1, u2⟩ := List.pairwise_cons.1 h1
  obtain ⟨n1, n2⟩ := List.nodup_cons.1 h5
  refine ⟨h.lo, h.hi, ins_up _ _ h.up (h4 x (by simp)), fun q hq => ?_, u2, fun y hy => h2 y (by simp [hy]), fun y hy => h3 y (by simp [hy]), fun y hy e => ?_, n2⟩
  · rcases (ins_mem _ q _).1 hq with e | e
    · rw [e]
      exact h3 x (by simp)
    · exact h.inF q e
  · rcases (ins_mem _ y.2 _).1 e with e1 | e1
    · exact n1 (List.mem_map.2 ⟨y, hy, e1⟩)
    · exact h4 y (by simp [hy]) e1
end

theorem insAll_length : ∀ (l : List (Int × Int)) (f : List Int), (insAll l f).length = f.length + l.length
  | [], f => rfl
  | x :: l, f => by
    unfold insAll
    rw [insAll_length l, ins_length, List.length_cons]
    omega
theorem insAll_mem (q : Int) : ∀ (l : List (Int × Int)) (f : List Int), q ∈ insAll l f ↔ q ∈ f ∨ q ∈ l.map (·.2)
  | [], f => by simp [insAll]
  | x :: l, f => by
    unfold insAll
    rw [insAll_mem q l, ins_mem, List.map_cons, List.mem_cons]
    constructor
    · rintro ((h | h) | h)
      · exact Or.inr (Or.inl h)
      · exact Or.inl h
      · exact Or.inr (Or.inr h)
    · rintro (h | h | h)
      · exact Or.inl (Or.inr h)
      · exact Or.inl (Or.inl h)
      · exact Or.inr h
theorem count_le (e : Int) : ∀ (b : Nat) (l : List (Int × Int)), count e b l ≤ l.length ∧ count e b l ≤ b
  | 0, _ => ⟨Nat.zero_le _, Nat.zero_le _⟩
  | _ + 1, [] => ⟨Nat.zero_le _, Nat.zero_le _⟩
  | b + 1, x :: l => by
    unfold count
    split
    · have := count_le e b l
      rw [List.length_cons]
      omega
    · exact ⟨Nat.zero_le _, Nat.zero_le _⟩
/-- With a budget for all, those of an epoch that is late enough go all. -/
theorem count_all {e : Int} : ∀ {b : Nat} {l : List (Int × Int)}, l.length ≤ b → (∀ x ∈ l, x.1 ≤ e) → count e b l = l.length
  | 0, [], _, _ => rfl
  | _ + 1, [], _, _ => rfl
  | 0, _ :: _, h, _ => absurd h (by simp)
  | b + 1, x :: l, h, hx => by
    unfold count
    rw [if_pos (hx x (by simp)), count_all (by simpa using h) (fun y hy => hx y (by simp [hy])), List.length_cons]
/-- Whatever goes is of an epoch that is not too late. -/
theorem count_took {e : Int} : ∀ {b : Nat} {l : List (Int × Int)}, ∀ x ∈ l.take (count e b l), x.1 ≤ e
  | 0, l, x, hx => by
    unfold count at hx
    simp at hx
  | _ + 1, [], x, hx => by simp at hx
  | b + 1, y :: l, x, hx => by
    unfold count at hx
    split at hx
    · rename_i h
      rw [List.take_succ_cons] at hx
      rcases List.mem_cons.1 hx with e1 | e1
      · rw [e1]
        exact h
      · exact count_took x e1
    · simp at hx

/-- So many of Pending go to Free. -/
theorem Fine.took {top : Int} : ∀ (n : Nat) (s : SS), Fine s top → Fine { s with fr := insAll (s.pe.take n) s.fr, pe := s.pe.drop n } top
  | 0, s, h => by
    simp only [List.take_zero, List.drop_zero]
    exact h
  | n + 1, s, h => by
    rcases hp : s.pe with _ | ⟨x, l⟩
    · simp only [List.take_nil, List.drop_nil]
      have := h
      rw [show s = { s with pe := [] } by rw [← hp]] at this
      exact this
    · have := Fine.took n _ (h.first hp)
      simp only [List.take_succ_cons, List.drop_succ_cons]
      exact this
theorem Fine.reclaim {s : SS} {top : Int} (h : Fine s top) (e : Int) (b : Nat) : Fine (s.reclaim e b).1 top ∧ (s.reclaim e b).1.fr.length = s.fr.length + (s.reclaim e b).2 ∧ (s.reclaim e b).1.pe.length = s.pe.length - (s.reclaim e b).2 := by
  refine ⟨Fine.took _ s h, ?_, ?_⟩
  · show (insAll (s.pe.take (count e b s.pe)) s.fr).length = s.fr.length + count e b s.pe
    rw [insAll_length, List.length_take, Nat.min_eq_left (count_le e b s.pe).1]
  · show (s.pe.drop (count e b s.pe)).length = s.pe.length - count e b s.pe
    rw [List.length_drop]
end SS
end Go.Proofs.Ytlldmefjhgahdaa

/-
  Lists of ints, of freed pages and of lists in memory; pages' lists as a value.
-/
namespace Go.Proofs.Ytlldmefjhgahdaa
open Go.RowKit

/-- A list of n elements, of sz cells each, at address A. -/
structure Ln (w : World) (sz : Nat) (A : Option Addr) (n c : Nat) (cs : List Value) : Prop where
  len : cs.length = n * sz
  le : n ≤ c
  lies : Lies w A n c cs

/-- The cells of freed pages. -/
def prVals : List (Int × Int) → List Value
  | [] => []
  | p :: ps => .int .i64 p.1 :: .int .i64 p.2 :: prVals ps
theorem prVals_length : ∀ ps, (prVals ps).length = ps.length * 2
  | [] => rfl
  | p :: ps => by simp only [prVals, List.length_cons, prVals_length ps]; omega
theorem prVals_append : ∀ ps qs, prVals (ps ++ qs) = prVals ps ++ prVals qs
  | [], _ => rfl
  | p :: ps, qs => by simp only [List.cons_append, prVals, prVals_append ps qs]
theorem prVals_at : ∀ (ps : List (Int × Int)) (i : Nat) (p : Int × Int), ps[i]? = some p → (prVals ps)[i * 2]? = some (.int .i64 p.1) ∧ (prVals ps)[i * 2 + 1]? = some (.int .i64 p.2)
  | [], i, p, h => by simp at h
  | x :: ps, 0, p, h => by
    obtain rfl : x = p := by simpa using h
    exact ⟨rfl, rfl⟩
  | x :: ps, i + 1, p, h => by
    have := prVals_at ps i p (by simpa using h)
    have e : (i + 1) * 2 = i * 2 + 1 + 1 := by omega
    rw [e]
    simpa [prVals] using this
theorem prVals_take : ∀ (ps : List (Int × Int)) (k : Nat), (prVals ps).take (k * 2) = prVals (ps.take k)
  | [], k => by simp [prVals]
  | x :: ps, 0 => by simp [prVals]
  | x :: ps, k + 1 => by
    rw [show (k + 1) * 2 = k * 2 + 1 + 1 by omega]
    simp only [prVals, List.take_succ_cons, prVals_take ps k]
theorem prVals_drop : ∀ (ps : List (Int × Int)) (k : Nat), (prVals ps).drop (k * 2) = prVals (ps.drop k)
  | [], k => by simp [prVals]
  | x :: ps, 0 => by simp [prVals]
  | x :: ps, k + 1 => by
    rw [show (k + 1) * 2 = k * 2 + 1 + 1 by omega]
    simp only [prVals, List.drop_succ_cons, prVals_drop ps k]
theorem prVals_one (ps : List (Int × Int)) : ∀ u ∈ prVals ps, u.oneCell' = true := by
  induction ps with
  | nil => intro u hu; simp [prVals] at hu
  | cons p ps ih =>
    intro u hu
    unfold prVals at hu
    rcases List.mem_cons.1 hu with rfl | hu
    · rfl
    · rcases List.mem_cons.1 hu with rfl | hu
      · rfl
      · exact ih u hu
theorem intVals_one (zs : List Int) : ∀ u ∈ intVals zs, u.oneCell' = true := by
  intro u hu
  obtain ⟨b, _, rfl⟩ := List.mem_map.1 hu
  rfl
theorem intVals_length (zs : List Int) : (intVals zs).length = zs.length := List.length_map _
theorem sIntVals_append (a b : List Int) : intVals (a ++ b) = intVals a ++ intVals b := List.map_append

section
variable {w w' : World} {sz : Nat} {A : Option Addr} {n c : Nat} {cs : List Value}
theorem Ln.kept (h : Ln w sz A n c cs) (hb : Below w.heap.size w w') : Ln w' sz A n c cs := ⟨h.len, h.le, h.lies.kept hb⟩
theorem Ln.none_ (w : World) (sz : Nat) : Ln w sz none 0 0 [] := ⟨by simp, Nat.le_refl _, fun _ => ⟨rfl, rfl⟩, fun ad e => (by cases e)⟩
theorem Ln.empty (w : World) (sz : Nat) (ad : Addr) (c : Nat) : Ln w sz (some ad) 0 c [] := ⟨by simp, Nat.zero_le _, fun e => (by cases e), fun ad _ j u hu => by simp at hu⟩

theorem Ln.of_own {base : Nat} {e : TypeId} {v : Value} (h : w.ownsRow base e sz v n cs) : ∃ A c, v = .slice A n c ∧ c ≤ maxLen ∧ Ln w sz A n c cs := by
  have h1 := h.1
  rcases h.2 with ⟨rfl, h0⟩ | ⟨g, cap, cur, rfl, hb, hh, hnc, hm, _⟩
  · subst h0
    obtain rfl : cs = [] := List.eq_nil_of_length_eq_zero (by omega)
    exact ⟨none, 0, rfl, Nat.zero_le _, Ln.none_ w sz⟩
  · refine ⟨_, _, rfl, hm, h1, hnc, fun e => (by cases e), fun ad e j u hu => ?_⟩
    obtain rfl := Option.some.inj e
    exact h.cells (g := g) rfl j u hu

theorem Ln.spot (h : Ln w sz A n c cs) (hn : 0 < cs.length) : ∃ b off, A = some ⟨b, off, none⟩ ∧ b < w.heap.size := by
  rcases A with _ | ⟨b, off, sp⟩
  · obtain ⟨rfl, rfl⟩ := h.lies.1 rfl
    have := h.len
    omega
  · have h0 := h.lies.2 _ rfl 0 cs[0] (by simp [hn])
    have hs : sp = none := by simpa [Addr.add] using World.cell?_spot h0
    subst hs
    rw [addr_add] at h0
    exact ⟨b, off, rfl, World.block_lt_of_cell? _ _ h0⟩

theorem Ln.cell {b off : Nat} (h : Ln w sz (some ⟨b, off, none⟩) n c cs) {j : Nat} {u : Value} (hu : cs[j]? = some u) : w.cell? ⟨b, off + j, none⟩ = some u := by
  have := h.lies.2 _ rfl j u hu
  rw [addr_add] at this
  exact this

theorem Ln.ints {zs : List Int} (h : Ln w 1 A n c (intVals zs)) : Ints w A zs := by
  rcases zs with _ | ⟨z, zs⟩
  · exact Or.inl rfl
  · obtain ⟨b, off, rfl, _⟩ := h.spot (by simp [intVals])
    exact Or.inr ⟨b, off, rfl, fun i z hz => h.cell (by rw [intVals, List.getElem?_map, hz]; rfl)⟩
theorem Ln.intN {zs : List Int} (h : Ln w 1 A n c (intVals zs)) : zs.length = n := by
  have := h.len
  rw [intVals_length] at this
  omega
theorem Ln.prN {ps : List (Int × Int)} (h : Ln w 2 A n c (prVals ps)) : ps.length = n := by
  have := h.len
  rw [prVals_length] at this
  omega
theorem Ln.intAt {zs : List Int} (h : Ln w 1 A n c (intVals zs)) {k : Nat} (hk : k < n) :
    ∃ b off z, A = some ⟨b, off, none⟩ ∧ zs[k]? = some z ∧ w.cell? ⟨b, off + k, none⟩ = some (.int .i64 z) := h.ints.at_ (by rw [h.intN]; exact hk)
theorem Ln.prAt {ps : List (Int × Int)} (h : Ln w 2 A n c (prVals ps)) {k : Nat} (hk : k < n) :
    ∃ b off x y, A = some ⟨b, off, none⟩ ∧ ps[k]? = some (x, y) ∧ w.cell? ⟨b, off + k * 2, none⟩ = some (.int .i64 x) ∧ w.cell? ⟨b, off + k * 2 + 1, none⟩ = some (.int .i64 y) := by
  have hl := h.prN
  obtain ⟨b, off, rfl, _⟩ := h.spot (by rw [prVals_length]; omega)
  have hp : ps[k]? = some ps[k] := List.getElem?_eq_getElem (by omega)
  obtain ⟨h1, h2⟩ := prVals_at ps k _ hp
  exact ⟨b, off, (ps[k]).1, (ps[k]).2, rfl, hp, h.cell h1, h.cell h2⟩

theorem Ln.take (h : Ln w sz A n c cs) {k : Nat} (hk : k ≤ n) : Ln w sz A k c (cs.take (k * sz)) := by
  have hle := h.le
  have hm : k * sz ≤ n * sz := Nat.mul_le_mul_right _ hk
  refine ⟨by rw [List.length_take, h.len]; omega, by omega, fun e => ?_, fun ad e j u hu => h.lies.2 ad e j u ?_⟩
  · obtain ⟨h1, h2⟩ := h.lies.1 e
    omega
  · rw [List.getElem?_take] at hu
    split at hu
    · exact hu
    · cases hu
theorem Ln.drop {b off : Nat} (h : Ln w sz (some ⟨b, off, none⟩) n c cs) {k : Nat} (hk : k ≤ n) : Ln w sz (some ⟨b, off + k * sz, none⟩) (n - k) (c - k) (cs.drop (k * sz)) := by
  have hle := h.le
  refine ⟨by rw [List.length_drop, h.len, Nat.sub_mul], by omega, fun e => (by cases e), fun ad e j u hu => ?_⟩
  obtain rfl := Option.some.inj e
  rw [List.getElem?_drop] at hu
  rw [addr_add, show off + k * sz + j = off + (k * sz + j) by omega]
  exact h.cell hu
theorem Ln.prTake {ps : List (Int × Int)} (h : Ln w 2 A n c (prVals ps)) {k : Nat} (hk : k ≤ n) : Ln w 2 A k c (prVals (ps.take k)) := by
  have := h.take hk
  rw [prVals_take] at this
  exact this
theorem Ln.intTake {zs : List Int} (h : Ln w 1 A n c (intVals zs)) {k : Nat} (hk : k ≤ n) : Ln w 1 A k c (intVals (zs.take k)) := by
  have := h.take hk
  rw [Nat.mul_one, intVals, ← List.map_take] at this
  exact this
theorem Ln.prDrop {b off : Nat} {ps : List (Int × Int)} (h : Ln w 2 (some ⟨b, off, none⟩) n c (prVals ps)) {k : Nat} (hk : k ≤ n) : Ln w 2 (some ⟨b, off + k * 2, none⟩) (n - k) (c - k) (prVals (ps.drop k)) := by
  have := h.drop hk
  rw [prVals_drop] at this
  exact this
theorem Ln.intDrop {b off : Nat} {zs : List Int} (h : Ln w 1 (some ⟨b, off, none⟩) n c (intVals zs)) {k : Nat} (hk : k ≤ n) : Ln w 1 (some ⟨b, off + k, none⟩) (n - k) (c - k) (intVals (zs.drop k)) := by
  have := h.drop hk
  rw [Nat.mul_one, intVals, ← List.map_drop] at this
  exact this
end

/-! ### Lists of lists -/

/-- One list, and where it lies. -/
structure Pc where
  A : Option Addr
  n : Nat
  c : Nat
  cs : List Value

def tot (ps : List Pc) : Nat := (ps.map Pc.n).sum
def pcs (ps : List Pc) : List Value := ps.flatMap Pc.cs
theorem tot_take {ps : List Pc} {k : Nat} {p : Pc} (h : ps[k]? = some p) : tot (ps.take (k + 1)) = tot (ps.take k) + p.n := by
  unfold tot
  rw [List.take_add_one, h, Option.toList_some, List.map_append, List.sum_append]
  simp
theorem pcs_take {ps : List Pc} {k : Nat} {p : Pc} (h : ps[k]? = some p) : pcs (ps.take (k + 1)) = pcs (ps.take k) ++ p.cs := by
  unfold pcs
  rw [List.take_add_one, h, Option.toList_some, List.flatMap_append]
  simp
theorem tot_le (ps : List Pc) (k : Nat) : tot (ps.take k) ≤ tot ps := by
  conv => rhs; rw [← List.take_append_drop k ps]
  unfold tot
  rw [List.map_append, List.sum_append]
  omega

/-- Lists, of elements of sz cells, at address A. -/
def Pile (w : World) (sz : Nat) (A : Option Addr) (ps : List Pc) : Prop :=
  ps = [] ∨ ∃ b off, A = some ⟨b, off, none⟩ ∧ ∀ i p, ps[i]? = some p → w.cell? ⟨b, off + i, none⟩ = some (.slice p.A p.n p.c) ∧ Ln w sz p.A p.n p.c p.cs ∧ ∀ u ∈ p.cs, u.oneCell' = true

section
variable {w w' : World} {sz : Nat} {A : Option Addr}
theorem Pile.kept {ps : List Pc} (h : Pile w sz A ps) (hb : Below w.heap.size w w') : Pile w' sz A ps := by
  rcases h with rfl | ⟨b, off, rfl, hc⟩
  · exact Or.inl rfl
  · refine Or.inr ⟨b, off, rfl, fun i p hp => ?_⟩
    obtain ⟨h1, h2, h3⟩ := hc i p hp
    exact ⟨(hb.cell (p := ⟨b, _, none⟩) (World.block_lt_of_cell? _ _ h1)).trans h1, h2.kept hb, h3⟩
theorem Pile.at_ {ps : List Pc} (h : Pile w sz A ps) {k : Nat} (hk : k < ps.length) :
    ∃ b off p, A = some ⟨b, off, none⟩ ∧ ps[k]? = some p ∧ w.cell? ⟨b, off + k, none⟩ = some (.slice p.A p.n p.c) ∧ Ln w sz p.A p.n p.c p.cs ∧ ∀ u ∈ p.cs, u.oneCell' = true := by
  rcases h with rfl | ⟨b, off, rfl, hc⟩
  · exact absurd hk (by simp)
  · exact ⟨b, off, ps[k], rfl, List.getElem?_eq_getElem hk, hc k _ (List.getElem?_eq_getElem hk)⟩
theorem pile_one {B : Option Addr} {n c : Nat} {cs : List Value} (h : Ln w sz B n c cs) (h1 : ∀ u ∈ cs, u.oneCell' = true) (t : TypeId) : Pile (w.alloc (.cells #[.slice B n c] t)) sz (some ⟨w.heap.size, 0, none⟩) [⟨B, n, c, cs⟩] := by
  refine Or.inr ⟨_, _, rfl, fun i p hp => ?_⟩
  match i, hp with
  | 0, hp =>
    obtain rfl := Option.some.inj hp
    exact ⟨by simp, h.kept (below_one _ _), h1⟩
theorem pile_two {B C : Option Addr} {n c m d : Nat} {cs ds : List Value} (h : Ln w sz B n c cs) (h1 : ∀ u ∈ cs, u.oneCell' = true) (g : Ln w sz C m d ds) (g1 : ∀ u ∈ ds, u.oneCell' = true) (t : TypeId) :
    Pile (w.alloc (.cells #[.slice B n c, .slice C m d] t)) sz (some ⟨w.heap.size, 0, none⟩) [⟨B, n, c, cs⟩, ⟨C, m, d, ds⟩] := by
  refine Or.inr ⟨_, _, rfl, fun i p hp => ?_⟩
  match i, hp with
  | 0, hp =>
    obtain rfl := Option.some.inj hp
    exact ⟨by simp, h.kept (below_one _ _), h1⟩
  | 1, hp =>
    obtain rfl := Option.some.inj hp
    exact ⟨by simp, g.kept (below_one _ _), g1⟩
theorem pile_three {B C D : Option Addr} {n c m d k e : Nat} {cs ds es : List Value} (h : Ln w sz B n c cs) (h1 : ∀ u ∈ cs, u.oneCell' = true) (g : Ln w sz C m d ds) (g1 : ∀ u ∈ ds, u.oneCell' = true) (f : Ln w sz D k e es) (f1 : ∀ u ∈ es, u.oneCell' = true) (t : TypeId) :
    Pile (w.alloc (.cells #[.slice B n c, .slice C m d, .slice D k e] t)) sz (some ⟨w.heap.size, 0, none⟩) [⟨B, n, c, cs⟩, ⟨C, m, d, ds⟩, ⟨D, k, e, es⟩] := by
  refine Or.inr ⟨_, _, rfl, fun i p hp => ?_⟩
  match i, hp with
  | 0, hp =>
    obtain rfl := Option.some.inj hp
    exact ⟨by simp, h.kept (below_one _ _), h1⟩
  | 1, hp =>
    obtain rfl := Option.some.inj hp
    exact ⟨by simp, g.kept (below_one _ _), g1⟩
  | 2, hp =>
    obtain rfl := Option.some.inj hp
    exact ⟨by simp, f.kept (below_one _ _), f1⟩
end
theorem ln_one (w : World) (a : Int) (t : TypeId) : Ln (w.alloc (.cells #[.int .i64 a] t)) 1 (some ⟨w.heap.size, 0, none⟩) 1 1 (intVals [a]) :=
  ⟨rfl, Nat.le_refl _, fun e => (by cases e), fun ad e j u hu => by
    obtain rfl := Option.some.inj e
    rw [addr_add]
    match j, hu with
    | 0, hu =>
      obtain rfl := Option.some.inj hu
      simp⟩
theorem ln_two (w : World) (a b : Int) (t : TypeId) : Ln (w.alloc (.cells #[.int .i64 a, .int .i64 b] t)) 1 (some ⟨w.heap.size, 0, none⟩) 2 2 (intVals [a, b]) :=
  ⟨rfl, Nat.le_refl _, fun e => (by cases e), fun ad e j u hu => by
    obtain rfl := Option.some.inj e
    exact cell_two_new w _ _ t j u hu⟩
theorem ln_pair (w : World) (a b : Int) (t : TypeId) : Ln (w.alloc (.cells #[.int .i64 a, .int .i64 b] t)) 2 (some ⟨w.heap.size, 0, none⟩) 1 1 (prVals [(a, b)]) :=
  ⟨rfl, Nat.le_refl _, fun e => (by cases e), fun ad e j u hu => by
    obtain rfl := Option.some.inj e
    exact cell_two_new w _ _ t j u hu⟩

/-- A call that answers one list of its own. -/
def JoinEnd (w : World) (t : TypeId) (sz N : Nat) (cs : List Value) (e : Ending) (w' : World) : Prop :=
  ∃ v, e = .returned v ∧ w'.ownsRow w.heap.size t sz v N cs ∧ Below w.heap.size w w'

/-! ### Pages' lists -/

structure Sp (w : World) (A : Option Addr) (n c : Nat) (B : Option Addr) (m d : Nat) (s : SS) : Prop where
  fr : Ln w 1 A n c (intVals s.fr)
  pe : Ln w 2 B m d (prVals s.pe)
theorem Sp.kept {w w' : World} {A B : Option Addr} {n c m d : Nat} {s : SS} (h : Sp w A n c B m d s) (hb : Below w.heap.size w w') : Sp w' A n c B m d s := ⟨h.fr.kept hb, h.pe.kept hb⟩
theorem Sp.fl {w : World} {A B : Option Addr} {n c m d : Nat} {s : SS} (h : Sp w A n c B m d s) : s.fr.length = n := h.fr.intN
theorem Sp.pl {w : World} {A B : Option Addr} {n c m d : Nat} {s : SS} (h : Sp w A n c B m d s) : s.pe.length = m := h.pe.prN
theorem Sp.zero (w : World) : Sp w none 0 0 none 0 0 SS.none := ⟨Ln.none_ w 1, Ln.none_ w 2⟩

/-- Pages' lists that are answered. -/
def SpV (w' : World) (v : Value) (s : SS) : Prop := ∃ A n c B m d, v = .agg #[.int .i64 s.hi, .slice A n c, .slice B m d] ∧ Sp w' A n c B m d s

end Go.Proofs.Ytlldmefjhgahdaa

/-
  Pages' lists in a block of their own, and what calls answer.
-/
namespace Go.Proofs.Ytlldmefjhgahdaa
open Go.RowKit

/-- A block that holds pages' lists. -/
def Box (w : World) (g : Nat) (x y z : Value) : Prop := w.heap[g]? = some (.cells #[x, y, z] 26 (0, 0))

section
variable {w w' : World} {g : Nat} {x y z : Value}
theorem Box.lt (h : Box w g x y z) : g < w.heap.size := (Array.getElem?_eq_some_iff.1 h).1
theorem Box.kept (h : Box w g x y z) (hb : Below w.heap.size w w') : Box w' g x y z := (hb.block g h.lt).trans h
theorem Box.cells (h : Box w g x y z) : w.cell? ⟨g, 0, none⟩ = some x ∧ w.cell? ⟨g, 1, none⟩ = some y ∧ w.cell? ⟨g, 2, none⟩ = some z :=
  ⟨(cell_of_row w g 0 _ _ _ h).trans rfl, (cell_of_row w g 1 _ _ _ h).trans rfl, (cell_of_row w g 2 _ _ _ h).trans rfl⟩
theorem Box.free (h : Box w g x y z) : w.frozen? ⟨g, 0, none⟩ = false ∧ w.frozen? ⟨g, 1, none⟩ = false ∧ w.frozen? ⟨g, 2, none⟩ = false :=
  ⟨frozen_of_row w g 0 _ _ h, frozen_of_row w g 1 _ _ h, frozen_of_row w g 2 _ _ h⟩
end
theorem box_new (w : World) (x y z : Value) : Box (w.alloc (.cells #[x, y, z] 26)) w.heap.size x y z := heap_alloc_new w _
/-- The argument's block, and the answer's. -/
theorem two_boxes (w : World) (x y z x' y' z' : Value) : Box ((w.alloc (.cells #[x, y, z] 26)).alloc (.cells #[x', y', z'] 26)) w.heap.size x y z ∧
    Box ((w.alloc (.cells #[x, y, z] 26)).alloc (.cells #[x', y', z'] 26)) (w.heap.size + 1) x' y' z' ∧ Below w.heap.size w ((w.alloc (.cells #[x, y, z] 26)).alloc (.cells #[x', y', z'] 26)) := by
  refine ⟨(box_new w x y z).kept (below_one _ _), ?_, below_two _ _ _⟩
  have h := box_new (w.alloc (.cells #[x, y, z] 26)) x' y' z'
  rw [show (w.alloc (.cells #[x, y, z] 26)).heap.size = w.heap.size + 1 by simp] at h
  exact h

/-- A call that answers pages' lists, and a number. -/
def SpEnd (w : World) (r : Int) (s : SS) (e : Ending) (w' : World) : Prop := ∃ v, e = .returned (.tuple #[v, .int .i64 r]) ∧ SpV w' v s ∧ Below w.heap.size w w'
/-- A call that answers pages' lists, a page and an error. -/
def TakeEnd (w : World) (r : Int × Int × SS) (e : Ending) (w' : World) : Prop := ∃ v, e = .returned (.tuple #[v, .int .i64 r.2.1, .int .i64 r.1]) ∧ SpV w' v r.2.2 ∧ Below w.heap.size w w'
theorem SpV.kept {w w' : World} {v : Value} {s : SS} (h : SpV w v s) (hb : Below w.heap.size w w') : SpV w' v s := by
  obtain ⟨A, n, c, B, m, d, rfl, h⟩ := h
  exact ⟨A, n, c, B, m, d, rfl, h.kept hb⟩
end Go.Proofs.Ytlldmefjhgahdaa

/-
  Stores into a block of pages' lists, and what is left as it was.
-/
namespace Go.Proofs.Ytlldmefjhgahdaa
open Go.RowKit Go.Maps

theorem pcs_one (A : Option Addr) (n c : Nat) (cs : List Value) : pcs [⟨A, n, c, cs⟩] = cs := by simp [pcs]

/-! ### Stores into such a block -/

section
variable {w w' : World} {g r : Nat} {x y z : Value}
theorem Box.set0 (h : Box w g x y z) (u : Value) : Box (w.setCell ⟨g, 0, none⟩ u) g u y z := by
  unfold Box at h ⊢
  rw [Joins.block_setCell h]
  rfl
theorem Box.set1 (h : Box w g x y z) (u : Value) : Box (w.setCell ⟨g, 1, none⟩ u) g x u z := by
  unfold Box at h ⊢
  rw [Joins.block_setCell h]
  rfl
theorem Box.set2 (h : Box w g x y z) (u : Value) : Box (w.setCell ⟨g, 2, none⟩ u) g x y u := by
  unfold Box at h ⊢
  rw [Joins.block_setCell h]
  rfl
theorem Box.put (h : Box w g x y z) (x' y' z' : Value) : Box (((w.setCell ⟨g, 0, none⟩ x').setCell ⟨g, 1, none⟩ y').setCell ⟨g, 2, none⟩ z') g x' y' z' := ((h.set0 x').set1 y').set2 z'
/-- All blocks but one are as they were. -/
def But (r : Nat) (w w' : World) : Prop := w.heap.size = w'.heap.size ∧ ∀ k, k ≠ r → w'.heap[k]? = w.heap[k]?
theorem But.refl (r : Nat) (w : World) : But r w w := ⟨rfl, fun _ _ => rfl⟩
theorem But.set {w w' : World} (h : But r w w') (j : Nat) (u : Value) : But r w (w'.setCell ⟨r, j, none⟩ u) := ⟨h.1.trans (by simp [World.setCell]), fun k hk => (Below.heap_setCell _ _ _ _ hk).trans (h.2 k hk)⟩
theorem But.put (w : World) (r : Nat) (x y z : Value) : But r w (((w.setCell ⟨r, 0, none⟩ x).setCell ⟨r, 1, none⟩ y).setCell ⟨r, 2, none⟩ z) := (((But.refl r w).set 0 x).set 1 y).set 2 z
theorem Box.but (h : Box w g x y z) (hb : But r w w') (hne : g ≠ r) : Box w' g x y z := (hb.2 g hne).trans h
theorem But.cell (hb : But r w w') {k : Nat} (hne : k ≠ r) (j : Nat) : w'.cell? ⟨k, j, none⟩ = w.cell? ⟨k, j, none⟩ := World.cell?_of_block (w := w) (hb.2 k hne)
theorem below_put {B : Nat} {a w : World} (h : Below B a w) (hr : B ≤ r) (x y z : Value) : Below B a (((w.setCell ⟨r, 0, none⟩ x).setCell ⟨r, 1, none⟩ y).setCell ⟨r, 2, none⟩ z) := ((h.setCell hr _).setCell hr _).setCell hr _
end

/-- A list that lies at base or above. -/
def Hi (base : Nat) (A : Option Addr) : Prop := ∀ ad, A = some ad → base ≤ ad.block
theorem Hi.low {base base' : Nat} {A : Option Addr} (h : Hi base A) (hb : base' ≤ base) : Hi base' A := fun ad e => Nat.le_trans hb (h ad e)
theorem Hi.none_ (base : Nat) : Hi base none := fun _ e => by cases e
theorem Hi.of_own {w : World} {base sz n c : Nat} {e : TypeId} {A : Option Addr} {cs : List Value} (h : w.ownsRow base e sz (.slice A n c) n cs) : Hi base A := by
  intro ad e
  subst e
  exact (h.lt ad.block rfl).1
theorem Ln.but {w w' : World} {sz r n c : Nat} {A : Option Addr} {cs : List Value} (h : Ln w sz A n c cs) (hb : But r w w') (hA : Hi (r + 1) A) : Ln w' sz A n c cs :=
  ⟨h.len, h.le, h.lies.1, fun ad e j u hu => by
    have h0 := h.lies.2 ad e j u hu
    have hlt := hA ad e
    have hblk : (ad.add j).block = ad.block := by unfold Addr.add; split <;> rfl
    rw [World.cell?_of_block (w := w) (hb.2 (ad.add j).block (by omega))]
    exact h0⟩

theorem Sp.but {w w' : World} {r n c m d : Nat} {A B : Option Addr} {s : SS} (h : Sp w A n c B m d s) (hb : But r w w') (hA : Hi (r + 1) A) (hB : Hi (r + 1) B) : Sp w' A n c B m d s := ⟨h.fr.but hb hA, h.pe.but hb hB⟩
/-- What is answered once the answer's block is written. -/
theorem put_done {w w2 : World} {r n c m d : Nat} {h : Int} {A B : Option Addr} {s : SS} (hb : Below w.heap.size w w2) (hr : w.heap.size ≤ r) (hs : Sp w2 A n c B m d s) (hA : Hi (r + 1) A) (hB : Hi (r + 1) B) (hh : s.hi = h) (x y z : Value) :
    SpV (((w2.setCell ⟨r, 0, none⟩ x).setCell ⟨r, 1, none⟩ y).setCell ⟨r, 2, none⟩ z) (.agg #[.int .i64 h, .slice A n c, .slice B m d]) s ∧ Below w.heap.size w (((w2.setCell ⟨r, 0, none⟩ x).setCell ⟨r, 1, none⟩ y).setCell ⟨r, 2, none⟩ z) :=
  ⟨⟨A, n, c, B, m, d, by rw [hh], hs.but (But.put w2 r x y z) hA hB⟩, below_put hb hr x y z⟩
end Go.Proofs.Ytlldmefjhgahdaa

/-
  What joined comes to at lists of ints.
-/
namespace Go.Proofs.Ytlldmefjhgahdaa
open Go.RowKit

set_option maxRecDepth 20000 in
theorem IInfo0 : (Try.prog.info? 3).map (fun i => (i.zero, i.size, i.bytes)) = some (some (.int .i64 0), 1, 8) := by kernel_rfl

set_option maxRecDepth 20000 in
theorem make_I (N : Nat) (hN : N ≤ 1000000) : ∃ cur : Array Value, cur.size = N * 1 ∧ ∀ w : World, (Instr.makeSlice 23 (.int .i64 0) (.int .i64 (N : Int))).run Try.prog w = .ok (.slice (some ⟨w.heap.size, 0, none⟩) 0 N) (w.alloc (.cells cur 3)) := by
  obtain ⟨i0, hi, hz0, hz1, hz2⟩ := info_parts IInfo0
  refine ⟨madeCells (.int .i64 0 : Value).cells (N * 1), by rw [size_madeCells], fun w => ?_⟩
  have := run_makeSlice (P := Try.prog) (w := w) 23 3 i0 _ Try.underlying23 hi hz0 .i64 .i64 0 (N : Int) (by omega) (by omega) (by rw [hz1]; simp; omega) (by rw [hz2]; omega) (by omega)
  rw [this, hz1]
  simp only [Int.toNat_natCast, Int.toNat_zero]

set_option maxRecDepth 20000 in
set_option maxHeartbeats 1600000 in
theorem join_I (A : Option Addr) (n c N : Nat) (ps : List Pc) (w : World) (hp : Pile w 1 A ps) (hn : ps.length = n) (hN : tot ps = N) (hb : N ≤ 1000000) (hm : n ≤ 1000000) :
    Calls Try.prog 31 #[.slice A n c] w (JoinEnd w 3 1 N (pcs ps)) := by
  obtain ⟨i0, hi, hz0, hz1, hz2⟩ := info_parts IInfo0
  obtain ⟨cur, hcs, hmk⟩ := make_I N hb
  have HP := Lib.hid hp
  have HL := Lib.hid hn
  have HT := Lib.hid hN
  have HC := Lib.hid hcs
  clear hp hn hN hcs
  go_enter Try.func31, Try.ntmps31
  go_wp2_with fail
  obtain ⟨wo, rfl⟩ : ∃ wo : World, wo = w := ⟨_, rfl⟩
  go_loopw [3, 11] (fun s i wr => ∃ k : Nat, k ≤ n ∧ i = .int .i64 k ∧ s = .int .i64 (tot (ps.take k) : Nat) ∧ wr = wo) (fun _ i _ => n - (intOf i).toNat)
  case atStart => exact ⟨0, Nat.zero_le _, rfl, rfl, rfl⟩
  case round =>
    obtain ⟨k, hk, rfl, rfl, hw⟩ := hrel
    have hw' := hw.symm
    subst hw'
    clear hw
    by_cases hlt : k < n
    · obtain ⟨b, off, p, rfl, hv, c0, _, _⟩ := HP.out.at_ (k := k) (by rw [HL.out]; exact hlt)
      have hle := tot_le ps (k + 1)
      rw [tot_take hv, HT.out] at hle
      have HV := Lib.hid (tot_take hv)
      clear hv
      generalize tot (ps.take k) = t at *
      go_wp2_with fail
      go_roundw
      case rel =>
        refine ⟨k + 1, by omega, by go_num, ?_, trivial⟩
        rw [HV.out]
        go_num
      case measure => simp [intOf]; omega
    · obtain rfl : n = k := by omega
      have e1 : tot (ps.take n) = N := by rw [List.take_of_length_le (by rw [HL.out]; omega), HT.out]
      rw [e1]
      clear e1
      go_wp2_with fail
      have O0 : Hid ((wo.alloc (.cells cur 3)).ownsRow wo.heap.size 3 1 (.slice (some ⟨wo.heap.size, 0, none⟩) 0 N) 0 []) := Lib.hid (World.ownsRow_made wo cur N (Nat.le_refl _) (by unfold maxLen; omega) HC.out)
      have B0 : Hid (Below wo.heap.size wo (wo.alloc (.cells cur 3))) := Lib.hid (below_one _ _)
      generalize wo.alloc (.cells cur 3) = w0 at *
      clear hmk hlt
      go_loopw [6, 24] (fun v i wk => ∃ k : Nat, k ≤ n ∧ i = .int .i64 k ∧ Hid (wk.ownsRow wo.heap.size 3 1 v (tot (ps.take k)) (pcs (ps.take k))) ∧ Hid (Below wo.heap.size wo wk)) (fun _ i _ => n - (intOf i).toNat)
      case atStart => exact ⟨0, Nat.zero_le _, rfl, O0, B0⟩
      case round =>
        obtain ⟨k, hk, rfl, O1, B1⟩ := hrel
        by_cases hlt : k < n
        · obtain ⟨b, off, p, rfl, hv, c0, hp1, hp2⟩ := (HP.out.kept B1.out).at_ (k := k) (by rw [HL.out]; exact hlt)
          have hle := tot_le ps (k + 1)
          rw [tot_take hv, HT.out] at hle
          have HV := Lib.hid (tot_take hv)
          have HV2 := Lib.hid (pcs_take hv)
          have HP1 := Lib.hid hp1
          have HP2 := Lib.hid hp2
          clear hv hp1 hp2
          have bs := B1.out.size
          have o1 := O1.out
          generalize tot (ps.take k) = t at *
          go_wp2_with (at_builtin; refine wpList_append_lay _ rfl (.tmp 28) (.tmp 29) 23 rfl wo.heap.size 3 i0 (.int .i64 0) 1 8 Try.underlying23 hi hz0 hz1 hz2 rfl (by decide) _ _ _ rfl o1 p.A p.n p.c p.cs rfl HP1.out.len HP1.out.lies HP2.out (by unfold maxLen; omega) (by omega) bs ?_; intro v3 w3 hown3 hg3)
          have O3 : Hid (w3.ownsRow wo.heap.size 3 1 v3 (tot (ps.take (k + 1))) (pcs (ps.take (k + 1)))) := by
            rw [HV.out, HV2.out]
            exact Lib.hid hown3
          have B3 : Hid (Below wo.heap.size wo w3) := Lib.hid (B1.out.grown hg3 bs (fun g hg => (o1.lt g hg).1))
          clear hown3 hg3 o1 O1 B1 HV HV2 HP1 HP2
          go_roundw
          case rel => exact ⟨k + 1, by omega, by go_num, O3, B3⟩
          case measure => simp [intOf]; omega
        · obtain rfl : n = k := by omega
          have e1 : tot (ps.take n) = N := by rw [List.take_of_length_le (by rw [HL.out]; omega), HT.out]
          have e2 : ps.take n = ps := List.take_of_length_le (by rw [HL.out]; omega)
          rw [e1, e2] at O1
          go_wp2_with fail
          go_ret
          exact ⟨_, rfl, O1.out, B1.out⟩
end Go.Proofs.Ytlldmefjhgahdaa

/-
  What joined comes to at lists of freed pages.
-/
namespace Go.Proofs.Ytlldmefjhgahdaa
open Go.RowKit

set_option maxRecDepth 20000 in
theorem FInfo0 : (Try.prog.info? 49).map (fun i => (i.zero, i.size, i.bytes)) = some (some (.agg #[.int .i64 0, .int .i64 0]), 2, 16) := by kernel_rfl

set_option maxRecDepth 20000 in
theorem make_F (N : Nat) (hN : N ≤ 1000000) : ∃ cur : Array Value, cur.size = N * 2 ∧ ∀ w : World, (Instr.makeSlice 24 (.int .i64 0) (.int .i64 (N : Int))).run Try.prog w = .ok (.slice (some ⟨w.heap.size, 0, none⟩) 0 N) (w.alloc (.cells cur 49)) := by
  obtain ⟨i0, hi, hz0, hz1, hz2⟩ := info_parts FInfo0
  refine ⟨madeCells (.agg #[.int .i64 0, .int .i64 0] : Value).cells (N * 2), by rw [size_madeCells], fun w => ?_⟩
  have := run_makeSlice (P := Try.prog) (w := w) 24 49 i0 _ Try.underlying24 hi hz0 .i64 .i64 0 (N : Int) (by omega) (by omega) (by rw [hz1]; simp; omega) (by rw [hz2]; omega) (by omega)
  rw [this, hz1]
  simp only [Int.toNat_natCast, Int.toNat_zero]

set_option maxRecDepth 20000 in
set_option maxHeartbeats 1600000 in
theorem join_F (A : Option Addr) (n c N : Nat) (ps : List Pc) (w : World) (hp : Pile w 2 A ps) (hn : ps.length = n) (hN : tot ps = N) (hb : N ≤ 1000000) (hm : n ≤ 1000000) :
    Calls Try.prog 30 #[.slice A n c] w (JoinEnd w 49 2 N (pcs ps)) := by
  obtain ⟨i0, hi, hz0, hz1, hz2⟩ := info_parts FInfo0
  obtain ⟨cur, hcs, hmk⟩ := make_F N hb
  have HP := Lib.hid hp
  have HL := Lib.hid hn
  have HT := Lib.hid hN
  have HC := Lib.hid hcs
  clear hp hn hN hcs
  go_enter Try.func30, Try.ntmps30
  go_wp2_with fail
  obtain ⟨wo, rfl⟩ : ∃ wo : World, wo = w := ⟨_, rfl⟩
  go_loopw [3, 11] (fun s i wr => ∃ k : Nat, k ≤ n ∧ i = .int .i64 k ∧ s = .int .i64 (tot (ps.take k) : Nat) ∧ wr = wo) (fun _ i _ => n - (intOf i).toNat)
  case atStart => exact ⟨0, Nat.zero_le _, rfl, rfl, rfl⟩
  case round =>
    obtain ⟨k, hk, rfl, rfl, hw⟩ := hrel
    have hw' := hw.symm
    subst hw'
    clear hw
    by_cases hlt : k < n
    · obtain ⟨b, off, p, rfl, hv, c0, _, _⟩ := HP.out.at_ (k := k) (by rw [HL.out]; exact hlt)
      have hle := tot_le ps (k + 1)
      rw [tot_take hv, HT.out] at hle
      have HV := Lib.hid (tot_take hv)
      clear hv
      generalize tot (ps.take k) = t at *
      go_wp2_with fail
      go_roundw
      case rel =>
        refine ⟨k + 1, by omega, by go_num, ?_, trivial⟩
        rw [HV.out]
        go_num
      case measure => simp [intOf]; omega
    · obtain rfl : n = k := by omega
      have e1 : tot (ps.take n) = N := by rw [List.take_of_length_le (by rw [HL.out]; omega), HT.out]
      rw [e1]
      clear e1
      go_wp2_with fail
      have O0 : Hid ((wo.alloc (.cells cur 49)).ownsRow wo.heap.size 49 2 (.slice (some ⟨wo.heap.size, 0, none⟩) 0 N) 0 []) := Lib.hid (World.ownsRow_made wo cur N (Nat.le_refl _) (by unfold maxLen; omega) HC.out)
      have B0 : Hid (Below wo.heap.size wo (wo.alloc (.cells cur 49))) := Lib.hid (below_one _ _)
      generalize wo.alloc (.cells cur 49) = w0 at *
      clear hmk hlt
      go_loopw [6, 24] (fun v i wk => ∃ k : Nat, k ≤ n ∧ i = .int .i64 k ∧ Hid (wk.ownsRow wo.heap.size 49 2 v (tot (ps.take k)) (pcs (ps.take k))) ∧ Hid (Below wo.heap.size wo wk)) (fun _ i _ => n - (intOf i).toNat)
      case atStart => exact ⟨0, Nat.zero_le _, rfl, O0, B0⟩
      case round =>
        obtain ⟨k, hk, rfl, O1, B1⟩ := hrel
        by_cases hlt : k < n
        · obtain ⟨b, off, p, rfl, hv, c0, hp1, hp2⟩ := (HP.out.kept B1.out).at_ (k := k) (by rw [HL.out]; exact hlt)
          have hle := tot_le ps (k + 1)
          rw [tot_take hv, HT.out] at hle
          have HV := Lib.hid (tot_take hv)
          have HV2 := Lib.hid (pcs_take hv)
          have HP1 := Lib.hid hp1
          have HP2 := Lib.hid hp2
          clear hv hp1 hp2
          have bs := B1.out.size
          have o1 := O1.out
          generalize tot (ps.take k) = t at *
          go_wp2_with (at_builtin; refine wpList_append_lay _ rfl (.tmp 28) (.tmp 29) 24 rfl wo.heap.size 49 i0 (.agg #[.int .i64 0, .int .i64 0]) 2 16 Try.underlying24 hi hz0 hz1 hz2 rfl (by decide) _ _ _ rfl o1 p.A p.n p.c p.cs rfl HP1.out.len HP1.out.lies HP2.out (by unfold maxLen; omega) (by omega) bs ?_; intro v3 w3 hown3 hg3)
          have O3 : Hid (w3.ownsRow wo.heap.size 49 2 v3 (tot (ps.take (k + 1))) (pcs (ps.take (k + 1)))) := by
            rw [HV.out, HV2.out]
            exact Lib.hid hown3
          have B3 : Hid (Below wo.heap.size wo w3) := Lib.hid (B1.out.grown hg3 bs (fun g hg => (o1.lt g hg).1))
          clear hown3 hg3 o1 O1 B1 HV HV2 HP1 HP2
          go_roundw
          case rel => exact ⟨k + 1, by omega, by go_num, O3, B3⟩
          case measure => simp [intOf]; omega
        · obtain rfl : n = k := by omega
          have e1 : tot (ps.take n) = N := by rw [List.take_of_length_le (by rw [HL.out]; omega), HT.out]
          have e2 : ps.take n = ps := List.take_of_length_le (by rw [HL.out]; omega)
          rw [e1, e2] at O1
          go_wp2_with fail
          go_ret
          exact ⟨_, rfl, O1.out, B1.out⟩
end Go.Proofs.Ytlldmefjhgahdaa

/-
  What Take comes to.
-/
namespace Go.Proofs.Ytlldmefjhgahdaa
open Go.RowKit

theorem take_some {s : SS} {t z : Int} (hv : s.fr[0]? = some z) : s.take t = (0, z, { s with fr := s.fr.drop 1 }) := by
  unfold SS.take
  cases h : s.fr with
  | nil => rw [h] at hv; cases hv
  | cons y l =>
    rw [h] at hv
    obtain rfl := Option.some.inj hv
    rfl

set_option maxRecDepth 20000 in
set_option maxHeartbeats 3200000 in
theorem take_one (s : SS) (h t : Int) (A B : Option Addr) (n c m d : Nat) (w : World) (hh : s.hi = h) (hs : Sp w A n c B m d s) (hn : n ≤ 400000) (hm : m ≤ 400000) (hn0 : 0 < n) (hc1 : 1 < c) :
    Calls Try.prog 12 #[.agg #[.int .i64 h, .slice A n c, .slice B m d], .int .i64 t] w (TakeEnd w (s.take t)) := by
  obtain ⟨b, off, z, rfl, hv, hz⟩ := hs.fr.intAt hn0
  have HT := Lib.hid (take_some (t := t) hv)
  obtain ⟨tb1, tb2, tb3⟩ := two_boxes w (.int .i64 h) (.slice (some ⟨b, off, none⟩) n c) (.slice B m d) (.int .i64 0) (.slice none 0 0) (.slice none 0 0)
  have HS := Lib.hid (hs.kept tb3)
  have HB := Lib.hid tb1
  have HR := Lib.hid tb2
  have B0 := Lib.hid tb3
  have HH := Lib.hid hh
  have HZ := Lib.hid hz
  clear hs hh hv tb1 tb2 tb3 hz
  have hsz : ((w.alloc (.cells #[.int .i64 h, .slice (some ⟨b, off, none⟩) n c, .slice B m d] 26)).alloc (.cells #[.int .i64 0, .slice none 0 0, .slice none 0 0] 26)).heap.size = w.heap.size + 1 + 1 := by simp
  have P0 := pile_one HS.out.pe (prVals_one _) 24
  rw [hsz] at P0
  have HP0 := Lib.hid P0
  clear P0 hsz
  go_enter Try.func12, Try.ntmps12
  go_wp2_with fail
  generalize (w.alloc (.cells #[.int .i64 h, .slice (some ⟨b, off, none⟩) n c, .slice B m d] 26)).alloc (.cells #[.int .i64 0, .slice none 0 0, .slice none 0 0] 26) = w0 at *
  refine (join_F _ 1 1 m _ _ HP0.out rfl (by simp [tot]) (by omega) (by decide)).mono ?_
  rintro e w1 ⟨v1, rfl, o1, b1⟩
  rw [pcs_one] at o1
  have b01 : Below w0.heap.size w0 w1 := (below_one w0 (.cells #[.slice B m d] 24)).trans (b1.mono (below_one w0 (.cells #[.slice B m d] 24)).size)
  obtain ⟨B1, d1, rfl, hd1, l1⟩ := Ln.of_own o1
  have HI1 : Hid (Hi (w.heap.size + 1 + 1) B1) := Lib.hid ((Hi.of_own o1).low (by have := HR.out.lt; have := (below_one w0 (.cells #[.slice B m d] 24)).size; omega))
  have L1 := Lib.hid l1
  have B1' := Lib.hid b01
  have HB1 := Lib.hid (HB.out.kept b01)
  have HR1 := Lib.hid (HR.out.kept b01)
  clear b1 o1 l1 b01 HP0
  obtain ⟨a0, a1, a2⟩ := HB1.out.cells
  have n0 : (0 : Int) < (n : Int) := by omega
  have n1 : (1 : Int) ≤ (n : Int) := by omega
  have n2 : (n : Int) ≤ (c : Int) := by have := HS.out.fr.le; omega
  have n3 : (1 : Int) < (c : Int) := by omega
  have n4 : ¬ c = 1 := by omega
  have n5 : (1 : Int) ≤ (c : Int) := by omega
  have hbz : b < w.heap.size := World.block_lt_of_cell? _ _ HZ.out
  have HZ1 : Hid (w1.drew.cell? ⟨b, off, none⟩ = some (.int .i64 z)) := Lib.hid (((B0.out.trans (B1'.out.mono B0.out.size)).cell (p := ⟨b, off, none⟩) hbz).trans HZ.out)
  have hb1 : b < w1.heap.size := World.block_lt_of_cell? _ _ HZ1.out
  have K0 : w1.drew.cell? ⟨w.heap.size, 0, none⟩ = some (.int .i64 h) ∧ w1.drew.cell? ⟨w.heap.size, 1, none⟩ = some (.slice (some ⟨b, off, none⟩) n c) ∧ w1.drew.cell? ⟨b, off, none⟩ = some (.int .i64 z) := ⟨HB1.out.cells.1, HB1.out.cells.2.1, HZ1.out⟩
  have BA := Lib.hid ((below_one w1 (.cells #[.slice (some ⟨b, off + 1, none⟩) (n - 1) (c - 1)] 23)).drew)
  have PL := Lib.hid (pile_one (w := w1) (((HS.out.fr.kept B1'.out)).intDrop (k := 1) (by omega)) (intVals_one _) 23)
  have PL2 := Lib.hid (PL.out.kept ((Below.refl _ _).drew))
  have K1 : ((w1.alloc (.cells #[.slice (some ⟨b, off + 1, none⟩) (n - 1) (c - 1)] 23)).drew).cell? ⟨w.heap.size, 0, none⟩ = some (.int .i64 h) ∧ ((w1.alloc (.cells #[.slice (some ⟨b, off + 1, none⟩) (n - 1) (c - 1)] 23)).drew).cell? ⟨w.heap.size, 1, none⟩ = some (.slice (some ⟨b, off, none⟩) n c) ∧ ((w1.alloc (.cells #[.slice (some ⟨b, off + 1, none⟩) (n - 1) (c - 1)] 23)).drew).cell? ⟨b, off, none⟩ = some (.int .i64 z) :=
    ⟨(HB1.out.kept BA.out).cells.1, (HB1.out.kept BA.out).cells.2.1, (BA.out.cell (p := ⟨b, off, none⟩) hb1).trans HZ1.out⟩
  clear a0 a1 a2
  obtain ⟨x0, x1, x2⟩ := K0
  have K0 : w1.drew.cell? ⟨w.heap.size, 0, none⟩ = some (.int .i64 h) ∧ w1.drew.cell? ⟨w.heap.size, 1, none⟩ = some (.slice (some ⟨b, off, none⟩) n c) ∧ w1.drew.cell? ⟨b, off, none⟩ = some (.int .i64 z) := ⟨HB1.out.cells.1, HB1.out.cells.2.1, HZ1.out⟩
  obtain ⟨y0, y1, y2⟩ := HB1.out.cells
  go_wp2_with fail
  clear y0 y1 y2
  go_region_held3 (fun w' => w'.cell? ⟨w.heap.size, 0, none⟩ = some (.int .i64 h) ∧ w'.cell? ⟨w.heap.size, 1, none⟩ = some (.slice (some ⟨b, off, none⟩) n c) ∧ w'.cell? ⟨b, off, none⟩ = some (.int .i64 z))
    (first | exact K3 | exact K2 | exact K1 | exact K0)
    (first
      | (go_at_call 31; refine (join_I _ 1 1 (n - 1) _ _ PL2.out rfl (by simp [tot]) (by omega) (by decide)).mono ?_; rintro e w2 ⟨v2, rfl, o2, b2⟩; have HB2 := Lib.hid ((HB1.out.kept BA.out).kept b2); have HR2 := Lib.hid ((HR1.out.kept BA.out).kept b2); have K2 : w2.cell? ⟨w.heap.size, 0, none⟩ = some (.int .i64 h) ∧ w2.cell? ⟨w.heap.size, 1, none⟩ = some (.slice (some ⟨b, off, none⟩) n c) ∧ w2.cell? ⟨b, off, none⟩ = some (.int .i64 z) := ⟨HB2.out.cells.1, HB2.out.cells.2.1, (b2.cell (p := ⟨b, off, none⟩) (Nat.lt_of_lt_of_le hb1 BA.out.size)).trans K1.2.2⟩; obtain ⟨q0, q1, q2⟩ := HR2.out.cells; obtain ⟨f0, f1, f2⟩ := HR2.out.free; obtain ⟨A2, c2, rfl, hc2, l2⟩ := Ln.of_own o2; have PU := But.put w2 (w.heap.size + 1) (.int .i64 h) (.slice A2 (n - 1) c2) (.slice B1 m d1); have K3 := (show _ ∧ _ ∧ _ from ⟨(PU.cell (k := w.heap.size) (by omega) 0).trans K2.1, (PU.cell (k := w.heap.size) (by omega) 1).trans K2.2.1, (PU.cell (k := b) (by omega) off).trans K2.2.2⟩)))
  have HI2 : Hid (Hi (w.heap.size + 1 + 1) A2) := Lib.hid ((Hi.of_own o2).low (by have := HR1.out.lt; have := BA.out.size; omega))
  have B2 := Lib.hid (B0.out.trans (((B1'.out.trans (BA.out.mono B1'.out.size)).trans (b2.mono (Nat.le_trans B1'.out.size BA.out.size))).mono B0.out.size))
  rw [pcs_one] at l2
  have HSp : Hid (Sp w2 A2 (n - 1) c2 B1 m d1 { s with fr := s.fr.drop 1 }) := Lib.hid ⟨l2, (L1.out.kept BA.out).kept b2⟩
  have HD := Lib.hid (put_done (h := h) B2.out (Nat.le_succ _) HSp.out HI2.out HI1.out HH.out (.int .i64 h) (.slice A2 (n - 1) c2) (.slice B1 m d1))
  have HQ := Lib.hid (HR2.out.put (.int .i64 h) (.slice A2 (n - 1) c2) (.slice B1 m d1))
  obtain ⟨e0, e1, e2⟩ := HQ.out.cells
  go_wp2_with fail
  refine bodyPost_ret (v := .tuple #[.agg #[.int .i64 h, .slice A2 (n - 1) c2, .slice B1 m d1], .int .i64 z, .int .i64 0]) (by simp [results, Try.results12, go_sem, e0, e1, e2]) rfl ?_
  rw [HT.out]
  exact ⟨_, rfl, HD.out.1, HD.out.2⟩
set_option maxRecDepth 20000 in
set_option maxHeartbeats 3200000 in
theorem take_last (s : SS) (h t : Int) (A B : Option Addr) (m d : Nat) (w : World) (hh : s.hi = h) (hs : Sp w A 1 1 B m d s) (hm : m ≤ 400000) :
    Calls Try.prog 12 #[.agg #[.int .i64 h, .slice A 1 1, .slice B m d], .int .i64 t] w (TakeEnd w (s.take t)) := by
  obtain ⟨b, off, z, rfl, hv, hz⟩ := hs.fr.intAt (k := 0) (by omega)
  have HT := Lib.hid (take_some (t := t) hv)
  obtain ⟨tb1, tb2, tb3⟩ := two_boxes w (.int .i64 h) (.slice (some ⟨b, off, none⟩) 1 1) (.slice B m d) (.int .i64 0) (.slice none 0 0) (.slice none 0 0)
  have HS := Lib.hid (hs.kept tb3)
  have HB := Lib.hid tb1
  have HR := Lib.hid tb2
  have B0 := Lib.hid tb3
  have HH := Lib.hid hh
  have HZ := Lib.hid hz
  clear hs hh hv tb1 tb2 tb3 hz
  have hsz : ((w.alloc (.cells #[.int .i64 h, .slice (some ⟨b, off, none⟩) 1 1, .slice B m d] 26)).alloc (.cells #[.int .i64 0, .slice none 0 0, .slice none 0 0] 26)).heap.size = w.heap.size + 1 + 1 := by simp
  have P0 := pile_one HS.out.pe (prVals_one _) 24
  rw [hsz] at P0
  have HP0 := Lib.hid P0
  clear P0 hsz
  go_enter Try.func12, Try.ntmps12
  go_wp2_with fail
  generalize (w.alloc (.cells #[.int .i64 h, .slice (some ⟨b, off, none⟩) 1 1, .slice B m d] 26)).alloc (.cells #[.int .i64 0, .slice none 0 0, .slice none 0 0] 26) = w0 at *
  refine (join_F _ 1 1 m _ _ HP0.out rfl (by simp [tot]) (by omega) (by decide)).mono ?_
  rintro e w1 ⟨v1, rfl, o1, b1⟩
  rw [pcs_one] at o1
  have b01 : Below w0.heap.size w0 w1 := (below_one w0 (.cells #[.slice B m d] 24)).trans (b1.mono (below_one w0 (.cells #[.slice B m d] 24)).size)
  obtain ⟨B1, d1, rfl, hd1, l1⟩ := Ln.of_own o1
  have HI1 : Hid (Hi (w.heap.size + 1 + 1) B1) := Lib.hid ((Hi.of_own o1).low (by have := HR.out.lt; have := (below_one w0 (.cells #[.slice B m d] 24)).size; omega))
  have L1 := Lib.hid l1
  have B1' := Lib.hid b01
  have HB1 := Lib.hid (HB.out.kept b01)
  have HR1 := Lib.hid (HR.out.kept b01)
  clear b1 o1 l1 b01 HP0
  obtain ⟨a0, a1, a2⟩ := HB1.out.cells
  have hbz : b < w.heap.size := World.block_lt_of_cell? _ _ HZ.out
  have HZ1 : Hid (w1.drew.cell? ⟨b, off, none⟩ = some (.int .i64 z)) := Lib.hid (((B0.out.trans (B1'.out.mono B0.out.size)).cell (p := ⟨b, off, none⟩) hbz).trans HZ.out)
  have hb1 : b < w1.heap.size := World.block_lt_of_cell? _ _ HZ1.out
  have K0 : w1.drew.cell? ⟨w.heap.size, 0, none⟩ = some (.int .i64 h) ∧ w1.drew.cell? ⟨w.heap.size, 1, none⟩ = some (.slice (some ⟨b, off, none⟩) 1 1) ∧ w1.drew.cell? ⟨b, off, none⟩ = some (.int .i64 z) := ⟨HB1.out.cells.1, HB1.out.cells.2.1, HZ1.out⟩
  have BA := Lib.hid ((below_one w1 (.cells #[.slice (some ⟨b, off, none⟩) 0 0] 23)).drew)
  have PL := Lib.hid (pile_one (w := w1) (by have := HS.out.fr.intN; rw [List.drop_of_length_le (by omega)]; exact Ln.empty _ _ _ _ : Ln w1 1 (some ⟨b, off, none⟩) 0 0 (intVals (s.fr.drop 1))) (intVals_one _) 23)
  have PL2 := Lib.hid (PL.out.kept ((Below.refl _ _).drew))
  have K1 : ((w1.alloc (.cells #[.slice (some ⟨b, off, none⟩) 0 0] 23)).drew).cell? ⟨w.heap.size, 0, none⟩ = some (.int .i64 h) ∧ ((w1.alloc (.cells #[.slice (some ⟨b, off, none⟩) 0 0] 23)).drew).cell? ⟨w.heap.size, 1, none⟩ = some (.slice (some ⟨b, off, none⟩) 1 1) ∧ ((w1.alloc (.cells #[.slice (some ⟨b, off, none⟩) 0 0] 23)).drew).cell? ⟨b, off, none⟩ = some (.int .i64 z) :=
    ⟨(HB1.out.kept BA.out).cells.1, (HB1.out.kept BA.out).cells.2.1, (BA.out.cell (p := ⟨b, off, none⟩) hb1).trans HZ1.out⟩
  clear a0 a1 a2
  obtain ⟨x0, x1, x2⟩ := K0
  have K0 : w1.drew.cell? ⟨w.heap.size, 0, none⟩ = some (.int .i64 h) ∧ w1.drew.cell? ⟨w.heap.size, 1, none⟩ = some (.slice (some ⟨b, off, none⟩) 1 1) ∧ w1.drew.cell? ⟨b, off, none⟩ = some (.int .i64 z) := ⟨HB1.out.cells.1, HB1.out.cells.2.1, HZ1.out⟩
  obtain ⟨y0, y1, y2⟩ := HB1.out.cells
  go_wp2_with fail
  clear y0 y1 y2
  go_region_held3 (fun w' => w'.cell? ⟨w.heap.size, 0, none⟩ = some (.int .i64 h) ∧ w'.cell? ⟨w.heap.size, 1, none⟩ = some (.slice (some ⟨b, off, none⟩) 1 1) ∧ w'.cell? ⟨b, off, none⟩ = some (.int .i64 z))
    (first | exact K3 | exact K2 | exact K1 | exact K0)
    (first
      | (go_at_call 31; refine (join_I _ 1 1 0 _ _ PL2.out rfl (by simp [tot]) (by omega) (by decide)).mono ?_; rintro e w2 ⟨v2, rfl, o2, b2⟩; have HB2 := Lib.hid ((HB1.out.kept BA.out).kept b2); have HR2 := Lib.hid ((HR1.out.kept BA.out).kept b2); have K2 : w2.cell? ⟨w.heap.size, 0, none⟩ = some (.int .i64 h) ∧ w2.cell? ⟨w.heap.size, 1, none⟩ = some (.slice (some ⟨b, off, none⟩) 1 1) ∧ w2.cell? ⟨b, off, none⟩ = some (.int .i64 z) := ⟨HB2.out.cells.1, HB2.out.cells.2.1, (b2.cell (p := ⟨b, off, none⟩) (Nat.lt_of_lt_of_le hb1 BA.out.size)).trans K1.2.2⟩; obtain ⟨q0, q1, q2⟩ := HR2.out.cells; obtain ⟨f0, f1, f2⟩ := HR2.out.free; obtain ⟨A2, c2, rfl, hc2, l2⟩ := Ln.of_own o2; have PU := But.put w2 (w.heap.size + 1) (.int .i64 h) (.slice A2 0 c2) (.slice B1 m d1); have K3 := (show _ ∧ _ ∧ _ from ⟨(PU.cell (k := w.heap.size) (by omega) 0).trans K2.1, (PU.cell (k := w.heap.size) (by omega) 1).trans K2.2.1, (PU.cell (k := b) (by omega) off).trans K2.2.2⟩)))
  have HI2 : Hid (Hi (w.heap.size + 1 + 1) A2) := Lib.hid ((Hi.of_own o2).low (by have := HR1.out.lt; have := BA.out.size; omega))
  have B2 := Lib.hid (B0.out.trans (((B1'.out.trans (BA.out.mono B1'.out.size)).trans (b2.mono (Nat.le_trans B1'.out.size BA.out.size))).mono B0.out.size))
  rw [pcs_one] at l2
  have HSp : Hid (Sp w2 A2 0 c2 B1 m d1 { s with fr := s.fr.drop 1 }) := Lib.hid ⟨l2, (L1.out.kept BA.out).kept b2⟩
  have HD := Lib.hid (put_done (h := h) B2.out (Nat.le_succ _) HSp.out HI2.out HI1.out HH.out (.int .i64 h) (.slice A2 0 c2) (.slice B1 m d1))
  have HQ := Lib.hid (HR2.out.put (.int .i64 h) (.slice A2 0 c2) (.slice B1 m d1))
  obtain ⟨e0, e1, e2⟩ := HQ.out.cells
  go_wp2_with fail
  refine bodyPost_ret (v := .tuple #[.agg #[.int .i64 h, .slice A2 0 c2, .slice B1 m d1], .int .i64 z, .int .i64 0]) (by simp [results, Try.results12, go_sem, e0, e1, e2]) rfl ?_
  rw [HT.out]
  exact ⟨_, rfl, HD.out.1, HD.out.2⟩
theorem take_full {s : SS} {t : Int} (hl : s.fr.length = 0) (hv : ¬ s.hi < t) : s.take t = (81, 0, SS.none) := by
  unfold SS.take
  rw [List.eq_nil_of_length_eq_zero hl]
  simp only
  rw [if_neg hv]
theorem take_new {s : SS} {t : Int} (hl : s.fr.length = 0) (hv : s.hi < t) : s.take t = (0, s.hi, ⟨s.hi + 1, [], s.pe⟩) := by
  unfold SS.take
  rw [List.eq_nil_of_length_eq_zero hl]
  simp only
  rw [if_pos hv]

set_option maxRecDepth 20000 in
set_option maxHeartbeats 3200000 in
theorem take_none (s : SS) (h t : Int) (A B : Option Addr) (c m d : Nat) (w : World) (hh : s.hi = h) (hs : Sp w A 0 c B m d s) (hm : m ≤ 400000) (h1 : -9223372036854775808 ≤ h) (h2 : t ≤ 9223372036854775807) :
    Calls Try.prog 12 #[.agg #[.int .i64 h, .slice A 0 c, .slice B m d], .int .i64 t] w (TakeEnd w (s.take t)) := by
  obtain ⟨tb1, tb2, tb3⟩ := two_boxes w (.int .i64 h) (.slice A 0 c) (.slice B m d) (.int .i64 0) (.slice none 0 0) (.slice none 0 0)
  have HS := Lib.hid (hs.kept tb3)
  have HB := Lib.hid tb1
  have HR := Lib.hid tb2
  have B0 := Lib.hid tb3
  have HFL := Lib.hid hs.fl
  clear hs tb1 tb2 tb3
  have hsz : ((w.alloc (.cells #[.int .i64 h, .slice A 0 c, .slice B m d] 26)).alloc (.cells #[.int .i64 0, .slice none 0 0, .slice none 0 0] 26)).heap.size = w.heap.size + 1 + 1 := by simp
  have P0 := pile_one HS.out.pe (prVals_one _) 24
  rw [hsz] at P0
  have HP0 := Lib.hid P0
  have HH := Lib.hid hh
  clear P0 hsz hh
  go_enter Try.func12, Try.ntmps12
  go_wp2_with fail
  generalize (w.alloc (.cells #[.int .i64 h, .slice A 0 c, .slice B m d] 26)).alloc (.cells #[.int .i64 0, .slice none 0 0, .slice none 0 0] 26) = w0 at *
  refine (join_F _ 1 1 m _ _ HP0.out rfl (by simp [tot]) (by omega) (by decide)).mono ?_
  rintro e w1 ⟨v1, rfl, o1, b1⟩
  rw [pcs_one] at o1
  have b01 : Below w0.heap.size w0 w1 := (below_one w0 (.cells #[.slice B m d] 24)).trans (b1.mono (below_one w0 (.cells #[.slice B m d] 24)).size)
  obtain ⟨B1, d1, rfl, hd1, l1⟩ := Ln.of_own o1
  have HI1 : Hid (Hi (w.heap.size + 1 + 1) B1) := Lib.hid ((Hi.of_own o1).low (by have := HR.out.lt; have := (below_one w0 (.cells #[.slice B m d] 24)).size; omega))
  have L1 := Lib.hid l1
  have B2 := Lib.hid (B0.out.trans (b01.mono B0.out.size))
  have HB1 := Lib.hid (HB.out.kept b01)
  have HR1 := Lib.hid (HR.out.kept b01)
  clear b1 o1 l1 b01 HP0
  obtain ⟨y0, y1, y2⟩ := HB1.out.cells
  obtain ⟨q0, q1, q2⟩ := HR1.out.cells
  obtain ⟨f0, f1, f2⟩ := HR1.out.free
  by_cases hlt : h < t
  · have i1 : IntKind.i64.wrap (h + 1) = h + 1 := IntWalk.i64_in _ (by omega)
    have HT := Lib.hid (take_new (s := s) (t := t) HFL.out (by rw [HH.out]; exact hlt))
    have K0 : w1.drew.cell? ⟨w.heap.size, 0, none⟩ = some (.int .i64 h) := y0
    have PU := But.put w1 (w.heap.size + 1) (.int .i64 (h + 1)) (.slice none 0 0) (.slice B1 m d1)
    have K1 := (PU.cell (k := w.heap.size) (by omega) 0).trans y0
    clear PU
    go_wp2_with fail
    go_region_held3 (fun w' => w'.cell? ⟨w.heap.size, 0, none⟩ = some (.int .i64 h)) (first | exact K1 | exact K0) (fail)
    have HSp : Hid (Sp w1 none 0 0 B1 m d1 ⟨s.hi + 1, [], s.pe⟩) := Lib.hid ⟨Ln.none_ _ _, L1.out⟩
    have HD := Lib.hid (put_done (h := h + 1) B2.out (Nat.le_succ _) HSp.out (Hi.none_ _) HI1.out (by rw [HH.out]) (.int .i64 (h + 1)) (.slice none 0 0) (.slice B1 m d1))
    have HQ := Lib.hid (HR1.out.put (.int .i64 (h + 1)) (.slice none 0 0) (.slice B1 m d1))
    obtain ⟨e0, e1, e2⟩ := HQ.out.cells
    go_wp2_with fail
    refine bodyPost_ret (v := .tuple #[.agg #[.int .i64 (h + 1), .slice none 0 0, .slice B1 m d1], .int .i64 h, .int .i64 0]) (by simp [results, Try.results12, go_sem, e0, e1, e2]) rfl ?_
    rw [HT.out]
    exact ⟨_, by rw [HH.out], HD.out.1.kept ((Below.refl _ _).drew), HD.out.2.drew⟩
  · have HT := Lib.hid (take_full (s := s) (t := t) HFL.out (by rw [HH.out]; exact hlt))
    have HD := Lib.hid (put_done (h := 0) B2.out (Nat.le_succ _) (Sp.zero w1) (Hi.none_ _) (Hi.none_ _) rfl (.int .i64 0) (.slice none 0 0) (.slice none 0 0))
    have HQ := Lib.hid (HR1.out.put (.int .i64 0) (.slice none 0 0) (.slice none 0 0))
    obtain ⟨e0, e1, e2⟩ := HQ.out.cells
    go_wp2_with fail
    refine bodyPost_ret (v := .tuple #[.agg #[.int .i64 0, .slice none 0 0, .slice none 0 0], .int .i64 0, .int .i64 81]) (by simp [results, Try.results12, go_sem, e0, e1, e2]) rfl ?_
    rw [HT.out]
    exact ⟨_, rfl, HD.out.1, HD.out.2⟩

set_option maxRecDepth 20000 in
theorem take_any (s : SS) (h t : Int) (A B : Option Addr) (n c m d : Nat) (w : World) (hh : s.hi = h) (hs : Sp w A n c B m d s) (hn : n ≤ 400000) (hm : m ≤ 400000) (h1 : -9223372036854775808 ≤ h) (h2 : t ≤ 9223372036854775807) :
    Calls Try.prog 12 #[.agg #[.int .i64 h, .slice A n c, .slice B m d], .int .i64 t] w (TakeEnd w (s.take t)) := by
  have hc := hs.fr.le
  by_cases hn0 : n = 0
  · subst hn0
    exact take_none s h t A B c m d w hh hs hm h1 h2
  · by_cases hc1 : 1 < c
    · exact take_one s h t A B n c m d w hh hs hn hm (by omega) hc1
    · obtain rfl : c = 1 := by omega
      obtain rfl : n = 1 := by omega
      exact take_last s h t A B m d w hh hs hm
end Go.Proofs.Ytlldmefjhgahdaa

/-
  What pagesOf comes to.
-/
namespace Go.Proofs.Ytlldmefjhgahdaa
open Go.RowKit

theorem pg_take {ps : List (Int × Int)} {k : Nat} {x y : Int} (h : ps[k]? = some (x, y)) : intVals ((ps.take (k + 1)).map (·.2)) = intVals ((ps.take k).map (·.2)) ++ [.int .i64 y] := by
  rw [List.take_add_one, h, Option.toList_some, List.map_append, sIntVals_append]
  rfl

theorem cell_one_two (w : World) (o : Obj) (y : Value) (t : TypeId) : ∀ j u, [y][j]? = some u → ((w.alloc o).alloc (.cells #[y] t)).cell? ((⟨w.heap.size + 1, 0, none⟩ : Addr).add j) = some u := by
  have h := cell_one_new (w.alloc o) y t
  rw [show (w.alloc o).heap.size = w.heap.size + 1 by simp] at h
  exact h

set_option maxRecDepth 20000 in
set_option maxHeartbeats 1600000 in
theorem pagesOf_any (A : Option Addr) (n c : Nat) (ps : List (Int × Int)) (w : World) (hp : Ln w 2 A n c (prVals ps)) (hn : n ≤ 1000000) :
    Calls Try.prog 38 #[.slice A n c] w (JoinEnd w 3 1 n (intVals (ps.map (·.2)))) := by
  obtain ⟨i0, hi, hz0, hz1, hz2⟩ := info_parts intInfo
  have HP := Lib.hid hp
  have HN := Lib.hid hp.prN
  clear hp
  go_enter Try.func38, Try.ntmps38
  go_wp2_with fail
  go_loopw [3, 8] (fun v i wk => ∃ k : Nat, k ≤ n ∧ i = .int .i64 k ∧ Hid (wk.ownsRow w.heap.size 3 1 v k (intVals ((ps.take k).map (·.2)))) ∧ Hid (Below w.heap.size w wk)) (fun _ i _ => n - (intOf i).toNat)
  case atStart => exact ⟨0, Nat.zero_le _, rfl, Lib.hid (World.ownsRow_nil _ _ _ _), Lib.hid (Below.refl _ _)⟩
  case round =>
    obtain ⟨k, hk, rfl, O1, B1⟩ := hrel
    by_cases hlt : k < n
    · obtain ⟨b, off, x, y, rfl, hv, c0, c1⟩ := (HP.out.kept B1.out).prAt hlt
      have HV := Lib.hid (pg_take hv)
      have bs := B1.out.size
      have o1 := O1.out
      clear hv
      go_wp2_with (at_builtin; refine wpList_append_own _ rfl (.tmp 12) (.tmp 15) 23 rfl w.heap.size 3 i0 (.int .i64 0) 1 8 Try.underlying23 hi hz0 hz1 hz2 rfl (by decide) _ _ _ rfl ((o1.alloc _).alloc _) ⟨wr.heap.size + 1, 0, none⟩ 1 1 [.int .i64 y] rfl rfl (cell_one_two _ _ _ _) (by simp [Value.oneCell']) (by unfold maxLen; omega) (by omega) (by simp; omega) ?_; intro v3 w3 hown3 hg3 _)
      have O3 : Hid (w3.ownsRow w.heap.size 3 1 v3 (k + 1) (intVals ((ps.take (k + 1)).map (·.2)))) := by
        rw [HV.out]
        exact Lib.hid hown3
      have B3 : Hid (Below w.heap.size w w3) := Lib.hid (((B1.out.alloc bs _).alloc (by simp; omega) _).grown hg3 (by simp; omega) (fun g hg => (o1.lt g hg).1))
      clear hown3 hg3 o1 O1 B1 HV
      go_roundw
      case rel => exact ⟨k + 1, by omega, by go_num, O3, B3⟩
      case measure => simp [intOf]; omega
    · obtain rfl : n = k := by omega
      have e2 : ps.take n = ps := List.take_of_length_le (by rw [HN.out]; omega)
      rw [e2] at O1
      go_wp2_with fail
      go_ret
      exact ⟨_, rfl, O1.out, B1.out⟩
end Go.Proofs.Ytlldmefjhgahdaa

/-
  Pages at their places: where a page goes, many at once in their order, and the lists that may be told by their parts. Nothing here names the program.
-/
namespace Go.Proofs.Ytlldmefjhgahdaa.SS

/-- Where a page goes. -/
def place (p : Int) (l : List Int) : Nat := (l.takeWhile (fun x => decide (x < p))).length
theorem place_cons (p x : Int) (l : List Int) : place p (x :: l) = if x < p then place p l + 1 else 0 := by
  unfold place
  rw [List.takeWhile_cons]
  by_cases h : x < p
  · simp [h]
  · simp [h]
theorem place_le (p : Int) : ∀ l : List Int, place p l ≤ l.length
  | [] => Nat.zero_le _
  | x :: l => by
    rw [place_cons, List.length_cons]
    have := place_le p l
    split <;> omega
theorem ins_place (p : Int) : ∀ l : List Int, ins p l = l.take (place p l) ++ p :: l.drop (place p l)
  | [] => rfl
  | x :: l => by
    rw [place_cons]
    unfold ins
    split
    · rw [ins_place p l]
      rfl
    · rfl
theorem place_lt (p : Int) : ∀ (l : List Int), ∀ x ∈ l.take (place p l), x < p
  | [], x, h => by simp at h
  | y :: l, x, h => by
    rw [place_cons] at h
    split at h
    · rename_i hy
      rw [List.take_succ_cons] at h
      rcases List.mem_cons.1 h with rfl | h
      · exact hy
      · exact place_lt p l x h
    · simp at h
/-- Before the place all are less, and what stands there is not. -/
theorem place_at {p : Int} {l : List Int} {k : Nat} (h1 : ∀ j z, j < k → l[j]? = some z → z < p) (h2 : ∀ z, l[k]? = some z → ¬ z < p) (hk : k ≤ l.length) : place p l = k := by
  induction l generalizing k with
  | nil =>
    obtain rfl : k = 0 := by simpa using hk
    rfl
  | cons x l ih =>
    rw [place_cons]
    match k with
    | 0 =>
      rw [if_neg (h2 x rfl)]
    | k + 1 =>
      rw [if_pos (h1 0 x (by omega) rfl), ih (k := k) (fun j z hj hz => h1 (j + 1) z (by omega) (by simpa using hz)) (fun z hz => h2 z (by simpa using hz)) (by simpa using hk)]

theorem ins_append {p : Int} : ∀ (x y : List Int), (∀ z ∈ x, z < p) → ins p (x ++ y) = x ++ ins p y
  | [], y, _ => rfl
  | a :: x, y, h => by
    rw [List.cons_append]
    conv => lhs; unfold ins
    rw [if_pos (h a (by simp)), ins_append x y (fun z hz => h z (by simp [hz])), List.cons_append]

theorem ins_comm (p q : Int) : ∀ l : List Int, ins p (ins q l) = ins q (ins p l)
  | [] => by
    simp only [ins]
    by_cases h1 : q < p
    · rw [if_pos h1, if_neg (by omega)]
    · by_cases h2 : p < q
      · rw [if_neg h1, if_pos h2]
      · obtain rfl : p = q := by omega
        rfl
  | x :: l => by
    have ih := ins_comm p q l
    simp only [ins]
    by_cases h1 : x < q <;> by_cases h2 : x < p
    · rw [if_pos h1, if_pos h2]
      simp only [ins]
      rw [if_pos h2, if_pos h1, ih]
    · rw [if_pos h1, if_neg h2]
      simp only [ins]
      rw [if_neg h2, if_pos (by omega), if_pos h1]
    · rw [if_neg h1, if_pos h2]
      simp only [ins]
      rw [if_pos (by omega), if_pos h2, if_neg h1]
    · rw [if_neg h1, if_neg h2]
      simp only [ins]
      by_cases h3 : q < p
      · rw [if_pos h3, if_neg h2, if_neg (by omega)]
      · by_cases h4 : p < q
        · rw [if_neg h3, if_pos h4, if_neg h1]
        · obtain rfl : p = q := by omega
          rfl

/-- Pages that go in, one behind another one. -/
def insL : List Int → List Int → List Int
  | [], f => f
  | p :: l, f => ins p (insL l f)
theorem insL_ins (p : Int) : ∀ (l f : List Int), insL l (ins p f) = ins p (insL l f)
  | [], f => rfl
  | q :: l, f => by
    unfold insL
    rw [insL_ins p l f, ins_comm]
theorem insAll_insL : ∀ (l : List (Int × Int)) (f : List Int), insAll l f = insL (l.map (·.2)) f
  | [], f => rfl
  | x :: l, f => by
    unfold insAll
    rw [insAll_insL l, List.map_cons, insL_ins]
    rfl
theorem insL_perm {l m : List Int} (h : l.Perm m) : ∀ f, insL l f = insL m f := by
  induction h with
  | nil => exact fun f => rfl
  | cons x _ ih =>
    intro f
    unfold insL
    rw [ih]
  | swap x y l =>
    intro f
    unfold insL
    unfold insL
    exact ins_comm _ _ _
  | trans _ _ h1 h2 => exact fun f => (h1 f).trans (h2 f)

theorem insL_append {p : Int} : ∀ (ps x y : List Int), (∀ q ∈ ps, p ≤ q) → (∀ z ∈ x, z < p) → insL ps (x ++ y) = x ++ insL ps y
  | [], x, y, _, _ => rfl
  | q :: ps, x, y, h1, h2 => by
    unfold insL
    rw [insL_append ps x y (fun r hr => h1 r (by simp [hr])) h2]
    exact ins_append _ _ (fun z hz => by
      have := h2 z hz
      have := h1 q (by simp)
      omega)
/-- None of them is ahead of a page that is not greater. -/
def From (p : Int) (l : List Int) : Prop := ∀ z, l[0]? = some z → p ≤ z
theorem From.ins {p q : Int} {l : List Int} (h : From p l) (hq : p ≤ q) : From p (ins q l) := by
  match l with
  | [] =>
    intro z hz
    simp [SS.ins] at hz
    omega
  | x :: l =>
    intro z hz
    have := h x rfl
    unfold SS.ins at hz
    split at hz
    · simp at hz
      omega
    · simp at hz
      omega
theorem From.insL {p : Int} {f : List Int} (h : From p f) : ∀ (ps : List Int), (∀ q ∈ ps, p ≤ q) → From p (insL ps f)
  | [], _ => h
  | q :: ps, hq => (From.insL h ps (fun r hr => hq r (by simp [hr]))).ins (hq q (by simp))
theorem From.head {p : Int} {l : List Int} (h : From p l) : SS.ins p l = p :: l := by
  match l with
  | [] => rfl
  | x :: l =>
    have := h x rfl
    unfold SS.ins
    rw [if_neg (by omega)]
theorem from_drop (p : Int) : ∀ l : List Int, From p (l.drop (place p l))
  | [] => fun z hz => by simp at hz
  | x :: l => by
    rw [place_cons]
    split
    · rw [List.drop_succ_cons]
      exact from_drop p l
    · intro z hz
      simp at hz
      omega
/-- In their order each goes behind what was put ahead. -/
theorem insL_step {p : Int} {ps : List Int} (l : List Int) (h : ∀ q ∈ ps, p ≤ q) : insL (p :: ps) l = l.take (place p l) ++ p :: insL ps (l.drop (place p l)) := by
  show ins p (insL ps l) = _
  conv => lhs; rw [← List.take_append_drop (place p l) l, insL_append ps _ _ h (place_lt p l), ins_append _ _ (place_lt p l)]
  rw [((from_drop p l).insL ps h).head]

/-! ### Lists that may be, by their parts -/

def rises (l : List Int) : Bool := decide (l.Pairwise (· < ·))
def agesB (l : List (Int × Int)) : Bool := decide (l.Pairwise (fun x y => x.1 ≤ y.1)) && l.all (fun x => decide (0 ≤ x.1))
def pages (s : SS) : List Int := s.fr ++ s.pe.map (·.2)
def onceB (s : SS) : Bool := decide s.pages.Nodup && s.pages.all s.may

theorem check_parts (s : SS) (top : Int) : s.check top = if decide (s.hi < 2) || decide (s.hi > top) || !rises s.fr || !agesB s.pe || !onceB s then 80 else 0 := by
  unfold check
  by_cases h : Fine s top
  · rw [if_pos h]
    have h1 : rises s.fr = true := decide_eq_true h.up
    have h2 : agesB s.pe = true := by
      unfold agesB
      rw [Bool.and_eq_true]
      exact ⟨decide_eq_true h.ups, List.all_eq_true.2 (fun x hx => decide_eq_true (h.pos x hx))⟩
    have h3 : onceB s = true := by
      unfold onceB
      rw [Bool.and_eq_true]
      refine ⟨decide_eq_true (List.nodup_append.2 ⟨h.up.imp (fun h => by omega), h.once, fun a ha b hb => ?_⟩), List.all_eq_true.2 (fun x hx => ?_)⟩
      · obtain ⟨x, hx, rfl⟩ := List.mem_map.1 hb
        exact fun e => h.out x hx (by rw [← e]; exact ha)
      · refine decide_eq_true ?_
        rcases List.mem_append.1 hx with h1 | h1
        · exact h.inF x h1
        · obtain ⟨y, hy, rfl⟩ := List.mem_map.1 h1
          exact h.inP y hy
    have h4 := h.lo
    have h5 := h.hi
    rw [h1, h2, h3, decide_eq_false (by omega : ¬ s.hi < 2), decide_eq_false (by omega : ¬ s.hi > top)]
    rfl
  · rw [if_neg h]
    have : (decide (s.hi < 2) || decide (s.hi > top) || !rises s.fr || !agesB s.pe || !onceB s) = true := by
      cases hb : (decide (s.hi < 2) || decide (s.hi > top) || !rises s.fr || !agesB s.pe || !onceB s) with
      | true => rfl
      | false =>
        simp only [Bool.or_eq_false_iff, Bool.not_eq_false', decide_eq_false_iff_not] at hb
        obtain ⟨⟨⟨⟨b1, b2⟩, b3⟩, b4⟩, b5⟩ := hb
        unfold agesB at b4
        unfold onceB at b5
        rw [Bool.and_eq_true] at b4 b5
        obtain ⟨n1, n2, n3⟩ := List.nodup_append.1 (of_decide_eq_true b5.1)
        have hall := List.all_eq_true.1 b5.2
        refine absurd ⟨by omega, by omega, of_decide_eq_true b3, fun p hp => of_decide_eq_true (hall p (List.mem_append.2 (Or.inl hp))), of_decide_eq_true b4.1, fun x hx => of_decide_eq_true (List.all_eq_true.1 b4.2 x hx), fun x hx => of_decide_eq_true (hall x.2 (List.mem_append.2 (Or.inr (List.mem_map.2 ⟨x, hx, rfl⟩)))), fun x hx e => n3 x.2 e x.2 (List.mem_map.2 ⟨x, hx, rfl⟩) rfl, n2⟩ h
    rw [this]
    rfl

/-- In their order, each once: they rise. -/
theorem sorted_rises {l m : List Int} (hp : m.Perm l) (hs : m.Pairwise (· ≤ ·)) : rises m = decide l.Nodup := by
  unfold rises
  have e : m.Pairwise (· < ·) ↔ l.Nodup := by
    constructor
    · exact fun h => hp.nodup_iff.1 (h.imp (fun h => by omega))
    · intro h
      have hn : m.Nodup := hp.nodup_iff.2 h
      exact (List.Pairwise.and hs hn).imp (fun h => by obtain ⟨h1, h2⟩ := h; omega)
  exact decide_eq_decide.2 e
theorem perm_all {l m : List Int} (hp : m.Perm l) (f : Int → Bool) : m.all f = l.all f := by
  induction hp with
  | nil => rfl
  | cons x _ ih => simp [ih]
  | swap x y l => simp [Bool.and_left_comm]
  | trans _ _ h1 h2 => rw [h1, h2]
end Go.Proofs.Ytlldmefjhgahdaa.SS

/-
  What known comes to: the pages of both lists.
-/
namespace Go.Proofs.Ytlldmefjhgahdaa
open Go.RowKit

theorem pages_vals (s : SS) (A B : Option Addr) (n c m d : Nat) : pcs [⟨A, n, c, intVals s.fr⟩, ⟨B, m, d, intVals (s.pe.map (·.2))⟩] = intVals s.pages := by
  unfold pcs SS.pages
  rw [sIntVals_append]
  simp

theorem own_base_low {w : World} {base base' n sz : Nat} {e : TypeId} {v : Value} {xs : List Value} (h : w.ownsRow base e sz v n xs) (hb : base' ≤ base) : w.ownsRow base' e sz v n xs := by
  refine ⟨h.1, ?_⟩
  rcases h.2 with h2 | ⟨g, cap, cur, h2, h3, h4⟩
  · exact Or.inl h2
  · exact Or.inr ⟨g, cap, cur, h2, by omega, h4⟩

set_option maxRecDepth 20000 in
set_option maxHeartbeats 3200000 in
theorem known_any (s : SS) (h : Int) (A B : Option Addr) (n c m d : Nat) (w : World) (hs : Sp w A n c B m d s) (hn : n ≤ 400000) (hm : m ≤ 400000) :
    Calls Try.prog 53 #[.agg #[.int .i64 h, .slice A n c, .slice B m d]] w (JoinEnd w 3 1 (n + m) (intVals s.pages)) := by
  have HS := Lib.hid (hs.kept ((below_one w (.cells #[.int .i64 h, .slice A n c, .slice B m d] 26)).drew))
  have HB := Lib.hid ((box_new w (.int .i64 h) (.slice A n c) (.slice B m d)).kept ((Below.refl _ _).drew))
  have B1 := Lib.hid ((below_one w (.cells #[.int .i64 h, .slice A n c, .slice B m d] 26)).drew)
  have HV := Lib.hid (pages_vals s)
  clear hs
  go_enter Try.func53, Try.ntmps53
  go_wp2_with fail
  generalize w.alloc (.cells #[.int .i64 h, .slice A n c, .slice B m d] 26) = w0 at *
  have K0 : w0.drew.cell? ⟨w.heap.size, 1, none⟩ = some (.slice A n c) ∧ w0.drew.cell? ⟨w.heap.size, 2, none⟩ = some (.slice B m d) := HB.out.cells.2
  obtain ⟨x1, x2⟩ := K0
  have K0 : w0.drew.cell? ⟨w.heap.size, 1, none⟩ = some (.slice A n c) ∧ w0.drew.cell? ⟨w.heap.size, 2, none⟩ = some (.slice B m d) := HB.out.cells.2
  go_region_held3 (fun w' => w'.cell? ⟨w.heap.size, 1, none⟩ = some (.slice A n c) ∧ w'.cell? ⟨w.heap.size, 2, none⟩ = some (.slice B m d))
    (first | exact K3 | exact K2 | exact K1 | exact K0)
    (first
      | (go_at_call 38; refine (pagesOf_any B m d s.pe w0.drew HS.out.pe (by omega)).mono ?_; rintro e w1 ⟨v1, rfl, o1, b1⟩; obtain ⟨A1, c1, rfl, hc1, l1⟩ := Ln.of_own o1; have K1 := (HB.out.kept b1).cells.2; have K2 := ((HB.out.kept b1).kept (below_one _ (.cells #[.slice A n c, .slice A1 m c1] 23))).cells.2; have P2 := pile_two (HS.out.fr.kept b1) (intVals_one _) l1 (intVals_one _) 23)
      | (go_at_call 31; refine (join_I _ 2 2 (n + m) _ _ P2 rfl (by simp [tot]) (by omega) (by decide)).mono ?_; rintro e w2 ⟨v2, rfl, o2, b2⟩; have K3 := (((HB.out.kept b1).kept (below_one _ (.cells #[.slice A n c, .slice A1 m c1] 23))).kept b2).cells.2))
  rw [HV.out] at o2
  have B2 := Lib.hid (B1.out.trans (b1.mono B1.out.size))
  have B3 := Lib.hid ((B2.out.alloc B2.out.size (.cells #[.slice A n c, .slice A1 m c1] 23)).trans (b2.mono (B2.out.alloc B2.out.size (.cells #[.slice A n c, .slice A1 m c1] 23)).size))
  have O2 := Lib.hid o2
  clear K0 K1 K2 K3 x1 x2 P2 o2 b1 b2 o1 l1
  go_wp2_with fail
  go_ret
  exact ⟨_, rfl, own_base_low O2.out (B2.out.alloc B2.out.size (.cells #[.slice A n c, .slice A1 m c1] 23)).size, B3.out⟩
end Go.Proofs.Ytlldmefjhgahdaa

/-
  What wasUsed comes to.
-/
namespace Go.Proofs.Ytlldmefjhgahdaa
open Go.RowKit

set_option maxRecDepth 20000 in
set_option maxHeartbeats 400000 in
theorem wasUsed_any (s : SS) (h p : Int) (A B : Option Addr) (n c m d : Nat) (w : World) (hh : s.hi = h) :
    Calls Try.prog 51 #[.agg #[.int .i64 h, .slice A n c, .slice B m d], .int .i64 p] w fun e w' => e = .returned (.bool (s.may p)) ∧ Below w.heap.size w w' := by
  by_cases h1 : 2 ≤ p
  · by_cases h2 : p < h
    · have HD : Hid (s.may p = true) := Lib.hid (decide_eq_true ⟨h1, by rw [hh]; exact h2⟩)
      clear hh
      go_enter Try.func51, Try.ntmps51
      go_wp2_with fail
      go_ret
      exact ⟨ret_bool HD.out.symm, below_one _ _⟩
    · have HD : Hid (s.may p = false) := Lib.hid (decide_eq_false (fun e => h2 (by rw [← hh]; exact e.2)))
      clear hh
      go_enter Try.func51, Try.ntmps51
      go_wp2_with fail
      go_ret
      exact ⟨ret_bool HD.out.symm, below_one _ _⟩
  · have HD : Hid (s.may p = false) := Lib.hid (decide_eq_false (fun e => h1 e.1))
    clear hh
    go_enter Try.func51, Try.ntmps51
    go_wp2_with fail
    go_ret
    exact ⟨ret_bool HD.out.symm, below_one _ _⟩
end Go.Proofs.Ytlldmefjhgahdaa

/-
  What slices.Contains comes to at a list of ints.
-/
namespace Go.Proofs.Ytlldmefjhgahdaa
open Go.RowKit

/-- It is not among the first k. -/
def NotIn (zs : List Int) (k : Nat) (p : Int) : Prop := p ∉ zs.take k
theorem NotIn.more {zs : List Int} {k : Nat} {p x : Int} (h : NotIn zs k p) (hv : zs[k]? = some x) (hx : ¬ p = x) : NotIn zs (k + 1) p := by
  unfold NotIn
  rw [List.take_add_one, hv, Option.toList_some, List.mem_append]
  rintro (h1 | h1)
  · exact h h1
  · exact hx (by simpa using h1)

set_option maxRecDepth 20000 in
set_option maxHeartbeats 800000 in
theorem index_any (A : Option Addr) (n c : Nat) (zs : List Int) (p : Int) (w : World) (hz : Ln w 1 A n c (intVals zs)) (hn : n ≤ 1000000) :
    Calls Try.prog 60 #[.slice A n c, .int .i64 p] w fun e w' => (∃ r : Int, e = .returned (.int .i64 r) ∧ (decide (r ≥ 0)) = decide (p ∈ zs)) ∧ w' = w := by
  have HZ := Lib.hid hz
  have HN := Lib.hid hz.intN
  clear hz
  go_enter Try.func60, Try.ntmps60
  go_wp2_with fail
  obtain ⟨wo, rfl⟩ : ∃ wo : World, wo = w := ⟨_, rfl⟩
  go_loopw [8] (fun i wk => ∃ k : Nat, k ≤ n ∧ i = .int .i64 k ∧ Hid (NotIn zs k p) ∧ wk = wo) (fun i _ => n - (intOf i).toNat)
  case atStart => exact ⟨0, Nat.zero_le _, rfl, Lib.hid (by simp [NotIn]), rfl⟩
  case round =>
    obtain ⟨k, hk, rfl, HL, hw⟩ := hrel
    have hw' := hw.symm
    subst hw'
    clear hw
    by_cases hlt : k < n
    · obtain ⟨b, off, x, rfl, hv, c0⟩ := HZ.out.intAt hlt
      by_cases hx : p = x
      · have HM := Lib.hid (List.mem_of_getElem? hv)
        subst hx
        clear hv HL
        go_wp2_with fail
        go_ret
        exact ⟨⟨_, rfl, by rw [decide_eq_true HM.out, decide_eq_true (by omega)]⟩, rfl⟩
      · have HM := Lib.hid (HL.out.more hv hx)
        have hb : (p == x) = false := by simpa using hx
        clear hv HL hx
        go_wp2_with fail
        go_roundw
        case rel => exact ⟨k + 1, by omega, by go_num, HM, trivial⟩
        case measure => simp [intOf]; omega
    · obtain rfl : n = k := by omega
      have hm := HL.out
      unfold NotIn at hm
      rw [List.take_of_length_le (by rw [HN.out]; exact Nat.le_refl _)] at hm
      have HM := Lib.hid hm
      clear hm
      go_wp2_with fail
      go_ret
      exact ⟨⟨_, rfl, by rw [decide_eq_false HM.out]; rfl⟩, rfl⟩

set_option maxRecDepth 20000 in
set_option maxHeartbeats 400000 in
theorem contains_any (A : Option Addr) (n c : Nat) (zs : List Int) (p : Int) (w : World) (hz : Ln w 1 A n c (intVals zs)) (hn : n ≤ 1000000) :
    Calls Try.prog 52 #[.slice A n c, .int .i64 p] w fun e w' => e = .returned (.bool (decide (p ∈ zs))) ∧ w' = w := by
  have HZ := Lib.hid hz
  clear hz
  go_enter Try.func52, Try.ntmps52
  go_wp2_with fail
  refine (index_any A n c zs p w HZ.out hn).mono ?_
  rintro e w2 ⟨⟨r, rfl, hr⟩, rfl⟩
  go_wp2_with fail
  go_ret
  exact ⟨rfl, rfl⟩
end Go.Proofs.Ytlldmefjhgahdaa

/-
  What mayCome comes to.
-/
namespace Go.Proofs.Ytlldmefjhgahdaa
open Go.RowKit

theorem known_dec (s : SS) (p : Int) : decide (p ∈ s.pages) = s.known p := by
  unfold SS.pages SS.known
  rw [← Bool.decide_or]
  exact decide_eq_decide.2 List.mem_append

set_option maxRecDepth 20000 in
set_option maxHeartbeats 1600000 in
theorem mayCome_any (s : SS) (h p : Int) (A B : Option Addr) (n c m d : Nat) (w : World) (hh : s.hi = h) (hs : Sp w A n c B m d s) (hn : n ≤ 400000) (hm : m ≤ 400000) :
    Calls Try.prog 33 #[.agg #[.int .i64 h, .slice A n c, .slice B m d], .int .i64 p] w fun e w' => e = .returned (.bool (s.may p && !(s.known p))) ∧ Below w.heap.size w w' := by
  have HS := Lib.hid (hs.kept (below_one w (.cells #[.int .i64 h, .slice A n c, .slice B m d] 26)))
  have HB := Lib.hid (box_new w (.int .i64 h) (.slice A n c) (.slice B m d))
  have B0 := Lib.hid (below_one w (.cells #[.int .i64 h, .slice A n c, .slice B m d] 26))
  have HH := Lib.hid hh
  clear hs hh
  go_enter Try.func33, Try.ntmps33
  go_wp2_with fail
  generalize w.alloc (.cells #[.int .i64 h, .slice A n c, .slice B m d] 26) = w0 at *
  refine (wasUsed_any s h p A B n c m d w0 HH.out).mono ?_
  rintro e w1 ⟨rfl, b1⟩
  have B1 := Lib.hid b1
  clear b1
  cases hp : s.may p with
  | false =>
    have B2 := Lib.hid (B0.out.trans (B1.out.mono B0.out.size))
    have HP := Lib.hid hp
    clear hp
    go_wp2_with fail
    go_ret
    exact ⟨ret_bool (by rw [HP.out]; rfl), B2.out⟩
  | true =>
    have HP := Lib.hid hp
    clear hp
    obtain ⟨c0, c1, c2⟩ := (HB.out.kept B1.out).cells
    go_wp2_with fail
    refine (known_any s h A B n c m d w1 (HS.out.kept B1.out) hn hm).mono ?_
    rintro e w2 ⟨v2, rfl, o2, b2⟩
    have B2 := Lib.hid (B1.out.trans (b2.mono B1.out.size))
    obtain ⟨A2, d2, rfl, hc2, l2⟩ := Ln.of_own o2
    have L2 := Lib.hid l2
    clear c0 c1 c2 b2 o2 l2
    go_wp2_with fail
    refine (contains_any A2 (n + m) d2 s.pages p w2 L2.out (by omega)).mono ?_
    rintro e w3 ⟨rfl, rfl⟩
    rw [known_dec]
    have B3 := Lib.hid (B0.out.trans (B2.out.mono B0.out.size))
    go_wp2_with fail
    go_ret
    exact ⟨ret_bool (by rw [HP.out]; rfl), B3.out⟩
end Go.Proofs.Ytlldmefjhgahdaa

/-
  What lastEpoch comes to.
-/
namespace Go.Proofs.Ytlldmefjhgahdaa
open Go.RowKit

theorem last_at {s : SS} {k : Nat} {x y : Int} (hl : s.pe.length = k + 1) (hv : s.pe[k]? = some (x, y)) : s.last = x := by
  unfold SS.last
  rw [List.getLast?_eq_getElem?, hl, Nat.add_sub_cancel, hv]
  rfl
theorem last_nil {s : SS} (hl : s.pe.length = 0) : s.last = 0 := by
  unfold SS.last
  rw [List.eq_nil_of_length_eq_zero hl]
  rfl

set_option maxRecDepth 20000 in
set_option maxHeartbeats 800000 in
theorem last_any (A : Option Addr) (n c : Nat) (s : SS) (w : World) (hp : Ln w 2 A n c (prVals s.pe)) (hn : n ≤ 1000000) :
    Calls Try.prog 34 #[.slice A n c] w fun e w' => e = .returned (.int .i64 s.last) ∧ w' = w := by
  have hl := hp.prN
  rcases n with _ | k
  · have HM := Lib.hid (last_nil hl)
    clear hp hl
    go_enter Try.func34, Try.ntmps34
    go_wp2_with fail
    go_ret
    exact ⟨ret_int HM.out.symm, rfl⟩
  · obtain ⟨b, off, x, y, rfl, hv, c0, c1⟩ := hp.prAt (k := k) (by omega)
    have HM := Lib.hid (last_at hl hv)
    have hz : ((((k + 1 : Nat) : Int)) == 0) = false := by simp; omega
    have e1 : wrap64 (((k + 1 : Nat) : Int) - 1) = (k : Int) := by unfold wrap64; omega
    have e2 : ((k + 1 : Nat) : Int) = (k : Int) + 1 := by omega
    clear hp hl hv
    go_enter Try.func34, Try.ntmps34
    go_wp2_with fail
    go_ret
    exact ⟨ret_int HM.out.symm, rfl⟩
end Go.Proofs.Ytlldmefjhgahdaa

/-
  What Give comes to.
-/
namespace Go.Proofs.Ytlldmefjhgahdaa
open Go.RowKit

theorem give_ill {s : SS} {e p : Int} (h : s.giveBad e p = true) : s.give e p = (1, SS.none) := by
  unfold SS.give
  rw [if_pos h]
theorem give_well {s : SS} {e p : Int} (h : s.giveBad e p = false) : s.give e p = (0, { s with pe := s.pe ++ [(e, p)] }) := by
  unfold SS.give
  rw [if_neg (by rw [h]; simp)]
theorem giveBad_may {s : SS} {e p : Int} (h : (s.may p && !(s.known p)) = false) : s.giveBad e p = true := by
  unfold SS.giveBad
  cases h1 : s.may p <;> cases h2 : s.known p <;> simp [h1, h2] at h ⊢
theorem giveBad_age {s : SS} {e p : Int} (h : e < 0 ∨ e < s.last) : s.giveBad e p = true := by
  unfold SS.giveBad
  rcases h with h | h <;> simp [h]
theorem giveBad_no {s : SS} {e p : Int} (h : (s.may p && !(s.known p)) = true) (h1 : ¬ e < 0) (h2 : ¬ e < s.last) : s.giveBad e p = false := by
  unfold SS.giveBad
  cases h3 : s.may p <;> cases h4 : s.known p <;> simp [h3, h4] at h ⊢
  omega

/-- The answer's block, and what else is held, once nothing but the answer is to be written. -/
theorem give_zero {w w1 : World} {r : Nat} (hb : Below w.heap.size w w1) (hr : w.heap.size ≤ r) : SpEnd w 1 SS.none (.returned (.tuple #[.agg #[.int .i64 0, .slice none 0 0, .slice none 0 0], .int .i64 1])) (((w1.setCell ⟨r, 0, none⟩ (.int .i64 0)).setCell ⟨r, 1, none⟩ (.slice none 0 0)).setCell ⟨r, 2, none⟩ (.slice none 0 0)) :=
  have hd := put_done (h := 0) hb hr (Sp.zero w1) (Hi.none_ _) (Hi.none_ _) rfl (.int .i64 0) (.slice none 0 0) (.slice none 0 0)
  ⟨_, rfl, hd.1, hd.2⟩

theorem pend_pile {w : World} {B : Option Addr} {m d : Nat} {ps : List (Int × Int)} (h : Ln w 2 B m d (prVals ps)) (e p : Int) (t u : TypeId) :
    Pile ((w.alloc (.cells #[.int .i64 e, .int .i64 p] t)).alloc (.cells #[.slice B m d, .slice (some ⟨w.heap.size, 0, none⟩) 1 1] u)) 2 (some ⟨w.heap.size + 1, 0, none⟩) [⟨B, m, d, prVals ps⟩, ⟨some ⟨w.heap.size, 0, none⟩, 1, 1, prVals [(e, p)]⟩] := by
  have h1 := pile_two (h.kept (below_one w (.cells #[.int .i64 e, .int .i64 p] t))) (prVals_one _) (ln_pair w e p t) (prVals_one _) u
  rw [show (w.alloc (.cells #[.int .i64 e, .int .i64 p] t)).heap.size = w.heap.size + 1 by simp] at h1
  exact h1
theorem pend_below (w : World) (B : Option Addr) (m d : Nat) (e p : Int) (t u : TypeId) : Below w.heap.size w ((w.alloc (.cells #[.int .i64 e, .int .i64 p] t)).alloc (.cells #[.slice B m d, .slice (some ⟨w.heap.size, 0, none⟩) 1 1] u)) := below_two w _ _
theorem pend_vals (A B : Option Addr) (n c m d : Nat) (ps : List (Int × Int)) (e p : Int) : pcs [⟨A, n, c, prVals ps⟩, ⟨B, m, d, prVals [(e, p)]⟩] = prVals (ps ++ [(e, p)]) := by
  unfold pcs
  rw [prVals_append]
  simp

set_option maxRecDepth 20000 in
set_option maxHeartbeats 3200000 in
theorem give_any (s : SS) (h e p : Int) (A B : Option Addr) (n c m d : Nat) (w : World) (hh : s.hi = h) (hs : Sp w A n c B m d s) (hn : n ≤ 300000) (hm : m ≤ 300000) :
    Calls Try.prog 14 #[.agg #[.int .i64 h, .slice A n c, .slice B m d], .int .i64 e, .int .i64 p] w (SpEnd w (s.give e p).1 (s.give e p).2) := by
  obtain ⟨tb1, tb2, tb3⟩ := two_boxes w (.int .i64 h) (.slice A n c) (.slice B m d) (.int .i64 0) (.slice none 0 0) (.slice none 0 0)
  have HS := Lib.hid (hs.kept tb3)
  have HB := Lib.hid tb1
  have HR := Lib.hid tb2
  have B0 := Lib.hid tb3
  have HH := Lib.hid hh
  clear hs hh tb1 tb2 tb3
  go_enter Try.func14, Try.ntmps14
  go_wp2_with fail
  generalize (w.alloc (.cells #[.int .i64 h, .slice A n c, .slice B m d] 26)).alloc (.cells #[.int .i64 0, .slice none 0 0, .slice none 0 0] 26) = w0 at *
  refine (mayCome_any s h p A B n c m d w0 HH.out HS.out (by omega) (by omega)).mono ?_
  rintro e1 w1 ⟨rfl, b1⟩
  have B1 := Lib.hid (B0.out.trans (b1.mono B0.out.size))
  have HB1 := Lib.hid (HB.out.kept b1)
  have HR1 := Lib.hid (HR.out.kept b1)
  have HS1 := Lib.hid (HS.out.kept b1)
  clear b1 HB HR HS B0
  cases hmc : (s.may p && !(s.known p)) with
  | false =>
    have HT := Lib.hid (give_ill (giveBad_may (e := e) hmc))
    have HD := Lib.hid (give_zero B1.out (Nat.le_add_right w.heap.size 1))
    obtain ⟨e0, e1, e2⟩ := (Lib.hid (HR1.out.put (.int .i64 0) (.slice none 0 0) (.slice none 0 0))).out.cells
    obtain ⟨q0, q1, q2⟩ := HR1.out.cells
    obtain ⟨f0, f1, f2⟩ := HR1.out.free
    clear hmc
    go_wp2_with fail
    refine bodyPost_ret (v := .tuple #[.agg #[.int .i64 0, .slice none 0 0, .slice none 0 0], .int .i64 1]) (by simp [results, Try.results14, go_sem, e0, e1, e2]) rfl ?_
    rw [HT.out]
    exact HD.out
  | true =>
    have HMC := Lib.hid hmc
    obtain ⟨y0, y1, y2⟩ := HB1.out.cells
    clear hmc
    go_wp2_with fail
    refine (last_any B m d s w1 HS1.out.pe (by omega)).mono ?_
    rintro e1 w2 ⟨rfl, rfl⟩
    obtain ⟨L, hL⟩ : ∃ L, s.last = L := ⟨_, rfl⟩
    rw [hL]
    have HL := Lib.hid hL
    clear hL
    by_cases hL0 : 0 < L
    · by_cases he : e < L
      · have HT := Lib.hid (give_ill (giveBad_age (s := s) (p := p) (e := e) (by rw [HL.out]; omega)))
        have HD := Lib.hid (give_zero B1.out (Nat.le_add_right w.heap.size 1))
        obtain ⟨e0, e1, e2⟩ := (Lib.hid (HR1.out.put (.int .i64 0) (.slice none 0 0) (.slice none 0 0))).out.cells
        obtain ⟨q0, q1, q2⟩ := HR1.out.cells
        obtain ⟨f0, f1, f2⟩ := HR1.out.free
        go_wp2_with fail
        refine bodyPost_ret (v := .tuple #[.agg #[.int .i64 0, .slice none 0 0, .slice none 0 0], .int .i64 1]) (by simp [results, Try.results14, go_sem, e0, e1, e2]) rfl ?_
        rw [HT.out]
        exact HD.out
      · have HT := Lib.hid (give_well (giveBad_no (s := s) (e := e) (p := p) HMC.out (by omega) (by rw [HL.out]; omega)))
        have PF := Lib.hid (pend_pile HS1.out.pe e p 49 24)
        have BF := Lib.hid (pend_below w2 B m d e p 49 24)
        go_wp2_with fail
        clear y0 y1 y2
        refine (join_F _ 2 2 (m + 1) _ _ PF.out rfl (by simp [tot]) (by omega) (by decide)).mono ?_
        rintro e1 w3 ⟨v3, rfl, o3, b3⟩
        rw [pend_vals] at o3
        obtain ⟨B3, d3, rfl, hd3, l3⟩ := Ln.of_own o3
        have HI3 : Hid (Hi (w.heap.size + 1 + 1) B3) := Lib.hid ((Hi.of_own o3).low (by have := HR1.out.lt; have := BF.out.size; omega))
        have b23 := BF.out.trans (b3.mono BF.out.size)
        have L3 := Lib.hid l3
        have HB3 := Lib.hid (HB1.out.kept b23)
        have HR3 := Lib.hid (HR1.out.kept b23)
        have B3' := Lib.hid (B1.out.trans (b23.mono B1.out.size))
        have PL := Lib.hid ((pile_one (HS1.out.fr.kept b23) (intVals_one _) 23).kept ((Below.refl _ _).drew))
        have BA := Lib.hid ((below_one w3 (.cells #[.slice A n c] 23)).drew)
        have K0 : w3.drew.cell? ⟨w.heap.size, 0, none⟩ = some (.int .i64 h) ∧ w3.drew.cell? ⟨w.heap.size, 1, none⟩ = some (.slice A n c) := ⟨HB3.out.cells.1, HB3.out.cells.2.1⟩
        obtain ⟨x0, x1⟩ := K0
        have K0 : w3.drew.cell? ⟨w.heap.size, 0, none⟩ = some (.int .i64 h) ∧ w3.drew.cell? ⟨w.heap.size, 1, none⟩ = some (.slice A n c) := ⟨HB3.out.cells.1, HB3.out.cells.2.1⟩
        have K1 : ((w3.alloc (.cells #[.slice A n c] 23)).drew).cell? ⟨w.heap.size, 0, none⟩ = some (.int .i64 h) ∧ ((w3.alloc (.cells #[.slice A n c] 23)).drew).cell? ⟨w.heap.size, 1, none⟩ = some (.slice A n c) := ⟨(HB3.out.kept BA.out).cells.1, (HB3.out.kept BA.out).cells.2.1⟩
        clear b3 b23 o3 l3 PF
        go_wp2_with fail
        go_region_held3 (fun w' => w'.cell? ⟨w.heap.size, 0, none⟩ = some (.int .i64 h) ∧ w'.cell? ⟨w.heap.size, 1, none⟩ = some (.slice A n c))
          (first | exact K3 | exact K2 | exact K1 | exact K0)
          (first
            | (go_at_call 31; refine (join_I _ 1 1 n _ _ PL.out rfl (by simp [tot]) (by omega) (by decide)).mono ?_; rintro e1 w4 ⟨v4, rfl, o4, b4⟩; have HB4 := Lib.hid ((HB3.out.kept BA.out).kept b4); have HR4 := Lib.hid ((HR3.out.kept BA.out).kept b4); have K2 : w4.cell? ⟨w.heap.size, 0, none⟩ = some (.int .i64 h) ∧ w4.cell? ⟨w.heap.size, 1, none⟩ = some (.slice A n c) := ⟨HB4.out.cells.1, HB4.out.cells.2.1⟩; obtain ⟨q0, q1, q2⟩ := HR4.out.cells; obtain ⟨f0, f1, f2⟩ := HR4.out.free; obtain ⟨A4, c4, rfl, hc4, l4⟩ := Ln.of_own o4; have PU := But.put w4 (w.heap.size + 1) (.int .i64 h) (.slice A4 n c4) (.slice B3 (m + 1) d3); have K3 := (show _ ∧ _ from ⟨(PU.cell (k := w.heap.size) (by omega) 0).trans K2.1, (PU.cell (k := w.heap.size) (by omega) 1).trans K2.2⟩)))
        have HI4 : Hid (Hi (w.heap.size + 1 + 1) A4) := Lib.hid ((Hi.of_own o4).low (by have := HR3.out.lt; have := BA.out.size; omega))
        have B4 := Lib.hid (B3'.out.trans ((BA.out.trans (b4.mono BA.out.size)).mono B3'.out.size))
        rw [pcs_one] at l4
        have HSp : Hid (Sp w4 A4 n c4 B3 (m + 1) d3 { s with pe := s.pe ++ [(e, p)] }) := Lib.hid ⟨l4, (L3.out.kept BA.out).kept b4⟩
        have HD := Lib.hid (put_done (h := h) B4.out (Nat.le_add_right w.heap.size 1) HSp.out HI4.out HI3.out HH.out (.int .i64 h) (.slice A4 n c4) (.slice B3 (m + 1) d3))
        obtain ⟨e0, e1, e2⟩ := (Lib.hid (HR4.out.put (.int .i64 h) (.slice A4 n c4) (.slice B3 (m + 1) d3))).out.cells
        go_wp2_with fail
        refine bodyPost_ret (v := .tuple #[.agg #[.int .i64 h, .slice A4 n c4, .slice B3 (m + 1) d3], .int .i64 0]) (by simp [results, Try.results14, go_sem, e0, e1, e2]) rfl ?_
        rw [HT.out]
        exact ⟨_, rfl, HD.out.1, HD.out.2⟩
    · by_cases he : e < 0
      · have HT := Lib.hid (give_ill (giveBad_age (s := s) (p := p) (e := e) (by rw [HL.out]; omega)))
        have HD := Lib.hid (give_zero B1.out (Nat.le_add_right w.heap.size 1))
        obtain ⟨e0, e1, e2⟩ := (Lib.hid (HR1.out.put (.int .i64 0) (.slice none 0 0) (.slice none 0 0))).out.cells
        obtain ⟨q0, q1, q2⟩ := HR1.out.cells
        obtain ⟨f0, f1, f2⟩ := HR1.out.free
        go_wp2_with fail
        refine bodyPost_ret (v := .tuple #[.agg #[.int .i64 0, .slice none 0 0, .slice none 0 0], .int .i64 1]) (by simp [results, Try.results14, go_sem, e0, e1, e2]) rfl ?_
        rw [HT.out]
        exact HD.out
      · have HT := Lib.hid (give_well (giveBad_no (s := s) (e := e) (p := p) HMC.out (by omega) (by rw [HL.out]; omega)))
        have PF := Lib.hid (pend_pile HS1.out.pe e p 49 24)
        have BF := Lib.hid (pend_below w2 B m d e p 49 24)
        go_wp2_with fail
        clear y0 y1 y2
        refine (join_F _ 2 2 (m + 1) _ _ PF.out rfl (by simp [tot]) (by omega) (by decide)).mono ?_
        rintro e1 w3 ⟨v3, rfl, o3, b3⟩
        rw [pend_vals] at o3
        obtain ⟨B3, d3, rfl, hd3, l3⟩ := Ln.of_own o3
        have HI3 : Hid (Hi (w.heap.size + 1 + 1) B3) := Lib.hid ((Hi.of_own o3).low (by have := HR1.out.lt; have := BF.out.size; omega))
        have b23 := BF.out.trans (b3.mono BF.out.size)
        have L3 := Lib.hid l3
        have HB3 := Lib.hid (HB1.out.kept b23)
        have HR3 := Lib.hid (HR1.out.kept b23)
        have B3' := Lib.hid (B1.out.trans (b23.mono B1.out.size))
        have PL := Lib.hid ((pile_one (HS1.out.fr.kept b23) (intVals_one _) 23).kept ((Below.refl _ _).drew))
        have BA := Lib.hid ((below_one w3 (.cells #[.slice A n c] 23)).drew)
        have K0 : w3.drew.cell? ⟨w.heap.size, 0, none⟩ = some (.int .i64 h) ∧ w3.drew.cell? ⟨w.heap.size, 1, none⟩ = some (.slice A n c) := ⟨HB3.out.cells.1, HB3.out.cells.2.1⟩
        obtain ⟨x0, x1⟩ := K0
        have K0 : w3.drew.cell? ⟨w.heap.size, 0, none⟩ = some (.int .i64 h) ∧ w3.drew.cell? ⟨w.heap.size, 1, none⟩ = some (.slice A n c) := ⟨HB3.out.cells.1, HB3.out.cells.2.1⟩
        have K1 : ((w3.alloc (.cells #[.slice A n c] 23)).drew).cell? ⟨w.heap.size, 0, none⟩ = some (.int .i64 h) ∧ ((w3.alloc (.cells #[.slice A n c] 23)).drew).cell? ⟨w.heap.size, 1, none⟩ = some (.slice A n c) := ⟨(HB3.out.kept BA.out).cells.1, (HB3.out.kept BA.out).cells.2.1⟩
        clear b3 b23 o3 l3 PF
        go_wp2_with fail
        go_region_held3 (fun w' => w'.cell? ⟨w.heap.size, 0, none⟩ = some (.int .i64 h) ∧ w'.cell? ⟨w.heap.size, 1, none⟩ = some (.slice A n c))
          (first | exact K3 | exact K2 | exact K1 | exact K0)
          (first
            | (go_at_call 31; refine (join_I _ 1 1 n _ _ PL.out rfl (by simp [tot]) (by omega) (by decide)).mono ?_; rintro e1 w4 ⟨v4, rfl, o4, b4⟩; have HB4 := Lib.hid ((HB3.out.kept BA.out).kept b4); have HR4 := Lib.hid ((HR3.out.kept BA.out).kept b4); have K2 : w4.cell? ⟨w.heap.size, 0, none⟩ = some (.int .i64 h) ∧ w4.cell? ⟨w.heap.size, 1, none⟩ = some (.slice A n c) := ⟨HB4.out.cells.1, HB4.out.cells.2.1⟩; obtain ⟨q0, q1, q2⟩ := HR4.out.cells; obtain ⟨f0, f1, f2⟩ := HR4.out.free; obtain ⟨A4, c4, rfl, hc4, l4⟩ := Ln.of_own o4; have PU := But.put w4 (w.heap.size + 1) (.int .i64 h) (.slice A4 n c4) (.slice B3 (m + 1) d3); have K3 := (show _ ∧ _ from ⟨(PU.cell (k := w.heap.size) (by omega) 0).trans K2.1, (PU.cell (k := w.heap.size) (by omega) 1).trans K2.2⟩)))
        have HI4 : Hid (Hi (w.heap.size + 1 + 1) A4) := Lib.hid ((Hi.of_own o4).low (by have := HR3.out.lt; have := BA.out.size; omega))
        have B4 := Lib.hid (B3'.out.trans ((BA.out.trans (b4.mono BA.out.size)).mono B3'.out.size))
        rw [pcs_one] at l4
        have HSp : Hid (Sp w4 A4 n c4 B3 (m + 1) d3 { s with pe := s.pe ++ [(e, p)] }) := Lib.hid ⟨l4, (L3.out.kept BA.out).kept b4⟩
        have HD := Lib.hid (put_done (h := h) B4.out (Nat.le_add_right w.heap.size 1) HSp.out HI4.out HI3.out HH.out (.int .i64 h) (.slice A4 n c4) (.slice B3 (m + 1) d3))
        obtain ⟨e0, e1, e2⟩ := (Lib.hid (HR4.out.put (.int .i64 h) (.slice A4 n c4) (.slice B3 (m + 1) d3))).out.cells
        go_wp2_with fail
        refine bodyPost_ret (v := .tuple #[.agg #[.int .i64 h, .slice A4 n c4, .slice B3 (m + 1) d3], .int .i64 0]) (by simp [results, Try.results14, go_sem, e0, e1, e2]) rfl ?_
        rw [HT.out]
        exact ⟨_, rfl, HD.out.1, HD.out.2⟩
end Go.Proofs.Ytlldmefjhgahdaa

/-
  What place comes to, with slices.IndexFunc at its closure.
-/
namespace Go.Proofs.Ytlldmefjhgahdaa
open Go.RowKit

set_option maxRecDepth 20000 in
set_option maxHeartbeats 400000 in
theorem placeFn_any (z p : Int) (g : Nat) (w : World) (hc : w.cell? ⟨g, 0, none⟩ = some (.int .i64 p)) :
    Calls Try.prog 64 #[.int .i64 z, .pointer (some ⟨g, 0, none⟩)] w fun e w' => e = .returned (.bool (decide (z ≥ p))) ∧ w' = w := by
  go_enter Try.func64, Try.ntmps64
  go_wp2_with fail
  go_ret
  exact ⟨rfl, rfl⟩

/-- None of the first k is as great as p. -/
def Lows (zs : List Int) (k : Nat) (p : Int) : Prop := ∀ j z, j < k → zs[j]? = some z → z < p
theorem Lows.more {zs : List Int} {k : Nat} {p x : Int} (h : Lows zs k p) (hv : zs[k]? = some x) (hx : x < p) : Lows zs (k + 1) p := by
  intro j z hj hz
  by_cases e : j = k
  · subst e
    rw [hv] at hz
    obtain rfl := Option.some.inj hz
    exact hx
  · exact h j z (by omega) hz
theorem Lows.hit {zs : List Int} {k : Nat} {p x : Int} (h : Lows zs k p) (hv : zs[k]? = some x) (hx : ¬ x < p) : SS.place p zs = k := by
  obtain ⟨hk, _⟩ := List.getElem?_eq_some_iff.1 hv
  refine SS.place_at h (fun z hz => ?_) (by omega)
  rw [hv] at hz
  obtain rfl := Option.some.inj hz
  exact hx
theorem Lows.miss {zs : List Int} {p : Int} {n : Nat} (h : Lows zs n p) (hn : zs.length = n) : SS.place p zs = n := by
  refine SS.place_at h (fun z hz => ?_) (by omega)
  rw [List.getElem?_eq_none (by omega)] at hz
  cases hz

/-- Where it is, or that it is nowhere. -/
def placeR (p : Int) (zs : List Int) (n : Nat) : Int := if SS.place p zs = n then -1 else (SS.place p zs : Nat)

set_option maxRecDepth 20000 in
set_option maxHeartbeats 800000 in
theorem indexP_any (A : Option Addr) (n c : Nat) (zs : List Int) (p : Int) (g : Nat) (w : World) (hz : Ln w 1 A n c (intVals zs)) (hc : w.cell? ⟨g, 0, none⟩ = some (.int .i64 p)) (hn : n ≤ 1000000) :
    Calls Try.prog 63 #[.slice A n c, .func (.func 64) #[] #[.pointer (some ⟨g, 0, none⟩)]] w fun e w' => e = .returned (.int .i64 (placeR p zs n)) ∧ w' = w := by
  have HZ := Lib.hid hz
  have HN := Lib.hid hz.intN
  have HF := Lib.hid (fun z => placeFn_any z p g w hc)
  clear hz hc
  go_enter Try.func63, Try.ntmps63
  go_wp2_with fail
  obtain ⟨wo, rfl⟩ : ∃ wo : World, wo = w := ⟨_, rfl⟩
  go_loopw [8] (fun i wk => ∃ k : Nat, k ≤ n ∧ i = .int .i64 k ∧ Hid (Lows zs k p) ∧ wk = wo) (fun i _ => n - (intOf i).toNat)
  case atStart => exact ⟨0, Nat.zero_le _, rfl, Lib.hid (fun j z hj => absurd hj (Nat.not_lt_zero _)), rfl⟩
  case round =>
    obtain ⟨k, hk, rfl, HL, hw⟩ := hrel
    have hw' := hw.symm
    subst hw'
    clear hw
    by_cases hlt : k < n
    · obtain ⟨b, off, x, rfl, hv, c0⟩ := HZ.out.intAt hlt
      by_cases hx : x < p
      · have HM := Lib.hid (HL.out.more hv hx)
        have hb : decide (x ≥ p) = false := decide_eq_false (by omega)
        clear hv HL hx
        go_wp2_with fail
        refine (HF.out x).mono ?_
        rintro e w1 ⟨rfl, rfl⟩
        go_wp2_with fail
        go_roundw
        case rel => exact ⟨k + 1, by omega, by go_num, HM, trivial⟩
        case measure => simp [intOf]; omega
      · have hp := HL.out.hit hv hx
        have HM : Hid (placeR p zs n = (k : Int)) := Lib.hid (by unfold placeR; rw [if_neg (by omega), hp])
        have hb : decide (x ≥ p) = true := decide_eq_true (by omega)
        clear hv HL hx hp
        go_wp2_with fail
        refine (HF.out x).mono ?_
        rintro e w1 ⟨rfl, rfl⟩
        go_wp2_with fail
        go_ret
        exact ⟨ret_int HM.out.symm, rfl⟩
    · obtain rfl : n = k := by omega
      have hp := HL.out.miss HN.out
      have HM : Hid (placeR p zs n = -1) := Lib.hid (by unfold placeR; rw [if_pos hp])
      clear hp
      go_wp2_with fail
      go_ret
      exact ⟨ret_int HM.out.symm, rfl⟩

set_option maxRecDepth 20000 in
set_option maxHeartbeats 400000 in
theorem place_any (A : Option Addr) (n c : Nat) (zs : List Int) (p : Int) (w : World) (hz : Ln w 1 A n c (intVals zs)) (hn : n ≤ 1000000) :
    Calls Try.prog 55 #[.slice A n c, .int .i64 p] w fun e w' => e = .returned (.int .i64 (SS.place p zs : Nat)) ∧ Below w.heap.size w w' := by
  have hmf : ∀ (fn : Fn) (first cap : Array Value) (w : World), (Instr.makeFunc fn first cap).run Try.prog w = .ok (.func fn first cap) w := fun _ _ _ _ => rfl
  have HZ := Lib.hid (hz.kept (below_one w (.cells #[.int .i64 p] 3)))
  have HN := Lib.hid hz.intN
  have B1 := Lib.hid (below_one w (.cells #[.int .i64 p] 3))
  have hc : (w.alloc (.cells #[.int .i64 p] 3)).cell? ⟨w.heap.size, 0, none⟩ = some (.int .i64 p) := by simp
  clear hz
  go_enter Try.func55, Try.ntmps55
  go_wp2_with fail
  generalize w.alloc (.cells #[.int .i64 p] 3) = w1 at *
  refine (indexP_any A n c zs p w.heap.size w1 HZ.out hc hn).mono ?_
  rintro e w2 ⟨rfl, rfl⟩
  have hle : SS.place p zs ≤ n := by have := SS.place_le p zs; rw [HN.out] at this; exact this
  by_cases hp : SS.place p zs = n
  · have HR : placeR p zs n = -1 := by unfold placeR; rw [if_pos hp]
    have HP := Lib.hid hp
    rw [HR]
    clear HR hp hc
    go_wp2_with fail
    go_ret
    exact ⟨ret_int (by rw [HP.out]), B1.out⟩
  · have HR : placeR p zs n = (SS.place p zs : Nat) := by unfold placeR; rw [if_neg hp]
    obtain ⟨k, hk⟩ : ∃ k, SS.place p zs = k := ⟨_, rfl⟩
    rw [HR, hk]
    have HK := Lib.hid hk
    clear HR hp hc hk hle
    have i0 : ¬ ((k : Int) < 0) := by omega
    go_wp2_with fail
    go_ret
    exact ⟨ret_int (by rw [HK.out]), B1.out⟩
end Go.Proofs.Ytlldmefjhgahdaa

/-
  The library function that puts numbers in order is, in this program, the one that the library's contracts speak of. Conditions: none.
-/
namespace Go.Proofs.Ytlldmefjhgahdaa
open Go.Shelf
def Try.sortA_ren : Go.Shelf.Ren := ⟨fun | 5 => 54 | 8 => 62 | 7 => 61 | 19 => 75 | 20 => 76 | 10 => 66 | 11 => 67 | 12 => 68 | 13 => 69 | 14 => 70 | 15 => 71 | 16 => 72 | 17 => 73 | 18 => 74 | 30 => 77 | 31 => 78 | 32 => 79 | 33 => 80 | 34 => 81 | 35 => 82 | 40 => 83 | n => n, fun | 23 => 23 | 25 => 3 | 3 => 3 | 32 => 77 | 22 => 23 | 0 => 0 | 44 => 76 | 46 => 97 | 4 => 4 | 36 => 88 | 35 => 87 | 41 => 93 | 5 => 5 | 9 => 9 | 53 => 98 | 57 => 102 | 63 => 104 | 64 => 105 | n => n, fun | n => n⟩
theorem Try.sortA : Go.Proofs.SlLaysM.n5 Try.prog Try.sortA_ren := {
  mixed := by kernel_rfl
  f5 := ⟨Try.f54.name, by decide, Try.func54.trans (congrArg some (by kernel_rfl))⟩
  f7 := ⟨Try.f61.name, by decide, Try.func61.trans (congrArg some (by kernel_rfl))⟩
  f8 := Try.func62.trans (congrArg some (by kernel_rfl))
  f10 := ⟨Try.f66.name, by decide, Try.func66.trans (congrArg some (by kernel_rfl))⟩
  f11 := ⟨Try.f67.name, by decide, Try.func67.trans (congrArg some (by kernel_rfl))⟩
  f12 := ⟨Try.f68.name, by decide, Try.func68.trans (congrArg some (by kernel_rfl))⟩
  f13 := ⟨Try.f69.name, by decide, Try.func69.trans (congrArg some (by kernel_rfl))⟩
  f14 := ⟨Try.f70.name, by decide, Try.func70.trans (congrArg some (by kernel_rfl))⟩
  f15 := ⟨Try.f71.name, by decide, Try.func71.trans (congrArg some (by kernel_rfl))⟩
  f16 := ⟨Try.f72.name, by decide, Try.func72.trans (congrArg some (by kernel_rfl))⟩
  f17 := ⟨Try.f73.name, by decide, Try.func73.trans (congrArg some (by kernel_rfl))⟩
  f18 := ⟨Try.f74.name, by decide, Try.func74.trans (congrArg some (by kernel_rfl))⟩
  f19 := Try.func75.trans (congrArg some (by kernel_rfl))
  f20 := Try.func76.trans (congrArg some (by kernel_rfl))
  f30 := ⟨Try.f77.name, by decide, Try.func77.trans (congrArg some (by kernel_rfl))⟩
  f31 := Try.func78.trans (congrArg some (by kernel_rfl))
  f32 := Try.func79.trans (congrArg some (by kernel_rfl))
  f33 := ⟨Try.f80.name, by decide, Try.func80.trans (congrArg some (by kernel_rfl))⟩
  f34 := ⟨Try.f81.name, by decide, Try.func81.trans (congrArg some (by kernel_rfl))⟩
  f35 := ⟨Try.f82.name, by decide, Try.func82.trans (congrArg some (by kernel_rfl))⟩
  f40 := ⟨Try.f83.name, by decide, Try.func83.trans (congrArg some (by kernel_rfl))⟩
  t0 := Try.underlying0
  a0 := Try.isAgg0
  z0 := Try.sizeOf0
  v0 := Try.zeroValue0
  t3 := Try.underlying3
  a3 := Try.isAgg3
  z3 := Try.sizeOf3
  v3 := Try.zeroValue3
  t4 := Try.underlying4
  a4 := Try.isAgg4
  z4 := Try.sizeOf4
  v4 := Try.zeroValue4
  t5 := Try.underlying5
  a5 := Try.isAgg5
  z5 := Try.sizeOf5
  v5 := Try.zeroValue5
  t9 := Try.underlying9
  a9 := Try.isAgg9
  z9 := Try.sizeOf9
  v9 := Try.zeroValue9
  t22 := Try.underlying23
  a22 := Try.isAgg23
  z22 := Try.sizeOf23
  v22 := Try.zeroValue23
  t23 := Try.underlying23
  a23 := Try.isAgg23
  z23 := Try.sizeOf23
  v23 := Try.zeroValue23
  t25 := Try.underlying3
  a25 := Try.isAgg3
  z25 := Try.sizeOf3
  v25 := Try.zeroValue3
  t32 := Try.underlying77
  a32 := Try.isAgg77
  z32 := Try.sizeOf77
  v32 := Try.zeroValue77
  t35 := Try.underlying87
  a35 := Try.isAgg87
  z35 := Try.sizeOf87
  v35 := Try.zeroValue87
  t36 := Try.underlying88
  a36 := Try.isAgg88
  z36 := Try.sizeOf88
  v36 := Try.zeroValue88
  t41 := Try.underlying93
  a41 := Try.isAgg93
  z41 := Try.sizeOf93
  v41 := Try.zeroValue93
  t44 := Try.underlying76
  a44 := Try.isAgg76
  z44 := Try.sizeOf76
  v44 := Try.zeroValue76
  t46 := Try.underlying97
  a46 := Try.isAgg97
  z46 := Try.sizeOf97
  v46 := Try.zeroValue97
  t53 := Try.underlying98
  a53 := Try.isAgg98
  z53 := Try.sizeOf98
  v53 := Try.zeroValue98
  t57 := Try.underlying102
  a57 := Try.isAgg102
  z57 := Try.sizeOf102
  v57 := Try.zeroValue102
  t63 := Try.underlying104
  a63 := Try.isAgg104
  z63 := Try.sizeOf104
  v63 := Try.zeroValue104
  t64 := Try.underlying105
  a64 := Try.isAgg105
  z64 := Try.sizeOf105
  v64 := Try.zeroValue105 }
end Go.Proofs.Ytlldmefjhgahdaa

/-
  What slices.Sort comes to at a list of ints of one's own.
-/
namespace Go.Proofs.Ytlldmefjhgahdaa
open Go.RowKit Go.Sort Go.Shelf

/-- The numbers of a list in their order, in its own memory. -/
def SortEnd (w : World) (base : Nat) (v : Value) (n : Nat) (zs : List Int) (e : Ending) (w' : World) : Prop :=
  ∃ ms : List Int, e = .returned (.tuple #[]) ∧ ms.Perm zs ∧ ms.Pairwise (· ≤ ·) ∧ w'.ownsRow base 3 1 v n (intVals ms) ∧ w.grownBy w' v.ownBlock

set_option maxRecDepth 20000 in
theorem sort_any (base : Nat) (A : Option Addr) (n c : Nat) (zs : List Int) (w : World) (h : w.ownsRow base 3 1 (.slice A n c) n (intVals zs)) (hn : n ≤ 1000000) :
    Calls Try.prog 54 #[.slice A n c] w (SortEnd w base (.slice A n c) n zs) := by
  have hl : zs.length = n := by
    have := h.1
    rw [intVals_length] at this
    omega
  rcases h.2 with ⟨hv, h0⟩ | ⟨g, cap, cur, hv, hb, hh, hnc, hm, hsz, ht⟩
  · injection hv with e1 e2 e3
    subst e1
    subst e2
    subst e3
    refine (AnyM.slices_Sort_int_none Try.sortA none 0 w).mono ?_
    rintro e w' ⟨rfl, rfl⟩
    obtain rfl : zs = [] := List.eq_nil_of_length_eq_zero hl
    exact ⟨[], rfl, List.Perm.refl _, List.Pairwise.nil, h, World.grownBy.refl _ _⟩
  · injection hv with e1 e2 e3
    subst e1
    subst e3
    rw [Nat.mul_one, ← hl] at ht
    have hH : Holds (Value.int .i64) w g 0 zs.toArray := holds_of_blockI hh ht
    have hg : g < w.heap.size := (Array.getElem?_eq_some_iff.1 hh).1
    have hc := AnyM.slices_Sort_int Try.sortA g 0 c zs w hH hg (by omega)
    rw [hl] at hc
    refine hc.mono ?_
    rintro e w' ⟨rfl, m, os, rfl⟩
    have hlen : (zs.mergeSort fun x y => decide (x ≤ y)).length = zs.length := List.length_mergeSort _
    refine ⟨zs.mergeSort fun x y => decide (x ≤ y), rfl, List.mergeSort_perm _ _, ?_, ?_, grownBy_sortedI _⟩
    · exact (List.pairwise_mergeSort (le := fun x y : Int => decide (x ≤ y)) (fun a b c h1 h2 => by simp only [decide_eq_true_eq] at *; omega) (fun a b => by simp only [Bool.or_eq_true, decide_eq_true_eq]; omega) zs).imp (fun h => of_decide_eq_true h)
    · have := ownsRow_sortedI (n := m) (os := os) hlen hb hh (by omega) hm hsz
      rw [hl] at this
      exact this
end Go.Proofs.Ytlldmefjhgahdaa
