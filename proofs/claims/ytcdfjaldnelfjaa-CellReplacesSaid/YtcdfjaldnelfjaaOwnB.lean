/-
  Lists of bytes of one's own, that are made by append.
-/
import Derived.Test.YtcdfjaldnelfjaaByte
import Derived.Maps.AppendAt
import Derived.Laws.AppendOwnNone
import Derived.Laws.OwnMore
namespace Go.Proofs.Ytcdfjaldnelfjaa
open Go.RowKit

theorem byteInfo : (Try.prog.info? 5).map (fun i => (i.zero, i.size, i.bytes)) = some (some (.int .u8 0), 1, 1) := by kernel_rfl

/-- A list of bytes of one's own, in a block from base on. -/
def Own (w : World) (base : Nat) (v : Value) (l : List UInt8) : Prop := w.ownsRow base 5 1 v l.length (bv l)

/-- A call that answers a list of bytes of its own, and changes nothing below base. -/
def Owned (base : Nat) (w : World) (l : List UInt8) (e : Ending) (w' : World) : Prop :=
  ∃ v, e = .returned v ∧ Own w' base v l ∧ Below base w w'

theorem own_nil (w : World) (base : Nat) : Own w base (.slice none 0 0) [] := World.ownsRow_nil _ _ _ _

/-- One byte more. -/
theorem own_push {w : World} {base : Nat} {v : Value} {l : List UInt8} {c : UInt8} {z : Int} (hz : z = c.toNat) (h : w.ownsRow base 5 1 v (l.length + 1) (bv l ++ [.int .u8 z])) :
    Own w base v (l ++ [c]) := by
  unfold Own
  rw [bv_append, List.length_append]
  rw [hz] at h
  exact h
/-- Two bytes more. -/
theorem own_push2 {w : World} {base : Nat} {v : Value} {l : List UInt8} {c d : UInt8} {z y : Int} (hz : z = c.toNat) (hy : y = d.toNat) (h : w.ownsRow base 5 1 v (l.length + 2) (bv l ++ [.int .u8 z, .int .u8 y])) :
    Own w base v (l ++ [c, d]) := by
  unfold Own
  rw [bv_append, List.length_append]
  rw [hz, hy] at h
  exact h

theorem cell_two_new (w : World) (x y : Value) (t : TypeId) : ∀ j u, [x, y][j]? = some u → (w.alloc (.cells #[x, y] t)).cell? ((⟨w.heap.size, 0, none⟩ : Addr).add j) = some u := by
  intro j u h
  rw [addr_add]
  match j, h with
  | 0, h =>
    obtain rfl : x = u := by simpa using h
    simp
  | 1, h =>
    obtain rfl : y = u := by simpa using h
    simp

/-- A source whose cells are news: nil and empty, or at an address where they lie. -/
def Lies (w : World) (A : Option Addr) (m c : Nat) (news : List Value) : Prop :=
  (A = none → m = 0 ∧ c = 0) ∧ ∀ ad, A = some ad → ∀ j u, news[j]? = some u → w.cell? (ad.add j) = some u

theorem wpList_append_lay {P : Program} (w : World) {ops : Array Oper} {rest : List Oper} {o : Oper} {a : Act} {Q : Exit → Act → World → Prop} (hgd : o.guard = none) (s x : Operand) (t : TypeId)
    (ho : o.op = .call { callee := .builtin .append, args := #[s, x], argTypes := #[t, t] })
    (base : Nat) (e : TypeId) (i : TypeInfo) (z : Value) (size bytes : Nat) (ht : P.underlying t = some (.slice e)) (hi : P.info? e = some i) (hz : i.zero = some z)
    (hsize : i.size = size) (hby : i.bytes = bytes) (hzs : z.cells.size = size) (hsz : 0 < size)
    (v : Value) (n : Nat) (xs : List Value) (hs : a.eval s = v) (hown : w.ownsRow base e size v n xs)
    (A : Option Addr) (m c : Nat) (news : List Value) (hx : a.eval x = .slice A m c) (hl : news.length = m * size) (hnews : Lies w A m c news) (h1 : ∀ u ∈ news, u.oneCell' = true)
    (h63 : n + m ≤ maxLen) (hbytes : (n + m) * bytes ≤ 140737488355328) (hbase : base ≤ w.heap.size)
    (h : ∀ v' w', w'.ownsRow base e size v' (n + m) (xs ++ news) → w.grownBy w' v.ownBlock → wpList P ops Q rest (a.put o.dst v') w') : wpList P ops Q (o :: rest) a w := by
  rcases A with _ | ad
  · obtain ⟨rfl, rfl⟩ := hnews.1 rfl
    obtain rfl : news = [] := List.eq_nil_of_length_eq_zero (by omega)
    refine wpList_append_own_none hgd s x t ho base e i size ht hi v n xs hs hown hx ?_
    exact h v w (by simpa using hown) (World.grownBy.refl _ _)
  · exact wpList_append_own w hgd s x t ho base e i z size bytes ht hi hz hsize hby hzs hsz v n xs hs hown ad m c news hx hl (hnews.2 ad rfl) h1 h63 hbytes hbase (fun v' w' h2 h3 _ => h v' w' h2 h3)

theorem Lies.kept {w w' : World} {A : Option Addr} {m c : Nat} {news : List Value} (h : Lies w A m c news) (hb : Below w.heap.size w w') : Lies w' A m c news :=
  ⟨h.1, fun ad e j u hu => (hb.cell (World.block_lt_of_cell? _ _ (h.2 ad e j u hu))).trans (h.2 ad e j u hu)⟩

theorem Lies.bys {w : World} {R : Nat} {A : Option Addr} {n c : Nat} {l : List UInt8} (h : Bys w R A l) (hz : A = none → n = 0 ∧ c = 0) : Lies w A n c (bv l) :=
  ⟨hz, fun ad e j u hu => by subst e; exact h.cells j u hu⟩

theorem own_below {w w' : World} {base : Nat} {v : Value} {l : List UInt8} (h : Own w base v l) (hb : Below w.heap.size w w') : Own w' base v l := by
  unfold Own at h ⊢
  have hg : w.grownBy w' none := ⟨hb.os, hb.tape, hb.output, hb.size, fun k hk _ => hb.block k hk⟩
  refine h.kept hg ?_
  cases e : v.ownBlock with
  | none => exact Or.inl rfl
  | some g => exact Or.inr (by simp)

/-- One list, appended to none. -/
theorem bytes_one {w : World} {base n : Nat} {v : Value} {xs : List UInt8} (e0 : xs.length = n) (h : w.ownsRow base 5 1 v (0 + n) ([] ++ bv xs)) : Own w base v xs := by
  unfold Own
  rw [List.nil_append, Nat.zero_add] at h
  rw [e0]
  exact h

/-- Two lists, one behind the other. -/
theorem bytes_join {w : World} {base n m : Nat} {v : Value} {xs ys : List UInt8} (e0 : xs.length = n) (e1 : ys.length = m) (h : w.ownsRow base 5 1 v (0 + n + m) ([] ++ bv xs ++ bv ys)) :
    Own w base v (xs ++ ys) := by
  unfold Own
  rw [List.nil_append, ← bv_append, Nat.zero_add] at h
  have hl : (xs ++ ys).length = n + m := by simp [e0, e1]
  rw [hl]
  exact h

/-- A list that is empty and one's own, just made. -/
theorem own_made (w : World) : (w.alloc (.cells #[] 5)).ownsRow w.heap.size 5 1 (.slice (some ⟨w.heap.size, 0, none⟩) 0 0) 0 [] :=
  World.ownsRow_made w #[] 0 (Nat.le_refl _) (by unfold maxLen; omega) rfl

theorem own_bys {w : World} {base n c : Nat} {A : Option Addr} {l : List UInt8} (h : Own w base (.slice A n c) l) : Bys w w.heap.size A l := by
  obtain ⟨A', c', e, _, _, _, hb⟩ := Bys.of_own h
  injection e with e1 e2 e3
  subst e1
  exact hb

/-- One byte of a list of one's own is written. -/
theorem own_store {w : World} {base : Nat} {v : Value} {l : List UInt8} {k : Nat} (h : Own w base v l) (hk : k < l.length) :
    ∃ g cap z, v = .slice (some ⟨g, 0, none⟩) l.length cap ∧ l[k]? = some z ∧ w.cell? ⟨g, k, none⟩ = some (.int .u8 z.toNat) ∧ w.frozen? ⟨g, k, none⟩ = false ∧ base ≤ g ∧
      ∀ d : UInt8, Own (w.setCell ⟨g, k, none⟩ (.int .u8 d.toNat)) base v (l.set k d) := by
  unfold Own at h
  obtain ⟨g, cap, rfl, hb⟩ : ∃ g cap, v = .slice (some ⟨g, 0, none⟩) l.length cap ∧ base ≤ g := by
    rcases h.2 with ⟨_, h0⟩ | ⟨g, cap, cur, e, hb, _⟩
    · omega
    · exact ⟨g, cap, e, hb⟩
  have hz : l[k]? = some l[k] := List.getElem?_eq_getElem hk
  refine ⟨g, cap, l[k], rfl, hz, ?_, h.frozenAt k, hb, fun d => ?_⟩
  · rw [h.cellAt k (by omega)]
    unfold bv
    rw [List.getElem?_map, hz]
    rfl
  · have := (h.stored k (.int .u8 d.toNat)).1
    unfold Own
    rw [List.length_set]
    unfold bv at this ⊢
    rw [List.map_set]
    exact this

end Go.Proofs.Ytcdfjaldnelfjaa
