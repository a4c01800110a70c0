/-
  append to a list of one's own, whatever the source is: nil, or at an address.
-/
import Derived.Test.YtcjcahgeaffjmaaApp
import Derived.Laws.AppendOwnNone
namespace Go.Proofs.Ytcjcahgeaffjmaa
open Go.RowKit

/-- A source whose cells are news: nil and empty, or at an address where they lie. -/
def Lies (w : World) (A : Option Addr) (m c : Nat) (news : List Value) : Prop :=
  (A = none → m = 0 ∧ c = 0) ∧ ∀ ad, A = some ad → ∀ j u, news[j]? = some u → w.cell? (ad.add j) = some u

theorem wpList_append_lay {P : Program} (w : World) {ops : Array Oper} {rest : List Oper} {o : Oper} {a : Act} {Q : Exit → Act → World → Prop} (hgd : o.guard = none) (s x : Operand) (t : TypeId)
    (ho : o.op = .call { callee := .builtin .append, args := #[s, x], argTypes := #[t, t] })
    (base : Nat) (e : TypeId) (i : TypeInfo) (z : Value) (size bytes : Nat) (ht : P.underlying t = some (.slice e)) (hi : P.info? e = some i) (hz : i.zero = some z)
    (hsize : i.size = size) (hby : i.bytes = bytes) (hzs : z.cells.size = size) (hsz : 0 < size)
    (v : Value) (n : Nat) (xs : List Value) (hs : a.eval s = v) (hown : w.ownsRow base e size v n xs)
    (A : Option Addr) (m c : Nat) (news : List Value) (hx : a.eval x = .slice A m c) (hl : news.length = m * size) (hnews : Lies w A m c news) (h1 : ∀ u ∈ news, u.oneCell' = true)
    (h63 : n + m ≤ maxLen) (hbytes : (n + m) * bytes ≤ 140737488355328) (hbase : base ≤ w.heap.size)
    (h : ∀ v' w', w'.ownsRow base e size v' (n + m) (xs ++ news) → w.grownBy w' v.ownBlock → wpList P ops Q rest (a.put o.dst v') w') : wpList P ops Q (o :: rest) a w := by
  rcases A with _ | ad
  · obtain ⟨rfl, rfl⟩ := hnews.1 rfl
    obtain rfl : news = [] := List.eq_nil_of_length_eq_zero (by omega)
    refine wpList_append_own_none hgd s x t ho base e i size ht hi v n xs hs hown hx ?_
    exact h v w (by simpa using hown) (World.grownBy.refl _ _)
  · exact wpList_append_own w hgd s x t ho base e i z size bytes ht hi hz hsize hby hzs hsz v n xs hs hown ad m c news hx hl (hnews.2 ad rfl) h1 h63 hbytes hbase (fun v' w' h2 h3 _ => h v' w' h2 h3)

theorem Lies.kept {w w' : World} {A : Option Addr} {m c : Nat} {news : List Value} (h : Lies w A m c news) (hb : Below w.heap.size w w') : Lies w' A m c news :=
  ⟨h.1, fun ad e j u hu => (hb.cell (World.block_lt_of_cell? _ _ (h.2 ad e j u hu))).trans (h.2 ad e j u hu)⟩

theorem Lies.row {w : World} {A : Option Addr} {n c : Nat} {xs : List Val} (h : Row w A xs) (hz : A = none → n = 0 ∧ c = 0) : Lies w A n c (rowVals xs) :=
  ⟨hz, fun ad e j u hu => by subst e; exact Row.cells h j u hu⟩
end Go.Proofs.Ytcjcahgeaffjmaa
