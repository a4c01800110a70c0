/-
  A part of the proof: what its texts say stands at the head of each. Conditions: none.
-/
import Derived.Shelf.SlSortCmp.Small
import Derived.Shelf.Small.Bits
import Derived.Ground.SlsfProg
import Derived.Ground.NamesProg
import Derived.Test.YtgkdlbcpckdmkaaProg
import Derived.WalkKit
import Derived.WalkLawsBesides
import Derived.WalkSpells
import Derived.KernelRfl
import Derived.Deep.OwnRows
import Derived.Lib.Hide
import Derived.OwnWalk
import Derived.Laws.AppendOwn
import Derived.Maps.OwnSet
import Derived.Maps.RangeWalk
import Derived.Lib.SlKeysI
import Derived.Maps.AppendAt
import Derived.Laws.AppendOwnNone
import Derived.Laws.OwnMore
import Derived.Lib.SmallJoins
import Derived.Deep.AppendLies
import Derived.Deep.RegionHeld3
import Derived.Carry
import Derived.Deep.LoopGhost
import Derived.Laws.MakeOwn
import Derived.Laws.IdiomCopy

/-
  The library functions that sort frames are, in this program, those that the library's contracts speak of. Conditions: none.
-/
namespace Go.Proofs.Ytgkdlbcpckdmkaa
open Go.Shelf
def Try.sortF_ren : Go.Shelf.Ren := ⟨fun | 6 => 46 | 15 => 62 | 14 => 61 | 28 => 80 | 29 => 81 | 20 => 72 | 21 => 73 | 22 => 74 | 23 => 75 | 24 => 76 | 25 => 77 | 26 => 78 | 27 => 79 | 46 => 84 | 47 => 85 | 48 => 86 | 49 => 87 | 50 => 88 | 57 => 98 | n => n, fun | 22 => 72 | 24 => 74 | 25 => 89 | 3 => 3 | 39 => 110 | 0 => 0 | 53 => 124 | 55 => 126 | 4 => 4 | 46 => 118 | 45 => 117 | 50 => 62 | 5 => 5 | 9 => 9 | 66 => 129 | 70 => 133 | 76 => 141 | 77 => 142 | n => n, fun | n => n⟩
theorem Try.sortF : Go.Proofs.SlLaysF.n6 Try.prog Try.sortF_ren := {
  mixed := by kernel_rfl
  f6 := ⟨Try.f46.name, by decide, Try.func46.trans (congrArg some (by kernel_rfl))⟩
  f14 := ⟨Try.f61.name, by decide, Try.func61.trans (congrArg some (by kernel_rfl))⟩
  f15 := Try.func62.trans (congrArg some (by kernel_rfl))
  f20 := ⟨Try.f72.name, by decide, Try.func72.trans (congrArg some (by kernel_rfl))⟩
  f21 := ⟨Try.f73.name, by decide, Try.func73.trans (congrArg some (by kernel_rfl))⟩
  f22 := ⟨Try.f74.name, by decide, Try.func74.trans (congrArg some (by kernel_rfl))⟩
  f23 := ⟨Try.f75.name, by decide, Try.func75.trans (congrArg some (by kernel_rfl))⟩
  f24 := ⟨Try.f76.name, by decide, Try.func76.trans (congrArg some (by kernel_rfl))⟩
  f25 := ⟨Try.f77.name, by decide, Try.func77.trans (congrArg some (by kernel_rfl))⟩
  f26 := ⟨Try.f78.name, by decide, Try.func78.trans (congrArg some (by kernel_rfl))⟩
  f27 := ⟨Try.f79.name, by decide, Try.func79.trans (congrArg some (by kernel_rfl))⟩
  f28 := Try.func80.trans (congrArg some (by kernel_rfl))
  f29 := Try.func81.trans (congrArg some (by kernel_rfl))
  f46 := ⟨Try.f84.name, by decide, Try.func84.trans (congrArg some (by kernel_rfl))⟩
  f47 := Try.func85.trans (congrArg some (by kernel_rfl))
  f48 := Try.func86.trans (congrArg some (by kernel_rfl))
  f49 := ⟨Try.f87.name, by decide, Try.func87.trans (congrArg some (by kernel_rfl))⟩
  f50 := ⟨Try.f88.name, by decide, Try.func88.trans (congrArg some (by kernel_rfl))⟩
  f57 := ⟨Try.f98.name, by decide, Try.func98.trans (congrArg some (by kernel_rfl))⟩
  t0 := Try.underlying0
  a0 := Try.isAgg0
  z0 := Try.sizeOf0
  v0 := Try.zeroValue0
  t3 := Try.underlying3
  a3 := Try.isAgg3
  z3 := Try.sizeOf3
  v3 := Try.zeroValue3
  t4 := Try.underlying4
  a4 := Try.isAgg4
  z4 := Try.sizeOf4
  v4 := Try.zeroValue4
  t5 := Try.underlying5
  a5 := Try.isAgg5
  z5 := Try.sizeOf5
  v5 := Try.zeroValue5
  t9 := Try.underlying9
  a9 := Try.isAgg9
  z9 := Try.sizeOf9
  v9 := Try.zeroValue9
  t22 := Try.underlying72
  a22 := Try.isAgg72
  z22 := Try.sizeOf72
  v22 := Try.zeroValue72
  a24 := Try.isAgg74
  z24 := Try.sizeOf74
  t25 := Try.underlying89
  a25 := Try.isAgg89
  z25 := Try.sizeOf89
  v25 := Try.zeroValue89
  t39 := Try.underlying110
  a39 := Try.isAgg110
  z39 := Try.sizeOf110
  v39 := Try.zeroValue110
  t45 := Try.underlying117
  a45 := Try.isAgg117
  z45 := Try.sizeOf117
  v45 := Try.zeroValue117
  t46 := Try.underlying118
  a46 := Try.isAgg118
  z46 := Try.sizeOf118
  v46 := Try.zeroValue118
  t50 := Try.underlying62
  a50 := Try.isAgg62
  z50 := Try.sizeOf62
  v50 := Try.zeroValue62
  t53 := Try.underlying124
  a53 := Try.isAgg124
  z53 := Try.sizeOf124
  v53 := Try.zeroValue124
  t55 := Try.underlying126
  a55 := Try.isAgg126
  z55 := Try.sizeOf126
  v55 := Try.zeroValue126
  t66 := Try.underlying129
  a66 := Try.isAgg129
  z66 := Try.sizeOf129
  v66 := Try.zeroValue129
  t70 := Try.underlying133
  a70 := Try.isAgg133
  z70 := Try.sizeOf133
  v70 := Try.zeroValue133
  t76 := Try.underlying141
  a76 := Try.isAgg141
  z76 := Try.sizeOf141
  v76 := Try.zeroValue141
  t77 := Try.underlying142
  a77 := Try.isAgg142
  z77 := Try.sizeOf142
  v77 := Try.zeroValue142 }
def Try.bitsLen_ren : Go.Shelf.Ren := ⟨fun | 125 => 62 | 128 => 80 | 129 => 81 | n => n, fun | 46 => 110 | 3 => 3 | 51 => 124 | 53 => 126 | 4 => 4 | 5 => 5 | 9 => 9 | n => n, fun | n => n⟩
theorem Try.bitsLen : Go.Proofs.Lays.n125 Try.prog Try.bitsLen_ren := {
  mixed := by kernel_rfl
  f125 := Try.func62.trans (congrArg some (by kernel_rfl))
  f128 := Try.func80.trans (congrArg some (by kernel_rfl))
  f129 := Try.func81.trans (congrArg some (by kernel_rfl))
  t3 := Try.underlying3
  a3 := Try.isAgg3
  z3 := Try.sizeOf3
  v3 := Try.zeroValue3
  t4 := Try.underlying4
  a4 := Try.isAgg4
  z4 := Try.sizeOf4
  v4 := Try.zeroValue4
  t5 := Try.underlying5
  a5 := Try.isAgg5
  z5 := Try.sizeOf5
  v5 := Try.zeroValue5
  t9 := Try.underlying9
  a9 := Try.isAgg9
  z9 := Try.sizeOf9
  v9 := Try.zeroValue9
  t46 := Try.underlying110
  a46 := Try.isAgg110
  z46 := Try.sizeOf110
  v46 := Try.zeroValue110
  t51 := Try.underlying124
  a51 := Try.isAgg124
  z51 := Try.sizeOf124
  v51 := Try.zeroValue124
  t53 := Try.underlying126
  a53 := Try.isAgg126
  z53 := Try.sizeOf126
  v53 := Try.zeroValue126 }
end Go.Proofs.Ytgkdlbcpckdmkaa

/-
  Plain facts on bytes as numbers; nothing here names the program.
-/
namespace Go.Proofs.Ytgkdlbcpckdmkaa

theorem byte_lt (c : UInt8) : c.toNat < 256 := UInt8.toNat_lt c
theorem ofNat_toNat (n : Nat) : (UInt8.ofNat n).toNat = n % 256 := by simp

end Go.Proofs.Ytgkdlbcpckdmkaa

/-
  Plain words on memory, results and bytes that all texts stand on; nothing here names a function of the program.
-/
namespace Go.Proofs.Ytgkdlbcpckdmkaa
open Go.RowKit

theorem below_two (w : World) (o o' : Obj) : Below w.heap.size w ((w.alloc o).alloc o') :=
  ((Below.refl _ _).alloc (Nat.le_refl _) _).alloc (by simp) _

theorem below_one (w : World) (o : Obj) : Below w.heap.size w (w.alloc o) :=
  (Below.refl _ _).alloc (Nat.le_refl _) _

theorem belowN {B : Nat} {a w : World} (h : Below B a w) (n : Nat) : Below B a (w.drewN n) := ⟨h.os, h.tape, h.output, h.size, h.block⟩

theorem ret_bool {a b : Bool} (h : a = b) : Ending.returned (.bool a) = .returned (.bool b) := by rw [h]
theorem ret_int {a b : Int} (h : a = b) : Ending.returned (.int .i64 a) = .returned (.int .i64 b) := by rw [h]
theorem ret_num {k : IntKind} {a b : Int} (h : a = b) : Ending.returned (.int k a) = .returned (.int k b) := by rw [h]

theorem take_more {α : Type} {xs ys : List α} {k : Nat} {z : α} (h : xs.take k = ys.take k) (hx : xs[k]? = some z) (hy : ys[k]? = some z) : xs.take (k + 1) = ys.take (k + 1) := by
  rw [List.take_add_one, List.take_add_one, h, hx, hy]

theorem addr_add (b off n : Nat) : (⟨b, off, none⟩ : Addr).add n = ⟨b, off + n, none⟩ := by
  unfold Addr.add
  split
  · rename_i h
    have : n = 0 := by simpa using h
    subst this
    rfl
  · rfl

theorem byte_zero {c : UInt8} (h : c = 0) : ((c.toNat : Int) == 0) = true := by rw [h]; rfl
theorem byte_not {c d : UInt8} (h : ¬ c = d) : ((c.toNat : Int) == (d.toNat : Int)) = false := by
  rw [beq_eq_false_iff_ne]
  intro e
  exact h (UInt8.toNat_inj.1 (by omega))

end Go.Proofs.Ytgkdlbcpckdmkaa

/-
  Maps whose keys are numbers, told entry by entry: what the operations on such a map come to.
-/
namespace Go.Proofs.Ytgkdlbcpckdmkaa
open Go.RowKit Go.Maps

/-- An element is told as itself. -/
def heldR (v : Value) : Option (DataW Value × List MemPlace) := some (.held v, [])

set_option maxRecDepth 20000 in
theorem keyLaw : Keyed Try.prog 3 := int_keyed Try.underlying3
theorem i64_wf {i : Int} (h1 : -9223372036854775808 ≤ i) (h2 : i ≤ 9223372036854775807) : (Lit.int .i64 i).wf = true := by
  simp only [Lit.wf, Bool.and_eq_true, decide_eq_true_eq]
  have e1 : IntKind.i64.min = -9223372036854775808 := rfl
  have e2 : IntKind.i64.max = 9223372036854775807 := rfl
  omega
set_option maxRecDepth 20000 in
theorem keyIs {i : Int} (h1 : -9223372036854775808 ≤ i) (h2 : i ≤ 9223372036854775807) : keyOf Try.prog 3 (.int .i64 i) = some (.int .i64 i) := keyOf_int_mk Try.underlying3 (i64_wf h1 h2)

/-! ### entries -/
section
variable {es : List (Lit × DataW Value)} {k : Lit} {d z : DataW Value}

theorem find_mem (hp : es.Pairwise (fun p q => p.1 ≠ q.1)) (hk : WideAt.IsKeyLit k) (h : (k, d) ∈ es) : es.find? (fun p => p.1.sameKey k) = some (k, d) := by
  induction es with
  | nil => simp at h
  | cons y r ih =>
    obtain ⟨h1, h2⟩ := List.pairwise_cons.1 hp
    rcases List.mem_cons.1 h with e | e
    · subst e
      simp [WideAt.sameKey_self hk]
    · have hy : y.1.sameKey k = false := Maps.sameKey_ne (h1 _ e)
      rw [List.find?_cons, hy]
      exact ih h2 e

theorem at_mem (hp : es.Pairwise (fun p q => p.1 ≠ q.1)) (hk : WideAt.IsKeyLit k) (h : (k, d) ∈ es) : (DataW.map es).atKey k z = d := by
  unfold DataW.atKey
  simp only [find_mem hp hk h]

theorem has_mem (hk : WideAt.IsKeyLit k) (h : (k, d) ∈ es) : Maps.has (DataW.map es) k = true := by
  rw [Maps.has_eq, List.any_eq_true]
  exact ⟨_, h, WideAt.sameKey_self hk⟩

theorem mem_has (h : Maps.has (DataW.map es) k = true) : ∃ d, (k, d) ∈ es := by
  rw [Maps.has_eq, List.any_eq_true] at h
  obtain ⟨p, hp, hs⟩ := h
  have := WideAt.sameKey_eq hs
  exact ⟨p.2, by rw [← this]; exact hp⟩

theorem mem_insert {x y : Lit × DataW Value} : y ∈ DataW.insert x es ↔ y = x ∨ y ∈ es := by
  rw [(WideShapes.insert_perm x es).mem_iff, List.mem_cons]

theorem few_nats : ∀ (n : Nat) (l : List Nat), l.Pairwise (· ≠ ·) → (∀ x ∈ l, x < n) → l.length ≤ n
  | 0, l, _, h => by
    rcases l with _ | ⟨x, l⟩
    · simp
    · exact absurd (h x (by simp)) (by omega)
  | n + 1, l, hp, h => by
    have h1 := few_nats n (l.filter (fun x => x ≠ n)) (hp.filter _) (fun x hx => by
      obtain ⟨h2, h3⟩ := List.mem_filter.1 hx
      have := h x h2
      have : x ≠ n := by simpa using h3
      omega)
    have h2 : l.length ≤ (l.filter (fun x => x ≠ n)).length + 1 := by
      clear h1 h
      induction l with
      | nil => simp
      | cons y r ih =>
        obtain ⟨p1, p2⟩ := List.pairwise_cons.1 hp
        by_cases hy : y = n
        · subst hy
          have : r.filter (fun x => x ≠ y) = r := List.filter_eq_self.2 (fun x hx => by simpa using (p1 x hx).symm)
          rw [List.filter_cons, if_neg (by simp), this]
          simp
        · rw [List.filter_cons, if_pos (by simpa using hy)]
          have := ih p2
          simp only [List.length_cons]
          omega
    omega
end

/-- What f is, but v at i. -/
def upd (f : Int → Option Value) (i : Int) (v : Option Value) : Int → Option Value := fun j => if j = i then v else f j

/-- Block b is a map of few entries, those of f. -/
def MapAt (w : World) (b : Nat) (f : Int → Option Value) : Prop :=
  ∃ n es, w.ownsMap Try.prog 3 heldR b n (.map es) ∧ (∀ p ∈ es, ∃ i v, p = (Lit.int .i64 i, DataW.held v) ∧ 0 ≤ i ∧ i < 4096) ∧ ∀ i v, f i = some v ↔ (Lit.int .i64 i, DataW.held v) ∈ es

section
variable {w w' : World} {b : Nat} {f : Int → Option Value}

set_option maxRecDepth 20000 in
theorem tight {n : Nat} {es : List (Lit × DataW Value)} (h : w.ownsMap Try.prog 3 heldR b n (.map es)) : w.ownsMap Try.prog 3 heldR b es.length (.map es) := by
  obtain ⟨xs, clock, hb, F, hs, hD⟩ := h
  refine ⟨xs, clock, hb, F, ?_, hD⟩
  injection hD with e
  rw [e, length_sorted]
  simp

theorem few_of {es : List (Lit × DataW Value)} (hp : es.Pairwise (fun p q => p.1 ≠ q.1)) (hk : ∀ p ∈ es, ∃ i v, p = (Lit.int .i64 i, DataW.held v) ∧ 0 ≤ i ∧ i < 4096) : es.length ≤ 4096 := by
  have := few_nats 4096 (es.map fun p => (_root_.Go.intOf p.1).toNat) (by
    rw [List.pairwise_map]
    refine List.Pairwise.imp_of_mem ?_ hp
    intro p q hp' hq' hne e
    obtain ⟨i, v, rfl, h1, h2⟩ := hk p hp'
    obtain ⟨j, u, rfl, h3, h4⟩ := hk q hq'
    simp only [_root_.Go.intOf] at e
    exact hne (by show Lit.int .i64 i = Lit.int .i64 j; rw [show i = j by omega])) (fun x hx => by
    obtain ⟨p, hp', rfl⟩ := List.mem_map.1 hx
    obtain ⟨i, v, rfl, h1, h2⟩ := hk p hp'
    simp only [_root_.Go.intOf]
    omega)
  simpa using this

theorem MapAt.lt (h : MapAt w b f) : b < w.heap.size := by
  obtain ⟨n, es, ho, _⟩ := h
  exact ho.lt

theorem MapAt.isMap (h : MapAt w b f) : ∃ es clock, w.heap[b]? = some (.map es clock) := by
  obtain ⟨n, es, ⟨xs, clock, hb, _⟩, _⟩ := h
  exact ⟨xs, clock, hb⟩

theorem MapAt.block (h : MapAt w b f) (e : w'.heap[b]? = w.heap[b]?) : MapAt w' b f := by
  obtain ⟨n, es, ⟨xs, clock, hb, F, hs, hD⟩, hr⟩ := h
  exact ⟨n, es, ⟨xs, clock, e.trans hb, F, hs, hD⟩, hr⟩

theorem MapAt.keys (h : MapAt w b f) {i : Int} {v : Value} (e : f i = some v) : 0 ≤ i ∧ i < 4096 := by
  obtain ⟨n, es, _, hk, hf⟩ := h
  obtain ⟨j, u, e1, h1, h2⟩ := hk _ ((hf i v).1 e)
  injection e1 with e2 e3
  injection e2 with e4 e5
  omega

theorem mapAt_made (w : World) : MapAt (w.alloc (.map #[] 0)) w.heap.size (fun _ => none) :=
  ⟨0, [], World.ownsMap_made w _ _ _, by simp, by simp⟩

theorem litKey (i : Int) : WideAt.IsKeyLit (.int .i64 i) := trivial

set_option maxRecDepth 20000 in
theorem zeroBytes (w : World) : (zeroValue 33).run Try.prog w = .ok (.slice none 0 0) w := by kernel_rfl

set_option maxRecDepth 20000 in
/-- v, ok := m[i] -/
theorem MapAt.look (h : MapAt w b f) {i : Int} (h1 : -9223372036854775808 ≤ i) (h2 : i ≤ 9223372036854775807) :
    (Instr.lookup 54 (.map (some b)) (.int .i64 i) true).run Try.prog w = .ok (.tuple #[(f i).getD (.slice none 0 0), .bool (f i).isSome]) w := by
  obtain ⟨n, es, ho, hk, hf⟩ := h
  obtain ⟨v, ps, hrun, hv⟩ := ho.look_ok keyLaw Try.underlying54 (zeroBytes w) (zd := .held (.slice none 0 0)) (zp := []) rfl (keyIs h1 h2)
  obtain ⟨es', e', hp, _⟩ := ho.entries keyLaw
  injection e' with e'
  subst e'
  rw [hrun]
  have hv' : DataW.held v = (DataW.map es).atKey (.int .i64 i) (.held (.slice none 0 0)) := by
    unfold heldR at hv
    injection hv with hv
    injection hv
  cases hfi : f i with
  | some u =>
    have hm := (hf i u).1 hfi
    rw [at_mem hp (litKey i) hm] at hv'
    injection hv' with hv'
    rw [has_mem (litKey i) hm, hv']
    rfl
  | none =>
    have hn : Maps.has (DataW.map es) (.int .i64 i) = false := by
      cases hh : Maps.has (DataW.map es) (.int .i64 i) with
      | false => rfl
      | true =>
        obtain ⟨d, hd⟩ := mem_has hh
        obtain ⟨j, u, e1, _⟩ := hk _ hd
        injection e1 with e2 e3
        subst e3
        rw [(hf i u).2 hd] at hfi
        cases hfi
    rw [Maps.atKey_of_not_has hn] at hv'
    injection hv' with hv'
    rw [hn, hv']
    rfl

set_option maxRecDepth 20000 in
/-- v := m[i] -/
theorem MapAt.look1 (h : MapAt w b f) {i : Int} (h1 : -9223372036854775808 ≤ i) (h2 : i ≤ 9223372036854775807) :
    (Instr.lookup 54 (.map (some b)) (.int .i64 i) false).run Try.prog w = .ok ((f i).getD (.slice none 0 0)) w := by
  obtain ⟨n, es, ho, hk, hf⟩ := h
  obtain ⟨v, ps, hrun, hv⟩ := ho.lookup keyLaw Try.underlying54 (zeroBytes w) (zd := .held (.slice none 0 0)) (zp := []) rfl (keyIs h1 h2)
  obtain ⟨es', e', hp, _⟩ := ho.entries keyLaw
  injection e' with e'
  subst e'
  rw [hrun]
  have hv' : DataW.held v = (DataW.map es).atKey (.int .i64 i) (.held (.slice none 0 0)) := by
    unfold heldR at hv
    injection hv with hv
    injection hv
  cases hfi : f i with
  | some u =>
    have hm := (hf i u).1 hfi
    rw [at_mem hp (litKey i) hm] at hv'
    injection hv' with hv'
    rw [hv']
    rfl
  | none =>
    have hn : Maps.has (DataW.map es) (.int .i64 i) = false := by
      cases hh : Maps.has (DataW.map es) (.int .i64 i) with
      | false => rfl
      | true =>
        obtain ⟨d, hd⟩ := mem_has hh
        obtain ⟨j, u, e1, _⟩ := hk _ hd
        injection e1 with e2 e3
        subst e3
        rw [(hf i u).2 hd] at hfi
        cases hfi
    rw [Maps.atKey_of_not_has hn] at hv'
    injection hv' with hv'
    rw [hv']
    rfl

set_option maxRecDepth 20000 in
/-- m[i] = v -/
theorem MapAt.put (h : MapAt w b f) {i : Int} (h1 : 0 ≤ i) (h2 : i < 4096) (v : Value) :
    ∃ w', (Instr.mapUpdate 54 (.map (some b)) (.int .i64 i) v).run Try.prog w = .ok () w' ∧ MapAt w' b (upd f i (some v)) ∧ w.grownBy w' (some b) := by
  obtain ⟨n, es, ho, hk, hf⟩ := h
  obtain ⟨es', e', hp, _⟩ := ho.entries keyLaw
  injection e' with e'
  subst e'
  have hl := few_of hp hk
  obtain ⟨w', hrun, ho', hg⟩ := (tight ho).update keyLaw Try.underlying54 (by unfold maxLen; omega) (keyIs (i := i) (by omega) (by omega)) (val := v) (d := .held v) (ps := []) rfl
  refine ⟨w', hrun, ⟨_, DataW.insert (.int .i64 i, .held v) (es.filter fun p => !p.1.sameKey (.int .i64 i)), ho', ?_, ?_⟩, hg⟩
  · intro p hm
    rcases mem_insert.1 hm with rfl | hm
    · exact ⟨i, v, rfl, h1, h2⟩
    · exact hk p (List.mem_filter.1 hm).1
  · intro j u
    rw [mem_insert, List.mem_filter]
    unfold upd
    by_cases hj : j = i
    · subst hj
      rw [if_pos rfl, WideAt.sameKey_self (litKey j)]
      constructor
      · intro e
        injection e with e
        subst e
        exact Or.inl rfl
      · rintro (e | ⟨_, e⟩)
        · obtain rfl : u = v := DataW.held.inj (congrArg Prod.snd e)
          rfl
        · cases e
    · rw [if_neg hj, hf, Maps.sameKey_ne (a := Lit.int .i64 j) (b := Lit.int .i64 i) (fun e => hj (by injection e))]
      constructor
      · intro e
        exact Or.inr ⟨e, rfl⟩
      · rintro (e | ⟨e, _⟩)
        · injection e with e
          injection e with _ e
          exact absurd e hj
        · exact e

set_option maxRecDepth 20000 in
/-- delete(m, i) -/
theorem MapAt.del (h : MapAt w b f) {i : Int} (h1 : -9223372036854775808 ≤ i) (h2 : i ≤ 9223372036854775807) (ty : TypeId) :
    ∃ w', (Builtin.delete_ #[54, 3] ty #[.map (some b), .int .i64 i]).run Try.prog w = .ok (.tuple #[]) w' ∧ MapAt w' b (upd f i none) ∧ w.grownBy w' (some b) := by
  obtain ⟨n, es, ho, hk, hf⟩ := h
  obtain ⟨w', hrun, ho', hg⟩ := ho.drop keyLaw Try.underlying54 (keyIs h1 h2) ty
  refine ⟨w', hrun, ⟨_, es.filter fun p => !p.1.sameKey (.int .i64 i), ho', ?_, ?_⟩, hg.grown⟩
  · intro p hm
    exact hk p (List.mem_filter.1 hm).1
  · intro j u
    rw [List.mem_filter]
    unfold upd
    by_cases hj : j = i
    · subst hj
      rw [if_pos rfl, WideAt.sameKey_self (litKey j)]
      simp
    · rw [if_neg hj, hf, Maps.sameKey_ne (a := Lit.int .i64 j) (b := Lit.int .i64 i) (fun e => hj (by injection e))]
      simp

set_option maxRecDepth 20000 in
/-- clear(m) -/
theorem MapAt.clear (h : MapAt w b f) (ty : TypeId) :
    ∃ w', (Builtin.clear_ #[54] ty #[.map (some b)]).run Try.prog w = .ok (.tuple #[]) w' ∧ MapAt w' b (fun _ => none) ∧ w.grownBy w' (some b) := by
  obtain ⟨es, clock, hb⟩ := h.isMap
  refine ⟨ChangeMaps.setBlock w b (.map #[] clock), ?_, ⟨0, [], ⟨#[], clock, ChangeMaps.heap_setBlock_same hb _, ⟨by simp, ?_, by simp⟩, Nat.le_refl _, rfl⟩, by simp, by simp⟩, ⟨rfl, rfl, rfl, by simp [ChangeMaps.setBlock], fun i _ hi => ChangeMaps.heap_setBlock_other hb _ (fun e => hi (by rw [e]))⟩⟩
  · simp [Builtin.clear_, run_underlying Try.underlying54, MapKept.run_getObj_map hb, MapKept.run_setObj_map _ hb, Result.andThen]
    rfl
  · exact MapKept.stamped_empty clock
end

end Go.Proofs.Ytgkdlbcpckdmkaa

/-
  What is meant by a list of bytes in memory.
-/
namespace Go.Proofs.Ytgkdlbcpckdmkaa
open Go.RowKit

/-- The cells of a list of bytes. -/
def bv (l : List UInt8) : List Value := l.map (fun b => Value.int .u8 b.toNat)

theorem bv_append (a b : List UInt8) : bv (a ++ b) = bv a ++ bv b := List.map_append
theorem bv_length (l : List UInt8) : (bv l).length = l.length := List.length_map _
theorem bv_one (l : List UInt8) : ∀ u ∈ bv l, u.oneCell' = true := by
  intro u hu
  obtain ⟨b, _, rfl⟩ := List.mem_map.1 hu
  rfl
theorem bv_at {l : List UInt8} {j : Nat} {u : Value} (h : (bv l)[j]? = some u) : ∃ z, l[j]? = some z ∧ u = .int .u8 z.toNat := by
  unfold bv at h
  rw [List.getElem?_map] at h
  obtain ⟨z, h1, h2⟩ := Option.map_eq_some_iff.1 h
  exact ⟨z, h1, h2.symm⟩

/-- A slice of bytes, at address A, in a block below R, whose elements are l. -/
def Bys (w : World) (R : Nat) (A : Option Addr) (l : List UInt8) : Prop :=
  l = [] ∨ ∃ b off, A = some ⟨b, off, none⟩ ∧ b < R ∧ ∀ i z, l[i]? = some z → w.cell? ⟨b, off + i, none⟩ = some (.int .u8 z.toNat)

section
variable {w w' : World} {R R' : Nat} {A : Option Addr} {l : List UInt8}

theorem Bys.below (h : Bys w R A l) (hb : Below R w w') : Bys w' R A l := by
  rcases h with rfl | ⟨b, off, rfl, hR, hc⟩
  · exact Or.inl rfl
  · exact Or.inr ⟨b, off, rfl, hR, fun i z hz => (hb.cell (p := ⟨b, _, none⟩) hR).trans (hc i z hz)⟩

theorem Bys.kept (h : Bys w R A l) (hb : Below w.heap.size w w') : Bys w' R A l := by
  rcases h with rfl | ⟨b, off, rfl, hR, hc⟩
  · exact Or.inl rfl
  · refine Or.inr ⟨b, off, rfl, hR, fun i z hz => ?_⟩
    have h0 := hc i z hz
    exact (hb.cell (p := ⟨b, _, none⟩) (World.block_lt_of_cell? _ _ h0)).trans h0

theorem Bys.alloc (h : Bys w R A l) (o : Obj) : Bys (w.alloc o) R A l := h.kept (below_one _ _)

theorem Bys.more (h : Bys w R A l) (hR : R ≤ R') : Bys w R' A l := by
  rcases h with rfl | ⟨b, off, rfl, hb, hc⟩
  · exact Or.inl rfl
  · exact Or.inr ⟨b, off, rfl, by omega, hc⟩

theorem Bys.nil (w : World) (R : Nat) (A : Option Addr) : Bys w R A [] := Or.inl rfl

theorem Bys.at_ (h : Bys w R A l) {k : Nat} (hk : k < l.length) :
    ∃ b off z, A = some ⟨b, off, none⟩ ∧ b < R ∧ l[k]? = some z ∧ w.cell? ⟨b, off + k, none⟩ = some (.int .u8 z.toNat) := by
  rcases h with rfl | ⟨b, off, rfl, hb, hc⟩
  · exact absurd hk (by simp)
  · exact ⟨b, off, l[k], rfl, hb, List.getElem?_eq_getElem hk, hc k _ (List.getElem?_eq_getElem hk)⟩

/-- Its cells, at its address. -/
theorem Bys.cells {ad : Addr} (h : Bys w R (some ad) l) : ∀ j u, (bv l)[j]? = some u → w.cell? (ad.add j) = some u := by
  intro j u hu
  obtain ⟨z, hz, rfl⟩ := bv_at hu
  rcases h with rfl | ⟨b, off, e, _, hc⟩
  · simp at hz
  · obtain rfl : ad = ⟨b, off, none⟩ := Option.some.inj e
    rw [addr_add]
    exact hc j z hz

theorem Bys.none_ (h : Bys w R none l) : l = [] := by
  rcases h with h | ⟨b, off, e, _⟩
  · exact h
  · cases e

theorem Bys.drop {b off : Nat} (h : Bys w R (some ⟨b, off, none⟩) l) (k : Nat) : Bys w R (some ⟨b, off + k, none⟩) (l.drop k) := by
  rcases h with rfl | ⟨b', off', e, hb, hc⟩
  · exact Or.inl (by simp)
  · obtain ⟨rfl, rfl⟩ : b = b' ∧ off = off' := by
      have := Option.some.inj e
      injection this with h1 h2
      exact ⟨h1, h2⟩
    refine Or.inr ⟨b, off + k, rfl, hb, fun i z hz => ?_⟩
    rw [List.getElem?_drop] at hz
    have := hc (k + i) z hz
    rw [show off + k + i = off + (k + i) from by omega]
    exact this

theorem Bys.take (h : Bys w R A l) (k : Nat) : Bys w R A (l.take k) := by
  rcases h with rfl | ⟨b, off, rfl, hb, hc⟩
  · exact Or.inl (by simp)
  · refine Or.inr ⟨b, off, rfl, hb, fun i z hz => hc i z ?_⟩
    rw [List.getElem?_take] at hz
    split at hz
    · exact hz
    · cases hz

theorem Bys.of_own {base : Nat} {e : TypeId} {v : Value} {n : Nat} (h : w.ownsRow base e 1 v n (bv l)) :
    ∃ A c, v = .slice A n c ∧ l.length = n ∧ n ≤ c ∧ c ≤ maxLen ∧ Bys w w.heap.size A l := by
  have hl : l.length = n := by have := h.1; rw [bv_length] at this; omega
  have hlt := h.lt
  rcases h.2 with ⟨rfl, h0⟩ | ⟨g, cap, cur, rfl, hb, hh, hnc, hm, _⟩
  · subst h0
    exact ⟨none, 0, rfl, hl, Nat.le_refl _, Nat.zero_le _, Or.inl (List.eq_nil_of_length_eq_zero hl)⟩
  · refine ⟨_, _, rfl, hl, hnc, hm, Or.inr ⟨g, 0, rfl, (hlt g rfl).2, fun i z hz => ?_⟩⟩
    have := h.cells (g := g) rfl i (.int .u8 z.toNat) (by unfold bv; rw [List.getElem?_map, hz]; rfl)
    rw [addr_add] at this
    exact this
end

/-- Bytes just laid. -/
theorem bys_new (w : World) (l : List UInt8) (t : TypeId) : Bys (w.alloc (.cells (bv l).toArray t)) (w.heap.size + 1) (some ⟨w.heap.size, 0, none⟩) l := by
  refine Or.inr ⟨w.heap.size, 0, rfl, by omega, fun i z hz => ?_⟩
  have h : (bv l).toArray[i]? = some (.int .u8 z.toNat) := by
    rw [List.getElem?_toArray]
    unfold bv
    rw [List.getElem?_map, hz]
    rfl
  have hb : (w.alloc (.cells (bv l).toArray t)).heap[w.heap.size]? = some (.cells (bv l).toArray t) := heap_alloc_new w _
  rw [Nat.zero_add, cell_of_row _ w.heap.size i _ t (0, 0) hb]
  exact h

/-- Bytes that some value is. -/
def IsB (w : World) (v : Value) (l : List UInt8) : Prop := ∃ A c, v = .slice A l.length c ∧ Bys w w.heap.size A l

theorem IsB.below {w w' : World} {v : Value} {l : List UInt8} (h : IsB w v l) (hb : Below w.heap.size w w') : IsB w' v l := by
  obtain ⟨A, c, e, h1⟩ := h
  exact ⟨A, c, e, (h1.kept hb).more hb.size⟩

theorem bys_lit (w : World) (l : List UInt8) (t : TypeId) : Bys (w.alloc (.cells (bv l).toArray t)) (w.alloc (.cells (bv l).toArray t)).heap.size (some ⟨w.heap.size, 0, none⟩) l := by
  have := bys_new w l t
  rwa [show w.heap.size + 1 = (w.alloc (.cells (bv l).toArray t)).heap.size from by simp] at this

end Go.Proofs.Ytgkdlbcpckdmkaa

/-
  Lists of bytes of one's own, that are made by append.
-/
namespace Go.Proofs.Ytgkdlbcpckdmkaa
open Go.RowKit

theorem byteInfo : (Try.prog.info? 5).map (fun i => (i.zero, i.size, i.bytes)) = some (some (.int .u8 0), 1, 1) := by kernel_rfl

/-- A list of bytes of one's own, in a block from base on. -/
def Own (w : World) (base : Nat) (v : Value) (l : List UInt8) : Prop := w.ownsRow base 5 1 v l.length (bv l)

/-- A call that answers a list of bytes of its own, and changes nothing below base. -/
def Owned (base : Nat) (w : World) (l : List UInt8) (e : Ending) (w' : World) : Prop :=
  ∃ v, e = .returned v ∧ Own w' base v l ∧ Below base w w'

theorem own_nil (w : World) (base : Nat) : Own w base (.slice none 0 0) [] := World.ownsRow_nil _ _ _ _

/-- One byte more. -/
theorem own_push {w : World} {base : Nat} {v : Value} {l : List UInt8} {c : UInt8} {z : Int} (hz : z = c.toNat) (h : w.ownsRow base 5 1 v (l.length + 1) (bv l ++ [.int .u8 z])) :
    Own w base v (l ++ [c]) := by
  unfold Own
  rw [bv_append, List.length_append]
  rw [hz] at h
  exact h
/-- Two bytes more. -/
theorem own_push2 {w : World} {base : Nat} {v : Value} {l : List UInt8} {c d : UInt8} {z y : Int} (hz : z = c.toNat) (hy : y = d.toNat) (h : w.ownsRow base 5 1 v (l.length + 2) (bv l ++ [.int .u8 z, .int .u8 y])) :
    Own w base v (l ++ [c, d]) := by
  unfold Own
  rw [bv_append, List.length_append]
  rw [hz, hy] at h
  exact h

theorem cell_two_new (w : World) (x y : Value) (t : TypeId) : ∀ j u, [x, y][j]? = some u → (w.alloc (.cells #[x, y] t)).cell? ((⟨w.heap.size, 0, none⟩ : Addr).add j) = some u := by
  intro j u h
  rw [addr_add]
  match j, h with
  | 0, h =>
    obtain rfl : x = u := by simpa using h
    simp
  | 1, h =>
    obtain rfl : y = u := by simpa using h
    simp

/-- A source whose cells are news: nil and empty, or at an address where they lie. -/
def Lies (w : World) (A : Option Addr) (m c : Nat) (news : List Value) : Prop :=
  (A = none → m = 0 ∧ c = 0) ∧ ∀ ad, A = some ad → ∀ j u, news[j]? = some u → w.cell? (ad.add j) = some u

theorem wpList_append_lay {P : Program} (w : World) {ops : Array Oper} {rest : List Oper} {o : Oper} {a : Act} {Q : Exit → Act → World → Prop} (hgd : o.guard = none) (s x : Operand) (t : TypeId)
    (ho : o.op = .call { callee := .builtin .append, args := #[s, x], argTypes := #[t, t] })
    (base : Nat) (e : TypeId) (i : TypeInfo) (z : Value) (size bytes : Nat) (ht : P.underlying t = some (.slice e)) (hi : P.info? e = some i) (hz : i.zero = some z)
    (hsize : i.size = size) (hby : i.bytes = bytes) (hzs : z.cells.size = size) (hsz : 0 < size)
    (v : Value) (n : Nat) (xs : List Value) (hs : a.eval s = v) (hown : w.ownsRow base e size v n xs)
    (A : Option Addr) (m c : Nat) (news : List Value) (hx : a.eval x = .slice A m c) (hl : news.length = m * size) (hnews : Lies w A m c news) (h1 : ∀ u ∈ news, u.oneCell' = true)
    (h63 : n + m ≤ maxLen) (hbytes : (n + m) * bytes ≤ 140737488355328) (hbase : base ≤ w.heap.size)
    (h : ∀ v' w', w'.ownsRow base e size v' (n + m) (xs ++ news) → w.grownBy w' v.ownBlock → wpList P ops Q rest (a.put o.dst v') w') : wpList P ops Q (o :: rest) a w := by
  rcases A with _ | ad
  · obtain ⟨rfl, rfl⟩ := hnews.1 rfl
    obtain rfl : news = [] := List.eq_nil_of_length_eq_zero (by omega)
    refine wpList_append_own_none hgd s x t ho base e i size ht hi v n xs hs hown hx ?_
    exact h v w (by simpa using hown) (World.grownBy.refl _ _)
  · exact wpList_append_own w hgd s x t ho base e i z size bytes ht hi hz hsize hby hzs hsz v n xs hs hown ad m c news hx hl (hnews.2 ad rfl) h1 h63 hbytes hbase (fun v' w' h2 h3 _ => h v' w' h2 h3)

theorem Lies.kept {w w' : World} {A : Option Addr} {m c : Nat} {news : List Value} (h : Lies w A m c news) (hb : Below w.heap.size w w') : Lies w' A m c news :=
  ⟨h.1, fun ad e j u hu => (hb.cell (World.block_lt_of_cell? _ _ (h.2 ad e j u hu))).trans (h.2 ad e j u hu)⟩

theorem Lies.bys {w : World} {R : Nat} {A : Option Addr} {n c : Nat} {l : List UInt8} (h : Bys w R A l) (hz : A = none → n = 0 ∧ c = 0) : Lies w A n c (bv l) :=
  ⟨hz, fun ad e j u hu => by subst e; exact h.cells j u hu⟩

theorem own_below {w w' : World} {base : Nat} {v : Value} {l : List UInt8} (h : Own w base v l) (hb : Below w.heap.size w w') : Own w' base v l := by
  unfold Own at h ⊢
  have hg : w.grownBy w' none := ⟨hb.os, hb.tape, hb.output, hb.size, fun k hk _ => hb.block k hk⟩
  refine h.kept hg ?_
  cases e : v.ownBlock with
  | none => exact Or.inl rfl
  | some g => exact Or.inr (by simp)

/-- One list, appended to none. -/
theorem bytes_one {w : World} {base n : Nat} {v : Value} {xs : List UInt8} (e0 : xs.length = n) (h : w.ownsRow base 5 1 v (0 + n) ([] ++ bv xs)) : Own w base v xs := by
  unfold Own
  rw [List.nil_append, Nat.zero_add] at h
  rw [e0]
  exact h

/-- Two lists, one behind the other. -/
theorem bytes_join {w : World} {base n m : Nat} {v : Value} {xs ys : List UInt8} (e0 : xs.length = n) (e1 : ys.length = m) (h : w.ownsRow base 5 1 v (0 + n + m) ([] ++ bv xs ++ bv ys)) :
    Own w base v (xs ++ ys) := by
  unfold Own
  rw [List.nil_append, ← bv_append, Nat.zero_add] at h
  have hl : (xs ++ ys).length = n + m := by simp [e0, e1]
  rw [hl]
  exact h

/-- A list that is empty and one's own, just made. -/
theorem own_made (w : World) : (w.alloc (.cells #[] 5)).ownsRow w.heap.size 5 1 (.slice (some ⟨w.heap.size, 0, none⟩) 0 0) 0 [] :=
  World.ownsRow_made w #[] 0 (Nat.le_refl _) (by unfold maxLen; omega) rfl

theorem own_bys {w : World} {base n c : Nat} {A : Option Addr} {l : List UInt8} (h : Own w base (.slice A n c) l) : Bys w w.heap.size A l := by
  obtain ⟨A', c', e, _, _, _, hb⟩ := Bys.of_own h
  injection e with e1 e2 e3
  subst e1
  exact hb

/-- One byte of a list of one's own is written. -/
theorem own_store {w : World} {base : Nat} {v : Value} {l : List UInt8} {k : Nat} (h : Own w base v l) (hk : k < l.length) :
    ∃ g cap z, v = .slice (some ⟨g, 0, none⟩) l.length cap ∧ l[k]? = some z ∧ w.cell? ⟨g, k, none⟩ = some (.int .u8 z.toNat) ∧ w.frozen? ⟨g, k, none⟩ = false ∧ base ≤ g ∧
      ∀ d : UInt8, Own (w.setCell ⟨g, k, none⟩ (.int .u8 d.toNat)) base v (l.set k d) := by
  unfold Own at h
  obtain ⟨g, cap, rfl, hb⟩ : ∃ g cap, v = .slice (some ⟨g, 0, none⟩) l.length cap ∧ base ≤ g := by
    rcases h.2 with ⟨_, h0⟩ | ⟨g, cap, cur, e, hb, _⟩
    · omega
    · exact ⟨g, cap, e, hb⟩
  have hz : l[k]? = some l[k] := List.getElem?_eq_getElem hk
  refine ⟨g, cap, l[k], rfl, hz, ?_, h.frozenAt k, hb, fun d => ?_⟩
  · rw [h.cellAt k (by omega)]
    unfold bv
    rw [List.getElem?_map, hz]
    rfl
  · have := (h.stored k (.int .u8 d.toNat)).1
    unfold Own
    rw [List.length_set]
    unfold bv at this ⊢
    rw [List.map_set]
    exact this

end Go.Proofs.Ytgkdlbcpckdmkaa

/-
  What it is that nothing but some blocks has changed.
-/
namespace Go.Proofs.Ytgkdlbcpckdmkaa
open Go.RowKit

/-- Nothing but the blocks of F, and new ones, has changed. -/
structure Kept (F : Nat → Prop) (w w' : World) : Prop where
  os : w'.os = w.os
  tape : w'.tape = w.tape
  output : w'.output = w.output
  size : w.heap.size ≤ w'.heap.size
  block : ∀ k, k < w.heap.size → ¬ F k → w'.heap[k]? = w.heap[k]?

section
variable {F F' : Nat → Prop} {w w' w2 : World}

theorem Kept.refl (F : Nat → Prop) (w : World) : Kept F w w := ⟨rfl, rfl, rfl, Nat.le_refl _, fun _ _ _ => rfl⟩
theorem Kept.trans (h : Kept F w w') (k : Kept F' w' w2) (hF : ∀ k, F' k → F k ∨ w.heap.size ≤ k) : Kept F w w2 :=
  ⟨k.os.trans h.os, k.tape.trans h.tape, k.output.trans h.output, Nat.le_trans h.size k.size, fun i hi hn =>
    (k.block i (Nat.lt_of_lt_of_le hi h.size) (fun e => by rcases hF i e with e | e; exact hn e; omega)).trans (h.block i hi hn)⟩
theorem Kept.next (h : Kept F w w') (k : Kept F w' w2) : Kept F w w2 := h.trans k (fun _ e => Or.inl e)
theorem Kept.below (h : Below w.heap.size w w') (F : Nat → Prop) : Kept F w w' := ⟨h.os, h.tape, h.output, h.size, fun k hk _ => h.block k hk⟩
theorem Kept.grown {b : Nat} (h : w.grownBy w' (some b)) (hb : F b) : Kept F w w' :=
  ⟨h.os, h.tape, h.output, h.size, fun k hk hn => h.block k hk (fun e => hn (by injection e with e; rw [e]; exact hb))⟩
theorem Kept.setCell (w : World) {a : Addr} (ha : F a.block) (v : Value) : Kept F w (w.setCell a v) :=
  ⟨rfl, rfl, rfl, by simp [World.setCell], fun k _ hn => Below.heap_setCell _ _ _ _ (fun e => hn (by rw [e]; exact ha))⟩
theorem Kept.toBelow {B : Nat} (h : Kept F w w') (hF : ∀ k, F k → B ≤ k) (hB : B ≤ w.heap.size) : Below B w w' :=
  ⟨h.os, h.tape, h.output, h.size, fun k hk => h.block k (by omega) (fun e => by have := hF k e; omega)⟩
theorem Kept.more (h : Kept F w w') (hF : ∀ k, F k → F' k) : Kept F' w w' :=
  ⟨h.os, h.tape, h.output, h.size, fun k hk hn => h.block k hk (fun e => hn (hF k e))⟩
end
end Go.Proofs.Ytgkdlbcpckdmkaa

/-
  The plain disk: what each call answers, and what there is behind it. Nothing here names the program.
-/
namespace Go.Proofs.Ytgkdlbcpckdmkaa

/-- A disk: how many sectors, what lasts (nothing: no bytes), what waits, whether the power is gone, a fuse. -/
structure PS where
  size : Nat
  L : Int → List UInt8
  W : Int → Option (List UInt8)
  down : Bool
  fused : Bool
  fuse : Nat

namespace PS
def new (n : Nat) : PS := ⟨n, fun _ => [], fun _ => none, false, false, 0⟩
def has (s : PS) (n : Int) : Bool := decide (0 ≤ n ∧ n < (s.size : Int))
def held (s : PS) (n : Int) : List UInt8 := (s.W n).getD (s.L n)
def readE (s : PS) (n : Int) : Int := if s.down then 40 else if s.has n then 0 else 41
def readB (s : PS) (n : Int) : List UInt8 := if s.down then [] else if s.has n then s.held n else []
/-- May an act be done? -/
def may (s : PS) : Bool := !s.fused || s.fuse != 0
/-- Behind it. -/
def acted (s : PS) : PS := if s.fused then (if s.fuse = 0 then { s with down := true } else { s with fuse := s.fuse - 1 }) else s
def bad (s : PS) (n : Int) (l : List UInt8) : Bool := !s.has n || decide (1024 < l.length)
def writeE (s : PS) (n : Int) (l : List UInt8) : Int := if s.down then 40 else if s.bad n l then 41 else if s.may then 0 else 40
def lay (s : PS) (n : Int) (l : List UInt8) : PS := { s with W := fun j => if j = n then some l else s.W j }
def written (s : PS) (n : Int) (l : List UInt8) : PS := if s.down then s else if s.bad n l then s else if s.may then s.acted.lay n l else s.acted
def flushE (s : PS) : Int := if s.down then 40 else if s.may then 0 else 40
/-- What waits in a sector lasts. -/
def settled (s : PS) (n : Int) : PS := { s with L := fun j => if j = n then s.held n else s.L j }
def all (s : PS) : PS := { s with L := s.held, W := fun _ => none }
def flushed (s : PS) : PS := if s.down then s else if s.may then s.acted.all else s.acted
def fusing (s : PS) (k : Int) : PS := { s with fused := decide (0 ≤ k), fuse := k.toNat }
def kept (s : PS) (keep : List Int) : PS := { s with L := fun j => if j ∈ keep then s.held j else s.L j }
def restarted (s : PS) (keep : List Int) : PS := { s.kept keep with W := fun _ => none, down := false, fused := false, fuse := 0 }
def turnE (s : PS) (n at_ : Int) : Int := if s.has n then (if s.held n = [] ∨ at_ < 0 then 1 else 0) else 41
/-- The bytes, one turned. -/
def twist (l : List UInt8) (at_ : Int) (by_ : UInt8) : List UInt8 := l.modify (at_ % (l.length : Int)).toNat (· ^^^ by_)
def turned (s : PS) (n at_ : Int) (by_ : UInt8) : PS :=
  if s.has n then (if s.held n = [] ∨ at_ < 0 then s else
    match s.W n with
    | some l => s.lay n (twist l at_ by_)
    | none => { s with L := fun j => if j = n then twist (s.L n) at_ by_ else s.L j }) else s

/-- What may be: sectors that are there hold bytes alone, not too many. -/
structure Ok (s : PS) : Prop where
  l : ∀ i, s.L i ≠ [] → 0 ≤ i ∧ i < (s.size : Int)
  w : ∀ i, s.W i ≠ none → 0 ≤ i ∧ i < (s.size : Int)
  ll : ∀ i, (s.L i).length ≤ 1024
  wl : ∀ i l, s.W i = some l → l.length ≤ 1024

def lastsOf (s : PS) : List (Int × List UInt8) := ((List.range s.size).map fun k : Nat => ((k : Int), s.L (k : Int))).filter fun p => !p.2.isEmpty
def waitsOf (s : PS) : List (Int × List UInt8) := (List.range s.size).filterMap fun k : Nat => (s.W (k : Int)).map fun l => ((k : Int), l)

end PS
end Go.Proofs.Ytgkdlbcpckdmkaa

/-
  What is meant by a disk in memory.
-/
namespace Go.Proofs.Ytgkdlbcpckdmkaa
open Go.RowKit Go.Maps

section
variable {w w' : World}

theorem own_of_block {base : Nat} {v : Value} {l : List UInt8} (h : Own w base v l) (e : ∀ k, v.ownBlock = some k → w'.heap[k]? = w.heap[k]?) : Own w' base v l := by
  obtain ⟨h1, h2⟩ := h
  refine ⟨h1, ?_⟩
  rcases h2 with h2 | ⟨g, cap, cur, hv, hg, hh, r⟩
  · exact Or.inl h2
  · exact Or.inr ⟨g, cap, cur, hv, hg, by rw [e g (by rw [hv]; rfl)]; exact hh, r⟩

theorem own_base {base : Nat} {v : Value} {l : List UInt8} (h : Own w base v l) : Own w 0 v l := by
  obtain ⟨h1, h2⟩ := h
  refine ⟨h1, ?_⟩
  rcases h2 with h2 | ⟨g, cap, cur, hv, hg, r⟩
  · exact Or.inl h2
  · exact Or.inr ⟨g, cap, cur, hv, Nat.zero_le _, r⟩

set_option maxRecDepth 20000 in
/-- The block of bytes of one's own is one of bytes. -/
theorem own_cells {base : Nat} {v : Value} {l : List UInt8} {k : Nat} (h : Own w base v l) (e : v.ownBlock = some k) : ∃ cur, w.heap[k]? = some (.cells cur 5 (0, 0)) := by
  rcases h.2 with ⟨rfl, _⟩ | ⟨g, cap, cur, hv, hg, hh, r⟩
  · cases e
  · rw [hv] at e
    injection e with e
    subst e
    exact ⟨cur, hh⟩

theorem own_slice {base : Nat} {v : Value} {l : List UInt8} (h : Own w base v l) : ∃ A c, v = .slice A l.length c ∧ l.length ≤ c ∧ (A = none → l.length = 0 ∧ c = 0) := by
  rcases h.2 with ⟨rfl, h0⟩ | ⟨g, cap, cur, hv, _, _, hc, _⟩
  · exact ⟨none, 0, by rw [h0], by omega, fun _ => ⟨h0, rfl⟩⟩
  · exact ⟨_, _, hv, hc, fun e => by cases e⟩
end

abbrev Ghost := Int → Option (Value × List UInt8)

def vals (g : Ghost) : Int → Option Value := fun i => (g i).map Prod.fst

/-- No two entries, at unlike places, lie in one block. -/
def Apart (g h : Ghost) (S : Int → Int → Prop) : Prop :=
  ∀ i j v l u m k, g i = some (v, l) → h j = some (u, m) → v.ownBlock = some k → u.ownBlock = some k → S i j

def diskCells (s : PS) (bl bw : Nat) : Array Value := #[.int .i64 s.size, .map (some bl), .map (some bw), .bool s.down, .bool s.fused, .int .i64 s.fuse]

structure DiskAt (w : World) (F : Nat → Prop) (S : Int → Prop) (db bl bw : Nat) (gL gW : Ghost) (s : PS) : Prop where
  str : w.heap[db]? = some (.cells (diskCells s bl bw) 56 (0, 0))
  mL : MapAt w bl (vals gL)
  mW : MapAt w bw (vals gW)
  ne : bl ≠ bw
  fd : F db
  fl : F bl
  fw : F bw
  lt : ∀ k, F k → k < w.heap.size
  oL : ∀ i v l, gL i = some (v, l) → Own w 0 v l ∧ l ≠ [] ∧ l.length ≤ 1024 ∧ (∀ k, v.ownBlock = some k → F k) ∧ 0 ≤ i ∧ i < (s.size : Int)
  oW : ∀ i v l, gW i = some (v, l) → Own w 0 v l ∧ l.length ≤ 1024 ∧ (∀ k, v.ownBlock = some k → F k) ∧ 0 ≤ i ∧ i < (s.size : Int)
  aL : Apart gL gL (· = ·)
  aW : Apart gW gW (· = ·)
  aX : Apart gL gW (fun i j => i = j ∧ S j)
  sL : ∀ i, s.L i = ((gL i).map Prod.snd).getD []
  sW : ∀ i, s.W i = (gW i).map Prod.snd
  s2 : 2 ≤ s.size
  s4 : s.size ≤ 4096
  fu : s.fuse ≤ 9223372036854775807

/-- A disk at rest. -/
def Dk (w : World) (F : Nat → Prop) (db : Nat) (s : PS) : Prop := ∃ bl bw gL gW, DiskAt w F (fun _ => False) db bl bw gL gW s

section
variable {w w' : World} {F F' : Nat → Prop} {S S' : Int → Prop} {db bl bw : Nat} {gL gW : Ghost} {s : PS}

theorem DiskAt.same (h : DiskAt w F S db bl bw gL gW s) (e : ∀ k, F k → w'.heap[k]? = w.heap[k]?) (hs : w.heap.size ≤ w'.heap.size) : DiskAt w' F S db bl bw gL gW s :=
  { h with
    str := (e db h.fd).trans h.str
    mL := h.mL.block (e bl h.fl)
    mW := h.mW.block (e bw h.fw)
    lt := fun k hk => Nat.lt_of_lt_of_le (h.lt k hk) hs
    oL := fun i v l hi => by
      obtain ⟨o, r1, r2, r3, r4⟩ := h.oL i v l hi
      exact ⟨own_of_block o (fun k hk => e k (r3 k hk)), r1, r2, r3, r4⟩
    oW := fun i v l hi => by
      obtain ⟨o, r2, r3, r4⟩ := h.oW i v l hi
      exact ⟨own_of_block o (fun k hk => e k (r3 k hk)), r2, r3, r4⟩ }

/-- What others do leaves a disk alone. -/
theorem Dk.kept {G : Nat → Prop} (h : Dk w F db s) (hk : Kept G w w') (hd : ∀ k, F k → ¬ G k) : Dk w' F db s := by
  obtain ⟨bl, bw, gL, gW, h⟩ := h
  exact ⟨bl, bw, gL, gW, h.same (fun k hF => hk.block k (h.lt k hF) (hd k hF)) hk.size⟩

theorem Dk.below (h : Dk w F db s) (hb : Below w.heap.size w w') : Dk w' F db s := by
  obtain ⟨bl, bw, gL, gW, h⟩ := h
  exact ⟨bl, bw, gL, gW, h.same (fun k hF => hb.block k (h.lt k hF)) hb.size⟩

theorem DiskAt.rest (h : DiskAt w F S db bl bw gL (fun _ => none) s) : Dk w F db s :=
  ⟨bl, bw, gL, _, { h with aX := fun i j v l u m k _ e => by cases e }⟩

set_option maxRecDepth 20000 in
theorem types_apart : (5 : TypeId) ≠ 56 := by decide

theorem DiskAt.own_ne (h : DiskAt w F S db bl bw gL gW s) {base : Nat} {v : Value} {l : List UInt8} {k : Nat} (o : Own w base v l) (e : v.ownBlock = some k) : k ≠ db ∧ k ≠ bl ∧ k ≠ bw := by
  obtain ⟨cur, hc⟩ := own_cells o e
  refine ⟨fun e1 => ?_, fun e1 => ?_, fun e1 => ?_⟩
  · subst e1
    rw [h.str] at hc
    injection hc with hc
    injection hc with _ hc
    exact types_apart hc.symm
  · subst e1
    obtain ⟨es, c, hm⟩ := h.mL.isMap
    rw [hm] at hc
    cases hc
  · subst e1
    obtain ⟨es, c, hm⟩ := h.mW.isMap
    rw [hm] at hc
    cases hc

theorem DiskAt.db_ne (h : DiskAt w F S db bl bw gL gW s) : bl ≠ db ∧ bw ≠ db := by
  refine ⟨fun e => ?_, fun e => ?_⟩
  · obtain ⟨es, c, hm⟩ := h.mL.isMap
    rw [e, h.str] at hm
    cases hm
  · obtain ⟨es, c, hm⟩ := h.mW.isMap
    rw [e, h.str] at hm
    cases hm

set_option maxRecDepth 20000 in
/-- The struct's own fields are written. -/
theorem DiskAt.field (h : DiskAt w F S db bl bw gL gW s) {d f : Bool} {n : Nat} (hn : n ≤ 9223372036854775807)
    (hd : w'.heap[db]? = some (.cells (diskCells { s with down := d, fused := f, fuse := n } bl bw) 56 (0, 0))) (ho : ∀ k, k ≠ db → w'.heap[k]? = w.heap[k]?) (hs : w.heap.size ≤ w'.heap.size) :
    DiskAt w' F S db bl bw gL gW { s with down := d, fused := f, fuse := n } :=
  { h with
    str := hd
    mL := h.mL.block (ho _ h.db_ne.1)
    mW := h.mW.block (ho _ h.db_ne.2)
    lt := fun k hk => Nat.lt_of_lt_of_le (h.lt k hk) hs
    oL := fun i v l hi => by
      obtain ⟨o, r⟩ := h.oL i v l hi
      exact ⟨own_of_block o (fun k hk => ho k (h.own_ne o hk).1), r⟩
    oW := fun i v l hi => by
      obtain ⟨o, r⟩ := h.oW i v l hi
      exact ⟨own_of_block o (fun k hk => ho k (h.own_ne o hk).1), r⟩
    fu := hn }

/-- The map of what lasts is written. -/
theorem DiskAt.putL (h : DiskAt w F S db bl bw gL gW s) {gL' : Ghost} {L' : Int → List UInt8} (hg : w.grownBy w' (some bl)) (hm : MapAt w' bl (vals gL'))
    (oL' : ∀ i v l, gL' i = some (v, l) → Own w 0 v l ∧ l ≠ [] ∧ l.length ≤ 1024 ∧ (∀ k, v.ownBlock = some k → F k) ∧ 0 ≤ i ∧ i < (s.size : Int))
    (aL' : Apart gL' gL' (· = ·)) (aX' : Apart gL' gW (fun i j => i = j ∧ S' j)) (sL' : ∀ i, L' i = ((gL' i).map Prod.snd).getD []) : DiskAt w' F S' db bl bw gL' gW { s with L := L' } := by
  have ho : ∀ k, k < w.heap.size → k ≠ bl → w'.heap[k]? = w.heap[k]? := fun k hk hne => hg.block k hk (fun e => hne (by injection e))
  exact { h with
    str := (ho _ (h.lt _ h.fd) h.db_ne.1.symm).trans h.str
    mL := hm
    mW := h.mW.block (ho _ (h.lt _ h.fw) h.ne.symm)
    lt := fun k hk => Nat.lt_of_lt_of_le (h.lt k hk) hg.size
    oL := fun i v l hi => by
      obtain ⟨o, r1, r2, r3, r⟩ := oL' i v l hi
      exact ⟨own_of_block o (fun k hk => ho k (h.lt k (r3 k hk)) (h.own_ne o hk).2.1), r1, r2, r3, r⟩
    oW := fun i v l hi => by
      obtain ⟨o, r2, r3, r⟩ := h.oW i v l hi
      exact ⟨own_of_block o (fun k hk => ho k (h.lt k (r3 k hk)) (h.own_ne o hk).2.1), r2, r3, r⟩
    aL := aL'
    aX := aX'
    sL := sL' }

/-- The map of what waits is written. -/
theorem DiskAt.putW (h : DiskAt w F S db bl bw gL gW s) {gW' : Ghost} {W' : Int → Option (List UInt8)} (hg : w.grownBy w' (some bw)) (hm : MapAt w' bw (vals gW'))
    (oW' : ∀ i v l, gW' i = some (v, l) → Own w 0 v l ∧ l.length ≤ 1024 ∧ (∀ k, v.ownBlock = some k → F k) ∧ 0 ≤ i ∧ i < (s.size : Int))
    (aW' : Apart gW' gW' (· = ·)) (aX' : Apart gL gW' (fun i j => i = j ∧ S' j)) (sW' : ∀ i, W' i = (gW' i).map Prod.snd) : DiskAt w' F S' db bl bw gL gW' { s with W := W' } := by
  have ho : ∀ k, k < w.heap.size → k ≠ bw → w'.heap[k]? = w.heap[k]? := fun k hk hne => hg.block k hk (fun e => hne (by injection e))
  exact { h with
    str := (ho _ (h.lt _ h.fd) h.db_ne.2.symm).trans h.str
    mL := h.mL.block (ho _ (h.lt _ h.fl) h.ne)
    mW := hm
    lt := fun k hk => Nat.lt_of_lt_of_le (h.lt k hk) hg.size
    oL := fun i v l hi => by
      obtain ⟨o, r1, r2, r3, r⟩ := h.oL i v l hi
      exact ⟨own_of_block o (fun k hk => ho k (h.lt k (r3 k hk)) (h.own_ne o hk).2.2), r1, r2, r3, r⟩
    oW := fun i v l hi => by
      obtain ⟨o, r2, r3, r⟩ := oW' i v l hi
      exact ⟨own_of_block o (fun k hk => ho k (h.lt k (r3 k hk)) (h.own_ne o hk).2.2), r2, r3, r⟩
    aW := aW'
    aX := aX'
    sW := sW' }

theorem DiskAt.more (h : DiskAt w F S db bl bw gL gW s) (hF : ∀ k, F k → F' k) (hl : ∀ k, F' k → k < w.heap.size) : DiskAt w F' S db bl bw gL gW s :=
  { h with
    fd := hF _ h.fd
    fl := hF _ h.fl
    fw := hF _ h.fw
    lt := hl
    oL := fun i v l hi => by
      obtain ⟨o, r1, r2, r3, r⟩ := h.oL i v l hi
      exact ⟨o, r1, r2, fun k hk => hF k (r3 k hk), r⟩
    oW := fun i v l hi => by
      obtain ⟨o, r2, r3, r⟩ := h.oW i v l hi
      exact ⟨o, r2, fun k hk => hF k (r3 k hk), r⟩ }

theorem DiskAt.cell (h : DiskAt w F S db bl bw gL gW s) (j : Nat) {v : Value} (e : (diskCells s bl bw)[j]? = some v) : w.cell? ⟨db, j, none⟩ = some v := (cell_of_row w db j _ _ _ h.str).trans e
theorem DiskAt.free (h : DiskAt w F S db bl bw gL gW s) (j : Nat) : w.frozen? ⟨db, j, none⟩ = false := frozen_of_row w db j _ _ h.str

theorem DiskAt.ok (h : DiskAt w F S db bl bw gL gW s) : s.Ok where
  l i hi := by
    rw [h.sL] at hi
    cases hg : gL i with
    | none => rw [hg] at hi; exact absurd rfl hi
    | some p => obtain ⟨_, _, _, _, r⟩ := h.oL i p.1 p.2 hg; exact r
  w i hi := by
    rw [h.sW] at hi
    cases hg : gW i with
    | none => rw [hg] at hi; exact absurd rfl hi
    | some p => obtain ⟨_, _, _, r⟩ := h.oW i p.1 p.2 hg; exact r
  ll i := by
    rw [h.sL]
    cases hg : gL i with
    | none => simp
    | some p => obtain ⟨_, _, r, _⟩ := h.oL i p.1 p.2 hg; simpa using r
  wl i l hl := by
    rw [h.sW] at hl
    cases hg : gW i with
    | none => rw [hg] at hl; cases hl
    | some p =>
      obtain ⟨_, r, _⟩ := h.oW i p.1 p.2 hg
      rw [hg] at hl
      obtain rfl : p.2 = l := by simpa using hl
      exact r
end

/-- What a call leaves that answers v. -/
def Goes (w : World) (F : Nat → Prop) (db : Nat) (s' : PS) (v : Value) (e : Ending) (w' : World) : Prop :=
  e = .returned v ∧ ∃ F', Dk w' F' db s' ∧ (∀ k, F' k → F k ∨ w.heap.size ≤ k) ∧ Kept F w w'

end Go.Proofs.Ytgkdlbcpckdmkaa

/-
  What the disk's own functions come to: has, held, mayAct, settle.
-/
namespace Go.Proofs.Ytgkdlbcpckdmkaa
open Go.RowKit Go.Maps

set_option maxRecDepth 20000 in
theorem has_any (w : World) (db : Nat) (s : PS) (n : Int) (c0 : w.cell? ⟨db, 0, none⟩ = some (.int .i64 s.size)) :
    Calls Try.prog 34 #[.pointer (some ⟨db, 0, none⟩), .int .i64 n] w fun e w' => e = .returned (.bool (s.has n)) ∧ w = w' := by
  by_cases h0 : 0 ≤ n
  · go_enter Try.func34, Try.ntmps34
    go_wp2_with fail
    go_ret
    refine ⟨ret_bool ?_, rfl⟩
    simp [PS.has, h0]
  · go_enter Try.func34, Try.ntmps34
    go_wp2_with fail
    go_ret
    refine ⟨ret_bool ?_, rfl⟩
    unfold PS.has
    rw [eq_comm, decide_eq_false_iff_not]
    omega

/-- What a sector holds, in the disk's own memory. -/
def heldV (gL gW : Ghost) (n : Int) : Value := ((vals gW n).getD ((vals gL n).getD (.slice none 0 0)))

section
variable {F : Nat → Prop} {S : Int → Prop} {db bl bw : Nat} {gL gW : Ghost} {s : PS}

set_option maxRecDepth 20000 in
theorem held_any (w : World) (n : Int) (h1 : -9223372036854775808 ≤ n) (h2 : n ≤ 9223372036854775807) (h : DiskAt w F S db bl bw gL gW s) :
    Calls Try.prog 36 #[.pointer (some ⟨db, 0, none⟩), .int .i64 n] w fun e w' => e = .returned (heldV gL gW n) ∧ w = w' := by
  have c1 := h.cell 1 (v := .map (some bl)) rfl
  have c2 := h.cell 2 (v := .map (some bw)) rfl
  have k1 := h.mL.look1 h1 h2
  have k2 := h.mW.look h1 h2
  unfold heldV
  cases hW : vals gW n with
  | none =>
    rw [hW] at k2
    simp only [Option.getD_none, Option.isSome_none] at k2
    clear h hW
    generalize (vals gL n).getD (.slice none 0 0) = v at *
    go_enter Try.func36, Try.ntmps36
    go_wp2_with fail
    go_ret
    exact ⟨rfl, rfl⟩
  | some v =>
    rw [hW] at k2
    simp only [Option.getD_some, Option.isSome_some] at k2
    clear h hW k1
    go_enter Try.func36, Try.ntmps36
    go_wp2_with fail
    go_ret
    exact ⟨rfl, rfl⟩

/-- What it holds, told. -/
theorem DiskAt.held_own {w : World} (h : DiskAt w F S db bl bw gL gW s) (n : Int) : Own w 0 (heldV gL gW n) (s.held n) ∧ (∀ k, (heldV gL gW n).ownBlock = some k → F k) := by
  unfold heldV PS.held vals
  rw [h.sW, h.sL]
  cases hW : gW n with
  | some p =>
    obtain ⟨o, _, r, _⟩ := h.oW n p.1 p.2 hW
    exact ⟨o, r⟩
  | none =>
    cases hL : gL n with
    | some p =>
      obtain ⟨o, _, _, r, _⟩ := h.oL n p.1 p.2 hL
      exact ⟨o, r⟩
    | none => exact ⟨own_nil _ _, fun k hk => by cases hk⟩

theorem PS.held_le {s : PS} (h : s.Ok) (n : Int) : (s.held n).length ≤ 1024 := by
  unfold PS.held
  cases hW : s.W n with
  | some l => exact h.wl n l hW
  | none => exact h.ll n

set_option maxRecDepth 20000 in
theorem act_any (w : World) (h : DiskAt w F S db bl bw gL gW s) :
    Calls Try.prog 50 #[.pointer (some ⟨db, 0, none⟩)] w fun e w' => e = .returned (.bool s.may) ∧ DiskAt w' F S db bl bw gL gW s.acted ∧ Kept F w w' := by
  have c4 := h.cell 4 (v := .bool s.fused) rfl
  have c5 := h.cell 5 (v := .int .i64 s.fuse) rfl
  have c3 := h.cell 3 (v := .bool s.down) rfl
  have f3 := h.free 3
  have f5 := h.free 5
  have HD := Lib.hid h
  have hfu := h.fu
  clear h
  by_cases hf : s.fused = true
  · rw [hf] at c4
    by_cases h0 : s.fuse = 0
    · rw [h0] at c5
      have HF := Lib.hid hf
      have H0 := Lib.hid h0
      clear hf h0 hfu
      go_enter Try.func50, Try.ntmps50
      go_wp2_with fail
      go_ret
      have h := HD.out
      refine ⟨ret_bool ?_, ?_, Kept.setCell _ h.fd _⟩
      · simp [PS.may, HF.out, H0.out]
      · have := h.field (w' := w.setCell ⟨db, 3, none⟩ (.bool true)) (d := true) (f := s.fused) (n := s.fuse) h.fu (by rw [Joins.block_setCell h.str]; rfl) (fun k hk => Below.heap_setCell _ _ _ _ hk) (by simp [World.setCell])
        unfold PS.acted
        rw [if_pos HF.out, if_pos H0.out]
        exact this
    · have hb : ((s.fuse : Int) == 0) = false := by rw [beq_eq_false_iff_ne]; omega
      have HF := Lib.hid hf
      clear hf
      go_enter Try.func50, Try.ntmps50
      go_wp2_with fail
      go_ret
      have h := HD.out
      refine ⟨ret_bool ?_, ?_, Kept.setCell _ h.fd _⟩
      · simp [PS.may, h0]
      · have := h.field (w' := w.setCell ⟨db, 5, none⟩ (.int .i64 ((s.fuse - 1 : Nat) : Int))) (d := s.down) (f := s.fused) (n := s.fuse - 1) (by omega) (by rw [Joins.block_setCell h.str]; rfl) (fun k hk => Below.heap_setCell _ _ _ _ hk) (by simp [World.setCell])
        unfold PS.acted
        rw [if_pos HF.out, if_neg h0]
        rw [show ((s.fuse - 1 : Nat) : Int) = (s.fuse : Int) - 1 by omega] at this
        exact this
  · have hf' : s.fused = false := by simpa using hf
    rw [hf'] at c4
    have HF := Lib.hid hf'
    clear hf hf'
    go_enter Try.func50, Try.ntmps50
    go_wp2_with fail
    go_ret
    refine ⟨ret_bool ?_, ?_, Kept.refl _ _⟩
    · simp [PS.may, HF.out]
    · unfold PS.acted
      rw [if_neg (by rw [HF.out]; decide)]
      exact HD.out
end
end Go.Proofs.Ytgkdlbcpckdmkaa

/-
  What disk's settle comes to; the writes of maps at their operations.
-/
namespace Go.Proofs.Ytgkdlbcpckdmkaa
open Go.RowKit Go.Maps

section
variable (w : World) {ops : Array Oper} {rest : List Oper} {o : Oper} {a : Act} {Q : Exit → Act → World → Prop}

set_option maxRecDepth 20000 in
theorem wpList_delete_at (hg : o.guard = none) (m x : Operand) (hop : o.op = Op.call { callee := Callee.builtin Builtin.delete, args := #[m, x], argTypes := #[54, 3] })
    (b : Nat) (f : Int → Option Value) (hm : a.eval m = .map (some b)) (h : MapAt w b f) (i : Int) (hx : a.eval x = .int .i64 i) (h1 : -9223372036854775808 ≤ i) (h2 : i ≤ 9223372036854775807)
    (hK : ∀ w', MapAt w' b (upd f i none) → w.grownBy w' (some b) → wpList Try.prog ops Q rest (a.put o.dst (.tuple #[])) w') :
    wpList Try.prog ops Q (o :: rest) a w := by
  refine wpList_plain hg fun K' hK' => ?_
  obtain ⟨w', hrun, r1, r2⟩ := h.del h1 h2 o.type
  unfold Oper.wp
  simp [execOp, hop, resolve, invoke, builtin, hm, hx, hrun, Result.andThen]
  exact hK' _ _ (hK w' r1 r2)

set_option maxRecDepth 20000 in
theorem wpList_clear_at (hg : o.guard = none) (m : Operand) (hop : o.op = Op.call { callee := Callee.builtin Builtin.clear, args := #[m], argTypes := #[54] })
    (b : Nat) (f : Int → Option Value) (hm : a.eval m = .map (some b)) (h : MapAt w b f)
    (hK : ∀ w', MapAt w' b (fun _ => none) → w.grownBy w' (some b) → wpList Try.prog ops Q rest (a.put o.dst (.tuple #[])) w') :
    wpList Try.prog ops Q (o :: rest) a w := by
  refine wpList_plain hg fun K' hK' => ?_
  obtain ⟨w', hrun, r1, r2⟩ := h.clear o.type
  unfold Oper.wp
  simp [execOp, hop, resolve, invoke, builtin, hm, hrun, Result.andThen]
  exact hK' _ _ (hK w' r1 r2)

set_option maxRecDepth 20000 in
theorem wpList_put_at (hg : o.guard = none) (m x v : Operand) (hop : o.op = Op.mapUpdate 54 m x v)
    (b : Nat) (f : Int → Option Value) (hm : a.eval m = .map (some b)) (h : MapAt w b f) (i : Int) (u : Value) (hx : a.eval x = .int .i64 i) (hv : a.eval v = u) (h1 : 0 ≤ i) (h2 : i < 4096)
    (hK : ∀ w', MapAt w' b (upd f i (some u)) → w.grownBy w' (some b) → wpList Try.prog ops Q rest (a.put o.dst undef) w') :
    wpList Try.prog ops Q (o :: rest) a w := by
  refine wpList_plain hg fun K' hK' => ?_
  obtain ⟨w', hrun, r1, r2⟩ := h.put h1 h2 u
  unfold Oper.wp
  simp [execOp, hop, hm, hx, hv, hrun, Result.andThen]
  exact hK' _ _ (hK w' r1 r2)
end

def updG (g : Ghost) (i : Int) (p : Option (Value × List UInt8)) : Ghost := fun j => if j = i then p else g j

theorem vals_updG (g : Ghost) (i : Int) (p : Option (Value × List UInt8)) : vals (updG g i p) = upd (vals g) i (p.map Prod.fst) := by
  funext j
  unfold vals updG upd
  by_cases h : j = i <;> simp [h]

theorem updG_some {g : Ghost} {i j : Int} {p : Option (Value × List UInt8)} {q : Value × List UInt8} (h : updG g i p j = some q) : (j = i ∧ p = some q) ∨ (j ≠ i ∧ g j = some q) := by
  unfold updG at h
  by_cases e : j = i
  · rw [if_pos e] at h
    exact Or.inl ⟨e, h⟩
  · rw [if_neg e] at h
    exact Or.inr ⟨e, h⟩

section
variable {F : Nat → Prop} {S : Int → Prop} {db bl bw : Nat} {gL gW : Ghost} {s : PS}

theorem DiskAt.settle_none {w : World} {n : Int} (h : DiskAt w F S db bl bw gL gW s) (hn : gW n = none) : DiskAt w F (fun j => S j ∨ j = n) db bl bw gL gW (s.settled n) :=
  { h with
    aX := fun i j v l u m k h1 h2 h3 h4 => by
      obtain ⟨e1, e2⟩ := h.aX i j v l u m k h1 h2 h3 h4
      exact ⟨e1, Or.inl e2⟩
    sL := fun i => by
      show (if i = n then s.held n else s.L i) = _
      rw [← h.sL]
      by_cases e : i = n
      · rw [if_pos e, e]
        unfold PS.held
        rw [h.sW, hn]
        rfl
      · rw [if_neg e] }

theorem DiskAt.settle_empty {w w' : World} {n : Int} {v : Value} (h : DiskAt w F S db bl bw gL gW s) (hn : gW n = some (v, [])) (hm : MapAt w' bl (upd (vals gL) n none)) (hg : w.grownBy w' (some bl)) :
    DiskAt w' F (fun j => S j ∨ j = n) db bl bw (updG gL n none) gW (s.settled n) := by
  refine h.putL hg (by rw [vals_updG]; exact hm) ?_ ?_ ?_ ?_
  · intro i v l hi
    rcases updG_some hi with ⟨_, e⟩ | ⟨_, e⟩
    · cases e
    · exact h.oL i v l e
  · intro i j v l u m k h1 h2 h3 h4
    rcases updG_some h1 with ⟨_, e⟩ | ⟨_, e1⟩
    · cases e
    · rcases updG_some h2 with ⟨_, e⟩ | ⟨_, e2⟩
      · cases e
      · exact h.aL i j v l u m k e1 e2 h3 h4
  · intro i j v l u m k h1 h2 h3 h4
    rcases updG_some h1 with ⟨_, e⟩ | ⟨_, e1⟩
    · cases e
    · obtain ⟨e3, e4⟩ := h.aX i j v l u m k e1 h2 h3 h4
      exact ⟨e3, Or.inl e4⟩
  · intro i
    unfold updG
    by_cases e : i = n
    · rw [if_pos e, if_pos e]
      unfold PS.held
      rw [h.sW, hn]
      rfl
    · rw [if_neg e, if_neg e, h.sL]

theorem DiskAt.settle_some {w w' : World} {n : Int} {v : Value} {l : List UInt8} (h : DiskAt w F S db bl bw gL gW s) (hn : gW n = some (v, l)) (hl : l ≠ []) (hm : MapAt w' bl (upd (vals gL) n (some v))) (hg : w.grownBy w' (some bl)) :
    DiskAt w' F (fun j => S j ∨ j = n) db bl bw (updG gL n (some (v, l))) gW (s.settled n) := by
  refine h.putL hg (by rw [vals_updG]; exact hm) ?_ ?_ ?_ ?_
  · intro i u m hi
    rcases updG_some hi with ⟨rfl, e⟩ | ⟨_, e⟩
    · injection e with e
      injection e with e1 e2
      subst e1
      subst e2
      obtain ⟨r1, r2, r3, r4⟩ := h.oW i v l hn
      exact ⟨r1, hl, r2, r3, r4⟩
    · exact h.oL i u m e
  · intro i j v1 l1 u m k h1 h2 h3 h4
    rcases updG_some h1 with ⟨e0, e⟩ | ⟨n1, e1⟩
    · rcases updG_some h2 with ⟨e0', _⟩ | ⟨n2, e2⟩
      · exact e0.trans e0'.symm
      · injection e with e
        injection e with e3 e4
        subst e3
        exact absurd (h.aX j n u m v l k e2 hn h4 h3).1 n2
    · rcases updG_some h2 with ⟨e0', e⟩ | ⟨_, e2⟩
      · injection e with e
        injection e with e3 e4
        subst e3
        exact absurd (h.aX i n v1 l1 v l k e1 hn h3 h4).1 n1
      · exact h.aL i j v1 l1 u m k e1 e2 h3 h4
  · intro i j v1 l1 u m k h1 h2 h3 h4
    rcases updG_some h1 with ⟨e0, e⟩ | ⟨n1, e1⟩
    · injection e with e
      injection e with e3 e4
      subst e3
      have := h.aW n j v l u m k hn h2 h3 h4
      exact ⟨e0.trans this, Or.inr this.symm⟩
    · obtain ⟨e3, e4⟩ := h.aX i j v1 l1 u m k e1 h2 h3 h4
      exact ⟨e3, Or.inl e4⟩
  · intro i
    unfold updG
    by_cases e : i = n
    · rw [if_pos e, if_pos e]
      unfold PS.held
      rw [h.sW, hn]
      rfl
    · rw [if_neg e, if_neg e, h.sL]

def Settles (w : World) (F : Nat → Prop) (S : Int → Prop) (db bl bw : Nat) (gW : Ghost) (s : PS) (n : Int) (e : Ending) (w' : World) : Prop :=
  e = .returned (.tuple #[]) ∧ ∃ gL', DiskAt w' F (fun j => S j ∨ j = n) db bl bw gL' gW (s.settled n) ∧ (∃ row, w.grownBy w' row ∧ ∀ b, row = some b → b = bl)

set_option maxRecDepth 20000 in
set_option maxHeartbeats 400000 in
theorem settle_any (w : World) (n : Int) (h1 : -9223372036854775808 ≤ n) (h2 : n ≤ 9223372036854775807) (h : DiskAt w F S db bl bw gL gW s) :
    Calls Try.prog 51 #[.pointer (some ⟨db, 0, none⟩), .int .i64 n] w (Settles w F S db bl bw gW s n) := by
  have c1 := h.cell 1 (v := .map (some bl)) rfl
  have c2 := h.cell 2 (v := .map (some bw)) rfl
  have k2 := h.mW.look h1 h2
  have HD := Lib.hid h
  cases hW : gW n with
  | none =>
    rw [show vals gW n = none by unfold vals; rw [hW]; rfl] at k2
    simp only [Option.getD_none, Option.isSome_none] at k2
    have HW := Lib.hid hW
    clear h hW
    go_enter Try.func51, Try.ntmps51
    go_wp2_with fail
    go_end0
    exact ⟨rfl, gL, HD.out.settle_none HW.out, none, World.grownBy.refl _ _, fun b hb => by cases hb⟩
  | some p =>
    obtain ⟨v, l⟩ := p
    obtain ⟨o, r2, r3, r4, r5⟩ := h.oW n v l hW
    obtain ⟨A, c, rfl, hc, hz⟩ := own_slice o
    rw [show vals gW n = some (.slice A l.length c) by unfold vals; rw [hW]; rfl] at k2
    simp only [Option.getD_some, Option.isSome_some] at k2
    have HW := Lib.hid hW
    have HM := Lib.hid h.mL
    have hs4 := h.s4
    clear hW o r3 hz
    by_cases hl : l = []
    · subst hl
      clear h hs4
      go_enter Try.func51, Try.ntmps51
      go_wp2_with (at_delete; refine wpList_delete_at _ rfl _ _ rfl bl _ rfl HM.out n rfl h1 h2 ?_; intro w1 hm1 hg1)
      go_end0
      exact ⟨rfl, _, HD.out.settle_empty HW.out hm1 hg1, some bl, hg1, fun _ hb => (Option.some.inj hb).symm⟩
    · have hl0 : ((l.length : Int) == 0) = false := by
        rw [beq_eq_false_iff_ne]
        intro e
        exact hl (List.eq_nil_of_length_eq_zero (by omega))
      have HL := Lib.hid hl
      clear h hl
      go_enter Try.func51, Try.ntmps51
      go_wp2_with (at_mapUpdate; refine wpList_put_at _ rfl _ _ _ rfl bl _ rfl HM.out n _ rfl rfl (by omega) (by omega) ?_; intro w1 hm1 hg1)
      go_end0
      exact ⟨rfl, _, HD.out.settle_some HW.out HL.out hm1 hg1, some bl, hg1, fun _ hb => (Option.some.inj hb).symm⟩
end
end Go.Proofs.Ytgkdlbcpckdmkaa

/-
  What bytes.Clone comes to, at any bytes (at most 1000000), nil or not.
-/
namespace Go.Proofs.Ytgkdlbcpckdmkaa
open Go.RowKit

set_option maxRecDepth 20000 in
set_option maxHeartbeats 400000 in
theorem clone_some (ad : Addr) (n c R : Nat) (l : List UInt8) (w : World) (hx : Bys w R (some ad) l) (e : l.length = n) (hn : n ≤ 1000000) :
    Calls Try.prog 35 #[.slice (some ad) n c] w (Owned w.heap.size w l) := by
  have E := Lib.hid e
  clear e
  have hne := fun W => Lib.run_eql_slice_nil (P := Try.prog) W 33
  obtain ⟨i0, hi, hz0, hz1, hz2⟩ := info_parts byteInfo
  have hown0 : (w.alloc (.cells #[] 5)).ownsRow w.heap.size 5 1 (.slice (some ⟨w.heap.size, 0, none⟩) 0 0) 0 [] := World.ownsRow_made w #[] 0 (Nat.le_refl _) (by unfold maxLen; omega) rfl
  go_enter Try.func35, Try.ntmps35
  go_wp2_with (at_builtin; refine wpList_append_own _ rfl (.tmp 5) (.tmp 6) 33 rfl w.heap.size 5 i0 (.int .u8 0) 1 1 Try.underlying33 hi hz0 hz1 hz2 rfl (by decide) _ _ _ rfl hown0 ad n c (bv l) rfl (by rw [bv_length, E.out]; omega) (hx.alloc _).cells (bv_one _) (by unfold maxLen; omega) (by omega) (by simp) ?_; intro v1 w1 hown1 hg1 _)
  have b1 : Below w.heap.size w w1 := ((Below.refl _ _).alloc (Nat.le_refl _) _).grown hg1 (by simp) (fun g hg => (hown0.lt g hg).1)
  go_ret
  refine ⟨_, rfl, ?_, b1⟩
  unfold Own
  rw [E.out]
  simpa using hown1

set_option maxRecDepth 20000 in
theorem clone_nil (w : World) : Calls Try.prog 35 #[.slice none 0 0] w (Owned w.heap.size w []) := by
  have hne := fun W => Lib.run_eql_slice_nil (P := Try.prog) W 33
  go_enter Try.func35, Try.ntmps35
  go_wp2_with fail
  go_ret
  exact ⟨_, rfl, own_nil _ _, Below.refl _ _⟩

set_option maxRecDepth 20000 in
theorem clone_all (A : Option Addr) (n c R : Nat) (l : List UInt8) (w : World) (hx : Bys w R A l) (e : l.length = n) (hn : n ≤ 1000000) (hz : A = none → n = 0 ∧ c = 0) :
    Calls Try.prog 35 #[.slice A n c] w (Owned w.heap.size w l) := by
  rcases A with _ | ad
  · obtain ⟨rfl, rfl⟩ := hz rfl
    obtain rfl := hx.none_
    exact clone_nil w
  · exact clone_some ad n c R l w hx e hn

end Go.Proofs.Ytgkdlbcpckdmkaa

/-
  What the disk's calls come to: New, Size, Read.
-/
namespace Go.Proofs.Ytgkdlbcpckdmkaa
open Go.RowKit Go.Maps

/-- Bytes that lie outside of F. -/
def Out (w : World) (F : Nat → Prop) (A : Option Addr) (l : List UInt8) : Prop :=
  l = [] ∨ ∃ b off, A = some ⟨b, off, none⟩ ∧ ¬ F b ∧ ∀ i z, l[i]? = some z → w.cell? ⟨b, off + i, none⟩ = some (.int .u8 z.toNat)

section
variable {w w' : World} {F F' : Nat → Prop} {A : Option Addr} {l : List UInt8}

theorem Out.bys (h : Out w F A l) : Bys w w.heap.size A l := by
  rcases l with _ | ⟨y, l⟩
  · exact Or.inl rfl
  · rcases h with h | ⟨b, off, e, _, hc⟩
    · cases h
    · exact Or.inr ⟨b, off, e, World.block_lt_of_cell? _ _ (hc 0 y rfl), hc⟩

theorem Out.kept (h : Out w F A l) (hk : Kept F w w') : Out w' F A l := by
  rcases h with h | ⟨b, off, e, hF, hc⟩
  · exact Or.inl h
  · refine Or.inr ⟨b, off, e, hF, fun i z hz => ?_⟩
    have h0 := hc i z hz
    have hb := World.block_lt_of_cell? _ _ h0
    exact (World.cell?_of_block (w := w) (hk.block b hb hF)).trans h0

theorem Out.of_bys {R : Nat} (h : Bys w R A l) (hF : ∀ k, F k → R ≤ k) : Out w F A l := by
  rcases h with h | ⟨b, off, e, hR, hc⟩
  · exact Or.inl h
  · exact Or.inr ⟨b, off, e, fun hb => by have := hF b hb; omega, hc⟩

theorem Out.fewer (h : Out w F A l) (hF : ∀ k, F' k → F k ∨ w.heap.size ≤ k) : Out w F' A l := by
  rcases l with _ | ⟨y, l⟩
  · exact Or.inl rfl
  · rcases h with h | ⟨b, off, e, hb, hc⟩
    · cases h
    · refine Or.inr ⟨b, off, e, fun h' => ?_, hc⟩
      rcases hF b h' with h' | h'
      · exact hb h'
      · have : b < w.heap.size := World.block_lt_of_cell? _ _ (hc 0 y rfl)
        omega
end

/-- A new disk. -/
def Made (w : World) (n : Nat) (e : Ending) (w' : World) : Prop :=
  ∃ db F, e = .returned (.tuple #[.pointer (some ⟨db, 0, none⟩), .int .i64 0]) ∧ Dk w' F db (PS.new n) ∧ (∀ k, F k → w.heap.size ≤ k) ∧ Below w.heap.size w w'

set_option maxRecDepth 20000 in
theorem made_at (w : World) (n : Nat) (h2 : 2 ≤ n) (h4 : n ≤ 4096) :
    Dk (((w.alloc (.map #[] 0)).alloc (.map #[] 0)).alloc (.cells #[.int .i64 n, .map (some w.heap.size), .map (some (w.heap.size + 1)), .bool false, .bool false, .int .i64 0] 56)) (fun k => w.heap.size ≤ k ∧ k < w.heap.size + 3) (w.heap.size + 2) (PS.new n) := by
  refine ⟨w.heap.size, w.heap.size + 1, fun _ => none, fun _ => none, ?_⟩
  have m0 := mapAt_made w
  have m1 := mapAt_made (w.alloc (.map #[] 0))
  rw [show (w.alloc (.map #[] 0)).heap.size = w.heap.size + 1 by simp] at m1
  have e0 : ∀ o, ((w.alloc (.map #[] 0)).alloc o).heap[w.heap.size]? = (w.alloc (.map #[] 0)).heap[w.heap.size]? := fun o => Below.heap_alloc _ _ _ (by simp)
  have e1 : ∀ (w : World) o k, k < w.heap.size → (w.alloc o).heap[k]? = w.heap[k]? := fun w o k hk => Below.heap_alloc _ _ _ hk
  exact
    { str := by
        have := heap_alloc_new ((w.alloc (.map #[] 0)).alloc (.map #[] 0)) (.cells #[.int .i64 n, .map (some w.heap.size), .map (some (w.heap.size + 1)), .bool false, .bool false, .int .i64 0] 56)
        rw [show ((w.alloc (.map #[] 0)).alloc (.map #[] 0)).heap.size = w.heap.size + 2 by simp] at this
        exact this
      mL := (m0.block (e0 _)).block (e1 _ _ _ (by simp; omega))
      mW := m1.block (e1 _ _ _ (by simp))
      ne := by omega
      fd := by omega
      fl := by omega
      fw := by omega
      lt := fun k hk => by simp; omega
      oL := fun i v l hi => by cases hi
      oW := fun i v l hi => by cases hi
      aL := fun i j v l u m k hi => by cases hi
      aW := fun i j v l u m k hi => by cases hi
      aX := fun i j v l u m k hi => by cases hi
      sL := fun i => rfl
      sW := fun i => rfl
      s2 := h2
      s4 := h4
      fu := by show 0 ≤ _; omega }

set_option maxRecDepth 20000 in
theorem new_good (w : World) (n : Nat) (h2 : 2 ≤ n) (h4 : n ≤ 4096) : Calls Try.prog 8 #[.int .i64 n] w (Made w n) := by
  have HM := Lib.hid (made_at w n h2 h4)
  have hmm := @run_makeMap Try.prog
  go_enter Try.func8, Try.ntmps8
  go_wp2_with fail
  go_ret2
  exact ⟨w.heap.size + 2, _, rfl, HM.out, fun k hk => hk.1, (((Below.refl _ _).alloc (Nat.le_refl _) _).alloc (by simp) _).alloc (by simp; omega) _⟩

set_option maxRecDepth 20000 in
theorem new_bad (w : World) (n : Int) (h : n < 2 ∨ 4096 < n) : Calls Try.prog 8 #[.int .i64 n] w fun e w' => e = .returned (.tuple #[.pointer none, .int .i64 1]) ∧ w = w' := by
  by_cases h0 : n < 2
  · go_enter Try.func8, Try.ntmps8
    go_wp2_with fail
    go_ret2
    exact ⟨rfl, rfl⟩
  · have h1 : 4096 < n := by omega
    clear h
    go_enter Try.func8, Try.ntmps8
    go_wp2_with fail
    go_ret2
    exact ⟨rfl, rfl⟩

section
variable {F : Nat → Prop} {db : Nat} {s : PS}

set_option maxRecDepth 20000 in
theorem size_any (w : World) (h : Dk w F db s) : Calls Try.prog 25 #[.pointer (some ⟨db, 0, none⟩)] w fun e w' => e = .returned (.int .i64 s.size) ∧ w = w' := by
  obtain ⟨bl, bw, gL, gW, h⟩ := h
  have c0 := h.cell 0 (v := .int .i64 s.size) rfl
  clear h
  go_enter Try.func25, Try.ntmps25
  go_wp2_with fail
  go_ret
  exact ⟨rfl, rfl⟩

/-- What Read answers. -/
def ReadEnd (w : World) (l : List UInt8) (err : Int) (e : Ending) (w' : World) : Prop :=
  ∃ A c, e = .returned (.tuple #[.slice A l.length c, .int .i64 err]) ∧ Own w' w.heap.size (.slice A l.length c) l ∧ Below w.heap.size w w'

set_option maxRecDepth 20000 in
theorem read_any (w : World) (n : Int) (h1 : -9223372036854775808 ≤ n) (h2 : n ≤ 9223372036854775807) (h : Dk w F db s) :
    Calls Try.prog 13 #[.pointer (some ⟨db, 0, none⟩), .int .i64 n] w (ReadEnd w (s.readB n) (s.readE n)) := by
  obtain ⟨bl, bw, gL, gW, h⟩ := h
  have c0 := h.cell 0 (v := .int .i64 s.size) rfl
  have c3 := h.cell 3 (v := .bool s.down) rfl
  have HD := Lib.hid h
  by_cases hd : s.down = true
  · rw [hd] at c3
    have eB : s.readB n = [] := by unfold PS.readB; rw [if_pos hd]
    have eE : s.readE n = 40 := by unfold PS.readE; rw [if_pos hd]
    rw [eB, eE]
    clear h eB eE hd c0
    go_enter Try.func13, Try.ntmps13
    go_wp2_with fail
    go_ret2
    exact ⟨none, 0, rfl, own_nil _ _, Below.refl _ _⟩
  · have hd' : s.down = false := by simpa using hd
    rw [hd'] at c3
    by_cases hh : s.has n = true
    · have eB : s.readB n = s.held n := by unfold PS.readB; rw [if_neg hd, if_pos hh]
      have eE : s.readE n = 0 := by unfold PS.readE; rw [if_neg hd, if_pos hh]
      rw [eB, eE]
      have HC : Hid (Calls Try.prog 34 #[.pointer (some ⟨db, 0, none⟩), .int .i64 n] w fun e w' => e = .returned (.bool true) ∧ w = w') := hh ▸ has_any w db s n c0
      have hl := PS.held_le h.ok n
      clear h eB eE hd hd' hh
      go_enter Try.func13, Try.ntmps13
      go_wp2_with fail
      refine HC.out.mono ?_
      rintro e w' ⟨rfl, rfl⟩
      go_wp2_with fail
      refine (held_any w n h1 h2 HD.out).mono ?_
      rintro e w' ⟨rfl, rfl⟩
      have ho := (HD.out.held_own n).1
      generalize heldV gL gW n = v at *
      obtain ⟨A, c, rfl, hc, hz⟩ := own_slice ho
      go_wp2_with fail
      refine (clone_all A _ c _ (s.held n) w (own_bys ho) rfl (by omega) hz).mono ?_
      rintro e w1 ⟨v1, rfl, o1, b1⟩
      obtain ⟨A1, cc, rfl, _, _⟩ := own_slice o1
      clear ho hz hc
      go_wp2_with fail
      go_ret2
      exact ⟨A1, cc, rfl, o1, b1⟩
    · have hh' : s.has n = false := by simpa using hh
      have eB : s.readB n = [] := by unfold PS.readB; rw [if_neg hd, if_neg hh]
      have eE : s.readE n = 41 := by unfold PS.readE; rw [if_neg hd, if_neg hh]
      rw [eB, eE]
      have HC : Hid (Calls Try.prog 34 #[.pointer (some ⟨db, 0, none⟩), .int .i64 n] w fun e w' => e = .returned (.bool false) ∧ w = w') := hh' ▸ has_any w db s n c0
      clear h eB eE hd hd' hh hh'
      go_enter Try.func13, Try.ntmps13
      go_wp2_with fail
      refine HC.out.mono ?_
      rintro e w' ⟨rfl, rfl⟩
      go_wp2_with fail
      go_ret2
      exact ⟨none, 0, rfl, own_nil _ _, Below.refl _ _⟩
end
end Go.Proofs.Ytgkdlbcpckdmkaa

/-
  What the disk's Write comes to.
-/
namespace Go.Proofs.Ytgkdlbcpckdmkaa
open Go.RowKit Go.Maps

section
variable {F : Nat → Prop} {db bl bw : Nat} {gL gW : Ghost} {s : PS}

/-- Behind a write. -/
theorem DiskAt.laid {w w2 w3 : World} {n : Int} {v : Value} {l : List UInt8} (h : DiskAt w F (fun _ => False) db bl bw gL gW s) (hn : 0 ≤ n ∧ n < (s.size : Int)) (hl : l.length ≤ 1024)
    (hb : Below w.heap.size w w2) (ho : Own w2 w.heap.size v l) (hm : MapAt w3 bw (upd (vals gW) n (some v))) (hg : w2.grownBy w3 (some bw)) :
    DiskAt w3 (fun k => F k ∨ (w.heap.size ≤ k ∧ k < w2.heap.size)) (fun _ => False) db bl bw gL (updG gW n (some (v, l))) (s.lay n l) := by
  have h2 : DiskAt w2 (fun k => F k ∨ (w.heap.size ≤ k ∧ k < w2.heap.size)) (fun _ => False) db bl bw gL gW s :=
    (h.same (fun k hk => hb.block k (h.lt k hk)) hb.size).more (fun k hk => Or.inl hk) (fun k hk => by
      rcases hk with hk | hk
      · exact Nat.lt_of_lt_of_le (h.lt k hk) hb.size
      · exact hk.2)
  refine h2.putW hg (by rw [vals_updG]; exact hm) ?_ ?_ ?_ ?_
  · intro i u m hi
    rcases updG_some hi with ⟨rfl, e⟩ | ⟨_, e⟩
    · injection e with e
      injection e with e1 e2
      subst e1
      subst e2
      exact ⟨own_base ho, hl, fun k hk => Or.inr (ho.lt k hk), hn⟩
    · exact h2.oW i u m e
  · intro i j v1 l1 u m k h1 h2 h3 h4
    rcases updG_some h1 with ⟨e0, e⟩ | ⟨n1, e1⟩
    · rcases updG_some h2 with ⟨e0', _⟩ | ⟨n2, e2⟩
      · exact e0.trans e0'.symm
      · injection e with e
        injection e with e3 e4
        subst e3
        have := h.lt k ((h.oW j u m e2).2.2.1 k h4)
        have := (ho.lt k h3).1
        omega
    · rcases updG_some h2 with ⟨e0', e⟩ | ⟨_, e2⟩
      · injection e with e
        injection e with e3 e4
        subst e3
        have := h.lt k ((h.oW i v1 l1 e1).2.2.1 k h3)
        have := (ho.lt k h4).1
        omega
      · exact h.aW i j v1 l1 u m k e1 e2 h3 h4
  · intro i j v1 l1 u m k h1 h2 h3 h4
    rcases updG_some h2 with ⟨e0, e⟩ | ⟨n1, e1⟩
    · injection e with e
      injection e with e3 e4
      subst e3
      have := h.lt k ((h.oL i v1 l1 h1).2.2.2.1 k h3)
      have := (ho.lt k h4).1
      omega
    · exact h.aX i j v1 l1 u m k h1 e1 h3 h4
  · intro i
    unfold updG
    by_cases e : i = n
    · rw [if_pos e, if_pos e]
      rfl
    · rw [if_neg e, if_neg e]
      exact h.sW i

theorem undrew {w w' : World} (h : Below w.drew.heap.size w.drew w') : Below w.heap.size w w' := ⟨h.os, h.tape, h.output, h.size, h.block⟩

theorem PS.acted_has (s : PS) (n : Int) : s.acted.has n = s.has n := by
  unfold PS.acted PS.has
  split
  · split <;> rfl
  · rfl

theorem PS.acted_size (s : PS) : s.acted.size = s.size := by
  unfold PS.acted
  split
  · split <;> rfl
  · rfl

theorem PS.has_iff {s : PS} {n : Int} : s.has n = true ↔ 0 ≤ n ∧ n < (s.size : Int) := by unfold PS.has; exact decide_eq_true_iff

set_option maxRecDepth 20000 in
set_option maxHeartbeats 800000 in
theorem write_any (w : World) (n : Int) (h1 : -9223372036854775808 ≤ n) (h2 : n ≤ 9223372036854775807) (A : Option Addr) (m c : Nat) (l : List UInt8) (hl : l.length = m) (hx : Out w F A l) (hz : A = none → m = 0 ∧ c = 0) (h : Dk w F db s) :
    Calls Try.prog 49 #[.pointer (some ⟨db, 0, none⟩), .int .i64 n, .slice A m c] w (Goes w F db (s.written n l) (.int .i64 (s.writeE n l))) := by
  have h0 := h
  obtain ⟨bl, bw, gL, gW, h⟩ := h
  have c0 := h.cell 0 (v := .int .i64 s.size) rfl
  have c3 := h.cell 3 (v := .bool s.down) rfl
  have HD := Lib.hid h
  have HZ := Lib.hid hz
  have HX := Lib.hid hx
  have HL := Lib.hid hl
  have H0 := Lib.hid h0
  clear hz hx h0
  by_cases hd : s.down = true
  · rw [hd] at c3
    have eB : s.written n l = s := by unfold PS.written; rw [if_pos hd]
    have eE : s.writeE n l = 40 := by unfold PS.writeE; rw [if_pos hd]
    rw [eB, eE]
    clear h eB eE hd c0 hl
    go_enter Try.func49, Try.ntmps49
    go_wp2_with fail
    go_ret
    exact ⟨rfl, F, H0.out, fun k hk => Or.inl hk, Kept.refl _ _⟩
  · have hd' : s.down = false := by simpa using hd
    rw [hd'] at c3
    by_cases hb : s.bad n l = true
    · have eB : s.written n l = s := by unfold PS.written; rw [if_neg hd, if_pos hb]
      have eE : s.writeE n l = 41 := by unfold PS.writeE; rw [if_neg hd, if_pos hb]
      rw [eB, eE]
      unfold PS.bad at hb
      by_cases hh : s.has n = true
      · have HC : Hid (Calls Try.prog 34 #[.pointer (some ⟨db, 0, none⟩), .int .i64 n] w fun e w' => e = .returned (.bool true) ∧ w = w') := hh ▸ has_any w db s n c0
        have hm : 1024 < m := by rw [hh] at hb; simp at hb; omega
        clear h eB eE hd hd' hh hb hl
        go_enter Try.func49, Try.ntmps49
        go_wp2_with fail
        refine HC.out.mono ?_
        rintro e w' ⟨rfl, rfl⟩
        go_wp2_with fail
        go_ret
        exact ⟨rfl, F, H0.out, fun k hk => Or.inl hk, Kept.refl _ _⟩
      · have hh' : s.has n = false := by simpa using hh
        have HC : Hid (Calls Try.prog 34 #[.pointer (some ⟨db, 0, none⟩), .int .i64 n] w fun e w' => e = .returned (.bool false) ∧ w = w') := hh' ▸ has_any w db s n c0
        clear h eB eE hd hd' hh hh' hb hl
        go_enter Try.func49, Try.ntmps49
        go_wp2_with fail
        refine HC.out.mono ?_
        rintro e w' ⟨rfl, rfl⟩
        go_wp2_with fail
        go_ret
        exact ⟨rfl, F, H0.out, fun k hk => Or.inl hk, Kept.refl _ _⟩
    · have hb' := hb
      unfold PS.bad at hb'
      have hh : s.has n = true := by
        cases e : s.has n with
        | true => rfl
        | false => rw [e] at hb'; simp at hb'
      have hm : m ≤ 1024 := by rw [hh] at hb'; simp at hb'; omega
      have hn := PS.has_iff.1 hh
      have hs4 := h.s4
      have HC : Hid (Calls Try.prog 34 #[.pointer (some ⟨db, 0, none⟩), .int .i64 n] w fun e w' => e = .returned (.bool true) ∧ w = w') := hh ▸ has_any w db s n c0
      by_cases hmay : s.may = true
      · have eB : s.written n l = s.acted.lay n l := by unfold PS.written; rw [if_neg hd, if_neg hb, if_pos hmay]
        have eE : s.writeE n l = 0 := by unfold PS.writeE; rw [if_neg hd, if_neg hb, if_pos hmay]
        rw [eB, eE]
        have HA : Hid (Calls Try.prog 50 #[.pointer (some ⟨db, 0, none⟩)] w fun e w' => e = .returned (.bool true) ∧ DiskAt w' F (fun _ => False) db bl bw gL gW s.acted ∧ Kept F w w') := hmay ▸ act_any w h
        have HN : Hid (0 ≤ n ∧ n < (s.acted.size : Int)) := by rw [PS.acted_size]; exact hn
        clear h eB eE hd hd' hh hb hb' hmay
        go_enter Try.func49, Try.ntmps49
        go_wp2_with fail
        refine HC.out.mono ?_
        rintro e w' ⟨rfl, rfl⟩
        go_wp2_with fail
        refine HA.out.mono ?_
        rintro e w1 ⟨rfl, hd1, hk1⟩
        have c2 := hd1.cell 2 (v := .map (some bw)) rfl
        have HD1 := Lib.hid hd1
        have HK1 := Lib.hid hk1
        have HX1 := Lib.hid (HX.out.kept hk1).bys
        clear hd1 hk1 c0 c3 HC HA HX hl
        go_wp2_with fail
        have K0 : w1.drew.cell? ⟨db, 2, none⟩ = some (.map (some bw)) := c2
        go_region_held3 (fun w' => w'.cell? ⟨db, 2, none⟩ = some (.map (some bw)))
          (first | exact K2 | exact K1 | exact K0)
          (first
            | (go_at_call 35; refine (clone_all A m c _ l w1.drew HX1.out HL.out (by omega) HZ.out).mono ?_; rintro e w2 ⟨v, rfl, ho, hbl⟩; have K1 : w2.cell? ⟨db, 2, none⟩ = some (.map (some bw)) := (hbl.cell (World.block_lt_of_cell? _ _ K0)).trans K0; obtain ⟨w3, hrun, hm3, hg3⟩ := (HD1.out.mW.block (hbl.block _ (HD1.out.lt _ HD1.out.fw))).put (i := n) (by omega) (by omega) v; have K2 : w3.cell? ⟨db, 2, none⟩ = some (.map (some bw)) := (World.cell?_of_block (w := w2) (hg3.block db (World.block_lt_of_cell? _ _ K1) (fun e => HD1.out.db_ne.2 (Option.some.inj e).symm))).trans K1))
        go_wp2_with fail
        go_ret
        have hbu := undrew hbl
        have hou : Own w2 w1.heap.size v l := ho
        refine ⟨rfl, _, ⟨_, _, _, _, HD1.out.laid HN.out (by rw [HL.out]; omega) hbu hou hm3 hg3⟩, fun k hk => ?_, HK1.out.next ((Kept.below (w := w1) hbu F).next (Kept.grown hg3 HD1.out.fw))⟩
        rcases hk with hk | hk
        · exact Or.inl hk
        · exact Or.inr (Nat.le_trans HK1.out.size hk.1)
      · have hmay' : s.may = false := by simpa using hmay
        have eB : s.written n l = s.acted := by unfold PS.written; rw [if_neg hd, if_neg hb, if_neg hmay]
        have eE : s.writeE n l = 40 := by unfold PS.writeE; rw [if_neg hd, if_neg hb, if_neg hmay]
        rw [eB, eE]
        have HA : Hid (Calls Try.prog 50 #[.pointer (some ⟨db, 0, none⟩)] w fun e w' => e = .returned (.bool false) ∧ DiskAt w' F (fun _ => False) db bl bw gL gW s.acted ∧ Kept F w w') := hmay' ▸ act_any w h
        clear h eB eE hd hd' hh hb hb' hmay hmay' hl
        go_enter Try.func49, Try.ntmps49
        go_wp2_with fail
        refine HC.out.mono ?_
        rintro e w' ⟨rfl, rfl⟩
        go_wp2_with fail
        refine HA.out.mono ?_
        rintro e w1 ⟨rfl, hd1, hk1⟩
        go_wp2_with fail
        go_ret
        exact ⟨rfl, F, ⟨bl, bw, gL, gW, hd1⟩, fun k hk => Or.inl hk, hk1⟩
end
end Go.Proofs.Ytgkdlbcpckdmkaa

/-
  What the disk's Flush comes to.
-/
namespace Go.Proofs.Ytgkdlbcpckdmkaa
open Go.RowKit Go.Maps

section
variable {F : Nat → Prop} {db bl bw : Nat} {gL gW : Ghost} {s : PS}

/-- What a flush has made last so far: all but what is still to come. -/
def FlushL (s : PS) (left : Lit → Bool) : Int → List UInt8 := fun i => if left (.int .i64 i) then s.L i else s.held i

theorem flush_step {s : PS} {left : Lit → Bool} {x : Int} {l : List UInt8} (hx : s.W x = some l) :
    ({ s with L := FlushL s left }).settled x = { s with L := FlushL s (fun z => left z && !z.sameKey (.int .i64 x)) } := by
  unfold PS.settled
  congr 1
  funext j
  show (if j = x then ({ s with L := FlushL s left } : PS).held x else FlushL s left j) = FlushL s (fun z => left z && !z.sameKey (.int .i64 x)) j
  by_cases e : j = x
  · subst e
    rw [if_pos rfl]
    unfold FlushL PS.held
    simp [WideAt.sameKey_self (litKey j), hx]
  · rw [if_neg e]
    unfold FlushL
    simp [Maps.sameKey_ne (a := Lit.int .i64 j) (b := Lit.int .i64 x) (fun e' => e (by injection e'))]

theorem flush_start {w : World} {es : List (Lit × DataW Value)} (h : DiskAt w F (fun _ => False) db bl bw gL gW s) (hf : ∀ i v, vals gW i = some v ↔ (Lit.int .i64 i, DataW.held v) ∈ es) :
    { s with L := FlushL s (Maps.has (DataW.map es)) } = s := by
  have : FlushL s (Maps.has (DataW.map es)) = s.L := by
    funext i
    unfold FlushL
    cases hh : Maps.has (DataW.map es) (.int .i64 i) with
    | true => rfl
    | false =>
      have hn : gW i = none := by
        cases hg : gW i with
        | none => rfl
        | some p =>
          have : (Lit.int .i64 i, DataW.held p.1) ∈ es := (hf i p.1).1 (by unfold vals; rw [hg]; rfl)
          rw [has_mem (litKey i) this] at hh
          cases hh
      simp only [Bool.false_eq_true, if_false]
      unfold PS.held
      rw [h.sW, hn]
      rfl
  rw [this]

theorem flush_end {s : PS} {left : Lit → Bool} (hl : ∀ kl, left kl = false) : ({ ({ s with L := FlushL s left } : PS) with W := fun _ => none } : PS) = s.all := by
  have : FlushL s left = s.held := by
    funext i
    unfold FlushL
    rw [hl]
    rfl
  show ({ s with L := FlushL s left, W := fun _ => none } : PS) = _
  rw [this]
  rfl

/-- All that waits is cleared. -/
theorem DiskAt.cleared {w w' : World} {S : Int → Prop} (h : DiskAt w F S db bl bw gL gW s) (hm : MapAt w' bw (fun _ => none)) (hg : w.grownBy w' (some bw)) : DiskAt w' F (fun _ => False) db bl bw gL (fun _ => none) { s with W := fun _ => none } :=
  h.putW hg hm (fun i v l hi => by cases hi) (fun i j v l u m k hi => by cases hi) (fun i j v l u m k _ hi => by cases hi) (fun i => rfl)

/-- How a flush goes on. -/
def FlushRel (w : World) (F : Nat → Prop) (db bl bw : Nat) (gW : Ghost) (s : PS) (r n : Nat) (es : List (Lit × DataW Value)) (wr : World) : Prop :=
  ∃ left cnt gL' S, wr.ranges Try.prog 3 heldR bw r n (.map es) left cnt ∧ DiskAt wr F S db bl bw gL' gW { s with L := FlushL s left } ∧ Kept F w wr ∧ (∀ kl, left kl = true → ∃ i v, kl = .int .i64 i ∧ gW i = some v)

set_option maxRecDepth 20000 in
set_option maxHeartbeats 1600000 in
theorem flush_any (w : World) (h : Dk w F db s) :
    Calls Try.prog 33 #[.pointer (some ⟨db, 0, none⟩)] w (Goes w F db s.flushed (.int .i64 s.flushE)) := by
  have H0 := Lib.hid h
  obtain ⟨bl, bw, gL, gW, h⟩ := h
  have c3 := h.cell 3 (v := .bool s.down) rfl
  by_cases hd : s.down = true
  · rw [hd] at c3
    have eB : s.flushed = s := by unfold PS.flushed; rw [if_pos hd]
    have eE : s.flushE = 40 := by unfold PS.flushE; rw [if_pos hd]
    rw [eB, eE]
    clear h eB eE hd
    go_enter Try.func33, Try.ntmps33
    go_wp2_with fail
    go_ret
    exact ⟨rfl, F, H0.out, fun k hk => Or.inl hk, Kept.refl _ _⟩
  · have hd' : s.down = false := by simpa using hd
    rw [hd'] at c3
    by_cases hmay : s.may = true
    · have eB : s.flushed = s.acted.all := by unfold PS.flushed; rw [if_neg hd, if_pos hmay]
      have eE : s.flushE = 0 := by unfold PS.flushE; rw [if_neg hd, if_pos hmay]
      rw [eB, eE]
      have HA : Hid (Calls Try.prog 50 #[.pointer (some ⟨db, 0, none⟩)] w fun e w' => e = .returned (.bool true) ∧ DiskAt w' F (fun _ => False) db bl bw gL gW s.acted ∧ Kept F w w') := hmay ▸ act_any w h
      clear h eB eE hd hd' hmay H0
      generalize s.acted = s1 at *
      go_enter Try.func33, Try.ntmps33
      go_wp2_with fail
      refine HA.out.mono ?_
      rintro e w1 ⟨rfl, hd1, hk1⟩
      have c2 := hd1.cell 2 (v := .map (some bw)) rfl
      have HD1 := Lib.hid hd1
      have HK1 := Lib.hid hk1
      obtain ⟨n, es, ho, hk, hf⟩ := hd1.mW
      have HF := Lib.hid hf
      have HKY := Lib.hid hk
      have HO := Lib.hid ho
      clear hd1 hk1 c3 HA hk hf ho
      go_wp2_with (at_range; refine wpList_range_own _ rfl _ 54 rfl 3 33 keyLaw Try.underlying54 _ bw n _ rfl HO.out ?_; intro w0 hrg0 hg0 hs0)
      go_frame
      go_loopw [3] (fun _ wr => FlushRel w1 F db bl bw gW s1 w1.heap.size n es wr) (fun _ wr => wr.rangeLeft bw w1.heap.size)
      case atStart =>
        have hd0 := HD1.out.same (w' := w0) (fun k hk => hg0.block k (HD1.out.lt k hk) (by simp)) hg0.size
        refine ⟨_, _, gL, fun _ => False, hrg0, ?_, ⟨hg0.os, hg0.tape, hg0.output, hg0.size, fun k hk _ => hg0.block k hk (by simp)⟩, fun kl hkl => ?_⟩
        · rw [flush_start HD1.out HF.out]
          exact hd0
        · obtain ⟨d, hm⟩ := mem_has hkl
          obtain ⟨i, v, e, _⟩ := HKY.out _ hm
          injection e with e1 e2
          subst e1
          subst e2
          have := (HF.out i v).2 hm
          unfold vals at this
          obtain ⟨p, hp, _⟩ := Option.map_eq_some_iff.1 this
          exact ⟨i, p, rfl, hp⟩
      case round =>
        obtain ⟨left, cnt, gL', S, hrg, hd2, hk2, hlk0⟩ := hrel
        have c2r := hd2.cell 2 (v := .map (some bw)) rfl
        have HD2 := Lib.hid hd2
        have HK2 := Lib.hid hk2
        have HLK := Lib.hid hlk0
        clear hd2 hk2 hlk0 hrg0 hs0 hg0 c2
        go_wp2_with (at_next; refine wpList_next_ranges _ rfl _ rfl 3 keyLaw heldR encZ id (fun key kl hk => by obtain ⟨x, hx, _⟩ := Maps.keyOf_i64 Try.underlying3 hk; exact ⟨x, hx⟩) (fun v _ _ => ⟨v, rfl⟩) bw w1.heap.size n _ _ _ rfl hrg ?_ ?_)
        · intro hc0 hl0
          go_wp2_with (refine wpList_clear_at _ rfl (.tmp 32) rfl bw _ rfl HD2.out.mW ?_; intro w4 hm4 hg4)
          go_ret
          have hd4 := HD2.out.cleared hm4 hg4
          rw [flush_end hl0] at hd4
          exact ⟨rfl, F, hd4.rest, fun k hk => Or.inl hk, HK1.out.next (HK2.out.next (Kept.grown hg4 HD1.out.fw))⟩
        · intro x c kl yd yp w2 cnt2 hkey hlk hv hat hrg2 hlt hg2 hs2 hen
          obtain ⟨x', ex, rfl, _⟩ := Maps.keyOf_i64 Try.underlying3 hkey
          obtain rfl : x = x' := encZ_inj ex
          obtain ⟨i, p, ei, hp⟩ := HLK.out _ hlk
          obtain rfl : x = i := by injection ei
          have hd3 := HD2.out.same (w' := w2) (fun k hk => hg2.block k (HD2.out.lt k hk) (fun e => by have := HD1.out.lt k hk; injection e with e; omega)) hg2.size
          obtain ⟨_, _, _, hb1, hb2⟩ := hd3.oW x p.1 p.2 hp
          have hs4 : (s1.size : Int) ≤ 4096 := by have := HD1.out.s4; omega
          have hb3 : x < (s1.size : Int) := hb2
          have HD3 := Lib.hid hd3
          have HK3 : Hid (Kept F w1 w2) := HK2.out.trans (Kept.grown (F := (· = w1.heap.size)) hg2 rfl) (fun k e => Or.inr (by omega))
          clear hs2 hd3 hb2 hkey ei
          go_wp2_with fail
          refine (settle_any w2 x (by omega) (by omega) HD3.out).mono ?_
          rintro e w3 ⟨rfl, gL3, hd4, row, hg3, hrow⟩
          have hne1 : some bw ≠ row := fun e => HD1.out.ne (hrow _ e.symm).symm
          have hne2 : some w1.heap.size ≠ row := fun e => by have := hrow _ e.symm; have := HD1.out.lt _ HD1.out.fl; omega
          have hrg3 := hrg2.kept hg3 hne1 hne2
          have HD4 := Lib.hid hd4
          have HG3 := Lib.hid hg3
          have HRW := Lib.hid hrow
          clear hd4 hg3 hrow hne1 hne2
          go_wp2_with fail
          go_roundw
          case rel =>
            have hW : s1.W x = some p.2 := by
              have h5 := HD1.out.sW x
              rw [h5, hp]
              rfl
            have h6 := HD4.out
            rw [flush_step hW] at h6
            refine ⟨_, cnt2, gL3, _, hrg3, h6, ?_, ?_⟩
            · exact HK3.out.next ⟨HG3.out.os, HG3.out.tape, HG3.out.output, HG3.out.size, fun k hk hn => HG3.out.block k hk (fun e => hn (by rw [HRW.out k e.symm]; exact HD1.out.fl))⟩
            · intro kl hkl
              exact HLK.out kl (by simp only [Bool.and_eq_true] at hkl; exact hkl.1)
          case measure => rw [hrg3.left_eq, hrg.left_eq]; exact hlt
    · have hmay' : s.may = false := by simpa using hmay
      have eB : s.flushed = s.acted := by unfold PS.flushed; rw [if_neg hd, if_neg hmay]
      have eE : s.flushE = 40 := by unfold PS.flushE; rw [if_neg hd, if_neg hmay]
      rw [eB, eE]
      have HA : Hid (Calls Try.prog 50 #[.pointer (some ⟨db, 0, none⟩)] w fun e w' => e = .returned (.bool false) ∧ DiskAt w' F (fun _ => False) db bl bw gL gW s.acted ∧ Kept F w w') := hmay' ▸ act_any w h
      clear h eB eE hd hd' hmay hmay' H0
      go_enter Try.func33, Try.ntmps33
      go_wp2_with fail
      refine HA.out.mono ?_
      rintro e w1 ⟨rfl, hd1, hk1⟩
      go_wp2_with fail
      go_ret
      exact ⟨rfl, F, ⟨bl, bw, gL, gW, hd1⟩, fun k hk => Or.inl hk, hk1⟩
end
end Go.Proofs.Ytgkdlbcpckdmkaa

/-
  Numbers in memory, outside of a disk.
-/
namespace Go.Proofs.Ytgkdlbcpckdmkaa
open Go.RowKit

/-- Numbers that lie outside of F. -/
def OutN (w : World) (F : Nat → Prop) (A : Option Addr) (l : List Int) : Prop :=
  l = [] ∨ ∃ b off, A = some ⟨b, off, none⟩ ∧ ¬ F b ∧ ∀ i z, l[i]? = some z → w.cell? ⟨b, off + i, none⟩ = some (.int .i64 z) ∧ -9223372036854775808 ≤ z ∧ z ≤ 9223372036854775807

section
variable {w w' : World} {F F' : Nat → Prop} {A : Option Addr} {l : List Int}

theorem OutN.kept (h : OutN w F A l) (hk : Kept F w w') : OutN w' F A l := by
  rcases h with h | ⟨b, off, e, hF, hc⟩
  · exact Or.inl h
  · refine Or.inr ⟨b, off, e, hF, fun i z hz => ?_⟩
    obtain ⟨h0, h1⟩ := hc i z hz
    have hb := World.block_lt_of_cell? _ _ h0
    exact ⟨(World.cell?_of_block (w := w) (hk.block b hb hF)).trans h0, h1⟩

theorem OutN.fewer (h : OutN w F A l) (hF : ∀ k, F' k → F k ∨ w.heap.size ≤ k) : OutN w F' A l := by
  rcases l with _ | ⟨y, l⟩
  · exact Or.inl rfl
  · rcases h with h | ⟨b, off, e, hb, hc⟩
    · cases h
    · refine Or.inr ⟨b, off, e, fun h' => ?_, hc⟩
      rcases hF b h' with h' | h'
      · exact hb h'
      · have : b < w.heap.size := World.block_lt_of_cell? _ _ (hc 0 y rfl).1
        omega

theorem OutN.at_ (h : OutN w F A l) {k : Nat} (hk : k < l.length) :
    ∃ b off z, A = some ⟨b, off, none⟩ ∧ l[k]? = some z ∧ w.cell? ⟨b, off + k, none⟩ = some (.int .i64 z) ∧ -9223372036854775808 ≤ z ∧ z ≤ 9223372036854775807 := by
  rcases h with rfl | ⟨b, off, rfl, hb, hc⟩
  · exact absurd hk (by simp)
  · obtain ⟨h1, h2⟩ := hc k _ (List.getElem?_eq_getElem hk)
    exact ⟨b, off, l[k], rfl, List.getElem?_eq_getElem hk, h1, h2⟩
end
end Go.Proofs.Ytgkdlbcpckdmkaa

/-
  A disk in the midst of a law: what lies outside of it stays.
-/
namespace Go.Proofs.Ytgkdlbcpckdmkaa
open Go.RowKit Go.Maps

/-- A disk that was made since the world W. -/
structure Live (W : World) (F : Nat → Prop) (w : World) (db : Nat) (s : PS) : Prop where
  dk : Dk w F db s
  base : ∀ k, F k → W.heap.size ≤ k
  below : Below W.heap.size W w

/-- From w, with the disk's blocks F, to w', with F'. -/
structure Moves (w : World) (F : Nat → Prop) (w' : World) (F' : Nat → Prop) : Prop where
  kept : Kept F w w'
  news : ∀ k, F' k → F k ∨ w.heap.size ≤ k

def LGoes (W : World) (F : Nat → Prop) (w : World) (db : Nat) (s' : PS) (v : Value) (e : Ending) (w' : World) : Prop :=
  e = .returned v ∧ ∃ F', Live W F' w' db s' ∧ Moves w F w' F'

section
variable {W w w' w2 : World} {F F' F2 : Nat → Prop} {db : Nat} {s s' : PS}

theorem Dk.lt (h : Dk w F db s) : ∀ k, F k → k < w.heap.size := by
  obtain ⟨bl, bw, gL, gW, h⟩ := h
  exact h.lt

theorem Dk.ok (h : Dk w F db s) : s.Ok := by
  obtain ⟨bl, bw, gL, gW, h⟩ := h
  exact h.ok

theorem Dk.s2 (h : Dk w F db s) : 2 ≤ s.size := by
  obtain ⟨bl, bw, gL, gW, h⟩ := h
  exact h.s2

theorem Dk.s4 (h : Dk w F db s) : s.size ≤ 4096 := by
  obtain ⟨bl, bw, gL, gW, h⟩ := h
  exact h.s4

theorem Moves.trans (h : Moves w F w' F') (k : Moves w' F' w2 F2) : Moves w F w2 F2 :=
  ⟨h.kept.trans k.kept h.news, fun j hj => by
    rcases k.news j hj with h1 | h1
    · exact h.news j h1
    · exact Or.inr (Nat.le_trans h.kept.size h1)⟩

theorem Moves.of_below (h : Below w.heap.size w w') : Moves w F w' F := ⟨Kept.below h F, fun _ hk => Or.inl hk⟩

theorem Moves.out {A : Option Addr} {l : List UInt8} (h : Moves w F w' F') (o : Out w F A l) : Out w' F' A l := by
  rcases l with _ | ⟨y, l⟩
  · exact Or.inl rfl
  · rcases o with o | ⟨b, off, e, hb, hc⟩
    · cases o
    · have hlt : b < w.heap.size := World.block_lt_of_cell? _ _ (hc 0 y rfl)
      refine Or.inr ⟨b, off, e, fun h' => ?_, fun i z hz => (World.cell?_of_block (w := w) (h.kept.block b hlt hb)).trans (hc i z hz)⟩
      rcases h.news b h' with h' | h'
      · exact hb h'
      · omega

theorem Moves.outN {A : Option Addr} {l : List Int} (h : Moves w F w' F') (o : OutN w F A l) : OutN w' F' A l := by
  rcases l with _ | ⟨y, l⟩
  · exact Or.inl rfl
  · rcases o with o | ⟨b, off, e, hb, hc⟩
    · cases o
    · have hlt : b < w.heap.size := World.block_lt_of_cell? _ _ (hc 0 y rfl).1
      refine Or.inr ⟨b, off, e, fun h' => ?_, fun i z hz => ⟨(World.cell?_of_block (w := w) (h.kept.block b hlt hb)).trans (hc i z hz).1, (hc i z hz).2⟩⟩
      rcases h.news b h' with h' | h'
      · exact hb h'
      · omega

/-- A block outside of the disk stays. -/
theorem Moves.block (h : Moves w F w' F') {b : Nat} (hb : b < w.heap.size) (hF : ¬ F b) : w'.heap[b]? = w.heap[b]? ∧ ¬ F' b :=
  ⟨h.kept.block b hb hF, fun h' => by
    rcases h.news b h' with h' | h'
    · exact hF h'
    · omega⟩

theorem Live.le (h : Live W F w db s) : W.heap.size ≤ w.heap.size := h.below.size

theorem Live.goes {v : Value} {e : Ending} (h : Live W F w db s) (g : Goes w F db s' v e w') : LGoes W F w db s' v e w' := by
  obtain ⟨he, F', hd, hF, hk⟩ := g
  refine ⟨he, F', ⟨hd, fun k hk' => ?_, h.below.trans (hk.toBelow h.base h.le)⟩, hk, hF⟩
  rcases hF k hk' with h1 | h1
  · exact h.base k h1
  · exact Nat.le_trans h.le h1

theorem Live.next (h : Live W F w db s) (hb : Below w.heap.size w w') : Live W F w' db s :=
  ⟨h.dk.below hb, h.base, h.below.trans (hb.mono h.le)⟩

theorem Live.alloc (h : Live W F w db s) (o : Obj) : Live W F (w.alloc o) db s := h.next (below_one w o)

/-- Bytes just laid lie outside. -/
theorem Live.out_new (h : Live W F w db s) (l : List UInt8) (t : TypeId) : Out (w.alloc (.cells (bv l).toArray t)) F (some ⟨w.heap.size, 0, none⟩) l := by
  rcases bys_new w l t with e | ⟨b, off, e, _, hc⟩
  · exact Or.inl e
  · refine Or.inr ⟨b, off, e, fun hb => ?_, hc⟩
    have := h.dk.lt b hb
    injection e with e
    injection e with e1 e2
    omega

theorem Live.outN_one (h : Live W F w db s) (x : Int) (h1 : -9223372036854775808 ≤ x) (h2 : x ≤ 9223372036854775807) (t : TypeId) : OutN (w.alloc (.cells #[.int .i64 x] t)) F (some ⟨w.heap.size, 0, none⟩) [x] := by
  refine Or.inr ⟨w.heap.size, 0, rfl, fun hb => by have := h.dk.lt _ hb; omega, fun i z hz => ?_⟩
  rcases i with _ | i
  · obtain rfl : x = z := by simpa using hz
    exact ⟨by simp, h1, h2⟩
  · simp at hz

/-- What was read lies outside. -/
theorem own_out {A : Option Addr} {n c : Nat} {l : List UInt8} (h : Dk w F db s) (o : Own w' w.heap.size (.slice A n c) l) : Out w' F A l := by
  have hb := own_bys o
  rcases hb with hb | ⟨b, off, e, _, hc⟩
  · exact Or.inl hb
  · refine Or.inr ⟨b, off, e, fun hF => ?_, hc⟩
    have h1 := h.lt b hF
    have h2 := (o.lt b (by rw [e]; rfl)).1
    omega

theorem Out.first {A : Option Addr} {y : UInt8} {l : List UInt8} (o : Out w F A (y :: l)) : ∃ b off, A = some ⟨b, off, none⟩ ∧ w.cell? ⟨b, off, none⟩ = some (.int .u8 y.toNat) := by
  rcases o with o | ⟨b, off, e, _, hc⟩
  · cases o
  · exact ⟨b, off, e, hc 0 y rfl⟩
end

section
variable {W : World} {F : Nat → Prop} {db : Nat} {s : PS}

set_option maxRecDepth 20000 in
theorem write_live (w : World) (n : Int) (h1 : -9223372036854775808 ≤ n) (h2 : n ≤ 9223372036854775807) (A : Option Addr) (m c : Nat) (l : List UInt8) (hl : l.length = m) (hx : Out w F A l) (hz : A = none → m = 0 ∧ c = 0) (h : Live W F w db s) :
    Calls Try.prog 49 #[.pointer (some ⟨db, 0, none⟩), .int .i64 n, .slice A m c] w (LGoes W F w db (s.written n l) (.int .i64 (s.writeE n l))) :=
  (write_any w n h1 h2 A m c l hl hx hz h.dk).mono fun _ _ g => h.goes g
set_option maxRecDepth 20000 in
theorem flush_live (w : World) (h : Live W F w db s) :
    Calls Try.prog 33 #[.pointer (some ⟨db, 0, none⟩)] w (LGoes W F w db s.flushed (.int .i64 s.flushE)) :=
  (flush_any w h.dk).mono fun _ _ g => h.goes g
/-- What Read answers, in the midst of a law. -/
def LRead (W : World) (F : Nat → Prop) (w : World) (db : Nat) (s : PS) (l : List UInt8) (err : Int) (e : Ending) (w' : World) : Prop :=
  ∃ A c, e = .returned (.tuple #[.slice A l.length c, .int .i64 err]) ∧ Out w' F A l ∧ Live W F w' db s ∧ Moves w F w' F

set_option maxRecDepth 20000 in
theorem read_live (w : World) (n : Int) (h1 : -9223372036854775808 ≤ n) (h2 : n ≤ 9223372036854775807) (h : Live W F w db s) :
    Calls Try.prog 13 #[.pointer (some ⟨db, 0, none⟩), .int .i64 n] w (LRead W F w db s (s.readB n) (s.readE n)) :=
  (read_any w n h1 h2 h.dk).mono fun _ _ ⟨A, c, he, ho, hb⟩ => ⟨A, c, he, own_out h.dk ho, h.next hb, Moves.of_below hb⟩

/-- A new disk, in the midst of a law. -/
def LMade (W w : World) (n : Nat) (e : Ending) (w' : World) : Prop :=
  ∃ db F, e = .returned (.tuple #[.pointer (some ⟨db, 0, none⟩), .int .i64 0]) ∧ Live W F w' db (PS.new n) ∧ Below w.heap.size w w' ∧ ∀ k, F k → w.heap.size ≤ k

set_option maxRecDepth 20000 in
theorem new_live (w : World) (n : Nat) (h2 : 2 ≤ n) (h4 : n ≤ 4096) (hb : Below W.heap.size W w) : Calls Try.prog 8 #[.int .i64 n] w (LMade W w n) :=
  (new_good w n h2 h4).mono fun _ _ ⟨db, F, he, hd, hF, hb'⟩ => ⟨db, F, he, ⟨hd, fun k hk => Nat.le_trans hb.size (hF k hk), hb.trans (hb'.mono hb.size)⟩, hb', hF⟩
end

theorem PS.written_size (s : PS) (n : Int) (l : List UInt8) : (s.written n l).size = s.size := by
  unfold PS.written
  split
  · rfl
  · split
    · rfl
    · split
      · exact PS.acted_size s
      · exact PS.acted_size s
theorem PS.flushed_size (s : PS) : s.flushed.size = s.size := by
  unfold PS.flushed
  split
  · rfl
  · split
    · exact PS.acted_size s
    · exact PS.acted_size s
end Go.Proofs.Ytgkdlbcpckdmkaa

/-
  What is meant by a list of ints in memory, and by one of one's own.
-/
namespace Go.Proofs.Ytgkdlbcpckdmkaa
open Go.RowKit

set_option maxRecDepth 20000 in
theorem intInfo : (Try.prog.info? 3).map (fun i => (i.zero, i.size, i.bytes)) = some (some (.int .i64 0), 1, 8) := by kernel_rfl

/-- A slice of ints, at address A, whose elements are zs. -/
def Ints (w : World) (A : Option Addr) (zs : List Int) : Prop :=
  zs = [] ∨ ∃ b off, A = some ⟨b, off, none⟩ ∧ ∀ i z, zs[i]? = some z → w.cell? ⟨b, off + i, none⟩ = some (.int .i64 z)

theorem Ints.below {w w' : World} {A : Option Addr} {zs : List Int} (h : Ints w A zs) (hb : Below w.heap.size w w') : Ints w' A zs := by
  rcases h with rfl | ⟨b, off, rfl, hc⟩
  · exact Or.inl rfl
  · refine Or.inr ⟨b, off, rfl, fun i z hz => ?_⟩
    have h0 := hc i z hz
    have hlt : b < w.heap.size := World.block_lt_of_cell? _ _ h0
    exact (hb.cell (p := ⟨b, _, none⟩) hlt).trans h0

theorem Ints.at_ {w : World} {A : Option Addr} {zs : List Int} (h : Ints w A zs) {k : Nat} (hk : k < zs.length) :
    ∃ b off z, A = some ⟨b, off, none⟩ ∧ zs[k]? = some z ∧ w.cell? ⟨b, off + k, none⟩ = some (.int .i64 z) := by
  rcases h with rfl | ⟨b, off, rfl, hc⟩
  · exact absurd hk (by simp)
  · exact ⟨b, off, zs[k], rfl, List.getElem?_eq_getElem hk, hc k _ (List.getElem?_eq_getElem hk)⟩

/-- The cells of a list of ints. -/
def intVals (zs : List Int) : List Value := zs.map (Value.int .i64)

theorem ints_of_own {w : World} {base e : Nat} {v : Value} {zs : List Int} (h : w.ownsRow base e 1 v zs.length (intVals zs)) :
    ∃ A c, v = .slice A zs.length c ∧ Ints w A zs := by
  rcases h.2 with ⟨rfl, h0⟩ | ⟨g, cap, cur, rfl, _⟩
  · have : zs = [] := by simpa [intVals] using h0
    subst this
    exact ⟨none, 0, rfl, Or.inl rfl⟩
  · refine ⟨_, _, rfl, Or.inr ⟨g, 0, rfl, fun i z hz => ?_⟩⟩
    have := h.cells (g := g) rfl i (.int .i64 z) (by simp [intVals, hz])
    rw [Addr.add] at this
    split at this
    · rename_i hi
      have hi0 : i = 0 := by simpa using hi
      subst hi0
      exact this
    · exact this

end Go.Proofs.Ytgkdlbcpckdmkaa

/-
  The plain clock: what each call answers, and how it stands behind it. Nothing here names the program.
-/
namespace Go.Proofs.Ytgkdlbcpckdmkaa

/-- A clock: how many places, how often each is pinned, whether it was used, the hand. -/
structure CS where
  n : Nat
  p : Nat → Nat
  u : Nat → Bool
  h : Nat

namespace CS
def new (n : Nat) : CS := ⟨n, fun _ => 0, fun _ => false, 0⟩
def has (s : CS) (i : Int) : Bool := decide (0 ≤ i ∧ i < (s.n : Int))
def setU (s : CS) (i : Nat) (b : Bool) : CS := { s with u := fun j => if j = i then b else s.u j }
def setP (s : CS) (i k : Nat) : CS := { s with p := fun j => if j = i then k else s.p j }
def useE (s : CS) (i : Int) : Int := if s.has i then 0 else 1
def useS (s : CS) (i : Int) : CS := if s.has i then s.setU i.toNat true else s
def pinS (s : CS) (i : Int) : CS := if s.has i then s.setP i.toNat (s.p i.toNat + 1) else s
def un (s : CS) (i : Int) : Bool := s.has i && s.p i.toNat != 0
def unE (s : CS) (i : Int) : Int := if s.un i then 0 else 1
def unS (s : CS) (i : Int) : CS := if s.un i then s.setP i.toNat (s.p i.toNat - 1) else s
/-- The hand is at the next place. -/
def next (s : CS) : CS := { s with h := (s.h + 1) % s.n }
/-- The hand goes till a place may go; at most so often. -/
def go : Nat → CS → Option (Nat × CS)
  | 0, _ => none
  | k + 1, s => if s.p s.h = 0 then (if s.u s.h then go k (s.setU s.h false).next else some (s.h, s.next)) else go k s.next
def free (s : CS) : Bool := (List.range s.n).any fun j => s.p j == 0
def way (s : CS) : Option (Nat × CS) := if s.free then go (2 * s.n) s else none
def vicI (s : CS) : Int := match s.way with | some r => r.1 | none => 0
def vicE (s : CS) : Int := match s.way with | some _ => 0 | none => 60
def vicS (s : CS) : CS := match s.way with | some r => r.2 | none => s
def pinsL (s : CS) : List Int := (List.range s.n).map fun j => (s.p j : Int)
def usedL (s : CS) : List Bool := (List.range s.n).map s.u
/-- One call of a script. -/
def doneS (s : CS) (k i : Int) : CS := if k = 1 then s.useS i else if k = 2 then s.pinS i else if k = 3 then s.unS i else if k = 4 then s.vicS else s

theorem free_iff (s : CS) : s.free = true ↔ ∃ j, j < s.n ∧ s.p j = 0 := by
  unfold free
  rw [List.any_eq_true]
  constructor
  · rintro ⟨j, hj, h⟩
    exact ⟨j, List.mem_range.1 hj, by simpa using h⟩
  · rintro ⟨j, hj, h⟩
    exact ⟨j, List.mem_range.2 hj, by simpa using h⟩

theorem mod_next {h n : Nat} (hh : h < n) : (h + 1) % n = if h + 1 = n then 0 else h + 1 := by
  split
  · rename_i e
    rw [e, Nat.mod_self]
  · exact Nat.mod_eq_of_lt (by omega)

/-- The place that is d behind the hand. -/
def at_ (s : CS) (d : Nat) : Nat := if s.h + d < s.n then s.h + d else s.h + d - s.n

theorem next_h {s : CS} (hh : s.h < s.n) : s.next.h = if s.h + 1 = s.n then 0 else s.h + 1 := mod_next hh
theorem next_lt {s : CS} (hh : s.h < s.n) : s.next.h < s.next.n := Nat.mod_lt _ (by show 0 < s.n; omega)
theorem next_at {s : CS} (hh : s.h < s.n) {d : Nat} (hd : d + 1 < s.n) : s.next.at_ d = s.at_ (d + 1) := by
  unfold at_
  rw [next_h hh]
  show (if (if s.h + 1 = s.n then 0 else s.h + 1) + d < s.n then _ else _) = _
  by_cases e : s.h + 1 = s.n
  · rw [if_pos e, if_pos (by omega), if_neg (by omega)]
    omega
  · rw [if_neg e]
    by_cases h2 : s.h + 1 + d < s.n
    · rw [if_pos h2, if_pos (by omega)]
      omega
    · rw [if_neg h2, if_neg (by omega)]
      show s.h + 1 + d - s.n = _
      omega
theorem at_zero {s : CS} (hh : s.h < s.n) : s.at_ 0 = s.h := by
  unfold at_
  rw [if_pos (by omega)]
  omega
theorem at_ne {s : CS} {d : Nat} (h0 : 0 < d) (hd : d < s.n) : s.at_ d ≠ s.h := by
  unfold at_
  split <;> omega

theorem go_more : ∀ (k : Nat) (s : CS) (r : Nat × CS), go k s = some r → go (k + 1) s = some r
  | 0, _, _, h => by cases h
  | k + 1, s, r, h => by
    rw [go] at h ⊢
    split
    · rename_i h1
      rw [if_pos h1] at h
      split
      · rename_i h2
        rw [if_pos h2] at h
        exact go_more k _ r h
      · rename_i h2
        rw [if_neg h2] at h
        exact h
    · rename_i h1
      rw [if_neg h1] at h
      exact go_more k _ r h

theorem go_le {k m : Nat} {s : CS} {r : Nat × CS} (h : go k s = some r) (hm : k ≤ m) : go m s = some r := by
  obtain ⟨d, rfl⟩ : ∃ d, m = k + d := ⟨m - k, by omega⟩
  induction d with
  | zero => exact h
  | succ d ih => exact go_more _ _ _ (ih (by omega))

/-- A place that is free and was not used ends the way. -/
theorem go_fresh : ∀ (d : Nat) (s : CS), s.h < s.n → d < s.n → s.p (s.at_ d) = 0 → s.u (s.at_ d) = false → ∃ r, go (d + 1) s = some r
  | 0, s, hh, _, h1, h2 => by
    rw [at_zero hh] at h1 h2
    rw [go, if_pos h1, if_neg (by rw [h2]; decide)]
    exact ⟨_, rfl⟩
  | d + 1, s, hh, hd, h1, h2 => by
    rw [go]
    split
    · split
      · refine go_fresh d (s.setU s.h false).next (next_lt (s := s.setU s.h false) hh) (by show d < s.n; omega) ?_ ?_
        · rw [next_at (s := s.setU s.h false) hh (by show d + 1 < s.n; omega)]
          exact h1
        · rw [next_at (s := s.setU s.h false) hh (by show d + 1 < s.n; omega)]
          show (if s.at_ (d + 1) = s.h then false else s.u (s.at_ (d + 1))) = false
          rw [if_neg (at_ne (by omega) hd)]
          exact h2
      · exact ⟨_, rfl⟩
    · refine go_fresh d s.next (next_lt hh) (by show d < s.n; omega) ?_ ?_
      · rw [next_at hh (by omega)]
        exact h1
      · rw [next_at hh (by omega)]
        exact h2

theorem at_last {s : CS} (hh : s.h < s.n) : s.next.at_ (s.n - 1) = s.h := by
  unfold at_
  rw [next_h hh]
  show (if (if s.h + 1 = s.n then 0 else s.h + 1) + (s.n - 1) < s.n then _ else (if s.h + 1 = s.n then 0 else s.h + 1) + (s.n - 1) - s.n) = _
  by_cases e : s.h + 1 = s.n
  · rw [if_pos e, if_pos (by omega)]
    omega
  · rw [if_neg e, if_neg (by omega)]
    omega

/-- A place that is free ends the way. -/
theorem go_free : ∀ (d : Nat) (s : CS), s.h < s.n → d < s.n → s.p (s.at_ d) = 0 → ∃ r, go (d + 1 + s.n) s = some r
  | 0, s, hh, _, h1 => by
    have h0 := at_zero hh
    rw [h0] at h1
    rw [Nat.add_right_comm, go, if_pos h1]
    split
    · have := go_fresh (s.n - 1) (s.setU s.h false).next (next_lt (s := s.setU s.h false) hh) (by show s.n - 1 < s.n; omega) (by
        rw [show (s.setU s.h false).next.at_ (s.n - 1) = s.h from at_last (s := s.setU s.h false) hh]
        exact h1) (by
        rw [show (s.setU s.h false).next.at_ (s.n - 1) = s.h from at_last (s := s.setU s.h false) hh]
        show (if s.h = s.h then false else _) = false
        rw [if_pos rfl])
      rw [show s.n - 1 + 1 = 0 + s.n by omega] at this
      exact this
    · exact ⟨_, rfl⟩
  | d + 1, s, hh, hd, h1 => by
    rw [show d + 1 + 1 + s.n = (d + 1 + s.n) + 1 by omega, go]
    split
    · split
      · refine go_free d (s.setU s.h false).next (next_lt (s := s.setU s.h false) hh) (by show d < s.n; omega) ?_
        rw [next_at (s := s.setU s.h false) hh (by show d + 1 < s.n; omega)]
        exact h1
      · exact ⟨_, rfl⟩
    · refine go_free d s.next (next_lt hh) (by show d < s.n; omega) ?_
      rw [next_at hh (by omega)]
      exact h1

theorem at_of {s : CS} (hh : s.h < s.n) {j : Nat} (hj : j < s.n) : ∃ d, d < s.n ∧ s.at_ d = j := by
  by_cases h : s.h ≤ j
  · refine ⟨j - s.h, by omega, ?_⟩
    unfold at_
    rw [if_pos (by omega)]
    omega
  · refine ⟨j + s.n - s.h, by omega, ?_⟩
    unfold at_
    rw [if_neg (by omega)]
    omega

theorem go_ends {s : CS} (hh : s.h < s.n) (hf : s.free = true) : ∃ r, go (2 * s.n) s = some r := by
  obtain ⟨j, hj, h0⟩ := (free_iff s).1 hf
  obtain ⟨d, hd, rfl⟩ := at_of hh hj
  obtain ⟨r, hr⟩ := go_free d s hh hd h0
  exact ⟨r, go_le hr (by omega)⟩

/-- What the way comes to. -/
structure Went (s : CS) (r : Nat × CS) : Prop where
  lt : r.1 < s.n
  p0 : s.p r.1 = 0
  n_ : r.2.n = s.n
  p_ : r.2.p = s.p
  h_ : r.2.h = (r.1 + 1) % s.n
  u_ : ∀ j, r.2.u j = true → s.u j = true

theorem go_went : ∀ (k : Nat) (s : CS) (r : Nat × CS), s.h < s.n → go k s = some r → Went s r
  | 0, _, _, _, h => by cases h
  | k + 1, s, r, hh, h => by
    rw [go] at h
    split at h
    · rename_i h1
      split at h
      · have g := go_went k _ r (next_lt (s := s.setU s.h false) hh) h
        refine ⟨g.lt, g.p0, g.n_, g.p_, g.h_, fun j hj => ?_⟩
        have := g.u_ j hj
        have h2 : (if j = s.h then false else s.u j) = true := this
        split at h2
        · cases h2
        · exact h2
      · obtain rfl := Option.some.inj h
        exact ⟨hh, h1, rfl, rfl, rfl, fun _ hj => hj⟩
    · have g := go_went k _ r (next_lt hh) h
      exact ⟨g.lt, g.p0, g.n_, g.p_, g.h_, g.u_⟩

/-- Where a free place was not used, the place that goes was not used. -/
theorem go_fair : ∀ (d : Nat) (k : Nat) (s : CS) (r : Nat × CS), s.h < s.n → d < s.n → s.p (s.at_ d) = 0 → s.u (s.at_ d) = false → go k s = some r → s.u r.1 = false ∧ ∃ e, e ≤ d ∧ r.1 = s.at_ e
  | _, 0, _, _, _, _, _, _, h => by cases h
  | 0, k + 1, s, r, hh, _, h1, h2, h => by
    rw [at_zero hh] at h1 h2
    rw [go, if_pos h1, if_neg (by rw [h2]; decide)] at h
    obtain rfl := Option.some.inj h
    exact ⟨h2, 0, Nat.le_refl _, (at_zero hh).symm⟩
  | d + 1, k + 1, s, r, hh, hd, h1, h2, h => by
    rw [go] at h
    split at h
    · split at h
      · obtain ⟨g, e, he, hr⟩ := go_fair d k (s.setU s.h false).next r (next_lt (s := s.setU s.h false) hh) (by show d < s.n; omega) (by
          rw [next_at (s := s.setU s.h false) hh (by show d + 1 < s.n; omega)]
          exact h1) (by
          rw [next_at (s := s.setU s.h false) hh (by show d + 1 < s.n; omega)]
          show (if s.at_ (d + 1) = s.h then false else s.u (s.at_ (d + 1))) = false
          rw [if_neg (at_ne (by omega) hd)]
          exact h2) h
        rw [next_at (s := s.setU s.h false) hh (by show e + 1 < s.n; omega)] at hr
        have hr' : r.1 = s.at_ (e + 1) := hr
        refine ⟨?_, e + 1, by omega, hr'⟩
        have g' : (if r.1 = s.h then false else s.u r.1) = false := g
        rw [if_neg (by rw [hr']; exact at_ne (by omega) (by omega))] at g'
        exact g'
      · rename_i h3 h4
        obtain rfl := Option.some.inj h
        exact ⟨by simpa using h4, 0, Nat.zero_le _, (at_zero hh).symm⟩
    · obtain ⟨g, e, he, hr⟩ := go_fair d k s.next r (next_lt hh) (by show d < s.n; omega) (by
        rw [next_at hh (by omega)]
        exact h1) (by
        rw [next_at hh (by omega)]
        exact h2) h
      rw [next_at hh (by omega)] at hr
      exact ⟨g, e + 1, by omega, hr⟩

theorem way_of {s : CS} (hh : s.h < s.n) (hf : s.free = true) : ∃ r, s.way = some r ∧ go (2 * s.n) s = some r ∧ Went s r := by
  obtain ⟨r, hr⟩ := go_ends hh hf
  refine ⟨r, ?_, hr, go_went _ _ _ hh hr⟩
  unfold way
  rw [if_pos hf]
  exact hr

theorem way_no {s : CS} (hf : s.free = false) : s.way = none := by
  unfold way
  rw [if_neg (by rw [hf]; decide)]

theorem vic_of {s : CS} {r : Nat × CS} (h : s.way = some r) : s.vicI = r.1 ∧ s.vicE = 0 ∧ s.vicS = r.2 := by
  unfold vicI vicE vicS
  rw [h]
  exact ⟨rfl, rfl, rfl⟩

theorem vic_no {s : CS} (h : s.free = false) : s.vicI = 0 ∧ s.vicE = 60 ∧ s.vicS = s := by
  unfold vicI vicE vicS
  rw [way_no h]
  exact ⟨rfl, rfl, rfl⟩

theorem useS_n (s : CS) (i : Int) : (s.useS i).n = s.n := by unfold useS; split <;> rfl
theorem pinS_n (s : CS) (i : Int) : (s.pinS i).n = s.n := by unfold pinS; split <;> rfl
theorem unS_n (s : CS) (i : Int) : (s.unS i).n = s.n := by unfold unS; split <;> rfl
theorem vicS_n {s : CS} (hh : s.h < s.n) : s.vicS.n = s.n := by
  cases hf : s.free with
  | false => rw [(vic_no hf).2.2]
  | true =>
    obtain ⟨r, hw, _, g⟩ := way_of hh hf
    rw [(vic_of hw).2.2, g.n_]
theorem doneS_n {s : CS} (hh : s.h < s.n) (k i : Int) : (s.doneS k i).n = s.n := by
  unfold doneS
  split
  · exact useS_n s i
  · split
    · exact pinS_n s i
    · split
      · exact unS_n s i
      · split
        · exact vicS_n hh
        · rfl

/-- No place is pinned oftener. -/
def Max (s : CS) (m : Nat) : Prop := ∀ j, s.p j ≤ m
theorem Max.up {s : CS} {m k : Nat} (h : s.Max m) (hk : m ≤ k) : s.Max k := fun j => Nat.le_trans (h j) hk
theorem Max.use {s : CS} {m : Nat} (h : s.Max m) (i : Int) : (s.useS i).Max m := by unfold useS; split <;> exact h
theorem Max.pin {s : CS} {m : Nat} (h : s.Max m) (i : Int) : (s.pinS i).Max (m + 1) := by
  unfold pinS
  split
  · intro j
    show (if j = i.toNat then _ else _) ≤ _
    have := h i.toNat
    have := h j
    split <;> omega
  · exact h.up (by omega)
theorem Max.un {s : CS} {m : Nat} (h : s.Max m) (i : Int) : (s.unS i).Max m := by
  unfold unS
  split
  · intro j
    show (if j = i.toNat then _ else _) ≤ _
    have := h i.toNat
    have := h j
    split <;> omega
  · exact h
theorem Max.vic {s : CS} {m : Nat} (h : s.Max m) (hh : s.h < s.n) : s.vicS.Max m := by
  cases hf : s.free with
  | false => rw [(vic_no hf).2.2]; exact h
  | true =>
    obtain ⟨r, hw, _, g⟩ := way_of hh hf
    rw [(vic_of hw).2.2]
    intro j
    rw [g.p_]
    exact h j
theorem Max.done {s : CS} {m : Nat} (h : s.Max m) (hh : s.h < s.n) (k i : Int) : (s.doneS k i).Max (m + 1) := by
  unfold doneS
  split
  · exact (h.use i).up (by omega)
  · split
    · exact h.pin i
    · split
      · exact (h.un i).up (by omega)
      · split
        · exact (h.vic hh).up (by omega)
        · exact h.up (by omega)
end CS
end Go.Proofs.Ytgkdlbcpckdmkaa

/-
  What is meant by a clock in memory.
-/
namespace Go.Proofs.Ytgkdlbcpckdmkaa
open Go.RowKit

/-- What lies at place k of the places' cells: pins, and whether it was used, by turns. -/
def plc (s : CS) (k : Nat) : Value := if k % 2 = 0 then .int .i64 (s.p (k / 2)) else .bool (s.u (k / 2))

theorem plc_p (s : CS) (i : Nat) : plc s (i * 2) = .int .i64 (s.p i) := by
  unfold plc
  rw [if_pos (by omega), show i * 2 / 2 = i by omega]
theorem plc_u (s : CS) (i : Nat) : plc s (i * 2 + 1) = .bool (s.u i) := by
  unfold plc
  rw [if_neg (by omega), show (i * 2 + 1) / 2 = i by omega]
theorem plc_setU (s : CS) (i : Nat) (b : Bool) (k : Nat) : (if k = i * 2 + 1 then Value.bool b else plc s k) = plc (s.setU i b) k := by
  unfold plc CS.setU
  by_cases e : k = i * 2 + 1
  · subst e
    rw [if_pos rfl, if_neg (by omega)]
    show _ = Value.bool (if (i * 2 + 1) / 2 = i then b else _)
    rw [if_pos (by omega)]
  · rw [if_neg e]
    by_cases h : k % 2 = 0
    · rw [if_pos h, if_pos h]
    · rw [if_neg h, if_neg h]
      show _ = Value.bool (if k / 2 = i then b else _)
      rw [if_neg (by omega)]
theorem plc_setP (s : CS) (i m : Nat) (k : Nat) : (if k = i * 2 then Value.int .i64 m else plc s k) = plc (s.setP i m) k := by
  unfold plc CS.setP
  by_cases e : k = i * 2
  · subst e
    rw [if_pos rfl, if_pos (by omega)]
    show _ = Value.int .i64 ((if i * 2 / 2 = i then m else _ : Nat) : Int)
    rw [if_pos (by omega)]
  · rw [if_neg e]
    by_cases h : k % 2 = 0
    · rw [if_pos h, if_pos h]
      show _ = Value.int .i64 ((if k / 2 = i then m else _ : Nat) : Int)
      rw [if_neg (by omega)]
    · rw [if_neg h, if_neg h]

structure ClkAt (w : World) (db pb : Nat) (s : CS) : Prop where
  str : w.heap[db]? = some (.cells #[.slice (some ⟨pb, 0, none⟩) s.n s.n, .int .i64 s.h] 102 (0, 0))
  row : w.rowIs pb 99 (s.n * 2) (plc s)
  n1 : 1 ≤ s.n
  n2 : s.n ≤ 1000
  hn : s.h < s.n
  top : ∀ j, s.p j ≤ 9223372036854775807

/-- The blocks of a clock. -/
def Two (db pb : Nat) (k : Nat) : Prop := k = db ∨ k = pb

section
variable {w w' : World} {db pb : Nat} {s : CS}

set_option maxRecDepth 20000 in
theorem place_clock : (99 : TypeId) ≠ 102 := by decide

theorem ClkAt.ne (h : ClkAt w db pb s) : pb ≠ db := by
  intro e
  subst e
  obtain ⟨c, hb, _⟩ := h.row
  have := h.str
  rw [hb] at this
  injection this with this
  injection this with _ this
  exact place_clock this

theorem ClkAt.lt (h : ClkAt w db pb s) : db < w.heap.size ∧ pb < w.heap.size := by
  refine ⟨?_, h.row.lt⟩
  obtain ⟨hlt, _⟩ := Array.getElem?_eq_some_iff.1 h.str
  exact hlt

theorem ClkAt.c0 (h : ClkAt w db pb s) : w.cell? ⟨db, 0, none⟩ = some (.slice (some ⟨pb, 0, none⟩) s.n s.n) := (cell_of_row w db 0 _ _ _ h.str).trans rfl
theorem ClkAt.c1 (h : ClkAt w db pb s) : w.cell? ⟨db, 1, none⟩ = some (.int .i64 s.h) := (cell_of_row w db 1 _ _ _ h.str).trans rfl
theorem ClkAt.f (h : ClkAt w db pb s) (j : Nat) : w.frozen? ⟨db, j, none⟩ = false := frozen_of_row w db j _ _ h.str
theorem ClkAt.cp (h : ClkAt w db pb s) {i : Nat} (hi : i < s.n) : w.cell? ⟨pb, i * 2, none⟩ = some (.int .i64 (s.p i)) := by
  rw [h.row.cell (by omega), plc_p]
theorem ClkAt.cu (h : ClkAt w db pb s) {i : Nat} (hi : i < s.n) : w.cell? ⟨pb, i * 2 + 1, none⟩ = some (.bool (s.u i)) := by
  rw [h.row.cell (by omega), plc_u]

theorem ClkAt.same (h : ClkAt w db pb s) (e1 : w'.heap[db]? = w.heap[db]?) (e2 : w'.heap[pb]? = w.heap[pb]?) : ClkAt w' db pb s :=
  ⟨e1.trans h.str, h.row.of_block e2, h.n1, h.n2, h.hn, h.top⟩
theorem ClkAt.below (h : ClkAt w db pb s) (hb : Below w.heap.size w w') : ClkAt w' db pb s := h.same (hb.block _ h.lt.1) (hb.block _ h.lt.2)
theorem ClkAt.alloc (h : ClkAt w db pb s) (o : Obj) : ClkAt (w.alloc o) db pb s := h.below (below_one w o)
/-- What others do leaves a clock alone. -/
theorem ClkAt.kept {G : Nat → Prop} (h : ClkAt w db pb s) (hk : Kept G w w') (h1 : ¬ G db) (h2 : ¬ G pb) : ClkAt w' db pb s :=
  h.same (hk.block _ h.lt.1 h1) (hk.block _ h.lt.2 h2)

theorem ClkAt.setU (h : ClkAt w db pb s) {i : Nat} (b : Bool) : ClkAt (w.setCell ⟨pb, i * 2 + 1, none⟩ (.bool b)) db pb (s.setU i b) :=
  ⟨(Below.heap_setCell _ _ _ _ h.ne.symm).trans h.str, (h.row.set (i * 2 + 1) (.bool b)).congr (fun k _ => plc_setU s i b k), h.n1, h.n2, h.hn, h.top⟩
theorem ClkAt.setP (h : ClkAt w db pb s) {i m : Nat} (hm : m ≤ 9223372036854775807) : ClkAt (w.setCell ⟨pb, i * 2, none⟩ (.int .i64 (m : Int))) db pb (s.setP i m) :=
  ⟨(Below.heap_setCell _ _ _ _ h.ne.symm).trans h.str, (h.row.set (i * 2) (.int .i64 (m : Int))).congr (fun k _ => plc_setP s i m k), h.n1, h.n2, h.hn, fun j => by
    show (if j = i then m else s.p j) ≤ _
    have := h.top j
    split <;> omega⟩
theorem ClkAt.setH (h : ClkAt w db pb s) {m : Nat} (hm : m < s.n) : ClkAt (w.setCell ⟨db, 1, none⟩ (.int .i64 (m : Int))) db pb { s with h := m } :=
  ⟨by rw [Joins.block_setCell h.str]; rfl, h.row.setOther h.ne _, h.n1, h.n2, hm, h.top⟩

theorem Kept.two_db (w : World) {j : Nat} (v : Value) : Kept (Two db pb) w (w.setCell ⟨db, j, none⟩ v) := Kept.setCell w (a := ⟨db, j, none⟩) (Or.inl rfl) v
theorem Kept.two_pb (w : World) {j : Nat} (v : Value) : Kept (Two db pb) w (w.setCell ⟨pb, j, none⟩ v) := Kept.setCell w (a := ⟨pb, j, none⟩) (Or.inr rfl) v
end

/-- What a call leaves that answers v. -/
def CGoes (w : World) (db pb : Nat) (s' : CS) (v : Value) (e : Ending) (w' : World) : Prop :=
  e = .returned v ∧ ClkAt w' db pb s' ∧ Kept (Two db pb) w w'

end Go.Proofs.Ytgkdlbcpckdmkaa

/-
  What the clock's calls come to: at, Use, Pin, Unpin, Hand.
-/
namespace Go.Proofs.Ytgkdlbcpckdmkaa
open Go.RowKit

section
variable {db pb : Nat} {s : CS}

set_option maxRecDepth 20000 in
theorem at_yes (w : World) (k : Nat) (hk : k < s.n) (h : ClkAt w db pb s) :
    Calls Try.prog 54 #[.pointer (some ⟨db, 0, none⟩), .int .i64 k] w fun e w' => e = .returned (.pointer (some ⟨pb, k * 2, none⟩)) ∧ w = w' := by
  have c0 := h.c0
  have hn := h.n2
  clear h
  go_enter Try.func54, Try.ntmps54
  go_wp2_with fail
  go_ret
  exact ⟨rfl, rfl⟩

set_option maxRecDepth 20000 in
theorem at_no (w : World) (i : Int) (hi : s.has i = false) (h : ClkAt w db pb s) :
    Calls Try.prog 54 #[.pointer (some ⟨db, 0, none⟩), .int .i64 i] w fun e w' => e = .returned (.pointer none) ∧ w = w' := by
  have c0 := h.c0
  have hn := h.n2
  clear h
  unfold CS.has at hi
  rw [decide_eq_false_iff_not] at hi
  by_cases h0 : i < 0
  · clear hi
    go_enter Try.func54, Try.ntmps54
    go_wp2_with fail
    go_ret
    exact ⟨rfl, rfl⟩
  · have h1 : (s.n : Int) ≤ i := by omega
    clear hi
    go_enter Try.func54, Try.ntmps54
    go_wp2_with fail
    go_ret
    exact ⟨rfl, rfl⟩

theorem CS.has_nat {i : Int} (h : s.has i = true) : ∃ k : Nat, i = k ∧ k < s.n := by
  unfold CS.has at h
  have := of_decide_eq_true h
  exact ⟨i.toNat, by omega, by omega⟩
theorem CS.has_of {k : Nat} (h : k < s.n) : s.has k = true := by
  unfold CS.has
  exact decide_eq_true (by omega)

set_option maxRecDepth 20000 in
theorem use_any (w : World) (i : Int) (h : ClkAt w db pb s) :
    Calls Try.prog 45 #[.pointer (some ⟨db, 0, none⟩), .int .i64 i] w (CGoes w db pb (s.useS i) (.int .i64 (s.useE i))) := by
  have H := Lib.hid h
  clear h
  cases hh : s.has i with
  | true =>
    obtain ⟨k, rfl, hk⟩ := CS.has_nat hh
    have HK := Lib.hid hk
    have f := (H.out.row).frozen (k * 2 + 1)
    have c := H.out.cu hk
    rw [show s.useS (k : Int) = s.setU k true by unfold CS.useS; rw [if_pos hh]; rfl, show s.useE (k : Int) = 0 by unfold CS.useE; rw [if_pos hh]]
    clear hh hk
    go_enter Try.func45, Try.ntmps45
    go_wp2_with fail
    refine (at_yes _ k HK.out H.out).mono ?_
    rintro e w' ⟨rfl, rfl⟩
    go_wp2_with fail
    go_ret
    exact ⟨rfl, H.out.setU true, Kept.two_pb _ _⟩
  | false =>
    rw [show s.useS i = s by unfold CS.useS; rw [if_neg (by rw [hh]; decide)], show s.useE i = 1 by unfold CS.useE; rw [if_neg (by rw [hh]; decide)]]
    have HH := Lib.hid hh
    clear hh
    go_enter Try.func45, Try.ntmps45
    go_wp2_with fail
    refine (at_no _ i HH.out H.out).mono ?_
    rintro e w' ⟨rfl, rfl⟩
    go_wp2_with fail
    go_ret
    exact ⟨rfl, H.out, Kept.refl _ _⟩

set_option maxRecDepth 20000 in
theorem pin_any (w : World) (i : Int) (hm : s.Max 9223372036854775806) (h : ClkAt w db pb s) :
    Calls Try.prog 38 #[.pointer (some ⟨db, 0, none⟩), .int .i64 i] w (CGoes w db pb (s.pinS i) (.int .i64 (s.useE i))) := by
  have H := Lib.hid h
  clear h
  cases hh : s.has i with
  | true =>
    obtain ⟨k, rfl, hk⟩ := CS.has_nat hh
    have HK := Lib.hid hk
    have f := (H.out.row).frozen (k * 2)
    have c := H.out.cp hk
    have hp := hm k
    rw [show s.pinS (k : Int) = s.setP k (s.p k + 1) by unfold CS.pinS; rw [if_pos hh]; rfl, show s.useE (k : Int) = 0 by unfold CS.useE; rw [if_pos hh]]
    clear hh hk hm
    go_enter Try.func38, Try.ntmps38
    go_wp2_with fail
    refine (at_yes _ k HK.out H.out).mono ?_
    rintro e w' ⟨rfl, rfl⟩
    go_wp2_with fail
    go_ret
    refine ⟨rfl, ?_, Kept.two_pb _ _⟩
    have := H.out.setP (i := k) (m := s.p k + 1) (by omega)
    rwa [show ((s.p k + 1 : Nat) : Int) = (s.p k : Int) + 1 by omega] at this
  | false =>
    rw [show s.pinS i = s by unfold CS.pinS; rw [if_neg (by rw [hh]; decide)], show s.useE i = 1 by unfold CS.useE; rw [if_neg (by rw [hh]; decide)]]
    have HH := Lib.hid hh
    clear hh hm
    go_enter Try.func38, Try.ntmps38
    go_wp2_with fail
    refine (at_no _ i HH.out H.out).mono ?_
    rintro e w' ⟨rfl, rfl⟩
    go_wp2_with fail
    go_ret
    exact ⟨rfl, H.out, Kept.refl _ _⟩

set_option maxRecDepth 20000 in
theorem pinned_any (w : World) (n : Nat) (b : Bool) :
    Calls Try.prog 55 #[.agg #[.int .i64 n, .bool b]] w fun e w' => e = .returned (.bool (n != 0)) ∧ Below w.heap.size w w' := by
  rcases Nat.eq_zero_or_pos n with h0 | h0
  · subst h0
    go_enter Try.func55, Try.ntmps55
    go_wp2_with fail
    go_ret
    exact ⟨rfl, below_one _ _⟩
  · have hb : (n != 0) = true := by rw [bne_iff_ne]; omega
    rw [hb]
    clear hb
    go_enter Try.func55, Try.ntmps55
    go_wp2_with fail
    go_ret
    exact ⟨rfl, below_one _ _⟩

theorem CGoes.behind {w w1 w2 : World} {v : Value} {s' : CS} {e : Ending} (hb : Below w.heap.size w w1) (g : CGoes w1 db pb s' v e w2) : CGoes w db pb s' v e w2 :=
  ⟨g.1, g.2.1, (Kept.below hb _).next g.2.2⟩

set_option maxRecDepth 20000 in
set_option maxHeartbeats 1600000 in
theorem unpin_any (w : World) (i : Int) (h : ClkAt w db pb s) :
    Calls Try.prog 39 #[.pointer (some ⟨db, 0, none⟩), .int .i64 i] w (CGoes w db pb (s.unS i) (.int .i64 (s.unE i))) := by
  have H := Lib.hid h
  clear h
  cases hh : s.has i with
  | true =>
    obtain ⟨k, rfl, hk⟩ := CS.has_nat hh
    have HK := Lib.hid hk
    have c := H.out.cp hk
    have d := H.out.cu hk
    by_cases h0 : s.p k = 0
    · rw [show s.unS (k : Int) = s by unfold CS.unS CS.un; rw [if_neg (by simp [h0])], show s.unE (k : Int) = 1 by unfold CS.unE CS.un; rw [if_neg (by simp [h0])]]
      have hb0 : (s.p k != 0) = false := by rw [h0]; rfl
      have HB0 := Lib.hid hb0
      clear hh hk h0 hb0
      go_enter Try.func39, Try.ntmps39
      go_wp2_with fail
      refine (at_yes _ k HK.out H.out).mono ?_
      rintro e w' ⟨rfl, rfl⟩
      go_wp2_with fail
      refine (pinned_any _ (s.p k) _).mono ?_
      rintro e w' ⟨rfl, hb⟩
      rw [HB0.out]
      have HB := Lib.hid hb
      clear hb
      go_wp2_with fail
      go_ret
      exact ⟨rfl, H.out.below HB.out, Kept.below HB.out _⟩
    · have hu : s.un (k : Int) = true := by
        unfold CS.un
        rw [hh]
        simp [h0]
      rw [show s.unS (k : Int) = s.setP k (s.p k - 1) by unfold CS.unS; rw [if_pos hu]; rfl, show s.unE (k : Int) = 0 by unfold CS.unE; rw [if_pos hu]]
      have hb0 : (s.p k != 0) = true := by rw [bne_iff_ne]; exact h0
      have ht := H.out.top k
      have HB0 := Lib.hid hb0
      have h0' : 0 < s.p k := by omega
      clear hh hk hu hb0 h0
      go_enter Try.func39, Try.ntmps39
      go_wp2_with fail
      refine (at_yes _ k HK.out H.out).mono ?_
      rintro e w' ⟨rfl, rfl⟩
      go_wp2_with fail
      refine (pinned_any _ (s.p k) _).mono ?_
      rintro e w1 ⟨rfl, hb⟩
      rw [HB0.out]
      have HB := Lib.hid hb
      have H1 := Lib.hid (H.out.below hb)
      clear hb c d
      have c := H1.out.cp HK.out
      have f := (H1.out.row).frozen (k * 2)
      go_wp2_with fail
      go_ret
      refine CGoes.behind HB.out ⟨rfl, ?_, Kept.two_pb _ _⟩
      have := H1.out.setP (i := k) (m := s.p k - 1) (by omega)
      rwa [show ((s.p k - 1 : Nat) : Int) = (s.p k : Int) - 1 by omega] at this
  | false =>
    rw [show s.unS i = s by unfold CS.unS CS.un; rw [if_neg (by rw [hh]; simp)], show s.unE i = 1 by unfold CS.unE CS.un; rw [if_neg (by rw [hh]; simp)]]
    have HH := Lib.hid hh
    clear hh
    go_enter Try.func39, Try.ntmps39
    go_wp2_with fail
    refine (at_no _ i HH.out H.out).mono ?_
    rintro e w' ⟨rfl, rfl⟩
    go_wp2_with fail
    go_ret
    exact ⟨rfl, H.out, Kept.refl _ _⟩

set_option maxRecDepth 20000 in
theorem hand_any (w : World) (h : ClkAt w db pb s) :
    Calls Try.prog 58 #[.pointer (some ⟨db, 0, none⟩)] w fun e w' => e = .returned (.int .i64 s.h) ∧ w = w' := by
  have c := h.c1
  clear h
  go_enter Try.func58, Try.ntmps58
  go_wp2_with fail
  go_ret
  exact ⟨rfl, rfl⟩
end
end Go.Proofs.Ytgkdlbcpckdmkaa

/-
  What Victim comes to.
-/
namespace Go.Proofs.Ytgkdlbcpckdmkaa
open Go.RowKit

section
variable {db pb : Nat} {s : CS}

set_option maxRecDepth 20000 in
theorem free_any (w : World) (n : Nat) (b : Bool) :
    Calls Try.prog 60 #[.agg #[.int .i64 n, .bool b]] w fun e w' => e = .returned (.bool (n == 0)) ∧ Below w.heap.size w w' := by
  go_enter Try.func60, Try.ntmps60
  go_wp2_with fail
  refine (pinned_any _ n b).mono ?_
  rintro e w1 ⟨rfl, b1⟩
  have HB := Lib.hid ((below_one _ _).trans (b1.mono (by simp)))
  clear b1
  rcases Nat.eq_zero_or_pos n with h0 | h0
  · subst h0
    go_wp2_with fail
    go_ret
    exact ⟨rfl, HB.out⟩
  · have hb : (n != 0) = true := by rw [bne_iff_ne]; omega
    have hc : (n == 0) = false := by rw [beq_eq_false_iff_ne]; omega
    rw [hb]
    have HC := Lib.hid hc
    clear hb hc
    go_wp2_with fail
    go_ret
    exact ⟨ret_bool HC.out.symm, HB.out⟩

/-- The first place that is free, or -1. -/
def IxEnd (w : World) (s : CS) (e : Ending) (w' : World) : Prop :=
  ∃ i : Int, e = .returned (.int .i64 i) ∧ decide (0 ≤ i) = s.free ∧ Below w.heap.size w w'

set_option maxRecDepth 20000 in
set_option maxHeartbeats 1600000 in
theorem index_any (w : World) (h : ClkAt w db pb s) :
    Calls Try.prog 71 #[.slice (some ⟨pb, 0, none⟩) s.n s.n, .func (.func 60) #[] #[]] w (IxEnd w s) := by
  have hn := h.n2
  have H := Lib.hid h
  clear h
  go_enter Try.func71, Try.ntmps71
  go_wp2_with fail
  go_loopw [8] (fun i wr => ∃ k : Nat, k ≤ s.n ∧ i = .int .i64 k ∧ Hid (∀ j, j < k → ¬ s.p j = 0) ∧ Below w.heap.size w wr) (fun i _ => s.n - (intOf i).toNat)
  case atStart => exact ⟨0, Nat.zero_le _, rfl, Lib.hid (fun j hj => by omega), Below.refl _ _⟩
  case round =>
    obtain ⟨k, hk, rfl, hpre, hb⟩ := hrel
    by_cases hlt : k < s.n
    · have HR := H.out.below hb
      have d0 := HR.cp hlt
      have d1 := HR.cu hlt
      have HB := Lib.hid hb
      have HL := Lib.hid hlt
      clear HR hb
      go_wp2_with fail
      refine (free_any _ (s.p k) (s.u k)).mono ?_
      rintro e w1 ⟨rfl, b1⟩
      have HB1 := Lib.hid (HB.out.trans (b1.mono HB.out.size))
      clear b1 d0 d1
      by_cases h0 : s.p k = 0
      · have hb0 : (s.p k == 0) = true := by rw [h0]; rfl
        rw [hb0]
        have HH0 := Lib.hid h0
        clear h0 hb0
        go_wp2_with fail
        go_ret
        refine ⟨_, rfl, ?_, HB1.out⟩
        rw [(CS.free_iff s).2 ⟨k, HL.out, HH0.out⟩]
        exact decide_eq_true (by omega)
      · have hb0 : (s.p k == 0) = false := by rw [beq_eq_false_iff_ne]; exact h0
        rw [hb0]
        have HH0 := Lib.hid h0
        clear h0 hb0
        go_wp2_with fail
        go_roundw
        case rel =>
          refine ⟨k + 1, by omega, by go_num, Lib.hid (fun j hj => ?_), HB1.out⟩
          rcases Nat.lt_or_ge j k with e | e
          · exact hpre.out j e
          · obtain rfl : j = k := by omega
            exact HH0.out
        case measure => simp [intOf]; omega
    · obtain rfl : k = s.n := by omega
      go_wp2_with fail
      go_ret
      refine ⟨_, rfl, ?_, hb⟩
      cases hf : s.free with
      | false => rfl
      | true =>
        obtain ⟨j, hj, h0⟩ := (CS.free_iff s).1 hf
        exact absurd h0 (hpre.out j hj)

set_option maxRecDepth 20000 in
theorem contains_any (w : World) (h : ClkAt w db pb s) :
    Calls Try.prog 59 #[.slice (some ⟨pb, 0, none⟩) s.n s.n, .func (.func 60) #[] #[]] w fun e w' => e = .returned (.bool s.free) ∧ Below w.heap.size w w' := by
  have H := Lib.hid h
  clear h
  go_enter Try.func59, Try.ntmps59
  go_wp2_with fail
  refine (index_any _ H.out).mono ?_
  rintro e w1 ⟨i, rfl, hd, b1⟩
  have HB := Lib.hid b1
  have HD := Lib.hid hd
  clear b1 hd
  go_wp2_with fail
  go_ret
  exact ⟨ret_bool HD.out, HB.out⟩

/-- The way, as far as it is gone. -/
def VicRel (w : World) (db pb : Nat) (r : Nat × CS) (g : Nat) (wr : World) : Prop :=
  ∃ c, ClkAt wr db pb c ∧ CS.go g c = some r ∧ Kept (Two db pb) w wr

set_option maxRecDepth 20000 in
set_option maxHeartbeats 1600000 in
theorem vic_yes (w : World) (hf : s.free = true) (h : ClkAt w db pb s) :
    Calls Try.prog 43 #[.pointer (some ⟨db, 0, none⟩)] w (CGoes w db pb s.vicS (.tuple #[.int .i64 s.vicI, .int .i64 s.vicE])) := by
  obtain ⟨r, hw, hgo, _⟩ := CS.way_of h.hn hf
  obtain ⟨v1, v2, v3⟩ := CS.vic_of hw
  rw [v1, v2, v3]
  have HGO := Lib.hid hgo
  have HF := Lib.hid hf
  have c0 := h.c0
  have H := Lib.hid h
  clear h hf hw hgo v1 v2 v3
  go_enter Try.func43, Try.ntmps43
  go_wp2_with fail
  go_step3
  go_wp2_with fail
  refine (contains_any _ H.out).mono ?_
  rintro e w1 ⟨rfl, b1⟩
  rw [HF.out]
  have H1 := Lib.hid (H.out.below b1)
  have HB1 := Lib.hid b1
  clear b1 c0
  go_wp2_with fail
  go_step3
  go_wp2_with fail
  go_loopg [4] (2 * s.n) (fun g i wr => VicRel w db pb r g wr)
  case atStart => exact ⟨s, H1.out, HGO.out, Kept.below HB1.out _⟩
  case round =>
    obtain ⟨c, hc, hg, hk⟩ := hrel
    have e0 := hc.c0
    have e1 := hc.c1
    have ef := hc.f 1
    have ep := hc.cp hc.hn
    have eu := hc.cu hc.hn
    have hn1 := hc.n1
    have hn2 := hc.n2
    have hhn := hc.hn
    have ne1 := hc.ne
    have ne2 := hc.ne.symm
    have HC := Lib.hid hc
    have HK := Lib.hid hk
    have HG := Lib.hid hg
    clear hc hg hk
    obtain ⟨g, rfl⟩ : ∃ g, gk = g + 1 := by
      cases gk with
      | zero => cases HG.out
      | succ g => exact ⟨g, rfl⟩
    go_wp2_with fail
    refine (pinned_any _ (c.p c.h) (c.u c.h)).mono ?_
    rintro e w2 ⟨rfl, b2⟩
    have k2 : ClkAt (wr.setCell ⟨db, 1, none⟩ (.int .i64 (((c.h : Int) + 1) % (c.n : Int)))) db pb c.next := by
      have e : (((c.h + 1) % c.n : Nat) : Int) = ((c.h : Int) + 1) % (c.n : Int) := by
        rw [Int.natCast_emod]
        rfl
      have := HC.out.setH (m := (c.h + 1) % c.n) (Nat.mod_lt _ (by omega))
      rwa [e] at this
    have H2 : Hid (ClkAt w2 db pb c.next) := k2.below b2
    have HK2 : Hid (Kept (Two db pb) w w2) := (HK.out.next (Kept.two_db wr _)).next (Kept.below b2 _)
    clear e0 e1 ef ep eu k2 b2 HC HK
    by_cases h0 : c.p c.h = 0
    · have hb0 : (c.p c.h != 0) = false := by rw [h0]; rfl
      rw [hb0]
      have HH0 := Lib.hid h0
      clear h0 hb0
      have eu : w2.cell? ⟨pb, c.h * 2 + 1, none⟩ = some (.bool (c.u c.h)) := H2.out.cu (i := c.h) (by show c.h < c.n; exact hhn)
      have fu : w2.frozen? ⟨pb, c.h * 2 + 1, none⟩ = false := H2.out.row.frozen _
      cases hu : c.u c.h with
      | false =>
        rw [hu] at eu
        have HU := Lib.hid hu
        clear hu
        go_wp2_with fail
        rw [Exit.noGoto_ret]
        go_ret2
        have := HG.out
        rw [CS.go, if_pos HH0.out, if_neg (by rw [HU.out]; decide)] at this
        obtain rfl := Option.some.inj this
        exact ⟨rfl, H2.out, HK2.out⟩
      | true =>
        rw [hu] at eu
        have HU := Lib.hid hu
        clear hu
        go_wp2_with fail
        go_roundg g
        case measure => omega
        case rel =>
          have := HG.out
          rw [CS.go, if_pos HH0.out, if_pos HU.out] at this
          exact ⟨_, H2.out.setU false, this, HK2.out.next (Kept.two_pb _ _)⟩
    · have hb0 : (c.p c.h != 0) = true := by rw [bne_iff_ne]; exact h0
      rw [hb0]
      have HH0 := Lib.hid h0
      clear h0 hb0
      go_wp2_with fail
      go_roundg g
      case measure => omega
      case rel =>
        have := HG.out
        rw [CS.go, if_neg HH0.out] at this
        exact ⟨_, H2.out, this, HK2.out⟩

set_option maxRecDepth 20000 in
theorem vic_none (w : World) (hf : s.free = false) (h : ClkAt w db pb s) :
    Calls Try.prog 43 #[.pointer (some ⟨db, 0, none⟩)] w (CGoes w db pb s.vicS (.tuple #[.int .i64 s.vicI, .int .i64 s.vicE])) := by
  obtain ⟨v1, v2, v3⟩ := CS.vic_no hf
  rw [v1, v2, v3]
  have HF := Lib.hid hf
  have c0 := h.c0
  have H := Lib.hid h
  clear h hf v1 v2 v3
  go_enter Try.func43, Try.ntmps43
  go_wp2_with fail
  go_step3
  go_wp2_with fail
  refine (contains_any _ H.out).mono ?_
  rintro e w1 ⟨rfl, b1⟩
  rw [HF.out]
  have HB1 := Lib.hid b1
  clear b1 c0
  go_wp2_with fail
  rw [Exit.noGoto_ret]
  go_ret2
  exact ⟨rfl, H.out.below HB1.out, Kept.below HB1.out _⟩

set_option maxRecDepth 20000 in
theorem victim_any (w : World) (h : ClkAt w db pb s) :
    Calls Try.prog 43 #[.pointer (some ⟨db, 0, none⟩)] w (CGoes w db pb s.vicS (.tuple #[.int .i64 s.vicI, .int .i64 s.vicE])) := by
  cases hf : s.free with
  | true => exact vic_yes w hf h
  | false => exact vic_none w hf h
end
end Go.Proofs.Ytgkdlbcpckdmkaa

/-
  What Pins and Used come to.
-/
namespace Go.Proofs.Ytgkdlbcpckdmkaa
open Go.RowKit

set_option maxRecDepth 20000 in
theorem boolInfo1 : (Try.prog.info? 4).map (fun i => (i.zero, i.size, i.bytes)) = some (some (.bool false), 1, 1) := by kernel_rfl

set_option maxRecDepth 20000 in
theorem pinsOf_any (w : World) (n : Nat) (b : Bool) :
    Calls Try.prog 68 #[.agg #[.int .i64 n, .bool b]] w fun e w' => e = .returned (.int .i64 n) ∧ Below w.heap.size w w' := by
  go_enter Try.func68, Try.ntmps68
  go_wp2_with fail
  go_ret
  exact ⟨rfl, below_one _ _⟩

set_option maxRecDepth 20000 in
theorem usedOf_any (w : World) (n : Nat) (b : Bool) :
    Calls Try.prog 70 #[.agg #[.int .i64 n, .bool b]] w fun e w' => e = .returned (.bool b) ∧ Below w.heap.size w w' := by
  go_enter Try.func70, Try.ntmps70
  go_wp2_with fail
  go_ret
  exact ⟨rfl, below_one _ _⟩

/-- What is told, while places up to k are told. -/
def toP (s : CS) (k j : Nat) : Value := if j < k then .int .i64 (s.p j) else .int .i64 0
def toU (s : CS) (k j : Nat) : Value := if j < k then .bool (s.u j) else .bool false

theorem toP_start (s : CS) (j : Nat) : toP s 0 j = .int .i64 0 := by simp [toP]
theorem toP_here (s : CS) (k : Nat) : toP s k k = .int .i64 0 := by simp [toP]
theorem toP_step (s : CS) (k j : Nat) : (if j = k then Value.int .i64 (s.p k) else toP s k j) = toP s (k + 1) j := by
  unfold toP
  by_cases h : j = k
  · subst h
    rw [if_pos rfl, if_pos (by omega)]
  · rw [if_neg h]
    by_cases h2 : j < k
    · rw [if_pos h2, if_pos (by omega)]
    · rw [if_neg h2, if_neg (by omega)]
theorem toU_start (s : CS) (j : Nat) : toU s 0 j = .bool false := by simp [toU]
theorem toU_here (s : CS) (k : Nat) : toU s k k = .bool false := by simp [toU]
theorem toU_step (s : CS) (k j : Nat) : (if j = k then Value.bool (s.u k) else toU s k j) = toU s (k + 1) j := by
  unfold toU
  by_cases h : j = k
  · subst h
    rw [if_pos rfl, if_pos (by omega)]
  · rw [if_neg h]
    by_cases h2 : j < k
    · rw [if_pos h2, if_pos (by omega)]
    · rw [if_neg h2, if_neg (by omega)]

section
variable {db pb : Nat} {s : CS}

set_option maxRecDepth 20000 in
set_option maxHeartbeats 1600000 in
theorem eachP_any (w : World) (h : ClkAt w db pb s) :
    Calls Try.prog 67 #[.pointer (some ⟨db, 0, none⟩), .func (.func 68) #[] #[]] w
      fun e w' => e = .returned (.slice (some ⟨w.heap.size, 0, none⟩) s.n s.n) ∧ w'.rowIs w.heap.size 3 s.n (toP s s.n) ∧ Below w.heap.size w w' := by
  have hn := h.n2
  have hmk := fun W => run_make_row' (P := Try.prog) 22 3 (.int .i64 0) 8 Try.underlying22 intInfo rfl .i64 .i64 s.n (by omega) (by omega) W
  have c0 := h.c0
  obtain ⟨l1, l2⟩ := h.lt
  have H := Lib.hid h
  clear h
  go_enter Try.func67, Try.ntmps67
  go_wp2_with fail
  go_loopw [21] (fun i wr => ∃ k : Nat, k ≤ s.n ∧ i = .int .i64 k ∧ wr.rowIs w.heap.size 3 s.n (toP s k) ∧ Below w.heap.size w wr) (fun i _ => s.n - (intOf i).toNat)
  case atStart => exact ⟨0, Nat.zero_le _, rfl, (World.rowIs_made _ _ _ _).congr (fun j _ => (toP_start s j).symm), below_one _ _⟩
  case round =>
    obtain ⟨k, hk, rfl, hrow, hb⟩ := hrel
    by_cases hlt : k < s.n
    · have HR := H.out.below hb
      have d0 := HR.cp hlt
      have d1 := HR.cu hlt
      have g2 := hrow.lt
      have HROW := Lib.hid hrow
      have HB := Lib.hid hb
      clear HR hb hrow c0
      go_wp2_with fail
      refine (pinsOf_any _ (s.p k) (s.u k)).mono ?_
      rintro e w1 ⟨rfl, b1⟩
      have b2 : Below wr.heap.size wr w1 := (below_one wr _).trans (b1.mono (by simp))
      have HB2 := Lib.hid b2
      clear b1 b2 d0 d1 g2
      have r1 := HROW.out.of_block (HB2.out.block _ HROW.out.lt)
      have g0 := r1.cell hlt
      rw [toP_here] at g0
      have g1 := r1.frozen k
      have g2 := r1.lt
      have R1 := Lib.hid r1
      clear r1
      go_wp2_with fail
      go_roundw
      case rel =>
        refine ⟨k + 1, by omega, by go_num, (R1.out.set k _).congr (fun j _ => toP_step s k j), ?_⟩
        exact (HB.out.trans (HB2.out.mono HB.out.size)).setCell (p := ⟨w.heap.size, k, none⟩) (Nat.le_refl _) _
      case measure => simp [intOf]; omega
    · obtain rfl : k = s.n := by omega
      go_wp2_with fail
      go_ret
      exact ⟨rfl, hrow, hb⟩

set_option maxRecDepth 20000 in
set_option maxHeartbeats 1600000 in
theorem eachU_any (w : World) (h : ClkAt w db pb s) :
    Calls Try.prog 69 #[.pointer (some ⟨db, 0, none⟩), .func (.func 70) #[] #[]] w
      fun e w' => e = .returned (.slice (some ⟨w.heap.size, 0, none⟩) s.n s.n) ∧ w'.rowIs w.heap.size 4 s.n (toU s s.n) ∧ Below w.heap.size w w' := by
  have hn := h.n2
  have hmk := fun W => run_make_row' (P := Try.prog) 103 4 (.bool false) 1 Try.underlying103 boolInfo1 rfl .i64 .i64 s.n (by omega) (by omega) W
  have c0 := h.c0
  obtain ⟨l1, l2⟩ := h.lt
  have H := Lib.hid h
  clear h
  go_enter Try.func69, Try.ntmps69
  go_wp2_with fail
  go_loopw [21] (fun i wr => ∃ k : Nat, k ≤ s.n ∧ i = .int .i64 k ∧ wr.rowIs w.heap.size 4 s.n (toU s k) ∧ Below w.heap.size w wr) (fun i _ => s.n - (intOf i).toNat)
  case atStart => exact ⟨0, Nat.zero_le _, rfl, (World.rowIs_made _ _ _ _).congr (fun j _ => (toU_start s j).symm), below_one _ _⟩
  case round =>
    obtain ⟨k, hk, rfl, hrow, hb⟩ := hrel
    by_cases hlt : k < s.n
    · have HR := H.out.below hb
      have d0 := HR.cp hlt
      have d1 := HR.cu hlt
      have g2 := hrow.lt
      have HROW := Lib.hid hrow
      have HB := Lib.hid hb
      clear HR hb hrow c0
      go_wp2_with fail
      refine (usedOf_any _ (s.p k) (s.u k)).mono ?_
      rintro e w1 ⟨rfl, b1⟩
      have b2 : Below wr.heap.size wr w1 := (below_one wr _).trans (b1.mono (by simp))
      have HB2 := Lib.hid b2
      clear b1 b2 d0 d1 g2
      have r1 := HROW.out.of_block (HB2.out.block _ HROW.out.lt)
      have g0 := r1.cell hlt
      rw [toU_here] at g0
      have g1 := r1.frozen k
      have g2 := r1.lt
      have R1 := Lib.hid r1
      clear r1
      go_wp2_with fail
      go_roundw
      case rel =>
        refine ⟨k + 1, by omega, by go_num, (R1.out.set k _).congr (fun j _ => toU_step s k j), ?_⟩
        exact (HB.out.trans (HB2.out.mono HB.out.size)).setCell (p := ⟨w.heap.size, k, none⟩) (Nat.le_refl _) _
      case measure => simp [intOf]; omega
    · obtain rfl : k = s.n := by omega
      go_wp2_with fail
      go_ret
      exact ⟨rfl, hrow, hb⟩

/-- A list of bools in memory. -/
def Bls (w : World) (A : Option Addr) (zs : List Bool) : Prop :=
  zs = [] ∨ ∃ b off, A = some ⟨b, off, none⟩ ∧ ∀ i z, zs[i]? = some z → w.cell? ⟨b, off + i, none⟩ = some (.bool z)

theorem Bls.below {w w' : World} {A : Option Addr} {zs : List Bool} (h : Bls w A zs) (hb : Below w.heap.size w w') : Bls w' A zs := by
  rcases h with rfl | ⟨b, off, rfl, hc⟩
  · exact Or.inl rfl
  · refine Or.inr ⟨b, off, rfl, fun i z hz => ?_⟩
    have h0 := hc i z hz
    have hlt : b < w.heap.size := World.block_lt_of_cell? _ _ h0
    exact (hb.cell (p := ⟨b, _, none⟩) hlt).trans h0

theorem Bls.at_ {w : World} {A : Option Addr} {zs : List Bool} (h : Bls w A zs) {k : Nat} (hk : k < zs.length) :
    ∃ b off z, A = some ⟨b, off, none⟩ ∧ zs[k]? = some z ∧ w.cell? ⟨b, off + k, none⟩ = some (.bool z) := by
  rcases h with rfl | ⟨b, off, rfl, hc⟩
  · exact absurd hk (by simp)
  · exact ⟨b, off, zs[k], rfl, List.getElem?_eq_getElem hk, hc k _ (List.getElem?_eq_getElem hk)⟩

theorem pinsL_len (s : CS) : s.pinsL.length = s.n := by simp [CS.pinsL]
theorem usedL_len (s : CS) : s.usedL.length = s.n := by simp [CS.usedL]
theorem pinsL_at (s : CS) {i : Nat} (h : i < s.n) : s.pinsL[i]? = some ((s.p i : Nat) : Int) := by simp [CS.pinsL, h]
theorem usedL_at (s : CS) {i : Nat} (h : i < s.n) : s.usedL[i]? = some (s.u i) := by simp [CS.usedL, h]

/-- A row of so many ints, told. -/
theorem ints_row {w : World} {b : Nat} {t : TypeId} {f : Nat → Value} {s : CS} (h : w.rowIs b t s.n f) (hf : ∀ j, j < s.n → f j = .int .i64 (s.p j)) : Ints w (some ⟨b, 0, none⟩) s.pinsL := by
  refine Or.inr ⟨b, 0, rfl, fun i z hz => ?_⟩
  have hi : i < s.n := by
    have := (List.getElem?_eq_some_iff.1 hz).1
    rwa [pinsL_len] at this
  rw [pinsL_at s hi] at hz
  obtain rfl := Option.some.inj hz
  rw [Nat.zero_add, h.cell hi, hf i hi]
theorem bls_row {w : World} {b : Nat} {t : TypeId} {f : Nat → Value} {s : CS} (h : w.rowIs b t s.n f) (hf : ∀ j, j < s.n → f j = .bool (s.u j)) : Bls w (some ⟨b, 0, none⟩) s.usedL := by
  refine Or.inr ⟨b, 0, rfl, fun i z hz => ?_⟩
  have hi : i < s.n := by
    have := (List.getElem?_eq_some_iff.1 hz).1
    rwa [usedL_len] at this
  rw [usedL_at s hi] at hz
  obtain rfl := Option.some.inj hz
  rw [Nat.zero_add, h.cell hi, hf i hi]

set_option maxRecDepth 20000 in
theorem pins_any (w : World) (h : ClkAt w db pb s) :
    Calls Try.prog 56 #[.pointer (some ⟨db, 0, none⟩)] w
      fun e w' => e = .returned (.slice (some ⟨w.heap.size, 0, none⟩) s.n s.n) ∧ Ints w' (some ⟨w.heap.size, 0, none⟩) s.pinsL ∧ Below w.heap.size w w' := by
  have H := Lib.hid h
  clear h
  go_enter Try.func56, Try.ntmps56
  go_wp2_with fail
  refine (eachP_any _ H.out).mono ?_
  rintro e w' ⟨rfl, hr, hb⟩
  have HR := Lib.hid hr
  have HB := Lib.hid hb
  clear hr hb
  go_wp2_with fail
  go_ret
  exact ⟨rfl, ints_row HR.out (fun j hj => by unfold toP; rw [if_pos hj]), HB.out⟩

set_option maxRecDepth 20000 in
theorem used_any (w : World) (h : ClkAt w db pb s) :
    Calls Try.prog 57 #[.pointer (some ⟨db, 0, none⟩)] w
      fun e w' => e = .returned (.slice (some ⟨w.heap.size, 0, none⟩) s.n s.n) ∧ Bls w' (some ⟨w.heap.size, 0, none⟩) s.usedL ∧ Below w.heap.size w w' := by
  have H := Lib.hid h
  clear h
  go_enter Try.func57, Try.ntmps57
  go_wp2_with fail
  refine (eachU_any _ H.out).mono ?_
  rintro e w' ⟨rfl, hr, hb⟩
  have HR := Lib.hid hr
  have HB := Lib.hid hb
  clear hr hb
  go_wp2_with fail
  go_ret
  exact ⟨rfl, bls_row HR.out (fun j hj => by unfold toU; rw [if_pos hj]), HB.out⟩
end
end Go.Proofs.Ytgkdlbcpckdmkaa

/-
  What New comes to.
-/
namespace Go.Proofs.Ytgkdlbcpckdmkaa
open Go.RowKit

set_option maxRecDepth 20000 in
theorem placeInfo : (Try.prog.info? 99).map (fun i => (i.zero, i.size, i.bytes)) = some (some (.agg #[.int .i64 0, .bool false]), 2, 16) := by kernel_rfl

/-- The cells of so many new places. -/
def plC (n : Nat) : Array Value := madeCells #[.int .i64 0, .bool false] (n * 2)

theorem plC_size (n : Nat) : (plC n).size = n * 2 := size_madeCells _ _

theorem plC_at (n i : Nat) (h : i < n * 2) : (plC n)[i]? = some (plc (CS.new n) i) := by
  unfold plC madeCells plc CS.new
  rcases Nat.mod_two_eq_zero_or_one i with e | e
  · rw [if_pos e]
    simp [e, h]
  · rw [if_neg (by omega)]
    simp [e, h]

set_option maxRecDepth 20000 in
theorem make_places (w : World) (n : Nat) (hn : n ≤ 1000) : (Instr.makeSlice 100 (.int .i64 (n : Int)) (.int .i64 (n : Int))).run Try.prog w = .ok (.slice (some ⟨w.heap.size, 0, none⟩) n n) (w.alloc (.cells (plC n) 99)) := by
  obtain ⟨i, hi, hzz⟩ := Option.map_eq_some_iff.1 placeInfo
  simp only [Prod.mk.injEq] at hzz
  obtain ⟨hz, hs, hb⟩ := hzz
  have hr := run_make (P := Try.prog) w 100 99 i _ Try.underlying100 hi hz .i64 .i64 (n : Int) (n : Int) (by omega) (Int.le_refl _) (by rw [hb]; omega) (by omega)
  simp only [Int.toNat_natCast, hs] at hr
  exact hr

def CMade (w : World) (n : Nat) (e : Ending) (w' : World) : Prop :=
  ∃ db pb, e = .returned (.tuple #[.pointer (some ⟨db, 0, none⟩), .int .i64 0]) ∧ ClkAt w' db pb (CS.new n) ∧ w.heap.size ≤ db ∧ w.heap.size ≤ pb ∧ Below w.heap.size w w'

set_option maxRecDepth 20000 in
theorem gnew_bad (w : World) (n : Int) (h : n < 1 ∨ 1000 < n) : Calls Try.prog 41 #[.int .i64 n] w fun e w' => e = .returned (.tuple #[.pointer none, .int .i64 1]) ∧ w = w' := by
  by_cases h0 : n < 1
  · clear h
    go_enter Try.func41, Try.ntmps41
    go_wp2_with fail
    go_ret2
    exact ⟨rfl, rfl⟩
  · have h1 : 1000 < n := by omega
    clear h
    go_enter Try.func41, Try.ntmps41
    go_wp2_with fail
    go_ret2
    exact ⟨rfl, rfl⟩

set_option maxRecDepth 20000 in
theorem gnew_good (w : World) (n : Nat) (h1 : 1 ≤ n) (h2 : n ≤ 1000) : Calls Try.prog 41 #[.int .i64 n] w (CMade w n) := by
  have hm := make_places w n h2
  go_enter Try.func41, Try.ntmps41
  go_wp2_with fail
  go_ret2
  have hs : (w.alloc (.cells (plC n) 99)).heap.size = w.heap.size + 1 := by simp
  refine ⟨w.heap.size + 1, w.heap.size, rfl, ⟨?_, ?_, h1, h2, ?_, fun j => Nat.zero_le _⟩, by omega, Nat.le_refl _, below_two _ _ _⟩
  · have := heap_alloc_new (w.alloc (.cells (plC n) 99)) (.cells #[.slice (some ⟨w.heap.size, 0, none⟩) n n, .int .i64 0] 102)
    rw [hs] at this
    exact this
  · have := World.rowIs_alloc w (plC n) 99 (plc (CS.new n)) (fun i hi => plC_at n i (by rw [plC_size] at hi; exact hi))
    rw [plC_size] at this
    exact this.alloc _
  · show 0 < n
    omega
end Go.Proofs.Ytgkdlbcpckdmkaa

/-
  A clock in the midst of a law: what lies below the law's first world stays.
-/
namespace Go.Proofs.Ytgkdlbcpckdmkaa
open Go.RowKit

theorem CS.new_max (n : Nat) : (CS.new n).Max 0 := fun _ => Nat.zero_le _

/-- A clock that was made since the world W. -/
structure CLive (W w : World) (db pb : Nat) (s : CS) : Prop where
  ck : ClkAt w db pb s
  b1 : W.heap.size ≤ db
  b2 : W.heap.size ≤ pb
  below : Below W.heap.size W w

def CLGoes (W : World) (db pb : Nat) (s' : CS) (v : Value) (e : Ending) (w' : World) : Prop := e = .returned v ∧ CLive W w' db pb s'

section
variable {W w w' : World} {db pb : Nat} {s s' : CS}

theorem CLive.le (h : CLive W w db pb s) : W.heap.size ≤ w.heap.size := h.below.size
theorem CLive.next (h : CLive W w db pb s) (hb : Below w.heap.size w w') : CLive W w' db pb s :=
  ⟨h.ck.below hb, h.b1, h.b2, h.below.trans (hb.mono h.le)⟩
theorem CLive.alloc (h : CLive W w db pb s) (o : Obj) : CLive W (w.alloc o) db pb s := h.next (below_one w o)
theorem CLive.drew (h : CLive W w db pb s) : CLive W w.drew db pb s := ⟨h.ck.same rfl rfl, h.b1, h.b2, h.below.drew⟩
theorem CLive.goes {v : Value} {e : Ending} (h : CLive W w db pb s) (g : CGoes w db pb s' v e w') : CLGoes W db pb s' v e w' := by
  obtain ⟨he, hc, hk⟩ := g
  refine ⟨he, hc, h.b1, h.b2, h.below.trans (hk.toBelow ?_ h.le)⟩
  rintro k (rfl | rfl)
  · exact h.b1
  · exact h.b2

set_option maxRecDepth 20000 in
theorem use_live (w : World) (i : Int) (h : CLive W w db pb s) :
    Calls Try.prog 45 #[.pointer (some ⟨db, 0, none⟩), .int .i64 i] w (CLGoes W db pb (s.useS i) (.int .i64 (s.useE i))) := (use_any w i h.ck).mono fun _ _ g => h.goes g
set_option maxRecDepth 20000 in
theorem pin_live (w : World) (i : Int) (hm : s.Max 9223372036854775806) (h : CLive W w db pb s) :
    Calls Try.prog 38 #[.pointer (some ⟨db, 0, none⟩), .int .i64 i] w (CLGoes W db pb (s.pinS i) (.int .i64 (s.useE i))) := (pin_any w i hm h.ck).mono fun _ _ g => h.goes g
set_option maxRecDepth 20000 in
theorem unpin_live (w : World) (i : Int) (h : CLive W w db pb s) :
    Calls Try.prog 39 #[.pointer (some ⟨db, 0, none⟩), .int .i64 i] w (CLGoes W db pb (s.unS i) (.int .i64 (s.unE i))) := (unpin_any w i h.ck).mono fun _ _ g => h.goes g
set_option maxRecDepth 20000 in
theorem victim_live (w : World) (h : CLive W w db pb s) :
    Calls Try.prog 43 #[.pointer (some ⟨db, 0, none⟩)] w (CLGoes W db pb s.vicS (.tuple #[.int .i64 s.vicI, .int .i64 s.vicE])) := (victim_any w h.ck).mono fun _ _ g => h.goes g

def PinsEnd (W w : World) (db pb : Nat) (s : CS) (e : Ending) (w' : World) : Prop :=
  ∃ b, e = .returned (.slice (some ⟨b, 0, none⟩) s.n s.n) ∧ Ints w' (some ⟨b, 0, none⟩) s.pinsL ∧ W.heap.size ≤ b ∧ ¬ Two db pb b ∧ CLive W w' db pb s ∧ Below w.heap.size w w'
def UsedEnd (W w : World) (db pb : Nat) (s : CS) (e : Ending) (w' : World) : Prop :=
  ∃ b, e = .returned (.slice (some ⟨b, 0, none⟩) s.n s.n) ∧ Bls w' (some ⟨b, 0, none⟩) s.usedL ∧ W.heap.size ≤ b ∧ ¬ Two db pb b ∧ CLive W w' db pb s ∧ Below w.heap.size w w'

theorem CLive.apart (h : CLive W w db pb s) : ¬ Two db pb w.heap.size := by
  obtain ⟨l1, l2⟩ := h.ck.lt
  rintro (e | e) <;> omega

set_option maxRecDepth 20000 in
theorem pins_live (w : World) (h : CLive W w db pb s) :
    Calls Try.prog 56 #[.pointer (some ⟨db, 0, none⟩)] w (PinsEnd W w db pb s) :=
  (pins_any w h.ck).mono fun _ _ g => ⟨_, g.1, g.2.1, h.le, h.apart, h.next g.2.2, g.2.2⟩
set_option maxRecDepth 20000 in
theorem used_live (w : World) (h : CLive W w db pb s) :
    Calls Try.prog 57 #[.pointer (some ⟨db, 0, none⟩)] w (UsedEnd W w db pb s) :=
  (used_any w h.ck).mono fun _ _ g => ⟨_, g.1, g.2.1, h.le, h.apart, h.next g.2.2, g.2.2⟩

def NewEnd (W w : World) (n : Nat) (e : Ending) (w' : World) : Prop :=
  ∃ db pb, e = .returned (.tuple #[.pointer (some ⟨db, 0, none⟩), .int .i64 0]) ∧ CLive W w' db pb (CS.new n) ∧ w.heap.size ≤ db ∧ w.heap.size ≤ pb ∧ Below w.heap.size w w'
set_option maxRecDepth 20000 in
theorem gnew_live (w : World) (n : Nat) (h1 : 1 ≤ n) (h2 : n ≤ 1000) (hb : Below W.heap.size W w) :
    Calls Try.prog 41 #[.int .i64 n] w (NewEnd W w n) :=
  (gnew_good w n h1 h2).mono fun _ _ ⟨db, pb, e, hc, l1, l2, hb'⟩ => ⟨db, pb, e, ⟨hc, Nat.le_trans hb.size l1, Nat.le_trans hb.size l2, hb.trans (hb'.mono hb.size)⟩, l1, l2, hb'⟩
end
end Go.Proofs.Ytgkdlbcpckdmkaa

/-
  The plain pool: what each call answers, and how it stands behind it. Nothing here names the program.
-/
namespace Go.Proofs.Ytgkdlbcpckdmkaa

/-- A pool: how many frames, of each the sector (-1: none), its bytes, whether it is dirty; the clock; the disk. -/
structure PP where
  m : Nat
  at_ : Nat → Int
  b : Nat → List UInt8
  d : Nat → Bool
  c : CS
  k : PS

namespace PP
def new (k : PS) (m : Nat) : PP := ⟨m, fun _ => -1, fun _ => [], fun _ => false, CS.new m, k⟩
/-- A frame of which something holds: the first one. -/
def first (m : Nat) (q : Nat → Bool) : Option Nat := (List.range m).find? q
def find (s : PP) (n : Int) : Option Nat := if n < 0 then none else first s.m fun i => s.at_ i == n
def gap (s : PP) : Option Nat := first s.m fun i => s.at_ i == -1
/-- What a frame holds from now on. -/
def lay (s : PP) (i : Nat) (n : Int) (l : List UInt8) (d : Bool) : PP :=
  { s with at_ := fun j => if j = i then n else s.at_ j, b := fun j => if j = i then l else s.b j, d := fun j => if j = i then d else s.d j }
def used (s : PP) (i : Nat) : PP := { s with c := s.c.useS i }
def wrote (s : PP) (i : Nat) : PP := { s with k := s.k.written (s.at_ i) (s.b i) }
/-- P7.2: a frame, or an error; and what stands behind it. (R3: where the writing is refused the hand stays.) -/
def room (s : PP) : Option Nat × Int × PP :=
  match s.gap with
  | some i => (some i, 0, s)
  | none =>
    if s.c.free then
      let i := s.c.vicI.toNat
      if s.d i then
        if s.k.writeE (s.at_ i) (s.b i) = 0 then (some i, 0, PP.lay { s.wrote i with c := s.c.vicS } i (-1) [] false) else (none, s.k.writeE (s.at_ i) (s.b i), s.wrote i)
      else (some i, 0, PP.lay { s with c := s.c.vicS } i (-1) [] false)
    else (none, 60, s)
def get (s : PP) (n : Int) : Int × List UInt8 × PP :=
  match s.find n with
  | some i => (0, s.b i, s.used i)
  | none =>
    if s.k.readE n = 0 then
      match s.room with
      | (some i, _, t) => (0, s.k.readB n, (t.lay i n (s.k.readB n) false).used i)
      | (none, e, t) => (e, [], t)
    else (s.k.readE n, [], s)
def put (s : PP) (n : Int) (l : List UInt8) : Int × PP :=
  if s.k.bad n l then (41, s) else
  match s.find n with
  | some i => (0, (s.lay i n l true).used i)
  | none =>
    match s.room with
    | (some i, _, t) => (0, (t.lay i n l true).used i)
    | (none, e, t) => (e, t)
def pinAt (s : PP) (n : Int) : PP :=
  match s.find n with
  | some i => { s with c := s.c.pinS i }
  | none => s
def pin (s : PP) (n : Int) : Int × PP :=
  let r := s.get n
  if r.1 = 0 then (0, r.2.2.pinAt n) else (r.1, r.2.2)
def unpin (s : PP) (n : Int) : Int × PP :=
  match s.find n with
  | some i => (s.c.unE i, { s with c := s.c.unS i })
  | none => (1, s)
/-- Is a sector at hand and dirty? -/
def dirty (s : PP) (n : Int) : Option Nat :=
  match s.find n with
  | some i => if s.d i then some i else none
  | none => none
def washed (s : PP) (i : Nat) : PP := { s.wrote i with d := fun j => if j = i then false else s.d j }
/-- The dirty sectors from n on, g of them to be looked at, are written. -/
def wash : Nat → Int → PP → Int × PP
  | 0, _, s => (0, s)
  | g + 1, n, s =>
    match s.dirty n with
    | some i => if s.k.writeE (s.at_ i) (s.b i) = 0 then wash g (n + 1) (s.washed i) else (s.k.writeE (s.at_ i) (s.b i), s.wrote i)
    | none => wash g (n + 1) s
def flush (s : PP) : Int × PP :=
  let r := wash s.k.size 0 s
  if r.1 = 0 then (r.2.k.flushE, { r.2 with k := r.2.k.flushed }) else r
def drop (s : PP) : PP := { s with at_ := fun _ => -1, b := fun _ => [], d := fun _ => false, c := CS.new s.m }
def pages (s : PP) : List Int := (List.range s.m).map s.at_
def dirties (s : PP) : List Int := ((List.range s.k.size).map fun n : Nat => (n : Int)).filter fun n => (s.dirty n).isSome

theorem first_some {m : Nat} {q : Nat → Bool} {i : Nat} (h : first m q = some i) : i < m ∧ q i = true := by
  unfold first at h
  have h1 := List.find?_some h
  have h2 := List.mem_of_find?_eq_some h
  exact ⟨List.mem_range.1 h2, h1⟩
theorem first_none {m : Nat} {q : Nat → Bool} (h : first m q = none) : ∀ i, i < m → q i = false := by
  unfold first at h
  rw [List.find?_eq_none] at h
  intro i hi
  have := h i (List.mem_range.2 hi)
  simpa using this
theorem find_some {s : PP} {n : Int} {i : Nat} (h : s.find n = some i) : i < s.m ∧ s.at_ i = n ∧ 0 ≤ n := by
  unfold find at h
  split at h
  · cases h
  · obtain ⟨h1, h2⟩ := first_some h
    exact ⟨h1, by simpa using h2, by omega⟩
theorem find_none {s : PP} {n : Int} (h : s.find n = none) (hn : 0 ≤ n) : ∀ i, i < s.m → s.at_ i ≠ n := by
  unfold find at h
  rw [if_neg (by omega)] at h
  intro i hi
  have := first_none h i hi
  simpa using this
theorem find_of {s : PP} {n : Int} (hn : 0 ≤ n) {i : Nat} (hi : i < s.m) (h : s.at_ i = n) : ∃ j, s.find n = some j := by
  cases hf : s.find n with
  | some j => exact ⟨j, rfl⟩
  | none => exact absurd h (find_none hf hn i hi)
theorem gap_some {s : PP} {i : Nat} (h : s.gap = some i) : i < s.m ∧ s.at_ i = -1 := by
  obtain ⟨h1, h2⟩ := first_some h
  exact ⟨h1, by simpa using h2⟩
theorem gap_none {s : PP} (h : s.gap = none) : ∀ i, i < s.m → s.at_ i ≠ -1 := by
  intro i hi
  have := first_none h i hi
  simpa using this
end PP

namespace PS
theorem has_at (s : PS) (n : Int) : s.has n = true ↔ 0 ≤ n ∧ n < (s.size : Int) := by
  unfold has
  exact decide_eq_true_iff

/-- With the power there, and no fuse. -/
structure Well (s : PS) : Prop where
  down : s.down = false
  fused : s.fused = false

theorem Well.read {s : PS} (h : s.Well) {n : Int} (hn : s.has n = true) : s.readE n = 0 ∧ s.readB n = s.held n := by
  unfold readE readB
  rw [h.down, hn]
  exact ⟨rfl, rfl⟩
theorem Well.readBad {s : PS} (h : s.Well) {n : Int} (hn : s.has n = false) : s.readE n = 41 := by
  unfold readE
  rw [h.down, hn]
  rfl
theorem Well.acted {s : PS} (h : s.Well) : s.acted = s ∧ s.may = true := by
  unfold PS.acted may
  rw [h.fused]
  exact ⟨rfl, rfl⟩
theorem Well.write {s : PS} (h : s.Well) {n : Int} (hn : s.has n = true) {l : List UInt8} (hl : l.length ≤ 1024) : s.writeE n l = 0 ∧ s.written n l = s.lay n l := by
  have hb : s.bad n l = false := by
    unfold bad
    rw [hn]
    simp
    omega
  unfold writeE written
  rw [h.down, hb, h.acted.2, h.acted.1]
  exact ⟨rfl, rfl⟩
theorem Well.flush {s : PS} (h : s.Well) : s.flushE = 0 ∧ s.flushed = s.all := by
  unfold flushE flushed
  rw [h.down, h.acted.2, h.acted.1]
  exact ⟨rfl, rfl⟩
theorem Well.lay {s : PS} (h : s.Well) (n : Int) (l : List UInt8) : (s.lay n l).Well := ⟨h.down, h.fused⟩
theorem Well.all {s : PS} (h : s.Well) : s.all.Well := ⟨h.down, h.fused⟩
theorem lay_held (s : PS) (n : Int) (l : List UInt8) (j : Int) : (s.lay n l).held j = if j = n then l else s.held j := by
  unfold PS.lay held
  by_cases e : j = n
  · simp [e]
  · simp [e]
theorem all_held (s : PS) (j : Int) : s.all.held j = s.held j := by
  unfold PS.all held
  simp
end PS
end Go.Proofs.Ytgkdlbcpckdmkaa

/-
  Which place the clock's Victim is, told without its hand's way. Nothing here names the program.
-/
namespace Go.Proofs.Ytgkdlbcpckdmkaa.CS

theorem at_mod {s : CS} (hh : s.h < s.n) {d : Nat} (hd : d < s.n) : s.at_ d = (s.h + d) % s.n := by
  unfold at_
  split
  · rename_i e
    exact (Nat.mod_eq_of_lt e).symm
  · rename_i e
    rw [Nat.mod_eq_sub_mod (by omega), Nat.mod_eq_of_lt (by omega)]

theorem at_inj {s : CS} {d e : Nat} (hd : d < s.n) (he : e < s.n) (h : s.at_ d = s.at_ e) : d = e := by
  unfold at_ at h
  split at h <;> split at h <;> omega

theorem at_lt {s : CS} (hh : s.h < s.n) {d : Nat} (hd : d < s.n) : s.at_ d < s.n := by
  unfold at_
  split <;> omega

/-- The first place that is free and was not used, all ahead of it being pinned or used. -/
theorem go_first : ∀ (d : Nat) (s : CS), s.h < s.n → d < s.n → (∀ e, e < d → s.p (s.at_ e) ≠ 0 ∨ s.u (s.at_ e) = true) → s.p (s.at_ d) = 0 → s.u (s.at_ d) = false →
    ∃ r, go (d + 1) s = some r ∧ r.1 = s.at_ d
  | 0, s, hh, _, _, h1, h2 => by
    have e0 := at_zero hh
    rw [e0] at h1 h2
    rw [go, if_pos h1, if_neg (by rw [h2]; decide)]
    exact ⟨_, rfl, e0.symm⟩
  | d + 1, s, hh, hd, hp, h1, h2 => by
    have e0 := hp 0 (by omega)
    rw [at_zero hh] at e0
    rw [go]
    by_cases hz : s.p s.h = 0
    · have hu : s.u s.h = true := by
        rcases e0 with e0 | e0
        · exact absurd hz e0
        · exact e0
      rw [if_pos hz, if_pos hu]
      have hat : ∀ e, e + 1 < s.n → (s.setU s.h false).next.at_ e = s.at_ (e + 1) := fun e he => next_at (s := s.setU s.h false) hh he
      have hne : ∀ e, 0 < e → e < s.n → (s.setU s.h false).next.u (s.at_ e) = s.u (s.at_ e) := fun e h0 he => by
        show (if s.at_ e = s.h then false else _) = _
        rw [if_neg (at_ne h0 he)]
      obtain ⟨r, h3, h4⟩ := go_first d (s.setU s.h false).next (next_lt (s := s.setU s.h false) hh) (by show d < s.n; omega) (fun e he => by
        rw [hat e (by omega), hne _ (by omega) (by omega)]
        exact hp (e + 1) (by omega)) (by rw [hat d hd]; exact h1) (by rw [hat d hd, hne _ (by omega) hd]; exact h2)
      exact ⟨r, h3, h4.trans (hat d hd)⟩
    · rw [if_neg hz]
      have hat : ∀ e, e + 1 < s.n → s.next.at_ e = s.at_ (e + 1) := fun e he => next_at hh he
      obtain ⟨r, h3, h4⟩ := go_first d s.next (next_lt hh) (by show d < s.n; omega) (fun e he => by
        rw [hat e (by omega)]
        exact hp (e + 1) (by omega)) (by rw [hat d hd]; exact h1) (by rw [hat d hd]; exact h2)
      exact ⟨r, h3, h4.trans (hat d hd)⟩

/-- So many places on, all of which were pinned or used. -/
structure On (s : CS) (d : Nat) (t : CS) : Prop where
  go_ : ∀ g, go (g + d) s = go g t
  n_ : t.n = s.n
  p_ : t.p = s.p
  h_ : t.h = (s.h + d) % s.n
  off : ∀ e, e < d → s.p (s.at_ e) = 0 → t.u (s.at_ e) = false
  on : ∀ e, d ≤ e → e < s.n → t.u (s.at_ e) = s.u (s.at_ e)

theorem go_on (s : CS) (hh : s.h < s.n) : ∀ (d : Nat), d ≤ s.n → (∀ e, e < d → s.p (s.at_ e) ≠ 0 ∨ s.u (s.at_ e) = true) → ∃ t, On s d t
  | 0, _, _ => ⟨s, fun _ => rfl, rfl, rfl, (Nat.mod_eq_of_lt hh).symm, fun e he => absurd he (by omega), fun _ _ _ => rfl⟩
  | d + 1, hd, hp => by
    obtain ⟨t, h⟩ := go_on s hh d (by omega) (fun e he => hp e (by omega))
    have eh : t.h = s.at_ d := by rw [h.h_, at_mod hh (by omega)]
    have en : (t.h + 1) % t.n = (s.h + (d + 1)) % s.n := by
      rw [h.n_, h.h_, Nat.mod_add_mod, Nat.add_assoc]
    have h0 := hp d (by omega)
    by_cases hz : s.p (s.at_ d) = 0
    · have hu : s.u (s.at_ d) = true := by
        rcases h0 with h0 | h0
        · exact absurd hz h0
        · exact h0
      refine ⟨(t.setU t.h false).next, fun g => ?_, h.n_, h.p_, en, fun e he h1 => ?_, fun e he h1 => ?_⟩
      · rw [show g + (d + 1) = (g + 1) + d by omega, h.go_, go, if_pos (by rw [h.p_, eh]; exact hz), if_pos (by rw [eh, h.on d (Nat.le_refl _) (by omega)]; exact hu)]
      · show (if s.at_ e = t.h then false else t.u (s.at_ e)) = false
        split
        · rfl
        · rename_i hne
          refine h.off e ?_ h1
          have : e ≠ d := fun e2 => hne (by rw [eh, e2])
          omega
      · show (if s.at_ e = t.h then false else t.u (s.at_ e)) = _
        rw [if_neg (fun e2 => by rw [eh] at e2; have := at_inj h1 (by omega) e2; omega)]
        exact h.on e (by omega) h1
    · refine ⟨t.next, fun g => ?_, h.n_, h.p_, en, fun e he h1 => ?_, fun e he h1 => h.on e (by omega) h1⟩
      · rw [show g + (d + 1) = (g + 1) + d by omega, h.go_, go, if_neg (by rw [h.p_, eh]; exact hz)]
      · refine h.off e ?_ h1
        have : e ≠ d := fun e2 => hz (by rw [← e2]; exact h1)
        omega

theorem free_at {s : CS} (hh : s.h < s.n) {d : Nat} (hd : d < s.n) (h0 : s.p (s.at_ d) = 0) : s.free = true :=
  (free_iff s).2 ⟨s.at_ d, at_lt hh hd, h0⟩

theorem way_is {s : CS} (hf : s.free = true) {k : Nat} (hk : k ≤ 2 * s.n) {r : Nat × CS} (h : go k s = some r) : s.way = some r := by
  unfold way
  rw [if_pos hf]
  exact go_le h hk

/-- Victim is the first place that is free and was not used, all ahead of it being pinned or used. -/
theorem vic_first {s : CS} (hh : s.h < s.n) {d : Nat} (hd : d < s.n) (hp : ∀ e, e < d → s.p (s.at_ e) ≠ 0 ∨ s.u (s.at_ e) = true) (h1 : s.p (s.at_ d) = 0) (h2 : s.u (s.at_ d) = false) :
    s.vicI = s.at_ d := by
  obtain ⟨r, h3, h4⟩ := go_first d s hh hd hp h1 h2
  have hw := way_is (free_at hh hd h1) (by omega) h3
  unfold vicI
  rw [hw, ← h4]

/-- Where all are pinned or used it is the first one that is free. -/
theorem vic_second {s : CS} (hh : s.h < s.n) {d : Nat} (hd : d < s.n) (hp : ∀ e, e < s.n → s.p (s.at_ e) ≠ 0 ∨ s.u (s.at_ e) = true) (h0 : ∀ e, e < d → s.p (s.at_ e) ≠ 0) (h1 : s.p (s.at_ d) = 0) :
    s.vicI = s.at_ d := by
  obtain ⟨t, h⟩ := go_on s hh s.n (Nat.le_refl _) hp
  have eh : t.h = s.h := by rw [h.h_, Nat.add_mod_right, Nat.mod_eq_of_lt hh]
  have ea : ∀ e, t.at_ e = s.at_ e := fun e => by unfold at_; rw [eh, h.n_]
  obtain ⟨r, h3, h4⟩ := go_first d t (by rw [eh, h.n_]; exact hh) (by rw [h.n_]; exact hd) (fun e he => by rw [ea, h.p_]; exact Or.inl (h0 e he)) (by rw [ea, h.p_]; exact h1) (by rw [ea]; exact h.off d hd h1)
  have hg : go (2 * s.n) s = some r := by
    rw [show 2 * s.n = s.n + s.n by omega, h.go_]
    exact go_le h3 (by omega)
  have hw := way_is (free_at hh hd h1) (Nat.le_refl _) hg
  unfold vicI
  rw [hw]
  show (r.1 : Int) = _
  rw [h4, ea]

theorem not_free {s : CS} (hh : s.h < s.n) (h0 : ∀ e, e < s.n → s.p (s.at_ e) ≠ 0) : s.free = false := by
  cases hf : s.free with
  | false => rfl
  | true =>
    obtain ⟨j, hj, h1⟩ := (free_iff s).1 hf
    refine absurd h1 ?_
    -- the place j is some place on
    by_cases e : s.h ≤ j
    · have := h0 (j - s.h) (by omega)
      unfold at_ at this
      rw [if_pos (by omega), show s.h + (j - s.h) = j by omega] at this
      exact this
    · have := h0 (j + s.n - s.h) (by omega)
      unfold at_ at this
      rw [if_neg (by omega), show s.h + (j + s.n - s.h) - s.n = j by omega] at this
      exact this
end Go.Proofs.Ytgkdlbcpckdmkaa.CS

/-
  What is meant by a pool in memory.
-/
namespace Go.Proofs.Ytgkdlbcpckdmkaa
open Go.RowKit

/-- What lies at place k of the frames' cells: bytes, sector, whether it is full, whether it is dirty, by turns. -/
def frc (g : Nat → Value) (S : Nat → Int) (U T : Nat → Bool) (k : Nat) : Value :=
  if k % 4 = 0 then g (k / 4) else if k % 4 = 1 then .int .i64 (S (k / 4)) else if k % 4 = 2 then .bool (U (k / 4)) else .bool (T (k / 4))

/-- At one place something else. -/
def at1 {α : Type} (f : Nat → α) (i : Nat) (v : α) : Nat → α := fun j => if j = i then v else f j

theorem at1_here {α : Type} (f : Nat → α) (i : Nat) (v : α) : at1 f i v i = v := if_pos rfl
theorem at1_else {α : Type} (f : Nat → α) {i j : Nat} (v : α) (h : j ≠ i) : at1 f i v j = f j := if_neg h

section
variable (g : Nat → Value) (S : Nat → Int) (U T : Nat → Bool) (i : Nat)

theorem frc_0 : frc g S U T (i * 4) = g i := by
  unfold frc
  rw [if_pos (by omega), show i * 4 / 4 = i by omega]
theorem frc_1 : frc g S U T (i * 4 + 1) = .int .i64 (S i) := by
  unfold frc
  rw [if_neg (by omega), if_pos (by omega), show (i * 4 + 1) / 4 = i by omega]
theorem frc_2 : frc g S U T (i * 4 + 2) = .bool (U i) := by
  unfold frc
  rw [if_neg (by omega), if_neg (by omega), if_pos (by omega), show (i * 4 + 2) / 4 = i by omega]
theorem frc_3 : frc g S U T (i * 4 + 3) = .bool (T i) := by
  unfold frc
  rw [if_neg (by omega), if_neg (by omega), if_neg (by omega), show (i * 4 + 3) / 4 = i by omega]

theorem frc_set0 (v : Value) (k : Nat) : (if k = i * 4 then v else frc g S U T k) = frc (at1 g i v) S U T k := by
  by_cases e : k = i * 4
  · rw [if_pos e, e, frc_0, at1_here]
  · rw [if_neg e]
    unfold frc
    by_cases h : k % 4 = 0
    · rw [if_pos h, if_pos h, at1_else _ _ (by omega)]
    · rw [if_neg h, if_neg h]
theorem frc_set1 (v : Int) (k : Nat) : (if k = i * 4 + 1 then Value.int .i64 v else frc g S U T k) = frc g (at1 S i v) U T k := by
  by_cases e : k = i * 4 + 1
  · rw [if_pos e, e, frc_1, at1_here]
  · rw [if_neg e]
    unfold frc
    by_cases h : k % 4 = 1
    · rw [if_neg (by omega), if_pos h, if_neg (by omega), if_pos h, at1_else _ _ (by omega)]
    · rw [if_neg h, if_neg h]
theorem frc_set2 (v : Bool) (k : Nat) : (if k = i * 4 + 2 then Value.bool v else frc g S U T k) = frc g S (at1 U i v) T k := by
  by_cases e : k = i * 4 + 2
  · rw [if_pos e, e, frc_2, at1_here]
  · rw [if_neg e]
    unfold frc
    by_cases h : k % 4 = 2
    · rw [if_neg (by omega), if_neg (by omega), if_pos h, if_neg (by omega), if_neg (by omega), if_pos h, at1_else _ _ (by omega)]
    · rw [if_neg h, if_neg h]
theorem frc_set3 (v : Bool) (k : Nat) : (if k = i * 4 + 3 then Value.bool v else frc g S U T k) = frc g S U (at1 T i v) k := by
  by_cases e : k = i * 4 + 3
  · rw [if_pos e, e, frc_3, at1_here]
  · rw [if_neg e]
    unfold frc
    by_cases h : k % 4 = 3
    · rw [if_neg (by omega), if_neg (by omega), if_neg (by omega), if_neg (by omega), if_neg (by omega), if_neg (by omega), at1_else _ _ (by omega)]
    · by_cases h0 : k % 4 = 0
      · rw [if_pos h0, if_pos h0]
      · by_cases h1 : k % 4 = 1
        · rw [if_neg h0, if_pos h1, if_neg h0, if_pos h1]
        · have h2 : k % 4 = 2 := by omega
          rw [if_neg h0, if_neg h1, if_pos h2, if_neg h0, if_neg h1, if_pos h2]
end

/-- What lies in the sector's cell of a frame; and in that one that tells whether it is full. -/
def PP.sec (s : PP) (i : Nat) : Int := if s.at_ i = -1 then 0 else s.at_ i
def PP.ful (s : PP) (i : Nat) : Bool := !(s.at_ i == -1)

/-- A pool's struct, its clock and its disk; its frames lie in block fb. -/
structure PCore (w : World) (F D : Nat → Prop) (pb fb cb rb db m : Nat) (c : CS) (k : PS) : Prop where
  str : w.heap[pb]? = some (.cells #[.pointer (some ⟨db, 0, none⟩), .slice (some ⟨fb, 0, none⟩) m m, .pointer (some ⟨cb, 0, none⟩)] 60 (0, 0))
  fty : ∃ cur, w.heap[fb]? = some (.cells cur 69 (0, 0))
  clk : ClkAt w cb rb c
  cm : c.n = m
  dk : Dk w D db k
  fp : F pb
  ff : F fb
  fc : F cb
  fr : F rb
  fd : ∀ k, D k → F k
  dp : ¬ D pb
  df : ¬ D fb
  dc : ¬ D cb
  dr : ¬ D rb
  lt : ∀ k, F k → k < w.heap.size

/-- Each frame's bytes, in memory of the pool's own that is not the disk's. -/
def Owns (w : World) (F D : Nat → Prop) (g : Nat → Value) (m : Nat) (b : Nat → List UInt8) : Prop :=
  ∀ i, i < m → Own w 0 (g i) (b i) ∧ (b i).length ≤ 1024 ∧ ∀ k, (g i).ownBlock = some k → F k ∧ ¬ D k

/-- What may be in frames. -/
structure Fit (s : PP) : Prop where
  vd : ∀ i, i < s.m → s.at_ i = -1 → s.d i = false
  rng : ∀ i, i < s.m → s.at_ i = -1 ∨ s.k.has (s.at_ i) = true

structure PoolAt (w : World) (F D : Nat → Prop) (pb fb cb rb db : Nat) (g : Nat → Value) (s : PP) : Prop where
  core : PCore w F D pb fb cb rb db s.m s.c s.k
  row : w.rowIs fb 69 (s.m * 4) (frc g s.sec s.ful s.d)
  own : Owns w F D g s.m s.b
  fit : Fit s

section
variable {w w' : World} {F F' D D' : Nat → Prop} {pb fb cb rb db m : Nat} {c : CS} {k : PS}

set_option maxRecDepth 20000 in
theorem pool_types : ((60 : TypeId) ≠ 69 ∧ (60 : TypeId) ≠ 102 ∧ (60 : TypeId) ≠ 99) ∧
    ((69 : TypeId) ≠ 102 ∧ (69 : TypeId) ≠ 99) ∧
    ((5 : TypeId) ≠ 60 ∧ (5 : TypeId) ≠ 69 ∧ (5 : TypeId) ≠ 102 ∧ (5 : TypeId) ≠ 99) := by decide

theorem block_ne {w : World} {a b : Nat} {x y : Array Value} {t u : TypeId} {p q : Nat × Nat} (h : w.heap[a]? = some (.cells x t p)) (k : w.heap[b]? = some (.cells y u q)) (ht : t ≠ u) : a ≠ b := by
  intro e
  rw [e, k] at h
  injection h with h
  injection h with _ h
  exact ht h.symm

theorem PCore.ne (h : PCore w F D pb fb cb rb db m c k) : (pb ≠ fb ∧ pb ≠ cb ∧ pb ≠ rb) ∧ (fb ≠ cb ∧ fb ≠ rb) := by
  obtain ⟨⟨t1, t2, t3⟩, ⟨t4, t5⟩, _⟩ := pool_types
  obtain ⟨cur, hf⟩ := h.fty
  obtain ⟨cr, hr, _⟩ := h.clk.row
  exact ⟨⟨block_ne h.str hf t1, block_ne h.str h.clk.str t2, block_ne h.str hr t3⟩, block_ne hf h.clk.str t4, block_ne hf hr t5⟩

/-- A frame's bytes lie in none of the others' blocks. -/
theorem PCore.own_ne (h : PCore w F D pb fb cb rb db m c k) {base : Nat} {v : Value} {l : List UInt8} {q : Nat} (o : Own w base v l) (e : v.ownBlock = some q) : q ≠ pb ∧ q ≠ fb ∧ q ≠ cb ∧ q ≠ rb := by
  obtain ⟨_, _, ⟨t1, t2, t3, t4⟩⟩ := pool_types
  obtain ⟨cur, hc⟩ := own_cells o e
  obtain ⟨cur2, hf⟩ := h.fty
  obtain ⟨cr, hr, _⟩ := h.clk.row
  exact ⟨block_ne hc h.str t1, block_ne hc hf t2, block_ne hc h.clk.str t3, block_ne hc hr t4⟩

theorem PCore.c0 (h : PCore w F D pb fb cb rb db m c k) : w.cell? ⟨pb, 0, none⟩ = some (.pointer (some ⟨db, 0, none⟩)) := (cell_of_row w pb 0 _ _ _ h.str).trans rfl
theorem PCore.c1 (h : PCore w F D pb fb cb rb db m c k) : w.cell? ⟨pb, 1, none⟩ = some (.slice (some ⟨fb, 0, none⟩) m m) := (cell_of_row w pb 1 _ _ _ h.str).trans rfl
theorem PCore.c2 (h : PCore w F D pb fb cb rb db m c k) : w.cell? ⟨pb, 2, none⟩ = some (.pointer (some ⟨cb, 0, none⟩)) := (cell_of_row w pb 2 _ _ _ h.str).trans rfl
theorem PCore.f (h : PCore w F D pb fb cb rb db m c k) (j : Nat) : w.frozen? ⟨pb, j, none⟩ = false := frozen_of_row w pb j _ _ h.str
theorem PCore.m1 (h : PCore w F D pb fb cb rb db m c k) : 1 ≤ m ∧ m ≤ 1000 := by
  have h1 := h.clk.n1
  have h2 := h.clk.n2
  have h3 := h.cm
  omega

/-- Nothing of F has changed. -/
theorem PCore.same (h : PCore w F D pb fb cb rb db m c k) (e : ∀ k, F k → w'.heap[k]? = w.heap[k]?) (hs : w.heap.size ≤ w'.heap.size) : PCore w' F D pb fb cb rb db m c k :=
  { h with
    str := (e pb h.fp).trans h.str
    fty := by
      obtain ⟨cur, hf⟩ := h.fty
      exact ⟨cur, (e fb h.ff).trans hf⟩
    clk := h.clk.same (e cb h.fc) (e rb h.fr)
    dk := by
      obtain ⟨bl, bw, gL, gW, h0⟩ := h.dk
      exact ⟨bl, bw, gL, gW, h0.same (fun k hk => e k (h.fd k hk)) hs⟩
    lt := fun k hk => Nat.lt_of_lt_of_le (h.lt k hk) hs }

/-- More blocks are the pool's. -/
theorem PCore.more (h : PCore w F D pb fb cb rb db m c k) (hF : ∀ k, F k → F' k) (hl : ∀ k, F' k → k < w.heap.size) : PCore w F' D pb fb cb rb db m c k :=
  { h with
    fp := hF _ h.fp
    ff := hF _ h.ff
    fc := hF _ h.fc
    fr := hF _ h.fr
    fd := fun k hk => hF k (h.fd k hk)
    lt := hl }

/-- The frames alone were written. -/
theorem PCore.frame (h : PCore w F D pb fb cb rb db m c k) (hf : ∃ cur, w'.heap[fb]? = some (.cells cur 69 (0, 0))) (hk : Kept (· = fb) w w') : PCore w' F D pb fb cb rb db m c k := by
  obtain ⟨⟨n1, n2, n3⟩, n4, n5⟩ := h.ne
  exact { h with
    str := (hk.block _ (h.lt _ h.fp) n1).trans h.str
    fty := hf
    clk := h.clk.kept hk (fun e => n4 e.symm) (fun e => n5 e.symm)
    dk := h.dk.kept hk (fun k hD e => h.df (by rw [← e]; exact hD))
    lt := fun k hk' => Nat.lt_of_lt_of_le (h.lt k hk') hk.size }

/-- The clock alone was written. -/
theorem PCore.clock (h : PCore w F D pb fb cb rb db m c k) {c' : CS} (hn : c'.n = m) (hc : ClkAt w' cb rb c') (hk : Kept (Two cb rb) w w') : PCore w' F D pb fb cb rb db m c' k := by
  obtain ⟨⟨n1, n2, n3⟩, n4, n5⟩ := h.ne
  exact { h with
    str := (hk.block _ (h.lt _ h.fp) (by rintro (e | e); exact n2 e; exact n3 e)).trans h.str
    fty := by
      obtain ⟨cur, hf⟩ := h.fty
      exact ⟨cur, (hk.block _ (h.lt _ h.ff) (by rintro (e | e); exact n4 e; exact n5 e)).trans hf⟩
    clk := hc
    cm := hn
    dk := h.dk.kept hk (fun k hD e => by rcases e with e | e; exact h.dc (by rw [← e]; exact hD); exact h.dr (by rw [← e]; exact hD))
    lt := fun k hk' => Nat.lt_of_lt_of_le (h.lt k hk') hk.size }

/-- The disk alone was written. -/
theorem PCore.disk (h : PCore w F D pb fb cb rb db m c k) {k' : PS} (hd : Dk w' D' db k') (hN : ∀ k, D' k → D k ∨ w.heap.size ≤ k) (hk : Kept D w w') :
    PCore w' (fun k => F k ∨ w.heap.size ≤ k ∧ k < w'.heap.size) D' pb fb cb rb db m c k' := by
  have no : ∀ b, F b → ¬ D b → ¬ D' b := fun b hF hD h' => by
    rcases hN b h' with e | e
    · exact hD e
    · have := h.lt b hF
      omega
  exact
    { str := (hk.block _ (h.lt _ h.fp) h.dp).trans h.str
      fty := by
        obtain ⟨cur, hf⟩ := h.fty
        exact ⟨cur, (hk.block _ (h.lt _ h.ff) h.df).trans hf⟩
      clk := h.clk.kept hk h.dc h.dr
      cm := h.cm
      dk := hd
      fp := Or.inl h.fp
      ff := Or.inl h.ff
      fc := Or.inl h.fc
      fr := Or.inl h.fr
      fd := fun b hb => by
        rcases hN b hb with e | e
        · exact Or.inl (h.fd b e)
        · exact Or.inr ⟨e, hd.lt b hb⟩
      dp := no _ h.fp h.dp
      df := no _ h.ff h.df
      dc := no _ h.fc h.dc
      dr := no _ h.fr h.dr
      lt := fun b hb => by
        rcases hb with e | e
        · exact Nat.lt_of_lt_of_le (h.lt b e) hk.size
        · exact e.2 }
end

section
variable {w w' w2 : World} {F F' D D' : Nat → Prop} {pb fb cb rb db : Nat} {g : Nat → Value} {s s' : PP}

theorem Owns.same {m : Nat} {b : Nat → List UInt8} (h : Owns w F D g m b) (e : ∀ i q, i < m → (g i).ownBlock = some q → w'.heap[q]? = w.heap[q]?) : Owns w' F D g m b := fun i hi => by
  obtain ⟨h1, h2, h3⟩ := h i hi
  exact ⟨own_of_block h1 (fun q hq => e i q hi hq), h2, h3⟩
theorem Owns.sets {m : Nat} {b : Nat → List UInt8} (h : Owns w F D g m b) (hF : ∀ k, F k → F' k) (hD : ∀ k, F k → ¬ D k → ¬ D' k) : Owns w F' D' g m b := fun i hi => by
  obtain ⟨h1, h2, h3⟩ := h i hi
  exact ⟨h1, h2, fun q hq => ⟨hF q (h3 q hq).1, hD q (h3 q hq).1 (h3 q hq).2⟩⟩

theorem PoolAt.s0 (h : PoolAt w F D pb fb cb rb db g s) {i : Nat} (hi : i < s.m) : w.cell? ⟨fb, i * 4, none⟩ = some (g i) := by
  rw [h.row.cell (by omega), frc_0]
theorem PoolAt.s1 (h : PoolAt w F D pb fb cb rb db g s) {i : Nat} (hi : i < s.m) : w.cell? ⟨fb, i * 4 + 1, none⟩ = some (.int .i64 (s.sec i)) := by
  rw [h.row.cell (by omega), frc_1]
theorem PoolAt.s2 (h : PoolAt w F D pb fb cb rb db g s) {i : Nat} (hi : i < s.m) : w.cell? ⟨fb, i * 4 + 2, none⟩ = some (.bool (s.ful i)) := by
  rw [h.row.cell (by omega), frc_2]
theorem PoolAt.s3 (h : PoolAt w F D pb fb cb rb db g s) {i : Nat} (hi : i < s.m) : w.cell? ⟨fb, i * 4 + 3, none⟩ = some (.bool (s.d i)) := by
  rw [h.row.cell (by omega), frc_3]
theorem PoolAt.sf (h : PoolAt w F D pb fb cb rb db g s) (j : Nat) : w.frozen? ⟨fb, j, none⟩ = false := h.row.frozen j

theorem PoolAt.same (h : PoolAt w F D pb fb cb rb db g s) (e : ∀ k, F k → w'.heap[k]? = w.heap[k]?) (hs : w.heap.size ≤ w'.heap.size) : PoolAt w' F D pb fb cb rb db g s :=
  ⟨h.core.same e hs, h.row.of_block (e fb h.core.ff), h.own.same (fun i q hi hq => e q ((h.own i hi).2.2 q hq).1), h.fit⟩
theorem PoolAt.below (h : PoolAt w F D pb fb cb rb db g s) (hb : Below w.heap.size w w') : PoolAt w' F D pb fb cb rb db g s := h.same (fun k hF => hb.block k (h.core.lt k hF)) hb.size
theorem PoolAt.drewN (h : PoolAt w F D pb fb cb rb db g s) (n : Nat) : PoolAt (w.drewN n) F D pb fb cb rb db g s := h.same (fun _ _ => rfl) (Nat.le_refl _)
/-- What others do leaves a pool alone. -/
theorem PoolAt.kept {G : Nat → Prop} (h : PoolAt w F D pb fb cb rb db g s) (hk : Kept G w w') (hd : ∀ k, F k → ¬ G k) : PoolAt w' F D pb fb cb rb db g s :=
  h.same (fun k hF => hk.block k (h.core.lt k hF) (hd k hF)) hk.size

theorem PoolAt.clock (h : PoolAt w F D pb fb cb rb db g s) {c' : CS} (hn : c'.n = s.c.n) (hc : ClkAt w' cb rb c') (hk : Kept (Two cb rb) w w') : PoolAt w' F D pb fb cb rb db g { s with c := c' } := by
  obtain ⟨⟨n1, n2, n3⟩, n4, n5⟩ := h.core.ne
  exact ⟨h.core.clock (hn.trans h.core.cm) hc hk, h.row.of_block (hk.block _ (h.core.lt _ h.core.ff) (by rintro (e | e); exact n4 e; exact n5 e)), h.own.same (fun i q hi hq => by
    obtain ⟨o1, o2, o3⟩ := h.own i hi
    obtain ⟨_, _, q3, q4⟩ := h.core.own_ne o1 hq
    exact hk.block q (h.core.lt _ (o3 q hq).1) (by rintro (e | e); exact q3 e; exact q4 e)), ⟨h.fit.vd, h.fit.rng⟩⟩

theorem PoolAt.disk (h : PoolAt w F D pb fb cb rb db g s) {k' : PS} (hz : k'.size = s.k.size) (hd : Dk w' D' db k') (hN : ∀ k, D' k → D k ∨ w.heap.size ≤ k) (hk : Kept D w w') :
    PoolAt w' (fun k => F k ∨ w.heap.size ≤ k ∧ k < w'.heap.size) D' pb fb cb rb db g { s with k := k' } := by
  refine ⟨h.core.disk hd hN hk, h.row.of_block (hk.block _ (h.core.lt _ h.core.ff) h.core.df), (h.own.same (fun i q hi hq => by
    obtain ⟨o1, o2, o3⟩ := h.own i hi
    exact hk.block q (h.core.lt _ (o3 q hq).1) (o3 q hq).2)).sets (fun _ hF => Or.inl hF) (fun q hF hD h' => ?_), ⟨h.fit.vd, fun i hi => ?_⟩⟩
  · rcases hN q h' with e | e
    · exact hD e
    · have := h.core.lt q hF
      omega
  · show s.at_ i = -1 ∨ k'.has _ = true
    rw [PS.has_at, hz, ← PS.has_at]
    exact h.fit.rng i hi

/-- Whether a frame is dirty was written. -/
theorem PoolAt.setD (h : PoolAt w F D pb fb cb rb db g s) (i : Nat) (v : Bool) (hv : v = true → s.at_ i ≠ -1) : PoolAt (w.setCell ⟨fb, i * 4 + 3, none⟩ (.bool v)) F D pb fb cb rb db g { s with d := fun j => if j = i then v else s.d j } := by
  have hk : Kept (· = fb) w (w.setCell ⟨fb, i * 4 + 3, none⟩ (.bool v)) := Kept.setCell (F := (· = fb)) w (a := ⟨fb, i * 4 + 3, none⟩) rfl _
  have hr := (h.row.set (i * 4 + 3) (.bool v)).congr (fun k _ => frc_set3 g s.sec s.ful s.d i v k)
  obtain ⟨cur, hc, _⟩ := hr
  refine ⟨h.core.frame ⟨cur, hc⟩ hk, (h.row.set (i * 4 + 3) (.bool v)).congr (fun k _ => frc_set3 g s.sec s.ful s.d i v k), h.own.same (fun j q hj hq => ?_), ⟨fun j hj hat => ?_, h.fit.rng⟩⟩
  · obtain ⟨o1, o2, o3⟩ := h.own j hj
    exact hk.block q (h.core.lt _ (o3 q hq).1) (h.core.own_ne o1 hq).2.1
  · show (if j = i then v else s.d j) = false
    split
    · rename_i e
      cases hv' : v with
      | false => rfl
      | true => exact absurd (by rw [← e]; exact hat) (hv hv')
    · exact h.fit.vd j hj hat

/-- A frame comes to hold something. -/
theorem PoolAt.laid (h : PoolAt w F D pb fb cb rb db g s) {i : Nat} {n : Int} (hn : s.k.has n = true) {v : Value} {l : List UInt8} (hl : l.length ≤ 1024) (hk : Kept (· = fb) w w') (ho : Own w' w.heap.size v l)
    (hr : w'.rowIs fb 69 (s.m * 4) (frc (at1 g i v) (at1 s.sec i n) (at1 s.ful i true) s.d)) :
    PoolAt w' (fun k => F k ∨ w.heap.size ≤ k ∧ k < w'.heap.size) D pb fb cb rb db (at1 g i v) (s.lay i n l (s.d i)) := by
  have hne : n ≠ -1 := by
    have := (s.k.has_at n).1 hn
    omega
  have hc := hr
  obtain ⟨cur, hc, _⟩ := hc
  have e1 : ∀ j, (s.lay i n l (s.d i)).sec j = at1 s.sec i n j := fun j => by
    unfold PP.sec at1 PP.lay
    show (if (if j = i then n else s.at_ j) = -1 then (0 : Int) else (if j = i then n else s.at_ j)) = _
    by_cases e : j = i
    · rw [if_pos e, if_neg hne, if_pos e]
    · rw [if_neg e, if_neg e]
  have e2 : ∀ j, (s.lay i n l (s.d i)).ful j = at1 s.ful i true j := fun j => by
    unfold PP.ful at1 PP.lay
    show (!((if j = i then n else s.at_ j) == -1)) = _
    by_cases e : j = i
    · rw [if_pos e, if_pos e]
      simp [hne]
    · rw [if_neg e, if_neg e]
  have e3 : ∀ j, (s.lay i n l (s.d i)).d j = s.d j := fun j => by
    unfold PP.lay
    show (if j = i then s.d i else s.d j) = _
    split
    · rename_i e
      rw [e]
    · rfl
  refine ⟨(h.core.frame ⟨cur, hc⟩ hk).more (fun _ hF => Or.inl hF) (fun b hb => ?_), hr.congr (fun j _ => ?_), fun j hj => ?_, ⟨fun j hj hat => ?_, fun j hj => ?_⟩⟩
  · rcases hb with e | e
    · exact Nat.lt_of_lt_of_le (h.core.lt b e) hk.size
    · exact e.2
  · rw [show (s.lay i n l (s.d i)).sec = at1 s.sec i n from funext e1, show (s.lay i n l (s.d i)).ful = at1 s.ful i true from funext e2, show (s.lay i n l (s.d i)).d = s.d from funext e3]
  · by_cases e : j = i
    · rw [e, at1_here]
      show Own w' 0 v (if i = i then l else s.b i) ∧ (if i = i then l else s.b i).length ≤ 1024 ∧ _
      rw [if_pos rfl]
      refine ⟨own_base ho, hl, fun q hq => ?_⟩
      obtain ⟨q1, q2⟩ := ho.lt q hq
      refine ⟨Or.inr ⟨q1, q2⟩, fun hD => ?_⟩
      have := h.core.lt q (h.core.fd q hD)
      omega
    · rw [at1_else _ _ e]
      show Own w' 0 (g j) (if j = i then l else s.b j) ∧ (if j = i then l else s.b j).length ≤ 1024 ∧ _
      rw [if_neg e]
      obtain ⟨o1, o2, o3⟩ := h.own j hj
      exact ⟨own_of_block o1 (fun q hq => hk.block q (h.core.lt _ (o3 q hq).1) (h.core.own_ne o1 hq).2.1), o2, fun q hq => ⟨Or.inl (o3 q hq).1, (o3 q hq).2⟩⟩
  · rw [e3]
    have hat' : (if j = i then n else s.at_ j) = -1 := hat
    by_cases e : j = i
    · rw [if_pos e] at hat'
      exact absurd hat' hne
    · rw [if_neg e] at hat'
      exact h.fit.vd j hj hat'
  · show (if j = i then n else s.at_ j) = -1 ∨ s.k.has (if j = i then n else s.at_ j) = true
    by_cases e : j = i
    · rw [if_pos e]
      exact Or.inr hn
    · rw [if_neg e]
      exact h.fit.rng j hj

/-- A frame is emptied. -/
theorem PoolAt.void (h : PoolAt w F D pb fb cb rb db g s) {i : Nat} (hk : Kept (· = fb) w w')
    (hr : w'.rowIs fb 69 (s.m * 4) (frc (at1 g i (.slice none 0 0)) (at1 s.sec i 0) (at1 s.ful i false) (at1 s.d i false))) :
    PoolAt w' F D pb fb cb rb db (at1 g i (.slice none 0 0)) (s.lay i (-1) [] false) := by
  have hc := hr
  obtain ⟨cur, hc, _⟩ := hc
  have e1 : ∀ j, (s.lay i (-1) [] false).sec j = at1 s.sec i 0 j := fun j => by
    unfold PP.sec at1 PP.lay
    show (if (if j = i then (-1 : Int) else s.at_ j) = -1 then (0 : Int) else (if j = i then (-1 : Int) else s.at_ j)) = _
    by_cases e : j = i
    · rw [if_pos e, if_pos rfl, if_pos e]
    · rw [if_neg e, if_neg e]
  have e2 : ∀ j, (s.lay i (-1) [] false).ful j = at1 s.ful i false j := fun j => by
    unfold PP.ful at1 PP.lay
    show (!((if j = i then (-1 : Int) else s.at_ j) == -1)) = _
    by_cases e : j = i
    · rw [if_pos e, if_pos e]
      rfl
    · rw [if_neg e, if_neg e]
  refine ⟨h.core.frame ⟨cur, hc⟩ hk, hr.congr (fun j _ => ?_), fun j hj => ?_, ⟨fun j hj hat => ?_, fun j hj => ?_⟩⟩
  · rw [show (s.lay i (-1) [] false).sec = at1 s.sec i 0 from funext e1, show (s.lay i (-1) [] false).ful = at1 s.ful i false from funext e2]
    rfl
  · show Own w' 0 _ (if j = i then [] else s.b j) ∧ (if j = i then [] else s.b j).length ≤ 1024 ∧ _
    by_cases e : j = i
    · rw [if_pos e, e, at1_here]
      exact ⟨own_nil _ _, Nat.zero_le _, fun q hq => by cases hq⟩
    · rw [at1_else _ _ e, if_neg e]
      obtain ⟨o1, o2, o3⟩ := h.own j hj
      exact ⟨own_of_block o1 (fun q hq => hk.block q (h.core.lt _ (o3 q hq).1) (h.core.own_ne o1 hq).2.1), o2, o3⟩
  · show (if j = i then false else s.d j) = false
    have hat' : (if j = i then (-1 : Int) else s.at_ j) = -1 := hat
    split
    · rfl
    · rename_i e
      rw [if_neg e] at hat'
      exact h.fit.vd j hj hat'
  · show (if j = i then (-1 : Int) else s.at_ j) = -1 ∨ s.k.has (if j = i then (-1 : Int) else s.at_ j) = true
    by_cases e : j = i
    · rw [if_pos e]
      exact Or.inl rfl
    · rw [if_neg e]
      exact h.fit.rng j hj
end

/-- What a call leaves that answers v. -/
def PEnd (w : World) (F : Nat → Prop) (pb fb cb rb db : Nat) (s' : PP) (v : Value) (e : Ending) (w' : World) : Prop :=
  e = .returned v ∧ ∃ F' D' g', PoolAt w' F' D' pb fb cb rb db g' s' ∧ Moves w F w' F'

theorem Moves.new {w w' : World} {F : Nat → Prop} (h : Kept F w w') : Moves w F w' (fun k => F k ∨ w.heap.size ≤ k ∧ k < w'.heap.size) :=
  ⟨h, fun _ hk => by rcases hk with e | e; exact Or.inl e; exact Or.inr e.1⟩
theorem Moves.refl (w : World) (F : Nat → Prop) : Moves w F w F := ⟨Kept.refl _ _, fun _ hk => Or.inl hk⟩
end Go.Proofs.Ytgkdlbcpckdmkaa
