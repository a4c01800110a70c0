/-
  What node's read comes to.
-/
import Derived.Test.YtgnlmbelaempcaaNRdMem
import Derived.Test.YtgnlmbelaempcaaNCheck
import Derived.Deep.RegionLaw
import Derived.Deep.AppendLies
import Derived.Deep.DeepCutAuto
import Derived.Deep.LoopGhost
import Derived.Laws.EntriesVeiled
import Derived.RegionTactic
import Derived.ChangeAlike
import Derived.BigRegion
namespace Go.Proofs.Ytgnlmbelaempcaa
open Go.RowKit

set_option maxRecDepth 20000 in
theorem strInfo : (Try.prog.info? 9).map (fun i => (i.zero, i.size, i.bytes)) = some (some (.string ⟨#[]⟩), 1, 16) := by kernel_rfl

/-- What read answers. -/
def ReadEnd (w : World) (lf : Bool) (l : List UInt8) (e : Ending) (w' : World) : Prop :=
  ∃ v s, e = .returned (.tuple #[v, .bool (ND.prs lf l).isSome]) ∧ NdV w' w.heap.size v s ∧ Below w.heap.size w w' ∧ (∀ t, ND.prs lf l = some t → s = t) ∧ s.keys.length ≤ 70000 ∧ s.vals.length ≤ 70000 ∧ s.kids.length ≤ 70000

/-- What stands at the loop's head. -/
structure RP (w0 : World) (w : World) (gb gr gm gt gn gx : Nat) (lf : Bool) (l : List UInt8) (N k : Nat) : Prop where
  is : ∃ mis r s kv vv cv, RS w gb gr gm gt gn gx gb mis r s kv vv cv ∧ Below gb w0 w ∧ s.leaf = lf ∧ s.keys.length ≤ k ∧ s.vals.length ≤ k ∧ s.kids.length ≤ k + 1 ∧ r.length ≤ l.length ∧
    ((mis = false ∧ ND.prs lf l = goOn lf (N - k) r s) ∨ (mis = true ∧ ND.prs lf l = none))

theorem six_blocks (w : World) (o1 o2 o3 o4 o5 o6 : Obj) :
    ((((((w.alloc o1).alloc o2).alloc o3).alloc o4).alloc o5).alloc o6).heap[w.heap.size]? = some o1 ∧ ((((((w.alloc o1).alloc o2).alloc o3).alloc o4).alloc o5).alloc o6).heap[w.heap.size + 1]? = some o2 ∧
    ((((((w.alloc o1).alloc o2).alloc o3).alloc o4).alloc o5).alloc o6).heap[w.heap.size + 1 + 1]? = some o3 ∧ ((((((w.alloc o1).alloc o2).alloc o3).alloc o4).alloc o5).alloc o6).heap[w.heap.size + 1 + 1 + 1]? = some o4 ∧
    ((((((w.alloc o1).alloc o2).alloc o3).alloc o4).alloc o5).alloc o6).heap[w.heap.size + 1 + 1 + 1 + 1]? = some o5 ∧ ((((((w.alloc o1).alloc o2).alloc o3).alloc o4).alloc o5).alloc o6).heap[w.heap.size + 1 + 1 + 1 + 1 + 1]? = some o6 := by
  have e : ((((((w.alloc o1).alloc o2).alloc o3).alloc o4).alloc o5).alloc o6).heap = (((((w.heap.push o1).push o2).push o3).push o4).push o5).push o6 := rfl
  rw [e]
  generalize w.heap = H
  simp only [Array.getElem?_push, Array.size_push]
  refine ⟨?_, ?_, ?_, ?_, ?_, ?_⟩ <;> (repeat (first | rw [if_pos trivial] | rw [if_pos (by omega)] | rw [if_neg (by omega)]))

theorem rs_start {w : World} {lf : Bool} {A : Option Addr} {n c : Nat} {l : List UInt8} (hl : l.length = n) (hb : Bys w w.heap.size A l) (hc : n ≤ c) (hm : c ≤ maxLen) :
    RS ((((((w.alloc (Obj.cells #[Value.slice A n c] 28)).alloc (Obj.cells #[Value.bool false, Value.slice none 0 0, Value.slice none 0 0, Value.slice none 0 0] 26)).alloc (Obj.cells #[Value.bool false] 4)).alloc
      (Obj.cells #[Value.func (Fn.func 35) #[] #[Value.pointer (some ⟨w.heap.size, 0, none⟩), Value.pointer (some ⟨w.heap.size + 1 + 1, 0, none⟩)]] 42)).alloc
      (Obj.cells #[Value.func (Fn.func 36) #[] #[Value.pointer (some ⟨w.heap.size + 1 + 1 + 1, 0, none⟩)]] 54)).alloc
      (Obj.cells #[Value.bool lf, Value.slice none 0 0, Value.slice none 0 0, Value.slice none 0 0] 26))
      w.heap.size (w.heap.size + 1) (w.heap.size + 1 + 1) (w.heap.size + 1 + 1 + 1) (w.heap.size + 1 + 1 + 1 + 1) (w.heap.size + 1 + 1 + 1 + 1 + 1) w.heap.size false l ⟨lf, [], [], []⟩ (.slice none 0 0) (.slice none 0 0) (.slice none 0 0) := by
  subst hl
  obtain ⟨e1, e2, e3, e4, e5, e6⟩ := six_blocks w (Obj.cells #[Value.slice A l.length c] 28) (Obj.cells #[Value.bool false, Value.slice none 0 0, Value.slice none 0 0, Value.slice none 0 0] 26) (Obj.cells #[Value.bool false] 4)
      (Obj.cells #[Value.func (Fn.func 35) #[] #[Value.pointer (some ⟨w.heap.size, 0, none⟩), Value.pointer (some ⟨w.heap.size + 1 + 1, 0, none⟩)]] 42)
      (Obj.cells #[Value.func (Fn.func 36) #[] #[Value.pointer (some ⟨w.heap.size + 1 + 1 + 1, 0, none⟩)]] 54)
      (Obj.cells #[Value.bool lf, Value.slice none 0 0, Value.slice none 0 0, Value.slice none 0 0] 26)
  exact ⟨by omega, ⟨A, c, e1, e3, hc, hm, (((((hb.alloc _).alloc _).alloc _).alloc _).alloc _).alloc _, by omega, by omega⟩, e4, e5, e2, e6, World.ownsRow_nil _ _ _ _, World.ownsRow_nil _ _ _ _, World.ownsRow_nil _ _ _ _, fun g e => by cases e⟩

theorem below_step {w wr w2 w5 : World} {gb gr gm gt gn gx R : Nat} {mis : Bool} {r : List UInt8} (od : gb < gr ∧ gr < gm ∧ gm < gt ∧ gt < gn ∧ gn < gx) (b : Below gb w wr) (q : RB wr gb gm R mis r) (k1 : Kept (RF gb gm) wr.drew w2) (k2 : Kept (fun j => gx ≤ j) w2 w5) : Below gb w w5 := by
  have hlt := q.lt.1
  have b1 : Below gb wr.drew w2 := k1.toBelow (fun j e => by rcases e with e | e <;> omega) (Nat.le_of_lt hlt)
  have hs : wr.heap.size ≤ w2.heap.size := k1.size
  have b2 : Below gb w2 w5 := k2.toBelow (fun j e => by omega) (by omega)
  exact (b.drew.trans b1).trans b2

theorem kid_ways {l l' : List UInt8} {z : Nat} {mis mis' : Bool} (h : (mis' = mis ∧ 4 ≤ l.length ∧ z = bn (l.take 4) ∧ l' = l.drop 4) ∨ (mis' = true ∧ l.length < 4 ∧ z = 0 ∧ l' = l)) :
    l'.length ≤ l.length ∧ ((mis' = mis ∧ ND.kidT l = some ((z : Int), l')) ∨ (mis' = true ∧ ND.kidT l = none)) := by
  rcases h with ⟨rfl, h1, rfl, rfl⟩ | ⟨rfl, h1, rfl, rfl⟩
  · exact ⟨by rw [List.length_drop]; omega, Or.inl ⟨rfl, kid_bn h1⟩⟩
  · exact ⟨Nat.le_refl _, Or.inr ⟨rfl, kid_short h1⟩⟩
theorem first_kid {l r1 r2 : List UInt8} {z : Nat} {c : Int} {mis1 mis2 : Bool} (h : (mis1 = false ∧ z < 65536 ∧ ND.prs false l = if false then goOn true z r1 ⟨true, [], [], []⟩ else (match ND.kidT r1 with
    | none => none
    | some (c, r') => goOn false z r' ⟨false, [], [], [c]⟩)) ∨ (mis1 = true ∧ z = 0 ∧ ND.prs false l = none)) (g : (mis2 = mis1 ∧ ND.kidT r1 = some (c, r2)) ∨ (mis2 = true ∧ ND.kidT r1 = none)) :
    (mis2 = false ∧ ND.prs false l = goOn false (z - 0) r2 ⟨false, [], [], [] ++ [c]⟩) ∨ (mis2 = true ∧ ND.prs false l = none) := by
  rcases h with ⟨rfl, _, h⟩ | ⟨rfl, _, h⟩
  · rw [if_neg (by decide)] at h
    rcases g with ⟨rfl, g⟩ | ⟨rfl, g⟩
    · rw [g] at h
      exact Or.inl ⟨rfl, h⟩
    · rw [g] at h
      exact Or.inr ⟨rfl, h⟩
  · rcases g with ⟨rfl, _⟩ | ⟨rfl, _⟩
    · exact Or.inr ⟨rfl, h⟩
    · exact Or.inr ⟨rfl, h⟩

/-- Where the answer is laid. -/
theorem read_laid {w wX W4 : World} {gb gr gm gt gn gx nk nv nc ck cw cc : Nat} {Ak Av Ac : Option Addr} {mis res lf : Bool} {r l : List UInt8} {s : ND} (M : RS wX gb gr gm gt gn gx gb mis r s (.slice Ak nk ck) (.slice Av nv cw) (.slice Ac nc cc))
    (hb : NBut gr wX W4) (hx : NBox W4 gr (.bool s.leaf) (.slice Ak nk ck) (.slice Av nv cw) (.slice Ac nc cc)) (B : Below gb w W4)
    (hg : w.heap.size = gb) (hp : ∀ t, ND.prs lf l = some t → s = t) (hr : (ND.prs lf l).isSome = res) (h1 : s.keys.length ≤ 70000) (h2 : s.vals.length ≤ 70000) (h3 : s.kids.length ≤ 70000) :
    (W4.drew.cell? ⟨gr, 0, none⟩ = some (.bool s.leaf) ∧ W4.drew.cell? ⟨gr, 1, none⟩ = some (.slice Ak nk ck) ∧ W4.drew.cell? ⟨gr, 2, none⟩ = some (.slice Av nv cw) ∧ W4.drew.cell? ⟨gr, 3, none⟩ = some (.slice Ac nc cc)) ∧
    ReadEnd w lf l (.returned (.tuple #[.agg #[.bool s.leaf, .slice Ak nk ck, .slice Av nv cw, .slice Ac nc cc], .bool res])) W4.drew := by
  obtain ⟨o1, o2, o3, o4, o5⟩ := M.od
  have el : ∀ {A : Option Addr} {n c N : Nat} {e : TypeId} {xs : List Value}, wX.ownsRow (gx + 1) e 1 (.slice A n c) N xs → n = N ∧ NHi (gx + 1) A ∧ Ln wX 1 A n c xs := by
    intro A n c N e xs h
    obtain ⟨A', c', e', _, hL⟩ := Ln.of_own h
    injection e' with e1 e2 e3
    subst e1
    subst e2
    subst e3
    exact ⟨rfl, NHi.of_own h, hL⟩
  obtain ⟨_, a2, a3⟩ := el M.ke
  obtain ⟨_, b2, b3⟩ := el M.va
  obtain ⟨_, c2, c3⟩ := el M.ki
  have d1 := (a3.nbut hb (a2.low (by omega))).same (w' := W4.drew) rfl
  have d2 := (b3.nbut hb (b2.low (by omega))).same (w' := W4.drew) rfl
  have d3 := (c3.nbut hb (c2.low (by omega))).same (w' := W4.drew) rfl
  have hx' : NBox W4.drew gr (.bool s.leaf) (.slice Ak nk ck) (.slice Av nv cw) (.slice Ac nc cc) := hx.block rfl
  subst hr
  subst hg
  have hv : NdV W4.drew w.heap.size (.agg #[.bool s.leaf, .slice Ak nk ck, .slice Av nv cw, .slice Ac nc cc]) s :=
    ⟨Ak, nk, ck, Av, nv, cw, Ac, nc, cc, rfl, ⟨d1, d2, d3⟩, a2.low (by omega), b2.low (by omega), c2.low (by omega)⟩
  exact ⟨hx'.cells, _, s, rfl, hv, B.drew, hp, h1, h2, h3⟩
theorem read_done {w wX : World} {gb gr gm gt gn gx nk nv nc ck cw cc : Nat} {Ak Av Ac : Option Addr} {mis res lf : Bool} {r l : List UInt8} {s : ND} (M : RS wX gb gr gm gt gn gx gb mis r s (.slice Ak nk ck) (.slice Av nv cw) (.slice Ac nc cc))
    (hg : w.heap.size = gb) (B : Below gb w wX) (hp : ∀ t, ND.prs lf l = some t → s = t) (hr : (ND.prs lf l).isSome = res) (h1 : s.keys.length ≤ 70000) (h2 : s.vals.length ≤ 70000) (h3 : s.kids.length ≤ 70000) :
    (((((wX.setCell ⟨gr, 0, none⟩ (.bool s.leaf)).setCell ⟨gr, 1, none⟩ (.slice Ak nk ck)).setCell ⟨gr, 2, none⟩ (.slice Av nv cw)).setCell ⟨gr, 3, none⟩ (.slice Ac nc cc)).drew.cell? ⟨gr, 0, none⟩ = some (.bool s.leaf) ∧
    ((((wX.setCell ⟨gr, 0, none⟩ (.bool s.leaf)).setCell ⟨gr, 1, none⟩ (.slice Ak nk ck)).setCell ⟨gr, 2, none⟩ (.slice Av nv cw)).setCell ⟨gr, 3, none⟩ (.slice Ac nc cc)).drew.cell? ⟨gr, 1, none⟩ = some (.slice Ak nk ck) ∧
    ((((wX.setCell ⟨gr, 0, none⟩ (.bool s.leaf)).setCell ⟨gr, 1, none⟩ (.slice Ak nk ck)).setCell ⟨gr, 2, none⟩ (.slice Av nv cw)).setCell ⟨gr, 3, none⟩ (.slice Ac nc cc)).drew.cell? ⟨gr, 2, none⟩ = some (.slice Av nv cw) ∧
    ((((wX.setCell ⟨gr, 0, none⟩ (.bool s.leaf)).setCell ⟨gr, 1, none⟩ (.slice Ak nk ck)).setCell ⟨gr, 2, none⟩ (.slice Av nv cw)).setCell ⟨gr, 3, none⟩ (.slice Ac nc cc)).drew.cell? ⟨gr, 3, none⟩ = some (.slice Ac nc cc)) ∧
    ReadEnd w lf l (.returned (.tuple #[.agg #[.bool s.leaf, .slice Ak nk ck, .slice Av nv cw, .slice Ac nc cc], .bool res])) ((((wX.setCell ⟨gr, 0, none⟩ (.bool s.leaf)).setCell ⟨gr, 1, none⟩ (.slice Ak nk ck)).setCell ⟨gr, 2, none⟩ (.slice Av nv cw)).setCell ⟨gr, 3, none⟩ (.slice Ac nc cc)).drew :=
  read_laid M (NBut.put wX gr (.bool s.leaf) (.slice Ak nk ck) (.slice Av nv cw) (.slice Ac nc cc)) (M.res.put (.bool s.leaf) (.slice Ak nk ck) (.slice Av nv cw) (.slice Ac nc cc)) (below_nput B (by have := M.od; omega) (.bool s.leaf) (.slice Ak nk ck) (.slice Av nv cw) (.slice Ac nc cc)) hg hp hr h1 h2 h3

set_option maxRecDepth 20000 in
set_option maxHeartbeats 6400000 in
theorem nread_any (lf : Bool) (A : Option Addr) (n c : Nat) (l : List UInt8) (w : World) (hl : l.length = n) (hb : Bys w w.heap.size A l) (hc : n ≤ c) (hm : c ≤ maxLen) :
    Calls Try.prog 28 #[.bool lf, .slice A n c] w (ReadEnd w lf l) := by
  have hmf : ∀ (fn : Fn) (first cap : Array Value) (w : World), (Instr.makeFunc fn first cap).run Try.prog w = .ok (.func fn first cap) w := fun _ _ _ _ => rfl
  obtain ⟨i0, hi, hz0, hz1, hz2⟩ := info_parts strInfo
  obtain ⟨i1, hi1, hy0, hy1, hy2⟩ := info_parts intInfo
  have M0 := Lib.hid (rs_start (lf := lf) hl hb hc hm)
  clear hl hb hc hm
  go_enter Try.func28, Try.ntmps28
  go_wp2_with fail
  go_step3
  go_wp2_with fail
  have B0 : Hid (Below w.heap.size w ((((((w.alloc (Obj.cells #[Value.slice A n c] 28)).alloc (Obj.cells #[Value.bool false, Value.slice none 0 0, Value.slice none 0 0, Value.slice none 0 0] 26)).alloc (Obj.cells #[Value.bool false] 4)).alloc
      (Obj.cells #[Value.func (Fn.func 35) #[] #[Value.pointer (some ⟨w.heap.size, 0, none⟩), Value.pointer (some ⟨w.heap.size + 1 + 1, 0, none⟩)]] 42)).alloc
      (Obj.cells #[Value.func (Fn.func 36) #[] #[Value.pointer (some ⟨w.heap.size + 1 + 1 + 1, 0, none⟩)]] 54)).alloc
      (Obj.cells #[Value.bool lf, Value.slice none 0 0, Value.slice none 0 0, Value.slice none 0 0] 26))) :=
    Lib.hid (((((((Below.refl _ _).alloc (Nat.le_refl _) _).alloc (by simp) _).alloc (by simp; omega) _).alloc (by simp; omega) _).alloc (by simp; omega) _).alloc (by simp; omega) _)
  generalize ((((((w.alloc (Obj.cells #[Value.slice A n c] 28)).alloc (Obj.cells #[Value.bool false, Value.slice none 0 0, Value.slice none 0 0, Value.slice none 0 0] 26)).alloc (Obj.cells #[Value.bool false] 4)).alloc
      (Obj.cells #[Value.func (Fn.func 35) #[] #[Value.pointer (some ⟨w.heap.size, 0, none⟩), Value.pointer (some ⟨w.heap.size + 1 + 1, 0, none⟩)]] 42)).alloc
      (Obj.cells #[Value.func (Fn.func 36) #[] #[Value.pointer (some ⟨w.heap.size + 1 + 1 + 1, 0, none⟩)]] 54)).alloc
      (Obj.cells #[Value.bool lf, Value.slice none 0 0, Value.slice none 0 0, Value.slice none 0 0] 26)) = w0 at *
  generalize w.heap.size + 1 + 1 + 1 + 1 + 1 = gx at *
  generalize w.heap.size + 1 + 1 + 1 + 1 = gn at *
  generalize w.heap.size + 1 + 1 + 1 = gt at *
  generalize w.heap.size + 1 + 1 = gm at *
  generalize w.heap.size + 1 = gr at *
  generalize hgb : w.heap.size = gb at *
  have HGB := Lib.hid hgb
  clear hgb
  refine (number_two (w := w0) M0.out.rb M0.out.tk).mono ?_
  rintro e w1 ⟨z, mis1, r1, rfl, hz, q1, k1, hw1⟩
  have RL : Hid (r1.length ≤ l.length) := Lib.hid (by rcases hw1 with ⟨_, _, _, rfl⟩ | ⟨_, _, _, rfl⟩; (rw [List.length_drop]; omega); omega)
  have HP2 : Hid ((mis1 = false ∧ z < 65536 ∧ ND.prs lf l = if lf then goOn true z r1 ⟨true, [], [], []⟩ else (match ND.kidT r1 with
    | none => none
    | some (c, r') => goOn false z r' ⟨false, [], [], [c]⟩)) ∨ (mis1 = true ∧ z = 0 ∧ ND.prs lf l = none)) := Lib.hid (by
      rcases hw1 with ⟨rfl, h2, rfl, rfl⟩ | ⟨rfl, h2, rfl, rfl⟩
      · exact Or.inl ⟨rfl, (prs_two (lf := lf) h2).1, (prs_two h2).2⟩
      · exact Or.inr ⟨rfl, rfl, prs_short h2⟩)
  have hzz : z < 65536 := by rcases HP2.out with h | h; exact h.2.1; (have := h.2.1; omega)
  have M1 := Lib.hid (M0.out.call k1 q1)
  have B1 : Hid (Below gb w w1) := Lib.hid (B0.out.trans (k1.toBelow (fun j e => by have := M0.out.od; rcases e with e | e <;> omega) (by have := M0.out.rb.lt.1; omega)))
  clear q1 k1 hw1 hz M0 B0
  cases lf with
  | true =>
    have H0 : Hid (RP w w1 gb gr gm gt gn gx true l z 0) := Lib.hid ⟨mis1, r1, _, _, _, _, M1.out, B1.out, rfl, Nat.le_refl _, Nat.le_refl _, Nat.zero_le _, RL.out, by
      rcases HP2.out with ⟨h1, _, h3⟩ | ⟨h1, _, h3⟩
      · exact Or.inl ⟨h1, h3⟩
      · exact Or.inr ⟨h1, h3⟩⟩
    clear M1 B1 RL HP2
    go_wp2_with fail
    go_step3
    go_wp2_with fail
    go_loopg [29] z (fun g v wr => ∃ k : Nat, g = z - k ∧ k ≤ z ∧ v = .int .i64 k ∧ Hid (RP w wr gb gr gm gt gn gx true l z k))
    case atStart => exact ⟨0, rfl, Nat.zero_le _, rfl, H0⟩
    case round =>
      obtain ⟨k, rfl, hk, rfl, HP⟩ := hrel
      obtain ⟨mis, r, s, kv, vv, cv, m, hB, hl, lk, lv, lc, lr, hG⟩ := HP.out.is
      have M := Lib.hid m
      have BW := Lib.hid hB
      have HL := Lib.hid hl
      have HG := Lib.hid hG
      clear hB hl hG
      by_cases hlt : k < z
      · have MD : Hid (RS wr.drew gb gr gm gt gn gx gb mis r s kv vv cv) := Lib.hid (m.same rfl)
        clear m
        go_upto_region 11 with fail
        go_cut [] (fun wx => Hid (∃ mis1 r1 t kv1 s1, s1 = ND.mk s.leaf (s.keys ++ [t]) s.vals s.kids ∧ RS wx gb gr gm gt gn gx gb mis1 r1 s1 kv1 vv cv ∧ Below gb w wx ∧ r1.length ≤ r.length ∧ ((mis1 = mis ∧ ND.cutT r = some (t, r1)) ∨ (mis1 = true ∧ ND.cutT r = none))))
        case first =>
          obtain ⟨p0, p1, p2, p3⟩ := M.out.box.cells
          obtain ⟨f0, f1, f2, f3⟩ := M.out.box.free
          go_region_law
            (first
              | (go_simp; go_at_call 37; refine (ntext_any (w := wr.drew) MD.out.rb MD.out.tk MD.out.nb).mono ?_; rintro e w2 ⟨t, mis1, r1, rfl, q1, k1, hr1, hw1⟩; have M2 := Lib.hid (MD.out.call k1 q1); have KK := Lib.hid k1; have HW := Lib.hid hw1; have x1 := M2.out.box.cells.2.1; have x2 := M2.out.box.free.2.1; have x3 := M2.out.box.lt; clear q1 k1 hw1)
              | (refine step_append_lies _ rfl (.tmp 32) (.tmp 35) 23 rfl (gx + 1) 9 i0 _ 1 16 Try.underlying23 hi hz0 hz1 hz2 rfl (by decide) kv s.keys.length (strVals s.keys) (by rfl) (M2.out.ke.alloc _) ⟨w2.heap.size, 0, none⟩ 1 1 [.string t] (by rfl) rfl (cell_one_new _ _ _) (by simp [Value.oneCell']) (by omega) (by unfold maxLen; omega) (by omega) (by simp; omega) _ rfl ?_; intro g4 cap4 w4 o4 gr4 at4 lt4; obtain ⟨s0, s1, S2, S3⟩ := pushK M2.out o4 gr4 at4))
          all_goals (
            go_wp2_with fail
            go_meet
            exact Lib.hid ⟨mis1, r1, t.toList, _, _, rfl, S2.out, below_step M.out.od BW.out M.out.rb KK.out S3.out, hr1, HW.out⟩)
        case rest =>
          clear MD
          obtain ⟨mis1, r1, t, kv1, s1, hs1, m1, b1, hr1, hw1⟩ := hcut.out
          have jk : s1.keys.length ≤ k + 1 := by rw [hs1]; simp; exact lk
          have jv : s1.vals.length ≤ k := by rw [hs1]; exact lv
          have jc : s1.kids.length ≤ k + 1 := by rw [hs1]; exact lc
          have HS1 := Lib.hid hs1
          have M1 := Lib.hid m1
          have BW1 := Lib.hid b1
          have HW := Lib.hid hw1
          have MC := (show ∃ A c, wc.heap[gm]? = some (.cells #[.bool mis1] 4 (0, 0)) from by obtain ⟨A, c, _, h2, _⟩ := m1.rb; exact ⟨A, c, h2⟩)
          obtain ⟨_, _, mc⟩ := MC
          obtain ⟨mc0, mc1⟩ := one_cell mc
          clear hs1 b1 hw1 mc mc1 hcut
          cases mis1 with
          | true =>
            clear m1
            have HN : Hid (ND.prs true l = none) := Lib.hid (by
              rcases HG.out with ⟨h1, h2⟩ | ⟨_, h2⟩
              · rcases HW.out with ⟨h3, _⟩ | ⟨_, h4⟩
                · rw [h1] at h3; cases h3
                · rw [h2, show z - k = (z - k - 1) + 1 by omega]; exact goOn_none h4
              · exact h2)
            go_wp2_with fail
            obtain ⟨Ak, ck, rfl, _, _⟩ := Ln.of_own M1.out.ke
            obtain ⟨Av, cw, rfl, _, _⟩ := Ln.of_own M1.out.va
            obtain ⟨Ac, cc, rfl, _, _⟩ := Ln.of_own M1.out.ki
            obtain ⟨p0, p1, p2, p3⟩ := M1.out.box.cells
            obtain ⟨q0, q1, q2, q3⟩ := M1.out.res.cells
            obtain ⟨f0, f1, f2, f3⟩ := M1.out.res.free
            obtain ⟨o1, o2, o3, o4, o5⟩ := M1.out.od
            have n1 : gr ≠ gx := by omega
            have n2 : gr ≠ gm := by omega
            have n3 : gr ≠ gb := by omega
            have n4 : gx ≠ gr := by omega
            have n5 : gm ≠ gr := by omega
            have n6 : gb ≠ gr := by omega
            have HPP := Lib.hid (show ∀ t, ND.prs true l = some t → s1 = t from fun t e => by rw [HN.out] at e; cases e)
            have HRR := Lib.hid (show (ND.prs true l).isSome = false from by rw [HN.out]; rfl)
            go_region
            go_wp2_with fail
            obtain ⟨⟨e0, e1, e2, e3⟩, HE⟩ := read_done M1.out HGB.out BW1.out HPP.out HRR.out (by omega) (by omega) (by omega)
            rw [Exit.noGoto_ret]
            refine bodyPost_ret (v := .tuple #[.agg #[.bool s1.leaf, .slice Ak s1.keys.length ck, .slice Av s1.vals.length cw, .slice Ac s1.kids.length cc], .bool false]) (by simp [results, Try.results28, go_sem, e0, e1, e2, e3]) rfl HE
          | false =>
            have HC : Hid (mis = false ∧ ND.cutT r = some (t, r1)) := Lib.hid (by rcases HW.out with ⟨h1, h2⟩ | ⟨h1, _⟩; exact ⟨h1.symm, h2⟩; cases h1)
            have HG1 : Hid (ND.prs true l = goOn true (z - (k + 1) + 1) r s) := Lib.hid (by
              rw [show z - (k + 1) + 1 = z - k by omega]
              rcases HG.out with ⟨_, h2⟩ | ⟨h1, _⟩
              · exact h2
              · rw [HC.out.1] at h1; cases h1)
            have MD : Hid (RS wc.drew gb gr gm gt gn gx gb false r1 s1 kv1 vv cv) := Lib.hid (m1.same rfl)
            clear m1 HP HG HW
            go_wp2_with fail
            · obtain ⟨p0, p1, p2, p3⟩ := M1.out.box.cells
              obtain ⟨f0, f1, f2, f3⟩ := M1.out.box.free
              go_region_law
                (first
                  | (go_simp; go_at_call 37; refine (ntext_any (w := wc.drew) MD.out.rb MD.out.tk MD.out.nb).mono ?_; rintro e w2 ⟨t2, mis2, r2, rfl, q1, k1, hr2, hw2⟩; have M2 := Lib.hid (MD.out.call k1 q1); have KK := Lib.hid k1; have HW := Lib.hid hw2; have x1 := M2.out.box.cells.2.2.1; have x2 := M2.out.box.free.2.2.1; have x3 := M2.out.box.lt; clear q1 k1 hw2)
                  | (refine step_append_lies _ rfl (.tmp 50) (.tmp 53) 23 rfl (gx + 1) 9 i0 _ 1 16 Try.underlying23 hi hz0 hz1 hz2 rfl (by decide) vv s1.vals.length (strVals s1.vals) (by rfl) (M2.out.va.alloc _) ⟨w2.heap.size, 0, none⟩ 1 1 [.string t2] (by rfl) rfl (cell_one_new _ _ _) (by simp [Value.oneCell']) (by omega) (by unfold maxLen; omega) (by omega) (by simp; omega) _ rfl ?_; intro g4 cap4 w4 o4 gr4 at4 lt4; obtain ⟨z0, z1, S2, S3⟩ := pushV M2.out o4 gr4 at4))
              all_goals (
                go_wp2_with fail
                go_roundg (z - (k + 1))
                case measure => omega
                case rel =>
                  refine ⟨k + 1, rfl, by omega, by go_num, Lib.hid ⟨mis2, r2, _, kv1, _, cv, S2.out, below_step M1.out.od BW1.out M1.out.rb KK.out S3.out, by show s1.leaf = true; rw [HS1.out]; exact HL.out, jk, by simp; exact jv, by show s1.kids.length ≤ _; omega, by omega, ?_⟩⟩
                  rcases HW.out with ⟨h1, h2⟩ | ⟨h1, h2⟩
                  · refine Or.inl ⟨h1, ?_⟩
                    rw [HG1.out, goOn_val HC.out.2 h2, HS1.out]
                  · refine Or.inr ⟨h1, ?_⟩
                    rw [HG1.out]
                    exact goOn_noval HC.out.2 h2)
      · obtain rfl : z = k := by omega
        obtain ⟨Ab, cb, hb0, hm0, _⟩ := m.rb
        obtain ⟨bb0, _⟩ := one_cell hb0
        obtain ⟨mm0, _⟩ := one_cell hm0
        clear m hb0 hm0
        cases mis with
        | true =>
          have HN : Hid (ND.prs true l = none) := Lib.hid (by rcases HG.out with ⟨h1, _⟩ | ⟨_, h2⟩; cases h1; exact h2)
          go_wp2_with fail
          obtain ⟨Ak, ck, rfl, _, _⟩ := Ln.of_own M.out.ke
          obtain ⟨Av, cw, rfl, _, _⟩ := Ln.of_own M.out.va
          obtain ⟨Ac, cc, rfl, _, _⟩ := Ln.of_own M.out.ki
          obtain ⟨p0, p1, p2, p3⟩ := M.out.box.cells
          obtain ⟨q0, q1, q2, q3⟩ := M.out.res.cells
          obtain ⟨f0, f1, f2, f3⟩ := M.out.res.free
          obtain ⟨o1, o2, o3, o4, o5⟩ := M.out.od
          have n1 : gr ≠ gx := by omega
          have n2 : gr ≠ gm := by omega
          have n3 : gr ≠ gb := by omega
          have n4 : gx ≠ gr := by omega
          have n5 : gm ≠ gr := by omega
          have n6 : gb ≠ gr := by omega
          have HPP := Lib.hid (show ∀ t, ND.prs true l = some t → s = t from fun t e => by rw [HN.out] at e; cases e)
          have HRR := Lib.hid (show (ND.prs true l).isSome = false from by rw [HN.out]; rfl)
          go_region
          go_wp2_with fail
          obtain ⟨⟨e0, e1, e2, e3⟩, HE⟩ := read_done M.out HGB.out BW.out HPP.out HRR.out (by omega) (by omega) (by omega)
          rw [Exit.noGoto_ret]
          refine bodyPost_ret (v := .tuple #[.agg #[.bool s.leaf, .slice Ak s.keys.length ck, .slice Av s.vals.length cw, .slice Ac s.kids.length cc], .bool false]) (by simp [results, Try.results28, go_sem, e0, e1, e2, e3]) rfl HE
        | false =>
          have HN : Hid (ND.prs true l = if r.length = 0 then some s else none) := Lib.hid (by rcases HG.out with ⟨_, h2⟩ | ⟨h1, _⟩; (rw [h2, Nat.sub_self]; exact goOn_end HL.out); cases h1)
          by_cases hr0 : r.length = 0
          · have HT : Hid (ND.prs true l = some s) := Lib.hid (HN.out.trans (if_pos hr0))
            have hq : ((r.length : Int) == 0) = true := by rw [hr0]; rfl
            clear hr0
            go_wp2_with fail
            obtain ⟨Ak, ck, rfl, _, _⟩ := Ln.of_own M.out.ke
            obtain ⟨Av, cw, rfl, _, _⟩ := Ln.of_own M.out.va
            obtain ⟨Ac, cc, rfl, _, _⟩ := Ln.of_own M.out.ki
            obtain ⟨p0, p1, p2, p3⟩ := M.out.box.cells
            obtain ⟨q0, q1, q2, q3⟩ := M.out.res.cells
            obtain ⟨f0, f1, f2, f3⟩ := M.out.res.free
            obtain ⟨o1, o2, o3, o4, o5⟩ := M.out.od
            have n1 : gr ≠ gx := by omega
            have n2 : gr ≠ gm := by omega
            have n3 : gr ≠ gb := by omega
            have n4 : gx ≠ gr := by omega
            have n5 : gm ≠ gr := by omega
            have n6 : gb ≠ gr := by omega
            have HPP := Lib.hid (show ∀ t, ND.prs true l = some t → s = t from fun t e => by rw [HT.out] at e; exact Option.some.inj e)
            have HRR := Lib.hid (show (ND.prs true l).isSome = true from by rw [HT.out]; rfl)
            go_region
            go_wp2_with fail
            obtain ⟨⟨e0, e1, e2, e3⟩, HE⟩ := read_done M.out HGB.out BW.out HPP.out HRR.out (by omega) (by omega) (by omega)
            rw [Exit.noGoto_ret]
            refine bodyPost_ret (v := .tuple #[.agg #[.bool s.leaf, .slice Ak s.keys.length ck, .slice Av s.vals.length cw, .slice Ac s.kids.length cc], .bool true]) (by simp [results, Try.results28, go_sem, e0, e1, e2, e3]) rfl HE
          · have HT : Hid (ND.prs true l = none) := Lib.hid (HN.out.trans (if_neg hr0))
            have hq := int_nz hr0
            clear hr0
            go_wp2_with fail
            obtain ⟨Ak, ck, rfl, _, _⟩ := Ln.of_own M.out.ke
            obtain ⟨Av, cw, rfl, _, _⟩ := Ln.of_own M.out.va
            obtain ⟨Ac, cc, rfl, _, _⟩ := Ln.of_own M.out.ki
            obtain ⟨p0, p1, p2, p3⟩ := M.out.box.cells
            obtain ⟨q0, q1, q2, q3⟩ := M.out.res.cells
            obtain ⟨f0, f1, f2, f3⟩ := M.out.res.free
            obtain ⟨o1, o2, o3, o4, o5⟩ := M.out.od
            have n1 : gr ≠ gx := by omega
            have n2 : gr ≠ gm := by omega
            have n3 : gr ≠ gb := by omega
            have n4 : gx ≠ gr := by omega
            have n5 : gm ≠ gr := by omega
            have n6 : gb ≠ gr := by omega
            have HPP := Lib.hid (show ∀ t, ND.prs true l = some t → s = t from fun t e => by rw [HT.out] at e; cases e)
            have HRR := Lib.hid (show (ND.prs true l).isSome = false from by rw [HT.out]; rfl)
            go_region
            go_wp2_with fail
            obtain ⟨⟨e0, e1, e2, e3⟩, HE⟩ := read_done M.out HGB.out BW.out HPP.out HRR.out (by omega) (by omega) (by omega)
            rw [Exit.noGoto_ret]
            refine bodyPost_ret (v := .tuple #[.agg #[.bool s.leaf, .slice Ak s.keys.length ck, .slice Av s.vals.length cw, .slice Ac s.kids.length cc], .bool false]) (by simp [results, Try.results28, go_sem, e0, e1, e2, e3]) rfl HE
  | false =>
    have MD : Hid (RS w1.drew gb gr gm gt gn gx gb mis1 r1 ⟨false, [], [], []⟩ (.slice none 0 0) (.slice none 0 0) (.slice none 0 0)) := Lib.hid (M1.out.same rfl)
    go_wp2_with fail
    go_cut [] (fun wx => Hid (RP w wx gb gr gm gt gn gx false l z 0))
    case first =>
      obtain ⟨p0, p1, p2, p3⟩ := M1.out.box.cells
      obtain ⟨f0, f1, f2, f3⟩ := M1.out.box.free
      obtain ⟨nb0, _⟩ := one_cell M1.out.nb
      go_region_law
        (first
          | (go_simp; go_at_call 36; refine (number_four (w := w1.drew) MD.out.rb MD.out.tk).mono ?_; rintro e w2 ⟨z2, mis2, r2, rfl, hz4, q1, k1, hw2⟩; have M2 := Lib.hid (MD.out.call k1 q1); have KK := Lib.hid k1; have HW := Lib.hid (kid_ways hw2); have x1 := M2.out.box.cells.2.2.2; have x2 := M2.out.box.free.2.2.2; have x3 := M2.out.box.lt; clear q1 k1 hw2 hz4)
          | (refine step_append_lies _ rfl (.tmp 22) (.tmp 25) 24 rfl (gx + 1) 3 i1 _ 1 8 Try.underlying24 hi1 hy0 hy1 hy2 rfl (by decide) (.slice none 0 0) 0 (intVals []) (by rfl) (M2.out.ki.alloc _) ⟨w2.heap.size, 0, none⟩ 1 1 [.int .i64 z2] (by rfl) rfl (cell_one_new _ _ _) (by simp [Value.oneCell']) (by omega) (by unfold maxLen; omega) (by omega) (by simp; omega) _ rfl ?_; intro g4 cap4 w4 o4 gr4 at4 lt4; obtain ⟨z0, z1, S2, S3⟩ := pushC M2.out o4 gr4))
      all_goals (
        go_wp2_with fail
        go_meet
        exact Lib.hid ⟨mis2, r2, _, _, _, _, S2.out, below_step M1.out.od B1.out M1.out.rb KK.out S3.out, rfl, Nat.zero_le _, Nat.zero_le _, Nat.le_refl _, Nat.le_trans HW.out.1 RL.out, first_kid HP2.out HW.out.2⟩)
    case rest =>
      have H0 := hcut
      clear MD M1 B1 RL HP2 hcut
      go_wp2_with fail
      go_step3
      go_wp2_with fail
      go_loopg [29] z (fun g v wr => ∃ k : Nat, g = z - k ∧ k ≤ z ∧ v = .int .i64 k ∧ Hid (RP w wr gb gr gm gt gn gx false l z k))
      case atStart => exact ⟨0, rfl, Nat.zero_le _, rfl, H0⟩
      case round =>
        obtain ⟨k, rfl, hk, rfl, HP⟩ := hrel
        obtain ⟨mis, r, s, kv, vv, cv, m, hB, hl, lk, lv, lc, lr, hG⟩ := HP.out.is
        have M := Lib.hid m
        have BW := Lib.hid hB
        have HL := Lib.hid hl
        have HG := Lib.hid hG
        clear hB hl hG
        by_cases hlt : k < z
        · have MD : Hid (RS wr.drew gb gr gm gt gn gx gb mis r s kv vv cv) := Lib.hid (m.same rfl)
          clear m
          go_upto_region 11 with fail
          go_cut [] (fun wx => Hid (∃ mis1 r1 t kv1 s1, s1 = ND.mk s.leaf (s.keys ++ [t]) s.vals s.kids ∧ RS wx gb gr gm gt gn gx gb mis1 r1 s1 kv1 vv cv ∧ Below gb w wx ∧ r1.length ≤ r.length ∧ ((mis1 = mis ∧ ND.cutT r = some (t, r1)) ∨ (mis1 = true ∧ ND.cutT r = none))))
          case first =>
            obtain ⟨p0, p1, p2, p3⟩ := M.out.box.cells
            obtain ⟨f0, f1, f2, f3⟩ := M.out.box.free
            go_region_law
              (first
                | (go_simp; go_at_call 37; refine (ntext_any (w := wr.drew) MD.out.rb MD.out.tk MD.out.nb).mono ?_; rintro e w2 ⟨t, mis1, r1, rfl, q1, k1, hr1, hw1⟩; have M2 := Lib.hid (MD.out.call k1 q1); have KK := Lib.hid k1; have HW := Lib.hid hw1; have x1 := M2.out.box.cells.2.1; have x2 := M2.out.box.free.2.1; have x3 := M2.out.box.lt; clear q1 k1 hw1)
                | (refine step_append_lies _ rfl (.tmp 32) (.tmp 35) 23 rfl (gx + 1) 9 i0 _ 1 16 Try.underlying23 hi hz0 hz1 hz2 rfl (by decide) kv s.keys.length (strVals s.keys) (by rfl) (M2.out.ke.alloc _) ⟨w2.heap.size, 0, none⟩ 1 1 [.string t] (by rfl) rfl (cell_one_new _ _ _) (by simp [Value.oneCell']) (by omega) (by unfold maxLen; omega) (by omega) (by simp; omega) _ rfl ?_; intro g4 cap4 w4 o4 gr4 at4 lt4; obtain ⟨s0, s1, S2, S3⟩ := pushK M2.out o4 gr4 at4))
            all_goals (
              go_wp2_with fail
              go_meet
              exact Lib.hid ⟨mis1, r1, t.toList, _, _, rfl, S2.out, below_step M.out.od BW.out M.out.rb KK.out S3.out, hr1, HW.out⟩)
          case rest =>
            clear MD
            obtain ⟨mis1, r1, t, kv1, s1, hs1, m1, b1, hr1, hw1⟩ := hcut.out
            have jk : s1.keys.length ≤ k + 1 := by rw [hs1]; simp; exact lk
            have jv : s1.vals.length ≤ k := by rw [hs1]; exact lv
            have jc : s1.kids.length ≤ k + 1 := by rw [hs1]; exact lc
            have HS1 := Lib.hid hs1
            have M1 := Lib.hid m1
            have BW1 := Lib.hid b1
            have HW := Lib.hid hw1
            have MC := (show ∃ A c, wc.heap[gm]? = some (.cells #[.bool mis1] 4 (0, 0)) from by obtain ⟨A, c, _, h2, _⟩ := m1.rb; exact ⟨A, c, h2⟩)
            obtain ⟨_, _, mc⟩ := MC
            obtain ⟨mc0, mc1⟩ := one_cell mc
            clear hs1 b1 hw1 mc mc1 hcut
            cases mis1 with
            | true =>
              clear m1
              have HN : Hid (ND.prs false l = none) := Lib.hid (by
                rcases HG.out with ⟨h1, h2⟩ | ⟨_, h2⟩
                · rcases HW.out with ⟨h3, _⟩ | ⟨_, h4⟩
                  · rw [h1] at h3; cases h3
                  · rw [h2, show z - k = (z - k - 1) + 1 by omega]; exact goOn_none h4
                · exact h2)
              go_wp2_with fail
              obtain ⟨Ak, ck, rfl, _, _⟩ := Ln.of_own M1.out.ke
              obtain ⟨Av, cw, rfl, _, _⟩ := Ln.of_own M1.out.va
              obtain ⟨Ac, cc, rfl, _, _⟩ := Ln.of_own M1.out.ki
              obtain ⟨p0, p1, p2, p3⟩ := M1.out.box.cells
              obtain ⟨q0, q1, q2, q3⟩ := M1.out.res.cells
              obtain ⟨f0, f1, f2, f3⟩ := M1.out.res.free
              obtain ⟨o1, o2, o3, o4, o5⟩ := M1.out.od
              have n1 : gr ≠ gx := by omega
              have n2 : gr ≠ gm := by omega
              have n3 : gr ≠ gb := by omega
              have n4 : gx ≠ gr := by omega
              have n5 : gm ≠ gr := by omega
              have n6 : gb ≠ gr := by omega
              have HPP := Lib.hid (show ∀ t, ND.prs false l = some t → s1 = t from fun t e => by rw [HN.out] at e; cases e)
              have HRR := Lib.hid (show (ND.prs false l).isSome = false from by rw [HN.out]; rfl)
              go_region
              go_wp2_with fail
              obtain ⟨⟨e0, e1, e2, e3⟩, HE⟩ := read_done M1.out HGB.out BW1.out HPP.out HRR.out (by omega) (by omega) (by omega)
              rw [Exit.noGoto_ret]
              refine bodyPost_ret (v := .tuple #[.agg #[.bool s1.leaf, .slice Ak s1.keys.length ck, .slice Av s1.vals.length cw, .slice Ac s1.kids.length cc], .bool false]) (by simp [results, Try.results28, go_sem, e0, e1, e2, e3]) rfl HE
            | false =>
              have HC : Hid (mis = false ∧ ND.cutT r = some (t, r1)) := Lib.hid (by rcases HW.out with ⟨h1, h2⟩ | ⟨h1, _⟩; exact ⟨h1.symm, h2⟩; cases h1)
              have HG1 : Hid (ND.prs false l = goOn false (z - (k + 1) + 1) r s) := Lib.hid (by
                rw [show z - (k + 1) + 1 = z - k by omega]
                rcases HG.out with ⟨_, h2⟩ | ⟨h1, _⟩
                · exact h2
                · rw [HC.out.1] at h1; cases h1)
              have MD : Hid (RS wc.drew gb gr gm gt gn gx gb false r1 s1 kv1 vv cv) := Lib.hid (m1.same rfl)
              clear m1 HP HG HW
              go_wp2_with fail
              · obtain ⟨p0, p1, p2, p3⟩ := M1.out.box.cells
                obtain ⟨f0, f1, f2, f3⟩ := M1.out.box.free
                obtain ⟨nb0, _⟩ := one_cell M1.out.nb
                go_region_law
                  (first
                    | (go_simp; go_at_call 36; refine (number_four (w := wc.drew) MD.out.rb MD.out.tk).mono ?_; rintro e w2 ⟨z2, mis2, r2, rfl, hz4, q1, k1, hw2⟩; have M2 := Lib.hid (MD.out.call k1 q1); have KK := Lib.hid k1; have HW := Lib.hid (kid_ways hw2); have x1 := M2.out.box.cells.2.2.2; have x2 := M2.out.box.free.2.2.2; have x3 := M2.out.box.lt; clear q1 k1 hw2 hz4)
                    | (refine step_append_lies _ rfl (.tmp 39) (.tmp 42) 24 rfl (gx + 1) 3 i1 _ 1 8 Try.underlying24 hi1 hy0 hy1 hy2 rfl (by decide) cv s1.kids.length (intVals s1.kids) (by rfl) (M2.out.ki.alloc _) ⟨w2.heap.size, 0, none⟩ 1 1 [.int .i64 z2] (by rfl) rfl (cell_one_new _ _ _) (by simp [Value.oneCell']) (by omega) (by unfold maxLen; omega) (by omega) (by simp; omega) _ rfl ?_; intro g4 cap4 w4 o4 gr4 at4 lt4; obtain ⟨z0, z1, S2, S3⟩ := pushC M2.out o4 gr4))
                all_goals (
                  go_wp2_with fail
                  go_roundg (z - (k + 1))
                  case measure => omega
                  case rel =>
                    refine ⟨k + 1, rfl, by omega, by go_num, Lib.hid ⟨mis2, r2, _, kv1, vv, _, S2.out, below_step M1.out.od BW1.out M1.out.rb KK.out S3.out, by show s1.leaf = false; rw [HS1.out]; exact HL.out, jk, by show s1.vals.length ≤ _; omega, by simp; omega, by have := HW.out.1; omega, ?_⟩⟩
                    rcases HW.out.2 with ⟨h1, h2⟩ | ⟨h1, h2⟩
                    · refine Or.inl ⟨h1, ?_⟩
                      rw [HG1.out, goOn_kid HC.out.2 h2, HS1.out]
                    · refine Or.inr ⟨h1, ?_⟩
                      rw [HG1.out]
                      exact goOn_nokid HC.out.2 h2)
        · obtain rfl : z = k := by omega
          obtain ⟨Ab, cb, hb0, hm0, _⟩ := m.rb
          obtain ⟨bb0, _⟩ := one_cell hb0
          obtain ⟨mm0, _⟩ := one_cell hm0
          clear m hb0 hm0
          cases mis with
          | true =>
            have HN : Hid (ND.prs false l = none) := Lib.hid (by rcases HG.out with ⟨h1, _⟩ | ⟨_, h2⟩; cases h1; exact h2)
            go_wp2_with fail
            obtain ⟨Ak, ck, rfl, _, _⟩ := Ln.of_own M.out.ke
            obtain ⟨Av, cw, rfl, _, _⟩ := Ln.of_own M.out.va
            obtain ⟨Ac, cc, rfl, _, _⟩ := Ln.of_own M.out.ki
            obtain ⟨p0, p1, p2, p3⟩ := M.out.box.cells
            obtain ⟨q0, q1, q2, q3⟩ := M.out.res.cells
            obtain ⟨f0, f1, f2, f3⟩ := M.out.res.free
            obtain ⟨o1, o2, o3, o4, o5⟩ := M.out.od
            have n1 : gr ≠ gx := by omega
            have n2 : gr ≠ gm := by omega
            have n3 : gr ≠ gb := by omega
            have n4 : gx ≠ gr := by omega
            have n5 : gm ≠ gr := by omega
            have n6 : gb ≠ gr := by omega
            have HPP := Lib.hid (show ∀ t, ND.prs false l = some t → s = t from fun t e => by rw [HN.out] at e; cases e)
            have HRR := Lib.hid (show (ND.prs false l).isSome = false from by rw [HN.out]; rfl)
            go_region
            go_wp2_with fail
            obtain ⟨⟨e0, e1, e2, e3⟩, HE⟩ := read_done M.out HGB.out BW.out HPP.out HRR.out (by omega) (by omega) (by omega)
            rw [Exit.noGoto_ret]
            refine bodyPost_ret (v := .tuple #[.agg #[.bool s.leaf, .slice Ak s.keys.length ck, .slice Av s.vals.length cw, .slice Ac s.kids.length cc], .bool false]) (by simp [results, Try.results28, go_sem, e0, e1, e2, e3]) rfl HE
          | false =>
            have HN : Hid (ND.prs false l = if r.length = 0 then some s else none) := Lib.hid (by rcases HG.out with ⟨_, h2⟩ | ⟨h1, _⟩; (rw [h2, Nat.sub_self]; exact goOn_end HL.out); cases h1)
            by_cases hr0 : r.length = 0
            · have HT : Hid (ND.prs false l = some s) := Lib.hid (HN.out.trans (if_pos hr0))
              have hq : ((r.length : Int) == 0) = true := by rw [hr0]; rfl
              clear hr0
              go_wp2_with fail
              obtain ⟨Ak, ck, rfl, _, _⟩ := Ln.of_own M.out.ke
              obtain ⟨Av, cw, rfl, _, _⟩ := Ln.of_own M.out.va
              obtain ⟨Ac, cc, rfl, _, _⟩ := Ln.of_own M.out.ki
              obtain ⟨p0, p1, p2, p3⟩ := M.out.box.cells
              obtain ⟨q0, q1, q2, q3⟩ := M.out.res.cells
              obtain ⟨f0, f1, f2, f3⟩ := M.out.res.free
              obtain ⟨o1, o2, o3, o4, o5⟩ := M.out.od
              have n1 : gr ≠ gx := by omega
              have n2 : gr ≠ gm := by omega
              have n3 : gr ≠ gb := by omega
              have n4 : gx ≠ gr := by omega
              have n5 : gm ≠ gr := by omega
              have n6 : gb ≠ gr := by omega
              have HPP := Lib.hid (show ∀ t, ND.prs false l = some t → s = t from fun t e => by rw [HT.out] at e; exact Option.some.inj e)
              have HRR := Lib.hid (show (ND.prs false l).isSome = true from by rw [HT.out]; rfl)
              go_region
              go_wp2_with fail
              obtain ⟨⟨e0, e1, e2, e3⟩, HE⟩ := read_done M.out HGB.out BW.out HPP.out HRR.out (by omega) (by omega) (by omega)
              rw [Exit.noGoto_ret]
              refine bodyPost_ret (v := .tuple #[.agg #[.bool s.leaf, .slice Ak s.keys.length ck, .slice Av s.vals.length cw, .slice Ac s.kids.length cc], .bool true]) (by simp [results, Try.results28, go_sem, e0, e1, e2, e3]) rfl HE
            · have HT : Hid (ND.prs false l = none) := Lib.hid (HN.out.trans (if_neg hr0))
              have hq := int_nz hr0
              clear hr0
              go_wp2_with fail
              obtain ⟨Ak, ck, rfl, _, _⟩ := Ln.of_own M.out.ke
              obtain ⟨Av, cw, rfl, _, _⟩ := Ln.of_own M.out.va
              obtain ⟨Ac, cc, rfl, _, _⟩ := Ln.of_own M.out.ki
              obtain ⟨p0, p1, p2, p3⟩ := M.out.box.cells
              obtain ⟨q0, q1, q2, q3⟩ := M.out.res.cells
              obtain ⟨f0, f1, f2, f3⟩ := M.out.res.free
              obtain ⟨o1, o2, o3, o4, o5⟩ := M.out.od
              have n1 : gr ≠ gx := by omega
              have n2 : gr ≠ gm := by omega
              have n3 : gr ≠ gb := by omega
              have n4 : gx ≠ gr := by omega
              have n5 : gm ≠ gr := by omega
              have n6 : gb ≠ gr := by omega
              have HPP := Lib.hid (show ∀ t, ND.prs false l = some t → s = t from fun t e => by rw [HT.out] at e; cases e)
              have HRR := Lib.hid (show (ND.prs false l).isSome = false from by rw [HT.out]; rfl)
              go_region
              go_wp2_with fail
              obtain ⟨⟨e0, e1, e2, e3⟩, HE⟩ := read_done M.out HGB.out BW.out HPP.out HRR.out (by omega) (by omega) (by omega)
              rw [Exit.noGoto_ret]
              refine bodyPost_ret (v := .tuple #[.agg #[.bool s.leaf, .slice Ak s.keys.length ck, .slice Av s.vals.length cw, .slice Ac s.kids.length cc], .bool false]) (by simp [results, Try.results28, go_sem, e0, e1, e2, e3]) rfl HE
end Go.Proofs.Ytgnlmbelaempcaa
