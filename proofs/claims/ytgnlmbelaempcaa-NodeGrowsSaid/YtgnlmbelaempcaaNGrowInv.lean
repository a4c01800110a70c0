/-
  A node that is made out of another one by appends, in any order: rows of texts in blocks of their own, and what holds while the operations come one by one.
-/
import Derived.Test.YtgnlmbelaempcaaAnyInv
import Derived.Test.YtgnlmbelaempcaaNRdMem
import Derived.Test.YtgnlmbelaempcaaNLaw
namespace Go.Proofs.Ytgnlmbelaempcaa
open Go.RowKit

/-- Rows of texts of one's own, at base or above, each in a block of its own. -/
structure Rws (w : World) (B : Nat) (p : Nat → Option (Value × Nat × List Value)) : Prop where
  row : ∀ q v n xs, p q = some (v, n, xs) → w.ownsRow B 9 1 v n xs
  ap : ∀ q r v n xs v' n' xs', q ≠ r → p q = some (v, n, xs) → p r = some (v', n', xs') → ∀ g, v.ownBlock = some g → v'.ownBlock ≠ some g

/-- One row anew. -/
def pset (p : Nat → Option (Value × Nat × List Value)) (q : Nat) (e : Value × Nat × List Value) : Nat → Option (Value × Nat × List Value) := fun r => if r = q then some e else p r

section
variable {w w' : World} {B : Nat} {p : Nat → Option (Value × Nat × List Value)}
theorem Rws.none_ (w : World) (B : Nat) : Rws w B (fun _ => none) := ⟨fun _ _ _ _ h => (by cases h), fun _ _ _ _ _ _ _ _ _ h => (by cases h)⟩

theorem Rws.same (h : Rws w B p) (e : w'.heap = w.heap) : Rws w' B p := by
  refine ⟨fun q v n xs hq => ?_, h.ap⟩
  have := h.row q v n xs hq
  unfold World.ownsRow at this ⊢
  rw [e]
  exact this

/-- One row is another one now, in its block or in a new one; all others stay. -/
theorem Rws.put (h : Rws w B p) (q : Nat) (v' : Value) (n' : Nat) (xs' : List Value) (ho : w'.ownsRow B 9 1 v' n' xs')
    (hk : ∀ r v n xs, r ≠ q → p r = some (v, n, xs) → w'.ownsRow B 9 1 v n xs)
    (ha : ∀ r v n xs, r ≠ q → p r = some (v, n, xs) → ∀ g, v.ownBlock = some g → v'.ownBlock ≠ some g) : Rws w' B (pset p q (v', n', xs')) := by
  constructor
  · intro r v n xs hr
    unfold pset at hr
    by_cases e : r = q
    · rw [if_pos e] at hr
      obtain ⟨rfl, rfl, rfl⟩ : v' = v ∧ n' = n ∧ xs' = xs := by simpa using hr
      exact ho
    · rw [if_neg e] at hr
      exact hk r v n xs e hr
  · intro r s v n xs u m ys hne hr hs g hg
    unfold pset at hr hs
    by_cases e : r = q
    · rw [if_pos e] at hr
      have e2 : ¬ s = q := fun e2 => hne (e.trans e2.symm)
      rw [if_neg e2] at hs
      obtain ⟨rfl, rfl, rfl⟩ : v' = v ∧ n' = n ∧ xs' = xs := by simpa using hr
      intro hu
      exact ha s u m ys e2 hs g hu hg
    · rw [if_neg e] at hr
      by_cases e2 : s = q
      · rw [if_pos e2] at hs
        obtain ⟨rfl, rfl, rfl⟩ : v' = u ∧ n' = m ∧ xs' = ys := by simpa using hs
        exact ha r v n xs e hr g hg
      · rw [if_neg e2] at hs
        exact h.ap r s v n xs u m ys hne hr hs g hg

/-- A row is made. -/
theorem Rws.alloc (h : Rws w B p) (hB : B ≤ w.heap.size) (q : Nat) (cs : Array Value) (n : Nat) (hs : cs.size = n) (hm : n ≤ maxLen) :
    Rws (w.alloc (.cells cs 9)) B (pset p q (.slice (some ⟨w.heap.size, 0, none⟩) n n, n, cs.toList)) := by
  refine h.put q _ _ _ (World.ownsRow_lit w cs n hB hm (by omega)) (fun r v n xs _ hr => (h.row r v n xs hr).alloc _) (fun r v n xs _ hr g hg => ?_)
  have := ((h.row r v n xs hr).lt g hg).2
  intro e
  have : w.heap.size = g := by simpa [Value.ownBlock] using e
  omega

/-- Another block is made. -/
theorem Rws.beside (h : Rws w B p) (o : Obj) : Rws (w.alloc o) B p := ⟨fun r v n xs hr => (h.row r v n xs hr).alloc _, h.ap⟩

/-- A row grows. -/
theorem Rws.grow (h : Rws w B p) {q : Nat} {v v' : Value} {n n' : Nat} {xs xs' : List Value} (hq : p q = some (v, n, xs)) (ho : w'.ownsRow B 9 1 v' n' xs') (hg : w.grownBy w' v.ownBlock)
    (hat : v'.ownBlock = v.ownBlock ∨ v'.ownBlock = some w.heap.size) : Rws w' B (pset p q (v', n', xs')) := by
  refine h.put q _ _ _ ho (fun r u m ys hne hr => (h.row r u m ys hr).kept hg ?_) (fun r u m ys hne hr g hu => ?_)
  · cases hu : u.ownBlock with
    | none => exact Or.inl rfl
    | some g => exact Or.inr (fun e => h.ap r q u m ys v n xs hne hr hq g hu e.symm)
  · rcases hat with e | e
    · rw [e]
      exact h.ap r q u m ys v n xs hne hr hq g hu
    · rw [e]
      have := ((h.row r u m ys hr).lt g hu).2
      intro e2
      have : w.heap.size = g := by simpa using e2
      omega

/-- A block of another kind stays where a row grows. -/
theorem nbox_grown {v : Value} {n g : Nat} {xs : List Value} {x y z u : Value} (h : w.ownsRow B 9 1 v n xs) (hg : w.grownBy w' v.ownBlock) (hb : NBox w g x y z u) : NBox w' g x y z u := by
  refine hb.block (hg.block g hb.lt ?_)
  intro e
  rcases h.2 with ⟨rfl, _⟩ | ⟨g1, cap, cur, rfl, _, h3, _⟩
  · cases e
  · have e1 : g = g1 := by simpa [Value.ownBlock] using e
    subst e1
    unfold NBox at hb
    rw [hb] at h3
    injection h3 with h3
    injection h3 with _ h3 _
    exact absurd h3 (by decide)

/-- Rows stay where a block of another kind is written. -/
theorem Rws.but {g : Nat} {x y z u : Value} (h : Rws w B p) (hb : NBox w g x y z u) (hn : NBut g w w') : Rws w' B p := by
  refine ⟨fun q v n xs hq => ?_, h.ap⟩
  rcases h.row q v n xs hq with ⟨h1, ⟨e1, e2⟩ | ⟨g1, cap, cur, e1, e2, e3, e4⟩⟩
  · exact ⟨h1, Or.inl ⟨e1, e2⟩⟩
  · refine ⟨h1, Or.inr ⟨g1, cap, cur, e1, e2, (hn.2 g1 ?_).trans e3, e4⟩⟩
    intro e
    subst e
    unfold NBox at hb
    rw [hb] at e3
    injection e3 with e3
    injection e3 with _ e3 _
    exact absurd e3 (by decide)

/-- Below base nothing changes where a row grows. -/
theorem grown_low {v : Value} {n : Nat} {xs : List Value} (h : w.ownsRow B 9 1 v n xs) (hB : B ≤ w.heap.size) (hg : w.grownBy w' v.ownBlock) : Below B w w' :=
  ⟨hg.os, hg.tape, hg.output, hg.size, fun k hk => hg.block k (by omega) (fun e => by have := (h.lt k e.symm).1; omega)⟩
end

/-- One more is done. -/
def nxt (L : Nat → Bool) (i : Nat) : Nat → Bool := fun j => decide (j = i) || L j

theorem put_tmp {a : Act} {d : Nat} {u : Value} (hs : a.tmps.size = 103) (hd : d < 103) (j : Nat) : (a.put (some d) u).eval (.tmp j) = if j = d then u else a.eval (.tmp j) := by
  unfold Act.put Act.eval
  by_cases e : j = d
  · subst e
    simp [hs, hd]
  · have : ¬ d = j := fun h => e h.symm
    simp [e, Array.getElem?_setIfInBounds_ne this]
theorem put_size (a : Act) (d : Nat) (u : Value) : (a.put (some d) u).tmps.size = a.tmps.size := by simp [Act.put]
theorem put_none (a : Act) (u : Value) : a.put none u = a := rfl

/-- What holds while the node is made: L tells what is done. -/
structure GI (w0 : World) (a0 : Act) (b : Nat) (Av Bv : Option Addr) (n c m d : Nat) (K V : List Value) (x y : ByteArray) (p : Nat → Option (Value × Nat × List Value)) (L : Nat → Bool) (a : Act) (w : World) : Prop where
  sz : a.tmps.size = 103
  df : a.defers = a0.defers
  ev : ∀ j : Nat, (j < 35 ∨ 49 < j) → j ≠ 8 → a.eval (.tmp j) = a0.eval (.tmp j)
  below : Below w0.heap.size w0 w
  rw_ : Rws w w0.heap.size p
  o3 : L 3 = true → L 0 = true
  o6 : L 6 = true → L 3 = true
  o10 : L 10 = true → L 7 = true
  o13 : L 13 = true → L 10 = true
  o14 : L 14 = true → L 6 = true ∧ L 13 = true
  o16 : L 16 = true → L 14 = true ∧ L 15 = true
  t1 : L 1 = true → a.eval (.tmp 36) = .pointer (some ⟨b, 1, none⟩)
  t2 : L 2 = true → a.eval (.tmp 37) = .slice Av n c
  t4 : L 4 = true → a.eval (.tmp 39) = .string x
  t8 : L 8 = true → a.eval (.tmp 43) = .pointer (some ⟨b, 2, none⟩)
  t9 : L 9 = true → a.eval (.tmp 44) = .slice Bv m d
  t11 : L 11 = true → a.eval (.tmp 46) = .string y
  k0 : L 0 = true → L 3 = false → p 0 = some (a.eval (.tmp 35), 0, [])
  k3 : L 3 = true → L 6 = false → p 0 = some (a.eval (.tmp 38), n, K)
  k6 : L 6 = true → p 0 = some (a.eval (.tmp 41), n + 1, K ++ [.string x])
  k7 : L 7 = true → L 10 = false → p 1 = some (a.eval (.tmp 42), 0, [])
  k10 : L 10 = true → L 13 = false → p 1 = some (a.eval (.tmp 45), m, V)
  k13 : L 13 = true → p 1 = some (a.eval (.tmp 48), m + 1, V ++ [.string y])
  s5 : L 5 = true → p 2 = some (a.eval (.tmp 40), 1, [.string x])
  s12 : L 12 = true → p 3 = some (a.eval (.tmp 47), 1, [.string y])
  b14 : L 14 = true → a.eval (.tmp 49) = .agg #[.bool true, a.eval (.tmp 41), a.eval (.tmp 48), .slice none 0 0]
  b15 : L 15 = true → L 16 = false → ∃ g, a.eval (.tmp 8) = .pointer (some ⟨g, 0, none⟩) ∧ NBox w g (.bool false) (.slice none 0 0) (.slice none 0 0) (.slice none 0 0) ∧ w0.heap.size ≤ g
  b16 : L 16 = true → ∃ g, a.eval (.tmp 8) = .pointer (some ⟨g, 0, none⟩) ∧ NBox w g (.bool true) (a.eval (.tmp 41)) (a.eval (.tmp 48)) (.slice none 0 0) ∧ w0.heap.size ≤ g

section
variable {w0 w w' : World} {a0 a : Act} {b : Nat} {Av Bv : Option Addr} {n c m d : Nat} {K V : List Value} {x y : ByteArray} {p : Nat → Option (Value × Nat × List Value)} {L : Nat → Bool}
theorem GI.step1 (h : GI w0 a0 b Av Bv n c m d K V x y p L a w)  :
    GI w0 a0 b Av Bv n c m d K V x y p (nxt L 1) (a.put (some 36) (.pointer (some ⟨b, 1, none⟩))) w := by
  constructor
  case sz => exact (put_size _ _ _).trans h.sz
  case df => exact h.df
  case ev => intro j h1 h2; have e : ¬ j = 36 := (by omega); rw [put_tmp h.sz (by decide : (36 : Nat) < 103), if_neg e]; exact h.ev j h1 h2
  case below => exact h.below
  case rw_ => exact h.rw_
  case o3 => have := h.o3; simp [nxt] at this ⊢ <;> simp_all
  case o6 => have := h.o6; simp [nxt] at this ⊢ <;> simp_all
  case o10 => have := h.o10; simp [nxt] at this ⊢ <;> simp_all
  case o13 => have := h.o13; simp [nxt] at this ⊢ <;> simp_all
  case o14 => have := h.o14; simp [nxt] at this ⊢ <;> simp_all
  case o16 => have := h.o16; simp [nxt] at this ⊢ <;> simp_all
  case t1 => intro h1; simp [put_tmp h.sz (by decide : (36 : Nat) < 103)]
  case t2 => intro h1; simpa [nxt, put_tmp h.sz (by decide : (36 : Nat) < 103), pset] using h.t2 (by simpa [nxt] using h1)
  case t4 => intro h1; simpa [nxt, put_tmp h.sz (by decide : (36 : Nat) < 103), pset] using h.t4 (by simpa [nxt] using h1)
  case t8 => intro h1; simpa [nxt, put_tmp h.sz (by decide : (36 : Nat) < 103), pset] using h.t8 (by simpa [nxt] using h1)
  case t9 => intro h1; simpa [nxt, put_tmp h.sz (by decide : (36 : Nat) < 103), pset] using h.t9 (by simpa [nxt] using h1)
  case t11 => intro h1; simpa [nxt, put_tmp h.sz (by decide : (36 : Nat) < 103), pset] using h.t11 (by simpa [nxt] using h1)
  case s5 => intro h1; simpa [nxt, put_tmp h.sz (by decide : (36 : Nat) < 103), pset] using h.s5 (by simpa [nxt] using h1)
  case s12 => intro h1; simpa [nxt, put_tmp h.sz (by decide : (36 : Nat) < 103), pset] using h.s12 (by simpa [nxt] using h1)
  case b14 => intro h1; simpa [nxt, put_tmp h.sz (by decide : (36 : Nat) < 103), pset] using h.b14 (by simpa [nxt] using h1)
  case k6 => intro h1; simpa [nxt, put_tmp h.sz (by decide : (36 : Nat) < 103), pset] using h.k6 (by simpa [nxt] using h1)
  case k13 => intro h1; simpa [nxt, put_tmp h.sz (by decide : (36 : Nat) < 103), pset] using h.k13 (by simpa [nxt] using h1)
  case k0 => intro h1 h2; simpa [nxt, put_tmp h.sz (by decide : (36 : Nat) < 103), pset] using h.k0 (by simpa [nxt] using h1) (by simpa [nxt] using h2)
  case k3 => intro h1 h2; simpa [nxt, put_tmp h.sz (by decide : (36 : Nat) < 103), pset] using h.k3 (by simpa [nxt] using h1) (by simpa [nxt] using h2)
  case k7 => intro h1 h2; simpa [nxt, put_tmp h.sz (by decide : (36 : Nat) < 103), pset] using h.k7 (by simpa [nxt] using h1) (by simpa [nxt] using h2)
  case k10 => intro h1 h2; simpa [nxt, put_tmp h.sz (by decide : (36 : Nat) < 103), pset] using h.k10 (by simpa [nxt] using h1) (by simpa [nxt] using h2)
  case b15 => intro h1 h2; obtain ⟨g, e1, hb, e2⟩ := h.b15 (by simpa [nxt] using h1) (by simpa [nxt] using h2); exact ⟨g, by simpa [nxt, put_tmp h.sz (by decide : (36 : Nat) < 103), pset] using e1, hb, e2⟩
  case b16 => intro h1; obtain ⟨g, e1, hb, e2⟩ := h.b16 (by simpa [nxt] using h1); exact ⟨g, by simpa [nxt, put_tmp h.sz (by decide : (36 : Nat) < 103), pset] using e1, by simpa [nxt, put_tmp h.sz (by decide : (36 : Nat) < 103), pset] using (hb), e2⟩
theorem GI.step2 (h : GI w0 a0 b Av Bv n c m d K V x y p L a w)  :
    GI w0 a0 b Av Bv n c m d K V x y p (nxt L 2) (a.put (some 37) (.slice Av n c)) w := by
  constructor
  case sz => exact (put_size _ _ _).trans h.sz
  case df => exact h.df
  case ev => intro j h1 h2; have e : ¬ j = 37 := (by omega); rw [put_tmp h.sz (by decide : (37 : Nat) < 103), if_neg e]; exact h.ev j h1 h2
  case below => exact h.below
  case rw_ => exact h.rw_
  case o3 => have := h.o3; simp [nxt] at this ⊢ <;> simp_all
  case o6 => have := h.o6; simp [nxt] at this ⊢ <;> simp_all
  case o10 => have := h.o10; simp [nxt] at this ⊢ <;> simp_all
  case o13 => have := h.o13; simp [nxt] at this ⊢ <;> simp_all
  case o14 => have := h.o14; simp [nxt] at this ⊢ <;> simp_all
  case o16 => have := h.o16; simp [nxt] at this ⊢ <;> simp_all
  case t1 => intro h1; simpa [nxt, put_tmp h.sz (by decide : (37 : Nat) < 103), pset] using h.t1 (by simpa [nxt] using h1)
  case t2 => intro h1; simp [put_tmp h.sz (by decide : (37 : Nat) < 103)]
  case t4 => intro h1; simpa [nxt, put_tmp h.sz (by decide : (37 : Nat) < 103), pset] using h.t4 (by simpa [nxt] using h1)
  case t8 => intro h1; simpa [nxt, put_tmp h.sz (by decide : (37 : Nat) < 103), pset] using h.t8 (by simpa [nxt] using h1)
  case t9 => intro h1; simpa [nxt, put_tmp h.sz (by decide : (37 : Nat) < 103), pset] using h.t9 (by simpa [nxt] using h1)
  case t11 => intro h1; simpa [nxt, put_tmp h.sz (by decide : (37 : Nat) < 103), pset] using h.t11 (by simpa [nxt] using h1)
  case s5 => intro h1; simpa [nxt, put_tmp h.sz (by decide : (37 : Nat) < 103), pset] using h.s5 (by simpa [nxt] using h1)
  case s12 => intro h1; simpa [nxt, put_tmp h.sz (by decide : (37 : Nat) < 103), pset] using h.s12 (by simpa [nxt] using h1)
  case b14 => intro h1; simpa [nxt, put_tmp h.sz (by decide : (37 : Nat) < 103), pset] using h.b14 (by simpa [nxt] using h1)
  case k6 => intro h1; simpa [nxt, put_tmp h.sz (by decide : (37 : Nat) < 103), pset] using h.k6 (by simpa [nxt] using h1)
  case k13 => intro h1; simpa [nxt, put_tmp h.sz (by decide : (37 : Nat) < 103), pset] using h.k13 (by simpa [nxt] using h1)
  case k0 => intro h1 h2; simpa [nxt, put_tmp h.sz (by decide : (37 : Nat) < 103), pset] using h.k0 (by simpa [nxt] using h1) (by simpa [nxt] using h2)
  case k3 => intro h1 h2; simpa [nxt, put_tmp h.sz (by decide : (37 : Nat) < 103), pset] using h.k3 (by simpa [nxt] using h1) (by simpa [nxt] using h2)
  case k7 => intro h1 h2; simpa [nxt, put_tmp h.sz (by decide : (37 : Nat) < 103), pset] using h.k7 (by simpa [nxt] using h1) (by simpa [nxt] using h2)
  case k10 => intro h1 h2; simpa [nxt, put_tmp h.sz (by decide : (37 : Nat) < 103), pset] using h.k10 (by simpa [nxt] using h1) (by simpa [nxt] using h2)
  case b15 => intro h1 h2; obtain ⟨g, e1, hb, e2⟩ := h.b15 (by simpa [nxt] using h1) (by simpa [nxt] using h2); exact ⟨g, by simpa [nxt, put_tmp h.sz (by decide : (37 : Nat) < 103), pset] using e1, hb, e2⟩
  case b16 => intro h1; obtain ⟨g, e1, hb, e2⟩ := h.b16 (by simpa [nxt] using h1); exact ⟨g, by simpa [nxt, put_tmp h.sz (by decide : (37 : Nat) < 103), pset] using e1, by simpa [nxt, put_tmp h.sz (by decide : (37 : Nat) < 103), pset] using (hb), e2⟩
theorem GI.step4 (h : GI w0 a0 b Av Bv n c m d K V x y p L a w)  :
    GI w0 a0 b Av Bv n c m d K V x y p (nxt L 4) (a.put (some 39) (.string x)) w := by
  constructor
  case sz => exact (put_size _ _ _).trans h.sz
  case df => exact h.df
  case ev => intro j h1 h2; have e : ¬ j = 39 := (by omega); rw [put_tmp h.sz (by decide : (39 : Nat) < 103), if_neg e]; exact h.ev j h1 h2
  case below => exact h.below
  case rw_ => exact h.rw_
  case o3 => have := h.o3; simp [nxt] at this ⊢ <;> simp_all
  case o6 => have := h.o6; simp [nxt] at this ⊢ <;> simp_all
  case o10 => have := h.o10; simp [nxt] at this ⊢ <;> simp_all
  case o13 => have := h.o13; simp [nxt] at this ⊢ <;> simp_all
  case o14 => have := h.o14; simp [nxt] at this ⊢ <;> simp_all
  case o16 => have := h.o16; simp [nxt] at this ⊢ <;> simp_all
  case t1 => intro h1; simpa [nxt, put_tmp h.sz (by decide : (39 : Nat) < 103), pset] using h.t1 (by simpa [nxt] using h1)
  case t2 => intro h1; simpa [nxt, put_tmp h.sz (by decide : (39 : Nat) < 103), pset] using h.t2 (by simpa [nxt] using h1)
  case t4 => intro h1; simp [put_tmp h.sz (by decide : (39 : Nat) < 103)]
  case t8 => intro h1; simpa [nxt, put_tmp h.sz (by decide : (39 : Nat) < 103), pset] using h.t8 (by simpa [nxt] using h1)
  case t9 => intro h1; simpa [nxt, put_tmp h.sz (by decide : (39 : Nat) < 103), pset] using h.t9 (by simpa [nxt] using h1)
  case t11 => intro h1; simpa [nxt, put_tmp h.sz (by decide : (39 : Nat) < 103), pset] using h.t11 (by simpa [nxt] using h1)
  case s5 => intro h1; simpa [nxt, put_tmp h.sz (by decide : (39 : Nat) < 103), pset] using h.s5 (by simpa [nxt] using h1)
  case s12 => intro h1; simpa [nxt, put_tmp h.sz (by decide : (39 : Nat) < 103), pset] using h.s12 (by simpa [nxt] using h1)
  case b14 => intro h1; simpa [nxt, put_tmp h.sz (by decide : (39 : Nat) < 103), pset] using h.b14 (by simpa [nxt] using h1)
  case k6 => intro h1; simpa [nxt, put_tmp h.sz (by decide : (39 : Nat) < 103), pset] using h.k6 (by simpa [nxt] using h1)
  case k13 => intro h1; simpa [nxt, put_tmp h.sz (by decide : (39 : Nat) < 103), pset] using h.k13 (by simpa [nxt] using h1)
  case k0 => intro h1 h2; simpa [nxt, put_tmp h.sz (by decide : (39 : Nat) < 103), pset] using h.k0 (by simpa [nxt] using h1) (by simpa [nxt] using h2)
  case k3 => intro h1 h2; simpa [nxt, put_tmp h.sz (by decide : (39 : Nat) < 103), pset] using h.k3 (by simpa [nxt] using h1) (by simpa [nxt] using h2)
  case k7 => intro h1 h2; simpa [nxt, put_tmp h.sz (by decide : (39 : Nat) < 103), pset] using h.k7 (by simpa [nxt] using h1) (by simpa [nxt] using h2)
  case k10 => intro h1 h2; simpa [nxt, put_tmp h.sz (by decide : (39 : Nat) < 103), pset] using h.k10 (by simpa [nxt] using h1) (by simpa [nxt] using h2)
  case b15 => intro h1 h2; obtain ⟨g, e1, hb, e2⟩ := h.b15 (by simpa [nxt] using h1) (by simpa [nxt] using h2); exact ⟨g, by simpa [nxt, put_tmp h.sz (by decide : (39 : Nat) < 103), pset] using e1, hb, e2⟩
  case b16 => intro h1; obtain ⟨g, e1, hb, e2⟩ := h.b16 (by simpa [nxt] using h1); exact ⟨g, by simpa [nxt, put_tmp h.sz (by decide : (39 : Nat) < 103), pset] using e1, by simpa [nxt, put_tmp h.sz (by decide : (39 : Nat) < 103), pset] using (hb), e2⟩
theorem GI.step8 (h : GI w0 a0 b Av Bv n c m d K V x y p L a w)  :
    GI w0 a0 b Av Bv n c m d K V x y p (nxt L 8) (a.put (some 43) (.pointer (some ⟨b, 2, none⟩))) w := by
  constructor
  case sz => exact (put_size _ _ _).trans h.sz
  case df => exact h.df
  case ev => intro j h1 h2; have e : ¬ j = 43 := (by omega); rw [put_tmp h.sz (by decide : (43 : Nat) < 103), if_neg e]; exact h.ev j h1 h2
  case below => exact h.below
  case rw_ => exact h.rw_
  case o3 => have := h.o3; simp [nxt] at this ⊢ <;> simp_all
  case o6 => have := h.o6; simp [nxt] at this ⊢ <;> simp_all
  case o10 => have := h.o10; simp [nxt] at this ⊢ <;> simp_all
  case o13 => have := h.o13; simp [nxt] at this ⊢ <;> simp_all
  case o14 => have := h.o14; simp [nxt] at this ⊢ <;> simp_all
  case o16 => have := h.o16; simp [nxt] at this ⊢ <;> simp_all
  case t1 => intro h1; simpa [nxt, put_tmp h.sz (by decide : (43 : Nat) < 103), pset] using h.t1 (by simpa [nxt] using h1)
  case t2 => intro h1; simpa [nxt, put_tmp h.sz (by decide : (43 : Nat) < 103), pset] using h.t2 (by simpa [nxt] using h1)
  case t4 => intro h1; simpa [nxt, put_tmp h.sz (by decide : (43 : Nat) < 103), pset] using h.t4 (by simpa [nxt] using h1)
  case t8 => intro h1; simp [put_tmp h.sz (by decide : (43 : Nat) < 103)]
  case t9 => intro h1; simpa [nxt, put_tmp h.sz (by decide : (43 : Nat) < 103), pset] using h.t9 (by simpa [nxt] using h1)
  case t11 => intro h1; simpa [nxt, put_tmp h.sz (by decide : (43 : Nat) < 103), pset] using h.t11 (by simpa [nxt] using h1)
  case s5 => intro h1; simpa [nxt, put_tmp h.sz (by decide : (43 : Nat) < 103), pset] using h.s5 (by simpa [nxt] using h1)
  case s12 => intro h1; simpa [nxt, put_tmp h.sz (by decide : (43 : Nat) < 103), pset] using h.s12 (by simpa [nxt] using h1)
  case b14 => intro h1; simpa [nxt, put_tmp h.sz (by decide : (43 : Nat) < 103), pset] using h.b14 (by simpa [nxt] using h1)
  case k6 => intro h1; simpa [nxt, put_tmp h.sz (by decide : (43 : Nat) < 103), pset] using h.k6 (by simpa [nxt] using h1)
  case k13 => intro h1; simpa [nxt, put_tmp h.sz (by decide : (43 : Nat) < 103), pset] using h.k13 (by simpa [nxt] using h1)
  case k0 => intro h1 h2; simpa [nxt, put_tmp h.sz (by decide : (43 : Nat) < 103), pset] using h.k0 (by simpa [nxt] using h1) (by simpa [nxt] using h2)
  case k3 => intro h1 h2; simpa [nxt, put_tmp h.sz (by decide : (43 : Nat) < 103), pset] using h.k3 (by simpa [nxt] using h1) (by simpa [nxt] using h2)
  case k7 => intro h1 h2; simpa [nxt, put_tmp h.sz (by decide : (43 : Nat) < 103), pset] using h.k7 (by simpa [nxt] using h1) (by simpa [nxt] using h2)
  case k10 => intro h1 h2; simpa [nxt, put_tmp h.sz (by decide : (43 : Nat) < 103), pset] using h.k10 (by simpa [nxt] using h1) (by simpa [nxt] using h2)
  case b15 => intro h1 h2; obtain ⟨g, e1, hb, e2⟩ := h.b15 (by simpa [nxt] using h1) (by simpa [nxt] using h2); exact ⟨g, by simpa [nxt, put_tmp h.sz (by decide : (43 : Nat) < 103), pset] using e1, hb, e2⟩
  case b16 => intro h1; obtain ⟨g, e1, hb, e2⟩ := h.b16 (by simpa [nxt] using h1); exact ⟨g, by simpa [nxt, put_tmp h.sz (by decide : (43 : Nat) < 103), pset] using e1, by simpa [nxt, put_tmp h.sz (by decide : (43 : Nat) < 103), pset] using (hb), e2⟩
theorem GI.step9 (h : GI w0 a0 b Av Bv n c m d K V x y p L a w)  :
    GI w0 a0 b Av Bv n c m d K V x y p (nxt L 9) (a.put (some 44) (.slice Bv m d)) w := by
  constructor
  case sz => exact (put_size _ _ _).trans h.sz
  case df => exact h.df
  case ev => intro j h1 h2; have e : ¬ j = 44 := (by omega); rw [put_tmp h.sz (by decide : (44 : Nat) < 103), if_neg e]; exact h.ev j h1 h2
  case below => exact h.below
  case rw_ => exact h.rw_
  case o3 => have := h.o3; simp [nxt] at this ⊢ <;> simp_all
  case o6 => have := h.o6; simp [nxt] at this ⊢ <;> simp_all
  case o10 => have := h.o10; simp [nxt] at this ⊢ <;> simp_all
  case o13 => have := h.o13; simp [nxt] at this ⊢ <;> simp_all
  case o14 => have := h.o14; simp [nxt] at this ⊢ <;> simp_all
  case o16 => have := h.o16; simp [nxt] at this ⊢ <;> simp_all
  case t1 => intro h1; simpa [nxt, put_tmp h.sz (by decide : (44 : Nat) < 103), pset] using h.t1 (by simpa [nxt] using h1)
  case t2 => intro h1; simpa [nxt, put_tmp h.sz (by decide : (44 : Nat) < 103), pset] using h.t2 (by simpa [nxt] using h1)
  case t4 => intro h1; simpa [nxt, put_tmp h.sz (by decide : (44 : Nat) < 103), pset] using h.t4 (by simpa [nxt] using h1)
  case t8 => intro h1; simpa [nxt, put_tmp h.sz (by decide : (44 : Nat) < 103), pset] using h.t8 (by simpa [nxt] using h1)
  case t9 => intro h1; simp [put_tmp h.sz (by decide : (44 : Nat) < 103)]
  case t11 => intro h1; simpa [nxt, put_tmp h.sz (by decide : (44 : Nat) < 103), pset] using h.t11 (by simpa [nxt] using h1)
  case s5 => intro h1; simpa [nxt, put_tmp h.sz (by decide : (44 : Nat) < 103), pset] using h.s5 (by simpa [nxt] using h1)
  case s12 => intro h1; simpa [nxt, put_tmp h.sz (by decide : (44 : Nat) < 103), pset] using h.s12 (by simpa [nxt] using h1)
  case b14 => intro h1; simpa [nxt, put_tmp h.sz (by decide : (44 : Nat) < 103), pset] using h.b14 (by simpa [nxt] using h1)
  case k6 => intro h1; simpa [nxt, put_tmp h.sz (by decide : (44 : Nat) < 103), pset] using h.k6 (by simpa [nxt] using h1)
  case k13 => intro h1; simpa [nxt, put_tmp h.sz (by decide : (44 : Nat) < 103), pset] using h.k13 (by simpa [nxt] using h1)
  case k0 => intro h1 h2; simpa [nxt, put_tmp h.sz (by decide : (44 : Nat) < 103), pset] using h.k0 (by simpa [nxt] using h1) (by simpa [nxt] using h2)
  case k3 => intro h1 h2; simpa [nxt, put_tmp h.sz (by decide : (44 : Nat) < 103), pset] using h.k3 (by simpa [nxt] using h1) (by simpa [nxt] using h2)
  case k7 => intro h1 h2; simpa [nxt, put_tmp h.sz (by decide : (44 : Nat) < 103), pset] using h.k7 (by simpa [nxt] using h1) (by simpa [nxt] using h2)
  case k10 => intro h1 h2; simpa [nxt, put_tmp h.sz (by decide : (44 : Nat) < 103), pset] using h.k10 (by simpa [nxt] using h1) (by simpa [nxt] using h2)
  case b15 => intro h1 h2; obtain ⟨g, e1, hb, e2⟩ := h.b15 (by simpa [nxt] using h1) (by simpa [nxt] using h2); exact ⟨g, by simpa [nxt, put_tmp h.sz (by decide : (44 : Nat) < 103), pset] using e1, hb, e2⟩
  case b16 => intro h1; obtain ⟨g, e1, hb, e2⟩ := h.b16 (by simpa [nxt] using h1); exact ⟨g, by simpa [nxt, put_tmp h.sz (by decide : (44 : Nat) < 103), pset] using e1, by simpa [nxt, put_tmp h.sz (by decide : (44 : Nat) < 103), pset] using (hb), e2⟩
theorem GI.step11 (h : GI w0 a0 b Av Bv n c m d K V x y p L a w)  :
    GI w0 a0 b Av Bv n c m d K V x y p (nxt L 11) (a.put (some 46) (.string y)) w := by
  constructor
  case sz => exact (put_size _ _ _).trans h.sz
  case df => exact h.df
  case ev => intro j h1 h2; have e : ¬ j = 46 := (by omega); rw [put_tmp h.sz (by decide : (46 : Nat) < 103), if_neg e]; exact h.ev j h1 h2
  case below => exact h.below
  case rw_ => exact h.rw_
  case o3 => have := h.o3; simp [nxt] at this ⊢ <;> simp_all
  case o6 => have := h.o6; simp [nxt] at this ⊢ <;> simp_all
  case o10 => have := h.o10; simp [nxt] at this ⊢ <;> simp_all
  case o13 => have := h.o13; simp [nxt] at this ⊢ <;> simp_all
  case o14 => have := h.o14; simp [nxt] at this ⊢ <;> simp_all
  case o16 => have := h.o16; simp [nxt] at this ⊢ <;> simp_all
  case t1 => intro h1; simpa [nxt, put_tmp h.sz (by decide : (46 : Nat) < 103), pset] using h.t1 (by simpa [nxt] using h1)
  case t2 => intro h1; simpa [nxt, put_tmp h.sz (by decide : (46 : Nat) < 103), pset] using h.t2 (by simpa [nxt] using h1)
  case t4 => intro h1; simpa [nxt, put_tmp h.sz (by decide : (46 : Nat) < 103), pset] using h.t4 (by simpa [nxt] using h1)
  case t8 => intro h1; simpa [nxt, put_tmp h.sz (by decide : (46 : Nat) < 103), pset] using h.t8 (by simpa [nxt] using h1)
  case t9 => intro h1; simpa [nxt, put_tmp h.sz (by decide : (46 : Nat) < 103), pset] using h.t9 (by simpa [nxt] using h1)
  case t11 => intro h1; simp [put_tmp h.sz (by decide : (46 : Nat) < 103)]
  case s5 => intro h1; simpa [nxt, put_tmp h.sz (by decide : (46 : Nat) < 103), pset] using h.s5 (by simpa [nxt] using h1)
  case s12 => intro h1; simpa [nxt, put_tmp h.sz (by decide : (46 : Nat) < 103), pset] using h.s12 (by simpa [nxt] using h1)
  case b14 => intro h1; simpa [nxt, put_tmp h.sz (by decide : (46 : Nat) < 103), pset] using h.b14 (by simpa [nxt] using h1)
  case k6 => intro h1; simpa [nxt, put_tmp h.sz (by decide : (46 : Nat) < 103), pset] using h.k6 (by simpa [nxt] using h1)
  case k13 => intro h1; simpa [nxt, put_tmp h.sz (by decide : (46 : Nat) < 103), pset] using h.k13 (by simpa [nxt] using h1)
  case k0 => intro h1 h2; simpa [nxt, put_tmp h.sz (by decide : (46 : Nat) < 103), pset] using h.k0 (by simpa [nxt] using h1) (by simpa [nxt] using h2)
  case k3 => intro h1 h2; simpa [nxt, put_tmp h.sz (by decide : (46 : Nat) < 103), pset] using h.k3 (by simpa [nxt] using h1) (by simpa [nxt] using h2)
  case k7 => intro h1 h2; simpa [nxt, put_tmp h.sz (by decide : (46 : Nat) < 103), pset] using h.k7 (by simpa [nxt] using h1) (by simpa [nxt] using h2)
  case k10 => intro h1 h2; simpa [nxt, put_tmp h.sz (by decide : (46 : Nat) < 103), pset] using h.k10 (by simpa [nxt] using h1) (by simpa [nxt] using h2)
  case b15 => intro h1 h2; obtain ⟨g, e1, hb, e2⟩ := h.b15 (by simpa [nxt] using h1) (by simpa [nxt] using h2); exact ⟨g, by simpa [nxt, put_tmp h.sz (by decide : (46 : Nat) < 103), pset] using e1, hb, e2⟩
  case b16 => intro h1; obtain ⟨g, e1, hb, e2⟩ := h.b16 (by simpa [nxt] using h1); exact ⟨g, by simpa [nxt, put_tmp h.sz (by decide : (46 : Nat) < 103), pset] using e1, by simpa [nxt, put_tmp h.sz (by decide : (46 : Nat) < 103), pset] using (hb), e2⟩
theorem GI.step0 (h : GI w0 a0 b Av Bv n c m d K V x y p L a w) (h0 : L 0 = false) :
    GI w0 a0 b Av Bv n c m d K V x y (pset p 0 ((.slice (some ⟨w.heap.size, 0, none⟩) 0 0), 0, [])) (nxt L 0) (a.put (some 35) (.slice (some ⟨w.heap.size, 0, none⟩) 0 0)) (w.alloc (.cells #[] 9)) := by
  constructor
  case sz => exact (put_size _ _ _).trans h.sz
  case df => exact h.df
  case ev => intro j h1 h2; have e : ¬ j = 35 := (by omega); rw [put_tmp h.sz (by decide : (35 : Nat) < 103), if_neg e]; exact h.ev j h1 h2
  case below => exact chainN (below_one w _) h.below
  case rw_ => exact h.rw_.alloc h.below.size 0 #[] 0 rfl (by decide)
  case o3 => have := h.o3; simp [nxt] at this ⊢ <;> simp_all
  case o6 => have := h.o6; simp [nxt] at this ⊢ <;> simp_all
  case o10 => have := h.o10; simp [nxt] at this ⊢ <;> simp_all
  case o13 => have := h.o13; simp [nxt] at this ⊢ <;> simp_all
  case o14 => have := h.o14; simp [nxt] at this ⊢ <;> simp_all
  case o16 => have := h.o16; simp [nxt] at this ⊢ <;> simp_all
  case t1 => intro h1; simpa [nxt, put_tmp h.sz (by decide : (35 : Nat) < 103), pset] using h.t1 (by simpa [nxt] using h1)
  case t2 => intro h1; simpa [nxt, put_tmp h.sz (by decide : (35 : Nat) < 103), pset] using h.t2 (by simpa [nxt] using h1)
  case t4 => intro h1; simpa [nxt, put_tmp h.sz (by decide : (35 : Nat) < 103), pset] using h.t4 (by simpa [nxt] using h1)
  case t8 => intro h1; simpa [nxt, put_tmp h.sz (by decide : (35 : Nat) < 103), pset] using h.t8 (by simpa [nxt] using h1)
  case t9 => intro h1; simpa [nxt, put_tmp h.sz (by decide : (35 : Nat) < 103), pset] using h.t9 (by simpa [nxt] using h1)
  case t11 => intro h1; simpa [nxt, put_tmp h.sz (by decide : (35 : Nat) < 103), pset] using h.t11 (by simpa [nxt] using h1)
  case s5 => intro h1; simpa [nxt, put_tmp h.sz (by decide : (35 : Nat) < 103), pset] using h.s5 (by simpa [nxt] using h1)
  case s12 => intro h1; simpa [nxt, put_tmp h.sz (by decide : (35 : Nat) < 103), pset] using h.s12 (by simpa [nxt] using h1)
  case b14 => intro h1; simpa [nxt, put_tmp h.sz (by decide : (35 : Nat) < 103), pset] using h.b14 (by simpa [nxt] using h1)
  case k6 => intro h1; exfalso; have := h.o3; have := h.o6; have := h.o10; have := h.o13; have := h.o14; have := h.o16; simp [nxt] at h1; simp_all
  case k13 => intro h1; simpa [nxt, put_tmp h.sz (by decide : (35 : Nat) < 103), pset] using h.k13 (by simpa [nxt] using h1)
  case k0 => intro h1 h2; simp [put_tmp h.sz (by decide : (35 : Nat) < 103), pset]
  case k3 => intro h1 h2; exfalso; have := h.o3; have := h.o6; have := h.o10; have := h.o13; have := h.o14; have := h.o16; simp [nxt] at h1 h2; simp_all
  case k7 => intro h1 h2; simpa [nxt, put_tmp h.sz (by decide : (35 : Nat) < 103), pset] using h.k7 (by simpa [nxt] using h1) (by simpa [nxt] using h2)
  case k10 => intro h1 h2; simpa [nxt, put_tmp h.sz (by decide : (35 : Nat) < 103), pset] using h.k10 (by simpa [nxt] using h1) (by simpa [nxt] using h2)
  case b15 => intro h1 h2; obtain ⟨g, e1, hb, e2⟩ := h.b15 (by simpa [nxt] using h1) (by simpa [nxt] using h2); exact ⟨g, by simpa [nxt, put_tmp h.sz (by decide : (35 : Nat) < 103), pset] using e1, hb.kept (below_one w _), e2⟩
  case b16 => intro h1; obtain ⟨g, e1, hb, e2⟩ := h.b16 (by simpa [nxt] using h1); exact ⟨g, by simpa [nxt, put_tmp h.sz (by decide : (35 : Nat) < 103), pset] using e1, by simpa [nxt, put_tmp h.sz (by decide : (35 : Nat) < 103), pset] using (hb.kept (below_one w _)), e2⟩
theorem GI.step7 (h : GI w0 a0 b Av Bv n c m d K V x y p L a w) (h0 : L 7 = false) :
    GI w0 a0 b Av Bv n c m d K V x y (pset p 1 ((.slice (some ⟨w.heap.size, 0, none⟩) 0 0), 0, [])) (nxt L 7) (a.put (some 42) (.slice (some ⟨w.heap.size, 0, none⟩) 0 0)) (w.alloc (.cells #[] 9)) := by
  constructor
  case sz => exact (put_size _ _ _).trans h.sz
  case df => exact h.df
  case ev => intro j h1 h2; have e : ¬ j = 42 := (by omega); rw [put_tmp h.sz (by decide : (42 : Nat) < 103), if_neg e]; exact h.ev j h1 h2
  case below => exact chainN (below_one w _) h.below
  case rw_ => exact h.rw_.alloc h.below.size 1 #[] 0 rfl (by decide)
  case o3 => have := h.o3; simp [nxt] at this ⊢ <;> simp_all
  case o6 => have := h.o6; simp [nxt] at this ⊢ <;> simp_all
  case o10 => have := h.o10; simp [nxt] at this ⊢ <;> simp_all
  case o13 => have := h.o13; simp [nxt] at this ⊢ <;> simp_all
  case o14 => have := h.o14; simp [nxt] at this ⊢ <;> simp_all
  case o16 => have := h.o16; simp [nxt] at this ⊢ <;> simp_all
  case t1 => intro h1; simpa [nxt, put_tmp h.sz (by decide : (42 : Nat) < 103), pset] using h.t1 (by simpa [nxt] using h1)
  case t2 => intro h1; simpa [nxt, put_tmp h.sz (by decide : (42 : Nat) < 103), pset] using h.t2 (by simpa [nxt] using h1)
  case t4 => intro h1; simpa [nxt, put_tmp h.sz (by decide : (42 : Nat) < 103), pset] using h.t4 (by simpa [nxt] using h1)
  case t8 => intro h1; simpa [nxt, put_tmp h.sz (by decide : (42 : Nat) < 103), pset] using h.t8 (by simpa [nxt] using h1)
  case t9 => intro h1; simpa [nxt, put_tmp h.sz (by decide : (42 : Nat) < 103), pset] using h.t9 (by simpa [nxt] using h1)
  case t11 => intro h1; simpa [nxt, put_tmp h.sz (by decide : (42 : Nat) < 103), pset] using h.t11 (by simpa [nxt] using h1)
  case s5 => intro h1; simpa [nxt, put_tmp h.sz (by decide : (42 : Nat) < 103), pset] using h.s5 (by simpa [nxt] using h1)
  case s12 => intro h1; simpa [nxt, put_tmp h.sz (by decide : (42 : Nat) < 103), pset] using h.s12 (by simpa [nxt] using h1)
  case b14 => intro h1; simpa [nxt, put_tmp h.sz (by decide : (42 : Nat) < 103), pset] using h.b14 (by simpa [nxt] using h1)
  case k6 => intro h1; simpa [nxt, put_tmp h.sz (by decide : (42 : Nat) < 103), pset] using h.k6 (by simpa [nxt] using h1)
  case k13 => intro h1; exfalso; have := h.o3; have := h.o6; have := h.o10; have := h.o13; have := h.o14; have := h.o16; simp [nxt] at h1; simp_all
  case k0 => intro h1 h2; simpa [nxt, put_tmp h.sz (by decide : (42 : Nat) < 103), pset] using h.k0 (by simpa [nxt] using h1) (by simpa [nxt] using h2)
  case k3 => intro h1 h2; simpa [nxt, put_tmp h.sz (by decide : (42 : Nat) < 103), pset] using h.k3 (by simpa [nxt] using h1) (by simpa [nxt] using h2)
  case k7 => intro h1 h2; simp [put_tmp h.sz (by decide : (42 : Nat) < 103), pset]
  case k10 => intro h1 h2; exfalso; have := h.o3; have := h.o6; have := h.o10; have := h.o13; have := h.o14; have := h.o16; simp [nxt] at h1 h2; simp_all
  case b15 => intro h1 h2; obtain ⟨g, e1, hb, e2⟩ := h.b15 (by simpa [nxt] using h1) (by simpa [nxt] using h2); exact ⟨g, by simpa [nxt, put_tmp h.sz (by decide : (42 : Nat) < 103), pset] using e1, hb.kept (below_one w _), e2⟩
  case b16 => intro h1; obtain ⟨g, e1, hb, e2⟩ := h.b16 (by simpa [nxt] using h1); exact ⟨g, by simpa [nxt, put_tmp h.sz (by decide : (42 : Nat) < 103), pset] using e1, by simpa [nxt, put_tmp h.sz (by decide : (42 : Nat) < 103), pset] using (hb.kept (below_one w _)), e2⟩
theorem GI.step5 (h : GI w0 a0 b Av Bv n c m d K V x y p L a w)  :
    GI w0 a0 b Av Bv n c m d K V x y (pset p 2 ((.slice (some ⟨w.heap.size, 0, none⟩) 1 1), 1, [.string x])) (nxt L 5) (a.put (some 40) (.slice (some ⟨w.heap.size, 0, none⟩) 1 1)) (w.alloc (.cells #[.string x] 9)) := by
  constructor
  case sz => exact (put_size _ _ _).trans h.sz
  case df => exact h.df
  case ev => intro j h1 h2; have e : ¬ j = 40 := (by omega); rw [put_tmp h.sz (by decide : (40 : Nat) < 103), if_neg e]; exact h.ev j h1 h2
  case below => exact chainN (below_one w _) h.below
  case rw_ => exact h.rw_.alloc h.below.size 2 #[.string x] 1 rfl (by decide)
  case o3 => have := h.o3; simp [nxt] at this ⊢ <;> simp_all
  case o6 => have := h.o6; simp [nxt] at this ⊢ <;> simp_all
  case o10 => have := h.o10; simp [nxt] at this ⊢ <;> simp_all
  case o13 => have := h.o13; simp [nxt] at this ⊢ <;> simp_all
  case o14 => have := h.o14; simp [nxt] at this ⊢ <;> simp_all
  case o16 => have := h.o16; simp [nxt] at this ⊢ <;> simp_all
  case t1 => intro h1; simpa [nxt, put_tmp h.sz (by decide : (40 : Nat) < 103), pset] using h.t1 (by simpa [nxt] using h1)
  case t2 => intro h1; simpa [nxt, put_tmp h.sz (by decide : (40 : Nat) < 103), pset] using h.t2 (by simpa [nxt] using h1)
  case t4 => intro h1; simpa [nxt, put_tmp h.sz (by decide : (40 : Nat) < 103), pset] using h.t4 (by simpa [nxt] using h1)
  case t8 => intro h1; simpa [nxt, put_tmp h.sz (by decide : (40 : Nat) < 103), pset] using h.t8 (by simpa [nxt] using h1)
  case t9 => intro h1; simpa [nxt, put_tmp h.sz (by decide : (40 : Nat) < 103), pset] using h.t9 (by simpa [nxt] using h1)
  case t11 => intro h1; simpa [nxt, put_tmp h.sz (by decide : (40 : Nat) < 103), pset] using h.t11 (by simpa [nxt] using h1)
  case s5 => intro h1; simp [put_tmp h.sz (by decide : (40 : Nat) < 103), pset]
  case s12 => intro h1; simpa [nxt, put_tmp h.sz (by decide : (40 : Nat) < 103), pset] using h.s12 (by simpa [nxt] using h1)
  case b14 => intro h1; simpa [nxt, put_tmp h.sz (by decide : (40 : Nat) < 103), pset] using h.b14 (by simpa [nxt] using h1)
  case k6 => intro h1; simpa [nxt, put_tmp h.sz (by decide : (40 : Nat) < 103), pset] using h.k6 (by simpa [nxt] using h1)
  case k13 => intro h1; simpa [nxt, put_tmp h.sz (by decide : (40 : Nat) < 103), pset] using h.k13 (by simpa [nxt] using h1)
  case k0 => intro h1 h2; simpa [nxt, put_tmp h.sz (by decide : (40 : Nat) < 103), pset] using h.k0 (by simpa [nxt] using h1) (by simpa [nxt] using h2)
  case k3 => intro h1 h2; simpa [nxt, put_tmp h.sz (by decide : (40 : Nat) < 103), pset] using h.k3 (by simpa [nxt] using h1) (by simpa [nxt] using h2)
  case k7 => intro h1 h2; simpa [nxt, put_tmp h.sz (by decide : (40 : Nat) < 103), pset] using h.k7 (by simpa [nxt] using h1) (by simpa [nxt] using h2)
  case k10 => intro h1 h2; simpa [nxt, put_tmp h.sz (by decide : (40 : Nat) < 103), pset] using h.k10 (by simpa [nxt] using h1) (by simpa [nxt] using h2)
  case b15 => intro h1 h2; obtain ⟨g, e1, hb, e2⟩ := h.b15 (by simpa [nxt] using h1) (by simpa [nxt] using h2); exact ⟨g, by simpa [nxt, put_tmp h.sz (by decide : (40 : Nat) < 103), pset] using e1, hb.kept (below_one w _), e2⟩
  case b16 => intro h1; obtain ⟨g, e1, hb, e2⟩ := h.b16 (by simpa [nxt] using h1); exact ⟨g, by simpa [nxt, put_tmp h.sz (by decide : (40 : Nat) < 103), pset] using e1, by simpa [nxt, put_tmp h.sz (by decide : (40 : Nat) < 103), pset] using (hb.kept (below_one w _)), e2⟩
theorem GI.step12 (h : GI w0 a0 b Av Bv n c m d K V x y p L a w)  :
    GI w0 a0 b Av Bv n c m d K V x y (pset p 3 ((.slice (some ⟨w.heap.size, 0, none⟩) 1 1), 1, [.string y])) (nxt L 12) (a.put (some 47) (.slice (some ⟨w.heap.size, 0, none⟩) 1 1)) (w.alloc (.cells #[.string y] 9)) := by
  constructor
  case sz => exact (put_size _ _ _).trans h.sz
  case df => exact h.df
  case ev => intro j h1 h2; have e : ¬ j = 47 := (by omega); rw [put_tmp h.sz (by decide : (47 : Nat) < 103), if_neg e]; exact h.ev j h1 h2
  case below => exact chainN (below_one w _) h.below
  case rw_ => exact h.rw_.alloc h.below.size 3 #[.string y] 1 rfl (by decide)
  case o3 => have := h.o3; simp [nxt] at this ⊢ <;> simp_all
  case o6 => have := h.o6; simp [nxt] at this ⊢ <;> simp_all
  case o10 => have := h.o10; simp [nxt] at this ⊢ <;> simp_all
  case o13 => have := h.o13; simp [nxt] at this ⊢ <;> simp_all
  case o14 => have := h.o14; simp [nxt] at this ⊢ <;> simp_all
  case o16 => have := h.o16; simp [nxt] at this ⊢ <;> simp_all
  case t1 => intro h1; simpa [nxt, put_tmp h.sz (by decide : (47 : Nat) < 103), pset] using h.t1 (by simpa [nxt] using h1)
  case t2 => intro h1; simpa [nxt, put_tmp h.sz (by decide : (47 : Nat) < 103), pset] using h.t2 (by simpa [nxt] using h1)
  case t4 => intro h1; simpa [nxt, put_tmp h.sz (by decide : (47 : Nat) < 103), pset] using h.t4 (by simpa [nxt] using h1)
  case t8 => intro h1; simpa [nxt, put_tmp h.sz (by decide : (47 : Nat) < 103), pset] using h.t8 (by simpa [nxt] using h1)
  case t9 => intro h1; simpa [nxt, put_tmp h.sz (by decide : (47 : Nat) < 103), pset] using h.t9 (by simpa [nxt] using h1)
  case t11 => intro h1; simpa [nxt, put_tmp h.sz (by decide : (47 : Nat) < 103), pset] using h.t11 (by simpa [nxt] using h1)
  case s5 => intro h1; simpa [nxt, put_tmp h.sz (by decide : (47 : Nat) < 103), pset] using h.s5 (by simpa [nxt] using h1)
  case s12 => intro h1; simp [put_tmp h.sz (by decide : (47 : Nat) < 103), pset]
  case b14 => intro h1; simpa [nxt, put_tmp h.sz (by decide : (47 : Nat) < 103), pset] using h.b14 (by simpa [nxt] using h1)
  case k6 => intro h1; simpa [nxt, put_tmp h.sz (by decide : (47 : Nat) < 103), pset] using h.k6 (by simpa [nxt] using h1)
  case k13 => intro h1; simpa [nxt, put_tmp h.sz (by decide : (47 : Nat) < 103), pset] using h.k13 (by simpa [nxt] using h1)
  case k0 => intro h1 h2; simpa [nxt, put_tmp h.sz (by decide : (47 : Nat) < 103), pset] using h.k0 (by simpa [nxt] using h1) (by simpa [nxt] using h2)
  case k3 => intro h1 h2; simpa [nxt, put_tmp h.sz (by decide : (47 : Nat) < 103), pset] using h.k3 (by simpa [nxt] using h1) (by simpa [nxt] using h2)
  case k7 => intro h1 h2; simpa [nxt, put_tmp h.sz (by decide : (47 : Nat) < 103), pset] using h.k7 (by simpa [nxt] using h1) (by simpa [nxt] using h2)
  case k10 => intro h1 h2; simpa [nxt, put_tmp h.sz (by decide : (47 : Nat) < 103), pset] using h.k10 (by simpa [nxt] using h1) (by simpa [nxt] using h2)
  case b15 => intro h1 h2; obtain ⟨g, e1, hb, e2⟩ := h.b15 (by simpa [nxt] using h1) (by simpa [nxt] using h2); exact ⟨g, by simpa [nxt, put_tmp h.sz (by decide : (47 : Nat) < 103), pset] using e1, hb.kept (below_one w _), e2⟩
  case b16 => intro h1; obtain ⟨g, e1, hb, e2⟩ := h.b16 (by simpa [nxt] using h1); exact ⟨g, by simpa [nxt, put_tmp h.sz (by decide : (47 : Nat) < 103), pset] using e1, by simpa [nxt, put_tmp h.sz (by decide : (47 : Nat) < 103), pset] using (hb.kept (below_one w _)), e2⟩
theorem GI.step3 (h : GI w0 a0 b Av Bv n c m d K V x y p L a w) (h1 : L 0 = true) (h0 : L 3 = false) {v' : Value} (ho : w'.ownsRow w0.heap.size 9 1 v' (n) (K)) (hg : w.grownBy w' (a.eval (.tmp 35)).ownBlock) (hat : v'.ownBlock = (a.eval (.tmp 35)).ownBlock ∨ v'.ownBlock = some w.heap.size) :
    GI w0 a0 b Av Bv n c m d K V x y (pset p 0 (v', n, K)) (nxt L 3) (a.put (some 38) v') w' := by
  have hq := h.k0 h1 h0
  have hr := h.rw_.row _ _ _ _ hq
  constructor
  case sz => exact (put_size _ _ _).trans h.sz
  case df => exact h.df
  case ev => intro j h1 h2; have e : ¬ j = 38 := (by omega); rw [put_tmp h.sz (by decide : (38 : Nat) < 103), if_neg e]; exact h.ev j h1 h2
  case below => exact h.below.trans (grown_low hr h.below.size hg)
  case rw_ => exact h.rw_.grow hq ho hg hat
  case o3 => have := h.o3; simp [nxt] at this ⊢ <;> simp_all
  case o6 => have := h.o6; simp [nxt] at this ⊢ <;> simp_all
  case o10 => have := h.o10; simp [nxt] at this ⊢ <;> simp_all
  case o13 => have := h.o13; simp [nxt] at this ⊢ <;> simp_all
  case o14 => have := h.o14; simp [nxt] at this ⊢ <;> simp_all
  case o16 => have := h.o16; simp [nxt] at this ⊢ <;> simp_all
  case t1 => intro h1; simpa [nxt, put_tmp h.sz (by decide : (38 : Nat) < 103), pset] using h.t1 (by simpa [nxt] using h1)
  case t2 => intro h1; simpa [nxt, put_tmp h.sz (by decide : (38 : Nat) < 103), pset] using h.t2 (by simpa [nxt] using h1)
  case t4 => intro h1; simpa [nxt, put_tmp h.sz (by decide : (38 : Nat) < 103), pset] using h.t4 (by simpa [nxt] using h1)
  case t8 => intro h1; simpa [nxt, put_tmp h.sz (by decide : (38 : Nat) < 103), pset] using h.t8 (by simpa [nxt] using h1)
  case t9 => intro h1; simpa [nxt, put_tmp h.sz (by decide : (38 : Nat) < 103), pset] using h.t9 (by simpa [nxt] using h1)
  case t11 => intro h1; simpa [nxt, put_tmp h.sz (by decide : (38 : Nat) < 103), pset] using h.t11 (by simpa [nxt] using h1)
  case s5 => intro h1; simpa [nxt, put_tmp h.sz (by decide : (38 : Nat) < 103), pset] using h.s5 (by simpa [nxt] using h1)
  case s12 => intro h1; simpa [nxt, put_tmp h.sz (by decide : (38 : Nat) < 103), pset] using h.s12 (by simpa [nxt] using h1)
  case b14 => intro h1; simpa [nxt, put_tmp h.sz (by decide : (38 : Nat) < 103), pset] using h.b14 (by simpa [nxt] using h1)
  case k6 => intro h1; exfalso; have := h.o3; have := h.o6; have := h.o10; have := h.o13; have := h.o14; have := h.o16; simp [nxt] at h1; simp_all
  case k13 => intro h1; simpa [nxt, put_tmp h.sz (by decide : (38 : Nat) < 103), pset] using h.k13 (by simpa [nxt] using h1)
  case k0 => intro _ h2; simp [nxt] at h2
  case k3 => intro h1 h2; simp [put_tmp h.sz (by decide : (38 : Nat) < 103), pset]
  case k7 => intro h1 h2; simpa [nxt, put_tmp h.sz (by decide : (38 : Nat) < 103), pset] using h.k7 (by simpa [nxt] using h1) (by simpa [nxt] using h2)
  case k10 => intro h1 h2; simpa [nxt, put_tmp h.sz (by decide : (38 : Nat) < 103), pset] using h.k10 (by simpa [nxt] using h1) (by simpa [nxt] using h2)
  case b15 => intro h1 h2; obtain ⟨g, e1, hb, e2⟩ := h.b15 (by simpa [nxt] using h1) (by simpa [nxt] using h2); exact ⟨g, by simpa [nxt, put_tmp h.sz (by decide : (38 : Nat) < 103), pset] using e1, nbox_grown hr hg hb, e2⟩
  case b16 => intro h1; obtain ⟨g, e1, hb, e2⟩ := h.b16 (by simpa [nxt] using h1); exact ⟨g, by simpa [nxt, put_tmp h.sz (by decide : (38 : Nat) < 103), pset] using e1, by simpa [nxt, put_tmp h.sz (by decide : (38 : Nat) < 103), pset] using (nbox_grown hr hg hb), e2⟩
theorem GI.step6 (h : GI w0 a0 b Av Bv n c m d K V x y p L a w) (h1 : L 3 = true) (h0 : L 6 = false) {v' : Value} (ho : w'.ownsRow w0.heap.size 9 1 v' (n + 1) (K ++ [.string x])) (hg : w.grownBy w' (a.eval (.tmp 38)).ownBlock) (hat : v'.ownBlock = (a.eval (.tmp 38)).ownBlock ∨ v'.ownBlock = some w.heap.size) :
    GI w0 a0 b Av Bv n c m d K V x y (pset p 0 (v', n + 1, K ++ [.string x])) (nxt L 6) (a.put (some 41) v') w' := by
  have hq := h.k3 h1 h0
  have hr := h.rw_.row _ _ _ _ hq
  constructor
  case sz => exact (put_size _ _ _).trans h.sz
  case df => exact h.df
  case ev => intro j h1 h2; have e : ¬ j = 41 := (by omega); rw [put_tmp h.sz (by decide : (41 : Nat) < 103), if_neg e]; exact h.ev j h1 h2
  case below => exact h.below.trans (grown_low hr h.below.size hg)
  case rw_ => exact h.rw_.grow hq ho hg hat
  case o3 => have := h.o3; simp [nxt] at this ⊢ <;> simp_all
  case o6 => have := h.o6; simp [nxt] at this ⊢ <;> simp_all
  case o10 => have := h.o10; simp [nxt] at this ⊢ <;> simp_all
  case o13 => have := h.o13; simp [nxt] at this ⊢ <;> simp_all
  case o14 => have := h.o14; simp [nxt] at this ⊢ <;> simp_all
  case o16 => have := h.o16; simp [nxt] at this ⊢ <;> simp_all
  case t1 => intro h1; simpa [nxt, put_tmp h.sz (by decide : (41 : Nat) < 103), pset] using h.t1 (by simpa [nxt] using h1)
  case t2 => intro h1; simpa [nxt, put_tmp h.sz (by decide : (41 : Nat) < 103), pset] using h.t2 (by simpa [nxt] using h1)
  case t4 => intro h1; simpa [nxt, put_tmp h.sz (by decide : (41 : Nat) < 103), pset] using h.t4 (by simpa [nxt] using h1)
  case t8 => intro h1; simpa [nxt, put_tmp h.sz (by decide : (41 : Nat) < 103), pset] using h.t8 (by simpa [nxt] using h1)
  case t9 => intro h1; simpa [nxt, put_tmp h.sz (by decide : (41 : Nat) < 103), pset] using h.t9 (by simpa [nxt] using h1)
  case t11 => intro h1; simpa [nxt, put_tmp h.sz (by decide : (41 : Nat) < 103), pset] using h.t11 (by simpa [nxt] using h1)
  case s5 => intro h1; simpa [nxt, put_tmp h.sz (by decide : (41 : Nat) < 103), pset] using h.s5 (by simpa [nxt] using h1)
  case s12 => intro h1; simpa [nxt, put_tmp h.sz (by decide : (41 : Nat) < 103), pset] using h.s12 (by simpa [nxt] using h1)
  case b14 => intro h1; exfalso; have := h.o3; have := h.o6; have := h.o10; have := h.o13; have := h.o14; have := h.o16; simp [nxt] at h1; simp_all
  case k6 => intro h1; simp [put_tmp h.sz (by decide : (41 : Nat) < 103), pset]
  case k13 => intro h1; simpa [nxt, put_tmp h.sz (by decide : (41 : Nat) < 103), pset] using h.k13 (by simpa [nxt] using h1)
  case k0 => intro h1 h2; exfalso; have := h.o3; have := h.o6; have := h.o10; have := h.o13; have := h.o14; have := h.o16; simp [nxt] at h1 h2; simp_all
  case k3 => intro _ h2; simp [nxt] at h2
  case k7 => intro h1 h2; simpa [nxt, put_tmp h.sz (by decide : (41 : Nat) < 103), pset] using h.k7 (by simpa [nxt] using h1) (by simpa [nxt] using h2)
  case k10 => intro h1 h2; simpa [nxt, put_tmp h.sz (by decide : (41 : Nat) < 103), pset] using h.k10 (by simpa [nxt] using h1) (by simpa [nxt] using h2)
  case b15 => intro h1 h2; obtain ⟨g, e1, hb, e2⟩ := h.b15 (by simpa [nxt] using h1) (by simpa [nxt] using h2); exact ⟨g, by simpa [nxt, put_tmp h.sz (by decide : (41 : Nat) < 103), pset] using e1, nbox_grown hr hg hb, e2⟩
  case b16 => intro h1; exfalso; have := h.o3; have := h.o6; have := h.o10; have := h.o13; have := h.o14; have := h.o16; simp [nxt] at h1; simp_all
theorem GI.step10 (h : GI w0 a0 b Av Bv n c m d K V x y p L a w) (h1 : L 7 = true) (h0 : L 10 = false) {v' : Value} (ho : w'.ownsRow w0.heap.size 9 1 v' (m) (V)) (hg : w.grownBy w' (a.eval (.tmp 42)).ownBlock) (hat : v'.ownBlock = (a.eval (.tmp 42)).ownBlock ∨ v'.ownBlock = some w.heap.size) :
    GI w0 a0 b Av Bv n c m d K V x y (pset p 1 (v', m, V)) (nxt L 10) (a.put (some 45) v') w' := by
  have hq := h.k7 h1 h0
  have hr := h.rw_.row _ _ _ _ hq
  constructor
  case sz => exact (put_size _ _ _).trans h.sz
  case df => exact h.df
  case ev => intro j h1 h2; have e : ¬ j = 45 := (by omega); rw [put_tmp h.sz (by decide : (45 : Nat) < 103), if_neg e]; exact h.ev j h1 h2
  case below => exact h.below.trans (grown_low hr h.below.size hg)
  case rw_ => exact h.rw_.grow hq ho hg hat
  case o3 => have := h.o3; simp [nxt] at this ⊢ <;> simp_all
  case o6 => have := h.o6; simp [nxt] at this ⊢ <;> simp_all
  case o10 => have := h.o10; simp [nxt] at this ⊢ <;> simp_all
  case o13 => have := h.o13; simp [nxt] at this ⊢ <;> simp_all
  case o14 => have := h.o14; simp [nxt] at this ⊢ <;> simp_all
  case o16 => have := h.o16; simp [nxt] at this ⊢ <;> simp_all
  case t1 => intro h1; simpa [nxt, put_tmp h.sz (by decide : (45 : Nat) < 103), pset] using h.t1 (by simpa [nxt] using h1)
  case t2 => intro h1; simpa [nxt, put_tmp h.sz (by decide : (45 : Nat) < 103), pset] using h.t2 (by simpa [nxt] using h1)
  case t4 => intro h1; simpa [nxt, put_tmp h.sz (by decide : (45 : Nat) < 103), pset] using h.t4 (by simpa [nxt] using h1)
  case t8 => intro h1; simpa [nxt, put_tmp h.sz (by decide : (45 : Nat) < 103), pset] using h.t8 (by simpa [nxt] using h1)
  case t9 => intro h1; simpa [nxt, put_tmp h.sz (by decide : (45 : Nat) < 103), pset] using h.t9 (by simpa [nxt] using h1)
  case t11 => intro h1; simpa [nxt, put_tmp h.sz (by decide : (45 : Nat) < 103), pset] using h.t11 (by simpa [nxt] using h1)
  case s5 => intro h1; simpa [nxt, put_tmp h.sz (by decide : (45 : Nat) < 103), pset] using h.s5 (by simpa [nxt] using h1)
  case s12 => intro h1; simpa [nxt, put_tmp h.sz (by decide : (45 : Nat) < 103), pset] using h.s12 (by simpa [nxt] using h1)
  case b14 => intro h1; simpa [nxt, put_tmp h.sz (by decide : (45 : Nat) < 103), pset] using h.b14 (by simpa [nxt] using h1)
  case k6 => intro h1; simpa [nxt, put_tmp h.sz (by decide : (45 : Nat) < 103), pset] using h.k6 (by simpa [nxt] using h1)
  case k13 => intro h1; exfalso; have := h.o3; have := h.o6; have := h.o10; have := h.o13; have := h.o14; have := h.o16; simp [nxt] at h1; simp_all
  case k0 => intro h1 h2; simpa [nxt, put_tmp h.sz (by decide : (45 : Nat) < 103), pset] using h.k0 (by simpa [nxt] using h1) (by simpa [nxt] using h2)
  case k3 => intro h1 h2; simpa [nxt, put_tmp h.sz (by decide : (45 : Nat) < 103), pset] using h.k3 (by simpa [nxt] using h1) (by simpa [nxt] using h2)
  case k7 => intro _ h2; simp [nxt] at h2
  case k10 => intro h1 h2; simp [put_tmp h.sz (by decide : (45 : Nat) < 103), pset]
  case b15 => intro h1 h2; obtain ⟨g, e1, hb, e2⟩ := h.b15 (by simpa [nxt] using h1) (by simpa [nxt] using h2); exact ⟨g, by simpa [nxt, put_tmp h.sz (by decide : (45 : Nat) < 103), pset] using e1, nbox_grown hr hg hb, e2⟩
  case b16 => intro h1; obtain ⟨g, e1, hb, e2⟩ := h.b16 (by simpa [nxt] using h1); exact ⟨g, by simpa [nxt, put_tmp h.sz (by decide : (45 : Nat) < 103), pset] using e1, by simpa [nxt, put_tmp h.sz (by decide : (45 : Nat) < 103), pset] using (nbox_grown hr hg hb), e2⟩
theorem GI.step13 (h : GI w0 a0 b Av Bv n c m d K V x y p L a w) (h1 : L 10 = true) (h0 : L 13 = false) {v' : Value} (ho : w'.ownsRow w0.heap.size 9 1 v' (m + 1) (V ++ [.string y])) (hg : w.grownBy w' (a.eval (.tmp 45)).ownBlock) (hat : v'.ownBlock = (a.eval (.tmp 45)).ownBlock ∨ v'.ownBlock = some w.heap.size) :
    GI w0 a0 b Av Bv n c m d K V x y (pset p 1 (v', m + 1, V ++ [.string y])) (nxt L 13) (a.put (some 48) v') w' := by
  have hq := h.k10 h1 h0
  have hr := h.rw_.row _ _ _ _ hq
  constructor
  case sz => exact (put_size _ _ _).trans h.sz
  case df => exact h.df
  case ev => intro j h1 h2; have e : ¬ j = 48 := (by omega); rw [put_tmp h.sz (by decide : (48 : Nat) < 103), if_neg e]; exact h.ev j h1 h2
  case below => exact h.below.trans (grown_low hr h.below.size hg)
  case rw_ => exact h.rw_.grow hq ho hg hat
  case o3 => have := h.o3; simp [nxt] at this ⊢ <;> simp_all
  case o6 => have := h.o6; simp [nxt] at this ⊢ <;> simp_all
  case o10 => have := h.o10; simp [nxt] at this ⊢ <;> simp_all
  case o13 => have := h.o13; simp [nxt] at this ⊢ <;> simp_all
  case o14 => have := h.o14; simp [nxt] at this ⊢ <;> simp_all
  case o16 => have := h.o16; simp [nxt] at this ⊢ <;> simp_all
  case t1 => intro h1; simpa [nxt, put_tmp h.sz (by decide : (48 : Nat) < 103), pset] using h.t1 (by simpa [nxt] using h1)
  case t2 => intro h1; simpa [nxt, put_tmp h.sz (by decide : (48 : Nat) < 103), pset] using h.t2 (by simpa [nxt] using h1)
  case t4 => intro h1; simpa [nxt, put_tmp h.sz (by decide : (48 : Nat) < 103), pset] using h.t4 (by simpa [nxt] using h1)
  case t8 => intro h1; simpa [nxt, put_tmp h.sz (by decide : (48 : Nat) < 103), pset] using h.t8 (by simpa [nxt] using h1)
  case t9 => intro h1; simpa [nxt, put_tmp h.sz (by decide : (48 : Nat) < 103), pset] using h.t9 (by simpa [nxt] using h1)
  case t11 => intro h1; simpa [nxt, put_tmp h.sz (by decide : (48 : Nat) < 103), pset] using h.t11 (by simpa [nxt] using h1)
  case s5 => intro h1; simpa [nxt, put_tmp h.sz (by decide : (48 : Nat) < 103), pset] using h.s5 (by simpa [nxt] using h1)
  case s12 => intro h1; simpa [nxt, put_tmp h.sz (by decide : (48 : Nat) < 103), pset] using h.s12 (by simpa [nxt] using h1)
  case b14 => intro h1; exfalso; have := h.o3; have := h.o6; have := h.o10; have := h.o13; have := h.o14; have := h.o16; simp [nxt] at h1; simp_all
  case k6 => intro h1; simpa [nxt, put_tmp h.sz (by decide : (48 : Nat) < 103), pset] using h.k6 (by simpa [nxt] using h1)
  case k13 => intro h1; simp [put_tmp h.sz (by decide : (48 : Nat) < 103), pset]
  case k0 => intro h1 h2; simpa [nxt, put_tmp h.sz (by decide : (48 : Nat) < 103), pset] using h.k0 (by simpa [nxt] using h1) (by simpa [nxt] using h2)
  case k3 => intro h1 h2; simpa [nxt, put_tmp h.sz (by decide : (48 : Nat) < 103), pset] using h.k3 (by simpa [nxt] using h1) (by simpa [nxt] using h2)
  case k7 => intro h1 h2; exfalso; have := h.o3; have := h.o6; have := h.o10; have := h.o13; have := h.o14; have := h.o16; simp [nxt] at h1 h2; simp_all
  case k10 => intro _ h2; simp [nxt] at h2
  case b15 => intro h1 h2; obtain ⟨g, e1, hb, e2⟩ := h.b15 (by simpa [nxt] using h1) (by simpa [nxt] using h2); exact ⟨g, by simpa [nxt, put_tmp h.sz (by decide : (48 : Nat) < 103), pset] using e1, nbox_grown hr hg hb, e2⟩
  case b16 => intro h1; exfalso; have := h.o3; have := h.o6; have := h.o10; have := h.o13; have := h.o14; have := h.o16; simp [nxt] at h1; simp_all
theorem GI.step14 (h : GI w0 a0 b Av Bv n c m d K V x y p L a w) (h1 : L 6 = true) (h2 : L 13 = true) (h0 : L 14 = false) :
    GI w0 a0 b Av Bv n c m d K V x y p (nxt L 14) (a.put (some 49) (.agg #[.bool true, a.eval (.tmp 41), a.eval (.tmp 48), .slice none 0 0])) w := by
  constructor
  case sz => exact (put_size _ _ _).trans h.sz
  case df => exact h.df
  case ev => intro j h1 h2; have e : ¬ j = 49 := (by omega); rw [put_tmp h.sz (by decide : (49 : Nat) < 103), if_neg e]; exact h.ev j h1 h2
  case below => exact h.below
  case rw_ => exact h.rw_
  case o3 => have := h.o3; simp [nxt] at this ⊢ <;> simp_all
  case o6 => have := h.o6; simp [nxt] at this ⊢ <;> simp_all
  case o10 => have := h.o10; simp [nxt] at this ⊢ <;> simp_all
  case o13 => have := h.o13; simp [nxt] at this ⊢ <;> simp_all
  case o14 => have := h.o14; simp [nxt] at this ⊢ <;> simp_all
  case o16 => have := h.o16; simp [nxt] at this ⊢ <;> simp_all
  case t1 => intro h1; simpa [nxt, put_tmp h.sz (by decide : (49 : Nat) < 103), pset] using h.t1 (by simpa [nxt] using h1)
  case t2 => intro h1; simpa [nxt, put_tmp h.sz (by decide : (49 : Nat) < 103), pset] using h.t2 (by simpa [nxt] using h1)
  case t4 => intro h1; simpa [nxt, put_tmp h.sz (by decide : (49 : Nat) < 103), pset] using h.t4 (by simpa [nxt] using h1)
  case t8 => intro h1; simpa [nxt, put_tmp h.sz (by decide : (49 : Nat) < 103), pset] using h.t8 (by simpa [nxt] using h1)
  case t9 => intro h1; simpa [nxt, put_tmp h.sz (by decide : (49 : Nat) < 103), pset] using h.t9 (by simpa [nxt] using h1)
  case t11 => intro h1; simpa [nxt, put_tmp h.sz (by decide : (49 : Nat) < 103), pset] using h.t11 (by simpa [nxt] using h1)
  case s5 => intro h1; simpa [nxt, put_tmp h.sz (by decide : (49 : Nat) < 103), pset] using h.s5 (by simpa [nxt] using h1)
  case s12 => intro h1; simpa [nxt, put_tmp h.sz (by decide : (49 : Nat) < 103), pset] using h.s12 (by simpa [nxt] using h1)
  case b14 => intro h1; simp [put_tmp h.sz (by decide : (49 : Nat) < 103)]
  case k6 => intro h1; simpa [nxt, put_tmp h.sz (by decide : (49 : Nat) < 103), pset] using h.k6 (by simpa [nxt] using h1)
  case k13 => intro h1; simpa [nxt, put_tmp h.sz (by decide : (49 : Nat) < 103), pset] using h.k13 (by simpa [nxt] using h1)
  case k0 => intro h1 h2; simpa [nxt, put_tmp h.sz (by decide : (49 : Nat) < 103), pset] using h.k0 (by simpa [nxt] using h1) (by simpa [nxt] using h2)
  case k3 => intro h1 h2; simpa [nxt, put_tmp h.sz (by decide : (49 : Nat) < 103), pset] using h.k3 (by simpa [nxt] using h1) (by simpa [nxt] using h2)
  case k7 => intro h1 h2; simpa [nxt, put_tmp h.sz (by decide : (49 : Nat) < 103), pset] using h.k7 (by simpa [nxt] using h1) (by simpa [nxt] using h2)
  case k10 => intro h1 h2; simpa [nxt, put_tmp h.sz (by decide : (49 : Nat) < 103), pset] using h.k10 (by simpa [nxt] using h1) (by simpa [nxt] using h2)
  case b15 => intro h1 h2; obtain ⟨g, e1, hb, e2⟩ := h.b15 (by simpa [nxt] using h1) (by simpa [nxt] using h2); exact ⟨g, by simpa [nxt, put_tmp h.sz (by decide : (49 : Nat) < 103), pset] using e1, hb, e2⟩
  case b16 => intro h1; obtain ⟨g, e1, hb, e2⟩ := h.b16 (by simpa [nxt] using h1); exact ⟨g, by simpa [nxt, put_tmp h.sz (by decide : (49 : Nat) < 103), pset] using e1, by simpa [nxt, put_tmp h.sz (by decide : (49 : Nat) < 103), pset] using (hb), e2⟩
theorem GI.step15 (h : GI w0 a0 b Av Bv n c m d K V x y p L a w) (h0 : L 15 = false) :
    GI w0 a0 b Av Bv n c m d K V x y p (nxt L 15) (a.put (some 8) (.pointer (some ⟨w.heap.size, 0, none⟩))) (w.alloc (.cells #[.bool false, .slice none 0 0, .slice none 0 0, .slice none 0 0] 26)) := by
  constructor
  case sz => exact (put_size _ _ _).trans h.sz
  case df => exact h.df
  case ev => intro j h1 h2; have e : ¬ j = 8 := (by omega); rw [put_tmp h.sz (by decide : (8 : Nat) < 103), if_neg e]; exact h.ev j h1 h2
  case below => exact chainN (below_one w _) h.below
  case rw_ => exact h.rw_.beside _
  case o3 => have := h.o3; simp [nxt] at this ⊢ <;> simp_all
  case o6 => have := h.o6; simp [nxt] at this ⊢ <;> simp_all
  case o10 => have := h.o10; simp [nxt] at this ⊢ <;> simp_all
  case o13 => have := h.o13; simp [nxt] at this ⊢ <;> simp_all
  case o14 => have := h.o14; simp [nxt] at this ⊢ <;> simp_all
  case o16 => have := h.o16; simp [nxt] at this ⊢ <;> simp_all
  case t1 => intro h1; simpa [nxt, put_tmp h.sz (by decide : (8 : Nat) < 103), pset] using h.t1 (by simpa [nxt] using h1)
  case t2 => intro h1; simpa [nxt, put_tmp h.sz (by decide : (8 : Nat) < 103), pset] using h.t2 (by simpa [nxt] using h1)
  case t4 => intro h1; simpa [nxt, put_tmp h.sz (by decide : (8 : Nat) < 103), pset] using h.t4 (by simpa [nxt] using h1)
  case t8 => intro h1; simpa [nxt, put_tmp h.sz (by decide : (8 : Nat) < 103), pset] using h.t8 (by simpa [nxt] using h1)
  case t9 => intro h1; simpa [nxt, put_tmp h.sz (by decide : (8 : Nat) < 103), pset] using h.t9 (by simpa [nxt] using h1)
  case t11 => intro h1; simpa [nxt, put_tmp h.sz (by decide : (8 : Nat) < 103), pset] using h.t11 (by simpa [nxt] using h1)
  case s5 => intro h1; simpa [nxt, put_tmp h.sz (by decide : (8 : Nat) < 103), pset] using h.s5 (by simpa [nxt] using h1)
  case s12 => intro h1; simpa [nxt, put_tmp h.sz (by decide : (8 : Nat) < 103), pset] using h.s12 (by simpa [nxt] using h1)
  case b14 => intro h1; simpa [nxt, put_tmp h.sz (by decide : (8 : Nat) < 103), pset] using h.b14 (by simpa [nxt] using h1)
  case k6 => intro h1; simpa [nxt, put_tmp h.sz (by decide : (8 : Nat) < 103), pset] using h.k6 (by simpa [nxt] using h1)
  case k13 => intro h1; simpa [nxt, put_tmp h.sz (by decide : (8 : Nat) < 103), pset] using h.k13 (by simpa [nxt] using h1)
  case k0 => intro h1 h2; simpa [nxt, put_tmp h.sz (by decide : (8 : Nat) < 103), pset] using h.k0 (by simpa [nxt] using h1) (by simpa [nxt] using h2)
  case k3 => intro h1 h2; simpa [nxt, put_tmp h.sz (by decide : (8 : Nat) < 103), pset] using h.k3 (by simpa [nxt] using h1) (by simpa [nxt] using h2)
  case k7 => intro h1 h2; simpa [nxt, put_tmp h.sz (by decide : (8 : Nat) < 103), pset] using h.k7 (by simpa [nxt] using h1) (by simpa [nxt] using h2)
  case k10 => intro h1 h2; simpa [nxt, put_tmp h.sz (by decide : (8 : Nat) < 103), pset] using h.k10 (by simpa [nxt] using h1) (by simpa [nxt] using h2)
  case b15 => intro _ _; exact ⟨w.heap.size, by simp [put_tmp h.sz (by decide : (8 : Nat) < 103)], nbox_new w _ _ _ _, h.below.size⟩
  case b16 => intro h1; exfalso; have := h.o3; have := h.o6; have := h.o10; have := h.o13; have := h.o14; have := h.o16; simp [nxt] at h1; simp_all
theorem GI.step16 (h : GI w0 a0 b Av Bv n c m d K V x y p L a w) (h1 : L 14 = true) (h2 : L 15 = true) (h0 : L 16 = false) {g : Nat} (e0 : a.eval (.tmp 8) = .pointer (some ⟨g, 0, none⟩)) (u : Value) :
    GI w0 a0 b Av Bv n c m d K V x y p (nxt L 16) (a.put none u) ((((w.setCell ⟨g, 0, none⟩ (.bool true)).setCell ⟨g, 1, none⟩ (a.eval (.tmp 41))).setCell ⟨g, 2, none⟩ (a.eval (.tmp 48))).setCell ⟨g, 3, none⟩ (.slice none 0 0)) := by
  obtain ⟨hb0, hB⟩ : NBox w g (.bool false) (.slice none 0 0) (.slice none 0 0) (.slice none 0 0) ∧ w0.heap.size ≤ g := by
    obtain ⟨g', e1, hb, e2⟩ := h.b15 h2 h0
    rw [e0] at e1
    obtain rfl : g = g' := by simpa using e1
    exact ⟨hb, e2⟩
  constructor
  case sz => exact h.sz
  case df => exact h.df
  case ev => exact h.ev
  case below => exact below_nput h.below hB _ _ _ _
  case rw_ => exact h.rw_.but hb0 (NBut.put w g _ _ _ _)
  case o3 => have := h.o3; simp [nxt] at this ⊢ <;> simp_all
  case o6 => have := h.o6; simp [nxt] at this ⊢ <;> simp_all
  case o10 => have := h.o10; simp [nxt] at this ⊢ <;> simp_all
  case o13 => have := h.o13; simp [nxt] at this ⊢ <;> simp_all
  case o14 => have := h.o14; simp [nxt] at this ⊢ <;> simp_all
  case o16 => have := h.o16; simp [nxt] at this ⊢ <;> simp_all
  case t1 => intro h1; simpa [nxt, put_none, pset] using h.t1 (by simpa [nxt] using h1)
  case t2 => intro h1; simpa [nxt, put_none, pset] using h.t2 (by simpa [nxt] using h1)
  case t4 => intro h1; simpa [nxt, put_none, pset] using h.t4 (by simpa [nxt] using h1)
  case t8 => intro h1; simpa [nxt, put_none, pset] using h.t8 (by simpa [nxt] using h1)
  case t9 => intro h1; simpa [nxt, put_none, pset] using h.t9 (by simpa [nxt] using h1)
  case t11 => intro h1; simpa [nxt, put_none, pset] using h.t11 (by simpa [nxt] using h1)
  case s5 => intro h1; simpa [nxt, put_none, pset] using h.s5 (by simpa [nxt] using h1)
  case s12 => intro h1; simpa [nxt, put_none, pset] using h.s12 (by simpa [nxt] using h1)
  case b14 => intro h1; simpa [nxt, put_none, pset] using h.b14 (by simpa [nxt] using h1)
  case k6 => intro h1; simpa [nxt, put_none, pset] using h.k6 (by simpa [nxt] using h1)
  case k13 => intro h1; simpa [nxt, put_none, pset] using h.k13 (by simpa [nxt] using h1)
  case k0 => intro h1 h2; simpa [nxt, put_none, pset] using h.k0 (by simpa [nxt] using h1) (by simpa [nxt] using h2)
  case k3 => intro h1 h2; simpa [nxt, put_none, pset] using h.k3 (by simpa [nxt] using h1) (by simpa [nxt] using h2)
  case k7 => intro h1 h2; simpa [nxt, put_none, pset] using h.k7 (by simpa [nxt] using h1) (by simpa [nxt] using h2)
  case k10 => intro h1 h2; simpa [nxt, put_none, pset] using h.k10 (by simpa [nxt] using h1) (by simpa [nxt] using h2)
  case b15 => intro _ h4; simp [nxt] at h4
  case b16 => intro _; exact ⟨g, e0, hb0.put _ _ _ _, hB⟩

/-- All is done. -/
theorem GI.done (h : GI w0 a0 b Av Bv n c m d K V x y p L a w) (hl : ∀ j, j < 17 → L j = true) :
    ∃ g k v, a.eval (.tmp 8) = .pointer (some ⟨g, 0, none⟩) ∧ w0.heap.size ≤ g ∧ NBox w g (.bool true) k v (.slice none 0 0) ∧
      w.ownsRow w0.heap.size 9 1 k (n + 1) (K ++ [.string x]) ∧ w.ownsRow w0.heap.size 9 1 v (m + 1) (V ++ [.string y]) ∧
      Below w0.heap.size w0 w ∧ a.tmps.size = 103 ∧ a.defers = a0.defers ∧ ∀ j : Nat, (j < 35 ∨ 49 < j) → j ≠ 8 → a.eval (.tmp j) = a0.eval (.tmp j) := by
  obtain ⟨g, e1, hb, e2⟩ := h.b16 (hl 16 (by omega))
  exact ⟨g, _, _, e1, e2, hb, h.rw_.row _ _ _ _ (h.k6 (hl 6 (by omega))), h.rw_.row _ _ _ _ (h.k13 (hl 13 (by omega))), h.below, h.sz, h.df, h.ev⟩

theorem GI.begin_ (hs : a0.tmps.size = 103) (hb : Below w0.heap.size w0 w) : GI w0 a0 b Av Bv n c m d K V x y (fun _ => none) (fun _ => false) a0 w := by
  constructor
  case sz => exact hs
  case df => rfl
  case ev => intros; rfl
  case below => exact hb
  case rw_ => exact Rws.none_ _ _
  all_goals (intro h; cases h)

/-- What is done is told by what L says alone. -/
theorem GI.ext {L' : Nat → Bool} (e : ∀ j, L j = L' j) (h : GI w0 a0 b Av Bv n c m d K V x y p L a w) : GI w0 a0 b Av Bv n c m d K V x y p L' a w := by
  obtain rfl : L = L' := funext e
  exact h
end
end Go.Proofs.Ytgnlmbelaempcaa
