/-
  Lists of sectors with their bytes, in memory.
-/
import Derived.Test.YtillllegbgaalaaDLive
namespace Go.Proofs.Ytillllegbgaalaa
open Go.RowKit Go.Maps

theorem heldInfo : (Try.prog.info? 57).map (fun i => (i.zero, i.size, i.bytes)) = some (some (.agg #[.int .i64 0, .slice none 0 0]), 2, 32) := by kernel_rfl

/-- A sector, the value of its bytes, its bytes. -/
abbrev Hd := Int × Value × List UInt8

def hdVals : List Hd → List Value
  | [] => []
  | p :: ps => .int .i64 p.1 :: p.2.1 :: hdVals ps

theorem hdVals_length : ∀ ps : List Hd, (hdVals ps).length = ps.length * 2
  | [] => rfl
  | p :: ps => by simp only [hdVals, List.length_cons, hdVals_length ps]; omega
theorem hdVals_append : ∀ ps qs : List Hd, hdVals (ps ++ qs) = hdVals ps ++ hdVals qs
  | [], _ => rfl
  | p :: ps, qs => by simp only [List.cons_append, hdVals, hdVals_append ps qs]
theorem hdVals_at : ∀ (ps : List Hd) (i : Nat) (p : Hd), ps[i]? = some p → (hdVals ps)[i * 2]? = some (.int .i64 p.1) ∧ (hdVals ps)[i * 2 + 1]? = some p.2.1
  | [], i, p, h => by simp at h
  | x :: ps, 0, p, h => by
    obtain rfl : x = p := by simpa using h
    exact ⟨rfl, rfl⟩
  | x :: ps, i + 1, p, h => by
    have := hdVals_at ps i p (by simpa using h)
    have e : (i + 1) * 2 = i * 2 + 1 + 1 := by omega
    rw [e]
    simpa [hdVals] using this

/-- A list of one's own. -/
structure HOwn (w : World) (base : Nat) (v : Value) (ps : List Hd) : Prop where
  row : w.ownsRow base 57 2 v ps.length (hdVals ps)
  own : ∀ p ∈ ps, Own w base p.2.1 p.2.2

theorem hown_nil (w : World) (base : Nat) : HOwn w base (.slice none 0 0) [] := ⟨World.ownsRow_nil _ _ _ _, fun p hp => by simp at hp⟩

theorem row_cells {w : World} {base n : Nat} {e : TypeId} {sz : Nat} {v : Value} {xs : List Value} {k : Nat} (h : w.ownsRow base e sz v n xs) (hk : v.ownBlock = some k) : ∃ cur, w.heap[k]? = some (.cells cur e (0, 0)) := by
  rcases h.2 with ⟨rfl, _⟩ | ⟨g, cap, cur, hv, hg, hh, r⟩
  · cases hk
  · rw [hv] at hk
    injection hk with hk
    subst hk
    exact ⟨cur, hh⟩

theorem row_of_block {w w' : World} {base n : Nat} {e : TypeId} {sz : Nat} {v : Value} {xs : List Value} (h : w.ownsRow base e sz v n xs) (hk : ∀ k, v.ownBlock = some k → w'.heap[k]? = w.heap[k]?) : w'.ownsRow base e sz v n xs := by
  obtain ⟨h1, h2⟩ := h
  refine ⟨h1, ?_⟩
  rcases h2 with h2 | ⟨g, cap, cur, hv, hg, hh, r⟩
  · exact Or.inl h2
  · exact Or.inr ⟨g, cap, cur, hv, hg, by rw [hk g (by rw [hv]; rfl)]; exact hh, r⟩

/-- Rows of unlike elements lie in unlike blocks. -/
theorem rows_apart {w : World} {base base' n n' : Nat} {e e' : TypeId} {sz sz' : Nat} {v v' : Value} {xs xs' : List Value} (hne : e ≠ e') (h : w.ownsRow base e sz v n xs) (h' : w.ownsRow base' e' sz' v' n' xs') {k : Nat} (hk : v.ownBlock = some k) : v'.ownBlock ≠ some k := by
  intro hk'
  obtain ⟨c, h1⟩ := row_cells h hk
  obtain ⟨c', h2⟩ := row_cells h' hk'
  rw [h1] at h2
  injection h2 with h2
  injection h2 with _ h2
  exact hne h2

theorem grown_apart {w w' : World} {base base' n n' : Nat} {e e' : TypeId} {sz sz' : Nat} {v v' : Value} {xs xs' : List Value} (hne : e ≠ e') (h : w.ownsRow base e sz v n xs) (h' : w.ownsRow base' e' sz' v' n' xs') (hg : w.grownBy w' v'.ownBlock) : w'.ownsRow base e sz v n xs :=
  row_of_block h (fun k hk => hg.block k (h.lt k hk).2 (fun e1 => rows_apart hne h h' hk e1.symm))

theorem HOwn.below {w w' : World} {base : Nat} {v : Value} {ps : List Hd} (h : HOwn w base v ps) (hb : Below w.heap.size w w') : HOwn w' base v ps :=
  ⟨row_of_block h.row (fun k hk => hb.block k (h.row.lt k hk).2), fun p hp => own_of_block (h.own p hp) (fun k hk => hb.block k ((h.own p hp).lt k hk).2)⟩

/-- One more is appended. -/
theorem HOwn.push {w w' : World} {base : Nat} {v v' : Value} {ps : List Hd} {p : Hd} (h : HOwn w base v ps) (ho : Own w base p.2.1 p.2.2) (hr : w'.ownsRow base 57 2 v' (ps.length + 1) (hdVals ps ++ [.int .i64 p.1, p.2.1])) (hg : w.grownBy w' v.ownBlock) :
    HOwn w' base v' (ps ++ [p]) := by
  refine ⟨?_, fun q hq => ?_⟩
  · rw [hdVals_append, List.length_append]
    exact hr
  · have hq' : Own w base q.2.1 q.2.2 := by
      rcases List.mem_append.1 hq with h1 | h1
      · exact h.own q h1
      · obtain rfl : q = p := by simpa using h1
        exact ho
    exact grown_apart (by decide) hq' h.row hg

/-- A list that lies outside of F. -/
def HOut (w : World) (F : Nat → Prop) (A : Option Addr) (qs : List (Int × List UInt8)) : Prop :=
  qs = [] ∨ ∃ b off, A = some ⟨b, off, none⟩ ∧ ¬ F b ∧ ∀ i q, qs[i]? = some q → w.cell? ⟨b, off + i * 2, none⟩ = some (.int .i64 q.1) ∧
    ∃ A' c', w.cell? ⟨b, off + i * 2 + 1, none⟩ = some (.slice A' q.2.length c') ∧ Out w F A' q.2

theorem HOwn.out {w : World} {F : Nat → Prop} {base : Nat} {v : Value} {ps : List Hd} (h : HOwn w base v ps) (hF : ∀ k, F k → k < base) :
    ∃ A c, v = .slice A ps.length c ∧ ps.length ≤ c ∧ HOut w F A (ps.map fun p => (p.1, p.2.2)) := by
  have hlt := h.row.lt
  rcases h.row.2 with ⟨rfl, h0⟩ | ⟨g, cap, cur, rfl, hb, hh, hnc, hm, _⟩
  · refine ⟨none, 0, by rw [h0], by omega, Or.inl ?_⟩
    rw [List.eq_nil_of_length_eq_zero h0]
    rfl
  · refine ⟨_, _, rfl, hnc, Or.inr ⟨g, 0, rfl, fun hg => by have := hF g hg; omega, fun i q hq => ?_⟩⟩
    rw [List.getElem?_map] at hq
    obtain ⟨p, hp, rfl⟩ := Option.map_eq_some_iff.1 hq
    obtain ⟨e1, e2⟩ := hdVals_at ps i p hp
    have c1 := h.row.cells (g := g) rfl _ _ e1
    have c2 := h.row.cells (g := g) rfl _ _ e2
    rw [addr_add] at c1 c2
    have ho := h.own p (List.mem_of_getElem? hp)
    obtain ⟨A', c', hv, _, _⟩ := own_slice ho
    refine ⟨c1, A', c', by rw [← hv]; exact c2, ?_⟩
    rw [hv] at ho
    rcases own_bys ho with hx | ⟨b, off, e, _, hc⟩
    · exact Or.inl hx
    · refine Or.inr ⟨b, off, e, fun hF' => ?_, hc⟩
      have h1 := hF b hF'
      have h2 := (ho.lt b (by rw [e]; rfl)).1
      omega

theorem Moves.hout {w w' : World} {F F' : Nat → Prop} {A : Option Addr} {qs : List (Int × List UInt8)} (h : Moves w F w' F') (o : HOut w F A qs) : HOut w' F' A qs := by
  rcases qs with _ | ⟨y, l⟩
  · exact Or.inl rfl
  · rcases o with o | ⟨b, off, e, hb, hc⟩
    · cases o
    · have hlt : b < w.heap.size := World.block_lt_of_cell? _ _ (hc 0 y rfl).1
      obtain ⟨h1, h2⟩ := h.block hlt hb
      refine Or.inr ⟨b, off, e, h2, fun i q hq => ?_⟩
      obtain ⟨c1, A', c', c2, ho⟩ := hc i q hq
      exact ⟨(World.cell?_of_block (w := w) h1).trans c1, A', c', (World.cell?_of_block (w := w) h1).trans c2, h.out ho⟩

theorem HOut.at_ {w : World} {F : Nat → Prop} {A : Option Addr} {qs : List (Int × List UInt8)} (h : HOut w F A qs) {k : Nat} (hk : k < qs.length) :
    ∃ b off q A' c', A = some ⟨b, off, none⟩ ∧ ¬ F b ∧ qs[k]? = some q ∧ w.cell? ⟨b, off + k * 2, none⟩ = some (.int .i64 q.1) ∧ w.cell? ⟨b, off + k * 2 + 1, none⟩ = some (.slice A' q.2.length c') ∧ Out w F A' q.2 := by
  rcases h with rfl | ⟨b, off, rfl, hb, hc⟩
  · exact absurd hk (by simp)
  · obtain ⟨c1, A', c', c2, ho⟩ := hc k _ (List.getElem?_eq_getElem hk)
    exact ⟨b, off, qs[k], A', c', rfl, hb, List.getElem?_eq_getElem hk, c1, c2, ho⟩

end Go.Proofs.Ytillllegbgaalaa
