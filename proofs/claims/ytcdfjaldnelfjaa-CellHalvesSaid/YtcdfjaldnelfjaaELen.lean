/-
  How long the lists of nodes are that the laws ask of; the sum of a small node's entries.
-/
import Derived.Test.YtcdfjaldnelfjaaELaw
import Derived.Test.YtcdfjaldnelfjaaNFew
namespace Go.Proofs.Ytcdfjaldnelfjaa

/-- No list of a node is longer than this. -/
def Len (s : ND) (N : Nat) : Prop := s.keys.length ≤ N ∧ s.vals.length ≤ N ∧ s.kids.length ≤ N
theorem Len.of_small {s : ND} (h : Small s) : Len s 300 := ⟨h.1, h.2.1, h.2.2.1⟩
theorem rep_len {α : Type} (l o : List α) (f t : Nat) : (ND.rep l f t o).length ≤ 2 * l.length + o.length := by
  unfold ND.rep
  rw [List.length_append, List.length_append, List.length_take, List.length_drop]
  omega
theorem Len.put {s : ND} {N : Nat} (h : Len s N) (k v : List UInt8) : Len (s.put k v) (2 * N + 1) := by
  obtain ⟨h1, h2, h3⟩ := h
  rw [ND.put_eq]
  have a := rep_len s.keys [k] (ND.findN k s.keys) (ND.putB s k)
  have b := rep_len s.vals [v] (ND.findN k s.keys) (ND.putB s k)
  simp at a b
  exact ⟨by dsimp only; omega, by dsimp only; omega, by simp⟩
theorem Len.remove {s : ND} {N : Nat} (h : Len s N) (k : List UInt8) : Len (s.remove k) (2 * N) := by
  obtain ⟨h1, h2, h3⟩ := h
  unfold ND.remove
  split
  · unfold ND.removed
    have a := rep_len s.keys [] (ND.findN k s.keys) (ND.findN k s.keys + 1)
    have b := rep_len s.vals [] (ND.findN k s.keys) (ND.findN k s.keys + 1)
    simp at a b
    exact ⟨by dsimp only; omega, by dsimp only; omega, by simp⟩
  · exact ⟨by omega, by omega, by omega⟩
theorem Len.splitL {s : ND} {N : Nat} (h : Len s N) : Len s.splitL N := by
  obtain ⟨h1, h2, h3⟩ := h
  unfold ND.splitL
  split
  · exact ⟨by simp [ND.zero], by simp [ND.zero], by simp [ND.zero]⟩
  · exact ⟨by dsimp only; rw [List.length_take]; omega, by dsimp only; rw [List.length_take]; omega, by dsimp only; rw [List.length_take]; omega⟩
theorem Len.splitR {s : ND} {N : Nat} (h : Len s N) : Len s.splitR N := by
  obtain ⟨h1, h2, h3⟩ := h
  unfold ND.splitR
  split
  · exact ⟨by simp [ND.zero], by simp [ND.zero], by simp [ND.zero]⟩
  · exact ⟨by dsimp only; rw [List.length_drop]; omega, by dsimp only; rw [List.length_drop]; omega, by dsimp only; rw [List.length_drop]; omega⟩
theorem Len.join {s t : ND} {N M : Nat} (h : Len s N) (g : Len t M) (k : List UInt8) : Len (s.join k t) (N + 1 + M) := by
  obtain ⟨h1, h2, h3⟩ := h
  obtain ⟨g1, g2, g3⟩ := g
  unfold ND.join
  refine ⟨?_, ?_, ?_⟩
  · dsimp only
    rw [List.length_append, List.length_append]
    split <;> simp <;> omega
  · dsimp only
    rw [List.length_append]
    omega
  · dsimp only
    rw [List.length_append]
    omega
theorem Len.replace {s : ND} {N : Nat} (h : Len s N) (f t : Int) (ks : List Int) (zs : List (List UInt8)) (hk : ks.length ≤ 10) (hz : zs.length ≤ 10) : Len (s.replace f t ks zs) (2 * N + 10) := by
  obtain ⟨h1, h2, h3⟩ := h
  unfold ND.replace
  split
  · have a := rep_len s.keys zs f.toNat (t.toNat - 1)
    have b := rep_len s.kids ks f.toNat t.toNat
    exact ⟨by dsimp only; omega, by dsimp only; omega, by dsimp only; omega⟩
  · exact ⟨by omega, by omega, by omega⟩

theorem map_sum : ∀ l : List (List UInt8), (l.map (fun k => 5 + k.length)).sum = 5 * l.length + ND.tsl l
  | [] => rfl
  | x :: l => by
    rw [List.map_cons, List.sum_cons, map_sum l, ND.tsl_cons, List.length_cons]
    omega
theorem small_ents {s : ND} (h : Small s) (ho : s.ok = true) : s.ents.sum ≤ 100000000 := by
  have hz := h.size
  cases hl : s.leaf with
  | true =>
    have := ND.ents_sum ho hl
    omega
  | false =>
    rw [ND.ents_inner hl, map_sum]
    unfold ND.size ND.tsz at hz
    omega
end Go.Proofs.Ytcdfjaldnelfjaa
