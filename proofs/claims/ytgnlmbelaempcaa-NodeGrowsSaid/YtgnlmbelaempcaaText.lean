/-
  What a list of bytes in memory is read as: string(b); the library's bytes.
-/
import Derived.Test.YtgnlmbelaempcaaByte
import Derived.Lib.BytesEntry
import Derived.Laws.Externs
namespace Go.Proofs.Ytgnlmbelaempcaa
open Go.RowKit

/-! ### string(b) -/

section
variable {P : Program} {w : World} {R : Nat} {A : Option Addr} {l : List UInt8}

theorem run_text (h : Bys w R A l) (src dst e : TypeId) (n c : Nat) (hn : l.length = n) (hs : P.underlying src = some (.slice e)) (he : P.underlying e = some (.int .u8)) (hd : P.underlying dst = some .string) :
    (convert src dst (.slice A n c)).run P w = .ok (.string ⟨l.toArray⟩) w := by
  rw [run_convert_bytes_string w src dst e A n c hs he hd]
  rcases A with _ | ad
  · rw [h.none_]
    rfl
  · have hl : (loadCells ad n).run P w = .ok ((l.map (fun b => (b.toNat : Int))).map (Value.int .u8)).toArray w := by
      have := run_loadCells_list (P := P) w ad (bv l) h.cells
      rw [bv_length, hn] at this
      rw [this, List.map_map]
      rfl
    rw [run_bytesToString w ad n c _ hl]
    congr 2
    have : ∀ (l : List UInt8) (s : ByteArray), (l.map (fun b => (b.toNat : Int))).foldl (fun r n => r.push (UInt8.ofNat n.toNat)) s = ⟨s.data ++ l.toArray⟩ := by
      intro l
      induction l with
      | nil => intro s; simp
      | cons x l ih =>
        intro s
        rw [List.map_cons, List.foldl_cons, ih]
        simp [ByteArray.push]
    rw [this]
    congr 1
    exact Array.empty_append

theorem bytesOf_back : ∀ l : List UInt8, Lib.bytesOf (l.map (fun b => (b.toNat : Int))) = l
  | [] => rfl
  | x :: l => by
    have ih := bytesOf_back l
    unfold Lib.bytesOf at ih ⊢
    rw [List.map_cons, List.map_cons, ih]
    simp

theorem run_bytesOf (h : Bys w R A l) (n c : Nat) (hn : l.length = n) : (Extern.Bytes.bytesOf (.slice A n c)).run P w = .ok ⟨l.toArray⟩ w := by
  rcases A with _ | ad
  · rw [h.none_]
    rfl
  · have := Lib.run_loadBytesX (P := P) w (l.map (fun b => (b.toNat : Int))) ad .empty (fun j x hx => by
      rw [List.getElem?_map] at hx
      obtain ⟨z, hz, rfl⟩ := Option.map_eq_some_iff.1 hx
      exact h.cells j _ (by unfold bv; rw [List.getElem?_map, hz]; rfl))
    rw [List.length_map, hn, bytesOf_back] at this
    show (Extern.Bytes.loadBytes ad n .empty).run P w = _
    rw [this]
    congr 2
    exact Array.empty_append
end

end Go.Proofs.Ytgnlmbelaempcaa
