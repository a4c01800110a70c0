/-
  What slices.Sorted(maps.Keys(m)) comes to: a map's keys, in order.
-/
import Derived.Test.YtillllegbgaalaaShelf
import Derived.Test.YtillllegbgaalaaMap
namespace Go.Proofs.Ytillllegbgaalaa
open Go.RowKit Go.Maps Go.Sort Go.Shelf

theorem sortsAt (m : Nat) : AnyZI.SortsIn Try.prog Try.sortedA_ren Fence.wide m :=
  ⟨fun blk off cap ss W hH hblk hsz => callsIn_wide.2 (AnyM.slices_Sort_int Try.sortA blk off cap ss W hH hblk hsz),
   fun p cap W => callsIn_wide.2 (AnyM.slices_Sort_int_none Try.sortA p cap W)⟩

theorem keys_any (mb : Option Nat) (W : World) : Calls Try.prog 46 #[.map mb] W fun e w' => e = .returned (.func (.func 49) #[] #[.pointer (some ⟨W.heap.size, 0, none⟩)]) ∧ w' = W.alloc (.cells #[.map mb] 59) :=
  (callsIn_wide (n := 5)).1 (AnyZI.keys_in Try.keysA Fence.wide 5 trivial rfl mb W)

theorem sorted_any (w : World) (B b n : Nat) (es : List (Lit × DataW Value)) (hB : B < w.heap.size) (hm : w.cell? ⟨B, 0, none⟩ = some (.map (some b))) (hown : w.ownsMap Try.prog 3 heldR b n (.map es)) (hl : es.length ≤ 4096) :
    Calls Try.prog 45 #[.func (.func 49) #[] #[.pointer (some ⟨B, 0, none⟩)]] w fun e w' => ∃ (v : Value) (ss : List Int), e = .returned v ∧ ss.Perm (intKeys (DataW.map es)) ∧
      w'.ownsRow w.heap.size 3 1 v ss.length ((ss.mergeSort (fun x y => decide (x ≤ y))).map encZ) ∧ Below w.heap.size w w' := by
  refine (callsIn_wide (n := 5)).1 ?_
  have hseq : SeqGives Fence.wide 2 Try.prog 49 #[.pointer (some ⟨B, 0, none⟩)] encZ (fun ss => ss.Perm (intKeys (DataW.map es))) (Maps.size (DataW.map es)) w :=
    AnyZI.keys_gives (ρ := Try.keysA_ren) { Try.keysA with } Fence.wide _ trivial rfl (by omega) B b n _ _ hB hm hown
  have cS := AnyZI.sorted_in Try.sortedA Fence.wide 5 trivial trivial trivial trivial rfl (by omega) (sortsAt _) (enters_of Try.func48 (by kernel_rfl) rfl) 49 #[.pointer (some ⟨B, 0, none⟩)] trivial (enters_of Try.func49 (by kernel_rfl) rfl) _ _ (by show es.length ≤ _; unfold maxLen; omega) (by show es.length * 8 ≤ _; omega) _ hseq
  change CallsIn _ _ Try.prog 45 _ _ _ at cS
  refine cS.mono ?_
  rintro e w' ⟨v, ss, he, hp, ho, _, hb⟩
  exact ⟨v, ss, he, hp, ho, hb⟩

end Go.Proofs.Ytillllegbgaalaa
