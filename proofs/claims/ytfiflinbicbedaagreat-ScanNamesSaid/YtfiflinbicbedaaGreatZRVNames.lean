/-
  ScanNames answers true: the number of the error is the document's. Conditions: none.
-/
import Derived.Test.YtfiflinbicbedaaGreatRows
import Derived.Test.YtfiflinbicbedaaGreatZR20
import Derived.Test.YtfiflinbicbedaaGreatZR9
namespace Go.Proofs.YtfiflinbicbedaaGreat.scanNames
open Go.ChangeShapes Go.WideShapes Go.ChangeAt Go.RowKit
set_option maxRecDepth 20000 in
set_option maxHeartbeats 400000 in
theorem walk (w:World):Calls Tryz.prog 3 #[] w fun e w'=>e = .returned (.bool true)/\Below w.heap.size w w':=by
 go_enter Tryz.func3,Tryz.ntmps3;go_wp2_with fail;refine (Zv _).mono ?_;rintro e w1 ⟨rfl,hb1⟩;go_wp2_with fail;go_ret;exact ⟨rfl,hb1⟩
set_option maxRecDepth 100000 in
theorem lifted (os:Os) (started:os.Started) (H:Type) (enc:TypeId×Value->H) :
 ReturnsInHanded {} Tryz.checked os 3 .any (Rows.scanNamesSpec.pre6 enc Tryz.prog Tryz.f3 Rows.scanNamesRow.domain false)
  (Rows.scanNamesSpec.post enc Tryz.prog Tryz.f3 false true false false):=by
 refine Hz (C:=Tryz.checked) (tb:=4) Ho started (by kernel_rfl) Tryz.func3
  (ChangeSpec.witness6 (enc:=enc) (C:=Tryz.checked) false ⟨#[],#[],[]⟩ 8 (by kernel_rfl) (by kernel_rfl) (by kernel_rfl) (by kernel_rfl))
  XY ?_ rfl rfl Tryz.underlying4 ?_ ?_
 ·intro t ht
  rw [Tryz.params3] at ht;simp at ht
 ·intro vs ds W p hA
  rw [Tryz.params3] at hA;obtain ⟨ha,rfl,rfl⟩:=trodAll_nil hA;rfl
 ·intro W base args ds p hval hA
  rw [Tryz.params3] at hA hval;obtain ⟨ha,rfl,rfl⟩:=trodAll_nil hA;obtain rfl:args=#[]:=by cases args;simp_all
  exact walk  W
theorem proved:Rows.ScanNamesSaid :=
 OpenClaim.holds_of_wide 3 Tryz.f3 rfl rfl rfl rfl rfl rfl rfl ⟨rfl,rfl,rfl,rfl,rfl⟩ rfl rfl rfl rfl rfl (by kernel_rfl) Tryz.func3 (by kernel_rfl)
  (of_decide_eq_true (by kernel_rfl)) (by unfold Func.isWrapper;first | (rw [if_pos (by decide +kernel)];kernel_rfl) | (rw [if_neg (by decide +kernel)];exact ⟨rfl,rfl⟩))
  (fun os started H enc _=>lifted os started H enc)
#print axioms proved
