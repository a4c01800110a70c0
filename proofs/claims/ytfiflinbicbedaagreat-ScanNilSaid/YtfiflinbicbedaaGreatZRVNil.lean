/-
  ScanNil answers true, for every text and every number: calls on none answer ErrArg. Conditions: none.
-/
import Derived.Test.YtfiflinbicbedaaGreatRows
import Derived.Test.YtfiflinbicbedaaGreatZR20
import Derived.Test.YtfiflinbicbedaaGreatZR21
import Derived.Test.YtfiflinbicbedaaGreatZR10
import Derived.Test.YtfiflinbicbedaaGreatZR9
namespace Go.Proofs.YtfiflinbicbedaaGreat.scanNil
open Go.ChangeShapes Go.WideShapes Go.ChangeAt Go.RowKit Go.Maps
set_option maxRecDepth 20000 in
set_option maxHeartbeats 1600000 in
theorem walk (key:ByteArray) (n:Int) (_h1 : -9223372036854775808<=n) (_h2:n<=9223372036854775807) (W:World):Calls Tryz.prog 10 #[.string key,.int .i64 n] W fun e w'=>e = .returned (.bool true)/\Below W.heap.size W w':=by
 go_enter Tryz.func10,Tryz.ntmps10;go_wp2_with fail;refine (Zv _).mono ?_;rintro e w1 ⟨rfl,b1⟩;have B1:=iQ b1;clear b1;go_wp2_with fail;refine (qn9 w1 key key n).mono ?_;rintro e w2 ⟨rfl,b2⟩;have B2:=iQ (Qe b2 B1.out);clear b2;go_wp2_with fail;refine (qo0 w2).mono ?_;rintro e w3 ⟨rfl,b3⟩;have B3:=iQ (Qe b3 B2.out);clear b3;go_wp2_with fail;refine (qo1 w3).mono ?_;rintro e w4 ⟨rfl,b4⟩;have B4:=iQ (Qe b4 B3.out);clear b4;have RI:=iQ (qh3 none none 0 0 [] [] w4 (Or.inl rfl) (Or.inl rfl) (by decide));go_wp2_with fail;refine RI.out.mono ?_;rintro e w5 ⟨rfl,b5⟩;have B5:=iQ (Qe b5 B4.out);clear b5;rw [show decide True=true from rfl];go_wp2_with fail;go_ret;exact ⟨rfl,B5.out⟩
set_option maxRecDepth 100000 in
theorem lifted (os:Os) (started:os.Started) (H:Type) (enc:TypeId×Value->H) :
 ReturnsInHanded {} Tryz.checked os 10 .any (Rows.scanNilSpec.pre6 enc Tryz.prog Tryz.f10 Rows.scanNilRow.domain false)
  (Rows.scanNilSpec.post enc Tryz.prog Tryz.f10 false true false false):=by
 refine Hz (C:=Tryz.checked) (tb:=4) Ho started (by kernel_rfl) Tryz.func10
  (ChangeSpec.witness6 (enc:=enc) (C:=Tryz.checked) false ⟨#[],#[.string ⟨#[]⟩,.int .i64 0],[]⟩ 8 (by kernel_rfl) (by kernel_rfl) (by kernel_rfl) (by kernel_rfl))
  XY ?_ rfl rfl Tryz.underlying4 ?_ ?_
 ·intro t ht
  rw [Tryz.params10] at ht;simp only [List.mem_cons,List.not_mem_nil,or_false] at ht;rcases ht with rfl | rfl<;>exact ⟨by kernel_rfl,of_decide_eq_true (by kernel_rfl)⟩
 ·intro vs ds W p hA
  rw [Tryz.params10] at hA;obtain ⟨v0,vs0,d0,ds0,p0,q0,ha,rfl,rfl,h0,r0⟩:=trodAll_cons hA;obtain ⟨v1,vs1,d1,ds1,p1,q1,rfl,rfl,rfl,h1,r1⟩:=trodAll_cons r0;obtain ⟨rfl,rfl,rfl⟩:=trodAll_nil r1;rfl
 ·intro W base args ds p hval hA
  rw [Tryz.params10] at hA hval;obtain ⟨v0,vs0,d0,ds0,p0,q0,ha,rfl,rfl,h0,r0⟩:=trodAll_cons hA;obtain ⟨v1,vs1,d1,ds1,p1,q1,rfl,rfl,rfl,h1,r1⟩:=trodAll_cons r0;obtain ⟨rfl,rfl,rfl⟩:=trodAll_nil r1;obtain rfl:args=#[v0,v1]:=by cases args;simp_all
  obtain ⟨t0,rfl⟩:=JD (hval 0 _ v0 rfl rfl) h0;obtain ⟨i1,rfl,lo1,hi1⟩:=Hr (hval 1 _ v1 rfl rfl) h1;exact walk t0 i1 lo1 hi1 W
theorem proved:Rows.ScanNilSaid :=
 OpenClaim.holds_of_wide 10 Tryz.f10 rfl rfl rfl rfl rfl rfl rfl ⟨rfl,rfl,rfl,rfl,rfl⟩ rfl rfl rfl rfl rfl (by kernel_rfl) Tryz.func10 (by kernel_rfl)
  (of_decide_eq_true (by kernel_rfl)) (by unfold Func.isWrapper;first | (rw [if_pos (by decide +kernel)];kernel_rfl) | (rw [if_neg (by decide +kernel)];exact ⟨rfl,rfl⟩))
  (fun os started H enc _=>lifted os started H enc)
#print axioms proved
