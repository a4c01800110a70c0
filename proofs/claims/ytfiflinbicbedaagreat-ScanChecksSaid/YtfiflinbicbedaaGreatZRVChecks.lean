/-
  ScanChecks answers true, for every number of frames and every script: a tree that was laid entry by entry is what it should be, nothing of it is lost, its pages rise and are as many as its lists leave. Conditions: none.
-/
import Derived.Test.YtfiflinbicbedaaGreatRows
import Derived.Test.YtfiflinbicbedaaGreatZR20
import Derived.Test.YtfiflinbicbedaaGreatZR23
import Derived.Test.YtfiflinbicbedaaGreatZR9
import Derived.Deep.QuietTactic
import Derived.BigQuiet
import Derived.IntWalk
namespace Go.Proofs.YtfiflinbicbedaaGreat.scanChecks
open Go.ChangeShapes Go.WideShapes Go.ChangeAt Go.RowKit Go.Maps
set_option maxRecDepth 20000 in
set_option maxHeartbeats 6400000 in
theorem good (fr:Nat) (f1:1<=fr) (f2:fr<=10) (A:Option Addr) (n c:Nat) (l:List Uk) (hl:l.length=n) {W:World} (hs:Xq W W.heap.size A l) (hn:n<=maxLen) :
 Calls Tryz.prog 5 #[.int .i64 ((fr:Nat):Int),.slice A n c] W fun e W'=>e = .returned (.bool true)/\Below W.heap.size W W':=by
 have HG:=iQ (fun (w:World) (hW:Below W.heap.size W w)=>QQ w hW fr f1 f2 A n c l hl hs hn);have g1:¬ ((fr:Nat):Int)<1:=by omega
 have g2:¬ (10:Int)<((fr:Nat):Int):=by omega
 clear hs hl hn;go_enter Tryz.func5,Tryz.ntmps5;go_wp2_with fail;refine (Zv _).mono ?_;rintro e w1 ⟨rfl,b1⟩;have HGR:=iQ (HG.out w1 b1);clear b1 HG;go_wp2_with fail;refine HGR.out.mono ?_;rintro e w2 ⟨nd,tb,pb,db,g,F,t,es,L,rfl,h2,hz,hep,hle⟩;have TR:=iQ h2.tr;have H2:=iQ h2.tree;have M2:=iQ h2.map;have UA:=iQ hle;have HZ:=iQ hz;clear h2 hz hep hle HGR g1 g2 M2;have C1:=iQ (qr6 w2 H2.out TR.out UA.out HZ.out);go_wp2_with fail;refine C1.out.mono ?_;rintro e w3 ⟨F3,h3,m3,rfl⟩;have H3:=iQ h3;clear C1 h3 m3 H2;have hsm:=TR.out.small UA.out;have C2:=iQ (CY w3 H3.out TR.out hsm.1 hsm.2);clear hsm;go_wp2_with fail;refine C2.out.mono ?_;rintro e w4 ⟨F4,A4,n4,c4,ms,rfl,h4,m4,hn4,hp,hr,l4,_⟩;have H4:=iQ h4;have L4:=iQ l4.ln;have HN4:=iQ hn4;have HP:=iQ hp;have HR:=iQ hr;clear C2 h4 m4 hn4 hp hr l4 H3;go_wp2_with fail;refine (KY w4 H4.out).mono ?_;rintro e w5 ⟨v,rfl,⟨SA,sn,sc,SB,sm,sd,rfl,s5,i1,i2⟩,b5⟩;have b6:=Qa w5 (.cells #[.int .i64 t.sp.hi,.slice SA sn sc,.slice SB sm sd] 45);have HX:=iQ (Yi w5 (.int .i64 t.sp.hi) (.slice SA sn sc) (.slice SB sm sd));have L6:=iQ (L4.out.kept (Qe b6 b5));have H6:=iQ (H4.out.kept (Qe b6 b5)).below;have HSL:=iQ (And.intro s5.fl s5.pl);clear b5 b6 s5 i1 i2 L4 H4;go_upto_region 12 with fail
 generalize hw6:w5.alloc (.cells #[.int .i64 t.sp.hi,.slice SA sn sc,.slice SB sm sd] 45)=w6 at *;generalize w5.heap.size=g13 at *;clear hw6;go_wp2_with fail;go_loopw [14] (fun i wk=>∃ j:Nat,(j=0\/j<n4)/\i = .int .i64 ((j+1:Nat):Int)/\Hid (Below w6.heap.size w6 wk)) (fun i _=>n4+1 - (RowKit.intOf i).toNat)
 case atStart=>exact ⟨0,Or.inl rfl,rfl,iQ (Below.refl _ _)⟩
 case round =>
  obtain ⟨j,hj,rfl,BK⟩:=hrel;by_cases hlt:j+1<n4
  ·obtain ⟨b,off,z1,rfl,hv1,c1⟩:=(L6.out.kept BK.out).iA (k:=j+1) hlt
   obtain ⟨b',off',z0,e0,hv0,c0⟩:=(L6.out.kept BK.out).iA (k:=j) (by omega);injection e0 with e0
   injection e0 with e1 e2 e3
   subst e1 e2;have hzz:=qZ9 (HP.out.nodup_iff.2 TR.out.acc.once) HR.out hv0 hv1;have hz2:¬ z1<=z0:=by omega
   have hn1000:n4<=5000:=by
    have h1:=(TR.out.small UA.out).1;have h2:=HP.out.length_eq;have h3:=HN4.out;omega
   clear hv0 hv1 hzz e3;go_wp2_with fail;go_quiet (fail)
   go_wp2_with fail;go_roundw;case rel=>exact ⟨j+1,Or.inr (by omega),by go_num,iQ (Ya BK.out _)⟩
   case measure=>simp [RowKit.intOf];omega
  ·have hsum:(n4:Int)+(sn:Int)+(sm:Int)=t.sp.hi - 2:=by
    have h1:=TR.out.acc.all;have h2:=HP.out.length_eq;have h3:=HN4.out;have h4:=HSL.out;omega
   have hbd:0<=t.sp.hi/\t.sp.hi<=1000:=by
    have h1:=TR.out.bounds HZ.out;omega
   have hw1:wrap64 ((n4:Int)+(sn:Int))=(n4:Int)+(sn:Int):=IntWalk.wrap64_in _ (by omega);have hw2:wrap64 ((n4:Int)+(sn:Int)+(sm:Int))=(n4:Int)+(sn:Int)+(sm:Int):=IntWalk.wrap64_in _ (by omega);have hw3:wrap64 (t.sp.hi - 2)=t.sp.hi - 2:=IntWalk.wrap64_in _ (by omega);have heq:((n4:Int)+(sn:Int)+(sm:Int)==t.sp.hi - 2)=true:=beq_iff_eq.2 hsum;obtain ⟨x0,x1,x2⟩:=(HX.out.kept BK.out).cells;have HB:=iQ (H6.out.trans (BK.out.mono H6.out.size));clear hsum hbd;go_wp2_with fail;go_ret;exact ⟨rfl,HB.out⟩
set_option maxRecDepth 20000 in
set_option maxHeartbeats 1600000 in
theorem walk (z:Int) (_ : -9223372036854775808<=z) (_:z<=9223372036854775807) (A:Option Addr) (n c:Nat) (l:List Uk) (hl:l.length=n) {W:World} (hs:Xq W W.heap.size A l) (hn:n<=maxLen) :
 Calls Tryz.prog 5 #[.int .i64 z,.slice A n c] W fun e W'=>e = .returned (.bool true)/\Below W.heap.size W W':=by
 by_cases h1:z<1
 ·clear hs hl
  go_enter Tryz.func5,Tryz.ntmps5;go_wp2_with fail;refine (Zv _).mono ?_;rintro e w1 ⟨rfl,b1⟩;have B1:=iQ b1;clear b1;go_wp2_with fail;go_ret;exact ⟨rfl,B1.out⟩
 by_cases h2:10<z
 ·clear hs hl
  go_enter Tryz.func5,Tryz.ntmps5;go_wp2_with fail;refine (Zv _).mono ?_;rintro e w1 ⟨rfl,b1⟩;have B1:=iQ b1;clear b1;go_wp2_with fail;go_ret;exact ⟨rfl,B1.out⟩
 obtain ⟨fr,rfl⟩:∃ fr:Nat,z=(fr:Int):=⟨z.toNat,by omega⟩;exact good fr (by omega) (by omega) A n c l hl hs hn
set_option maxRecDepth 100000 in
theorem lifted (os:Os) (started:os.Started) (H:Type) (enc:TypeId×Value->H) :
 ReturnsInHanded {} Tryz.checked os 5 .any (Rows.scanChecksSpec.pre6 enc Tryz.prog Tryz.f5 Rows.scanChecksRow.domain false)
  (Rows.scanChecksSpec.post enc Tryz.prog Tryz.f5 false true false false):=by
 refine Hz (C:=Tryz.checked) (tb:=4) Ho started (by kernel_rfl) Tryz.func5
  (ChangeSpec.witness6 (enc:=enc) (C:=Tryz.checked) false ⟨#[],#[.int .i64 0,.slice none 0 0],[]⟩ 8 (by kernel_rfl) (by kernel_rfl) (by kernel_rfl) (by kernel_rfl))
  XY ?_ rfl rfl Tryz.underlying4 ?_ ?_
 ·intro t ht
  rw [Tryz.params5] at ht;simp only [List.mem_cons,List.not_mem_nil,or_false] at ht;rcases ht with rfl | rfl<;>exact ⟨by kernel_rfl,of_decide_eq_true (by kernel_rfl)⟩
 ·intro vs ds W p hA
  rw [Tryz.params5] at hA;obtain ⟨v0,vs0,d0,ds0,p0,q0,ha,rfl,rfl,h0,r0⟩:=trodAll_cons hA;obtain ⟨v1,vs1,d1,ds1,p1,q1,rfl,rfl,rfl,h1,r1⟩:=trodAll_cons r0;obtain ⟨rfl,rfl,rfl⟩:=trodAll_nil r1;rfl
 ·intro W base args ds p hval hA
  rw [Tryz.params5] at hA hval;obtain ⟨v0,vs0,d0,ds0,p0,q0,ha,rfl,rfl,h0,r0⟩:=trodAll_cons hA;obtain ⟨v1,vs1,d1,ds1,p1,q1,rfl,rfl,rfl,h1,r1⟩:=trodAll_cons r0;obtain ⟨rfl,rfl,rfl⟩:=trodAll_nil r1;obtain rfl:args=#[v0,v1]:=by cases args;simp_all
  obtain ⟨i0,rfl,lo0,hi0⟩:=Hr (hval 0 _ v0 rfl rfl) h0;obtain ⟨A1,n1,c1,xs1,rfl,e1,hr1,y1⟩:=Hq (hval 1 _ v1 rfl rfl) h1;exact walk i0 lo0 hi0 A1 n1 c1 xs1 e1 hr1 y1
theorem proved:Rows.ScanChecksSaid :=
 OpenClaim.holds_of_wide 5 Tryz.f5 rfl rfl rfl rfl rfl rfl rfl ⟨rfl,rfl,rfl,rfl,rfl⟩ rfl rfl rfl rfl rfl (by kernel_rfl) Tryz.func5 (by kernel_rfl)
  (of_decide_eq_true (by kernel_rfl)) (by unfold Func.isWrapper;first | (rw [if_pos (by decide +kernel)];kernel_rfl) | (rw [if_neg (by decide +kernel)];exact ⟨rfl,rfl⟩))
  (fun os started H enc _=>lifted os started H enc)
#print axioms proved
