/-
  ScanRanges answers true, for every number of frames, every script, every two texts and every number: any range of a tree is that of entries in order. Conditions: none.
-/
import Derived.Test.YtfiflinbicbedaaGreatRows
import Derived.Test.YtfiflinbicbedaaGreatZR20
import Derived.Test.YtfiflinbicbedaaGreatZR11
import Derived.Test.YtfiflinbicbedaaGreatZR24
import Derived.Test.YtfiflinbicbedaaGreatZR23
import Derived.Test.YtfiflinbicbedaaGreatZR9
namespace Go.Proofs.YtfiflinbicbedaaGreat.scanRanges
open Go.ChangeShapes Go.WideShapes Go.ChangeAt Go.RowKit Go.Maps
set_option maxRecDepth 20000 in
set_option maxHeartbeats 6400000 in
theorem good (fr:Nat) (f1:1<=fr) (f2:fr<=10) (A:Option Addr) (n c:Nat) (l:List Uk) (hl:l.length=n) {W:World} (hs:Xq W W.heap.size A l) (hn:n<=maxLen) (lo hi:ByteArray) (q1:¬ 200<lo.size) (q2:¬ 200<hi.size) (most:Int) (hm:most<=9223372036854775807) :
 Calls Tryz.prog 4 #[.int .i64 ((fr:Nat):Int),.slice A n c,.string lo,.string hi,.int .i64 most] W fun e W'=>e = .returned (.bool true)/\Below W.heap.size W W':=by
 have HG:=iQ (fun (w:World) (hW:Below W.heap.size W w)=>QQ w hW fr f1 f2 A n c l hl hs hn);have g1:¬ ((fr:Nat):Int)<1:=by omega
 have g2:¬ (10:Int)<((fr:Nat):Int):=by omega
 have g3:¬ (200:Int)<((lo.size:Nat):Int):=by omega
 have g4:¬ (200:Int)<((hi.size:Nat):Int):=by omega
 clear hs hl hn q1 q2;go_enter Tryz.func4,Tryz.ntmps4;go_wp2_with fail;refine (Zv _).mono ?_;rintro e w1 ⟨rfl,b1⟩;have HGR:=iQ (HG.out w1 b1);clear b1 HG;go_wp2_with fail;refine HGR.out.mono ?_;rintro e w2 ⟨nd,tb,pb,db,g,F,t,es,L,rfl,h2,hz,hep,hle⟩;have TR:=iQ h2.tr;have H2:=iQ h2.tree;have M2:=iQ h2.map;have UA:=iQ hle;clear h2 hz hep hle HGR g1 g2;have hsm:=TR.out.small UA.out;have C1:=iQ (Ju w2 lo hi most hm H2.out TR.out hsm.1 hsm.2);clear hsm;go_wp2_with fail;refine C1.out.mono ?_;rintro e w3 ⟨F3,A3,n3,c3,rfl,h3,m3,hn3,l3,_⟩;have H3:=iQ h3;have M3:=iQ (M2.out.mo m3);have L3:=iQ l3;have HN3:=iQ hn3;clear C1 h3 m3 l3 H2 M2 hn3;have C2:=iQ (qx7 w3 H3.out TR.out UA.out);go_wp2_with fail;refine C2.out.mono ?_;rintro e w4 ⟨F4,A4,n4,c4,rfl,h4,m4,hn4,l4,_⟩;have H4:=iQ h4;have M4:=iQ (M3.out.mo m4);have L4:=iQ l4;have L34:=iQ (L3.out.mo (by omega) m4);have HN4:=iQ hn4;clear C2 h4 m4 l4 H3 M3 L3 hn4;have C3:=iQ (qr2 w4 lo hi most M4.out (by have:=UA.out;omega));go_wp2_with fail;refine C3.out.mono ?_;rintro e w5 ⟨A5,n5,c5,rfl,o5,b5⟩;have H5:=iQ (H4.out.kept b5);have M5:=iQ (M4.out.kept b5);have L45:=iQ (L4.out.kept b5);obtain ⟨A6,c6,e6,_,l6⟩:=Ln.oo o5;injection e6 with e7 e8 e9
 rw [<- e7,<- e8,<- e9] at l6;have C4:=iQ (Ux A3 A5 n3 c3 n5 c5 _ w5 (L34.out.kept b5).ln l6 (by
  have h1:=HN3.out;have h2:=UA.out;have h3:((es.filter (fun e=>Qh e.1 lo.toList hi.toList)).take most.toNat).length<=(es.filter (fun e=>Qh e.1 lo.toList hi.toList)).length:=List.length_take_le' _ _;have h4:=List.length_filter_le (fun e:TT.E=>Qh e.1 lo.toList hi.toList) es;omega))
 clear C3 o5 b5 l6 e7 e8 e9 H4 M4 L4 L34;go_wp2_with fail;refine C4.out.mono ?_;rintro e w6 ⟨rfl,b6⟩;have H6:=iQ (H5.out.kept b6);have L46:=iQ (L45.out.kept b6);obtain ⟨MA,mn,mc,hmi⟩:=M5.out.kept b6;have hbx:=hmi.box.cell;have C5:=iQ (Ux A4 MA n4 c4 mn mc _ w6 L46.out.ln hmi.ln.ln (by
  have h1:=HN4.out;have h2:=UA.out;omega))
 clear C4 b6 hmi M5 H5 L45;go_wp2_with fail;refine C5.out.mono ?_;rintro e w7 ⟨rfl,b7⟩;have H7:=iQ (H6.out.kept b7).below;clear b7 C5 hbx;go_wp2_with fail;go_ret;exact ⟨rfl,H7.out⟩
set_option maxRecDepth 20000 in
set_option maxHeartbeats 1600000 in
theorem walk (z:Int) (_ : -9223372036854775808<=z) (_:z<=9223372036854775807) (A:Option Addr) (n c:Nat) (l:List Uk) (hl:l.length=n) {W:World} (hs:Xq W W.heap.size A l) (hn:n<=maxLen) (lo hi:ByteArray) (most:Int) (_ : -9223372036854775808<=most) (hm:most<=9223372036854775807) :
 Calls Tryz.prog 4 #[.int .i64 z,.slice A n c,.string lo,.string hi,.int .i64 most] W fun e W'=>e = .returned (.bool true)/\Below W.heap.size W W':=by
 by_cases h1:z<1
 ·clear hs hl
  go_enter Tryz.func4,Tryz.ntmps4;go_wp2_with fail;refine (Zv _).mono ?_;rintro e w1 ⟨rfl,b1⟩;have B1:=iQ b1;clear b1;go_wp2_with fail;go_ret;exact ⟨rfl,B1.out⟩
 by_cases h2:10<z
 ·clear hs hl
  go_enter Tryz.func4,Tryz.ntmps4;go_wp2_with fail;refine (Zv _).mono ?_;rintro e w1 ⟨rfl,b1⟩;have B1:=iQ b1;clear b1;go_wp2_with fail;go_ret;exact ⟨rfl,B1.out⟩
 by_cases h3:200<lo.size
 ·have h3:(200:Int)<((lo.size:Nat):Int):=by omega
  clear hs hl;go_enter Tryz.func4,Tryz.ntmps4;go_wp2_with fail;refine (Zv _).mono ?_;rintro e w1 ⟨rfl,b1⟩;have B1:=iQ b1;clear b1;go_wp2_with fail;go_ret;exact ⟨rfl,B1.out⟩
 by_cases h4:200<hi.size
 ·have h3:¬ (200:Int)<((lo.size:Nat):Int):=by omega
  have h4:(200:Int)<((hi.size:Nat):Int):=by omega
  clear hs hl;go_enter Tryz.func4,Tryz.ntmps4;go_wp2_with fail;refine (Zv _).mono ?_;rintro e w1 ⟨rfl,b1⟩;have B1:=iQ b1;clear b1;go_wp2_with fail;go_ret;exact ⟨rfl,B1.out⟩
 obtain ⟨fr,rfl⟩:∃ fr:Nat,z=(fr:Int):=⟨z.toNat,by omega⟩;exact good fr (by omega) (by omega) A n c l hl hs hn lo hi h3 h4 most hm
set_option maxRecDepth 100000 in
theorem lifted (os:Os) (started:os.Started) (H:Type) (enc:TypeId×Value->H) :
 ReturnsInHanded {} Tryz.checked os 4 .any (Rows.scanRangesSpec.pre6 enc Tryz.prog Tryz.f4 Rows.scanRangesRow.domain false)
  (Rows.scanRangesSpec.post enc Tryz.prog Tryz.f4 false true false false):=by
 refine Hz (C:=Tryz.checked) (tb:=4) Ho started (by kernel_rfl) Tryz.func4
  (ChangeSpec.witness6 (enc:=enc) (C:=Tryz.checked) false ⟨#[],#[.int .i64 0,.slice none 0 0,.string ⟨#[]⟩,.string ⟨#[]⟩,.int .i64 0],[]⟩ 8 (by kernel_rfl) (by kernel_rfl) (by kernel_rfl) (by kernel_rfl))
  XY ?_ rfl rfl Tryz.underlying4 ?_ ?_
 ·intro t ht
  rw [Tryz.params4] at ht;simp only [List.mem_cons,List.not_mem_nil,or_false] at ht;rcases ht with rfl | rfl | rfl | rfl | rfl<;>exact ⟨by kernel_rfl,of_decide_eq_true (by kernel_rfl)⟩
 ·intro vs ds W p hA
  rw [Tryz.params4] at hA;obtain ⟨v0,vs0,d0,ds0,p0,q0,ha,rfl,rfl,h0,r0⟩:=trodAll_cons hA;obtain ⟨v1,vs1,d1,ds1,p1,q1,rfl,rfl,rfl,h1,r1⟩:=trodAll_cons r0;obtain ⟨v2,vs2,d2,ds2,p2,q2,rfl,rfl,rfl,h2,r2⟩:=trodAll_cons r1;obtain ⟨v3,vs3,d3,ds3,p3,q3,rfl,rfl,rfl,h3,r3⟩:=trodAll_cons r2;obtain ⟨v4,vs4,d4,ds4,p4,q4,rfl,rfl,rfl,h4,r4⟩:=trodAll_cons r3;obtain ⟨rfl,rfl,rfl⟩:=trodAll_nil r4;rfl
 ·intro W base args ds p hval hA
  rw [Tryz.params4] at hA hval;obtain ⟨v0,vs0,d0,ds0,p0,q0,ha,rfl,rfl,h0,r0⟩:=trodAll_cons hA;obtain ⟨v1,vs1,d1,ds1,p1,q1,rfl,rfl,rfl,h1,r1⟩:=trodAll_cons r0;obtain ⟨v2,vs2,d2,ds2,p2,q2,rfl,rfl,rfl,h2,r2⟩:=trodAll_cons r1;obtain ⟨v3,vs3,d3,ds3,p3,q3,rfl,rfl,rfl,h3,r3⟩:=trodAll_cons r2;obtain ⟨v4,vs4,d4,ds4,p4,q4,rfl,rfl,rfl,h4,r4⟩:=trodAll_cons r3;obtain ⟨rfl,rfl,rfl⟩:=trodAll_nil r4;obtain rfl:args=#[v0,v1,v2,v3,v4]:=by cases args;simp_all
  obtain ⟨i0,rfl,lo0,hi0⟩:=Hr (hval 0 _ v0 rfl rfl) h0;obtain ⟨A1,n1,c1,xs1,rfl,e1,hr1,y1⟩:=Hq (hval 1 _ v1 rfl rfl) h1;obtain ⟨t2,rfl⟩:=JD (hval 2 _ v2 rfl rfl) h2;obtain ⟨t3,rfl⟩:=JD (hval 3 _ v3 rfl rfl) h3;obtain ⟨i4,rfl,lo4,hi4⟩:=Hr (hval 4 _ v4 rfl rfl) h4;exact walk i0 lo0 hi0 A1 n1 c1 xs1 e1 hr1 y1 t2 t3 i4 lo4 hi4
theorem proved:Rows.ScanRangesSaid :=
 OpenClaim.holds_of_wide 4 Tryz.f4 rfl rfl rfl rfl rfl rfl rfl ⟨rfl,rfl,rfl,rfl,rfl⟩ rfl rfl rfl rfl rfl (by kernel_rfl) Tryz.func4 (by kernel_rfl)
  (of_decide_eq_true (by kernel_rfl)) (by unfold Func.isWrapper;first | (rw [if_pos (by decide +kernel)];kernel_rfl) | (rw [if_neg (by decide +kernel)];exact ⟨rfl,rfl⟩))
  (fun os started H enc _=>lifted os started H enc)
#print axioms proved
