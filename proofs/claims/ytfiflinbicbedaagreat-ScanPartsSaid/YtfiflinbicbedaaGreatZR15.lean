/-
  A part of the proof. Conditions: none.
-/
import Derived.Test.YtfiflinbicbedaaGreatZR14

set_option maxRecDepth 20000
set_option maxHeartbeats 12800000
namespace Go.Proofs.YtfiflinbicbedaaGreat
section
open Go.RowKit Go.Maps
section
variable {W w w':World} {G F F':Nat->Prop} {tb mb pb db:Nat} {t t':TS}
theorem Zo (w:World) (g:Nat) (a b c d e f:Value) (h:w.heap[g]?=some (.cells #[a,b,c,d,e,f] 173 (0,0))):w.cell? ⟨g,0,none⟩=some a/\w.cell? ⟨g,1,none⟩=some b/\w.cell? ⟨g,2,none⟩=some c/\w.cell? ⟨g,3,none⟩=some d/\w.cell? ⟨g,4,none⟩=some e/\w.cell? ⟨g,5,none⟩=some f :=
 ⟨(cell_of_row w g 0 _ _ _ h).trans rfl,(cell_of_row w g 1 _ _ _ h).trans rfl,(cell_of_row w g 2 _ _ _ h).trans rfl,(cell_of_row w g 3 _ _ _ h).trans rfl,(cell_of_row w g 4 _ _ _ h).trans rfl,(cell_of_row w g 5 _ _ _ h).trans rfl⟩
theorem AB (w:World) (cs:Array Value) (ty:TypeId):∀ j u,cs.toList[j]?=some u->(w.alloc (.cells cs ty)).cell? ((⟨w.heap.size,0,none⟩:Addr).add j)=some u:=fun j u hu=>by
 rw [Zn,we6];exact (cell_of_row _ w.heap.size j _ _ _ (heap_alloc_new w _)).trans (by simpa using hu)
theorem qH6 (w:World) (key:ByteArray) (hi:TS.wayIn t.nd key.toList t.z t.ht t.rt) (hh:t.ht<=1000) (h:Ql W F w tb pb db t) :
 Calls Tryz.prog 93 #[.pointer (some ⟨tb,0,none⟩),.string key] w (zg2 W F w tb pb db (t.way key.toList) t):=by
 obtain ⟨ii,hii,hz0,hz1,hz2⟩:=info_parts qL6;have H:=iQ h;obtain ⟨G,mb,TA,tn,tc,TB,tm,td,ff,ht⟩:=h;obtain ⟨c0,c1,c2,c3,c4,c5,c6,c7,c8,c9⟩:=ht.box.cells;clear ht c0 c3 c4 c5 c6 c7 c8 c9;go_enter Tryz.func93,Tryz.ntmps93;by_cases h0:t.ht=0
 ·have hb:(((t.ht:Nat):Int)==0)=true:=by simp [h0]
  have HD:Hid (zg2 W F w tb pb db (t.way key.toList) t (.returned (.tuple #[.slice (some ⟨w.heap.size,0,none⟩) 1 1,.int .i64 0])) (w.alloc (.cells #[.int .i64 0,.bool true,.slice none 0 0,.slice none 0 0,.slice none 0 0,.int .i64 0] 173))):=iQ (by
   have e:t.way key.toList=some [⟨0,TS.empty,0⟩]:=if_pos h0;have hb:=Qa w (.cells #[.int .i64 0,.bool true,.slice none 0 0,.slice none 0 0,.slice none 0 0,.int .i64 0] 173);rw [e];refine ⟨_,_,_,[⟨⟨0,⟨none,0,0,none,0,0,none,0,0,TS.empty⟩⟩,0⟩],F,rfl,⟨GG H.out.lt _ _ 6 1 rfl,fun x hx=>?_⟩,rfl,H.out.kept hb,Qb.ob hb,fun ad e=>(by obtain rfl:=wa0 e;exact wa2 _),fun x hx=>(by rw [wa4.1 hx];exact ⟨Yp.none_ _,Yp.none_ _,Yp.none_ _⟩)⟩;rw [wa4.1 hx];exact ⟨Xv.none_ _ _ _,Xv.none_ _ _ _,Xv.none_ _ _ _⟩)
  clear h0 hi hh;go_wp2_with fail;refine bodyPost_ret (v := .tuple #[.slice (some ⟨w.heap.size,0,none⟩) 1 1,.int .i64 0]) (by simp [results,Tryz.results93,go_sem]) rfl ?_;exact HD.out
 ·have hb:(((t.ht:Nat):Int)==0)=false:=by simpa using h0
  have HO:Hid (t.way key.toList=TS.wayL t.nd key.toList t.ht t.rt):=iQ (if_neg h0);obtain ⟨o,ho⟩:∃ o,t.way key.toList=o:=⟨_,rfl⟩;rw [ho];rw [ho] at HO;clear ho;obtain ⟨H0,hH0⟩:∃ H0,t.ht=H0:=⟨_,rfl⟩;rw [hH0] at hb c2 hi hh HO;obtain ⟨P0,hP0⟩:∃ P0,t.rt=P0:=⟨_,rfl⟩;rw [hP0] at c1 hi HO;have S0:Hid (zg0 W F w tb pb db t key.toList o H0 P0 (.slice none 0 0) w):=iQ ⟨F,[],H.out,⟨Qj.refl _ _,fun _ hk=>Or.inl hk⟩,⟨World.ownsRow_nil _ _ _ _,fun g e=>(by cases e),fun x hx=>(by cases hx)⟩,by simpa using hh,hi,by
   rw [HO.out];cases TS.wayL t.nd key.toList H0 P0<;>rfl⟩
  clear hH0 hP0 h0 HO;go_wp2_with fail;go_loopw [6,7,8] (fun v sp sh wr=>∃ (k:Nat) (p:Int),k<=H0/\sp = .int .i64 p/\sh = .int .i64 (k:Int)/\Hid (zg0 W F w tb pb db t key.toList o k p v wr)) (fun _ _ sh _=>(RowKit.intOf sh).toNat)
  case atStart=>exact ⟨H0,P0,wa2 _,rfl,rfl,S0⟩
  case round =>
   obtain ⟨k,p,hk,rfl,rfl,hrel⟩:=hrel;obtain ⟨Fk,ss,hT,hM,hS,hlen,hin,hR⟩:=hrel.out;have HT:=iQ hT;have HM:=iQ hM;have HS:=iQ hS;have HIN:=iQ hin;have HR:=iQ hR;clear hT hM hS hin hR hrel;rcases k with _ | k
   ·obtain ⟨A5,c5,e5,l5,k5⟩:=HS.out.at_
    subst e5;have HD:Hid (zg2 W F w tb pb db o t (.returned (.tuple #[.slice A5 ss.length c5,.int .i64 0])) wr):=iQ (by
     have e:o=some (ss.map SV.st):=by rw [HR.out];unfold TS.wayL;simp
     rw [e];exact ⟨_,_,_,ss,Fk,rfl,l5,rfl,HT.out,HM.out,k5,fun x hx=>(HS.out.ok x hx).2⟩)
    clear l5 k5;go_wp2_with fail;refine bodyPost_ret (v := .tuple #[.slice A5 ss.length c5,.int .i64 0]) (by simp [results,Tryz.results93,go_sem]) rfl ?_;exact HD.out
   ·obtain ⟨p0,p1,HIN2⟩:=HIN.out
    have HI2:=iQ HIN2;have hk1:(0:Int)<((k+1:Nat):Int):=(by omega);clear HIN2 HIN;obtain ⟨lf,hlf⟩:∃ lf:Bool,decide (k=0)=lf:=⟨_,rfl⟩;have hb1:((k:Int)+1==1)=lf:=by
     rw [<- hlf];by_cases hk0:k=0
     ·simp [hk0]
     ·have:¬ (k:Int)+1=1:=by omega
      simp [hk0];omega
    have FL:=iQ (fun wx Fx (hx:Ql W Fx wx tb pb db t)=>ZM wx p lf p0 p1 hx);have HLF:=iQ hlf;clear hlf;go_wp2_with fail;refine (FL.out wr Fk HT.out).mono ?_;rintro e1 w1 ⟨x,F1,rfl,hx,hxl,hxh,h1',m1⟩;obtain ⟨xp,⟨xA,xn,xc,xB,xm,xd,xC,xk,xe,xs⟩⟩:=x;have HX:=iQ hx;have HXL:=iQ hxl;have HXO:=iQ (hx.butHi hxh (o:=u6.ownBlock) (fun g e=>(HS.out.own.lt g e).2));have HXH:Hid (NV.hi ⟨xA,xn,xc,xB,xm,xd,xC,xk,xe,xs⟩ w.heap.size):=iQ (hxh.low HM.out.kept.size);have H1:=iQ h1';have M1:=iQ (HM.out.trans m1);have S1:=iQ (HS.out.mo m1);clear hx hxl hxh h1' m1 HT HM HS FL;unfold LV.val;dsimp only;obtain ⟨xl,hxl⟩:∃ xl,xs.leaf=xl:=⟨_,rfl⟩;rw [hxl];have XLF:=iQ hxl;clear hxl;have b2:=Qa w1 (.cells #[.int .i64 xp,.bool xl,.slice xA xn xc,.slice xB xm xd,.slice xC xk xe] 171);have LB:=iQ (Xw w1 (.int .i64 xp) (.bool xl) (.slice xA xn xc) (.slice xB xm xd) (.slice xC xk xe));have BW:=iQ b2;have hsz:w1.heap.size<(w1.alloc (.cells #[.int .i64 xp,.bool xl,.slice xA xn xc,.slice xB xm xd,.slice xC xk xe] 171)).heap.size:=(by simp);clear b2;go_upto_region 9 with fail
    generalize w1.alloc (.cells #[.int .i64 xp,.bool xl,.slice xA xn xc,.slice xB xm xd,.slice xC xk xe] 171)=w2 at *;cases hd:TS.nodeAt t.nd p lf with
    | none =>
      have he:Vx t p lf=121:=by unfold Vx;rw [hd];rfl
      rw [he];have HD:Hid (zg2 W F w tb pb db o t (.returned (.tuple #[.slice none 0 0,.int .i64 121])) w2):=iQ (by
       have e:o=none:=by
        rw [HR.out];rcases k with _ | k
        ·rw [TS.wayL_end,show TS.nodeAt t.nd p true=none by rw [<- hd,<- HLF.out];rfl]
         rfl
        ·rw [TS.wayL_step,show TS.nodeAt t.nd p false=none by rw [<- hd,<- HLF.out];rfl]
         rfl
       rw [e];exact ⟨_,_,_,[],F1,rfl,⟨Xv.none_ _ _ _,fun x hx=>(by cases hx)⟩,rfl,H1.out.kept BW.out,M1.out.trans (Qb.ob BW.out),Yp.none_ _,fun x hx=>(by cases hx)⟩)
      clear he hd;go_wp2_with fail;refine bodyPost_ret (v := .tuple #[.slice none 0 0,.int .i64 121]) (by simp [results,Tryz.results93,go_sem]) rfl ?_;exact HD.out
    | some n =>
      have he:Vx t p lf=0:=by unfold Vx;rw [hd];rfl
      have hl:Uw t p lf=(p,n):=by unfold Uw;rw [hd]
      rw [he];rw [hl] at HXL;obtain ⟨rfl,rfl⟩:xp=p/\xs=n:=by
       have h:=HXL.out;unfold LV.at_ at h;exact ⟨congrArg Prod.fst h,congrArg Prod.snd h⟩
      obtain ⟨hnd,Gy⟩:=Yg hd;obtain ⟨nok,nsz⟩:=H1.out.nodeOk p0 p1 hnd;have NOK:=iQ nok;have HND:=iQ hd;have kn:xn<=1000/\xk<=1000:=by
       have a:=HX.out.nd.kn;have b:=HX.out.nd.cn;dsimp only at a b;unfold ND.size ND.tsz at nsz;omega
      obtain ⟨kn1,kn2⟩:=kn;obtain ⟨y0,y1,y2,y3,y4⟩:=LB.out.cells;obtain rfl:xl=lf:=(by rw [<- XLF.out,Gy]);clear hl he hnd nok nsz hd;have b3:=Qa w2 (.cells #[.int .i64 xp,.bool xl,.slice xA xn xc,.slice xB xm xd,.slice xC xk xe,.int .i64 0] 173);have SB:=iQ (Zo _ w2.heap.size _ _ _ _ _ _ (heap_alloc_new w2 (.cells #[.int .i64 xp,.bool xl,.slice xA xn xc,.slice xB xm xd,.slice xC xk xe,.int .i64 0] 173)));have BW3:=iQ (BW.out.trans (b3.mono (Nat.le_of_lt hsz)));have LB3:=iQ (LB.out.kept b3);have RW3:=iQ (heap_alloc_new w2 (.cells #[.int .i64 xp,.bool xl,.slice xA xn xc,.slice xB xm xd,.slice xC xk xe,.int .i64 0] 173));have hsz3:w2.heap.size<(w2.alloc (.cells #[.int .i64 xp,.bool xl,.slice xA xn xc,.slice xB xm xd,.slice xC xk xe,.int .i64 0] 173)).heap.size:=(by simp);have TY:=iQ H.out.below.size;clear b3 BW LB SB;rcases k with _ | k
      ·obtain rfl:xl=true:=HLF.out.symm
       go_upto_region 12 with fail
       generalize w2.alloc (.cells #[.int .i64 xp,.bool true,.slice xA xn xc,.slice xB xm xd,.slice xC xk xe,.int .i64 0] 173)=w3 at *;obtain ⟨z0,z1,z2,z3,z4,z5⟩:=Zo _ _ _ _ _ _ _ _ RW3.out;have o3:=(S1.out.kept BW3.out).own;have hm1:=M1.out.kept.size;have hs3:=BW3.out.size;go_wp2_with (at_builtin;refine wpList_append_own_at _ rfl (.tmp 60) (.tmp 62) 167 rfl w.heap.size 173 ii _ 6 96 Tryz.underlying167 hii hz0 hz1 hz2 rfl (by decide) _ _ _ rfl (o3.alloc _) ⟨w3.heap.size,0,none⟩ 1 1 [.int .i64 xp,.bool true,.slice xA xn xc,.slice xB xm xd,.slice xC xk xe,.int .i64 0] rfl rfl (AB w3 #[.int .i64 xp,.bool true,.slice xA xn xc,.slice xB xm xd,.slice xC xk xe,.int .i64 0] _) (by simp [Value.oneCell']) (by unfold maxLen;omega) (by omega) (by simp;omega) ?_;intro v4 w4 hown4 hg4 _ qS6);have b4:=Qa w3 (.cells #[.int .i64 xp,.bool true,.slice xA xn xc,.slice xB xm xd,.slice xC xk xe,.int .i64 0] 173);obtain ⟨q1,q2,q3⟩:=Ve.push_in (p:=xp) (kid:=0) H1.out M1.out S1.out HXO.out HXH.out TY.out (BW3.out.trans (b4.mono hs3)) hown4 (by simp [SV.cells,LV.cells,NV.cells,XLF.out]) hg4 qS6;have hrel:Hid (zg0 W F w tb pb db t key.toList o 0 xp v4 w4):=iQ ⟨F1,_,q1,q2,q3,by simp;omega,trivial,by
        rw [HR.out,TS.wayL_end,HND.out];simp [TS.wayL,SV.st]⟩
       clear q1 q2 q3 b4 hown4 hg4 qS6 o3;go_roundw;case rel=>exact ⟨0,xp,by omega,rfl,rfl,hrel⟩
       case measure=>simp [RowKit.intOf]
      ·obtain rfl:xl=false:=by rw [<- HLF.out];simp
       have hd3:(1:Int)<(k:Int)+1+1:=(by omega);go_upto_region 12 with fail
       generalize w2.alloc (.cells #[.int .i64 xp,.bool false,.slice xA xn xc,.slice xB xm xd,.slice xC xk xe,.int .i64 0] 173)=w3 at *;obtain ⟨y0,y1,y2,y3,y4⟩:=LB3.out.cells;obtain ⟨z0,z1,z2,z3,z4,z5⟩:=Zo _ _ _ _ _ _ _ _ RW3.out;have KI:=iQ (zb8 false xA xn xc xB xm xd xC xk xe xs key w3 (HX.out.kept BW3.out).nd (ND.ok_rise NOK.out) (by omega));have hkl:ND.kidN key.toList xs.keys<xk:=by
        have a:=(HX.out.nd).kn;have b:=(HX.out.nd).cn;have c:=ND.kidN_le key.toList xs.keys;have d:=(ND.ok_inner NOK.out Gy).2.1;dsimp only at a b;omega
       obtain ⟨kp,hkp⟩:∃ kp,ND.kidN key.toList xs.keys=kp:=⟨_,rfl⟩;rw [hkp] at KI hkl;have HKP:=iQ hkp;clear hkp;go_wp2_with fail;refine KI.out.mono ?_;rintro e4 w4 ⟨rfl,b4⟩;have BW4:=BW3.out.trans (b4.mono BW3.out.size);have LB4:=LB3.out.kept b4;have RW4:=(b4.block w2.heap.size hsz3).trans RW3.out;have hb2:w1.heap.size<=w2.heap.size:=Nat.le_of_lt hsz;have BW5:Hid (Below w1.heap.size w1 (w4.setCell ⟨w2.heap.size,5,none⟩ (.int .i64 ((kp:Nat):Int)))):=iQ (BW4.setCell hb2 _);have RW5:=iQ (Joins.block_setCell (i:=5) RW4 (.int .i64 ((kp:Nat):Int)));have LB5:Hid (Xy (w4.setCell ⟨w2.heap.size,5,none⟩ (.int .i64 ((kp:Nat):Int))) w1.heap.size (.int .i64 xp) (.bool false) (.slice xA xn xc) (.slice xB xm xd) (.slice xC xk xe)):=iQ ((Below.heap_setCell _ _ _ _ (by show w1.heap.size≠w2.heap.size;omega)).trans LB4);clear LB3 RW3 BW3 y0 y1 y2 y3 y4 z0 z1 z2 z3 z4 KI BW4 LB4 b4 hsz3;obtain ⟨z0',z1',z2',z3',z4',z5'⟩:=Zo _ _ _ _ _ _ _ _ RW4;have fr5:=frozen_of_row w4 w2.heap.size 5 _ _ RW4;go_upto_region 14 with fail
       generalize w4.setCell ⟨w2.heap.size,5,none⟩ (.int .i64 ((kp:Nat):Int))=w5 at *;obtain ⟨z0,z1,z2,z3,z4,z5⟩:=Zo _ _ _ _ _ _ _ _ RW5.out;obtain ⟨y0,y1,y2,y3,y4⟩:=LB5.out.cells;obtain ⟨kb,ko,kv,rfl,hkv,kc⟩:=Ln.iA ((HX.out.kept BW5.out).nd).ki hkl;have HKV:=iQ hkv;have o5:=(S1.out.kept BW5.out).own;have hm1:=M1.out.kept.size;have hs5:=BW5.out.size;clear hkv;go_wp2_with (at_builtin;refine wpList_append_own_at _ rfl (.tmp 60) (.tmp 62) 167 rfl w.heap.size 173 ii _ 6 96 Tryz.underlying167 hii hz0 hz1 hz2 rfl (by decide) _ _ _ rfl (o5.alloc _) ⟨w5.heap.size,0,none⟩ 1 1 [.int .i64 xp,.bool false,.slice xA xn xc,.slice xB xm xd,.slice (some ⟨kb,ko,none⟩) xk xe,.int .i64 ((kp:Nat):Int)] rfl rfl (AB w5 #[.int .i64 xp,.bool false,.slice xA xn xc,.slice xB xm xd,.slice (some ⟨kb,ko,none⟩) xk xe,.int .i64 ((kp:Nat):Int)] _) (by simp [Value.oneCell']) (by unfold maxLen;omega) (by omega) (by simp;omega) ?_;intro v6 w6 hown6 hg6 _ hat6);have b6:=Qa w5 (.cells #[.int .i64 xp,.bool false,.slice xA xn xc,.slice xB xm xd,.slice (some ⟨kb,ko,none⟩) xk xe,.int .i64 ((kp:Nat):Int)] 173);obtain ⟨q1,q2,q3⟩:=Ve.push_in (p:=xp) (kid:=kp) H1.out M1.out S1.out HXO.out HXH.out TY.out (BW5.out.trans (b6.mono hs5)) hown6 (by simp [SV.cells,LV.cells,NV.cells,XLF.out]) hg6 hat6;have hrel:Hid (zg0 W F w tb pb db t key.toList o (k+1) kv v6 w6):=iQ (by
        have e:xs.kids.getD kp 0=kv:=by rw [wa7,HKV.out];rfl
        have hin:=HI2.out (by omega) _ HND.out;rw [HKP.out,e] at hin;refine ⟨F1,_,q1,q2,q3,by simp;omega,hin,?_⟩;rw [HR.out,TS.wayL_step,HND.out];show Option.map _ (Option.map _ (TS.wayL t.nd key.toList (k+1) (xs.kids.getD (ND.kidN key.toList xs.keys) 0)))=_;rw [HKP.out,e];cases TS.wayL t.nd key.toList (k+1) kv<;>simp [SV.st])
       clear q1 q2 q3 b6 hown6 hg6 hat6 o5;go_roundw;case rel=>exact ⟨k+1,kv,by omega,rfl,by go_num,hrel⟩
       case measure=>simp [RowKit.intOf];omega
end
namespace TS
theorem wayL_ok {nd:Int->Option ND} {key:List UInt8} {z:Nat} (P:Int->ND->Prop) (hP:∀ (p:Int) (n:ND),0<=p->p<z->nd p=some n->P p n):∀ (h:Nat) (p:Int) (l:List St),wayIn nd key z (h+1) p->wayL nd key (h+1) p=some l->(∀ s∈l,P s.pg s.nd)/\l.length=h+1/\∃ s,l.getLast?=some s/\s.nd.leaf=true
 | 0,p,l,hi,hl=>by
   rw [wayL_end] at hl;obtain ⟨p0,p1,_⟩:=hi;cases hn:nodeAt nd p true with
   | none=>rw [hn] at hl;cases hl
   | some n =>
     rw [hn] at hl;obtain rfl:=wa0 hl;obtain ⟨h1,h2⟩:=Yg hn;refine ⟨fun s hs=>?_,rfl,_,rfl,h2⟩;rw [wa4.1 hs];exact hP p n p0 p1 h1
 | h+1,p,l,hi,hl=>by
   rw [wayL_step] at hl;obtain ⟨p0,p1,hi⟩:=hi;cases hn:nodeAt nd p false with
   | none=>rw [hn] at hl;cases hl
   | some n =>
     rw [hn] at hl;obtain ⟨h1,h2⟩:=Yg hn;cases hr:wayL nd key (h+1) (n.kids.getD (ND.kidN key n.keys) 0) with
     | none=>rw [wg6,hr] at hl;cases hl
     | some r =>
       rw [wg6,hr] at hl;obtain rfl:=wa0 hl;obtain ⟨i1,i2,s,i3,i4⟩:=wayL_ok P hP h _ r (hi (by omega) n hn) hr;refine ⟨fun s hs=>?_,by rw [wb4,i2],s,?_,i4⟩
       ·rcases wb6.1 hs with rfl | hs
        ·exact hP p n p0 p1 h1
        ·exact i1 s hs
       ·rw [List.getLast?_cons,i3]
        rfl
def StOk (z:Nat) (s:St):Prop:=s.nd.ok=true/\s.nd.size<=1000/\0<=s.pg/\s.pg<=z
end TS
section
variable {W w w':World} {G F F':Nat->Prop} {tb mb pb db:Nat} {t t':TS}
theorem Ql.wayOk {key:List UInt8} {l:List TS.St} (h:Ql W F w tb pb db t) (hi:TS.wayIn t.nd key t.z t.ht t.rt) (hl:t.way key=some l):(∀ s∈l,TS.StOk t.z s)/\l.length=max t.ht 1/\∃ s,l.getLast?=some s/\s.nd.leaf=true/\TS.last l=s.nd:=by
 unfold TS.way at hl;split at hl
 ·rename_i h0
  obtain rfl:=wa0 hl;refine ⟨fun s hs=>?_,by rw [h0];rfl,_,rfl,rfl,rfl⟩;rw [wa4.1 hs];exact ⟨by decide,by decide,by decide,by simp⟩
 ·rename_i h0
  obtain ⟨k,hk⟩:∃ k,t.ht=k+1:=⟨t.ht - 1,by omega⟩;rw [hk] at hi hl ⊢;obtain ⟨h1,h2,s,h3,h4⟩:=TS.wayL_ok (fun p n=>n.ok=true/\n.size<=1000/\0<=p/\p<=t.z) (fun p n p0 p1 hn=>⟨(h.nodeOk p0 p1 hn).1,(h.nodeOk p0 p1 hn).2,p0,by omega⟩) k _ l hi hl;exact ⟨h1,by omega,s,h3,h4,by unfold TS.last;rw [h3];rfl⟩
theorem Gq (w:World) (h:Ql W F w tb pb db t) :
 Calls Tryz.prog 54 #[.pointer (some ⟨tb,0,none⟩)] w fun e w'=>e = .returned (.int .i64 t.lost)/\w=w':=by
 obtain ⟨G,mb,A,n,c,B,m,d,f,h⟩:=h;exact qh2 w h.box
end
def UBx (w:World) (g:Nat) (a b c d e:Value):Prop:=w.heap[g]?=some (.cells #[a,b,c,d,e] 53 (0,0))
theorem UBx.lt {w:World} {g:Nat} {a b c d e:Value} (h:UBx w g a b c d e):g<w.heap.size:=(wa1.1 h).1
theorem UBx.kept {w w':World} {g:Nat} {a b c d e:Value} (h:UBx w g a b c d e) (hb:Below w.heap.size w w'):UBx w' g a b c d e:=(hb.block g h.lt).trans h
theorem UBx.cells {w:World} {g:Nat} {a b c d e:Value} (h:UBx w g a b c d e):w.cell? ⟨g,0,none⟩=some a/\w.cell? ⟨g,1,none⟩=some b/\w.cell? ⟨g,2,none⟩=some c/\w.cell? ⟨g,3,none⟩=some d/\w.cell? ⟨g,4,none⟩=some e :=
 ⟨(cell_of_row w g 0 _ _ _ h).trans rfl,(cell_of_row w g 1 _ _ _ h).trans rfl,(cell_of_row w g 2 _ _ _ h).trans rfl,(cell_of_row w g 3 _ _ _ h).trans rfl,(cell_of_row w g 4 _ _ _ h).trans rfl⟩
theorem UBx.free {w:World} {g:Nat} {a b c d e:Value} (h:UBx w g a b c d e) (j:Nat):w.frozen? ⟨g,j,none⟩=false:=frozen_of_row w g j _ _ h
theorem qa7 (w:World) (a b c d e:Value):UBx (w.alloc (.cells #[a,b,c,d,e] 53)) w.heap.size a b c d e:=heap_alloc_new w _
theorem UBx.put {w:World} {g:Nat} {a b c d e:Value} (h:UBx w g a b c d e) (a' b' c' d' e':Value):UBx (((((w.setCell ⟨g,0,none⟩ a').setCell ⟨g,1,none⟩ b').setCell ⟨g,2,none⟩ c').setCell ⟨g,3,none⟩ d').setCell ⟨g,4,none⟩ e') g a' b' c' d' e':=by
 have e1:=Joins.block_setCell (i:=0) h a';have e2:=Joins.block_setCell (i:=1) e1 b';have e3:=Joins.block_setCell (i:=2) e2 c';have e4:=Joins.block_setCell (i:=3) e3 d';have e5:=Joins.block_setCell (i:=4) e4 e';exact e5
theorem qu5 {B:Nat} {a w:World} {r:Nat} (h:Below B a w) (hr:B<=r) (x y z p q:Value):Below B a (((((w.setCell ⟨r,0,none⟩ x).setCell ⟨r,1,none⟩ y).setCell ⟨r,2,none⟩ z).setCell ⟨r,3,none⟩ p).setCell ⟨r,4,none⟩ q):=((((h.setCell hr _).setCell hr _).setCell hr _).setCell hr _).setCell hr _
def atV (t:TS):Value := .agg #[.int .i64 t.ep,.int .i64 t.rt,.int .i64 ((t.ht:Nat):Int),.slice none 0 0,.int .i64 t.ct]
section
variable {W w w':World} {G F F':Nat->Prop} {tb mb pb db:Nat} {A B:Option Addr} {n c m d:Nat} {f:Int->List UInt8} {t t':TS}
theorem zm8 (w:World) (h:Gi w tb mb pb A n c B m d t) :
 Calls Tryz.prog 20 #[.pointer (some ⟨tb,0,none⟩)] w fun e w'=>e = .returned (atV t)/\Below w.heap.size w w':=by
 have b0:=Qa w (.cells #[.int .i64 0,.int .i64 0,.int .i64 0,.slice none 0 0,.int .i64 0] 53);have HR:=iQ (qa7 w (.int .i64 0) (.int .i64 0) (.int .i64 0) (.slice none 0 0) (.int .i64 0));have B0:=iQ b0;have hcell:∀ wx,Below w.heap.size w wx->wx.cell? ⟨tb,0,none⟩=some (.pointer (some ⟨pb,0,none⟩))/\wx.cell? ⟨tb,1,none⟩=some (.int .i64 t.rt)/\wx.cell? ⟨tb,2,none⟩=some (.int .i64 ((t.ht:Nat):Int))/\wx.cell? ⟨tb,3,none⟩=some (.int .i64 t.ct)/\wx.cell? ⟨tb,7,none⟩=some (.int .i64 t.ep):=fun wx b=>by
  have hs:=(b.block tb h.lt).trans h.str;exact ⟨(cell_of_row wx tb 0 _ _ _ hs).trans rfl,(cell_of_row wx tb 1 _ _ _ hs).trans rfl,(cell_of_row wx tb 2 _ _ _ hs).trans rfl,(cell_of_row wx tb 3 _ _ _ hs).trans rfl,(cell_of_row wx tb 7 _ _ _ hs).trans rfl⟩
 have HC:=iQ hcell;clear b0 h hcell;unfold atV;go_enter Tryz.func20,Tryz.ntmps20;go_upto_region 1 with fail
 generalize w.alloc (.cells #[.int .i64 0,.int .i64 0,.int .i64 0,.slice none 0 0,.int .i64 0] 53)=w0 at *;go_wp2_with fail;refine (JM w0 tb pb (HC.out w0 B0.out).1).mono ?_;rintro e wx ⟨rfl,hwx⟩;subst hwx;go_upto_region 3 with fail
 have BD:=iQ ((Below.refl w0.heap.size w0).drew);obtain ⟨c0,c1,c2,c3,c7⟩:=HC.out w0.drew (B0.out.drew);obtain ⟨x0,x1,x2,x3,x4⟩:=(HR.out.kept BD.out).cells;have g0:=(HR.out.kept BD.out).free 0;have g1:=(HR.out.kept BD.out).free 1;have g2:=(HR.out.kept BD.out).free 2;have g3:=(HR.out.kept BD.out).free 3;have g4:=(HR.out.kept BD.out).free 4;obtain ⟨u0,u1,u2,u3,u4⟩:=HR.out.cells;have v0:=HR.out.free 0;have v1:=HR.out.free 1;have v2:=HR.out.free 2;have v3:=HR.out.free 3;have v4:=HR.out.free 4;have HX:=iQ ((HR.out.put (.int .i64 t.ep) (.int .i64 t.rt) (.int .i64 ((t.ht:Nat):Int)) (.slice none 0 0) (.int .i64 t.ct)).kept ((Below.refl _ _).drew)).cells;have HBX:=iQ ((qu5 B0.out (wa2 w.heap.size) (.int .i64 t.ep) (.int .i64 t.rt) (.int .i64 ((t.ht:Nat):Int)) (.slice none 0 0) (.int .i64 t.ct)).drew);go_region
 all_goals (
  go_wp2_with fail;obtain ⟨z0,z1,z2,z3,z4⟩:=HX.out;refine bodyPost_ret (v := .agg #[.int .i64 t.ep,.int .i64 t.rt,.int .i64 ((t.ht:Nat):Int),.slice none 0 0,.int .i64 t.ct]) (by simp [results,Tryz.results20,go_sem,z0,z1,z2,z3,z4]) rfl ?_;exact ⟨rfl,HBX.out⟩)
theorem qo7 (w:World) (h:Gi w tb mb pb A n c B m d t) :
 Calls Tryz.prog 18 #[.pointer (some ⟨tb,0,none⟩)] w (qm5 w t.sp):=by
 have b0:=Qa w (.cells #[.int .i64 0,.slice none 0 0,.slice none 0 0] 45);have HR:=iQ (Yi w (.int .i64 0) (.slice none 0 0) (.slice none 0 0));have B0:=iQ b0;have hcell:∀ wx,Below w.heap.size w wx->wx.cell? ⟨tb,0,none⟩=some (.pointer (some ⟨pb,0,none⟩))/\wx.cell? ⟨tb,4,none⟩=some (.int .i64 t.sp.hi)/\wx.cell? ⟨tb,5,none⟩=some (.slice A n c)/\wx.cell? ⟨tb,6,none⟩=some (.slice B m d):=fun wx b=>by
  have hs:=(b.block tb h.lt).trans h.str;exact ⟨(cell_of_row wx tb 0 _ _ _ hs).trans rfl,(cell_of_row wx tb 4 _ _ _ hs).trans rfl,(cell_of_row wx tb 5 _ _ _ hs).trans rfl,(cell_of_row wx tb 6 _ _ _ hs).trans rfl⟩
 have HC:=iQ hcell;have HS:=iQ (h.sp.kept b0);have hf:=h.fit.few;have hn:n<=4096:=by rw [<- h.sp.fl];exact hf.1
 have hm:m<=4096:=by rw [<- h.sp.pl];exact hf.2.1
 clear b0 h hcell hf;go_enter Tryz.func18,Tryz.ntmps18;go_upto_region 1 with fail
 generalize w.alloc (.cells #[.int .i64 0,.slice none 0 0,.slice none 0 0] 45)=w0 at *;go_wp2_with fail;refine (JM w0 tb pb (HC.out w0 B0.out).1).mono ?_;rintro e wx ⟨rfl,hwx⟩;subst hwx;obtain ⟨c0,c4,c5,c6⟩:=HC.out w0 B0.out;go_wp2_with fail;refine (KG t.sp.hi A n c B m d t.sp w0 rfl HS.out (by omega) (by omega)).mono ?_;rintro e w1 ⟨v1,rfl,⟨A1,n1,k1,B1,m1,d1,rfl,s1,i1,j1⟩,b1⟩;have HBX:=iQ (Qe b1 B0.out);have hbx:=HR.out.kept b1;obtain ⟨x0,x1,x2⟩:=hbx.cells;obtain ⟨g0,g1,g2⟩:=hbx.free;have HE:=iQ (hbx.put (.int .i64 t.sp.hi) (.slice A1 n1 k1) (.slice B1 m1 d1)).cells;have hl:=HR.out.lt;have HD:Hid (qm5 w t.sp (.returned (.agg #[.int .i64 t.sp.hi,.slice A1 n1 k1,.slice B1 m1 d1])) (((w1.setCell ⟨w.heap.size,0,none⟩ (.int .i64 t.sp.hi)).setCell ⟨w.heap.size,1,none⟩ (.slice A1 n1 k1)).setCell ⟨w.heap.size,2,none⟩ (.slice B1 m1 d1))):=iQ
  ⟨_,rfl,⟨A1,n1,k1,B1,m1,d1,rfl,qp3 s1 (fun _ ad e=>by have:=i1 ad e;omega) (fun _ ad e=>by have:=j1 ad e;omega) _ _ _,Hi.low i1 B0.out.size,Hi.low j1 B0.out.size⟩,Jf HBX.out (wa2 _) _ _ _⟩
 clear hbx c0 c4 c5 c6 s1 i1 j1 b1 hl;go_wp2_with fail;obtain ⟨z0,z1,z2⟩:=HE.out;refine bodyPost_ret (v := .agg #[.int .i64 t.sp.hi,.slice A1 n1 k1,.slice B1 m1 d1]) (by simp [results,Tryz.results18,go_sem,z0,z1,z2]) rfl ?_;exact HD.out
theorem qo9 (w:World) (p:Int) (h0:0<=p) (h1:p<t.z) (hl:t.lost=0) (h:Ql W F w tb pb db t) :
 Calls Tryz.prog 102 #[.pointer (some ⟨tb,0,none⟩),.int .i64 p] w (qz4 W F w tb pb db (Uu t p) (Jz t p) (t.told (Jz t p))):=by
 have b0:=Qa w (.cells #[.bool false,.slice none 0 0,.slice none 0 0,.slice none 0 0] 75);have H:=iQ (h.kept b0);have B0:=iQ b0;have HR:=iQ (Qp w (.bool false) (.slice none 0 0) (.slice none 0 0) (.slice none 0 0));have NF:Hid (¬ F w.heap.size):=iQ (h.new (wa2 _));have HW:=iQ h.below.size;clear h b0;obtain ⟨er,her⟩:∃ er,Jz t p=er:=⟨_,rfl⟩;obtain ⟨sr,hsr⟩:∃ sr,Uu t p=sr:=⟨_,rfl⟩;rw [her,hsr];go_enter Tryz.func102,Tryz.ntmps102;go_upto_region 1 with fail
 generalize w.alloc (.cells #[.bool false,.slice none 0 0,.slice none 0 0,.slice none 0 0] 75)=w0 at *;go_wp2_with fail;refine (Gq w0 H.out).mono ?_;rintro e wx ⟨rfl,hwx⟩;subst hwx;rw [hl];have RD:=iQ (TF w0 p h0 h1 H.out);rw [her,hsr] at RD;clear hl her hsr;go_wp2_with fail;refine RD.out.mono ?_;rintro e w1 ⟨x,F1,rfl,xok,xs,xhi,h1',m1⟩;obtain ⟨xA,xn,xc,xB,xm,xd,xC,xk,xe,xss⟩:=x;have b2:=Qa w1 (.cells #[.bool xss.leaf,.slice xA xn xc,.slice xB xm xd,.slice xC xk xe] 75);have HN2:=iQ (Qp w1 (.bool xss.leaf) (.slice xA xn xc) (.slice xB xm xd) (.slice xC xk xe));have H2:=iQ (h1'.kept b2);have M2:=iQ (((Qb.ob B0.out).trans m1).trans (Qb.ob (F:=F1) b2));have JK:=iQ (xok.kept b2);have HXS:=iQ xs;have HXH:=iQ (xhi.low B0.out.size);have HR2:=iQ ((HR.out.mo m1 NF.out).kept b2);have NF2:=iQ (m1.not HR.out.lt NF.out);have NFN:=iQ (h1'.new (wa2 w1.heap.size));have MF:Hid (w1.heap.size≠w.heap.size):=iQ (Nat.ne_of_gt (HR.out.mo m1 NF.out).lt);clear b2 h1' m1 xok xs xhi RD H HR NF;unfold NV.val;dsimp only;go_upto_region 5 with fail
 generalize hw2:w1.alloc (.cells #[.bool xss.leaf,.slice xA xn xc,.slice xB xm xd,.slice xC xk xe] 75)=w2 at *;clear hw2;have BD:=iQ ((Below.refl w2.heap.size w2).drew);have K0:=(HN2.out.kept BD.out).cells;go_region_held3 (fun w'=>w'.cell? ⟨w1.heap.size,0,none⟩=some (.bool xss.leaf)/\w'.cell? ⟨w1.heap.size,1,none⟩=some (.slice xA xn xc)/\w'.cell? ⟨w1.heap.size,2,none⟩=some (.slice xB xm xd)/\w'.cell? ⟨w1.heap.size,3,none⟩=some (.slice xC xk xe))
  (first | with_reducible exact K0 | with_reducible exact K3 | with_reducible exact K9 _ _ _ _)
  (first
    | (go_at_call 59;refine (JR _ er (H2.out.kept BD.out)).mono ?_;rintro e3 w3 ⟨rfl,F3,h3,m3⟩;have M3:=iQ ((Qb.ob (F:=F1) BD.out).trans m3);have hn3:=HN2.out.mo M3.out NFN.out;have hr3:=HR2.out.mo M3.out NF2.out;have K3:=hn3.cells;have K9:=fun a b' c' d':Value=>Qs.cells (hn3.but (Yq.put w3 w.heap.size a b' c' d') MF.out);obtain ⟨x0,x1,x2,x3⟩:=hr3.cells;obtain ⟨g0,g1,g2,g3⟩:=hr3.free;have H3:=iQ h3;have HR3:=iQ hr3;clear hn3 hr3 h3 m3)
    | fail)
 all_goals (
  have HP:=JP (x:=⟨xA,xn,xc,xB,xm,xd,xC,xk,xe,xss⟩) (s:=sr) (er:=er) H3.out (M2.out.trans M3.out) HW.out (wa2 _) (M3.out.not HR2.out.lt NF2.out) HR3.out (JK.out.mo M3.out) HXS.out HXH.out rfl;have YT:=iQ HP.1;have HE:=iQ HP.2.cells;clear HP;go_wp2_with fail;obtain ⟨z0,z1,z2,z3⟩:=HE.out;refine bodyPost_ret (v := .tuple #[.agg #[.bool xss.leaf,.slice xA xn xc,.slice xB xm xd,.slice xC xk xe],.int .i64 er]) (by simp [results,Tryz.results102,go_sem,z0,z1,z2,z3]) rfl ?_;exact YT.out)
end
section
variable {W w w':World} {F F':Nat->Prop} {tb pb db:Nat} {t t':TS}
theorem TC (w:World) (h:Ql W F w tb pb db t):Calls Tryz.prog 20 #[.pointer (some ⟨tb,0,none⟩)] w fun e w'=>e = .returned (atV t)/\Below w.heap.size w w':=by
 obtain ⟨G,mb,A,n,c,B,m,d,f,h⟩:=h;exact zm8 w h.box
theorem KY (w:World) (h:Ql W F w tb pb db t):Calls Tryz.prog 18 #[.pointer (some ⟨tb,0,none⟩)] w (qm5 w t.sp):=by
 obtain ⟨G,mb,A,n,c,B,m,d,f,h⟩:=h;exact qo7 w h.box
theorem UBx.mo {g:Nat} {a b c d e:Value} (h:UBx w g a b c d e) (m:Qb w F w' F') (hF:¬ F g):UBx w' g a b c d e:=(m.kept.block g h.lt hF).trans h
end
section
variable {W w w':World} {G F F':Nat->Prop} {tb mb pb db:Nat} {t t':TS}
structure JB (w:World) (q:Nat) (u:SV) (l:LV) (x:NV) (a b c d:Value):Prop where
 st:w.heap[q]?=some (.cells #[.int .i64 u.l.pg,.bool u.l.x.s.leaf,.slice u.l.x.A u.l.x.n u.l.x.c,.slice u.l.x.B u.l.x.m u.l.x.d,.slice u.l.x.C u.l.x.k u.l.x.e,.int .i64 ((u.kid:Nat):Int)] 173 (0,0))
 la:Xy w (q+1) (.int .i64 l.pg) (.bool l.x.s.leaf) (.slice l.x.A l.x.n l.x.c) (.slice l.x.B l.x.m l.x.d) (.slice l.x.C l.x.k l.x.e)
 no:Qs w (q+1+1) (.bool x.s.leaf) (.slice x.A x.n x.c) (.slice x.B x.m x.d) (.slice x.C x.k x.e)
 an:Qs w (q+1+1+1) a b c d
theorem JB.lt {q:Nat} {u:SV} {l:LV} {x:NV} {a b c d:Value} (h:JB w q u l x a b c d):q+1+1+1<w.heap.size:=h.an.lt
theorem JB.kept {q:Nat} {u:SV} {l:LV} {x:NV} {a b c d:Value} (h:JB w q u l x a b c d) (hb:Below w.heap.size w w'):JB w' q u l x a b c d :=
 ⟨(hb.block q (by have:=h.lt;omega)).trans h.st,h.la.kept hb,h.no.kept hb,h.an.kept hb⟩
theorem JB.mo {q:Nat} {u:SV} {l:LV} {x:NV} {a b c d:Value} (h:JB w q u l x a b c d) (m:Qb w F w' F') (hF:∀ k,q<=k->¬ F k):JB w' q u l x a b c d :=
 ⟨(m.kept.block q (by have:=h.lt;omega) (hF q (wa2 _))).trans h.st,h.la.mo m (hF _ (by omega)),h.no.mo m (hF _ (by omega)),h.an.mo m (hF _ (by omega))⟩
theorem qW2 (w:World) (x:SV):(w.alloc (.cells #[.int .i64 x.l.pg,.bool x.l.x.s.leaf,.slice x.l.x.A x.l.x.n x.l.x.c,.slice x.l.x.B x.l.x.m x.l.x.d,.slice x.l.x.C x.l.x.k x.l.x.e,.int .i64 ((x.kid:Nat):Int)] 173)).heap[w.heap.size]?=some (.cells #[.int .i64 x.l.pg,.bool x.l.x.s.leaf,.slice x.l.x.A x.l.x.n x.l.x.c,.slice x.l.x.B x.l.x.m x.l.x.d,.slice x.l.x.C x.l.x.k x.l.x.e,.int .i64 ((x.kid:Nat):Int)] 173 (0,0)):=heap_alloc_new w _
theorem qr7 (w:World) (u:SV) (l:LV) (x:NV) (w0:World) (h0:w0=(((w.alloc (.cells #[.int .i64 u.l.pg,.bool u.l.x.s.leaf,.slice u.l.x.A u.l.x.n u.l.x.c,.slice u.l.x.B u.l.x.m u.l.x.d,.slice u.l.x.C u.l.x.k u.l.x.e,.int .i64 ((u.kid:Nat):Int)] 173)).alloc (.cells #[.int .i64 l.pg,.bool l.x.s.leaf,.slice l.x.A l.x.n l.x.c,.slice l.x.B l.x.m l.x.d,.slice l.x.C l.x.k l.x.e] 171)).alloc (.cells #[.bool x.s.leaf,.slice x.A x.n x.c,.slice x.B x.m x.d,.slice x.C x.k x.e] 75)).alloc (.cells #[.bool false,.slice none 0 0,.slice none 0 0,.slice none 0 0] 75)) :
 JB w0 w.heap.size u l x (.bool false) (.slice none 0 0) (.slice none 0 0) (.slice none 0 0)/\Below w.heap.size w w0/\w0.heap.size=w.heap.size+4:=by
 subst h0;have b1:=Qa w (.cells #[.int .i64 u.l.pg,.bool u.l.x.s.leaf,.slice u.l.x.A u.l.x.n u.l.x.c,.slice u.l.x.B u.l.x.m u.l.x.d,.slice u.l.x.C u.l.x.k u.l.x.e,.int .i64 ((u.kid:Nat):Int)] 173);have s1:=qW2 w u;generalize h1:w.alloc (.cells #[.int .i64 u.l.pg,.bool u.l.x.s.leaf,.slice u.l.x.A u.l.x.n u.l.x.c,.slice u.l.x.B u.l.x.m u.l.x.d,.slice u.l.x.C u.l.x.k u.l.x.e,.int .i64 ((u.kid:Nat):Int)] 173)=w1 at *;have z1:w1.heap.size=w.heap.size+1:=by rw [<- h1];simp
 have b2:=Qa w1 (.cells #[.int .i64 l.pg,.bool l.x.s.leaf,.slice l.x.A l.x.n l.x.c,.slice l.x.B l.x.m l.x.d,.slice l.x.C l.x.k l.x.e] 171);have s2:=Xw w1 (.int .i64 l.pg) (.bool l.x.s.leaf) (.slice l.x.A l.x.n l.x.c) (.slice l.x.B l.x.m l.x.d) (.slice l.x.C l.x.k l.x.e);generalize h2:w1.alloc (.cells #[.int .i64 l.pg,.bool l.x.s.leaf,.slice l.x.A l.x.n l.x.c,.slice l.x.B l.x.m l.x.d,.slice l.x.C l.x.k l.x.e] 171)=w2 at *;have z2:w2.heap.size=w.heap.size+2:=by rw [<- h2];simp;omega
 have b3:=Qa w2 (.cells #[.bool x.s.leaf,.slice x.A x.n x.c,.slice x.B x.m x.d,.slice x.C x.k x.e] 75);have s3:=Qp w2 (.bool x.s.leaf) (.slice x.A x.n x.c) (.slice x.B x.m x.d) (.slice x.C x.k x.e);generalize h3:w2.alloc (.cells #[.bool x.s.leaf,.slice x.A x.n x.c,.slice x.B x.m x.d,.slice x.C x.k x.e] 75)=w3 at *;have z3:w3.heap.size=w.heap.size+3:=by rw [<- h3];simp;omega
 have b4:=Qa w3 (.cells #[.bool false,.slice none 0 0,.slice none 0 0,.slice none 0 0] 75);have s4:=Qp w3 (.bool false) (.slice none 0 0) (.slice none 0 0) (.slice none 0 0);rw [z1] at s2;rw [z2] at s3;rw [z3] at s4;refine ⟨⟨(b4.block _ (by omega)).trans ((b3.block _ (by omega)).trans ((b2.block _ (by omega)).trans s1)),(s2.kept b3).kept b4,s3.kept b4,s4⟩,b1.trans ((b2.trans ((b3.trans (b4.mono (by omega))).mono (by omega))).mono (by omega)),by simp;omega⟩
def UH (W:World) (F:Nat->Prop) (w:World) (tb pb db:Nat) (l:LV) (fr:Nat) (old:List (Int×ND)) (s:ND) (t:TS) (e:Ending) (w':World):Prop :=
 ∃ A c l1 l2 x F',e = .returned (.tuple #[.int .i64 ((fr:Nat):Int),.slice A 2 c,NV.val x,.int .i64 0])/\ZZ w' F' A 2 c [l1,l2]/\[l1.at_,l2.at_]=old/\x.ok w' F'/\x.s=s/\Ql W F' w' tb pb db t/\Qb w F w' F'/\(l1=l\/l1.x.hi w.heap.size)/\(l2=l\/l2.x.hi w.heap.size)/\x.hi w.heap.size/\Yp w.heap.size A
def zg9 (W:World) (F:Nat->Prop) (w0:World) (tb pb db:Nat) (l:Int×ND) (t:TS) (s s':Value) (wx:World):Prop :=
 ∃ g x F',s = .pointer (some ⟨g,0,none⟩)/\s' = .int .i64 0/\Xy wx g (.int .i64 (LV.pg x)) (.bool x.x.s.leaf) (.slice x.x.A x.x.n x.x.c) (.slice x.x.B x.x.m x.x.d) (.slice x.x.C x.x.k x.x.e)/\x.x.ok wx F'/\x.at_=l/\x.x.hi w0.heap.size/\Ql W F' wx tb pb db t/\Qb w0 F wx F'
theorem qj7 {w0 w1:World} {l:Int×ND} {x:LV} (h:Ql W F' w1 tb pb db t) (hm:Qb w0 F w1 F') (hx:x.x.ok w1 F') (hs:x.at_=l) (hh:x.x.hi w0.heap.size) :
 zg9 W F w0 tb pb db l t (.pointer (some ⟨w1.heap.size,0,none⟩)) (.int .i64 0) (w1.alloc (.cells #[.int .i64 x.pg,.bool x.x.s.leaf,.slice x.x.A x.x.n x.x.c,.slice x.x.B x.x.m x.x.d,.slice x.x.C x.x.k x.x.e] 171)):=by
 have b:=Qa w1 (.cells #[.int .i64 x.pg,.bool x.x.s.leaf,.slice x.x.A x.x.n x.x.c,.slice x.x.B x.x.m x.x.d,.slice x.x.C x.x.k x.x.e] 171);exact ⟨_,x,F',rfl,rfl,Xw w1 _ _ _ _ _,hx.kept b,hs,hh,h.kept b,hm.trans (Qb.ob b)⟩
theorem qj6 {w0 w1:World} {r:Nat} {l:Int×ND} {x:LV} (h:Ql W F' w1 tb pb db t) (hm:Qb w0 F w1 F') (hx:x.x.ok w1 F') (hs:x.at_=l) (hh:x.x.hi (r+1)) (hW:W.heap.size<=w0.heap.size) (hr:w0.heap.size<=r) (hF:¬ F' r) (hb:Xy w1 r (.int .i64 0) (.bool false) (.slice none 0 0) (.slice none 0 0) (.slice none 0 0)) :
 zg9 W F w0 tb pb db l t (.pointer (some ⟨r,0,none⟩)) (.int .i64 0) (((((w1.setCell ⟨r,0,none⟩ (.int .i64 x.pg)).setCell ⟨r,1,none⟩ (.bool x.x.s.leaf)).setCell ⟨r,2,none⟩ (.slice x.x.A x.x.n x.x.c)).setCell ⟨r,3,none⟩ (.slice x.x.B x.x.m x.x.d)).setCell ⟨r,4,none⟩ (.slice x.x.C x.x.k x.x.e)):=by
 have hg:=Gv w1 r (.int .i64 x.pg) (.bool x.x.s.leaf) (.slice x.x.A x.x.n x.x.c) (.slice x.x.B x.x.m x.x.d) (.slice x.x.C x.x.k x.x.e);refine ⟨_,x,F',rfl,rfl,hb.put _ _ _ _ _,hx.grown hh (Nat.lt_succ_self r) hg,hs,hh.low (wa9 hr (wd3 r)),h.grown hg (fun g e=>?_),hm.grown hg (fun g e=>?_)⟩
 ·obtain rfl:=wa0 e
  exact ⟨hF,wa9 hW hr⟩
 ·obtain rfl:=wa0 e
  exact hr
theorem qQ9 {r n sz:Nat} {cs:Array Value} {ty:TypeId} (h:w.heap[r]?=some (.cells cs ty (0,0))) (hs:cs.size=n*sz):Ln w sz (some ⟨r,0,none⟩) n n cs.toList:=by
 refine ⟨by simpa using hs,wa2 _,fun e=>(by cases e),fun ad e j u hu=>?_⟩;obtain rfl:=wa0 e;rw [Zn,we6];exact (cell_of_row _ r j _ _ _ h).trans (by simpa using hu)
theorem QG {wc wf:World} {q fr r:Nat} {l l1 l2:LV} {old:List (Int×ND)} {x:NV} {s:ND} (hT:Ql W F' wc tb pb db t) (hM:Qb w F wc F') (hg:wc.grownBy wf (some (q+1+1+1))) (hw:w.heap.size<=q) (hW:W.heap.size<=w.heap.size) (hF:¬ F' (q+1+1+1))
 (row:wf.heap[r]?=some (.cells #[.int .i64 l1.pg,.bool l1.x.s.leaf,.slice l1.x.A l1.x.n l1.x.c,.slice l1.x.B l1.x.m l1.x.d,.slice l1.x.C l1.x.k l1.x.e,.int .i64 l2.pg,.bool l2.x.s.leaf,.slice l2.x.A l2.x.n l2.x.c,.slice l2.x.B l2.x.m l2.x.d,.slice l2.x.C l2.x.k l2.x.e] 171 (0,0))) (hr:¬ F' r)
 (o1:l1.x.ok wf F') (o2:l2.x.ok wf F') (hold:[l1.at_,l2.at_]=old) (ox:x.ok wf F') (hx:x.s=s) (k1:l1=l\/l1.x.hi w.heap.size) (k2:l2=l\/l2.x.hi w.heap.size) (k3:x.hi w.heap.size) (k4:w.heap.size<=r) :
 UH W F w tb pb db l fr old s t (.returned (.tuple #[.int .i64 ((fr:Nat):Int),.slice (some ⟨r,0,none⟩) 2 2,NV.val x,.int .i64 0])) wf:=by
 refine ⟨_,_,l1,l2,x,F',rfl,⟨⟨qQ9 row rfl,fun _ ad e=>?_⟩,fun y hy=>?_⟩,hold,ox,hx,hT.grown hg (fun g e=>?_),hM.grown hg (fun g e=>?_),k1,k2,k3,fun ad e=>by
  obtain rfl:=wa0 e;exact k4⟩
 ·obtain rfl:=wa0 e
  exact hr
 ·rcases wb6.1 hy with rfl | hy
  ·exact o1
  ·rw [wa4.1 hy]
   exact o2
 ·obtain rfl:=wa0 e
  exact ⟨hF,by omega⟩
 ·obtain rfl:=wa0 e
  omega
theorem Qv {row:Option Nat} (hb:Below w.heap.size w w'):w.grownBy w' row:=⟨hb.os,hb.tape,hb.output,hb.size,fun k hk _=>hb.block k hk⟩
theorem Zk (w:World) (r:Nat) (x y z p:Value):w.grownBy ((((w.setCell ⟨r,0,none⟩ x).setCell ⟨r,1,none⟩ y).setCell ⟨r,2,none⟩ z).setCell ⟨r,3,none⟩ p) (some r) :=
 Qu (Qu (Qu (Qu (World.grownBy.refl w (some r)) 0 x) 1 y) 2 z) 3 p
theorem qf4 (w:World) (u:SV) (l:LV) (x:NV) (v:ND) (hu:u.l.x.ok w F) (hl:l.x.ok w F) (hx:x.ok w F) (hus:u.l.x.s.size<=1000) (hlt:u.kid<u.l.x.s.keys.length) (hck:u.l.x.s.kids.length=u.l.x.s.keys.length+1) (hxs:x.s.size<=100000)
 (h0:0<=u.l.x.s.kids.getD (u.kid+1) 0) (h1:u.l.x.s.kids.getD (u.kid+1) 0<t.z) (hv:TS.nodeAt t.nd (u.l.x.s.kids.getD (u.kid+1) 0) x.s.leaf=some v) (h:Ql W F w tb pb db t) :
 Calls Tryz.prog 137 #[.pointer (some ⟨tb,0,none⟩),u.val,l.val,x.val] w (UH W F w tb pb db l u.kid [l.at_,(u.l.x.s.kids.getD (u.kid+1) 0,v)] (x.s.join (u.l.x.s.keys.getD u.kid []) v) t):=by
 obtain ⟨w0,hw0⟩:∃ w0,w0=(((w.alloc (.cells #[.int .i64 u.l.pg,.bool u.l.x.s.leaf,.slice u.l.x.A u.l.x.n u.l.x.c,.slice u.l.x.B u.l.x.m u.l.x.d,.slice u.l.x.C u.l.x.k u.l.x.e,.int .i64 ((u.kid:Nat):Int)] 173)).alloc (.cells #[.int .i64 l.pg,.bool l.x.s.leaf,.slice l.x.A l.x.n l.x.c,.slice l.x.B l.x.m l.x.d,.slice l.x.C l.x.k l.x.e] 171)).alloc (.cells #[.bool x.s.leaf,.slice x.A x.n x.c,.slice x.B x.m x.d,.slice x.C x.k x.e] 75)).alloc (.cells #[.bool false,.slice none 0 0,.slice none 0 0,.slice none 0 0] 75):=⟨_,rfl⟩;obtain ⟨jb,b0,z0⟩:=qr7 w u l x w0 hw0;have JB0:=iQ jb;have M0:=iQ (Qb.ob (F:=F) b0);have H:=iQ (h.kept b0);have HU:=iQ (hu.kept b0);have HL:=iQ (hl.kept b0);have HX:=iQ (hx.kept b0);have FY:Hid (∀ k,w.heap.size<=k->¬ F k):=iQ (fun k hk=>h.new hk);have HW:=iQ (wa9 h.below.size b0.size);have HUW:=iQ hu.nd.ke;have HWq:=iQ h.below.size;have HLI:=iQ hl;have HVS:=iQ (h.nodeOk h0 h1 (Yg hv).1).2;clear h hu hl hx jb b0;obtain ⟨⟨up,⟨uA,un,uc,uB,um,ud,uC,uk,ue,us⟩⟩,Ym⟩:=u;dsimp only at *;obtain ⟨p1,hp1⟩:∃ p1,us.kids.getD (Ym+1) 0=p1:=⟨_,rfl⟩;rw [hp1] at h0 h1 hv;rw [hp1];have hun:us.keys.length=un:=HU.out.nd.kn;have huk:us.kids.length=uk:=HU.out.nd.cn;obtain ⟨kb,ko,kv,rfl,hkv,kc⟩:=HU.out.nd.ki.iA (k:=Ym+1) (by show Ym+1<uk;omega);obtain rfl:kv=p1:=by rw [<- hp1,wa7,hkv];rfl
 obtain ⟨sb,so,sv,rfl,hsv,sc⟩:=HU.out.nd.ke.sA (k:=Ym) (by show Ym<un;omega);have HSV:Hid (us.keys.getD Ym []=sv.toList):=iQ (by rw [wa7,hsv];rfl);have HKV:=iQ hkv;have HSA:=iQ hsv;have HSB:Hid (sb<w.heap.size):=iQ (HUW.out.lt (by show 0<un*1;omega) rfl);have hb1:((Ym:Nat):Int)<((un:Nat):Int):=by omega
 have hub:un<=1000/\uk<=1000:=by unfold ND.size ND.tsz at hus;omega
 obtain ⟨hub1,hub2⟩:=hub;have hb2:((Ym:Nat):Int)+1<((uk:Nat):Int):=by omega
 have hb0:(0:Int)<=((Ym:Nat):Int)+1:=by omega
 have hb4:Ym<1000:=by omega
 have hwr:IntKind.i64.wrap (((Ym:Nat):Int)+1)=((Ym:Nat):Int)+1:=IntWalk.i64_in _ (by omega);have hb5:Ym+1<uk:=by omega
 have HFE:Hid (Vx t kv x.s.leaf=0/\Uw t kv x.s.leaf=(kv,v)):=iQ (by unfold Vx Uw;rw [hv];exact ⟨rfl,rfl⟩);clear hp1 hkv hsv hv hus HUW;go_enter Tryz.func137,Tryz.ntmps137;unfold SV.val LV.val NV.val;go_upto_region 1 with fail
 rw [<- hw0];clear hw0;obtain ⟨q,hq0⟩:∃ q,w.heap.size=q:=⟨_,rfl⟩;rw [hq0] at z0 JB0 FY ⊢;have HQ0:=iQ hq0;clear hq0;obtain ⟨c0,c1,c2,c3,c4,c5⟩:=Zo _ _ _ _ _ _ _ _ JB0.out.st;obtain ⟨n0,n1,n2,n3⟩:=JB0.out.no.cells;dsimp only at c0 c1 c2 c3 c4 c5;go_quiet (fail)
 go_upto_region 3 with fail
 have bd:=Ya (Below.refl w0.heap.size w0) nq;have HT:=iQ (H.out.kept bd);have HU1:=iQ (HU.out.kept bd);have HL1:=iQ (HL.out.kept bd);have UD:=iQ (HX.out.kept bd);have JB1:=iQ (JB0.out.kept bd);have MV1:=iQ (M0.out.trans (Qb.ob bd));have FZ:Hid (∀ k,q<=k->¬ F k):=iQ (fun k hk=>by have:=FY.out k;exact this (by omega));have HW1:=iQ (wa9 HW.out bd.size);have HQ:Hid (q+4<=(w0.drewN nq).heap.size):=iQ (by have:=bd.size;omega);clear H HU HL HX JB0 bd c0 c1 c2 c3 c4 c5 n0 n1 n2 n3 kc sc M0 FY HW;generalize w0.drewN nq=wd at *;have HK:Hid (∀ wx Fx,Qb wd F wx Fx->wx.cell? ⟨q,5,none⟩=some (.int .i64 ((Ym:Nat):Int))/\wx.cell? ⟨q+1+1,0,none⟩=some (.bool x.s.leaf)/\wx.cell? ⟨kb,ko+(Ym+1),none⟩=some (.int .i64 kv)):=iQ (fun wx Fx m=>by
  have j:=JB1.out.mo m FZ.out;obtain ⟨_,_,_,_,_,c5⟩:=Zo _ _ _ _ _ _ _ _ j.st;exact ⟨c5,j.no.cells.1,(HU1.out.mo m).nd.ki.cell (j:=Ym+1) (by show (Qc us.kids)[Ym+1]?=_;rw [Qc,wc7,HKV.out];rfl)⟩)
 go_cut [14,15] (fun s14 s15 wx=>zg9 W F wd tb pb db (kv,v) t s14 s15 wx)
 case first =>
  have bd:=(Below.refl wd.heap.size wd).drew;have ba:=bd.trans ((Qa wd.drew (.cells #[.int .i64 0,.bool false,.slice none 0 0,.slice none 0 0,.slice none 0 0] 171)).mono bd.size);have T0:=iQ (HT.out.kept bd);have T1:=iQ (HT.out.kept ba);have MD:=iQ (Qb.ob (F:=F) bd);have MA:=iQ (Qb.ob (F:=F) ba);have NFA:Hid (¬ F wd.drew.heap.size):=iQ (by rw [show wd.drew.heap.size=wd.heap.size from rfl];exact HT.out.new (wa2 _));have BX:Hid (Xy (wd.drew.alloc (.cells #[.int .i64 0,.bool false,.slice none 0 0,.slice none 0 0,.slice none 0 0] 171)) wd.heap.size (.int .i64 0) (.bool false) (.slice none 0 0) (.slice none 0 0) (.slice none 0 0)):=iQ (Xw wd.drew _ _ _ _ _);have K0:=HK.out _ _ MD.out;have K1:=HK.out _ _ MA.out;obtain ⟨c5,n0,kc⟩:=HK.out _ _ MD.out;have FL:=iQ (fun wx Fx (hx:Ql W Fx wx tb pb db t)=>ZM wx kv x.s.leaf h0 h1 hx);clear bd ba;go_region_held3 (fun w'=>w'.cell? ⟨q,5,none⟩=some (.int .i64 ((Ym:Nat):Int))/\w'.cell? ⟨q+1+1,0,none⟩=some (.bool x.s.leaf)/\w'.cell? ⟨kb,ko+(Ym+1),none⟩=some (.int .i64 kv))
   (first | with_reducible exact K0 | with_reducible exact K1 | with_reducible exact K2 | with_reducible exact K3 _ | with_reducible exact K5 _ _ _ _ _ | exact K1)
   (first
     | (go_at_call 129;refine (FL.out _ F (by first | exact T0.out | exact T1.out)).mono ?_;rintro e1 w1 ⟨y,F1,rfl,hy,hyl,hyh,ht,m1⟩;have MX:Hid (Qb wd F w1 F1):=iQ (by first | exact MD.out.trans m1 | exact MA.out.trans m1);have K2:=HK.out _ _ MX.out;have K3:=fun o:Obj=>HK.out _ _ (MX.out.trans (Qb.ob (Qa w1 o)));have K5:=fun a b c d e:Value=>HK.out _ _ (MX.out.grown (Gv w1 wd.heap.size a b c d e) (fun g eg=>by obtain rfl:=wa0 eg;exact wa2 _));have HY:=iQ hy;have HYL:=iQ hyl;have HYH:=iQ hyh;have HTY:=iQ ht;have MY:=iQ m1;(first | (have BY:=iQ (BX.out.mo m1 NFA.out);obtain ⟨y0,y1,y2,y3,y4⟩:=BY.out.cells;have f:=BY.out.free;have f0:=f 0;have f1:=f 1;have f2:=f 2;have f3:=f 3;have f4:=f 4;clear f) | skip);unfold LV.val;rw [HFE.out.1];clear hy hyl hyh ht m1))
  all_goals (
   go_wp2_with fail
   go_meet
   first
    | (have hby:=BY.out;exact qj6 HTY.out MX.out HY.out (HYL.out.trans HFE.out.2) (by have:=HYH.out;simpa using this) HW1.out (wa2 _) (MY.out.not (by simp) NFA.out) hby)
    | exact qj7 HTY.out MX.out HY.out (HYL.out.trans HFE.out.2) HYH.out)
 case rest =>
  obtain ⟨g,y,F1,rfl,rfl,lb,yok,yat,yhi,ht,mv⟩:=hcut;have HYA:=iQ yat;have HYO:=iQ yok;have HYI:=iQ yhi;have HTC:=iQ ht;have MC:=iQ (MV1.out.trans mv);have JC:=iQ (JB1.out.mo mv FZ.out);have LG:=iQ lb;have HXC:=iQ (UD.out.mo mv);have HLC:=iQ (HL1.out.mo mv);have HUC:=iQ (HU1.out.mo mv);have hsz:=mv.kept.size;have HQ2:=iQ HQ.out;have NF2:Hid (¬ F1 (q+1+1+1)):=iQ (mv.not (by have:=HQ.out;omega) (FZ.out _ (by omega)));have HQC:Hid (q+4<=wc.heap.size):=iQ (by have:=HQ.out;omega);have GLT:=iQ lb.lt;have GNE:Hid (g≠q+1+1+1):=iQ (fun e=>by
   have a:=lb;unfold Xy at a;rw [e,JC.out.an] at a;have b:=congrArg (fun o=>match o with | some (Obj.cells cs _ _)=>cs.size | _=>0) a
   simp at b)
  clear lb yok yat yhi ht mv HT HU1 HL1 UD JB1 MV1 FZ HW1 HQ HK hwr;have HSC:Hid (∀ wx,wc.grownBy wx (some (q+1+1+1))->wx.cell? ⟨sb,so+Ym,none⟩=some (.string sv)):=iQ (fun wx m=>by
   have hq:=HQC.out;have hb:=HSB.out;have hq0:=HQ0.out;have e:=(HUC.out.nd.ke).cell (j:=Ym) (ZL HSA.out);rw [Zx] at e;exact (World.cell?_of_block (a:=⟨sb,so+Ym,none⟩) (m.block sb (by omega) (fun e=>by have:=wa0 e;omega))).trans e)
  have HK:Hid (∀ wx,wc.grownBy wx (some (q+1+1+1))->wx.cell? ⟨q,5,none⟩=some (.int .i64 ((Ym:Nat):Int)) /\
   wx.cell? ⟨q+1,0,none⟩=some (.int .i64 l.pg)/\wx.cell? ⟨q+1,1,none⟩=some (.bool l.x.s.leaf)/\wx.cell? ⟨q+1,2,none⟩=some (.slice l.x.A l.x.n l.x.c)/\wx.cell? ⟨q+1,3,none⟩=some (.slice l.x.B l.x.m l.x.d)/\wx.cell? ⟨q+1,4,none⟩=some (.slice l.x.C l.x.k l.x.e) /\
   wx.cell? ⟨g,0,none⟩=some (.int .i64 y.pg)/\wx.cell? ⟨g,1,none⟩=some (.bool y.x.s.leaf)/\wx.cell? ⟨g,2,none⟩=some (.slice y.x.A y.x.n y.x.c)/\wx.cell? ⟨g,3,none⟩=some (.slice y.x.B y.x.m y.x.d)/\wx.cell? ⟨g,4,none⟩=some (.slice y.x.C y.x.k y.x.e) /\
   wx.cell? ⟨q+1+1,0,none⟩=some (.bool x.s.leaf)/\wx.cell? ⟨q+1+1,1,none⟩=some (.slice x.A x.n x.c)/\wx.cell? ⟨q+1+1,2,none⟩=some (.slice x.B x.m x.d)/\wx.cell? ⟨q+1+1,3,none⟩=some (.slice x.C x.k x.e) /\
   wx.cell? ⟨sb,so+Ym,none⟩=some (.string sv)):=iQ (fun wx m=>by
   have hs:=HSC.out wx m;have hq:=HQC.out;obtain ⟨_,_,_,_,_,c5⟩:=Zo wx q _ _ _ _ _ _ ((m.block q (by omega) (fun e=>by have:=wa0 e;omega)).trans JC.out.st);have la:Xy wx (q+1) _ _ _ _ _:=(m.block (q+1) (by omega) (fun e=>by have:=wa0 e;omega)).trans JC.out.la;have lg:Xy wx g _ _ _ _ _:=(m.block g GLT.out (fun e=>GNE.out (wa0 e))).trans LG.out;have no:Qs wx (q+1+1) _ _ _ _:=(m.block (q+1+1) (by omega) (fun e=>by have:=wa0 e;omega)).trans JC.out.no;obtain ⟨a0,a1,a2,a3,a4⟩:=la.cells;obtain ⟨b0,b1,b2,b3,b4⟩:=lg.cells;obtain ⟨d0,d1,d2,d3⟩:=no.cells;exact ⟨c5,a0,a1,a2,a3,a4,b0,b1,b2,b3,b4,d0,d1,d2,d3,hs⟩)
  have hkn:x.n<=300000/\x.m<=300000/\x.k<=300000:=by
   have a:=HXC.out.nd.kn;have b:=HXC.out.nd.vn;have c:=HXC.out.nd.cn;unfold ND.size ND.tsz at hxs;omega
  have hkn':y.x.n<=300000/\y.x.m<=300000/\y.x.k<=300000:=by
   have a:=HYO.out.nd.kn;have b:=HYO.out.nd.vn;have c:=HYO.out.nd.cn;have e:y.x.s=v:=congrArg Prod.snd HYA.out;have d:=HVS.out;rw [e] at a b c;unfold ND.size ND.tsz at d;omega
  obtain ⟨ka,kb',kc'⟩:=hkn;obtain ⟨kd,ke,kf⟩:=hkn';have JA:=iQ (fun (w1:World) (hx:x.ok w1 F1) (hy:y.x.ok w1 F1)=>qj5 x.s.leaf x.A x.n x.c x.B x.m x.d x.C x.k x.e x.s y.x.s.leaf y.x.A y.x.n y.x.c y.x.B y.x.m y.x.d y.x.C y.x.k y.x.e y.x.s sv w1 hx.nd hy.nd rfl ka kb' kc' kd ke kf);have bd:=(Below.refl wc.heap.size wc).drew;have BD:=iQ bd;have BA:=iQ (fun o:Obj=>(Qa wc o).drew);have X0:=iQ (HXC.out.kept bd);have X1:=iQ (fun o:Obj=>HXC.out.kept (BA.out o));have Y0:=iQ (HYO.out.kept bd);have Y1:=iQ (fun o:Obj=>HYO.out.kept (BA.out o));have LT0:Hid (∀ k,F1 k->k<wc.drew.heap.size):=iQ (fun k hk=>HTC.out.lt k hk);have LT1:Hid (∀ (o:Obj) (k:Nat),F1 k->k<((wc.alloc o).drew).heap.size):=iQ (fun o k hk=>wa3 (HTC.out.lt k hk) (BA.out o).size);have K0:=HK.out _ (Qv bd);have K1:=fun o:Obj=>HK.out _ (Qv (BA.out o));obtain ⟨c5,a0,a1,a2,a3,a4,b0,b1,b2,b3,b4,d0,d1,d2,d3,hs⟩:=HK.out _ (Qv bd);have hi0:(0:Int)<=((Ym:Nat):Int):=by omega
  clear bd ka kb' kc' kd ke kf;go_upto_region 4 with fail
  go_region_held3 (fun wx=>wx.cell? ⟨q,5,none⟩=some (.int .i64 ((Ym:Nat):Int)) /\
   wx.cell? ⟨q+1,0,none⟩=some (.int .i64 l.pg)/\wx.cell? ⟨q+1,1,none⟩=some (.bool l.x.s.leaf)/\wx.cell? ⟨q+1,2,none⟩=some (.slice l.x.A l.x.n l.x.c)/\wx.cell? ⟨q+1,3,none⟩=some (.slice l.x.B l.x.m l.x.d)/\wx.cell? ⟨q+1,4,none⟩=some (.slice l.x.C l.x.k l.x.e) /\
   wx.cell? ⟨g,0,none⟩=some (.int .i64 y.pg)/\wx.cell? ⟨g,1,none⟩=some (.bool y.x.s.leaf)/\wx.cell? ⟨g,2,none⟩=some (.slice y.x.A y.x.n y.x.c)/\wx.cell? ⟨g,3,none⟩=some (.slice y.x.B y.x.m y.x.d)/\wx.cell? ⟨g,4,none⟩=some (.slice y.x.C y.x.k y.x.e) /\
   wx.cell? ⟨q+1+1,0,none⟩=some (.bool x.s.leaf)/\wx.cell? ⟨q+1+1,1,none⟩=some (.slice x.A x.n x.c)/\wx.cell? ⟨q+1+1,2,none⟩=some (.slice x.B x.m x.d)/\wx.cell? ⟨q+1+1,3,none⟩=some (.slice x.C x.k x.e) /\
   wx.cell? ⟨sb,so+Ym,none⟩=some (.string sv))
   (first | with_reducible exact K0 | with_reducible exact K1 _ | with_reducible exact K2 | with_reducible exact K3 _ | with_reducible exact K4 _ _ _ _ | with_reducible exact K5 _ _ _ _ _ | with_reducible exact K6 _ _ _ _ _)
   (first
     | (go_at_call 163;refine (JA.out _ (by first | with_reducible exact X0.out | with_reducible exact X1.out _) (by first | with_reducible exact Y0.out | with_reducible exact Y1.out _)).mono ?_;rintro e1 wJ ⟨jv,rfl,jn,bj⟩;have BJ:Hid (Below wc.heap.size wc wJ):=iQ (by first | with_reducible exact BD.out.trans (bj.mono BD.out.size) | with_reducible exact (BA.out _).trans (bj.mono (BA.out _).size));obtain ⟨z,rfl,zok,zs,zhi⟩:=qc0 (F:=F1) jn (by first | exact LT0.out | exact LT1.out _);have ZOK:=iQ zok;have ZS:=iQ zs;have ZHI:Hid (z.hi wc.heap.size):=iQ (zhi.low (by first | exact BD.out.size | exact (BA.out _).size));have BJ2:=iQ bj;have AN:=iQ (JC.out.an.kept BJ.out);have hbj:=Qv (row:=some (q+1+1+1)) BJ.out;have K2:=HK.out _ hbj;have K3:=fun o:Obj=>HK.out _ (hbj.trans (Qv (Qa wJ o)));have K4:=fun a b c d:Value=>HK.out _ (hbj.trans (Zk wJ (q+1+1+1) a b c d));have K5:=fun (o:Obj) (a b c d:Value)=>HK.out _ ((hbj.trans (Qv (Qa wJ o))).trans (Zk (wJ.alloc o) (q+1+1+1) a b c d));have K6:=fun (o:Obj) (a b c d:Value)=>HK.out _ ((hbj.trans (Zk wJ (q+1+1+1) a b c d)).trans (Qv (Qa _ o)));obtain ⟨e0,e1,e2,e3⟩:=AN.out.cells;obtain ⟨f0,f1,f2,f3⟩:=AN.out.free;have g0:=fun o:Obj=>(AN.out.kept (Qa wJ o)).free.1;have g1:=fun o:Obj=>(AN.out.kept (Qa wJ o)).free.2.1;have g2:=fun o:Obj=>(AN.out.kept (Qa wJ o)).free.2.2.1;have g3:=fun o:Obj=>(AN.out.kept (Qa wJ o)).free.2.2.2;have i0:=fun o:Obj=>(AN.out.kept (Qa wJ o)).cells.1;have i1:=fun o:Obj=>(AN.out.kept (Qa wJ o)).cells.2.1;have i2:=fun o:Obj=>(AN.out.kept (Qa wJ o)).cells.2.2.1;have i3:=fun o:Obj=>(AN.out.kept (Qa wJ o)).cells.2.2.2;have hlt:=AN.out.lt;(first | (have ROW:Hid (wJ.heap[wc.heap.size]?=some (.cells #[.int .i64 l.pg,.bool l.x.s.leaf,.slice l.x.A l.x.n l.x.c,.slice l.x.B l.x.m l.x.d,.slice l.x.C l.x.k l.x.e,.int .i64 y.pg,.bool y.x.s.leaf,.slice y.x.A y.x.n y.x.c,.slice y.x.B y.x.m y.x.d,.slice y.x.C y.x.k y.x.e] 171 (0,0))):=iQ ((bj.block wc.heap.size (by simp)).trans (heap_alloc_new wc (.cells #[.int .i64 l.pg,.bool l.x.s.leaf,.slice l.x.A l.x.n l.x.c,.slice l.x.B l.x.m l.x.d,.slice l.x.C l.x.k l.x.e,.int .i64 y.pg,.bool y.x.s.leaf,.slice y.x.A y.x.n y.x.c,.slice y.x.B y.x.m y.x.d,.slice y.x.C y.x.k y.x.e] 171)))) | skip);unfold NV.val;clear jn zok zs zhi bj hbj))
  all_goals (
   have h4:=Zk wJ (q+1+1+1) (.bool z.s.leaf) (.slice z.A z.n z.c) (.slice z.B z.m z.d) (.slice z.C z.k z.e);have hq:=HQC.out;have nb:=AN.out.put (.bool z.s.leaf) (.slice z.A z.n z.c) (.slice z.B z.m z.d) (.slice z.C z.k z.e);have hg:=(Qv (row:=some (q+1+1+1)) BJ.out).trans h4;have yo:=(HYO.out.kept BJ.out).grown HYI.out (by have:=HQ2.out;omega) h4;have zo:=ZOK.out.grown ZHI.out (by omega) h4;have hne:some wc.heap.size≠some (q+1+1+1):=fun e=>by have:=wa0 e;omega
   have hs0:=BJ.out.size;have hqw:w.heap.size<=wd.heap.size:=by have:=HQ0.out;have:=HQ2.out;omega
   have hqc:w.heap.size<=wc.heap.size:=by have:=HQ0.out;omega
   have hM4:Qb w F _ F1:=MC.out.grown hg (fun g e=>by have hq0:=HQ0.out;obtain rfl:=wa0 e;omega)
   first
    | (have row:=(h4.block wc.heap.size (wa1.1 ROW.out).1 hne).trans ROW.out
       have HD:Hid (UH W F w tb pb db l Ym [l.at_,(kv,v)] (x.s.join (us.keys.getD Ym []) v) t (.returned _) _):=iQ (QG (fr:=Ym) (l1:=l) (l2:=y) HTC.out MC.out hg (wg9 HQ0.out) HWq.out NF2.out row (HTC.out.new (wa2 _)) (HLI.out.mo hM4) yo (by rw [HYA.out]) zo (by rw [ZS.out,HSV.out,show y.x.s=v from congrArg Prod.snd HYA.out]) (Or.inl rfl) (Or.inr (HYI.out.low hqw)) (ZHI.out.low hqc) hqc);obtain ⟨z0,z1,z2,z3⟩:=nb.cells;clear e0 e1 e2 e3 f0 f1 f2 f3 g0 g1 g2 g3 i0 i1 i2 i3 h4 hg yo zo nb row hM4;go_wp2_with fail;refine bodyPost_ret (v := .tuple #[.int .i64 ((Ym:Nat):Int),.slice (some ⟨wc.heap.size,0,none⟩) 2 2,.agg #[.bool z.s.leaf,.slice z.A z.n z.c,.slice z.B z.m z.d,.slice z.C z.k z.e],.int .i64 0]) (by simp [results,Tryz.results137,go_sem,z0,z1,z2,z3]) rfl ?_;exact HD.out)
    | (have bL:=Qa ((((wJ.setCell ⟨q+1+1+1,0,none⟩ (.bool z.s.leaf)).setCell ⟨q+1+1+1,1,none⟩ (.slice z.A z.n z.c)).setCell ⟨q+1+1+1,2,none⟩ (.slice z.B z.m z.d)).setCell ⟨q+1+1+1,3,none⟩ (.slice z.C z.k z.e)) (.cells #[.int .i64 l.pg,.bool l.x.s.leaf,.slice l.x.A l.x.n l.x.c,.slice l.x.B l.x.m l.x.d,.slice l.x.C l.x.k l.x.e,.int .i64 y.pg,.bool y.x.s.leaf,.slice y.x.A y.x.n y.x.c,.slice y.x.B y.x.m y.x.d,.slice y.x.C y.x.k y.x.e] 171)
       have row:=heap_alloc_new ((((wJ.setCell ⟨q+1+1+1,0,none⟩ (.bool z.s.leaf)).setCell ⟨q+1+1+1,1,none⟩ (.slice z.A z.n z.c)).setCell ⟨q+1+1+1,2,none⟩ (.slice z.B z.m z.d)).setCell ⟨q+1+1+1,3,none⟩ (.slice z.C z.k z.e)) (.cells #[.int .i64 l.pg,.bool l.x.s.leaf,.slice l.x.A l.x.n l.x.c,.slice l.x.B l.x.m l.x.d,.slice l.x.C l.x.k l.x.e,.int .i64 y.pg,.bool y.x.s.leaf,.slice y.x.A y.x.n y.x.c,.slice y.x.B y.x.m y.x.d,.slice y.x.C y.x.k y.x.e] 171);have hz4:((((wJ.setCell ⟨q+1+1+1,0,none⟩ (.bool z.s.leaf)).setCell ⟨q+1+1+1,1,none⟩ (.slice z.A z.n z.c)).setCell ⟨q+1+1+1,2,none⟩ (.slice z.B z.m z.d)).setCell ⟨q+1+1+1,3,none⟩ (.slice z.C z.k z.e)).heap.size=wJ.heap.size:=(by simp [World.setCell]);rw [hz4] at row;have HD:Hid (UH W F w tb pb db l Ym [l.at_,(kv,v)] (x.s.join (us.keys.getD Ym []) v) t (.returned _) _):=iQ (QG (fr:=Ym) (l1:=l) (l2:=y) HTC.out MC.out (hg.trans (Qv bL)) (wg9 HQ0.out) HWq.out NF2.out row (HTC.out.new hs0) ((HLI.out.mo hM4).kept bL) (yo.kept bL) (by rw [HYA.out]) (zo.kept bL) (by rw [ZS.out,HSV.out,show y.x.s=v from congrArg Prod.snd HYA.out]) (Or.inl rfl) (Or.inr (HYI.out.low hqw)) (ZHI.out.low hqc) (wa9 hqc hs0));obtain ⟨z0,z1,z2,z3⟩:=(nb.kept bL).cells;clear e0 e1 e2 e3 f0 f1 f2 f3 g0 g1 g2 g3 i0 i1 i2 i3 h4 hg yo zo nb row hM4 bL;go_wp2_with fail;refine bodyPost_ret (v := .tuple #[.int .i64 ((Ym:Nat):Int),.slice (some ⟨wJ.heap.size,0,none⟩) 2 2,.agg #[.bool z.s.leaf,.slice z.A z.n z.c,.slice z.B z.m z.d,.slice z.C z.k z.e],.int .i64 0]) (by simp [results,Tryz.results137,go_sem,z0,z1,z2,z3]) rfl ?_;exact HD.out))
end
section
variable {W w w':World} {G F F':Nat->Prop} {tb mb pb db:Nat} {t t':TS}
theorem qb3 (w:World) (kid:Nat) (u:SV) (l:LV) (x:NV) (v:ND) (hu:u.l.x.ok w F) (hl:l.x.ok w F) (hx:x.ok w F) (hus:u.l.x.s.size<=1000) (hlt:u.kid=u.l.x.s.keys.length) (hk:u.kid=kid+1) (hck:u.l.x.s.kids.length=u.l.x.s.keys.length+1) (hxs:x.s.size<=100000)
 (h0:0<=u.l.x.s.kids.getD kid 0) (h1:u.l.x.s.kids.getD kid 0<t.z) (hv:TS.nodeAt t.nd (u.l.x.s.kids.getD kid 0) x.s.leaf=some v) (h:Ql W F w tb pb db t) :
 Calls Tryz.prog 137 #[.pointer (some ⟨tb,0,none⟩),u.val,l.val,x.val] w (UH W F w tb pb db l kid [(u.l.x.s.kids.getD kid 0,v),l.at_] (v.join (u.l.x.s.keys.getD kid []) x.s) t):=by
 obtain ⟨w0,hw0⟩:∃ w0,w0=(((w.alloc (.cells #[.int .i64 u.l.pg,.bool u.l.x.s.leaf,.slice u.l.x.A u.l.x.n u.l.x.c,.slice u.l.x.B u.l.x.m u.l.x.d,.slice u.l.x.C u.l.x.k u.l.x.e,.int .i64 ((u.kid:Nat):Int)] 173)).alloc (.cells #[.int .i64 l.pg,.bool l.x.s.leaf,.slice l.x.A l.x.n l.x.c,.slice l.x.B l.x.m l.x.d,.slice l.x.C l.x.k l.x.e] 171)).alloc (.cells #[.bool x.s.leaf,.slice x.A x.n x.c,.slice x.B x.m x.d,.slice x.C x.k x.e] 75)).alloc (.cells #[.bool false,.slice none 0 0,.slice none 0 0,.slice none 0 0] 75):=⟨_,rfl⟩;obtain ⟨jb,b0,z0⟩:=qr7 w u l x w0 hw0;have JB0:=iQ jb;have M0:=iQ (Qb.ob (F:=F) b0);have H:=iQ (h.kept b0);have HU:=iQ (hu.kept b0);have HL:=iQ (hl.kept b0);have HX:=iQ (hx.kept b0);have FY:Hid (∀ k,w.heap.size<=k->¬ F k):=iQ (fun k hk=>h.new hk);have HW:=iQ (wa9 h.below.size b0.size);have HUW:=iQ hu.nd.ke;have HWq:=iQ h.below.size;have HLI:=iQ hl;have HVS:=iQ (h.nodeOk h0 h1 (Yg hv).1).2;clear h hu hl hx jb b0;obtain ⟨⟨up,⟨uA,un,uc,uB,um,ud,uC,uk,ue,us⟩⟩,Ym⟩:=u;dsimp only at *;obtain ⟨p1,hp1⟩:∃ p1,us.kids.getD kid 0=p1:=⟨_,rfl⟩;rw [hp1] at h0 h1 hv;rw [hp1];have hun:us.keys.length=un:=HU.out.nd.kn;have huk:us.kids.length=uk:=HU.out.nd.cn;obtain ⟨kb,ko,kv,rfl,hkv,kc⟩:=HU.out.nd.ki.iA (k:=kid) (by show kid<uk;omega);obtain rfl:kv=p1:=by rw [<- hp1,wa7,hkv];rfl
 obtain ⟨sb,so,sv,rfl,hsv,sc⟩:=HU.out.nd.ke.sA (k:=kid) (by show kid<un;omega);have HSV:Hid (us.keys.getD kid []=sv.toList):=iQ (by rw [wa7,hsv];rfl);have HKV:=iQ hkv;have HSA:=iQ hsv;have HSB:Hid (sb<w.heap.size):=iQ (HUW.out.lt (by show 0<un*1;omega) rfl);have hb1:¬ ((Ym:Nat):Int)<((un:Nat):Int):=by omega
 have hb6:((kid:Nat):Int)<((un:Nat):Int):=by omega
 have hub:un<=1000/\uk<=1000:=by unfold ND.size ND.tsz at hus;omega
 obtain ⟨hub1,hub2⟩:=hub;have hwr:IntKind.i64.wrap (((Ym:Nat):Int) - 1)=((kid:Nat):Int):=by rw [IntWalk.i64_in _ (by omega)];omega
 have hb2:((kid:Nat):Int)<((uk:Nat):Int):=by omega
 have hb0:(0:Int)<=((kid:Nat):Int):=by omega
 have hb4:kid<1000:=by omega
 have hb5:kid<uk:=by omega
 have HFE:Hid (Vx t kv x.s.leaf=0/\Uw t kv x.s.leaf=(kv,v)):=iQ (by unfold Vx Uw;rw [hv];exact ⟨rfl,rfl⟩);clear hp1 hkv hsv hv hus HUW hk hlt;go_enter Tryz.func137,Tryz.ntmps137;unfold SV.val LV.val NV.val;go_upto_region 1 with fail
 rw [<- hw0];clear hw0;obtain ⟨q,hq0⟩:∃ q,w.heap.size=q:=⟨_,rfl⟩;rw [hq0] at z0 JB0 FY ⊢;have HQ0:=iQ hq0;clear hq0;obtain ⟨c0,c1,c2,c3,c4,c5⟩:=Zo _ _ _ _ _ _ _ _ JB0.out.st;obtain ⟨n0,n1,n2,n3⟩:=JB0.out.no.cells;dsimp only at c0 c1 c2 c3 c4 c5;go_quiet (fail)
 go_upto_region 6 with fail
 have bd:=Ya (Below.refl w0.heap.size w0) nq;have HT:=iQ (H.out.kept bd);have HU1:=iQ (HU.out.kept bd);have HL1:=iQ (HL.out.kept bd);have UD:=iQ (HX.out.kept bd);have JB1:=iQ (JB0.out.kept bd);have MV1:=iQ (M0.out.trans (Qb.ob bd));have FZ:Hid (∀ k,q<=k->¬ F k):=iQ (fun k hk=>by have:=FY.out k;exact this (by omega));have HW1:=iQ (wa9 HW.out bd.size);have HQ:Hid (q+4<=(w0.drewN nq).heap.size):=iQ (by have:=bd.size;omega);clear H HU HL HX JB0 bd c0 c1 c2 c3 c4 c5 n0 n1 n2 n3 kc sc M0 FY HW;generalize w0.drewN nq=wd at *;have HK:Hid (∀ wx Fx,Qb wd F wx Fx->wx.cell? ⟨q,5,none⟩=some (.int .i64 ((Ym:Nat):Int))/\wx.cell? ⟨q+1+1,0,none⟩=some (.bool x.s.leaf)/\wx.cell? ⟨kb,ko+kid,none⟩=some (.int .i64 kv)):=iQ (fun wx Fx m=>by
  have j:=JB1.out.mo m FZ.out;obtain ⟨_,_,_,_,_,c5⟩:=Zo _ _ _ _ _ _ _ _ j.st;exact ⟨c5,j.no.cells.1,(HU1.out.mo m).nd.ki.cell (j:=kid) (by show (Qc us.kids)[kid]?=_;rw [Qc,wc7,HKV.out];rfl)⟩)
 go_cut [17,18] (fun s14 s15 wx=>zg9 W F wd tb pb db (kv,v) t s14 s15 wx)
 case first =>
  have bd:=(Below.refl wd.heap.size wd).drew;have ba:=bd.trans ((Qa wd.drew (.cells #[.int .i64 0,.bool false,.slice none 0 0,.slice none 0 0,.slice none 0 0] 171)).mono bd.size);have T0:=iQ (HT.out.kept bd);have T1:=iQ (HT.out.kept ba);have MD:=iQ (Qb.ob (F:=F) bd);have MA:=iQ (Qb.ob (F:=F) ba);have NFA:Hid (¬ F wd.drew.heap.size):=iQ (by rw [show wd.drew.heap.size=wd.heap.size from rfl];exact HT.out.new (wa2 _));have BX:Hid (Xy (wd.drew.alloc (.cells #[.int .i64 0,.bool false,.slice none 0 0,.slice none 0 0,.slice none 0 0] 171)) wd.heap.size (.int .i64 0) (.bool false) (.slice none 0 0) (.slice none 0 0) (.slice none 0 0)):=iQ (Xw wd.drew _ _ _ _ _);have K0:=HK.out _ _ MD.out;have K1:=HK.out _ _ MA.out;obtain ⟨c5,n0,kc⟩:=HK.out _ _ MD.out;have FL:=iQ (fun wx Fx (hx:Ql W Fx wx tb pb db t)=>ZM wx kv x.s.leaf h0 h1 hx);clear bd ba;go_region_held3 (fun w'=>w'.cell? ⟨q,5,none⟩=some (.int .i64 ((Ym:Nat):Int))/\w'.cell? ⟨q+1+1,0,none⟩=some (.bool x.s.leaf)/\w'.cell? ⟨kb,ko+kid,none⟩=some (.int .i64 kv))
   (first | with_reducible exact K0 | with_reducible exact K1 | with_reducible exact K2 | with_reducible exact K3 _ | with_reducible exact K5 _ _ _ _ _ | exact K1)
   (first
     | (go_at_call 129;refine (FL.out _ F (by first | exact T0.out | exact T1.out)).mono ?_;rintro e1 w1 ⟨y,F1,rfl,hy,hyl,hyh,ht,m1⟩;have MX:Hid (Qb wd F w1 F1):=iQ (by first | exact MD.out.trans m1 | exact MA.out.trans m1);have K2:=HK.out _ _ MX.out;have K3:=fun o:Obj=>HK.out _ _ (MX.out.trans (Qb.ob (Qa w1 o)));have K5:=fun a b c d e:Value=>HK.out _ _ (MX.out.grown (Gv w1 wd.heap.size a b c d e) (fun g eg=>by obtain rfl:=wa0 eg;exact wa2 _));have HY:=iQ hy;have HYL:=iQ hyl;have HYH:=iQ hyh;have HTY:=iQ ht;have MY:=iQ m1;(first | (have BY:=iQ (BX.out.mo m1 NFA.out);obtain ⟨y0,y1,y2,y3,y4⟩:=BY.out.cells;have f:=BY.out.free;have f0:=f 0;have f1:=f 1;have f2:=f 2;have f3:=f 3;have f4:=f 4;clear f) | skip);unfold LV.val;rw [HFE.out.1];clear hy hyl hyh ht m1))
  all_goals (
   go_wp2_with fail
   go_meet
   first
    | (have hby:=BY.out;exact qj6 HTY.out MX.out HY.out (HYL.out.trans HFE.out.2) (by have:=HYH.out;simpa using this) HW1.out (wa2 _) (MY.out.not (by simp) NFA.out) hby)
    | exact qj7 HTY.out MX.out HY.out (HYL.out.trans HFE.out.2) HYH.out)
 case rest =>
  obtain ⟨g,y,F1,rfl,rfl,lb,yok,yat,yhi,ht,mv⟩:=hcut;have HYA:=iQ yat;have HYO:=iQ yok;have HYI:=iQ yhi;have HTC:=iQ ht;have MC:=iQ (MV1.out.trans mv);have JC:=iQ (JB1.out.mo mv FZ.out);have LG:=iQ lb;have HXC:=iQ (UD.out.mo mv);have HLC:=iQ (HL1.out.mo mv);have HUC:=iQ (HU1.out.mo mv);have hsz:=mv.kept.size;have HQ2:=iQ HQ.out;have NF2:Hid (¬ F1 (q+1+1+1)):=iQ (mv.not (by have:=HQ.out;omega) (FZ.out _ (by omega)));have HQC:Hid (q+4<=wc.heap.size):=iQ (by have:=HQ.out;omega);have GLT:=iQ lb.lt;have GNE:Hid (g≠q+1+1+1):=iQ (fun e=>by
   have a:=lb;unfold Xy at a;rw [e,JC.out.an] at a;have b:=congrArg (fun o=>match o with | some (Obj.cells cs _ _)=>cs.size | _=>0) a
   simp at b)
  clear lb yok yat yhi ht mv HT HU1 HL1 UD JB1 MV1 FZ HW1 HQ HK;have HSC:Hid (∀ wx,wc.grownBy wx (some (q+1+1+1))->wx.cell? ⟨sb,so+kid,none⟩=some (.string sv)):=iQ (fun wx m=>by
   have hq:=HQC.out;have hb:=HSB.out;have hq0:=HQ0.out;have e:=(HUC.out.nd.ke).cell (j:=kid) (ZL HSA.out);rw [Zx] at e;exact (World.cell?_of_block (a:=⟨sb,so+kid,none⟩) (m.block sb (by omega) (fun e=>by have:=wa0 e;omega))).trans e)
  have HK:Hid (∀ wx,wc.grownBy wx (some (q+1+1+1))->wx.cell? ⟨q,5,none⟩=some (.int .i64 ((Ym:Nat):Int)) /\
   wx.cell? ⟨q+1,0,none⟩=some (.int .i64 l.pg)/\wx.cell? ⟨q+1,1,none⟩=some (.bool l.x.s.leaf)/\wx.cell? ⟨q+1,2,none⟩=some (.slice l.x.A l.x.n l.x.c)/\wx.cell? ⟨q+1,3,none⟩=some (.slice l.x.B l.x.m l.x.d)/\wx.cell? ⟨q+1,4,none⟩=some (.slice l.x.C l.x.k l.x.e) /\
   wx.cell? ⟨g,0,none⟩=some (.int .i64 y.pg)/\wx.cell? ⟨g,1,none⟩=some (.bool y.x.s.leaf)/\wx.cell? ⟨g,2,none⟩=some (.slice y.x.A y.x.n y.x.c)/\wx.cell? ⟨g,3,none⟩=some (.slice y.x.B y.x.m y.x.d)/\wx.cell? ⟨g,4,none⟩=some (.slice y.x.C y.x.k y.x.e) /\
   wx.cell? ⟨q+1+1,0,none⟩=some (.bool x.s.leaf)/\wx.cell? ⟨q+1+1,1,none⟩=some (.slice x.A x.n x.c)/\wx.cell? ⟨q+1+1,2,none⟩=some (.slice x.B x.m x.d)/\wx.cell? ⟨q+1+1,3,none⟩=some (.slice x.C x.k x.e) /\
   wx.cell? ⟨sb,so+kid,none⟩=some (.string sv)):=iQ (fun wx m=>by
   have hs:=HSC.out wx m;have hq:=HQC.out;obtain ⟨_,_,_,_,_,c5⟩:=Zo wx q _ _ _ _ _ _ ((m.block q (by omega) (fun e=>by have:=wa0 e;omega)).trans JC.out.st);have la:Xy wx (q+1) _ _ _ _ _:=(m.block (q+1) (by omega) (fun e=>by have:=wa0 e;omega)).trans JC.out.la;have lg:Xy wx g _ _ _ _ _:=(m.block g GLT.out (fun e=>GNE.out (wa0 e))).trans LG.out;have no:Qs wx (q+1+1) _ _ _ _:=(m.block (q+1+1) (by omega) (fun e=>by have:=wa0 e;omega)).trans JC.out.no;obtain ⟨a0,a1,a2,a3,a4⟩:=la.cells;obtain ⟨b0,b1,b2,b3,b4⟩:=lg.cells;obtain ⟨d0,d1,d2,d3⟩:=no.cells;exact ⟨c5,a0,a1,a2,a3,a4,b0,b1,b2,b3,b4,d0,d1,d2,d3,hs⟩)
  have hkn:x.n<=300000/\x.m<=300000/\x.k<=300000:=by
   have a:=HXC.out.nd.kn;have b:=HXC.out.nd.vn;have c:=HXC.out.nd.cn;unfold ND.size ND.tsz at hxs;omega
  have hkn':y.x.n<=300000/\y.x.m<=300000/\y.x.k<=300000:=by
   have a:=HYO.out.nd.kn;have b:=HYO.out.nd.vn;have c:=HYO.out.nd.cn;have e:y.x.s=v:=congrArg Prod.snd HYA.out;have d:=HVS.out;rw [e] at a b c;unfold ND.size ND.tsz at d;omega
  obtain ⟨ka,kb',kc'⟩:=hkn;obtain ⟨kd,ke,kf⟩:=hkn';have JA:=iQ (fun (w1:World) (hx:x.ok w1 F1) (hy:y.x.ok w1 F1)=>qj5 y.x.s.leaf y.x.A y.x.n y.x.c y.x.B y.x.m y.x.d y.x.C y.x.k y.x.e y.x.s x.s.leaf x.A x.n x.c x.B x.m x.d x.C x.k x.e x.s sv w1 hy.nd hx.nd rfl kd ke kf ka kb' kc');have bd:=(Below.refl wc.heap.size wc).drew;have BD:=iQ bd;have BA:=iQ (fun o:Obj=>(Qa wc o).drew);have X0:=iQ (HXC.out.kept bd);have X1:=iQ (fun o:Obj=>HXC.out.kept (BA.out o));have Y0:=iQ (HYO.out.kept bd);have Y1:=iQ (fun o:Obj=>HYO.out.kept (BA.out o));have LT0:Hid (∀ k,F1 k->k<wc.drew.heap.size):=iQ (fun k hk=>HTC.out.lt k hk);have LT1:Hid (∀ (o:Obj) (k:Nat),F1 k->k<((wc.alloc o).drew).heap.size):=iQ (fun o k hk=>wa3 (HTC.out.lt k hk) (BA.out o).size);have K0:=HK.out _ (Qv bd);have K1:=fun o:Obj=>HK.out _ (Qv (BA.out o));obtain ⟨c5,a0,a1,a2,a3,a4,b0,b1,b2,b3,b4,d0,d1,d2,d3,hs⟩:=HK.out _ (Qv bd);have hi0:(0:Int)<=((kid:Nat):Int):=by omega
  clear bd ka kb' kc' kd ke kf;go_upto_region 7 with fail
  go_region_held3 (fun wx=>wx.cell? ⟨q,5,none⟩=some (.int .i64 ((Ym:Nat):Int)) /\
   wx.cell? ⟨q+1,0,none⟩=some (.int .i64 l.pg)/\wx.cell? ⟨q+1,1,none⟩=some (.bool l.x.s.leaf)/\wx.cell? ⟨q+1,2,none⟩=some (.slice l.x.A l.x.n l.x.c)/\wx.cell? ⟨q+1,3,none⟩=some (.slice l.x.B l.x.m l.x.d)/\wx.cell? ⟨q+1,4,none⟩=some (.slice l.x.C l.x.k l.x.e) /\
   wx.cell? ⟨g,0,none⟩=some (.int .i64 y.pg)/\wx.cell? ⟨g,1,none⟩=some (.bool y.x.s.leaf)/\wx.cell? ⟨g,2,none⟩=some (.slice y.x.A y.x.n y.x.c)/\wx.cell? ⟨g,3,none⟩=some (.slice y.x.B y.x.m y.x.d)/\wx.cell? ⟨g,4,none⟩=some (.slice y.x.C y.x.k y.x.e) /\
   wx.cell? ⟨q+1+1,0,none⟩=some (.bool x.s.leaf)/\wx.cell? ⟨q+1+1,1,none⟩=some (.slice x.A x.n x.c)/\wx.cell? ⟨q+1+1,2,none⟩=some (.slice x.B x.m x.d)/\wx.cell? ⟨q+1+1,3,none⟩=some (.slice x.C x.k x.e) /\
   wx.cell? ⟨sb,so+kid,none⟩=some (.string sv))
   (first | with_reducible exact K0 | with_reducible exact K1 _ | with_reducible exact K2 | with_reducible exact K3 _ | with_reducible exact K4 _ _ _ _ | with_reducible exact K5 _ _ _ _ _ | with_reducible exact K6 _ _ _ _ _)
   (first
     | (go_at_call 163;refine (JA.out _ (by first | with_reducible exact X0.out | with_reducible exact X1.out _) (by first | with_reducible exact Y0.out | with_reducible exact Y1.out _)).mono ?_;rintro e1 wJ ⟨jv,rfl,jn,bj⟩;have BJ:Hid (Below wc.heap.size wc wJ):=iQ (by first | with_reducible exact BD.out.trans (bj.mono BD.out.size) | with_reducible exact (BA.out _).trans (bj.mono (BA.out _).size));obtain ⟨z,rfl,zok,zs,zhi⟩:=qc0 (F:=F1) jn (by first | exact LT0.out | exact LT1.out _);have ZOK:=iQ zok;have ZS:=iQ zs;have ZHI:Hid (z.hi wc.heap.size):=iQ (zhi.low (by first | exact BD.out.size | exact (BA.out _).size));have BJ2:=iQ bj;have AN:=iQ (JC.out.an.kept BJ.out);have hbj:=Qv (row:=some (q+1+1+1)) BJ.out;have K2:=HK.out _ hbj;have K3:=fun o:Obj=>HK.out _ (hbj.trans (Qv (Qa wJ o)));have K4:=fun a b c d:Value=>HK.out _ (hbj.trans (Zk wJ (q+1+1+1) a b c d));have K5:=fun (o:Obj) (a b c d:Value)=>HK.out _ ((hbj.trans (Qv (Qa wJ o))).trans (Zk (wJ.alloc o) (q+1+1+1) a b c d));have K6:=fun (o:Obj) (a b c d:Value)=>HK.out _ ((hbj.trans (Zk wJ (q+1+1+1) a b c d)).trans (Qv (Qa _ o)));obtain ⟨e0,e1,e2,e3⟩:=AN.out.cells;obtain ⟨f0,f1,f2,f3⟩:=AN.out.free;have g0:=fun o:Obj=>(AN.out.kept (Qa wJ o)).free.1;have g1:=fun o:Obj=>(AN.out.kept (Qa wJ o)).free.2.1;have g2:=fun o:Obj=>(AN.out.kept (Qa wJ o)).free.2.2.1;have g3:=fun o:Obj=>(AN.out.kept (Qa wJ o)).free.2.2.2;have i0:=fun o:Obj=>(AN.out.kept (Qa wJ o)).cells.1;have i1:=fun o:Obj=>(AN.out.kept (Qa wJ o)).cells.2.1;have i2:=fun o:Obj=>(AN.out.kept (Qa wJ o)).cells.2.2.1;have i3:=fun o:Obj=>(AN.out.kept (Qa wJ o)).cells.2.2.2;have hlt:=AN.out.lt;(first | (have ROW:Hid (wJ.heap[wc.heap.size]?=some (.cells #[.int .i64 y.pg,.bool y.x.s.leaf,.slice y.x.A y.x.n y.x.c,.slice y.x.B y.x.m y.x.d,.slice y.x.C y.x.k y.x.e,.int .i64 l.pg,.bool l.x.s.leaf,.slice l.x.A l.x.n l.x.c,.slice l.x.B l.x.m l.x.d,.slice l.x.C l.x.k l.x.e] 171 (0,0))):=iQ ((bj.block wc.heap.size (by simp)).trans (heap_alloc_new wc (.cells #[.int .i64 y.pg,.bool y.x.s.leaf,.slice y.x.A y.x.n y.x.c,.slice y.x.B y.x.m y.x.d,.slice y.x.C y.x.k y.x.e,.int .i64 l.pg,.bool l.x.s.leaf,.slice l.x.A l.x.n l.x.c,.slice l.x.B l.x.m l.x.d,.slice l.x.C l.x.k l.x.e] 171)))) | skip);unfold NV.val;clear jn zok zs zhi bj hbj))
  all_goals (
   have h4:=Zk wJ (q+1+1+1) (.bool z.s.leaf) (.slice z.A z.n z.c) (.slice z.B z.m z.d) (.slice z.C z.k z.e);have hq:=HQC.out;have nb:=AN.out.put (.bool z.s.leaf) (.slice z.A z.n z.c) (.slice z.B z.m z.d) (.slice z.C z.k z.e);have hg:=(Qv (row:=some (q+1+1+1)) BJ.out).trans h4;have yo:=(HYO.out.kept BJ.out).grown HYI.out (by have:=HQ2.out;omega) h4;have zo:=ZOK.out.grown ZHI.out (by omega) h4;have hne:some wc.heap.size≠some (q+1+1+1):=fun e=>by have:=wa0 e;omega
   have hs0:=BJ.out.size;have hqw:w.heap.size<=wd.heap.size:=by have:=HQ0.out;have:=HQ2.out;omega
   have hqc:w.heap.size<=wc.heap.size:=by have:=HQ0.out;omega
   have hM4:Qb w F _ F1:=MC.out.grown hg (fun g e=>by have hq0:=HQ0.out;obtain rfl:=wa0 e;omega)
   first
    | (have row:=(h4.block wc.heap.size (wa1.1 ROW.out).1 hne).trans ROW.out
       have HD:Hid (UH W F w tb pb db l kid [(kv,v),l.at_] (v.join (us.keys.getD kid []) x.s) t (.returned _) _):=iQ (QG (fr:=kid) (l1:=y) (l2:=l) HTC.out MC.out hg (wg9 HQ0.out) HWq.out NF2.out row (HTC.out.new (wa2 _)) yo (HLI.out.mo hM4) (by rw [HYA.out]) zo (by rw [ZS.out,HSV.out,show y.x.s=v from congrArg Prod.snd HYA.out]) (Or.inr (HYI.out.low hqw)) (Or.inl rfl) (ZHI.out.low hqc) hqc);obtain ⟨z0,z1,z2,z3⟩:=nb.cells;clear e0 e1 e2 e3 f0 f1 f2 f3 g0 g1 g2 g3 i0 i1 i2 i3 h4 hg yo zo nb row hM4;go_wp2_with fail;refine bodyPost_ret (v := .tuple #[.int .i64 ((kid:Nat):Int),.slice (some ⟨wc.heap.size,0,none⟩) 2 2,.agg #[.bool z.s.leaf,.slice z.A z.n z.c,.slice z.B z.m z.d,.slice z.C z.k z.e],.int .i64 0]) (by simp [results,Tryz.results137,go_sem,z0,z1,z2,z3]) rfl ?_;exact HD.out)
    | (have bL:=Qa ((((wJ.setCell ⟨q+1+1+1,0,none⟩ (.bool z.s.leaf)).setCell ⟨q+1+1+1,1,none⟩ (.slice z.A z.n z.c)).setCell ⟨q+1+1+1,2,none⟩ (.slice z.B z.m z.d)).setCell ⟨q+1+1+1,3,none⟩ (.slice z.C z.k z.e)) (.cells #[.int .i64 y.pg,.bool y.x.s.leaf,.slice y.x.A y.x.n y.x.c,.slice y.x.B y.x.m y.x.d,.slice y.x.C y.x.k y.x.e,.int .i64 l.pg,.bool l.x.s.leaf,.slice l.x.A l.x.n l.x.c,.slice l.x.B l.x.m l.x.d,.slice l.x.C l.x.k l.x.e] 171)
       have row:=heap_alloc_new ((((wJ.setCell ⟨q+1+1+1,0,none⟩ (.bool z.s.leaf)).setCell ⟨q+1+1+1,1,none⟩ (.slice z.A z.n z.c)).setCell ⟨q+1+1+1,2,none⟩ (.slice z.B z.m z.d)).setCell ⟨q+1+1+1,3,none⟩ (.slice z.C z.k z.e)) (.cells #[.int .i64 y.pg,.bool y.x.s.leaf,.slice y.x.A y.x.n y.x.c,.slice y.x.B y.x.m y.x.d,.slice y.x.C y.x.k y.x.e,.int .i64 l.pg,.bool l.x.s.leaf,.slice l.x.A l.x.n l.x.c,.slice l.x.B l.x.m l.x.d,.slice l.x.C l.x.k l.x.e] 171);have hz4:((((wJ.setCell ⟨q+1+1+1,0,none⟩ (.bool z.s.leaf)).setCell ⟨q+1+1+1,1,none⟩ (.slice z.A z.n z.c)).setCell ⟨q+1+1+1,2,none⟩ (.slice z.B z.m z.d)).setCell ⟨q+1+1+1,3,none⟩ (.slice z.C z.k z.e)).heap.size=wJ.heap.size:=(by simp [World.setCell]);rw [hz4] at row;have HD:Hid (UH W F w tb pb db l kid [(kv,v),l.at_] (v.join (us.keys.getD kid []) x.s) t (.returned _) _):=iQ (QG (fr:=kid) (l1:=y) (l2:=l) HTC.out MC.out (hg.trans (Qv bL)) (wg9 HQ0.out) HWq.out NF2.out row (HTC.out.new hs0) (yo.kept bL) ((HLI.out.mo hM4).kept bL) (by rw [HYA.out]) (zo.kept bL) (by rw [ZS.out,HSV.out,show y.x.s=v from congrArg Prod.snd HYA.out]) (Or.inr (HYI.out.low hqw)) (Or.inl rfl) (ZHI.out.low hqc) (wa9 hqc hs0));obtain ⟨z0,z1,z2,z3⟩:=(nb.kept bL).cells;clear e0 e1 e2 e3 f0 f1 f2 f3 g0 g1 g2 g3 i0 i1 i2 i3 h4 hg yo zo nb row hM4 bL;go_wp2_with fail;refine bodyPost_ret (v := .tuple #[.int .i64 ((kid:Nat):Int),.slice (some ⟨wJ.heap.size,0,none⟩) 2 2,.agg #[.bool z.s.leaf,.slice z.A z.n z.c,.slice z.B z.m z.d,.slice z.C z.k z.e],.int .i64 0]) (by simp [results,Tryz.results137,go_sem,z0,z1,z2,z3]) rfl ?_;exact HD.out))
end
section
variable {W w w':World} {G F F':Nat->Prop} {tb mb pb db:Nat} {t t':TS}
theorem XM {α:Type} {l:List α} {k:Nat} (h:k<l.length):∃ x,l[k]?=some x:=⟨_,wb1 h⟩
theorem NQ (w:World) (A:Option Addr) (n c:Nat) (B:Option Addr) (m d:Nat) (old:List LV) (ns:List NV) (ho:ZZ w F A n c old) (hns:Ja w F B m d ns)
 (hp:∀ x∈old,(-9223372036854775808<=x.pg/\x.pg<=9223372036854775807)/\x.x.s.size<=1000000) (hz:∀ x∈ns,x.s.size<=1000000) (hn:n<=1000) (hm:m<=1000) (h:Ql W F w tb pb db t) :
 Calls Tryz.prog 135 #[.pointer (some ⟨tb,0,none⟩),.slice A n c,.slice B m d] w (zg3 W F w tb pb db (t.lay (old.map LV.at_) (ns.map NV.s))):=by
 have H:=iQ h;have HO:=iQ ho;have HNS:=iQ hns;have HP:=iQ hp;have HZ:=iQ hz;have OL:=iQ ho.len;have NL:=iQ hns.len;obtain ⟨mm,hmm⟩:∃ mm,min n m=mm:=⟨_,rfl⟩;have hmn:mm<=n:=by omega
 have HMM:=iQ hmm;have HDR:Hid ((old.map LV.at_).drop (ns.map NV.s).length=(old.drop mm).map LV.at_):=iQ (by
  rw [wd2,hns.len,<- wg4];rcases Nat.le_total n m with e | e
  ·rw [wc6 (by rw [ho.len];omega),wc6 (by rw [ho.len];omega)]
  ·rw [show mm=m by omega])
 have LQ:=iQ (TS.lay_eq t (old.map LV.at_) (ns.map NV.s));have L0:=iQ (ho.drop hmn);have HFR:=iQ (zl9 (n:=n) (c:=c) (k:=mm) A hmn w);obtain ⟨ii,hi,hz0,hz1,hz2⟩:=info_parts QP;clear h ho hns hp hz hmm;go_enter Tryz.func135,Tryz.ntmps135;go_upto_region 1 with fail
 go_cut [23,24,25] (fun s23 s24 s25 wx=>s23 = .slice (XT A c 5 mm) (n - mm) (c - mm)/\s24 = .int .i64 ((n - mm:Nat):Int)/\s25 = .int .i64 0/\wx=w)
 case first =>
  have hmm:=HMM.out;have hfr:=HFR.out;rcases we1 m n with h5 | h5
  ·obtain rfl:m=mm:=by omega
   have h6:min (n:Int) (m:Int)=(m:Int):=by omega
   clear hmm h5;go_wp2_with fail;all_goals (
    go_meet
    exact ⟨by first | rfl | simp,by first | rfl | simp,rfl,rfl⟩)
  ·obtain rfl:n=mm:=by omega
   have h6:min (n:Int) (m:Int)=(n:Int):=by omega
   clear hmm h5;go_wp2_with fail;all_goals (
    go_meet
    exact ⟨by first | rfl | simp,by first | rfl | simp,rfl,rfl⟩)
 case rest =>
  obtain ⟨rfl,rfl,rfl,rfl⟩:=hcut;obtain ⟨N1,hN1⟩:∃ N1,n - mm=N1:=⟨_,rfl⟩;obtain ⟨C1,hC1⟩:∃ C1,c - mm=C1:=⟨_,rfl⟩;rw [hN1,hC1] at L0;rw [hN1,hC1];obtain ⟨A1,hA1⟩:∃ A1,XT A c 5 mm=A1:=⟨_,rfl⟩;rw [hA1] at L0;rw [hA1];have hN:N1<=1000:=by omega
  have YT:Hid (∀ x∈old.drop mm,(-9223372036854775808<=x.pg/\x.pg<=9223372036854775807)/\x.x.s.size<=1000000):=iQ (fun x hx=>HP.out x (wf5 hx));generalize hr1:old.drop mm=ZJ at *;have S0:Hid (zo1 W F wc tb pb db t (ZJ.map LV.at_) 0 wc):=iQ ⟨t,F,H.out,⟨Qj.refl _ _,fun _ hk=>Or.inl hk⟩,rfl⟩;clear hN1 hC1 hA1 hr1 HMM HFR;go_wp2_with fail;go_loopw [25] (fun s wr=>∃ k:Nat,k<=N1/\s = .int .i64 k/\Hid (zo1 W F wc tb pb db t (ZJ.map LV.at_) k wr)) (fun s _=>N1 - (RowKit.intOf s).toNat)
  case atStart=>exact ⟨0,wb3 _,rfl,S0⟩
  case round =>
   obtain ⟨k,hk,rfl,hrel⟩:=hrel;obtain ⟨tk,Fk,hT,hM,hR⟩:=hrel.out;have HT:=iQ hT;have HM:=iQ hM;have HR:=iQ hR;clear hT hM hR hrel;by_cases hlt:k<N1
   ·have hlen:=L0.out.len
    obtain ⟨x,hx⟩:=XM (l:=ZJ) (k:=k) (by omega);obtain ⟨b,off,rfl,hb,hnF,hok,c0,c1,c2,c3,c4⟩:=(L0.out.mo HM.out).at_ hx;have HX:=iQ hx;obtain ⟨⟨p1,p2⟩,_⟩:=YT.out x (wb5 hx);have b1:=Qa wr (.cells #[.int .i64 x.pg,.bool x.x.s.leaf,.slice x.x.A x.x.n x.x.c,.slice x.x.B x.x.m x.x.d,.slice x.x.C x.x.k x.x.e] 171);have HT1:=iQ (HT.out.kept b1);have Gx:=iQ (HM.out.trans (Qb.ob b1));have i0:(0:Int)<=(k:Int):=(by omega);clear b1 hx hlen hnF hok;go_wp2_with fail;refine (YN _ x.pg p1 p2 HT1.out).mono ?_;rintro e w2 ⟨rfl,F2,g2,m2⟩;have HT2:=iQ g2;have HM2:=iQ (Gx.out.trans m2);have HST:=iQ (TS.relAll_cons tk x.at_ ((ZJ.map LV.at_).drop (k+1)));have HCO:Hid ((ZJ.map LV.at_).drop k=x.at_::(ZJ.map LV.at_).drop (k+1)):=iQ (by
     have h1:(ZJ.map LV.at_)[k]?=some x.at_:=by rw [wc7,HX.out];rfl
     obtain ⟨h2,h3⟩:=wa8.1 h1;rw [wc4 h2,h3])
    clear g2 m2 c0 c1 c2 c3 c4;rcases hq:tk.rel x.pg with ⟨r,t2⟩
    have HQ:Hid (tk.rel x.at_.1=(r,t2)):=iQ hq;rw [hq] at HT2;dsimp only at HT2 ⊢;clear hq;by_cases he:r=0
    ·subst he
     have hrel:Hid (zo1 W F wc tb pb db t (ZJ.map LV.at_) (k+1) w2):=iQ ⟨t2,F2,HT2.out,HM2.out,by
      rw [HR.out,HCO.out,HST.out,HQ.out,if_pos rfl]⟩
     go_wp2_with fail;go_roundw;case rel=>exact ⟨k+1,by omega,by go_num,hrel⟩
     case measure=>simp [RowKit.intOf];omega
    ·have hb2:(r != 0)=true:=bne_iff_ne.2 he
     have HD:Hid (zg3 W F wc tb pb db (t.lay (old.map LV.at_) (ns.map NV.s)) (.returned (.tuple #[.slice none 0 0,.int .i64 r])) w2):=iQ (by
      have e1:t.relAll (ZJ.map LV.at_)=(r,t2):=(by rw [HR.out,HCO.out,HST.out,HQ.out,if_neg he]);rw [LQ.out,HDR.out,e1,if_neg he];exact ⟨_,_,_,F2,rfl,Xv.none_ _ _ _,HT2.out,HM2.out⟩)
     clear he;go_wp2_with fail;refine bodyPost_ret (v := .tuple #[.slice none 0 0,.int .i64 r]) (by simp [results,Tryz.results135,go_sem]) rfl ?_;exact HD.out
   ·have hkN:k=N1:=by omega
    have HE:Hid (t.relAll (ZJ.map LV.at_)=(0,tk)):=iQ (by
     rw [HR.out,wc6 (by rw [wd2,L0.out.len];omega)];rfl)
    have HLQ:Hid (t.lay (old.map LV.at_) (ns.map NV.s)=tk.wrAll (old.map LV.at_) (ns.map NV.s)):=iQ (by
     rw [LQ.out,HDR.out,HE.out,if_pos rfl])
    have S2:Hid (zo0 W F wc tb pb db (t.lay (old.map LV.at_) (ns.map NV.s)) (old.map LV.at_) (ns.map NV.s) 0 (.slice none 0 0) wr):=iQ
     ⟨tk,Fk,[],HT.out,HM.out,⟨World.ownsRow_nil _ _ _ _,fun g e=>by cases e⟩,rfl,by rw [HLQ.out,List.drop_zero,List.drop_zero,TS.more_nil]⟩
    clear HE HLQ HR HT HM hkN LQ HDR S0 L0 YT;go_wp2_with fail;go_loopw [39,11] (fun s v wr=>∃ k:Nat,k<=m/\s = .int .i64 k/\Hid (zo0 W F wc tb pb db (t.lay (old.map LV.at_) (ns.map NV.s)) (old.map LV.at_) (ns.map NV.s) k v wr)) (fun s _ _=>m - (RowKit.intOf s).toNat)
    case atStart=>exact ⟨0,wb3 _,rfl,S2⟩
    case round =>
     obtain ⟨k,hk,rfl,hrel⟩:=hrel;obtain ⟨tk,Fk,xs,hT,hM,hO,hxl,hR⟩:=hrel.out;have HT:=iQ hT;have HM:=iQ hM;have HOW:=iQ hO;have HXL:=iQ hxl;have HR:=iQ hR;clear hT hM hO hxl hR hrel;by_cases hlt:k<m
     ·obtain ⟨x,hx⟩:=XM (l:=ns) (k:=k) (by have:=NL.out;omega)
      have HX:Hid ((ns.map NV.s)[k]?=some x.s):=iQ (by rw [wc7,hx];rfl);have hxz:=HZ.out x (wb5 hx);obtain ⟨b,off,rfl,hb,hnF,hok,c0,c1,c2,c3⟩:=(HNS.out.mo HM.out).at_ hx;have HOK:=iQ hok;have i0:(0:Int)<=(k:Int):=(by omega);clear hx hnF hok
      -- the old one, or none
      obtain ⟨l,hl0,hl1,hl2,hl3⟩:∃ l:LV,TS.first ((old.map LV.at_).drop k)=l.at_/\l.x.ok wr Fk/\((-9223372036854775808<=l.pg/\l.pg<=9223372036854775807)/\l.x.s.size<=1000000)/\((k<n/\old[k]?=some l)\/(n<=k/\l=LV.zero)):=by
       by_cases hkn:k<n
       ·obtain ⟨l,hl⟩:=XM (l:=old) (k:=k) (by have:=OL.out;omega)
        refine ⟨l,?_,((HO.out.ok l (wb5 hl)).mo HM.out),HP.out l (wb5 hl),Or.inl ⟨hkn,hl⟩⟩;have h1:(old.map LV.at_)[k]?=some l.at_:=by rw [wc7,hl];rfl
        obtain ⟨h2,h3⟩:=wa8.1 h1;rw [wc4 h2,h3];rfl
       ·refine ⟨LV.zero,?_,NV.zero_ok _ _,⟨⟨by decide,by decide⟩,by decide⟩,Or.inr ⟨by omega,rfl⟩⟩
        rw [wc6 (by rw [wd2,OL.out];omega)];rfl
      have HL0:=iQ hl0;have HL1:=iQ hl1;obtain ⟨⟨p1,p2⟩,p3⟩:=hl2;have b1:=Qa wr (.cells #[.bool x.s.leaf,.slice x.A x.n x.c,.slice x.B x.m x.d,.slice x.C x.k x.e] 75);have b2:=Qa (wr.alloc (.cells #[.bool x.s.leaf,.slice x.A x.n x.c,.slice x.B x.m x.d,.slice x.C x.k x.e] 75)) (.cells #[.int .i64 l.pg,.bool l.x.s.leaf,.slice l.x.A l.x.n l.x.c,.slice l.x.B l.x.m l.x.d,.slice l.x.C l.x.k l.x.e] 171);have BW:=iQ (b1.trans (b2.mono b1.size));have CW:=iQ (qY3 _ l.pg p1 p2 l.x.s.leaf _ _ _ _ _ _ _ _ _ l.x.s x.s.leaf _ _ _ _ _ _ _ _ _ x.s (HL1.out.kept BW.out).nd (HOK.out.kept BW.out) rfl rfl p3 hxz (HT.out.kept BW.out));clear hl0 hl1 b1 b2
      go_upto_if 47 with fail
      go_cut [14] (fun s14 wx=>s14 = .pointer (some ⟨wr.heap.size+1,0,none⟩)/\wx=(wr.alloc (.cells #[.bool x.s.leaf,.slice x.A x.n x.c,.slice x.B x.m x.d,.slice x.C x.k x.e] 75)).alloc (.cells #[.int .i64 l.pg,.bool l.x.s.leaf,.slice l.x.A l.x.n l.x.c,.slice l.x.B l.x.m l.x.d,.slice l.x.C l.x.k l.x.e] 171))
      case first =>
       rcases hl3 with ⟨hkn,hl⟩ | ⟨hkn,rfl⟩
       ·obtain ⟨b',off',rfl,hb',qS0,hok',y0,y1,y2,y3,y4⟩:=(HO.out.mo HM.out).at_ hl
        have hkd:decide (k<n)=true:=decide_eq_true hkn;clear hl qS0 hok';go_wp2_with fail;all_goals (
         go_meet
         exact ⟨rfl,rfl⟩)
       ·have hkn':¬ k<n:=by omega
        clear hkn;go_wp2_with fail;all_goals (
         go_meet
         exact ⟨rfl,rfl⟩)
      case rest =>
       obtain ⟨rfl,rfl⟩:=hcut;have X0:=iQ ((Qp wr (.bool x.s.leaf) (.slice x.A x.n x.c) (.slice x.B x.m x.d) (.slice x.C x.k x.e)).kept (Qa _ (.cells #[.int .i64 l.pg,.bool l.x.s.leaf,.slice l.x.A l.x.n l.x.c,.slice l.x.B l.x.m l.x.d,.slice l.x.C l.x.k l.x.e] 171)));have X1:=iQ (Xw (wr.alloc (.cells #[.bool x.s.leaf,.slice x.A x.n x.c,.slice x.B x.m x.d,.slice x.C x.k x.e] 75)) (.int .i64 l.pg) (.bool l.x.s.leaf) (.slice l.x.A l.x.n l.x.c) (.slice l.x.B l.x.m l.x.d) (.slice l.x.C l.x.k l.x.e));rw [show (wr.alloc (.cells #[.bool x.s.leaf,.slice x.A x.n x.c,.slice x.B x.m x.d,.slice x.C x.k x.e] 75)).heap.size=wr.heap.size+1 by simp] at X1;have bs:=HM.out.kept.size;generalize (wr.alloc (.cells #[.bool x.s.leaf,.slice x.A x.n x.c,.slice x.B x.m x.d,.slice x.C x.k x.e] 75)).alloc (.cells #[.int .i64 l.pg,.bool l.x.s.leaf,.slice l.x.A l.x.n l.x.c,.slice l.x.B l.x.m l.x.d,.slice l.x.C l.x.k l.x.e] 171)=wq at *;obtain ⟨z0,z1,z2,z3⟩:=X0.out.cells;obtain ⟨y0,y1,y2,y3,y4⟩:=X1.out.cells;clear c0 c1 c2 c3 X0 X1;go_wp2_with fail;refine CW.out.mono ?_;rintro e w3 ⟨rfl,F3,g3,m3⟩;have HT3:=iQ g3;have HM3:=iQ ((HM.out.trans (Qb.ob BW.out)).trans m3);have HO3:=iQ ((HOW.out.kept BW.out).mo m3);clear g3 m3 z0 z1 z2 z3 y0 y1 y2 y3 y4 CW HL1 HOK;have HME:=iQ (TS.more_step (t:=tk) (old:=old.map LV.at_) (ns:=ns.map NV.s) xs HX.out);have HMB:=iQ (TS.more_bad (t:=tk) (old:=old.map LV.at_) (ns:=ns.map NV.s) xs HX.out);rw [HL0.out] at HME HMB;rcases hq:tk.wr (l.pg,l.x.s) x.s with ⟨r,q,t2⟩
       rw [show tk.wr l.at_ x.s=(r,q,t2) from hq] at HME HMB;rw [hq] at HT3;dsimp only at HT3 HME HMB ⊢;clear hq;by_cases he:r=0
       ·subst he
        have hxl:=HXL.out;have o3:=HO3.out.own;have hm3:=HM3.out.kept.size;go_wp2_with (at_builtin;refine wpList_append_own_at _ rfl (.tmp 62) (.tmp 64) 40 rfl wc.heap.size 3 ii (.int .i64 0) 1 8 Tryz.underlying40 hi hz0 hz1 hz2 rfl (by decide) _ _ _ rfl (o3.alloc _) ⟨w3.heap.size,0,none⟩ 1 1 [.int .i64 q] rfl rfl (cell_one_new _ _ _) (by simp [Value.oneCell']) (by unfold maxLen;omega) (by omega) (by simp;omega) ?_;intro v4 w4 hown4 hg4 _ qS6);have b4:=Qa w3 (.cells #[.int .i64 q] 3);have zo7:=HO3.out.kept b4;have hrow:∀ g,(u11:Value).ownBlock=some g->¬ F3 g/\W.heap.size<=g:=fun g e=>⟨zo7.out g e,wa9 H.out.below.size (o3.lt g e).1⟩;have HT4:=(HT3.out.kept b4).grown hg4 hrow;have HM4:=(HM3.out.trans (Qb.ob b4)).grown hg4 (fun g e=>(o3.lt g e).1);have hrel:Hid (zo0 W F wc tb pb db (t.lay (old.map LV.at_) (ns.map NV.s)) (old.map LV.at_) (ns.map NV.s) (k+1) v4 w4):=iQ
         ⟨t2,F3,xs++[q],HT4,HM4,⟨by simpa [Qc] using hown4,fun g e=>by
          rcases qS6 with e1 | e1
          ·exact zo7.out g (e1 ▸ e)
          ·rw [e1] at e
           obtain rfl:=wa0 e;exact HT3.out.new (by simp)⟩,by simp [hxl],by rw [HR.out,HME.out rfl]⟩
        clear o3 hown4 hg4 qS6 b4 zo7 hrow HT4 HM4;go_roundw;case rel=>exact ⟨k+1,by omega,by go_num,hrel⟩
        case measure=>simp [RowKit.intOf];omega
       ·have hb2:(r != 0)=true:=bne_iff_ne.2 he
        have HD:Hid (zg3 W F wc tb pb db (t.lay (old.map LV.at_) (ns.map NV.s)) (.returned (.tuple #[.slice none 0 0,.int .i64 r])) w3):=iQ (by
         rw [HR.out,HMB.out he];exact ⟨_,_,_,F3,rfl,Xv.none_ _ _ _,HT3.out,HM3.out⟩)
        clear he HME HMB;go_wp2_with fail;refine bodyPost_ret (v := .tuple #[.slice none 0 0,.int .i64 r]) (by simp [results,Tryz.results135,go_sem]) rfl ?_;exact HD.out
     ·have JV:k=m:=by omega
      have hfin:=TS.more_end tk (old.map LV.at_) (ns:=ns.map NV.s) (k:=k) xs (by rw [wd2,NL.out];omega);obtain ⟨A5,c5,e5,l5⟩:=HOW.out.ln;subst e5;have HD:Hid (zg3 W F wc tb pb db (t.lay (old.map LV.at_) (ns.map NV.s)) (.returned (.tuple #[.slice A5 xs.length c5,.int .i64 0])) wr):=iQ (by
       rw [HR.out,hfin];exact ⟨_,_,_,Fk,rfl,l5,HT.out,HM.out⟩)
      clear hfin l5 JV;go_wp2_with fail;refine bodyPost_ret (v := .tuple #[.slice A5 xs.length c5,.int .i64 0]) (by simp [results,Tryz.results135,go_sem]) rfl ?_;exact HD.out
end
end
end Go.Proofs.YtfiflinbicbedaaGreat
