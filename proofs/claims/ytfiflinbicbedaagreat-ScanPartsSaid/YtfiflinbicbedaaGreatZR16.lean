/-
  A part of the proof. Conditions: none.
-/
import Derived.Test.YtfiflinbicbedaaGreatZR9
import Derived.Test.YtfiflinbicbedaaGreatZR15

set_option maxRecDepth 20000
set_option maxHeartbeats 12800000
namespace Go.Proofs.YtfiflinbicbedaaGreat
section
open Go.RowKit Go.Maps
namespace TS
theorem wrAll_len:∀ (ns:List ND) (t:TS) (old:List (Int×ND)),(t.wrAll old ns).1=0->(t.wrAll old ns).2.1.length=ns.length
 | [],_,_,_=>rfl
 | n::ns,t,old,h=>by
   unfold wrAll at h ⊢;split at h
   ·rename_i h1
    split at h
    ·rename_i h2
     rw [if_pos h1,if_pos h2];show (_::_).length=_;rw [wb4,wb4,wrAll_len ns _ _ h2]
    ·rename_i h2
     exact absurd h h2
   ·rename_i h1
    exact absurd h h1
theorem lay_len {t:TS} {old:List (Int×ND)} {ns:List ND} (h:(t.lay old ns).1=0):(t.lay old ns).2.1.length=ns.length:=by
 unfold lay at h ⊢;split at h
 ·rename_i h1
  rw [if_pos h1];exact wrAll_len _ _ _ h
 ·rename_i h1
  exact absurd h h1
theorem partsN_len (n:ND):(partsN n).length<=2:=by unfold partsN;split<;>simp
theorem partsK_len (n:ND):(partsK n).length<=1:=by unfold partsK;split<;>simp
end TS
structure Kr (m:ND):Prop where
 size:m.size<=1000\/ND.Most m
 ok:1000<m.size->m.ok=true
theorem ND.tsz_add (l:List (List UInt8)):(l.map (fun k=>5+k.length)).sum<=5*tsz l:=by
 rw [ND.sum_inner];unfold tsz;omega
theorem ND.zip_le:∀ (a b:List (List UInt8)),(List.zipWith (fun k v=>2+k.length+v.length) a b).sum<=tsz a+tsz b
 | [],b=>by simp
 | _::_,[]=>by simp
 | x::a,y::b=>by
   rw [List.zipWith_cons_cons,List.sum_cons,tsz_cons,tsz_cons];have:=zip_le a b;omega
theorem ND.ents_five (m:ND):m.ents.sum<=5*m.size:=by
 unfold ents size;split
 ·have:=zip_le m.keys m.vals
  omega
 ·have:=tsz_add m.keys
  omega
theorem Kr.le {m:ND} (h:Kr m):m.size<=1420:=by
 rcases h.size with h | h
 ·omega
 ·unfold ND.Most at h
  split at h<;>omega
theorem Kr.parts {m:ND} (h:Kr m):∀ y∈TS.partsN m,y.size<=1000000:=by
 unfold TS.partsN;by_cases hs:m.size<=1000
 ·rw [if_pos hs]
  intro y hy;rw [wa4.1 hy];omega
 ·rw [if_neg hs]
  have hh:=ND.halves2 (h.ok (by omega)) (by omega) (h.size.resolve_left hs);intro y hy;have a:=hh.l2;have b:=hh.r2;rcases wb6.1 hy with rfl | hy
  ·omega
  ·rw [wa4.1 hy]
   omega
section
variable {W w w':World} {G F F':Nat->Prop} {tb mb pb db:Nat} {t t':TS}
def TNd (W:World) (F:Nat->Prop) (w:World) (tb pb db:Nat) (r:Int×ND×TS) (e:Ending) (w':World):Prop :=
 ∃ y F',e = .returned (.tuple #[NV.val y,.int .i64 r.1])/\y.ok w' F'/\y.s=r.2.1/\Ql W F' w' tb pb db r.2.2/\Qb w F w' F'
theorem Ql.z4 (h:Ql W F w tb pb db t):t.z<=4096:=by
 obtain ⟨G,mb,A,n,c,B,m,d,f,h⟩:=h;exact h.box.fit.z4
theorem Xv.grownHi {r b sz n c:Nat} {A:Option Addr} {cs:List Value} (h:Xv w F sz A n c cs) (hs:0<sz) (hh:Yp b A) (hb:r<b) (hg:w.grownBy w' (some r)):Xv w' F sz A n c cs :=
 ⟨h.ln.mq hs (fun hn ad e=>hg.block _ (h.ln.lt (Nat.mul_pos hn hs) e) (fun e2=>by
  have h3:=hh ad e;have h4:=wa0 e2;omega)),h.out⟩
theorem JB.put {q:Nat} {u:SV} {l:LV} {x z:NV} {a b c d:Value} (h:JB w q u l x a b c d):JB ((((w.setCell ⟨q+1+1,0,none⟩ (.bool z.s.leaf)).setCell ⟨q+1+1,1,none⟩ (.slice z.A z.n z.c)).setCell ⟨q+1+1,2,none⟩ (.slice z.B z.m z.d)).setCell ⟨q+1+1,3,none⟩ (.slice z.C z.k z.e)) q u l z a b c d:=by
 have hg:=Zk w (q+1+1) (.bool z.s.leaf) (.slice z.A z.n z.c) (.slice z.B z.m z.d) (.slice z.C z.k z.e);have hl:=h.lt;have hne:∀ k,k≠q+1+1->some k≠some (q+1+1):=fun k hk e=>hk (wa0 e);exact ⟨(hg.block q (by omega) (hne _ (by omega))).trans h.st,(hg.block (q+1) (by omega) (hne _ (by omega))).trans h.la,h.no.put _ _ _ _,(hg.block (q+1+1+1) (by omega) (hne _ (by omega))).trans h.an⟩
structure Gj (t:TS) (up:ND) (i:Nat) (x:ND):Prop where
 upok:up.ok=true
 leaf:up.leaf=false
 size:up.size<=1000
 le:i<=up.keys.length
 xs:x.size<=100000
 far:¬ x.size<300->Kr x
 next:x.size<300->i<up.keys.length->0<=up.kids.getD (i+1) 0/\up.kids.getD (i+1) 0<t.z/\TS.nodeAt t.nd (up.kids.getD (i+1) 0) x.leaf=some (t.kidOf up (i+1))/\Kr (x.join (up.keys.getD i []) (t.kidOf up (i+1)))
 last:x.size<300->¬ i<up.keys.length->0<=up.kids.getD (i - 1) 0/\up.kids.getD (i - 1) 0<t.z/\TS.nodeAt t.nd (up.kids.getD (i - 1) 0) x.leaf=some (t.kidOf up (i - 1))/\Kr ((t.kidOf up (i - 1)).join (up.keys.getD (i - 1) []) x)
theorem qA9 (w:World) (u:SV) (l:LV) (x:NV) (hu:u.l.x.ok w F) (hl:l.x.ok w F) (hx:x.ok w F) (hp:Gj t u.l.x.s u.kid x.s) (hsm:x.s.size<300) (h:Ql W F w tb pb db t) :
 Calls Tryz.prog 137 #[.pointer (some ⟨tb,0,none⟩),u.val,l.val,x.val] w (fun e w'=>∃ fr old m,UH W F w tb pb db l fr old m t e w'/\fr<=1000/\t.settle u.l.x.s u.kid l.at_ x.s=t.fin u.l.x.s fr old m/\Kr m/\old.length=2/\∀ y∈old,y=l.at_\/(0<=y.1/\y.1<t.z/\y.2.size<=1000)):=by
 obtain ⟨h0,h1,h2,h3⟩:=ND.ok_inner hp.upok hp.leaf;have hsz:=hp.size;have hkl:u.l.x.s.keys.length<=1000:=by unfold ND.size ND.tsz at hsz;omega
 by_cases hi:u.kid<u.l.x.s.keys.length
 ·obtain ⟨a,b,c,d⟩:=hp.next hsm hi
  have e:t.settle u.l.x.s u.kid l.at_ x.s=t.fin u.l.x.s u.kid [l.at_,(u.l.x.s.kids.getD (u.kid+1) 0,t.kidOf u.l.x.s (u.kid+1))] (x.s.join (u.l.x.s.keys.getD u.kid []) (t.kidOf u.l.x.s (u.kid+1))):=by
   unfold TS.settle;rw [if_pos hsm,if_pos hi]
  refine (qf4 w u l x _ hu hl hx hp.size hi h1 hp.xs a b c h).mono ?_;intro e1 w1 hj;refine ⟨_,_,_,hj,by omega,e,d,rfl,fun y hy=>?_⟩;rcases wb6.1 hy with rfl | hy
  ·exact Or.inl rfl
  ·rw [wa4.1 hy]
   exact Or.inr ⟨a,b,(h.nodeOk a b (Yg c).1).2⟩
 ·obtain ⟨a,b,c,d⟩:=hp.last hsm hi
  have hle:=hp.le;have e:t.settle u.l.x.s u.kid l.at_ x.s=t.fin u.l.x.s (u.kid - 1) [(u.l.x.s.kids.getD (u.kid - 1) 0,t.kidOf u.l.x.s (u.kid - 1)),l.at_] ((t.kidOf u.l.x.s (u.kid - 1)).join (u.l.x.s.keys.getD (u.kid - 1) []) x.s):=by
   unfold TS.settle;rw [if_pos hsm,if_neg hi]
  refine (qb3 w (u.kid - 1) u l x _ hu hl hx hp.size (by omega) (by omega) h1 hp.xs a b c h).mono ?_;intro e1 w1 hj;refine ⟨_,_,_,hj,by omega,e,d,rfl,fun y hy=>?_⟩;rcases wb6.1 hy with rfl | hy
  ·exact Or.inr ⟨a,b,(h.nodeOk a b (Yg c).1).2⟩
  ·rw [wa4.1 hy]
   exact Or.inl rfl
def zn5 (W:World) (F:Nat->Prop) (w:World) (tb pb db:Nat) (q:Nat) (u:SV) (l:LV) (t:TS) (r:Int×ND×TS) (s10 s11:Value) (wx:World):Prop :=
 ∃ (fr:Nat) (A:Option Addr) (n c:Nat) (old:List LV) (m:NV) (F':Nat->Prop),s10 = .int .i64 ((fr:Nat):Int)/\s11 = .slice A n c/\ZZ wx F' A n c old/\n<=2/\fr<=1000/\(∀ y∈old,(-9223372036854775808<=y.pg/\y.pg<=9223372036854775807)/\y.x.s.size<=1000000) /\
   JB wx q u l m (.bool false) (.slice none 0 0) (.slice none 0 0) (.slice none 0 0)/\m.ok wx F'/\Ql W F' wx tb pb db t/\Qb w F wx F'/\(∀ k,q<=k->k<q+4->¬ F' k)/\r=t.fin u.l.x.s fr (old.map LV.at_) m.s/\Kr m.s
theorem qg2 (w:World) (u:SV) (l:LV) (x:NV) (hu:u.l.x.ok w F) (hl:l.x.ok w F) (hx:x.ok w F) (hp:Gj t u.l.x.s u.kid x.s) (hpg : -9223372036854775808<=l.pg/\l.pg<=9223372036854775807) (hls:l.x.s.size<=1000000) (h:Ql W F w tb pb db t) :
 Calls Tryz.prog 96 #[.pointer (some ⟨tb,0,none⟩),u.val,l.val,x.val] w (TNd W F w tb pb db (t.settle u.l.x.s u.kid l.at_ x.s)):=by
 obtain ⟨r,hr⟩:∃ r,t.settle u.l.x.s u.kid l.at_ x.s=r:=⟨_,rfl⟩;rw [hr];have HR:=iQ hr;clear hr;obtain ⟨w0,hw0⟩:∃ w0,w0=(((w.alloc (.cells #[.int .i64 u.l.pg,.bool u.l.x.s.leaf,.slice u.l.x.A u.l.x.n u.l.x.c,.slice u.l.x.B u.l.x.m u.l.x.d,.slice u.l.x.C u.l.x.k u.l.x.e,.int .i64 ((u.kid:Nat):Int)] 173)).alloc (.cells #[.int .i64 l.pg,.bool l.x.s.leaf,.slice l.x.A l.x.n l.x.c,.slice l.x.B l.x.m l.x.d,.slice l.x.C l.x.k l.x.e] 171)).alloc (.cells #[.bool x.s.leaf,.slice x.A x.n x.c,.slice x.B x.m x.d,.slice x.C x.k x.e] 75)).alloc (.cells #[.bool false,.slice none 0 0,.slice none 0 0,.slice none 0 0] 75):=⟨_,rfl⟩;obtain ⟨jb,b0,z0⟩:=qr7 w u l x w0 hw0;have JB0:=iQ jb;have B0:=iQ b0;have HT:=iQ h;have HU:=iQ hu;have HL:=iQ hl;have HX:=iQ hx;have HP:=iQ hp;have HPG:=iQ hpg;have HLS:=iQ hls;have FY:Hid (∀ k,w.heap.size<=k->¬ F k):=iQ (fun k hk=>h.new hk);clear h hu hl hx hp hpg hls jb b0;go_enter Tryz.func96,Tryz.ntmps96;unfold SV.val LV.val NV.val;go_upto_region 1 with fail
 rw [<- hw0];clear hw0;obtain ⟨q,hq0⟩:∃ q,w.heap.size=q:=⟨_,rfl⟩;rw [hq0] at z0 JB0 FY ⊢;have HQ0:=iQ hq0;clear hq0;obtain ⟨c0,c1,c2,c3,c4,c5⟩:=Zo _ _ _ _ _ _ _ _ JB0.out.st;obtain ⟨l0,l1,l2,l3,l4⟩:=JB0.out.la.cells;go_cut [10,11] (fun s10 s11 wx=>∃ g,s10 = .int .i64 ((u.kid:Nat):Int)/\s11 = .slice (some ⟨g,0,none⟩) 1 1/\wx.heap[g]?=some (.cells #[.int .i64 l.pg,.bool l.x.s.leaf,.slice l.x.A l.x.n l.x.c,.slice l.x.B l.x.m l.x.d,.slice l.x.C l.x.k l.x.e] 171 (0,0))/\Below w0.heap.size w0 wx/\w0.heap.size<=g)
 case first =>
  have hd0:=(Below.refl w0.heap.size w0).drew;go_region
  all_goals (
   go_wp2_with fail
   go_meet
   first
    | exact ⟨_,rfl,rfl,by rw [<- z0];exact heap_alloc_new w0 _,(Qa w0 _).drew,wg9 z0⟩
    | exact ⟨_,rfl,rfl,by rw [<- z0];exact heap_alloc_new w0.drew _,hd0.trans (Qa w0.drew _),wg9 z0⟩)
 case rest =>
  obtain ⟨g,rfl,rfl,hrow,hb⟩:=hcut;obtain ⟨hb,hg0⟩:=hb;have JB1:=iQ (JB0.out.kept hb);have M1:=iQ ((Qb.ob (F:=F) B0.out).trans (Qb.ob hb));have hbx:Below w.heap.size w wc:=by rw [HQ0.out];have:=B0.out;rw [HQ0.out] at this;exact this.trans (hb.mono (by omega))
  have T1:=iQ (HT.out.kept hbx);have HU1:=iQ (HU.out.kept hbx);have UD:=iQ (HX.out.kept hbx);have HGL:Hid (q+4<=g):=iQ (by omega);have HRW:=iQ hrow;obtain ⟨n0,n1,n2,n3⟩:=JB1.out.no.cells;clear hb hrow hbx c0 c1 c2 c3 c4 c5 l0 l1 l2 l3 l4 JB0 B0 hg0;go_wp2_with fail;refine (zb5 x.s.leaf x.A x.n x.c x.B x.m x.d x.C x.k x.e x.s wc UD.out.nd (by have:=HP.out.xs;omega)).mono ?_;rintro e w2 ⟨rfl,b2⟩;have JB2:=iQ (JB1.out.kept b2);have M2:=iQ (M1.out.trans (Qb.ob b2));have T2:=iQ (T1.out.kept b2);have HU2:=iQ (HU1.out.kept b2);have JK:=iQ (UD.out.kept b2);have HRW2:=iQ ((b2.block g (wa1.1 HRW.out).1).trans HRW.out);have NFQ:Hid (∀ k,q<=k->k<q+4->¬ F k):=iQ (fun k h1 _=>FY.out k h1);clear b2 n0 n1 n2 n3 JB1 M1 T1 HU1 UD HRW
  go_upto_if 22 with fail
  go_cut [10,11] (fun s10 s11 wx=>zn5 W F w tb pb db q u l t r s10 s11 wx)
  case first =>
   by_cases hsm:x.s.size<300
   ·have hd:decide (x.s.size<300)=true:=decide_eq_true hsm
    have JA:=iQ (qA9 w2 u l x HU2.out (HL.out.mo M2.out) JK.out HP.out hsm T2.out);rw [hd];obtain ⟨c0,c1,c2,c3,c4,c5⟩:=Zo _ _ _ _ _ _ _ _ JB2.out.st;obtain ⟨l0,l1,l2,l3,l4⟩:=JB2.out.la.cells;obtain ⟨n0,n1,n2,n3⟩:=JB2.out.no.cells;clear hsm hd;go_wp2_with fail;unfold SV.val LV.val NV.val at JA;refine JA.out.mono ?_;rintro e w3 ⟨fr,old,m,⟨A,c,o1,o2,z,F3,rfl,hld,hold,hz,hzs,h3,m3,k1,k2,k3,k4⟩,hfr,hset,hfin,hol,hall⟩;have jb3:=JB2.out.mo m3 FY.out;have hq2:=JB2.out.lt;have hg:=Zk w3 (q+1+1) (.bool z.s.leaf) (.slice z.A z.n z.c) (.slice z.B z.m z.d) (.slice z.C z.k z.e);have hF3:∀ k,q<=k->k<q+4->¬ F3 k:=fun k h1 h2=>m3.not (by omega) (FY.out k h1);have MS:Qb w F ((((w3.setCell ⟨q+1+1,0,none⟩ (.bool z.s.leaf)).setCell ⟨q+1+1,1,none⟩ (.slice z.A z.n z.c)).setCell ⟨q+1+1,2,none⟩ (.slice z.B z.m z.d)).setCell ⟨q+1+1,3,none⟩ (.slice z.C z.k z.e)) F3:=(M2.out.trans m3).grown hg (fun g e=>by obtain rfl:=wa0 e;have:=HQ0.out;omega);have one:∀ o:LV,o.x.ok w3 F3->(o=l\/o.x.hi w2.heap.size)->o.x.ok ((((w3.setCell ⟨q+1+1,0,none⟩ (.bool z.s.leaf)).setCell ⟨q+1+1,1,none⟩ (.slice z.A z.n z.c)).setCell ⟨q+1+1,2,none⟩ (.slice z.B z.m z.d)).setCell ⟨q+1+1,3,none⟩ (.slice z.C z.k z.e)) F3:=fun o ho hk=>by
     rcases hk with rfl | hk
     ·exact HL.out.mo MS
     ·exact ho.grown hk (by omega) hg
    have HC:Hid (zn5 W F w tb pb db q u l t r (.int .i64 ((fr:Nat):Int)) (.slice A 2 c) ((((w3.setCell ⟨q+1+1,0,none⟩ (.bool z.s.leaf)).setCell ⟨q+1+1,1,none⟩ (.slice z.A z.n z.c)).setCell ⟨q+1+1,2,none⟩ (.slice z.B z.m z.d)).setCell ⟨q+1+1,3,none⟩ (.slice z.C z.k z.e))):=iQ (by
     refine ⟨fr,A,2,c,[o1,o2],z,F3,rfl,rfl,⟨hld.ln.grownHi (by omega) k4 (by omega) hg,fun y hy=>?_⟩,by omega,hfr,fun y hy=>?_,jb3.put,hz.grown k3 (by omega) hg,h3.grown hg (fun g e=>?_),MS,hF3,?_,?_⟩
     ·rcases wb6.1 hy with rfl | hy
      ·exact one _ (hld.ok _ wf4) k1
      ·rw [wa4.1 hy]
       exact one _ (hld.ok _ (wg5 _ wf4)) k2
     ·have hy':y.at_∈old:=by
       rw [<- hold];rcases wb6.1 hy with rfl | hy
       ·exact wf4
       ·rw [wa4.1 hy]
        exact wg5 _ wf4
      have hz4:=T2.out.z4;rcases hall _ hy' with e | ⟨e1,e2,e3⟩
      ·have e1:y.pg=l.pg:=congrArg Prod.fst e
       have e2:y.x.s=l.x.s:=congrArg Prod.snd e;rw [e1,e2];exact ⟨HPG.out,HLS.out⟩
      ·have e1:0<=y.pg:=e1
       have e2:y.pg<t.z:=e2;have e3:y.x.s.size<=1000:=e3;omega
     ·obtain rfl:=wa0 e
      have:=HQ0.out;have:=T2.out.below.size;have:=HT.out.below.size;exact ⟨hF3 _ (by omega) (by omega),by omega⟩
     ·rw [<- HR.out,hset,hzs,<- hold]
      rfl
     ·rw [hzs]
      exact hfin)
    obtain ⟨n0',n1',n2',n3'⟩:=jb3.no.cells;obtain ⟨f0,f1,f2,f3⟩:=jb3.no.free;clear hld hz hzs h3 m3 k1 k2 k3 k4 hset hfin hall jb3 hg hF3 MS one hold;unfold NV.val;go_wp2_with fail
    go_meet
    exact HC.out
   ·have hd:decide (x.s.size<300)=false:=decide_eq_false hsm
    rw [hd];have HC:Hid (zn5 W F w tb pb db q u l t r (.int .i64 ((u.kid:Nat):Int)) (.slice (some ⟨g,0,none⟩) 1 1) w2):=iQ (by
     have hkl:u.kid<=1000:=by
      have a:=HP.out.le;have b:=HP.out.size;unfold ND.size ND.tsz at b;omega
     refine ⟨u.kid,_,1,1,[l],x,F,rfl,rfl,⟨⟨qQ9 HRW2.out rfl,fun _ ad e=>?_⟩,fun y hy=>?_⟩,by omega,hkl,fun y hy=>?_,JB2.out,JK.out,T2.out,M2.out,NFQ.out,?_,HP.out.far hsm⟩
     ·obtain rfl:=wa0 e
      exact FY.out _ (by have:=HGL.out;show q<=g;omega)
     ·rw [wa4.1 hy]
      exact HL.out.mo M2.out
     ·rw [wa4.1 hy]
      exact ⟨HPG.out,HLS.out⟩
     ·rw [<- HR.out]
      unfold TS.settle;rw [if_neg hsm];rfl)
    clear hsm hd;go_wp2_with fail
    go_meet
    exact HC.out
  case rest =>
   obtain ⟨fr,A,n,c,old,m,F3,rfl,rfl,hld,hn2,hfr,hpgs,jb,hm,ht,hmv,hnf,hr,hfin⟩:=hcut;have HLD:=iQ hld;have HPS:=iQ hpgs;have JB3:=iQ jb;have HM:=iQ hm;have T3:=iQ ht;have M3:=iQ hmv;have NF3:=iQ hnf;have HRR:=iQ hr;have HFN:=iQ hfin;have hol:=hld.len;obtain ⟨n0,n1,n2,n3⟩:=jb.no.cells;clear hld hpgs jb hm ht hmv hnf hr hfin HRW2 JB2 M2 T2 HU2 JK;go_upto_region 7 with fail
   go_wp2_with fail;refine (DU wc m.s.leaf m.A m.n m.c m.B m.m m.d m.C m.k m.e m.s HM.out rfl (by have:=HFN.out.le;omega) HFN.out.ok (by have:=ND.ents_five m.s;have:=HFN.out.le;omega) (fun k hk=>T3.out.lt k hk)).mono ?_;rintro e w4 ⟨NA,nn,nc,ns,KA,km,kd,rfl,hns,hnm,hks,b4⟩;have JB4:=iQ (JB3.out.kept b4);have M4:=iQ (M3.out.trans (Qb.ob b4));have T4:=iQ (T3.out.kept b4);have HKS:=iQ hks;have hnl:nn<=2:=by
    have a:=hns.len;have b:=TS.partsN_len m.s;rw [<- hnm,wd2] at b;omega
   have LAY:=iQ (NQ w4 A n c NA nn nc old ns (HLD.out.kept b4) hns HPS.out (fun y hy=>HFN.out.parts y.s (by rw [<- hnm];exact wg8 hy)) (by omega) (by omega) T4.out);rw [hnm] at LAY;clear hns hks b4 JB3 M3 T3 HLD hnm n0 n1 n2 n3;go_wp2_with fail;refine LAY.out.mono ?_;rintro e w5 ⟨PA,pk,pc,F5,rfl,hpl,h5,m5⟩;have hpn:=hpl.ln.intN;have HRL:Hid (r=if (t.lay (old.map LV.at_) (TS.partsN m.s)).1=0 then (0,u.l.x.s.replace fr (fr+(old.map LV.at_).length:Nat) (t.lay (old.map LV.at_) (TS.partsN m.s)).2.1 (TS.partsK m.s),(t.lay (old.map LV.at_) (TS.partsN m.s)).2.2) else ((t.lay (old.map LV.at_) (TS.partsN m.s)).1,ND.zero,(t.lay (old.map LV.at_) (TS.partsN m.s)).2.2)):=iQ HRR.out
   have LLN:=iQ (TS.lay_len (t:=t) (old:=old.map LV.at_) (ns:=TS.partsN m.s));rcases hL:t.lay (old.map LV.at_) (TS.partsN m.s) with ⟨er,pgs,t5⟩
   rw [hL] at hpl h5 hpn HRL LLN;dsimp only at hpl h5 hpn HRL LLN ⊢;have JB5:=iQ (JB4.out.la);have j5:JB w5 q u l m (.bool false) (.slice none 0 0) (.slice none 0 0) (.slice none 0 0):=by
    have hq:=JB4.out.lt;have hm4:∀ k,q<=k->k<q+4->w5.heap[k]?=w4.heap[k]?:=fun k h1 h2=>m5.kept.block k (by omega) (NF3.out k h1 h2);exact ⟨(hm4 q (by omega) (by omega)).trans JB4.out.st,(hm4 (q+1) (by omega) (by omega)).trans JB4.out.la,(hm4 (q+1+1) (by omega) (by omega)).trans JB4.out.no,(hm4 (q+1+1+1) (by omega) (by omega)).trans JB4.out.an⟩
   have HK5:=iQ (HKS.out.mo Nat.one_pos m5);have hF5:¬ F5 (q+1+1+1):=m5.not (by have:=JB4.out.lt;omega) (NF3.out _ (by omega) (by omega));have J5:=iQ j5;have M5:=iQ (M4.out.trans m5);have T5:=iQ h5;have NF5:=iQ hF5;have HPL:=iQ hpl;have hWq:W.heap.size<=q+1+1+1/\w.heap.size<=q+1+1+1:=by have:=HQ0.out;have:=HT.out.below.size;omega
   obtain ⟨hWq1,hWq2⟩:=hWq;clear hL hpl h5 m5 j5 hF5 LAY JB4 M4 T4 JB5;by_cases he:er=0
   ·subst he
    have HD:=iQ HRL.out;rw [if_pos rfl] at HD;have hup:=(HU.out.mo M5.out);have hub:u.l.x.n<=300000/\u.l.x.m<=300000/\u.l.x.k<=300000:=by
     have a:=hup.nd.kn;have b:=hup.nd.vn;have c:=hup.nd.cn;have d:=HP.out.size;unfold ND.size ND.tsz at d;omega
    have hpk:pk<=10:=by
     have a:=LLN.out rfl;have b:=TS.partsN_len m.s;omega
    have JV:km<=10:=by
     have a:=HK5.out.ln.strN;have b:=TS.partsK_len m.s;omega
    obtain ⟨c0,c1,c2,c3,c4,c5⟩:=Zo _ _ _ _ _ _ _ _ J5.out.st;have RP:=iQ (qh1 u.l.x.A u.l.x.n u.l.x.c u.l.x.B u.l.x.m u.l.x.d u.l.x.C u.l.x.k u.l.x.e u.l.x.s ((fr:Nat):Int) (((fr:Nat):Int)+((n:Nat):Int)) PA pk pc pgs KA km kd (TS.partsK m.s) w5 hup.nd HPL.out.ln HK5.out.ln HP.out.leaf HP.out.upok hub.1 hpk JV hub.2.1 hub.2.2);rw [HP.out.leaf] at c1;have hwr:IntKind.i64.wrap (((fr:Nat):Int)+((n:Nat):Int))=((fr:Nat):Int)+((n:Nat):Int):=IntWalk.i64_in _ (by omega);have HCT:Hid (((fr+(old.map LV.at_).length:Nat):Int)=((fr:Nat):Int)+((n:Nat):Int)):=iQ (by rw [wd2];omega);clear hup hub hpk JV hol hpn hnl;go_wp2_with fail;refine RP.out.mono ?_;rintro e w6 ⟨yv,rfl,hy,b6⟩;obtain ⟨y,rfl,yok,ys,yhi⟩:=qc0 (F:=F5) hy (fun k hk=>T5.out.lt k hk);have J6:=iQ (J5.out.kept b6);have hg:=Zk w6 (q+1+1+1) (.bool y.s.leaf) (.slice y.A y.n y.c) (.slice y.B y.m y.d) (.slice y.C y.k y.e);have hq5:=J5.out.lt;have HX:Hid (TNd W F w tb pb db r (.returned (.tuple #[.agg #[.bool y.s.leaf,.slice y.A y.n y.c,.slice y.B y.m y.d,.slice y.C y.k y.e],.int .i64 0])) ((((w6.setCell ⟨q+1+1+1,0,none⟩ (.bool y.s.leaf)).setCell ⟨q+1+1+1,1,none⟩ (.slice y.A y.n y.c)).setCell ⟨q+1+1+1,2,none⟩ (.slice y.B y.m y.d)).setCell ⟨q+1+1+1,3,none⟩ (.slice y.C y.k y.e))):=iQ (by
     rw [HD.out,HCT.out];exact ⟨y,F5,rfl,yok.grown yhi (by omega) hg,ys,(T5.out.kept b6).grown hg (fun g e=>by obtain rfl:=wa0 e;exact ⟨NF5.out,hWq1⟩),(M5.out.trans (Qb.ob b6)).grown hg (fun g e=>by obtain rfl:=wa0 e;exact hWq2)⟩)
    obtain ⟨e0,e1,e2,e3⟩:=J6.out.an.cells;obtain ⟨f0,f1,f2,f3⟩:=J6.out.an.free;obtain ⟨z0',z1,z2,z3⟩:=(J6.out.an.put (.bool y.s.leaf) (.slice y.A y.n y.c) (.slice y.B y.m y.d) (.slice y.C y.k y.e)).cells;clear hg hy b6 yok ys yhi hq5 c0 c1 c2 c3 c4 c5;unfold NV.val;go_wp2_with fail;refine bodyPost_ret (v := .tuple #[.agg #[.bool y.s.leaf,.slice y.A y.n y.c,.slice y.B y.m y.d,.slice y.C y.k y.e],.int .i64 0]) (by simp [results,Tryz.results96,go_sem,z0',z1,z2,z3]) rfl ?_;exact HX.out
   ·have hb:(er != 0)=true:=bne_iff_ne.2 he
    have hg:=Zk w5 (q+1+1+1) (.bool false) (.slice none 0 0) (.slice none 0 0) (.slice none 0 0);have HX:Hid (TNd W F w tb pb db r (.returned (.tuple #[.agg #[.bool false,.slice none 0 0,.slice none 0 0,.slice none 0 0],.int .i64 er])) ((((w5.setCell ⟨q+1+1+1,0,none⟩ (.bool false)).setCell ⟨q+1+1+1,1,none⟩ (.slice none 0 0)).setCell ⟨q+1+1+1,2,none⟩ (.slice none 0 0)).setCell ⟨q+1+1+1,3,none⟩ (.slice none 0 0))):=iQ (by
     have e:=HRL.out;rw [if_neg he] at e;rw [e];exact ⟨NV.zero,F5,rfl,NV.zero_ok _ _,rfl,T5.out.grown hg (fun g e=>by obtain rfl:=wa0 e;exact ⟨NF5.out,hWq1⟩),M5.out.grown hg (fun g e=>by obtain rfl:=wa0 e;exact hWq2)⟩)
    obtain ⟨e0,e1,e2,e3⟩:=J5.out.an.cells;obtain ⟨f0,f1,f2,f3⟩:=J5.out.an.free;obtain ⟨z0',z1,z2,z3⟩:=(J5.out.an.put (.bool false) (.slice none 0 0) (.slice none 0 0) (.slice none 0 0)).cells;clear he hg;go_wp2_with fail;refine bodyPost_ret (v := .tuple #[.agg #[.bool false,.slice none 0 0,.slice none 0 0,.slice none 0 0],.int .i64 er]) (by simp [results,Tryz.results96,go_sem,z0',z1,z2,z3]) rfl ?_;exact HX.out
end
section
variable {W w w':World} {G F F':Nat->Prop} {tb mb pb db:Nat} {t t':TS}
theorem Ql.setRt (h:Ql W F w tb pb db t) (p:Int):∃ F',Ql W F' (w.setCell ⟨tb,1,none⟩ (.int .i64 p)) tb pb db { t with rt:=p }/\Qb w F (w.setCell ⟨tb,1,none⟩ (.int .i64 p)) F':=by
 obtain ⟨G,mb,A,n,c,B,m,d,f,h⟩:=h;obtain ⟨F',h',mv⟩:=h.setF 1 (.int .i64 p) (t':={ t with rt:=p }) rfl rfl rfl rfl rfl rfl
 exact ⟨F',h'.tree,mv⟩
theorem Ql.setHt (h:Ql W F w tb pb db t) (k:Nat):∃ F',Ql W F' (w.setCell ⟨tb,2,none⟩ (.int .i64 ((k:Nat):Int))) tb pb db { t with ht:=k }/\Qb w F (w.setCell ⟨tb,2,none⟩ (.int .i64 ((k:Nat):Int))) F':=by
 obtain ⟨G,mb,A,n,c,B,m,d,f,h⟩:=h;obtain ⟨F',h',mv⟩:=h.setF 2 (.int .i64 ((k:Nat):Int)) (t':={ t with ht:=k }) rfl rfl rfl rfl rfl rfl
 exact ⟨F',h'.tree,mv⟩
theorem Ql.setCt (h:Ql W F w tb pb db t) (k:Int):∃ F',Ql W F' (w.setCell ⟨tb,3,none⟩ (.int .i64 k)) tb pb db { t with ct:=k }/\Qb w F (w.setCell ⟨tb,3,none⟩ (.int .i64 k)) F':=by
 obtain ⟨G,mb,A,n,c,B,m,d,f,h⟩:=h;obtain ⟨F',h',mv⟩:=h.setF 3 (.int .i64 k) (t':={ t with ct:=k }) rfl rfl rfl rfl rfl rfl
 exact ⟨F',h'.tree,mv⟩
theorem Ql.cells3 (h:Ql W F w tb pb db t):w.cell? ⟨tb,1,none⟩=some (.int .i64 t.rt)/\w.cell? ⟨tb,2,none⟩=some (.int .i64 ((t.ht:Nat):Int))/\w.cell? ⟨tb,3,none⟩=some (.int .i64 t.ct)/\w.frozen? ⟨tb,1,none⟩=false/\w.frozen? ⟨tb,2,none⟩=false/\w.frozen? ⟨tb,3,none⟩=false:=by
 obtain ⟨G,mb,A,n,c,B,m,d,f,h⟩:=h;obtain ⟨c0,c1,c2,c3,c4,c5,c6,c7,c8,c9⟩:=h.box.cells;exact ⟨c1,c2,c3,h.box.free 1,h.box.free 2,h.box.free 3⟩
structure XD (x:ND) (h:Nat):Prop where
 xs:x.size<=100000
 h1:1<=h
 h2:h<=1000
 fin:x.keys.length≠0->Kr x
 kid:x.keys.length=0->x.leaf=false->0<x.kids.length
 sep:x.splitK.length<=100000
theorem qq4 (w:World) (l:LV) (x:NV) (hn:Nat) (hl:l.x.ok w F) (hx:x.ok w F) (hp:XD x.s hn) (hpg : -9223372036854775808<=l.pg/\l.pg<=9223372036854775807) (hls:l.x.s.size<=1000000) (h:Ql W F w tb pb db t) :
 Calls Tryz.prog 95 #[.pointer (some ⟨tb,0,none⟩),l.val,x.val,.int .i64 ((hn:Nat):Int)] w (XF W F w tb pb db (t.plant l.at_ x.s hn).1 (t.plant l.at_ x.s hn).2):=by
 obtain ⟨r,hr⟩:∃ r,t.plant l.at_ x.s hn=r:=⟨_,rfl⟩;rw [hr];have b1:=Qa w (.cells #[.int .i64 l.pg,.bool l.x.s.leaf,.slice l.x.A l.x.n l.x.c,.slice l.x.B l.x.m l.x.d,.slice l.x.C l.x.k l.x.e] 171);have lb:=Xw w (.int .i64 l.pg) (.bool l.x.s.leaf) (.slice l.x.A l.x.n l.x.c) (.slice l.x.B l.x.m l.x.d) (.slice l.x.C l.x.k l.x.e);have b2:=Qa (w.alloc (.cells #[.int .i64 l.pg,.bool l.x.s.leaf,.slice l.x.A l.x.n l.x.c,.slice l.x.B l.x.m l.x.d,.slice l.x.C l.x.k l.x.e] 171)) (.cells #[.bool x.s.leaf,.slice x.A x.n x.c,.slice x.B x.m x.d,.slice x.C x.k x.e] 75);have nb:=Qp (w.alloc (.cells #[.int .i64 l.pg,.bool l.x.s.leaf,.slice l.x.A l.x.n l.x.c,.slice l.x.B l.x.m l.x.d,.slice l.x.C l.x.k l.x.e] 171)) (.bool x.s.leaf) (.slice x.A x.n x.c) (.slice x.B x.m x.d) (.slice x.C x.k x.e);rw [show (w.alloc (.cells #[.int .i64 l.pg,.bool l.x.s.leaf,.slice l.x.A l.x.n l.x.c,.slice l.x.B l.x.m l.x.d,.slice l.x.C l.x.k l.x.e] 171)).heap.size=w.heap.size+1 by simp] at nb;have b0:=b1.trans (b2.mono b1.size);have LB0:=iQ (lb.kept b2);have NB0:=iQ nb;have M0:=iQ (Qb.ob (F:=F) b0);have HT:=iQ (h.kept b0);have HL:=iQ (hl.kept b0);have HX:=iQ (hx.kept b0);have HP:=iQ hp;have HPG:=iQ hpg;have HLS:=iQ hls;have HR:=iQ hr;have FY:Hid (∀ k,w.heap.size<=k->¬ F k):=iQ (fun k hk=>h.new hk);have hxn:x.s.keys.length=x.n:=hx.nd.kn;clear h hl hx hp hpg hls hr b0 b1 b2 lb nb;go_enter Tryz.func95,Tryz.ntmps95;unfold LV.val NV.val;go_upto_region 1 with fail
 generalize (w.alloc (.cells #[.int .i64 l.pg,.bool l.x.s.leaf,.slice l.x.A l.x.n l.x.c,.slice l.x.B l.x.m l.x.d,.slice l.x.C l.x.k l.x.e] 171)).alloc (.cells #[.bool x.s.leaf,.slice x.A x.n x.c,.slice x.B x.m x.d,.slice x.C x.k x.e] 75)=w0 at *;obtain ⟨q,hq0⟩:∃ q,w.heap.size=q:=⟨_,rfl⟩;rw [hq0] at LB0 NB0 FY ⊢;have HQ0:=iQ hq0;clear hq0;obtain ⟨l0,l1,l2,l3,l4⟩:=LB0.out.cells;obtain ⟨n0,n1,n2,n3⟩:=NB0.out.cells;by_cases hz:x.n=0
 ·have hb:(((x.n:Nat):Int)==0)=true:=by simp [hz]
  obtain ⟨k,hk⟩:∃ k,hn=k+1:=⟨hn - 1,by have:=HP.out.h1;omega⟩;subst hk;have hk1:k<1000:=by have:=HP.out.h2;omega
  have HRR:Hid (r=TS.rel { t with rt:=if x.s.leaf then 0 else x.s.kids.getD 0 0,ht:=k } l.pg):=iQ (by
   rw [<- HR.out];unfold TS.plant;rw [if_pos (by omega)];rfl)
  obtain ⟨F1,t1,m1⟩:=HT.out.setRt 0;obtain ⟨F2,t2,m2⟩:=t1.setHt k;obtain ⟨a1,a2,a3,a4,a5,a6⟩:=HT.out.cells3;obtain ⟨d1,d2,d3,d4,d5,d6⟩:=t1.cells3;have M2:=iQ (m1.trans m2);have T2:=iQ t2;have LB2:=iQ ((LB0.out.mo m1 (FY.out q (wa2 _))).mo m2 (m1.not LB0.out.lt (FY.out q (wa2 _))));have NB2:=iQ ((NB0.out.mo m1 (FY.out _ (wd3 _))).mo m2 (m1.not NB0.out.lt (FY.out _ (wd3 _))));have JK:=iQ ((HX.out.mo m1).mo m2);have NF2:Hid (¬ F2 q/\¬ F2 (q+1)):=iQ ⟨(m1.trans m2).not LB0.out.lt (FY.out q (wa2 _)),(m1.trans m2).not NB0.out.lt (FY.out _ (wd3 _))⟩;clear t1 t2 m1 m2 LB0 NB0 HX HL;go_upto_region 3 with fail
  generalize (w0.setCell ⟨tb,1,none⟩ (.int .i64 0)).setCell ⟨tb,2,none⟩ (.int .i64 ((k:Nat):Int))=w2 at *;clear a1 a2 a3 a4 a5 a6 d1 d2 d3 d4 d5 d6 l0 l1 l2 l3 l4 n0 n1 n2 n3;obtain ⟨l0,l1,l2,l3,l4⟩:=LB2.out.cells;obtain ⟨n0,n1,n2,n3⟩:=NB2.out.cells;cases hlf:x.s.leaf with
  | true =>
    rw [hlf] at n0 HRR;clear hlf;go_wp2_with fail;refine (YN w2 l.pg HPG.out.1 HPG.out.2 T2.out).mono ?_;rintro e w3 ⟨rfl,F3,h3,m3⟩;have HX:Hid (XF W F w tb pb db r.1 r.2 (.returned (.int .i64 r.1)) w3):=iQ (by
     refine ⟨rfl,F3,?_,(M0.out.trans M2.out).trans m3⟩;rw [HRR.out];exact h3)
    have he:(TS.rel { t with rt:=0,ht:=k } l.pg).1=r.1:=by rw [HRR.out];rfl
    clear h3 m3;rw [he];clear he;go_wp2_with fail;go_ret;exact HX.out
  | false =>
    rw [hlf] at n0 HRR;have hkl:0<x.k:=by
     have a:=HP.out.kid (by omega) hlf;have b:=JK.out.nd.cn;omega
    obtain ⟨kb,ko,kv,hC,hkv,kc⟩:=JK.out.nd.ki.iA hkl;have hk0:x.s.kids.getD 0 0=kv:=by rw [wa7,hkv];rfl
    have HK0:=iQ hk0;rw [hC] at n3;rw [wg1] at kc;have hk2:(0:Int)<((x.k:Nat):Int):=(by omega);obtain ⟨F3,t3,m3⟩:=T2.out.setRt kv;obtain ⟨d1,d2,d3,d4,d5,d6⟩:=T2.out.cells3;have T3:=iQ t3;have M3:=iQ (M2.out.trans m3);have LB3:=iQ (LB2.out.mo m3 NF2.out.1);clear t3 m3 hkv hlf;go_upto_region 5 with fail
    generalize w2.setCell ⟨tb,1,none⟩ (.int .i64 kv)=w3 at *;clear d1 d2 d3 d4 d5 d6 l0 l1 l2 l3 l4 n0 n1 n2 n3 kc;obtain ⟨l0,l1,l2,l3,l4⟩:=LB3.out.cells;go_wp2_with fail;refine (YN w3 l.pg HPG.out.1 HPG.out.2 T3.out).mono ?_;rintro e w4 ⟨rfl,F4,h4,m4⟩;have hr4:r=TS.rel { t with rt:=kv,ht:=k } l.pg:=by
     rw [HRR.out,HK0.out];rfl
    have HX:Hid (XF W F w tb pb db r.1 r.2 (.returned (.int .i64 r.1)) w4):=iQ (by
     refine ⟨rfl,F4,?_,(M0.out.trans M3.out).trans m4⟩;rw [hr4];exact h4)
    have he:(TS.rel { t with rt:=kv,ht:=k } l.pg).1=r.1:=(by rw [hr4])
    clear h4 m4 hr4;rw [he];clear he;go_wp2_with fail;go_ret;exact HX.out
 ·have hb:(((x.n:Nat):Int)==0)=false:=by simpa using hz
  have HFN:=iQ (HP.out.fin (by omega));go_upto_region 6 with fail
  go_wp2_with fail;refine (DU w0 x.s.leaf x.A x.n x.c x.B x.m x.d x.C x.k x.e x.s HX.out rfl (by have:=HP.out.xs;omega) HFN.out.ok (by have:=ND.ents_five x.s;have:=HP.out.xs;omega) (fun k hk=>HT.out.lt k hk)).mono ?_;rintro e w1 ⟨NA,nn,nc,ns,KA,km,kd,rfl,hns,hnm,hks,b1⟩;have HKS:=iQ hks;have LB1:=iQ (LB0.out.kept b1);have M1:=iQ (M0.out.trans (Qb.ob b1));have T1:=iQ (HT.out.kept b1);have HL1:=iQ (HL.out.kept b1);have HNS:=iQ hns;have hnl:nn<=2:=by
   have a:=hns.len;have b:=TS.partsN_len x.s;rw [<- hnm,wd2] at b;omega
  have hsz:∀ y∈ns,y.s.size<=1000000:=fun y hy=>HFN.out.parts y.s (by rw [<- hnm];exact wg8 hy);have b2:=Qa w1 (.cells #[.int .i64 l.pg,.bool l.x.s.leaf,.slice l.x.A l.x.n l.x.c,.slice l.x.B l.x.m l.x.d,.slice l.x.C l.x.k l.x.e] 171);have M2:=iQ (M1.out.trans (Qb.ob b2));have T2:=iQ (T1.out.kept b2);have HKS2:=iQ (HKS.out.kept b2);have LAY:=iQ (NQ (w1.alloc (.cells #[.int .i64 l.pg,.bool l.x.s.leaf,.slice l.x.A l.x.n l.x.c,.slice l.x.B l.x.m l.x.d,.slice l.x.C l.x.k l.x.e] 171)) (some ⟨w1.heap.size,0,none⟩) 1 1 NA nn nc [l] ns
   ⟨⟨qr5 w1 _ _ 5 1 rfl,fun _ ad e=>by obtain rfl:=wa0 e;exact T1.out.new (wa2 _)⟩,fun y hy=>by rw [wa4.1 hy];exact HL1.out.kept b2⟩ (HNS.out.kept b2)
   (fun y hy=>by rw [wa4.1 hy];exact ⟨HPG.out,HLS.out⟩) hsz (by omega) (by omega) T2.out)
  rw [hnm] at LAY;obtain ⟨l0',l1',l2',l3',l4'⟩:=LB1.out.cells;clear hns hks b1 b2 hnm hnl hsz l0 l1 l2 l3 l4 n0 n1 n2 n3 M1 T1 HL1 HNS HKS;go_wp2_with fail;refine LAY.out.mono ?_;rintro e w3 ⟨PA,pk,pc,F3,rfl,hpl,h3,m3⟩;have hpn:=hpl.ln.intN;have HRL:Hid (r=if (t.lay [l.at_] (TS.partsN x.s)).1=0 then (t.lay [l.at_] (TS.partsN x.s)).2.2.above x.s (t.lay [l.at_] (TS.partsN x.s)).2.1 hn else ((t.lay [l.at_] (TS.partsN x.s)).1,(t.lay [l.at_] (TS.partsN x.s)).2.2)):=iQ (by
   rw [<- HR.out];unfold TS.plant;rw [if_neg (by omega)])
  have LLN:=iQ (TS.lay_len (t:=t) (old:=[l.at_]) (ns:=TS.partsN x.s));rw [show [l].map LV.at_=[l.at_] from rfl] at hpl h3 hpn ⊢;rcases hL:t.lay [l.at_] (TS.partsN x.s) with ⟨er,pgs,t3⟩
  rw [hL] at hpl h3 hpn HRL LLN;dsimp only at hpl h3 hpn HRL LLN ⊢;have HK3:=iQ (HKS2.out.mo Nat.one_pos m3);have M3:=iQ (M2.out.trans m3);have T3:=iQ h3;have HPL:=iQ hpl;have hh2:=HP.out.h2;have hh1:=HP.out.h1;clear hL h3 m3 LAY T2 M2 HKS2 hpl;by_cases he:er=0
  ·subst he
   have hpq:pk=(TS.partsN x.s).length:=by rw [<- hpn];exact LLN.out rfl
   have hp2:pk<=2:=by rw [hpq];exact TS.partsN_len x.s
   have hp1:1<=pk:=by rw [hpq];unfold TS.partsN;split<;>simp
   by_cases h1:1<pk
   ·have hb2:(1:Int)<((pk:Nat):Int):=by omega
    have b4:=Qa w3 (.cells #[.bool false,.slice KA km kd,.slice none 0 0,.slice PA pk pc] 75);have M4:=iQ (M3.out.trans (Qb.ob b4));have T4:=iQ (T3.out.kept b4);have hsz4:(⟨false,TS.partsK x.s,[],pgs⟩:ND).size<=1000000:=by
     have a:ND.tsz (TS.partsK x.s)<=100001:=by
      have:=HP.out.sep;unfold TS.partsK;split
      ·decide
      ·unfold ND.tsz ND.tsl
       simp [ND.tsl];omega
     unfold ND.size;have b:ND.tsz []=0:=rfl;simp only [b];omega
    have LAY2:=iQ (NQ (w3.alloc (.cells #[.bool false,.slice KA km kd,.slice none 0 0,.slice PA pk pc] 75)) none 0 0 (some ⟨w3.heap.size,0,none⟩) 1 1 [] [⟨KA,km,kd,none,0,0,PA,pk,pc,⟨false,TS.partsK x.s,[],pgs⟩⟩]
     ⟨Xv.none_ _ _ _,fun y hy=>by cases hy⟩ ⟨⟨qr5 w3 _ _ 4 1 rfl,fun _ ad e=>by obtain rfl:=wa0 e;exact T3.out.new (wa2 _)⟩,fun y hy=>by rw [wa4.1 hy];exact ⟨HK3.out.kept b4,Xv.none_ _ _ _,HPL.out.kept b4⟩⟩
     (fun y hy=>by cases hy) (fun y hy=>by rw [wa4.1 hy];exact hsz4) (by omega) (by omega) T4.out)
    have HRA:Hid (r=t3.above x.s pgs hn):=iQ (by rw [HRL.out,if_pos rfl]);have hwr:IntKind.i64.wrap (((hn:Nat):Int)+1)=((hn:Nat):Int)+1:=IntWalk.i64_in _ (by omega);clear b4 hsz4 hpq;go_wp2_with fail;refine LAY2.out.mono ?_;rintro e w5 ⟨QA,qk,qc,F5,rfl,hql,h5,m5⟩;have hqn:=hql.ln.intN;have LL2:=iQ (TS.lay_len (t:=t3) (old:=[]) (ns:=[⟨false,TS.partsK x.s,[],pgs⟩]));have HAB:Hid (r=if (t3.lay [] [⟨false,TS.partsK x.s,[],pgs⟩]).1=0 then (0,{ (t3.lay [] [⟨false,TS.partsK x.s,[],pgs⟩]).2.2 with rt:=(t3.lay [] [⟨false,TS.partsK x.s,[],pgs⟩]).2.1.getD 0 0,ht:=hn+1 }) else ((t3.lay [] [⟨false,TS.partsK x.s,[],pgs⟩]).1,(t3.lay [] [⟨false,TS.partsK x.s,[],pgs⟩]).2.2)):=iQ (by
     rw [HRA.out];unfold TS.above;rw [if_pos (by omega)])
    rw [show ([]:List LV).map LV.at_=[] from rfl,show [(⟨KA,km,kd,none,0,0,PA,pk,pc,⟨false,TS.partsK x.s,[],pgs⟩⟩:NV)].map NV.s=[⟨false,TS.partsK x.s,[],pgs⟩] from rfl] at hql h5 hqn ⊢;rcases hL2:t3.lay [] [⟨false,TS.partsK x.s,[],pgs⟩] with ⟨er2,pg2,t5⟩
    rw [hL2] at hql h5 hqn LL2 HAB;dsimp only at hql h5 hqn LL2 HAB ⊢;have M5:=iQ (M4.out.trans m5);have T5:=iQ h5;have HQL:=iQ hql;clear hL2 h5 m5 LAY2 M4 T4 hql HRA;by_cases he2:er2=0
    ·subst he2
     have zo5:Hid (r=(0,{ t5 with rt:=pg2.getD 0 0,ht:=hn+1 })):=iQ (by
      rw [HAB.out,if_pos rfl])
     have hq1:0<qk:=by
      have:=LL2.out rfl;simp at this;omega
     obtain ⟨kb,ko,kv,rfl,hkv,kc⟩:=HQL.out.ln.iA (k:=0) hq1;have hk0:pg2.getD 0 0=kv:=by rw [wa7,hkv];rfl
     rw [wg1] at kc;have hqi:(0:Int)<((qk:Nat):Int):=(by omega);obtain ⟨F8,t8,m8⟩:=T5.out.setRt kv;obtain ⟨F9,t9,m9⟩:=t8.setHt (hn+1);obtain ⟨a1,a2,a3,a4,a5,a6⟩:=T5.out.cells3;obtain ⟨d1,d2,d3,d4,d5,d6⟩:=t8.cells3;have HX:Hid (XF W F w tb pb db r.1 r.2 (.returned (.int .i64 0)) ((w5.setCell ⟨tb,1,none⟩ (.int .i64 kv)).setCell ⟨tb,2,none⟩ (.int .i64 ((hn+1:Nat):Int)))):=iQ (by
      rw [zo5.out];refine ⟨rfl,F9,?_,(M5.out.trans m8).trans m9⟩;rw [hk0];exact t9)
     clear t8 t9 m8 m9 hkv hk0;go_wp2_with fail;go_ret;exact HX.out
    ·have hb4:(er2==0)=false:=by simpa using he2
     have hb5:(er2 != 0)=true:=bne_iff_ne.2 he2;have HX:Hid (XF W F w tb pb db r.1 r.2 (.returned (.int .i64 er2)) w5):=iQ (by
      rw [HAB.out,if_neg he2];exact ⟨rfl,F5,T5.out,M5.out⟩)
     clear he2;go_wp2_with fail;go_ret;exact HX.out
   ·have hb2:¬ (1:Int)<((pk:Nat):Int):=by omega
    have zo5:Hid (r=(0,{ t3 with rt:=pgs.getD 0 0,ht:=hn })):=iQ (by
     rw [HRL.out,if_pos rfl];unfold TS.above;rw [if_neg (by omega)])
    have hq1:0<pk:=(by omega);clear hpq;obtain ⟨kb,ko,kv,rfl,hkv,kc⟩:=HPL.out.ln.iA (k:=0) hq1;have hk0:pgs.getD 0 0=kv:=by rw [wa7,hkv];rfl
    rw [wg1] at kc;have hqi:(0:Int)<((pk:Nat):Int):=(by omega);obtain ⟨F8,t8,m8⟩:=T3.out.setRt kv;obtain ⟨F9,t9,m9⟩:=t8.setHt hn;obtain ⟨a1,a2,a3,a4,a5,a6⟩:=T3.out.cells3;obtain ⟨d1,d2,d3,d4,d5,d6⟩:=t8.cells3;have HX:Hid (XF W F w tb pb db r.1 r.2 (.returned (.int .i64 0)) ((w3.setCell ⟨tb,1,none⟩ (.int .i64 kv)).setCell ⟨tb,2,none⟩ (.int .i64 ((hn:Nat):Int)))):=iQ (by
     rw [zo5.out];refine ⟨rfl,F9,?_,(M3.out.trans m8).trans m9⟩;rw [hk0];exact t9)
    clear t8 t9 m8 m9 hkv hk0;go_wp2_with fail;go_ret;exact HX.out
  ·have hb2:(er==0)=false:=by simpa using he
   have hb3:(er != 0)=true:=bne_iff_ne.2 he;have HX:Hid (XF W F w tb pb db r.1 r.2 (.returned (.int .i64 er)) w3):=iQ (by
    rw [HRL.out,if_neg he];exact ⟨rfl,F3,T3.out,M3.out⟩)
   clear he;go_wp2_with fail;go_ret;exact HX.out
end
def Xz (t:TS) (h:Nat):List TS.St->ND->Prop
 | [],_=>True
 | [s],n=>n.size<=100000/\(s.nd.sameB n=false->XD n h)
 | s::u::r,n=>n.size<=100000/\(s.nd.sameB n=false->Gj t u.nd u.kid n/\((t.settle u.nd u.kid s.at_ n).1=0->Xz (t.settle u.nd u.kid s.at_ n).2.2 h (u::r) (t.settle u.nd u.kid s.at_ n).2.1))
theorem Xz.size {t:TS} {h:Nat} {s:TS.St} {r:List TS.St} {n:ND} (c:Xz t h (s::r) n):n.size<=100000:=by
 cases r with
 | nil=>exact c.1
 | cons u r=>exact c.1
theorem RJ {α:Type} {l:List α} {k:Nat} {x:α} (h:l[k]?=some x):(l.take (k+1)).reverse=x::(l.take k).reverse:=by
 rw [wc2,h];simp
section
theorem qY2 (i:Nat) (h:i<1000):IntKind.i64.wrap (((i+1:Nat):Int) - 1)=((i:Nat):Int):=by rw [IntWalk.i64_in _ (by omega)];omega
theorem qY1 (i:Nat) (h:i<1000):IntKind.i64.wrap (((i:Nat):Int)+1 - 1)=((i:Nat):Int):=by rw [IntWalk.i64_in _ (by omega)];omega
theorem zr7 (i:Nat) (h:i<1000):wrap64 ((i:Nat):Int)=((i:Nat):Int):=IntWalk.wrap64_in _ (by omega)
theorem qY0 (i:Nat) (h:i<1000):IntKind.i64.wrap ((i:Nat):Int)=((i:Nat):Int):=IntWalk.i64_in _ (by omega)
theorem qZ7 (i k:Nat) (h:i+1<=k) (hk:k<1000):i<1000/\(0:Int)<=((i:Nat):Int)/\((i:Nat):Int)<((k:Nat):Int)+1:=by omega
theorem Yo (w:World) (r:Nat) (x y z p:Value) (g j:Nat) (hne:g≠r):((((w.setCell ⟨r,0,none⟩ x).setCell ⟨r,1,none⟩ y).setCell ⟨r,2,none⟩ z).setCell ⟨r,3,none⟩ p).cell? ⟨g,j,none⟩=w.cell? ⟨g,j,none⟩ :=
 World.cell?_of_block (a:=⟨g,j,none⟩) ((Yq.put w r x y z p).2 g hne)
end
section
variable {W w w':World} {G F F':Nat->Prop} {tb mb pb db:Nat} {t t':TS}
def Jm (w:World) (g:Nat) (v:Bool):Prop:=w.heap[g]?=some (.cells #[.bool v] 4 (0,0))
theorem Jm.lt {g:Nat} {v:Bool} (h:Jm w g v):g<w.heap.size:=(wa1.1 h).1
theorem Jm.mo {g:Nat} {v:Bool} (h:Jm w g v) (m:Qb w F w' F') (hF:¬ F g):Jm w' g v:=(m.kept.block g h.lt hF).trans h
theorem Jm.kept {g:Nat} {v:Bool} (h:Jm w g v) (hb:Below w.heap.size w w'):Jm w' g v:=(hb.block g h.lt).trans h
def qW1 (W:World) (Fb:Nat->Prop) (wb:World) (tb pb db bw:Nat) (r:Int×TS) (q:Option Bool) (e:Ending) (w':World):Prop :=
 e = .returned (.int .i64 r.1)/\∃ F',Ql W F' w' tb pb db r.2/\Qb wb Fb w' F'/\¬ F' bw/\∀ v,q=some v->Jm w' bw v
def zp1 (W:World) (w2:World) (F1:Nat->Prop) (tb pb db bw b9 n:Nat) (ss:List SV) (v:Bool) (r:Int×TS) (k:Nat) (wr:World):Prop :=
 ∃ (tk:TS) (Fk:Nat->Prop) (x:NV),Ql W Fk wr tb pb db tk/\Qb w2 F1 wr Fk/\x.ok wr Fk/\Qs wr b9 (.bool x.s.leaf) (.slice x.A x.n x.c) (.slice x.B x.m x.d) (.slice x.C x.k x.e)/\Jm wr bw v/\¬ Fk bw/\¬ Fk b9 /\
   Xz tk n ((ss.map SV.st).take (k+1)).reverse x.s/\r=tk.climb n ((ss.map SV.st).take (k+1)).reverse x.s
theorem UJ (wb w:World) (Fb:Nat->Prop) (f bw:Nat) (caps:Array Value) (fn:ND->ND) (vf:ND->Bool) (key:ByteArray)
 (eg:∀ args w,(callFunc f args).run Tryz.prog w = .ok (.enter f args) w)
 (h:Ql W F w tb pb db t) (hm:Qb wb Fb w F) (hW:W.heap.size<=wb.heap.size) (hb:wb.heap.size<=bw) (hbw:bw<w.heap.size) (hbF:¬ F bw)
 (hi:TS.wayIn t.nd key.toList t.z t.ht t.rt) (hh:t.ht<=999) (hc:∀ l,t.way key.toList=some l->Xz t l.length l.reverse (fn (TS.last l)))
 (HF:∀ (wx:World) (Fx:Nat->Prop) (x:NV) (l:List TS.St),Ql W Fx wx tb pb db t->Qb w F wx Fx->x.ok wx Fx->t.way key.toList=some l->x.s=TS.last l ->
   Calls Tryz.prog f (#[x.val]++caps) wx (fun e w'=>∃ y:NV,e = .returned y.val/\y.ok w' Fx/\y.s=fn x.s/\wx.grownBy w' (some bw)/\Jm w' bw (vf x.s))) :
 Calls Tryz.prog 58 #[.pointer (some ⟨tb,0,none⟩),.string key,.func (.func f) #[] caps] w (qW1 W Fb wb tb pb db bw (t.change key.toList fn) ((t.way key.toList).map (fun l=>vf (TS.last l)))):=by
 have H:=iQ h;have HM:=iQ hm;have HI:=iQ hi;have HC:=iQ hc;have HFF:=iQ HF;have HBF:=iQ hbF;have HWb:=iQ hW;clear h hm hi hc HF hbF hW;obtain ⟨r,hr⟩:∃ r,t.change key.toList fn=r:=⟨_,rfl⟩;rw [hr];have HR:=iQ hr;clear hr;obtain ⟨qv,hqv⟩:∃ qv,(t.way key.toList).map (fun l=>vf (TS.last l))=qv:=⟨_,rfl⟩;rw [hqv];have HQ:=iQ hqv;clear hqv;go_enter Tryz.func58,Tryz.ntmps58;go_wp2_with fail;go_step3;go_wp2_with fail;refine (qH6 w key HI.out (by omega) H.out).mono ?_;rintro e w1 ⟨A,n,c,ss,F1,rfl,hst,hmap,h1,m1,hA,hss⟩;have HST:=iQ hst;have HMP:=iQ hmap;have H1:=iQ h1;have M1:=iQ (HM.out.trans m1);have MW:=iQ m1;have FZ:=iQ (m1.not hbw HBF.out);have HA:=iQ hA;have HSS:=iQ hss;clear hst hmap h1 m1 hA hss;cases ho:t.way key.toList with
 | none =>
   have HX:Hid (qW1 W Fb wb tb pb db bw r qv (.returned (.int .i64 121)) w1):=iQ (by
    have e1:r=(121,t):=by
     rw [<- HR.out];unfold TS.change;rw [ho]
    have e2:qv=none:=by rw [<- HQ.out,ho];rfl
    rw [e1,e2];exact ⟨rfl,F1,H1.out,M1.out,FZ.out,fun v hv=>by cases hv⟩)
   clear ho;dsimp only [Option.isSome];go_wp2_with fail;go_ret;exact HX.out
 | some l =>
   obtain ⟨hok,hlen,st,hlast,Gy,hle⟩:=H.out.wayOk HI.out ho;obtain ⟨k,hk⟩:∃ k,n=k+1:=⟨n - 1,by
    have:=HST.out.len;have:=congrArg List.length HMP.out;rw [ho] at this;simp at this;omega⟩
   subst hk;have hkb:k<1000:=by
    have a:=HST.out.len;have b:=congrArg List.length HMP.out;rw [ho] at b;simp at b;omega
   obtain ⟨x,hx,hxs⟩:∃ x,ss[k]?=some x/\x.st=st:=by
    have e:(ss.map SV.st).getLast?=some st:=by rw [HMP.out,ho];exact hlast
    rw [List.getLast?_map,List.getLast?_eq_getElem?,HST.out.len] at e;cases hq:ss[k]? with
    | none=>rw [show k+1 - 1=k by omega,hq] at e;cases e
    | some x =>
      rw [show k+1 - 1=k by omega,hq] at e;exact ⟨x,rfl,wa0 e⟩
   have hxl:x.l.x.s=TS.last l:=by rw [hle,<- hxs];rfl
   have HML:Hid (ss.map SV.st=l):=iQ (by rw [HMP.out,ho];rfl);have HOK:=iQ hok;obtain ⟨b,off,rfl,hb',hnF,xok,c0,c1,c2,c3,c4,c5⟩:=HST.out.at_ hx;have CL:=iQ (HFF.out w1 F1 x.l.x l H1.out MW.out xok ho hxl);have HRL:Hid (r=t.climb (k+1) l.reverse (fn (TS.last l))):=iQ (by
    rw [<- HR.out];unfold TS.change;rw [ho];show t.climb l.length _ _=_;rw [<- HML.out,wd2,HST.out.len])
   have HCP:Hid (Xz t (k+1) l.reverse (fn (TS.last l))):=iQ (by
    have:=HC.out l ho;rw [<- HML.out,wd2,HST.out.len] at this;rw [<- HML.out];exact this)
   have HQV:Hid (qv=some (vf (TS.last l))):=iQ (by rw [<- HQ.out,ho];rfl);have HXL:=iQ hxl;clear hok hlen hlast Gy hle ho hx hxs hnF xok hxl;dsimp only [Option.isSome];rw [if_pos rfl];unfold NV.val at CL;go_wp2_with fail;refine CL.out.mono ?_;rintro e w2 ⟨y,rfl,yok,ys,hg,hbx⟩;have hWb:W.heap.size<=bw:=wa9 HWb.out hb;have H2:=iQ (H1.out.grown hg (fun g e=>by obtain rfl:=wa0 e;exact ⟨FZ.out,hWb⟩));have M2:=iQ (M1.out.grown hg (fun g e=>by obtain rfl:=wa0 e;exact hb));have ST2:Hid (Jw w2 F1 (some ⟨b,off,none⟩) (k+1) c ss):=iQ ⟨HST.out.ln.grownHi (by omega) HA.out hbw hg,fun z hz=>(HST.out.ok z hz).grown (HSS.out z hz) hbw hg⟩;have b3:=Qa w2 (.cells #[.bool y.s.leaf,.slice y.A y.n y.c,.slice y.B y.m y.d,.slice y.C y.k y.e] 75);have hrel:Hid (zp1 W w2 F1 tb pb db bw w2.heap.size (k+1) ss (vf (TS.last l)) r k (w2.alloc (.cells #[.bool y.s.leaf,.slice y.A y.n y.c,.slice y.B y.m y.d,.slice y.C y.k y.e] 75))):=iQ (by
    have htk:(ss.map SV.st).take (k+1)=l:=by rw [HML.out,wa5 (by rw [<- HML.out,wd2,HST.out.len];exact wa2 _)]
    refine ⟨t,F1,y,H2.out.kept b3,Qb.ob b3,yok.kept b3,Qp w2 _ _ _ _,?_,FZ.out,H2.out.new (wa2 _),?_,?_⟩
    ·have:Jm w2 bw (vf (TS.last l)):=by rw [<- HXL.out];exact hbx
     exact this.kept b3
    ·rw [htk,ys,HXL.out]
     exact HCP.out
    ·rw [htk,ys,HXL.out]
     exact HRL.out)
   have HB9:Hid (b<w2.heap.size/\bw<w2.heap.size):=iQ ⟨wa3 hb' hg.size,hbx.lt⟩;have HWB:=iQ hWb;clear hg hbx yok ys b3 H2 c0 c1 c2 c3 c4 c5 HCP HRL CL H1 M1 MW HST;go_upto_region 5 with fail
   generalize w2.alloc (.cells #[.bool y.s.leaf,.slice y.A y.n y.c,.slice y.B y.m y.d,.slice y.C y.k y.e] 75)=w3 at *;go_wp2_with fail;obtain ⟨b9,hb9⟩:∃ b9,w2.heap.size=b9:=⟨_,rfl⟩;rw [hb9] at hrel HB9 ⊢;have HE9:=iQ hb9;clear hb9;go_step3;go_wp2_with fail;go_loopw [8,10] (fun s8 s10 wr=>∃ j:Nat,j<=k/\s8 = .int .i64 0/\s10 = .int .i64 (j:Int)/\Hid (zp1 W w2 F1 tb pb db bw b9 (k+1) ss (vf (TS.last l)) r j wr)) (fun _ s10 _=>(RowKit.intOf s10).toNat)
   case atStart=>exact ⟨k,wa2 _,rfl,rfl,hrel⟩
   case round =>
    obtain ⟨j,hj,rfl,rfl,hrel⟩:=hrel;obtain ⟨tk,Fk,y2,hT,hMv,hY,hN,hB,hF,hF9,hCl,hR⟩:=hrel.out;have hS:=ST2.out.mo hMv;have HT:=iQ hT;have HMk:=iQ hMv;have HY:=iQ hY;have HN:=iQ hN;have HB:=iQ hB;have HFk:=iQ hF;have HF9:=iQ hF9;have HCl:=iQ hCl;have HRk:=iQ hR;obtain ⟨x2,hx2⟩:∃ x2,ss[j]?=some x2:=XM (by rw [hS.len];omega);have hst2:(ss.map SV.st)[j]?=some x2.st:=by rw [wc7,hx2];rfl
    rw [RJ hst2] at HCl HRk;obtain ⟨b',off',e',hb',qS0,qH5,d0,d1,d2,d3,d4,d5⟩:=hS.at_ hx2;injection e' with e'
    injection e' with e1 e2 e3
    subst e1;subst e2;have JK:=iQ qH5;have hl3:=Xw wr (.int .i64 x2.l.pg) (.bool x2.l.x.s.leaf) (.slice x2.l.x.A x2.l.x.n x2.l.x.c) (.slice x2.l.x.B x2.l.x.m x2.l.x.d) (.slice x2.l.x.C x2.l.x.k x2.l.x.e);have b4:=Qa wr (.cells #[.int .i64 x2.l.pg,.bool x2.l.x.s.leaf,.slice x2.l.x.A x2.l.x.n x2.l.x.c,.slice x2.l.x.B x2.l.x.m x2.l.x.d,.slice x2.l.x.C x2.l.x.k x2.l.x.e] 171);have LB:=iQ hl3;have HT4:=iQ (HT.out.kept b4);have HMk4:=iQ (HMk.out.trans (Qb.ob b4));have HY4:=iQ (HY.out.kept b4);have HN4:=iQ (HN.out.kept b4);have HB4:=iQ (HB.out.kept b4);have HX4:=iQ (JK.out.kept b4);have NFL:=iQ (HT.out.new (wa2 wr.heap.size));have HL11:Hid (b9<wr.heap.size):=iQ hN.lt;have HJ:=iQ hx2;have hj0:(0:Int)<=(j:Int):=(by omega);have hjk:(j:Int)<((k:Nat):Int)+1:=(by omega);clear hT hMv hS hY hN hB hF hF9 hCl hR hrel hst2 hb' qS0 qH5 d5 hl3 b4 HT HMk HY HN HB JK hx2;go_upto_region 10 with fail
    generalize wr.alloc (.cells #[.int .i64 x2.l.pg,.bool x2.l.x.s.leaf,.slice x2.l.x.A x2.l.x.n x2.l.x.c,.slice x2.l.x.B x2.l.x.m x2.l.x.d,.slice x2.l.x.C x2.l.x.k x2.l.x.e] 171)=w4 at *;generalize wr.heap.size=b11 at *;clear d0 d1 d2 d3 d4;obtain ⟨l0,l1,l2,l3,l4⟩:=LB.out.cells;obtain ⟨n0,n1,n2,n3⟩:=HN4.out.cells;have hxsz:x2.l.x.s.size<=1000:=by
     have:x2.st∈l:=by rw [<- HML.out];exact wg8 (wb5 HJ.out)
     exact (HOK.out _ this).2.1
    go_wp2_with fail;refine (qg3 x2.l.x.s.leaf x2.l.x.A x2.l.x.n x2.l.x.c x2.l.x.B x2.l.x.m x2.l.x.d x2.l.x.C x2.l.x.k x2.l.x.e x2.l.x.s y2.s.leaf y2.A y2.n y2.c y2.B y2.m y2.d y2.C y2.k y2.e y2.s w4 HX4.out.nd HY4.out.nd rfl rfl (by omega)).mono ?_;rintro e5 w5 ⟨rfl,b5⟩;have HT5:=iQ (HT4.out.kept b5);have HM5:=iQ (HMk4.out.trans (Qb.ob b5));have HY5:=iQ (HY4.out.kept b5);have HN5:=iQ (HN4.out.kept b5);have HB5:=iQ (HB4.out.kept b5);have HX5:=iQ (HX4.out.kept b5);have LB5:=iQ (LB.out.kept b5);clear b5 l0 l1 l2 l3 l4 n0 n1 n2 n3 HT4 HMk4 HY4 HN4 HB4 HX4 LB;cases hsm:x2.l.x.s.sameB y2.s with
    | true =>
      have HX:Hid (qW1 W Fb wb tb pb db bw r qv (.returned (.int .i64 0)) w5):=iQ (by
       have e1:r=(0,tk):=by
        rw [HRk.out];have hs:x2.st.nd.sameB y2.s=true:=hsm;cases hc:((ss.map SV.st).take j).reverse with
        | nil=>unfold TS.climb;rw [if_pos hs]
        | cons u q=>unfold TS.climb;rw [if_pos hs]
       rw [e1,HQV.out];exact ⟨rfl,Fk,HT5.out,M2.out.trans HM5.out,HFk.out,fun v hv=>by obtain rfl:=wa0 hv;exact HB5.out⟩)
      clear hsm;go_wp2_with fail;rw [Exit.noGoto_ret];go_ret;exact HX.out
    | false =>
      obtain ⟨l0,l1,l2,l3,l4⟩:=LB5.out.cells;obtain ⟨n0,n1,n2,n3⟩:=HN5.out.cells;obtain ⟨p1,p2⟩ : -9223372036854775808<=x2.l.pg/\x2.l.pg<=9223372036854775807:=by
       have:x2.st∈l:=by rw [<- HML.out];exact wg8 (wb5 HJ.out)
       have a:0<=x2.l.pg:=(HOK.out _ this).2.2.1;have b:x2.l.pg<=t.z:=(HOK.out _ this).2.2.2;have c:=H.out.z4;omega
      rcases j with _ | i
      ·have hp:XD y2.s (k+1):=HCl.out.2 hsm
       have PL:=iQ (qq4 w5 x2.l y2 (k+1) HX5.out HY5.out hp ⟨p1,p2⟩ (by omega) HT5.out);rw [show ((k+1:Nat):Int)=((k:Nat):Int)+1 by omega] at PL;have HRP:Hid (r=tk.plant x2.l.at_ y2.s (k+1)):=iQ (by
        rw [HRk.out];show tk.climb (k+1) [x2.st] y2.s=_;unfold TS.climb;rw [if_neg (by rw [show x2.st.nd.sameB y2.s=false from hsm];decide)];rfl)
       rw [<- HRP.out] at PL;unfold LV.val NV.val at PL;clear hsm hp p1 p2;go_wp2_with fail;refine PL.out.mono ?_;rintro e6 w6 ⟨rfl,F6,h6,m6⟩;have HX:Hid (qW1 W Fb wb tb pb db bw r qv (.returned (.int .i64 r.1)) w6):=iQ (by
        rw [HQV.out];exact ⟨rfl,F6,h6,M2.out.trans (HM5.out.trans m6),m6.not HB5.out.lt HFk.out,fun v hv=>by obtain rfl:=wa0 hv;exact HB5.out.mo m6 HFk.out⟩)
       clear h6 m6 l0 l1 l2 l3 l4 n0 n1 n2 n3;go_wp2_with fail;rw [Exit.noGoto_ret];go_ret;exact HX.out
      ·obtain ⟨x3,hx3⟩:∃ x3,ss[i]?=some x3:=XM (by have:=(wa8.1 HJ.out).1;omega)
       have hst3:(ss.map SV.st)[i]?=some x3.st:=by rw [wc7,hx3];rfl
       rw [RJ hst3] at HCl HRk;obtain ⟨hpre,hnext⟩:=HCl.out.2 hsm;have HRN:Hid (r=if (tk.settle x3.l.x.s x3.kid x2.l.at_ y2.s).1=0 then (tk.settle x3.l.x.s x3.kid x2.l.at_ y2.s).2.2.climb (k+1) (x3.st::((ss.map SV.st).take i).reverse) (tk.settle x3.l.x.s x3.kid x2.l.at_ y2.s).2.1 else ((tk.settle x3.l.x.s x3.kid x2.l.at_ y2.s).1,(tk.settle x3.l.x.s x3.kid x2.l.at_ y2.s).2.2)):=iQ (by
        rw [HRk.out]
        conv=>lhs;unfold TS.climb
        rw [if_neg (by rw [show x2.st.nd.sameB y2.s=false from hsm];decide)];rfl)
       have HNX:Hid ((tk.settle x3.l.x.s x3.kid x2.l.at_ y2.s).1=0->Xz (tk.settle x3.l.x.s x3.kid x2.l.at_ y2.s).2.2 (k+1) (x3.st::((ss.map SV.st).take i).reverse) (tk.settle x3.l.x.s x3.kid x2.l.at_ y2.s).2.1):=iQ hnext;have HPR:Hid (Gj tk x3.l.x.s x3.kid y2.s):=iQ hpre;have HR3:=iQ (RJ hst3);have bd:=(Below.refl w5.heap.size w5).drew;have hS6:=ST2.out.mo (HM5.out.trans (Qb.ob bd));obtain ⟨b',off',e',hb',qS0,qH5,d0,d1,d2,d3,d4,d5⟩:=hS6.at_ hx3;injection e' with e'
       injection e' with e1 e2 e3
       subst e1;subst e2;have SL:=iQ (qg2 w5.drew x3 x2.l y2 qH5 (HX5.out.kept bd) (HY5.out.kept bd) hpre ⟨p1,p2⟩ (by omega) (HT5.out.kept bd));have HK:Hid (∀ wx Fx,Qb w5 Fk wx Fx->wx.cell? ⟨b,off+i*6,none⟩=some (.int .i64 x3.l.pg)/\wx.cell? ⟨b,off+i*6+1,none⟩=some (.bool x3.l.x.s.leaf)/\wx.cell? ⟨b,off+i*6+2,none⟩=some (.slice x3.l.x.A x3.l.x.n x3.l.x.c)/\wx.cell? ⟨b,off+i*6+3,none⟩=some (.slice x3.l.x.B x3.l.x.m x3.l.x.d)/\wx.cell? ⟨b,off+i*6+4,none⟩=some (.slice x3.l.x.C x3.l.x.k x3.l.x.e)/\wx.cell? ⟨b,off+i*6+5,none⟩=some (.int .i64 ((x3.kid:Nat):Int)) /\
        wx.cell? ⟨b11,0,none⟩=some (.int .i64 x2.l.pg)/\wx.cell? ⟨b11,1,none⟩=some (.bool x2.l.x.s.leaf)/\wx.cell? ⟨b11,2,none⟩=some (.slice x2.l.x.A x2.l.x.n x2.l.x.c)/\wx.cell? ⟨b11,3,none⟩=some (.slice x2.l.x.B x2.l.x.m x2.l.x.d)/\wx.cell? ⟨b11,4,none⟩=some (.slice x2.l.x.C x2.l.x.k x2.l.x.e)):=iQ (fun wx Fx m=>by
        have hSx:=ST2.out.mo (HM5.out.trans m);obtain ⟨b',off',e',_,_,_,q0,q1,q2,q3,q4,q5⟩:=hSx.at_ hx3;injection e' with e'
        injection e' with e1 e2 e3
        subst e1;subst e2;obtain ⟨y0,y1,y2,y3,y4⟩:=(LB5.out.mo m NFL.out).cells;exact ⟨q0,q1,q2,q3,q4,q5,y0,y1,y2,y3,y4⟩)
       have K0:=HK.out _ _ (Qb.ob (F:=Fk) bd);obtain ⟨n0',n1',n2',n3'⟩:=(HN5.out.kept bd).cells;obtain ⟨hi1,hi0,hik⟩:=qZ7 i k hj hkb;have hwr:IntKind.i64.wrap (((i+1:Nat):Int) - 1)=((i:Nat):Int):=qY2 i hi1;have HI1:=iQ hi1;clear hi1;have hne1:b≠b9:=Nat.ne_of_lt HB9.out.1;have hne2:b11≠b9:=(Nat.ne_of_lt HL11.out).symm;have BD:=iQ bd;unfold SV.val LV.val NV.val at SL;clear hsm hpre hnext hst3 hx3 hS6 qH5 hb' qS0 p1 p2 bd l0 l1 l2 l3 l4 n0 n1 n2 n3;go_upto_region 8 with fail
       have hwr2:=qY1 i HI1.out;have hwr3:=qY0 i HI1.out;obtain ⟨sr,hsr⟩:∃ sr,tk.settle x3.l.x.s x3.kid x2.l.at_ y2.s=sr:=⟨_,rfl⟩;rw [hsr] at SL HRN HNX;clear hsr;refine wp_region_held_drew (S:=(fun w'=>w'.cell? ⟨b,off+i*6,none⟩=some (.int .i64 x3.l.pg)/\w'.cell? ⟨b,off+i*6+1,none⟩=some (.bool x3.l.x.s.leaf)/\w'.cell? ⟨b,off+i*6+2,none⟩=some (.slice x3.l.x.A x3.l.x.n x3.l.x.c)/\w'.cell? ⟨b,off+i*6+3,none⟩=some (.slice x3.l.x.B x3.l.x.m x3.l.x.d)/\w'.cell? ⟨b,off+i*6+4,none⟩=some (.slice x3.l.x.C x3.l.x.k x3.l.x.e)/\w'.cell? ⟨b,off+i*6+5,none⟩=some (.int .i64 ((x3.kid:Nat):Int)) /\
        w'.cell? ⟨b11,0,none⟩=some (.int .i64 x2.l.pg)/\w'.cell? ⟨b11,1,none⟩=some (.bool x2.l.x.s.leaf)/\w'.cell? ⟨b11,2,none⟩=some (.slice x2.l.x.A x2.l.x.n x2.l.x.c)/\w'.cell? ⟨b11,3,none⟩=some (.slice x2.l.x.B x2.l.x.m x2.l.x.d)/\w'.cell? ⟨b11,4,none⟩=some (.slice x2.l.x.C x2.l.x.k x2.l.x.e))) (by kernel_rfl) K0 (fun hHeld=>?_)
       refine wpAnyH_take (i:=0) (oi:=_) (v:=?_) rfl (by kernel_rfl) (by kernel_rfl) (by kernel_rfl) (fun _ _ _ h=>h) (Or.inl ⟨by rfl,?_⟩) hHeld ?_;case refine_2=>(intro w hSw;(try dsimp only at hSw);go_simp;try with_reducible rfl)
       refine wpAnyH_take (i:=1) (oi:=_) (v:=?_) rfl (by kernel_rfl) (by kernel_rfl) (by kernel_rfl) (fun _ _ _ h=>h) (Or.inl ⟨by rfl,?_⟩) hHeld ?_;case refine_2=>(intro w hSw;(try dsimp only at hSw);go_simp;try with_reducible rfl)
       refine wpAnyH_take (i:=2) (oi:=_) (v:=?_) rfl (by kernel_rfl) (by kernel_rfl) (by kernel_rfl) (fun _ _ _ h=>h) (Or.inl ⟨by rfl,?_⟩) hHeld ?_;case refine_2=>(intro w hSw;(try dsimp only at hSw);go_simp;try with_reducible rfl)
       refine wpAnyH_take (i:=3) (oi:=_) (v:=?_) rfl (by kernel_rfl) (by kernel_rfl) (by kernel_rfl) (fun _ _ _ h=>h) (Or.inl ⟨by rfl,?_⟩) hHeld ?_;case refine_2=>(intro w hSw;(try dsimp only at hSw);go_simp;try with_reducible rfl)
       refine wpAnyH_take (i:=4) (oi:=_) (v:=?_) rfl (by kernel_rfl) (by kernel_rfl) (by kernel_rfl) (fun _ _ _ h=>h) (Or.inl ⟨by rfl,?_⟩) hHeld ?_;case refine_2=>(intro w hSw;(try dsimp only at hSw);go_simp;try with_reducible rfl)
       refine wpAnyH_take (i:=5) (oi:=_) (v:=?_) rfl (by kernel_rfl) (by kernel_rfl) (by kernel_rfl) (fun _ _ _ h=>h) (Or.inl ⟨by rfl,?_⟩) hHeld ?_;case refine_2=>(intro w hSw;(try dsimp only at hSw);go_simp;try with_reducible rfl)
       refine wpAnyH_take (i:=6) (oi:=_) (v:=?_) rfl (by kernel_rfl) (by kernel_rfl) (by kernel_rfl) (fun _ _ _ h=>h) (Or.inl ⟨by rfl,?_⟩) hHeld ?_;case refine_2=>(intro w hSw;(try dsimp only at hSw);go_simp;try with_reducible rfl)
       refine wpAnyH_ready (rs:=[7]) (by kernel_rfl) (by simp) ?_;refine AllReadyH.cons (o:=_) rfl (fun K hK=>?_) AllReadyH.nil
       go_simp
       refine hK.out _ _ K0 (fun hHeld=>?_);clear hK K;refine wpAnyH_ready (rs:=[8]) (by kernel_rfl) (by simp) ?_;refine AllReadyH.cons (o:=_) rfl (fun K hK=>?_) AllReadyH.nil
       go_simp
       refine SL.out.mono ?_;rintro e6 w6 ⟨y6,F6,rfl,yok6,ys6,h6,m6⟩;have M6:=iQ ((Qb.ob (F:=Fk) BD.out).trans m6);have K2:=HK.out _ _ M6.out;have K5:=fun a b' c d:Value=>(by obtain ⟨q0,q1,q2,q3,q4,q5,q6,q7,q8,q9,q10⟩:=K2;exact ⟨(Yo w6 b9 a b' c d b _ hne1).trans q0,(Yo w6 b9 a b' c d b _ hne1).trans q1,(Yo w6 b9 a b' c d b _ hne1).trans q2,(Yo w6 b9 a b' c d b _ hne1).trans q3,(Yo w6 b9 a b' c d b _ hne1).trans q4,(Yo w6 b9 a b' c d b _ hne1).trans q5,(Yo w6 b9 a b' c d b11 _ hne2).trans q6,(Yo w6 b9 a b' c d b11 _ hne2).trans q7,(Yo w6 b9 a b' c d b11 _ hne2).trans q8,(Yo w6 b9 a b' c d b11 _ hne2).trans q9,(Yo w6 b9 a b' c d b11 _ hne2).trans q10⟩:(fun w':World=>w'.cell? ⟨b,off+i*6,none⟩=some (.int .i64 x3.l.pg)/\w'.cell? ⟨b,off+i*6+1,none⟩=some (.bool x3.l.x.s.leaf)/\w'.cell? ⟨b,off+i*6+2,none⟩=some (.slice x3.l.x.A x3.l.x.n x3.l.x.c)/\w'.cell? ⟨b,off+i*6+3,none⟩=some (.slice x3.l.x.B x3.l.x.m x3.l.x.d)/\w'.cell? ⟨b,off+i*6+4,none⟩=some (.slice x3.l.x.C x3.l.x.k x3.l.x.e)/\w'.cell? ⟨b,off+i*6+5,none⟩=some (.int .i64 ((x3.kid:Nat):Int)) /\
        w'.cell? ⟨b11,0,none⟩=some (.int .i64 x2.l.pg)/\w'.cell? ⟨b11,1,none⟩=some (.bool x2.l.x.s.leaf)/\w'.cell? ⟨b11,2,none⟩=some (.slice x2.l.x.A x2.l.x.n x2.l.x.c)/\w'.cell? ⟨b11,3,none⟩=some (.slice x2.l.x.B x2.l.x.m x2.l.x.d)/\w'.cell? ⟨b11,4,none⟩=some (.slice x2.l.x.C x2.l.x.k x2.l.x.e)) ((((w6.setCell ⟨b9,0,none⟩ a).setCell ⟨b9,1,none⟩ b').setCell ⟨b9,2,none⟩ c).setCell ⟨b9,3,none⟩ d))
       have HY6:=iQ yok6;have HS6:=iQ ys6;have HT6:=iQ h6;have MM6:=iQ m6;have HN6:=iQ (HN5.out.mo M6.out HF9.out);obtain ⟨e0,e1,e2,e3⟩:=HN6.out.cells;obtain ⟨f0,f1,f2,f3⟩:=HN6.out.free;unfold NV.val;clear yok6 ys6 h6 m6;go_wp2_with fail;refine hK.out _ _ K2 (fun hHeld=>?_);clear hK K;refine wpAnyH_take (i:=9) (oi:=_) (v:=?_) rfl (by kernel_rfl) (by kernel_rfl) (by kernel_rfl) (fun _ _ _ h=>h) (Or.inl ⟨by rfl,?_⟩) hHeld ?_;case refine_2=>(intro w hSw;(try dsimp only at hSw);go_simp;try with_reducible rfl)
       refine wpAnyH_take (i:=10) (oi:=_) (v:=?_) rfl (by kernel_rfl) (by kernel_rfl) (by kernel_rfl) (fun _ _ _ h=>h) (Or.inl ⟨by rfl,?_⟩) hHeld ?_;case refine_2=>(intro w hSw;(try dsimp only at hSw);go_simp;try with_reducible rfl)
       refine wpAnyH_take (i:=11) (oi:=_) (v:=?_) rfl (by kernel_rfl) (by kernel_rfl) (by kernel_rfl) (fun _ _ _ h=>h) (Or.inl ⟨by rfl,?_⟩) hHeld ?_;case refine_2=>(intro w hSw;(try dsimp only at hSw);go_simp;try with_reducible rfl)
       refine wpAnyH_ready (rs:=[12]) (by kernel_rfl) (by simp) ?_;refine AllReadyH.cons (o:=_) rfl (fun K hK=>?_) AllReadyH.nil
       go_simp
       refine hK.out _ _ (K5 _ _ _ _) (fun hHeld=>?_);clear hK K;refine wpAnyH_take (i:=13) (oi:=_) (v:=?_) rfl (by kernel_rfl) (by kernel_rfl) (by kernel_rfl) (fun _ _ _ h=>h) (Or.inl ⟨by rfl,?_⟩) hHeld ?_;case refine_2=>(intro w hSw;(try dsimp only at hSw);go_simp;try with_reducible rfl)
       refine wpAnyH_done (by kernel_rfl) ?_ _;all_goals (
        have hg:=Zk w6 b9 (.bool y6.s.leaf) (.slice y6.A y6.n y6.c) (.slice y6.B y6.m y6.d) (.slice y6.C y6.k y6.e);have h7:=HT6.out.grown hg (fun g e=>by obtain rfl:=wa0 e;exact ⟨MM6.out.not (wa3 HN5.out.lt BD.out.size) HF9.out,wa9 HWB.out (Nat.le_of_lt HB9.out.2)⟩);have m7:=(HM5.out.trans ((Qb.ob BD.out).trans MM6.out)).grown hg (fun g e=>by obtain rfl:=wa0 e;exact wg9 HE9.out);have yo7:=HY6.out.but HN6.out (Yq.put w6 b9 (.bool y6.s.leaf) (.slice y6.A y6.n y6.c) (.slice y6.B y6.m y6.d) (.slice y6.C y6.k y6.e));have nb7:=HN6.out.put (.bool y6.s.leaf) (.slice y6.A y6.n y6.c) (.slice y6.B y6.m y6.d) (.slice y6.C y6.k y6.e);have bb7:Jm ((((w6.setCell ⟨b9,0,none⟩ (.bool y6.s.leaf)).setCell ⟨b9,1,none⟩ (.slice y6.A y6.n y6.c)).setCell ⟨b9,2,none⟩ (.slice y6.B y6.m y6.d)).setCell ⟨b9,3,none⟩ (.slice y6.C y6.k y6.e)) bw (vf (TS.last l)):=((Yq.put w6 b9 _ _ _ _).2 bw (Nat.ne_of_lt HB9.out.2)).trans (HB5.out.mo M6.out HFk.out);have nf7:=M6.out.not HB5.out.lt HFk.out;have zk0:=M6.out.not HN5.out.lt HF9.out;by_cases he:sr.1=0
        ·have zq4:Hid (zp1 W w2 F1 tb pb db bw b9 (k+1) ss (vf (TS.last l)) r i ((((w6.setCell ⟨b9,0,none⟩ (.bool y6.s.leaf)).setCell ⟨b9,1,none⟩ (.slice y6.A y6.n y6.c)).setCell ⟨b9,2,none⟩ (.slice y6.B y6.m y6.d)).setCell ⟨b9,3,none⟩ (.slice y6.C y6.k y6.e))):=iQ (by
          refine ⟨sr.2.2,F6,y6,h7,m7,yo7,nb7,bb7,nf7,zk0,?_,?_⟩
          ·rw [HR3.out,HS6.out]
           exact HNX.out he
          ·rw [HR3.out,HS6.out,HRN.out,if_pos he])
         rw [he];clear he h7 m7 yo7 nb7 bb7 nf7 zk0 hg K2 K5 e0 e1 e2 e3 f0 f1 f2 f3;go_wp2_with fail;go_roundw;case rel=>exact ⟨i,Nat.le_of_succ_le hj,rfl,by first | rfl | go_num,zq4⟩
         case measure=>simp [RowKit.intOf]
        ·have hb2:(sr.1 != 0)=true:=bne_iff_ne.2 he
         have HX:Hid (qW1 W Fb wb tb pb db bw r qv (.returned (.int .i64 sr.1)) ((((w6.setCell ⟨b9,0,none⟩ (.bool y6.s.leaf)).setCell ⟨b9,1,none⟩ (.slice y6.A y6.n y6.c)).setCell ⟨b9,2,none⟩ (.slice y6.B y6.m y6.d)).setCell ⟨b9,3,none⟩ (.slice y6.C y6.k y6.e))):=iQ (by
          rw [HRN.out,if_neg he,HQV.out];exact ⟨rfl,F6,h7,M2.out.trans m7,nf7,fun v hv=>by obtain rfl:=wa0 hv;exact bb7⟩)
         clear he h7 m7 yo7 nb7 bb7 nf7 zk0 hg K2 K5 e0 e1 e2 e3 f0 f1 f2 f3;go_wp2_with fail;rw [Exit.noGoto_ret];go_ret;exact HX.out)
end
section
variable {W w w':World} {F F':Nat->Prop} {tb pb db:Nat} {t t':TS}
theorem Jm.cell {g:Nat} {v:Bool} (h:Jm w g v):w.cell? ⟨g,0,none⟩=some (.bool v):=(cell_of_row w g 0 _ _ _ h).trans rfl
theorem Jm.free {g:Nat} {v:Bool} (h:Jm w g v):w.frozen? ⟨g,0,none⟩=false:=frozen_of_row w g 0 _ _ h
theorem Jm.set {g:Nat} {v:Bool} (h:Jm w g v) (u:Bool):Jm (w.setCell ⟨g,0,none⟩ (.bool u)) g u:=by
 unfold Jm at *;rw [Joins.block_setCell h];rfl
theorem Ul.mo {g:Nat} {s:ByteArray} (h:Ul w g s) (m:Qb w F w' F') (hF:¬ F g):Ul w' g s:=(m.kept.block g h.lt hF).trans h
theorem Ul.set {g k j:Nat} {s:ByteArray} {v:Value} (h:Ul w g s) (hne:g≠k):Ul (w.setCell ⟨k,j,none⟩ v) g s:=(Below.heap_setCell _ _ _ _ hne).trans h
theorem Qs.setE {g k j:Nat} {x y z p v:Value} (h:Qs w g x y z p) (hne:g≠k):Qs (w.setCell ⟨k,j,none⟩ v) g x y z p:=(Below.heap_setCell _ _ _ _ hne).trans h
theorem Ln.butB {A:Option Addr} {n c g:Nat} {v u:Bool} {cs:List Value} (l:Ln w 1 A n c cs) (hk:∀ u∈cs,(∃ s,u = .string s)\/∃ z,u = .int .i64 z) (h:Jm w g v):Ln (w.setCell ⟨g,0,none⟩ (.bool u)) 1 A n c cs :=
 ⟨l.len,l.le,l.lies.1,fun ad e j x hx=>by
  have h0:=l.lies.2 ad e j x hx;have hne:(ad.add j).block≠g:=by
   intro e2;have hs:=World.cell?_spot h0;generalize ad.add j=a2 at h0 e2 hs;obtain ⟨bl,off,sp⟩:=a2;obtain rfl:sp=none:=hs;obtain rfl:bl=g:=e2;have e3:=cell_of_row w bl off _ _ _ h;rw [h0] at e3
   match off,e3 with
   | 0,e3=>rcases hk x (wb5 hx) with ⟨s,rfl⟩ | ⟨z,rfl⟩<;>cases e3
   | j+1,e3=>simp at e3
  rw [World.cell?_of_block (w:=w) (Below.heap_setCell _ _ _ _ hne)];exact h0⟩
theorem NV.ok.butB {x:NV} {g:Nat} {v u:Bool} (h:x.ok w F) (hb:Jm w g v):x.ok (w.setCell ⟨g,0,none⟩ (.bool u)) F :=
 ⟨⟨h.ke.ln.butB (SQ _) hb,h.ke.out⟩,⟨h.va.ln.butB (SQ _) hb,h.va.out⟩,⟨h.ki.ln.butB (qj9 _) hb,h.ki.out⟩⟩
theorem Uj {q:Nat} {row:Option Nat} (h:w.grownBy w' row) (hq:w.heap.size<=q) (x y z p:Value):w.grownBy ((((w'.setCell ⟨q,0,none⟩ x).setCell ⟨q,1,none⟩ y).setCell ⟨q,2,none⟩ z).setCell ⟨q,3,none⟩ p) row :=
 ⟨h.os,h.tape,h.output,by simpa [World.setCell] using h.size,fun k hk hne=>((Yq.put w' q x y z p).2 k (by omega)).trans (h.block k hk hne)⟩
theorem ZG {q:Nat} (h:w.grownBy w' (some q)) (v:Value):w.grownBy (w'.setCell ⟨q,0,none⟩ v) (some q) :=
 ⟨h.os,h.tape,h.output,by simpa [World.setCell] using h.size,fun k hk hne=>(Below.heap_setCell _ _ _ _ (fun e=>hne (by rw [e]))).trans (h.block k hk hne)⟩
theorem YJ {row:Option Nat} (hb:Below w.heap.size w w'):w.grownBy w' row:=⟨hb.os,hb.tape,hb.output,hb.size,fun k hk _=>hb.block k hk⟩
def qe4 (F:Nat->Prop) (w:World) (bw:Nat) (s:ND) (r:Bool) (e:Ending) (w':World):Prop:=∃ y:NV,e = .returned y.val/\y.ok w' F/\y.s=s/\w.grownBy w' (some bw)/\Jm w' bw r
theorem qN5 (w:World) (x:NV) (key val:ByteArray) (kb vb bw:Nat) (v0:Bool) (hF:∀ k,F k->k<w.heap.size) (hx:x.ok w F) (hl:x.s.leaf=true) (ho:x.s.ok=true) (hz:x.s.size<=1000) (hk:Ul w kb key) (hv:Ul w vb val) (hb:Jm w bw v0) (h1:kb≠bw) (h2:vb≠bw) :
 Calls Tryz.prog 55 #[x.val,.pointer (some ⟨kb,0,none⟩),.pointer (some ⟨bw,0,none⟩),.pointer (some ⟨vb,0,none⟩)] w (qe4 F w bw (x.s.put key.toList val.toList) (ND.isAt key.toList x.s.keys)):=by
 obtain ⟨A,n,c,B,m,d,C,k,e,s⟩:=x;unfold NV.val;dsimp only at hl ho hz ⊢;rw [hl];have hkn:n<=1000:=by
  have a:=hx.nd.kn;unfold ND.size ND.tsz at hz;dsimp only at a;omega
 obtain ⟨Vh,tb2,Xm⟩:=Jr w (.bool true) (.slice A n c) (.slice B m d) (.slice C k e);have HF:=iQ hF;have HX:=iQ (hx.kept Xm);have HB:=iQ Vh;have HR:=iQ tb2;have B0:=iQ Xm;have HKK:=iQ (hk.kept Xm);have HVV:=iQ (hv.kept Xm);have HBB:=iQ (hb.kept Xm);have UC:=iQ (⟨hk.lt,hv.lt,hb.lt⟩:kb<w.heap.size/\vb<w.heap.size/\bw<w.heap.size);have HL:=iQ hl;have HO:=iQ ho;have H1:=iQ h1;have H2:=iQ h2;clear hF hx hl ho hz hk hv hb h1 h2 Vh tb2 Xm;go_enter Tryz.func55,Tryz.ntmps55;go_upto_region 1 with fail
 generalize (w.alloc (.cells #[.bool true,.slice A n c,.slice B m d,.slice C k e] 75)).alloc (.cells #[.bool false,.slice none 0 0,.slice none 0 0,.slice none 0 0] 75)=w0 at *;obtain ⟨c0,c1,c2,c3⟩:=HB.out.cells;have ck:=HKK.out.cell;go_wp2_with fail;refine (NM true A n c B m d C k e s key w0 HX.out.nd (ND.ok_rise HO.out) (by omega)).mono ?_;rintro e1 w1 ⟨rfl,b1⟩;have B1:=iQ (Qe b1 B0.out);have HB1:=iQ (HB.out.kept b1);have HR1:=iQ (HR.out.kept b1);have UD:=iQ (HX.out.kept b1);have LZ:=iQ (HKK.out.kept b1);have HV1:=iQ (HVV.out.kept b1);have qm8:=iQ (HBB.out.kept b1);clear b1 c0 c1 c2 c3 ck HB HR HX HKK HVV HBB;have y0:=qm8.out.cell;have y1:=qm8.out.free;have HG2:=iQ (ZG (YJ (row:=some bw) B1.out) (.bool (ND.isAt key.toList s.keys)));have HB2:Hid (Qs (w1.setCell ⟨bw,0,none⟩ (.bool (ND.isAt key.toList s.keys))) w.heap.size (.bool true) (.slice A n c) (.slice B m d) (.slice C k e)):=iQ (HB1.out.setE (by have:=UC.out;omega));have HR2:Hid (Qs (w1.setCell ⟨bw,0,none⟩ (.bool (ND.isAt key.toList s.keys))) (w.heap.size+1) (.bool false) (.slice none 0 0) (.slice none 0 0) (.slice none 0 0)):=iQ (HR1.out.setE (by have:=UC.out;omega));have JK:=iQ (UD.out.butB (u:=ND.isAt key.toList s.keys) qm8.out);have HK2:Hid (Ul (w1.setCell ⟨bw,0,none⟩ (.bool (ND.isAt key.toList s.keys))) kb key):=iQ (LZ.out.set H1.out);have TJ:Hid (Ul (w1.setCell ⟨bw,0,none⟩ (.bool (ND.isAt key.toList s.keys))) vb val):=iQ (HV1.out.set H2.out);have zh1:=iQ (qm8.out.set (ND.isAt key.toList s.keys));clear HB1 HR1 UD LZ HV1 qm8;go_upto_region 2 with fail
 generalize w1.setCell ⟨bw,0,none⟩ (.bool (ND.isAt key.toList s.keys))=w2 at *;clear y0 y1;obtain ⟨c0,c1,c2,c3⟩:=HB2.out.cells;have ck:=HK2.out.cell;have cv:=TJ.out.cell;go_wp2_with fail;refine (qU2 true A n c B m d C k e s key val w2 JK.out.nd HL.out HO.out rfl (by omega)).mono ?_;rintro e1 w3 ⟨v3,rfl,hv3,b3⟩;obtain ⟨yv,rfl,yok,ys⟩:=qb9 hv3 (F:=F) (fun k hk=>by have:=HF.out k hk;have:=HG2.out.size;omega);obtain ⟨yA,yn,yc,yB,ym,yd,yC,yk,ye,LY⟩:=yv;have HR3:=iQ (HR2.out.kept b3);have HG3:=iQ (HG2.out.trans (YJ (row:=some bw) b3));have HBB3:=iQ (zh1.out.kept b3);have HYS:=iQ ys;have HYO:=iQ yok;clear hv3 yok ys b3 c0 c1 c2 c3 ck cv HB2 HR2 JK HK2 TJ zh1 HG2;unfold NV.val;dsimp only;have HD:Hid (qe4 F w bw (s.put key.toList val.toList) (ND.isAt key.toList s.keys) (.returned (.agg #[.bool LY.leaf,.slice yA yn yc,.slice yB ym yd,.slice yC yk ye]))
  ((((w3.setCell ⟨w.heap.size+1,0,none⟩ (.bool LY.leaf)).setCell ⟨w.heap.size+1,1,none⟩ (.slice yA yn yc)).setCell ⟨w.heap.size+1,2,none⟩ (.slice yB ym yd)).setCell ⟨w.heap.size+1,3,none⟩ (.slice yC yk ye))):=iQ
  ⟨⟨yA,yn,yc,yB,ym,yd,yC,yk,ye,LY⟩,rfl,HYO.out.but HR3.out (Yq.put _ _ _ _ _ _),HYS.out,Uj HG3.out (by omega) _ _ _ _,((Yq.put w3 (w.heap.size+1) _ _ _ _).2 bw (by have:=UC.out;omega)).trans HBB3.out⟩
 have HE:=iQ (HR3.out.put (.bool LY.leaf) (.slice yA yn yc) (.slice yB ym yd) (.slice yC yk ye)).cells;obtain ⟨x0,x1,x2,x3⟩:=HR3.out.cells;obtain ⟨f0,f1,f2,f3⟩:=HR3.out.free;go_wp2_with fail;obtain ⟨z0,z1,z2,z3⟩:=HE.out;refine bodyPost_ret (v := .agg #[.bool LY.leaf,.slice yA yn yc,.slice yB ym yd,.slice yC yk ye]) (by simp [results,Tryz.results55,go_sem,z0,z1,z2,z3]) rfl ?_;exact HD.out
theorem qU7 (w:World) (x:NV) (key:ByteArray) (kb bw:Nat) (v0:Bool) (hF:∀ k,F k->k<w.heap.size) (hx:x.ok w F) (hl:x.s.leaf=true) (ho:x.s.ok=true) (hz:x.s.size<=1000) (hk:Ul w kb key) (hb:Jm w bw v0) (h1:kb≠bw) :
 Calls Tryz.prog 140 #[x.val,.pointer (some ⟨kb,0,none⟩),.pointer (some ⟨bw,0,none⟩)] w (qe4 F w bw (x.s.remove key.toList) (ND.isAt key.toList x.s.keys)):=by
 obtain ⟨A,n,c,B,m,d,C,k,e,s⟩:=x;unfold NV.val;dsimp only at hl ho hz ⊢;rw [hl];have hkn:n<=1000:=by
  have a:=hx.nd.kn;unfold ND.size ND.tsz at hz;dsimp only at a;omega
 obtain ⟨Vh,tb2,Xm⟩:=Jr w (.bool true) (.slice A n c) (.slice B m d) (.slice C k e);have HF:=iQ hF;have HX:=iQ (hx.kept Xm);have HB:=iQ Vh;have HR:=iQ tb2;have B0:=iQ Xm;have HKK:=iQ (hk.kept Xm);have HBB:=iQ (hb.kept Xm);have UC:=iQ (⟨hk.lt,hb.lt⟩:kb<w.heap.size/\bw<w.heap.size);have HL:=iQ hl;have HO:=iQ ho;have H1:=iQ h1;clear hF hx hl ho hz hk hb h1 Vh tb2 Xm;go_enter Tryz.func140,Tryz.ntmps140;go_upto_region 1 with fail
 generalize (w.alloc (.cells #[.bool true,.slice A n c,.slice B m d,.slice C k e] 75)).alloc (.cells #[.bool false,.slice none 0 0,.slice none 0 0,.slice none 0 0] 75)=w0 at *;obtain ⟨c0,c1,c2,c3⟩:=HB.out.cells;have ck:=HKK.out.cell;go_wp2_with fail;refine (qp8 A n c B m d C k e s key w0 HX.out.nd HL.out HO.out (by omega)).mono ?_;rintro e1 w1 ⟨v3,rfl,hv3,b1⟩;have B1:=iQ (Qe b1 B0.out);obtain ⟨yv,rfl,yok,ys⟩:=qb9 hv3 (F:=F) (fun k hk=>by have:=HF.out k hk;have:=B0.out.size;omega);obtain ⟨yA,yn,yc,yB,ym,yd,yC,yk,ye,LY⟩:=yv;have HB1:=iQ (HB.out.kept b1);have HR1:=iQ (HR.out.kept b1);have qm8:=iQ (HBB.out.kept b1);have HYS:=iQ ys;have HYO:=iQ yok;clear hv3 yok ys b1 c0 c1 c2 c3 ck HB HR HX HKK HBB;unfold NV.val;dsimp only;have HNB:=iQ (Yq.put w1 w.heap.size (.bool LY.leaf) (.slice yA yn yc) (.slice yB ym yd) (.slice yC yk ye));have qX5:Hid (Jm ((((w1.setCell ⟨w.heap.size,0,none⟩ (.bool LY.leaf)).setCell ⟨w.heap.size,1,none⟩ (.slice yA yn yc)).setCell ⟨w.heap.size,2,none⟩ (.slice yB ym yd)).setCell ⟨w.heap.size,3,none⟩ (.slice yC yk ye)) bw v0):=iQ ((HNB.out.2 bw (by have:=UC.out;omega)).trans qm8.out);have HG2:Hid (w.grownBy (((((w1.setCell ⟨w.heap.size,0,none⟩ (.bool LY.leaf)).setCell ⟨w.heap.size,1,none⟩ (.slice yA yn yc)).setCell ⟨w.heap.size,2,none⟩ (.slice yB ym yd)).setCell ⟨w.heap.size,3,none⟩ (.slice yC yk ye)).setCell ⟨bw,0,none⟩ (.bool (ND.isAt key.toList s.keys))) (some bw)):=iQ (ZG (Uj (YJ (row:=some bw) B1.out) (wa2 _) _ _ _ _) _);have HB2:Hid (Qs (((((w1.setCell ⟨w.heap.size,0,none⟩ (.bool LY.leaf)).setCell ⟨w.heap.size,1,none⟩ (.slice yA yn yc)).setCell ⟨w.heap.size,2,none⟩ (.slice yB ym yd)).setCell ⟨w.heap.size,3,none⟩ (.slice yC yk ye)).setCell ⟨bw,0,none⟩ (.bool (ND.isAt key.toList s.keys))) w.heap.size (.bool LY.leaf) (.slice yA yn yc) (.slice yB ym yd) (.slice yC yk ye)):=iQ ((HB1.out.put _ _ _ _).setE (by have:=UC.out;omega));have HR2:Hid (Qs (((((w1.setCell ⟨w.heap.size,0,none⟩ (.bool LY.leaf)).setCell ⟨w.heap.size,1,none⟩ (.slice yA yn yc)).setCell ⟨w.heap.size,2,none⟩ (.slice yB ym yd)).setCell ⟨w.heap.size,3,none⟩ (.slice yC yk ye)).setCell ⟨bw,0,none⟩ (.bool (ND.isAt key.toList s.keys))) (w.heap.size+1) (.bool false) (.slice none 0 0) (.slice none 0 0) (.slice none 0 0)):=iQ ((HR1.out.but HNB.out (by omega)).setE (by have:=UC.out;omega));have HY2:Hid (NV.ok ⟨yA,yn,yc,yB,ym,yd,yC,yk,ye,LY⟩ (((((w1.setCell ⟨w.heap.size,0,none⟩ (.bool LY.leaf)).setCell ⟨w.heap.size,1,none⟩ (.slice yA yn yc)).setCell ⟨w.heap.size,2,none⟩ (.slice yB ym yd)).setCell ⟨w.heap.size,3,none⟩ (.slice yC yk ye)).setCell ⟨bw,0,none⟩ (.bool (ND.isAt key.toList s.keys))) F):=iQ ((HYO.out.but HB1.out HNB.out).butB qX5.out);have zh1:Hid (Jm (((((w1.setCell ⟨w.heap.size,0,none⟩ (.bool LY.leaf)).setCell ⟨w.heap.size,1,none⟩ (.slice yA yn yc)).setCell ⟨w.heap.size,2,none⟩ (.slice yB ym yd)).setCell ⟨w.heap.size,3,none⟩ (.slice yC yk ye)).setCell ⟨bw,0,none⟩ (.bool (ND.isAt key.toList s.keys))) bw (ND.isAt key.toList s.keys)):=iQ (qX5.out.set _);obtain ⟨x0,x1,x2,x3⟩:=HB1.out.cells;obtain ⟨f0,f1,f2,f3⟩:=HB1.out.free;have y0:=qX5.out.cell;have y1:=qX5.out.free;clear HB1 HR1 qm8 HYO HNB qX5;go_upto_region 2 with fail
 generalize ((((w1.setCell ⟨w.heap.size,0,none⟩ (.bool LY.leaf)).setCell ⟨w.heap.size,1,none⟩ (.slice yA yn yc)).setCell ⟨w.heap.size,2,none⟩ (.slice yB ym yd)).setCell ⟨w.heap.size,3,none⟩ (.slice yC yk ye)).setCell ⟨bw,0,none⟩ (.bool (ND.isAt key.toList s.keys))=w2 at *;clear x0 x1 x2 x3 f0 f1 f2 f3 y0 y1;have HD:Hid (qe4 F w bw (s.remove key.toList) (ND.isAt key.toList s.keys) (.returned (.agg #[.bool LY.leaf,.slice yA yn yc,.slice yB ym yd,.slice yC yk ye]))
  ((((w2.setCell ⟨w.heap.size+1,0,none⟩ (.bool LY.leaf)).setCell ⟨w.heap.size+1,1,none⟩ (.slice yA yn yc)).setCell ⟨w.heap.size+1,2,none⟩ (.slice yB ym yd)).setCell ⟨w.heap.size+1,3,none⟩ (.slice yC yk ye))):=iQ
  ⟨⟨yA,yn,yc,yB,ym,yd,yC,yk,ye,LY⟩,rfl,HY2.out.but HR2.out (Yq.put _ _ _ _ _ _),HYS.out,Uj HG2.out (by omega) _ _ _ _,((Yq.put w2 (w.heap.size+1) _ _ _ _).2 bw (by have:=UC.out;omega)).trans zh1.out⟩
 have HE:=iQ (HR2.out.put (.bool LY.leaf) (.slice yA yn yc) (.slice yB ym yd) (.slice yC yk ye)).cells;obtain ⟨c0,c1,c2,c3⟩:=HB2.out.cells;obtain ⟨x0,x1,x2,x3⟩:=HR2.out.cells;obtain ⟨f0,f1,f2,f3⟩:=HR2.out.free;go_wp2_with fail;obtain ⟨z0,z1,z2,z3⟩:=HE.out;refine bodyPost_ret (v := .agg #[.bool LY.leaf,.slice yA yn yc,.slice yB ym yd,.slice yC yk ye]) (by simp [results,Tryz.results140,go_sem,z0,z1,z2,z3]) rfl ?_;exact HD.out
end
end
section
namespace TT
open ND TS
theorem key_tsz:∀ (l:List K) (i:Nat),(l.getD i []).length<=tsz l
 | [],i=>by simp
 | x::l,0=>by
   rw [tsz_cons,List.getD_cons_zero];omega
 | x::l,i+1=>by
   have:=key_tsz l i;rw [tsz_cons,List.getD_cons_succ];omega
theorem splitK_le (n:ND):n.splitK.length<=n.size:=by
 unfold ND.splitK;split
 ·simp
 ·have:=key_tsz n.keys n.splitAt
  unfold ND.size;omega
theorem most_le {n:ND} (h:Most n):n.size<=1420:=by
 unfold Most at h;split at h<;>omega
theorem fin_of {S:R} {h:Nat} {n:ND} {lo hi:K} {es:List E} {qs:List Int} (v:VN S h n lo hi es qs) (h1:Most n):Kr n :=
 ⟨Or.inr h1,fun h2=>v.ok (Or.inr (v.keyed (by omega)))⟩
theorem node_is {nd:Int->Option ND} {p:Int} {n:ND} {lf:Bool} (h:nd p=some n) (hl:n.leaf=lf):nodeAt nd p lf=some n:=by
 unfold nodeAt;rw [h];dsimp only;rw [if_pos hl]
theorem most_of {n:ND} (hm:n.size<=if n.leaf then 1222 else 1125):Most n:=by
 unfold Most;cases hl:n.leaf with
 | true=>rw [hl] at hm;simp at hm ⊢;omega
 | false=>rw [hl] at hm;simp at hm ⊢;omega
section
variable {O:List Int} {nd0:Int->Option ND} {t:TS}
theorem UpS.ok_ {nd:Int->Option ND} {s:St} {h:Nat} {root:Bool} {p:Int} {LO HI lo hi:K} {e1 e3:List E} {q1 q3:List Int} (u:UpS nd s h root p LO HI lo hi e1 e3 q1 q3):s.nd.ok=true:=by
 have h1:=u.keyed;unfold ND.ok innerB;simp [u.leaf,u.rise,u.vals,u.kids,u.len];omega
theorem UpS.pre {s:St} {h:Nat} {root:Bool} {p:Int} {n:ND} {LO HI lo hi:K} {e1 e3 es:List E} {q1 q3 ps M:List Int} (u:UpS t.nd s (h+1) root p LO HI lo hi e1 e3 q1 q3)
 (acc:Acc O nd0 t (p::(ps++((q1++q3)++M)))) (v:VN (Sub t.nd h) h n lo hi es ps) (hm:n.size<=if n.leaf then 1222 else 1125):Gj t s.nd s.kid n:=by
 obtain ⟨hkl,hkc⟩:=wa8.1 u.kid;have hlen:=u.len;have hrise:=u.rise;have hkeys:=rise_nil.1 hrise;have KC:=most_of hm;refine ⟨u.ok_,u.leaf,u.fits,by omega,by have:=most_le KC;omega,fun _=>fin_of v KC,fun hlow hi1=>?_,fun hlow hi1=>?_⟩
 ·have ek:s.nd.keys.drop s.kid=s.nd.keys[s.kid]::s.nd.keys.drop (s.kid+1):=wc4 hi1
  have ec:s.nd.kids.drop (s.kid+1)=s.nd.kids[s.kid+1]::s.nd.kids.drop (s.kid+1+1):=wc4 (by omega);have hr:=u.right;rw [ek,ec] at hr;have gk:s.nd.keys.getD s.kid []=s.nd.keys[s.kid]:=by rw [wa7,wb1 hi1];rfl
  have gc:s.nd.kids.getD (s.kid+1) 0=s.nd.kids[s.kid+1]:=by rw [wa7,wb1 (show s.kid+1<s.nd.kids.length by omega)];rfl
  rw [gk,gc];have JV:s.nd.keys[s.kid]∈s.nd.keys:=List.getElem_mem hi1;generalize hkk:s.nd.keys[s.kid]=k at *;generalize hcc:s.nd.kids[s.kid+1]=c at *;obtain ⟨rfl,g,a1,b1,a2,b2,rfl,rfl,hs,hr2⟩:=hr;obtain ⟨m,qm,rfl,m1,m2,m3,m4⟩:=hs;have hk1:hi≠[]:=by
   have:=(hkeys.1 hi JV).1;intro e;rw [e] at this;simp at this
  have qt3:t.kidOf s.nd (s.kid+1)=m:=by
   unfold TS.kidOf;rw [gc,m1];rfl
  rw [qt3];have hbk:btw lo g hi:=by
   constructor
   ·rcases runL_end u.left with ⟨_,e⟩ | ⟨A',e⟩
    ·rw [e]
     exact (u.keys hi JV).1
    ·have hx:s.nd.keys=(A'++[lo])++s.nd.keys.drop s.kid:=by rw [<- e,wb7]
     have hp2:=hkeys.2;rw [hx,wc3] at hp2;exact Xi _ _ (hp2.2.2 lo (by simp) hi (by rw [ek];simp))
   ·rcases runR_head hr2 with ⟨_,e⟩ | ⟨B',e⟩
    ·rw [e]
     exact (u.keys hi JV).2
    ·right
     have hp2:=hkeys.2;have hx:s.nd.keys=s.nd.keys.take s.kid++(hi::g::B'):=(by rw [<- e,<- ek,wb7]);rw [hx,wc3] at hp2;exact (wd1.1 hp2.2.1).1 g (by simp)
  have vj:=v.join (Sub.good t.nd h) m4 hbk hk1 (hkeys.1 hi JV).2;have hjs:=join_size (a:=n) (b:=m) (k:=hi);have qS2:=(hkeys.1 hi JV).2;have Gy:(n.join hi m).leaf=n.leaf:=rfl;have htop:=acc.top (p:=c) (by simp);refine ⟨by omega,htop.2,node_is m1 (m4.leaf.trans v.leaf.symm),fin_of vj ?_⟩;unfold Most;rw [Gy];cases hl:n.leaf with
  | true=>rw [hl] at hjs;simp at hjs ⊢;omega
  | false=>rw [hl] at hjs;simp at hjs ⊢;omega
 ·have qS1:s.kid=s.nd.keys.length:=by omega
  have hpos:=u.keyed;obtain ⟨A,k,ek⟩:∃ A k,s.nd.keys=A++[k]:=⟨s.nd.keys.dropLast,s.nd.keys.getLast (by intro e;rw [e] at hpos;simp at hpos),(List.dropLast_concat_getLast _).symm⟩;have hAl:A.length+1=s.nd.keys.length:=by rw [ek];simp
  have hC:∃ CA c,s.nd.kids.take s.kid=CA++[c]/\CA.length=A.length:=by
   have hl:(s.nd.kids.take s.kid).length=A.length+1:=by rw [wb8];omega
   have hne:s.nd.kids.take s.kid≠[]:=by intro e;rw [e] at hl;simp at hl
   exact ⟨_,_,(List.dropLast_concat_getLast hne).symm,by rw [List.length_dropLast];omega⟩
  obtain ⟨CA,c,ec,hCA⟩:=hC;have hleft:=u.left;rw [ec,show s.nd.keys.take s.kid=A++[k] by rw [qS1,wf2,ek]] at hleft;obtain ⟨rfl,g,a1,b1,a2,b2,rfl,rfl,hl1,hs,hg⟩:=runL_last hCA hleft;have hright:=u.right;have ed:s.nd.keys.drop s.kid=[]:=by rw [qS1,List.drop_length]
  have edc:s.nd.kids.drop (s.kid+1)=[]:=wc6 (by omega);rw [ed,edc] at hright;obtain ⟨rfl,rfl,rfl⟩:=hright;obtain ⟨m,qm,rfl,m1,m2,m3,m4⟩:=hs;have JV:lo∈s.nd.keys:=by rw [ek];simp
  have BZ:s.kid - 1=A.length:=by omega
  have gk:s.nd.keys.getD (s.kid - 1) []=lo:=by
   rw [BZ,ek,wa7,wd8 (wa2 _),wf1];rfl
  have qy7:s.nd.kids=(CA++[c])++[p]:=by
   have h3:s.nd.kids.drop s.kid=p::s.nd.kids.drop (s.kid+1):=by rw [wc4 hkl,hkc]
   rw [edc] at h3;rw [<- ec,<- h3,wb7]
  have gc:s.nd.kids.getD (s.kid - 1) 0=c:=by
   rw [BZ,qy7,<- hCA,wb9,wa7,wd8 (wa2 _),wf1];rfl
  have qt3:t.kidOf s.nd (s.kid - 1)=m:=by
   unfold TS.kidOf;rw [gc,m1];rfl
  rw [gk,gc,qt3];have hk1:lo≠[]:=by
   have:=(hkeys.1 lo JV).1;intro e;rw [e] at this;simp at this
  have hbk:btw g hi lo:=by
   refine ⟨?_,(u.keys lo JV).2⟩;rcases runL_end hl1 with ⟨_,e⟩ | ⟨A',e⟩
   ·rw [e]
    exact (u.keys lo JV).1
   ·have hp2:=hkeys.2
    rw [ek,e,wc3] at hp2;exact Xi _ _ (hp2.2.2 g (by simp) lo (by simp))
  have vj:=m4.join (Sub.good t.nd h) v hbk hk1 (hkeys.1 lo JV).2;have hjs:=join_size (a:=m) (b:=n) (k:=lo);have qS2:=(hkeys.1 lo JV).2;have Gy:(m.join lo n).leaf=m.leaf:=rfl;have htop:=acc.top (p:=c) (by simp);refine ⟨by omega,htop.2,node_is m1 (m4.leaf.trans v.leaf.symm),fin_of vj ?_⟩;unfold Most;rw [Gy];cases hl:m.leaf with
  | true=>rw [hl] at hjs;simp at hjs ⊢;omega
  | false=>rw [hl] at hjs;simp at hjs ⊢;omega
theorem plant_pre {h:Nat} {n:ND} {es:List E} {ps:List Int} {H:Nat} (v:VN (Sub t.nd h) h n [] [] es ps) (hm:Most n) (hH:H=h+1) (h2:H<=1000):XD n H:=by
 have hs:=most_le hm;refine ⟨by omega,by omega,h2,fun _=>fin_of v hm,fun hk hl=>?_,by have:=splitK_le n;omega⟩;cases h with
 | zero=>rw [v.1.leaf] at hl;cases hl
 | succ h =>
   have:=run_len (VI.run v);omega
theorem climb_pre (H:Nat) (hH2:H<=1000):∀ (r:List St) (s:St) (t:TS) (h:Nat) (n:ND) (lo hi:K) (es:List E) (ps:List Int) (pre post:List E) (qs:List Int),
 t.z<=2147483647->Acc O nd0 t (s.pg::(ps++qs))->t.nd s.pg=some s.nd->s.nd.size<=1000 ->
 VN (Sub t.nd h) h n lo hi es ps->(n.size<=if n.leaf then 1222 else 1125)->Up t.nd r h s.pg lo hi pre post qs->H=h+1+r.length->Xz t H (s::r) n:=by
 intro r
 induction r with
 | nil =>
   intro s t h n lo hi es ps pre post qs hz acc hp h1 v hm u hH;obtain ⟨rfl,rfl,rfl,rfl,rfl⟩:=u;have KC:=most_of hm;exact ⟨by have:=most_le KC;omega,fun _=>plant_pre v KC hH hH2⟩
 | cons x r ih =>
   intro s t h n lo hi es ps pre post qs hz acc hp h1 v hm u hH;obtain ⟨LO,HI,e1,e3,q1,q3,pre',post',YR,us,ur,rfl,rfl,rfl⟩:=u;have acc':Acc O nd0 t (s.pg::(ps++((q1++q3)++(x.pg::YR)))):=by rw [wb9 q1 q3];exact acc
   refine ⟨by have:=most_le (most_of hm);omega,fun _=>⟨us.pre acc' v hm,fun he=>?_⟩⟩;rcases us.settle hz acc' hp v hm with ⟨t',e,f⟩ | ⟨n',t',ps',e,d⟩
   ·rw [show t.settle x.nd x.kid s.at_ n=_ from e] at he
    exact absurd he (show ¬ (81:Int)=0 by decide)
   ·rw [show t.settle x.nd x.kid s.at_ n=_ from e]
    have hnl:n'.leaf=false:=d.vn.leaf;have hd:=d.did;have hpm:(ps'++(x.pg::YR)).Perm (x.pg::(ps'++YR)):=wf3;have hd2:=hd.perm (List.Perm.refl _) hpm;have hsz:=d.size;have hfit:=us.fits;exact ih x t' (h+1) n' LO HI _ ps' pre' post' YR (by rw [hd.z_];exact hz) hd2.acc ((d.else_ x.pg (by simp)).trans us.here) us.fits d.vn (by rw [hnl];simp;omega) (ur.frame (fun y hy=>d.else_ y (by simp [hy]))) (by rw [hH,wb4];omega)
variable {es:List E} {L:List Int}
theorem sub_in {nd:Int->Option ND} {key:K} {z:Nat} {M:List Int} (hM:∀ x∈M,0<=x/\x<z):∀ (h:Nat) (p:Int) (lo hi:K) (es:List E) (ps:List Int),Sub nd h p lo hi es ps->(∀ x∈ps,x∈M)->TS.wayIn nd key z h p
 | 0,_,_,_,_,_,h,_=>h.elim
 | h+1,p,lo,hi,es,ps,⟨n,qs,e1,e2,_,_,v⟩,hp=>by
   subst e1;obtain ⟨a,b⟩:=hM p (hp p (by simp));refine ⟨a,b,fun h0 m hm=>?_⟩;have hmn:m=n:=by
    have:=(Yg hm).1;rw [e2] at this;exact (wa0 this).symm
   subst hmn;cases h with
   | zero=>exact absurd rfl h0
   | succ h =>
     have hrun:=VI.run v;have hlen:=run_len hrun;have hkn:=kidN_le key m.keys;obtain ⟨l,g,k,e1,q1,e2,q2,e3,q3,r1,rfl,rfl,r2,r3,r4,r5,r6⟩:=run_at (kidN key m.keys) hrun (by omega);have hgd:m.kids.getD (kidN key m.keys) 0=k:=by rw [wa7,r1];rfl
     rw [hgd];exact sub_in hM (h+1) k _ _ _ _ r3 (fun x hx=>hp x (by simp [hx]))
theorem Tr.wayIn (h:Tr O nd0 t es L) (key:K):TS.wayIn t.nd key t.z t.ht t.rt:=by
 have hM:∀ x∈L,(0:Int)<=x/\x<t.z:=fun x hx=>by
  have:=h.acc.top hx;omega
 rcases h.root with ⟨e,_⟩ | ⟨k,n,qs,e,rfl,a,b,c,v⟩
 ·rw [e]
  trivial
 ·rw [e]
  obtain ⟨x,y⟩:=hM t.rt (by simp);refine ⟨x,y,fun h0 m hm=>?_⟩;have hmn:m=n:=by
   have:=(Yg hm).1;rw [a] at this;exact (wa0 this).symm
  subst hmn;cases k with
  | zero=>exact absurd rfl h0
  | succ k =>
    have hrun:=VI.run v;have hlen:=run_len hrun;have hkn:=kidN_le key m.keys;obtain ⟨l,g,q,e1,q1,e2,q2,e3,q3,r1,rfl,rfl,r2,r3,r4,r5,r6⟩:=run_at (kidN key m.keys) hrun (by omega);have hgd:m.kids.getD (kidN key m.keys) 0=q:=by rw [wa7,r1];rfl
    rw [hgd];exact sub_in hM (k+1) q _ _ _ _ r3 (fun x hx=>by simp [hx])
theorem Tr.pre (h:Tr O nd0 t es L) (key:K) (f:ND->ND) (hht:t.ht<=999)
 (hf:∀ n lo hi e,VL n lo hi e->btw lo hi key->n.size<=1000->∃ e',VL (f n) lo hi e'/\(f n).size<=1222) (l:List St) (hl:t.way key=some l):Xz t l.length l.reverse (f (TS.last l)):=by
 unfold TS.way at hl;rcases h.root.way key with ⟨h1,h2,rfl,rfl⟩ | ⟨h1,l',w1,w2,s,r',lo,hi,es',pre,post,qs,w⟩
 ·rw [if_pos h1] at hl
  obtain rfl:=wa0 hl;obtain ⟨e',v,hsz⟩:=hf empty [] [] [] ⟨rfl,rfl,rfl,rfl,rfl,fun k hk=>(by cases hk),rfl⟩ (btw_all key) (by decide);have KC:Most (f empty):=most_of (by rw [v.leaf];simpa using hsz);have vn:VN (Sub t.nd 0) 0 (f empty) [] [] e' []:=⟨v,rfl⟩;exact ⟨by have:=most_le KC;show (f empty).size<=_;omega,fun _=>plant_pre vn KC rfl (by decide)⟩
 ·rw [if_neg h1,w1] at hl
  obtain rfl:=wa0 hl;obtain ⟨e',v,hsz⟩:=hf s.nd lo hi es' w.vn.1 w.btw_ w.fits;have hp:=w.path;rw [wc5] at hp;have hrl:r'.length+1=t.ht:=by
   have:=congrArg List.length hp;rw [List.length_reverse,wb4] at this;omega
  rw [hp,w.last,w2];have vn:VN (Sub t.nd 0) 0 (f s.nd) lo hi e' []:=⟨v,rfl⟩;exact climb_pre (O:=O) (nd0:=nd0) t.ht (by omega) r' s t 0 (f s.nd) lo hi e' [] pre post qs h.z_ (h.acc.perm w.pages) w.here w.fits vn (by rw [v.leaf];simpa using hsz) w.up (by omega)
end
end TT
end
end Go.Proofs.YtfiflinbicbedaaGreat
