/-
  A part of the proof. Conditions: none.
-/
import Derived.Lib.EndianBits
import Derived.Laws.EntriesVeiled
import Derived.Test.YtfiflinbicbedaaGreatZR7

set_option maxRecDepth 20000
set_option maxHeartbeats 12800000
namespace Go.Proofs.YtfiflinbicbedaaGreat
section
open Go.RowKit
theorem qg1 (A:Option Addr) (n c:Nat) (B:Option Addr) (m d:Nat) (C:Option Addr) (k e:Nat) (s:ND) (w:World) (h:Nd w A n c B m d C k e s) (hl:s.leaf=false) (ho:s.ok=true) (hz:s.size<=1000000) (hE:s.ents.sum<=100000000) :
 Calls Tryz.prog 161 #[.agg #[.bool false,.slice A n c,.slice B m d,.slice C k e]] w (qe2 w s):=by
 obtain ⟨Vh,tb2,Xm,tb4⟩:=YY w (.bool false) (.slice A n c) (.slice B m d) (.slice C k e) (.bool false) (.slice none 0 0) (.slice none 0 0) (.slice none 0 0);have HS:=iQ (h.kept tb4);have HB:=iQ Vh;have HR:=iQ tb2;have HT:=iQ Xm;have B0:=iQ tb4;have HL:=iQ hl;have HO:=iQ ho;have HZ:=iQ hz;have HE:=iQ hE;have HN:=iQ h.kn;have HVN:=iQ h.vn;have HCN:=iQ h.cn;have hsz:n<=1000000/\m<=1000000/\k<=1000000:=by have h1:=h.kn;have h2:=h.vn;have h3:=h.cn;unfold ND.size ND.tsz at hz;omega
 obtain ⟨hn,hm,hk⟩:=hsz;clear h hl ho hz hE Vh tb2 Xm tb4;go_enter Tryz.func161,Tryz.ntmps161;go_upto_region 1 with fail
 generalize ((w.alloc (.cells #[.bool false,.slice A n c,.slice B m d,.slice C k e] 75)).alloc (.cells #[.bool false,.slice none 0 0,.slice none 0 0,.slice none 0 0] 75)).alloc (.cells #[.bool false,.slice none 0 0,.slice none 0 0,.slice none 0 0] 75)=w0 at *;have hg:=HB.out.lt;have hr:=HR.out.lt;have hr2:=HT.out.lt;have gr1:w.heap.size<=w.heap.size+1:=wd3 _;have gr2:w.heap.size<=w.heap.size+1+1:=by omega
 have hne:w.heap.size+1≠w.heap.size+1+1:=by omega
 have hx1:w.heap.size<w.heap.size+1:=by omega
 have hx2:w.heap.size<w.heap.size+1+1:=by omega
 generalize w.heap.size+1+1=r2 at *;generalize w.heap.size+1=r1 at *;have hne2:¬ r1=r2:=hne;have hne3:¬ r2=r1:=fun e=>hne e.symm;obtain ⟨c0,c1,c2,c3⟩:=HB.out.cells;have HG:Hid (s.gone=1):=iQ (by unfold ND.gone;rw [HL.out];rfl);by_cases hs:n<2+1;case pos =>
  obtain ⟨x1,x2,x3,x4⟩:=ND.split_no (s:=s) (by rw [HN.out,HG.out];exact hs);have X1:=iQ x1;have X2:=iQ x2;have X3:=iQ x3;have X4:=iQ x4;obtain ⟨D1,D2,D3⟩:=Gn (v := .agg #[.bool false,.slice none 0 0,.slice none 0 0,.slice none 0 0]) (u := .agg #[.bool false,.slice none 0 0,.slice none 0 0,.slice none 0 0]) B0.out gr1 gr2 hne HR.out HT.out (Ht w0 w.heap.size) (Ht w0 w.heap.size) (.bool false) (.slice none 0 0) (.slice none 0 0) (.slice none 0 0) (.bool false) (.slice none 0 0) (.slice none 0 0) (.slice none 0 0);have HD1:=iQ D1;have HD2:=iQ D2;have HD3:=iQ D3;obtain ⟨S1,S2,S3⟩:=Ky hne HR.out HT.out (.bool false) (.slice none 0 0) (.slice none 0 0) (.slice none 0 0) (.bool false) (.slice none 0 0) (.slice none 0 0) (.slice none 0 0);have Xl:=iQ S1.cells;have HS2:=iQ S2.cells;obtain ⟨f0,f1,f2,f3⟩:=HR.out.free;obtain ⟨g0,g1,g2,g3⟩:=HT.out.free;obtain ⟨t0,t1,t2,t3⟩:=HR.out.cells;obtain ⟨u0,u1,u2,u3⟩:=HT.out.cells;clear x1 x2 x3 x4 D1 D2 D3 S1 S2 S3 hne;go_wp2_with fail;obtain ⟨y0,y1,y2,y3⟩:=Xl.out;obtain ⟨z0,z1,z2,z3⟩:=HS2.out;refine bodyPost_ret (v := .tuple #[.agg #[.bool false,.slice none 0 0,.slice none 0 0,.slice none 0 0],.string ⟨#[]⟩,.agg #[.bool false,.slice none 0 0,.slice none 0 0,.slice none 0 0],.int .i64 100]) (by simp [results,Tryz.results161,go_sem,y0,y1,y2,y3,z0,z1,z2,z3]) rfl ?_;exact ⟨_,_,by rw [X1.out,X4.out];rfl,by rw [X2.out];exact HD1.out,by rw [X3.out];exact HD2.out,HD3.out⟩
 case neg =>
  obtain ⟨x1,x2,x3,x4⟩:=ND.split_yes (s:=s) (by rw [HN.out,HG.out];exact hs);have hlt:=ND.splitAt_lt (s:=s) (by rw [HN.out,HG.out];exact hs);have hpd:s.splitAt=min (ND.hN s.ents) (n - 1 - 1):=by unfold ND.splitAt;rw [HN.out,HG.out]
  rw [HN.out,HG.out] at hlt;rw [HG.out] at x3;obtain ⟨p,hp⟩:∃ p,s.splitAt=p:=⟨_,rfl⟩;rw [hp] at x2 x3 x4 hlt hpd;have X1:=iQ x1;have X2:=iQ x2;have X3:=iQ x3;have X4:=iQ x4;have HP:=iQ hpd;have hn2:2+1<=n:=by omega
  clear x1 x2 x3 x4 hp hpd hs;go_upto_region 7 with fail
  go_cut [8] (fun s8 wx=>s8 = .int .i64 (p:Int)/\Hid (Below w0.heap.size w0 wx))
  case first =>
   go_wp2_with fail;refine (qk5 false A n c B m d C k e s w0 HS.out HL.out HO.out HZ.out HE.out).mono ?_;rintro e1 w1 ⟨rfl,b1⟩;have B1:=iQ b1;have HP2:=HP.out;clear b1 c0 c1 c2 c3;generalize ND.hN s.ents=hh at *;rcases we1 (n - 1 - 1) hh with h5 | h5
   ·have h6:p=n - 1 - 1:=by omega
    have HP6:=iQ h6;have h7:(n:Int) - 2<(hh:Int):=(by omega);clear HP2 h6;go_wp2_with fail;all_goals (
     go_meet
     exact ⟨by rw [HP6.out];congr 1;omega,B1⟩)
   ·have h6:hh=p:=by omega
    have h7:(hh:Int)<=(n:Int) - 2:=(by omega);clear HP2;subst h6;go_wp2_with fail;all_goals (
     go_meet
     exact ⟨rfl,B1⟩)
  case rest =>
   obtain ⟨rfl,BC⟩:=hcut;have BB:=iQ (Qe BC.out B0.out);have Xl:=iQ (HS.out.kept BC.out);have HB1:=iQ (HB.out.kept BC.out);have HR1:=iQ (HR.out.kept BC.out);have HT1:=iQ (HT.out.kept BC.out);have hc:=Xl.out.ke.le;have hg1:=HB1.out.lt;clear BC c0 c1 c2 c3 HB HR HT HS hg hr hr2;obtain ⟨w1,hw1⟩:∃ w1:World,w1=wc:=⟨_,rfl⟩;subst hw1;go_upto_region 8 with fail
   go_cut [9] (fun s9 wx=>qW6 w1 wx false p (s.keys.take p) s9)
   case first =>
    rename_i JJ KK HJ HM;refine Qz 10 1 (SP.at_ (zh6 w1 w.heap.size false A n c p s)) (by kernel_rfl) rfl (by kernel_rfl) (by kernel_rfl) (by kernel_rfl) (SP.at_st _) ?_ ?_
    ·intro i o L a wx hi ho h hd
     have e1:a.eval (.tmp 1) = .pointer (some ⟨w.heap.size,0,none⟩):=(h.old 1 (by kernel_rfl)).trans rfl;have e8:a.eval (.tmp 8) = .int .i64 (p:Int):=(h.old 8 (by kernel_rfl)).trans rfl;obtain ⟨c0,c1,c2,c3⟩:=(HB1.out.kept h.below).cells
     match i,hi,ho,hd with
     | 0,_,ho,hd =>
       obtain rfl:=wa0 ho;refine wpOp_step rfl (fun K hK=>?_);refine (if_pos (by rfl)).mpr ?_;have q0:=got e1
       go_simp
       exact hK _ _ ⟨_,_,rfl,rfl,rfl,Below.refl _ _⟩
     | 1,_,ho,hd =>
       obtain rfl:=wa0 ho;refine wpOp_step rfl (fun K hK=>?_);refine (if_pos (by rfl)).mpr ?_;have q0:=got (h.gd 0 rfl hd rfl)
       go_simp
       exact hK _ _ ⟨_,_,rfl,rfl,rfl,Below.refl _ _⟩
     | 2,_,ho,hd =>
       obtain rfl:=wa0 ho;refine wpOp_step rfl (fun K hK=>?_);refine (if_pos (by rfl)).mpr ?_;have q0:=got e1
       go_simp
       exact hK _ _ ⟨_,_,rfl,rfl,rfl,Below.refl _ _⟩
     | 3,_,ho,hd =>
       obtain rfl:=wa0 ho;refine wpOp_step rfl (fun K hK=>?_);refine (if_pos (by rfl)).mpr ?_;have q0:=got (h.gd 2 rfl hd rfl)
       go_simp
       exact hK _ _ ⟨_,_,rfl,rfl,rfl,Below.refl _ _⟩
     | 4,_,ho,hd =>
       obtain rfl:=wa0 ho;refine wpOp_step rfl (fun K hK=>?_);refine (if_pos (by rfl)).mpr ?_;have q0:=got e8
       go_simp
       exact hK _ _ ⟨_,_,rfl,rfl,rfl,Below.refl _ _⟩
     | 5,_,ho,hd =>
       obtain rfl:=wa0 ho;refine wpOp_step rfl (fun K hK=>?_);refine (if_pos (by rfl)).mpr ?_;have q0:=got (h.gd 3 rfl hd rfl);have q1:=got (h.gd 4 rfl hd rfl);have hu:=qo3 (n:=n) (c:=c) (k:=p) A (by omega) hc wx
       go_simp
       exact hK _ _ ⟨_,_,rfl,rfl,rfl,Below.refl _ _⟩
     | 6,_,ho,hd =>
       obtain rfl:=wa0 ho;refine wpOp_step rfl (fun K hK=>?_);refine (if_pos (by rfl)).mpr ?_;have q5:=got (h.gd 5 rfl hd rfl)
       go_simp
       exact hK _ _ ⟨_,_,rfl,rfl,⟨_,rfl,Za (PG (Xl.out.ke.kept h.below) (by omega)) (Qm _) _⟩,Qa _ _⟩
     | 7,_,ho,hd =>
       obtain rfl:=wa0 ho;refine wpOp_step rfl (fun K hK=>?_);refine (if_pos (by rfl)).mpr ?_;obtain ⟨p9,ep,hp9⟩:=(h.gd 6 rfl hd rfl);have q0:=got ep;have hbs:=h.below.size
       go_simp
       refine (Xd _ 1 1 (p) _ wx hp9 rfl (by simp [Xn]) (by omega) (by decide)).mono ?_;rintro e w3 ⟨v3,rfl,o3,b3⟩;rw [Xa] at o3;exact hK _ _ ⟨v3,_,rfl,rfl,Qy o3 rfl h.below.size,b3⟩
     | 8,_,ho,hd =>
       obtain rfl:=wa0 ho;refine wpOp_step rfl (fun K hK=>?_);refine (if_pos (by rfl)).mpr ?_;have q1:=got (h.gd 1 rfl hd rfl);obtain ⟨A9,a9,z9,l9,i9,_⟩:=(h.gd 7 rfl hd rfl);have y9:=got z9
       go_simp
       exact hK _ _ ⟨_,_,rfl,rfl,⟨A9,_,a9,none,0,0,none,0,0,rfl,⟨l9,Ln.none_ _ 1,Ln.none_ _ 1⟩,i9,Yp.none_ _,Yp.none_ _⟩,Below.refl _ _⟩
     | 9,_,ho,hd =>
       obtain rfl:=wa0 ho;refine wpOp_step rfl (fun K hK=>?_);refine (if_pos (by rfl)).mpr ?_
       go_simp
       exact hK _ _ ⟨_,_,rfl,rfl,⟨_,rfl,Qp wx _ _ _ _,h.below.size⟩,Qa _ _⟩
     | j+10,hi,_,_=>exact absurd hi (by omega)
    ·intro mm L a wx h hd
     refine wpAny_ready (rs:=[10]) (by decide +kernel) (by simp) (AllReady.cons rfl (fun K hK=>?_) AllReady.nil);refine (if_pos (by rfl)).mpr ?_;obtain ⟨A',n',c',B',m',d',C',k',e',ev,hN,iA,iB,iC⟩:=h.got 8 _ _ rfl (by decide) (hd 8 (by decide)) rfl;obtain ⟨q,eq9,hq,hq2⟩:=h.got 9 _ _ rfl (by decide) (hd 9 (by decide)) rfl;obtain rfl:p=n':=by have:=hN.kn;simp only [List.length_take] at this;rw [HN.out] at this;omega
     obtain rfl:m'=0:=hN.vn.symm;obtain rfl:k'=0:=hN.cn.symm;have q0:=got ev;have q2:=got eq9;obtain ⟨x0,x1,x2,x3⟩:=hq.cells;obtain ⟨f0,f1,f2,f3⟩:=hq.free
     go_simp
     refine hK _ _ ?_;refine wpAny_done (by decide +kernel) ?_ _;have E:=h.frame 73 (fun j=>Nat.blt j 9 || (Nat.blt 9 j && Nat.blt j 27) || Nat.blt 35 j) rfl (by kernel_rfl) rfl
     refine HM _ _ (Met.intro (HJ _ _ ?_))
     (repeat apply Exists.intro)
     refine ⟨?rel,?fr⟩;case fr=>exact E
     case rel=>exact QS eq9 hq hN hq2 h.below iA iB iC
   case rest =>
    obtain ⟨q1,A1,c1,B1,d1,C1,e1,rfl,hb1,hl1,hq1,zl2,be1,iA1,iB1,iC1⟩:=hcut;have NB1:=iQ hb1;have LN1:=iQ hl1;have BE1:=iQ be1;have I1:=iQ (And.intro iA1 (And.intro iB1 iC1));clear hb1 hl1 be1 iA1 iB1 iC1;obtain ⟨w2,hw2⟩:∃ w2:World,w2=wc:=⟨_,rfl⟩;subst hw2;go_upto_region 9 with fail
    go_cut [10] (fun s10 wx=>qW6 w2 wx false (n - (p+1)) (s.keys.drop (p+1)) s10)
    case first =>
     rename_i JJ KK HJ HM;have HS2:=iQ (Xl.out.kept BE1.out);have HB2:=iQ (HB1.out.kept BE1.out);have HW:Hid (IntKind.i64.wrap ((p:Int)+1)=(p:Int)+1):=iQ (IntWalk.i64_in _ (by omega));refine Qz 12 1 (SP.at_ (zh3 w2 w.heap.size false A n c p 1 s)) (by kernel_rfl) rfl (by kernel_rfl) (by kernel_rfl) (by kernel_rfl) (SP.at_st _) ?_ ?_
     ·intro i o L a wx hi ho h hd
      have e1:a.eval (.tmp 1) = .pointer (some ⟨w.heap.size,0,none⟩):=(h.old 1 (by kernel_rfl)).trans rfl;have e8:a.eval (.tmp 8) = .int .i64 (p:Int):=(h.old 8 (by kernel_rfl)).trans rfl;have e6:a.eval (.tmp 6) = .int .i64 ((1:Nat):Int):=(h.old 6 (by kernel_rfl)).trans rfl;obtain ⟨c0,c1,c2,c3⟩:=(HB2.out.kept h.below).cells
      match i,hi,ho,hd with
      | 0,_,ho,hd =>
        obtain rfl:=wa0 ho;refine wpOp_step rfl (fun K hK=>?_);refine (if_pos (by rfl)).mpr ?_;have q0:=got e1
        go_simp
        exact hK _ _ ⟨_,_,rfl,rfl,rfl,Below.refl _ _⟩
      | 1,_,ho,hd =>
        obtain rfl:=wa0 ho;refine wpOp_step rfl (fun K hK=>?_);refine (if_pos (by rfl)).mpr ?_;have q0:=got (h.gd 0 rfl hd rfl)
        go_simp
        exact hK _ _ ⟨_,_,rfl,rfl,rfl,Below.refl _ _⟩
      | 2,_,ho,hd =>
        obtain rfl:=wa0 ho;refine wpOp_step rfl (fun K hK=>?_);refine (if_pos (by rfl)).mpr ?_;have q0:=got e1
        go_simp
        exact hK _ _ ⟨_,_,rfl,rfl,rfl,Below.refl _ _⟩
      | 3,_,ho,hd =>
        obtain rfl:=wa0 ho;refine wpOp_step rfl (fun K hK=>?_);refine (if_pos (by rfl)).mpr ?_;have q0:=got (h.gd 2 rfl hd rfl)
        go_simp
        exact hK _ _ ⟨_,_,rfl,rfl,rfl,Below.refl _ _⟩
      | 4,_,ho,hd =>
        obtain rfl:=wa0 ho;refine wpOp_step rfl (fun K hK=>?_);refine (if_pos (by rfl)).mpr ?_;have q0:=got e8
        go_simp
        exact hK _ _ ⟨_,_,rfl,rfl,rfl,Below.refl _ _⟩
      | 5,_,ho,hd =>
        obtain rfl:=wa0 ho;refine wpOp_step rfl (fun K hK=>?_);refine (if_pos (by rfl)).mpr ?_;have q0:=got e6
        go_simp
        exact hK _ _ ⟨_,_,rfl,rfl,rfl,Below.refl _ _⟩
      | 6,_,ho,hd =>
        obtain rfl:=wa0 ho;refine wpOp_step rfl (fun K hK=>?_);refine (if_pos (by rfl)).mpr ?_;have q0:=got (h.gd 4 rfl hd rfl);have q1:=got (h.gd 5 rfl hd rfl);have hw:=HW.out
        go_simp
        exact hK _ _ ⟨_,_,rfl,rfl,rfl,Below.refl _ _⟩
      | 7,_,ho,hd =>
        obtain rfl:=wa0 ho;refine wpOp_step rfl (fun K hK=>?_);refine (if_pos (by rfl)).mpr ?_;have q0:=got (h.gd 3 rfl hd rfl);have q1:=got (h.gd 6 rfl hd rfl);have hu:=zc5 (n:=n) (c:=c) (k:=p) A (by omega) wx
        go_simp
        exact hK _ _ ⟨_,_,rfl,rfl,rfl,Below.refl _ _⟩
      | 8,_,ho,hd =>
        obtain rfl:=wa0 ho;refine wpOp_step rfl (fun K hK=>?_);refine (if_pos (by rfl)).mpr ?_;have q7:=got (h.gd 7 rfl hd rfl)
        go_simp
        exact hK _ _ ⟨_,_,rfl,rfl,⟨_,rfl,Za (PH (HS2.out.ke.kept h.below) (by omega)) (Qm _) _⟩,Qa _ _⟩
      | 9,_,ho,hd =>
        obtain rfl:=wa0 ho;refine wpOp_step rfl (fun K hK=>?_);refine (if_pos (by rfl)).mpr ?_;obtain ⟨p9,ep,hp9⟩:=(h.gd 8 rfl hd rfl);have q0:=got ep;have hbs:=h.below.size
        go_simp
        refine (Xd _ 1 1 (n - (p+1)) _ wx hp9 rfl (by simp [Xn]) (by omega) (by decide)).mono ?_;rintro e w3 ⟨v3,rfl,o3,b3⟩;rw [Xa] at o3;exact hK _ _ ⟨v3,_,rfl,rfl,Qy o3 rfl h.below.size,b3⟩
      | 10,_,ho,hd =>
        obtain rfl:=wa0 ho;refine wpOp_step rfl (fun K hK=>?_);refine (if_pos (by rfl)).mpr ?_;have q1:=got (h.gd 1 rfl hd rfl);obtain ⟨A9,a9,z9,l9,i9,_⟩:=(h.gd 9 rfl hd rfl);have y9:=got z9
        go_simp
        exact hK _ _ ⟨_,_,rfl,rfl,⟨A9,_,a9,none,0,0,none,0,0,rfl,⟨l9,Ln.none_ _ 1,Ln.none_ _ 1⟩,i9,Yp.none_ _,Yp.none_ _⟩,Below.refl _ _⟩
      | 11,_,ho,hd =>
        obtain rfl:=wa0 ho;refine wpOp_step rfl (fun K hK=>?_);refine (if_pos (by rfl)).mpr ?_
        go_simp
        exact hK _ _ ⟨_,_,rfl,rfl,⟨_,rfl,Qp wx _ _ _ _,h.below.size⟩,Qa _ _⟩
      | j+12,hi,_,_=>exact absurd hi (by omega)
     ·intro mm L a wx h hd
      refine wpAny_ready (rs:=[12]) (by decide +kernel) (by simp) (AllReady.cons rfl (fun K hK=>?_) AllReady.nil);refine (if_pos (by rfl)).mpr ?_;obtain ⟨A',n',c',B',m',d',C',k',e',ev,hN,iA,iB,iC⟩:=h.got 10 _ _ rfl (by decide) (hd 10 (by decide)) rfl;obtain ⟨q,eq9,hq,hq2⟩:=h.got 11 _ _ rfl (by decide) (hd 11 (by decide)) rfl;obtain rfl:n - (p+1)=n':=by have:=hN.kn;simp only [List.length_drop] at this;rw [HN.out] at this;omega
      obtain rfl:m'=0:=hN.vn.symm;obtain rfl:k'=0:=hN.cn.symm;have q0:=got ev;have q2:=got eq9;obtain ⟨x0,x1,x2,x3⟩:=hq.cells;obtain ⟨f0,f1,f2,f3⟩:=hq.free
      go_simp
      refine hK _ _ ?_;refine wpAny_done (by decide +kernel) ?_ _;have E:=h.frame 73 (fun j=>Nat.blt j 10 || (Nat.blt 10 j && Nat.blt j 36) || Nat.blt 46 j) rfl (by kernel_rfl) rfl
      refine HM _ _ (Met.intro (HJ _ _ ?_))
      (repeat apply Exists.intro)
      refine ⟨?rel,?fr⟩;case fr=>exact E
      case rel=>exact QS eq9 hq hN hq2 h.below iA iB iC
    case rest =>
     obtain ⟨q2,A2,c2,B2,d2,C2,e2,rfl,hb2,hl2,hq2,zl1,be2,iA2,iB2,iC2⟩:=hcut;have H0:Hid (Kq w1 wc q1 q2 false A1 p c1 B1 0 d1 C1 0 e1 ⟨false,s.keys.take p,[],[]⟩ A2 (n - (p+1)) c2 B2 0 d2 C2 0 e2 ⟨false,s.keys.drop (p+1),[],[]⟩):=iQ ⟨NB1.out.kept be2,hb2,LN1.out.kept be2,hl2,by omega,hq1,wa9 BE1.out.size hq2,Qe be2 BE1.out,⟨I1.out.1,I1.out.2.1,I1.out.2.2,iA2.low BE1.out.size,iB2.low BE1.out.size,iC2.low BE1.out.size⟩⟩;have hqq:¬ q1=q2:=(by omega);have hqq2:¬ q2=q1:=(by omega);clear hb2 hl2 be2 iA2 iB2 iC2 I1 NB1 LN1 BE1 zl2 zl1 hq2 hq1;obtain ⟨w3,hw3⟩:∃ w3:World,w3=wc:=⟨_,rfl⟩;subst hw3;obtain ⟨mm,hmm⟩:∃ mm,min p m=mm:=⟨_,rfl⟩;obtain ⟨kk,hkk⟩:∃ kk,min (p+1) k=kk:=⟨_,rfl⟩;have Gx:=iQ hmm;have LZ:=iQ hkk;clear hmm hkk;obtain ⟨c0,c1',c2',c3'⟩:=(HB1.out.kept H0.out.bel).cells;have LV:=iQ (Xl.out.va.kept H0.out.bel);go_upto_region 10 with fail
     go_wp2_with fail;refine (AZ B m d p mm (Qd s.vals) w3 LV.out (Qm _) Gx.out hm).mono ?_;rintro e9 w4 ⟨v1,v2,rfl,o1,o2,b4⟩;obtain ⟨Kv,d1',rfl,_,lv1⟩:=Ln.oo o1;obtain ⟨Um,d2',rfl,_,lv2⟩:=Ln.oo o2;rw [qf7] at lv1;rw [qf8] at lv2;have H1:=iQ (H0.out.next b4)
     have H2:=iQ (H1.out.vals lv1 lv2 ((Yp.oo o1).low H0.out.bel.size) ((Yp.oo o2).low H0.out.bel.size));obtain ⟨x0,x1,x2,x3⟩:=H1.out.b1.cells;obtain ⟨y0,y1,y2,y3⟩:=H1.out.b2.cells;obtain ⟨f0,f1,f2,f3⟩:=H1.out.b1.free;obtain ⟨g0,g1,g2,g3⟩:=H1.out.b2.free;clear o1 o2 lv1 lv2 b4 c0 c1' c2' c3' LV H0;go_upto_region 11 with fail
     clear x0 x1 x2 x3 y0 y1 y2 y3 f0 f1 f2 f3 g0 g1 g2 g3 H1;generalize (w4.setCell ⟨q1,2,none⟩ (.slice Kv mm d1')).setCell ⟨q2,2,none⟩ (.slice Um (m - mm) d2')=w5 at *;have LK:=iQ (Xl.out.ki.kept H2.out.bel);obtain ⟨c0,c1',c2',c3'⟩:=(HB1.out.kept H2.out.bel).cells;have hcall:=AY C k e (p+1) kk (Qc s.kids) w5 LK.out (Qr _) LZ.out hk;rw [show ((p+1:Nat):Int)=(p:Int)+1 by omega] at hcall;have HCL:=iQ hcall;clear hcall;go_wp2_with fail;refine HCL.out.mono ?_;rintro e9 w6 ⟨v1,v2,rfl,o1,o2,b4⟩;obtain ⟨FV,e1',rfl,_,lv1⟩:=Ln.oo o1;obtain ⟨C2',e2',rfl,_,lv2⟩:=Ln.oo o2;rw [qj8] at lv1;rw [qk0] at lv2;have H3:=iQ (H2.out.next b4)
     have H4:=iQ (H3.out.kids lv1 lv2 ((Yp.oo o1).low H2.out.bel.size) ((Yp.oo o2).low H2.out.bel.size));obtain ⟨x0,x1,x2,x3⟩:=H3.out.b1.cells;obtain ⟨y0,y1,y2,y3⟩:=H3.out.b2.cells;obtain ⟨f0,f1,f2,f3⟩:=H3.out.b1.free;obtain ⟨g0,g1,g2,g3⟩:=H3.out.b2.free;clear o1 o2 lv1 lv2 b4 c0 c1' c2' c3' LK H2 HCL;go_upto_region 12 with fail
     clear x0 x1 x2 x3 y0 y1 y2 y3 f0 f1 f2 f3 g0 g1 g2 g3 H3;generalize (w6.setCell ⟨q1,3,none⟩ (.slice FV kk e1')).setCell ⟨q2,3,none⟩ (.slice C2' (k - kk) e2')=w7 at *;obtain ⟨b,off,t,rfl,hv,ct⟩:=(Xl.out.ke.kept H4.out.bel).sA (show p<n by omega);have HV:=iQ hv;have HR7:=iQ (HR1.out.kept H4.out.bel);have HT7:=iQ (HT1.out.kept H4.out.bel);have CT:=iQ ct;clear hv ct;have HD:=iQ (Gn (Qe H4.out.bel BB.out) gr1 gr2 hne HR7.out HT7.out (Ha.of_hi H4.out.h1 rfl (H4.out.hi.a.low BB.out.size) (H4.out.hi.b.low BB.out.size) (H4.out.hi.c.low BB.out.size)) (Ha.of_hi H4.out.h2 rfl (H4.out.hi.a'.low BB.out.size) (H4.out.hi.b'.low BB.out.size) (H4.out.hi.c'.low BB.out.size)) (.bool false) (.slice A1 p c1) (.slice Kv mm d1') (.slice FV kk e1') (.bool false) (.slice A2 (n - (p+1)) c2) (.slice Um (m - mm) d2') (.slice C2' (k - kk) e2'));have HE2:=iQ (Ky hne HR7.out HT7.out (.bool false) (.slice A1 p c1) (.slice Kv mm d1') (.slice FV kk e1') (.bool false) (.slice A2 (n - (p+1)) c2) (.slice Um (m - mm) d2') (.slice C2' (k - kk) e2'));have a1:¬ q1=r1:=by have:=H4.out.l1;have:=HR1.out.lt;have:=HT1.out.lt;omega
     have a2:¬ q1=r2:=by have:=H4.out.l1;have:=HR1.out.lt;have:=HT1.out.lt;omega
     have a3:¬ q2=r1:=by have:=H4.out.l2;have:=HR1.out.lt;have:=HT1.out.lt;omega
     have a4:¬ q2=r2:=by have:=H4.out.l2;have:=HR1.out.lt;have:=HT1.out.lt;omega
     have a5:¬ w.heap.size=r1:=(by omega);have a6:¬ w.heap.size=r2:=(by omega);have a7:¬ b=r1:=Uz HR7.out CT.out (Or.inl ⟨_,rfl⟩);have a8:¬ b=r2:=Uz HT7.out CT.out (Or.inl ⟨_,rfl⟩);have i1:(0:Int)<=(p:Int):=(by omega);have i2:(p:Int)<(n:Int):=(by omega);obtain ⟨x0,x1,x2,x3⟩:=H4.out.b1.cells;obtain ⟨y0,y1,y2,y3⟩:=H4.out.b2.cells;obtain ⟨c0,c1x,c2x,c3x⟩:=(HB1.out.kept H4.out.bel).cells;obtain ⟨t0,t1,t2,t3⟩:=HR7.out.cells;obtain ⟨f0,f1,f2,f3⟩:=HR7.out.free;obtain ⟨u0,u1,u2,u3⟩:=HT7.out.cells;obtain ⟨g0,g1,g2,g3⟩:=HT7.out.free;have ct:=CT.out;go_region
     all_goals (
      clear x0 x1 x2 x3 y0 y1 y2 y3 c0 c1x c2x c3x t0 t1 t2 t3 f0 f1 f2 f3 u0 u1 u2 u3 g0 g1 g2 g3 ct a1 a2 a3 a4 a5 a6 a7 a8;go_wp2_with fail;obtain ⟨S1,S2,_⟩:=HE2.out;obtain ⟨y0,y1,y2,y3⟩:=S1.cells;obtain ⟨u0,u1,u2,u3⟩:=S2.cells;clear S1 S2 HE2;generalize ((((((((w7.setCell ⟨r1,0,none⟩ (.bool false)).setCell ⟨r1,1,none⟩ (.slice A1 p c1)).setCell ⟨r1,2,none⟩ (.slice Kv mm d1')).setCell ⟨r1,3,none⟩ (.slice FV kk e1')).setCell ⟨r2,0,none⟩ (.bool false)).setCell ⟨r2,1,none⟩ (.slice A2 (n - (p+1)) c2)).setCell ⟨r2,2,none⟩ (.slice Um (m - mm) d2')).setCell ⟨r2,3,none⟩ (.slice C2' (k - kk) e2'))=w9 at *;have bd:=(Below.refl w9.heap.size w9).drew;refine bodyPost_ret (v := .tuple #[.agg #[.bool false,.slice A1 p c1,.slice Kv mm d1',.slice FV kk e1'],.string t,.agg #[.bool false,.slice A2 (n - (p+1)) c2,.slice Um (m - mm) d2',.slice C2' (k - kk) e2'],.int .i64 0]) (by simp [results,Tryz.results161,go_sem,y0,y1,y2,y3,u0,u1,u2,u3]) rfl ?_;refine ⟨.agg #[.bool false,.slice A1 p c1,.slice Kv mm d1',.slice FV kk e1'],.agg #[.bool false,.slice A2 (n - (p+1)) c2,.slice Um (m - mm) d2',.slice C2' (k - kk) e2'],?_,?_,?_,HD.out.2.2.drew⟩
      ·rw [X1.out,X4.out,Ud HV.out,Zx]
      ·rw [X2.out,HL.out,<- (Kw Gx.out HVN.out).1,<- (Kw LZ.out HCN.out).1];exact HD.out.1.kept bd
      ·rw [X3.out,HL.out,<- (Kw Gx.out HVN.out).2,<- (Kw LZ.out HCN.out).2];exact HD.out.2.1.kept bd)
theorem qL8 (lf:Bool) (A:Option Addr) (n c:Nat) (B:Option Addr) (m d:Nat) (C:Option Addr) (k e:Nat) (s:ND) (w:World) (h:Nd w A n c B m d C k e s) (hl:s.leaf=lf) (ho:s.ok=true) (hz:s.size<=1000000) (hE:s.ents.sum<=100000000) :
 Calls Tryz.prog 161 #[.agg #[.bool lf,.slice A n c,.slice B m d,.slice C k e]] w (qe2 w s):=by
 cases lf with
 | true=>exact qp1 A n c B m d C k e s w h hl ho hz hE
 | false=>exact qg1 A n c B m d C k e s w h hl ho hz hE
def RB (w:World) (gb gm R:Nat) (Ye:Bool) (l:List UInt8):Prop :=
 ∃ A c,w.heap[gb]?=some (.cells #[.slice A l.length c] 109 (0,0))/\w.heap[gm]?=some (.cells #[.bool Ye] 4 (0,0))/\l.length<=c/\c<=maxLen/\Xc w R A l/\R<=gb/\R<=gm
def RF (gb gm:Nat):Nat->Prop:=fun k=>k=gb\/k=gm
section
variable {w w':World} {gb gm R:Nat} {Ye:Bool} {l:List UInt8}
theorem RB.lt (h:RB w gb gm R Ye l):gb<w.heap.size/\gm<w.heap.size/\gb≠gm:=by
 obtain ⟨A,c,h1,h2,_⟩:=h;refine ⟨(wa1.1 h1).1,(wa1.1 h2).1,?_⟩;rintro rfl;rw [h1] at h2;injection h2 with h2
 injection h2 with _ h3
 exact absurd h3 (by decide)
theorem RB.far {F:Nat->Prop} (h:RB w gb gm R Ye l) (hk:Qj F w w') (hF:∀ k,F k->R<=k/\k≠gb/\k≠gm):RB w' gb gm R Ye l:=by
 obtain ⟨q1,q2,_⟩:=h.lt;obtain ⟨A,c,h1,h2,h3,h4,h5,h6,h7⟩:=h;have hb:Below R w w':=hk.toBelow (fun k e=>(hF k e).1) (by omega);exact ⟨A,c,(hk.block _ q1 (fun e=>(hF _ e).2.1 rfl)).trans h1,(hk.block _ q2 (fun e=>(hF _ e).2.2 rfl)).trans h2,h3,h4,h5.below hb,h6,h7⟩
theorem RB.same (h:RB w gb gm R Ye l) (e:w'.heap=w.heap):RB w' gb gm R Ye l:=by
 obtain ⟨A,c,h1,h2,h3,h4,h5,h6,h7⟩:=h;refine ⟨A,c,by rw [e];exact h1,by rw [e];exact h2,h3,h4,?_,h6,h7⟩;rcases h5 with rfl | ⟨b,off,rfl,hR,hc⟩
 ·exact Or.inl rfl
 ·exact Or.inr ⟨b,off,rfl,hR,fun i z hz=>(World.cell?_of_block (w:=w) (by rw [e])).trans (hc i z hz)⟩
end
theorem Zr {w:World} {g:Nat} {v:Value} {t:TypeId} (h:w.heap[g]?=some (.cells #[v] t (0,0))):w.cell? ⟨g,0,none⟩=some v/\w.frozen? ⟨g,0,none⟩=false :=
 ⟨(cell_of_row w g 0 _ _ _ h).trans rfl,frozen_of_row w g 0 _ _ h⟩
theorem qx5 {w:World} {g:Nat} {v u:Value} {t:TypeId} (h:w.heap[g]?=some (.cells #[v] t (0,0))):(w.setCell ⟨g,0,none⟩ u).heap[g]?=some (.cells #[u] t (0,0)):=by
 rw [Joins.block_setCell h];rfl
def zn0 (w:World) (gb gm R:Nat) (Ye:Bool) (l:List UInt8) (d:Nat) (e:Ending) (w':World):Prop :=
 ∃ A c,e = .returned (.slice A d c)/\Xc w' R A (l.take d)/\RB w' gb gm R Ye (l.drop d)/\Qj (RF gb gm) w w'/\w'.heap.size=w.heap.size
theorem qZ2 {w:World} {gb gm R c c' d:Nat} {A A':Option Addr} {Ye:Bool} {l:List UInt8} (h1:w.heap[gb]?=some (.cells #[.slice A l.length c] 109 (0,0))) (h2:w.heap[gm]?=some (.cells #[.bool Ye] 4 (0,0)))
 (h3:l.length<=c) (h4:c<=maxLen) (h5:Xc w R A l) (h6:R<=gb) (h7:R<=gm) (hd:d<=l.length) (hA:Xc w R A' (l.drop d)) (hc:c'=c - d) :
 Xc (w.setCell ⟨gb,0,none⟩ (.slice A' (l.length - d) c')) R A (l.take d)/\RB (w.setCell ⟨gb,0,none⟩ (.slice A' (l.length - d) c')) gb gm R Ye (l.drop d)/\Qj (RF gb gm) w (w.setCell ⟨gb,0,none⟩ (.slice A' (l.length - d) c')):=by
 have hk:Qj (RF gb gm) w (w.setCell ⟨gb,0,none⟩ (.slice A' (l.length - d) c')):=Qj.setCell w (Or.inl rfl) _;have hlt:gb<w.heap.size:=(wa1.1 h1).1;have hne:gb≠gm:=(RB.lt ⟨A,c,h1,h2,h3,h4,h5,h6,h7⟩).2.2;have hb:Below R w (w.setCell ⟨gb,0,none⟩ (.slice A' (l.length - d) c')):=(Below.refl _ _).setCell (p:=⟨gb,0,none⟩) h6 _;refine ⟨(h5.take d).below hb,⟨A',c',?_,?_,?_,?_,hA.below hb,h6,h7⟩,hk⟩
 ·rw [qx5 h1,wc9]
 ·exact (Below.heap_setCell w ⟨gb,0,none⟩ _ gm (fun e=>hne e.symm)).trans h2
 ·rw [wc9];omega
 ·omega
theorem qd7 {w:World} {R:Nat} {A:Option Addr} {l:List UInt8} (h:Xc w R A l) (d:Nat):Xc w R (A.map (fun x=>x.add d)) (l.drop d):=by
 rcases A with _ | ⟨b,off,sp⟩
 ·rw [h.none_,List.drop_nil]
  exact Xc.nil _ _ _
 ·rcases h with rfl | ⟨b',off',e,hR,hc⟩
  ·rw [List.drop_nil]
   exact Xc.nil _ _ _
  ·injection e with e
   injection e with e1 e2 e3
   subst e1;subst e2;subst e3;rw [Option.map_some,Zn];exact Xc.drop (Or.inr ⟨b,off,rfl,hR,hc⟩) d
theorem qw5 {w:World} {gb gm R:Nat} {Ye:Bool} {l:List UInt8} (h:RB w gb gm R Ye l) (d:Nat) (hd:d<=l.length) :
 Calls Tryz.prog 199 #[.int .i64 (d:Int),.pointer (some ⟨gb,0,none⟩),.pointer (some ⟨gm,0,none⟩)] w (zn0 w gb gm R Ye l d):=by
 obtain ⟨A,c,h1,h2,h3,h4,h5,h6,h7⟩:=h;obtain ⟨c0,f0⟩:=Zr h1;have H:=iQ (fun (A':Option Addr) (c':Nat) (hA:Xc w R A' (l.drop d)) hc=>qZ2 (A':=A') (c':=c') h1 h2 h3 h4 h5 h6 h7 hd hA hc);have hm:=h4;unfold maxLen at hm;have H5:=iQ h5;clear h1 h2 h4 h5 h6 h7;obtain ⟨N,hN⟩:∃ N,l.length=N:=⟨_,rfl⟩;rw [hN] at c0 h3 hd H;have HN:=iQ hN;clear hN;go_enter Tryz.func199,Tryz.ntmps199;by_cases hc:c=d
 ·subst hc
  go_wp2_with fail;go_ret;have hz:l.drop c=[]:=List.drop_eq_nil_of_le (by rw [HN.out];omega);obtain ⟨q1,q2,q3⟩:=H.out A 0 (by rw [hz];exact Xc.nil _ _ _) (by omega);have e:N - c=0:=by omega
  rw [e] at q1 q2 q3;exact ⟨A,c,rfl,q1,q2,q3,by simp [World.setCell]⟩
 ·go_wp2_with fail
  go_ret;obtain ⟨q1,q2,q3⟩:=H.out _ (c - d) (qd7 H5.out d) rfl;exact ⟨A,c,rfl,q1,q2,q3,by simp [World.setCell]⟩
/-- Where there are too few. -/
theorem qw6 {w:World} {gb gm R:Nat} {Ye:Bool} {l:List UInt8} (h:RB w gb gm R Ye l) (d:Nat) (hd:l.length<d) :
 Calls Tryz.prog 199 #[.int .i64 (d:Int),.pointer (some ⟨gb,0,none⟩),.pointer (some ⟨gm,0,none⟩)] w fun e w' =>
  e = .returned (.slice none 0 0)/\RB w' gb gm R true l/\Qj (RF gb gm) w w'/\w'.heap.size=w.heap.size:=by
 have hne:=h.lt.2.2;obtain ⟨A,c,h1,h2,h3,h4,h5,h6,h7⟩:=h;obtain ⟨c0,f0⟩:=Zr h1;obtain ⟨c1,f1⟩:=Zr h2;have hb:Below R w (w.setCell ⟨gm,0,none⟩ (.bool true)):=(Below.refl _ _).setCell (p:=⟨gm,0,none⟩) h7 _;have H:Hid (RB (w.setCell ⟨gm,0,none⟩ (.bool true)) gb gm R true l):=iQ ⟨A,c,(Below.heap_setCell w ⟨gm,0,none⟩ _ gb hne).trans h1,qx5 h2,h3,h4,h5.below hb,h6,h7⟩;clear h1 h2 h4 h5 h6 h7 hb hne;obtain ⟨N,hN⟩:∃ N,l.length=N:=⟨_,rfl⟩;rw [hN] at c0 h3 hd;clear hN;go_enter Tryz.func199,Tryz.ntmps199;go_wp2_with fail;go_ret;exact ⟨rfl,H.out,Qj.setCell w (Or.inr rfl) _,by simp [World.setCell]⟩
def bn (l:List UInt8):Nat:=l.foldl (fun n c=>n*256+c.toNat) 0
theorem ze3 (l:List UInt8) (c:UInt8):bn (l++[c])=bn l*256+c.toNat:=by
 unfold bn;rw [List.foldl_append];rfl
theorem zq7:∀ l:List UInt8,l.length<=4->bn l<4294967296
 | [],_=>by decide
 | [a],_=>by have:=Zh a;simp only [bn,List.foldl];omega
 | [a,b],_=>by have:=Zh a;have:=Zh b;simp only [bn,List.foldl];omega
 | [a,b,c],_=>by have:=Zh a;have:=Zh b;have:=Zh c;simp only [bn,List.foldl];omega
 | [a,b,c,d],_=>by have:=Zh a;have:=Zh b;have:=Zh c;have:=Zh d;simp only [bn,List.foldl];omega
 | _::_::_::_::_::_,h=>by simp at h
theorem zq2 (z:Nat) (u:UInt8) (h:z*256+u.toNat<4294967296):bits .or .i64 ((z:Int)*256) (u.toNat:Int)=((z*256+u.toNat:Nat):Int):=by
 have hu:=Zh u;rw [bits_join .i64 63 (by decide) (fun n h0 h1=>IntWalk.i64_in n (by omega)) 8 ((z:Int)*256) (u.toNat:Int) (by omega) (by omega) (by omega) (by omega) (by omega) (by omega)];omega
def TB (w:World) (gt gb gm:Nat):Prop:=w.heap[gt]?=some (.cells #[.func (.func 199) #[] #[.pointer (some ⟨gb,0,none⟩),.pointer (some ⟨gm,0,none⟩)]] 110 (0,0))
theorem TB.far {w w':World} {gt gb gm:Nat} {F:Nat->Prop} (h:TB w gt gb gm) (hk:Qj F w w') (hF:¬ F gt):TB w' gt gb gm:=(hk.block gt (wa1.1 h).1 hF).trans h
theorem TB.ne {w:World} {gt gb gm R:Nat} {Ye:Bool} {l:List UInt8} (h:TB w gt gb gm) (hr:RB w gb gm R Ye l):¬ RF gb gm gt:=by
 obtain ⟨A,c,h1,h2,_⟩:=hr;rintro (rfl | rfl)
 ·unfold TB at h
  rw [h1] at h;injection h with h
  injection h with _ h3
  exact absurd h3 (by decide)
 ·unfold TB at h
  rw [h2] at h;injection h with h
  injection h with _ h3
  exact absurd h3 (by decide)
def qe3 (w:World) (gb gm R:Nat) (Ye:Bool) (l:List UInt8) (d:Nat) (e:Ending) (w':World):Prop :=
 ∃ (z:Nat) (Vb:Bool) (l':List UInt8),e = .returned (.int .i64 (z:Int))/\z<4294967296/\RB w' gb gm R Vb l'/\Qj (RF gb gm) w w' /\
   ((Vb=Ye/\d<=l.length/\z=bn (l.take d)/\l'=l.drop d)\/(Vb=true/\l.length<d/\z=0/\l'=l))
theorem ZA {w:World} {gb gm gt R:Nat} {Ye:Bool} {l:List UInt8} (h:RB w gb gm R Ye l) (ht:TB w gt gb gm) (d:Nat) (hd:d<=4) :
 Calls Tryz.prog 200 #[.int .i64 (d:Int),.pointer (some ⟨gt,0,none⟩)] w (qe3 w gb gm R Ye l d):=by
 obtain ⟨t0,t1⟩:=Zr ht;have H:=iQ h;clear h ht;go_enter Tryz.func200,Tryz.ntmps200;go_wp2_with fail;by_cases hl:d<=l.length
 ·refine (qw5 H.out d hl).mono ?_
  rintro e w2 ⟨A,c,rfl,y2,r2,k2,-⟩;have R2:=iQ r2;have K2:=iQ k2;have Y2:=iQ y2;have hxl:(l.take d).length=d:=by rw [wb8];omega
  have HX:=iQ hxl;have HL:=iQ hl;clear r2 k2 y2 hxl hl;go_wp2_with fail;go_loop [4,11] (fun s i=>∃ j z:Nat,j<=d/\i = .int .i64 j/\s = .int .i64 z/\Hid (z=bn ((l.take d).take j))/\z<4294967296) (fun _ i=>d - (RowKit.intOf i).toNat)
  case atStart=>exact ⟨0,0,wb3 _,rfl,rfl,iQ rfl,by omega⟩
  case round =>
   obtain ⟨j,z,hj,rfl,rfl,HZ,hz⟩:=hrel;by_cases hlt:j<d
   ·obtain ⟨b,off,u,rfl,_,hv,c0⟩:=Y2.out.at_ (k:=j) (by rw [HX.out];exact hlt)
    have hn:bn ((l.take d).take (j+1))=z*256+u.toNat:=by
     rw [wc2,hv,wd0,ze3,HZ.out]
    have HN:=iQ hn;have hlt2:z*256+u.toNat<4294967296:=by
     rw [<- hn];exact zq7 _ (by rw [wb8];omega)
    have hu:=Zh u;clear hv hn;go_wp2_with fail;go_round;case rel =>
     exact ⟨j+1,z*256+u.toNat,by omega,by go_num,by rw [zq2 z u hlt2],iQ HN.out.symm,hlt2⟩
    case measure=>simp [RowKit.intOf];omega
   ·obtain rfl:d=j:=by omega
    go_wp2_with fail;go_ret;exact ⟨z,Ye,l.drop d,rfl,hz,R2.out,K2.out,Or.inl ⟨rfl,HL.out,by rw [HZ.out,wa5 (by rw [HX.out];omega)],rfl⟩⟩
 ·refine (qw6 H.out d (by omega)).mono ?_
  rintro e w2 ⟨rfl,r2,k2,-⟩;have R2:=iQ r2;have K2:=iQ k2;have HL:=iQ hl;clear r2 k2 hl;go_wp2_with fail;go_loop [4,11] (fun s i=>i = .int .i64 0/\s = .int .i64 0) (fun _ i=>1 - (RowKit.intOf i).toNat)
  case atStart=>exact ⟨rfl,rfl⟩
  case round =>
   obtain ⟨rfl,rfl⟩:=hrel;go_wp2_with fail;go_ret;exact ⟨0,true,l,rfl,by omega,R2.out,K2.out,Or.inr ⟨rfl,by have:=HL.out;omega,rfl,rfl⟩⟩
theorem qr1 {w:World} {gb gm gt R:Nat} {Ye:Bool} {l:List UInt8} (h:RB w gb gm R Ye l) (ht:TB w gt gb gm) :
 Calls Tryz.prog 200 #[.int .i64 1,.pointer (some ⟨gt,0,none⟩)] w (qe3 w gb gm R Ye l 1):=ZA h ht 1 (by omega)
theorem qr0 {w:World} {gb gm gt R:Nat} {Ye:Bool} {l:List UInt8} (h:RB w gb gm R Ye l) (ht:TB w gt gb gm) :
 Calls Tryz.prog 200 #[.int .i64 2,.pointer (some ⟨gt,0,none⟩)] w (qe3 w gb gm R Ye l 2):=ZA h ht 2 (by omega)
theorem KN {w:World} {gb gm gt R:Nat} {Ye:Bool} {l:List UInt8} (h:RB w gb gm R Ye l) (ht:TB w gt gb gm) :
 Calls Tryz.prog 200 #[.int .i64 4,.pointer (some ⟨gt,0,none⟩)] w (qe3 w gb gm R Ye l 4):=ZA h ht 4 (by omega)
def NB (w:World) (gn gt:Nat):Prop:=w.heap[gn]?=some (.cells #[.func (.func 200) #[] #[.pointer (some ⟨gt,0,none⟩)]] 275 (0,0))
theorem NB.far {w w':World} {gn gt:Nat} {F:Nat->Prop} (h:NB w gn gt) (hk:Qj F w w') (hF:¬ F gn):NB w' gn gt:=(hk.block gn (wa1.1 h).1 hF).trans h
theorem NB.ne {w:World} {gn gt gb gm R:Nat} {Ye:Bool} {l:List UInt8} (h:NB w gn gt) (hr:RB w gb gm R Ye l):¬ RF gb gm gn:=by
 obtain ⟨A,c,h1,h2,_⟩:=hr;rintro (rfl | rfl)
 ·unfold NB at h
  rw [h1] at h;injection h with h
  injection h with _ h3
  exact absurd h3 (by decide)
 ·unfold NB at h
  rw [h2] at h;injection h with h
  injection h with _ h3
  exact absurd h3 (by decide)
def qz2 (w:World) (gb gm R:Nat) (Ye:Bool) (l:List UInt8) (e:Ending) (w':World):Prop :=
 ∃ (s:ByteArray) (Vb:Bool) (l':List UInt8),e = .returned (.string s)/\RB w' gb gm R Vb l'/\Qj (RF gb gm) w w'/\l'.length<=l.length /\
   ((Vb=Ye/\ND.cutT l=some (s.toList,l'))\/(Vb=true/\ND.cutT l=none))
theorem qV1 {l l':List UInt8} {z:Nat} {Ye Vb:Bool} (h:(Vb=Ye/\1<=l.length/\z=bn (l.take 1)/\l'=l.drop 1)\/(Vb=true/\l.length<1/\z=0/\l'=l)) :
 l'.length<=l.length/\(z<=l'.length->((Vb=Ye/\ND.cutT l=some (l'.take z,l'.drop z))\/(Vb=true/\ND.cutT l=none)))/\(l'.length<z->ND.cutT l=none):=by
 rcases h with ⟨rfl,h1,rfl,rfl⟩ | ⟨rfl,h1,rfl,rfl⟩
 ·rcases l with _ | ⟨c,r⟩
  ·simp at h1
  ·have e:bn ((c::r).take 1)=c.toNat:=by simp [bn]
   rw [e];simp only [List.drop_succ_cons,List.drop_zero,List.length_cons];refine ⟨by omega,fun hz=>Or.inl ⟨trivial,?_⟩,fun hz=>?_⟩
   ·exact if_pos hz
   ·exact if_neg (by omega)
 ·obtain rfl:l'=[]:=wb2 (by omega)
  exact ⟨wa2 _,fun _=>Or.inr (And.intro rfl rfl),fun h=>absurd h (Nat.not_lt_zero _)⟩
def qW8 (w:World) (gb gm R:Nat) (Ye:Bool) (l:List UInt8) (d:Nat) (e:Ending) (w':World):Prop :=
 ∃ A n c x Vb l',e = .returned (.slice A n c)/\x.length=n/\Xc w' R A x/\RB w' gb gm R Vb l'/\Qj (RF gb gm) w w' /\
   ((Vb=Ye/\d<=l.length/\x=l.take d/\l'=l.drop d)\/(Vb=true/\l.length<d/\x=[]/\l'=l))
theorem qD5 {w:World} {gb gm R:Nat} {Ye:Bool} {l:List UInt8} (h:RB w gb gm R Ye l) (d:Nat) :
 Calls Tryz.prog 199 #[.int .i64 (d:Int),.pointer (some ⟨gb,0,none⟩),.pointer (some ⟨gm,0,none⟩)] w (qW8 w gb gm R Ye l d):=by
 by_cases hd:d<=l.length
 ·refine (qw5 h d hd).mono ?_
  rintro e w2 ⟨A,c,rfl,y2,r2,k2,-⟩;exact ⟨A,d,c,l.take d,Ye,l.drop d,rfl,by rw [wb8];omega,y2,r2,k2,Or.inl ⟨rfl,hd,rfl,rfl⟩⟩
 ·refine (qw6 h d (by omega)).mono ?_
  rintro e w2 ⟨rfl,r2,k2,-⟩;exact ⟨none,0,0,[],true,l,rfl,rfl,Xc.nil _ _ _,r2,k2,Or.inr ⟨rfl,by omega,rfl,rfl⟩⟩
theorem qK2 {w w1 w2:World} {gb gm R z:Nat} {Ye Jb QB:Bool} {l l1 l2 x:List UInt8} (k0:Qj (RF gb gm) w w1) (k1:Qj (RF gb gm) w1 w2)
 (h:l1.length<=l.length/\(z<=l1.length->((Jb=Ye/\ND.cutT l=some (l1.take z,l1.drop z))\/(Jb=true/\ND.cutT l=none)))/\(l1.length<z->ND.cutT l=none))
 (g:(QB=Jb/\z<=l1.length/\x=l1.take z/\l2=l1.drop z)\/(QB=true/\l1.length<z/\x=[]/\l2=l1)) (r2:RB w2 gb gm R QB l2) :
 qz2 w gb gm R Ye l (.returned (.string ⟨x.toArray⟩)) w2:=by
 obtain ⟨h1,h2,h3⟩:=h;refine ⟨_,QB,l2,rfl,r2,k0.next k1,?_,?_⟩
 ·rcases g with ⟨_,_,_,rfl⟩ | ⟨_,_,_,rfl⟩
  ·rw [wc9];omega
  ·exact h1
 ·rcases g with ⟨rfl,g1,rfl,rfl⟩ | ⟨rfl,g1,rfl,rfl⟩
  ·rcases h2 g1 with ⟨rfl,h⟩ | ⟨rfl,h⟩
   ·exact Or.inl ⟨rfl,by rw [h,Yb]⟩
   ·exact Or.inr ⟨rfl,h⟩
  ·exact Or.inr ⟨rfl,h3 g1⟩
theorem VZ {w:World} {gb gm gt gn R:Nat} {Ye:Bool} {l:List UInt8} (h:RB w gb gm R Ye l) (ht:TB w gt gb gm) (hn:NB w gn gt) :
 Calls Tryz.prog 201 #[.pointer (some ⟨gt,0,none⟩),.pointer (some ⟨gn,0,none⟩)] w (qz2 w gb gm R Ye l):=by
 obtain ⟨t0,t1⟩:=Zr ht;obtain ⟨n0,n1⟩:=Zr hn;have H:=iQ h;have HT:Hid (TB w.drew gt gb gm):=iQ ht;have HNT:=iQ (ht.ne h);have HNN:=iQ (hn.ne h);have HN:Hid (NB w.drew gn gt):=iQ hn;have KD:Hid (Qj (RF gb gm) w w.drew):=iQ ⟨rfl,rfl,rfl,wa2 _,fun _ _ _=>rfl⟩;clear h ht hn t1 n1;go_enter Tryz.func201,Tryz.ntmps201;go_wp2_with fail
 go_region_with
  (first
    | (go_at_call 200;refine (qr1 (w:=w.drew) (H.out.same rfl) HT.out).mono ?_;rintro e1 w1 ⟨z,Jb,l1,rfl,_,r1,k1,hw⟩;have f0:=(Zr (HT.out.far k1 HNT.out)).1;have f1:=(Zr (HN.out.far k1 HNN.out)).1;have R1:=iQ r1;have K1:=iQ k1;have HW:=iQ (qV1 hw);clear r1 k1 hw)
    | (go_at_call 199;refine (qD5 R1.out z).mono ?_;rintro e2 w2 ⟨A2,n2,c2,x2,QB,l2,rfl,hx2,y2,r2,k2,hw2⟩;have g0:=(Zr ((HT.out.far K1.out HNT.out).far k2 HNT.out)).1;have g1:=(Zr ((HN.out.far K1.out HNN.out).far k2 HNN.out)).1;have ct:=RZ (P:=Tryz.prog) y2 109 9 5 n2 c2 hx2 Tryz.underlying109 Tryz.underlying5 Tryz.underlying9;have HE:=iQ (qK2 (KD.out.next K1.out) k2 HW.out hw2 r2);clear hx2 y2 r2 k2 hw2)
    | fail)
 all_goals (
  go_wp2_with fail;go_ret;exact HE.out)
theorem Yz {w w':World} {base sz n:Nat} {e:TypeId} {v:Value} {xs:List Value} (h:w.ownsRow base e sz v n xs) (hk:∀ g,v.ownBlock=some g->w'.heap[g]?=w.heap[g]?):w'.ownsRow base e sz v n xs:=by
 refine ⟨h.1,?_⟩;rcases h.2 with ⟨h1,h2⟩ | ⟨g,cap,cur,rfl,h2,h3,h4⟩
 ·exact Or.inl ⟨h1,h2⟩
 ·exact Or.inr ⟨g,cap,cur,rfl,h2,(hk g rfl).trans h3,h4⟩
theorem Ua {w:World} {base base' sz sz' n n':Nat} {e e':TypeId} {v v':Value} {xs xs':List Value} (h:w.ownsRow base e sz v n xs) (h':w.ownsRow base' e' sz' v' n' xs') (hne:e≠e'):∀ g,v.ownBlock=some g->v'.ownBlock≠some g:=by
 intro g h1 h2;rcases h.2 with ⟨rfl,_⟩ | ⟨g1,cap,cur,rfl,_,h3,_⟩
 ·cases h1
 ·rcases h'.2 with ⟨rfl,_⟩ | ⟨g2,cap',cur',rfl,_,h4,_⟩
  ·cases h2
  ·have e1:g1=g:=by simpa [Value.ownBlock] using h1
   have e2:g2=g:=by simpa [Value.ownBlock] using h2
   subst e1;subst e2;rw [h3] at h4;injection h4 with h4
   injection h4 with _ h5
   exact hne h5
structure RS (w:World) (gb gr gm gt gn gx R:Nat) (Ye:Bool) (r:List UInt8) (s:ND) (kv vv cv:Value):Prop where
 od:gb<gr/\gr<gm/\gm<gt/\gt<gn/\gn<gx
 rb:RB w gb gm R Ye r
 tk:TB w gt gb gm
 nb:NB w gn gt
 res:Qs w gr (.bool false) (.slice none 0 0) (.slice none 0 0) (.slice none 0 0)
 box:Qs w gx (.bool s.leaf) kv vv cv
 ke:w.ownsRow (gx+1) 9 1 kv s.keys.length (Qd s.keys)
 va:w.ownsRow (gx+1) 9 1 vv s.vals.length (Qd s.vals)
 ki:w.ownsRow (gx+1) 3 1 cv s.kids.length (Qc s.kids)
 ne:∀ g,kv.ownBlock=some g->vv.ownBlock≠some g
section
variable {w w' w4:World} {gb gr gm gt gn gx R:Nat} {Ye Vb:Bool} {r r':List UInt8} {s s':ND} {kv vv cv kv' vv' cv':Value}
theorem RS.same (h:RS w gb gr gm gt gn gx R Ye r s kv vv cv) (e:w'.heap=w.heap):RS w' gb gr gm gt gn gx R Ye r s kv vv cv :=
 ⟨h.od,h.rb.same e,by unfold TB;rw [e];exact h.tk,by unfold NB;rw [e];exact h.nb,h.res.block (by rw [e]),h.box.block (by rw [e]),Yz h.ke (fun _ _=>by rw [e]),Yz h.va (fun _ _=>by rw [e]),Yz h.ki (fun _ _=>by rw [e]),h.ne⟩
theorem RS.far {F:Nat->Prop} (h:RS w gb gr gm gt gn gx R Ye r s kv vv cv) (k:Qj F w w') (hF:∀ j,F j->j=gb\/j=gm) (q':RB w' gb gm R Vb r'):RS w' gb gr gm gt gn gx R Vb r' s kv vv cv:=by
 obtain ⟨o1,o2,o3,o4,o5⟩:=h.od;have hlt:gx<w.heap.size:=h.box.lt;have no:∀ j,j<w.heap.size->j≠gb->j≠gm->w'.heap[j]?=w.heap[j]?:=fun j hj h1 h2=>k.block j hj (fun e=>by rcases hF j e with e | e;exact h1 e;exact h2 e)
 exact ⟨h.od,q',(no gt (by omega) (by omega) (by omega)).trans h.tk,(no gn (by omega) (by omega) (by omega)).trans h.nb,h.res.block (no gr (by omega) (by omega) (by omega)),h.box.block (no gx hlt (by omega) (by omega)),
  Yz h.ke (fun g e=>by have:=h.ke.lt g e;exact no g this.2 (by omega) (by omega)),Yz h.va (fun g e=>by have:=h.va.lt g e;exact no g this.2 (by omega) (by omega)),Yz h.ki (fun g e=>by have:=h.ki.lt g e;exact no g this.2 (by omega) (by omega)),h.ne⟩
theorem RS.call (h:RS w gb gr gm gt gn gx R Ye r s kv vv cv) (k:Qj (RF gb gm) w w') (q':RB w' gb gm R Vb r'):RS w' gb gr gm gt gn gx R Vb r' s kv vv cv:=h.far k (fun _ e=>e) q'
theorem RS.put {row:Option Nat} (h:RS w gb gr gm gt gn gx R Ye r s kv vv cv) (k:Qj (fun j=>row=some j\/j=gx) w w') (hr:∀ g,row=some g->gx+1<=g) (hb:Qs w' gx (.bool s'.leaf) kv' vv' cv')
 (hke:w'.ownsRow (gx+1) 9 1 kv' s'.keys.length (Qd s'.keys)) (hva:w'.ownsRow (gx+1) 9 1 vv' s'.vals.length (Qd s'.vals)) (hki:w'.ownsRow (gx+1) 3 1 cv' s'.kids.length (Qc s'.kids))
 (hne:∀ g,kv'.ownBlock=some g->vv'.ownBlock≠some g):RS w' gb gr gm gt gn gx R Ye r s' kv' vv' cv':=by
 obtain ⟨o1,o2,o3,o4,o5⟩:=h.od;have hlt:gx<w.heap.size:=h.box.lt;have no:∀ j,j<gx->w'.heap[j]?=w.heap[j]?:=fun j hj=>k.block j (by omega) (fun e=>by rcases e with e | e;(have:=hr j e;omega);omega)
 have hR:R<=gb:=by obtain ⟨A,c,_,_,_,_,_,h6,_⟩:=h.rb;exact h6
 refine ⟨h.od,h.rb.far k (fun j e=>?_),(no gt (by omega)).trans h.tk,(no gn (by omega)).trans h.nb,h.res.block (no gr (by omega)),hb,hke,hva,hki,hne⟩;rcases e with e | e
 ·have:=hr j e
  exact ⟨by omega,by omega,by omega⟩
 ·exact ⟨by omega,by omega,by omega⟩
theorem JL {o:Obj} {row:Option Nat} (UZ:(w.alloc o).grownBy w4 row) (j:Nat) (u:Value):Qj (fun k=>row=some k\/k=gx) w (w4.setCell ⟨gx,j,none⟩ u) :=
 ((Qj.below (Qa w o) _).trans (F':=fun k=>row=some k) ⟨UZ.os,UZ.tape,UZ.output,UZ.size,fun k hk hn=>UZ.block k hk (fun e=>hn e.symm)⟩ (fun _ e=>Or.inl (Or.inl e))).trans (F':=fun k=>k=gx) (Qj.setCell (F:=fun k=>k=gx) (a:=⟨gx,j,none⟩) w4 rfl u) (fun _ e=>Or.inl (Or.inr e))
theorem RV {o:Obj} {row:Option Nat} {x y z p:Value} (h:Qs w gx x y z p) (UZ:(w.alloc o).grownBy w4 row) (hr:∀ g,row=some g->gx+1<=g):Qs w4 gx x y z p:=by
 have hlt:=h.lt;refine (h.kept (Qa w o)).block (UZ.block gx (by simp;omega) (fun e=>?_));have:=hr gx e.symm;omega
theorem zh4 {o:Obj} {g cap:Nat} {t:ByteArray} (M:RS w gb gr gm gt gn gx R Ye r s kv vv cv) (o4:w4.ownsRow (gx+1) 9 1 (.slice (some ⟨g,0,none⟩) (s.keys.length+1) cap) (s.keys.length+1) (Qd s.keys++[.string t]))
 (UZ:(w.alloc o).grownBy w4 kv.ownBlock) (at4:kv.ownBlock=some g\/g=(w.alloc o).heap.size) :
 w4.cell? ⟨gx,1,none⟩=some kv/\w4.frozen? ⟨gx,1,none⟩=false /\
  Hid (RS (w4.setCell ⟨gx,1,none⟩ (.slice (some ⟨g,0,none⟩) (s.keys.length+1) cap)) gb gr gm gt gn gx R Ye r ⟨s.leaf,s.keys++[t.toList],s.vals,s.kids⟩ (.slice (some ⟨g,0,none⟩) (s.keys.length+1) cap) vv cv) /\
  Hid (Qj (fun j=>gx<=j) w (w4.setCell ⟨gx,1,none⟩ (.slice (some ⟨g,0,none⟩) (s.keys.length+1) cap))):=by
 have hr:∀ k,kv.ownBlock=some k->gx+1<=k:=fun k e=>(M.ke.lt k e).1;have hk:=JL (gx:=gx) UZ 1 (.slice (some ⟨g,0,none⟩) (s.keys.length+1) cap);have hb:=RV M.box UZ hr;have hlt:∀ k,vv.ownBlock=some k->k<w.heap.size:=fun k e=>(M.va.lt k e).2;refine ⟨hb.cells.2.1,hb.free.2.1,M.put hk hr (hb.set1 _) ?_ ?_ ?_ ?_,hk.more (fun j e=>?_)⟩
 ·have:=ownsRow_setCell_below o4 (a:=⟨gx,1,none⟩) (by simp) (.slice (some ⟨g,0,none⟩) (s.keys.length+1) cap)
  rw [Zw,wa6];rw [<- Zx t] at this;exact this
 ·refine Yz M.va (fun k e=>hk.block k (hlt k e) ?_)
  rintro (e1 | rfl)
  ·exact M.ne k e1 e
  ·have:=(M.va.lt _ e).1;omega
 ·refine Yz M.ki (fun k e=>hk.block k (M.ki.lt k e).2 ?_)
  rintro (e1 | rfl)
  ·exact Ua M.ke M.ki (by decide) k e1 e
  ·have:=(M.ki.lt _ e).1;omega
 ·intro k e1 e2
  obtain rfl:g=k:=by simpa [Value.ownBlock] using e1
  rcases at4 with e | e
  ·exact M.ne g e e2
  ·have:=hlt g e2
   simp at e;omega
 ·rcases e with e | e
  ·have:=hr j e;omega
  ·omega
theorem zp9 {o:Obj} {g cap:Nat} {t:ByteArray} (M:RS w gb gr gm gt gn gx R Ye r s kv vv cv) (o4:w4.ownsRow (gx+1) 9 1 (.slice (some ⟨g,0,none⟩) (s.vals.length+1) cap) (s.vals.length+1) (Qd s.vals++[.string t]))
 (UZ:(w.alloc o).grownBy w4 vv.ownBlock) (at4:vv.ownBlock=some g\/g=(w.alloc o).heap.size) :
 w4.cell? ⟨gx,2,none⟩=some vv/\w4.frozen? ⟨gx,2,none⟩=false /\
  Hid (RS (w4.setCell ⟨gx,2,none⟩ (.slice (some ⟨g,0,none⟩) (s.vals.length+1) cap)) gb gr gm gt gn gx R Ye r ⟨s.leaf,s.keys,s.vals++[t.toList],s.kids⟩ kv (.slice (some ⟨g,0,none⟩) (s.vals.length+1) cap) cv) /\
  Hid (Qj (fun j=>gx<=j) w (w4.setCell ⟨gx,2,none⟩ (.slice (some ⟨g,0,none⟩) (s.vals.length+1) cap))):=by
 have hr:∀ k,vv.ownBlock=some k->gx+1<=k:=fun k e=>(M.va.lt k e).1;have hk:=JL (gx:=gx) UZ 2 (.slice (some ⟨g,0,none⟩) (s.vals.length+1) cap);have hb:=RV M.box UZ hr;have hlt:∀ k,kv.ownBlock=some k->k<w.heap.size:=fun k e=>(M.ke.lt k e).2;refine ⟨hb.cells.2.2.1,hb.free.2.2.1,M.put hk hr (hb.set2 _) ?_ ?_ ?_ ?_,hk.more (fun j e=>?_)⟩
 ·refine Yz M.ke (fun k e=>hk.block k (hlt k e) ?_)
  rintro (e1 | rfl)
  ·exact M.ne k e e1
  ·have:=(M.ke.lt _ e).1;omega
 ·have:=ownsRow_setCell_below o4 (a:=⟨gx,2,none⟩) (by simp) (.slice (some ⟨g,0,none⟩) (s.vals.length+1) cap)
  rw [Zw,wa6];rw [<- Zx t] at this;exact this
 ·refine Yz M.ki (fun k e=>hk.block k (M.ki.lt k e).2 ?_)
  rintro (e1 | rfl)
  ·exact Ua M.va M.ki (by decide) k e1 e
  ·have:=(M.ki.lt _ e).1;omega
 ·intro k e1 e2
  obtain rfl:g=k:=by simpa [Value.ownBlock] using e2
  rcases at4 with e | e
  ·exact M.ne g e1 e
  ·have:=hlt g e1
   simp at e;omega
 ·rcases e with e | e
  ·have:=hr j e;omega
  ·omega
theorem zh5 {o:Obj} {g cap:Nat} {z:Int} (M:RS w gb gr gm gt gn gx R Ye r s kv vv cv) (o4:w4.ownsRow (gx+1) 3 1 (.slice (some ⟨g,0,none⟩) (s.kids.length+1) cap) (s.kids.length+1) (Qc s.kids++[.int .i64 z]))
 (UZ:(w.alloc o).grownBy w4 cv.ownBlock) :
 w4.cell? ⟨gx,3,none⟩=some cv/\w4.frozen? ⟨gx,3,none⟩=false /\
  Hid (RS (w4.setCell ⟨gx,3,none⟩ (.slice (some ⟨g,0,none⟩) (s.kids.length+1) cap)) gb gr gm gt gn gx R Ye r ⟨s.leaf,s.keys,s.vals,s.kids++[z]⟩ kv vv (.slice (some ⟨g,0,none⟩) (s.kids.length+1) cap)) /\
  Hid (Qj (fun j=>gx<=j) w (w4.setCell ⟨gx,3,none⟩ (.slice (some ⟨g,0,none⟩) (s.kids.length+1) cap))):=by
 have hr:∀ k,cv.ownBlock=some k->gx+1<=k:=fun k e=>(M.ki.lt k e).1;have hk:=JL (gx:=gx) UZ 3 (.slice (some ⟨g,0,none⟩) (s.kids.length+1) cap);have hb:=RV M.box UZ hr;refine ⟨hb.cells.2.2.2,hb.free.2.2.2,M.put hk hr (hb.set3 _) ?_ ?_ ?_ M.ne,hk.more (fun j e=>?_)⟩
 ·refine Yz M.ke (fun k e=>hk.block k (M.ke.lt k e).2 ?_)
  rintro (e1 | rfl)
  ·exact Ua M.ke M.ki (by decide) k e e1
  ·have:=(M.ke.lt _ e).1;omega
 ·refine Yz M.va (fun k e=>hk.block k (M.va.lt k e).2 ?_)
  rintro (e1 | rfl)
  ·exact Ua M.va M.ki (by decide) k e e1
  ·have:=(M.va.lt _ e).1;omega
 ·have:=ownsRow_setCell_below o4 (a:=⟨gx,3,none⟩) (by simp) (.slice (some ⟨g,0,none⟩) (s.kids.length+1) cap)
  rw [Yy,wa6];exact this
 ·rcases e with e | e
  ·have:=hr j e;omega
  ·omega
end
def Jn (lf:Bool) (m:Nat) (r:List UInt8) (s:ND):Option ND :=
 if lf then (ND.prsL m r).map (fun p=>⟨true,s.keys++p.1,s.vals++p.2,s.kids⟩) else (ND.prsI m r).map (fun p=>⟨false,s.keys++p.1,s.vals,s.kids++p.2⟩)
theorem qk6 {lf:Bool} {r:List UInt8} {s:ND} (h:s.leaf=lf):Jn lf 0 r s=if r.length=0 then some s else none:=by
 obtain ⟨leaf,ks,vs,cs⟩:=s;dsimp only at h;subst h;have e1:ND.prsL 0 r=if r.length=0 then some ([],[]) else none:=rfl
 have e2:ND.prsI 0 r=if r.length=0 then some ([],[]) else none:=rfl
 unfold Jn;rw [e1,e2];cases leaf<;>by_cases h0:r.length=0<;>simp [h0]
theorem BG {lf:Bool} {m:Nat} {r:List UInt8} {s:ND} (h:ND.cutT r=none):Jn lf (m+1) r s=none:=by
 unfold Jn;rw [ND.prsL_succ,ND.prsI_succ,h];cases lf<;>rfl
theorem qT0 {m:Nat} {r r1 r2:List UInt8} {s:ND} {a b:List UInt8} (h:ND.cutT r=some (a,r1)) (g:ND.cutT r1=some (b,r2)):Jn true (m+1) r s=Jn true m r2 ⟨s.leaf,s.keys++[a],s.vals++[b],s.kids⟩:=by
 unfold Jn;rw [if_pos rfl,if_pos rfl,ND.prsL_succ,h];dsimp only;rw [g];dsimp only;cases ND.prsL m r2<;>simp
theorem qs6 {m:Nat} {r r1:List UInt8} {s:ND} {a:List UInt8} (h:ND.cutT r=some (a,r1)) (g:ND.cutT r1=none):Jn true (m+1) r s=none:=by
 unfold Jn;rw [if_pos rfl,ND.prsL_succ,h];dsimp only;rw [g];rfl
theorem qT1 {m:Nat} {r r1 r2:List UInt8} {s:ND} {a:List UInt8} {z:Int} (h:ND.cutT r=some (a,r1)) (g:ND.kidT r1=some (z,r2)):Jn false (m+1) r s=Jn false m r2 ⟨s.leaf,s.keys++[a],s.vals,s.kids++[z]⟩:=by
 unfold Jn;rw [if_neg (by decide),if_neg (by decide),ND.prsI_succ,h];dsimp only;rw [g];dsimp only;cases ND.prsI m r2<;>simp
theorem qs7 {m:Nat} {r r1:List UInt8} {s:ND} {a:List UInt8} (h:ND.cutT r=some (a,r1)) (g:ND.kidT r1=none):Jn false (m+1) r s=none:=by
 unfold Jn;rw [if_neg (by decide),ND.prsI_succ,h];dsimp only;rw [g];rfl
theorem zk8 {l:List UInt8} (h:4<=l.length):ND.kidT l=some (((bn (l.take 4):Nat):Int),l.drop 4):=by
 match l,h with
 | a::b::c::d::r,_ =>
   show some (((VQ a b c d:Nat):Int),r)=some (((bn [a,b,c,d]:Nat):Int),r);have:bn [a,b,c,d]=VQ a b c d:=by unfold bn VQ;simp [List.foldl]
   rw [this]
theorem qE5 {l:List UInt8} (h:l.length<4):ND.kidT l=none:=by
 match l,h with
 | [],_=>rfl
 | [_],_=>rfl
 | [_,_],_=>rfl
 | [_,_,_],_=>rfl
 | _::_::_::_::_,h=>simp at h;omega
theorem qx1 {lf:Bool} {l:List UInt8} (h:2<=l.length):bn (l.take 2)<65536/\ND.prs lf l=if lf then Jn true (bn (l.take 2)) (l.drop 2) ⟨true,[],[],[]⟩ else (match ND.kidT (l.drop 2) with
 | none=>none
 | some (c,r')=>Jn false (bn (l.take 2)) r' ⟨false,[],[],[c]⟩):=by
 match l,h with
 | x::y::r,_ =>
   have e:bn [x,y]=x.toNat*256+y.toNat:=by unfold bn;simp [List.foldl]
   have hx:=Zh x;have hy:=Zh y;refine ⟨by show bn [x,y]<_;rw [e];omega,?_⟩;show _=if lf then Jn true (bn [x,y]) r _ else match ND.kidT r with
    | none=>none
    | some (c,r')=>Jn false (bn [x,y]) r' ⟨false,[],[],[c]⟩
   rw [e];cases lf with
   | true =>
     rw [ND.prs_leaf,if_pos rfl];unfold Jn;rw [if_pos rfl];simp
   | false =>
     rw [ND.prs_inner,if_neg (by decide)];cases ND.kidT r with
     | none=>rfl
     | some q =>
       obtain ⟨c,r'⟩:=q;dsimp only;unfold Jn;rw [if_neg (by decide)];simp
theorem qC6 {lf:Bool} {l:List UInt8} (h:l.length<2):ND.prs lf l=none:=by
 match l,h with
 | [],_=>rfl
 | [_],_=>rfl
 | _::_::_,h=>simp at h;omega
theorem qZ5:(Tryz.prog.info? 9).map (fun i=>(i.zero,i.size,i.bytes))=some (some (.string ⟨#[]⟩),1,16):=by kernel_rfl
def MM (w:World) (lf:Bool) (l:List UInt8) (e:Ending) (w':World):Prop :=
 ∃ v s,e = .returned (.tuple #[v,.bool (ND.prs lf l).isSome])/\Ha w' w.heap.size v s/\Below w.heap.size w w'/\(∀ t,ND.prs lf l=some t->s=t)/\s.keys.length<=70000/\s.vals.length<=70000/\s.kids.length<=70000
structure RP (w0:World) (w:World) (gb gr gm gt gn gx:Nat) (lf:Bool) (l:List UInt8) (N k:Nat):Prop where
 is:∃ Ye r s kv vv cv,RS w gb gr gm gt gn gx gb Ye r s kv vv cv/\Below gb w0 w/\s.leaf=lf/\s.keys.length<=k/\s.vals.length<=k/\s.kids.length<=k+1/\r.length<=l.length /\
  ((Ye=false/\ND.prs lf l=Jn lf (N - k) r s)\/(Ye=true/\ND.prs lf l=none))
theorem qp4 (w:World) (o1 o2 o3 o4 o5 o6:Obj) :
 ((((((w.alloc o1).alloc o2).alloc o3).alloc o4).alloc o5).alloc o6).heap[w.heap.size]?=some o1/\((((((w.alloc o1).alloc o2).alloc o3).alloc o4).alloc o5).alloc o6).heap[w.heap.size+1]?=some o2 /\
 ((((((w.alloc o1).alloc o2).alloc o3).alloc o4).alloc o5).alloc o6).heap[w.heap.size+1+1]?=some o3/\((((((w.alloc o1).alloc o2).alloc o3).alloc o4).alloc o5).alloc o6).heap[w.heap.size+1+1+1]?=some o4 /\
 ((((((w.alloc o1).alloc o2).alloc o3).alloc o4).alloc o5).alloc o6).heap[w.heap.size+1+1+1+1]?=some o5/\((((((w.alloc o1).alloc o2).alloc o3).alloc o4).alloc o5).alloc o6).heap[w.heap.size+1+1+1+1+1]?=some o6:=by
 have e:((((((w.alloc o1).alloc o2).alloc o3).alloc o4).alloc o5).alloc o6).heap=(((((w.heap.push o1).push o2).push o3).push o4).push o5).push o6:=rfl;rw [e];generalize w.heap=H;simp only [Array.getElem?_push,Array.size_push];refine ⟨?_,?_,?_,?_,?_,?_⟩<;>(repeat (first | rw [if_pos trivial] | rw [if_pos (by omega)] | rw [if_neg (by omega)]))
theorem qM2 {w:World} {lf:Bool} {A:Option Addr} {n c:Nat} {l:List UInt8} (hl:l.length=n) (hb:Xc w w.heap.size A l) (hc:n<=c) (hm:c<=maxLen) :
 RS ((((((w.alloc (Obj.cells #[Value.slice A n c] 109)).alloc (Obj.cells #[Value.bool false,Value.slice none 0 0,Value.slice none 0 0,Value.slice none 0 0] 75)).alloc (Obj.cells #[Value.bool false] 4)).alloc
  (Obj.cells #[Value.func (Fn.func 199) #[] #[Value.pointer (some ⟨w.heap.size,0,none⟩),Value.pointer (some ⟨w.heap.size+1+1,0,none⟩)]] 110)).alloc
  (Obj.cells #[Value.func (Fn.func 200) #[] #[Value.pointer (some ⟨w.heap.size+1+1+1,0,none⟩)]] 275)).alloc
  (Obj.cells #[Value.bool lf,Value.slice none 0 0,Value.slice none 0 0,Value.slice none 0 0] 75))
  w.heap.size (w.heap.size+1) (w.heap.size+1+1) (w.heap.size+1+1+1) (w.heap.size+1+1+1+1) (w.heap.size+1+1+1+1+1) w.heap.size false l ⟨lf,[],[],[]⟩ (.slice none 0 0) (.slice none 0 0) (.slice none 0 0):=by
 subst hl;obtain ⟨e1,e2,e3,e4,e5,e6⟩:=qp4 w (Obj.cells #[Value.slice A l.length c] 109) (Obj.cells #[Value.bool false,Value.slice none 0 0,Value.slice none 0 0,Value.slice none 0 0] 75) (Obj.cells #[Value.bool false] 4)
  (Obj.cells #[Value.func (Fn.func 199) #[] #[Value.pointer (some ⟨w.heap.size,0,none⟩),Value.pointer (some ⟨w.heap.size+1+1,0,none⟩)]] 110)
  (Obj.cells #[Value.func (Fn.func 200) #[] #[Value.pointer (some ⟨w.heap.size+1+1+1,0,none⟩)]] 275)
  (Obj.cells #[Value.bool lf,Value.slice none 0 0,Value.slice none 0 0,Value.slice none 0 0] 75)
 exact ⟨by omega,⟨A,c,e1,e3,hc,hm,(((((hb.alloc _).alloc _).alloc _).alloc _).alloc _).alloc _,by omega,by omega⟩,e4,e5,e2,e6,World.ownsRow_nil _ _ _ _,World.ownsRow_nil _ _ _ _,World.ownsRow_nil _ _ _ _,fun g e=>by cases e⟩
theorem Vz {w wr w2 w5:World} {gb gr gm gt gn gx R:Nat} {Ye:Bool} {r:List UInt8} (od:gb<gr/\gr<gm/\gm<gt/\gt<gn/\gn<gx) (b:Below gb w wr) (q:RB wr gb gm R Ye r) (k1:Qj (RF gb gm) wr.drew w2) (k2:Qj (fun j=>gx<=j) w2 w5):Below gb w w5:=by
 have hlt:=q.lt.1;have b1:Below gb wr.drew w2:=k1.toBelow (fun j e=>by rcases e with e | e<;>omega) (Nat.le_of_lt hlt)
 have hs:wr.heap.size<=w2.heap.size:=k1.size;have b2:Below gb w2 w5:=k2.toBelow (fun j e=>by omega) (by omega);exact (b.drew.trans b1).trans b2
theorem qj2 {l l':List UInt8} {z:Nat} {Ye Vb:Bool} (h:(Vb=Ye/\4<=l.length/\z=bn (l.take 4)/\l'=l.drop 4)\/(Vb=true/\l.length<4/\z=0/\l'=l)) :
 l'.length<=l.length/\((Vb=Ye/\ND.kidT l=some ((z:Int),l'))\/(Vb=true/\ND.kidT l=none)):=by
 rcases h with ⟨rfl,h1,rfl,rfl⟩ | ⟨rfl,h1,rfl,rfl⟩
 ·exact ⟨by rw [wc9];omega,Or.inl ⟨rfl,zk8 h1⟩⟩
 ·exact ⟨wa2 _,Or.inr ⟨rfl,qE5 h1⟩⟩
theorem qF1 {l r1 r2:List UInt8} {z:Nat} {c:Int} {Jb QB:Bool} (h:(Jb=false/\z<65536/\ND.prs false l=if false then Jn true z r1 ⟨true,[],[],[]⟩ else (match ND.kidT r1 with
 | none=>none
 | some (c,r')=>Jn false z r' ⟨false,[],[],[c]⟩))\/(Jb=true/\z=0/\ND.prs false l=none)) (g:(QB=Jb/\ND.kidT r1=some (c,r2))\/(QB=true/\ND.kidT r1=none)) :
 (QB=false/\ND.prs false l=Jn false (z - 0) r2 ⟨false,[],[],[]++[c]⟩)\/(QB=true/\ND.prs false l=none):=by
 rcases h with ⟨rfl,_,h⟩ | ⟨rfl,_,h⟩
 ·rw [if_neg (by decide)] at h
  rcases g with ⟨rfl,g⟩ | ⟨rfl,g⟩
  ·rw [g] at h
   exact Or.inl ⟨rfl,h⟩
  ·rw [g] at h
   exact Or.inr ⟨rfl,h⟩
 ·rcases g with ⟨rfl,_⟩ | ⟨rfl,_⟩
  ·exact Or.inr ⟨rfl,h⟩
  ·exact Or.inr ⟨rfl,h⟩
theorem qC3 {w wX W4:World} {gb gr gm gt gn gx nk nv nc ck cw cc:Nat} {Ak Av Ac:Option Addr} {Ye res lf:Bool} {r l:List UInt8} {s:ND} (M:RS wX gb gr gm gt gn gx gb Ye r s (.slice Ak nk ck) (.slice Av nv cw) (.slice Ac nc cc))
 (hb:Yq gr wX W4) (hx:Qs W4 gr (.bool s.leaf) (.slice Ak nk ck) (.slice Av nv cw) (.slice Ac nc cc)) (B:Below gb w W4)
 (hg:w.heap.size=gb) (hp:∀ t,ND.prs lf l=some t->s=t) (hr:(ND.prs lf l).isSome=res) (h1:s.keys.length<=70000) (h2:s.vals.length<=70000) (h3:s.kids.length<=70000) :
 (W4.drew.cell? ⟨gr,0,none⟩=some (.bool s.leaf)/\W4.drew.cell? ⟨gr,1,none⟩=some (.slice Ak nk ck)/\W4.drew.cell? ⟨gr,2,none⟩=some (.slice Av nv cw)/\W4.drew.cell? ⟨gr,3,none⟩=some (.slice Ac nc cc)) /\
 MM w lf l (.returned (.tuple #[.agg #[.bool s.leaf,.slice Ak nk ck,.slice Av nv cw,.slice Ac nc cc],.bool res])) W4.drew:=by
 obtain ⟨o1,o2,o3,o4,o5⟩:=M.od;have el:∀ {A:Option Addr} {n c N:Nat} {e:TypeId} {xs:List Value},wX.ownsRow (gx+1) e 1 (.slice A n c) N xs->n=N/\Yp (gx+1) A/\Ln wX 1 A n c xs:=by
  intro A n c N e xs h;obtain ⟨A',c',e',_,hL⟩:=Ln.oo h;injection e' with e1 e2 e3
  subst e1;subst e2;subst e3;exact ⟨rfl,Yp.oo h,hL⟩
 obtain ⟨_,a2,a3⟩:=el M.ke;obtain ⟨_,b2,b3⟩:=el M.va;obtain ⟨_,c2,c3⟩:=el M.ki;have d1:=(a3.nbut hb (a2.low (by omega))).same (w':=W4.drew) rfl;have d2:=(b3.nbut hb (b2.low (by omega))).same (w':=W4.drew) rfl;have d3:=(c3.nbut hb (c2.low (by omega))).same (w':=W4.drew) rfl;have hx':Qs W4.drew gr (.bool s.leaf) (.slice Ak nk ck) (.slice Av nv cw) (.slice Ac nc cc):=hx.block rfl;subst hr;subst hg;have hv:Ha W4.drew w.heap.size (.agg #[.bool s.leaf,.slice Ak nk ck,.slice Av nv cw,.slice Ac nc cc]) s :=
  ⟨Ak,nk,ck,Av,nv,cw,Ac,nc,cc,rfl,⟨d1,d2,d3⟩,a2.low (by omega),b2.low (by omega),c2.low (by omega)⟩
 exact ⟨hx'.cells,_,s,rfl,hv,B.drew,hp,h1,h2,h3⟩
theorem Jd {w wX:World} {gb gr gm gt gn gx nk nv nc ck cw cc:Nat} {Ak Av Ac:Option Addr} {Ye res lf:Bool} {r l:List UInt8} {s:ND} (M:RS wX gb gr gm gt gn gx gb Ye r s (.slice Ak nk ck) (.slice Av nv cw) (.slice Ac nc cc))
 (hg:w.heap.size=gb) (B:Below gb w wX) (hp:∀ t,ND.prs lf l=some t->s=t) (hr:(ND.prs lf l).isSome=res) (h1:s.keys.length<=70000) (h2:s.vals.length<=70000) (h3:s.kids.length<=70000) :
 (((((wX.setCell ⟨gr,0,none⟩ (.bool s.leaf)).setCell ⟨gr,1,none⟩ (.slice Ak nk ck)).setCell ⟨gr,2,none⟩ (.slice Av nv cw)).setCell ⟨gr,3,none⟩ (.slice Ac nc cc)).drew.cell? ⟨gr,0,none⟩=some (.bool s.leaf) /\
 ((((wX.setCell ⟨gr,0,none⟩ (.bool s.leaf)).setCell ⟨gr,1,none⟩ (.slice Ak nk ck)).setCell ⟨gr,2,none⟩ (.slice Av nv cw)).setCell ⟨gr,3,none⟩ (.slice Ac nc cc)).drew.cell? ⟨gr,1,none⟩=some (.slice Ak nk ck) /\
 ((((wX.setCell ⟨gr,0,none⟩ (.bool s.leaf)).setCell ⟨gr,1,none⟩ (.slice Ak nk ck)).setCell ⟨gr,2,none⟩ (.slice Av nv cw)).setCell ⟨gr,3,none⟩ (.slice Ac nc cc)).drew.cell? ⟨gr,2,none⟩=some (.slice Av nv cw) /\
 ((((wX.setCell ⟨gr,0,none⟩ (.bool s.leaf)).setCell ⟨gr,1,none⟩ (.slice Ak nk ck)).setCell ⟨gr,2,none⟩ (.slice Av nv cw)).setCell ⟨gr,3,none⟩ (.slice Ac nc cc)).drew.cell? ⟨gr,3,none⟩=some (.slice Ac nc cc)) /\
 MM w lf l (.returned (.tuple #[.agg #[.bool s.leaf,.slice Ak nk ck,.slice Av nv cw,.slice Ac nc cc],.bool res])) ((((wX.setCell ⟨gr,0,none⟩ (.bool s.leaf)).setCell ⟨gr,1,none⟩ (.slice Ak nk ck)).setCell ⟨gr,2,none⟩ (.slice Av nv cw)).setCell ⟨gr,3,none⟩ (.slice Ac nc cc)).drew :=
 qC3 M (Yq.put wX gr (.bool s.leaf) (.slice Ak nk ck) (.slice Av nv cw) (.slice Ac nc cc)) (M.res.put (.bool s.leaf) (.slice Ak nk ck) (.slice Av nv cw) (.slice Ac nc cc)) (Jv B (by have:=M.od;omega) (.bool s.leaf) (.slice Ak nk ck) (.slice Av nv cw) (.slice Ac nc cc)) hg hp hr h1 h2 h3
theorem DD (lf:Bool) (A:Option Addr) (n c:Nat) (l:List UInt8) (w:World) (hl:l.length=n) (hb:Xc w w.heap.size A l) (hc:n<=c) (hm:c<=maxLen) :
 Calls Tryz.prog 184 #[.bool lf,.slice A n c] w (MM w lf l):=by
 have hmf:∀ (fn:Fn) (first cap:Array Value) (w:World),(Instr.makeFunc fn first cap).run Tryz.prog w = .ok (.func fn first cap) w:=fun _ _ _ _=>rfl
 obtain ⟨i0,hi,hz0,hz1,hz2⟩:=info_parts qZ5;obtain ⟨i1,hi1,hy0,hy1,hy2⟩:=info_parts QP;have M0:=iQ (qM2 (lf:=lf) hl hb hc hm);clear hl hb hc hm;go_enter Tryz.func184,Tryz.ntmps184;go_wp2_with fail;go_step3;go_wp2_with fail;have B0:Hid (Below w.heap.size w ((((((w.alloc (Obj.cells #[Value.slice A n c] 109)).alloc (Obj.cells #[Value.bool false,Value.slice none 0 0,Value.slice none 0 0,Value.slice none 0 0] 75)).alloc (Obj.cells #[Value.bool false] 4)).alloc
  (Obj.cells #[Value.func (Fn.func 199) #[] #[Value.pointer (some ⟨w.heap.size,0,none⟩),Value.pointer (some ⟨w.heap.size+1+1,0,none⟩)]] 110)).alloc
  (Obj.cells #[Value.func (Fn.func 200) #[] #[Value.pointer (some ⟨w.heap.size+1+1+1,0,none⟩)]] 275)).alloc
  (Obj.cells #[Value.bool lf,Value.slice none 0 0,Value.slice none 0 0,Value.slice none 0 0] 75))) :=
  iQ (((((((Below.refl _ _).alloc (wa2 _) _).alloc (by simp) _).alloc (by simp;omega) _).alloc (by simp;omega) _).alloc (by simp;omega) _).alloc (by simp;omega) _)
 generalize ((((((w.alloc (Obj.cells #[Value.slice A n c] 109)).alloc (Obj.cells #[Value.bool false,Value.slice none 0 0,Value.slice none 0 0,Value.slice none 0 0] 75)).alloc (Obj.cells #[Value.bool false] 4)).alloc
  (Obj.cells #[Value.func (Fn.func 199) #[] #[Value.pointer (some ⟨w.heap.size,0,none⟩),Value.pointer (some ⟨w.heap.size+1+1,0,none⟩)]] 110)).alloc
  (Obj.cells #[Value.func (Fn.func 200) #[] #[Value.pointer (some ⟨w.heap.size+1+1+1,0,none⟩)]] 275)).alloc
  (Obj.cells #[Value.bool lf,Value.slice none 0 0,Value.slice none 0 0,Value.slice none 0 0] 75))=w0 at *
 generalize w.heap.size+1+1+1+1+1=gx at *;generalize w.heap.size+1+1+1+1=gn at *;generalize w.heap.size+1+1+1=gt at *;generalize w.heap.size+1+1=gm at *;generalize w.heap.size+1=gr at *;generalize hgb:w.heap.size=gb at *;have HGB:=iQ hgb;clear hgb;refine (qr0 (w:=w0) M0.out.rb M0.out.tk).mono ?_;rintro e w1 ⟨z,Jb,r1,rfl,hz,q1,k1,hw1⟩;have RL:Hid (r1.length<=l.length):=iQ (by rcases hw1 with ⟨_,_,_,rfl⟩ | ⟨_,_,_,rfl⟩;(rw [wc9];omega);omega)
 have HP2:Hid ((Jb=false/\z<65536/\ND.prs lf l=if lf then Jn true z r1 ⟨true,[],[],[]⟩ else (match ND.kidT r1 with
  | none=>none
  | some (c,r')=>Jn false z r' ⟨false,[],[],[c]⟩))\/(Jb=true/\z=0/\ND.prs lf l=none)):=iQ (by
    rcases hw1 with ⟨rfl,h2,rfl,rfl⟩ | ⟨rfl,h2,rfl,rfl⟩
    ·exact Or.inl ⟨rfl,(qx1 (lf:=lf) h2).1,(qx1 h2).2⟩
    ·exact Or.inr ⟨rfl,rfl,qC6 h2⟩)
 have hzz:z<65536:=by rcases HP2.out with h | h;exact h.2.1;(have:=h.2.1;omega)
 have M1:=iQ (M0.out.call k1 q1);have B1:Hid (Below gb w w1):=iQ (B0.out.trans (k1.toBelow (fun j e=>by have:=M0.out.od;rcases e with e | e<;>omega) (by have:=M0.out.rb.lt.1;omega)))
 clear q1 k1 hw1 hz M0 B0;cases lf with
 | true =>
   have H0:Hid (RP w w1 gb gr gm gt gn gx true l z 0):=iQ ⟨Jb,r1,_,_,_,_,M1.out,B1.out,rfl,wa2 _,wa2 _,wb3 _,RL.out,by
    rcases HP2.out with ⟨h1,_,h3⟩ | ⟨h1,_,h3⟩
    ·exact Or.inl ⟨h1,h3⟩
    ·exact Or.inr ⟨h1,h3⟩⟩
   clear M1 B1 RL HP2;go_wp2_with fail;go_step3;go_wp2_with fail
   go_loopg [29] z (fun g v wr=>∃ k:Nat,g=z - k/\k<=z/\v = .int .i64 k/\Hid (RP w wr gb gr gm gt gn gx true l z k))
   case atStart=>exact ⟨0,rfl,wb3 _,rfl,H0⟩
   case round =>
    obtain ⟨k,rfl,hk,rfl,HP⟩:=hrel;obtain ⟨Ye,r,s,kv,vv,cv,m,hB,hl,lk,lv,lc,lr,hG⟩:=HP.out.is;have M:=iQ m;have BW:=iQ hB;have HL:=iQ hl;have HG:=iQ hG;clear hB hl hG;by_cases hlt:k<z
    ·have MD:Hid (RS wr.drew gb gr gm gt gn gx gb Ye r s kv vv cv):=iQ (m.same rfl)
     clear m;go_upto_region 11 with fail
     go_cut [] (fun wx=>Hid (∃ Jb r1 t kv1 s1,s1=ND.mk s.leaf (s.keys++[t]) s.vals s.kids/\RS wx gb gr gm gt gn gx gb Jb r1 s1 kv1 vv cv/\Below gb w wx/\r1.length<=r.length/\((Jb=Ye/\ND.cutT r=some (t,r1))\/(Jb=true/\ND.cutT r=none))))
     case first =>
      obtain ⟨p0,p1,p2,p3⟩:=M.out.box.cells;obtain ⟨f0,f1,f2,f3⟩:=M.out.box.free;go_region_law
       (first
         | (go_simp;go_at_call 201;refine (VZ (w:=wr.drew) MD.out.rb MD.out.tk MD.out.nb).mono ?_;rintro e w2 ⟨t,Jb,r1,rfl,q1,k1,hr1,hw1⟩;have M2:=iQ (MD.out.call k1 q1);have KK:=iQ k1;have HW:=iQ hw1;have x1:=M2.out.box.cells.2.1;have x2:=M2.out.box.free.2.1;have x3:=M2.out.box.lt;clear q1 k1 hw1)
         | (refine step_append_lies _ rfl (.tmp 32) (.tmp 35) 48 rfl (gx+1) 9 i0 _ 1 16 Tryz.underlying48 hi hz0 hz1 hz2 rfl (by decide) kv s.keys.length (Qd s.keys) (by rfl) (M2.out.ke.alloc _) ⟨w2.heap.size,0,none⟩ 1 1 [.string t] (by rfl) rfl (cell_one_new _ _ _) (by simp [Value.oneCell']) (by omega) (by unfold maxLen;omega) (by omega) (by simp;omega) _ rfl ?_;intro g4 cap4 w4 o4 UZ at4 lt4;obtain ⟨s0,s1,S2,S3⟩:=zh4 M2.out o4 UZ at4))
      all_goals (
       go_wp2_with fail
       go_meet
       exact iQ ⟨Jb,r1,t.toList,_,_,rfl,S2.out,Vz M.out.od BW.out M.out.rb KK.out S3.out,hr1,HW.out⟩)
     case rest =>
      clear MD;obtain ⟨Jb,r1,t,kv1,s1,hs1,m1,b1,hr1,hw1⟩:=hcut.out;have jk:s1.keys.length<=k+1:=by rw [hs1];simp;exact lk
      have jv:s1.vals.length<=k:=by rw [hs1];exact lv
      have jc:s1.kids.length<=k+1:=by rw [hs1];exact lc
      have Xl:=iQ hs1;have M1:=iQ m1;have BW1:=iQ b1;have HW:=iQ hw1;have MC:=(show ∃ A c,wc.heap[gm]?=some (.cells #[.bool Jb] 4 (0,0)) from by obtain ⟨A,c,_,h2,_⟩:=m1.rb;exact ⟨A,c,h2⟩);obtain ⟨_,_,mc⟩:=MC;obtain ⟨mc0,mc1⟩:=Zr mc;clear hs1 b1 hw1 mc mc1 hcut;cases Jb with
      | true =>
        clear m1;have HN:Hid (ND.prs true l=none):=iQ (by
         rcases HG.out with ⟨h1,h2⟩ | ⟨_,h2⟩
         ·rcases HW.out with ⟨h3,_⟩ | ⟨_,h4⟩
          ·rw [h1] at h3;cases h3
          ·rw [h2,show z - k=(z - k - 1)+1 by omega];exact BG h4
         ·exact h2)
        go_wp2_with fail;obtain ⟨Ak,ck,rfl,_,_⟩:=Ln.oo M1.out.ke;obtain ⟨Av,cw,rfl,_,_⟩:=Ln.oo M1.out.va;obtain ⟨Ac,cc,rfl,_,_⟩:=Ln.oo M1.out.ki;obtain ⟨p0,p1,p2,p3⟩:=M1.out.box.cells;obtain ⟨q0,q1,q2,q3⟩:=M1.out.res.cells;obtain ⟨f0,f1,f2,f3⟩:=M1.out.res.free;obtain ⟨o1,o2,o3,o4,o5⟩:=M1.out.od;have n1:gr≠gx:=(by omega);have n2:gr≠gm:=(by omega);have n3:gr≠gb:=(by omega);have n4:gx≠gr:=(by omega);have n5:gm≠gr:=(by omega);have n6:gb≠gr:=(by omega);have HPP:=iQ (show ∀ t,ND.prs true l=some t->s1=t from fun t e=>by rw [HN.out] at e;cases e);have HRR:=iQ (show (ND.prs true l).isSome=false from by rw [HN.out];rfl);go_region
        go_wp2_with fail;obtain ⟨⟨e0,e1,e2,e3⟩,HE⟩:=Jd M1.out HGB.out BW1.out HPP.out HRR.out (by omega) (by omega) (by omega);rw [Exit.noGoto_ret];refine bodyPost_ret (v := .tuple #[.agg #[.bool s1.leaf,.slice Ak s1.keys.length ck,.slice Av s1.vals.length cw,.slice Ac s1.kids.length cc],.bool false]) (by simp [results,Tryz.results184,go_sem,e0,e1,e2,e3]) rfl HE
      | false =>
        have HC:Hid (Ye=false/\ND.cutT r=some (t,r1)):=iQ (by rcases HW.out with ⟨h1,h2⟩ | ⟨h1,_⟩;exact ⟨h1.symm,h2⟩;cases h1)
        have HG1:Hid (ND.prs true l=Jn true (z - (k+1)+1) r s):=iQ (by
         rw [show z - (k+1)+1=z - k by omega];rcases HG.out with ⟨_,h2⟩ | ⟨h1,_⟩
         ·exact h2
         ·rw [HC.out.1] at h1;cases h1)
        have MD:Hid (RS wc.drew gb gr gm gt gn gx gb false r1 s1 kv1 vv cv):=iQ (m1.same rfl);clear m1 HP HG HW;go_wp2_with fail
        ·obtain ⟨p0,p1,p2,p3⟩:=M1.out.box.cells
         obtain ⟨f0,f1,f2,f3⟩:=M1.out.box.free;go_region_law
          (first
            | (go_simp;go_at_call 201;refine (VZ (w:=wc.drew) MD.out.rb MD.out.tk MD.out.nb).mono ?_;rintro e w2 ⟨t2,QB,r2,rfl,q1,k1,hr2,hw2⟩;have M2:=iQ (MD.out.call k1 q1);have KK:=iQ k1;have HW:=iQ hw2;have x1:=M2.out.box.cells.2.2.1;have x2:=M2.out.box.free.2.2.1;have x3:=M2.out.box.lt;clear q1 k1 hw2)
            | (refine step_append_lies _ rfl (.tmp 50) (.tmp 53) 48 rfl (gx+1) 9 i0 _ 1 16 Tryz.underlying48 hi hz0 hz1 hz2 rfl (by decide) vv s1.vals.length (Qd s1.vals) (by rfl) (M2.out.va.alloc _) ⟨w2.heap.size,0,none⟩ 1 1 [.string t2] (by rfl) rfl (cell_one_new _ _ _) (by simp [Value.oneCell']) (by omega) (by unfold maxLen;omega) (by omega) (by simp;omega) _ rfl ?_;intro g4 cap4 w4 o4 UZ at4 lt4;obtain ⟨z0,z1,S2,S3⟩:=zp9 M2.out o4 UZ at4))
         all_goals (
          go_wp2_with fail
          go_roundg (z - (k+1))
          case measure=>omega
          case rel =>
           refine ⟨k+1,rfl,by omega,by go_num,iQ ⟨QB,r2,_,kv1,_,cv,S2.out,Vz M1.out.od BW1.out M1.out.rb KK.out S3.out,by show s1.leaf=true;rw [Xl.out];exact HL.out,jk,by simp;exact jv,by show s1.kids.length<=_;omega,by omega,?_⟩⟩;rcases HW.out with ⟨h1,h2⟩ | ⟨h1,h2⟩
           ·refine Or.inl ⟨h1,?_⟩
            rw [HG1.out,qT0 HC.out.2 h2,Xl.out]
           ·refine Or.inr ⟨h1,?_⟩
            rw [HG1.out];exact qs6 HC.out.2 h2)
    ·obtain rfl:z=k:=by omega
     obtain ⟨Ab,cb,hb0,hm0,_⟩:=m.rb;obtain ⟨bb0,_⟩:=Zr hb0;obtain ⟨mm0,_⟩:=Zr hm0;clear m hb0 hm0;cases Ye with
     | true =>
       have HN:Hid (ND.prs true l=none):=iQ (by rcases HG.out with ⟨h1,_⟩ | ⟨_,h2⟩;cases h1;exact h2)
       go_wp2_with fail;obtain ⟨Ak,ck,rfl,_,_⟩:=Ln.oo M.out.ke;obtain ⟨Av,cw,rfl,_,_⟩:=Ln.oo M.out.va;obtain ⟨Ac,cc,rfl,_,_⟩:=Ln.oo M.out.ki;obtain ⟨p0,p1,p2,p3⟩:=M.out.box.cells;obtain ⟨q0,q1,q2,q3⟩:=M.out.res.cells;obtain ⟨f0,f1,f2,f3⟩:=M.out.res.free;obtain ⟨o1,o2,o3,o4,o5⟩:=M.out.od;have n1:gr≠gx:=(by omega);have n2:gr≠gm:=(by omega);have n3:gr≠gb:=(by omega);have n4:gx≠gr:=(by omega);have n5:gm≠gr:=(by omega);have n6:gb≠gr:=(by omega);have HPP:=iQ (show ∀ t,ND.prs true l=some t->s=t from fun t e=>by rw [HN.out] at e;cases e);have HRR:=iQ (show (ND.prs true l).isSome=false from by rw [HN.out];rfl);go_region
       go_wp2_with fail;obtain ⟨⟨e0,e1,e2,e3⟩,HE⟩:=Jd M.out HGB.out BW.out HPP.out HRR.out (by omega) (by omega) (by omega);rw [Exit.noGoto_ret];refine bodyPost_ret (v := .tuple #[.agg #[.bool s.leaf,.slice Ak s.keys.length ck,.slice Av s.vals.length cw,.slice Ac s.kids.length cc],.bool false]) (by simp [results,Tryz.results184,go_sem,e0,e1,e2,e3]) rfl HE
     | false =>
       have HN:Hid (ND.prs true l=if r.length=0 then some s else none):=iQ (by rcases HG.out with ⟨_,h2⟩ | ⟨h1,_⟩;(rw [h2,wf1];exact qk6 HL.out);cases h1)
       by_cases hr0:r.length=0
       ·have HT:Hid (ND.prs true l=some s):=iQ (HN.out.trans (if_pos hr0))
        have hq:((r.length:Int)==0)=true:=by rw [hr0];rfl
        clear hr0;go_wp2_with fail;obtain ⟨Ak,ck,rfl,_,_⟩:=Ln.oo M.out.ke;obtain ⟨Av,cw,rfl,_,_⟩:=Ln.oo M.out.va;obtain ⟨Ac,cc,rfl,_,_⟩:=Ln.oo M.out.ki;obtain ⟨p0,p1,p2,p3⟩:=M.out.box.cells;obtain ⟨q0,q1,q2,q3⟩:=M.out.res.cells;obtain ⟨f0,f1,f2,f3⟩:=M.out.res.free;obtain ⟨o1,o2,o3,o4,o5⟩:=M.out.od;have n1:gr≠gx:=(by omega);have n2:gr≠gm:=(by omega);have n3:gr≠gb:=(by omega);have n4:gx≠gr:=(by omega);have n5:gm≠gr:=(by omega);have n6:gb≠gr:=(by omega);have HPP:=iQ (show ∀ t,ND.prs true l=some t->s=t from fun t e=>by rw [HT.out] at e;exact wa0 e);have HRR:=iQ (show (ND.prs true l).isSome=true from by rw [HT.out];rfl);go_region
        go_wp2_with fail;obtain ⟨⟨e0,e1,e2,e3⟩,HE⟩:=Jd M.out HGB.out BW.out HPP.out HRR.out (by omega) (by omega) (by omega);rw [Exit.noGoto_ret];refine bodyPost_ret (v := .tuple #[.agg #[.bool s.leaf,.slice Ak s.keys.length ck,.slice Av s.vals.length cw,.slice Ac s.kids.length cc],.bool true]) (by simp [results,Tryz.results184,go_sem,e0,e1,e2,e3]) rfl HE
       ·have HT:Hid (ND.prs true l=none):=iQ (HN.out.trans (if_neg hr0))
        have hq:=qd1 hr0;clear hr0;go_wp2_with fail;obtain ⟨Ak,ck,rfl,_,_⟩:=Ln.oo M.out.ke;obtain ⟨Av,cw,rfl,_,_⟩:=Ln.oo M.out.va;obtain ⟨Ac,cc,rfl,_,_⟩:=Ln.oo M.out.ki;obtain ⟨p0,p1,p2,p3⟩:=M.out.box.cells;obtain ⟨q0,q1,q2,q3⟩:=M.out.res.cells;obtain ⟨f0,f1,f2,f3⟩:=M.out.res.free;obtain ⟨o1,o2,o3,o4,o5⟩:=M.out.od;have n1:gr≠gx:=(by omega);have n2:gr≠gm:=(by omega);have n3:gr≠gb:=(by omega);have n4:gx≠gr:=(by omega);have n5:gm≠gr:=(by omega);have n6:gb≠gr:=(by omega);have HPP:=iQ (show ∀ t,ND.prs true l=some t->s=t from fun t e=>by rw [HT.out] at e;cases e);have HRR:=iQ (show (ND.prs true l).isSome=false from by rw [HT.out];rfl);go_region
        go_wp2_with fail;obtain ⟨⟨e0,e1,e2,e3⟩,HE⟩:=Jd M.out HGB.out BW.out HPP.out HRR.out (by omega) (by omega) (by omega);rw [Exit.noGoto_ret];refine bodyPost_ret (v := .tuple #[.agg #[.bool s.leaf,.slice Ak s.keys.length ck,.slice Av s.vals.length cw,.slice Ac s.kids.length cc],.bool false]) (by simp [results,Tryz.results184,go_sem,e0,e1,e2,e3]) rfl HE
 | false =>
   have MD:Hid (RS w1.drew gb gr gm gt gn gx gb Jb r1 ⟨false,[],[],[]⟩ (.slice none 0 0) (.slice none 0 0) (.slice none 0 0)):=iQ (M1.out.same rfl);go_wp2_with fail;go_cut [] (fun wx=>Hid (RP w wx gb gr gm gt gn gx false l z 0))
   case first =>
    obtain ⟨p0,p1,p2,p3⟩:=M1.out.box.cells;obtain ⟨f0,f1,f2,f3⟩:=M1.out.box.free;obtain ⟨nb0,_⟩:=Zr M1.out.nb;go_region_law
     (first
       | (go_simp;go_at_call 200;refine (KN (w:=w1.drew) MD.out.rb MD.out.tk).mono ?_;rintro e w2 ⟨z2,QB,r2,rfl,hz4,q1,k1,hw2⟩;have M2:=iQ (MD.out.call k1 q1);have KK:=iQ k1;have HW:=iQ (qj2 hw2);have x1:=M2.out.box.cells.2.2.2;have x2:=M2.out.box.free.2.2.2;have x3:=M2.out.box.lt;clear q1 k1 hw2 hz4)
       | (refine step_append_lies _ rfl (.tmp 22) (.tmp 25) 40 rfl (gx+1) 3 i1 _ 1 8 Tryz.underlying40 hi1 hy0 hy1 hy2 rfl (by decide) (.slice none 0 0) 0 (Qc []) (by rfl) (M2.out.ki.alloc _) ⟨w2.heap.size,0,none⟩ 1 1 [.int .i64 z2] (by rfl) rfl (cell_one_new _ _ _) (by simp [Value.oneCell']) (by omega) (by unfold maxLen;omega) (by omega) (by simp;omega) _ rfl ?_;intro g4 cap4 w4 o4 UZ at4 lt4;obtain ⟨z0,z1,S2,S3⟩:=zh5 M2.out o4 UZ))
    all_goals (
     go_wp2_with fail
     go_meet
     exact iQ ⟨QB,r2,_,_,_,_,S2.out,Vz M1.out.od B1.out M1.out.rb KK.out S3.out,rfl,wb3 _,wb3 _,wa2 _,wa9 HW.out.1 RL.out,qF1 HP2.out HW.out.2⟩)
   case rest =>
    have H0:=hcut;clear MD M1 B1 RL HP2 hcut;go_wp2_with fail;go_step3;go_wp2_with fail
    go_loopg [29] z (fun g v wr=>∃ k:Nat,g=z - k/\k<=z/\v = .int .i64 k/\Hid (RP w wr gb gr gm gt gn gx false l z k))
    case atStart=>exact ⟨0,rfl,wb3 _,rfl,H0⟩
    case round =>
     obtain ⟨k,rfl,hk,rfl,HP⟩:=hrel;obtain ⟨Ye,r,s,kv,vv,cv,m,hB,hl,lk,lv,lc,lr,hG⟩:=HP.out.is;have M:=iQ m;have BW:=iQ hB;have HL:=iQ hl;have HG:=iQ hG;clear hB hl hG;by_cases hlt:k<z
     ·have MD:Hid (RS wr.drew gb gr gm gt gn gx gb Ye r s kv vv cv):=iQ (m.same rfl)
      clear m;go_upto_region 11 with fail
      go_cut [] (fun wx=>Hid (∃ Jb r1 t kv1 s1,s1=ND.mk s.leaf (s.keys++[t]) s.vals s.kids/\RS wx gb gr gm gt gn gx gb Jb r1 s1 kv1 vv cv/\Below gb w wx/\r1.length<=r.length/\((Jb=Ye/\ND.cutT r=some (t,r1))\/(Jb=true/\ND.cutT r=none))))
      case first =>
       obtain ⟨p0,p1,p2,p3⟩:=M.out.box.cells;obtain ⟨f0,f1,f2,f3⟩:=M.out.box.free;go_region_law
        (first
          | (go_simp;go_at_call 201;refine (VZ (w:=wr.drew) MD.out.rb MD.out.tk MD.out.nb).mono ?_;rintro e w2 ⟨t,Jb,r1,rfl,q1,k1,hr1,hw1⟩;have M2:=iQ (MD.out.call k1 q1);have KK:=iQ k1;have HW:=iQ hw1;have x1:=M2.out.box.cells.2.1;have x2:=M2.out.box.free.2.1;have x3:=M2.out.box.lt;clear q1 k1 hw1)
          | (refine step_append_lies _ rfl (.tmp 32) (.tmp 35) 48 rfl (gx+1) 9 i0 _ 1 16 Tryz.underlying48 hi hz0 hz1 hz2 rfl (by decide) kv s.keys.length (Qd s.keys) (by rfl) (M2.out.ke.alloc _) ⟨w2.heap.size,0,none⟩ 1 1 [.string t] (by rfl) rfl (cell_one_new _ _ _) (by simp [Value.oneCell']) (by omega) (by unfold maxLen;omega) (by omega) (by simp;omega) _ rfl ?_;intro g4 cap4 w4 o4 UZ at4 lt4;obtain ⟨s0,s1,S2,S3⟩:=zh4 M2.out o4 UZ at4))
       all_goals (
        go_wp2_with fail
        go_meet
        exact iQ ⟨Jb,r1,t.toList,_,_,rfl,S2.out,Vz M.out.od BW.out M.out.rb KK.out S3.out,hr1,HW.out⟩)
      case rest =>
       clear MD;obtain ⟨Jb,r1,t,kv1,s1,hs1,m1,b1,hr1,hw1⟩:=hcut.out;have jk:s1.keys.length<=k+1:=by rw [hs1];simp;exact lk
       have jv:s1.vals.length<=k:=by rw [hs1];exact lv
       have jc:s1.kids.length<=k+1:=by rw [hs1];exact lc
       have Xl:=iQ hs1;have M1:=iQ m1;have BW1:=iQ b1;have HW:=iQ hw1;have MC:=(show ∃ A c,wc.heap[gm]?=some (.cells #[.bool Jb] 4 (0,0)) from by obtain ⟨A,c,_,h2,_⟩:=m1.rb;exact ⟨A,c,h2⟩);obtain ⟨_,_,mc⟩:=MC;obtain ⟨mc0,mc1⟩:=Zr mc;clear hs1 b1 hw1 mc mc1 hcut;cases Jb with
       | true =>
         clear m1;have HN:Hid (ND.prs false l=none):=iQ (by
          rcases HG.out with ⟨h1,h2⟩ | ⟨_,h2⟩
          ·rcases HW.out with ⟨h3,_⟩ | ⟨_,h4⟩
           ·rw [h1] at h3;cases h3
           ·rw [h2,show z - k=(z - k - 1)+1 by omega];exact BG h4
          ·exact h2)
         go_wp2_with fail;obtain ⟨Ak,ck,rfl,_,_⟩:=Ln.oo M1.out.ke;obtain ⟨Av,cw,rfl,_,_⟩:=Ln.oo M1.out.va;obtain ⟨Ac,cc,rfl,_,_⟩:=Ln.oo M1.out.ki;obtain ⟨p0,p1,p2,p3⟩:=M1.out.box.cells;obtain ⟨q0,q1,q2,q3⟩:=M1.out.res.cells;obtain ⟨f0,f1,f2,f3⟩:=M1.out.res.free;obtain ⟨o1,o2,o3,o4,o5⟩:=M1.out.od;have n1:gr≠gx:=(by omega);have n2:gr≠gm:=(by omega);have n3:gr≠gb:=(by omega);have n4:gx≠gr:=(by omega);have n5:gm≠gr:=(by omega);have n6:gb≠gr:=(by omega);have HPP:=iQ (show ∀ t,ND.prs false l=some t->s1=t from fun t e=>by rw [HN.out] at e;cases e);have HRR:=iQ (show (ND.prs false l).isSome=false from by rw [HN.out];rfl);go_region
         go_wp2_with fail;obtain ⟨⟨e0,e1,e2,e3⟩,HE⟩:=Jd M1.out HGB.out BW1.out HPP.out HRR.out (by omega) (by omega) (by omega);rw [Exit.noGoto_ret];refine bodyPost_ret (v := .tuple #[.agg #[.bool s1.leaf,.slice Ak s1.keys.length ck,.slice Av s1.vals.length cw,.slice Ac s1.kids.length cc],.bool false]) (by simp [results,Tryz.results184,go_sem,e0,e1,e2,e3]) rfl HE
       | false =>
         have HC:Hid (Ye=false/\ND.cutT r=some (t,r1)):=iQ (by rcases HW.out with ⟨h1,h2⟩ | ⟨h1,_⟩;exact ⟨h1.symm,h2⟩;cases h1)
         have HG1:Hid (ND.prs false l=Jn false (z - (k+1)+1) r s):=iQ (by
          rw [show z - (k+1)+1=z - k by omega];rcases HG.out with ⟨_,h2⟩ | ⟨h1,_⟩
          ·exact h2
          ·rw [HC.out.1] at h1;cases h1)
         have MD:Hid (RS wc.drew gb gr gm gt gn gx gb false r1 s1 kv1 vv cv):=iQ (m1.same rfl);clear m1 HP HG HW;go_wp2_with fail
         ·obtain ⟨p0,p1,p2,p3⟩:=M1.out.box.cells
          obtain ⟨f0,f1,f2,f3⟩:=M1.out.box.free;obtain ⟨nb0,_⟩:=Zr M1.out.nb;go_region_law
           (first
             | (go_simp;go_at_call 200;refine (KN (w:=wc.drew) MD.out.rb MD.out.tk).mono ?_;rintro e w2 ⟨z2,QB,r2,rfl,hz4,q1,k1,hw2⟩;have M2:=iQ (MD.out.call k1 q1);have KK:=iQ k1;have HW:=iQ (qj2 hw2);have x1:=M2.out.box.cells.2.2.2;have x2:=M2.out.box.free.2.2.2;have x3:=M2.out.box.lt;clear q1 k1 hw2 hz4)
             | (refine step_append_lies _ rfl (.tmp 39) (.tmp 42) 40 rfl (gx+1) 3 i1 _ 1 8 Tryz.underlying40 hi1 hy0 hy1 hy2 rfl (by decide) cv s1.kids.length (Qc s1.kids) (by rfl) (M2.out.ki.alloc _) ⟨w2.heap.size,0,none⟩ 1 1 [.int .i64 z2] (by rfl) rfl (cell_one_new _ _ _) (by simp [Value.oneCell']) (by omega) (by unfold maxLen;omega) (by omega) (by simp;omega) _ rfl ?_;intro g4 cap4 w4 o4 UZ at4 lt4;obtain ⟨z0,z1,S2,S3⟩:=zh5 M2.out o4 UZ))
          all_goals (
           go_wp2_with fail
           go_roundg (z - (k+1))
           case measure=>omega
           case rel =>
            refine ⟨k+1,rfl,by omega,by go_num,iQ ⟨QB,r2,_,kv1,vv,_,S2.out,Vz M1.out.od BW1.out M1.out.rb KK.out S3.out,by show s1.leaf=false;rw [Xl.out];exact HL.out,jk,by show s1.vals.length<=_;omega,by simp;omega,by have:=HW.out.1;omega,?_⟩⟩;rcases HW.out.2 with ⟨h1,h2⟩ | ⟨h1,h2⟩
            ·refine Or.inl ⟨h1,?_⟩
             rw [HG1.out,qT1 HC.out.2 h2,Xl.out]
            ·refine Or.inr ⟨h1,?_⟩
             rw [HG1.out];exact qs7 HC.out.2 h2)
     ·obtain rfl:z=k:=by omega
      obtain ⟨Ab,cb,hb0,hm0,_⟩:=m.rb;obtain ⟨bb0,_⟩:=Zr hb0;obtain ⟨mm0,_⟩:=Zr hm0;clear m hb0 hm0;cases Ye with
      | true =>
        have HN:Hid (ND.prs false l=none):=iQ (by rcases HG.out with ⟨h1,_⟩ | ⟨_,h2⟩;cases h1;exact h2)
        go_wp2_with fail;obtain ⟨Ak,ck,rfl,_,_⟩:=Ln.oo M.out.ke;obtain ⟨Av,cw,rfl,_,_⟩:=Ln.oo M.out.va;obtain ⟨Ac,cc,rfl,_,_⟩:=Ln.oo M.out.ki;obtain ⟨p0,p1,p2,p3⟩:=M.out.box.cells;obtain ⟨q0,q1,q2,q3⟩:=M.out.res.cells;obtain ⟨f0,f1,f2,f3⟩:=M.out.res.free;obtain ⟨o1,o2,o3,o4,o5⟩:=M.out.od;have n1:gr≠gx:=(by omega);have n2:gr≠gm:=(by omega);have n3:gr≠gb:=(by omega);have n4:gx≠gr:=(by omega);have n5:gm≠gr:=(by omega);have n6:gb≠gr:=(by omega);have HPP:=iQ (show ∀ t,ND.prs false l=some t->s=t from fun t e=>by rw [HN.out] at e;cases e);have HRR:=iQ (show (ND.prs false l).isSome=false from by rw [HN.out];rfl);go_region
        go_wp2_with fail;obtain ⟨⟨e0,e1,e2,e3⟩,HE⟩:=Jd M.out HGB.out BW.out HPP.out HRR.out (by omega) (by omega) (by omega);rw [Exit.noGoto_ret];refine bodyPost_ret (v := .tuple #[.agg #[.bool s.leaf,.slice Ak s.keys.length ck,.slice Av s.vals.length cw,.slice Ac s.kids.length cc],.bool false]) (by simp [results,Tryz.results184,go_sem,e0,e1,e2,e3]) rfl HE
      | false =>
        have HN:Hid (ND.prs false l=if r.length=0 then some s else none):=iQ (by rcases HG.out with ⟨_,h2⟩ | ⟨h1,_⟩;(rw [h2,wf1];exact qk6 HL.out);cases h1)
        by_cases hr0:r.length=0
        ·have HT:Hid (ND.prs false l=some s):=iQ (HN.out.trans (if_pos hr0))
         have hq:((r.length:Int)==0)=true:=by rw [hr0];rfl
         clear hr0;go_wp2_with fail;obtain ⟨Ak,ck,rfl,_,_⟩:=Ln.oo M.out.ke;obtain ⟨Av,cw,rfl,_,_⟩:=Ln.oo M.out.va;obtain ⟨Ac,cc,rfl,_,_⟩:=Ln.oo M.out.ki;obtain ⟨p0,p1,p2,p3⟩:=M.out.box.cells;obtain ⟨q0,q1,q2,q3⟩:=M.out.res.cells;obtain ⟨f0,f1,f2,f3⟩:=M.out.res.free;obtain ⟨o1,o2,o3,o4,o5⟩:=M.out.od;have n1:gr≠gx:=(by omega);have n2:gr≠gm:=(by omega);have n3:gr≠gb:=(by omega);have n4:gx≠gr:=(by omega);have n5:gm≠gr:=(by omega);have n6:gb≠gr:=(by omega);have HPP:=iQ (show ∀ t,ND.prs false l=some t->s=t from fun t e=>by rw [HT.out] at e;exact wa0 e);have HRR:=iQ (show (ND.prs false l).isSome=true from by rw [HT.out];rfl);go_region
         go_wp2_with fail;obtain ⟨⟨e0,e1,e2,e3⟩,HE⟩:=Jd M.out HGB.out BW.out HPP.out HRR.out (by omega) (by omega) (by omega);rw [Exit.noGoto_ret];refine bodyPost_ret (v := .tuple #[.agg #[.bool s.leaf,.slice Ak s.keys.length ck,.slice Av s.vals.length cw,.slice Ac s.kids.length cc],.bool true]) (by simp [results,Tryz.results184,go_sem,e0,e1,e2,e3]) rfl HE
        ·have HT:Hid (ND.prs false l=none):=iQ (HN.out.trans (if_neg hr0))
         have hq:=qd1 hr0;clear hr0;go_wp2_with fail;obtain ⟨Ak,ck,rfl,_,_⟩:=Ln.oo M.out.ke;obtain ⟨Av,cw,rfl,_,_⟩:=Ln.oo M.out.va;obtain ⟨Ac,cc,rfl,_,_⟩:=Ln.oo M.out.ki;obtain ⟨p0,p1,p2,p3⟩:=M.out.box.cells;obtain ⟨q0,q1,q2,q3⟩:=M.out.res.cells;obtain ⟨f0,f1,f2,f3⟩:=M.out.res.free;obtain ⟨o1,o2,o3,o4,o5⟩:=M.out.od;have n1:gr≠gx:=(by omega);have n2:gr≠gm:=(by omega);have n3:gr≠gb:=(by omega);have n4:gx≠gr:=(by omega);have n5:gm≠gr:=(by omega);have n6:gb≠gr:=(by omega);have HPP:=iQ (show ∀ t,ND.prs false l=some t->s=t from fun t e=>by rw [HT.out] at e;cases e);have HRR:=iQ (show (ND.prs false l).isSome=false from by rw [HT.out];rfl);go_region
         go_wp2_with fail;obtain ⟨⟨e0,e1,e2,e3⟩,HE⟩:=Jd M.out HGB.out BW.out HPP.out HRR.out (by omega) (by omega) (by omega);rw [Exit.noGoto_ret];refine bodyPost_ret (v := .tuple #[.agg #[.bool s.leaf,.slice Ak s.keys.length ck,.slice Av s.vals.length cw,.slice Ac s.kids.length cc],.bool false]) (by simp [results,Tryz.results184,go_sem,e0,e1,e2,e3]) rfl HE
theorem VY {w w2:World} {err:Int} {v:Value} {s:ND} (hb:Below w.heap.size w w2) (hv:Ha w2 (w.heap.size+1) v s) (x y z p:Value) :
 zn8 w err s (.returned (.tuple #[v,.int .i64 err])) ((((w2.setCell ⟨w.heap.size,0,none⟩ x).setCell ⟨w.heap.size,1,none⟩ y).setCell ⟨w.heap.size,2,none⟩ z).setCell ⟨w.heap.size,3,none⟩ p) :=
 ⟨v,rfl,qx6 hv (wa2 _) x y z p,Jv hb (wa2 _) x y z p⟩
theorem Vo {w w1:World} {k:Int} {b:List UInt8} (h:ND.dec k b=none) (hb:Below w.heap.size w w1):zn8 w (ND.decE k b) (ND.decS k b) (.returned (.tuple #[.agg #[.bool false,.slice none 0 0,.slice none 0 0,.slice none 0 0],.int .i64 100]))
 ((((w1.setCell ⟨w.heap.size,0,none⟩ (.bool false)).setCell ⟨w.heap.size,1,none⟩ (.slice none 0 0)).setCell ⟨w.heap.size,2,none⟩ (.slice none 0 0)).setCell ⟨w.heap.size,3,none⟩ (.slice none 0 0)):=by
 rw [(ND.dec_none h).1,(ND.dec_none h).2];exact VY hb (Ht _ _) _ _ _ _
theorem ze1 {w:World} {R:Nat} {A:Option Addr} {l:List UInt8} (h:Xc w R A l):Xc w w.heap.size A l:=by
 rcases l with _ | ⟨x,l⟩
 ·exact Xc.nil _ _ _
 ·rcases h with h | ⟨b,off,rfl,hR,hc⟩
  ·cases h
  ·exact Or.inr ⟨b,off,rfl,World.block_lt_of_cell? _ _ (hc 0 x rfl),hc⟩
theorem qU9 {k:Int} {b:List UInt8} (h2:k≠2) (h3:k≠3):ND.dec k b=none:=by
 unfold ND.dec ND.isKind;rw [decide_eq_false h2,decide_eq_false h3];rfl
theorem qU8 {k:Int} {b:List UInt8} (h:¬ b.length<=1000):ND.dec k b=none:=by
 unfold ND.dec;rw [decide_eq_false h,Bool.and_false];rfl
theorem qV0 {k:Int} {b:List UInt8} (hk:k=2\/k=3) (h:b.length<=1000):ND.dec k b=(ND.prs (decide (k=2)) b).bind (fun s=>if s.ok then some s else none):=by
 unfold ND.dec ND.isKind;rw [decide_eq_true h];rcases hk with rfl | rfl<;>rfl
theorem qi5 {R:Nat} (k:Int) (A:Option Addr) (n c:Nat) (b:List UInt8) (w:World) (hl:b.length=n) (hr:Xc w R A b) (hnc:n<=c) (hm:c<=maxLen) :
 Calls Tryz.prog 167 #[.int .i64 k,.slice A n c] w (zn8 w (ND.decE k b) (ND.decS k b)):=by
 have b0:=Qa w (.cells #[.bool false,.slice none 0 0,.slice none 0 0,.slice none 0 0] 75);have B0:=iQ b0;have HR:=iQ (Qp w (.bool false) (.slice none 0 0) (.slice none 0 0) (.slice none 0 0));have HY:=iQ (ze1 (hr.kept b0));have HL:=iQ hl;have HM:=iQ hm;clear hr b0 hm;by_cases hk:k=2\/k=3;case neg =>
  have HZ:=iQ (Vo (b:=b) (qU9 (k:=k) (by omega) (by omega)) B0.out);have h2:(k != 2)=true:=by rw [bne_iff_ne];omega
  have h3:(k != 3)=true:=by rw [bne_iff_ne];omega
  clear hk hl;go_enter Tryz.func167,Tryz.ntmps167;go_upto_region 1 with fail
  generalize w.alloc (.cells #[.bool false,.slice none 0 0,.slice none 0 0,.slice none 0 0] 75)=w0 at *;obtain ⟨q0,q1,q2,q3⟩:=HR.out.cells;obtain ⟨f0,f1,f2,f3⟩:=HR.out.free;obtain ⟨e0,e1,e2,e3⟩:=(iQ (HR.out.put (.bool false) (.slice none 0 0) (.slice none 0 0) (.slice none 0 0))).out.cells;go_wp2_with fail;refine bodyPost_ret (v := .tuple #[.agg #[.bool false,.slice none 0 0,.slice none 0 0,.slice none 0 0],.int .i64 100]) (by simp [results,Tryz.results167,go_sem,e0,e1,e2,e3]) rfl ?_;exact HZ.out
 by_cases hn:n<=1000;case neg =>
  have HZ:=iQ (Vo (qU8 (k:=k) (b:=b) (by omega)) B0.out);clear hl;rcases hk with rfl | rfl
  all_goals
   go_enter Tryz.func167,Tryz.ntmps167;go_upto_region 1 with fail
   generalize w.alloc (.cells #[.bool false,.slice none 0 0,.slice none 0 0,.slice none 0 0] 75)=w0 at *;obtain ⟨q0,q1,q2,q3⟩:=HR.out.cells;obtain ⟨f0,f1,f2,f3⟩:=HR.out.free;obtain ⟨e0,e1,e2,e3⟩:=(iQ (HR.out.put (.bool false) (.slice none 0 0) (.slice none 0 0) (.slice none 0 0))).out.cells;go_wp2_with fail;refine bodyPost_ret (v := .tuple #[.agg #[.bool false,.slice none 0 0,.slice none 0 0,.slice none 0 0],.int .i64 100]) (by simp [results,Tryz.results167,go_sem,e0,e1,e2,e3]) rfl ?_;exact HZ.out
 rcases hk with rfl | rfl
 ·have HD:Hid (ND.dec 2 b=(ND.prs true b).bind (fun s=>if s.ok then some s else none)):=iQ (qV0 (k:=2) (b:=b) (by omega) (by omega))
  have HC:=iQ (fun W (hy:Xc W W.heap.size A b)=>DD true A n c b W HL.out hy hnc HM.out);clear hl;go_enter Tryz.func167,Tryz.ntmps167;go_upto_region 1 with fail
  generalize w.alloc (.cells #[.bool false,.slice none 0 0,.slice none 0 0,.slice none 0 0] 75)=w0 at *;go_wp2_with fail;refine (HC.out w0 HY.out).mono ?_;rintro e w2 ⟨v2,s,rfl,hv,b2,hp,j1,j2,j3⟩;obtain ⟨Ak,nk,ck,Av,nv,cw,Ac,nc,cc,rfl,hnd,g1,g2,g3⟩:=hv;have Z0:=HR.out.lt;have HND:=iQ (hnd.kept (Qa w2 (.cells #[.bool s.leaf,.slice Ak nk ck,.slice Av nv cw,.slice Ac nc cc] 75)));have B2:=iQ ((B0.out.trans (b2.mono B0.out.size)).trans ((Qa w2 (.cells #[.bool s.leaf,.slice Ak nk ck,.slice Av nv cw,.slice Ac nc cc] 75)).mono (wa9 B0.out.size b2.size)));have HX:=iQ (Qp w2 (.bool s.leaf) (.slice Ak nk ck) (.slice Av nv cw) (.slice Ac nc cc));have HR2:=iQ ((HR.out.kept b2).kept (Qa w2 (.cells #[.bool s.leaf,.slice Ak nk ck,.slice Av nv cw,.slice Ac nc cc] 75)));have G1:=iQ (g1.low (base':=w.heap.size+1) Z0);have G2:=iQ (g2.low (base':=w.heap.size+1) Z0);have G3:=iQ (g3.low (base':=w.heap.size+1) Z0);have hk1:nk<=70000:=by rw [<- hnd.kn];exact j1
  have hk2:nv<=70000:=by rw [<- hnd.vn];exact j2
  have hk3:nc<=70000:=by rw [<- hnd.cn];exact j3
  clear b2 hnd g1 g2 g3 j1 j2 j3 HR B0 Z0;cases hpr:ND.prs true b with
  | none =>
    have HZ:=iQ (Vo (k:=2) (b:=b) (HD.out.trans (by rw [hpr];rfl)) B2.out);clear hp hpr HND G1 G2 G3;rw [Option.isSome_none];go_upto_region 4 with fail
    generalize w2.alloc (.cells #[.bool s.leaf,.slice Ak nk ck,.slice Av nv cw,.slice Ac nc cc] 75)=w3 at *;obtain ⟨q0,q1,q2,q3⟩:=HR2.out.cells;obtain ⟨f0,f1,f2,f3⟩:=HR2.out.free;obtain ⟨e0,e1,e2,e3⟩:=(iQ (HR2.out.put (.bool false) (.slice none 0 0) (.slice none 0 0) (.slice none 0 0))).out.cells;go_wp2_with fail;refine bodyPost_ret (v := .tuple #[.agg #[.bool false,.slice none 0 0,.slice none 0 0,.slice none 0 0],.int .i64 100]) (by simp [results,Tryz.results167,go_sem,e0,e1,e2,e3]) rfl ?_;exact HZ.out
  | some t =>
    obtain rfl:s=t:=hp t hpr;have HE:Hid (ND.dec 2 b=if s.ok then some s else none):=iQ (HD.out.trans (by rw [hpr];rfl))
    clear hp hpr;rw [Option.isSome_some];go_upto_region 4 with fail
    generalize hw3:w2.alloc (.cells #[.bool s.leaf,.slice Ak nk ck,.slice Av nv cw,.slice Ac nc cc] 75)=w3 at *;clear hw3;generalize w2.heap.size=r2 at *;obtain ⟨x0,x1,x2,x3⟩:=HX.out.cells;go_wp2_with fail;refine (YZ s.leaf Ak nk ck Av nv cw Ac nc cc s w3 HND.out rfl (by omega) (by omega) (by omega)).mono ?_;rintro e w4 ⟨rfl,b4⟩;have B4:=iQ (B2.out.trans (b4.mono B2.out.size));have HR4:=iQ (HR2.out.kept b4);have HX4:=iQ (HX.out.kept b4);have HN4:=iQ (HND.out.kept b4);clear b4 x0 x1 x2 x3 B2 HR2 HX HND;obtain ⟨q0,q1,q2,q3⟩:=HR4.out.cells;obtain ⟨f0,f1,f2,f3⟩:=HR4.out.free;cases hok:s.ok with
    | false =>
      rw [YQ hok];have HZ:=iQ (Vo (k:=2) (b:=b) (HE.out.trans (by rw [hok];rfl)) B4.out);obtain ⟨e0,e1,e2,e3⟩:=(iQ (HR4.out.put (.bool false) (.slice none 0 0) (.slice none 0 0) (.slice none 0 0))).out.cells;clear hok;go_wp2_with fail;refine bodyPost_ret (v := .tuple #[.agg #[.bool false,.slice none 0 0,.slice none 0 0,.slice none 0 0],.int .i64 100]) (by simp [results,Tryz.results167,go_sem,e0,e1,e2,e3]) rfl ?_;exact HZ.out
    | true =>
      rw [Hu hok];have HDS:=iQ (ND.dec_some (HE.out.trans (by rw [hok];rfl)));obtain ⟨x0,x1,x2,x3⟩:=HX4.out.cells;obtain ⟨e0,e1,e2,e3⟩:=(iQ (HR4.out.put (.bool s.leaf) (.slice Ak nk ck) (.slice Av nv cw) (.slice Ac nc cc))).out.cells;have HZ:=iQ (VY (err:=0) B4.out (show Ha w4 (w.heap.size+1) (.agg #[.bool s.leaf,.slice Ak nk ck,.slice Av nv cw,.slice Ac nc cc]) s from ⟨Ak,nk,ck,Av,nv,cw,Ac,nc,cc,rfl,HN4.out,G1.out,G2.out,G3.out⟩) (.bool s.leaf) (.slice Ak nk ck) (.slice Av nv cw) (.slice Ac nc cc));clear hok;go_wp2_with fail;refine bodyPost_ret (v := .tuple #[.agg #[.bool s.leaf,.slice Ak nk ck,.slice Av nv cw,.slice Ac nc cc],.int .i64 0]) (by simp [results,Tryz.results167,go_sem,e0,e1,e2,e3]) rfl ?_;rw [HDS.out.1,HDS.out.2];exact HZ.out
 ·have HD:Hid (ND.dec 3 b=(ND.prs false b).bind (fun s=>if s.ok then some s else none)):=iQ (qV0 (k:=3) (b:=b) (by omega) (by omega))
  have HC:=iQ (fun W (hy:Xc W W.heap.size A b)=>DD false A n c b W HL.out hy hnc HM.out);clear hl;go_enter Tryz.func167,Tryz.ntmps167;go_upto_region 1 with fail
  generalize w.alloc (.cells #[.bool false,.slice none 0 0,.slice none 0 0,.slice none 0 0] 75)=w0 at *;go_wp2_with fail;refine (HC.out w0 HY.out).mono ?_;rintro e w2 ⟨v2,s,rfl,hv,b2,hp,j1,j2,j3⟩;obtain ⟨Ak,nk,ck,Av,nv,cw,Ac,nc,cc,rfl,hnd,g1,g2,g3⟩:=hv;have Z0:=HR.out.lt;have HND:=iQ (hnd.kept (Qa w2 (.cells #[.bool s.leaf,.slice Ak nk ck,.slice Av nv cw,.slice Ac nc cc] 75)));have B2:=iQ ((B0.out.trans (b2.mono B0.out.size)).trans ((Qa w2 (.cells #[.bool s.leaf,.slice Ak nk ck,.slice Av nv cw,.slice Ac nc cc] 75)).mono (wa9 B0.out.size b2.size)));have HX:=iQ (Qp w2 (.bool s.leaf) (.slice Ak nk ck) (.slice Av nv cw) (.slice Ac nc cc));have HR2:=iQ ((HR.out.kept b2).kept (Qa w2 (.cells #[.bool s.leaf,.slice Ak nk ck,.slice Av nv cw,.slice Ac nc cc] 75)));have G1:=iQ (g1.low (base':=w.heap.size+1) Z0);have G2:=iQ (g2.low (base':=w.heap.size+1) Z0);have G3:=iQ (g3.low (base':=w.heap.size+1) Z0);have hk1:nk<=70000:=by rw [<- hnd.kn];exact j1
  have hk2:nv<=70000:=by rw [<- hnd.vn];exact j2
  have hk3:nc<=70000:=by rw [<- hnd.cn];exact j3
  clear b2 hnd g1 g2 g3 j1 j2 j3 HR B0 Z0;cases hpr:ND.prs false b with
  | none =>
    have HZ:=iQ (Vo (k:=3) (b:=b) (HD.out.trans (by rw [hpr];rfl)) B2.out);clear hp hpr HND G1 G2 G3;rw [Option.isSome_none];go_upto_region 4 with fail
    generalize w2.alloc (.cells #[.bool s.leaf,.slice Ak nk ck,.slice Av nv cw,.slice Ac nc cc] 75)=w3 at *;obtain ⟨q0,q1,q2,q3⟩:=HR2.out.cells;obtain ⟨f0,f1,f2,f3⟩:=HR2.out.free;obtain ⟨e0,e1,e2,e3⟩:=(iQ (HR2.out.put (.bool false) (.slice none 0 0) (.slice none 0 0) (.slice none 0 0))).out.cells;go_wp2_with fail;refine bodyPost_ret (v := .tuple #[.agg #[.bool false,.slice none 0 0,.slice none 0 0,.slice none 0 0],.int .i64 100]) (by simp [results,Tryz.results167,go_sem,e0,e1,e2,e3]) rfl ?_;exact HZ.out
  | some t =>
    obtain rfl:s=t:=hp t hpr;have HE:Hid (ND.dec 3 b=if s.ok then some s else none):=iQ (HD.out.trans (by rw [hpr];rfl))
    clear hp hpr;rw [Option.isSome_some];go_upto_region 4 with fail
    generalize hw3:w2.alloc (.cells #[.bool s.leaf,.slice Ak nk ck,.slice Av nv cw,.slice Ac nc cc] 75)=w3 at *;clear hw3;generalize w2.heap.size=r2 at *;obtain ⟨x0,x1,x2,x3⟩:=HX.out.cells;go_wp2_with fail;refine (YZ s.leaf Ak nk ck Av nv cw Ac nc cc s w3 HND.out rfl (by omega) (by omega) (by omega)).mono ?_;rintro e w4 ⟨rfl,b4⟩;have B4:=iQ (B2.out.trans (b4.mono B2.out.size));have HR4:=iQ (HR2.out.kept b4);have HX4:=iQ (HX.out.kept b4);have HN4:=iQ (HND.out.kept b4);clear b4 x0 x1 x2 x3 B2 HR2 HX HND;obtain ⟨q0,q1,q2,q3⟩:=HR4.out.cells;obtain ⟨f0,f1,f2,f3⟩:=HR4.out.free;cases hok:s.ok with
    | false =>
      rw [YQ hok];have HZ:=iQ (Vo (k:=3) (b:=b) (HE.out.trans (by rw [hok];rfl)) B4.out);obtain ⟨e0,e1,e2,e3⟩:=(iQ (HR4.out.put (.bool false) (.slice none 0 0) (.slice none 0 0) (.slice none 0 0))).out.cells;clear hok;go_wp2_with fail;refine bodyPost_ret (v := .tuple #[.agg #[.bool false,.slice none 0 0,.slice none 0 0,.slice none 0 0],.int .i64 100]) (by simp [results,Tryz.results167,go_sem,e0,e1,e2,e3]) rfl ?_;exact HZ.out
    | true =>
      rw [Hu hok];have HDS:=iQ (ND.dec_some (HE.out.trans (by rw [hok];rfl)));obtain ⟨x0,x1,x2,x3⟩:=HX4.out.cells;obtain ⟨e0,e1,e2,e3⟩:=(iQ (HR4.out.put (.bool s.leaf) (.slice Ak nk ck) (.slice Av nv cw) (.slice Ac nc cc))).out.cells;have HZ:=iQ (VY (err:=0) B4.out (show Ha w4 (w.heap.size+1) (.agg #[.bool s.leaf,.slice Ak nk ck,.slice Av nv cw,.slice Ac nc cc]) s from ⟨Ak,nk,ck,Av,nv,cw,Ac,nc,cc,rfl,HN4.out,G1.out,G2.out,G3.out⟩) (.bool s.leaf) (.slice Ak nk ck) (.slice Av nv cw) (.slice Ac nc cc));clear hok;go_wp2_with fail;refine bodyPost_ret (v := .tuple #[.agg #[.bool s.leaf,.slice Ak nk ck,.slice Av nv cw,.slice Ac nc cc],.int .i64 0]) (by simp [results,Tryz.results167,go_sem,e0,e1,e2,e3]) rfl ?_;rw [HDS.out.1,HDS.out.2];exact HZ.out
end
end Go.Proofs.YtfiflinbicbedaaGreat
