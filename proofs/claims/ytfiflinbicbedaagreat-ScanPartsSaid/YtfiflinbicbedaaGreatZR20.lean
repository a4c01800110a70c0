/-
  A part of the proof. Conditions: none.
-/
import Derived.Test.YtfiflinbicbedaaGreatZR19

set_option maxRecDepth 20000
set_option maxHeartbeats 12800000
namespace Go.Proofs.YtfiflinbicbedaaGreat
section
open Go.RowKit Go.Maps
theorem PR {w:World} {F:Nat->Prop} {base sz n c:Nat} {e:TypeId} {A:Option Addr} {cs:List Value} (h:w.ownsRow base e sz (.slice A n c) n cs) (hF:∀ g,(Value.slice A n c).ownBlock=some g->¬ F g):Xv w F sz A n c cs:=by
 obtain ⟨A2,c2,e2,_,l⟩:=Ln.oo h;injection e2 with e3 e4 e5
 subst e3 e5;refine ⟨l,fun hn ad e2=>?_⟩;subst e2;exact hF ad.block rfl
section
variable {W w w':World} {F:Nat->Prop} {tb pb db:Nat} {t:TS} {O:List Int} {nd0:Int->Option ND} {es:List TT.E} {L:List Int}
def LRg (W:World) (F:Nat->Prop) (w:World) (tb pb db:Nat) (t:TS) (ans:List TT.E) (e:Ending) (w':World):Prop :=
 ∃ F' A n c,e = .returned (.tuple #[.slice A n c,.int .i64 0])/\Ql W F' w' tb pb db t/\Qb w F w' F'/\ans.length=n/\Xv w' F' 2 A n c (Qg ans)/\Yp w.heap.size A
theorem Ju (w:World) (lo hi:ByteArray) (most:Int) (hm2:most<=9223372036854775807) (hT:Ql W F w tb pb db t) (h:TT.Tr O nd0 t es L) (hL:L.length<=5000) (hht:t.ht<=100) :
 Calls Tryz.prog 13 #[.pointer (some ⟨tb,0,none⟩),.string lo,.string hi,.int .i64 most] w (LRg W F w tb pb db t ((es.filter (fun e=>Qh e.1 lo.toList hi.toList)).take most.toNat)):=by
 refine (qg4 w lo hi most hm2 hT h hL hht).mono ?_;rintro e w' ⟨F',h1,h2,A,n,c,rfl,h3,h4⟩;obtain ⟨A2,c2,e2,_,l⟩:=Ln.oo h3;injection e2 with e3 e4 e5
 subst e3 e4 e5;exact ⟨F',_,_,_,rfl,h1,h2,rfl,PR h3 h4,Yp.oo h3⟩
def LPg (W:World) (F:Nat->Prop) (w:World) (tb pb db:Nat) (t:TS) (L:List Int) (e:Ending) (w':World):Prop :=
 ∃ F' A n c,∃ ms:List Int,e = .returned (.tuple #[.slice A n c,.int .i64 0])/\Ql W F' w' tb pb db t/\Qb w F w' F'/\ms.length=n/\ms.Perm L/\ms.Pairwise (·<=·)/\Xv w' F' 1 A n c (Qc ms)/\Yp w.heap.size A
theorem CY (w:World) (hT:Ql W F w tb pb db t) (h:TT.Tr O nd0 t es L) (hL:L.length<=5000) (hht:t.ht<=100) :
 Calls Tryz.prog 17 #[.pointer (some ⟨tb,0,none⟩)] w (LPg W F w tb pb db t L):=by
 obtain ⟨vs,hw⟩:=h.whole (fun _=>true);refine (qg5 w hT h.lost hw.walk (Z:=fun p=>p∈L) ⟨fun p hp=>by have:=h.acc.top hp;omega,fun p n hp hn k hk=>h.closed p n hp hn k hk,wa9 hw.few hL⟩ (fun u hu=>h.start_in u hu) hht).mono ?_;rintro e w' ⟨F',er,h1,h2,(⟨h3,_⟩ | ⟨_,rfl,A,n,c,ms,rfl,hp,hr,ho,hF⟩)⟩
 ·exact absurd h3 (by decide)
 ·rw [Xo h.lost] at h1
  rw [hw.pages (fun _=>rfl)] at hp;have l:=PR ho hF;exact ⟨F',A,n,c,ms,rfl,h1,h2,l.ln.intN,hp,hr,l,Yp.oo ho⟩
def LCk (W:World) (F:Nat->Prop) (w:World) (tb pb db:Nat) (t:TS) (a:Int×Int) (e:Ending) (w':World):Prop :=
 ∃ F',Ql W F' w' tb pb db t/\Qb w F w' F'/\e = .returned (.tuple #[.int .i64 a.1,.int .i64 a.2])
theorem CV (w:World) (u:TS) (hT:Ql W F w tb pb db u) (h:TT.Tr O nd0 t es L) (hL:L.length<=5000) (hht:t.ht<=100) (hr:u.rt=t.rt) (hh:u.ht=t.ht) (hl:u.lost=0) (hz:u.z=t.z) (hn:u.nd=t.nd)
 (hh0:0<=u.sp.hi) (hh1:u.sp.hi<=4294967296) (hfr:u.sp.fr.length<=100000) (hpe:u.sp.pe.length<=100000) :
 ∃ vs,SC.Whole (fun _=>true) t es L vs/\Calls Tryz.prog 16 #[.pointer (some ⟨tb,0,none⟩)] w (LCk W F w tb pb db u (SC.checkS u vs)):=by
 obtain ⟨vs,hw⟩:=h.whole (fun _=>true);refine ⟨vs,hw,?_⟩;have hs:SC.start0 u=SC.start0 t:=by unfold SC.start0;rw [hr,hh]
 refine (qg6 (e0:=0) w hT hl (by rw [hn,hs];exact hw.walk) (Z:=fun p=>p∈L) ⟨fun p hp=>by rw [hz];have:=h.acc.top hp;omega,fun p n hp hn' k hk=>h.closed p n hp (by rw [<- hn];exact hn') k hk,wa9 hw.few hL⟩ (fun v hv=>h.start_in v (by rw [<- hs];exact hv)) (by rw [hh];exact hht) (fun _ x hx=>by rw [hh];exact hw.sound x hx) hh0 hh1 hfr hpe).mono ?_;rintro e w' ⟨F',er,h1,h2,h3,rfl⟩;rw [h3 rfl,Xo hl] at h1;exact ⟨F',h1,h2,rfl⟩
end
theorem Xg (c:UInt8):ByteArray.toList ⟨#[c]⟩=[c]:=by rw [Yb]
theorem ZP:ByteArray.toList ⟨#[]⟩=[]:=by rw [Yb]
theorem qa4 {t:TS} {nd:Int->Option ND} {es:List TT.E} {L:List Int} {key val:List UInt8} (h:TT.Tr [] nd t es L) (hb:TS.badE key val=false) (h0:(t.put key val).1=0):∃ L',TT.Tr [] nd (t.put key val).2 (TT.putE key val es) L':=by
 rcases h.put1 hb with ⟨t',e,_⟩ | ⟨t',L',e,tr,_⟩
 ·rw [e] at h0
  exact absurd h0 (show ¬ (81:Int)=0 by decide)
 ·rw [e]
  exact ⟨L',tr⟩
def vn1:ND:=⟨true,[[97]],[[49]],[]⟩
def vn2:ND:=⟨true,[[97],[98]],[[49],[50]],[]⟩
def vn3:ND:=⟨true,[[97],[98],[99]],[[49],[50],[51]],[]⟩
def vt1 (nd:Int->Option ND):TS:=⟨2,1,1,⟨3,[],[]⟩,1,TS.setB (fun _=>false) 2 true,0,TS.setN nd 2 vn1,16⟩
def vt2 (nd:Int->Option ND):TS:=⟨2,1,2,⟨3,[],[]⟩,1,TS.setB (fun _=>false) 2 true,0,TS.setN (TS.setN nd 2 vn1) 2 vn2,16⟩
def vt3 (nd:Int->Option ND):TS:=⟨2,1,3,⟨3,[],[]⟩,1,TS.setB (fun _=>false) 2 true,0,TS.setN (TS.setN (TS.setN nd 2 vn1) 2 vn2) 2 vn3,16⟩
theorem vp1 (nd:Int->Option ND):(TS.new nd 16).put [97] [49]=(0,vt1 nd):=by rfl
theorem vp2 (nd:Int->Option ND):(vt1 nd).put [98] [50]=(0,vt2 nd):=by kernel_rfl
theorem vp3 (nd:Int->Option ND):(vt2 nd).put [99] [51]=(0,vt3 nd):=by kernel_rfl
def ve1:List TT.E:=[([97],[49])]
def ve2:List TT.E:=[([97],[49]),([98],[50])]
def ve3:List TT.E:=[([97],[49]),([98],[50]),([99],[51])]
theorem vtr1 (nd:Int->Option ND):∃ L,TT.Tr [] nd (vt1 nd) ve1 L:=by
 have h:=qa4 (key:=[97]) (val:=[49]) (TS.new_tr nd 16 (by decide) (by decide)) (by decide) (by rw [vp1]);rw [vp1] at h;exact h
theorem vtr2 (nd:Int->Option ND):∃ L,TT.Tr [] nd (vt2 nd) ve2 L:=by
 obtain ⟨L,h⟩:=vtr1 nd;have h:=qa4 (key:=[98]) (val:=[50]) h (by decide) (by rw [vp2]);rw [vp2] at h;exact h
theorem qn6 (nd:Int->Option ND):TT.Tr [] nd (vt3 nd) ve3 [2]:=by
 obtain ⟨L,h⟩:=vtr2 nd;obtain ⟨L',h'⟩:=qa4 (key:=[99]) (val:=[51]) h (by decide) (by rw [vp3]);rw [vp3] at h';have h':TT.Tr [] nd (vt3 nd) ve3 L':=h';have hh:(vt3 nd).ht=1:=by rfl
 have hr:(vt3 nd).rt=2:=by rfl
 rcases h'.root with ⟨e,_⟩ | ⟨k,n,qs,e,e2,_,_,_,v⟩
 ·rw [hh] at e
  cases e
 ·rw [hh] at e
  obtain rfl:k=0:=by omega
  obtain ⟨_,rfl⟩:=v;rw [hr] at e2;subst e2;exact h'
theorem AV {w:World} {A:Option Addr} {n c:Nat} {es:List TT.E} {x y:List UInt8} (h:Ln w 2 A n c (Qg ((x,y)::es))):∃ b off,A=some ⟨b,off,none⟩/\w.cell? ⟨b,off,none⟩=some (.string (tb x)):=by
 obtain ⟨b,off,rfl,_⟩:=h.spot (by simp [Qg]);exact ⟨b,off,rfl,h.cell (j:=0) rfl⟩
theorem qt2 {w:World} {A:Option Addr} {n c:Nat} {es:List TT.E} {x y x' y':List UInt8} (h:Ln w 2 A n c (Qg ((x,y)::(x',y')::es))):∃ b off,A=some ⟨b,off,none⟩/\w.cell? ⟨b,off+3,none⟩=some (.string (tb y')):=by
 obtain ⟨b,off,rfl,_⟩:=h.spot (by simp [Qg]);exact ⟨b,off,rfl,h.cell (j:=3) rfl⟩
theorem qE6 {w:World} {A:Option Addr} {n c:Nat} {z:Int} {l:List Int} (h:Ln w 1 A n c (Qc (z::l))):∃ b off,A=some ⟨b,off,none⟩/\w.cell? ⟨b,off,none⟩=some (.int .i64 z):=by
 obtain ⟨b,off,rfl,_⟩:=h.spot (by simp [Qc]);exact ⟨b,off,rfl,h.cell (j:=0) rfl⟩
theorem qn7 (a b c d e:Value) (w:World):(Instr.field 53 (.agg #[a,b,c,d,e]) 1).run Tryz.prog w = .ok b w:=by
 simp [Instr.field,run_underlying Tryz.underlying53,asAgg,go_sem]
theorem TK (nd:Int->Option ND):(vt3 nd).ht=1:=by rfl
section
theorem Zv (w:World):Calls Tryz.prog 11 #[] w fun e w'=>e = .returned (.bool true)/\Below w.heap.size w w':=by
 have hN:=CJ (W:=w) w 16 3 (by decide) (by decide) (by decide) (by decide) (Below.refl _ _);rw [show (((16:Nat):Int))=16 from rfl,show (((3:Nat):Int))=3 from rfl] at hN;have HN:=iQ hN;clear hN;go_enter Tryz.func11,Tryz.ntmps11;go_wp2_with fail;refine HN.out.mono ?_;rintro e w1 ⟨tb,mb,pb,db,A,k,c,B,m,d,G,F,f,nd,rfl,ht,b1,hF⟩;have H1:=iQ ht.tree;obtain ⟨L1,tr1⟩:=vtr1 nd;obtain ⟨L2,tr2⟩:=vtr2 nd;have T0:=iQ (TS.new_tr nd 16 (by decide) (by decide));have T1:=iQ tr1;have T2:=iQ tr2;clear HN ht b1 hF tr1 tr2;have CP:=Gh w1 ⟨#[97]⟩ ⟨#[49]⟩ (fun _ hb=>T0.out.chgPut (by decide) hb) H1.out;rw [Xg,Xg,vp1] at CP;have HCP:=iQ CP;clear CP;go_wp2_with fail;refine HCP.out.mono ?_;rintro e w2 ⟨rfl,F2,h2,m2⟩;have H2:=iQ h2;clear HCP h2 m2 H1;have CP:=Gh w2 ⟨#[98]⟩ ⟨#[50]⟩ (fun _ hb=>T1.out.chgPut (by decide) hb) H2.out;rw [Xg,Xg,vp2] at CP;have HCP:=iQ CP;clear CP;go_wp2_with fail;refine HCP.out.mono ?_;rintro e w3 ⟨rfl,F3,h3,m3⟩;have H3:=iQ h3;clear HCP h3 m3 H2;have CP:=Gh w3 ⟨#[99]⟩ ⟨#[51]⟩ (fun _ hb=>T2.out.chgPut (by decide) hb) H3.out;rw [Xg,Xg,vp3] at CP;have HCP:=iQ CP;clear CP;go_wp2_with fail;refine HCP.out.mono ?_;rintro e w4 ⟨rfl,F4,h4,m4⟩;have H4:=iQ h4;clear HCP h4 m4 H3;have CR:=Ju (W:=w) w4 ⟨#[98]⟩ ⟨#[]⟩ 9 (by decide) H4.out (qn6 nd) (by decide) (by rw [TK];decide);rw [Xg,ZP,show (List.take (Int.toNat 9) (List.filter (fun e=>Qh e.1 [98] []) ve3):List TT.E)=[([98],[50]),([99],[51])] from rfl] at CR;have HCR:=iQ CR;clear CR;go_wp2_with fail;refine HCR.out.mono ?_;rintro e w5 ⟨F5,A1,n1,c1,rfl,h5,m5,hn,l1,_⟩;obtain rfl:2=n1:=hn;have H5:=iQ h5;have X11:=iQ l1;clear HCR h5 m5 l1 H4;have CR:=Ju (W:=w) w5 ⟨#[]⟩ ⟨#[99]⟩ 9 (by decide) H5.out (qn6 nd) (by decide) (by rw [TK];decide);rw [ZP,Xg,show (List.take (Int.toNat 9) (List.filter (fun e=>Qh e.1 [] [99]) ve3):List TT.E)=[([97],[49]),([98],[50])] from rfl] at CR;have HCR:=iQ CR;clear CR;go_wp2_with fail;refine HCR.out.mono ?_;rintro e w6 ⟨F6,A2,n2,c2,rfl,h6,m6,hn,l2,_⟩;obtain rfl:2=n2:=hn;have H6:=iQ h6;have X22:=iQ l2;have X21:=iQ (X11.out.mo (by omega) m6);clear HCR h6 m6 l2 H5 X11;have CR:=Ju (W:=w) w6 ⟨#[]⟩ ⟨#[]⟩ 1 (by decide) H6.out (qn6 nd) (by decide) (by rw [TK];decide);rw [ZP,show (List.take (Int.toNat 1) (List.filter (fun e=>Qh e.1 [] []) ve3):List TT.E)=[([97],[49])] from rfl] at CR;have HCR:=iQ CR;clear CR;go_wp2_with fail;refine HCR.out.mono ?_;rintro e w7 ⟨F7,A3,n3,c3,rfl,h7,m7,hn,l3,_⟩;obtain rfl:1=n3:=hn;have H7:=iQ h7;have X33:=iQ l3;have X31:=iQ (X21.out.mo (by omega) m7);have X32:=iQ (X22.out.mo (by omega) m7);clear HCR h7 m7 l3 H6 X21 X22;have HPG:=iQ (CY (W:=w) w7 H7.out (qn6 nd) (by decide) (by rw [TK];decide));go_wp2_with fail;refine HPG.out.mono ?_;rintro e w8 ⟨F8,A4,n4,c4,ms,rfl,h8,m8,hn,hp,_,l4,_⟩;obtain rfl:ms=[2]:=List.perm_singleton.1 hp;obtain rfl:1=n4:=hn;have H8:=iQ h8;have X44:=iQ l4;have X41:=iQ (X31.out.mo (by omega) m8);have X42:=iQ (X32.out.mo (by omega) m8);have X43:=iQ (X33.out.mo (by omega) m8);clear HPG h8 m8 l4 hp X31 X32 X33 H7;obtain ⟨vs,hw,CK⟩:=CV (W:=w) w8 (vt3 nd) H8.out (qn6 nd) (by decide) (by rw [TK];decide) rfl rfl (qn6 nd).lost rfl rfl (show (0:Int)<=3 by decide) (show (3:Int)<=4294967296 by decide) (show (0:Nat)<=100000 by decide) (show (0:Nat)<=100000 by decide);rw [(qn6 nd).checked0 hw] at CK;have HCK:=iQ CK;clear CK hw;go_wp2_with fail;refine HCK.out.mono ?_;rintro e w9 ⟨F9,h9,m9,rfl⟩;have H9:=iQ h9;have Y1:=iQ (X41.out.mo (by omega) m9);have Y2:=iQ (X42.out.mo (by omega) m9);have Y3:=iQ (X43.out.mo (by omega) m9);have Y4:=iQ (X44.out.mo (by omega) m9);clear HCK h9 m9 X41 X42 X43 X44 H8;obtain ⟨b1,o1,rfl,d1⟩:=AV Y1.out.ln;obtain ⟨b2,o2,rfl,d2⟩:=qt2 Y2.out.ln;obtain ⟨b3,o3,rfl,d3⟩:=AV Y3.out.ln;obtain ⟨b4,o4,rfl,d4⟩:=qE6 Y4.out.ln;rw [show Go.Proofs.YtfiflinbicbedaaGreat.tb [98]=⟨#[98]⟩ from rfl] at d1;rw [show Go.Proofs.YtfiflinbicbedaaGreat.tb [50]=⟨#[50]⟩ from rfl] at d2;rw [show Go.Proofs.YtfiflinbicbedaaGreat.tb [97]=⟨#[97]⟩ from rfl] at d3;have BD:=iQ ((Below.refl w9.heap.size w9).drew);have HD:Hid (∀ wx,Below w9.heap.size w9 wx->(wx.cell? ⟨b1,o1,none⟩=some (.string ⟨#[98]⟩)/\wx.cell? ⟨b2,o2+3,none⟩=some (.string ⟨#[50]⟩)/\wx.cell? ⟨b3,o3,none⟩=some (.string ⟨#[97]⟩)/\wx.cell? ⟨b4,o4,none⟩=some (.int .i64 2))):=iQ (fun wx b =>
  ⟨(b.cell (World.block_lt_of_cell? _ _ d1)).trans d1,(b.cell (World.block_lt_of_cell? _ _ d2)).trans d2,(b.cell (World.block_lt_of_cell? _ _ d3)).trans d3,(b.cell (World.block_lt_of_cell? _ _ d4)).trans d4⟩)
 clear Y1 Y2 Y3 Y4 d1 d2 d3 d4;have K0:=HD.out _ BD.out;have hcount:=qn7;go_upto_region 14 with fail
 go_region_held3 (fun w'=>w'.cell? ⟨b1,o1,none⟩=some (.string ⟨#[98]⟩)/\w'.cell? ⟨b2,o2+3,none⟩=some (.string ⟨#[50]⟩)/\w'.cell? ⟨b3,o3,none⟩=some (.string ⟨#[97]⟩)/\w'.cell? ⟨b4,o4,none⟩=some (.int .i64 2))
  (first | exact K0 | exact K6)
  (first
    | (go_at_call 20;refine (TC _ (H9.out.kept BD.out)).mono ?_;rintro e6 w10 ⟨rfl,b10⟩;have B10:=iQ (Qe b10 BD.out);have K6:=HD.out _ B10.out;unfold atV;rw [show (vt3 nd).rt=2 from rfl];clear b10)
    | fail)
 all_goals (
  clear K0 K6 hcount;go_wp2_with fail;go_ret;exact ⟨rfl,(H9.out.kept B10.out).below⟩)
end
end
end Go.Proofs.YtfiflinbicbedaaGreat
