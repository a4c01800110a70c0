/-
  A part of the proof. Conditions: none.
-/
import Derived.Test.YtfiflinbicbedaaGreatZR18

set_option maxRecDepth 20000
set_option maxHeartbeats 12800000
namespace Go.Proofs.YtfiflinbicbedaaGreat
section
open Go.RowKit Go.Maps
def Zt (lo hi:ByteArray) (x:SC.Vis) (k:Nat):List TT.E:=((SC.entsV x).take k).filter (fun e=>Qh e.1 lo.toList hi.toList)
def RgI (w0:World) (F0:Nat->Prop) (B:Nat) (R:Nat->Prop) (q ab:Nat) (lo hi:ByteArray) (most:Int) (g6:Nat) (pre:List (VV×Int)) (x:VV) (C I:Nat->Prop) (w:World) (k:Nat) (wk:World):Prop :=
 ∃ v C',RgA w0 F0 q ab lo hi most v (Yd lo hi pre++Zt lo hi x.vis k) C' I wk/\Jc B R C' I wk/\Qb w C wk C'/\C' g6/\VBx wk g6 x/\x.x.ok wk (both C' I)/\((Yd lo hi pre++Zt lo hi x.vis k).length:Int)<most
section
variable {B q ab g6 xid k:Nat} {R C I F0:Nat->Prop} {w0 w wk w':World} {lo hi:ByteArray} {most:Int} {pre:List (VV×Int)} {x:VV} {vs:List SC.Vis} {Jx:Code->Jo (VV×Int)} {a:Act}
theorem KT (x:SC.Vis):Zt lo hi x 0=[]:=by unfold Zt;simp
theorem MH (y:VV×Int):Yd lo hi (pre++[y])=Yd lo hi pre++(SC.entsV y.1.vis).filter (fun e=>Qh e.1 lo.toList hi.toList):=by
 unfold Yd Ji;simp
theorem qC2 (h:RgJ w0 F0 q ab lo hi most pre C I w) (hs:Jc B R C I w) (hg:C g6) (hx:VBx w g6 x) (ho:x.x.ok w (both C I)):RgI w0 F0 B R q ab lo hi most g6 pre x C I w 0 w:=by
 obtain ⟨_,h2,v,h⟩:=h;refine ⟨v,C,?_,hs,Qb.ob (Below.refl _ _),hg,hx,ho,?_⟩
 ·rw [KT,wc5]
  exact h
 ·rw [KT,wc5]
  exact h2
theorem qM7 (h:RgI w0 F0 B R q ab lo hi most g6 pre x C I w k wk) (hp:∀ y∈pre,y.2=0) (hk:(SC.entsV x.vis).length<=k):Jl B R (RgJ w0 F0 q ab lo hi most) Jx (pre++[(x,0)]) C I w .normal a wk:=by
 obtain ⟨v,C',h1,h2,h3,_,_,_,h7⟩:=h;have e:Yd lo hi pre++Zt lo hi x.vis k=Yd lo hi (pre++[(x,0)]):=by
  rw [MH];unfold Zt;rw [wa5 hk]
 rw [e] at h1 h7;refine ⟨C',⟨fun y hy=>?_,h7,v,h1⟩,h2,h3⟩;rcases wb0.1 hy with hy | hy
 ·exact hp y hy
 ·rw [wa4.1 hy]
theorem qM4 {e:TT.E} (h:RgI w0 F0 B R q ab lo hi most g6 pre x C I w k wk) (he:(SC.entsV x.vis)[k]?=some e) (hn:Qh e.1 lo.toList hi.toList=false) (hb:Below wk.heap.size wk w'):RgI w0 F0 B R q ab lo hi most g6 pre x C I w (k+1) w':=by
 obtain ⟨v,C',h1,h2,h3,h4,h5,h6,h7⟩:=h;have e1:Zt lo hi x.vis (k+1)=Zt lo hi x.vis k:=by
  unfold Zt;rw [wc2,he,wd0,we9];simp [hn]
 unfold RgI;rw [e1];exact ⟨v,C',h1.kept hb (fun _ h=>h) (fun _ h=>Or.inl h),h2.ob hb,h3.trans (Qb.ob hb),h4,h5.kept hb,h6.kept hb,h7⟩
theorem qM5 {C':Nat->Prop} {v v':Value} {W8 w9:World} {e:TT.E} {n:Nat} {acc:List TT.E} (hacc:Yd lo hi pre++Zt lo hi x.vis k=acc) (h1:RgA w0 F0 q ab lo hi most v acc C' I wk) (h2:Jc B R C' I wk) (h3:Qb w C wk C') (h4:C' g6) (h5:VBx wk g6 x) (h6:x.x.ok wk (both C' I))
 (he:(SC.entsV x.vis)[k]?=some e) (hw:Qh e.1 lo.toList hi.toList=true) (hB:B<=wk.heap.size) (hb:Below wk.heap.size wk W8) (hn:acc.length=n)
 (ho:w9.ownsRow w0.heap.size 70 2 v' (n+1) (Qg acc++[.string (tb e.1),.string (tb e.2)])) (hg:W8.grownBy w9 v.ownBlock) (hd:v'.ownBlock=v.ownBlock\/v'.ownBlock=some W8.heap.size) :
 (∃ C2,RgA w0 F0 q ab lo hi most v' (Yd lo hi pre++Zt lo hi x.vis (k+1)) C2 I (w9.setCell ⟨ab,0,none⟩ v')/\Jc B R C2 I (w9.setCell ⟨ab,0,none⟩ v')/\Qb w C (w9.setCell ⟨ab,0,none⟩ v') C2/\C2 g6/\VBx (w9.setCell ⟨ab,0,none⟩ v') g6 x/\x.x.ok (w9.setCell ⟨ab,0,none⟩ v') (both C2 I)/\(Yd lo hi pre++Zt lo hi x.vis (k+1)).length=n+1) /\
 w9.cell? ⟨ab,0,none⟩=some v/\w9.frozen? ⟨ab,0,none⟩=false:=by
 subst hn;obtain ⟨r1,r2,r3,r4,r5⟩:=za0 (e:=e) h1 h2 hB hb ho hg hd;have e1:Yd lo hi pre++Zt lo hi x.vis (k+1)=acc++[e]:=by
  rw [<- hacc,wb9];congr 1;unfold Zt;rw [wc2,he,wd0,we9];simp [hw]
 have hne:g6≠ab:=fun e2=>by
  subst e2;have h7:=h1.b5;unfold YG at h7;unfold VBx Ze at h5;rw [h5] at h7;injection h7 with h7
  injection h7 with _ h7
  revert h7;decide
 have h5':VBx (w9.setCell ⟨ab,0,none⟩ v') g6 x:=(Below.heap_setCell _ _ _ _ hne).trans ((hg.block _ (wa3 (Ze.lt h5) hb.size) (fun e2=>Vk h1.row h5 (by decide) e2.symm)).trans ((hb.block _ (Ze.lt h5)).trans h5));rw [e1];exact ⟨⟨_,r1,r2,h3.trans r3,Or.inl h4,h5',h6.mo (Va r3),by simp⟩,r4,r5⟩
theorem qM6 {C':Nat->Prop} {v:Value} {rest:List SC.Vis} (h1:RgA w0 F0 q ab lo hi most v (Yd lo hi pre++Zt lo hi x.vis k) C' I wk) (h2:Jc B R C' I wk) (h3:Qb w C wk C') (hp:∀ y∈pre,y.2=0) (hvs:vs=(pre++[(x,(0:Int))]).map (fun y:VV×Int=>y.1.vis)++rest)
 (hm:((Yd lo hi pre++Zt lo hi x.vis k).length:Int)=most):Jl B R (RgJ w0 F0 q ab lo hi most) (RgX w0 F0 q ab lo hi most vs xid) (pre++[(x,0)]) C I w (.exit xid) a wk:=by
 have e:Yd lo hi pre++Zt lo hi x.vis k=(Ji lo hi vs).take most.toNat:=by
  have e2:Ji lo hi vs=(Yd lo hi pre++Zt lo hi x.vis k)++(((SC.entsV x.vis).drop k).filter (fun e=>Qh e.1 lo.toList hi.toList)++Ji lo hi rest):=by
   have e3:(SC.entsV x.vis).filter (fun e=>Qh e.1 lo.toList hi.toList)=Zt lo hi x.vis k++((SC.entsV x.vis).drop k).filter (fun e=>Qh e.1 lo.toList hi.toList):=by
    unfold Zt;rw [<- we9,wb7]
   have e4:Ji lo hi vs=Yd lo hi (pre++[(x,0)])++Ji lo hi rest:=by
    rw [hvs];unfold Yd Ji;rw [wf9,we9]
   rw [e4,MH,e3];simp [List.append_assoc]
  have hmn:most.toNat=(Yd lo hi pre++Zt lo hi x.vis k).length:=by omega
  rw [e2,hmn,List.take_left]
 rw [e] at h1;refine ⟨C',⟨fun y hy=>?_,rfl,v,h1⟩,h2,h3⟩;rcases wb0.1 hy with hy | hy
 ·exact hp y hy
 ·rw [wa4.1 hy]
end
end
section
open Go.RowKit Go.Maps
attribute [local go_sem] Oper.semAt_some
attribute [local go_sem,local simp] Jp QU
def rgW (w:World) (lo hi:ByteArray) (most:Int):World:=((((w.alloc (.cells #[.string lo] 9)).alloc (.cells #[.string hi] 9)).alloc (.cells #[.int .i64 most] 3)).alloc (.cells #[.slice none 0 0] 29)).alloc (.cells #[.int .i64 0] 30)
theorem RX (w:World) (lo hi:ByteArray) (most:Int):Below w.heap.size w (rgW w lo hi most)/\SBx (rgW w lo hi most) w.heap.size lo/\SBx (rgW w lo hi most) (w.heap.size+1) hi/\IBx (rgW w lo hi most) (w.heap.size+2) most/\YG (rgW w lo hi most) (w.heap.size+3) (.slice none 0 0)/\Ku (rgW w lo hi most) (w.heap.size+4) 0/\(rgW w lo hi most).heap.size=w.heap.size+5:=by
 have b0:=Qa w (.cells #[.string lo] 9);have g0:=heap_alloc_new w (.cells #[.string lo] 9);have s0:(w.alloc (.cells #[.string lo] 9)).heap.size=w.heap.size+1:=by simp
 unfold rgW;generalize w.alloc (.cells #[.string lo] 9)=w1 at *;have b1:=Qa w1 (.cells #[.string hi] 9);have g1:=heap_alloc_new w1 (.cells #[.string hi] 9);have s1:(w1.alloc (.cells #[.string hi] 9)).heap.size=w1.heap.size+1:=by simp
 generalize w1.alloc (.cells #[.string hi] 9)=w2 at *;have b2:=Qa w2 (.cells #[.int .i64 most] 3);have g2:=heap_alloc_new w2 (.cells #[.int .i64 most] 3);have s2:(w2.alloc (.cells #[.int .i64 most] 3)).heap.size=w2.heap.size+1:=by simp
 generalize w2.alloc (.cells #[.int .i64 most] 3)=w3 at *;have b3:=Qa w3 (.cells #[.slice none 0 0] 29);have g3:=heap_alloc_new w3 (.cells #[.slice none 0 0] 29);have s3:(w3.alloc (.cells #[.slice none 0 0] 29)).heap.size=w3.heap.size+1:=by simp
 generalize w3.alloc (.cells #[.slice none 0 0] 29)=w4 at *;have b4:=Qa w4 (.cells #[.int .i64 0] 30);have g4:=heap_alloc_new w4 (.cells #[.int .i64 0] 30);have s4:(w4.alloc (.cells #[.int .i64 0] 30)).heap.size=w4.heap.size+1:=by simp
 generalize w4.alloc (.cells #[.int .i64 0] 30)=w5 at *;have c3:=Qe b4 b3;have c2:=Qe c3 b2;have c1:=Qe c2 b1;have e1:w1.heap.size=w.heap.size+1:=s0;have e2:w2.heap.size=w.heap.size+2:=by omega
 have e3:w3.heap.size=w.heap.size+3:=by omega
 have e4:w4.heap.size=w.heap.size+4:=by omega
 refine ⟨Qe c1 b0,(c1.block _ (by omega)).trans g0,?_,?_,?_,?_,by omega⟩
 ·rw [<- e1];exact (c2.block _ (by omega)).trans g1
 ·rw [<- e2];exact (c3.block _ (by omega)).trans g2
 ·rw [<- e3];exact (b4.block _ (by omega)).trans g3
 ·rw [<- e4];exact g4
theorem ql7:∀ (l:List SC.Vis),(∀ y∈l,y.2.vals.length<=y.2.keys.length/\y.2.keys.length<=1000)->(l.flatMap SC.entsV).length<=l.length*1000
 | [],_=>wb3 _
 | y::l,h=>by
   have h1:=ql7 l (fun z hz=>h z (by simp [hz]));have h2:=h y (by simp);have h3:(SC.entsV y).length<=1000:=by
    show (y.2.keys.zip y.2.vals).length<=1000;rw [List.length_zip];omega
   simp only [List.flatMap_cons,List.length_append,List.length_cons];omega
theorem zf8 {lo hi:ByteArray} {vs rest:List SC.Vis} {pre:List (VV×Int)} {x:VV} {k:Nat} (h:∀ y∈vs,y.2.vals.length<=y.2.keys.length/\y.2.keys.length<=1000) (hf:vs.length<=5000) (hvs:vs=(pre++[(x,(0:Int))]).map (fun y:VV×Int=>y.1.vis)++rest) :
 (Yd lo hi pre++Zt lo hi x.vis k).length<=5000000:=by
 have h1:=ql7 vs h;have h2:(Yd lo hi pre).length<=((pre.map (fun y=>y.1.vis)).flatMap SC.entsV).length:=wg3 _ _;have h3:(Zt lo hi x.vis k).length<=(SC.entsV x.vis).length:=by
  have a:(Zt lo hi x.vis k).length<=((SC.entsV x.vis).take k).length:=wg3 _ _;rw [wb8] at a;omega
 have h4:(vs.flatMap SC.entsV).length=((pre.map (fun y=>y.1.vis)).flatMap SC.entsV).length+(SC.entsV x.vis).length+(rest.flatMap SC.entsV).length:=by
  rw [hvs];simp only [List.map_append,List.map_cons,List.map_nil,List.flatMap_append,List.flatMap_cons,List.flatMap_nil,List.length_append,List.length_nil];omega
 rw [wa6];omega
section
variable {W:World} {F:Nat->Prop} {tb pb db:Nat} {t:TS} {Z:Int->Prop} {vs:List SC.Vis}
theorem qq1 (w:World) (lo hi:ByteArray) (most:Int) (hT:Ql W F w tb pb db t) (hl:t.lost=0) (hw:SC.Walk t.nd (FU lo.toList hi.toList) (SC.start0 t) [] vs 0) (hZ:Way t.z t.nd (FU lo.toList hi.toList) Z vs 0) (hst:∀ u∈SC.start0 t,Z u.pg) (hht:t.ht<=100) (hm1:1<=most) (hm2:most<=9223372036854775807) (hah:Yj lo.toList hi.toList=true) (hkv:∀ y∈vs,y.2.vals.length<=y.2.keys.length/\y.2.keys.length<=1000) :
 Calls Tryz.prog 13 #[.pointer (some ⟨tb,0,none⟩),.string lo,.string hi,.int .i64 most] w (MP W F w tb pb db t ((Ji lo hi vs).take most.toNat)):=by
 have HZ:=iQ (And.intro hZ hst);have HWK:=iQ hw;have HL:=iQ hl;have TY:=iQ hT.below.size;have HAH:=iQ hah;have HKV:=iQ hkv;obtain ⟨bB,y0,y1,y2,y3,y4,hsz⟩:=RX w lo hi most;have HT:=iQ hT;have TB:=iQ (HT.out.kept bB);have BB:=iQ bB;have HSZ:=iQ hsz;clear hT hl hw hZ hst hah bB hsz hkv;refine callsIn_wide.1 (callsIn_of_wp_marks (n:=0) Tryz.func13 rfl trivial (wpIn_wide.2 ?_) rfl);simp only [Tryz.ntmps13,List.size_toArray,List.length_cons,List.length_nil,Nat.reduceAdd,Nat.reduceSub,Array.replicate_succ,Array.replicate_zero,List.push_toArray,List.append_toArray,List.nil_append,List.cons_append];go_upto_region 1 with fail
 change Code.wp _ _ _ _ (rgW w lo hi most);simp only [Nat.add_assoc,Nat.reduceAdd];have Y:=iQ (And.intro y0 (And.intro y1 (And.intro y2 (And.intro y3 y4))));clear y0 y1 y2 y3 y4;generalize rgW w lo hi most=wB at *;refine wp_scope_straight ?_;go_wp2_with fail;refine (Uh wB HL.out TB.out).mono ?_;rintro e w3 ⟨rfl,F3,h3,m3⟩;have HNF:Hid (∀ k,w.heap.size<=k->k<wB.heap.size->¬ F3 k):=iQ (fun k h1 h2=>Js m3 h2 (HT.out.new h1));have Y3:Hid (SBx w3 w.heap.size lo/\SBx w3 (w.heap.size+1) hi/\IBx w3 (w.heap.size+2) most/\YG w3 (w.heap.size+3) (.slice none 0 0)/\Ku w3 (w.heap.size+4) 0):=iQ (by
  obtain ⟨y0,y1,y2,y3,y4⟩:=Y.out;have hn:∀ k,w.heap.size<=k->¬ F k:=fun k h=>HT.out.new h;exact ⟨(m3.kept.block _ y0.lt (hn _ (by omega))).trans y0,(m3.kept.block _ y1.lt (hn _ (by omega))).trans y1,(m3.kept.block _ y2.lt (hn _ (by omega))).trans y2,(m3.kept.block _ y3.lt (hn _ (by omega))).trans y3,(m3.kept.block _ y4.lt (hn _ (by omega))).trans y4⟩)
 have T3:=iQ h3;have M3:=iQ ((Qb.ob (F:=F) BB.out).trans m3);have HS3:Hid (w.heap.size+5<=w3.heap.size):=iQ (by rw [<- HSZ.out];exact m3.kept.size);have HNB:Hid (∀ k,w.heap.size<=k->k<w.heap.size+5->¬ F3 k):=iQ (fun k h1 h2=>HNF.out k h1 (by rw [HSZ.out];exact h2));clear h3 m3 Y TB BB HSZ HT HNF;clear wB;have y0:=Y3.out.1.cell;have y1:=Y3.out.2.1.cell;have y2:=Y3.out.2.2.1.cell;have HA:=iQ (fun wx=>Vp lo hi wx);have hlt1:¬ most<1:=by omega
 go_wp2_with fail;refine (HA.out _).mono ?_;rintro e w4 ⟨rfl,b4⟩;rw [HAH.out];have B4:=iQ b4;clear b4 y0 y1 y2 hlt1;go_upto_region 6 with fail
 have T4:=iQ (T3.out.kept B4.out);have M4:=iQ (M3.out.trans (Qb.ob (F:=F3) B4.out));have hY4:SBx w4 w.heap.size lo/\SBx w4 (w.heap.size+1) hi/\IBx w4 (w.heap.size+2) most/\YG w4 (w.heap.size+3) (.slice none 0 0)/\Ku w4 (w.heap.size+4) 0 :=
  ⟨(B4.out.block _ Y3.out.1.lt).trans Y3.out.1,(B4.out.block _ Y3.out.2.1.lt).trans Y3.out.2.1,(B4.out.block _ Y3.out.2.2.1.lt).trans Y3.out.2.2.1,(B4.out.block _ Y3.out.2.2.2.1.lt).trans Y3.out.2.2.2.1,(B4.out.block _ Y3.out.2.2.2.2.lt).trans Y3.out.2.2.2.2⟩
 have b5:=Qa w4 (.cells #[.slice none 0 0] 29);have H5:=iQ (show YG (w4.alloc (.cells #[.slice none 0 0] 29)) w4.heap.size (.slice none 0 0) from heap_alloc_new w4 _);have Y5:=iQ (show SBx (w4.alloc (.cells #[.slice none 0 0] 29)) w.heap.size lo/\SBx (w4.alloc (.cells #[.slice none 0 0] 29)) (w.heap.size+1) hi/\IBx (w4.alloc (.cells #[.slice none 0 0] 29)) (w.heap.size+2) most/\YG (w4.alloc (.cells #[.slice none 0 0] 29)) (w.heap.size+3) (.slice none 0 0)/\Ku (w4.alloc (.cells #[.slice none 0 0] 29)) (w.heap.size+4) 0 from
  ⟨(b5.block _ hY4.1.lt).trans hY4.1,(b5.block _ hY4.2.1.lt).trans hY4.2.1,(b5.block _ hY4.2.2.1.lt).trans hY4.2.2.1,(b5.block _ hY4.2.2.2.1.lt).trans hY4.2.2.2.1,(b5.block _ hY4.2.2.2.2.lt).trans hY4.2.2.2.2⟩)
 have T5:=iQ (T4.out.kept b5);have M5:=iQ (M4.out.trans (Qb.ob (F:=F3) b5));have NAB:Hid (¬ F3 w4.heap.size):=iQ (T4.out.new (wa2 _));have HAB:Hid (w.heap.size+4<w4.heap.size):=iQ hY4.2.2.2.2.lt;clear b5 hY4 Y3 T3 M3 T4 M4 B4 HS3;go_upto_region 8 with fail
 generalize w4.alloc (.cells #[.slice none 0 0] 29)=w5 at *;generalize w4.heap.size=ab at *;go_wp2_with fail;go_step3;go_wp2_with fail;refine (TN (some ⟨tb,0,none⟩) 32 #[.pointer (some ⟨w.heap.size,0,none⟩),.pointer (some ⟨w.heap.size+1,0,none⟩)] w5).mono ?_;rintro e w6 ⟨rfl,hw6⟩;have ba:=Qa w5 (.cells #[.pointer (some ⟨tb,0,none⟩)] 24);have bb:=Qa (w5.alloc (.cells #[.pointer (some ⟨tb,0,none⟩)] 24)) (.cells #[.func (.func 32) #[] #[.pointer (some ⟨w.heap.size,0,none⟩),.pointer (some ⟨w.heap.size+1,0,none⟩)]] 78);have hsa:(w5.alloc (.cells #[.pointer (some ⟨tb,0,none⟩)] 24)).heap.size=w5.heap.size+1:=by simp
 have B6:=iQ (Qe bb ba);have ga:=(bb.block w5.heap.size (by omega)).trans (heap_alloc_new w5 (.cells #[.pointer (some ⟨tb,0,none⟩)] 24));have gc:=heap_alloc_new (w5.alloc (.cells #[.pointer (some ⟨tb,0,none⟩)] 24)) (.cells #[.func (.func 32) #[] #[.pointer (some ⟨w.heap.size,0,none⟩),.pointer (some ⟨w.heap.size+1,0,none⟩)]] 78);have hsb:((w5.alloc (.cells #[.pointer (some ⟨tb,0,none⟩)] 24)).alloc (.cells #[.func (.func 32) #[] #[.pointer (some ⟨w.heap.size,0,none⟩),.pointer (some ⟨w.heap.size+1,0,none⟩)]] 78)).heap.size=w5.heap.size+2:=by simp
 rw [hsa] at gc;rw [hw6] at B6 ga gc hsb;have HG6:Hid (w6.cell? ⟨w5.heap.size,0,none⟩=some (.pointer (some ⟨tb,0,none⟩))/\w6.cell? ⟨w5.heap.size+1,0,none⟩=some (.func (.func 32) #[] #[.pointer (some ⟨w.heap.size,0,none⟩),.pointer (some ⟨w.heap.size+1,0,none⟩)])):=iQ ⟨(cell_of_row _ _ 0 _ _ _ ga).trans rfl,(cell_of_row _ _ 0 _ _ _ gc).trans rfl⟩;have HS6:=iQ hsb;have NR:Hid (¬ F3 w5.heap.size/\¬ F3 (w5.heap.size+1)):=iQ ⟨T5.out.new (wa2 _),T5.out.new (by omega)⟩;have T6:=iQ (T5.out.kept B6.out);have H6:Hid (YG w6 ab (.slice none 0 0)):=iQ ((B6.out.block _ H5.out.lt).trans H5.out);have Y6:Hid (SBx w6 w.heap.size lo/\SBx w6 (w.heap.size+1) hi/\IBx w6 (w.heap.size+2) most/\YG w6 (w.heap.size+3) (.slice none 0 0)/\Ku w6 (w.heap.size+4) 0):=iQ
  ⟨(B6.out.block _ Y5.out.1.lt).trans Y5.out.1,(B6.out.block _ Y5.out.2.1.lt).trans Y5.out.2.1,(B6.out.block _ Y5.out.2.2.1.lt).trans Y5.out.2.2.1,(B6.out.block _ Y5.out.2.2.2.1.lt).trans Y5.out.2.2.2.1,(B6.out.block _ Y5.out.2.2.2.2.lt).trans Y5.out.2.2.2.2⟩
 have M6:=iQ (M5.out.trans (Qb.ob (F:=F3) B6.out));have HAB5:Hid (ab<w5.heap.size):=iQ H5.out.lt;clear hw6 ba bb hsa ga gc hsb T5 Y5 H5 M5;generalize w5.heap.size=gb at *;clear B6;go_wp2_with fail;have hR3:∀ {R:Nat->Prop},R=(fun k=>(w.heap.size<=k/\k<=w.heap.size+2)\/k=gb\/k=gb+1)->R w.heap.size/\R (w.heap.size+1)/\R (w.heap.size+2)/\R gb/\R (gb+1):=fun e=>by
  subst e;exact ⟨Or.inl ⟨wa2 _,by omega⟩,Or.inl ⟨by omega,by omega⟩,Or.inl ⟨by omega,by omega⟩,Or.inr (Or.inl rfl),Or.inr (Or.inr rfl)⟩
 obtain ⟨R,hR⟩:∃ R:Nat->Prop,R=(fun k=>(w.heap.size<=k/\k<=w.heap.size+2)\/k=gb\/k=gb+1):=⟨_,rfl⟩;have HR:=iQ (hR3 hR);have hs0:Jc W.heap.size R (fun k=>k=w.heap.size+3\/k=w.heap.size+4\/k=ab) F3 w6:=by
  have h1:=HAB.out;have h2:=HAB5.out;have h3:=HS6.out;have h4:=TY.out;subst hR;refine ⟨fun k hk=>?_,fun k hk=>?_,T6.out.lt⟩
  ·rcases hk with rfl | rfl | rfl
   ·exact ⟨by omega,by omega,HNB.out _ (by omega) (by omega),by omega⟩
   ·exact ⟨by omega,by omega,HNB.out _ (by omega) (by omega),by omega⟩
   ·exact ⟨by omega,by omega,NAB.out,by omega⟩
  ·rcases hk with hk | rfl | rfl
   ·exact ⟨by omega,HNB.out _ (by omega) (by omega)⟩
   ·exact ⟨by omega,NR.out.1⟩
   ·exact ⟨by omega,NR.out.2⟩
 have zl8:Kt w F (fun k=>k=w.heap.size+3\/k=w.heap.size+4\/k=ab) F3 w6:=⟨M6.out.kept,M6.out.news,fun k hk=>by
  have:=HAB.out;rcases hk with rfl | rfl | rfl<;>omega⟩
 have hj0:RgJ w F w.heap.size ab lo hi most [] (fun k=>k=w.heap.size+3\/k=w.heap.size+4\/k=ab) F3 w6 :=
  ⟨(fun y hy=>(by cases hy)),by show ((0:Nat):Int)<most;omega,.slice none 0 0,Y6.out.1,Y6.out.2.1,Y6.out.2.2.1,Y6.out.2.2.2.1,Y6.out.2.2.2.2,H6.out,HAB.out,World.ownsRow_nil _ _ _ _,⟨Or.inl rfl,Or.inr (Or.inl rfl),Or.inr (Or.inr rfl),fun g e=>(by cases e)⟩,zl8⟩
 have HSW:Hid (w.heap.size<=w6.heap.size):=iQ M6.out.kept.size;clear hR3;refine JG (B:=W.heap.size) (R:=R) (gf:=62) (lb:=#[.pointer (some ⟨gb,0,none⟩),.pointer (some ⟨gb+1,0,none⟩)]) (I0:=F3) rfl (enters_of Tryz.func62 (by kernel_rfl) rfl)
  (TG (R:=R) gb (gb+1) 32 #[.pointer (some ⟨w.heap.size,0,none⟩),.pointer (some ⟨w.heap.size+1,0,none⟩)] T6.out HL.out HWK.out HZ.out.1 HZ.out.2 hht HG6.out.1 HG6.out.2 ⟨HR.out.2.2.2.1,HR.out.2.2.2.2⟩ (fun k hk=>(hs0.r k hk).1) (enters_of Tryz.func32 (by kernel_rfl) rfl) (fun u W' hW'=>?hwant))
  (fun _=>rfl) (wa9 TY.out HSW.out) T6.out.lt (RgJ w F w.heap.size ab lo hi most) (RgX w F w.heap.size ab lo hi most vs 0) (RgJ.stays ⟨HR.out.1,HR.out.2.1,HR.out.2.2.1⟩) (RgX.stays ⟨HR.out.1,HR.out.2.1,HR.out.2.2.1⟩) (fun k=>k=w.heap.size+3\/k=w.heap.size+4\/k=ab) hj0 hs0 ?qE9
  (fun pre x a' C I w'=>∃ g6,a'={ tmps:=#[.pointer (some ⟨tb,0,none⟩),.string lo,.string hi,.int .i64 most,undef,.pointer (some ⟨w.heap.size,0,none⟩),.pointer (some ⟨w.heap.size+1,0,none⟩),.pointer (some ⟨w.heap.size+2,0,none⟩),.pointer (some ⟨w.heap.size+3,0,none⟩),.pointer (some ⟨w.heap.size+4,0,none⟩),.int .i64 0,.pointer (some ⟨ab,0,none⟩),.func (.func 32) #[] #[.pointer (some ⟨w.heap.size,0,none⟩),.pointer (some ⟨w.heap.size+1,0,none⟩)],.pointer (some ⟨g6,0,none⟩),.int .i64 x.2,undef,undef,undef,.pointer (some ⟨tb,0,none⟩),.int .i64 0,.int .i64 0,.bool false,undef,.int .i64 most,.bool (decide (most<1)),.bool (decide (most<1)),.string lo,.string hi,.bool true,.bool false,.bool (decide (most<1)),.func (.func 32) #[] #[.pointer (some ⟨w.heap.size,0,none⟩),.pointer (some ⟨w.heap.size+1,0,none⟩)],.pointer (some ⟨tb,0,none⟩),.func (.func 32) #[] #[.pointer (some ⟨w.heap.size,0,none⟩),.pointer (some ⟨w.heap.size+1,0,none⟩)],.func (.func 62) #[] #[.pointer (some ⟨gb,0,none⟩),.pointer (some ⟨gb+1,0,none⟩)],x.1.val,.int .i64 x.2,undef,undef,undef,undef,undef,undef,undef,undef,undef,undef,undef,undef,undef,undef,undef,undef,undef,undef,undef,undef,undef,undef,undef,undef,undef,undef,undef,undef,undef,undef,undef,undef,undef,undef,undef],defers:=[] }/\RgQ w F w.heap.size ab lo hi most vs g6 pre x C I w') (fun pre x a' C I w1 w2 I' ⟨g6,e,h⟩ hs hm hi=>⟨g6,e,h.stays ⟨HR.out.1,HR.out.2.1,HR.out.2.2.1⟩ hs hm hi⟩) ?XX ?qj4 ?qj3 ?qR6
 case hwant =>
  have h1:W'.cell? ⟨w.heap.size,0,none⟩=some (.string lo):=(World.cell?_of_block (hW' _ HR.out.1)).trans Y6.out.1.cell;have h2:W'.cell? ⟨w.heap.size+1,0,none⟩=some (.string hi):=(World.cell?_of_block (hW' _ HR.out.2.1)).trans Y6.out.2.1.cell;exact qq0 u w.heap.size (w.heap.size+1) lo hi W' h1 h2
 case qE9 =>
  rintro b xs I W1 W2 X ⟨F',er,h1,h2,h3⟩ hm hX;exact ⟨F',er,h1,h2.other hm (fun k hk=>⟨(hX k hk).1,fun e=>(hX k hk).2.2 (h1 k e)⟩),h3⟩
 case XX =>
  rintro l2 pre2 ⟨⟨xp,xh,xl,xu,⟨xA,xn,xc,xB,xm,xd,xC,xk,xe,xs⟩⟩,er⟩ C2 I2 W2 K hj hs hok hK;have hBW:W.heap.size<=W2.heap.size:=by
   obtain ⟨_,_,v,hv⟩:=(show (∀ y∈pre2,y.2=0)/\_/\∃ v,RgA w F w.heap.size ab lo hi most v (Yd lo hi pre2) C2 I2 W2 from hj);exact wa9 TY.out hv.bes.kept.size
  have qv2:=iQ (qM3 (x:=(⟨xp,xh,xl,xu,⟨xA,xn,xc,xB,xm,xd,xC,xk,xe,xs⟩⟩,er)) hj hs hBW hok (Qa W2 (.cells #[.int .i64 xp,.int .i64 xh,.string xl,.string xu,.bool xs.leaf,.slice xA xn xc,.slice xB xm xd,.slice xC xk xe] 77)) (Zj W2 (.int .i64 xp) (.int .i64 xh) (.string xl) (.string xu) (.bool xs.leaf) (.slice xA xn xc) (.slice xB xm xd) (.slice xC xk xe)));have HZ0:=Zj W2 (.int .i64 0) (.int .i64 0) (.string ⟨#[]⟩) (.string ⟨#[]⟩) (.bool false) (.slice none 0 0) (.slice none 0 0) (.slice none 0 0);have HK:=iQ hK;obtain ⟨z0,z1,z2,z3,z4,z5,z6,z7⟩:=HZ0.cells;have zf0:=HZ0.free 0;have zf1:=HZ0.free 1;have zf2:=HZ0.free 2;have zf3:=HZ0.free 3;have zf4:=HZ0.free 4;have zf5:=HZ0.free 5;have zf6:=HZ0.free 6;have zf7:=HZ0.free 7;clear hK HZ0 hj hs hok hBW;simp only [ql2,List.setIfInBounds_toArray,List.set_cons_succ,List.set_cons_zero,VV.val];gi_wp2;exact HK.out _ _ _ ⟨_,rfl,qv2.out.1⟩ qv2.out.2.1 qv2.out.2.2
 case qj4 =>
  rintro l2 pre2 ⟨⟨xp,xh,xl,xu,⟨xA,xn,xc,xB,xm,xd,xC,xk,xe,xs⟩⟩,er⟩ a2 C2 I2 W2 ⟨rec2,hrec⟩ hIl ⟨g6,rfl,hj,hg6,hvb,hok⟩ hs2;obtain ⟨z0,z1,z2,z3,z4,z5,z6,z7⟩:=Ze.cells hvb;obtain ⟨hpre,hok⟩:=hok;unfold VV.val;dsimp only at z0 z1 z2 z3 z4 z5 z6 z7;rcases hok with ⟨her,hxo,rest,hvs⟩ | ⟨_,he0,_,_⟩
  ·dsimp only at her
   subst her;have hnd:=hxo.nd;have HVL:Hid (xs.vals.length=xm/\xs.keys.length=xn):=iQ ⟨hnd.vn,hnd.kn⟩;have HST:=iQ (qC2 (x:=⟨xp,xh,xl,xu,⟨xA,xn,xc,xB,xm,xd,xC,xk,xe,xs⟩⟩) hj hs2 hg6 hvb hxo);have qX3:=iQ (And.intro hpre hvs);have HBW:Hid (W.heap.size<=W2.heap.size):=iQ (by
    obtain ⟨_,_,v,hv⟩:=(show (∀ y∈pre2,y.2=0)/\_/\∃ v,RgA w F w.heap.size ab lo hi most v (Yd lo hi pre2) C2 I2 W2 from hj);exact wa9 TY.out hv.bes.kept.size)
   clear hnd hj hs2 hg6 hvb hxo hpre hvs;gi_wp2;gi_loopw [44] (fun i wk=>∃ k:Nat,k<=xm/\i = .int .i64 k/\Hid (RgI w F W.heap.size R w.heap.size ab lo hi most g6 pre2 ⟨xp,xh,xl,xu,⟨xA,xn,xc,xB,xm,xd,xC,xk,xe,xs⟩⟩ C2 I2 W2 k wk)) (fun i _=>xm - (RowKit.intOf i).toNat)
   case atStart=>exact ⟨0,wb3 _,rfl,HST⟩
   case round =>
    obtain ⟨k,hk,rfl,HI⟩:=hrel;clear z0 z1 z2 z3 z4 z5 z6 z7;by_cases hlt:k<xm
    ·obtain ⟨v,C',h1,h2,h3,h4,h5,h6,h7⟩:=HI.out
     have hkn:k<xn/\xm<=1000:=by
      have h8:=HKV.out;have h9:xs.vals.length<=xs.keys.length/\xs.keys.length<=1000:=h8 ((VV.mk xp xh xl xu ⟨xA,xn,xc,xB,xm,xd,xC,xk,xe,xs⟩).vis) (by rw [qX3.out.2];simp);have:=HVL.out.1;have:=HVL.out.2;omega
     have hx1000:xm<=1000:=hkn.2;obtain ⟨b1,o1,s1,hA1,hc1,f1⟩:=h6.nd.va.sA (k:=k) hlt;obtain ⟨b2,o2,s2,hA2,hc2,f2⟩:=h6.nd.ke.sA (k:=k) hkn.1;obtain ⟨z0,z1,z2,z3,z4,z5,z6,z7⟩:=Ze.cells h5;dsimp only at hA1 hA2 z0 z1 z2 z3 z4 z5 z6 z7;subst hA1;subst hA2;have HIC:=iQ (And.intro h1 (And.intro h2 (And.intro h3 (And.intro h4 (And.intro h5 (And.intro h6 h7))))));have q0:=h1.b0.cell;have q1:=h1.b1.cell;have HCC:=iQ (And.intro hc1 hc2);have HWI:=iQ (VA s2 lo hi wr);clear h1 h2 h3 h4 h5 h6 h7 hc1 hc2;gi_wp2;refine (CallsIn.inRound l2 ((callsIn_wide (n:=0)).2 HWI.out)).mono ?_;rintro e w7 ⟨rfl,b7⟩;have HEN:Hid ((SC.entsV (VV.mk xp xh xl xu ⟨some ⟨b2,o2,none⟩,xn,xc,some ⟨b1,o1,none⟩,xm,xd,xC,xk,xe,xs⟩).vis)[k]?=some (s2.toList,s1.toList)):=iQ (by
      show (xs.keys.zip xs.vals)[k]?=_;rw [List.getElem?_zip_eq_some];exact ⟨HCC.out.2,HCC.out.1⟩)
     obtain ⟨qw,hqw⟩:∃ qw,Qh s2.toList lo.toList hi.toList=qw:=⟨_,rfl⟩;have HQW:=iQ hqw;rw [hqw];clear hqw;cases qw with
     | false =>
       have HSK:=iQ (qM4 HI.out HEN.out HQW.out b7);clear b7 z0 z1 z2 z3 z4 z5 z6 z7 f1 f2 q0 q1;gi_wp2;go_roundw;case rel=>exact ⟨k+1,by omega,by go_num,HSK⟩
       case measure=>simp [RowKit.intOf];omega
     | true =>
       obtain ⟨h1,h2,h3,h4,h5,h6,h7⟩:=HIC.out;obtain ⟨zf9,hacc⟩:∃ zf9,Yd lo hi pre2++Zt lo hi (VV.mk xp xh xl xu ⟨some ⟨b2,o2,none⟩,xn,xc,some ⟨b1,o1,none⟩,xm,xd,xC,xk,xe,xs⟩).vis k=zf9:=⟨_,rfl⟩;rw [hacc] at h1 h7;obtain ⟨N9,GN⟩:∃ N9,zf9.length=N9:=⟨_,rfl⟩;rw [GN] at h7;have HN9:Hid (N9<=5000000):=iQ (by rw [<- GN,<- hacc];exact zf8 HKV.out HZ.out.1.few qX3.out.2);have hrow:=h1.row;rw [GN] at hrow;obtain ⟨xs9,LH⟩:∃ xs9,Qg zf9=xs9:=⟨_,rfl⟩;rw [LH] at hrow;have ba:=Qa w7 (.cells #[.string s2,.string s1] 70);have b8:=Qe ba b7;have VD:=iQ (Zb (w':=(w7.alloc (.cells #[.string s2,.string s1] 70))) hrow (fun g e=>b8.block g (hrow.lt g e).2));obtain ⟨A9,c9,hv9,hc9,_⟩:=Ln.oo hrow;have hB9:W.heap.size<=wr.heap.size:=wa9 HBW.out h3.kept.size;have UR:Hid (∀ (v':Value) (w9:World),w9.ownsRow w.heap.size 70 2 v' (N9+1) (xs9++[.string s2,.string s1])->(w7.alloc (.cells #[.string s2,.string s1] 70)).grownBy w9 v.ownBlock->(v'.ownBlock=v.ownBlock\/v'.ownBlock=some (w7.alloc (.cells #[.string s2,.string s1] 70)).heap.size) ->
        (∃ C3,RgA w F w.heap.size ab lo hi most v' (Yd lo hi pre2++Zt lo hi (VV.mk xp xh xl xu ⟨some ⟨b2,o2,none⟩,xn,xc,some ⟨b1,o1,none⟩,xm,xd,xC,xk,xe,xs⟩).vis (k+1)) C3 I2 (w9.setCell ⟨ab,0,none⟩ v')/\Jc W.heap.size R C3 I2 (w9.setCell ⟨ab,0,none⟩ v')/\Qb W2 C2 (w9.setCell ⟨ab,0,none⟩ v') C3/\C3 g6/\VBx (w9.setCell ⟨ab,0,none⟩ v') g6 (VV.mk xp xh xl xu ⟨some ⟨b2,o2,none⟩,xn,xc,some ⟨b1,o1,none⟩,xm,xd,xC,xk,xe,xs⟩)/\(VV.mk xp xh xl xu ⟨some ⟨b2,o2,none⟩,xn,xc,some ⟨b1,o1,none⟩,xm,xd,xC,xk,xe,xs⟩).x.ok (w9.setCell ⟨ab,0,none⟩ v') (both C3 I2)/\(Yd lo hi pre2++Zt lo hi (VV.mk xp xh xl xu ⟨some ⟨b2,o2,none⟩,xn,xc,some ⟨b1,o1,none⟩,xm,xd,xC,xk,xe,xs⟩).vis (k+1)).length=N9+1) /\
        w9.cell? ⟨ab,0,none⟩=some v/\w9.frozen? ⟨ab,0,none⟩=false):=iQ (fun v' w9 o9 g9 d9=>qM5 (e:=(s2.toList,s1.toList)) hacc h1 h2 h3 h4 h5 h6 HEN.out HQW.out hB9 b8 GN (by rw [LH,Zx,Zx];exact o9) g9 d9)
       have hb5:=(b7.cell (World.block_lt_of_cell? _ _ h1.b5.cell.1)).trans h1.b5.cell.1;have UB:Hid (∀ (j:Nat) (u:Value),[Value.string s2,Value.string s1][j]?=some u->(w7.alloc (.cells #[.string s2,.string s1] 70)).cell? ((⟨w7.heap.size,0,none⟩:Addr).add j)=some u):=iQ (fun j u hu=>(XK w7 s2 s1).2 _ rfl j u (by simpa [Qg,Zx] using hu));have HBW8:Hid (w.heap.size<=(w7.alloc (.cells #[.string s2,.string s1] 70)).heap.size):=iQ (wa9 h1.bes.kept.size b8.size);obtain ⟨i0,hi0,hz0,hz1,hz2⟩:=info_parts XH;subst hv9;clear h1 h2 h3 h4 h5 h6 hrow hacc LH ba b8 hB9 b7 z0 z1 z2 z3 z4 z5 z6 z7 f1 f2 q0 q1 GN;have hN9b:N9<=5000000:=HN9.out;by_cases hmm:((N9:Nat):Int)+1=most
       ·have HMM:=iQ hmm
        have hqm:(((N9:Nat):Int)+1==most)=true:=beq_iff_eq.2 hmm;clear hmm h7;gi_wp2_with (first
         | (gi_at_builtin;refine wpListIn_append_own_at _ rfl (.tmp 60) (.tmp 64) 29 rfl w.heap.size 70 i0 _ 2 32 Tryz.underlying29 hi0 hz0 hz1 hz2 rfl (by decide) _ N9 _ rfl VD.out ⟨w7.heap.size,0,none⟩ 1 1 [.string s2,.string s1] rfl rfl UB.out (by simp [Value.oneCell']) (by unfold maxLen;omega) (by omega) HBW8.out ?_;intro v9 w9 o9 g9 _ d9;obtain ⟨r9,q9,rfl,_,_⟩:=o9.form (by omega);have HP9:=iQ (UR.out _ w9 o9 g9 d9);obtain ⟨⟨C9,hA9,_⟩,zl7,hf9⟩:=HP9.out;have hm9:=hA9.b2.cell;clear o9 g9 d9 hA9)
         | fail)
        obtain ⟨⟨C3,r1,r2,r3,_,_,_,r7⟩,_⟩:=HP9.out;exact qM6 r1 r2 r3 qX3.out.1 qX3.out.2 (by rw [r7];have:=HMM.out;omega)
       ·have HMM:=iQ hmm
        have hqm:(((N9:Nat):Int)+1==most)=false:=beq_eq_false_iff_ne.2 hmm;have H7:=iQ h7;clear hmm h7;gi_wp2_with (first
         | (gi_at_builtin;refine wpListIn_append_own_at _ rfl (.tmp 60) (.tmp 64) 29 rfl w.heap.size 70 i0 _ 2 32 Tryz.underlying29 hi0 hz0 hz1 hz2 rfl (by decide) _ N9 _ rfl VD.out ⟨w7.heap.size,0,none⟩ 1 1 [.string s2,.string s1] rfl rfl UB.out (by simp [Value.oneCell']) (by unfold maxLen;omega) (by omega) HBW8.out ?_;intro v9 w9 o9 g9 _ d9;obtain ⟨r9,q9,rfl,_,_⟩:=o9.form (by omega);have HP9:=iQ (UR.out _ w9 o9 g9 d9);obtain ⟨⟨C9,hA9,_⟩,zl7,hf9⟩:=HP9.out;have hm9:=hA9.b2.cell;clear o9 g9 d9 hA9)
         | fail)
        go_roundw;case rel =>
         refine ⟨k+1,by omega,by go_num,iQ ?_⟩;obtain ⟨⟨C3,r1,r2,r3,r4,r5,r6,r7⟩,_⟩:=HP9.out;exact ⟨_,C3,r1,r2,r3,r4,r5,r6,by rw [r7];have:=HMM.out;have:=H7.out;omega⟩
        case measure=>simp [RowKit.intOf];omega
    ·have HE:Hid (∀ a,Jl W.heap.size R (RgJ w F w.heap.size ab lo hi most) (RgX w F w.heap.size ab lo hi most vs 0) (pre2++[(⟨xp,xh,xl,xu,⟨xA,xn,xc,xB,xm,xd,xC,xk,xe,xs⟩⟩,0)]) C2 I2 W2 .normal a wr):=iQ (fun a=>qM7 HI.out qX3.out.1 (by
      show (xs.keys.zip xs.vals).length<=k;rw [List.length_zip];have:=HVL.out.1;omega))
     gi_wp2;exact HE.out _
  ·cases he0
 case qj3 =>
  intro D l xs C2 I2 W2 hD hl hlD hE hj hs hdef;obtain ⟨F',er,h1,h2,h3⟩:=hE;obtain ⟨hok,hlen,v,hv⟩:=(show (∀ y∈xs,y.2=0)/\((Yd lo hi xs).length:Int)<most/\∃ v,RgA w F w.heap.size ab lo hi most v (Yd lo hi xs) C2 (Zc I2 D l) W2 from hj);obtain ⟨rfl,h4⟩:=h3 hok;have hvs:=(h4 rfl).2;rw [Xo HL.out] at h2;obtain ⟨hDm,hend⟩:=qx0 hv hs hlD.2.1 hdef h1 h2 TY.out (wa9 HSW.out hD);have hacc:Yd lo hi xs=(Ji lo hi vs).take most.toNat:=by
   rw [hvs];exact (wa5 (by show (Yd lo hi xs).length<=_;omega)).symm
  rw [hacc] at hend;have Xb:=iQ (And.intro hDm hend);obtain ⟨c2,_⟩:=hv.b5.cell;obtain ⟨c0,f0⟩:=hv.b3.cell;obtain ⟨c1,f1⟩:=hv.b4.cell;obtain ⟨A9,c9,rfl,_,_⟩:=Ln.oo hv.row;clear hv hj hs hDm hend hdef hlen hok h1 h2 h3 h4 hvs hacc;go_wp2_with fail;exact Zd [D] _ (by simp) (fun q hq=>by rw [wa4.1 hq];exact Xb.out.1) (fun W' hm=>⟨_,Yr rfl _ _ ⟨w.heap.size+3,0,none⟩ ⟨w.heap.size+4,0,none⟩ _ _ rfl rfl (Xb.out.2 W' hm).1.load (Xb.out.2 W' hm).2.1.load,(Xb.out.2 W' hm).2.2⟩)
 case qR6 =>
  intro D l c pre C2 I2 W2 hD hl hlD hE hj hs hdef;obtain ⟨F',er,h1,h2,h3⟩:=hE;obtain ⟨hok,hc,v,hv⟩:=(show (∀ y∈pre,y.2=0)/\c = .exit 0/\∃ v,RgA w F w.heap.size ab lo hi most v ((Ji lo hi vs).take most.toNat) C2 (Zc I2 D l) W2 from hj);obtain ⟨rfl,_⟩:=h3 hok;rw [Xo HL.out] at h2;obtain ⟨hDm,hend⟩:=qx0 hv hs hlD.2.1 hdef h1 h2 TY.out (wa9 HSW.out hD);have Xb:=iQ (And.intro hDm hend);obtain ⟨c2,_⟩:=hv.b5.cell;obtain ⟨c0,f0⟩:=hv.b3.cell;obtain ⟨c1,f1⟩:=hv.b4.cell;obtain ⟨N9,GN⟩:∃ N9,((Ji lo hi vs).take most.toNat).length=N9:=⟨_,rfl⟩;have hrow:=hv.row;rw [GN] at hrow;obtain ⟨A9,c9,rfl,_,_⟩:=Ln.oo hrow;subst hc;clear hv hj hs hDm hend hdef hok h1 h2 h3 hrow GN;go_wp2_with fail;exact Zd [D] _ (by simp) (fun q hq=>by rw [wa4.1 hq];exact Xb.out.1) (fun W' hm=>⟨_,Yr rfl _ _ ⟨w.heap.size+3,0,none⟩ ⟨w.heap.size+4,0,none⟩ _ _ rfl rfl (Xb.out.2 W' hm).1.load (Xb.out.2 W' hm).2.1.load,(Xb.out.2 W' hm).2.2⟩)
end
end
section
open Go.RowKit Go.Maps
attribute [local go_sem] Oper.semAt_some
attribute [local go_sem,local simp] Jp QU
theorem ahead_of {a b c:List UInt8} (h1:Op.bytesLess b a=false) (h2:c=[]\/Op.bytesLess b c=true):Yj a c=true:=by
 unfold Yj;rcases h2 with rfl | h2
 ·rfl
 ·rw [Bool.or_eq_true]
  right;rcases Yv a b with h | h | h
  ·exact Qq _ _ _ h h2
  ·rw [h];exact h2
  ·rw [h1] at h;cases h
section
variable {W:World} {F:Nat->Prop} {tb pb db:Nat} {t:TS}
theorem za1 {w w3 w9:World} {F3:Nat->Prop} (hT:Ql W F3 w3 tb pb db t) (hm:Qb w F w3 F3) (hm2:Qb w3 (fun k=>k=w.heap.size+3\/k=w.heap.size+4) w9 (fun k=>k=w.heap.size+3\/k=w.heap.size+4)) (hW:W.heap.size<=w.heap.size) (hn:∀ k,w.heap.size<=k->k<w.heap.size+5->¬ F3 k) :
 MP W F w tb pb db t [] (.returned (.tuple #[.slice none 0 0,.int .i64 0])) w9:=by
 have hX:∀ k,(k=w.heap.size+3\/k=w.heap.size+4)->w.heap.size<=k/\¬ F3 k:=fun k hk=>by
  rcases hk with rfl | rfl
  ·exact ⟨by omega,hn _ (by omega) (by omega)⟩
  ·exact ⟨by omega,hn _ (by omega) (by omega)⟩
 refine ⟨F3,hT.other hm2 (fun k hk=>⟨wa9 hW (hX k hk).1,(hX k hk).2⟩),⟨hm.kept.trans hm2.kept (fun k hk=>Or.inr (hX k hk).1),fun k hk=>hm.news k hk⟩,none,0,0,rfl,World.ownsRow_nil _ _ _ _,fun g e=>by cases e⟩
theorem qh4 (w:World) (lo hi:ByteArray) (most:Int) (hT:Ql W F w tb pb db t) (hl:t.lost=0) (hx:most<1\/Yj lo.toList hi.toList=false) :
 Calls Tryz.prog 13 #[.pointer (some ⟨tb,0,none⟩),.string lo,.string hi,.int .i64 most] w (MP W F w tb pb db t []):=by
 have HL:=iQ hl;have TY:=iQ hT.below.size;have HX:=iQ hx;obtain ⟨bB,y0,y1,y2,y3,y4,hsz⟩:=RX w lo hi most;have HT:=iQ hT;have TB:=iQ (HT.out.kept bB);have BB:=iQ bB;have HSZ:=iQ hsz;clear hT hl hx bB hsz;refine callsIn_wide.1 (callsIn_of_wp_marks (n:=0) Tryz.func13 rfl trivial (wpIn_wide.2 ?_) rfl);simp only [Tryz.ntmps13,List.size_toArray,List.length_cons,List.length_nil,Nat.reduceAdd,Nat.reduceSub,Array.replicate_succ,Array.replicate_zero,List.push_toArray,List.append_toArray,List.nil_append,List.cons_append];go_upto_region 1 with fail
 change Code.wp _ _ _ _ (rgW w lo hi most);simp only [Nat.add_assoc,Nat.reduceAdd];have Y:=iQ (And.intro y0 (And.intro y1 (And.intro y2 (And.intro y3 y4))));clear y0 y1 y2 y3 y4;generalize rgW w lo hi most=wB at *;refine wp_scope_straight ?_;go_wp2_with fail;refine (Uh wB HL.out TB.out).mono ?_;rintro e w3 ⟨rfl,F3,h3,m3⟩;have HNF:Hid (∀ k,w.heap.size<=k->k<wB.heap.size->¬ F3 k):=iQ (fun k h1 h2=>Js m3 h2 (HT.out.new h1));have Y3:Hid (SBx w3 w.heap.size lo/\SBx w3 (w.heap.size+1) hi/\IBx w3 (w.heap.size+2) most/\YG w3 (w.heap.size+3) (.slice none 0 0)/\Ku w3 (w.heap.size+4) 0):=iQ (by
  obtain ⟨y0,y1,y2,y3,y4⟩:=Y.out;have hn:∀ k,w.heap.size<=k->¬ F k:=fun k h=>HT.out.new h;exact ⟨(m3.kept.block _ y0.lt (hn _ (by omega))).trans y0,(m3.kept.block _ y1.lt (hn _ (by omega))).trans y1,(m3.kept.block _ y2.lt (hn _ (by omega))).trans y2,(m3.kept.block _ y3.lt (hn _ (by omega))).trans y3,(m3.kept.block _ y4.lt (hn _ (by omega))).trans y4⟩)
 have T3:=iQ h3;have M3:=iQ ((Qb.ob (F:=F) BB.out).trans m3);have HS3:Hid (w.heap.size+5<=w3.heap.size):=iQ (by rw [<- HSZ.out];exact m3.kept.size);have HNB:Hid (∀ k,w.heap.size<=k->k<w.heap.size+5->¬ F3 k):=iQ (fun k h1 h2=>HNF.out k h1 (by rw [HSZ.out];exact h2));clear h3 m3 Y TB BB HSZ HT HNF;clear wB;have y0:=Y3.out.1.cell;have y1:=Y3.out.2.1.cell;have y2:=Y3.out.2.2.1.cell;have HA:=iQ (fun wx=>Vp lo hi wx);have e3:=Y3.out.2.2.2.1.cell;have e4:=Y3.out.2.2.2.2.cell;obtain ⟨e30,e31⟩:=e3;obtain ⟨e40,e41⟩:=e4;have Xb:∀ wq:World,Below w3.heap.size w3 wq->∀ W',Qb ((wq.setCell ⟨w.heap.size+3,0,none⟩ (.slice none 0 0)).setCell ⟨w.heap.size+4,0,none⟩ (.int .i64 0)) (·∈([]:List Nat)) W' (·∈([]:List Nat))->YG W' (w.heap.size+3) (.slice none 0 0)/\Ku W' (w.heap.size+4) 0/\MP W F w tb pb db t [] (.returned (.tuple #[.slice none 0 0,.int .i64 0])) W':=fun wq hq W' hm=>by
  have h3:YG wq (w.heap.size+3) (.slice none 0 0):=(hq.block _ Y3.out.2.2.2.1.lt).trans Y3.out.2.2.2.1;have h4:Ku wq (w.heap.size+4) 0:=(hq.block _ Y3.out.2.2.2.2.lt).trans Y3.out.2.2.2.2;have hg:YG ((wq.setCell ⟨w.heap.size+3,0,none⟩ (.slice none 0 0)).setCell ⟨w.heap.size+4,0,none⟩ (.int .i64 0)) (w.heap.size+3) (.slice none 0 0):=(Below.heap_setCell _ _ _ _ (by show w.heap.size+3≠w.heap.size+4;omega)).trans (h3.put _);have hg1:Ku ((wq.setCell ⟨w.heap.size+3,0,none⟩ (.slice none 0 0)).setCell ⟨w.heap.size+4,0,none⟩ (.int .i64 0)) (w.heap.size+4) 0:=Ku.put (e:=0) ((Below.heap_setCell _ _ _ _ (by show w.heap.size+4≠w.heap.size+3;omega)).trans h4) 0;have hm1:Qb wq (fun k=>k=w.heap.size+3\/k=w.heap.size+4) ((wq.setCell ⟨w.heap.size+3,0,none⟩ (.slice none 0 0)).setCell ⟨w.heap.size+4,0,none⟩ (.int .i64 0)) (fun k=>k=w.heap.size+3\/k=w.heap.size+4) :=
   (Qb.setCell wq (F:=fun k=>k=w.heap.size+3\/k=w.heap.size+4) (a:=⟨w.heap.size+3,0,none⟩) (Or.inl rfl) _).trans (Qb.setCell _ (F:=fun k=>k=w.heap.size+3\/k=w.heap.size+4) (a:=⟨w.heap.size+4,0,none⟩) (Or.inr rfl) _)
  have hm2:Qb ((wq.setCell ⟨w.heap.size+3,0,none⟩ (.slice none 0 0)).setCell ⟨w.heap.size+4,0,none⟩ (.int .i64 0)) (fun k=>k=w.heap.size+3\/k=w.heap.size+4) W' (fun k=>k=w.heap.size+3\/k=w.heap.size+4):=⟨hm.kept.more (fun k hk=>by cases hk),fun k hk=>Or.inl hk⟩;exact ⟨(hm.kept.block _ hg.lt (fun e=>by cases e)).trans hg,(hm.kept.block _ hg1.lt (fun e=>by cases e)).trans hg1,za1 T3.out M3.out ((Qb.ob hq).trans (hm1.trans hm2)) TY.out HNB.out⟩
 have HEN:Hid (∀ wq:World,Below w3.heap.size w3 wq->∀ W',Qb ((wq.setCell ⟨w.heap.size+3,0,none⟩ (.slice none 0 0)).setCell ⟨w.heap.size+4,0,none⟩ (.int .i64 0)) (·∈([]:List Nat)) W' (·∈([]:List Nat))->YG W' (w.heap.size+3) (.slice none 0 0)/\Ku W' (w.heap.size+4) 0/\MP W F w tb pb db t [] (.returned (.tuple #[.slice none 0 0,.int .i64 0])) W'):=iQ Xb;clear Xb;by_cases hlt1:most<1
 ·have Xb:=iQ (HEN.out _ (Below.refl _ _))
  go_wp2_with fail;exact Zd [] _ (by simp) (fun q hq=>by cases hq) (fun W' hm=>⟨_,Yr rfl _ _ ⟨w.heap.size+3,0,none⟩ ⟨w.heap.size+4,0,none⟩ _ _ rfl rfl (Xb.out W' hm).1.load (Xb.out W' hm).2.1.load,(Xb.out W' hm).2.2⟩)
 ·have hah:Yj lo.toList hi.toList=false:=HX.out.resolve_left hlt1
  have HAH:=iQ hah;clear hah;go_wp2_with fail;refine (HA.out _).mono ?_;rintro e w4 ⟨rfl,b4⟩;rw [HAH.out];have Xb:=iQ (HEN.out _ b4);have f30:=(b4.cell (World.block_lt_of_cell? _ _ e30)).trans e30;have f40:=(b4.cell (World.block_lt_of_cell? _ _ e40)).trans e40;have h3:YG w4 (w.heap.size+3) (.slice none 0 0):=(b4.block _ Y3.out.2.2.2.1.lt).trans Y3.out.2.2.2.1;have h4:Ku w4 (w.heap.size+4) 0:=(b4.block _ Y3.out.2.2.2.2.lt).trans Y3.out.2.2.2.2;obtain ⟨_,f31⟩:=h3.cell;obtain ⟨_,f41⟩:=h4.cell;clear b4 h3 h4 y0 y1 y2 e30 e31 e40 e41;go_wp2_with fail;exact Zd [] _ (by simp) (fun q hq=>by cases hq) (fun W' hm=>⟨_,Yr rfl _ _ ⟨w.heap.size+3,0,none⟩ ⟨w.heap.size+4,0,none⟩ _ _ rfl rfl (Xb.out W' hm).1.load (Xb.out W' hm).2.1.load,(Xb.out W' hm).2.2⟩)
theorem qg4 {O:List Int} {nd0:Int->Option ND} {es:List TT.E} {L:List Int} (w:World) (lo hi:ByteArray) (most:Int) (hm2:most<=9223372036854775807) (hT:Ql W F w tb pb db t) (h:TT.Tr O nd0 t es L) (hL:L.length<=5000) (hht:t.ht<=100) :
 Calls Tryz.prog 13 #[.pointer (some ⟨tb,0,none⟩),.string lo,.string hi,.int .i64 most] w (MP W F w tb pb db t ((es.filter (fun e=>Qh e.1 lo.toList hi.toList)).take most.toNat)):=by
 by_cases h1:most<1
 ·have e:((es.filter (fun e=>Qh e.1 lo.toList hi.toList)).take most.toNat)=[]:=by rw [show most.toNat=0 by omega];rfl
  rw [e];exact qh4 w lo hi most hT h.lost (Or.inl h1)
 ·cases hah:Yj lo.toList hi.toList with
  | false =>
    have e:(es.filter (fun e=>Qh e.1 lo.toList hi.toList))=[]:=by
     rw [List.filter_eq_nil_iff];intro x _ hx;obtain ⟨a,b⟩:=(ZR _ _ _).1 hx;rw [ahead_of a b] at hah;cases hah
    rw [e,List.take_nil];exact qh4 w lo hi most hT h.lost (Or.inr hah)
  | true =>
    obtain ⟨vs,hw⟩:=h.whole (FU lo.toList hi.toList);have e:Ji lo hi vs=es.filter (fun e=>Qh e.1 lo.toList hi.toList):=hw.ents _ (fun v e h1 h2=>by
     obtain ⟨a,b⟩:=(ZR _ _ _).1 h1;unfold FU;rw [ahead_of a h2.2,ahead_of h2.1 b];rfl)
    rw [<- e];exact qq1 w lo hi most hT h.lost hw.walk (Z:=fun p=>p∈L) ⟨fun p hp=>by have:=h.acc.top hp;omega,fun p n hp hn k hk=>h.closed p n hp hn k hk,wa9 hw.few hL⟩ (fun u hu=>h.start_in u hu) hht (by omega) hm2 hah (fun y hy=>⟨SC.ok_vals (hw.sound y hy).ok,ND.few_keys (hw.sound y hy).fits⟩)
end
end
section
open Go.RowKit Go.Maps
def qv0 (W:World) (F:Nat->Prop) (w:World) (tb pb db:Nat) (t:TS) (vs:List SC.Vis) (e0:Int) (e:Ending) (w':World):Prop :=
 ∃ F' er,Ql W F' w' tb pb db (t.told er)/\Qb w F w' F' /\
   ((e0=121/\e = .returned (.tuple #[.slice none 0 0,.int .i64 121]))\/(e0=0/\er=0/\∃ A n c,∃ ms:List Int,e = .returned (.tuple #[.slice A n c,.int .i64 0])/\ms.Perm (vs.map (fun v=>v.1.pg))/\ms.Pairwise (·<=·)/\w'.ownsRow w.heap.size 3 1 (.slice A n c) n (Qc ms)/\∀ g,(Value.slice A n c).ownBlock=some g->¬ F' g))
theorem qZ8 {w:World} {b b' sz n:Nat} {e:TypeId} {v:Value} {xs:List Value} (h:w.ownsRow b e sz v n xs) (hb:b'<=b):w.ownsRow b' e sz v n xs:=by
 obtain ⟨h1,h2⟩:=h;refine ⟨h1,?_⟩;rcases h2 with h2 | ⟨g,cap,cur,hv,hg,r⟩
 ·exact Or.inl h2
 ·exact Or.inr ⟨g,cap,cur,hv,wa9 hb hg,r⟩
theorem qH7 {l:List VV} {k:Nat} {x:VV} (h:l[k]?=some x):Qc ((l.take (k+1)).map VV.pg)=Qc ((l.take k).map VV.pg)++[.int .i64 x.pg]:=by
 rw [wc2,h,wd0,wc8,Yy];rfl
section
variable {W:World} {F:Nat->Prop} {tb pb db:Nat} {t:TS} {Z:Int->Prop} {vs:List SC.Vis} {e0:Int}
theorem qg5 (w:World) (hT:Ql W F w tb pb db t) (hl:t.lost=0) (hw:SC.Walk t.nd (fun _=>true) (SC.start0 t) [] vs e0) (hZ:Way t.z t.nd (fun _=>true) Z vs e0) (hst:∀ u∈SC.start0 t,Z u.pg) (hht:t.ht<=100) :
 Calls Tryz.prog 17 #[.pointer (some ⟨tb,0,none⟩)] w (qv0 W F w tb pb db t vs e0):=by
 obtain ⟨i0,hi,hz0,hz1,hz2⟩:=info_parts QP;have HC:=iQ (MQ w hT hl hw hZ hst hht);have HF:=iQ hZ.few;have HB:=iQ hT.below.size;clear hT hl hw hZ hst hht;go_enter Tryz.func17,Tryz.ntmps17;go_wp2_with fail;refine HC.out.mono ?_;rintro e w1 ⟨F1,er,h1,m1,(⟨rfl,rfl⟩ | ⟨rfl,rfl,A,n,c,l,rfl,hl,hvs,hhi⟩)⟩
 ·have HE:=iQ (show qv0 W F w tb pb db t vs 121 (.returned (.tuple #[.slice none 0 0,.int .i64 121])) w1 from ⟨F1,er,h1,m1,Or.inl ⟨rfl,rfl⟩⟩)
  clear h1 m1;go_wp2_with fail;go_ret2;exact HE.out
 ·have hn:n<=5000:=by
   have h2:=HF.out;rw [<- hvs,wd2,hl.len] at h2;exact h2
  have HV:=iQ hvs;have HL:=iQ hl;have T1:=iQ h1;have M1:=iQ m1;have HLN:=iQ hl.len;clear h1 m1 hl hvs hhi;go_wp2_with fail;go_loopw [6,19] (fun v i wk=>∃ k:Nat,k<=n/\i = .int .i64 k/\Hid (wk.ownsRow w1.heap.size 3 1 v k (Qc ((l.take k).map VV.pg)))/\Hid (Below w1.heap.size w1 wk)) (fun _ i _=>n - (RowKit.intOf i).toNat)
  case atStart=>exact ⟨0,wb3 _,rfl,iQ (World.ownsRow_nil _ _ _ _),iQ (Below.refl _ _)⟩
  case round =>
   obtain ⟨k,hk,rfl,O1,B1⟩:=hrel;by_cases hlt:k<n
   ·obtain ⟨x,hx⟩:∃ x,l[k]?=some x:=⟨l[k]'(by rw [HLN.out];exact hlt),wb1 _⟩
    obtain ⟨b,off,rfl,hb,hnF,_,c0,c1,c2,c3,c4,c5,c6,c7⟩:=(HL.out.kept B1.out).at_ hx;have HX:=iQ (qH7 hx);have bs:=B1.out.size;have o1:=O1.out;have HZ0:=Zj wr (.int .i64 0) (.int .i64 0) (.string ⟨#[]⟩) (.string ⟨#[]⟩) (.bool false) (.slice none 0 0) (.slice none 0 0) (.slice none 0 0);have ba:=Qa wr (.cells #[.int .i64 0,.int .i64 0,.string ⟨#[]⟩,.string ⟨#[]⟩,.bool false,.slice none 0 0,.slice none 0 0,.slice none 0 0] 77);obtain ⟨z0,z1,z2,z3,z4,z5,z6,z7⟩:=HZ0.cells;have zf0:=HZ0.free 0;have zf1:=HZ0.free 1;have zf2:=HZ0.free 2;have zf3:=HZ0.free 3;have zf4:=HZ0.free 4;have zf5:=HZ0.free 5;have zf6:=HZ0.free 6;have zf7:=HZ0.free 7;have ob:(wr.alloc (.cells #[.int .i64 x.pg,.int .i64 x.ht,.string x.lo,.string x.hi,.bool x.x.s.leaf,.slice x.x.A x.x.n x.x.c,.slice x.x.B x.x.m x.x.d,.slice x.x.C x.x.k x.x.e] 77)).cell? ⟨wr.heap.size,0,none⟩=some (.int .i64 x.pg):=(Zj wr (.int .i64 x.pg) (.int .i64 x.ht) (.string x.lo) (.string x.hi) (.bool x.x.s.leaf) (.slice x.x.A x.x.n x.x.c) (.slice x.x.B x.x.m x.x.d) (.slice x.x.C x.x.k x.x.e)).cells.1;clear HZ0 hx hnF ba;go_wp2_with (first
     | (at_builtin;refine wpList_append_own _ rfl (.tmp 23) (.tmp 26) 40 rfl w1.heap.size 3 i0 (.int .i64 0) 1 8 Tryz.underlying40 hi hz0 hz1 hz2 rfl (by decide) _ _ _ rfl ((o1.alloc _).alloc _) ⟨wr.heap.size+1,0,none⟩ 1 1 [.int .i64 x.pg] rfl rfl (XP _ _ _ _) (by simp [Value.oneCell']) (by unfold maxLen;omega) (by omega) (by simp;omega) ?_;intro v3 w3 hown3 hg3 _)
     | fail)
    have O3:Hid (w3.ownsRow w1.heap.size 3 1 v3 (k+1) (Qc ((l.take (k+1)).map VV.pg))):=by
     rw [HX.out];exact iQ hown3
    have B3:Hid (Below w1.heap.size w1 w3):=iQ (((B1.out.alloc bs _).alloc (by simp;omega) _).grown hg3 (by simp;omega) (fun g hg=>(o1.lt g hg).1));clear hown3 hg3 o1 O1 B1 HX z0 z1 z2 z3 z4 z5 z6 z7 zf0 zf1 zf2 zf3 zf4 zf5 zf6 zf7 ob c0 c1 c2 c3 c4 c5 c6 c7;go_roundw;case rel=>exact ⟨k+1,by omega,by go_num,O3,B3⟩
    case measure=>simp [RowKit.intOf];omega
   ·obtain rfl:n=k:=by omega
    have e2:l.take n=l:=wa5 (by rw [HLN.out];omega);rw [e2] at O1;obtain ⟨A9,c9,rfl,_,_⟩:=Ln.oo O1.out;have HS:=iQ (SG w1.heap.size A9 n c9 (l.map VV.pg) wr O1.out (by omega));go_wp2_with fail;refine HS.out.mono ?_;rintro e w9 ⟨ms,rfl,hp,hr,ho,hg⟩;have HE:=iQ (show qv0 W F w tb pb db t vs 0 (.returned (.tuple #[.slice A9 n c9,.int .i64 0])) w9 from by
     have b9:=B1.out.grown hg B1.out.size (fun g e=>(O1.out.lt g e).1);refine ⟨F1,0,T1.out.kept b9,M1.out.trans (Qb.ob b9),Or.inr ⟨rfl,rfl,A9,n,c9,ms,rfl,?_,hr,qZ8 ho M1.out.kept.size,fun g e e2=>by have h1:=(ho.lt g e).1;have h2:=T1.out.lt g e2;omega⟩⟩;rw [<- HV.out,List.map_map];exact hp)
    clear hp hr ho hg O1 B1;go_wp2_with fail;go_ret2;exact HE.out
end
theorem qH8 (k lo hi:ByteArray) (g:Nat) (w:World) (h1:w.cell? ⟨g,2,none⟩=some (.string lo)) (h2:w.cell? ⟨g,3,none⟩=some (.string hi)) :
 Calls Tryz.prog 67 #[.string k,.pointer (some ⟨g,0,none⟩)] w fun e w'=>e = .returned (.bool (!Qh k.toList lo.toList hi.toList))/\Below w.heap.size w w':=by
 have HW:=iQ (fun wx=>VA k lo hi wx);obtain ⟨q,hq⟩:∃ q,Qh k.toList lo.toList hi.toList=q:=⟨_,rfl⟩;rw [hq] at HW ⊢;clear hq;go_enter Tryz.func67,Tryz.ntmps67;go_wp2_with fail;refine (HW.out _).mono ?_;rintro e w1 ⟨rfl,b1⟩;go_wp2_with fail;go_ret;exact ⟨rfl,b1⟩
theorem qe9 (A:Option Addr) (n c g:Nat) (l:List (List UInt8)) (lo hi:ByteArray) (w:World) (h:Ln w 1 A n c (Qd l)) (hn:n<=1000000000) (h1:w.cell? ⟨g,2,none⟩=some (.string lo)) (h2:w.cell? ⟨g,3,none⟩=some (.string hi)) (hall:∀ k∈l,Qh k lo.toList hi.toList=true) :
 Calls Tryz.prog 105 #[.slice A n c,.func (.func 67) #[] #[.pointer (some ⟨g,0,none⟩)]] w fun e w'=>e = .returned (.int .i64 (-1))/\Below w.heap.size w w':=by
 have HN:=iQ h.strN;have HC:=iQ (And.intro h1 h2);have HA:=iQ hall;have HL:=iQ h;clear h h1 h2 hall;go_enter Tryz.func105,Tryz.ntmps105;go_wp2_with fail;go_loopw [8] (fun i wk=>∃ k:Nat,k<=n/\i = .int .i64 k/\Hid (Below w.heap.size w wk)) (fun i _=>n - (RowKit.intOf i).toNat)
 case atStart=>exact ⟨0,wb3 _,rfl,iQ (Below.refl _ _)⟩
 case round =>
  obtain ⟨k,hk,rfl,HB⟩:=hrel;by_cases hlt:k<n
  ·obtain ⟨b,off,z,rfl,hv,c0⟩:=(HL.out.kept HB.out).sA hlt
   have HV:=iQ hv;have M:=iQ (qH8 z lo hi g wr ((HB.out.cell (World.block_lt_of_cell? _ _ HC.out.1)).trans HC.out.1) ((HB.out.cell (World.block_lt_of_cell? _ _ HC.out.2)).trans HC.out.2));have hz:=HA.out _ (wb5 hv);rw [hz] at M;clear hv hz;go_wp2_with fail;refine M.out.mono ?_;rintro e w2 ⟨rfl,b2⟩;have HB2:=iQ (Qe b2 HB.out);clear b2 c0 M;go_wp2_with fail;go_roundw;case rel=>exact ⟨k+1,by omega,by go_num,HB2⟩
   case measure=>simp [RowKit.intOf];omega
  ·obtain rfl:n=k:=by omega
   go_wp2_with fail;go_ret;exact ⟨rfl,HB.out⟩
theorem qf0 (A:Option Addr) (n c g:Nat) (l:List (List UInt8)) (lo hi:ByteArray) (w:World) (h:Ln w 1 A n c (Qd l)) (hn:n<=1000000000) (h1:w.cell? ⟨g,2,none⟩=some (.string lo)) (h2:w.cell? ⟨g,3,none⟩=some (.string hi)) (hall:∀ k∈l,Qh k lo.toList hi.toList=true) :
 Calls Tryz.prog 70 #[.slice A n c,.func (.func 67) #[] #[.pointer (some ⟨g,0,none⟩)]] w fun e w'=>e = .returned (.bool false)/\Below w.heap.size w w':=by
 have HI:=iQ (qe9 A n c g l lo hi w h hn h1 h2 hall);clear h h1 h2 hall;go_enter Tryz.func70,Tryz.ntmps70;go_wp2_with fail;refine HI.out.mono ?_;rintro e w1 ⟨rfl,b1⟩;go_wp2_with fail;go_ret;exact ⟨rfl,b1⟩
section
variable {F:Nat->Prop}
theorem qn8 (v:VV) (top:Int) (w:World) (hn:Nd w v.x.A v.x.n v.x.c v.x.B v.x.m v.x.d v.x.C v.x.k v.x.e v.x.s) (hs:SC.Sound top v.vis) :
 Calls Tryz.prog 36 #[v.val,.int .i64 top] w fun e w'=>e = .returned (.bool true)/\Below w.heap.size w w':=by
 obtain ⟨xp,xh,xl,xu,⟨xA,xn,xc,xB,xm,xd,xC,xk,xe,xs⟩⟩:=v;have HH:=iQ hs.high;have HF:=iQ hs.fits;have HK:=iQ hs.keys;have hk0:0<xn:=by
  have h1:xs.keys.length=xn:=hn.kn;have h2:0<xs.keys.length:=hs.keyed;omega
 have HS:=iQ hs.high;have b1:=Qa w (.cells #[.int .i64 xp,.int .i64 xh,.string xl,.string xu,.bool xs.leaf,.slice xA xn xc,.slice xB xm xd,.slice xC xk xe] 77);have HB:=iQ b1;have HV:=iQ (Zj w (.int .i64 xp) (.int .i64 xh) (.string xl) (.string xu) (.bool xs.leaf) (.slice xA xn xc) (.slice xB xm xd) (.slice xC xk xe));have HN:=iQ (hn.kept b1);clear hn hs b1;unfold VV.val;dsimp only;go_enter Tryz.func36,Tryz.ntmps36;go_upto_region 1 with fail
 generalize hw1:w.alloc (.cells #[.int .i64 xp,.int .i64 xh,.string xl,.string xu,.bool xs.leaf,.slice xA xn xc,.slice xB xm xd,.slice xC xk xe] 77)=w1 at *;generalize hg:w.heap.size=g at *;clear hw1;obtain ⟨z0,z1,z2,z3,z4,z5,z6,z7⟩:=HV.out.cells;have hk1:¬ ((xn:Nat):Int)=0:=by omega
 have hx:xs.size<=1000:=HF.out;have FT:=iQ (fun wx b=>ql3 xs.leaf xA xn xc xB xm xd xC xk xe xs wx (HN.out.kept b) (by omega));rw [decide_eq_true hx] at FT;have SZ:=iQ (fun wx b=>QR xs.leaf xA xn xc xB xm xd xC xk xe xs wx (HN.out.kept b) (by omega));have CT:Hid (∀ wx,Below w1.heap.size w1 wx->Calls Tryz.prog 70 #[.slice xA xn xc,.func (.func 67) #[] #[.pointer (some ⟨g,0,none⟩)]] wx fun e w'=>e = .returned (.bool false)/\Below wx.heap.size wx w'):=iQ (fun wx b=>by
  have hn:=HN.out.kept b;have hv:=HV.out.kept b;obtain ⟨z0,z1,z2,z3,z4,z5,z6,z7⟩:=hv.cells;refine qf0 xA xn xc g xs.keys xl xu wx hn.ke ?_ z2 z3 (fun k hk=>(ZR _ _ _).2 (HK.out k hk));have h1:xs.keys.length=xn:=hn.kn;have h2:=ND.few_keys HF.out;have h3:xs.keys.length<=1000:=h2;omega)
 have B1:=iQ (Below.refl w1.heap.size w1);have B0:Hid (Below w.heap.size w w1):=iQ (by rw [hg];exact HB.out);rcases HH.out with hh | ⟨hh,hz⟩
 ·have hh:(xh==top)=true:=beq_iff_eq.2 hh
  clear SZ;go_wp2_with fail;refine (FT.out _ B1.out).mono ?_;rintro e w2 ⟨rfl,b2⟩;have B2:=iQ b2;have TJ:=iQ (HV.out.kept b2);obtain ⟨y0,y1,y2,y3,y4,y5,y6,y7⟩:=TJ.out.cells;clear b2 z0 z1 z2 z3 z4 z5 z6 z7;go_wp2_with fail;refine (CT.out _ B2.out).mono ?_;rintro e w3 ⟨rfl,b3⟩;have B3:=iQ (Qe b3 B2.out);clear b3 y0 y1 y2 y3 y4 y5 y6 y7;go_wp2_with fail;go_ret;exact ⟨rfl,Qe B3.out B0.out⟩
 ·have hh:(xh==top)=false:=beq_eq_false_iff_ne.2 (by have:xh<top:=hh;omega)
  have hz:¬ ((xs.size:Nat):Int)<=250:=by have:250<xs.size:=hz;omega
  go_wp2_with fail;refine (FT.out _ B1.out).mono ?_;rintro e w2 ⟨rfl,b2⟩;have B2:=iQ b2;have TJ:=iQ (HV.out.kept b2);obtain ⟨y0,y1,y2,y3,y4,y5,y6,y7⟩:=TJ.out.cells;clear b2 z0 z1 z2 z3 z4 z5 z6 z7;go_wp2_with fail;refine (SZ.out _ B2.out).mono ?_;rintro e w3 ⟨rfl,b3⟩;have B3:=iQ (Qe b3 B2.out);have HV3:=iQ (TJ.out.kept b3);clear b3 y0 y1 y2 y3 y4 y5 y6 y7;obtain ⟨y0,y1,y2,y3,y4,y5,y6,y7⟩:=HV3.out.cells;go_wp2_with fail;refine (CT.out _ B3.out).mono ?_;rintro e w4 ⟨rfl,b4⟩;have B4:=iQ (Qe b4 B3.out);clear b4 y0 y1 y2 y3 y4 y5 y6 y7;go_wp2_with fail;go_ret;exact ⟨rfl,Qe B4.out B0.out⟩
end
def MR (W:World) (F:Nat->Prop) (w:World) (tb pb db:Nat) (t:TS) (e0:Int) (a:Int×Int) (e:Ending) (w':World):Prop :=
 ∃ F' er,Ql W F' w' tb pb db (t.told er)/\Qb w F w' F'/\(e0=0->er=0)/\e = .returned (.tuple #[.int .i64 a.1,.int .i64 a.2])
def ckA (t:TS) (vs:List SC.Vis) (e0:Int):Int×Int:=if e0=0 then SC.checkS t vs else (0,e0)
structure CkR (w1:World) (gu gs:Nat) (a b x y z:Value) (s:SS) (wk:World):Prop where
 bel:Below w1.heap.size w1 wk
 lo:w1.heap.size<=gs
 ne:gu≠gs
 up:UBx wk gu a b x y z
 sp:∃ A n c B m d,Gz wk gs (.int .i64 s.hi) (.slice A n c) (.slice B m d)/\Xv wk (fun k=>k=gs) 1 A n c (Qc s.fr)/\Xv wk (fun k=>k=gs) 2 B m d (Zi s.pe)
section
variable {w1 wk w':World} {gu gs:Nat} {a b x y z:Value} {s s2:SS}
theorem CkR.kept (h:CkR w1 gu gs a b x y z s wk) (hb:Below wk.heap.size wk w'):CkR w1 gu gs a b x y z s w':=by
 obtain ⟨h1,h2,h3,h4,A,n,c,B,m,d,h5,h6,h7⟩:=h;exact ⟨Qe hb h1,h2,h3,h4.kept hb,A,n,c,B,m,d,h5.kept hb,h6.kept hb,h7.kept hb⟩
theorem CkR.put {A B:Option Addr} {n c m d:Nat} (h:CkR w1 gu gs a b x y z s wk) (hb:Below wk.heap.size wk w') (hs:Sp w' A n c B m d s2) (hA:Hi wk.heap.size A) (hB:Hi wk.heap.size B) :
 CkR w1 gu gs a b x y z s2 (((w'.setCell ⟨gs,0,none⟩ (.int .i64 s2.hi)).setCell ⟨gs,1,none⟩ (.slice A n c)).setCell ⟨gs,2,none⟩ (.slice B m d)):=by
 have hk:=h.kept hb;obtain ⟨A0,n0,c0,B0,m0,d0,h5,h6,h7⟩:=hk.sp;have h50:=h.sp;obtain ⟨_,_,_,_,_,_,h50,_⟩:=h50;have hlt:=h50.lt;have hm:Qb w' (fun k=>k=gs) (((w'.setCell ⟨gs,0,none⟩ (.int .i64 s2.hi)).setCell ⟨gs,1,none⟩ (.slice A n c)).setCell ⟨gs,2,none⟩ (.slice B m d)) (fun k=>k=gs) :=
  ((Qb.setCell w' (F:=fun k=>k=gs) (a:=⟨gs,0,none⟩) rfl _).trans (Qb.setCell _ (F:=fun k=>k=gs) (a:=⟨gs,1,none⟩) rfl _)).trans (Qb.setCell _ (F:=fun k=>k=gs) (a:=⟨gs,2,none⟩) rfl _)
 refine ⟨Jf hk.bel h.lo _ _ _,h.lo,h.ne,hk.up.mo hm h.ne,A,n,c,B,m,d,h5.put _ _ _,?_,?_⟩
 ·exact (⟨hs.fr,fun _ ad e hk=>by have:=hA ad e;have hk:ad.block=gs:=hk;omega⟩:Xv w' (fun k=>k=gs) 1 A n c (Qc s2.fr)).mo (by omega) hm
 ·exact (⟨hs.pe,fun _ ad e hk=>by have:=hB ad e;have hk:ad.block=gs:=hk;omega⟩:Xv w' (fun k=>k=gs) 2 B m d (Zi s2.pe)).mo (by omega) hm
end
def CkS (w1:World) (gu gs:Nat) (t:TS) (vs:List SC.Vis) (k:Nat) (wk:World):Prop :=
 ∃ s,SC.backs t.sp ((vs.take k).map (·.1.pg))=some s/\CkR w1 gu gs (.int .i64 t.ep) (.int .i64 t.rt) (.int .i64 ((t.ht:Nat):Int)) (.slice none 0 0) (.int .i64 t.ct) s wk
theorem qV2 {w3:World} {w1:World} {t:TS} {vs:List SC.Vis} {A B:Option Addr} {n c m d:Nat} (hb:Below w1.heap.size w1 w3) (hs:Sp w3 A n c B m d t.sp) :
 CkS w1 w3.heap.size (w3.heap.size+1) t vs 0 ((w3.alloc (.cells #[.int .i64 t.ep,.int .i64 t.rt,.int .i64 ((t.ht:Nat):Int),.slice none 0 0,.int .i64 t.ct] 53)).alloc (.cells #[.int .i64 t.sp.hi,.slice A n c,.slice B m d] 45)):=by
 have b1:=Qa w3 (.cells #[.int .i64 t.ep,.int .i64 t.rt,.int .i64 ((t.ht:Nat):Int),.slice none 0 0,.int .i64 t.ct] 53);have u1:=qa7 w3 (.int .i64 t.ep) (.int .i64 t.rt) (.int .i64 ((t.ht:Nat):Int)) (.slice none 0 0) (.int .i64 t.ct);have e1:(w3.alloc (.cells #[.int .i64 t.ep,.int .i64 t.rt,.int .i64 ((t.ht:Nat):Int),.slice none 0 0,.int .i64 t.ct] 53)).heap.size=w3.heap.size+1:=by simp
 generalize w3.alloc (.cells #[.int .i64 t.ep,.int .i64 t.rt,.int .i64 ((t.ht:Nat):Int),.slice none 0 0,.int .i64 t.ct] 53)=w4 at *;have b2:=Qa w4 (.cells #[.int .i64 t.sp.hi,.slice A n c,.slice B m d] 45);have u2:=Yi w4 (.int .i64 t.sp.hi) (.slice A n c) (.slice B m d);rw [e1] at u2;have hk:=(hs.kept b1).kept b2;refine ⟨t.sp,rfl,Qe b2 (Qe b1 hb),by have:=hb.size;omega,by omega,u1.kept b2,A,n,c,B,m,d,u2,⟨hk.fr,fun hn ad e hk=>?_⟩,⟨hk.pe,fun hn ad e hk=>?_⟩⟩
 ·have:=hs.fr.lt (by omega) e
  have hk:ad.block=w3.heap.size+1:=hk;omega
 ·have:=hs.pe.lt (by omega) e
  have hk:ad.block=w3.heap.size+1:=hk;omega
theorem qL1 {vs:List SC.Vis} {k:Nat} {x:SC.Vis} (h:vs[k]?=some x):SC.sumE (vs.take (k+1))=SC.sumE (vs.take k)+x.2.vals.length:=by
 rw [wc2,h,wd0,SC.sumE_append];rfl
theorem qb4 {top:Int}:∀ (vs:List SC.Vis),(∀ x∈vs,SC.Sound top x)->SC.sumE vs<=vs.length*1000
 | [],_=>wb3 _
 | x::vs,h=>by
   have h1:=qb4 vs (fun y hy=>h y (by simp [hy]));have h2:=SC.ok_vals (h x (by simp)).ok;have h3:=ND.few_keys (h x (by simp)).fits;simp only [SC.sumE,List.length_cons];omega
theorem CkS.next {w1 w':World} {gu gs:Nat} {t:TS} {vs:List SC.Vis} {k:Nat} {x:SC.Vis} {s:SS} (hx:vs[k]?=some x) (hs:SC.backs t.sp ((vs.take k).map (·.1.pg))=some s) (h0:(s.back x.1.pg).1=0) (h:CkR w1 gu gs (.int .i64 t.ep) (.int .i64 t.rt) (.int .i64 ((t.ht:Nat):Int)) (.slice none 0 0) (.int .i64 t.ct) (s.back x.1.pg).2 w') :
 CkS w1 gu gs t vs (k+1) w':=by
 refine ⟨_,?_,h⟩;rw [wc2,hx,wd0,wc8,List.map_cons,List.map_nil,SC.backs_snoc _ hs,if_pos h0]
theorem ze0 {t:TS} {vs:List SC.Vis} {k:Nat} {x:SC.Vis} {s:SS} (hx:vs[k]?=some x) (hs:SC.backs t.sp ((vs.take k).map (·.1.pg))=some s) (h0:¬ (s.back x.1.pg).1=0):SC.checkS t vs=(0,130):=by
 have e:vs=vs.take k++x::vs.drop (k+1):=by
  have hk:=(wa8.1 hx).1;have he:=(wa8.1 hx).2;rw [<- he,List.getElem_cons_drop];exact (wb7 k vs).symm
 have e2:vs.map (·.1.pg)=(vs.take k).map (·.1.pg)++x.1.pg::(vs.drop (k+1)).map (·.1.pg):=by
  rw [<- List.map_cons (f:=fun y:SC.Vis=>y.1.pg),<- wc8,<- e]
 unfold SC.checkS;rw [e2,SC.backs_fell hs h0]
section
variable {W:World} {F:Nat->Prop} {tb pb db:Nat} {t:TS} {Z:Int->Prop} {vs:List SC.Vis} {e0:Int}
theorem qg6 (w:World) (hT:Ql W F w tb pb db t) (hl:t.lost=0) (hw:SC.Walk t.nd (fun _=>true) (SC.start0 t) [] vs e0) (hZ:Way t.z t.nd (fun _=>true) Z vs e0) (hst:∀ u∈SC.start0 t,Z u.pg) (hht:t.ht<=100)
 (hs:e0=0->∀ x∈vs,SC.Sound t.ht x) (hh0:0<=t.sp.hi) (hh1:t.sp.hi<=4294967296) (hfr:t.sp.fr.length<=100000) (hpe:t.sp.pe.length<=100000) :
 Calls Tryz.prog 16 #[.pointer (some ⟨tb,0,none⟩)] w (MR W F w tb pb db t e0 (ckA t vs e0)):=by
 have HC:=iQ (MQ w hT hl hw hZ hst hht);have HF:=iQ hZ.few;have HLL:=iQ hl;have HS:=iQ hs;have HB:=iQ (And.intro hh0 (And.intro hh1 (And.intro hfr hpe)));clear hT hl hw hZ hst hht hs hh0 hh1 hfr hpe;go_enter Tryz.func16,Tryz.ntmps16;go_wp2_with fail;refine HC.out.mono ?_;rintro e w1 ⟨F1,er,h1,m1,(⟨rfl,rfl⟩ | ⟨rfl,rfl,A,n,c,l,rfl,hl,hvs,hhi⟩)⟩
 ·have HE:=iQ (show MR W F w tb pb db t 121 (ckA t vs 121) (.returned (.tuple #[.int .i64 0,.int .i64 121])) w1 from ⟨F1,er,h1,m1,fun e=>absurd e (by decide),rfl⟩)
  clear h1 m1;go_wp2_with fail;go_ret2;exact HE.out
 ·have T1:=iQ h1
  have M1:=iQ m1;have HL:=iQ hl;have HV:=iQ hvs;have HLN:=iQ hl.len;have hn:n<=5000:=by
   have h2:=HF.out;rw [<- hvs,wd2,hl.len] at h2;exact h2
  rw [Xo HLL.out] at T1;clear h1 m1 hl hvs hhi;go_wp2_with fail;refine (TC w1 T1.out).mono ?_;rintro e w2 ⟨rfl,b2⟩;have T2:=iQ (T1.out.kept b2);have B2:=iQ b2;clear b2;unfold atV;go_wp2_with fail;refine (KY w2 T2.out).mono ?_;rintro e w3 ⟨v,rfl,⟨SA,sn,sc,SB,sm,sd,rfl,s3,i1,i2⟩,b3⟩;have B3:=iQ (Qe b3 B2.out);have I3:=iQ (And.intro s3 (And.intro i1 i2));have HBS:=iQ B2.out.size;clear b3 s3 i1 i2 T2 B2;have HR0:Hid (CkS w1 w3.heap.size (w3.heap.size+1) t vs 0 ((w3.alloc (.cells #[.int .i64 t.ep,.int .i64 t.rt,.int .i64 ((t.ht:Nat):Int),.slice none 0 0,.int .i64 t.ct] 53)).alloc (.cells #[.int .i64 t.sp.hi,.slice SA sn sc,.slice SB sm sd] 45))):=iQ (qV2 B3.out I3.out.1);clear I3 B3 HBS;go_upto_region 5 with fail
  generalize (w3.alloc (.cells #[.int .i64 t.ep,.int .i64 t.rt,.int .i64 ((t.ht:Nat):Int),.slice none 0 0,.int .i64 t.ct] 53)).alloc (.cells #[.int .i64 t.sp.hi,.slice SA sn sc,.slice SB sm sd] 45)=w4 at *;generalize w3.heap.size+1=gs at *;generalize w3.heap.size=gu at *;go_wp2_with fail;go_loopw [8,25] (fun v i wk=>∃ k:Nat,k<=n/\i = .int .i64 k/\v = .int .i64 ((SC.sumE (vs.take k):Nat):Int)/\Hid (CkS w1 gu gs t vs k wk)) (fun _ i _=>n - (RowKit.intOf i).toNat)
  case atStart=>exact ⟨0,wb3 _,rfl,rfl,HR0⟩
  case round =>
   obtain ⟨k,hk,rfl,rfl,HI⟩:=hrel;by_cases hlt:k<n
   ·obtain ⟨x,hx⟩:∃ x,l[k]?=some x:=⟨l[k]'(by rw [HLN.out];exact hlt),wb1 _⟩
    obtain ⟨s,hs,hR⟩:=HI.out;have HBS:=iQ hs;obtain ⟨hl1,hl2,hl3⟩:=SC.backs_len _ _ _ hs;have hbn:=HB.out;have hkl:(List.map (fun y:SC.Vis=>y.1.pg) (vs.take k)).length<=n:=by
     rw [wd2,wb8];omega
    obtain ⟨b,off,rfl,hb,hnF,hok,c0,c1,c2,c3,c4,c5,c6,c7⟩:=(HL.out.kept hR.bel).at_ hx;have HX:Hid (vs[k]?=some x.vis):=iQ (by rw [<- HV.out,wc7,hx];rfl);have HSD:Hid (SC.Sound t.ht x.vis):=iQ (HS.out trivial _ (wb5 HX.out));have bV:=Qa wr (.cells #[.int .i64 x.pg,.int .i64 x.ht,.string x.lo,.string x.hi,.bool x.x.s.leaf,.slice x.x.A x.x.n x.x.c,.slice x.x.B x.x.m x.x.d,.slice x.x.C x.x.k x.x.e] 77);have HVB:=iQ (Zj wr (.int .i64 x.pg) (.int .i64 x.ht) (.string x.lo) (.string x.hi) (.bool x.x.s.leaf) (.slice x.x.A x.x.n x.x.c) (.slice x.x.B x.x.m x.x.d) (.slice x.x.C x.x.k x.x.e));have HR8:=iQ (hR.kept bV);have hfn:s.fr.length<=200000/\s.pe.length<=200000:=by
     rw [hl2,hl3];omega
    have zq3:=qb4 _ (HS.out trivial);have qR9:SC.sumE (vs.take k)<=5000000/\x.x.m<=1000:=by
     have h1:=qb4 (vs.take k) (fun y hy=>HS.out trivial y (wf0 hy));have h2:(vs.take k).length<=k:=List.length_take_le _ _;have h3:=hok.nd.vn;have h4:x.x.s.vals.length<=x.x.s.keys.length:=SC.ok_vals HSD.out.ok;have h5:x.x.s.keys.length<=1000:=ND.few_keys HSD.out.fits;omega
    have HSUM:Hid (SC.sumE (vs.take (k+1))=SC.sumE (vs.take k)+x.x.m):=iQ (by
     rw [qL1 HX.out];have h3:=hok.nd.vn;show _+x.x.s.vals.length=_;omega)
    have HN1:=iQ (HL.out.ok x (wb5 hx)).nd;have hgv:gs<wr.heap.size:=by
     obtain ⟨_,_,_,_,_,_,hbx,_⟩:=hR.sp;exact hbx.lt
    have HGV:=iQ hgv;clear hR hs hx hb hnF hok bV hl1 hl2 hl3 hbn hkl zq3 HI hgv;go_upto_region 9 with fail
    generalize wr.alloc (.cells #[.int .i64 x.pg,.int .i64 x.ht,.string x.lo,.string x.hi,.bool x.x.s.leaf,.slice x.x.A x.x.n x.x.c,.slice x.x.B x.x.m x.x.d,.slice x.x.C x.x.k x.x.e] 77)=W8 at *;generalize wr.heap.size=gv at *;clear c0 c1 c2 c3 c4 c5 c6 c7;obtain ⟨A',n',c',B',m',d',hbox,hf,hp⟩:=HR8.out.sp;have hn':=hf.ln.intN;have hm':=hp.ln.prN;have BK:=iQ (qz0 s s.hi x.pg A' B' n' c' m' d' W8 rfl ⟨hf.ln,hp.ln⟩ (by omega) (by omega));obtain ⟨s0,s1,s2⟩:=hbox.cells;obtain ⟨y0,y1,y2,y3,y4,y5,y6,y7⟩:=HVB.out.cells;clear hbox hf hp hn' hm' hfn;go_wp2_with fail;refine BK.out.mono ?_;rintro e w9 ⟨v9,rfl,⟨A2,n2,c2,B2,m2,d2,rfl,q9,i1,i2⟩,b9⟩;obtain ⟨r,hr⟩:∃ r,(s.back x.pg).1=r:=⟨_,rfl⟩;rw [hr];have HR9:=iQ (HR8.out.kept b9);have HP:=iQ (HR8.out.put b9 q9 i1 i2);have HV9:=iQ (HVB.out.kept b9);obtain ⟨A3,n3,c3,B3,m3,d3,hbox,_⟩:=HR9.out.sp;obtain ⟨f0,f1,f2⟩:=hbox.free;obtain ⟨s0',s1',s2'⟩:=hbox.cells;clear hbox s0 s1 s2 y0 y1 y2 y3 y4 y5 y6 y7 BK HR8 HVB;go_upto_region 10 with fail
    have zo2:Hid (VBx (((w9.setCell ⟨gs,0,none⟩ (.int .i64 (s.back x.pg).2.hi)).setCell ⟨gs,1,none⟩ (.slice A2 n2 c2)).setCell ⟨gs,2,none⟩ (.slice B2 m2 d2)) gv x):=iQ (((JU.put w9 gs (.int .i64 (s.back x.pg).2.hi) (.slice A2 n2 c2) (.slice B2 m2 d2)).2 gv (by have:=HGV.out;omega)).trans HV9.out);clear s0' s1' s2' f0 f1 f2 HV9 HR9 q9 i1 i2 b9;generalize ((w9.setCell ⟨gs,0,none⟩ (.int .i64 (s.back x.pg).2.hi)).setCell ⟨gs,1,none⟩ (.slice A2 n2 c2)).setCell ⟨gs,2,none⟩ (.slice B2 m2 d2)=w10 at *;have HN10:=iQ (HN1.out.kept HP.out.bel);clear HN1;by_cases hr0:r=0
    ·subst hr0
     have HR0':=iQ hr;clear hr;have SN:=iQ (qn8 x t.ht w10 HN10.out HSD.out);unfold VV.val at SN;obtain ⟨y0,y1,y2,y3,y4,y5,y6,y7⟩:=zo2.out.cells;obtain ⟨g0,g1,g2,g3,g4⟩:=HP.out.up.cells;go_wp2_with fail;refine SN.out.mono ?_;rintro e w11 ⟨rfl,b11⟩;have HV11:=iQ (zo2.out.kept b11);have HN:Hid (CkS w1 gu gs t vs (k+1) w11):=iQ (CkS.next HX.out HBS.out HR0'.out (HP.out.kept b11))
     clear y0 y1 y2 y3 y4 y5 y6 y7 g0 g1 g2 g3 g4 b11 SN HP zo2;obtain ⟨y0,y1,y2,y3,y4,y5,y6,y7⟩:=HV11.out.cells;obtain ⟨qR9,hsum3⟩:=qR9;obtain ⟨q,hq⟩:∃ q,SC.sumE (vs.take k)=q:=⟨_,rfl⟩;rw [hq] at HSUM qR9;have hwr:wrap64 ((q:Int)+(x.x.m:Int))=(q:Int)+(x.x.m:Int):=IntWalk.wrap64_in _ (by omega);go_wp2_with fail;go_roundw;case rel=>exact ⟨k+1,by omega,by go_num,by rw [HSUM.out];go_num,HN⟩
     case measure=>simp [RowKit.intOf];omega
    ·have hrb:(r==0)=false:=beq_eq_false_iff_ne.2 hr0
     have HE:Hid (MR W F w tb pb db t 0 (ckA t vs 0) (.returned (.tuple #[.int .i64 0,.int .i64 130])) w10):=iQ (by
      refine ⟨F1,0,?_,M1.out.trans (Qb.ob HP.out.bel),fun _=>rfl,?_⟩
      ·rw [Xo HLL.out]
       exact T1.out.kept HP.out.bel
      ·rw [show ckA t vs 0=SC.checkS t vs from if_pos rfl,ze0 HX.out HBS.out (by show ¬ (s.back x.pg).1=0;rw [hr];exact hr0)])
     clear hr;go_wp2_with fail;go_ret2;exact HE.out
   ·obtain rfl:n=k:=by omega
    obtain ⟨s,hs,hR⟩:=HI.out;have hvl:vs.length=n:=by
     rw [<- HV.out,wd2];exact HLN.out
    have htk:vs.take n=vs:=wa5 (by omega);rw [htk] at hs ⊢;obtain ⟨hl1,hl2,hl3⟩:=SC.backs_len _ _ _ hs;rw [wd2] at hl2;have hbn:=HB.out;obtain ⟨A',n',c',B',m',d',hbox,hf,hp⟩:=hR.sp;have hn':=hf.ln.intN;have hm':=hp.ln.prN;have hfn:n'<=200000/\m'<=200000/\0<=s.hi/\s.hi<=4294967296:=by
     rw [hl3] at hm';rw [hl1];omega
    have HKD:=iQ hR.bel;have zo8:Hid (ckA t vs 0=if ((SC.sumE vs:Nat):Int)=t.ct then (s.hi - 2 - (n':Int) - (m':Int),0) else (0,130)):=iQ (by
     rw [show ckA t vs 0=SC.checkS t vs from if_pos rfl];unfold SC.checkS;rw [hs];dsimp only;rw [hn',hm'])
    obtain ⟨q,hq⟩:∃ q,SC.sumE vs=q:=⟨_,rfl⟩;rw [hq] at zo8 ⊢;obtain ⟨g0,g1,g2,g3,g4⟩:=hR.up.cells;obtain ⟨s0,s1,s2⟩:=hbox.cells;have HT9:Hid (Ql W F1 wr tb pb db (t.told 0)/\Qb w F wr F1):=iQ (by
     rw [Xo HLL.out];exact ⟨T1.out.kept hR.bel,M1.out.trans (Qb.ob hR.bel)⟩)
    clear hs hR hvl hl1 hl2 hl3 hbn hbox hf hp hn' hm' hq HI htk;by_cases hc:((q:Nat):Int)=t.ct
    ·have HE:Hid (MR W F w tb pb db t 0 (ckA t vs 0) (.returned (.tuple #[.int .i64 (s.hi - 2 - (n':Int) - (m':Int)),.int .i64 0])) wr):=iQ ⟨F1,0,HT9.out.1,HT9.out.2,fun _=>rfl,by rw [zo8.out,if_pos hc]⟩
     obtain ⟨h1,h2,h3,h4⟩:=hfn;have hw1:wrap64 (s.hi - 2)=s.hi - 2:=IntWalk.wrap64_in _ (by omega);have hw2:wrap64 (s.hi - 2 - (n':Int))=s.hi - 2 - (n':Int):=IntWalk.wrap64_in _ (by omega);have hw3:wrap64 (s.hi - 2 - (n':Int) - (m':Int))=s.hi - 2 - (n':Int) - (m':Int):=IntWalk.wrap64_in _ (by omega);go_wp2_with fail;go_ret2;exact HE.out
    ·have HE:Hid (MR W F w tb pb db t 0 (ckA t vs 0) (.returned (.tuple #[.int .i64 0,.int .i64 130])) wr):=iQ ⟨F1,0,HT9.out.1,HT9.out.2,fun _=>rfl,by rw [zo8.out,if_neg hc]⟩
     go_wp2_with fail;go_ret2;exact HE.out
end
def zr5 (W:World) (O:List Int) (nd0:Int->Option ND) (tb pb db g:Nat) (F:Nat->Prop) (z:Nat) (ep:Int) (w:World) (a:Nat) (e:Ending) (w':World):Prop :=
 e = .returned (.bool true)/\∃ F' t' es' L',VM W O nd0 tb pb db g F' t' es' L' w'/\Qb w (plus F g) w' (plus F' g)/\t'.z=z/\t'.ep=ep/\es'.length<=a
def GrR (W:World) (O:List Int) (nd0:Int->Option ND) (tb pb db g:Nat) (F:Nat->Prop) (z:Nat) (ep:Int) (w:World) (a:Nat) (w':World):Prop :=
 ∃ F' t' es' L',VM W O nd0 tb pb db g F' t' es' L' w'/\Qb w (plus F g) w' (plus F' g)/\t'.z=z/\t'.ep=ep/\es'.length<=a
section
variable {W w w' w'':World} {F F':Nat->Prop} {tb pb db g:Nat} {t t':TS} {O:List Int} {nd0:Int->Option ND} {es es':List TT.E} {L:List Int} {z a:Nat} {ep:Int}
theorem GrR.kept (h:GrR W O nd0 tb pb db g F z ep w a w') (hb:Below w'.heap.size w' w''):GrR W O nd0 tb pb db g F z ep w a w'':=by
 obtain ⟨F',t',es',L',h1,h2,h3⟩:=h;exact ⟨F',t',es',L',h1.kept hb,h2.trans (Qb.ob hb),h3⟩
theorem GrR.up {b:Nat} (h:GrR W O nd0 tb pb db g F z ep w a w') (hb:a<=b):GrR W O nd0 tb pb db g F z ep w b w':=by
 obtain ⟨F',t',es',L',h1,h2,h3,h4,h5⟩:=h;exact ⟨F',t',es',L',h1,h2,h3,h4,by omega⟩
theorem GrR.below (h:GrR W O nd0 tb pb db g F z ep w a w'):Below W.heap.size W w':=by
 obtain ⟨F',t',es',L',h1,_⟩:=h;exact h1.tree.below
theorem qU6 (c:Uk) (w:World) (h3:¬ c.kind=3) (h:VM W O nd0 tb pb db g F t es L w) (hz:2*es.length+O.length+30<=t.z) (he:es.length<=511) :
 Calls Tryz.prog 61 #[.pointer (some ⟨tb,0,none⟩),.pointer (some ⟨g,0,none⟩),c.agg] w (YS W O nd0 tb pb db g F t.z t.ep w (c.step es)):=by
 by_cases h1:c.kind=1
 ·exact zd5 c w h1 h hz he
 by_cases h2:c.kind=2
 ·exact zd6 c w h2 h hz he
 exact qU5 c w h1 h2 h3 h
theorem qs5 (w:World) (A:Option Addr) (n c most:Nat) (l:List Uk) (hl:l.length=n) (hs:Xq W W.heap.size A l) (hn:n<=maxLen) (h:VM W O nd0 tb pb db g F t es L w) (ha:es.length<=a) (hz:2*(a+most)+O.length+30<=t.z) (hb:a+most<=511) :
 Calls Tryz.prog 29 #[.pointer (some ⟨tb,0,none⟩),.pointer (some ⟨g,0,none⟩),.slice A n c,.int .i64 ((most:Nat):Int)] w (zr5 W O nd0 tb pb db g F t.z t.ep w (a+most)):=by
 have HS:=iQ hs;have HL:=iQ hl;have hn2:n<=9223372036854775807:=by unfold maxLen at hn;omega
 have HZ:=iQ hz;have HR:Hid (GrR W O nd0 tb pb db g F t.z t.ep w (a+0) w):=iQ ⟨F,t,es,L,h,Qb.ob (Below.refl _ _),rfl,rfl,ha⟩;clear hs hl hn h ha hz;go_enter Tryz.func29,Tryz.ntmps29;go_wp2_with fail;go_loopw [9] (fun i wr=>∃ j:Nat,j<=n/\j<=most/\i = .int .i64 j/\Hid (GrR W O nd0 tb pb db g F t.z t.ep w (a+j) wr)) (fun i _=>n - (RowKit.intOf i).toNat)
 case atStart=>exact ⟨0,wb3 _,wb3 _,rfl,HR⟩
 case round =>
  obtain ⟨j,hj,hj2,rfl,hrel⟩:=hrel;have HRR:=hrel;clear hrel HR;by_cases hgo:j<n/\j<most
  ·obtain ⟨q1,q2⟩:=hgo
   have hbel:=HRR.out.below;obtain ⟨b,off,cl,rfl,hbl,hcl,_,d0,d1,d2⟩:=(HS.out.below hbel).at_ (k:=j) (by rw [HL.out];exact q1);obtain ⟨kd,x,y⟩:=cl;have HSM:=iQ (fun (wx:World)=>qo8 ⟨kd,x,y⟩ wx);have HCL:=iQ hcl;unfold Uk.agg at HSM;clear hbel hbl hcl;dsimp only at d0 d1 d2;go_wp2_with fail;refine (HSM.out _).mono ?_;rintro e w4 ⟨rfl,b4⟩;have HR4:=iQ (HRR.out.kept b4);clear b4 d0 d1 d2 HSM HRR;have hbel:=HR4.out.below;obtain ⟨_,off2,c2,e2,_,hc2,_,d0,d1,d2⟩:=(HS.out.below hbel).at_ (k:=j) (by rw [HL.out];exact q1);injection e2 with e2
   injection e2 with e3 e4 e5
   subst e3 e4;obtain rfl:Uk.mk kd x y=c2:=wa0 (HCL.out.symm.trans hc2);clear e5 hbel hc2;dsimp only at d0 d1 d2;cases hsm:Uk.small ⟨kd,x,y⟩ with
   | false =>
     clear hsm;go_wp2_with fail;go_roundw;case rel=>exact ⟨j+1,by omega,by omega,by go_num,iQ (HR4.out.up (by omega))⟩
     case measure=>simp [RowKit.intOf];omega
   | true =>
     clear hsm;by_cases hk3:kd=3
     ·subst hk3
      go_wp2_with fail;go_roundw;case rel=>exact ⟨j+1,by omega,by omega,by go_num,iQ (HR4.out.up (by omega))⟩
      case measure=>simp [RowKit.intOf];omega
     ·have hk:(kd==3)=false:=beq_eq_false_iff_ne.2 hk3
      obtain ⟨F4,t4,es4,L4,h4,m4,z4,p4,l4⟩:=HR4.out;have hlen:=qL4 ⟨kd,x,y⟩ es4;have DL:=iQ (qU6 ⟨kd,x,y⟩ w4 hk3 h4 (by rw [z4];have:=HZ.out;omega) (by omega));have UA:Hid ((Uk.step ⟨kd,x,y⟩ es4).length<=a+(j+1)):=iQ (by omega);have M4:=iQ m4;rw [z4,p4] at DL;obtain ⟨es1,hes1⟩:∃ es1,Uk.step ⟨kd,x,y⟩ es4=es1:=⟨_,rfl⟩;rw [hes1] at DL UA;unfold Uk.agg at DL;clear hk3 h4 m4 z4 p4 l4 hlen hes1 HR4;go_wp2_with fail;refine DL.out.mono ?_;rintro e w5 ⟨rfl,F5,t5,L5,h5,m5,z5,p5⟩;have YH:Hid (GrR W O nd0 tb pb db g F t.z t.ep w (a+(j+1)) w5):=iQ ⟨F5,t5,es1,L5,h5,M4.out.trans m5,z5,p5,UA.out⟩;clear h5 m5 z5 p5 d0 d1 d2 DL;go_wp2_with fail;go_roundw;case rel=>exact ⟨j+1,by omega,by omega,by go_num,YH⟩
      case measure=>simp [RowKit.intOf];omega
  ·have hcase:(n<=j)\/(j<n/\most<=j):=by omega
   have HE:=iQ (HRR.out.up (b:=a+most) (by omega));clear hgo HRR;rcases hcase with hx | ⟨hx,hy⟩
   all_goals
    go_wp2_with fail;go_ret;exact ⟨rfl,HE.out⟩
end
end
section
open Go.RowKit
theorem qq8 (s:SS) (h z:Int) (A B:Option Addr) (n c m d g:Nat) (w:World) (hh:s.hi=h) (hb:Gz w g (.int .i64 h) (.slice A n c) (.slice B m d)) :
 Calls Tryz.prog 118 #[.int .i64 z,.pointer (some ⟨g,0,none⟩)] w fun e w'=>e = .returned (.bool (!(s.may z)))/\Below w.heap.size w w':=by
 obtain ⟨c0,c1,c2⟩:=hb.cells;clear hb;go_enter Tryz.func118,Tryz.ntmps118;go_wp2_with fail;refine (VB s h z A B n c m d w hh).mono ?_;rintro e w1 ⟨rfl,b1⟩;have B1:=iQ b1;clear b1;go_wp2_with fail;go_ret;exact ⟨rfl,B1.out⟩
def qH0 (s:SS) (zs:List Int) (k:Nat):Prop:=(zs.take k).all s.may=true
theorem qH0.more {s:SS} {zs:List Int} {k:Nat} {x:Int} (h:qH0 s zs k) (hv:zs[k]?=some x) (hx:s.may x=true):qH0 s zs (k+1):=by
 unfold qH0 at h ⊢;rw [wc2,hv,wd0,List.all_append,h];simp [hx]
theorem ze8 {s:SS} {zs:List Int} {k:Nat} {x:Int} (hv:zs[k]?=some x) (hx:s.may x=false):zs.all s.may=false:=by
 cases h:zs.all s.may with
 | false=>rfl
 | true =>
   have:=wd4.1 h x (wb5 hv);rw [hx] at this;cases this
theorem qs1 (s:SS) (h:Int) (A B C:Option Addr) (n c m d g k0 e0:Nat) (zs:List Int) (w:World) (hh:s.hi=h) (hb:Gz w g (.int .i64 h) (.slice A n c) (.slice B m d)) (hz:Ln w 1 C k0 e0 (Qc zs)) (hn:k0<=1000000) :
 Calls Tryz.prog 121 #[.slice C k0 e0,.func (.func 118) #[] #[.pointer (some ⟨g,0,none⟩)]] w fun e w'=>(∃ r:Int,e = .returned (.int .i64 r)/\decide (r ≥ 0) = !(zs.all s.may))/\Below w.heap.size w w':=by
 have HZ:=iQ hz;have HN:=iQ hz.intN;have HF:=iQ (fun (z:Int) (w':World) (hb':Below w.heap.size w w')=>qq8 s h z A B n c m d g w' hh (hb.kept hb'));clear hz hb hh;go_enter Tryz.func121,Tryz.ntmps121;go_wp2_with fail;go_loopw [8] (fun i wk=>∃ k:Nat,k<=k0/\i = .int .i64 k/\Hid (qH0 s zs k)/\Hid (Below w.heap.size w wk)) (fun i _=>k0 - (RowKit.intOf i).toNat)
 case atStart=>exact ⟨0,wb3 _,rfl,iQ rfl,iQ (Below.refl _ _)⟩
 case round =>
  obtain ⟨k,hk,rfl,HL,B1⟩:=hrel;by_cases hlt:k<k0
  ·obtain ⟨b,off,x,rfl,hv,c0⟩:=(HZ.out.kept B1.out).iA hlt
   cases hx:s.may x with
   | true =>
     have HM:=iQ (HL.out.more hv hx);have hF:=(HF.out x wr B1.out);rw [hx] at hF;have HF1:=iQ hF;clear hv HL hx hF;go_wp2_with fail;refine HF1.out.mono ?_;rintro e w1 ⟨rfl,b1⟩;have B2:=iQ (B1.out.trans (b1.mono B1.out.size));clear b1 B1 HF1 c0;go_wp2_with fail;go_roundw;case rel=>exact ⟨k+1,by omega,by go_num,HM,B2⟩
     case measure=>simp [RowKit.intOf];omega
   | false =>
     have HM:=iQ (ze8 hv hx);have hF:=(HF.out x wr B1.out);rw [hx] at hF;have HF1:=iQ hF;clear hv HL hx hF;go_wp2_with fail;refine HF1.out.mono ?_;rintro e w1 ⟨rfl,b1⟩;have B2:=iQ (B1.out.trans (b1.mono B1.out.size));clear b1 B1 HF1 c0;go_wp2_with fail;go_ret;exact ⟨⟨_,rfl,by rw [HM.out,decide_eq_true (by omega)];rfl⟩,B2.out⟩
  ·obtain rfl:k0=k:=by omega
   have hm:=HL.out;unfold qH0 at hm;rw [wa5 (by rw [HN.out];exact wa2 _)] at hm;have HM:=iQ hm;clear hm;go_wp2_with fail;go_ret;exact ⟨⟨_,rfl,by rw [HM.out];rfl⟩,B1.out⟩
theorem LC (s:SS) (h:Int) (A B C:Option Addr) (n c m d g k0 e0:Nat) (zs:List Int) (w:World) (hh:s.hi=h) (hb:Gz w g (.int .i64 h) (.slice A n c) (.slice B m d)) (hz:Ln w 1 C k0 e0 (Qc zs)) (hn:k0<=1000000) :
 Calls Tryz.prog 117 #[.slice C k0 e0,.func (.func 118) #[] #[.pointer (some ⟨g,0,none⟩)]] w fun e w'=>e = .returned (.bool (!(zs.all s.may)))/\Below w.heap.size w w':=by
 have HC:=iQ (qs1 s h A B C n c m d g k0 e0 zs w hh hb hz hn);clear hz hb hh;go_enter Tryz.func117,Tryz.ntmps117;go_wp2_with fail;refine HC.out.mono ?_;rintro e w2 ⟨⟨r,rfl,hr⟩,b2⟩;have HR:=iQ hr;have B2:=iQ b2;clear hr b2;go_wp2_with fail;go_ret;exact ⟨Qi HR.out,B2.out⟩
theorem qi3 {s:SS} {ms:List Int} (hp:ms.Perm s.pages) (hs:ms.Pairwise (·<=·)):SS.onceB s=(SS.rises ms && !(!(ms.all s.may))):=by
 unfold SS.onceB;rw [SS.sorted_rises hp hs,SS.perm_all hp,Bool.not_not]
theorem qO8 (s:SS) (h:Int) (A B:Option Addr) (n c m d:Nat) (w:World) (hh:s.hi=h) (hs:Sp w A n c B m d s) (hn:n<=400000) (hm:m<=400000) :
 Calls Tryz.prog 77 #[.agg #[.int .i64 h,.slice A n c,.slice B m d]] w fun e w'=>e = .returned (.bool (SS.onceB s))/\Below w.heap.size w w':=by
 have hmf:∀ (fn:Fn) (first cap:Array Value) (w:World),(Instr.makeFunc fn first cap).run Tryz.prog w = .ok (.func fn first cap) w:=fun _ _ _ _=>rfl
 have HS:=iQ (hs.kept (Qa w (.cells #[.int .i64 h,.slice A n c,.slice B m d] 45)));have HB:=iQ (Yi w (.int .i64 h) (.slice A n c) (.slice B m d));have B0:=iQ (Qa w (.cells #[.int .i64 h,.slice A n c,.slice B m d] 45));have HH:=iQ hh;clear hs hh;go_enter Tryz.func77,Tryz.ntmps77;go_wp2_with fail;generalize w.alloc (.cells #[.int .i64 h,.slice A n c,.slice B m d] 45)=w0 at *;refine (CU s h A B n c m d w0 HS.out hn hm).mono ?_;rintro e w1 ⟨v1,rfl,o1,b1⟩;obtain ⟨A1,c1,rfl,hc1,l1⟩:=Ln.oo o1;have HSo:=iQ (SG w0.heap.size A1 (n+m) c1 s.pages w1 o1 (by omega));have HO1:=iQ o1;have B1:=iQ b1;clear o1 b1 l1;go_wp2_with fail;refine HSo.out.mono ?_;rintro e w2 ⟨ms,rfl,hp,hso,o2,hg⟩;have B2:=iQ (B1.out.grown hg B1.out.size (fun g hg=>(HO1.out.lt g hg).1));have HE:=iQ (qi3 hp hso);obtain ⟨A2,c2,e2,hc2,l2⟩:=Ln.oo o2;injection e2 with e2 e3 e4
 subst e2;subst e4;have L2:=iQ l2;clear hg o2 hp hso l2 HSo HO1 B1;go_wp2_with fail;refine (FB A1 (n+m) c1 ms w2 L2.out (by omega)).mono ?_;rintro e w3 ⟨rfl,b3⟩;have B3:=iQ (B2.out.trans (b3.mono B2.out.size));have L3:=iQ (L2.out.kept b3);clear b3 L2 B2;cases hr:SS.rises ms with
 | false =>
   have HF:Hid (SS.onceB s=false):=by
    rw [HE.out,hr];exact iQ rfl
   have B4:=iQ (B0.out.trans (B3.out.mono B0.out.size));clear hr HE;go_wp2_with fail;go_ret;exact ⟨Qi HF.out.symm,B4.out⟩
 | true =>
   have HF:Hid (SS.onceB s=ms.all s.may):=by
    rw [HE.out,hr,Bool.not_not];exact iQ rfl
   clear hr HE;go_wp2_with fail;refine (LC s h A B A1 n c m d w.heap.size (n+m) c1 ms w3 HH.out (HB.out.kept B3.out) L3.out (by omega)).mono ?_;rintro e w4 ⟨rfl,b4⟩;have B4:=iQ (B0.out.trans ((B3.out.trans (b4.mono B3.out.size)).mono B0.out.size));clear b4;go_wp2_with fail;go_ret;exact ⟨Qi HF.out.symm,B4.out⟩
theorem qG2 {s:SS} {t:Int} (h:s.hi<2):s.check t=80:=SS.check_bad (fun f=>by have:=f.lo;omega)
theorem qG1 {s:SS} {t:Int} (h:t<s.hi):s.check t=80:=SS.check_bad (fun f=>by have:=f.hi;omega)
theorem qu3 {s:SS} {t:Int} (h1:¬ s.hi<2) (h2:¬ t<s.hi):s.check t=if !(SS.rises s.fr) || !(SS.agesB s.pe) || !(SS.onceB s) then 80 else 0:=by
 rw [SS.check_parts,decide_eq_false h1,decide_eq_false (by omega:¬ s.hi > t)];rfl
theorem qG3 (s:SS) (h t:Int) (A B:Option Addr) (n c m d:Nat) (w:World) (hh:s.hi=h) (hs:Sp w A n c B m d s) (hn:n<=400000) (hm:m<=400000) :
 Calls Tryz.prog 40 #[.agg #[.int .i64 h,.slice A n c,.slice B m d],.int .i64 t] w fun e w'=>e = .returned (.int .i64 (s.check t))/\Below w.heap.size w w':=by
 by_cases h1:h<2
 ·have HX:=iQ (qG2 (s:=s) (t:=t) (by rw [hh];exact h1))
  clear hs hh;go_enter Tryz.func40,Tryz.ntmps40;go_wp2_with fail;go_ret;exact ⟨Zm HX.out.symm,Qa _ _⟩
 by_cases h2:t<h
 ·have HX:=iQ (qG1 (s:=s) (t:=t) (by rw [hh];exact h2))
  clear hs hh;go_enter Tryz.func40,Tryz.ntmps40;go_wp2_with fail;go_ret;exact ⟨Zm HX.out.symm,Qa _ _⟩
 have HX:=iQ (qu3 (s:=s) (t:=t) (by rw [hh];exact h1) (by rw [hh];exact h2));have HS:=iQ (hs.kept (Qa w (.cells #[.int .i64 h,.slice A n c,.slice B m d] 45)));have HB:=iQ (Yi w (.int .i64 h) (.slice A n c) (.slice B m d));have B0:=iQ (Qa w (.cells #[.int .i64 h,.slice A n c,.slice B m d] 45));have HH:=iQ hh;clear hs hh;go_enter Tryz.func40,Tryz.ntmps40;go_wp2_with fail;generalize w.alloc (.cells #[.int .i64 h,.slice A n c,.slice B m d] 45)=w0 at *;refine (FB A n c s.fr w0 HS.out.fr (by omega)).mono ?_;rintro e w1 ⟨rfl,b1⟩;have B1:=iQ b1;clear b1;cases hr:SS.rises s.fr with
 | false =>
   have HF:Hid (s.check t=80):=iQ (by rw [HX.out,hr];rfl);have B2:=iQ (B0.out.trans (B1.out.mono B0.out.size));clear hr;go_wp2_with fail;go_ret;exact ⟨Zm HF.out.symm,B2.out⟩
 | true =>
   have UD:Hid (s.check t=if !(SS.agesB s.pe) || !(SS.onceB s) then 80 else 0):=iQ (by rw [HX.out,hr];rfl)
   obtain ⟨c0,c1,c2⟩:=(HB.out.kept B1.out).cells;clear hr HX;go_wp2_with fail;refine (qV9 B m d s.pe w1 (HS.out.pe.kept B1.out) (by omega)).mono ?_;rintro e w2 ⟨rfl,b2⟩;have B2:=iQ (B1.out.trans (b2.mono B1.out.size));clear b2 c0 c1 c2 B1;cases hr:SS.agesB s.pe with
   | false =>
     have HF:Hid (s.check t=80):=iQ (by rw [UD.out,hr];rfl);have B3:=iQ (B0.out.trans (B2.out.mono B0.out.size));clear hr;go_wp2_with fail;go_ret;exact ⟨Zm HF.out.symm,B3.out⟩
   | true =>
     have JK:Hid (s.check t=if !(SS.onceB s) then 80 else 0):=iQ (by rw [UD.out,hr];rfl)
     obtain ⟨c0,c1,c2⟩:=(HB.out.kept B2.out).cells;clear hr UD;go_wp2_with fail;refine (qO8 s h A B n c m d w2 HH.out (HS.out.kept B2.out) hn hm).mono ?_;rintro e w3 ⟨rfl,b3⟩;have B3:=iQ (B0.out.trans ((B2.out.trans (b3.mono B2.out.size)).mono B0.out.size));clear b3 c0 c1 c2 B2;cases hr:SS.onceB s with
     | false =>
       have HF:Hid (s.check t=80):=iQ (by rw [JK.out,hr];rfl);clear hr;go_wp2_with fail;go_ret;exact ⟨Zm HF.out.symm,B3.out⟩
     | true =>
       have HF:Hid (s.check t=0):=iQ (by rw [JK.out,hr];rfl);clear hr;go_wp2_with fail;go_ret;exact ⟨Zm HF.out.symm,B3.out⟩
end
section
open Go.RowKit Go.Maps
section
variable {W w w':World} {G F F':Nat->Prop} {pb db:Nat} {f:Int->List UInt8}
theorem Vj.sizeIs {z:Nat} (h:Vj W G w pb db f z):(Calls Tryz.prog 24 #[.pointer (some ⟨pb,0,none⟩)] w fun e w'=>e = .returned (.pointer (some ⟨db,0,none⟩))/\w=w') /\
 Calls Tryz.prog 41 #[.pointer (some ⟨db,0,none⟩)] w fun e w'=>e = .returned (.int .i64 (z:Nat))/\w=w':=by
 obtain ⟨s,M,a,b,_⟩:=h;obtain ⟨D,hd⟩:=a.disk;refine ⟨RH w a,?_⟩;have:=SH w hd.dk;rw [b.size] at this;exact this
theorem Ln.map_ne {sz n c mb:Nat} {A:Option Addr} {cs:List Value} {g:Int->Option Value} (h:Ln w sz A n c cs) (hs:0<sz) (hm:Zl w mb g):0<n->∀ ad,A=some ad->ad.block≠mb:=by
 intro hn ad e e2;have hl:=h.len;have h0:=h.lies.2 ad e 0 (cs[0]'(by rw [hl];exact Nat.mul_pos hn hs)) (by simp);obtain ⟨es,cl,hb⟩:=hm.isMap;have hs2:=World.cell?_spot h0;rw [<- e2] at hb;obtain ⟨bl,off,sp⟩:=ad;have:sp=none:=by simpa [Addr.add] using hs2
 subst this;rw [Zn] at h0;simp [World.cell?,hb] at h0
theorem qO7 {w1:World} {mb:Nat} {A B:Option Addr} {n c m d:Nat} {T:TS} (hp:Vj W G w pb db f T.z) (hn:∀ p,0<=p->p<T.z->rdN p (f p)=T.nd p) (hG:∀ k,G k->W.heap.size<=k) (hW:Below W.heap.size W w) (hb:Below w.heap.size w w1)
 (hm:Zl w1 mb (NP T.fr)) (hmb:w.heap.size<=mb) (hs:Sp w1 A n c B m d T.sp) (hA:Hi w.heap.size A) (hB:Hi w.heap.size B) (fit:qW0 T) :
 ∃ F',Ko W G F' (w1.alloc (.cells (Yf pb mb A n c B m d T) 91)) w1.heap.size mb pb db A n c B m d f T/\Qb w G (w1.alloc (.cells (Yf pb mb A n c B m d T) 91)) F'/\∀ k,F' k ↔ G k\/XA w1.heap.size mb A n B m k:=by
 have hb2:=Qa w1 (.cells (Yf pb mb A n c B m d T) 91);have hb3:=Qe hb2 hb;have hlt:=hm.lt;have hsl:=zp6 hs;have hWs:=hW.size;have hbs:=hb.size;have own:∀ k,XA w1.heap.size mb A n B m k->w.heap.size<=k:=by
  rintro k (rfl | rfl | ⟨h0,ad,e,rfl⟩ | ⟨h0,ad,e,rfl⟩)
  ·exact hbs
  ·exact hmb
  ·exact hA ad e
  ·exact hB ad e
 refine ⟨fun k=>G k\/XA w1.heap.size mb A n B m k,⟨hp.below hb3,hn,⟨heap_alloc_new w1 _,hm.block (hb2.block mb hlt),hs.kept hb2,fun h0 ad e=>⟨?_,hs.fr.map_ne (by omega) hm h0 ad e⟩,fun h0 ad e=>⟨?_,hs.pe.map_ne (by omega) hm h0 ad e⟩,fit⟩,fun k=>Iff.rfl,fun k hk hg=>?_,fun k hk=>?_,hW.trans (hb3.mono hWs)⟩,?_,fun k=>Iff.rfl⟩
 ·have:=hsl.1 h0 ad e
  omega
 ·have:=hsl.2 h0 ad e
  omega
 ·have:=own k hk
  have:=hp.lt k hg;omega
 ·rcases hk with e | e
  ·exact hG k e
  ·have:=own k e
   omega
 ·refine ⟨Qj.below hb3 G,fun k hk=>?_⟩
  rcases hk with e | e
  ·exact Or.inl e
  ·exact Or.inr (own k e)
theorem ql0:NP (fun _=>false)=fun _=>none:=by
 funext p;rfl
def zn1 (W:World) (G:Nat->Prop) (w:World) (pb db:Nat) (f:Int->List UInt8) (T:TS) (e:Ending) (w':World):Prop :=
 ∃ tb mb A n c B m d F',e = .returned (.tuple #[.pointer (some ⟨tb,0,none⟩),.int .i64 0])/\Ko W G F' w' tb mb pb db A n c B m d f T/\Qb w G w' F'/\(∀ k,F' k ↔ G k\/XA tb mb A n B m k)/\(∀ k,XA tb mb A n B m k->w.heap.size<=k)/\Below w.heap.size w w'
theorem qD3 (w:World) (e0 rt ct ep:Int) (ht:Nat) (C:Option Addr) (k e:Nat) (A:Option Addr) (n c:Nat) (B:Option Addr) (m d:Nat) (sp:SS) (z:Nat) (nd:Int->Option ND)
 (hp:Vj W G w pb db f z) (hn:∀ p,0<=p->p<z->rdN p (f p)=nd p) (hG:∀ k,G k->W.heap.size<=k) (hW:Below W.heap.size W w) (hs:Sp w A n c B m d sp) (hf:SS.Fine sp z) (hz:z<=4096)
 (h1:1<=ep) (h2:ep<=2147483647) (h3:ht<=20) (h4:(rt==0)=(((ht:Nat):Int)==0)) (hnn:n<=400000) (hmm:m<=400000) :
 Calls Tryz.prog 19 #[.pointer (some ⟨pb,0,none⟩),.agg #[.int .i64 e0,.int .i64 rt,.int .i64 ((ht:Nat):Int),.slice C k e,.int .i64 ct],.agg #[.int .i64 sp.hi,.slice A n c,.slice B m d],.int .i64 ep] w
  (zn1 W G w pb db f ⟨rt,ht,ct,sp,ep,fun _=>false,0,nd,z⟩):=by
 have b2:=Zp w (.cells #[.int .i64 e0,.int .i64 rt,.int .i64 ((ht:Nat):Int),.slice C k e,.int .i64 ct] 53) (.cells #[.int .i64 sp.hi,.slice A n c,.slice B m d] 45);have x1:=(heap_alloc_new w (.cells #[.int .i64 e0,.int .i64 rt,.int .i64 ((ht:Nat):Int),.slice C k e,.int .i64 ct] 53));have x2:=(Qa (w.alloc (.cells #[.int .i64 e0,.int .i64 rt,.int .i64 ((ht:Nat):Int),.slice C k e,.int .i64 ct] 53)) (.cells #[.int .i64 sp.hi,.slice A n c,.slice B m d] 45)).block w.heap.size (by simp);have HU:=iQ (x2.trans x1);have x3:=Yi (w.alloc (.cells #[.int .i64 e0,.int .i64 rt,.int .i64 ((ht:Nat):Int),.slice C k e,.int .i64 ct] 53)) (.int .i64 sp.hi) (.slice A n c) (.slice B m d);rw [show (w.alloc (.cells #[.int .i64 e0,.int .i64 rt,.int .i64 ((ht:Nat):Int),.slice C k e,.int .i64 ct] 53)).heap.size=w.heap.size+1 by simp] at x3;have HB:=iQ x3;have B0:=iQ b2;have HP:=iQ (hp.below b2);have HPP:=iQ hp;have HN:=iQ hn;have HG:=iQ hG;have HW:=iQ hW;have HS:=iQ (hs.kept b2);have HF:=iQ hf;have HCK:Hid (sp.check z=0):=iQ (SS.check_ok hf);clear x1 x2 x3 b2 hp hn hG hW hs hf;go_enter Tryz.func19,Tryz.ntmps19;go_upto_region 1 with fail
 generalize (w.alloc (.cells #[.int .i64 e0,.int .i64 rt,.int .i64 ((ht:Nat):Int),.slice C k e,.int .i64 ct] 53)).alloc (.cells #[.int .i64 sp.hi,.slice A n c,.slice B m d] 45)=w0 at *;have u1:w0.cell? ⟨w.heap.size,1,none⟩=some (.int .i64 rt):=(cell_of_row w0 w.heap.size 1 _ _ _ HU.out).trans rfl;have u2:w0.cell? ⟨w.heap.size,2,none⟩=some (.int .i64 ((ht:Nat):Int)):=(cell_of_row w0 w.heap.size 2 _ _ _ HU.out).trans rfl;go_upto_region 5 with fail
 clear u1 u2;have BD:=iQ ((Below.refl w0.heap.size w0).drew);have KS:=iQ (fun wx (b:Below w0.heap.size w0 wx)=>(HB.out.kept b).cells);have KU:Hid (∀ wx,Below w0.heap.size w0 wx->wx.cell? ⟨w.heap.size,1,none⟩=some (.int .i64 rt)/\wx.cell? ⟨w.heap.size,2,none⟩=some (.int .i64 ((ht:Nat):Int))/\wx.cell? ⟨w.heap.size,4,none⟩=some (.int .i64 ct)):=iQ (fun wx b=>by
  have h:=(b.block w.heap.size (wa1.1 HU.out).1).trans HU.out;exact ⟨(cell_of_row wx w.heap.size 1 _ _ _ h).trans rfl,(cell_of_row wx w.heap.size 2 _ _ _ h).trans rfl,(cell_of_row wx w.heap.size 4 _ _ _ h).trans rfl⟩)
 go_region_held3 (fun w'=>w'.cell? ⟨w.heap.size+1,0,none⟩=some (.int .i64 sp.hi)/\w'.cell? ⟨w.heap.size+1,1,none⟩=some (.slice A n c)/\w'.cell? ⟨w.heap.size+1,2,none⟩=some (.slice B m d))
  (first | with_reducible exact KS.out _ BC.out | with_reducible exact KS.out _ BD.out)
  (first
    | (go_at_call 24;refine (HP.out.below BD.out).sizeIs.1.mono ?_;rintro e1 wq ⟨rfl,hwq⟩;subst hwq)
    | (go_at_call 41;refine (HP.out.below BD.out).sizeIs.2.mono ?_;rintro e1 wq ⟨rfl,hwq⟩;subst hwq)
    | (go_at_call 40;refine (qG3 sp sp.hi (z:Nat) A B n c m d _ rfl (HS.out.kept BD.out) hnn hmm).mono ?_;rintro e1 wC ⟨rfl,bC⟩;have BC:=iQ (Qe bC BD.out);clear bC;rw [HCK.out])
    | fail)
 go_wp2_with fail;have HMK:=iQ (@run_makeMap Tryz.prog);have K6:Hid (∀ wx,Below w0.heap.size w0 wx->wx.cell? ⟨w.heap.size,1,none⟩=some (.int .i64 rt)/\wx.cell? ⟨w.heap.size,2,none⟩=some (.int .i64 ((ht:Nat):Int))/\wx.cell? ⟨w.heap.size,4,none⟩=some (.int .i64 ct) /\
  wx.cell? ⟨w.heap.size+1,0,none⟩=some (.int .i64 sp.hi)/\wx.cell? ⟨w.heap.size+1,1,none⟩=some (.slice A n c)/\wx.cell? ⟨w.heap.size+1,2,none⟩=some (.slice B m d)):=iQ (fun wx b=>by
  obtain ⟨a1,a2,a3⟩:=KU.out wx b;obtain ⟨b1,b2,b3⟩:=KS.out wx b;exact ⟨a1,a2,a3,b1,b2,b3⟩)
 have HPC:=iQ (HP.out.below BC.out);have HSC:=iQ (HS.out.kept BC.out);have B1:=iQ (BC.out.drew);have B2:=iQ ((Qe (Qa wC (.map #[] 0)) BC.out).drew);have HWC:=iQ (Qe BC.out B0.out);have hmk:=HMK.out;clear KU KS BD HP HS;go_region_held3 (fun wx=>wx.cell? ⟨w.heap.size,1,none⟩=some (.int .i64 rt)/\wx.cell? ⟨w.heap.size,2,none⟩=some (.int .i64 ((ht:Nat):Int))/\wx.cell? ⟨w.heap.size,4,none⟩=some (.int .i64 ct) /\
  wx.cell? ⟨w.heap.size+1,0,none⟩=some (.int .i64 sp.hi)/\wx.cell? ⟨w.heap.size+1,1,none⟩=some (.slice A n c)/\wx.cell? ⟨w.heap.size+1,2,none⟩=some (.slice B m d))
  (first | exact K6.out _ B1.out | exact K6.out _ B2.out | exact K6.out _ BK.out | exact K6.out _ (BK1.out _) | exact K6.out _ (BK2.out _ _))
  (first
    | (go_at_call 39;refine (KG sp.hi A n c B m d sp _ rfl (HSC.out.kept (by first | exact (Below.refl wC.heap.size wC).drew | exact (Qa wC (.map #[] 0)).drew)) hnn hmm).mono ?_;rintro e1 wK ⟨v1,rfl,hv1,bK⟩;have BK:=iQ (Qe bK (by first | exact B1.out | exact B2.out));have BK1:=iQ (fun o=>Qe (Qa wK o) BK.out);have BK2:=iQ (fun o o'=>Qe (Zp wK o o') BK.out);have BKC:Hid (Below wC.heap.size wC wK):=iQ (Qe bK (by first | exact (Below.refl wC.heap.size wC).drew | exact (Qa wC (.map #[] 0)).drew));have hvC:=hv1;obtain ⟨AK,nK,cK,BBK,mK,dK,rfl,sK,iA,iB⟩:=hv1;have SK:=iQ sK;have IA:=iQ iA;have IB:=iQ iB;(first | (have BKM:Hid (Below ((wC.alloc (.map #[] 0)).drew).heap.size ((wC.alloc (.map #[] 0)).drew) wK):=iQ bK) | skip);clear hvC sK iA iB bK)
    | fail)
 ·have hm:=Vs wK
  rw [<- ql0] at hm;obtain ⟨F',q1,q2,q3⟩:=qO7 (w:=w) (w1:=wK.alloc (.map #[] 0)) (T:=⟨rt,ht,ct,sp,ep,fun _=>false,0,nd,z⟩) HPP.out HN.out HG.out HW.out (Qe (BK1.out (.map #[] 0)) B0.out) hm (Qe BK.out B0.out).size (SK.out.kept (Qa wK (.map #[] 0))) (Hi.low IA.out HWC.out.size) (Hi.low IB.out HWC.out.size) ⟨HF.out,fun p h=>(by cases h),hz,h1,h2⟩;rw [show (wK.alloc (.map #[] 0)).heap.size=wK.heap.size+1 by simp] at q1 q3;have HD:Hid (zn1 W G w pb db f ⟨rt,ht,ct,sp,ep,fun _=>false,0,nd,z⟩ (.returned (.tuple #[.pointer (some ⟨wK.heap.size+1,0,none⟩),.int .i64 0])) ((wK.alloc (.map #[] 0)).alloc (.cells (Yf pb wK.heap.size AK nK cK BBK mK dK ⟨rt,ht,ct,sp,ep,fun _=>false,0,nd,z⟩) 91))):=iQ
   ⟨_,_,_,_,_,_,_,_,F',rfl,q1,q2,q3,fun k hk=>by
    have hs1:=(Qe BK.out B0.out).size;have hs2:=HWC.out.size;rcases hk with rfl | rfl | ⟨h0,ad,e,rfl⟩ | ⟨h0,ad,e,rfl⟩
    ·omega
    ·exact hs1
    ·have:=IA.out ad e
     simp at this;omega
    ·have:=IB.out ad e
     simp at this;omega,Qe (BK2.out (.map #[] 0) _) B0.out⟩
  clear hm q1 q2 q3;unfold Yf at HD;go_wp2_with fail;go_ret2;exact HD.out
 ·have hm:=((Vs wC).block (w':=(wC.alloc (.map #[] 0)).drew) rfl).block (w':=wK) (BKM.out.block wC.heap.size (by show wC.heap.size<(wC.alloc (.map #[] 0)).heap.size;simp))
  rw [<- ql0] at hm;obtain ⟨F',q1,q2,q3⟩:=qO7 (w:=w) (w1:=wK) (T:=⟨rt,ht,ct,sp,ep,fun _=>false,0,nd,z⟩) HPP.out HN.out HG.out HW.out (Qe BK.out B0.out) hm HWC.out.size SK.out (Hi.low IA.out (by have:=HWC.out.size;simp;omega)) (Hi.low IB.out (by have:=HWC.out.size;simp;omega)) ⟨HF.out,fun p h=>(by cases h),hz,h1,h2⟩;have HD:Hid (zn1 W G w pb db f ⟨rt,ht,ct,sp,ep,fun _=>false,0,nd,z⟩ (.returned (.tuple #[.pointer (some ⟨wK.heap.size,0,none⟩),.int .i64 0])) (wK.alloc (.cells (Yf pb wC.heap.size AK nK cK BBK mK dK ⟨rt,ht,ct,sp,ep,fun _=>false,0,nd,z⟩) 91))):=iQ
   ⟨_,_,_,_,_,_,_,_,F',rfl,q1,q2,q3,fun k hk=>by
    have hs1:=(Qe BK.out B0.out).size;have hs2:=HWC.out.size;rcases hk with rfl | rfl | ⟨h0,ad,e,rfl⟩ | ⟨h0,ad,e,rfl⟩
    ·exact hs1
    ·exact hs2
    ·have:=IA.out ad e
     simp at this;omega
    ·have:=IB.out ad e
     simp at this;omega,Qe (BK1.out _) B0.out⟩
  clear hm q1 q2 q3;unfold Yf at HD;go_wp2_with fail;go_ret2;exact HD.out
end
theorem SS.new_fine (z:Nat) (hz:2<=z):SS.Fine ⟨2,[],[]⟩ z :=
 ⟨Int.le_refl _,by show (2:Int)<=z;omega,List.Pairwise.nil,fun x hx=>(by cases hx),List.Pairwise.nil,fun x hx=>(by cases hx),fun x hx=>(by cases hx),fun x hx=>(by cases hx),List.nodup_nil⟩
def TS.new (nd:Int->Option ND) (z:Nat):TS:=⟨0,0,0,⟨2,[],[]⟩,1,fun _=>false,0,nd,z⟩
theorem TS.new_tr (nd:Int->Option ND) (z:Nat) (hz:2<=z) (h2:z<=2147483647):TT.Tr [] nd (TS.new nd z) [] [] :=
 {acc:=⟨SS.new_fine z hz,List.nodup_nil,fun p hp=>(by cases hp),rfl,fun x hx=>(by cases hx),Int.one_nonneg,fun p hp=>(by cases hp),fun x hx=>(by cases hx),fun p hp=>(by cases hp),fun p hp=>(by cases hp)⟩
  root:=Or.inl ⟨rfl,rfl,rfl,rfl⟩
  ct:=rfl
  lost:=rfl
  z_:=h2 }
def zi7 (W w:World) (n:Nat) (e:Ending) (w':World):Prop :=
 ∃ tb mb pb db A k c B m d G F f nd,e = .returned (.tuple #[.pointer (some ⟨tb,0,none⟩),.pointer (some ⟨pb,0,none⟩)])/\Ko W G F w' tb mb pb db A k c B m d f (TS.new nd n)/\Below w.heap.size w w'/\∀ k,F k->w.heap.size<=k
theorem CJ {W:World} (w:World) (n fr:Nat) (h1:2<=n) (h2:n<=4096) (h3:1<=fr) (h4:fr<=12) (hW:Below W.heap.size W w) :
 Calls Tryz.prog 27 #[.int .i64 ((n:Nat):Int),.int .i64 ((fr:Nat):Int)] w (zi7 W w n):=by
 have HW:=iQ hW;clear hW;go_enter Tryz.func27,Tryz.ntmps27;go_wp2_with fail;refine (qP6 (W:=W) w n h1 h2 HW.out).mono ?_;rintro e w1 ⟨db,D,rfl,hd,b1,hD⟩;have HD:=iQ hd;have B1:=iQ b1;have HDD:=iQ hD;clear hd b1 hD;go_wp2_with fail;refine (qC7 (W:=W) w1 fr h3 (by omega) HD.out).mono ?_;rintro e w2 ⟨pb,G,rfl,hp,m2,b2⟩;have B2:=iQ (Qe b2 B1.out);have HG:Hid (∀ k,G k->w.heap.size<=k):=iQ (fun k hk=>by
  rcases m2.news k hk with e | e
  ·exact HDD.out k e
  ·exact wa9 B1.out.size e)
 have TP:Hid (Vj W G w2 pb db (PS.new n).held n):=iQ ⟨_,fr,hp,qT5 (qP5 n) (zk1 n) h3 rfl,h4⟩;have HPB:=iQ hp.base;have HBL:=iQ hp.below;have OL:=qD3 (W:=W) w2 0 0 0 1 0 none 0 0 none 0 0 none 0 0 ⟨2,[],[]⟩ n (fun p=>rdN p ((PS.new n).held p)) TP.out (fun _ _ _=>rfl) HPB.out HBL.out ⟨Ln.none_ w2 1,Ln.none_ w2 2⟩ (SS.new_fine n h1) h2 (by decide) (by decide) (by decide) rfl (by decide) (by decide);have HO:=iQ OL;rw [show (((0:Nat):Int))=0 from rfl] at HO;clear OL hp m2 b2 HD;go_wp2_with fail;refine HO.out.mono ?_;rintro e w3 ⟨tb,mb,A,k,c,B,m,d,F,rfl,ht,m3,hF,hown,b3⟩;have HX:Hid (zi7 W w n (.returned (.tuple #[.pointer (some ⟨tb,0,none⟩),.pointer (some ⟨pb,0,none⟩)])) w3):=iQ ⟨tb,mb,pb,db,A,k,c,B,m,d,G,F,_,_,rfl,ht,Qe b3 B2.out,fun k hk=>by
  rcases (hF k).1 hk with e | e
  ·exact HG.out k e
  ·exact wa9 B2.out.size (hown k e)⟩
 clear ht m3 hF hown b3 HO;go_wp2_with fail;go_ret2;exact HX.out
def zi9 (W:World) (nd:Int->Option ND) (e:Ending) (w':World):Prop :=
 ∃ tb pb db g F t es L,e = .returned (.tuple #[.pointer (some ⟨tb,0,none⟩),.pointer (some ⟨pb,0,none⟩),.pointer (some ⟨g,0,none⟩)])/\VM W [] nd tb pb db g F t es L w'/\t.z=1000/\t.ep=1/\es.length<=150
theorem QQ {W:World} (w:World) (hW:Below W.heap.size W w) (fr:Nat) (f1:1<=fr) (f2:fr<=10) (A:Option Addr) (n c:Nat) (l:List Uk) (hl:l.length=n) (hs:Xq W W.heap.size A l) (hn:n<=maxLen) :
 Calls Tryz.prog 12 #[.int .i64 ((fr:Nat):Int),.slice A n c] w (fun e w'=>∃ nd,zi9 W nd e w'):=by
 have HGR:=iQ (fun (w:World) (F:Nat->Prop) (tb pb db g:Nat) (nd:Int->Option ND) (t:TS) (h:VM W [] nd tb pb db g F t [] [] w) (hz:t.z=1000)=>qs5 (a:=0) w A n c 150 l hl hs hn h (wa2 _) (by rw [hz];decide) (by decide));have LN:=CJ (W:=W) w 1000 fr (by decide) (by decide) f1 (by omega) hW;rw [show (((1000:Nat):Int))=1000 from rfl] at LN;have HLN:=iQ LN;clear LN hs hl hn hW;go_enter Tryz.func12,Tryz.ntmps12;go_wp2_with fail;refine HLN.out.mono ?_;rintro e w2 ⟨tb,mb,pb,db,TA,tk,tc,TB,tm,td,G,F,f,nd,rfl,ht,b2,hF⟩;have GR:=HGR.out (w2.alloc (.cells #[.slice none 0 0] 36)) F tb pb db w2.heap.size nd (TS.new nd 1000)
  ⟨ht.tree.kept (Qa _ _),zb3 (es:=[]) (Ln.none_ w2 2) ht.tree.lt (fun h=>absurd h (by decide)),TS.new_tr nd 1000 (by decide) (by decide),ht.tree.below.size⟩ rfl
 rw [show (((150:Nat):Int))=150 from rfl] at GR;have HG:=iQ GR;clear ht b2 hF HLN HGR GR;go_wp2_with fail;generalize hw3:w2.alloc (.cells #[.slice none 0 0] 36)=w3 at *;generalize w2.heap.size=g at *;clear hw3;refine HG.out.mono ?_;rintro e w4 ⟨rfl,F4,t,es,L,h4,m4,z4,p4,l4⟩;have HE:Hid (∃ nd,zi9 W nd (.returned (.tuple #[.pointer (some ⟨tb,0,none⟩),.pointer (some ⟨pb,0,none⟩),.pointer (some ⟨g,0,none⟩)])) w4):=iQ ⟨nd,tb,pb,db,g,F4,t,es,L,rfl,h4,z4,p4,by omega⟩;clear h4 m4 z4 p4 l4 HG;go_wp2_with fail;refine bodyPost_ret (v := .tuple #[.pointer (some ⟨tb,0,none⟩),.pointer (some ⟨pb,0,none⟩),.pointer (some ⟨g,0,none⟩)]) (by simp [results,Tryz.results12,go_sem]) rfl ?_;exact HE.out
end
end Go.Proofs.YtfiflinbicbedaaGreat
