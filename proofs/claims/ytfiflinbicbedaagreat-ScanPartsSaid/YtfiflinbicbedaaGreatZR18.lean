/-
  A part of the proof. Conditions: none.
-/
import Derived.Test.YtfiflinbicbedaaGreatZR17

set_option maxRecDepth 20000
set_option maxHeartbeats 12800000
namespace Go.Proofs.YtfiflinbicbedaaGreat
section
open Go.RowKit Go.Maps
attribute [local go_sem] Oper.semAt_some
attribute [local go_sem,local simp] Jp QU
theorem TN (p:Option Addr) (f:Nat) (caps:Array Value) (w:World) :
 Calls Tryz.prog 33 #[.pointer p,.func (.func f) #[] caps] w fun e w'=>e = .returned (.func (.func 62) #[] #[.pointer (some ⟨w.heap.size,0,none⟩),.pointer (some ⟨w.heap.size+1,0,none⟩)])/\(w.alloc (.cells #[.pointer p] 24)).alloc (.cells #[.func (.func f) #[] caps] 78)=w':=by
 go_enter Tryz.func33,Tryz.ntmps33;go_wp2_with fail;go_ret;exact ⟨rfl,rfl⟩
def UU (vs:List SC.Vis) (e0:Int) (pre:List (VV×Int)) (x:VV×Int) (U:Nat->Prop) (W:World):Prop :=
 (∀ y∈pre,y.2=0)/\((x.2=0/\x.1.x.ok W U/\∃ rest,vs=(pre++[x]).map (fun y=>y.1.vis)++rest)\/(x.2=121/\e0=121/\x.1=VV.zero/\vs=pre.map (fun y=>y.1.vis)))
def QJ (W:World) (tb pb db:Nat) (t:TS) (vs:List SC.Vis) (e0:Int) (b:Bool) (xs:List (VV×Int)) (I:Nat->Prop) (w:World):Prop :=
 ∃ F er,(∀ k,F k->I k)/\Ql W F w tb pb db (t.told er)/\((∀ y∈xs,y.2=0)->er=0/\(b=true->e0=0/\vs=xs.map (fun y=>y.1.vis)))
section
variable {W w0:World} {R F0:Nat->Prop} {tb pb db:Nat} {t:TS} {want:SC.V->Bool} {Z:Int->Prop} {vs:List SC.Vis} {e0:Int}
theorem qD7:ZQ []=fun _=>none:=by
 funext p;unfold ZQ NP;simp
theorem qe7 {J:Jo (VV×Int)} {W1 w':World} {C0:Nat->Prop} {mb:Nat} {v:Value} {st:List SC.V} (hT:Ql W F0 W1 tb pb db t) (b:Below W1.heap.size W1 w') (hJ:Xe W.heap.size R J) (h0:J [] C0 F0 W1) (s0:Jc W.heap.size R C0 F0 W1)
 (rs:∀ k,R k->W1.heap[k]?=w0.heap[k]?) (hmb:W1.heap.size=mb) (hm:Zl w' mb (ZQ [])) (nx:Xt w' W.heap.size (mb+1) v st) (hv:∀ g,v.ownBlock=some g->mb<=g) (wk:SC.Walk t.nd want st [] vs e0) (hs:∀ u∈st,Z u.pg/\1<=u.ht/\u.ht<=100) (hl:st.length<=1000) (hsz:mb+2<=w'.heap.size) :
 VsR W w0 R J tb pb db mb (mb+1) t want Z vs e0 [] w':=by
 subst hmb;have mv:Qb W1 F0 w' (fun k=>F0 k\/(W1.heap.size<=k/\k<w'.heap.size)):=⟨Qj.below b F0,fun k hk=>hk.imp id And.left⟩;have hlt:=hT.lt;have hWs:=hT.below.size;have hn:∀ k,W1.heap.size<=k->¬ F0 k:=fun k hk e=>by have:=hlt k e;omega
 have hi:∀ k,(F0 k\/(W1.heap.size<=k/\k<w'.heap.size))->k<w'.heap.size:=fun k hk=>by
  rcases hk with e | e
  ·have:=hlt k e
   have:=b.size;omega
  ·exact e.2
 refine ⟨[],C0,(fun k=>F0 k\/(W1.heap.size<=k/\k<w'.heap.size)),F0,v,st,[],vs,?_⟩;exact
  {rsame:=fun k hk=>(b.block k (s0.r k hk).1).trans (rs k hk)
   all:=rfl
   ok:=fun y hy=>(by cases hy)
   same:=rfl
   walk:=wk
   inv:=hJ _ _ _ _ _ _ h0 s0 mv hi
   sep:=s0.mo mv hi
   tree:=hT.kept b
   met_:=hm
   next:=nx
   fI:=fun k hk=>Or.inl hk
   mI:=⟨Or.inr ⟨wa2 _,by omega⟩,hn _ (wa2 _),hWs⟩
   nI:=⟨Or.inr ⟨by omega,by omega⟩,hn _ (by omega),by omega⟩
   vI:=fun g e=>⟨Or.inr ⟨hv g e,(nx.row e).2⟩,hn _ (hv g e)⟩
   dI:=fun D hD=>(by cases hD)
   once:=List.nodup_nil
   hts:=hs
   short:=by simp;omega
   ltI:=hi }
theorem qO9 {w:World} {B nb:Nat} (h:w.heap[nb]?=some (.cells #[.slice none 0 0] 83 (0,0))):Xt w B nb (.slice none 0 0) []:=⟨[],rfl,fun x hx=>(by cases hx),h,World.ownsRow_nil _ _ _ _⟩
theorem zj9 {w:World} {B nb:Nat} {v0:Value} (h:w.heap[nb]?=some (.cells #[v0] 83 (0,0))) (hB:B<=w.heap.size) (p ht:Int) :
 Xt ((w.alloc (.cells #[.int .i64 p,.int .i64 ht,.string ⟨#[]⟩,.string ⟨#[]⟩,.bool false,.slice none 0 0,.slice none 0 0,.slice none 0 0] 77)).setCell ⟨nb,0,none⟩ (.slice (some ⟨w.heap.size,0,none⟩) 1 1)) B nb (.slice (some ⟨w.heap.size,0,none⟩) 1 1) [⟨p,ht,[],[]⟩]:=by
 have hlt:=(wa1.1 h).1;refine ⟨[⟨p,ht,⟨#[]⟩,⟨#[]⟩,NV.zero⟩],?_,fun x hx=>by rw [wa4.1 hx],(Joins.block_setCell (i:=0) ((Below.heap_alloc w _ nb hlt).trans h) _).trans rfl,?_⟩
 ·have e:ByteArray.toList ⟨#[]⟩=[]:=by rw [Yb]
  simp [VV.v,e]
 ·have o:=World.ownsRow_lit w #[.int .i64 p,.int .i64 ht,.string ⟨#[]⟩,.string ⟨#[]⟩,.bool false,.slice none 0 0,.slice none 0 0,.slice none 0 0] 1 (e:=77) (size:=8) hB (by decide) rfl
  refine Zb o (fun q eq=>Below.heap_setCell _ _ _ _ (fun e=>?_));injection eq with eq
  have e2:q=nb:=e;have e3:w.heap.size=q:=eq;omega
theorem qB0 {K:Act->World->Prop} {Q:Exit->Act->World->Prop}:∀ e a w,Exit.then K (fun _ _ _=>False) e a w->Exit.then K Q e a w:=by
 intro e a w h;cases e<;>first | exact h | exact h.elim
theorem NV.ok.far {w:World} {F U:Nat->Prop} {x:NV} {b:Nat} (h:x.ok w F) (hh:x.hi b) (hU:∀ k,U k->F k\/k<b):x.ok w U:=by
 have mv:∀ {A:Option Addr} {n c:Nat} {cs:List Value},Xv w F 1 A n c cs->Yp b A->Xv w U 1 A n c cs:=fun {A n c cs} h1 h2 =>
  ⟨h1.ln,fun hn ad e hk=>by
   rcases hU _ hk with hk | hk
   ·exact h1.out hn ad e hk
   ·have:=h2 ad e
    omega⟩
 exact ⟨mv h.ke hh.1,mv h.va hh.2.1,mv h.ki hh.2.2⟩
theorem qE0 (w:World) (p h:Int) (lo hi:ByteArray) (j:Nat) (u:Value) (hu:(VV.mk p h lo hi NV.zero).cells[j]?=some u) :
 (w.alloc (.cells #[.int .i64 p,.int .i64 h,.string lo,.string hi,.bool false,.slice none 0 0,.slice none 0 0,.slice none 0 0] 77)).cell? ((⟨w.heap.size,0,none⟩:Addr).add j)=some u:=by
 obtain ⟨a0,a1,a2,a3,a4,a5,a6,a7⟩:=(Zj w (.int .i64 p) (.int .i64 h) (.string lo) (.string hi) (.bool false) (.slice none 0 0) (.slice none 0 0) (.slice none 0 0)).cells;have hj:j<8:=(wa8.1 hu).1;rw [VS,we6]
 match j,hj with
 | 0,_=>rw [a0];exact hu
 | 1,_=>rw [a1];exact hu
 | 2,_=>rw [a2];exact hu
 | 3,_=>rw [a3];exact hu
 | 4,_=>rw [a4];exact hu
 | 5,_=>rw [a5];exact hu
 | 6,_=>rw [a6];exact hu
 | 7,_=>rw [a7];exact hu
theorem zj1 {su:SC.V} {st:List SC.V} {met met':List Int} {rest:List SC.Vis} {x u:VV} {r er:Int} (hw:SC.Walk t.nd want (su::st) met rest e0) (hx:x.v=su)
 (h:(r=0/\er=0/\u.v=x.v/\x.pg ∉ met/\TS.nodeAt t.nd x.pg (x.ht==1)=some u.x.s/\met'=x.pg::met)\/(r=121/\u=VV.zero/\(x.pg∈met\/(x.pg ∉ met/\TS.nodeAt t.nd x.pg (x.ht==1)=none)))) :
 (r=0/\er=0/\u.v=su/\met'=su.pg::met/\TS.nodeAt t.nd su.pg (su.ht==1)=some u.x.s/\∃ rest',rest=u.vis::rest'/\SC.Walk t.nd want ((SC.kids su u.x.s).filter want++st) (su.pg::met) rest' e0)\/(r=121/\u=VV.zero/\e0=121/\rest=[]):=by
 subst hx;rcases h with ⟨h1,h2,h3,h4,h5,h6⟩ | ⟨h1,h2,h3⟩
 ·left
  cases hw with
  | again a=>exact absurd a h4
  | none _ a=>rw [show TS.nodeAt t.nd x.v.pg (x.v.ht==1)=TS.nodeAt t.nd x.pg (x.ht==1) from rfl,h5] at a;cases a
  | @step _ _ _ n vs' _ _ a k =>
    rw [show TS.nodeAt t.nd x.v.pg (x.v.ht==1)=TS.nodeAt t.nd x.pg (x.ht==1) from rfl,h5] at a;obtain rfl:=wa0 a;exact ⟨h1,h2,h3,h6,h5,vs',by unfold VV.vis;rw [h3],k⟩
 ·right
  refine ⟨h1,h2,?_⟩;cases hw with
  | again a=>exact ⟨rfl,rfl⟩
  | none _ a=>exact ⟨rfl,rfl⟩
  | step a b _ =>
    rcases h3 with h3 | ⟨_,h3⟩
    ·exact absurd h3 a
    ·rw [show TS.nodeAt t.nd x.v.pg (x.v.ht==1)=TS.nodeAt t.nd x.pg (x.ht==1) from rfl,h3] at b
     cases b
theorem UK.marks_ {J:Jo (VV×Int)} {mb nb:Nat} {Ds:List Nat} {pre:List (VV×Int)} {C I F:Nat->Prop} {v:Value} {st:List SC.V} {met:List Int} {w:World} (h:UK W w0 R J tb pb db mb nb t Ds pre C I F v st met w):Ds.Nodup/\∀ D∈Ds,w.heap[D]?=some (.deferred (some [])) :=
 ⟨h.once,fun D hD=>(h.dI D hD).2.2.2⟩
theorem qa3 {J Jx:Jo (VV×Int)} {Jt:Jo (VV×Int)} {b:Bool} {mb nb:Nat} {Ds:List Nat} {pre:List (VV×Int)} {C I F:Nat->Prop} {v:Value} {st:List SC.V} {met:List Int} {w:World} {er:Int} (hJ:Xe W.heap.size R Jt) (h:UK W w0 R Jt tb pb db mb nb (t.told er) Ds pre C I F v st met w)
 (hb:(∀ y∈pre,y.2=0)->er=0/\(b=true->e0=0/\vs=pre.map (fun y=>y.1.vis))) (hJt:Jt=if b then J else Jx:=by rfl) (W':World) (hm:Qb w (·∈Ds) W' (·∈Ds)):QK W.heap.size R J Jx (QJ W tb pb db t vs e0) (.returned (.tuple #[])) W':=by
 obtain ⟨hj,hs,hT⟩:=qv6 hJ h.inv h.sep h.tree (fun D hD=>⟨(h.dI D hD).1,(h.dI D hD).2.1,(h.dI D hD).2.2.1⟩) hm;refine ⟨⟨_,rfl⟩,C,I,hs,?_⟩;cases b with
 | true =>
   subst hJt;exact Or.inl ⟨pre,⟨F,er,h.fI,hT,hb⟩,hj⟩
 | false =>
   subst hJt;exact Or.inr ⟨pre,⟨F,er,h.fI,hT,hb⟩,hj⟩
def FdC (W:World) (F:Nat->Prop) (w:World) (tb pb db mb:Nat) (met:List Int) (vv:VV) (t:TS) (s8 s9:Value) (w':World):Prop :=
 ∃ (g8:Nat) (u:VV) (r:Int) (F':Nat->Prop) (er:Int) (met':List Int),s8 = .pointer (some ⟨g8,0,none⟩)/\s9 = .int .i64 r/\VBx w' g8 u/\w.heap.size<=g8/\¬ F' g8/\Ql W F' w' tb pb db (t.told er)/\Zl w' mb (ZQ met')/\Qb w (plus F mb) w' (plus F' mb)/\¬ F' mb/\u.x.ok w' (plus F' mb)/\u.x.hi w.heap.size /\
   ((r=0/\er=0/\u.v=vv.v/\vv.pg ∉ met/\TS.nodeAt t.nd vv.pg (vv.ht==1)=some u.x.s/\met'=vv.pg::met)\/(r=121/\u=VV.zero/\(vv.pg∈met\/(vv.pg ∉ met/\TS.nodeAt t.nd vv.pg (vv.ht==1)=none))))
theorem zc8 {F:Nat->Prop} {w wx w2:World} {mb:Nat} {met:List Int} {vv u:VV} {r:Int} {F':Nat->Prop} {er:Int} {met':List Int} (b:Below w.heap.size w wx) (h1:Ql W F' w2 tb pb db (t.told er)) (h2:Zl w2 mb (ZQ met')) (h3:Qb wx (plus F mb) w2 (plus F' mb)) (h9:¬ F' mb) (h4:u.x.ok w2 (plus F' mb)) (h5:u.x.hi wx.heap.size)
 (h6:(r=0/\er=0/\u.v=vv.v/\vv.pg ∉ met/\TS.nodeAt t.nd vv.pg (vv.ht==1)=some u.x.s/\met'=vv.pg::met)\/(r=121/\u=VV.zero/\(vv.pg∈met\/(vv.pg ∉ met/\TS.nodeAt t.nd vv.pg (vv.ht==1)=none)))) :
 FdC W F w tb pb db mb met vv t (.pointer (some ⟨w2.heap.size,0,none⟩)) (.int .i64 r) (w2.alloc (.cells #[.int .i64 u.pg,.int .i64 u.ht,.string u.lo,.string u.hi,.bool u.x.s.leaf,.slice u.x.A u.x.n u.x.c,.slice u.x.B u.x.m u.x.d,.slice u.x.C u.x.k u.x.e] 77)):=by
 have ba:=Qa w2 (.cells #[.int .i64 u.pg,.int .i64 u.ht,.string u.lo,.string u.hi,.bool u.x.s.leaf,.slice u.x.A u.x.n u.x.c,.slice u.x.B u.x.m u.x.d,.slice u.x.C u.x.k u.x.e] 77);exact ⟨_,u,r,F',er,met',rfl,rfl,Zj w2 _ _ _ _ _ _ _ _,wa9 b.size h3.kept.size,h1.new (wa2 _),h1.kept ba,h2.block (ba.block mb h2.lt),((Qb.ob b).trans h3).trans (Qb.ob ba),h9,h4.kept ba,h5.low b.size,h6⟩
theorem zc7 {F:Nat->Prop} {w wx w2:World} {mb g8:Nat} {met:List Int} {vv u:VV} {r:Int} {F':Nat->Prop} {er:Int} {met':List Int} (b:Below w.heap.size w wx) (hg:w.heap.size<=g8) (hgx:g8<wx.heap.size) (hF:∀ k,F k->k<w.heap.size) (hmb:mb<w.heap.size) (hW:W.heap.size<=w.heap.size) (hb:VBx w2 g8 VV.zero) (h1:Ql W F' w2 tb pb db (t.told er)) (h2:Zl w2 mb (ZQ met')) (h3:Qb wx (plus F mb) w2 (plus F' mb)) (h9:¬ F' mb) (h4:u.x.ok w2 (plus F' mb)) (h5:u.x.hi wx.heap.size)
 (h6:(r=0/\er=0/\u.v=vv.v/\vv.pg ∉ met/\TS.nodeAt t.nd vv.pg (vv.ht==1)=some u.x.s/\met'=vv.pg::met)\/(r=121/\u=VV.zero/\(vv.pg∈met\/(vv.pg ∉ met/\TS.nodeAt t.nd vv.pg (vv.ht==1)=none)))) :
 FdC W F w tb pb db mb met vv t (.pointer (some ⟨g8,0,none⟩)) (.int .i64 r) ((((((((w2.setCell ⟨g8,0,none⟩ (.int .i64 u.pg)).setCell ⟨g8,1,none⟩ (.int .i64 u.ht)).setCell ⟨g8,2,none⟩ (.string u.lo)).setCell ⟨g8,3,none⟩ (.string u.hi)).setCell ⟨g8,4,none⟩ (.bool u.x.s.leaf)).setCell ⟨g8,5,none⟩ (.slice u.x.A u.x.n u.x.c)).setCell ⟨g8,6,none⟩ (.slice u.x.B u.x.m u.x.d)).setCell ⟨g8,7,none⟩ (.slice u.x.C u.x.k u.x.e)):=by
 have hnF:¬ plus F' mb g8:=fun e=>by
  rcases h3.news g8 e with (e | e) | e
  ·have:=hF g8 e
   omega
  ·omega
  ·omega
 have gr:=Vw w2 g8 (.int .i64 u.pg) (.int .i64 u.ht) (.string u.lo) (.string u.hi) (.bool u.x.s.leaf) (.slice u.x.A u.x.n u.x.c) (.slice u.x.B u.x.m u.x.d) (.slice u.x.C u.x.k u.x.e);exact ⟨g8,u,r,F',er,met',rfl,rfl,Ze.put hb _ _ _ _ _ _ _ _,hg,fun e=>hnF (Or.inl e),h1.grown gr (fun k e=>by obtain rfl:=wa0 e;exact ⟨fun e=>hnF (Or.inl e),wa9 hW hg⟩),
  h2.block (gr.block mb h2.lt (fun e=>by have:=wa0 e;omega)),((Qb.ob b).trans h3).grown gr (fun k e=>by obtain rfl:=wa0 e;exact hg),h9,h4.grown h5 hgx gr,h5.low b.size,h6⟩
theorem TG (gb wb:Nat) (wf:FuncId) (caps:Array Value) (hT:Ql W F0 w0 tb pb db t) (hl:t.lost=0) (hw:SC.Walk t.nd want (SC.start0 t) [] vs e0) (hZ:Way t.z t.nd want Z vs e0) (hst:∀ u∈SC.start0 t,Z u.pg) (hht:t.ht<=100)
 (hgb:w0.cell? ⟨gb,0,none⟩=some (.pointer (some ⟨tb,0,none⟩))) (hwb:w0.cell? ⟨wb,0,none⟩=some (.func (.func wf) #[] caps)) (hR:R gb/\R wb) (hRl:∀ k,R k->k<w0.heap.size)
 (eg:∀ args w,(callFunc wf args).run Tryz.prog w = .ok (.enter wf args) w)
 (hwant:∀ (u:VV) (W':World),(∀ k,R k->W'.heap[k]?=w0.heap[k]?)->Calls Tryz.prog wf (#[u.val]++caps) W' (fun e w'=>e = .returned (.bool (want u.v))/\Below W'.heap.size W' w')) :
 zn2 Tryz.prog W.heap.size R 62 #[.pointer (some ⟨gb,0,none⟩),.pointer (some ⟨wb,0,none⟩)] (fun x:VV×Int=>#[x.1.val,.int .i64 x.2]) F0 (UU vs e0) (QJ W tb pb db t vs e0) w0:=by
 intro l J Jx C0 W1 hW1 hJ hJx hY h0 s0;have HT:=iQ (hT.kept hW1);have HRS:Hid (∀ k,R k->W1.heap[k]?=w0.heap[k]?):=iQ (fun k hk=>hW1.block k (hRl k hk));have H0:=iQ (And.intro h0 s0);have HY:=iQ hY;have HJ:=iQ (And.intro hJ hJx);have HWK:=iQ hw;have HZZ:=iQ (And.intro hZ hst);have HWA:=iQ hwant;have HL:=iQ hl;have HRR:=iQ hR;have HGB:=iQ (And.intro hgb hwb);have g0:W1.cell? ⟨gb,0,none⟩=some (.pointer (some ⟨tb,0,none⟩)):=(hW1.cell (p:=⟨gb,0,none⟩) (hRl _ hR.1)).trans hgb;have HTB:=iQ hT.base;have HTL:=iQ (hT.kept hW1).lt;have TY:=iQ (hT.kept hW1).below.size;clear h0 s0 hY hJ hJx hw hZ hst hwant hl hR hgb hwb hT hRl hW1;refine callsIn_of_wp_marks Tryz.func62 rfl trivial (wpIn_wide.2 ?_) rfl;simp only [Tryz.ntmps62,List.size_toArray,List.length_cons,List.length_nil,Nat.reduceAdd,Nat.reduceSub,Array.replicate_succ,Array.replicate_zero,List.push_toArray,List.append_toArray,List.nil_append,List.cons_append];have hmk:=@run_makeMap Tryz.prog;have b1:=Qa W1 (.map #[] 0);go_upto_region 1 with fail
 clear hmk;have hm:=Vs W1;generalize hw2:W1.alloc (.map #[] 0)=w2 at *;have hs2:w2.heap.size=W1.heap.size+1:=by rw [<- hw2];simp
 clear hw2;have b3:=Qa w2 (.cells #[.slice none 0 0] 83);have HNB:Hid ((w2.alloc (.cells #[.slice none 0 0] 83)).heap[w2.heap.size]?=some (.cells #[.slice none 0 0] 83 (0,0))):=iQ (heap_alloc_new w2 _);have B3:=iQ (Qe b3 b1);have HM3:=iQ (hm.block (b3.block _ (by omega)));have HS3:Hid ((w2.alloc (.cells #[.slice none 0 0] 83)).heap.size=W1.heap.size+2):=iQ (by simp [hs2]);have T3:=iQ (HT.out.kept B3.out);rw [hs2] at HNB;go_upto_region 2 with fail
 generalize hw3:w2.alloc (.cells #[.slice none 0 0] 83)=w3 at *;clear hw3 hs2 b1 b3 hm;obtain ⟨mb,hmb⟩:∃ mb,W1.heap.size=mb:=⟨_,rfl⟩;have g3:w3.cell? ⟨gb,0,none⟩=some (.pointer (some ⟨tb,0,none⟩)):=(B3.out.cell (World.block_lt_of_cell? _ _ g0)).trans g0;rw [hmb] at HNB HM3 HS3 ⊢;go_wp2_with fail;refine (TC w3 T3.out).mono ?_;rintro e w4 ⟨rfl,b4⟩;have b5:=Qa w4 (.cells #[.int .i64 t.ep,.int .i64 t.rt,.int .i64 ((t.ht:Nat):Int),.slice none 0 0,.int .i64 t.ct] 53);have HU:=iQ (qa7 w4 (.int .i64 t.ep) (.int .i64 t.rt) (.int .i64 ((t.ht:Nat):Int)) (.slice none 0 0) (.int .i64 t.ct));have B5:=iQ (Qe b5 b4);clear b4 b5 g3;unfold atV;go_upto_region 3 with fail
 generalize hw5:w4.alloc (.cells #[.int .i64 t.ep,.int .i64 t.rt,.int .i64 ((t.ht:Nat):Int),.slice none 0 0,.int .i64 t.ct] 53)=w5 at *;generalize w4.heap.size=ub at *;clear hw5;obtain ⟨_,u1,u2,_,_⟩:=HU.out.cells
 go_upto_if 17 with fail
 go_cut [] from 15 to 23 (fun wx=>VsR W w0 R J tb pb db mb (mb+1) t want Z vs e0 [] wx)
 case first =>
  rw [<- qD7] at HM3;have HM5:=iQ (HM3.out.block (B5.out.block mb HM3.out.lt));have HN5:=iQ ((B5.out.block (mb+1) (by have:=HS3.out;omega)).trans HNB.out);have BW:=iQ (Qe B5.out B3.out);have HSZ:Hid (mb+2<=w5.heap.size):=iQ (by have:=HS3.out;have:=B5.out.size;omega);have HMB:=iQ hmb;clear hmb g0 u1 HM3 HNB HS3 T3 B3 B5;by_cases h0:t.ht=0
  ·have hz:((t.ht:Nat):Int)<=0:=by omega
   have HE:Hid (VsR W w0 R J tb pb db mb (mb+1) t want Z vs e0 [] w5):=iQ (qe7 HT.out BW.out HJ.out.1 H0.out.1 H0.out.2 HRS.out HMB.out HM5.out (qO9 HN5.out) (fun g e=>by cases e) (by have:=HWK.out;unfold SC.start0 at this;rw [if_pos h0] at this;exact this) (fun u hu=>by cases hu) (by simp) HSZ.out);clear h0;go_wp2_with fail
   go_meet
   exact HE.out
  ·have hz:0<((t.ht:Nat):Int):=by omega
   have HE:Hid (VsR W w0 R J tb pb db mb (mb+1) t want Z vs e0 [] ((w5.alloc (.cells #[.int .i64 t.rt,.int .i64 ((t.ht:Nat):Int),.string ⟨#[]⟩,.string ⟨#[]⟩,.bool false,.slice none 0 0,.slice none 0 0,.slice none 0 0] 77)).setCell ⟨mb+1,0,none⟩ (.slice (some ⟨w5.heap.size,0,none⟩) 1 1))):=iQ (by
    have hWK:=HWK.out;have hst:=HZZ.out.2;unfold SC.start0 at hWK hst;rw [if_neg h0] at hWK hst;have ba:=Qa w5 (.cells #[.int .i64 t.rt,.int .i64 ((t.ht:Nat):Int),.string ⟨#[]⟩,.string ⟨#[]⟩,.bool false,.slice none 0 0,.slice none 0 0,.slice none 0 0] 77);have bb:=(Qe ba BW.out).setCell (p:=⟨mb+1,0,none⟩) (show W1.heap.size<=mb+1 by have:=HMB.out;omega) (.slice (some ⟨w5.heap.size,0,none⟩) 1 1);refine qe7 HT.out bb HJ.out.1 H0.out.1 H0.out.2 HRS.out HMB.out ?_ (zj9 HN5.out (wa9 TY.out BW.out.size) _ _) (fun g e=>?_) hWK (fun u hu=>?_) (by simp) ?_
    ·exact (HM5.out.block (ba.block mb HM5.out.lt)).block (Below.heap_setCell _ _ _ _ (by show mb≠mb+1;omega))
    ·injection e with e
     have:w5.heap.size=g:=e;have:=HSZ.out;omega
    ·refine ⟨hst u hu,?_⟩
     obtain rfl:u=⟨t.rt,t.ht,[],[]⟩:=(by simpa using hu);exact ⟨show (1:Int)<=((t.ht:Nat):Int) by omega,show ((t.ht:Nat):Int)<=100 by omega⟩
    ·have:=HSZ.out
     simp;omega)
   have hc:w5.cell? ⟨mb+1,0,none⟩=some (.slice none 0 0):=(cell_of_row w5 (mb+1) 0 _ _ _ HN5.out).trans rfl;have hf:w5.frozen? ⟨mb+1,0,none⟩=false:=frozen_of_row w5 (mb+1) 0 _ _ HN5.out;have HNA:=(Qa w5 (.cells #[.int .i64 t.rt,.int .i64 ((t.ht:Nat):Int),.string ⟨#[]⟩,.string ⟨#[]⟩,.bool false,.slice none 0 0,.slice none 0 0,.slice none 0 0] 77)).block (mb+1) (wa1.1 HN5.out).1 |>.trans HN5.out
   have hc2:(w5.alloc (.cells #[.int .i64 t.rt,.int .i64 ((t.ht:Nat):Int),.string ⟨#[]⟩,.string ⟨#[]⟩,.bool false,.slice none 0 0,.slice none 0 0,.slice none 0 0] 77)).cell? ⟨mb+1,0,none⟩=some (.slice none 0 0):=(cell_of_row _ (mb+1) 0 _ _ _ HNA).trans rfl;have hf2:=frozen_of_row _ (mb+1) 0 _ _ HNA;obtain ⟨_,u1,u2,_,_⟩:=HU.out.cells;clear h0 HNA;go_wp2_with fail
   go_meet
   exact HE.out
 case rest =>
  have HR0:=iQ hcut;have HMB:=iQ hmb;clear hcut u1 u2 HT H0 HM3 HNB HS3 T3 B3 B5 HU g0 hmb;go_wp2_with fail;refine wp_loop (fun a' w'=>∃ (u:Nat->Value) (Ds:List Nat),Hid (VsR W w0 R J tb pb db mb (mb+1) t want Z vs e0 Ds w')/\a'={ tmps:=#[.func (.yield l) #[] #[],.pointer (some ⟨gb,0,none⟩),.pointer (some ⟨wb,0,none⟩),undef,.map (some mb),.pointer (some ⟨mb+1,0,none⟩),.pointer (some ⟨ub,0,none⟩),u 7,u 8,u 9,u 10,u 11,.map (some mb),.pointer (some ⟨tb,0,none⟩),.agg #[.int .i64 t.ep,.int .i64 t.rt,.int .i64 ((t.ht:Nat):Int),.slice none 0 0,.int .i64 t.ct],u15,u16,u17,u18,u19,u20,u21,u22,u23,u 24,u 25,u 26,u 27,u 28,u 29,u 30,u 31,u 32,u 33,u 34,u 35,u 36,u 37,u 38,u 39,u 40,u 41,u 42,u 43,u 44,u 45,u 46,u 47,u 48,u 49,u 50,u 51,u 52,u 53,u 54,u 55,u 56,u 57,u 58,u 59,u 60,u 61,u 62,u 63,u 64,u 65,u 66,u 67],defers:=qQ6 Ds }) (fun a' _=>(vs.length+1) - a'.defers.length) ⟨fun _=>undef,[],HR0,rfl⟩ ?_;clear HR0;rintro a' w' ⟨u,Ds,hrel,rfl⟩;obtain ⟨pre,C,I,F,v,st,met,rest,ha⟩:=hrel.out;have HA:=iQ ha;clear hrel ha;cases st with
  | nil =>
    obtain ⟨A,cc,rfl,_,_⟩:=HA.out.next.len
    obtain ⟨hnx,_⟩:=HA.out.next.cell
    have HE:Hid (∀ W',Qb w' (·∈Ds) W' (·∈Ds)->QK W.heap.size R J Jx (QJ W tb pb db t vs e0) (.returned (.tuple #[])) W'):=iQ (fun W' hm=>by
     have h:=HA.out;obtain ⟨hj,hs,hT⟩:=qv6 (er:=0) HJ.out.1 h.inv h.sep (by rw [Xo HL.out];exact h.tree) (fun D hD=>⟨(h.dI D hD).1,(h.dI D hD).2.1,(h.dI D hD).2.2.1⟩) hm;refine ⟨⟨_,rfl⟩,C,I,hs,Or.inl ⟨pre,⟨F,0,h.fI,hT,fun _=>⟨rfl,fun _=>?_⟩⟩,hj⟩⟩;have hall:=h.all;have hw:=h.walk;cases hw
     exact ⟨rfl,by rw [hall];simp⟩)
    have HD:=iQ (And.intro HA.out.once (fun D hD=>(HA.out.dI D hD).2.2.2));go_wp2_with fail;exact Zd Ds _ HD.out.1 HD.out.2 (fun W' hm=>⟨_,results_none rfl _ _ _,HE.out W' hm⟩)
  | cons su st =>
    have hpl:Ds.length<5001:=by
     have h1:=HA.out.all;have h2:=HA.out.same;have h3:=HZZ.out.1.few;rw [h1] at h3;simp at h3;omega
    obtain ⟨g,c,x,rfl,hc,hxu,hxz,f0,f1,f2,f3,f4,f5,f6,f7⟩:=HA.out.next.top
    obtain ⟨hnx,hnf⟩:=HA.out.next.cell
    have hsh:=HA.out.short;rw [wb4] at hsh;obtain ⟨m,hm⟩:∃ m,st.length=m:=⟨_,rfl⟩;have hm9:m<=6000000:=(by omega);rw [hm] at f0 f1 f2 f3 f4 f5 f6 f7 hnx hc;have HM:=iQ hm;have HX:=iQ (And.intro hxu hxz);have hg0:w'.cell? ⟨gb,0,none⟩=some (.pointer (some ⟨tb,0,none⟩)):=(World.cell?_of_block (w:=w0) (HA.out.rsame gb HRR.out.1)).trans HGB.out.1;have zo4:=iQ hsh;have HPL:=iQ hpl;clear hm hxu hxz hsh hpl;go_upto_region 7 with fail
    go_cut [8,9] from 30 to 39 (fun s8 s9 wx=>FdC W F w' tb pb db mb met x t s8 s9 wx)
    case first =>
     rename_i zh9;have KS:Hid (∀ wx,Below w'.heap.size w' wx->(fun wx=>wx.cell? ⟨mb+1,0,none⟩=some (.slice (some ⟨g,0,none⟩) (m+1) c)/\wx.cell? ⟨gb,0,none⟩=some (.pointer (some ⟨tb,0,none⟩))/\wx.cell? ⟨g,m*8,none⟩=some (.int .i64 x.pg)/\wx.cell? ⟨g,m*8+1,none⟩=some (.int .i64 x.ht)/\wx.cell? ⟨g,m*8+2,none⟩=some (.string x.lo)/\wx.cell? ⟨g,m*8+3,none⟩=some (.string x.hi)/\wx.cell? ⟨g,m*8+4,none⟩=some (.bool false)/\wx.cell? ⟨g,m*8+5,none⟩=some (.slice none 0 0)/\wx.cell? ⟨g,m*8+6,none⟩=some (.slice none 0 0)/\wx.cell? ⟨g,m*8+7,none⟩=some (.slice none 0 0)) wx):=iQ (fun wx b=>by
      have k:∀ {b' o:Nat} {v:Value},w'.cell? ⟨b',o,none⟩=some v->wx.cell? ⟨b',o,none⟩=some v:=fun h=>(b.cell (World.block_lt_of_cell? _ _ h)).trans h;exact ⟨k hnx,k hg0,k f0,k f1,k f2,k f3,k f4,k f5,k f6,k f7⟩)
     have hgF:g≠mb/\mb+1≠mb/\gb≠mb/\¬ F g/\¬ F (mb+1)/\¬ F gb:=by
      have h:=HA.out;obtain ⟨es,cl,hmp⟩:=h.met_.isMap;have hgI:=(h.sep.r gb HRR.out.1).2;refine ⟨fun e=>?_,by omega,fun e=>hgI (e ▸ h.mI.1),(h.vI g rfl).2,h.nI.2.1,fun e=>hgI (h.fI _ e)⟩;obtain ⟨o,ho,hoc⟩:=cells_of_cell f0;have ho2:w'.heap[g]?=some o:=ho;rw [e,hmp] at ho2;cases ho2
      cases hoc
     have KM:Hid (∀ wy F2,Qb w' (plus F mb) wy F2->(fun wx=>wx.cell? ⟨mb+1,0,none⟩=some (.slice (some ⟨g,0,none⟩) (m+1) c)/\wx.cell? ⟨gb,0,none⟩=some (.pointer (some ⟨tb,0,none⟩))/\wx.cell? ⟨g,m*8,none⟩=some (.int .i64 x.pg)/\wx.cell? ⟨g,m*8+1,none⟩=some (.int .i64 x.ht)/\wx.cell? ⟨g,m*8+2,none⟩=some (.string x.lo)/\wx.cell? ⟨g,m*8+3,none⟩=some (.string x.hi)/\wx.cell? ⟨g,m*8+4,none⟩=some (.bool false)/\wx.cell? ⟨g,m*8+5,none⟩=some (.slice none 0 0)/\wx.cell? ⟨g,m*8+6,none⟩=some (.slice none 0 0)/\wx.cell? ⟨g,m*8+7,none⟩=some (.slice none 0 0)) wy):=iQ (fun wy F2 mv=>by
      have k:∀ {b' o:Nat} {v:Value},¬ F b'->b'≠mb->w'.cell? ⟨b',o,none⟩=some v->wy.cell? ⟨b',o,none⟩=some v:=fun h1 h2 h=>by
       have hb:=World.block_lt_of_cell? _ _ h;exact (World.cell?_of_block (mv.kept.block _ hb (fun e=>e.elim h1 h2))).trans h
      obtain ⟨n1,n2,n3,q1,q2,q3⟩:=hgF;exact ⟨k q2 n2 hnx,k q3 n3 hg0,k q1 n1 f0,k q1 n1 f1,k q1 n1 f2,k q1 n1 f3,k q1 n1 f4,k q1 n1 f5,k q1 n1 f6,k q1 n1 f7⟩)
     have hxp:=HA.out.hts _ (wf4 ..);have hzp:=HZZ.out.1.inZ _ hxp.1;have HF:Hid (∀ wx,Below w'.heap.size w' wx->Calls Tryz.prog 63 #[.agg #[.int .i64 x.pg,.int .i64 x.ht,.string x.lo,.string x.hi,.bool false,.slice none 0 0,.slice none 0 0,.slice none 0 0],.pointer (some ⟨tb,0,none⟩),.map (some mb)] wx (JZ W F wx tb pb db mb met x t)):=iQ (fun wx b=>by
      have h:=qt0 wx x met HL.out (by rw [<- HX.out.1] at hzp;exact hzp.1) (by rw [<- HX.out.1] at hzp;exact hzp.2) (HA.out.tree.kept b) (HA.out.met_.block (b.block mb HA.out.met_.lt)) HA.out.mI.2.1 HA.out.mI.2.2;unfold VV.val at h;rw [HX.out.2] at h;exact h)
     have bd:=(Below.refl w'.heap.size w').drew;have ba:=(Qa w' (.cells #[.int .i64 0,.int .i64 0,.string ⟨#[]⟩,.string ⟨#[]⟩,.bool false,.slice none 0 0,.slice none 0 0,.slice none 0 0] 77)).drew;have hi0:(0:Int)<=(m:Int):=(by omega);have hi1:(m:Int)<((m+1:Nat):Int):=(by omega);have hi2:(m:Int)<(m:Int)+1:=(by omega);have hi3:m<m+1:=(by omega);have BD:=iQ bd;have BA:=iQ ba;have BX:Hid (VBx (w'.alloc (.cells #[.int .i64 0,.int .i64 0,.string ⟨#[]⟩,.string ⟨#[]⟩,.bool false,.slice none 0 0,.slice none 0 0,.slice none 0 0] 77)).drew w'.heap.size VV.zero):=iQ ((Zj w' _ _ _ _ _ _ _ _).kept ((Below.refl _ _).drew));have HFL:=iQ HA.out.tree.lt;have NG8:Hid (¬ plus F mb w'.heap.size):=iQ (fun e=>by
      rcases e with e | e
      ·have:=HA.out.tree.lt _ e
       omega
      ·have:=HA.out.met_.lt
       omega)
     have HMB2:=iQ (And.intro HA.out.met_.lt HA.out.tree.below.size);have K0:=KS.out _ bd;have K1:=KS.out _ ba;clear bd ba hnx hg0 f0 f1 f2 f3 f4 f5 f6 f7 hxp hzp hnf HX hgF;refine Go.wp_mono (Q:=Exit.then ?K (fun _ _ _=>False)) ?main ?post
     case post=>exact qB0
     refine wp_region_held_drew (S:=(fun wx=>wx.cell? ⟨mb+1,0,none⟩=some (.slice (some ⟨g,0,none⟩) (m+1) c)/\wx.cell? ⟨gb,0,none⟩=some (.pointer (some ⟨tb,0,none⟩))/\wx.cell? ⟨g,m*8,none⟩=some (.int .i64 x.pg)/\wx.cell? ⟨g,m*8+1,none⟩=some (.int .i64 x.ht)/\wx.cell? ⟨g,m*8+2,none⟩=some (.string x.lo)/\wx.cell? ⟨g,m*8+3,none⟩=some (.string x.hi)/\wx.cell? ⟨g,m*8+4,none⟩=some (.bool false)/\wx.cell? ⟨g,m*8+5,none⟩=some (.slice none 0 0)/\wx.cell? ⟨g,m*8+6,none⟩=some (.slice none 0 0)/\wx.cell? ⟨g,m*8+7,none⟩=some (.slice none 0 0))) (by kernel_rfl) K0 (fun hHeld=>?_);refine wpAnyH_take (i:=0) (oi:=_) (v:=?_) rfl (by kernel_rfl) (by kernel_rfl) (by kernel_rfl) (fun _ _ _ h=>h) (Or.inl ⟨by rfl,?_⟩) hHeld ?_;case refine_2=>(intro w hSw;(try dsimp only at hSw);go_simp;try with_reducible rfl)
     refine wpAnyH_take (i:=1) (oi:=_) (v:=?_) rfl (by kernel_rfl) (by kernel_rfl) (by kernel_rfl) (fun _ _ _ h=>h) (Or.inl ⟨by rfl,?_⟩) hHeld ?_;case refine_2=>(intro w hSw;(try dsimp only at hSw);go_simp;try with_reducible rfl)
     refine wpAnyH_take (i:=2) (oi:=_) (v:=?_) rfl (by kernel_rfl) (by kernel_rfl) (by kernel_rfl) (fun _ _ _ h=>h) (Or.inl ⟨by rfl,?_⟩) hHeld ?_;case refine_2=>(intro w hSw;(try dsimp only at hSw);go_simp;try with_reducible rfl)
     refine wpAnyH_take (i:=3) (oi:=_) (v:=?_) rfl (by kernel_rfl) (by kernel_rfl) (by kernel_rfl) (fun _ _ _ h=>h) (Or.inl ⟨by rfl,?_⟩) hHeld ?_;case refine_2=>(intro w hSw;(try dsimp only at hSw);go_simp;try with_reducible rfl)
     refine wpAnyH_take (i:=4) (oi:=_) (v:=?_) rfl (by kernel_rfl) (by kernel_rfl) (by kernel_rfl) (fun _ _ _ h=>h) (Or.inl ⟨by rfl,?_⟩) hHeld ?_;case refine_2=>(intro w hSw;(try dsimp only at hSw);go_simp;try with_reducible rfl)
     refine wpAnyH_take (i:=5) (oi:=_) (v:=?_) rfl (by kernel_rfl) (by kernel_rfl) (by kernel_rfl) (fun _ _ _ h=>h) (Or.inl ⟨by rfl,?_⟩) hHeld ?_;case refine_2=>(intro w hSw;(try dsimp only at hSw);go_simp;try with_reducible rfl)
     refine wpAnyH_ready (rs:=[6,10]) (by kernel_rfl) (by simp) ?_;refine AllReadyH.cons (o:=_) rfl (fun K hK=>?_) (AllReadyH.cons (o:=_) rfl (fun K hK=>?_) AllReadyH.nil)
     ·go_simp
      refine (HF.out _ (by first | exact BD.out | exact BA.out)).mono ?_
      rintro e w2 ⟨⟨up,uh,ul,uu,uA,un,uc,uB,um,ud,uC,uk,ue,us⟩,r2,F2,er,met2,rfl,h1,h2,h3,h9,h4,h5,h6⟩;have hmv:=(Qb.ob (F:=plus F mb) (by first | exact BD.out | exact BA.out)).trans h3
      have K2:=KM.out w2 _ hmv;have K3:=fun o=>KM.out (w2.alloc o) _ (hmv.trans (Qb.ob (Qa w2 o)));have K4:=fun a1 a2 a3 a4 a5 a6 a7 a8:Value=>KM.out _ _ (hmv.grown (Vw w2 w'.heap.size a1 a2 a3 a4 a5 a6 a7 a8) (fun q e=>wg9 (wa0 e)));have ZN:=Zj w2 (.int .i64 0) (.int .i64 0) (.string ⟨#[]⟩) (.string ⟨#[]⟩) (.bool false) (.slice none 0 0) (.slice none 0 0) (.slice none 0 0);obtain ⟨z0,z1,z2,z3,z4,z5,z6,z7⟩:=ZN.cells;have zf0:=ZN.free 0;have zf1:=ZN.free 1;have zf2:=ZN.free 2;have zf3:=ZN.free 3;have zf4:=ZN.free 4;have zf5:=ZN.free 5;have zf6:=ZN.free 6;have zf7:=ZN.free 7;clear ZN;clear hmv;have H1:=iQ h1;have H2:=iQ h2;have H3:=iQ h3;have H9:=iQ h9;have H4:=iQ h4;have H5:=iQ h5;have H6:=iQ h6;clear h1 h2 h3 h4 h5 h6 h9;unfold VV.val;dsimp only
      go_simp
      refine hK _ _ K2 (fun hHeld=>?_);clear hK K;refine wpAnyH_take (i:=7) (oi:=_) (v:=?_) rfl (by kernel_rfl) (by kernel_rfl) (by kernel_rfl) (fun _ _ _ h=>h) (Or.inl ⟨by rfl,?_⟩) hHeld ?_;case refine_2=>(intro w hSw;(try dsimp only at hSw);go_simp;try with_reducible rfl)
      refine wpAnyH_take (i:=8) (oi:=_) (v:=?_) rfl (by kernel_rfl) (by kernel_rfl) (by kernel_rfl) (fun _ _ _ h=>h) (Or.inl ⟨by rfl,?_⟩) hHeld ?_;case refine_2=>(intro w hSw;(try dsimp only at hSw);go_simp;try with_reducible rfl)
      refine wpAnyH_take (i:=9) (oi:=_) (v:=?_) rfl (by kernel_rfl) (by kernel_rfl) (by kernel_rfl) (fun _ _ _ h=>h) (Or.inl ⟨by rfl,?_⟩) hHeld ?_;case refine_2=>(intro w hSw;(try dsimp only at hSw);go_simp;try with_reducible rfl)
      refine wpAnyH_ready (rs:=[10]) (by kernel_rfl) (by simp) ?_;refine AllReadyH.cons (o:=_) rfl (fun K hK=>?_) AllReadyH.nil
      go_simp
      refine hK _ _ (K3 _) (fun hHeld=>?_);clear hK K;refine wpAnyH_ready (rs:=[11]) (by kernel_rfl) (by simp) ?_;refine AllReadyH.cons (o:=_) rfl (fun K hK=>?_) AllReadyH.nil
      go_simp
      refine hK _ _ (K3 _) (fun hHeld=>?_);clear hK K;refine wpAnyH_ready (rs:=[12]) (by kernel_rfl) (by simp) ?_;refine AllReadyH.cons (o:=_) rfl (fun K hK=>?_) AllReadyH.nil
      go_simp
      refine hK _ _ (K3 _) (fun hHeld=>?_);clear hK K;refine wpAnyH_done (by kernel_rfl) ?_ _;clear z0 z1 z2 z3 z4 z5 z6 z7 zf0 zf1 zf2 zf3 zf4 zf5 zf6 zf7 K2 K3 K4 hHeld;refine zh9 _ _ ?_
      go_meet
      exact zc8 (u:=⟨up,uh,ul,uu,⟨uA,un,uc,uB,um,ud,uC,uk,ue,us⟩⟩) BD.out H1.out H2.out H3.out H9.out H4.out H5.out H6.out
     ·go_simp
      refine hK _ _ K1 (fun hHeld=>?_);clear hK K;refine wpAnyH_ready (rs:=[6]) (by kernel_rfl) (by simp) ?_;refine AllReadyH.cons (o:=_) rfl (fun K hK=>?_) AllReadyH.nil
      go_simp
      refine (HF.out _ (by first | exact BD.out | exact BA.out)).mono ?_
      rintro e w2 ⟨⟨up,uh,ul,uu,uA,un,uc,uB,um,ud,uC,uk,ue,us⟩,r2,F2,er,met2,rfl,h1,h2,h3,h9,h4,h5,h6⟩;have hmv:=(Qb.ob (F:=plus F mb) (by first | exact BD.out | exact BA.out)).trans h3
      have K2:=KM.out w2 _ hmv;have K3:=fun o=>KM.out (w2.alloc o) _ (hmv.trans (Qb.ob (Qa w2 o)));have K4:=fun a1 a2 a3 a4 a5 a6 a7 a8:Value=>KM.out _ _ (hmv.grown (Vw w2 w'.heap.size a1 a2 a3 a4 a5 a6 a7 a8) (fun q e=>wg9 (wa0 e)));have ZB:=Ze.mo BX.out h3 NG8.out;obtain ⟨z0,z1,z2,z3,z4,z5,z6,z7⟩:=ZB.cells;have zf0:=ZB.free 0;have zf1:=ZB.free 1;have zf2:=ZB.free 2;have zf3:=ZB.free 3;have zf4:=ZB.free 4;have zf5:=ZB.free 5;have zf6:=ZB.free 6;have zf7:=ZB.free 7;have HZB:=iQ ZB;clear ZB;clear hmv;have H1:=iQ h1;have H2:=iQ h2;have H3:=iQ h3;have H9:=iQ h9;have H4:=iQ h4;have H5:=iQ h5;have H6:=iQ h6;clear h1 h2 h3 h4 h5 h6 h9;unfold VV.val;dsimp only
      go_simp
      refine hK _ _ K2 (fun hHeld=>?_);clear hK K;refine wpAnyH_take (i:=7) (oi:=_) (v:=?_) rfl (by kernel_rfl) (by kernel_rfl) (by kernel_rfl) (fun _ _ _ h=>h) (Or.inl ⟨by rfl,?_⟩) hHeld ?_;case refine_2=>(intro w hSw;(try dsimp only at hSw);go_simp;try with_reducible rfl)
      refine wpAnyH_take (i:=8) (oi:=_) (v:=?_) rfl (by kernel_rfl) (by kernel_rfl) (by kernel_rfl) (fun _ _ _ h=>h) (Or.inl ⟨by rfl,?_⟩) hHeld ?_;case refine_2=>(intro w hSw;(try dsimp only at hSw);go_simp;try with_reducible rfl)
      refine wpAnyH_take (i:=9) (oi:=_) (v:=?_) rfl (by kernel_rfl) (by kernel_rfl) (by kernel_rfl) (fun _ _ _ h=>h) (Or.inl ⟨by rfl,?_⟩) hHeld ?_;case refine_2=>(intro w hSw;(try dsimp only at hSw);go_simp;try with_reducible rfl)
      refine wpAnyH_ready (rs:=[11]) (by kernel_rfl) (by simp) ?_;refine AllReadyH.cons (o:=_) rfl (fun K hK=>?_) AllReadyH.nil
      go_simp
      refine hK _ _ (K4 _ _ _ _ _ _ _ _) (fun hHeld=>?_);clear hK K;refine wpAnyH_ready (rs:=[12]) (by kernel_rfl) (by simp) ?_;refine AllReadyH.cons (o:=_) rfl (fun K hK=>?_) AllReadyH.nil
      go_simp
      refine hK _ _ (K4 _ _ _ _ _ _ _ _) (fun hHeld=>?_);clear hK K;refine wpAnyH_done (by kernel_rfl) ?_ _;clear z0 z1 z2 z3 z4 z5 z6 z7 zf0 zf1 zf2 zf3 zf4 zf5 zf6 zf7 K2 K3 K4 hHeld;refine zh9 _ _ ?_
      go_meet
      exact zc7 (u:=⟨up,uh,ul,uu,⟨uA,un,uc,uB,um,ud,uC,uk,ue,us⟩⟩) BA.out (wa2 _) (by simp) HFL.out HMB2.out.1 HMB2.out.2 HZB.out H1.out H2.out H3.out H9.out H4.out H5.out H6.out
    case rest =>
     obtain ⟨g8,w8,r,F',er,met',rfl,rfl,hb8,hg8,hF8,hT,hM,mv,hmb',hok,hhi,hres⟩:=hcut;have hres2:=zj1 HA.out.walk HX.out.1 hres;have HB:=iQ (HA.out.toUK.found HJ.out.1 hT hM mv hmb');have hU:∀ k,both C (fun k=>I k\/F' k) k->plus F' mb k\/k<w'.heap.size:=fun k hk=>by
      rcases hk with e | e | e
      ·exact Or.inr (HA.out.sep.c k e).2.1
      ·exact Or.inr (HA.out.ltI k e)
      ·exact Or.inl (Or.inl e)
     have HOK:=iQ (hok.far hhi hU);have HOK9:=iQ (hok.fewer (G:=F') (fun k hk=>Or.inl hk));have HHI:=iQ hhi;have H8:=iQ hb8;have HG8:=iQ (And.intro hg8 hF8);have HMV:=iQ mv;have qv3:=iQ (And.intro HA.out.all HA.out.ok);clear hres hT hM mv hmb' hok hhi hU hb8 hg8 hF8 hg0 hnx hnf f0 f1 f2 f3 f4 f5 f6 f7;rcases hres2 with ⟨rfl,rfl,hv,rfl,hnd,rest',rfl,hw'⟩ | ⟨rfl,rfl,he0,rfl⟩
     ·obtain ⟨wpg,wht,wlo,whi,wA,wn,wc0,wB,wm,wd,wC,wk,we,ws⟩:=w8
      have hyl:=HY.out pre (⟨wpg,wht,wlo,whi,⟨wA,wn,wc0,wB,wm,wd,wC,wk,we,ws⟩⟩,0) C _ wc HB.out.inv HB.out.sep ⟨qv3.out.2,Or.inl ⟨rfl,HOK.out,rest',by rw [qv3.out.1];simp⟩⟩;obtain ⟨fn,tmps,assign,body,hy,hRR⟩:=hyl;have HRO:=iQ hRR;dsimp only at hy;unfold VV.val at hy;dsimp only at hy;obtain ⟨z0,z1,z2,z3,z4,z5,z6,z7⟩:=Ze.cells H8.out;dsimp only at z0 z1 z2 z3 z4 z5 z6 z7;have HND:=iQ hnd;have HWN:=iQ hw';have HV:=iQ hv;clear hRR hnd hw' hv;go_upto_region 8 with fail
      refine (wpIn_wide (n:=0)).1 ?_;gi_wp2;refine HRO.out.mono ?_;rintro e w3 (⟨rfl,C',hj,hs,m3⟩ | ⟨rfl,C',hj,hs,m3⟩)
      ·have HB3:=iQ (HB.out.asked hj hs m3)
       have hg8C:¬ C g8:=fun e=>by
        have:=(HA.out.sep.c g8 e).2.1;have:=HG8.out.1;omega
       have H83:=iQ (show VBx w3 g8 ⟨wpg,wht,wlo,whi,⟨wA,wn,wc0,wB,wm,wd,wC,wk,we,ws⟩⟩ from Ze.mo H8.out m3 hg8C);have mvw:Qb wc (both C (fun k=>I k\/F' k)) w3 (both C' (fun k=>I k\/F' k)):=m3.wider;have HOK3:=iQ (HOK.out.mo mvw);clear hj hs m3 hy z0 z1 z2 z3 z4 z5 z6 z7 mvw hg8C HOK H8 HB;gi_wp2;go_upto_region 9 with fail
       obtain ⟨hnx,hnf⟩:=HB3.out.next.cell
       rw [HM.out] at hnx;have hup:=zj2 (n:=m+1) (c:=c) (k:=m) (some ⟨g,0,none⟩) (wd3 m) hc w3;have h4:=HB3.out.pop HJ.out.1;rw [HM.out] at h4;have HB4:=iQ h4;have gn:w3.grownBy (w3.setCell ⟨mb+1,0,none⟩ (.slice (some ⟨g,0,none⟩) m c)) (some (mb+1)):=Qu (World.grownBy.refl w3 (some (mb+1))) 0 _;have H84:=iQ (Ze.grown H83.out gn (fun e=>by
        have:=HA.out.next.lt
        have:=HG8.out.1;omega))
       have HOK4:=iQ (HOK3.out.mo (show Qb w3 (both C' (fun k=>I k\/F' k)) _ (both C' (fun k=>I k\/F' k)) from ⟨Qj.setCell w3 (a:=⟨mb+1,0,none⟩) (Or.inr (Or.inl HA.out.nI.1)) (.slice (some ⟨g,0,none⟩) m c),fun _ h=>Or.inl h⟩));clear h4 gn;go_upto_region 10 with fail
       clear hup hnx hnf;generalize hw4:w3.setCell ⟨mb+1,0,none⟩ (.slice (some ⟨g,0,none⟩) m c)=w4 at *;clear hw4 HB3 H83 HOK3;obtain ⟨_,_,_,_,_,_,_,z7⟩:=Ze.cells H84.out;dsimp only at z7;go_wp2_with fail;refine (qd9 wC wk we w4).mono ?_;rintro e w5 ⟨rfl,hw5⟩;have b5:=Qa w4 (.cells #[.slice wC wk we] 40);have HSB:Hid ((w4.alloc (.cells #[.slice wC wk we] 40)).cell? ⟨w4.heap.size,0,none⟩=some (.slice wC wk we)):=iQ ((cell_of_row _ _ 0 _ _ _ (heap_alloc_new w4 (.cells #[.slice wC wk we] 40))).trans rfl);rw [hw5] at b5 HSB;have HB5:=iQ (HB4.out.kept HJ.out.1 b5);have H85:=iQ (Ze.kept H84.out b5);have qH2:=iQ (HOK4.out.kept b5);have zo3:Hid (w4.heap.size<w5.heap.size/\g8<w4.heap.size):=iQ ⟨by rw [<- hw5];simp,Ze.lt H84.out⟩;clear hw5 b5 z7 HB4 H84 HOK4;generalize w4.heap.size=sb at *;go_wp2_with fail;obtain ⟨Rb,hRb⟩:∃ Rb:Nat->Prop,Rb=fun k=>k=sb\/(0<wk/\∃ ad,wC=some ad/\k=ad.block):=⟨_,rfl⟩;have hkl:ws.kids.length=wk:=qH2.out.nd.cn;have hzs:=HZZ.out.1.inZ _ (HA.out.hts _ (wf4 ..)).1;have hok:=HB5.out.tree.nodeOk hzs.1 hzs.2 (SC.nodeAt_is HND.out).1;have zl5:wk<=1000:=by
        have:=hok.2;unfold ND.size at this;omega
       have zo6:=iQ hok;clear hzs hok;refine JG (B:=0) (R:=Rb) (gf:=103) (lb:=#[.pointer (some ⟨sb,0,none⟩)]) (I0:=fun _=>False) rfl (enters_of Tryz.func103 (by kernel_rfl) rfl)
        (qd8 0 Rb sb wC wk we ws.kids w5 HSB.out qH2.out.nd.ki (by rw [hRb];exact Or.inl rfl) (fun h0 ad e=>by rw [hRb];exact Or.inr ⟨h0,ad,e,rfl⟩) zl5) (fun _=>rfl) (wb3 _) (fun _ e=>e.elim)
        (UT W.heap.size (mb+1) w5 (.slice (some ⟨g,0,none⟩) m c) want su ws st Rb) (fun _ _ _ _ _=>False) UT.stays (fun _ _ _ _ _ _ _ h=>h.elim) (fun k=>k<w5.heap.size/\¬ Rb k) ?kh0 ?ks0
        (fun _ _ _ _ _ _ h _ _=>h) (fun pre x a' C I w=>a'={ tmps:=#[.func (.yield l) #[] #[],.pointer (some ⟨gb,0,none⟩),.pointer (some ⟨wb,0,none⟩),undef,.map (some mb),.pointer (some ⟨mb+1,0,none⟩),.pointer (some ⟨ub,0,none⟩),.int .i64 (m:Int),.pointer (some ⟨g8,0,none⟩),.int .i64 0,.int .i64 (x.1:Int),u 11,.map (some mb),.pointer (some ⟨tb,0,none⟩),.agg #[.int .i64 t.ep,.int .i64 t.rt,.int .i64 ((t.ht:Nat):Int),.slice none 0 0,.int .i64 t.ct],u15,u16,u17,u18,u19,u20,u21,u22,u23,.slice (some ⟨g,0,none⟩) (m+1) c,.int .i64 ((m:Int)+1),.bool true,.slice (some ⟨g,0,none⟩) (m+1) c,.int .i64 ((m:Int)+1),.int .i64 (m:Int),u30,u31,u32,u33,u34,u35,u36,u37,u38,u39,.func (.yield l) #[] #[],.agg #[.int .i64 wpg,.int .i64 wht,.string wlo,.string whi,.bool ws.leaf,.slice wA wn wc0,.slice wB wm wd,.slice wC wk we],.int .i64 0,.bool true,.bool false,.bool false,.int .i64 0,.bool false,.bool false,.slice (some ⟨g,0,none⟩) (m+1) c,.int .i64 (m:Int),.slice (some ⟨g,0,none⟩) m c,.pointer (some ⟨g8,4,none⟩),.pointer (some ⟨g8,7,none⟩),.slice wC wk we,.func (.func 103) #[] #[.pointer (some ⟨sb,0,none⟩)],.int .i64 (x.1:Int),.int .i64 x.2,u 58,u 59,u 60,u 61,u 62,u 63,u 64,u 65,u 66,u 67],defers:=[] }/\UT W.heap.size (mb+1) w5 (.slice (some ⟨g,0,none⟩) m c) want su ws st Rb pre C I w/\x.1+pre.length+1=wk)
        (fun pre x a' C I w w' I' h hs hm hi=>⟨h.1,UT.stays _ _ _ _ _ _ h.2.1 hs hm hi,h.2.2⟩) ?XX ?qj4 ?qj3 (fun _ _ _ _ _ _ _ _ _ _ _ h=>h.elim)
       case kh0 =>
        refine ⟨fun k h1 h2=>⟨h1,h2⟩,.slice (some ⟨g,0,none⟩) m c,Qj.refl _ _,?_,?_,fun q e=>?_,fun q e=>Or.inl e⟩
        ·rw [List.length_nil,Nat.sub_zero,wc6 (by unfold SC.kids;simp)]
         exact HB5.out.next
        ·refine ⟨HB5.out.next.lt,?_⟩
         rw [hRb];rintro (e | ⟨h0,ad,e,e2⟩)
         ·have:=HA.out.next.lt
          have:=HG8.out.1;have:=zo3.out.2;omega
         ·exact qH2.out.ki.out h0 ad e (by rw [<- e2];exact Or.inr (Or.inl HA.out.nI.1))
        ·refine ⟨(HB5.out.next.row e).2,?_⟩
         have hq:=HA.out.ltI q (HA.out.vI q e).1;rw [hRb];rintro (e1 | ⟨h0,ad,e1,e2⟩)
         ·have:=HG8.out.1
          have:=zo3.out.2;omega
         ·exact qH2.out.ki.out h0 ad e1 (by rw [<- e2];exact Or.inr (Or.inl (HA.out.vI q e).1))
       case ks0 =>
        refine ⟨fun k hk=>⟨wb3 _,hk.1,fun e=>e,hk.2⟩,fun k hk=>⟨?_,fun e=>e⟩,fun k e=>e.elim⟩;rw [hRb] at hk;rcases hk with rfl | ⟨h0,ad,e,rfl⟩
        ·exact zo3.out.1
        ·exact qH2.out.ki.ln.lt (Nat.mul_pos h0 Nat.one_pos) e
       case XX =>
        intro l2 pre2 x2 C2 I2 W2 K hj hs hok hK;gi_wp2;exact hK _ _ _ ⟨rfl,hj,hok.1⟩ hs (Qb.ob (Below.refl _ _))
       case qj4 =>
        rintro l2 pre2 ⟨i,zk⟩ a2 C2 I2 W2 ⟨rec2,hrec⟩ hIl ⟨rfl,hkj,hx1⟩ hs2;dsimp only at hx1;have hji:ws.kids.length - pre2.length=i+1:=(by omega);obtain ⟨hCC,v2,hk2,hn2,c1,c2,c3⟩:=hkj;rw [hji] at hn2;have hXI:∀ k,(k=mb+1\/(Value.slice (some ⟨g,0,none⟩) m c).ownBlock=some k)->I k:=fun k hk=>by
         rcases hk with rfl | e
         ·exact HA.out.nI.1
         ·have:=wa0 e
          exact (HA.out.vI k e).1
        have hXl:∀ k,(k=mb+1\/(Value.slice (some ⟨g,0,none⟩) m c).ownBlock=some k)->k<w'.heap.size:=fun k hk=>HA.out.ltI k (hXI k hk);have hok2:=qH2.out.mo (show Qb w5 (both C' (fun k=>I k\/F' k)) W2 (both C' (fun k=>I k\/F' k)) from ⟨hk2.more (fun k hk=>Or.inr (Or.inl (hXI k hk))),fun _ h=>Or.inl h⟩);have hg8:¬ (g8=mb+1\/(Value.slice (some ⟨g,0,none⟩) m c).ownBlock=some g8):=fun e=>by
         have:=hXl g8 e;have:=HG8.out.1;omega
        have H82:Hid (VBx W2 g8 ⟨wpg,wht,wlo,whi,⟨wA,wn,wc0,wB,wm,wd,wC,wk,we,ws⟩⟩):=iQ ((hk2.block g8 (Ze.lt H85.out) hg8).trans H85.out);have HRW:Hid (∀ k,R k->W2.heap[k]?=w0.heap[k]?/\k<W2.heap.size):=iQ (fun k hk=>⟨(hk2.block k (HB5.out.sep.r k hk).1 (fun e=>(HB5.out.sep.r k hk).2 (Or.inl (Or.inl (hXI k e))))).trans (HB5.out.rsame k hk),wa3 (HB5.out.sep.r k hk).1 hk2.size⟩);have HND2:=iQ hok2.nd;have HK2:=iQ (And.intro hk2 (And.intro hn2 (And.intro c1 (And.intro c2 c3))));have HS2:=iQ hs2;have HCC:=iQ hCC;obtain ⟨z0,z1,z2,z3,z4,z5,z6,z7⟩:=Ze.cells H82.out;dsimp only at z0 z1 z2 z3 z4 z5 z6 z7;clear hk2 hn2 c1 c2 c3 hs2 hCC hok2 hXI hXl hg8;have hkk:=qk1 zo6.out.1 (by omega);have hkeys:ws.keys.length<=1000:=by
         have:=qe6 ws.keys;have:=zo6.out.2;unfold ND.size at this;omega
        have hsu:=HA.out.hts _ (wf4 ..);have zl6:1<=wht/\wht<=1000:=by
         have h1:wht=su.ht:=congrArg SC.V.ht HV.out;omega
        have HKC:=iQ (qH9 ⟨wpg,wht,wlo,whi,⟨wA,wn,wc0,wB,wm,wd,wC,wk,we,ws⟩⟩ i W2 HND2.out (by show i<ws.kids.length;omega) hkk.2 hkeys zl6.1 zl6.2);clear hkk hkeys hsu zl6;gi_wp2;refine (CallsIn.inRound l2 ((callsIn_wide (n:=0)).2 HKC.out)).mono ?_;rintro e w6 ⟨⟨kpg,kht,klo,khi,kx⟩,rfl,hkx,hkv,b6⟩;dsimp only at hkx;subst hkx;have b7:=Qa w6 (.cells #[.int .i64 kpg,.int .i64 kht,.string klo,.string khi,.bool false,.slice none 0 0,.slice none 0 0,.slice none 0 0] 77);have HKB:=iQ (Zj w6 (.int .i64 kpg) (.int .i64 kht) (.string klo) (.string khi) (.bool false) (.slice none 0 0) (.slice none 0 0) (.slice none 0 0));have B7:=iQ (Qe b7 b6);have HKV:=iQ hkv;have hwb7:(w6.alloc (.cells #[.int .i64 kpg,.int .i64 kht,.string klo,.string khi,.bool false,.slice none 0 0,.slice none 0 0,.slice none 0 0] 77)).cell? ⟨wb,0,none⟩=some (.func (.func wf) #[] caps) :=
         (World.cell?_of_block (w:=w0) ((B7.out.block wb (HRW.out wb HRR.out.2).2).trans (HRW.out wb HRR.out.2).1)).trans HGB.out.2
        obtain ⟨k0,k1,k2,k3,k4,k5,k6,k7⟩:=HKB.out.cells;have HWC:Hid (∀ W',Below w6.heap.size w6 W'->Calls Tryz.prog wf (#[.agg #[.int .i64 kpg,.int .i64 kht,.string klo,.string khi,.bool false,.slice none 0 0,.slice none 0 0,.slice none 0 0]]++caps) W' (fun e w'=>e = .returned (.bool (want (SC.kid su ws i)))/\Below W'.heap.size W' w')):=iQ (fun W' hb=>by
         have h:=HWA.out ⟨kpg,kht,klo,khi,NV.zero⟩ W' (fun k hk=>((Qe hb b6).block k (HRW.out k hk).2).trans (HRW.out k hk).1);have e:(VV.mk kpg kht klo khi NV.zero).v=SC.kid su ws i:=by rw [hkv];show SC.kid _ ws i=_;rw [show (VV.mk wpg wht wlo whi ⟨wA,wn,wc0,wB,wm,wd,wC,wk,we,ws⟩).v=su from HV.out]
         rw [e] at h;exact h)
        clear b6 b7 hkv z0 z1 z2 z3 z4 z5 z6 z7 HKC;unfold VV.val;dsimp only [NV.zero,ND.zero];gi_wp2;refine (CallsIn.inRound l2 ((callsIn_wide (n:=0)).2 (HWC.out _ (Qa w6 _)))).mono ?_;rintro e w8 ⟨rfl,b8⟩;have B8:=iQ (Qe b8 B7.out);have HKB8:=iQ (HKB.out.kept b8);clear b8 k0 k1 k2 k3 k4 k5 k6 k7 hwb7 HKB B7;obtain ⟨hk2,hn2,c1,c2,c3⟩:=HK2.out;have hil:i<ws.kids.length:=(by omega);obtain ⟨q,hq⟩:∃ q,want (SC.kid su ws i)=q:=⟨_,rfl⟩;rw [hq];cases q with
        | false =>
          have HE:Hid (Jl 0 Rb (UT W.heap.size (mb+1) w5 (.slice (some ⟨g,0,none⟩) m c) want su ws st Rb) (fun _ _ _ _ _=>False) (pre2++[(i,zk)]) C2 I2 W2 .normal { tmps:=#[],defers:=[] } w8):=iQ
           ⟨C2,⟨HCC.out,by
            rw [show ws.kids.length - (pre2++[(i,zk)]).length=i by simp;omega];exact (JQ.skip ⟨v2,hk2,hn2,c1,c2,c3⟩ hil hq).kept B8.out⟩,HS2.out.ob B8.out,Qb.ob B8.out⟩
          clear hk2 hn2 c1 c2 c3 hil hq;gi_wp2;exact HE.out
        | true =>
          have hl9n:(((SC.kids su ws).drop (i+1)).filter want++st).length<=6001000:=by
           rw [wa6,HM.out];have h1:=wg3 want ((SC.kids su ws).drop (i+1));have h2:(SC.kids su ws).length=ws.kids.length:=by unfold SC.kids;simp
           rw [wc9] at h1;omega
          obtain ⟨l9,hl9⟩:∃ l9,((SC.kids su ws).drop (i+1)).filter want++st=l9:=⟨_,rfl⟩;rw [hl9] at hn2 hl9n;obtain ⟨N9,GN⟩:∃ N9,l9.length=N9:=⟨_,rfl⟩;have ba:=Qa w8 (.cells #[.int .i64 kpg,.int .i64 kht,.string klo,.string khi,.bool false,.slice none 0 0,.slice none 0 0,.slice none 0 0] 77);have hq8:=hn2.kept B8.out;have hqa:=hq8.kept ba;have HQ:=iQ hqa;have hrow:=hqa.rowOf;rw [GN] at hrow hl9n;have VD:=iQ hrow;have UR:Hid (∀ (v':Value) (w2:World),w2.ownsRow W.heap.size 77 8 v' (N9+1) (hqa.choose.flatMap VV.cells++(VV.mk kpg kht klo khi NV.zero).cells)->(w8.alloc (.cells #[.int .i64 kpg,.int .i64 kht,.string klo,.string khi,.bool false,.slice none 0 0,.slice none 0 0,.slice none 0 0] 77)).grownBy w2 v2.ownBlock->(v'.ownBlock=v2.ownBlock\/v'.ownBlock=some (w8.alloc (.cells #[.int .i64 kpg,.int .i64 kht,.string klo,.string khi,.bool false,.slice none 0 0,.slice none 0 0,.slice none 0 0] 77)).heap.size) ->
           Jl 0 Rb (UT W.heap.size (mb+1) w5 (.slice (some ⟨g,0,none⟩) m c) want su ws st Rb) (fun _ _ _ _ _=>False) (pre2++[(i,zk)]) C2 I2 W2 .normal { tmps:=#[],defers:=[] } (w2.setCell ⟨mb+1,0,none⟩ v')/\w2.cell? ⟨mb+1,0,none⟩=some v2/\w2.frozen? ⟨mb+1,0,none⟩=false):=iQ (fun v' w2 ho hg hd=>by
           obtain ⟨e1,e2,e3⟩:=qE4 (x:=VV.mk kpg kht klo khi NV.zero) hk2 c1 c2 c3 hil hq (by rw [HKV.out];show SC.kid _ ws i=_;rw [show (VV.mk wpg wht wlo whi ⟨wA,wn,wc0,wB,wm,wd,wC,wk,we,ws⟩).v=su from HV.out]) rfl (Qe ba B8.out) hl9.symm hqa GN.symm ho hg hd;have hnbk:w2.heap[mb+1]?=(w8.alloc (.cells #[.int .i64 kpg,.int .i64 kht,.string klo,.string khi,.bool false,.slice none 0 0,.slice none 0 0,.slice none 0 0] 77)).heap[mb+1]?:=hg.block (mb+1) hqa.lt (fun e=>hqa.row_ne e.symm);refine ⟨⟨_,⟨fun k h1 h2=>Or.inl (HCC.out k h1 h2),?_⟩,⟨fun k hk=>?_,fun k hk=>⟨wa3 (HS2.out.r k hk).1 e2.kept.size,(HS2.out.r k hk).2⟩,fun k hk=>wa3 (HS2.out.i k hk) e2.kept.size⟩,e2⟩,(World.cell?_of_block (w:=w8.alloc (.cells #[.int .i64 kpg,.int .i64 kht,.string klo,.string khi,.bool false,.slice none 0 0,.slice none 0 0,.slice none 0 0] 77)) hnbk).trans hqa.cell.1,?_⟩
           ·rw [show ws.kids.length - (pre2++[(i,zk)]).length=i by simp;omega]
            exact e1
           ·refine ⟨wb3 _,?_⟩
            rcases hk with hk | hk
            ·exact ⟨wa3 (HS2.out.c k hk).2.1 e2.kept.size,(HS2.out.c k hk).2.2⟩
            ·obtain ⟨f1,f2⟩:=e3 k hk
             refine ⟨f1,?_⟩;rcases f2 with f2 | f2
             ·exact (HS2.out.c k f2).2.2
             ·exact ⟨fun e=>by have:=HS2.out.i k e;omega,fun e=>by have:=(HS2.out.r k e).1;omega⟩
           ·obtain ⟨_,_,_,hh,_⟩:=hqa
            exact frozen_of_row w2 (mb+1) 0 _ _ (hnbk.trans hh))
          obtain ⟨A9,c9,hv9,hc9,_⟩:=hq8.len;rw [GN] at hv9 hc9;obtain ⟨hb8,_⟩:=hq8.cell;subst hv9;obtain ⟨k0,k1,k2,k3,k4,k5,k6,k7⟩:=HKB8.out.cells;obtain ⟨i0,hi,hz0,hz1,hz2⟩:=info_parts qv9;have UB:Hid (∀ (j:Nat) (u:Value),(VV.mk kpg kht klo khi NV.zero).cells[j]?=some u->(w8.alloc (.cells #[.int .i64 kpg,.int .i64 kht,.string klo,.string khi,.bool false,.slice none 0 0,.slice none 0 0,.slice none 0 0] 77)).cell? ((⟨w8.heap.size,0,none⟩:Addr).add j)=some u):=iQ (qE0 w8 kpg kht klo khi);have HBW:Hid (W.heap.size<=(w8.alloc (.cells #[.int .i64 kpg,.int .i64 kht,.string klo,.string khi,.bool false,.slice none 0 0,.slice none 0 0,.slice none 0 0] 77)).heap.size):=iQ (wa9 HB5.out.tree.below.size (wa9 hk2.size (Qe ba B8.out).size));obtain ⟨xs9,LH⟩:∃ xs9,hqa.choose.flatMap VV.cells=xs9:=⟨_,rfl⟩;rw [LH] at VD UR;clear hrow LH;clear hk2 hn2 c1 c2 c3 hil hq hq8 hqa hl9 GN ba HQ;gi_wp2_with (first
           | (gi_at_builtin;refine wpListIn_append_own_at _ rfl (.tmp 64) (.tmp 66) 83 rfl W.heap.size 77 i0 _ 8 128 Tryz.underlying83 hi hz0 hz1 hz2 rfl (by decide) _ N9 _ rfl VD.out ⟨w8.heap.size,0,none⟩ 1 1 (VV.mk kpg kht klo khi NV.zero).cells rfl rfl UB.out (qv8 _) (by unfold maxLen;omega) (by omega) HBW.out ?_;intro v9 w9 o9 g9 _ d9;obtain ⟨r9,q9,rfl,_,_⟩:=o9.form (by omega);obtain ⟨e9,zl7,hf9⟩:=UR.out _ w9 o9 g9 d9;have HE9:=iQ e9;clear o9 g9 d9 e9)
           | fail)
          exact HE9.out
       case qj3 =>
        intro D l2 xs C2 I2 W2 hD hl2 hlD hE hj hs2 hdef;have hxl:=hE rfl;obtain ⟨_,v2,hk2,hn2,_,_,c3⟩:=hj;rw [show ws.kids.length - xs.length=0 by omega,List.drop_zero] at hn2;have hDl:=(wa1.1 hdef).1;have HF:Hid (VsR W w0 R J tb pb db mb (mb+1) t want Z vs e0 (D::Ds) W2):=iQ (by
         have h5:=HB5.out;rw [Xo HL.out] at h5;have hw5l:∀ E∈Ds,E<w5.heap.size:=fun E hE=>(wa1.1 (h5.dI E hE).2.2.2).1;have h6:=h5.wrote (X:=fun k=>k=mb+1\/(Value.slice (some ⟨g,0,none⟩) m c).ownBlock=some k) (N:=fun k=>(w5.heap.size<=k/\k<W2.heap.size)/\(k=D\/v2.ownBlock=some k)) (v':=v2) (st':=(SC.kids su ws).filter want++st) HJ.out.1 (fun k hk=>by
          rcases hk with rfl | e
          ·exact ⟨h5.nI.1,h5.nI.2.1,h5.ne.1,h5.nx_ne.1,h5.nI.2.2⟩
          ·exact ⟨(h5.vI k e).1,(h5.vI k e).2,h5.ne.2.1 k e,h5.nx_ne.2 k e,(h5.next.row e).1⟩) hk2 (fun k hk=>hk.1) hn2 (fun q e=>by
          rcases c3 q e with h | h
          ·exact Or.inl (h5.vI q h)
          ·exact Or.inr ⟨⟨h,(hn2.row e).2⟩,Or.inr e⟩)
         have h7:=h6.mark (D:=D) (Or.inr ⟨⟨hD,hDl⟩,Or.inl rfl⟩) (fun e=>by have:=h5.tree.lt D e;omega) (wa9 h5.tree.below.size hD) hdef (fun e=>by have:=hw5l D e;omega);refine ⟨_,_,_,_,_,_,_,rest',{ toUK:=h7,all:=by rw [qv3.out.1];simp,ok:=fun y hy=>?_,same:=by simp [HA.out.same],walk:=HWN.out,hts:=fun q hq=>?_,short:=?_ }⟩
         ·rcases wb0.1 hy with hy | hy
          ·exact qv3.out.2 y hy
          ·rw [wa4.1 hy]
         ·rcases wb0.1 hq with hq | hq
          ·have hsu:=HA.out.hts su (wf4 ..)
           obtain ⟨i,hi,rfl⟩:=wd7.1 (wf8.1 hq).1;have hi:=wd6.1 hi;obtain ⟨hn1,zl3⟩:=SC.nodeAt_is HND.out;have hin:=(qk1 zo6.out.1 (by omega)).1;rw [hin] at zl3;have hs1:su.ht≠1:=fun e=>by rw [e] at zl3;cases zl3
           refine ⟨HZZ.out.1.kids su.pg ws hsu.1 hn1 _ ?_,?_,?_⟩
           ·show ws.kids.getD i 0∈_
            rw [wa7,wb1 hi];exact List.getElem_mem hi
           ·show 1<=su.ht - 1
            omega
           ·show su.ht - 1<=100
            omega
          ·exact HA.out.hts q (wg5 _ hq)
         ·rw [wa6]
          have h1:=wg3 want (SC.kids su ws);have h2:(SC.kids su ws).length=ws.kids.length:=by unfold SC.kids;simp
          have h3:=zo4.out;have h4:=HM.out;rw [wb4];omega)
        have zr4:Hid ((vs.length+1) - (D::Ds).length<(vs.length+1) - Ds.length):=iQ (by
         have h1:=qv3.out.1;have h2:=HA.out.same;have h3:vs.length=pre.length+(rest'.length+1):=by rw [h1];simp
         rw [wb4];omega)
        clear hxl hk2 hn2 c3 hDl hE hs2 hdef;go_wp2_with fail;refine ⟨⟨fun i=>([undef,undef,undef,undef,undef,undef,undef,_,_,_,_,_,undef,undef,undef,undef,undef,undef,undef,undef,undef,undef,undef,undef,_,_,_,_,_,_,_,_,_,_,_,_,_,_,_,_,_,_,_,_,_,_,_,_,_,_,_,_,_,_,_,_,_,_,_,_,_,_,_,_,_,_,_,_]:List Value).getD i undef,D::Ds,HF,rfl⟩,?_⟩;simpa [qQ6] using zr4.out
      ·have HE:Hid (∀ W',Qb w3 (·∈Ds) W' (·∈Ds)->QK W.heap.size R J Jx (QJ W tb pb db t vs e0) (.returned (.tuple #[])) W'):=iQ (qa3 (b:=false) HJ.out.2 (HB.out.asked hj hs m3) (fun _=>⟨rfl,fun h=>(by cases h)⟩))
       have HD:=iQ (HB.out.asked hj hs m3).marks_;clear hj hs m3;gi_wp2;go_wp2_with fail;exact Zd Ds _ HD.out.1 HD.out.2 (fun W' hm=>⟨_,results_none rfl _ _ _,HE.out W' hm⟩)
     ·have hyl:=HY.out pre (VV.zero,121) C _ wc HB.out.inv HB.out.sep ⟨qv3.out.2,Or.inr ⟨rfl,he0,rfl,by rw [qv3.out.1];simp⟩⟩
      obtain ⟨fn,tmps,assign,body,hy,hRR⟩:=hyl;have HRO:=iQ hRR;dsimp only at hy;unfold VV.val at hy;obtain ⟨z0,z1,z2,z3,z4,z5,z6,z7⟩:=Ze.cells H8.out;clear hRR he0;go_upto_region 8 with fail
      refine (wpIn_wide (n:=0)).1 ?_;gi_wp2;refine HRO.out.mono ?_;rintro e w3 (⟨rfl,C',hj,hs,m3⟩ | ⟨rfl,C',hj,hs,m3⟩)
      ·have HE:Hid (∀ W',Qb w3 (·∈Ds) W' (·∈Ds)->QK W.heap.size R J Jx (QJ W tb pb db t vs e0) (.returned (.tuple #[])) W'):=iQ (qa3 (b:=true) HJ.out.1 (HB.out.asked hj hs m3) (fun h=>by
        have:=h (VV.zero,121) (by simp);exact absurd this (by decide)))
       have HD:=iQ (HB.out.asked hj hs m3).marks_;clear hj hs m3;gi_wp2;go_wp2_with fail;exact Zd Ds _ HD.out.1 HD.out.2 (fun W' hm=>⟨_,results_none rfl _ _ _,HE.out W' hm⟩)
      ·have HE:Hid (∀ W',Qb w3 (·∈Ds) W' (·∈Ds)->QK W.heap.size R J Jx (QJ W tb pb db t vs e0) (.returned (.tuple #[])) W'):=iQ (qa3 (b:=false) HJ.out.2 (HB.out.asked hj hs m3) (fun h=>by
        have:=h (VV.zero,121) (by simp);exact absurd this (by decide)))
       have HD:=iQ (HB.out.asked hj hs m3).marks_;clear hj hs m3;gi_wp2;go_wp2_with fail;exact Zd Ds _ HD.out.1 HD.out.2 (fun W' hm=>⟨_,results_none rfl _ _ _,HE.out W' hm⟩)
end
end
section
open Go.RowKit Go.Maps
section
variable {W:World} {F:Nat->Prop} {tb pb db:Nat} {t:TS}
theorem Uh (w:World) (hl:t.lost=0) (hT:Ql W F w tb pb db t):Calls Tryz.prog 30 #[.pointer (some ⟨tb,0,none⟩)] w fun e w'=>e = .returned (.int .i64 0)/\Yt W F w tb pb db t w':=by
 have hp:t.put [] []=(120,t):=by
  unfold TS.put;rw [if_neg (by rw [hl];decide)];rfl
 have e0:ByteArray.toList ⟨#[]⟩=[]:=by rw [Yb]
 have CP:=Gh (W:=W) (F:=F) (tb:=tb) (pb:=pb) (db:=db) (t:=t) w ⟨#[]⟩ ⟨#[]⟩ (fun _ hb=>by rw [e0] at hb;cases hb) hT;rw [e0,hp] at CP;have HCP:=iQ CP;clear CP hp e0 hl hT;go_enter Tryz.func30,Tryz.ntmps30;go_wp2_with fail;refine HCP.out.mono ?_;rintro e w1 ⟨rfl,F1,h1,m1⟩;have HD:Hid (Yt W F w tb pb db t w1):=iQ ⟨F1,h1,m1⟩;clear h1 m1;go_wp2_with fail;go_ret;exact ⟨rfl,HD.out⟩
theorem KQ (w:World) (HP:Calls Tryz.prog 28 #[.pointer none,.string ⟨#[]⟩,.string ⟨#[]⟩] w fun e w'=>e = .returned (.int .i64 1)/\Below w.heap.size w w'):Calls Tryz.prog 30 #[.pointer none] w fun e w'=>e = .returned (.int .i64 1)/\Below w.heap.size w w':=by
 have H:=iQ HP;clear HP;go_enter Tryz.func30,Tryz.ntmps30;go_wp2_with fail;refine H.out.mono ?_;rintro e w1 ⟨rfl,b1⟩;go_wp2_with fail;go_ret;exact ⟨rfl,b1⟩
end
end
section
open Go.RowKit Go.Maps
attribute [local go_sem] Oper.semAt_some
attribute [local go_sem,local simp] Jp QU
def VF (w:World) (g:Nat) (v:Value):Prop:=w.heap[g]?=some (.cells #[v] 83 (0,0))
def Ku (w:World) (g:Nat) (e:Int):Prop:=w.heap[g]?=some (.cells #[.int .i64 e] 30 (0,0))
section
variable {w w':World} {g:Nat} {v:Value} {e:Int}
theorem VF.lt (h:VF w g v):g<w.heap.size:=(wa1.1 h).1
theorem Ku.lt (h:Ku w g e):g<w.heap.size:=(wa1.1 h).1
theorem VF.cell (h:VF w g v):w.cell? ⟨g,0,none⟩=some v/\w.frozen? ⟨g,0,none⟩=false:=⟨(cell_of_row w g 0 _ _ _ h).trans rfl,frozen_of_row w g 0 _ _ h⟩
theorem Ku.cell (h:Ku w g e):w.cell? ⟨g,0,none⟩=some (.int .i64 e)/\w.frozen? ⟨g,0,none⟩=false:=⟨(cell_of_row w g 0 _ _ _ h).trans rfl,frozen_of_row w g 0 _ _ h⟩
theorem VF.kept (h:VF w g v) (hb:Below w.heap.size w w'):VF w' g v:=(hb.block g h.lt).trans h
theorem Ku.kept (h:Ku w g e) (hb:Below w.heap.size w w'):Ku w' g e:=(hb.block g h.lt).trans h
theorem VF.put (h:VF w g v) (v':Value):VF (w.setCell ⟨g,0,none⟩ v') g v':=Joins.block_setCell (i:=0) h v'
theorem Ku.put (h:Ku w g e) (e':Int):Ku (w.setCell ⟨g,0,none⟩ (.int .i64 e')) g e':=Joins.block_setCell (i:=0) h _
end
structure Kt (w0:World) (F0 C I:Nat->Prop) (w:World):Prop where
 kept:Qj F0 w0 w
 i:∀ k,I k->F0 k\/w0.heap.size<=k
 c:∀ k,C k->w0.heap.size<=k
section
variable {w0 w w':World} {F0 C C' I I':Nat->Prop}
theorem Kt.iter (h:Kt w0 F0 C I w) (m:Qb w I w' I'):Kt w0 F0 C I' w':=⟨h.kept.trans m.kept h.i,fun k hk=>by
 rcases m.news k hk with e | e
 ·exact h.i k e
 ·exact Or.inr (wa9 h.kept.size e),h.c⟩
theorem Kt.body (h:Kt w0 F0 C I w) (m:Qb w C w' C'):Kt w0 F0 C' I w':=⟨h.kept.trans m.kept (fun k hk=>Or.inr (h.c k hk)),h.i,fun k hk=>by
 rcases m.news k hk with e | e
 ·exact h.c k e
 ·exact wa9 h.kept.size e⟩
end
theorem Jc.body {B:Nat} {R C C' I:Nat->Prop} {w w':World} (h:Jc B R C I w) (hB:B<=w.heap.size) (m:Qb w C w' C') (hl:∀ k,C' k->k<w'.heap.size):Jc B R C' I w' :=
 ⟨fun k hk=>by
  rcases m.news k hk with e | e
  ·obtain ⟨a,_,c,d⟩:=h.c k e
   exact ⟨a,hl k hk,c,d⟩
  ·exact ⟨wa9 hB e,hl k hk,fun e2=>by have:=h.i k e2;omega,fun e2=>by have:=(h.r k e2).1;omega⟩,
  fun k hk=>⟨wa3 (h.r k hk).1 m.kept.size,(h.r k hk).2⟩,fun k hk=>wa3 (h.i k hk) m.kept.size⟩
theorem Xe.kept {R C I I':Nat->Prop} {B:Nat} {w w':World} (hs:Jc B R C I w) (hm:Qb w I w' I'):∀ k,C k->w'.heap[k]?=w.heap[k]?:=fun k hk=>hm.kept.block k (hs.c k hk).2.1 (hs.c k hk).2.2.1
structure EvA (w0:World) (F0:Nat->Prop) (g0 ab:Nat) (v:Value) (pre:List (VV×Int)) (C I:Nat->Prop) (w:World):Prop where
 ok:∀ y∈pre,y.2=0
 b0:VF w g0 (.slice none 0 0)
 b1:Ku w (g0+1) 0
 b2:VF w ab v
 lt:g0+1<ab
 row:w.ownsRow w0.heap.size 77 8 v pre.length (pre.flatMap (fun y=>y.1.cells))
 mine:C g0/\C (g0+1)/\C ab/\∀ g,v.ownBlock=some g->C g
 far:∀ y∈pre,y.1.x.ok w (both C I)
 bes:Kt w0 F0 C I w
def EvJ (w0:World) (F0:Nat->Prop) (g0 ab:Nat):Jo (VV×Int):=fun pre C I w=>∃ v,EvA w0 F0 g0 ab v pre C I w
def EvX (w0:World) (F0:Nat->Prop) (g0:Nat) (e0:Int):Code->Jo (VV×Int):=fun c _ C I w=>c = .ret/\e0=121/\VF w g0 (.slice none 0 0)/\Ku w (g0+1) 121/\C g0/\C (g0+1)/\Kt w0 F0 C I w
def EvQ (w0:World) (F0:Nat->Prop) (g0 ab:Nat) (vs:List SC.Vis) (e0:Int) (g6:Nat) (pre:List (VV×Int)) (x:VV×Int) (C I:Nat->Prop) (w:World):Prop :=
 EvJ w0 F0 g0 ab pre C I w/\C g6/\VBx w g6 x.1/\UU vs e0 pre x (both C I) w
section
variable {B g0 ab g6:Nat} {R C C' I I' F0:Nat->Prop} {w0 w w':World} {pre:List (VV×Int)} {x:VV×Int} {vs:List SC.Vis} {e0:Int} {v v':Value} {a:Act}
theorem EvJ.stays:Xe B R (EvJ w0 F0 g0 ab):=by
 intro pre C I w w' I' ⟨v,h⟩ hs hm _;have hC:=Xe.kept hs hm;obtain ⟨m0,m1,m2,m3⟩:=h.mine;exact ⟨v,h.ok,(hC _ m0).trans h.b0,(hC _ m1).trans h.b1,(hC _ m2).trans h.b2,h.lt,Zb h.row (fun g e=>hC g (m3 g e)),h.mine,fun y hy=>(h.far y hy).mo hm.widerL,h.bes.iter hm⟩
theorem EvX.stays (c:Code):Xe B R (EvX w0 F0 g0 e0 c):=by
 intro pre C I w w' I' ⟨h1,h2,h3,h4,h5,h6,h7⟩ hs hm _;have hC:=Xe.kept hs hm;exact ⟨h1,h2,(hC _ h5).trans h3,(hC _ h6).trans h4,h5,h6,h7.iter hm⟩
theorem UU.mo {U U':Nat->Prop} (h:UU vs e0 pre x U w) (m:Qb w U w' U'):UU vs e0 pre x U' w':=⟨h.1,h.2.imp (fun h=>⟨h.1,h.2.1.mo m,h.2.2⟩) id⟩
theorem EvQ.stays (h:EvQ w0 F0 g0 ab vs e0 g6 pre x C I w) (hs:Jc B R C I w) (hm:Qb w I w' I') (hl:∀ k,I' k->k<w'.heap.size):EvQ w0 F0 g0 ab vs e0 g6 pre x C I' w' :=
 ⟨EvJ.stays _ _ _ _ _ _ h.1 hs hm hl,h.2.1,(Xe.kept hs hm _ h.2.1).trans h.2.2.1,h.2.2.2.mo hm.widerL⟩
theorem Va (m:Qb w C w' C'):Qb w (both C I) w' (both C' I):=m.wider
theorem qU1 (h:EvJ w0 F0 g0 ab pre C I w) (hs:Jc B R C I w) (hB:B<=w.heap.size) (hok:UU vs e0 pre x (both C I) w) (hb:Below w.heap.size w w') (hx:VBx w' w.heap.size x.1) :
 EvQ w0 F0 g0 ab vs e0 w.heap.size pre x (fun k=>C k\/k=w.heap.size) I w'/\Jc B R (fun k=>C k\/k=w.heap.size) I w'/\Qb w C w' (fun k=>C k\/k=w.heap.size):=by
 obtain ⟨v,h⟩:=h;have hm:Qb w C w' (fun k=>C k\/k=w.heap.size):=⟨Qj.below hb C,fun k hk=>hk.imp id (fun e=>by omega)⟩;have hl:∀ k,(C k\/k=w.heap.size)->k<w'.heap.size:=fun k hk=>by
  rcases hk with e | e
  ·exact wa3 (hs.c k e).2.1 hb.size
  ·rw [e]
   exact Ze.lt hx
 obtain ⟨m0,m1,m2,m3⟩:=h.mine;exact ⟨⟨⟨v,h.ok,h.b0.kept hb,h.b1.kept hb,h.b2.kept hb,h.lt,Zb h.row (fun g e=>hb.block g (hs.c g (m3 g e)).2.1),⟨Or.inl m0,Or.inl m1,Or.inl m2,fun g e=>Or.inl (m3 g e)⟩,fun y hy=>(h.far y hy).mo (Va hm),h.bes.body hm⟩,Or.inr rfl,hx,hok.mo (Va hm)⟩,hs.body hB hm hl,hm⟩
theorem zm2 (h:EvJ w0 F0 g0 ab pre C I w) (hs:Jc B R C I w) (he:e0=121) :
 Jl B R (EvJ w0 F0 g0 ab) (EvX w0 F0 g0 e0) (pre++[x]) C I w .ret a ((w.setCell ⟨g0,0,none⟩ (.slice none 0 0)).setCell ⟨g0+1,0,none⟩ (.int .i64 121)):=by
 obtain ⟨v,h⟩:=h;obtain ⟨m0,m1,m2,m3⟩:=h.mine;have hm:Qb w C ((w.setCell ⟨g0,0,none⟩ (.slice none 0 0)).setCell ⟨g0+1,0,none⟩ (.int .i64 121)) C:=(Qb.setCell w (a:=⟨g0,0,none⟩) m0 _).trans (Qb.setCell _ (a:=⟨g0+1,0,none⟩) m1 _);refine ⟨C,⟨rfl,he,?_,?_,m0,m1,h.bes.body hm⟩,⟨fun k hk=>?_,fun k hk=>⟨wa3 (hs.r k hk).1 hm.kept.size,(hs.r k hk).2⟩,fun k hk=>wa3 (hs.i k hk) hm.kept.size⟩,hm⟩
 ·exact (Below.heap_setCell _ _ _ _ (by show g0≠g0+1;omega)).trans (h.b0.put _)
 ·exact Ku.put (e:=0) ((Below.heap_setCell _ _ _ _ (by show g0+1≠g0;omega)).trans h.b1) 121
 ·obtain ⟨a,b,c⟩:=hs.c k hk
  exact ⟨a,wa3 b hm.kept.size,c⟩
theorem Gl {base n sz k:Nat} {e:TypeId} {xs:List Value} (h:w.ownsRow base e sz v n xs) (hk:v.ownBlock=some k):∃ cur,w.heap[k]?=some (.cells cur e (0,0)):=by
 rcases h.2 with ⟨rfl,_⟩ | ⟨g,cap,cur,hv,hg,hh,r⟩
 ·cases hk
 ·rw [hv] at hk
  injection hk with hk
  subst hk;exact ⟨cur,hh⟩
theorem qb5 {base n:Nat} {xs:List Value} (h:w.ownsRow base 77 8 v n xs) (hb:VF w ab v'):v.ownBlock≠some ab:=by
 intro e;obtain ⟨c,h1⟩:=Gl h e;rw [hb] at h1;injection h1 with h1
 injection h1 with _ h1
 revert h1;decide
theorem zd0 {W8 w9:World} (h:EvA w0 F0 g0 ab v pre C I w) (hs:Jc B R C I w) (hB:B<=w.heap.size) (hx0:x.2=0) (hx:x.1.x.ok w (both C I)) (hb:Below w.heap.size w W8)
 (ho:w9.ownsRow w0.heap.size 77 8 v' (pre.length+1) (pre.flatMap (fun y=>y.1.cells)++x.1.cells)) (hg:W8.grownBy w9 v.ownBlock) (hd:v'.ownBlock=v.ownBlock\/v'.ownBlock=some W8.heap.size) :
 Jl B R (EvJ w0 F0 g0 ab) (EvX w0 F0 g0 e0) (pre++[x]) C I w .normal a (w9.setCell ⟨ab,0,none⟩ v')/\w9.cell? ⟨ab,0,none⟩=some v/\w9.frozen? ⟨ab,0,none⟩=false:=by
 obtain ⟨m0,m1,m2,m3⟩:=h.mine;have hne:=qb5 h.row h.b2;have hn0:=qb5 h.row h.b0;have hn1:v.ownBlock≠some (g0+1):=fun e=>by
  obtain ⟨c,h1⟩:=Gl h.row e;rw [h.b1] at h1;injection h1 with h1
  injection h1 with _ h1
  revert h1;decide
 have keep:∀ {k:Nat},k<w.heap.size->v.ownBlock≠some k->w9.heap[k]?=w.heap[k]?:=fun hk hn=>(hg.block _ (wa3 hk hb.size) (fun e=>hn e.symm)).trans (hb.block _ hk);have hv':v'.ownBlock≠some ab:=by
  rcases hd with e | e
  ·rw [e];exact hne
  ·rw [e]
   intro e;have:=wa0 e;have:=h.b2.lt;have:=hb.size;omega
 have h29:VF w9 ab v:=(keep h.b2.lt hne).trans h.b2;have hC':∀ k,v'.ownBlock=some k->C k\/w.heap.size<=k:=fun k e=>by
  rcases hd with h1 | h1
  ·exact Or.inl (m3 k (h1.symm.trans e))
  ·right
   rw [h1] at e;have:=wa0 e;have:=hb.size;omega
 have hm:Qb w C (w9.setCell ⟨ab,0,none⟩ v') (fun k=>C k\/v'.ownBlock=some k) :=
  ⟨⟨hg.os.trans hb.os,hg.tape.trans hb.tape,hg.output.trans hb.output,by simp [World.setCell];exact wa9 hb.size hg.size,fun k h1 h2 =>
    (Below.heap_setCell _ _ _ _ (fun e=>h2 (by rw [show k=ab from e];exact m2))).trans (keep h1 (fun e=>h2 (m3 k e)))⟩,fun k hk=>hk.elim Or.inl (hC' k)⟩
 have hrow:(w9.setCell ⟨ab,0,none⟩ v').ownsRow w0.heap.size 77 8 v' (pre.length+1) (pre.flatMap (fun y=>y.1.cells)++x.1.cells):=Zb ho (fun q eq=>Below.heap_setCell _ _ _ _ (fun e=>hv' (by rw [eq];exact congrArg some e)));have hl:∀ k,(C k\/v'.ownBlock=some k)->k<(w9.setCell ⟨ab,0,none⟩ v').heap.size:=fun k hk=>by
  rcases hk with e | e
  ·exact wa3 (hs.c k e).2.1 hm.kept.size
  ·exact (hrow.lt k e).2
 refine ⟨⟨_,⟨v',?_,?_,?_,?_,h.lt,?_,⟨Or.inl m0,Or.inl m1,Or.inl m2,fun g e=>Or.inr e⟩,?_,h.bes.body hm⟩,hs.body hB hm hl,hm⟩,h29.cell.1,h29.cell.2⟩
 ·intro y hy
  rcases wb0.1 hy with hy | hy
  ·exact h.ok y hy
  ·rw [wa4.1 hy];exact hx0
 ·exact (Below.heap_setCell _ _ _ _ (by show g0≠ab;have:=h.lt;omega)).trans ((keep h.b0.lt hn0).trans h.b0)
 ·exact (Below.heap_setCell _ _ _ _ (by show g0+1≠ab;have:=h.lt;omega)).trans ((keep h.b1.lt hn1).trans h.b1)
 ·exact h29.put v'
 ·rw [wa6,wf9]
  simpa using hrow
 ·intro y hy
  refine NV.ok.mo ?_ (Va hm);rcases wb0.1 hy with hy | hy
  ·exact h.far y hy
  ·rw [wa4.1 hy];exact hx
theorem zk5 (w:World) (x:VV) (j:Nat) (u:Value) (hu:x.cells[j]?=some u) :
 (w.alloc (.cells #[.int .i64 x.pg,.int .i64 x.ht,.string x.lo,.string x.hi,.bool x.x.s.leaf,.slice x.x.A x.x.n x.x.c,.slice x.x.B x.x.m x.x.d,.slice x.x.C x.x.k x.x.e] 77)).cell? ((⟨w.heap.size,0,none⟩:Addr).add j)=some u:=by
 rw [VS,we6];exact (cell_of_row _ w.heap.size j _ _ _ (heap_alloc_new w _)).trans (by
  have:(#[.int .i64 x.pg,.int .i64 x.ht,.string x.lo,.string x.hi,.bool x.x.s.leaf,.slice x.x.A x.x.n x.x.c,.slice x.x.B x.x.m x.x.d,.slice x.x.C x.x.k x.x.e]:Array Value).toList=x.cells:=rfl;rw [<- Array.getElem?_toList,this,hu])
theorem Yr {P:Program} {fn:Func} {p q:Tmp} {ty tz:TypeId} (h:fn.results=#[.cell p ty,.cell q tz]) (tmps:Array Value) (w:World) (a b:Addr) (u v:Value) (hp:tmps.getD p undef = .pointer (some a)) (hq:tmps.getD q undef = .pointer (some b))
 (h1:(loadVar ty a).run P w = .ok u w) (h2:(loadVar tz b).run P w = .ok v w):(results fn tmps).run P w = .ok (.tuple #[u,v]) w:=by
 have hp':tmps[p]?.getD undef = .pointer (some a):=by simpa using hp
 have hq':tmps[q]?.getD undef = .pointer (some b):=by simpa using hq
 simp [results,h,hp',hq',asAddr,h1,h2,Sem.run_bind,Result.andThen]
theorem ql2 (a:Array Value) (p q:Tmp) (x y:Value):(#[p,q].zip #[x,y]).foldl (fun t (x:Tmp×Value)=>match x with | (p,v)=>t.setIfInBounds p v) a=(a.setIfInBounds p x).setIfInBounds q y:=by simp
theorem VF.load (h:VF w g0 v):(loadVar 83 ⟨g0,0,none⟩).run Tryz.prog w = .ok v w:=by
 have h1:=h.cell.1
 go_simp
theorem Ku.load {e:Int} (h:Ku w g0 e):(loadVar 30 ⟨g0,0,none⟩).run Tryz.prog w = .ok (.int .i64 e) w:=by
 have h1:=h.cell.1
 go_simp
end
def qX6 (W:World) (F:Nat->Prop) (w:World) (tb pb db:Nat) (t:TS) (vs:List SC.Vis) (e0:Int) (e:Ending) (w':World):Prop :=
 ∃ F' er,Ql W F' w' tb pb db (t.told er)/\Qb w F w' F' /\
   ((e0=121/\e = .returned (.tuple #[.slice none 0 0,.int .i64 121]))\/(e0=0/\er=0/\∃ A n c l,e = .returned (.tuple #[.slice A n c,.int .i64 0])/\UG w' F' A n c l/\l.map VV.vis=vs/\Yp w.heap.size A))
section
variable {W w0 w:World} {F0 C I R:Nat->Prop} {tb pb db g0 ab B D l:Nat} {t:TS} {vs:List SC.Vis} {e0:Int} {v:Value} {xs:List (VV×Int)}
theorem zd1 (hv:EvA w0 F0 g0 ab v xs C (Zc I D l) w) (hs:Jc B R C (Zc I D l) w) (hDI:¬ I D) (hD:w.heap[D]?=some (.deferred (some []))) (hE:QJ W tb pb db t vs e0 true xs I w) (hW:W.heap.size<=w0.heap.size) (hDw:w0.heap.size<=D) :
 ((w.setCell ⟨g0,0,none⟩ v).setCell ⟨g0+1,0,none⟩ (.int .i64 0)).heap[D]?=some (.deferred (some [])) /\
 ∀ W',Qb ((w.setCell ⟨g0,0,none⟩ v).setCell ⟨g0+1,0,none⟩ (.int .i64 0)) (·∈[D]) W' (·∈[D])->VF W' g0 v/\Ku W' (g0+1) 0/\qX6 W F0 w0 tb pb db t vs e0 (.returned (.tuple #[v,.int .i64 0])) W':=by
 obtain ⟨m0,m1,m2,m3⟩:=hv.mine;obtain ⟨F',er,h1,h2,h3⟩:=hE;obtain ⟨rfl,h4⟩:=h3 hv.ok;obtain ⟨rfl,hvs⟩:=h4 rfl;have hnC:∀ k,C k->k≠D:=fun k hk e=>(hs.c k hk).2.2.1 (Or.inr (Or.inl e));have hDl:=(wa1.1 hD).1;have hm1:Qb w (fun k=>(k=g0\/k=g0+1)\/k=D) ((w.setCell ⟨g0,0,none⟩ v).setCell ⟨g0+1,0,none⟩ (.int .i64 0)) (fun k=>(k=g0\/k=g0+1)\/k=D) :=
  (Qb.setCell w (a:=⟨g0,0,none⟩) (Or.inl (Or.inl rfl)) _).trans (Qb.setCell _ (a:=⟨g0+1,0,none⟩) (Or.inl (Or.inr rfl)) _)
 have hg:VF ((w.setCell ⟨g0,0,none⟩ v).setCell ⟨g0+1,0,none⟩ (.int .i64 0)) g0 v:=(Below.heap_setCell _ _ _ _ (by show g0≠g0+1;omega)).trans (hv.b0.put _);have hg1:Ku ((w.setCell ⟨g0,0,none⟩ v).setCell ⟨g0+1,0,none⟩ (.int .i64 0)) (g0+1) 0:=Ku.put (e:=0) ((Below.heap_setCell _ _ _ _ (by show g0+1≠g0;omega)).trans hv.b1) 0;refine ⟨(Below.heap_setCell _ _ _ _ (fun e=>hnC _ m1 e.symm)).trans ((Below.heap_setCell _ _ _ _ (fun e=>hnC _ m0 e.symm)).trans hD),fun W' hm=>?_⟩;have hd:∀ k,k∈[D]->k=D:=fun k hk=>wa4.1 hk;have hm2:Qb w (fun k=>(k=g0\/k=g0+1)\/k=D) W' (fun k=>(k=g0\/k=g0+1)\/k=D):=hm1.trans ⟨hm.kept.more (fun k hk=>Or.inr (hd k hk)),fun k hk=>Or.inl hk⟩;have hX:∀ k,((k=g0\/k=g0+1)\/k=D)->w0.heap.size<=k/\¬ F' k:=fun k hk=>by
  rcases hk with (rfl | rfl) | rfl
  ·exact ⟨hv.bes.c _ m0,fun e=>(hs.c _ m0).2.2.1 (Or.inl (h1 _ e))⟩
  ·exact ⟨hv.bes.c _ m1,fun e=>(hs.c _ m1).2.2.1 (Or.inl (h1 _ e))⟩
  ·exact ⟨hDw,fun e=>hDI (h1 _ e)⟩
 have hrow:=Zb (w':=W') hv.row (fun g e=>hm2.kept.block g (hv.row.lt g e).2 (fun e2=>by
  rcases e2 with (rfl | rfl) | rfl
  ·exact qb5 hv.row hv.b0 e
  ·obtain ⟨c,hc⟩:=Gl hv.row e
   rw [hv.b1] at hc;injection hc with hc
   injection hc with _ hc
   revert hc;decide
  ·exact hnC _ (m3 _ e) rfl))
 refine ⟨(hm.kept.block g0 hg.lt (fun e=>hnC _ m0 (hd _ e))).trans hg,(hm.kept.block (g0+1) hg1.lt (fun e=>hnC _ m1 (hd _ e))).trans hg1,F',0,h2.other hm2 (fun k hk=>⟨wa9 hW (hX k hk).1,(hX k hk).2⟩),⟨hv.bes.kept.trans hm2.kept (fun k hk=>Or.inr (hX k hk).1),fun k hk=>hv.bes.i k (Or.inl (h1 k hk))⟩,Or.inr ⟨rfl,rfl,?_⟩⟩;obtain ⟨A,c,rfl,_,hl⟩:=Ln.oo hrow;have hfm:xs.flatMap (fun y=>y.1.cells)=(xs.map Prod.fst).flatMap VV.cells:=by rw [List.flatMap_map]
 refine ⟨A,xs.length,c,xs.map Prod.fst,rfl,⟨⟨hfm ▸ hl,fun _ ad e=>?_⟩,fun y hy=>?_⟩,by rw [hvs,List.map_map];rfl,Yp.oo hrow⟩
 ·subst e
  exact fun e2=>(hs.c _ (m3 _ rfl)).2.2.1 (Or.inl (h1 _ e2))
 ·obtain ⟨z,hz,rfl⟩:=wd7.1 hy
  refine NV.ok.fewer (NV.ok.mo (hv.far z hz) (show Qb w (both C (Zc I D l)) W' (both C (Zc I D l)) from ⟨hm2.kept.more (fun k hk=>?_),fun _ h=>Or.inl h⟩)) (fun k hk=>Or.inr (Or.inl (h1 k hk)));rcases hk with (rfl | rfl) | rfl
  ·exact Or.inl m0
  ·exact Or.inl m1
  ·exact Or.inr (Or.inr (Or.inl rfl))
theorem zc9 {c:Code} {pre:List (VV×Int)} (hx:EvX w0 F0 g0 e0 c pre C (Zc I D l) w) (hs:Jc B R C (Zc I D l) w) (hDI:¬ I D) (hE:QJ W tb pb db t vs e0 false pre I w) (hW:W.heap.size<=w0.heap.size) (hDw:w0.heap.size<=D) :
 ∀ W',Qb w (·∈[D]) W' (·∈[D])->VF W' g0 (.slice none 0 0)/\Ku W' (g0+1) 121/\qX6 W F0 w0 tb pb db t vs e0 (.returned (.tuple #[.slice none 0 0,.int .i64 121])) W':=by
 obtain ⟨_,he,b0,b1,m0,m1,bes⟩:=hx;obtain ⟨F',er,h1,h2,_⟩:=hE;have hnC:∀ k,C k->k≠D:=fun k hk e=>(hs.c k hk).2.2.1 (Or.inr (Or.inl e));intro W' hm;have hd:∀ k,k∈[D]->k=D:=fun k hk=>wa4.1 hk;exact ⟨(hm.kept.block g0 b0.lt (fun e=>hnC _ m0 (hd _ e))).trans b0,(hm.kept.block (g0+1) b1.lt (fun e=>hnC _ m1 (hd _ e))).trans b1,F',er,h2.other hm (fun k hk=>by rw [hd k hk];exact ⟨wa9 hW hDw,fun e=>hDI (h1 _ e)⟩),⟨bes.kept.trans hm.kept (fun k hk=>Or.inr (by rw [hd k hk];exact hDw)),fun k hk=>bes.i k (Or.inl (h1 k hk))⟩,Or.inl ⟨he,rfl⟩⟩
end
section
variable {W:World} {F:Nat->Prop} {tb pb db:Nat} {t:TS} {Z:Int->Prop} {vs:List SC.Vis} {e0:Int}
theorem MQ (w:World) (hT:Ql W F w tb pb db t) (hl:t.lost=0) (hw:SC.Walk t.nd (fun _=>true) (SC.start0 t) [] vs e0) (hZ:Way t.z t.nd (fun _=>true) Z vs e0) (hst:∀ u∈SC.start0 t,Z u.pg) (hht:t.ht<=100) :
 Calls Tryz.prog 35 #[.pointer (some ⟨tb,0,none⟩)] w (qX6 W F w tb pb db t vs e0):=by
 have HZ:=iQ (And.intro hZ hst);have HWK:=iQ hw;have HL:=iQ hl;have HT:=iQ hT;have TY:=iQ hT.below.size;clear hT hl hw hZ hst;refine callsIn_wide.1 (callsIn_of_wp_marks (n:=0) Tryz.func35 rfl trivial (wpIn_wide.2 ?_) rfl);simp only [Tryz.ntmps35,List.size_toArray,List.length_cons,List.length_nil,Nat.reduceAdd,Nat.reduceSub,Array.replicate_succ,Array.replicate_zero,List.push_toArray,List.append_toArray,List.nil_append,List.cons_append];have b1:=Qa w (.cells #[.slice none 0 0] 83);have G0:=heap_alloc_new w (.cells #[.slice none 0 0] 83);have hs1:(w.alloc (.cells #[.slice none 0 0] 83)).heap.size=w.heap.size+1:=by simp
 go_upto_region 1 with fail
 generalize hw1:w.alloc (.cells #[.slice none 0 0] 83)=w1 at *;have b2:=Qa w1 (.cells #[.int .i64 0] 30);have G1:=heap_alloc_new w1 (.cells #[.int .i64 0] 30);rw [hs1] at G1;have H0:=iQ (show VF (w1.alloc (.cells #[.int .i64 0] 30)) w.heap.size (.slice none 0 0) from (b2.block _ (by omega)).trans G0);have H1:=iQ (show Ku (w1.alloc (.cells #[.int .i64 0] 30)) (w.heap.size+1) 0 from G1);have BW:=iQ (Qe b2 b1);clear hw1 b1 b2 G0 G1 hs1;generalize w1.alloc (.cells #[.int .i64 0] 30)=w2 at *;have T2:=iQ (HT.out.kept BW.out);have NF:Hid (¬ F w.heap.size/\¬ F (w.heap.size+1)):=iQ ⟨HT.out.new (wa2 _),HT.out.new (by omega)⟩;go_wp2_with fail;refine (Uh w2 HL.out T2.out).mono ?_;rintro e w3 ⟨rfl,F3,h3,m3⟩;have T3:=iQ h3;have M3:=iQ ((Qb.ob BW.out).trans m3);have H03:=iQ (show VF w3 w.heap.size (.slice none 0 0) from (m3.kept.block _ H0.out.lt NF.out.1).trans H0.out);have H13:=iQ (show Ku w3 (w.heap.size+1) 0 from (m3.kept.block _ H1.out.lt NF.out.2).trans H1.out);have NF3:Hid (¬ F3 w.heap.size/\¬ F3 (w.heap.size+1)):=iQ ⟨Js m3 H0.out.lt NF.out.1,Js m3 H1.out.lt NF.out.2⟩;clear h3 m3 T2 H0 H1 BW NF;have b4:=Qa w3 (.cells #[.slice none 0 0] 83);have H24:=iQ (show VF (w3.alloc (.cells #[.slice none 0 0] 83)) w3.heap.size (.slice none 0 0) from heap_alloc_new w3 _);have H04:=iQ (H03.out.kept b4);have H14:=iQ (H13.out.kept b4);have T4:=iQ (T3.out.kept b4);have M4:=iQ (M3.out.trans (Qb.ob (F:=F3) b4));have NF4:Hid (¬ F3 w3.heap.size):=iQ (T3.out.new (wa2 _));have HAB:Hid (w.heap.size+1<w3.heap.size):=iQ H13.out.lt;clear b4 T3 M3 H03 H13;go_upto_region 5 with fail
 generalize w3.alloc (.cells #[.slice none 0 0] 83)=w4 at *;generalize w3.heap.size=ab at *;go_wp2_with fail;refine (TN (some ⟨tb,0,none⟩) 66 #[] w4).mono ?_;rintro e w5 ⟨rfl,hw5⟩;have ba:=Qa w4 (.cells #[.pointer (some ⟨tb,0,none⟩)] 24);have bb:=Qa (w4.alloc (.cells #[.pointer (some ⟨tb,0,none⟩)] 24)) (.cells #[.func (.func 66) #[] #[]] 78);have hsa:(w4.alloc (.cells #[.pointer (some ⟨tb,0,none⟩)] 24)).heap.size=w4.heap.size+1:=by simp
 have B5:=iQ (Qe bb ba);have ga:=(bb.block w4.heap.size (by omega)).trans (heap_alloc_new w4 (.cells #[.pointer (some ⟨tb,0,none⟩)] 24));have gc:=heap_alloc_new (w4.alloc (.cells #[.pointer (some ⟨tb,0,none⟩)] 24)) (.cells #[.func (.func 66) #[] #[]] 78);have hsb:((w4.alloc (.cells #[.pointer (some ⟨tb,0,none⟩)] 24)).alloc (.cells #[.func (.func 66) #[] #[]] 78)).heap.size=w4.heap.size+2:=by simp
 rw [hsa] at gc;rw [hw5] at B5 ga gc hsb;have HG5:Hid (w5.cell? ⟨w4.heap.size,0,none⟩=some (.pointer (some ⟨tb,0,none⟩))/\w5.cell? ⟨w4.heap.size+1,0,none⟩=some (.func (.func 66) #[] #[])):=iQ ⟨(cell_of_row _ _ 0 _ _ _ ga).trans rfl,(cell_of_row _ _ 0 _ _ _ gc).trans rfl⟩;have HS5:=iQ hsb;have NR:Hid (¬ F3 w4.heap.size/\¬ F3 (w4.heap.size+1)):=iQ ⟨T4.out.new (wa2 _),T4.out.new (by omega)⟩;have T5:=iQ (T4.out.kept B5.out);have H05:=iQ (H04.out.kept B5.out);have H15:=iQ (H14.out.kept B5.out);have H25:=iQ (H24.out.kept B5.out);have M5:=iQ (M4.out.trans (Qb.ob (F:=F3) B5.out));have HAB4:Hid (ab<w4.heap.size):=iQ H24.out.lt;clear hw5 ba bb hsa ga gc hsb T4 H04 H14 H24 M4;generalize w4.heap.size=gb at *;clear B5;go_wp2_with fail;have hB5:W.heap.size<=w5.heap.size:=T5.out.below.size;have HSW:Hid (w.heap.size<=w5.heap.size):=iQ M5.out.kept.size;have HB:=iQ hB5;have hs0:Jc W.heap.size (fun k=>k=gb\/k=gb+1) (fun k=>k=w.heap.size\/k=w.heap.size+1\/k=ab) F3 w5:=by
  have h1:=HAB.out;have h2:=HAB4.out;have h3:=HS5.out;have h4:=TY.out;refine ⟨fun k hk=>?_,fun k hk=>?_,T5.out.lt⟩
  ·rcases hk with rfl | rfl | rfl
   ·exact ⟨h4,by omega,NF3.out.1,by omega⟩
   ·exact ⟨by omega,by omega,NF3.out.2,by omega⟩
   ·exact ⟨by omega,by omega,NF4.out,by omega⟩
  ·rcases hk with rfl | rfl
   ·exact ⟨by omega,NR.out.1⟩
   ·exact ⟨by omega,NR.out.2⟩
 have zl8:Kt w F (fun k=>k=w.heap.size\/k=w.heap.size+1\/k=ab) F3 w5:=⟨M5.out.kept,M5.out.news,fun k hk=>by
  have:=HAB.out;rcases hk with rfl | rfl | rfl<;>omega⟩
 have hj0:EvJ w F w.heap.size ab [] (fun k=>k=w.heap.size\/k=w.heap.size+1\/k=ab) F3 w5 :=
  ⟨.slice none 0 0,(fun y hy=>(by cases hy)),H05.out,H15.out,H25.out,HAB.out,World.ownsRow_nil _ _ _ _,⟨Or.inl rfl,Or.inr (Or.inl rfl),Or.inr (Or.inr rfl),fun g e=>(by cases e)⟩,(fun y hy=>(by cases hy)),zl8⟩
 clear hB5;refine JG (B:=W.heap.size) (R:=fun k=>k=gb\/k=gb+1) (gf:=62) (lb:=#[.pointer (some ⟨gb,0,none⟩),.pointer (some ⟨gb+1,0,none⟩)]) (I0:=F3) rfl (enters_of Tryz.func62 (by kernel_rfl) rfl)
  (TG (R:=fun k=>k=gb\/k=gb+1) gb (gb+1) 66 #[] T5.out HL.out HWK.out HZ.out.1 HZ.out.2 hht HG5.out.1 HG5.out.2 ⟨Or.inl rfl,Or.inr rfl⟩ (fun k hk=>(hs0.r k hk).1) (enters_of Tryz.func66 (by kernel_rfl) rfl) (fun u W' _=>?hwant))
  (fun _=>rfl) HB.out T5.out.lt (EvJ w F w.heap.size ab) (EvX w F w.heap.size e0) EvJ.stays EvX.stays (fun k=>k=w.heap.size\/k=w.heap.size+1\/k=ab) hj0 hs0 ?qE9
  (fun pre x a' C I w'=>∃ g6,a'={ tmps:=#[.pointer (some ⟨tb,0,none⟩),undef,.pointer (some ⟨w.heap.size,0,none⟩),.pointer (some ⟨w.heap.size+1,0,none⟩),.int .i64 0,.pointer (some ⟨ab,0,none⟩),.pointer (some ⟨g6,0,none⟩),.int .i64 x.2,.pointer (some ⟨tb,0,none⟩),.int .i64 0,.int .i64 0,.bool false,undef,.pointer (some ⟨tb,0,none⟩),.func (.func 62) #[] #[.pointer (some ⟨gb,0,none⟩),.pointer (some ⟨gb+1,0,none⟩)],x.1.val,.int .i64 x.2,undef,undef,undef,undef,undef,undef,undef,undef],defers:=[] }/\EvQ w F w.heap.size ab vs e0 g6 pre x C I w') (fun pre x a' C I w1 w2 I' ⟨g6,e,h⟩ hs hm hi=>⟨g6,e,h.stays hs hm hi⟩) ?XX ?qj4 ?qj3 ?qR6
 case hwant=>simpa using qt1 u W'
 case qE9 =>
  rintro b xs I W1 W2 X ⟨F',er,h1,h2,h3⟩ hm hX;exact ⟨F',er,h1,h2.other hm (fun k hk=>⟨(hX k hk).1,fun e=>(hX k hk).2.2 (h1 k e)⟩),h3⟩
 case XX =>
  rintro l2 pre2 ⟨⟨xp,xh,xl,xu,⟨xA,xn,xc,xB,xm,xd,xC,xk,xe,xs⟩⟩,er⟩ C2 I2 W2 K hj hs hok hK;have hBW:W.heap.size<=W2.heap.size:=by
   obtain ⟨v,hv⟩:=(show ∃ v,EvA w F w.heap.size ab v pre2 C2 I2 W2 from hj);exact wa9 TY.out hv.bes.kept.size
  have qv2:=iQ (qU1 (x:=(⟨xp,xh,xl,xu,⟨xA,xn,xc,xB,xm,xd,xC,xk,xe,xs⟩⟩,er)) hj hs hBW hok (Qa W2 (.cells #[.int .i64 xp,.int .i64 xh,.string xl,.string xu,.bool xs.leaf,.slice xA xn xc,.slice xB xm xd,.slice xC xk xe] 77)) (Zj W2 (.int .i64 xp) (.int .i64 xh) (.string xl) (.string xu) (.bool xs.leaf) (.slice xA xn xc) (.slice xB xm xd) (.slice xC xk xe)));have HZ0:=Zj W2 (.int .i64 0) (.int .i64 0) (.string ⟨#[]⟩) (.string ⟨#[]⟩) (.bool false) (.slice none 0 0) (.slice none 0 0) (.slice none 0 0);have HK:=iQ hK;obtain ⟨z0,z1,z2,z3,z4,z5,z6,z7⟩:=HZ0.cells;have zf0:=HZ0.free 0;have zf1:=HZ0.free 1;have zf2:=HZ0.free 2;have zf3:=HZ0.free 3;have zf4:=HZ0.free 4;have zf5:=HZ0.free 5;have zf6:=HZ0.free 6;have zf7:=HZ0.free 7;clear hK HZ0 hj hs hok hBW;simp only [ql2,List.setIfInBounds_toArray,List.set_cons_succ,List.set_cons_zero,VV.val];gi_wp2;exact HK.out _ _ _ ⟨_,rfl,qv2.out.1⟩ qv2.out.2.1 qv2.out.2.2
 case qj4 =>
  rintro l2 pre2 ⟨⟨xp,xh,xl,xu,⟨xA,xn,xc,xB,xm,xd,xC,xk,xe,xs⟩⟩,er⟩ a2 C2 I2 W2 ⟨rec2,hrec⟩ hIl ⟨g6,rfl,hj,hg6,hvb,hok⟩ hs2;obtain ⟨z0,z1,z2,z3,z4,z5,z6,z7⟩:=Ze.cells hvb;obtain ⟨hpre,hok⟩:=hok;unfold VV.val;dsimp only at z0 z1 z2 z3 z4 z5 z6 z7;rcases hok with ⟨her,hxo,rest,hvs⟩ | ⟨her,he0,hz,hvs⟩
  ·dsimp only at her
   subst her;have hj':∃ v,EvA w F w.heap.size ab v pre2 C2 I2 W2:=hj;obtain ⟨v,hv⟩:=hj';have hBW:W.heap.size<=W2.heap.size:=wa9 TY.out hv.bes.kept.size;have hpl:pre2.length+1<=5000:=by
    have h3:=HZ.out.1.few;rw [hvs] at h3;simp at h3;omega
   obtain ⟨N9,GN⟩:∃ N9,pre2.length=N9:=⟨_,rfl⟩;rw [GN] at hpl;have hrow:=hv.row;rw [GN] at hrow;obtain ⟨xs9,LH⟩:∃ xs9,pre2.flatMap (fun y=>y.1.cells)=xs9:=⟨_,rfl⟩;rw [LH] at hrow;have ba:=Qa W2 (.cells #[.int .i64 xp,.int .i64 xh,.string xl,.string xu,.bool xs.leaf,.slice xA xn xc,.slice xB xm xd,.slice xC xk xe] 77);have VD:=iQ (Zb (w':=W2.alloc (.cells #[.int .i64 xp,.int .i64 xh,.string xl,.string xu,.bool xs.leaf,.slice xA xn xc,.slice xB xm xd,.slice xC xk xe] 77)) hrow (fun g e=>ba.block g (hrow.lt g e).2));obtain ⟨A9,c9,hv9,hc9,_⟩:=Ln.oo hrow;have UR:Hid (∀ (v':Value) (w9:World) (a:Act),w9.ownsRow w.heap.size 77 8 v' (N9+1) (xs9++(VV.mk xp xh xl xu ⟨xA,xn,xc,xB,xm,xd,xC,xk,xe,xs⟩).cells)->(W2.alloc (.cells #[.int .i64 xp,.int .i64 xh,.string xl,.string xu,.bool xs.leaf,.slice xA xn xc,.slice xB xm xd,.slice xC xk xe] 77)).grownBy w9 v.ownBlock->(v'.ownBlock=v.ownBlock\/v'.ownBlock=some (W2.alloc (.cells #[.int .i64 xp,.int .i64 xh,.string xl,.string xu,.bool xs.leaf,.slice xA xn xc,.slice xB xm xd,.slice xC xk xe] 77)).heap.size) ->
    Jl W.heap.size (fun k=>k=gb\/k=gb+1) (EvJ w F w.heap.size ab) (EvX w F w.heap.size e0) (pre2++[(⟨xp,xh,xl,xu,⟨xA,xn,xc,xB,xm,xd,xC,xk,xe,xs⟩⟩,0)]) C2 I2 W2 .normal a (w9.setCell ⟨ab,0,none⟩ v')/\w9.cell? ⟨ab,0,none⟩=some v/\w9.frozen? ⟨ab,0,none⟩=false):=iQ (fun v' w9 a h1 h2 h3=>zd0 (x:=(⟨xp,xh,xl,xu,⟨xA,xn,xc,xB,xm,xd,xC,xk,xe,xs⟩⟩,0)) hv hs2 hBW rfl hxo ba (by rw [GN,LH];exact h1) h2 h3)
   obtain ⟨hb2,_⟩:=hv.b2.cell;have UB:Hid (∀ (j:Nat) (u:Value),(VV.mk xp xh xl xu ⟨xA,xn,xc,xB,xm,xd,xC,xk,xe,xs⟩).cells[j]?=some u->(W2.alloc (.cells #[.int .i64 xp,.int .i64 xh,.string xl,.string xu,.bool xs.leaf,.slice xA xn xc,.slice xB xm xd,.slice xC xk xe] 77)).cell? ((⟨W2.heap.size,0,none⟩:Addr).add j)=some u):=iQ (zk5 W2 ⟨xp,xh,xl,xu,⟨xA,xn,xc,xB,xm,xd,xC,xk,xe,xs⟩⟩);have HBW:Hid (w.heap.size<=(W2.alloc (.cells #[.int .i64 xp,.int .i64 xh,.string xl,.string xu,.bool xs.leaf,.slice xA xn xc,.slice xB xm xd,.slice xC xk xe] 77)).heap.size):=iQ (wa9 hv.bes.kept.size ba.size);obtain ⟨i0,hi,hz0,hz1,hz2⟩:=info_parts qv9;subst hv9;clear hv hj hs2 hBW hrow hvs hxo ba hvb hpre LH GN;gi_wp2_with (first
    | (gi_at_builtin;refine wpListIn_append_own_at _ rfl (.tmp 20) (.tmp 22) 83 rfl w.heap.size 77 i0 _ 8 128 Tryz.underlying83 hi hz0 hz1 hz2 rfl (by decide) _ N9 _ rfl VD.out ⟨W2.heap.size,0,none⟩ 1 1 (VV.mk xp xh xl xu ⟨xA,xn,xc,xB,xm,xd,xC,xk,xe,xs⟩).cells rfl rfl UB.out (qv8 _) (by unfold maxLen;omega) (by omega) HBW.out ?_;intro v9 w9 o9 g9 _ d9;obtain ⟨r9,q9,rfl,_,_⟩:=o9.form (by omega);have HE9:=iQ (fun a=>(UR.out _ w9 a o9 g9 d9).1);obtain ⟨_,zl7,hf9⟩:=UR.out _ w9 ⟨#[],[]⟩ o9 g9 d9;clear o9 g9 d9)
    | fail)
   exact HE9.out _
  ·dsimp only at her
   subst her;have HE:=iQ (fun a=>zm2 (B:=W.heap.size) (R:=fun k=>k=gb\/k=gb+1) (x:=(⟨xp,xh,xl,xu,⟨xA,xn,xc,xB,xm,xd,xC,xk,xe,xs⟩⟩,121)) (a:=a) hj hs2 he0);have hj':∃ v,EvA w F w.heap.size ab v pre2 C2 I2 W2:=hj;obtain ⟨v,hv⟩:=hj';obtain ⟨c0,f0⟩:=hv.b0.cell;obtain ⟨c1,f1⟩:=hv.b1.cell;clear hv hj hs2 hz hvs he0 hvb;gi_wp2;exact HE.out _
 case qj3 =>
  intro D l xs C2 I2 W2 hD hl hlD hE hj hs hdef;obtain ⟨v,hv⟩:=(show ∃ v,EvA w F w.heap.size ab v xs C2 (Zc I2 D l) W2 from hj);obtain ⟨hDm,hend⟩:=zd1 hv hs hlD.2.1 hdef hE TY.out (wa9 HSW.out hD);have Xb:=iQ (And.intro hDm hend);obtain ⟨c2,_⟩:=hv.b2.cell;obtain ⟨c0,f0⟩:=hv.b0.cell;obtain ⟨c1,f1⟩:=hv.b1.cell;obtain ⟨A9,c9,rfl,_,_⟩:=Ln.oo hv.row;clear hv hj hs hE hDm hend hdef;go_wp2_with fail;exact Zd [D] _ (by simp) (fun q hq=>by rw [wa4.1 hq];exact Xb.out.1) (fun W' hm=>⟨_,Yr rfl _ _ ⟨w.heap.size,0,none⟩ ⟨w.heap.size+1,0,none⟩ _ _ rfl rfl (Xb.out.2 W' hm).1.load (Xb.out.2 W' hm).2.1.load,(Xb.out.2 W' hm).2.2⟩)
 case qR6 =>
  intro D l c pre C2 I2 W2 hD hl hlD hE hj hs hdef;have Xb:=iQ (And.intro hdef (zc9 hj hs hlD.2.1 hE TY.out (wa9 HSW.out hD)));have hc:=hj.1;subst hc;clear hj hs hE hdef;go_wp2_with fail;exact Zd [D] _ (by simp) (fun q hq=>by rw [wa4.1 hq];exact Xb.out.1) (fun W' hm=>⟨_,Yr rfl _ _ ⟨w.heap.size,0,none⟩ ⟨w.heap.size+1,0,none⟩ _ _ rfl rfl (Xb.out.2 W' hm).1.load (Xb.out.2 W' hm).2.1.load,(Xb.out.2 W' hm).2.2⟩)
end
end
section
open Go.RowKit Go.Maps
def FU (lo hi:List UInt8) (v:SC.V):Bool:=Yj lo v.hi && Yj v.lo hi
theorem qq0 (v:VV) (fb hb:Nat) (lo hi:ByteArray) (w:World) (h1:w.cell? ⟨fb,0,none⟩=some (.string lo)) (h2:w.cell? ⟨hb,0,none⟩=some (.string hi)) :
 Calls Tryz.prog 32 #[v.val,.pointer (some ⟨fb,0,none⟩),.pointer (some ⟨hb,0,none⟩)] w fun e w'=>e = .returned (.bool (FU lo.toList hi.toList v.v))/\Below w.heap.size w w':=by
 have b1:=Qa w (.cells #[.int .i64 v.pg,.int .i64 v.ht,.string v.lo,.string v.hi,.bool v.x.s.leaf,.slice v.x.A v.x.n v.x.c,.slice v.x.B v.x.m v.x.d,.slice v.x.C v.x.k v.x.e] 77);obtain ⟨z0,z1,z2,z3,z4,z5,z6,z7⟩:=(Zj w (.int .i64 v.pg) (.int .i64 v.ht) (.string v.lo) (.string v.hi) (.bool v.x.s.leaf) (.slice v.x.A v.x.n v.x.c) (.slice v.x.B v.x.m v.x.d) (.slice v.x.C v.x.k v.x.e)).cells;have k1:=(b1.cell (World.block_lt_of_cell? _ _ h1)).trans h1;have k2:=(b1.cell (World.block_lt_of_cell? _ _ h2)).trans h2;have HA:=iQ (fun wx=>Vp lo v.hi wx);have HB:=iQ (fun wx=>Vp v.lo hi wx);have e:FU lo.toList hi.toList v.v=(Yj lo.toList v.hi.toList && Yj v.lo.toList hi.toList):=rfl;rw [e];clear e;have B1:=iQ b1;unfold VV.val;clear b1 h1 h2;go_enter Tryz.func32,Tryz.ntmps32;go_upto_region 1 with fail
 generalize hw1:w.alloc (.cells #[.int .i64 v.pg,.int .i64 v.ht,.string v.lo,.string v.hi,.bool v.x.s.leaf,.slice v.x.A v.x.n v.x.c,.slice v.x.B v.x.m v.x.d,.slice v.x.C v.x.k v.x.e] 77)=w1 at *;have HZ:=iQ (And.intro z2 k2);clear z0 z1 z2 z4 z5 z6 z7 hw1 k2;obtain ⟨q,hq⟩:∃ q,Yj lo.toList v.hi.toList=q:=⟨_,rfl⟩;have HQ:=iQ hq;clear hq;go_wp2_with fail;refine (HA.out _).mono ?_;rintro e wa ⟨rfl,ba⟩;rw [HQ.out];have z2:=(ba.cell (World.block_lt_of_cell? _ _ HZ.out.1)).trans HZ.out.1;have k2:=(ba.cell (World.block_lt_of_cell? _ _ HZ.out.2)).trans HZ.out.2;have B2:=iQ (Qe ba B1.out);clear ba z3 k1;cases q with
 | false =>
   go_wp2_with fail;go_ret;exact ⟨by rw [HQ.out];rfl,B2.out⟩
 | true =>
   go_wp2_with fail;refine (HB.out _).mono ?_;rintro e wb ⟨rfl,bb⟩;have B3:=iQ (Qe bb B2.out);clear bb;go_wp2_with fail;go_ret;exact ⟨by rw [HQ.out];rfl,B3.out⟩
def YG (w:World) (g:Nat) (v:Value):Prop:=w.heap[g]?=some (.cells #[v] 29 (0,0))
def SBx (w:World) (g:Nat) (s:ByteArray):Prop:=w.heap[g]?=some (.cells #[.string s] 9 (0,0))
def IBx (w:World) (g:Nat) (k:Int):Prop:=w.heap[g]?=some (.cells #[.int .i64 k] 3 (0,0))
section
variable {w w':World} {g:Nat} {v:Value} {s:ByteArray} {k:Int}
theorem YG.lt (h:YG w g v):g<w.heap.size:=(wa1.1 h).1
theorem SBx.lt (h:SBx w g s):g<w.heap.size:=(wa1.1 h).1
theorem IBx.lt (h:IBx w g k):g<w.heap.size:=(wa1.1 h).1
theorem YG.cell (h:YG w g v):w.cell? ⟨g,0,none⟩=some v/\w.frozen? ⟨g,0,none⟩=false:=⟨(cell_of_row w g 0 _ _ _ h).trans rfl,frozen_of_row w g 0 _ _ h⟩
theorem SBx.cell (h:SBx w g s):w.cell? ⟨g,0,none⟩=some (.string s):=(cell_of_row w g 0 _ _ _ h).trans rfl
theorem IBx.cell (h:IBx w g k):w.cell? ⟨g,0,none⟩=some (.int .i64 k):=(cell_of_row w g 0 _ _ _ h).trans rfl
theorem YG.put (h:YG w g v) (v':Value):YG (w.setCell ⟨g,0,none⟩ v') g v':=Joins.block_setCell (i:=0) h v'
theorem YG.load (h:YG w g v):(loadVar 29 ⟨g,0,none⟩).run Tryz.prog w = .ok v w:=by
 have h1:=h.cell.1
 go_simp
end
def Ji (lo hi:ByteArray) (l:List SC.Vis):List TT.E:=(l.flatMap SC.entsV).filter (fun e=>Qh e.1 lo.toList hi.toList)
structure RgA (w0:World) (F0:Nat->Prop) (q ab:Nat) (lo hi:ByteArray) (most:Int) (v:Value) (acc:List TT.E) (C I:Nat->Prop) (w:World):Prop where
 b0:SBx w q lo
 b1:SBx w (q+1) hi
 b2:IBx w (q+2) most
 b3:YG w (q+3) (.slice none 0 0)
 b4:Ku w (q+4) 0
 b5:YG w ab v
 lt:q+4<ab
 row:w.ownsRow w0.heap.size 70 2 v acc.length (Qg acc)
 mine:C (q+3)/\C (q+4)/\C ab/\∀ g,v.ownBlock=some g->C g
 bes:Kt w0 F0 C I w
section
variable {B q ab:Nat} {R C C' I I' F0:Nat->Prop} {w0 w w':World} {lo hi:ByteArray} {most:Int} {v v':Value} {acc:List TT.E}
theorem RgA.iter (h:RgA w0 F0 q ab lo hi most v acc C I w) (hs:Jc B R C I w) (hm:Qb w I w' I') (hR:R q/\R (q+1)/\R (q+2)):RgA w0 F0 q ab lo hi most v acc C I' w':=by
 have hC:=Xe.kept hs hm;have hRk:∀ k,R k->w'.heap[k]?=w.heap[k]?:=fun k hk=>hm.kept.block k (hs.r k hk).1 (hs.r k hk).2;obtain ⟨m0,m1,m2,m3⟩:=h.mine;exact ⟨(hRk _ hR.1).trans h.b0,(hRk _ hR.2.1).trans h.b1,(hRk _ hR.2.2).trans h.b2,(hC _ m0).trans h.b3,(hC _ m1).trans h.b4,(hC _ m2).trans h.b5,h.lt,Zb h.row (fun g e=>hC g (m3 g e)),h.mine,h.bes.iter hm⟩
theorem RgA.kept (h:RgA w0 F0 q ab lo hi most v acc C I w) (hb:Below w.heap.size w w') (hC:∀ k,C k->C' k) (hC':∀ k,C' k->C k\/w.heap.size<=k):RgA w0 F0 q ab lo hi most v acc C' I w':=by
 obtain ⟨m0,m1,m2,m3⟩:=h.mine;exact ⟨(hb.block _ h.b0.lt).trans h.b0,(hb.block _ h.b1.lt).trans h.b1,(hb.block _ h.b2.lt).trans h.b2,(hb.block _ h.b3.lt).trans h.b3,(hb.block _ h.b4.lt).trans h.b4,(hb.block _ h.b5.lt).trans h.b5,h.lt,Zb h.row (fun g e=>hb.block g (h.row.lt g e).2),⟨hC _ m0,hC _ m1,hC _ m2,fun g e=>hC _ (m3 g e)⟩,
  h.bes.body (⟨Qj.below hb C,hC'⟩:Qb w C w' C')⟩
theorem Vk {n:Nat} {xs:List Value} {g base:Nat} {cs:Array Value} {t:TypeId} (h:w.ownsRow base 70 2 v n xs) (hb:w.heap[g]?=some (.cells cs t (0,0))) (ht:t≠70):v.ownBlock≠some g:=by
 intro e;obtain ⟨c,h1⟩:=Gl h e;rw [hb] at h1;injection h1 with h1
 injection h1 with _ h1
 exact ht h1
theorem za0 {W8 w9:World} {e:TT.E} (h:RgA w0 F0 q ab lo hi most v acc C I w) (hs:Jc B R C I w) (hB:B<=w.heap.size) (hb:Below w.heap.size w W8)
 (ho:w9.ownsRow w0.heap.size 70 2 v' (acc.length+1) (Qg acc++[.string (tb e.1),.string (tb e.2)])) (hg:W8.grownBy w9 v.ownBlock) (hd:v'.ownBlock=v.ownBlock\/v'.ownBlock=some W8.heap.size) :
 RgA w0 F0 q ab lo hi most v' (acc++[e]) (fun k=>C k\/v'.ownBlock=some k) I (w9.setCell ⟨ab,0,none⟩ v')/\Jc B R (fun k=>C k\/v'.ownBlock=some k) I (w9.setCell ⟨ab,0,none⟩ v')/\Qb w C (w9.setCell ⟨ab,0,none⟩ v') (fun k=>C k\/v'.ownBlock=some k) /\
 w9.cell? ⟨ab,0,none⟩=some v/\w9.frozen? ⟨ab,0,none⟩=false:=by
 obtain ⟨m0,m1,m2,m3⟩:=h.mine;have keep:∀ {k:Nat},k<w.heap.size->v.ownBlock≠some k->w9.heap[k]?=w.heap[k]?:=fun hk hn=>(hg.block _ (wa3 hk hb.size) (fun e=>hn e.symm)).trans (hb.block _ hk);have n0:=Vk h.row h.b0 (by decide);have n1:=Vk h.row h.b1 (by decide);have n2:=Vk h.row h.b2 (by decide);have n3:=Vk h.row h.b3 (by decide);have n4:=Vk h.row h.b4 (by decide);have n5:=Vk h.row h.b5 (by decide);have hlt:=h.lt;have hv':v'.ownBlock≠some ab:=by
  rcases hd with e | e
  ·rw [e];exact n5
  ·rw [e]
   intro e;have:=wa0 e;have:=h.b5.lt;have:=hb.size;omega
 have h59:YG w9 ab v:=(keep h.b5.lt n5).trans h.b5;have hC':∀ k,v'.ownBlock=some k->C k\/w.heap.size<=k:=fun k e=>by
  rcases hd with h1 | h1
  ·exact Or.inl (m3 k (h1.symm.trans e))
  ·right
   rw [h1] at e;have:=wa0 e;have:=hb.size;omega
 have hm:Qb w C (w9.setCell ⟨ab,0,none⟩ v') (fun k=>C k\/v'.ownBlock=some k) :=
  ⟨⟨hg.os.trans hb.os,hg.tape.trans hb.tape,hg.output.trans hb.output,by simp [World.setCell];exact wa9 hb.size hg.size,fun k h1 h2 =>
    (Below.heap_setCell _ _ _ _ (fun e=>h2 (by rw [show k=ab from e];exact m2))).trans (keep h1 (fun e=>h2 (m3 k e)))⟩,fun k hk=>hk.elim Or.inl (hC' k)⟩
 have hrow:(w9.setCell ⟨ab,0,none⟩ v').ownsRow w0.heap.size 70 2 v' (acc.length+1) (Qg acc++[.string (tb e.1),.string (tb e.2)]):=Zb ho (fun q eq=>Below.heap_setCell _ _ _ _ (fun e=>hv' (by rw [eq];exact congrArg some e)));have hl:∀ k,(C k\/v'.ownBlock=some k)->k<(w9.setCell ⟨ab,0,none⟩ v').heap.size:=fun k hk=>by
  rcases hk with e | e
  ·exact wa3 (hs.c k e).2.1 hm.kept.size
  ·exact (hrow.lt k e).2
 have far:∀ {k:Nat},k<w.heap.size->v.ownBlock≠some k->k≠ab->(w9.setCell ⟨ab,0,none⟩ v').heap[k]?=w.heap[k]?:=fun h1 h2 h3=>(Below.heap_setCell _ _ _ _ h3).trans (keep h1 h2);refine ⟨⟨(far h.b0.lt n0 (by omega)).trans h.b0,(far h.b1.lt n1 (by omega)).trans h.b1,(far h.b2.lt n2 (by omega)).trans h.b2,(far h.b3.lt n3 (by omega)).trans h.b3,(far h.b4.lt n4 (by omega)).trans h.b4,h59.put v',hlt,?_,⟨Or.inl m0,Or.inl m1,Or.inl m2,fun g e=>Or.inr e⟩,h.bes.body hm⟩,hs.body hB hm hl,hm,h59.cell.1,h59.cell.2⟩;rw [wa6,Zg];exact hrow
end
def Yd (lo hi:ByteArray) (pre:List (VV×Int)):List TT.E:=Ji lo hi (pre.map (fun y=>y.1.vis))
def RgJ (w0:World) (F0:Nat->Prop) (q ab:Nat) (lo hi:ByteArray) (most:Int):Jo (VV×Int):=fun pre C I w =>
 (∀ y∈pre,y.2=0)/\((Yd lo hi pre).length:Int)<most/\∃ v,RgA w0 F0 q ab lo hi most v (Yd lo hi pre) C I w
def RgX (w0:World) (F0:Nat->Prop) (q ab:Nat) (lo hi:ByteArray) (most:Int) (vs:List SC.Vis) (xid:Nat):Code->Jo (VV×Int):=fun c pre C I w =>
 (∀ y∈pre,y.2=0)/\c = .exit xid/\∃ v,RgA w0 F0 q ab lo hi most v ((Ji lo hi vs).take most.toNat) C I w
def RgQ (w0:World) (F0:Nat->Prop) (q ab:Nat) (lo hi:ByteArray) (most:Int) (vs:List SC.Vis) (g6:Nat) (pre:List (VV×Int)) (x:VV×Int) (C I:Nat->Prop) (w:World):Prop :=
 RgJ w0 F0 q ab lo hi most pre C I w/\C g6/\VBx w g6 x.1/\UU vs 0 pre x (both C I) w
def MP (W:World) (F:Nat->Prop) (w:World) (tb pb db:Nat) (t:TS) (ans:List TT.E) (e:Ending) (w':World):Prop :=
 ∃ F',Ql W F' w' tb pb db t/\Qb w F w' F'/\∃ A n c,e = .returned (.tuple #[.slice A n c,.int .i64 0])/\w'.ownsRow w.heap.size 70 2 (.slice A n c) ans.length (Qg ans)/\∀ g,(Value.slice A n c).ownBlock=some g->¬ F' g
section
variable {B q ab g6 xid:Nat} {R C C' I I' F0:Nat->Prop} {w0 w w':World} {lo hi:ByteArray} {most:Int} {v v':Value} {pre:List (VV×Int)} {x:VV×Int} {vs:List SC.Vis} {acc:List TT.E}
theorem RgJ.stays (hR:R q/\R (q+1)/\R (q+2)):Xe B R (RgJ w0 F0 q ab lo hi most):=fun _ _ _ _ _ _ ⟨h1,h2,v,h⟩ hs hm _=>⟨h1,h2,v,h.iter hs hm hR⟩
theorem RgX.stays (hR:R q/\R (q+1)/\R (q+2)) (c:Code):Xe B R (RgX w0 F0 q ab lo hi most vs xid c):=fun _ _ _ _ _ _ ⟨h1,h2,v,h⟩ hs hm _=>⟨h1,h2,v,h.iter hs hm hR⟩
theorem RgQ.stays (hR:R q/\R (q+1)/\R (q+2)) (h:RgQ w0 F0 q ab lo hi most vs g6 pre x C I w) (hs:Jc B R C I w) (hm:Qb w I w' I') (hl:∀ k,I' k->k<w'.heap.size):RgQ w0 F0 q ab lo hi most vs g6 pre x C I' w' :=
 ⟨RgJ.stays hR _ _ _ _ _ _ h.1 hs hm hl,h.2.1,(Xe.kept hs hm _ h.2.1).trans h.2.2.1,h.2.2.2.mo hm.widerL⟩
theorem qM3 (h:RgJ w0 F0 q ab lo hi most pre C I w) (hs:Jc B R C I w) (hB:B<=w.heap.size) (hok:UU vs 0 pre x (both C I) w) (hb:Below w.heap.size w w') (hx:VBx w' w.heap.size x.1) :
 RgQ w0 F0 q ab lo hi most vs w.heap.size pre x (fun k=>C k\/k=w.heap.size) I w'/\Jc B R (fun k=>C k\/k=w.heap.size) I w'/\Qb w C w' (fun k=>C k\/k=w.heap.size):=by
 obtain ⟨h1,h2,v,h⟩:=h;have hm:Qb w C w' (fun k=>C k\/k=w.heap.size):=⟨Qj.below hb C,fun k hk=>hk.imp id (fun e=>by omega)⟩;have hl:∀ k,(C k\/k=w.heap.size)->k<w'.heap.size:=fun k hk=>by
  rcases hk with e | e
  ·exact wa3 (hs.c k e).2.1 hb.size
  ·rw [e]
   exact Ze.lt hx
 exact ⟨⟨⟨h1,h2,v,h.kept hb (fun _ h=>Or.inl h) (fun k hk=>hk.imp id (fun e=>by omega))⟩,Or.inr rfl,hx,hok.mo (Va hm)⟩,hs.body hB hm hl,hm⟩
end
section
variable {W w0 w:World} {F0 C I R:Nat->Prop} {tb pb db q ab B D l:Nat} {t:TS} {lo hi:ByteArray} {most:Int} {v:Value} {acc:List TT.E}
theorem qx0 {F':Nat->Prop} (h:RgA w0 F0 q ab lo hi most v acc C (Zc I D l) w) (hs:Jc B R C (Zc I D l) w) (hDI:¬ I D) (hD:w.heap[D]?=some (.deferred (some []))) (h1:∀ k,F' k->I k) (h2:Ql W F' w tb pb db t) (hW:W.heap.size<=w0.heap.size) (hDw:w0.heap.size<=D) :
 ((w.setCell ⟨q+3,0,none⟩ v).setCell ⟨q+4,0,none⟩ (.int .i64 0)).heap[D]?=some (.deferred (some [])) /\
 ∀ W',Qb ((w.setCell ⟨q+3,0,none⟩ v).setCell ⟨q+4,0,none⟩ (.int .i64 0)) (·∈[D]) W' (·∈[D])->YG W' (q+3) v/\Ku W' (q+4) 0/\MP W F0 w0 tb pb db t acc (.returned (.tuple #[v,.int .i64 0])) W':=by
 obtain ⟨m0,m1,m2,m3⟩:=h.mine;have hnC:∀ k,C k->k≠D:=fun k hk e=>(hs.c k hk).2.2.1 (Or.inr (Or.inl e));have hm1:Qb w (fun k=>(k=q+3\/k=q+4)\/k=D) ((w.setCell ⟨q+3,0,none⟩ v).setCell ⟨q+4,0,none⟩ (.int .i64 0)) (fun k=>(k=q+3\/k=q+4)\/k=D) :=
  (Qb.setCell w (a:=⟨q+3,0,none⟩) (Or.inl (Or.inl rfl)) _).trans (Qb.setCell _ (a:=⟨q+4,0,none⟩) (Or.inl (Or.inr rfl)) _)
 have hg:YG ((w.setCell ⟨q+3,0,none⟩ v).setCell ⟨q+4,0,none⟩ (.int .i64 0)) (q+3) v:=(Below.heap_setCell _ _ _ _ (by show q+3≠q+4;omega)).trans (h.b3.put _);have hg1:Ku ((w.setCell ⟨q+3,0,none⟩ v).setCell ⟨q+4,0,none⟩ (.int .i64 0)) (q+4) 0:=Ku.put (e:=0) ((Below.heap_setCell _ _ _ _ (by show q+4≠q+3;omega)).trans h.b4) 0;refine ⟨(Below.heap_setCell _ _ _ _ (fun e=>hnC _ m1 e.symm)).trans ((Below.heap_setCell _ _ _ _ (fun e=>hnC _ m0 e.symm)).trans hD),fun W' hm=>?_⟩;have hd:∀ k,k∈[D]->k=D:=fun k hk=>wa4.1 hk;have hm2:Qb w (fun k=>(k=q+3\/k=q+4)\/k=D) W' (fun k=>(k=q+3\/k=q+4)\/k=D):=hm1.trans ⟨hm.kept.more (fun k hk=>Or.inr (hd k hk)),fun k hk=>Or.inl hk⟩;have hX:∀ k,((k=q+3\/k=q+4)\/k=D)->w0.heap.size<=k/\¬ F' k:=fun k hk=>by
  rcases hk with (rfl | rfl) | rfl
  ·exact ⟨h.bes.c _ m0,fun e=>(hs.c _ m0).2.2.1 (Or.inl (h1 _ e))⟩
  ·exact ⟨h.bes.c _ m1,fun e=>(hs.c _ m1).2.2.1 (Or.inl (h1 _ e))⟩
  ·exact ⟨hDw,fun e=>hDI (h1 _ e)⟩
 have hrow:=Zb (w':=W') h.row (fun g e=>hm2.kept.block g (h.row.lt g e).2 (fun e2=>by
  rcases e2 with (rfl | rfl) | rfl
  ·exact Vk h.row h.b3 (by decide) e
  ·exact Vk h.row h.b4 (by decide) e
  ·exact hnC _ (m3 _ e) rfl))
 obtain ⟨A,c,rfl,_,hl⟩:=Ln.oo hrow;exact ⟨(hm.kept.block (q+3) hg.lt (fun e=>hnC _ m0 (hd _ e))).trans hg,(hm.kept.block (q+4) hg1.lt (fun e=>hnC _ m1 (hd _ e))).trans hg1,F',h2.other hm2 (fun k hk=>⟨wa9 hW (hX k hk).1,(hX k hk).2⟩),⟨h.bes.kept.trans hm2.kept (fun k hk=>Or.inr (hX k hk).1),fun k hk=>h.bes.i k (Or.inl (h1 k hk))⟩,
  A,acc.length,c,rfl,hrow,fun g e e2=>(hs.c _ (m3 _ e)).2.2.1 (Or.inl (h1 _ e2))⟩
end
end
end Go.Proofs.YtfiflinbicbedaaGreat
