/-
  A part of the proof. Conditions: none.
-/
import Derived.Shelf.SlSortCmp.Small
import Derived.RangeFuncNested
import Derived.RangeFuncBound
import Derived.Shelf.SortM.Plain
import Derived.Shelf.SortM.SortNone
import Derived.Sort.OwnSortedInts
import Derived.Test.YtfiflinbicbedaaGreatZR6

set_option maxRecDepth 20000
set_option maxHeartbeats 12800000
namespace Go.Proofs.YtfiflinbicbedaaGreat
section
open Go.Shelf
end
section
open Go.RowKit Go.Sort Go.Shelf
def cmpI (x y:Int):Int:=if x<y then -1 else if y<x then 1 else 0
theorem ltI (x y:Int):decide (cmpI x y<0)=decide (x<y):=by
 unfold cmpI;by_cases h1:x<y
 ·simp [h1]
 ·by_cases h2:y<x<;>simp [h1,h2]
end
section
open Go.RowKit
section
variable {F D:Nat->Prop} {pb fb cb rb db:Nat} {g:Nat->Value} {s:PP}
end
section
variable {F D:Nat->Prop} {pb fb cb rb db:Nat} {g:Nat->Value} {s:PP}
end
section
variable {F D:Nat->Prop} {pb fb cb rb db:Nat} {g:Nat->Value} {s:PP}
theorem qU4 (w:World) (h:Qk w F D pb fb cb rb db g s) :
 Calls Tryz.prog 24 #[.pointer (some ⟨pb,0,none⟩)] w fun e w'=>e = .returned (.pointer (some ⟨db,0,none⟩))/\w=w':=by
 have c0:=h.core.c0;have HM:=iQ (XQ w pb db c0);clear h;go_enter Tryz.func24,Tryz.ntmps24;go_wp2_with fail;refine HM.out.mono ?_;rintro e w' ⟨rfl,rfl⟩;go_wp2_with fail;go_ret;exact ⟨rfl,rfl⟩
end
namespace PP
end PP
structure Xf (W:World) (F:Nat->Prop) (w:World) (pb db:Nat) (s:PP):Prop where
 at_:∃ D fb cb rb g,Qk w F D pb fb cb rb db g s
 base:∀ k,F k->W.heap.size<=k
 below:Below W.heap.size W w
def qW7 (W:World) (F:Nat->Prop) (w:World) (pb db:Nat) (s':PP) (v:Value) (e:Ending) (w':World):Prop :=
 e = .returned v/\∃ F',Xf W F' w' pb db s'/\Qb w F w' F'
section
variable {W w w':World} {F F':Nat->Prop} {pb db:Nat} {s s':PP}
theorem Xf.le (h:Xf W F w pb db s):W.heap.size<=w.heap.size:=h.below.size
theorem Xf.lt (h:Xf W F w pb db s):∀ k,F k->k<w.heap.size:=by
 obtain ⟨D,fb,cb,rb,g,h⟩:=h.at_;exact h.core.lt
theorem Xf.next (h:Xf W F w pb db s) (hb:Below w.heap.size w w'):Xf W F w' pb db s:=by
 obtain ⟨⟨D,fb,cb,rb,g,h0⟩,h1,h2⟩:=h;exact ⟨⟨D,fb,cb,rb,g,h0.below hb⟩,h1,h2.trans (hb.mono h2.size)⟩
theorem Xf.other {G G':Nat->Prop} (h:Xf W F w pb db s) (hm:Qb w G w' G') (hG:∀ k,F k->¬ G k) (hb:Below W.heap.size W w'):Xf W F w' pb db s:=by
 obtain ⟨⟨D,fb,cb,rb,g,h0⟩,h1,h2⟩:=h;exact ⟨⟨D,fb,cb,rb,g,h0.kept hm.kept hG⟩,h1,hb⟩
theorem Xf.mq {D':Nat->Prop} {fb cb rb:Nat} {g':Nat->Value} (h:Xf W F w pb db s) (p:Qk w' F' D' pb fb cb rb db g' s') (m:Qb w F w' F'):Xf W F' w' pb db s' :=
 ⟨⟨D',fb,cb,rb,g',p⟩,fun k hk=>by
   rcases m.news k hk with e | e
   ·exact h.base k e
   ·exact wa9 h.le e,h.below.trans (m.kept.toBelow h.base h.le)⟩
theorem Xf.ends {fb cb rb:Nat} {v:Value} {e:Ending} (h:Xf W F w pb db s) (p:qG9 w F pb fb cb rb db s' v e w'):qW7 W F w pb db s' v e w':=by
 obtain ⟨he,F',D',g',p,m⟩:=p;exact ⟨he,F',h.mq p m,m⟩
theorem Xf.disk (h:Xf W F w pb db s):∃ D,qW9 W D w db s.k:=by
 obtain ⟨⟨D,fb,cb,rb,g,h0⟩,h1,h2⟩:=h;exact ⟨D,h0.core.dk,fun k hk=>h1 k (h0.core.fd k hk),h2⟩
theorem qN4 (w:World) (n:Int) (h1 : -9223372036854775808<=n) (h2:n<=9223372036854775807) (A:Option Addr) (m c:Nat) (l:List UInt8) (hl:l.length=m) (hx:Out w F A l) (hz:A=none->m=0/\c=0) (h:Xf W F w pb db s) :
 Calls Tryz.prog 179 #[.pointer (some ⟨pb,0,none⟩),.int .i64 n,.slice A m c] w (qW7 W F w pb db (s.put n l).2 (.int .i64 (s.put n l).1)):=by
 obtain ⟨D,fb,cb,rb,g,p⟩:=h.at_;exact (za3 w n h1 h2 A m c l hl hx hz p).mono fun _ _ e=>h.ends e
def LGet (W:World) (F:Nat->Prop) (w:World) (pb db:Nat) (s':PP) (l:List UInt8) (err:Int) (e:Ending) (w':World):Prop :=
 ∃ A c F',e = .returned (.tuple #[.slice A l.length c,.int .i64 err])/\Out w' F' A l/\Xr w' w.heap.size (.slice A l.length c) l/\Xf W F' w' pb db s'/\Qb w F w' F'/\l.length<=1024
theorem qT2 (w:World) (n:Int) (h1 : -9223372036854775808<=n) (h2:n<=9223372036854775807) (h:Xf W F w pb db s) :
 Calls Tryz.prog 165 #[.pointer (some ⟨pb,0,none⟩),.int .i64 n] w (LGet W F w pb db (s.get n).2.2 (s.get n).2.1 (s.get n).1):=by
 obtain ⟨D,fb,cb,rb,g,p⟩:=h.at_;refine (zc3 w n h1 h2 p).mono ?_;rintro e w' ⟨A,c,F',D',g',he,p',m,o,x,hl⟩;exact ⟨A,c,F',he,x,o,h.mq p' m,m,hl⟩
theorem RH (w:World) (h:Xf W F w pb db s) :
 Calls Tryz.prog 24 #[.pointer (some ⟨pb,0,none⟩)] w fun e w'=>e = .returned (.pointer (some ⟨db,0,none⟩))/\w=w':=by
 obtain ⟨D,fb,cb,rb,g,p⟩:=h.at_;exact qU4 w p
def zr1 (W:World) (D:Nat->Prop) (w:World) (db:Nat) (k:PS) (n:Nat) (e:Ending) (w':World):Prop :=
 ∃ pb F,e = .returned (.tuple #[.pointer (some ⟨pb,0,none⟩),.int .i64 0])/\Xf W F w' pb db (PP.new k n)/\Qb w D w' F/\Below w.heap.size w w'
theorem qC7 {D:Nat->Prop} {k:PS} (w:World) (n:Nat) (h1:1<=n) (h2:n<=1000) (h:qW9 W D w db k) :
 Calls Tryz.prog 53 #[.pointer (some ⟨db,0,none⟩),.int .i64 n] w (zr1 W D w db k n):=by
 refine (qN7 w n k h1 h2 h.dk).mono ?_;rintro e w' ⟨pb,fb,cb,rb,g,F,he,p,m,hb⟩;exact ⟨pb,F,he,⟨⟨D,fb,cb,rb,g,p⟩,fun b hb'=>by
  rcases m.news b hb' with e | e
  ·exact h.base b e
  ·exact wa9 h.le e,h.below.trans (hb.mono h.le)⟩,m,hb⟩
end
namespace PP
end PP
structure qn0 (s:PP) (f:Int->List UInt8) (m z:Nat):Prop where
 holds:PP.Holds s f
 p_:∀ j,s.c.p j=0
 m_:s.m=m
 size:s.k.size=z
theorem qT5 {k:PS} (hk:k.Well) (ho:k.Ok) {m z:Nat} (hm:1<=m) (hz:k.size=z):qn0 (PP.new k m) k.held m z:=⟨PP.Holds.new hk ho hm,fun _=>rfl,rfl,hz⟩
theorem qn0.put {s:PP} {f:Int->List UInt8} {m z:Nat} (h:qn0 s f m z) {n:Int} (h0:0<=n) (h1:n<z) {l:List UInt8} (hl:l.length<=1024):(s.put n l).1=0/\qn0 (s.put n l).2 (PP.upd f n l) m z:=by
 obtain ⟨t,e,h2,h3,h4,h5⟩:=h.holds.put ((s.k.has_at n).2 ⟨h0,by rw [h.size];exact h1⟩) hl (fun _ _=>h.holds.loose h.p_);rw [e];exact ⟨rfl,h2,fun j=>by rw [h5];exact h.p_ j,h3.trans h.m_,h4.trans h.size⟩
theorem qn0.get {s:PP} {f:Int->List UInt8} {m z:Nat} (h:qn0 s f m z) {n:Int} (h0:0<=n) (h1:n<z):(s.get n).1=0/\(s.get n).2.1=f n/\qn0 (s.get n).2.2 f m z:=by
 obtain ⟨i,t,g⟩:=h.holds.get ((s.k.has_at n).2 ⟨h0,by rw [h.size];exact h1⟩) (fun _ _=>h.holds.loose h.p_);rw [g.eq];exact ⟨rfl,rfl,g.holds,fun j=>by rw [g.p_];exact h.p_ j,g.m_.trans h.m_,g.size.trans h.size⟩
theorem qP5 (n:Nat):(PS.new n).Well:=⟨rfl,rfl⟩
theorem zk1 (n:Nat):(PS.new n).Ok:=⟨fun _ h=>absurd rfl h,fun _ h=>absurd rfl h,fun _=>by show (0:Nat)<=1024;omega,fun _ _ h=>by cases h⟩
structure Jc (B:Nat) (R C I:Nat->Prop) (W:World):Prop where
 c:∀ k,C k->B<=k/\k<W.heap.size/\¬ I k/\¬ R k
 r:∀ k,R k->k<W.heap.size/\¬ I k
 i:∀ k,I k->k<W.heap.size
abbrev Jo (α:Type):=List α->(Nat->Prop)->(Nat->Prop)->World->Prop
def Xe {α:Type} (B:Nat) (R:Nat->Prop) (J:Jo α):Prop :=
 ∀ pre C I W W' I',J pre C I W->Jc B R C I W->Qb W I W' I'->(∀ k,I' k->k<W'.heap.size)->J pre C I' W'
def both (C I:Nat->Prop):Nat->Prop:=fun k=>C k\/I k
def qW3 {α:Type} (B:Nat) (R:Nat->Prop) (J Jx:Jo α) (pre:List α) (C I:Nat->Prop) (W:World) (e:Ending) (W':World):Prop :=
 (e = .returned (.bool true)/\∃ C',J pre C' I W'/\Jc B R C' I W'/\Qb W C W' C') \/
 (e = .returned (.bool false)/\∃ C',Jx pre C' I W'/\Jc B R C' I W'/\Qb W C W' C')
def QK {α:Type} (B:Nat) (R:Nat->Prop) (J Jx:Jo α) (End:Bool->List α->(Nat->Prop)->World->Prop) (e:Ending) (W':World):Prop :=
 (∃ v,e = .returned v)/\∃ C I,Jc B R C I W'/\((∃ xs,End true xs I W'/\J xs C I W')\/(∃ pre,End false pre I W'/\Jx pre C I W'))
def zn2 (P:Program) {α:Type} (B:Nat) (R:Nat->Prop) (gf:Nat) (lb:Array Value) (encs:α->Array Value) (I0:Nat->Prop) (Ok:List α->α->(Nat->Prop)->World->Prop) (End:Bool->List α->(Nat->Prop)->World->Prop) (w0:World):Prop :=
 ∀ (l:Nat) (J Jx:Jo α) (C0:Nat->Prop) (W:World),Below w0.heap.size w0 W->Xe B R J->Xe B R Jx ->
   (∀ pre x C I W,J pre C I W->Jc B R C I W->Ok pre x (both C I) W->YieldAt Fence.wide 0 P l (encs x) W (qW3 B R J Jx (pre++[x]) C I W)) ->
   J [] C0 I0 W->Jc B R C0 I0 W ->
   CallsIn Fence.wide 0 P gf (#[.func (.yield l) #[] #[]]++lb) W (QK B R J Jx End)
section
variable {P:Program} {α:Type} {B:Nat} {R C C' I I':Nat->Prop} {W W' w:World}
theorem Jc.mo (h:Jc B R C I W) (m:Qb W I W' I') (hi:∀ k,I' k->k<W'.heap.size):Jc B R C I' W' :=
 ⟨fun k hk=>by
  obtain ⟨a,b,c,d⟩:=h.c k hk;refine ⟨a,wa3 b m.kept.size,fun e=>?_,d⟩;rcases m.news k e with e | e
  ·exact c e
  ·omega,fun k hk=>by
  obtain ⟨a,b⟩:=h.r k hk;refine ⟨wa3 a m.kept.size,fun e=>?_⟩;rcases m.news k e with e | e
  ·exact b e
  ·omega,hi⟩
theorem Jc.ob (h:Jc B R C I W) (b:Below W.heap.size W W'):Jc B R C I W' :=
 ⟨fun k hk=>by
  obtain ⟨a,b1,c,d⟩:=h.c k hk;exact ⟨a,wa3 b1 b.size,c,d⟩,fun k hk=>⟨wa3 (h.r k hk).1 b.size,(h.r k hk).2⟩,fun k hk=>wa3 (h.i k hk) b.size⟩
theorem Zz (W:World) {F:Nat->Prop} {l:Nat} (o:Obj) (hl:F l):Qb W F (W.putObj l o) F :=
 ⟨⟨rfl,rfl,rfl,by simp,fun k _ hn=>World.putObj_heap_other (fun e=>hn (by rw [e];exact hl))⟩,fun _ h=>Or.inl h⟩
theorem Qb.wider {D:Nat->Prop} (m:Qb W I W' I'):Qb W (fun k=>I k\/D k) W' (fun k=>I' k\/D k) :=
 ⟨m.kept.more (fun _ h=>Or.inl h),fun k hk=>by
  rcases hk with e | e
  ·exact (m.news k e).imp Or.inl id
  ·exact Or.inl (Or.inr e)⟩
theorem Qb.widerL {D:Nat->Prop} (m:Qb W I W' I'):Qb W (fun k=>D k\/I k) W' (fun k=>D k\/I' k) :=
 ⟨m.kept.more (fun _ h=>Or.inr h),fun k hk=>by
  rcases hk with e | e
  ·exact Or.inl (Or.inl e)
  ·exact (m.news k e).imp Or.inr id⟩
def LD (D l:Nat):Nat->Prop:=fun k=>k=D\/k=l
def Zc (I:Nat->Prop) (D l:Nat):Nat->Prop:=fun k=>I k\/LD D l k
theorem ze2 (C I:Nat->Prop) (D l:Nat):both (fun k=>C k\/LD D l k) I=both C (Zc I D l):=by
 funext k;unfold both Zc;apply propext;constructor
 ·rintro ((h | h) | h)
  ·exact Or.inl h
  ·exact Or.inr (Or.inr h)
  ·exact Or.inr (Or.inl h)
 ·rintro (h | h | h)
  ·exact Or.inl (Or.inl h)
  ·exact Or.inr h
  ·exact Or.inl (Or.inr h)
def Jl (B:Nat) (R:Nat->Prop) (J:Jo α) (Jx:Code->Jo α) (pre:List α) (C I:Nat->Prop) (W:World):Exit->Act->World->Prop
 | .normal,_,W'=>∃ C',J pre C' I W'/\Jc B R C' I W'/\Qb W C W' C'
 | .ret,_,W'=>∃ C',Jx .ret pre C' I W'/\Jc B R C' I W'/\Qb W C W' C'
 | .exit id,_,W'=>∃ C',Jx (.exit id) pre C' I W'/\Jc B R C' I W'/\Qb W C W' C'
 | .goto t,_,W'=>∃ C',Jx (.goto t) pre C' I W'/\Jc B R C' I W'/\Qb W C W' C'
 | .panic _,_,_=>False
 | .outgrown,_,_=>False
theorem JG {g:Operand} {ps:Array Tmp} {assign body:Code} {Q:Exit->Act->World->Prop} {a:Act} {gf:Nat} {lb:Array Value}
 (hg:a.eval g = .func (.func gf) #[] lb) (eg:∀ args w,(callFunc gf args).run P w = .ok (.enter gf args) w)
 {encs:α->Array Value} {I0:Nat->Prop} {Ok:List α->α->(Nat->Prop)->World->Prop} {End:Bool->List α->(Nat->Prop)->World->Prop}
 (hseq:zn2 P B R gf lb encs I0 Ok End w) (hps:∀ x,(encs x).size=ps.size) (hB:B<=w.heap.size) (hI0:∀ k,I0 k->k<w.heap.size)
 (J:Jo α) (Jx:Code->Jo α) (hJ:Xe B R J) (hJx:∀ c,Xe B R (Jx c)) (C0:Nat->Prop) (h0:J [] C0 I0 w) (s0:Jc B R C0 I0 w)
 (qE9:∀ b xs I W W' X,End b xs I W->Qb W X W' X->(∀ k,X k->B<=k/\k<W.heap.size/\¬ I k)->End b xs I W')
 (Ax:List α->α->Act->(Nat->Prop)->(Nat->Prop)->World->Prop) (hAx:∀ pre x a' C I W W' I',Ax pre x a' C I W->Jc B R C I W->Qb W I W' I'->(∀ k,I' k->k<W'.heap.size)->Ax pre x a' C I' W')
 (hassign:∀ (l:Nat) (pre:List α) (x:α) (C I:Nat->Prop) (W:World) (K:Act->World->Prop),J pre C I W->Jc B R C I W->Ok pre x (both C I) W ->
   (∀ a' C' W',Ax pre x a' C' I W'->Jc B R C' I W'->Qb W C W' C'->K a' W') ->
   assign.wpIn (Fence.wide.inRound l) 0 P (Exit.then K (fun _ _ _=>False)) { tmps:=(ps.zip (encs x)).foldl (fun t (p,v)=>t.setIfInBounds p v) a.tmps,defers:=[] } W)
 (hbody:∀ (l:Nat) (pre:List α) (x:α) (a':Act) (C I:Nat->Prop) (W:World),(∃ r,W.heap[l]?=some (.loop r))->I l->Ax pre x a' C I W->Jc B R C I W ->
   body.wpIn (Fence.wide.inRound l) 0 P (Jl B R J Jx (pre++[x]) C I W) a' W)
 (hdone:∀ (D l:Nat) (xs:List α) (C I:Nat->Prop) (W:World),w.heap.size<=D->w.heap.size<=l->l≠D/\¬ I D/\¬ I l->End true xs I W->J xs C (Zc I D l) W->Jc B R C (Zc I D l) W->W.heap[D]?=some (.deferred (some [])) ->
   Q .normal { a with defers:={ target := .collected D,args:=#[] }::a.defers } W)
 (hstop:∀ (D l:Nat) (c:Code) (pre:List α) (C I:Nat->Prop) (W:World),w.heap.size<=D->w.heap.size<=l->l≠D/\¬ I D/\¬ I l->End false pre I W->Jx c pre C (Zc I D l) W->Jc B R C (Zc I D l) W->W.heap[D]?=some (.deferred (some [])) ->
   c.wp P Q { a with defers:={ target := .collected D,args:=#[] }::a.defers } W) :
 (Code.rangeFunc g ps assign body).wp P Q a w:=by
 refine (wpIn_wide (n:=0)).1 (wpIn_rangeFunc ?_);intro fn hfn;obtain ⟨rec,hrec⟩:∃ rec:LoopState->Option Code->Loop,rec=fun st pe=>{ state:=st,pending:=pe,fn,tmps:=a.tmps,params:=ps,assign,body,defers:=w.heap.size }:=⟨_,rfl⟩;obtain ⟨W1,hW1⟩:∃ W1,(w.alloc (.deferred (some []))).alloc (.loop (rec .ready none))=W1:=⟨_,rfl⟩;obtain ⟨D,hD⟩:∃ D,w.heap.size=D:=⟨_,rfl⟩;obtain ⟨l,hl⟩:∃ l,w.heap.size+1=l:=⟨_,rfl⟩;have hlD:l≠D:=by omega
 have hL1:W1.heap[l]?=some (.loop (rec .ready none)):=by
  rw [<- hW1,<- hl];have:=World.alloc_heap_new (w.alloc (.deferred (some []))) (.loop (rec .ready none));rwa [World.size_alloc] at this
 have hK1:W1.heap[D]?=some (.deferred (some [])):=by
  rw [<- hW1,<- hD];exact (Below.heap_alloc _ _ _ (by simp)).trans (World.alloc_heap_new w _)
 have hb1:Below w.heap.size w W1:=by
  rw [<- hW1];exact ((Below.refl _ w).alloc (wa2 _) _).alloc (by simp) _
 have hS1:W1.heap.size=w.heap.size+2:=by rw [<- hW1];simp
 -- what is carried through the iterator
 obtain ⟨JJ,hJJ⟩:∃ JJ:Jo α,JJ=fun pre X I W=>∃ C,X=(fun k=>C k\/LD D l k)/\J pre C (Zc I D l) W/\Jc B R C (Zc I D l) W/\W.heap[l]?=some (.loop (rec .ready none))/\W.heap[D]?=some (.deferred (some [])):=⟨_,rfl⟩;obtain ⟨JX,hJX⟩:∃ JX:Jo α,JX=fun pre X I W=>∃ C c,X=(fun k=>C k\/LD D l k)/\Jx c pre C (Zc I D l) W/\Jc B R C (Zc I D l) W/\W.heap[l]?=some (.loop (rec .done (some c)))/\W.heap[D]?=some (.deferred (some [])):=⟨_,rfl⟩;have stay:∀ {X I I':Nat->Prop} {W W':World} {k:Nat} {o:Obj},Jc B R X I W->Qb W I W' I'->X k->W.heap[k]?=some o->W'.heap[k]?=some o:=fun hs hm hx ho=>by
  obtain ⟨_,b,c,_⟩:=hs.c _ hx;exact (hm.kept.block _ b c).trans ho
 have ltLD:∀ {I':Nat->Prop} {W W':World} {o1 o2:Obj},W.heap.size<=W'.heap.size->(∀ k,I' k->k<W'.heap.size)->W.heap[l]?=some o1->W.heap[D]?=some o2->∀ k,Zc I' D l k->k<W'.heap.size:=fun hsz hi h3 h4 k hk=>by
  rcases hk with e | e | e
  ·exact hi k e
  ·subst e
   exact wa3 (wa1.1 h4).1 hsz
  ·subst e
   exact wa3 (wa1.1 h3).1 hsz
 have hJJs:Xe B R JJ:=by
  intro pre X I W W' I' h hs hm hi;subst hJJ;obtain ⟨C,rfl,h1,h2,h3,h4⟩:=h;have hi2:=ltLD hm.kept.size hi h3 h4;exact ⟨C,rfl,hJ _ _ _ _ _ _ h1 h2 hm.wider hi2,h2.mo hm.wider hi2,stay hs hm (Or.inr (Or.inr rfl)) h3,stay hs hm (Or.inr (Or.inl rfl)) h4⟩
 have hJXs:Xe B R JX:=by
  intro pre X I W W' I' h hs hm hi;subst hJX;obtain ⟨C,c,rfl,h1,h2,h3,h4⟩:=h;have hi2:=ltLD hm.kept.size hi h3 h4;exact ⟨C,c,rfl,hJx c _ _ _ _ _ _ h1 h2 hm.wider hi2,h2.mo hm.wider hi2,stay hs hm (Or.inr (Or.inr rfl)) h3,stay hs hm (Or.inr (Or.inl rfl)) h4⟩
 have mv1:Qb w I0 W1 (Zc I0 D l):=⟨Qj.below hb1 I0,fun k hk=>by
  rcases hk with e | e | e
  ·exact Or.inl e
  ·right
   omega
  ·right
   omega⟩
 have hi1:∀ k,Zc I0 D l k->k<W1.heap.size:=fun k hk=>by
  rcases hk with e | e | e
  ·have:=s0.i k e
   omega
  ·omega
  ·omega
 refine ⟨l,[{ target := .collected D,args:=#[] }],W1,{ target := .fn (.func gf) lb,args:=#[.func (.yield l) #[] #[]] },W1,gf,#[.func (.yield l) #[] #[]]++lb,W1,?_,?_,?_,?_,fun h=>(by cases h),?_⟩
 ·rw [<- hW1,hrec,<- hl,<- hD];exact run_enterLoop_outer _ _ _ _ _
 ·simp only [resolve,hg]
  simp [go_sem]
 ·intro f' hf';trivial
 ·simp [invoke,go_sem,eg]
 ·refine (hseq l JJ JX (fun k=>C0 k\/LD D l k) W1 hb1 hJJs hJXs ?_ ?_ ?_).mono ?_
  ·-- one round
   intro pre x X I W hj hs hok;subst hJJ;obtain ⟨C,rfl,h1,h2,h3,h4⟩:=hj;have hlt:l<W.heap.size:=(wa1.1 h3).1;have hDt:D<W.heap.size:=(wa1.1 h4).1;have hBl:=(hs.c l (Or.inr (Or.inr rfl))).1;have hBD:=(hs.c D (Or.inr (Or.inl rfl))).1;have hIl:=(hs.c l (Or.inr (Or.inr rfl))).2.2;have hID:=(hs.c D (Or.inr (Or.inl rfl))).2.2;have hy:=run_yield (P:=P) (args:=encs x) h3 (by rw [hrec];exact hps x);rw [hrec] at hy;rw [ze2] at hok
   -- the blocks of the caller and of the loop, together
   have zp7:∀ {C':Nat->Prop} {W':World},W.heap.size<=W'.heap.size->Jc B R C' (Zc I D l) W'->Jc B R (fun k=>C' k\/LD D l k) I W':=fun hsz h=>⟨fun k hk=>by
    rcases hk with e | e
    ·obtain ⟨a,b,c,d⟩:=h.c k e
     exact ⟨a,b,fun e=>c (Or.inl e),d⟩
    ·rcases e with rfl | rfl
     ·exact ⟨hBD,wa3 hDt hsz,hID⟩
     ·exact ⟨hBl,wa3 hlt hsz,hIl⟩,fun k hk=>⟨(h.r k hk).1,fun e=>(h.r k hk).2 (Or.inl e)⟩,fun k hk=>h.i k (Or.inl hk)⟩
   refine ⟨fn,_,assign,body,hy,roundIn_of_wpIn hfn (hassign _ pre x C (Zc I D l) W _ h1 h2 hok ?_)⟩;clear hy;intro a' C1 Wa hax hs1 hm1;have hnl:¬ C l:=fun e=>(h2.c l e).2.2.1 (Or.inr (Or.inr rfl));have hnD:¬ C D:=fun e=>(h2.c D e).2.2.1 (Or.inr (Or.inl rfl));have h3a:Wa.heap[l]?=some (.loop (rec .ready none)):=(hm1.kept.block l hlt hnl).trans h3;have h4a:Wa.heap[D]?=some (.deferred (some [])):=(hm1.kept.block D hDt hnD).trans h4;have hlta:l<Wa.heap.size:=(wa1.1 h3a).1;refine ⟨_,run_beginRound h3a (by rw [hrec]),?_⟩;have h3b:(Wa.putObj l (.loop { rec .ready none with state := .busy })).heap[l]?=some (.loop { rec .ready none with state := .busy }):=World.putObj_heap_same hlta
   have h4b:(Wa.putObj l (.loop { rec .ready none with state := .busy })).heap[D]?=some (.deferred (some [])):=(World.putObj_heap_other (Ne.symm hlD)).trans h4a
   have mvb:=Zz Wa (F:=Zc I D l) (l:=l) (.loop { rec .ready none with state := .busy }) (Or.inr (Or.inr rfl))
   have mvl:=Zz Wa (F:=fun k=>C1 k\/LD D l k) (l:=l) (.loop { rec .ready none with state := .busy }) (Or.inr (Or.inr rfl))
   have hs1b:=hs1.mo mvb (fun k hk=>by simpa using hs1.i k hk);refine wpIn_mono (hbody l pre x a' C1 (Zc I D l) _ ⟨_,h3b⟩ (Or.inr (Or.inr rfl)) (hAx _ _ _ _ _ _ _ _ hax hs1 mvb (fun k hk=>by simpa using hs1.i k hk)) (hs1.mo mvb (fun k hk=>by simpa using hs1.i k hk))) ?_;generalize Wa.putObj l (.loop { rec .ready none with state := .busy })=Wb at *
   have mab:Qb W (fun k=>C k\/LD D l k) Wb (fun k=>C1 k\/LD D l k):=hm1.wider.trans mvl;have hltb:l<Wb.heap.size:=(wa1.1 h3b).1;have hDtb:D<Wb.heap.size:=(wa1.1 h4b).1;have hnl1:¬ C1 l:=fun e=>(hs1b.c l e).2.2.1 (Or.inr (Or.inr rfl));have hnD1:¬ C1 D:=fun e=>(hs1b.c D e).2.2.1 (Or.inr (Or.inl rfl));have fin:∀ (jump:Option Code) (C3:Nat->Prop) (W3:World),Jc B R C3 (Zc I D l) W3->Qb Wb C1 W3 C3 ->
    (Instr.endRound l jump).run P W3 = .ok (.bool jump.isNone) (W3.putObj l (.loop (rec (if jump.isNone then .ready else .done) jump))) /\
    (W3.putObj l (.loop (rec (if jump.isNone then .ready else .done) jump))).heap[l]?=some (.loop (rec (if jump.isNone then .ready else .done) jump)) /\
    (W3.putObj l (.loop (rec (if jump.isNone then .ready else .done) jump))).heap[D]?=some (.deferred (some [])) /\
    Qb W3 (Zc I D l) (W3.putObj l (.loop (rec (if jump.isNone then .ready else .done) jump))) (Zc I D l) /\
    Qb W (fun k=>C k\/LD D l k) (W3.putObj l (.loop (rec (if jump.isNone then .ready else .done) jump))) (fun k=>C3 k\/LD D l k) /\
    Jc B R (fun k=>C3 k\/LD D l k) I (W3.putObj l (.loop (rec (if jump.isNone then .ready else .done) jump))):=fun jump C3 W3 hs3 hm3=>by
    have hl3:=(hm3.kept.block l hltb hnl1).trans h3b;have hD3:=(hm3.kept.block D hDtb hnD1).trans h4b;have hr:=run_endRound (P:=P) jump hl3;rw [hrec] at hr ⊢;have m3:=Zz W3 (F:=Zc I D l) (l:=l) (.loop (rec (if jump.isNone then .ready else .done) jump)) (Or.inr (Or.inr rfl))
    have m4:=Zz W3 (F:=fun k=>C3 k\/LD D l k) (l:=l) (.loop (rec (if jump.isNone then .ready else .done) jump)) (Or.inr (Or.inr rfl))
    rw [hrec] at m3 m4;have hmA:=(mab.trans hm3.wider).trans m4;exact ⟨hr,World.putObj_heap_same (wa1.1 hl3).1,(World.putObj_heap_other (Ne.symm hlD)).trans hD3,m3,hmA,zp7 hmA.kept.size (hs3.mo m3 (fun k hk=>by simpa using hs3.i k hk))⟩
   rintro e a3 W3 hp;cases e with
   | normal =>
     obtain ⟨C3,hj3,hs3,hm3⟩:=hp;obtain ⟨f1,f2,f3,f4,f5,f6⟩:=fin none C3 W3 hs3 hm3;exact ⟨_,_,f1,Or.inl ⟨rfl,_,⟨C3,rfl,hJ _ _ _ _ _ _ hj3 hs3 f4 (fun k hk=>by simpa using hs3.i k hk),hs3.mo f4 (fun k hk=>by simpa using hs3.i k hk),f2,f3⟩,f6,f5⟩⟩
   | ret =>
     obtain ⟨C3,hj3,hs3,hm3⟩:=hp;obtain ⟨f1,f2,f3,f4,f5,f6⟩:=fin (some .ret) C3 W3 hs3 hm3;refine ⟨_,_,f1,Or.inr ⟨rfl,_,?_,f6,f5⟩⟩;rw [hJX];exact ⟨C3,.ret,rfl,hJx _ _ _ _ _ _ _ hj3 hs3 f4 (fun k hk=>by simpa using hs3.i k hk),hs3.mo f4 (fun k hk=>by simpa using hs3.i k hk),f2,f3⟩
   | exit id =>
     obtain ⟨C3,hj3,hs3,hm3⟩:=hp;obtain ⟨f1,f2,f3,f4,f5,f6⟩:=fin (some (.exit id)) C3 W3 hs3 hm3;refine ⟨_,_,f1,Or.inr ⟨rfl,_,?_,f6,f5⟩⟩;rw [hJX];exact ⟨C3,.exit id,rfl,hJx _ _ _ _ _ _ _ hj3 hs3 f4 (fun k hk=>by simpa using hs3.i k hk),hs3.mo f4 (fun k hk=>by simpa using hs3.i k hk),f2,f3⟩
   | goto t =>
     obtain ⟨C3,hj3,hs3,hm3⟩:=hp;obtain ⟨f1,f2,f3,f4,f5,f6⟩:=fin (some (.goto t)) C3 W3 hs3 hm3;refine ⟨_,_,f1,Or.inr ⟨rfl,_,?_,f6,f5⟩⟩;rw [hJX];exact ⟨C3,.goto t,rfl,hJx _ _ _ _ _ _ _ hj3 hs3 f4 (fun k hk=>by simpa using hs3.i k hk),hs3.mo f4 (fun k hk=>by simpa using hs3.i k hk),f2,f3⟩
   | panic ch=>exact hp.elim
   | outgrown=>exact hp.elim
  ·rw [hJJ]
   exact ⟨C0,rfl,hJ _ _ _ _ _ _ h0 s0 mv1 hi1,s0.mo mv1 hi1,hL1,hK1⟩
  ·exact ⟨fun k hk=>by
    rcases hk with e | e
    ·obtain ⟨a,b,c,d⟩:=(s0.mo mv1 hi1).c k e
     exact ⟨a,b,fun e=>c (Or.inl e),d⟩
    ·have hn:∀ q,w.heap.size<=q->¬ I0 q/\¬ R q:=fun q hq=>⟨fun e=>by have:=hI0 q e;omega,fun e=>by have:=(s0.r q e).1;omega⟩
     rcases e with rfl | rfl
     ·exact ⟨by omega,by omega,hn _ (by omega)⟩
     ·exact ⟨by omega,by omega,hn _ (by omega)⟩,fun k hk=>⟨by have:=(s0.r k hk).1;omega,(s0.r k hk).2⟩,fun k hk=>by have:=s0.i k hk;omega⟩
  ·-- behind the iterator
   rintro e W2 ⟨⟨v,rfl⟩,X,I,hs,(⟨xs,hE,hj⟩ | ⟨pre,hE,hj⟩)⟩
   ·subst hJJ
    obtain ⟨C,rfl,h1,h2,h3,h4⟩:=hj;have hr:=run_endLoop (P:=P) h3 (by rw [hrec];simp);rw [hrec] at hr;refine ⟨none,_,hr,?_⟩;have hE2:=hE;have mv:=Zz W2 (F:=Zc I D l) (l:=l) (.loop { rec .ready none with state := .exhausted }) (Or.inr (Or.inr rfl))
    have mvl:=Zz W2 (F:=fun k=>k=l) (l:=l) (.loop { rec .ready none with state := .exhausted }) rfl
    rw [hrec] at mv mvl;have hsl:=hs.c l (Or.inr (Or.inr rfl));exact hdone D l xs C I _ (by omega) (by omega) ⟨hlD,(hs.c D (Or.inr (Or.inl rfl))).2.2.1,hsl.2.2.1⟩ (qE9 _ _ _ _ _ _ hE mvl (fun k hk=>by obtain rfl:k=l:=hk;exact ⟨hsl.1,hsl.2.1,hsl.2.2.1⟩)) (hJ _ _ _ _ _ _ h1 h2 mv (fun k hk=>by simpa using h2.i k hk)) (h2.mo mv (fun k hk=>by simpa using h2.i k hk)) ((World.putObj_heap_other (Ne.symm hlD)).trans h4)
   ·subst hJX
    obtain ⟨C,c,rfl,h1,h2,h3,h4⟩:=hj;have hr:=run_endLoop (P:=P) h3 (by rw [hrec];simp);rw [hrec] at hr;refine ⟨some c,_,hr,?_⟩;have mv:=Zz W2 (F:=Zc I D l) (l:=l) (.loop { rec .done (some c) with state := .exhausted }) (Or.inr (Or.inr rfl))
    have mvl:=Zz W2 (F:=fun k=>k=l) (l:=l) (.loop { rec .done (some c) with state := .exhausted }) rfl
    rw [hrec] at mv mvl;have hsl:=hs.c l (Or.inr (Or.inr rfl));exact wpIn_wide.2 (hstop D l c pre C I _ (by omega) (by omega) ⟨hlD,(hs.c D (Or.inr (Or.inl rfl))).2.2.1,hsl.2.2.1⟩ (qE9 _ _ _ _ _ _ hE mvl (fun k hk=>by obtain rfl:k=l:=hk;exact ⟨hsl.1,hsl.2.1,hsl.2.2.1⟩)) (hJx _ _ _ _ _ _ _ h1 h2 mv (fun k hk=>by simpa using h2.i k hk)) (h2.mo mv (fun k hk=>by simpa using h2.i k hk)) ((World.putObj_heap_other (Ne.symm hlD)).trans h4))
def qQ6 (Ds:List Nat):List Deferred:=Ds.map (fun D=>{ target := .collected D,args:=#[] })
theorem Zd {fn:Func} {tmps:Array Value} {Q:Ending->World->Prop}:∀ (Ds:List Nat) (W:World),Ds.Nodup->(∀ D∈Ds,W.heap[D]?=some (.deferred (some []))) ->
 (∀ W',Qb W (·∈Ds) W' (·∈Ds)->∃ v,(results fn tmps).run P W' = .ok v W'/\Q (.returned v) W')->LeavesInM Fence.wide 0 P fn tmps Q (qQ6 Ds) .returning W
 | [],W,_,_,h=>h W (Qb.ob (Below.refl _ _))
 | D::Ds,W,hn,hd,h=>by
   have h1:=hd D (by simp);refine ⟨by simp,Or.inl ⟨D,_,rfl,run_takeDeferred h1,?_⟩⟩;have hn2:=we3.1 hn;have mv:=Zz W (F:=(·∈D::Ds)) (l:=D) (.deferred none) (by simp);refine Zd Ds _ hn2.2 (fun q hq=>(World.putObj_heap_other (fun e=>hn2.1 (by rw [<- e];exact hq))).trans (hd q (by simp [hq]))) (fun W' hm=>?_);refine h W' (mv.trans ⟨hm.kept.more (fun k hk=>by simp [hk]),fun k hk=>Or.inl hk⟩)
end
end
section
open Go.RowKit Go.Maps
structure Xv (w:World) (F:Nat->Prop) (sz:Nat) (A:Option Addr) (n c:Nat) (cs:List Value):Prop where
 ln:Ln w sz A n c cs
 out:0<n->∀ ad,A=some ad->¬ F ad.block
theorem qa1 (ad:Addr) (j:Nat):(ad.add j).block=ad.block:=by unfold Addr.add;split<;>rfl
section
variable {w w':World} {F F':Nat->Prop} {sz:Nat} {A:Option Addr} {n c:Nat} {cs:List Value}
theorem Ln.lt (h:Ln w sz A n c cs) (h0:0<n*sz) {ad:Addr} (e:A=some ad):ad.block<w.heap.size:=by
 have hl:=h.len;have h1:=h.lies.2 ad e 0 (cs[0]'(by omega)) (by simp);have h2:=World.block_lt_of_cell? _ _ h1;rwa [qa1] at h2
theorem Ln.mq (h:Ln w sz A n c cs) (_hs:0<sz) (f:0<n->∀ ad,A=some ad->w'.heap[ad.block]?=w.heap[ad.block]?):Ln w' sz A n c cs:=by
 refine ⟨h.len,h.le,h.lies.1,fun ad e j u hu=>?_⟩;have hl:=h.len;have hj:=(wa8.1 hu).1;have hn:0<n:=by
  rcases Nat.eq_zero_or_pos n with h0 | h0
  ·rw [h0] at hl
   omega
  ·exact h0
 rw [World.cell?_of_block (w:=w) (by rw [qa1];exact f hn ad e)];exact h.lies.2 ad e j u hu
theorem Xv.mo (h:Xv w F sz A n c cs) (hs:0<sz) (m:Qb w F w' F'):Xv w' F' sz A n c cs:=by
 have hlt:0<n->∀ ad,A=some ad->ad.block<w.heap.size:=fun hn ad e=>h.ln.lt (Nat.mul_pos hn hs) e;refine ⟨h.ln.mq hs (fun hn ad e=>m.kept.block _ (hlt hn ad e) (h.out hn ad e)),fun hn ad e h'=>?_⟩;rcases m.news _ h' with h1 | h1
 ·exact h.out hn ad e h1
 ·have:=hlt hn ad e
  omega
theorem Xv.kept (h:Xv w F sz A n c cs) (hb:Below w.heap.size w w'):Xv w' F sz A n c cs:=⟨h.ln.kept hb,h.out⟩
theorem Xv.of_hi {base:Nat} (h:Ln w sz A n c cs) (hi:Yp base A) (hF:∀ k,F k->k<base):Xv w F sz A n c cs :=
 ⟨h,fun _ ad e hk=>by have:=hi ad e;have:=hF _ hk;omega⟩
theorem Xv.none_ (w:World) (F:Nat->Prop) (sz:Nat):Xv w F sz none 0 0 []:=⟨Ln.none_ w sz,fun h=>absurd h (by omega)⟩
theorem Xv.fewer {G:Nat->Prop} (h:Xv w F sz A n c cs) (hG:∀ k,G k->F k):Xv w G sz A n c cs:=⟨h.ln,fun hn ad e hk=>h.out hn ad e (hG _ hk)⟩
end
structure UL (w:World) (F:Nat->Prop) (A:Option Addr) (n c:Nat) (B:Option Addr) (m d:Nat) (C:Option Addr) (k e:Nat) (s:ND):Prop where
 ke:Xv w F 1 A n c (Qd s.keys)
 va:Xv w F 1 B m d (Qd s.vals)
 ki:Xv w F 1 C k e (Qc s.kids)
structure NV where
 A:Option Addr
 n:Nat
 c:Nat
 B:Option Addr
 m:Nat
 d:Nat
 C:Option Addr
 k:Nat
 e:Nat
 s:ND
namespace NV
def ok (x:NV) (w:World) (F:Nat->Prop):Prop:=UL w F x.A x.n x.c x.B x.m x.d x.C x.k x.e x.s
def cells (x:NV):List Value:=[.bool x.s.leaf,.slice x.A x.n x.c,.slice x.B x.m x.d,.slice x.C x.k x.e]
def val (x:NV):Value := .agg #[.bool x.s.leaf,.slice x.A x.n x.c,.slice x.B x.m x.d,.slice x.C x.k x.e]
def zero:NV:=⟨none,0,0,none,0,0,none,0,0,ND.zero⟩
end NV
section
variable {w w':World} {F F':Nat->Prop} {A B C:Option Addr} {n c m d k e:Nat} {s:ND}
theorem UL.nd (h:UL w F A n c B m d C k e s):Nd w A n c B m d C k e s:=⟨h.ke.ln,h.va.ln,h.ki.ln⟩
theorem UL.mo (h:UL w F A n c B m d C k e s) (g:Qb w F w' F'):UL w' F' A n c B m d C k e s:=⟨h.ke.mo Nat.one_pos g,h.va.mo Nat.one_pos g,h.ki.mo Nat.one_pos g⟩
theorem UL.kept (h:UL w F A n c B m d C k e s) (hb:Below w.heap.size w w'):UL w' F A n c B m d C k e s:=⟨h.ke.kept hb,h.va.kept hb,h.ki.kept hb⟩
theorem UL.fewer {G:Nat->Prop} (h:UL w F A n c B m d C k e s) (hG:∀ k,G k->F k):UL w G A n c B m d C k e s:=⟨h.ke.fewer hG,h.va.fewer hG,h.ki.fewer hG⟩
theorem UL.zero (w:World) (F:Nat->Prop):UL w F none 0 0 none 0 0 none 0 0 ND.zero:=⟨Xv.none_ w F 1,Xv.none_ w F 1,Xv.none_ w F 1⟩
theorem qb9 {base:Nat} {v:Value} (h:Ha w base v s) (hF:∀ k,F k->k<base):∃ x:NV,v=x.val/\x.ok w F/\x.s=s:=by
 obtain ⟨A,n,c,B,m,d,C,k,e,rfl,h,h1,h2,h3⟩:=h;exact ⟨⟨A,n,c,B,m,d,C,k,e,s⟩,rfl,⟨Xv.of_hi h.ke h1 hF,Xv.of_hi h.va h2 hF,Xv.of_hi h.ki h3 hF⟩,rfl⟩
theorem NV.ok.mo {x:NV} (h:x.ok w F) (g:Qb w F w' F'):x.ok w' F':=UL.mo h g
theorem NV.ok.kept {x:NV} (h:x.ok w F) (hb:Below w.heap.size w w'):x.ok w' F:=UL.kept h hb
theorem NV.ok.fewer {x:NV} {G:Nat->Prop} (h:x.ok w F) (hG:∀ k,G k->F k):x.ok w G:=UL.fewer h hG
theorem NV.ok.nd {x:NV} (h:x.ok w F):Nd w x.A x.n x.c x.B x.m x.d x.C x.k x.e x.s:=UL.nd h
theorem NV.zero_ok (w:World) (F:Nat->Prop):NV.zero.ok w F:=UL.zero w F
end
structure LV where
 pg:Int
 x:NV
namespace LV
def cells (l:LV):List Value := .int .i64 l.pg::l.x.cells
def val (l:LV):Value := .agg #[.int .i64 l.pg,.bool l.x.s.leaf,.slice l.x.A l.x.n l.x.c,.slice l.x.B l.x.m l.x.d,.slice l.x.C l.x.k l.x.e]
def at_ (l:LV):Int×ND:=(l.pg,l.x.s)
def zero:LV:=⟨0,NV.zero⟩
end LV
structure SV where
 l:LV
 kid:Nat
namespace SV
def cells (s:SV):List Value:=s.l.cells++[.int .i64 ((s.kid:Nat):Int)]
def val (s:SV):Value := .agg #[.int .i64 s.l.pg,.bool s.l.x.s.leaf,.slice s.l.x.A s.l.x.n s.l.x.c,.slice s.l.x.B s.l.x.m s.l.x.d,.slice s.l.x.C s.l.x.k s.l.x.e,.int .i64 ((s.kid:Nat):Int)]
def st (s:SV):TS.St:=⟨s.l.pg,s.l.x.s,s.kid⟩
end SV
structure Ja (w:World) (F:Nat->Prop) (A:Option Addr) (n c:Nat) (l:List NV):Prop where
 ln:Xv w F 4 A n c (l.flatMap NV.cells)
 ok:∀ x∈l,x.ok w F
structure ZZ (w:World) (F:Nat->Prop) (A:Option Addr) (n c:Nat) (l:List LV):Prop where
 ln:Xv w F 5 A n c (l.flatMap LV.cells)
 ok:∀ x∈l,x.x.ok w F
structure Jw (w:World) (F:Nat->Prop) (A:Option Addr) (n c:Nat) (l:List SV):Prop where
 ln:Xv w F 6 A n c (l.flatMap SV.cells)
 ok:∀ x∈l,x.l.x.ok w F
theorem Xj {α:Type} {f:α->List Value} {k:Nat} (h:∀ x,(f x).length=k):∀ l:List α,(l.flatMap f).length=l.length*k
 | []=>by simp
 | x::l=>by
   rw [List.flatMap_cons,wa6,h,Xj h l,wb4,Nat.succ_mul];omega
theorem QN {α:Type} {f:α->List Value} {k:Nat} (h:∀ x,(f x).length=k):∀ (l:List α) (i:Nat) (x:α) (j:Nat),l[i]?=some x->j<k->(l.flatMap f)[i*k+j]?=(f x)[j]?
 | [],i,x,j,hx,_=>by simp at hx
 | y::l,0,x,j,hx,hj=>by
   obtain rfl:y=x:=by simpa using hx
   rw [List.flatMap_cons,Nat.zero_mul,we6,List.getElem?_append_left (by rw [h];exact hj)]
 | y::l,i+1,x,j,hx,hj=>by
   rw [List.flatMap_cons,wd8 (by rw [h,Nat.succ_mul];omega),h,show (i+1)*k+j - k=i*k+j by rw [Nat.succ_mul];omega];exact QN h l i x j (by simpa using hx) hj
theorem NV.clen (x:NV):x.cells.length=4:=rfl
theorem LV.clen (x:LV):x.cells.length=5:=rfl
theorem SV.clen (x:SV):x.cells.length=6:=rfl
section
variable {w w':World} {F F':Nat->Prop} {A:Option Addr} {n c:Nat}
theorem Ja.mo {l:List NV} (h:Ja w F A n c l) (g:Qb w F w' F'):Ja w' F' A n c l:=⟨h.ln.mo (by omega) g,fun x hx=>(h.ok x hx).mo g⟩
theorem ZZ.mo {l:List LV} (h:ZZ w F A n c l) (g:Qb w F w' F'):ZZ w' F' A n c l:=⟨h.ln.mo (by omega) g,fun x hx=>(h.ok x hx).mo g⟩
theorem Jw.mo {l:List SV} (h:Jw w F A n c l) (g:Qb w F w' F'):Jw w' F' A n c l:=⟨h.ln.mo (by omega) g,fun x hx=>(h.ok x hx).mo g⟩
theorem Ja.kept {l:List NV} (h:Ja w F A n c l) (hb:Below w.heap.size w w'):Ja w' F A n c l:=⟨h.ln.kept hb,fun x hx=>(h.ok x hx).kept hb⟩
theorem ZZ.kept {l:List LV} (h:ZZ w F A n c l) (hb:Below w.heap.size w w'):ZZ w' F A n c l:=⟨h.ln.kept hb,fun x hx=>(h.ok x hx).kept hb⟩
theorem Ja.len {l:List NV} (h:Ja w F A n c l):l.length=n:=by
 have:=h.ln.ln.len;rw [Xj NV.clen] at this;omega
theorem ZZ.len {l:List LV} (h:ZZ w F A n c l):l.length=n:=by
 have:=h.ln.ln.len;rw [Xj LV.clen] at this;omega
theorem Jw.len {l:List SV} (h:Jw w F A n c l):l.length=n:=by
 have:=h.ln.ln.len;rw [Xj SV.clen] at this;omega
theorem Ja.at_ {l:List NV} (h:Ja w F A n c l) {i:Nat} {x:NV} (hx:l[i]?=some x):∃ b off,A=some ⟨b,off,none⟩/\b<w.heap.size/\¬ F b/\x.ok w F /\
 w.cell? ⟨b,off+i*4,none⟩=some (.bool x.s.leaf)/\w.cell? ⟨b,off+i*4+1,none⟩=some (.slice x.A x.n x.c)/\w.cell? ⟨b,off+i*4+2,none⟩=some (.slice x.B x.m x.d)/\w.cell? ⟨b,off+i*4+3,none⟩=some (.slice x.C x.k x.e):=by
 have hi:=(wa8.1 hx).1;have hl:=h.len;obtain ⟨b,off,rfl,hb⟩:=h.ln.ln.spot (by rw [Xj NV.clen];omega);have hf:=fun j hj=>QN NV.clen l i x j hx hj;refine ⟨b,off,rfl,hb,h.ln.out (by omega) _ rfl,h.ok x (wb5 hx),?_,?_,?_,?_⟩
 ·exact h.ln.ln.cell (j:=i*4) (hf 0 (by omega))
 ·rw [wd5]
  exact h.ln.ln.cell (j:=i*4+1) (hf 1 (by omega))
 ·rw [wd5]
  exact h.ln.ln.cell (j:=i*4+2) (hf 2 (by omega))
 ·rw [wd5]
  exact h.ln.ln.cell (j:=i*4+3) (hf 3 (by omega))
theorem ZZ.at_ {l:List LV} (h:ZZ w F A n c l) {i:Nat} {x:LV} (hx:l[i]?=some x):∃ b off,A=some ⟨b,off,none⟩/\b<w.heap.size/\¬ F b/\x.x.ok w F /\
 w.cell? ⟨b,off+i*5,none⟩=some (.int .i64 x.pg)/\w.cell? ⟨b,off+i*5+1,none⟩=some (.bool x.x.s.leaf)/\w.cell? ⟨b,off+i*5+2,none⟩=some (.slice x.x.A x.x.n x.x.c)/\w.cell? ⟨b,off+i*5+3,none⟩=some (.slice x.x.B x.x.m x.x.d)/\w.cell? ⟨b,off+i*5+4,none⟩=some (.slice x.x.C x.x.k x.x.e):=by
 have hi:=(wa8.1 hx).1;have hl:=h.len;obtain ⟨b,off,rfl,hb⟩:=h.ln.ln.spot (by rw [Xj LV.clen];omega);have hf:=fun j hj=>QN LV.clen l i x j hx hj;refine ⟨b,off,rfl,hb,h.ln.out (by omega) _ rfl,h.ok x (wb5 hx),?_,?_,?_,?_,?_⟩
 ·exact h.ln.ln.cell (j:=i*5) (hf 0 (by omega))
 ·rw [wd5]
  exact h.ln.ln.cell (j:=i*5+1) (hf 1 (by omega))
 ·rw [wd5]
  exact h.ln.ln.cell (j:=i*5+2) (hf 2 (by omega))
 ·rw [wd5]
  exact h.ln.ln.cell (j:=i*5+3) (hf 3 (by omega))
 ·rw [wd5]
  exact h.ln.ln.cell (j:=i*5+4) (hf 4 (by omega))
theorem Jw.at_ {l:List SV} (h:Jw w F A n c l) {i:Nat} {x:SV} (hx:l[i]?=some x):∃ b off,A=some ⟨b,off,none⟩/\b<w.heap.size/\¬ F b/\x.l.x.ok w F /\
 w.cell? ⟨b,off+i*6,none⟩=some (.int .i64 x.l.pg)/\w.cell? ⟨b,off+i*6+1,none⟩=some (.bool x.l.x.s.leaf)/\w.cell? ⟨b,off+i*6+2,none⟩=some (.slice x.l.x.A x.l.x.n x.l.x.c)/\w.cell? ⟨b,off+i*6+3,none⟩=some (.slice x.l.x.B x.l.x.m x.l.x.d)/\w.cell? ⟨b,off+i*6+4,none⟩=some (.slice x.l.x.C x.l.x.k x.l.x.e)/\w.cell? ⟨b,off+i*6+5,none⟩=some (.int .i64 ((x.kid:Nat):Int)):=by
 have hi:=(wa8.1 hx).1;have hl:=h.len;obtain ⟨b,off,rfl,hb⟩:=h.ln.ln.spot (by rw [Xj SV.clen];omega);have hf:=fun j hj=>QN SV.clen l i x j hx hj;refine ⟨b,off,rfl,hb,h.ln.out (by omega) _ rfl,h.ok x (wb5 hx),?_,?_,?_,?_,?_,?_⟩
 ·exact h.ln.ln.cell (j:=i*6) (hf 0 (by omega))
 ·rw [wd5]
  exact h.ln.ln.cell (j:=i*6+1) (hf 1 (by omega))
 ·rw [wd5]
  exact h.ln.ln.cell (j:=i*6+2) (hf 2 (by omega))
 ·rw [wd5]
  exact h.ln.ln.cell (j:=i*6+3) (hf 3 (by omega))
 ·rw [wd5]
  exact h.ln.ln.cell (j:=i*6+4) (hf 4 (by omega))
 ·rw [wd5]
  exact h.ln.ln.cell (j:=i*6+5) (hf 5 (by omega))
end
def rdN (p:Int) (b:List UInt8):Option ND:=if IsF p b then ND.dec (GH b) (UX b) else none
theorem qN2 {p:Int} {n:ND} (h0:0<=p) (h1:p<=2147483647) (hn:n.encE=0):YL n.encK p n.encB=0/\rdN p (Hm n.encK p n.encB)=some n/\(Hm n.encK p n.encB).length<=1024:=by
 obtain ⟨f1,f2,f3⟩:=ND.fits_of hn;have hl:n.encB.length<=1000:=by rw [ND.encB_of hn,ND.enc_length f2];exact f3
 have hk:n.encK=2\/n.encK=3:=by
  rw [ND.encK_of hn];cases n.leaf<;>simp
 have hok:FOk n.encK p n.encB.length:=by
  unfold FOk;rcases hk with e | e<;>rw [e]<;>refine ⟨by omega,by omega,h0,h1,hl⟩
 have hf:=zb9 hok;refine ⟨if_pos hok,?_,?_⟩
 ·unfold Hm rdN
  rw [if_pos hok,if_pos hf,qy2 (by omega) (by omega),qd3];exact ND.dec_enc hn
 ·unfold Hm
  rw [if_pos hok,YV];omega
theorem zj7 {p:Int} {b:List UInt8} {n:ND} (h:rdN p b=some n):n.ok=true/\n.size<=1000:=by
 unfold rdN at h;split at h
 ·obtain ⟨e,_,_⟩:=ND.dec_back h
  obtain ⟨_,a,b⟩:=ND.fits_of e;exact ⟨a,b⟩
 ·cases h
structure qW0 (t:TS):Prop where
 fine:SS.Fine t.sp t.z
 fresh:∀ p,t.fr p=true->2<=p/\p<t.z
 z4:t.z<=4096
 ep1:1<=t.ep
 ep2:t.ep<=2147483647
def XA (tb mb:Nat) (A:Option Addr) (n:Nat) (B:Option Addr) (m:Nat) (k:Nat):Prop:=k=tb\/k=mb\/(0<n/\∃ ad,A=some ad/\k=ad.block)\/(0<m/\∃ ad,B=some ad/\k=ad.block)
def Yf (pb mb:Nat) (A:Option Addr) (n c:Nat) (B:Option Addr) (m d:Nat) (t:TS):Array Value :=
 #[.pointer (some ⟨pb,0,none⟩),.int .i64 t.rt,.int .i64 ((t.ht:Nat):Int),.int .i64 t.ct,.int .i64 t.sp.hi,.slice A n c,.slice B m d,.int .i64 t.ep,.map (some mb),.int .i64 t.lost]
structure Gi (w:World) (tb mb pb:Nat) (A:Option Addr) (n c:Nat) (B:Option Addr) (m d:Nat) (t:TS):Prop where
 str:w.heap[tb]?=some (.cells (Yf pb mb A n c B m d t) 91 (0,0))
 fresh:Zl w mb (NP t.fr)
 sp:Sp w A n c B m d t.sp
 a1:0<n->∀ ad,A=some ad->ad.block≠tb/\ad.block≠mb
 b1:0<m->∀ ad,B=some ad->ad.block≠tb/\ad.block≠mb
 fit:qW0 t
structure Vj (W:World) (G:Nat->Prop) (w:World) (pb db:Nat) (f:Int->List UInt8) (z:Nat):Prop where
 ex:∃ s M,Xf W G w pb db s/\qn0 s f M z/\M<=12
structure Ko (W:World) (G:Nat->Prop) (F:Nat->Prop) (w:World) (tb mb pb db:Nat) (A:Option Addr) (n c:Nat) (B:Option Addr) (m d:Nat) (f:Int->List UInt8) (t:TS):Prop where
 pool:Vj W G w pb db f t.z
 nds:∀ p,0<=p->p<t.z->rdN p (f p)=t.nd p
 box:Gi w tb mb pb A n c B m d t
 hF:∀ k,F k ↔ G k\/XA tb mb A n B m k
 apart:∀ k,XA tb mb A n B m k->¬ G k
 base:∀ k,F k->W.heap.size<=k
 below:Below W.heap.size W w
def Ql (W:World) (F:Nat->Prop) (w:World) (tb pb db:Nat) (t:TS):Prop:=∃ G mb A n c B m d f,Ko W G F w tb mb pb db A n c B m d f t
def Yt (W:World) (F:Nat->Prop) (w:World) (tb pb db:Nat) (t':TS) (w':World):Prop:=∃ F',Ql W F' w' tb pb db t'/\Qb w F w' F'
section
variable {W w w':World} {G F F':Nat->Prop} {tb mb pb db:Nat} {A B:Option Addr} {n c m d:Nat} {f:Int->List UInt8} {t t':TS}
theorem Gi.cells (h:Gi w tb mb pb A n c B m d t) :
 w.cell? ⟨tb,0,none⟩=some (.pointer (some ⟨pb,0,none⟩))/\w.cell? ⟨tb,1,none⟩=some (.int .i64 t.rt)/\w.cell? ⟨tb,2,none⟩=some (.int .i64 ((t.ht:Nat):Int))/\w.cell? ⟨tb,3,none⟩=some (.int .i64 t.ct)/\w.cell? ⟨tb,4,none⟩=some (.int .i64 t.sp.hi) /\
 w.cell? ⟨tb,5,none⟩=some (.slice A n c)/\w.cell? ⟨tb,6,none⟩=some (.slice B m d)/\w.cell? ⟨tb,7,none⟩=some (.int .i64 t.ep)/\w.cell? ⟨tb,8,none⟩=some (.map (some mb))/\w.cell? ⟨tb,9,none⟩=some (.int .i64 t.lost) :=
 ⟨(cell_of_row w tb 0 _ _ _ h.str).trans rfl,(cell_of_row w tb 1 _ _ _ h.str).trans rfl,(cell_of_row w tb 2 _ _ _ h.str).trans rfl,(cell_of_row w tb 3 _ _ _ h.str).trans rfl,(cell_of_row w tb 4 _ _ _ h.str).trans rfl,
   (cell_of_row w tb 5 _ _ _ h.str).trans rfl,(cell_of_row w tb 6 _ _ _ h.str).trans rfl,(cell_of_row w tb 7 _ _ _ h.str).trans rfl,(cell_of_row w tb 8 _ _ _ h.str).trans rfl,(cell_of_row w tb 9 _ _ _ h.str).trans rfl⟩
theorem Gi.free (h:Gi w tb mb pb A n c B m d t) (j:Nat):w.frozen? ⟨tb,j,none⟩=false:=frozen_of_row w tb j _ _ h.str
theorem Gi.lt (h:Gi w tb mb pb A n c B m d t):tb<w.heap.size:=(wa1.1 h.str).1
theorem Gi.own_lt (h:Gi w tb mb pb A n c B m d t) {k:Nat} (hk:XA tb mb A n B m k):k<w.heap.size:=by
 rcases hk with rfl | rfl | ⟨h0,ad,e,rfl⟩ | ⟨h0,ad,e,rfl⟩
 ·exact h.lt
 ·exact h.fresh.lt
 ·exact h.sp.fr.lt (by omega) e
 ·exact h.sp.pe.lt (by omega) e
theorem Gi.ne (h:Gi w tb mb pb A n c B m d t):mb≠tb:=by
 intro e;obtain ⟨es,cl,hm⟩:=h.fresh.isMap;rw [e,h.str] at hm;cases hm
theorem Gi.same (h:Gi w tb mb pb A n c B m d t) (e:∀ k,XA tb mb A n B m k->w'.heap[k]?=w.heap[k]?):Gi w' tb mb pb A n c B m d t :=
 ⟨(e tb (Or.inl rfl)).trans h.str,h.fresh.block (e mb (Or.inr (Or.inl rfl))),⟨h.sp.fr.mq (by omega) (fun hn ad ea=>e _ (Or.inr (Or.inr (Or.inl ⟨hn,ad,ea,rfl⟩)))),h.sp.pe.mq (by omega) (fun hn ad ea=>e _ (Or.inr (Or.inr (Or.inr ⟨hn,ad,ea,rfl⟩))))⟩,h.a1,h.b1,h.fit⟩
theorem Vj.below {z:Nat} (h:Vj W G w pb db f z) (hb:Below w.heap.size w w'):Vj W G w' pb db f z:=by
 obtain ⟨s,M,a,b,c⟩:=h;exact ⟨s,M,a.next hb,b,c⟩
theorem Vj.lt {z:Nat} (h:Vj W G w pb db f z):∀ k,G k->k<w.heap.size:=by
 obtain ⟨s,M,a,b,c⟩:=h;exact a.lt
theorem Vj.other {G' H:Nat->Prop} {z:Nat} (h:Vj W G w pb db f z) (hm:Qb w H w' G') (hG:∀ k,G k->¬ H k) (hb:Below W.heap.size W w'):Vj W G w' pb db f z:=by
 obtain ⟨s,M,a,b,c⟩:=h;exact ⟨s,M,a.other hm hG hb,b,c⟩
theorem Ko.lt (h:Ko W G F w tb mb pb db A n c B m d f t):∀ k,F k->k<w.heap.size:=by
 intro k hk;rcases (h.hF k).1 hk with e | e
 ·exact h.pool.lt k e
 ·exact h.box.own_lt e
theorem Ko.kept (h:Ko W G F w tb mb pb db A n c B m d f t) (hb:Below w.heap.size w w'):Ko W G F w' tb mb pb db A n c B m d f t :=
 ⟨h.pool.below hb,h.nds,h.box.same (fun k hk=>hb.block k (h.box.own_lt hk)),h.hF,h.apart,h.base,h.below.trans (hb.mono h.below.size)⟩
theorem Ko.tree (h:Ko W G F w tb mb pb db A n c B m d f t):Ql W F w tb pb db t:=⟨G,mb,A,n,c,B,m,d,f,h⟩
theorem Ko.ftb (h:Ko W G F w tb mb pb db A n c B m d f t):F tb:=(h.hF tb).2 (Or.inr (Or.inl rfl))
theorem Ko.fmb (h:Ko W G F w tb mb pb db A n c B m d f t):F mb:=(h.hF mb).2 (Or.inr (Or.inr (Or.inl rfl)))
theorem Ql.lt (h:Ql W F w tb pb db t):∀ k,F k->k<w.heap.size:=by
 obtain ⟨G,mb,A,n,c,B,m,d,f,h⟩:=h;exact h.lt
theorem Ql.kept (h:Ql W F w tb pb db t) (hb:Below w.heap.size w w'):Ql W F w' tb pb db t:=by
 obtain ⟨G,mb,A,n,c,B,m,d,f,h⟩:=h;exact (h.kept hb).tree
theorem Ql.fit (h:Ql W F w tb pb db t):qW0 t:=by
 obtain ⟨G,mb,A,n,c,B,m,d,f,h⟩:=h;exact h.box.fit
theorem Ql.below (h:Ql W F w tb pb db t):Below W.heap.size W w:=by
 obtain ⟨G,mb,A,n,c,B,m,d,f,h⟩:=h;exact h.below
theorem Ql.base (h:Ql W F w tb pb db t):∀ k,F k->W.heap.size<=k:=by
 obtain ⟨G,mb,A,n,c,B,m,d,f,h⟩:=h;exact h.base
theorem Yt.ob (h:Ql W F w tb pb db t) (hb:Below w.heap.size w w'):Yt W F w tb pb db t w':=⟨F,h.kept hb,Qb.ob hb⟩
theorem Yt.behind {w1 w2:World} {t':TS} (hb:Below w.heap.size w w1) (g:Yt W F w1 tb pb db t' w2):Yt W F w tb pb db t' w2:=by
 obtain ⟨F',h,m⟩:=g;exact ⟨F',h,(Qb.ob hb).trans m⟩
theorem Yt.then_ {w1 w2:World} {F1:Nat->Prop} {t':TS} (hm:Qb w F w1 F1) (g:Yt W F1 w1 tb pb db t' w2):Yt W F w tb pb db t' w2:=by
 obtain ⟨F',h,m⟩:=g;exact ⟨F',h,hm.trans m⟩
theorem Ko.pooled {G':Nat->Prop} {f':Int->List UInt8} {nd':Int->Option ND} (h:Ko W G F w tb mb pb db A n c B m d f t) (hm:Qb w G w' G') (hp:Vj W G' w' pb db f' t.z) (hn:∀ p,0<=p->p<t.z->rdN p (f' p)=nd' p) (hb:∀ k,G' k->W.heap.size<=k) :
 ∃ F',Ko W G' F' w' tb mb pb db A n c B m d f' { t with nd:=nd' }/\Qb w F w' F':=by
 have hk:Qj F w w':=hm.kept.more (fun k hk=>(h.hF k).2 (Or.inl hk));have hbox:Gi w' tb mb pb A n c B m d t:=h.box.same (fun k hk=>hm.kept.block k (h.box.own_lt hk) (h.apart k hk));refine ⟨fun k=>G' k\/XA tb mb A n B m k,⟨hp,hn,⟨hbox.str,hbox.fresh,hbox.sp,hbox.a1,hbox.b1,⟨hbox.fit.fine,hbox.fit.fresh,hbox.fit.z4,hbox.fit.ep1,hbox.fit.ep2⟩⟩,fun k=>Iff.rfl,fun k hk hg=>?_,fun k hk=>?_,?_⟩,hk,fun k hk=>?_⟩
 ·rcases hm.news k hg with e | e
  ·exact h.apart k hk e
  ·have:=h.box.own_lt hk
   omega
 ·rcases hk with e | e
  ·exact hb k e
  ·exact h.base k ((h.hF k).2 (Or.inr e))
 ·exact h.below.trans (hk.toBelow h.base h.below.size)
 ·rcases hk with e | e
  ·rcases hm.news k e with e | e
   ·exact Or.inl ((h.hF k).2 (Or.inl e))
   ·exact Or.inr e
  ·exact Or.inl ((h.hF k).2 (Or.inr e))
theorem Ko.boxed {A' B':Option Addr} {n' c' m' d':Nat} {t':TS} (h:Ko W G F w tb mb pb db A n c B m d f t) (hk:Qj F w w') (hg:∀ k,k<w.heap.size->G k->w'.heap[k]?=w.heap[k]?) (hb:Gi w' tb mb pb A' n' c' B' m' d' t') (hnd:t'.nd=t.nd) (hz:t'.z=t.z)
 (hn:∀ k,XA tb mb A' n' B' m' k->XA tb mb A n B m k\/w.heap.size<=k):∃ F',Ko W G F' w' tb mb pb db A' n' c' B' m' d' f t'/\Qb w F w' F':=by
 have hbel:=hk.toBelow h.base h.below.size;have hown:∀ k,XA tb mb A' n' B' m' k->W.heap.size<=k:=fun k hk=>by
  rcases hn k hk with e | e
  ·exact h.base k ((h.hF k).2 (Or.inr e))
  ·exact wa9 h.below.size e
 have hpl:Vj W G w' pb db f t'.z:=by
  rw [hz];refine h.pool.other (H:=fun k=>F k/\¬ G k) (G':=fun _=>False) ⟨⟨hk.os,hk.tape,hk.output,hk.size,fun k h1 h2=>?_⟩,fun _ e=>e.elim⟩ (fun k hk e=>e.2 hk) (h.below.trans hbel);by_cases hG:G k
  ·exact hg k h1 hG
  ·exact hk.block k h1 (fun e=>h2 ⟨e,hG⟩)
 refine ⟨fun k=>G k\/XA tb mb A' n' B' m' k,⟨hpl,by rw [hnd,hz];exact h.nds,hb,fun k=>Iff.rfl,fun k hk hG=>?_,fun k hk=>?_,h.below.trans hbel⟩,hk,fun k hk=>?_⟩
 ·rcases hn k hk with e | e
  ·exact h.apart k e hG
  ·have:=h.pool.lt k hG
   omega
 ·rcases hk with e | e
  ·exact h.base k ((h.hF k).2 (Or.inl e))
  ·exact hown k e
 ·rcases hk with e | e
  ·exact Or.inl ((h.hF k).2 (Or.inl e))
  ·rcases hn k e with e | e
   ·exact Or.inl ((h.hF k).2 (Or.inr e))
   ·exact Or.inr e
theorem ql4:∀ (n:Nat) (l:List Int),l.Nodup->(∀ x∈l,0<=x/\x<n)->l.length<=n:=by
 intro n l h1 h2;have:=NC n (l.map Int.toNat) (by
  rw [List.pairwise_map];refine List.Pairwise.imp_of_mem ?_ h1;intro a b ha hb hne e;have:=h2 a ha;have:=h2 b hb;omega) (fun x hx=>by
  obtain ⟨y,hy,rfl⟩:=wd7.1 hx;have:=h2 y hy;omega)
 simpa using this
theorem qW0.few (h:qW0 t):t.sp.fr.length<=4096/\t.sp.pe.length<=4096/\2<=t.sp.hi/\t.sp.hi<=4096:=by
 have h1:=h.fine.hi;have h2:=h.fine.lo;have hz:=h.z4;refine ⟨?_,?_,by omega,by omega⟩
 ·exact ql4 4096 t.sp.fr (h.fine.up.imp (fun h=>by omega)) (fun x hx=>by have:=h.fine.inF x hx;omega)
 ·have:=ql4 4096 (t.sp.pe.map (·.2)) h.fine.once (fun x hx=>by
   obtain ⟨y,hy,rfl⟩:=wd7.1 hx;have:=h.fine.inP y hy;omega)
  simpa using this
end
end
section
open Go.RowKit Go.Shelf
attribute [local go_sem] Oper.semAt_some
theorem Jp:Fence.wide.depth=none:=rfl
theorem QU (f:FuncId):Fence.wide.fn f=True:=rfl
attribute [local go_sem,local simp] Jp QU
theorem qd9 (A:Option Addr) (n c:Nat) (w:World) :
 Calls Tryz.prog 64 #[.slice A n c] w fun e w'=>e = .returned (.func (.func 103) #[] #[.pointer (some ⟨w.heap.size,0,none⟩)])/\w.alloc (.cells #[.slice A n c] 40)=w':=by
 go_enter Tryz.func64,Tryz.ntmps64;go_wp2_with fail;go_ret;exact ⟨rfl,rfl⟩
def BkR (B:Nat) (R:Nat->Prop) (J:Jo (Nat×Int)) (sb:Nat) (A:Option Addr) (n c:Nat) (zs:List Int) (k:Nat) (w:World):Prop :=
 ∃ pre C,pre.length+k=n/\J pre C (fun _=>False) w/\Jc B R C (fun _=>False) w/\w.cell? ⟨sb,0,none⟩=some (.slice A n c)/\Ln w 1 A n c (Qc zs)
theorem qy8 {B:Nat} {R C C':Nat->Prop} {W W':World} (hs:Jc B R C (fun _=>False) W) (m:Qb W C W' C') {k:Nat} (hk:R k):W'.heap[k]?=W.heap[k]? :=
 m.kept.block k (hs.r k hk).1 (fun e=>(hs.c k e).2.2.2 hk)
theorem qd8 (B:Nat) (R:Nat->Prop) (sb:Nat) (A:Option Addr) (n c:Nat) (zs:List Int) (w0:World) (h1:w0.cell? ⟨sb,0,none⟩=some (.slice A n c)) (h2:Ln w0 1 A n c (Qc zs)) (h3:R sb) (h4:0<n->∀ ad,A=some ad->R ad.block) (h5:n<=1000) :
 zn2 Tryz.prog B R 103 #[.pointer (some ⟨sb,0,none⟩)] (fun x:Nat×Int=>#[.int .i64 (x.1:Int),.int .i64 x.2]) (fun _=>False) (fun pre x _ _=>x.1+pre.length+1=n/\zs[x.1]?=some x.2) (fun b xs _ _=>b=true->xs.length=n) w0:=by
 intro l J Jx C0 W hW hJ hJx hY h0 s0;have hlt:=World.block_lt_of_cell? _ _ h1;have HR:Hid (BkR B R J sb A n c zs n W):=iQ ⟨[],C0,by simp,h0,s0,(hW.cell (p:=⟨sb,0,none⟩) hlt).trans h1,h2.kept hW⟩;have HY:=iQ hY;have H34:=iQ (And.intro h3 h4);have hc:=(hW.cell (p:=⟨sb,0,none⟩) hlt).trans h1;clear hY h0 s0 h1 h2 hJ hJx hW h3 h4 hlt;refine callsIn_of_wp Tryz.func103 rfl trivial ?_ rfl;simp only [Tryz.ntmps103,List.size_toArray,List.length_cons,List.length_nil,Nat.reduceAdd,Nat.reduceSub,Array.replicate_succ,Array.replicate_zero,List.push_toArray,List.append_toArray,List.nil_append,List.cons_append];gi_wp2;gi_loopw [3] (fun i wr=>∃ (k:Nat) (z:Int),k<=n/\z+1<=k/\(k:Int)<=z+1/\i = .int .i64 z/\Hid (BkR B R J sb A n c zs k wr)) (fun i _=>(RowKit.intOf i+1).toNat)
 case atStart=>exact ⟨n,(n:Int) - 1,wa2 _,by omega,by omega,rfl,HR⟩
 case round =>
  obtain ⟨k,z,hk,hz1,hz2,rfl,hrel⟩:=hrel;cases k with
  | zero =>
    have hz:z<0:=(by omega);obtain ⟨pre,C,hl,hj,hs,_,_⟩:=hrel.out;have HE:Hid (QK B R J Jx (fun b xs _ _=>b=true->xs.length=n) (.returned (.tuple #[])) wr):=iQ ⟨⟨_,rfl⟩,C,_,hs,Or.inl ⟨pre,fun _=>hl,hj⟩⟩;clear hz1 hz2 hl hj hs hrel HR HY;gi_wp2;go_end0;exact HE.out
  | succ j =>
    obtain rfl:((j:Nat):Int)=z:=(by omega);obtain ⟨pre,C,hl,hj,hs,hsb,hln⟩:=hrel.out;obtain ⟨b,off,x,hA,hx,hcx⟩:=hln.iA (k:=j) (by omega);subst hA;have hjn:j<n:=(by omega);obtain ⟨fn,tmps,assign,body,hy,hRR⟩:=HY.out pre (j,x) C _ wr hj hs ⟨by simp;omega,hx⟩;have HRR:=iQ hRR;have HS:=iQ hs;have HL:=iQ hl;have HB:=iQ (And.intro hsb hln);dsimp only at hy;have hj0:(0:Int)<=(j:Int):=(by omega);clear hz1 hz2 hl hj hs hrel HR HY hRR hln hx;gi_wp2;refine HRR.out.mono ?_;rintro e w3 (⟨rfl,C',hj3,hs3,m3⟩ | ⟨rfl,C',hj3,hs3,m3⟩)
    ·have HN:Hid (BkR B R J sb (some ⟨b,off,none⟩) n c zs j w3):=iQ ⟨pre++[(j,x)],C',by have:=HL.out;simp;omega,hj3,hs3,by
      rw [World.cell?_of_block (w:=wr) (qy8 HS.out m3 H34.out.1)];exact HB.out.1,HB.out.2.mq (by omega) (fun hn ad e=>qy8 HS.out m3 (H34.out.2 hn ad e))⟩
     clear hj3 hs3 m3;gi_wp2;go_roundw;case rel=>exact ⟨j,(j:Int) - 1,by omega,by omega,by omega,rfl,HN⟩
     case measure=>simp [RowKit.intOf]
    ·have HE:Hid (QK B R J Jx (fun b xs _ _=>b=true->xs.length=n) (.returned (.tuple #[])) w3):=iQ ⟨⟨_,rfl⟩,C',_,hs3,Or.inr ⟨pre++[(j,x)],fun e=>(by cases e),hj3⟩⟩
     clear hj3 hs3 m3;gi_wp2;refine bodyPost_ret (results_none rfl _ _ _) rfl ?_;exact HE.out
end
section
open Go.RowKit Go.Maps
structure VV where
 pg:Int
 ht:Int
 lo:ByteArray
 hi:ByteArray
 x:NV
namespace VV
def cells (v:VV):List Value:=[.int .i64 v.pg,.int .i64 v.ht,.string v.lo,.string v.hi]++v.x.cells
def val (v:VV):Value := .agg #[.int .i64 v.pg,.int .i64 v.ht,.string v.lo,.string v.hi,.bool v.x.s.leaf,.slice v.x.A v.x.n v.x.c,.slice v.x.B v.x.m v.x.d,.slice v.x.C v.x.k v.x.e]
def zero:VV:=⟨0,0,⟨#[]⟩,⟨#[]⟩,NV.zero⟩
def v (v:VV):SC.V:=⟨v.pg,v.ht,v.lo.toList,v.hi.toList⟩
def vis (v:VV):SC.Vis:=(v.v,v.x.s)
theorem clen (v:VV):v.cells.length=8:=rfl
end VV
def Ze (w:World) (g:Nat) (p h l u b x y z:Value):Prop:=w.heap[g]?=some (.cells #[p,h,l,u,b,x,y,z] 77 (0,0))
def VBx (w:World) (g:Nat) (v:VV):Prop:=Ze w g (.int .i64 v.pg) (.int .i64 v.ht) (.string v.lo) (.string v.hi) (.bool v.x.s.leaf) (.slice v.x.A v.x.n v.x.c) (.slice v.x.B v.x.m v.x.d) (.slice v.x.C v.x.k v.x.e)
section
variable {w w':World} {F F':Nat->Prop} {g:Nat} {p h l u b x y z:Value}
theorem Ze.lt (hb:Ze w g p h l u b x y z):g<w.heap.size:=(wa1.1 hb).1
theorem Ze.kept (hb:Ze w g p h l u b x y z) (k:Below w.heap.size w w'):Ze w' g p h l u b x y z:=(k.block g hb.lt).trans hb
theorem Ze.mo (hb:Ze w g p h l u b x y z) (m:Qb w F w' F') (hF:¬ F g):Ze w' g p h l u b x y z:=(m.kept.block g hb.lt hF).trans hb
theorem Ze.grown {q:Nat} (hb:Ze w g p h l u b x y z) (hg:w.grownBy w' (some q)) (hne:g≠q):Ze w' g p h l u b x y z:=(hg.block g hb.lt (fun e=>hne (wa0 e))).trans hb
theorem Ze.cells (hb:Ze w g p h l u b x y z):w.cell? ⟨g,0,none⟩=some p/\w.cell? ⟨g,1,none⟩=some h/\w.cell? ⟨g,2,none⟩=some l/\w.cell? ⟨g,3,none⟩=some u/\w.cell? ⟨g,4,none⟩=some b/\w.cell? ⟨g,5,none⟩=some x/\w.cell? ⟨g,6,none⟩=some y/\w.cell? ⟨g,7,none⟩=some z :=
 ⟨(cell_of_row w g 0 _ _ _ hb).trans rfl,(cell_of_row w g 1 _ _ _ hb).trans rfl,(cell_of_row w g 2 _ _ _ hb).trans rfl,(cell_of_row w g 3 _ _ _ hb).trans rfl,(cell_of_row w g 4 _ _ _ hb).trans rfl,(cell_of_row w g 5 _ _ _ hb).trans rfl,(cell_of_row w g 6 _ _ _ hb).trans rfl,(cell_of_row w g 7 _ _ _ hb).trans rfl⟩
theorem Ze.free (hb:Ze w g p h l u b x y z) (j:Nat):w.frozen? ⟨g,j,none⟩=false:=frozen_of_row w g j _ _ hb
theorem Zj (w:World) (p h l u b x y z:Value):Ze (w.alloc (.cells #[p,h,l,u,b,x,y,z] 77)) w.heap.size p h l u b x y z:=heap_alloc_new w _
theorem Ze.put0 (hb:Ze w g p h l u b x y z) (q:Value):Ze (w.setCell ⟨g,0,none⟩ q) g q h l u b x y z:=Joins.block_setCell (i:=0) hb q
theorem Ze.put1 (hb:Ze w g p h l u b x y z) (q:Value):Ze (w.setCell ⟨g,1,none⟩ q) g p q l u b x y z:=Joins.block_setCell (i:=1) hb q
theorem Ze.put2 (hb:Ze w g p h l u b x y z) (q:Value):Ze (w.setCell ⟨g,2,none⟩ q) g p h q u b x y z:=Joins.block_setCell (i:=2) hb q
theorem Ze.put3 (hb:Ze w g p h l u b x y z) (q:Value):Ze (w.setCell ⟨g,3,none⟩ q) g p h l q b x y z:=Joins.block_setCell (i:=3) hb q
theorem Ze.put4 (hb:Ze w g p h l u b x y z) (q:Value):Ze (w.setCell ⟨g,4,none⟩ q) g p h l u q x y z:=Joins.block_setCell (i:=4) hb q
theorem Ze.put5 (hb:Ze w g p h l u b x y z) (q:Value):Ze (w.setCell ⟨g,5,none⟩ q) g p h l u b q y z:=Joins.block_setCell (i:=5) hb q
theorem Ze.put6 (hb:Ze w g p h l u b x y z) (q:Value):Ze (w.setCell ⟨g,6,none⟩ q) g p h l u b x q z:=Joins.block_setCell (i:=6) hb q
theorem Ze.put7 (hb:Ze w g p h l u b x y z) (q:Value):Ze (w.setCell ⟨g,7,none⟩ q) g p h l u b x y q:=Joins.block_setCell (i:=7) hb q
theorem Ze.put (hb:Ze w g p h l u b x y z) (p' h' l' u' b' x' y' z':Value) :
 Ze ((((((((w.setCell ⟨g,0,none⟩ p').setCell ⟨g,1,none⟩ h').setCell ⟨g,2,none⟩ l').setCell ⟨g,3,none⟩ u').setCell ⟨g,4,none⟩ b').setCell ⟨g,5,none⟩ x').setCell ⟨g,6,none⟩ y').setCell ⟨g,7,none⟩ z') g p' h' l' u' b' x' y' z' :=
 (((((((hb.put0 _).put1 _).put2 _).put3 _).put4 _).put5 _).put6 _).put7 _
theorem Ze.putNode (hb:Ze w g p h l u b x y z) (b' x' y' z':Value) :
 Ze ((((w.setCell ⟨g,4,none⟩ b').setCell ⟨g,5,none⟩ x').setCell ⟨g,6,none⟩ y').setCell ⟨g,7,none⟩ z') g p h l u b' x' y' z' :=
 (((hb.put4 _).put5 _).put6 _).put7 _
theorem MG {B:Nat} {a w:World} {r:Nat} (h:Below B a w) (hr:B<=r) (x y z p q s u v:Value) :
 Below B a ((((((((w.setCell ⟨r,0,none⟩ x).setCell ⟨r,1,none⟩ y).setCell ⟨r,2,none⟩ z).setCell ⟨r,3,none⟩ p).setCell ⟨r,4,none⟩ q).setCell ⟨r,5,none⟩ s).setCell ⟨r,6,none⟩ u).setCell ⟨r,7,none⟩ v) :=
 (((((((h.setCell hr _).setCell hr _).setCell hr _).setCell hr _).setCell hr _).setCell hr _).setCell hr _).setCell hr _
end
structure UG (w:World) (F:Nat->Prop) (A:Option Addr) (n c:Nat) (l:List VV):Prop where
 ln:Xv w F 8 A n c (l.flatMap VV.cells)
 ok:∀ v∈l,v.x.ok w F
section
variable {w w':World} {F F':Nat->Prop} {A:Option Addr} {n c:Nat}
theorem UG.kept {l:List VV} (h:UG w F A n c l) (hb:Below w.heap.size w w'):UG w' F A n c l:=⟨h.ln.kept hb,fun x hx=>(h.ok x hx).kept hb⟩
theorem UG.len {l:List VV} (h:UG w F A n c l):l.length=n:=by
 have:=h.ln.ln.len;rw [Xj VV.clen] at this;omega
theorem UG.at_ {l:List VV} (h:UG w F A n c l) {i:Nat} {v:VV} (hx:l[i]?=some v):∃ b off,A=some ⟨b,off,none⟩/\b<w.heap.size/\¬ F b/\v.x.ok w F /\
 w.cell? ⟨b,off+i*8,none⟩=some (.int .i64 v.pg)/\w.cell? ⟨b,off+i*8+1,none⟩=some (.int .i64 v.ht)/\w.cell? ⟨b,off+i*8+2,none⟩=some (.string v.lo)/\w.cell? ⟨b,off+i*8+3,none⟩=some (.string v.hi)/\w.cell? ⟨b,off+i*8+4,none⟩=some (.bool v.x.s.leaf)/\w.cell? ⟨b,off+i*8+5,none⟩=some (.slice v.x.A v.x.n v.x.c)/\w.cell? ⟨b,off+i*8+6,none⟩=some (.slice v.x.B v.x.m v.x.d)/\w.cell? ⟨b,off+i*8+7,none⟩=some (.slice v.x.C v.x.k v.x.e):=by
 have hi:=(wa8.1 hx).1;have hl:=h.len;obtain ⟨b,off,rfl,hb⟩:=h.ln.ln.spot (by rw [Xj VV.clen];omega);have hf:=fun j hj=>QN VV.clen l i v j hx hj;refine ⟨b,off,rfl,hb,h.ln.out (by omega) _ rfl,h.ok v (wb5 hx),?_,?_,?_,?_,?_,?_,?_,?_⟩
 ·exact h.ln.ln.cell (j:=i*8) (hf 0 (by omega))
 ·rw [wd5];exact h.ln.ln.cell (j:=i*8+1) (hf 1 (by omega))
 ·rw [wd5];exact h.ln.ln.cell (j:=i*8+2) (hf 2 (by omega))
 ·rw [wd5];exact h.ln.ln.cell (j:=i*8+3) (hf 3 (by omega))
 ·rw [wd5];exact h.ln.ln.cell (j:=i*8+4) (hf 4 (by omega))
 ·rw [wd5];exact h.ln.ln.cell (j:=i*8+5) (hf 5 (by omega))
 ·rw [wd5];exact h.ln.ln.cell (j:=i*8+6) (hf 6 (by omega))
 ·rw [wd5];exact h.ln.ln.cell (j:=i*8+7) (hf 7 (by omega))
end
section
variable {W w w':World} {G F F':Nat->Prop} {tb mb pb db:Nat} {A B:Option Addr} {n c m d:Nat} {f:Int->List UInt8} {t t':TS}
theorem qf3 {w:World} {F:Nat->Prop} {base:Nat} {v:Value} {l:List UInt8} (h:Xr w base v l) (hF:∀ k,F k->k<base):∃ A c,v = .slice A l.length c/\l.length<=c/\Out w F A l/\(A=none->l.length=0/\c=0):=by
 obtain ⟨A,c,e,h1,h2⟩:=Je h;subst e;refine ⟨A,c,rfl,h1,?_,h2⟩;rcases h.2 with ⟨e,h0⟩ | ⟨g,cap,cur,e,hg,hr⟩
 ·exact Or.inl (wb2 h0)
 ·obtain ⟨A',c',e',hl',_,_,r⟩:=Xc.oo h
  injection e' with e1 e2 e3
  subst e1;rcases r with r | ⟨b,off,eb,_,hc⟩
  ·exact Or.inl r
  ·refine Or.inr ⟨b,off,eb,fun hb=>?_,hc⟩
   injection e with e1 e2 e3
   rw [eb] at e1;injection e1 with e1
   injection e1 with e1
   have:=hF b hb;omega
def TGet (W:World) (F:Nat->Prop) (w:World) (tb pb db:Nat) (f:Int->List UInt8) (t:TS) (p:Int) (e:Ending) (w':World):Prop :=
 ∃ A' c' G' F' mb A n c B m d,e = .returned (.tuple #[.slice A' (f p).length c',.int .i64 0])/\Xr w' w.heap.size (.slice A' (f p).length c') (f p)/\(f p).length<=1024/\Ko W G' F' w' tb mb pb db A n c B m d f t/\Qb w F w' F'
theorem qK1 (w:World) (p:Int) (h0:0<=p) (h1:p<t.z) (h:Ko W G F w tb mb pb db A n c B m d f t) :
 Calls Tryz.prog 165 #[.pointer (some ⟨pb,0,none⟩),.int .i64 p] w (TGet W F w tb pb db f t p):=by
 have hz:=h.box.fit.z4;obtain ⟨s,M,hp,hf,hM⟩:=h.pool;obtain ⟨g1,g2,g3⟩:=hf.get h0 h1;refine (qT2 w p (by omega) (by omega) hp).mono ?_;rintro e w' ⟨A',c',G',rfl,ho,hown,hp',hm,hl⟩;rw [g1];rw [g2] at ho hown hl ⊢;obtain ⟨F',h',m'⟩:=h.pooled (nd':=t.nd) hm ⟨_,M,hp',g3,hM⟩ h.nds hp'.base;exact ⟨A',c',G',F',mb,A,n,c,B,m,d,rfl,hown,hl,h',m'⟩
def TPut (W:World) (F:Nat->Prop) (w:World) (tb pb db:Nat) (t':TS) (e:Ending) (w':World):Prop:=e = .returned (.int .i64 0)/\Yt W F w tb pb db t' w'
theorem qJ3 (w:World) (p:Int) (h0:0<=p) (h1:p<t.z) (A':Option Addr) (k c':Nat) (l:List UInt8) (nn:ND) (hl:l.length=k) (hx:Out w F A' l) (hz:A'=none->k=0/\c'=0) (hlen:l.length<=1024) (hn:rdN p l=some nn) (h:Ko W G F w tb mb pb db A n c B m d f t) :
 Calls Tryz.prog 179 #[.pointer (some ⟨pb,0,none⟩),.int .i64 p,.slice A' k c'] w (TPut W F w tb pb db { t with nd:=TS.setN t.nd p nn }):=by
 have hz4:=h.box.fit.z4;obtain ⟨s,M,hp,hf,hM⟩:=h.pool;obtain ⟨g1,g2⟩:=hf.put (l:=l) h0 h1 hlen;have hxG:Out w G A' l:=by
  rcases hx with e | ⟨b,off,e,hb,hc⟩
  ·exact Or.inl e
  ·exact Or.inr ⟨b,off,e,fun hg=>hb ((h.hF b).2 (Or.inl hg)),hc⟩
 refine (qN4 w p (by omega) (by omega) A' k c' l hl hxG hz hp).mono ?_;rintro e w' ⟨rfl,G',hp',hm⟩;rw [g1];obtain ⟨F',h',m'⟩:=h.pooled (nd':=TS.setN t.nd p nn) hm ⟨_,M,hp',g2,hM⟩ (fun q q0 q1=>by
  unfold PP.upd TS.setN;by_cases e:q=p
  ·rw [if_pos e,if_pos e,e]
   exact hn
  ·rw [if_neg e,if_neg e]
   exact h.nds q q0 q1) hp'.base
 exact ⟨rfl,F',h'.tree,m'⟩
end
section
variable {W w w':World} {G F F':Nat->Prop} {tb mb pb db:Nat} {A B:Option Addr} {n c m d:Nat} {f:Int->List UInt8} {t t':TS}
theorem JM (w:World) (tb pb:Nat) (c0:w.cell? ⟨tb,0,none⟩=some (.pointer (some ⟨pb,0,none⟩))) :
 Calls Tryz.prog 38 #[.pointer (some ⟨tb,0,none⟩)] w fun e w'=>e = .returned (.bool true)/\w=w':=by
 go_enter Tryz.func38,Tryz.ntmps38;go_wp2_with fail;go_ret;exact ⟨rfl,rfl⟩
theorem qJ9 (w:World):Calls Tryz.prog 38 #[.pointer none] w fun e w'=>e = .returned (.bool false)/\w=w':=by
 go_enter Tryz.func38,Tryz.ntmps38;go_wp2_with fail;go_ret;exact ⟨rfl,rfl⟩
theorem qh2 (w:World) (h:Gi w tb mb pb A n c B m d t) :
 Calls Tryz.prog 54 #[.pointer (some ⟨tb,0,none⟩)] w fun e w'=>e = .returned (.int .i64 t.lost)/\w=w':=by
 obtain ⟨c0,c1,c2,c3,c4,c5,c6,c7,c8,c9⟩:=h.cells;have HM:=iQ (JM w tb pb c0);clear h c1 c2 c3 c4 c5 c6 c7 c8;go_enter Tryz.func54,Tryz.ntmps54;go_wp2_with fail;refine HM.out.mono ?_;rintro e w' ⟨rfl,rfl⟩;go_wp2_with fail;go_ret;exact ⟨rfl,rfl⟩
theorem qp9 (w:World):Calls Tryz.prog 54 #[.pointer none] w fun e w'=>e = .returned (.int .i64 1)/\w=w':=by
 have HM:=iQ (qJ9 w);go_enter Tryz.func54,Tryz.ntmps54;go_wp2_with fail;refine HM.out.mono ?_;rintro e w' ⟨rfl,rfl⟩;go_wp2_with fail;go_ret;exact ⟨rfl,rfl⟩
theorem Ko.field (h:Ko W G F w tb mb pb db A n c B m d f t) {t':TS} (hs:w'.heap[tb]?=some (.cells (Yf pb mb A n c B m d t') 91 (0,0))) (ho:∀ k,k≠tb->w'.heap[k]?=w.heap[k]?) (hk:Qj F w w')
 (h1:t'.sp=t.sp) (h2:t'.fr=t.fr) (h3:t'.nd=t.nd) (h4:t'.z=t.z) (h5:t'.ep=t.ep):∃ F',Ko W G F' w' tb mb pb db A n c B m d f t'/\Qb w F w' F':=by
 refine h.boxed hk (fun k _ hG=>ho k (fun e=>h.apart tb (Or.inl rfl) (e ▸ hG))) ⟨hs,?_,?_,h.box.a1,h.box.b1,⟨by rw [h1,h4];exact h.box.fit.fine,by rw [h2,h4];exact h.box.fit.fresh,by rw [h4];exact h.box.fit.z4,by rw [h5];exact h.box.fit.ep1,by rw [h5];exact h.box.fit.ep2⟩⟩ h3 h4 (fun k hk=>Or.inl hk)
 ·rw [h2]
  exact h.box.fresh.block (ho mb h.box.ne)
 ·rw [h1]
  exact ⟨h.box.sp.fr.mq (by omega) (fun hn ad e=>ho _ (h.box.a1 hn ad e).1),h.box.sp.pe.mq (by omega) (fun hn ad e=>ho _ (h.box.b1 hn ad e).1)⟩
theorem Ko.setF (h:Ko W G F w tb mb pb db A n c B m d f t) (j:Nat) (v:Value) {t':TS} (he:(Yf pb mb A n c B m d t).set! j v=Yf pb mb A n c B m d t')
 (h1:t'.sp=t.sp) (h2:t'.fr=t.fr) (h3:t'.nd=t.nd) (h4:t'.z=t.z) (h5:t'.ep=t.ep):∃ F',Ko W G F' (w.setCell ⟨tb,j,none⟩ v) tb mb pb db A n c B m d f t'/\Qb w F (w.setCell ⟨tb,j,none⟩ v) F' :=
 h.field (by rw [Joins.block_setCell h.box.str,<- he];rfl) (fun k hk=>Below.heap_setCell _ _ _ _ hk) (Qj.setCell w h.ftb v) h1 h2 h3 h4 h5
def XF (W:World) (F:Nat->Prop) (w:World) (tb pb db:Nat) (r:Int) (t':TS) (e:Ending) (w':World):Prop:=e = .returned (.int .i64 r)/\Yt W F w tb pb db t' w'
theorem JR (w:World) (r:Int) (h:Ql W F w tb pb db t) :
 Calls Tryz.prog 59 #[.pointer (some ⟨tb,0,none⟩),.int .i64 r] w (XF W F w tb pb db r (t.told r)):=by
 obtain ⟨G,mb,A,n,c,B,m,d,f,h⟩:=h;obtain ⟨F',h',mv⟩:=h.setF 9 (.int .i64 r) (t':=t.told r) rfl rfl rfl rfl rfl rfl;obtain ⟨c0,c1,c2,c3,c4,c5,c6,c7,c8,c9⟩:=h.box.cells;have f9:=h.box.free 9;have HD:=iQ (show Yt W F w tb pb db (t.told r) (w.setCell ⟨tb,9,none⟩ (.int .i64 r)) from ⟨F',h'.tree,mv⟩);clear h h' mv c0 c1 c2 c3 c4 c5 c6 c7 c8;go_enter Tryz.func59,Tryz.ntmps59;go_wp2_with fail;go_ret;exact ⟨rfl,HD.out⟩
theorem QZ (w:World) (p:Int) (h1 : -9223372036854775808<=p) (h2:p<=9223372036854775807) (h:Gi w tb mb pb A n c B m d t) :
 Calls Tryz.prog 159 #[.pointer (some ⟨tb,0,none⟩),.int .i64 p] w fun e w'=>e = .returned (.bool (t.fr p))/\Below w.heap.size w w':=by
 obtain ⟨c0,c1,c2,c3,c4,c5,c6,c7,c8,c9⟩:=h.cells;have hl:=h.fresh.lookU (i:=p) h1 h2;rw [show (NP t.fr p).isSome=t.fr p by unfold NP;cases t.fr p<;>rfl] at hl
 rw [show (NP t.fr p).getD (.agg #[]) = .agg #[] by unfold NP;cases t.fr p<;>rfl] at hl
 have HB:=iQ (Qa w (.cells #[] 184));clear h c0 c1 c2 c3 c4 c5 c6 c7 c9;go_enter Tryz.func159,Tryz.ntmps159;go_wp2_with fail;go_ret;exact ⟨rfl,HB.out⟩
end
section
variable {W w w':World} {G F F':Nat->Prop} {tb mb pb db:Nat} {A B:Option Addr} {n c m d:Nat} {f:Int->List UInt8} {t t':TS}
def Ue (W:World) (F:Nat->Prop) (w:World) (tb pb db:Nat) (r:Int×Int×TS) (e:Ending) (w':World):Prop:=e = .returned (.tuple #[.int .i64 r.2.1,.int .i64 r.1])/\Yt W F w tb pb db r.2.2 w'
theorem Ko.sizeIs (h:Ko W G F w tb mb pb db A n c B m d f t):(Calls Tryz.prog 24 #[.pointer (some ⟨pb,0,none⟩)] w fun e w'=>e = .returned (.pointer (some ⟨db,0,none⟩))/\w=w') /\
 Calls Tryz.prog 41 #[.pointer (some ⟨db,0,none⟩)] w fun e w'=>e = .returned (.int .i64 (t.z:Nat))/\w=w':=by
 obtain ⟨s,M,a,b,_⟩:=h.pool;obtain ⟨D,hd⟩:=a.disk;refine ⟨RH w a,?_⟩;have:=SH w hd.dk;rw [b.size] at this;exact this
theorem Ko.setSp {w1:World} {A' B':Option Addr} {n' c' m' d':Nat} {s':SS} (h:Ko W G F w tb mb pb db A n c B m d f t) (hb:Below w.heap.size w w1) (hs:Sp w1 A' n' c' B' m' d' s') (ha:Hi w.heap.size A') (hb':Hi w.heap.size B') (hf:SS.Fine s' t.z) :
 ∃ F',Ko W G F' (((w1.setCell ⟨tb,4,none⟩ (.int .i64 s'.hi)).setCell ⟨tb,5,none⟩ (.slice A' n' c')).setCell ⟨tb,6,none⟩ (.slice B' m' d')) tb mb pb db A' n' c' B' m' d' f { t with sp:=s' }/\Qb w F (((w1.setCell ⟨tb,4,none⟩ (.int .i64 s'.hi)).setCell ⟨tb,5,none⟩ (.slice A' n' c')).setCell ⟨tb,6,none⟩ (.slice B' m' d')) F':=by
 have h1:=h.kept hb;have hlt:=h.box.lt;have hmb:=h.box.fresh.lt;have ho:∀ k,k≠tb->(((w1.setCell ⟨tb,4,none⟩ (.int .i64 s'.hi)).setCell ⟨tb,5,none⟩ (.slice A' n' c')).setCell ⟨tb,6,none⟩ (.slice B' m' d')).heap[k]?=w1.heap[k]?:=fun k hk=>by
  rw [Below.heap_setCell _ _ _ _ hk,Below.heap_setCell _ _ _ _ hk,Below.heap_setCell _ _ _ _ hk]
 have hstr:(((w1.setCell ⟨tb,4,none⟩ (.int .i64 s'.hi)).setCell ⟨tb,5,none⟩ (.slice A' n' c')).setCell ⟨tb,6,none⟩ (.slice B' m' d')).heap[tb]?=some (.cells (Yf pb mb A' n' c' B' m' d' { t with sp:=s' }) 91 (0,0)):=by
  have e1:=Joins.block_setCell (i:=4) h1.box.str (.int .i64 s'.hi);have e2:=Joins.block_setCell (i:=5) e1 (.slice A' n' c');have e3:=Joins.block_setCell (i:=6) e2 (.slice B' m' d');exact e3
 have hA:0<n'->∀ ad,A'=some ad->ad.block≠tb/\ad.block≠mb:=fun _ ad e=>by
  have:=ha ad e;omega
 have hB:0<m'->∀ ad,B'=some ad->ad.block≠tb/\ad.block≠mb:=fun _ ad e=>by
  have:=hb' ad e;omega
 refine h.boxed (t':={ t with sp:=s' }) ((((Qj.below hb F).next (Qj.setCell w1 (a:=⟨tb,4,none⟩) h1.ftb _)).next (Qj.setCell _ (a:=⟨tb,5,none⟩) h1.ftb _)).next (Qj.setCell _ (a:=⟨tb,6,none⟩) h1.ftb _))
  (fun k hk hG=>(ho k (fun e=>h1.apart tb (Or.inl rfl) (e ▸ hG))).trans (hb.block k hk))
  ⟨hstr,h1.box.fresh.block (ho mb h1.box.ne),⟨hs.fr.mq (by omega) (fun hn ad e=>ho _ (hA hn ad e).1),hs.pe.mq (by omega) (fun hn ad e=>ho _ (hB hn ad e).1)⟩,hA,hB,⟨hf,h.box.fit.fresh,h.box.fit.z4,h.box.fit.ep1,h.box.fit.ep2⟩⟩ rfl rfl (fun k hk=>?_)
 rcases hk with e | e | ⟨h0,ad,e,rfl⟩ | ⟨h0,ad,e,rfl⟩
 ·exact Or.inl (Or.inl e)
 ·exact Or.inl (Or.inr (Or.inl e))
 ·exact Or.inr (ha ad e)
 ·exact Or.inr (hb' ad e)
theorem Ko.setFresh {w1:World} (h:Ko W G F w tb mb pb db A n c B m d f t) {fr':Int->Bool} (hg:w.grownBy w1 (some mb)) (hm:Zl w1 mb (NP fr')) (hf:∀ p,fr' p=true->2<=p/\p<t.z) :
 ∃ F',Ko W G F' w1 tb mb pb db A n c B m d f { t with fr:=fr' }/\Qb w F w1 F':=by
 have ho:∀ k,k<w.heap.size->k≠mb->w1.heap[k]?=w.heap[k]?:=fun k hk hne=>hg.block k hk (fun e=>hne (wa0 e));refine h.boxed (t':={ t with fr:=fr' }) (Qj.grown hg h.fmb) (fun k hk hG=>ho k hk (fun e=>h.apart mb (Or.inr (Or.inl rfl)) (e ▸ hG)))
  ⟨(ho tb h.box.lt (fun e=>h.box.ne e.symm)).trans h.box.str,hm,⟨h.box.sp.fr.mq (by omega) (fun hn ad e=>ho _ (h.box.sp.fr.lt (by omega) e) (h.box.a1 hn ad e).2),h.box.sp.pe.mq (by omega) (fun hn ad e=>ho _ (h.box.sp.pe.lt (by omega) e) (h.box.b1 hn ad e).2)⟩,h.box.a1,h.box.b1,⟨h.box.fit.fine,hf,h.box.fit.z4,h.box.fit.ep1,h.box.fit.ep2⟩⟩ rfl rfl (fun k hk=>Or.inl hk)
theorem qF2 {s:SS} {z:Nat} (h:SS.Fine s z) (he:(s.take z).1=0):SS.Fine (s.take z).2.2 z/\2<=(s.take z).2.1/\(s.take z).2.1<z:=by
 obtain ⟨a,b,c,d,e⟩:=h.take he;have:=a.hi;exact ⟨a,c,by omega⟩
def qz3 (w:World) (r:Int×Int×SS) (s4 s5 s6:Value) (wx:World):Prop :=
 ∃ g A n c B m d,s4 = .pointer (some ⟨g,0,none⟩)/\s5 = .int .i64 r.2.1/\s6 = .int .i64 r.1/\Gz wx g (.int .i64 r.2.2.hi) (.slice A n c) (.slice B m d)/\Sp wx A n c B m d r.2.2/\Hi w.heap.size A/\Hi w.heap.size B/\Below w.heap.size w wx
theorem qp3 {w2:World} {g:Nat} {A B:Option Addr} {n c m d:Nat} {s:SS} (hs:Sp w2 A n c B m d s) (ha:0<n->∀ ad,A=some ad->ad.block≠g) (hb:0<m->∀ ad,B=some ad->ad.block≠g) (x y z:Value) :
 Sp (((w2.setCell ⟨g,0,none⟩ x).setCell ⟨g,1,none⟩ y).setCell ⟨g,2,none⟩ z) A n c B m d s:=by
 have ho:∀ k,k≠g->(((w2.setCell ⟨g,0,none⟩ x).setCell ⟨g,1,none⟩ y).setCell ⟨g,2,none⟩ z).heap[k]?=w2.heap[k]?:=(JU.put w2 g x y z).2;exact ⟨hs.fr.mq (by omega) (fun hn ad e=>ho _ (ha hn ad e)),hs.pe.mq (by omega) (fun hn ad e=>ho _ (hb hn ad e))⟩
theorem zm6 {w w2:World} {g:Nat} {A B:Option Addr} {n c m d:Nat} {s:SS} {x y z:Value} (r:Int×Int×SS) (hr:r.2.2=s) (hg:w.heap.size<=g) (hbox:Gz w2 g x y z) (hs:Sp w2 A n c B m d s) (ha:0<n->∀ ad,A=some ad->ad.block≠g) (hb:0<m->∀ ad,B=some ad->ad.block≠g)
 (i1:Hi w.heap.size A) (i2:Hi w.heap.size B) (hbel:Below w.heap.size w w2):qz3 w r (.pointer (some ⟨g,0,none⟩)) (.int .i64 r.2.1) (.int .i64 r.1) (((w2.setCell ⟨g,0,none⟩ (.int .i64 s.hi)).setCell ⟨g,1,none⟩ (.slice A n c)).setCell ⟨g,2,none⟩ (.slice B m d)):=by
 subst hr;exact ⟨g,A,n,c,B,m,d,rfl,rfl,rfl,hbox.put _ _ _,qp3 hs ha hb _ _ _,i1,i2,Jf hbel hg _ _ _⟩
theorem Ko.four (h:Ko W G F w tb mb pb db A n c B m d f t):w.cell? ⟨tb,0,none⟩=some (.pointer (some ⟨pb,0,none⟩))/\w.cell? ⟨tb,4,none⟩=some (.int .i64 t.sp.hi)/\w.cell? ⟨tb,5,none⟩=some (.slice A n c)/\w.cell? ⟨tb,6,none⟩=some (.slice B m d) :=
 ⟨h.box.cells.1,h.box.cells.2.2.2.2.1,h.box.cells.2.2.2.2.2.1,h.box.cells.2.2.2.2.2.2.1⟩
theorem zp6 {w:World} {A B:Option Addr} {n c m d:Nat} {s:SS} (h:Sp w A n c B m d s):(0<n->∀ ad,A=some ad->ad.block<w.heap.size)/\(0<m->∀ ad,B=some ad->ad.block<w.heap.size) :=
 ⟨fun hn _ e=>h.fr.lt (by omega) e,fun hn _ e=>h.pe.lt (by omega) e⟩
theorem zj4 (w:World) (h:Ko W G F w tb mb pb db A n c B m d f t) :
 Calls Tryz.prog 188 #[.pointer (some ⟨tb,0,none⟩)] w (Ue W F w tb pb db t.tk):=by
 have K:=h.four;have H:=iQ h;obtain ⟨q1,q2,q3,q4⟩:=h.box.fit.few;have hn:n<=400000:=by rw [h.box.sp.fl] at q1;omega
 have hm:m<=400000:=by rw [h.box.sp.pl] at q2;omega
 have hz:=h.box.fit.z4;clear h;go_enter Tryz.func188,Tryz.ntmps188;go_upto_region 1 with fail
 go_cut [4,5,6] (fun s4 s5 s6 wx=>qz3 w (t.sp.take t.z) s4 s5 s6 wx)
 case first =>
  have bd:=(Below.refl w.heap.size w).drew;have ba:=bd.trans ((Qa w.drew (.cells #[.int .i64 0,.slice none 0 0,.slice none 0 0] 45)).mono bd.size);have D0:=iQ (H.out.kept bd).sizeIs;have D1:=iQ (H.out.kept ba).sizeIs;have P0:=iQ (H.out.kept bd).box.sp;have P1:=iQ (H.out.kept ba).box.sp;have BD:=iQ bd;have BA:=iQ ba;have BX:Hid (Gz (w.drew.alloc (.cells #[.int .i64 0,.slice none 0 0,.slice none 0 0] 45)) w.heap.size (.int .i64 0) (.slice none 0 0) (.slice none 0 0)):=iQ (Yi w.drew (.int .i64 0) (.slice none 0 0) (.slice none 0 0));have K0:=(H.out.kept bd).four;have K1:=(H.out.kept ba).four;obtain ⟨c0,c4,c5,c6⟩:=(H.out.kept bd).four;clear bd ba K;go_region_held3 (fun w'=>w'.cell? ⟨tb,0,none⟩=some (.pointer (some ⟨pb,0,none⟩))/\w'.cell? ⟨tb,4,none⟩=some (.int .i64 t.sp.hi)/\w'.cell? ⟨tb,5,none⟩=some (.slice A n c)/\w'.cell? ⟨tb,6,none⟩=some (.slice B m d))
   (first | exact K3 _ | exact K5 _ _ _ | exact K2 | exact K0 | exact K1)
   (first
     | (go_at_call 205;refine (qZ3 t.sp t.sp.hi (t.z:Nat) A B n c m d _ rfl (by first | exact P0.out | exact P1.out) hn hm (by omega) (by omega)).mono ?_;rintro e w2 ⟨v2,rfl,o2,b2⟩;have BW:Hid (Below w.heap.size w w2):=iQ (by first | exact BD.out.trans (b2.mono BD.out.size) | exact BA.out.trans (b2.mono BA.out.size));obtain ⟨A2,n2,c2,B2,m2,d2,rfl,p2,i2,j2⟩:=o2;have K2:=(H.out.kept BW.out).four;have K3:=fun o:Obj=>(H.out.kept (BW.out.trans ((Qa w2 o).mono BW.out.size))).four;have K5:=fun x y z:Value=>(H.out.kept (Jf BW.out (wa2 w.heap.size) x y z)).four;have P2:=iQ p2;have I2:=iQ i2;have J2:=iQ j2;have Um:=iQ b2;(first | (have BY:=iQ (BX.out.kept b2);obtain ⟨y0,y1,y2⟩:=BY.out.cells;obtain ⟨f0,f1,f2⟩:=BY.out.free) | skip);clear p2 i2 j2 b2)
     | (go_at_call 41;refine (by first | exact D0.out.2 | exact D1.out.2:Calls Tryz.prog 41 #[.pointer (some ⟨db,0,none⟩)] _ fun e w'=>e = .returned (.int .i64 (t.z:Nat))/\_=w').mono ?_;rintro e w' ⟨rfl,rfl⟩)
     | (go_at_call 24;refine (by first | exact D0.out.1 | exact D1.out.1:Calls Tryz.prog 24 #[.pointer (some ⟨pb,0,none⟩)] _ fun e w'=>e = .returned (.pointer (some ⟨db,0,none⟩))/\_=w').mono ?_;rintro e w' ⟨rfl,rfl⟩))
  all_goals (
   go_wp2_with fail
   go_meet
   first
    | exact ⟨_,_,_,_,_,_,_,rfl,rfl,rfl,Yi w2 _ _ _,P2.out.kept (Qa w2 _),Hi.low I2.out BD.out.size,Hi.low J2.out BD.out.size,BW.out.trans ((Qa w2 _).mono BW.out.size)⟩
    | exact ⟨_,_,_,_,_,_,_,rfl,rfl,rfl,Yi w2 _ _ _,P2.out.kept (Qa w2 _),Hi.low I2.out BA.out.size,Hi.low J2.out BA.out.size,BW.out.trans ((Qa w2 _).mono BW.out.size)⟩
    | exact zm6 _ rfl (wa2 _) BY.out P2.out (fun _ ad e=>by have:=I2.out ad e;simp at this;omega) (fun _ ad e=>by have:=J2.out ad e;simp at this;omega) (Hi.low I2.out BA.out.size) (Hi.low J2.out BA.out.size) BW.out)
 case rest =>
  obtain ⟨g,A2,n2,c2,B2,m2,d2,rfl,rfl,rfl,bx,p2,i2,j2,b2⟩:=hcut;have hfin:=qF2 (s:=t.sp) (z:=t.z) H.out.box.fit.fine;have htk:t.tk=if (t.sp.take t.z).1=0 then (0,(t.sp.take t.z).2.1,{ t with sp:=(t.sp.take t.z).2.2,fr:=TS.setB t.fr (t.sp.take t.z).2.1 true }) else ((t.sp.take t.z).1,0,t):=rfl
  rcases hr:t.sp.take t.z with ⟨e,p,s'⟩
  rw [hr] at bx p2 hfin htk;dsimp only at bx p2 hfin htk ⊢;by_cases he:e=0
  ·subst he
   rw [if_pos rfl] at htk;obtain ⟨f1,f2,f3⟩:=hfin rfl;obtain ⟨F3,h3,m3⟩:=H.out.setSp b2 p2 i2 j2 f1;obtain ⟨w4,hrun,hm,hg⟩:=h3.box.fresh.putU (i:=p) (by omega) (by have:=h3.box.fit.z4;dsimp only at this;omega) (.agg #[]);rw [show upd (NP ({ t with sp:=s' }:TS).fr) p (some (.agg #[]))=NP (TS.setB t.fr p true) from qy3 t.fr p] at hm
   obtain ⟨F4,h4,m4⟩:=h3.setFresh hg hm (fun q hq=>by
    change (if q=p then true else t.fr q)=true at hq
    by_cases hqp:q=p
    ·subst hqp
     exact ⟨f2,f3⟩
    ·rw [if_neg hqp] at hq
     exact H.out.box.fit.fresh q hq)
   have HD:Hid (Ue W F w tb pb db t.tk (.returned (.tuple #[.int .i64 p,.int .i64 0])) w4):=iQ (by
    rw [htk];exact ⟨rfl,F4,h4.tree,m3.trans m4⟩)
   obtain ⟨x0,x1,x2⟩:=bx.cells;obtain ⟨c0,c1,c2',c3,c4,c5,c6,c7,c8,c9⟩:=(H.out.kept b2).box.cells;have g4:=(H.out.kept b2).box.free 4;have g5:=(H.out.kept b2).box.free 5;have g6:=(H.out.kept b2).box.free 6;have C8:=iQ h3.box.cells.2.2.2.2.2.2.2.2.1;have HR:=iQ hrun;clear h3 h4 m3 m4 hm hg hrun bx p2 i2 j2 hfin htk f1 f2 f3 c0 c1 c2' c3 c7 c8 c9 K q1 q2 q3 q4;go_upto_region 5 with fail
   generalize ((wc.setCell ⟨tb,4,none⟩ (.int .i64 s'.hi)).setCell ⟨tb,5,none⟩ (.slice A2 n2 c2)).setCell ⟨tb,6,none⟩ (.slice B2 m2 d2)=w3 at *;have c8:=C8.out;have hrun:=HR.out;clear x0 x1 x2 c4 c5 c6 g4 g5 g6;go_wp2_with fail;refine bodyPost_ret (v := .tuple #[.int .i64 p,.int .i64 0]) (by simp [results,Tryz.results188,go_sem]) rfl ?_;exact HD.out
  ·have hb:(e != 0)=true:=bne_iff_ne.2 he
   rw [if_neg he] at htk;have HD:Hid (Ue W F w tb pb db t.tk (.returned (.tuple #[.int .i64 0,.int .i64 e])) wc):=iQ (by
    rw [htk];exact ⟨rfl,Yt.ob H.out.tree b2⟩)
   clear he bx p2 i2 j2 hfin htk K;go_wp2_with fail;refine bodyPost_ret (v := .tuple #[.int .i64 0,.int .i64 e]) (by simp [results,Tryz.results188,go_sem]) rfl ?_;exact HD.out
end
end
section
open Go.Shelf
def Tryz.sortA_ren:Go.Shelf.Ren:=⟨fun | 5=>37 | 8=>72 | 7=>71 | 19=>115 | 20=>116 | 10=>106 | 11=>107 | 12=>108 | 13=>109 | 14=>110 | 15=>111 | 16=>112 | 17=>113 | 18=>114 | 30=>143 | 31=>144 | 32=>145 | 33=>146 | 34=>147 | 35=>124 | 40=>168 | n=>n,fun | 23=>40 | 25=>3 | 3=>3 | 32=>138 | 22=>40 | 0=>0 | 44=>198 | 46=>200 | 4=>4 | 36=>192 | 35=>191 | 41=>115 | 5=>5 | 9=>9 | 53=>225 | 57=>229 | 63=>249 | 64=>250 | n=>n,fun | n=>n⟩
theorem Tryz.sortA:Go.Proofs.SlLaysM.n5 Tryz.prog Tryz.sortA_ren:={
 mixed:=by kernel_rfl
 f5:=⟨Tryz.f37.name,by decide,Tryz.func37.trans (congrArg some (by kernel_rfl))⟩
 f7:=⟨Tryz.f71.name,by decide,Tryz.func71.trans (congrArg some (by kernel_rfl))⟩
 f8:=Tryz.func72.trans (congrArg some (by kernel_rfl))
 f10:=⟨Tryz.f106.name,by decide,Tryz.func106.trans (congrArg some (by kernel_rfl))⟩
 f11:=⟨Tryz.f107.name,by decide,Tryz.func107.trans (congrArg some (by kernel_rfl))⟩
 f12:=⟨Tryz.f108.name,by decide,Tryz.func108.trans (congrArg some (by kernel_rfl))⟩
 f13:=⟨Tryz.f109.name,by decide,Tryz.func109.trans (congrArg some (by kernel_rfl))⟩
 f14:=⟨Tryz.f110.name,by decide,Tryz.func110.trans (congrArg some (by kernel_rfl))⟩
 f15:=⟨Tryz.f111.name,by decide,Tryz.func111.trans (congrArg some (by kernel_rfl))⟩
 f16:=⟨Tryz.f112.name,by decide,Tryz.func112.trans (congrArg some (by kernel_rfl))⟩
 f17:=⟨Tryz.f113.name,by decide,Tryz.func113.trans (congrArg some (by kernel_rfl))⟩
 f18:=⟨Tryz.f114.name,by decide,Tryz.func114.trans (congrArg some (by kernel_rfl))⟩
 f19:=Tryz.func115.trans (congrArg some (by kernel_rfl))
 f20:=Tryz.func116.trans (congrArg some (by kernel_rfl))
 f30:=⟨Tryz.f143.name,by decide,Tryz.func143.trans (congrArg some (by kernel_rfl))⟩
 f31:=Tryz.func144.trans (congrArg some (by kernel_rfl))
 f32:=Tryz.func145.trans (congrArg some (by kernel_rfl))
 f33:=⟨Tryz.f146.name,by decide,Tryz.func146.trans (congrArg some (by kernel_rfl))⟩
 f34:=⟨Tryz.f147.name,by decide,Tryz.func147.trans (congrArg some (by kernel_rfl))⟩
 f35:=⟨Tryz.f124.name,by decide,Tryz.func124.trans (congrArg some (by kernel_rfl))⟩
 f40:=⟨Tryz.f168.name,by decide,Tryz.func168.trans (congrArg some (by kernel_rfl))⟩
 t0:=Tryz.underlying0
 a0:=Tryz.isAgg0
 z0:=Tryz.sizeOf0
 v0:=Tryz.zeroValue0
 t3:=Tryz.underlying3
 a3:=Tryz.isAgg3
 z3:=Tryz.sizeOf3
 v3:=Tryz.zeroValue3
 t4:=Tryz.underlying4
 a4:=Tryz.isAgg4
 z4:=Tryz.sizeOf4
 v4:=Tryz.zeroValue4
 t5:=Tryz.underlying5
 a5:=Tryz.isAgg5
 z5:=Tryz.sizeOf5
 v5:=Tryz.zeroValue5
 t9:=Tryz.underlying9
 a9:=Tryz.isAgg9
 z9:=Tryz.sizeOf9
 v9:=Tryz.zeroValue9
 t22:=Tryz.underlying40
 a22:=Tryz.isAgg40
 z22:=Tryz.sizeOf40
 v22:=Tryz.zeroValue40
 t23:=Tryz.underlying40
 a23:=Tryz.isAgg40
 z23:=Tryz.sizeOf40
 v23:=Tryz.zeroValue40
 t25:=Tryz.underlying3
 a25:=Tryz.isAgg3
 z25:=Tryz.sizeOf3
 v25:=Tryz.zeroValue3
 t32:=Tryz.underlying138
 a32:=Tryz.isAgg138
 z32:=Tryz.sizeOf138
 v32:=Tryz.zeroValue138
 t35:=Tryz.underlying191
 a35:=Tryz.isAgg191
 z35:=Tryz.sizeOf191
 v35:=Tryz.zeroValue191
 t36:=Tryz.underlying192
 a36:=Tryz.isAgg192
 z36:=Tryz.sizeOf192
 v36:=Tryz.zeroValue192
 t41:=Tryz.underlying115
 a41:=Tryz.isAgg115
 z41:=Tryz.sizeOf115
 v41:=Tryz.zeroValue115
 t44:=Tryz.underlying198
 a44:=Tryz.isAgg198
 z44:=Tryz.sizeOf198
 v44:=Tryz.zeroValue198
 t46:=Tryz.underlying200
 a46:=Tryz.isAgg200
 z46:=Tryz.sizeOf200
 v46:=Tryz.zeroValue200
 t53:=Tryz.underlying225
 a53:=Tryz.isAgg225
 z53:=Tryz.sizeOf225
 v53:=Tryz.zeroValue225
 t57:=Tryz.underlying229
 a57:=Tryz.isAgg229
 z57:=Tryz.sizeOf229
 v57:=Tryz.zeroValue229
 t63:=Tryz.underlying249
 a63:=Tryz.isAgg249
 z63:=Tryz.sizeOf249
 v63:=Tryz.zeroValue249
 t64:=Tryz.underlying250
 a64:=Tryz.isAgg250
 z64:=Tryz.sizeOf250
 v64:=Tryz.zeroValue250 }
end
section
open Go.RowKit Go.Sort Go.Shelf
def zg4 (w:World) (base:Nat) (v:Value) (n:Nat) (zs:List Int) (e:Ending) (w':World):Prop :=
 ∃ ms:List Int,e = .returned (.tuple #[])/\ms.Perm zs/\ms.Pairwise (·<=·)/\w'.ownsRow base 3 1 v n (Qc ms)/\w.grownBy w' v.ownBlock
theorem SG (base:Nat) (A:Option Addr) (n c:Nat) (zs:List Int) (w:World) (h:w.ownsRow base 3 1 (.slice A n c) n (Qc zs)) (hn:n<=1000000) :
 Calls Tryz.prog 37 #[.slice A n c] w (zg4 w base (.slice A n c) n zs):=by
 have hl:zs.length=n:=by
  have:=h.1;rw [Vu] at this;omega
 rcases h.2 with ⟨hv,h0⟩ | ⟨g,cap,cur,hv,hb,hh,hnc,hm,hsz,ht⟩
 ·injection hv with e1 e2 e3
  subst e1;subst e2;subst e3;refine (AnyM.slices_Sort_int_none Tryz.sortA none 0 w).mono ?_;rintro e w' ⟨rfl,rfl⟩;obtain rfl:zs=[]:=wb2 hl;exact ⟨[],rfl,List.Perm.refl _,List.Pairwise.nil,h,World.grownBy.refl _ _⟩
 ·injection hv with e1 e2 e3
  subst e1;subst e3;rw [wg0,<- hl] at ht;have hH:Holds (Value.int .i64) w g 0 zs.toArray:=holds_of_blockI hh ht;have hg:g<w.heap.size:=(wa1.1 hh).1;have hc:=AnyM.slices_Sort_int Tryz.sortA g 0 c zs w hH hg (by omega);rw [hl] at hc;refine hc.mono ?_;rintro e w' ⟨rfl,m,os,rfl⟩;have hlen:(zs.mergeSort fun x y=>decide (x<=y)).length=zs.length:=List.length_mergeSort _;refine ⟨zs.mergeSort fun x y=>decide (x<=y),rfl,List.mergeSort_perm _ _,?_,?_,grownBy_sortedI _⟩
  ·exact (List.pairwise_mergeSort (le:=fun x y:Int=>decide (x<=y)) (fun a b c h1 h2=>by simp only [decide_eq_true_eq] at *;omega) (fun a b=>by simp only [Bool.or_eq_true,decide_eq_true_eq];omega) zs).imp (fun h=>of_decide_eq_true h)
  ·have:=ownsRow_sortedI (n:=m) (os:=os) hlen hb hh (by omega) hm hsz
   rw [hl] at this;exact this
end
section
open Go.RowKit
theorem qR8:(Tryz.prog.info? 40).map (fun i=>(i.zero,i.size,i.bytes))=some (some (.slice none 0 0),1,24):=by kernel_rfl
def Pc.val (q:Pc):Value := .slice q.A q.n q.c
def qz6 (w:World) (qs:List Pc):Prop:=∀ q∈qs,Ln w 1 q.A q.n q.c q.cs/\∀ u∈q.cs,u.oneCell'=true
theorem qO2 {w:World} {base N c:Nat} {A:Option Addr} {t:TypeId} {qs:List Pc} (h:w.ownsRow base t 1 (.slice A N c) N (qs.map Pc.val)) (hg:qz6 w qs):YU w 1 A qs:=by
 rcases h.2 with ⟨hv,h0⟩ | ⟨g,cap,cur,hv,_⟩
 ·subst h0
  have:=h.1;exact Or.inl (wb2 (by simpa using this))
 ·injection hv with e1 e2 e3
  subst e1;refine Or.inr ⟨g,0,rfl,fun i p hp=>⟨?_,hg p (wb5 hp)⟩⟩;have:=h.cells (g:=g) rfl i p.val (by rw [wc7,hp];rfl);rw [Zn] at this;exact this
structure Vf (wp:World) (n:Nat) (ms zs:List Int) (k:Nat) (A:Option Addr) (n' c':Nat) (rest:List Int) (qs:List Pc) (v:Value) (wk:World):Prop where
 left:Ln wp 1 A n' c' (Qc rest)
 good:qz6 wp qs
 len:qs.length=2*k
 sum:Xn qs+n'=n+k
 all:QT qs++Qc (SS.insL (ms.drop k) rest)=Qc (SS.insL ms zs)
 own:wk.ownsRow wp.heap.size 40 1 v (2*k) (qs.map Pc.val)
 bel:Below wp.heap.size wp wk
def Uf (wp:World) (n:Nat) (ms zs:List Int) (k:Nat) (s v:Value) (wk:World):Prop :=
 ∃ (A:Option Addr) (n' c':Nat) (rest:List Int) (qs:List Pc),s = .slice A n' c'/\Vf wp n ms zs k A n' c' rest qs v wk
theorem Vf.below {wp wr w':World} {n k n' c':Nat} {ms zs rest:List Int} {A:Option Addr} {qs:List Pc} {v:Value} (h:Vf wp n ms zs k A n' c' rest qs v wr) (hb:Below wr.heap.size wr w'):Vf wp n ms zs k A n' c' rest qs v w' :=
 {h with
  own:=Us h.own hb
  bel:=h.bel.trans (hb.mono h.bel.size) }
theorem Vf.step {wp wr w3:World} {n k n' c' c'' c1:Nat} {ms zs rest:List Int} {A A' B:Option Addr} {qs:List Pc} {u6 v3:Value} {x:Int} {C:Array Value} {T:TypeId}
 (h:Vf wp n ms zs k A n' c' rest qs u6 wr) (hs:ms.Pairwise (·<=·)) (hx:ms[k]?=some x) (hB:Ln wp 1 B 1 c1 (Qc [x])) (hA:Ln wp 1 A' (n' - SS.place x rest) c'' (Qc (rest.drop (SS.place x rest))))
 (hown:w3.ownsRow wp.heap.size 40 1 v3 (2*k+2) (qs.map Pc.val++[.slice A (SS.place x rest) c',.slice B 1 c1])) (hg:((wr.alloc (.cells C T)).drew).grownBy w3 u6.ownBlock) :
 Uf wp n ms zs (k+1) (.slice A' (n' - SS.place x rest) c'') v3 w3:=by
 have hl:rest.length=n':=h.left.intN;have hp:=SS.place_le x rest;have ht:=h.left.intTake (k:=SS.place x rest) (by omega);have hd:ms.drop k=x::ms.drop (k+1):=by
  obtain ⟨hk,e⟩:=wa8.1 hx;rw [wc4 hk,e]
 have hxs:∀ q∈ms.drop (k+1),x<=q:=by
  have h1:(ms.drop k).Pairwise (·<=·):=hs.sublist (we5 k ms);rw [hd] at h1;exact (wd1.1 h1).1
 refine ⟨A',_,c'',_,qs++[⟨A,SS.place x rest,c',Qc (rest.take (SS.place x rest))⟩,⟨B,1,c1,Qc [x]⟩],rfl,hA,fun q hq=>?_,?_,?_,?_,?_,?_⟩
 ·rcases wb0.1 hq with hq | hq
  ·exact h.good q hq
  ·rcases wb6.1 hq with rfl | hq
   ·exact ⟨ht,Qr _⟩
   ·obtain rfl:q=_:=by simpa using hq
    exact ⟨hB,Qr _⟩
 ·rw [wa6,h.len]
  simp;omega
 ·have:=h.sum
  unfold Xn at this ⊢;rw [wc8,wf7];simp;omega
 ·rw [<- h.all,hd,SS.insL_step _ hxs]
  unfold QT;rw [wf9,wb9];congr 1;simp [Qc,List.map_append]
 ·rw [wc8]
  exact hown
 ·exact ((h.bel.alloc h.bel.size _).drew).grown hg (by have:=h.bel.size;simp;omega) (fun g hg=>(h.own.lt g hg).1)
theorem Vf.fin {wp wr w3:World} {n k n' c' c'' c1 p:Nat} {ms zs rest:List Int} {A A' B:Option Addr} {qs:List Pc} {u6 v3:Value} {x:Int} {C:Array Value} {T:TypeId}
 (h:Vf wp n ms zs k A n' c' rest qs u6 wr) (hs:ms.Pairwise (·<=·)) (hx:ms[k]?=some x) (hB:Ln wp 1 B 1 c1 (Qc [x])) (hp:SS.place x rest=p) (hA:Ln wp 1 A' (n' - p) c'' (Qc (rest.drop p)))
 (hown:w3.ownsRow wp.heap.size 40 1 v3 (2*k+2) (qs.map Pc.val++[.slice A p c',.slice B 1 c1])) (hg:((wr.alloc (.cells C T)).drew).grownBy w3 u6.ownBlock) :
 Uf wp n ms zs (k+1) (.slice A' (n' - p) c'') v3 w3:=by
 subst hp;exact h.step hs hx hB hA hown hg
theorem qR5 (A B:Option Addr) (n c m d:Nat) (zs ps:List Int) (w:World) (hz:Ln w 1 A n c (Qc zs)) (hp:Ln w 1 B m d (Qc ps)) (hn:n<=400000) (hm:m<=400000) :
 Calls Tryz.prog 43 #[.slice A n c,.slice B m d] w (Vl w 3 1 (n+m) (Qc (SS.insL ps zs))):=by
 obtain ⟨i0,hi,hz0,hz1,hz2⟩:=info_parts qR8;have HZ:=iQ (hz.kept (Qa w (.cells #[.slice B m d] 40)));have HP:=iQ (Za hp (Qr _) 40);have HPN:=iQ hp.intN;have B0:=iQ (Qa w (.cells #[.slice B m d] 40));clear hz hp;go_enter Tryz.func43,Tryz.ntmps43;go_wp2_with fail;refine (YX _ 1 1 m _ _ HP.out rfl (by simp [Xn]) (by omega) (by decide)).mono ?_;rintro e w1 ⟨v1,rfl,o1,b1⟩;rw [show QT [⟨B,m,d,Qc ps⟩]=Qc ps by simp [QT]] at o1;have HZ1:=iQ (HZ.out.kept b1);have B1:=iQ (B0.out.trans (b1.mono B0.out.size));have UC:=iQ (show w.heap.size<=(w.alloc (.cells #[.slice B m d] 40)).heap.size from B0.out.size);obtain ⟨A1,c1,rfl,hc1,l1⟩:=Ln.oo o1;have HSo:=iQ (SG _ A1 m c1 ps w1 o1 (by omega));have HO1:=iQ o1;have Kv:=iQ b1;clear b1 o1 l1 HP;generalize w.alloc (.cells #[.slice B m d] 40)=w0 at *;go_wp2_with fail;refine HSo.out.mono ?_;rintro e wp ⟨ms,rfl,hperm,hso,o2,hg⟩;have Um:=iQ (Kv.out.grown hg Kv.out.size (fun g hg=>(HO1.out.lt g hg).1));have B2:=iQ (B0.out.trans (Um.out.mono UC.out));have HZ2:=iQ (HZ.out.kept Um.out);obtain ⟨A2,c2,e2,hc2,l2⟩:=Ln.oo o2;injection e2 with e2 e3 e4
 subst e2;subst e4;have L2:=iQ l2;have HM:=iQ hso;have HI:Hid (Qc (SS.insL ms zs)=Qc (SS.insL ps zs)):=iQ (by rw [SS.insL_perm hperm]);have H0:Hid (Uf wp n ms zs 0 (.slice A n c) (.slice none 0 0) wp) :=
  iQ ⟨A,n,c,zs,[],rfl,HZ2.out,fun q hq=>absurd hq (by simp),rfl,by simp [Xn],by simp [QT],World.ownsRow_nil _ _ _ _,Below.refl _ _⟩
 clear hg o2 l2 hso hperm Kv B1 HZ HSo HO1 Um HZ2 B0;go_wp2_with fail;go_loopw [0,6,16] (fun s v i wk=>∃ k:Nat,k<=m/\i = .int .i64 k/\Hid (Uf wp n ms zs k s v wk)) (fun _ _ i _=>m - (RowKit.intOf i).toNat)
 case atStart=>exact ⟨0,wb3 _,rfl,H0⟩
 case round =>
  obtain ⟨k,hk,rfl,HR⟩:=hrel;obtain ⟨A',n',c',rest,qs,rfl,h1⟩:=HR.out;have H1:=iQ h1;clear HR h1;by_cases hlt:k<m
  ·obtain ⟨b,off,x,rfl,hv,c0⟩:=(L2.out.kept H1.out.bel).iA hlt
   have HX:=iQ hv;have hsum:=H1.out.sum;clear hv;go_wp2_with fail;refine (qC8 A' n' c' rest x wr (H1.out.left.kept H1.out.bel) (by omega)).mono ?_;rintro e w4 ⟨rfl,b4⟩;have H2:=iQ (H1.out.below b4);have hple:SS.place x rest<=n':=by have:=SS.place_le x rest;rw [H1.out.left.intN] at this;exact this
   have hnc:=H1.out.left.le;have hNil:=H1.out.left.lies.1;have HB:Hid (Ln wp 1 (some ⟨b,off+k,none⟩) 1 (c1 - k) (Qc [x])):=by
    have hd:=(L2.out.intDrop (k:=k) (by omega)).intTake (k:=1) (by omega);obtain ⟨hk',e⟩:=wa8.1 HX.out;rw [wc4 hk',e] at hd;exact iQ hd
   have hmc:=L2.out.le;clear b4 c0 H1;obtain ⟨p,hp⟩:∃ p,SS.place x rest=p:=⟨_,rfl⟩;have hp2:=iQ hp;rw [hp] at hple ⊢;clear hp;have o3:=H2.out.own;have i1:(k:Int)+1<=(c1:Int):=by omega
   have i2:(0:Int)<=(k:Int):=by omega
   have i3:(p:Int)<=(c':Int):=by omega
   have i5:IntKind.i64.wrap ((k:Int)+1)=(k:Int)+1:=IntWalk.i64_in _ (by omega);have i6:(k:Int)<=(k:Int)+1:=by omega
   have i7:(k:Int)<(c1:Int):=by omega
   have i8:(0:Int)<=(p:Int):=by omega
   have i9:¬ c1=k:=by omega
   have bsz:=H2.out.bel.size;rcases A' with _ | ad
   ·obtain ⟨rfl,rfl⟩:=hNil rfl
    obtain rfl:p=0:=(by omega);go_wp2_with fail;go_region_held3 (fun _=>True)
     (first | exact trivial)
     ((refine step_append_lies _ (by rfl) _ _ _ (by rfl) wp.heap.size 40 i0 _ 1 24 Tryz.underlying150 hi hz0 hz1 hz2 rfl (by omega) u6 (2*k) (qs.map Pc.val) (by rfl) ((o3.alloc _).drew)
        ⟨w4.heap.size,0,none⟩ 2 2 [.slice none 0 0,.slice (some ⟨b,off+k,none⟩) 1 (c1 - k)] (by rfl) (by rfl) (World.news_of_block (cs:=#[.slice none 0 0,.slice (some ⟨b,off+k,none⟩) 1 (c1 - k)]) (t:=40) (fr:=(0,0)) (heap_alloc_new w4 _)) (by simp [Value.oneCell'])
        (by omega) (by unfold maxLen;omega) (by omega) (by simp;omega) (w4.heap.size+1) (by simp) ?_;intro gg cap w5 hown5 hgrow hat qs3))
    have HR:Hid (Uf wp n ms zs (k+1) (.slice none 0 0) (.slice (some ⟨gg,0,none⟩) (2*k+2) cap) w5):=iQ (Vf.fin H2.out HM.out HX.out HB.out hp2.out (by simpa using H2.out.left) hown5 hgrow);clear hown5 hgrow hat qs3 o3;go_wp2_with fail;go_roundw;case rel=>exact ⟨k+1,by omega,by go_num,HR⟩
    case measure=>simp [RowKit.intOf];omega
   ·by_cases hn0:n'=0
    ·subst hn0
     obtain rfl:p=0:=(by omega);go_wp2_with fail;go_region_held3 (fun _=>True)
      (first | exact trivial)
      ((refine step_append_lies _ (by rfl) _ _ _ (by rfl) wp.heap.size 40 i0 _ 1 24 Tryz.underlying150 hi hz0 hz1 hz2 rfl (by omega) u6 (2*k) (qs.map Pc.val) (by rfl) ((o3.alloc _).drew)
         ⟨w4.heap.size,0,none⟩ 2 2 [.slice (some ad) 0 c',.slice (some ⟨b,off+k,none⟩) 1 (c1 - k)] (by rfl) (by rfl) (World.news_of_block (cs:=#[.slice (some ad) 0 c',.slice (some ⟨b,off+k,none⟩) 1 (c1 - k)]) (t:=40) (fr:=(0,0)) (heap_alloc_new w4 _)) (by simp [Value.oneCell'])
         (by omega) (by unfold maxLen;omega) (by omega) (by simp;omega) (w4.heap.size+1) (by simp) ?_;intro gg cap w5 hown5 hgrow hat qs3))
     have HR:Hid (Uf wp n ms zs (k+1) (.slice (some ad) 0 c') (.slice (some ⟨gg,0,none⟩) (2*k+2) cap) w5):=iQ (Vf.fin H2.out HM.out HX.out HB.out hp2.out (by simpa using H2.out.left) hown5 hgrow);clear hown5 hgrow hat qs3 o3;go_wp2_with fail;go_roundw;case rel=>exact ⟨k+1,by omega,by go_num,HR⟩
     case measure=>simp [RowKit.intOf];omega
    ·obtain ⟨b',off',e,_⟩:=H2.out.left.spot (by rw [Vu,H2.out.left.intN];omega)
     obtain rfl:=wa0 e;by_cases hpc:p=c'
     ·subst hpc
      obtain rfl:n'=p:=(by omega);have hA0:Ln wp 1 (some ⟨b',off',none⟩) (n' - n') 0 (Qc (rest.drop n')):=by
       rw [wc6 (by rw [H2.out.left.intN];exact wa2 _),wf1];exact Ln.empty _ _ _ _
      have HA0:=iQ hA0;clear hA0;go_wp2_with fail;go_region_held3 (fun _=>True)
       (first | exact trivial)
       ((refine step_append_lies _ (by rfl) _ _ _ (by rfl) wp.heap.size 40 i0 _ 1 24 Tryz.underlying150 hi hz0 hz1 hz2 rfl (by omega) u6 (2*k) (qs.map Pc.val) (by rfl) ((o3.alloc _).drew)
          ⟨w4.heap.size,0,none⟩ 2 2 [.slice (some ⟨b',off',none⟩) n' n',.slice (some ⟨b,off+k,none⟩) 1 (c1 - k)] (by rfl) (by rfl) (World.news_of_block (cs:=#[.slice (some ⟨b',off',none⟩) n' n',.slice (some ⟨b,off+k,none⟩) 1 (c1 - k)]) (t:=40) (fr:=(0,0)) (heap_alloc_new w4 _)) (by simp [Value.oneCell'])
          (by omega) (by unfold maxLen;omega) (by omega) (by simp;omega) (w4.heap.size+1) (by simp) ?_;intro gg cap w5 hown5 hgrow hat qs3))
      have HR:Hid (Uf wp n ms zs (k+1) (.slice (some ⟨b',off',none⟩) (n' - n') 0) (.slice (some ⟨gg,0,none⟩) (2*k+2) cap) w5):=iQ (Vf.fin H2.out HM.out HX.out HB.out hp2.out (HA0.out) hown5 hgrow);rw [wf1] at HR;clear hown5 hgrow hat qs3 o3;go_wp2_with fail;go_roundw;case rel=>exact ⟨k+1,by omega,by go_num,HR⟩
      case measure=>simp [RowKit.intOf];omega
     ·have i4:(p:Int)<(c':Int):=by omega
      have j4:¬ c'=p:=(by omega);have j5:(p:Int)<=(n':Int):=(by omega);have j6:(n':Int)<=(c':Int):=(by omega);go_wp2_with fail;go_region_held3 (fun _=>True)
       (first | exact trivial)
       ((refine step_append_lies _ (by rfl) _ _ _ (by rfl) wp.heap.size 40 i0 _ 1 24 Tryz.underlying150 hi hz0 hz1 hz2 rfl (by omega) u6 (2*k) (qs.map Pc.val) (by rfl) ((o3.alloc _).drew)
          ⟨w4.heap.size,0,none⟩ 2 2 [.slice (some ⟨b',off',none⟩) p c',.slice (some ⟨b,off+k,none⟩) 1 (c1 - k)] (by rfl) (by rfl) (World.news_of_block (cs:=#[.slice (some ⟨b',off',none⟩) p c',.slice (some ⟨b,off+k,none⟩) 1 (c1 - k)]) (t:=40) (fr:=(0,0)) (heap_alloc_new w4 _)) (by simp [Value.oneCell'])
          (by omega) (by unfold maxLen;omega) (by omega) (by simp;omega) (w4.heap.size+1) (by simp) ?_;intro gg cap w5 hown5 hgrow hat qs3))
      have HR:Hid (Uf wp n ms zs (k+1) (.slice (some ⟨b',off'+p,none⟩) (n' - p) (c' - p)) (.slice (some ⟨gg,0,none⟩) (2*k+2) cap) w5):=iQ (Vf.fin H2.out HM.out HX.out HB.out hp2.out (H2.out.left.intDrop (by omega)) hown5 hgrow);clear hown5 hgrow hat qs3 o3;go_wp2_with fail;go_roundw;case rel=>exact ⟨k+1,by omega,by go_num,HR⟩
      case measure=>simp [RowKit.intOf];omega
  ·obtain rfl:m=k:=by omega
   have o3:=H1.out.own;have bsz:=H1.out.bel.size;have hsum:=H1.out.sum;have HA:Hid (QT (qs++[⟨A',n',c',Qc rest⟩])=Qc (SS.insL ps zs)):=by
    have ha:=H1.out.all;rw [wc6 (by rw [L2.out.intN];exact wa2 _),HI.out] at ha;rw [<- ha];unfold QT;rw [wf9];exact iQ (by simp [SS.insL])
   have HG:Hid (qz6 wp (qs++[⟨A',n',c',Qc rest⟩])):=by
    refine iQ (fun q hq=>?_);rcases wb0.1 hq with hq | hq
    ·exact H1.out.good q hq
    ·obtain rfl:q=_:=by simpa using hq
     exact ⟨H1.out.left,Qr _⟩
   have HT:Hid (Xn (qs++[⟨A',n',c',Qc rest⟩])=n+m):=by
    unfold Xn at hsum ⊢;rw [wc8,wf7];exact iQ (by simp;omega)
   have HN2:Hid ((qs++[(⟨A',n',c',Qc rest⟩:Pc)]).length=2*m+1):=by
    rw [wa6,H1.out.len];exact iQ rfl
   go_wp2_with (at_builtin;refine wpList_append_own _ rfl (.tmp 40) (.tmp 42) 150 rfl wp.heap.size 40 i0 (.slice none 0 0) 1 24 Tryz.underlying150 hi hz0 hz1 hz2 rfl (by decide) _ _ _ rfl (o3.alloc _) ⟨wr.heap.size,0,none⟩ 1 1 [.slice A' n' c'] rfl rfl (cell_one_new _ _ _) (by simp [Value.oneCell']) (by unfold maxLen;omega) (by omega) (by simp;omega) ?_;intro v5 w5 hown5 hg5 _;obtain ⟨A5,c5,rfl,hc5,l5⟩:=Ln.oo hown5);have B5:=iQ ((H1.out.bel.alloc bsz _).grown hg5 (by simp;omega) (fun g hg=>(o3.lt g hg).1));have HO5:Hid (w5.ownsRow wp.heap.size 40 1 (.slice A5 (2*m+1) c5) (2*m+1) ((qs++[(⟨A',n',c',Qc rest⟩:Pc)]).map Pc.val)):=by
    rw [wc8];exact iQ hown5
   have HP5:=iQ (qO2 HO5.out (show qz6 w5 (qs++[⟨A',n',c',Qc rest⟩]) from fun q hq=>⟨(HG.out q hq).1.kept B5.out,(HG.out q hq).2⟩));clear hown5 hg5 o3 l5;refine (YX A5 (2*m+1) c5 (n+m) _ w5 HP5.out HN2.out HT.out (by omega) (by omega)).mono ?_;rintro e w6 ⟨v6,rfl,o6,b6⟩;rw [HA.out] at o6;have O6:=iQ o6;have B6:=iQ (B2.out.trans ((B5.out.trans (b6.mono B5.out.size)).mono B2.out.size));have UA:Hid (w.heap.size<=w5.heap.size):=iQ (wa9 B2.out.size B5.out.size);clear o6 b6;go_wp2_with fail;go_ret;exact ⟨_,rfl,YF O6.out UA.out,B6.out⟩
end
end Go.Proofs.YtfiflinbicbedaaGreat
