/-
  A part of the proof. Conditions: none.
-/
import Derived.Test.YtfiflinbicbedaaGreatZR22

set_option maxRecDepth 20000
set_option maxHeartbeats 12800000
namespace Go.Proofs.YtfiflinbicbedaaGreat
section
open Go.RowKit Go.Maps
theorem Jy {P:Program} (w:World) {ops:Array Oper} {rest:List Oper} {o:Oper} {a:Act} {Q:Exit->Act->World->Prop} (hgd:o.guard=none) (s x:Operand) (t:TypeId)
 (ho:o.op = .call { callee := .builtin .append,args:=#[s,x],argTypes:=#[t,t] })
 (base:Nat) (e:TypeId) (i:TypeInfo) (z:Value) (size bytes:Nat) (ht:P.underlying t=some (.slice e)) (hi:P.info? e=some i) (hz:i.zero=some z)
 (hsize:i.size=size) (hby:i.bytes=bytes) (hzs:z.cells.size=size) (hsz:0<size)
 (v:Value) (n:Nat) (xs:List Value) (hs:a.eval s=v) (hown:w.ownsRow base e size v n xs)
 (A:Option Addr) (m c:Nat) (news:List Value) (hx:a.eval x = .slice A m c) (hl:news.length=m*size) (hnews:ML w A m c news) (h1:∀ u∈news,u.oneCell'=true)
 (h63:n+m<=maxLen) (hbytes:(n+m)*bytes<=140737488355328) (hbase:base<=w.heap.size)
 (h:∀ v' w',w'.ownsRow base e size v' (n+m) (xs++news)->w.grownBy w' v.ownBlock->(v'.ownBlock=v.ownBlock\/v'.ownBlock=some w.heap.size)->wpList P ops Q rest (a.put o.dst v') w'):wpList P ops Q (o::rest) a w:=by
 rcases A with _ | ad
 ·obtain ⟨rfl,rfl⟩:=hnews.1 rfl
  obtain rfl:news=[]:=wb2 (by omega);refine wpList_append_own_none hgd s x t ho base e i size ht hi v n xs hs hown hx ?_;exact h v w (by simpa using hown) (World.grownBy.refl _ _) (Or.inl rfl)
 ·exact wpList_append_own_at w hgd s x t ho base e i z size bytes ht hi hz hsize hby hzs hsz v n xs hs hown ad m c news hx hl (hnews.2 ad rfl) h1 h63 hbytes hbase (fun v' w' h2 h3 _ h5=>h v' w' h2 h3 h5)
theorem RN {a:List UInt8}:∀ (es:List TT.E),(∀ x∈es,Op.bytesLess x.1 a=false)->es.filter (fun e=>Op.bytesLess e.1 a)=[]
 | es,h=>by
   rw [List.filter_eq_nil_iff];intro x hx;rw [h x hx];decide
theorem qx3 {a:List UInt8} {e:TT.E} {es:List TT.E} (hs:TT.sorted (e::es)) (hq:Op.bytesLess e.1 a=false):∀ x∈e::es,Op.bytesLess x.1 a=false:=fun x hx=>by
 rcases wb6.1 hx with rfl | hx
 ·exact hq
 ·cases hxa:Op.bytesLess x.1 a with
  | false=>rfl
  | true =>
    rw [Qq _ _ _ ((wd1.1 hs).1 x hx) hxa] at hq;cases hq
theorem DT {a b:List UInt8} (hab:Op.bytesLess a b=true):∀ (es:List TT.E),TT.sorted es->es.filter (fun e=>Op.bytesLess e.1 a)++es.filter (fun e=>Qh e.1 a b)=es.filter (fun e=>Op.bytesLess e.1 b)
 | [],_=>rfl
 | e::es,hs=>by
   cases hq:Op.bytesLess e.1 a with
   | true =>
     have hb:=Qq _ _ _ hq hab;have hw:Qh e.1 a b=false:=by unfold Qh;rw [hq];rfl
     simp only [List.filter_cons,hq,hw,hb,if_true,List.cons_append];rw [<- DT hab es (wd1.1 hs).2];rfl
   | false =>
     have hall:=qx3 hs hq;rw [RN _ hall,we0];apply List.filter_congr;intro x hx;unfold Qh Yj;rw [hall x hx,beq_eq_false_iff_ne.2 (show b≠[] from fun e=>by rw [e,TT.nil_low] at hab;cases hab)];rfl
theorem DR {a:List UInt8}:∀ (es:List TT.E),TT.sorted es->es.filter (fun e=>Op.bytesLess e.1 a)++es.filter (fun e=>Qh e.1 a [])=es
 | [],_=>rfl
 | e::es,hs=>by
   cases hq:Op.bytesLess e.1 a with
   | true =>
     have hw:Qh e.1 a []=false:=by unfold Qh;rw [hq];rfl
     simp only [List.filter_cons,hq,hw,if_true,List.cons_append];congr 1;exact DR es (wd1.1 hs).2
   | false =>
     have hall:=qx3 hs hq;rw [RN _ hall,we0,List.filter_eq_self];intro x hx;unfold Qh Yj;rw [hall x hx];rfl
structure PtR (W:World) (base tb pb db:Nat) (t:TS) (all:List TT.E) (A:Option Addr) (n c:Nat) (acc:List TT.E) (v:Value) (F:Nat->Prop) (w:World):Prop where
 tree:Ql W F w tb pb db t
 own:w.ownsRow base 70 2 v acc.length (Qg acc)
 out:∀ g,v.ownBlock=some g->¬ F g
 all_:Xv w (fun k=>F k\/v.ownBlock=some k) 2 A n c (Qg all)
 base_:W.heap.size<=base/\base<=w.heap.size
section
variable {W w w' w9:World} {base tb pb db:Nat} {t:TS} {all acc part:List TT.E} {A B:Option Addr} {n c m d:Nat} {v v':Value} {F F':Nat->Prop}
theorem PtR.mo (h:PtR W base tb pb db t all A n c acc v F w) (hm:Qb w F w' F') (hT:Ql W F' w' tb pb db t):PtR W base tb pb db t all A n c acc v F' w' :=
 ⟨hT,Zb h.own (fun g e=>hm.kept.block g (h.own.lt g e).2 (h.out g e)),fun g e=>hm.not (h.own.lt g e).2 (h.out g e),h.all_.mo (by omega) (hm.but _),⟨h.base_.1,wa9 h.base_.2 hm.kept.size⟩⟩
theorem PtR.app (h:PtR W base tb pb db t all A n c acc v F w) (ho:w9.ownsRow base 70 2 v' (acc.length+part.length) (Qg acc++Qg part)) (hg:w.grownBy w9 v.ownBlock) (hd:v'.ownBlock=v.ownBlock\/v'.ownBlock=some w.heap.size) :
 PtR W base tb pb db t all A n c (acc++part) v' F w9:=by
 have hX:∀ k,(v.ownBlock=some k)->W.heap.size<=k/\¬ F k:=fun k e=>⟨wa9 h.base_.1 (h.own.lt k e).1,h.out k e⟩;have hm:Qb w (fun k=>v.ownBlock=some k) w9 (fun k=>v.ownBlock=some k):=⟨⟨hg.os,hg.tape,hg.output,hg.size,fun k hk hF=>hg.block k hk (fun e=>hF e.symm)⟩,fun k hk=>Or.inl hk⟩;refine ⟨h.tree.other hm hX,?_,fun g e=>?_,h.all_.mo (by omega) (Qb.of_grown hg hd),⟨h.base_.1,wa9 h.base_.2 hg.size⟩⟩
 ·rw [wa6,Zg]
  exact ho
 ·rcases hd with e2 | e2
  ·exact h.out g (e2.symm.trans e)
  ·rw [e2] at e
   have:=wa0 e;exact h.tree.new (by omega)
theorem PtR.more (h:PtR W base tb pb db t all A n c acc v F w) (hl:Xv w F 2 B m d (Qg part)) (hn:part.length=m):∃ N A9 c9,v = .slice A9 N c9/\acc.length=N/\w.ownsRow base 70 2 (.slice A9 N c9) N (Qg acc)/\(Qg part).length=m*2/\ML w B m d (Qg part)/\base<=w.heap.size /\
 ∀ v' w9,w9.ownsRow base 70 2 v' (N+m) (Qg acc++Qg part)->w.grownBy w9 (Value.slice A9 N c9).ownBlock->(v'.ownBlock=(Value.slice A9 N c9).ownBlock\/v'.ownBlock=some w.heap.size)->PtR W base tb pb db t all A n c (acc++part) v' F w9:=by
 obtain ⟨A9,c9,rfl,_,_⟩:=Ln.oo h.own;exact ⟨_,A9,c9,rfl,rfl,h.own,by rw [Jj,hn],hl.ln.lies,h.base_.2,fun v' w9 o g d=>h.app (by rw [hn];exact o) g d⟩
theorem qx2 {nd0:Int->Option ND} {es:List TT.E} {L:List Int} (w:World) (lo hi:ByteArray) (hT:Ql W F w tb pb db t) (h:TT.Tr [] nd0 t es L) (he:es.length<=150) :
 Calls Tryz.prog 13 #[.pointer (some ⟨tb,0,none⟩),.string lo,.string hi,.int .i64 1000] w (LRg W F w tb pb db t (es.filter (fun e=>Qh e.1 lo.toList hi.toList))):=by
 have hs:=h.small he;have hc:=Ju w lo hi 1000 (by decide) hT h hs.1 hs.2;rwa [show Int.toNat 1000=1000 from rfl,wa5 (wa9 (wg3 _ _) (by omega))] at hc
end
end
section
open Go.RowKit
theorem Ux (A B:Option Addr) (n c m d:Nat) (es:List TT.E) (w:World) (hx:Ln w 2 A n c (Qg es)) (hy:Ln w 2 B m d (Qg es)) (hn:n<=1000000000) :
 Calls Tryz.prog 14 #[.slice A n c,.slice B m d] w (fun e w'=>e = .returned (.bool true)/\Below w.heap.size w w'):=by
 have HX:=iQ hx;have HY:=iQ hy;obtain rfl:n=m:=by rw [<- hx.entN,<- hy.entN]
 have hb:((n:Int) != (n:Int))=false:=bne_self_eq_false _;clear hx hy;go_enter Tryz.func14,Tryz.ntmps14;go_wp2_with fail;go_loopw [5] (fun i wk=>∃ k:Nat,k<=n/\i = .int .i64 k/\Hid (Below w.heap.size w wk)) (fun i _=>n - (RowKit.intOf i).toNat)
 case atStart=>exact ⟨0,wb3 _,rfl,iQ (Below.refl _ _)⟩
 case round =>
  obtain ⟨k,hk,rfl,BK⟩:=hrel;by_cases hlt:k<n
  ·obtain ⟨b,off,x,y,rfl,hv,f0,f1⟩:=(HX.out.kept BK.out).entAt hlt
   obtain ⟨b',off',x',y',rfl,hv',g0,g1⟩:=(HY.out.kept BK.out).entAt hlt;rw [hv] at hv';injection hv' with hv'
   injection hv' with e1 e2
   have e1:x=x':=by rw [<- Zx x,<- Zx x',e1]
   have e2:y=y':=by rw [<- Zx y,<- Zx y',e2]
   subst e1;subst e2;clear hv;go_wp2_with fail;go_quiet (fail)
   go_wp2_with fail;go_roundw;case rel=>exact ⟨k+1,by omega,by go_num,iQ (Ya BK.out _)⟩
   case measure=>simp [RowKit.intOf];omega
  ·obtain rfl:n=k:=by omega
   go_wp2_with fail;go_ret;exact ⟨rfl,BK.out⟩
end
section
open Go.ChangeShapes Go.WideShapes Go.ChangeAt Go.RowKit Go.Joins Go.Deep
section
variable {H:Type} {enc:TypeId×Value->H} {w:World} {base:Nat} {spare:Nat->Bool} {held:Bool}
theorem qP1 {fuel:Nat} {v:Value} {x:DataW H×List MemPlace} (hf:DataW.trod enc Tryz.prog w base spare held fuel 48 [v]=some x) :
 ∃ (A:Option Addr) (n c:Nat) (l:List (List UInt8)),v = .slice A n c/\Ln w 1 A n c (Qd l)/\c<=maxLen:=by
 rcases open_slice Tryz.underlying48 hf with ⟨hcs,_⟩ | ⟨a,n,c,m,f,D,Pl,hcs,_,hl,hcm,hm,_,hi⟩
 ·simp at hcs
  subst hcs;exact ⟨none,0,0,[],rfl,Ln.none_ w 1,wb3 _⟩
 ·simp at hcs
  subst hcs;have hlm:n<=m:=by rw [hm];split<;>omega
  have each:∀ i,i<n->∃ t:List UInt8,w.cell? (a.add i)=some (.string (tb t)):=by
   intro i hin;obtain ⟨cs',hc,ht⟩:=hi i (by omega);rw [KZ] at hc;obtain ⟨z,rfl,_⟩:=DataW.trod_string Tryz.underlying9 ht;obtain ⟨_,_,hat⟩:=World.cells?_some hc;have:=hat 0 (by omega);rw [wg0] at this;refine ⟨z.toList,?_⟩;rw [Zx];simpa [Addr.add] using this
  obtain ⟨zs,hlen,hx⟩:=JF (fun i (t:List UInt8)=>w.cell? (a.add i)=some (.string (tb t))) (fun v=>v) n each;refine ⟨_,_,_,zs,rfl,⟨by rw [Vq,hlen,wg0],hl,fun e=>(by cases e),fun ad e j u hu=>?_⟩,hcm⟩;obtain rfl:=wa0 e;rw [Qd,wc7] at hu;obtain ⟨z,hz,rfl⟩:=we2.1 hu;exact hx j z hz
theorem qq7 {v:Value} {d:DataW H} {p:List MemPlace} {r:Reach} {b0:Nat} (hv:Value.okWide Tryz.prog w r b0 48 v) (h:DataW.Trod enc Tryz.prog w base spare held 48 v d p) :
 ∃ (A:Option Addr) (n c:Nat) (l:List (List UInt8)),v = .slice A n c/\Ln w 1 A n c (Qd l)/\c<=maxLen:=by
 obtain ⟨A,n,c,rfl⟩:=okWide_slice Tryz.underlying48 hv;obtain ⟨fuel,hf⟩:=h;obtain ⟨A',n',c',l,e,h1,h2⟩:=qP1 (v := .slice A n c) hf;injection e with e1 e2 e3
 subst e1 e2 e3;exact ⟨_,_,_,l,rfl,h1,h2⟩
end
end
end Go.Proofs.YtfiflinbicbedaaGreat
