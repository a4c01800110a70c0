/-
  A part of the proof. Conditions: none.
-/
import Derived.Test.YtfiflinbicbedaaGreatProg
import Derived.WalkLawsBesides
import Derived.WalkSpells
import Derived.Deep.OwnRows
import Derived.Lib.Hide
import Derived.Lib.SlKeysI
import Derived.Laws.AppendOwnNone
import Derived.Lib.SmallJoins
import Derived.Deep.AppendLies
import Derived.Deep.RegionHeld3
import Derived.Deep.LoopGhost
import Derived.Test.YtfiflinbicbedaaGreatZR0

set_option maxRecDepth 20000
set_option maxHeartbeats 12800000
namespace Go.Proofs.YtfiflinbicbedaaGreat
theorem Zh (c:UInt8):c.toNat<256:=UInt8.toNat_lt c
theorem Qx (n:Nat):(UInt8.ofNat n).toNat=n % 256:=by simp
end Go.Proofs.YtfiflinbicbedaaGreat
namespace Go.Proofs.YtfiflinbicbedaaGreat
open Go.RowKit
theorem Zp (w:World) (o o':Obj):Below w.heap.size w ((w.alloc o).alloc o') :=
 ((Below.refl _ _).alloc (wa2 _) _).alloc (by simp) _
theorem Qa (w:World) (o:Obj):Below w.heap.size w (w.alloc o) :=
 (Below.refl _ _).alloc (wa2 _) _
theorem Ya {B:Nat} {a w:World} (h:Below B a w) (n:Nat):Below B a (w.drewN n):=⟨h.os,h.tape,h.output,h.size,h.block⟩
theorem Qi {a b:Bool} (h:a=b):Ending.returned (.bool a) = .returned (.bool b):=by rw [h]
theorem Zm {a b:Int} (h:a=b):Ending.returned (.int .i64 a) = .returned (.int .i64 b):=by rw [h]
theorem qb7 {k:IntKind} {a b:Int} (h:a=b):Ending.returned (.int k a) = .returned (.int k b):=by rw [h]
theorem qB2 {α:Type} {xs ys:List α} {k:Nat} {z:α} (h:xs.take k=ys.take k) (hx:xs[k]?=some z) (hy:ys[k]?=some z):xs.take (k+1)=ys.take (k+1):=by
 rw [wc2,wc2,h,hx,hy]
theorem Zn (b off n:Nat):(⟨b,off,none⟩:Addr).add n=⟨b,off+n,none⟩:=by
 unfold Addr.add;split
 ·rename_i h
  have:n=0:=by simpa using h
  subst this;rfl
 ·rfl
end Go.Proofs.YtfiflinbicbedaaGreat
namespace Go.Proofs.YtfiflinbicbedaaGreat
open Go.RowKit Go.Maps
def BU (v:Value):Option (DataW Value×List MemPlace):=some (.held v,[])
theorem Vt:Keyed Tryz.prog 3:=int_keyed Tryz.underlying3
theorem zl0 {i:Int} (h1 : -9223372036854775808<=i) (h2:i<=9223372036854775807):(Lit.int .i64 i).wf=true:=by
 simp only [Lit.wf,Bool.and_eq_true,decide_eq_true_eq];have e1:IntKind.i64.min = -9223372036854775808:=rfl;have e2:IntKind.i64.max=9223372036854775807:=rfl;omega
theorem BQ {i:Int} (h1 : -9223372036854775808<=i) (h2:i<=9223372036854775807):keyOf Tryz.prog 3 (.int .i64 i)=some (.int .i64 i):=keyOf_int_mk Tryz.underlying3 (zl0 h1 h2)
section
variable {es:List (Lit×DataW Value)} {k:Lit} {d z:DataW Value}
theorem qT8 (hp:es.Pairwise (fun p q=>p.1≠q.1)) (hk:WideAt.IsKeyLit k) (h:(k,d)∈es):es.find? (fun p=>p.1.sameKey k)=some (k,d):=by
 induction es with
 | nil=>simp at h
 | cons y r ih =>
   obtain ⟨h1,h2⟩:=wd1.1 hp;rcases wb6.1 h with e | e
   ·subst e
    simp [WideAt.sameKey_self hk]
   ·have hy:y.1.sameKey k=false:=Maps.sameKey_ne (h1 _ e)
    rw [List.find?_cons,hy];exact ih h2 e
theorem qu8 (hp:es.Pairwise (fun p q=>p.1≠q.1)) (hk:WideAt.IsKeyLit k) (h:(k,d)∈es):(DataW.map es).atKey k z=d:=by
 unfold DataW.atKey;simp only [qT8 hp hk h]
theorem qy0 (hk:WideAt.IsKeyLit k) (h:(k,d)∈es):Maps.has (DataW.map es) k=true:=by
 rw [Maps.has_eq,List.any_eq_true];exact ⟨_,h,WideAt.sameKey_self hk⟩
theorem qc8 (h:Maps.has (DataW.map es) k=true):∃ d,(k,d)∈es:=by
 rw [Maps.has_eq,List.any_eq_true] at h;obtain ⟨p,hp,hs⟩:=h;have:=WideAt.sameKey_eq hs;exact ⟨p.2,by rw [<- this];exact hp⟩
theorem Gu {x y:Lit×DataW Value}:y∈DataW.insert x es ↔ y=x\/y∈es:=by
 rw [(WideShapes.insert_perm x es).mem_iff,wb6]
theorem NC:∀ (n:Nat) (l:List Nat),l.Pairwise (·≠·)->(∀ x∈l,x<n)->l.length<=n
 | 0,l,_,h=>by
   rcases l with _ | ⟨x,l⟩
   ·simp
   ·exact absurd (h x (by simp)) (by omega)
 | n+1,l,hp,h=>by
   have h1:=NC n (l.filter (fun x=>x≠n)) (hp.filter _) (fun x hx=>by
    obtain ⟨h2,h3⟩:=wf8.1 hx;have:=h x h2;have:x≠n:=(by simpa using h3);omega)
   have h2:l.length<=(l.filter (fun x=>x≠n)).length+1:=by
    clear h1 h
    induction l with
    | nil=>simp
    | cons y r ih =>
      obtain ⟨p1,p2⟩:=wd1.1 hp;by_cases hy:y=n
      ·subst hy
       have:r.filter (fun x=>x≠y)=r:=List.filter_eq_self.2 (fun x hx=>by simpa using (p1 x hx).symm);rw [List.filter_cons,if_neg (by simp),this];simp
      ·rw [List.filter_cons,if_pos (by simpa using hy)]
       have:=ih p2;simp only [List.length_cons];omega
   omega
end
def upd (f:Int->Option Value) (i:Int) (v:Option Value):Int->Option Value:=fun j=>if j=i then v else f j
def Zl (w:World) (b:Nat) (f:Int->Option Value):Prop :=
 ∃ n es,w.ownsMap Tryz.prog 3 BU b n (.map es)/\(∀ p∈es,∃ i v,p=(Lit.int .i64 i,DataW.held v)/\0<=i/\i<4096)/\∀ i v,f i=some v ↔ (Lit.int .i64 i,DataW.held v)∈es
section
variable {w w':World} {b:Nat} {f:Int->Option Value}
theorem zh2 {n:Nat} {es:List (Lit×DataW Value)} (h:w.ownsMap Tryz.prog 3 BU b n (.map es)):w.ownsMap Tryz.prog 3 BU b es.length (.map es):=by
 obtain ⟨xs,clock,hb,F,hs,hD⟩:=h;refine ⟨xs,clock,hb,F,?_,hD⟩;injection hD with e
 rw [e,length_sorted];simp
theorem qU0 {es:List (Lit×DataW Value)} (hp:es.Pairwise (fun p q=>p.1≠q.1)) (hk:∀ p∈es,∃ i v,p=(Lit.int .i64 i,DataW.held v)/\0<=i/\i<4096):es.length<=4096:=by
 have:=NC 4096 (es.map fun p=>(_root_.Go.intOf p.1).toNat) (by
  rw [List.pairwise_map];refine List.Pairwise.imp_of_mem ?_ hp;intro p q hp' hq' hne e;obtain ⟨i,v,rfl,h1,h2⟩:=hk p hp';obtain ⟨j,u,rfl,h3,h4⟩:=hk q hq';simp only [_root_.Go.intOf] at e;exact hne (by show Lit.int .i64 i=Lit.int .i64 j;rw [show i=j by omega])) (fun x hx=>by
  obtain ⟨p,hp',rfl⟩:=wd7.1 hx;obtain ⟨i,v,rfl,h1,h2⟩:=hk p hp';simp only [_root_.Go.intOf];omega)
 simpa using this
theorem Zl.lt (h:Zl w b f):b<w.heap.size:=by
 obtain ⟨n,es,ho,_⟩:=h;exact ho.lt
theorem Zl.isMap (h:Zl w b f):∃ es clock,w.heap[b]?=some (.map es clock):=by
 obtain ⟨n,es,⟨xs,clock,hb,_⟩,_⟩:=h;exact ⟨xs,clock,hb⟩
theorem Zl.block (h:Zl w b f) (e:w'.heap[b]?=w.heap[b]?):Zl w' b f:=by
 obtain ⟨n,es,⟨xs,clock,hb,F,hs,hD⟩,hr⟩:=h;exact ⟨n,es,⟨xs,clock,e.trans hb,F,hs,hD⟩,hr⟩
theorem Vs (w:World):Zl (w.alloc (.map #[] 0)) w.heap.size (fun _=>none) :=
 ⟨0,[],World.ownsMap_made w _ _ _,by simp,by simp⟩
theorem Hy (i:Int):WideAt.IsKeyLit (.int .i64 i):=trivial
theorem FK (w:World):(zeroValue 109).run Tryz.prog w = .ok (.slice none 0 0) w:=by kernel_rfl
/-- v, ok := m[i] -/
theorem Zl.look (h:Zl w b f) {i:Int} (h1 : -9223372036854775808<=i) (h2:i<=9223372036854775807) :
 (Instr.lookup 144 (.map (some b)) (.int .i64 i) true).run Tryz.prog w = .ok (.tuple #[(f i).getD (.slice none 0 0),.bool (f i).isSome]) w:=by
 obtain ⟨n,es,ho,hk,hf⟩:=h;obtain ⟨v,ps,hrun,hv⟩:=ho.look_ok Vt Tryz.underlying144 (FK w) (zd := .held (.slice none 0 0)) (zp:=[]) rfl (BQ h1 h2);obtain ⟨es',e',hp,_⟩:=ho.entries Vt;injection e' with e'
 subst e';rw [hrun];have hv':DataW.held v=(DataW.map es).atKey (.int .i64 i) (.held (.slice none 0 0)):=by
  unfold BU at hv;injection hv with hv
  injection hv
 cases hfi:f i with
 | some u =>
   have hm:=(hf i u).1 hfi;rw [qu8 hp (Hy i) hm] at hv';injection hv' with hv'
   rw [qy0 (Hy i) hm,hv'];rfl
 | none =>
   have hn:Maps.has (DataW.map es) (.int .i64 i)=false:=by
    cases hh:Maps.has (DataW.map es) (.int .i64 i) with
    | false=>rfl
    | true =>
      obtain ⟨d,hd⟩:=qc8 hh;obtain ⟨j,u,e1,_⟩:=hk _ hd;injection e1 with e2 e3
      subst e3;rw [(hf i u).2 hd] at hfi;cases hfi
   rw [Maps.atKey_of_not_has hn] at hv';injection hv' with hv'
   rw [hn,hv'];rfl
/-- v := m[i] -/
theorem Zl.look1 (h:Zl w b f) {i:Int} (h1 : -9223372036854775808<=i) (h2:i<=9223372036854775807) :
 (Instr.lookup 144 (.map (some b)) (.int .i64 i) false).run Tryz.prog w = .ok ((f i).getD (.slice none 0 0)) w:=by
 obtain ⟨n,es,ho,hk,hf⟩:=h;obtain ⟨v,ps,hrun,hv⟩:=ho.lookup Vt Tryz.underlying144 (FK w) (zd := .held (.slice none 0 0)) (zp:=[]) rfl (BQ h1 h2);obtain ⟨es',e',hp,_⟩:=ho.entries Vt;injection e' with e'
 subst e';rw [hrun];have hv':DataW.held v=(DataW.map es).atKey (.int .i64 i) (.held (.slice none 0 0)):=by
  unfold BU at hv;injection hv with hv
  injection hv
 cases hfi:f i with
 | some u =>
   have hm:=(hf i u).1 hfi;rw [qu8 hp (Hy i) hm] at hv';injection hv' with hv'
   rw [hv'];rfl
 | none =>
   have hn:Maps.has (DataW.map es) (.int .i64 i)=false:=by
    cases hh:Maps.has (DataW.map es) (.int .i64 i) with
    | false=>rfl
    | true =>
      obtain ⟨d,hd⟩:=qc8 hh;obtain ⟨j,u,e1,_⟩:=hk _ hd;injection e1 with e2 e3
      subst e3;rw [(hf i u).2 hd] at hfi;cases hfi
   rw [Maps.atKey_of_not_has hn] at hv';injection hv' with hv'
   rw [hv'];rfl
/-- m[i] = v -/
theorem Zl.put (h:Zl w b f) {i:Int} (h1:0<=i) (h2:i<4096) (v:Value) :
 ∃ w',(Instr.mapUpdate 144 (.map (some b)) (.int .i64 i) v).run Tryz.prog w = .ok () w'/\Zl w' b (upd f i (some v))/\w.grownBy w' (some b):=by
 obtain ⟨n,es,ho,hk,hf⟩:=h;obtain ⟨es',e',hp,_⟩:=ho.entries Vt;injection e' with e'
 subst e';have hl:=qU0 hp hk;obtain ⟨w',hrun,ho',hg⟩:=(zh2 ho).update Vt Tryz.underlying144 (by unfold maxLen;omega) (BQ (i:=i) (by omega) (by omega)) (val:=v) (d := .held v) (ps:=[]) rfl;refine ⟨w',hrun,⟨_,DataW.insert (.int .i64 i,.held v) (es.filter fun p => !p.1.sameKey (.int .i64 i)),ho',?_,?_⟩,hg⟩
 ·intro p hm
  rcases Gu.1 hm with rfl | hm
  ·exact ⟨i,v,rfl,h1,h2⟩
  ·exact hk p (wf8.1 hm).1
 ·intro j u
  rw [Gu,wf8];unfold upd;by_cases hj:j=i
  ·subst hj
   rw [if_pos rfl,WideAt.sameKey_self (Hy j)];constructor
   ·intro e
    injection e with e
    subst e;exact Or.inl rfl
   ·rintro (e | ⟨_,e⟩)
    ·obtain rfl:u=v:=DataW.held.inj (congrArg Prod.snd e)
     rfl
    ·cases e
  ·rw [if_neg hj,hf,Maps.sameKey_ne (a:=Lit.int .i64 j) (b:=Lit.int .i64 i) (fun e=>hj (by injection e))]
   constructor
   ·intro e
    exact Or.inr ⟨e,rfl⟩
   ·rintro (e | ⟨e,_⟩)
    ·injection e with e
     injection e with _ e
     exact absurd e hj
    ·exact e
end
end Go.Proofs.YtfiflinbicbedaaGreat
namespace Go.Proofs.YtfiflinbicbedaaGreat
open Go.RowKit
def bv (l:List UInt8):List Value:=l.map (fun b=>Value.int .u8 b.toNat)
theorem QD (a b:List UInt8):bv (a++b)=bv a++bv b:=wc8
theorem QF (l:List UInt8):(bv l).length=l.length:=wd2 _
theorem MK (l:List UInt8):∀ u∈bv l,u.oneCell'=true:=by
 intro u hu;obtain ⟨b,_,rfl⟩:=wd7.1 hu;rfl
theorem zq6 {l:List UInt8} {j:Nat} {u:Value} (h:(bv l)[j]?=some u):∃ z,l[j]?=some z/\u = .int .u8 z.toNat:=by
 unfold bv at h;rw [wc7] at h;obtain ⟨z,h1,h2⟩:=we2.1 h;exact ⟨z,h1,h2.symm⟩
def Xc (w:World) (R:Nat) (A:Option Addr) (l:List UInt8):Prop :=
 l=[]\/∃ b off,A=some ⟨b,off,none⟩/\b<R/\∀ i z,l[i]?=some z->w.cell? ⟨b,off+i,none⟩=some (.int .u8 z.toNat)
section
variable {w w':World} {R R':Nat} {A:Option Addr} {l:List UInt8}
theorem Xc.below (h:Xc w R A l) (hb:Below R w w'):Xc w' R A l:=by
 rcases h with rfl | ⟨b,off,rfl,hR,hc⟩
 ·exact Or.inl rfl
 ·exact Or.inr ⟨b,off,rfl,hR,fun i z hz=>(hb.cell (p:=⟨b,_,none⟩) hR).trans (hc i z hz)⟩
theorem Xc.kept (h:Xc w R A l) (hb:Below w.heap.size w w'):Xc w' R A l:=by
 rcases h with rfl | ⟨b,off,rfl,hR,hc⟩
 ·exact Or.inl rfl
 ·refine Or.inr ⟨b,off,rfl,hR,fun i z hz=>?_⟩
  have h0:=hc i z hz;exact (hb.cell (p:=⟨b,_,none⟩) (World.block_lt_of_cell? _ _ h0)).trans h0
theorem Xc.alloc (h:Xc w R A l) (o:Obj):Xc (w.alloc o) R A l:=h.kept (Qa _ _)
theorem Xc.more (h:Xc w R A l) (hR:R<=R'):Xc w R' A l:=by
 rcases h with rfl | ⟨b,off,rfl,hb,hc⟩
 ·exact Or.inl rfl
 ·exact Or.inr ⟨b,off,rfl,by omega,hc⟩
theorem Xc.nil (w:World) (R:Nat) (A:Option Addr):Xc w R A []:=Or.inl rfl
theorem Xc.at_ (h:Xc w R A l) {k:Nat} (hk:k<l.length) :
 ∃ b off z,A=some ⟨b,off,none⟩/\b<R/\l[k]?=some z/\w.cell? ⟨b,off+k,none⟩=some (.int .u8 z.toNat):=by
 rcases h with rfl | ⟨b,off,rfl,hb,hc⟩
 ·exact absurd hk (by simp)
 ·exact ⟨b,off,l[k],rfl,hb,wb1 hk,hc k _ (wb1 hk)⟩
theorem Xc.cells {ad:Addr} (h:Xc w R (some ad) l):∀ j u,(bv l)[j]?=some u->w.cell? (ad.add j)=some u:=by
 intro j u hu;obtain ⟨z,hz,rfl⟩:=zq6 hu;rcases h with rfl | ⟨b,off,e,_,hc⟩
 ·simp at hz
 ·obtain rfl:ad=⟨b,off,none⟩:=wa0 e
  rw [Zn];exact hc j z hz
theorem Xc.none_ (h:Xc w R none l):l=[]:=by
 rcases h with h | ⟨b,off,e,_⟩
 ·exact h
 ·cases e
theorem Xc.drop {b off:Nat} (h:Xc w R (some ⟨b,off,none⟩) l) (k:Nat):Xc w R (some ⟨b,off+k,none⟩) (l.drop k):=by
 rcases h with rfl | ⟨b',off',e,hb,hc⟩
 ·exact Or.inl (by simp)
 ·obtain ⟨rfl,rfl⟩:b=b'/\off=off':=by
   have:=wa0 e;injection this with h1 h2
   exact ⟨h1,h2⟩
  refine Or.inr ⟨b,off+k,rfl,hb,fun i z hz=>?_⟩;rw [we8] at hz;have:=hc (k+i) z hz;rw [show off+k+i=off+(k+i) from by omega];exact this
theorem Xc.take (h:Xc w R A l) (k:Nat):Xc w R A (l.take k):=by
 rcases h with rfl | ⟨b,off,rfl,hb,hc⟩
 ·exact Or.inl (by simp)
 ·refine Or.inr ⟨b,off,rfl,hb,fun i z hz=>hc i z ?_⟩
  rw [List.getElem?_take] at hz;split at hz
  ·exact hz
  ·cases hz
theorem Xc.oo {base:Nat} {e:TypeId} {v:Value} {n:Nat} (h:w.ownsRow base e 1 v n (bv l)) :
 ∃ A c,v = .slice A n c/\l.length=n/\n<=c/\c<=maxLen/\Xc w w.heap.size A l:=by
 have hl:l.length=n:=by have:=h.1;rw [QF] at this;omega
 have hlt:=h.lt;rcases h.2 with ⟨rfl,h0⟩ | ⟨g,cap,cur,rfl,hb,hh,hnc,hm,_⟩
 ·subst h0
  exact ⟨none,0,rfl,hl,wa2 _,wb3 _,Or.inl (wb2 hl)⟩
 ·refine ⟨_,_,rfl,hl,hnc,hm,Or.inr ⟨g,0,rfl,(hlt g rfl).2,fun i z hz=>?_⟩⟩
  have:=h.cells (g:=g) rfl i (.int .u8 z.toNat) (by unfold bv;rw [wc7,hz];rfl);rw [Zn] at this;exact this
end
end Go.Proofs.YtfiflinbicbedaaGreat
namespace Go.Proofs.YtfiflinbicbedaaGreat
open Go.RowKit
theorem QX:(Tryz.prog.info? 5).map (fun i=>(i.zero,i.size,i.bytes))=some (some (.int .u8 0),1,1):=by kernel_rfl
def Xr (w:World) (base:Nat) (v:Value) (l:List UInt8):Prop:=w.ownsRow base 5 1 v l.length (bv l)
def XB (base:Nat) (w:World) (l:List UInt8) (e:Ending) (w':World):Prop :=
 ∃ v,e = .returned v/\Xr w' base v l/\Below base w w'
theorem Xp (w:World) (base:Nat):Xr w base (.slice none 0 0) []:=World.ownsRow_nil _ _ _ _
theorem qO6 {w:World} {base:Nat} {v:Value} {l:List UInt8} {c:UInt8} {z:Int} (hz:z=c.toNat) (h:w.ownsRow base 5 1 v (l.length+1) (bv l++[.int .u8 z])) :
 Xr w base v (l++[c]):=by
 unfold Xr;rw [QD,wa6];rw [hz] at h;exact h
theorem qd6 (w:World) (x y:Value) (t:TypeId):∀ j u,[x,y][j]?=some u->(w.alloc (.cells #[x,y] t)).cell? ((⟨w.heap.size,0,none⟩:Addr).add j)=some u:=by
 intro j u h;rw [Zn]
 match j,h with
 | 0,h =>
   obtain rfl:x=u:=by simpa using h
   simp
 | 1,h =>
   obtain rfl:y=u:=by simpa using h
   simp
def ML (w:World) (A:Option Addr) (m c:Nat) (news:List Value):Prop :=
 (A=none->m=0/\c=0)/\∀ ad,A=some ad->∀ j u,news[j]?=some u->w.cell? (ad.add j)=some u
theorem Qo {P:Program} (w:World) {ops:Array Oper} {rest:List Oper} {o:Oper} {a:Act} {Q:Exit->Act->World->Prop} (hgd:o.guard=none) (s x:Operand) (t:TypeId)
 (ho:o.op = .call { callee := .builtin .append,args:=#[s,x],argTypes:=#[t,t] })
 (base:Nat) (e:TypeId) (i:TypeInfo) (z:Value) (size bytes:Nat) (ht:P.underlying t=some (.slice e)) (hi:P.info? e=some i) (hz:i.zero=some z)
 (hsize:i.size=size) (hby:i.bytes=bytes) (hzs:z.cells.size=size) (hsz:0<size)
 (v:Value) (n:Nat) (xs:List Value) (hs:a.eval s=v) (hown:w.ownsRow base e size v n xs)
 (A:Option Addr) (m c:Nat) (news:List Value) (hx:a.eval x = .slice A m c) (hl:news.length=m*size) (hnews:ML w A m c news) (h1:∀ u∈news,u.oneCell'=true)
 (h63:n+m<=maxLen) (hbytes:(n+m)*bytes<=140737488355328) (hbase:base<=w.heap.size)
 (h:∀ v' w',w'.ownsRow base e size v' (n+m) (xs++news)->w.grownBy w' v.ownBlock->wpList P ops Q rest (a.put o.dst v') w'):wpList P ops Q (o::rest) a w:=by
 rcases A with _ | ad
 ·obtain ⟨rfl,rfl⟩:=hnews.1 rfl
  obtain rfl:news=[]:=wb2 (by omega);refine wpList_append_own_none hgd s x t ho base e i size ht hi v n xs hs hown hx ?_;exact h v w (by simpa using hown) (World.grownBy.refl _ _)
 ·exact wpList_append_own w hgd s x t ho base e i z size bytes ht hi hz hsize hby hzs hsz v n xs hs hown ad m c news hx hl (hnews.2 ad rfl) h1 h63 hbytes hbase (fun v' w' h2 h3 _=>h v' w' h2 h3)
theorem ML.kept {w w':World} {A:Option Addr} {m c:Nat} {news:List Value} (h:ML w A m c news) (hb:Below w.heap.size w w'):ML w' A m c news :=
 ⟨h.1,fun ad e j u hu=>(hb.cell (World.block_lt_of_cell? _ _ (h.2 ad e j u hu))).trans (h.2 ad e j u hu)⟩
theorem ML.bys {w:World} {R:Nat} {A:Option Addr} {n c:Nat} {l:List UInt8} (h:Xc w R A l) (hz:A=none->n=0/\c=0):ML w A n c (bv l) :=
 ⟨hz,fun ad e j u hu=>by subst e;exact h.cells j u hu⟩
theorem qD2 {w w':World} {base:Nat} {v:Value} {l:List UInt8} (h:Xr w base v l) (hb:Below w.heap.size w w'):Xr w' base v l:=by
 unfold Xr at h ⊢;have hg:w.grownBy w' none:=⟨hb.os,hb.tape,hb.output,hb.size,fun k hk _=>hb.block k hk⟩;refine h.kept hg ?_;cases e:v.ownBlock with
 | none=>exact Or.inl rfl
 | some g=>exact Or.inr (by simp)
theorem GK {w:World} {base n c:Nat} {A:Option Addr} {l:List UInt8} (h:Xr w base (.slice A n c) l):Xc w w.heap.size A l:=by
 obtain ⟨A',c',e,_,_,_,hb⟩:=Xc.oo h;injection e with e1 e2 e3
 subst e1;exact hb
end Go.Proofs.YtfiflinbicbedaaGreat
namespace Go.Proofs.YtfiflinbicbedaaGreat
open Go.RowKit
structure Qj (F:Nat->Prop) (w w':World):Prop where
 os:w'.os=w.os
 tape:w'.tape=w.tape
 output:w'.output=w.output
 size:w.heap.size<=w'.heap.size
 block:∀ k,k<w.heap.size->¬ F k->w'.heap[k]?=w.heap[k]?
section
variable {F F':Nat->Prop} {w w' w2:World}
theorem Qj.refl (F:Nat->Prop) (w:World):Qj F w w:=⟨rfl,rfl,rfl,wa2 _,fun _ _ _=>rfl⟩
theorem Qj.trans (h:Qj F w w') (k:Qj F' w' w2) (hF:∀ k,F' k->F k\/w.heap.size<=k):Qj F w w2 :=
 ⟨k.os.trans h.os,k.tape.trans h.tape,k.output.trans h.output,wa9 h.size k.size,fun i hi hn =>
  (k.block i (wa3 hi h.size) (fun e=>by rcases hF i e with e | e;exact hn e;omega)).trans (h.block i hi hn)⟩
theorem Qj.next (h:Qj F w w') (k:Qj F w' w2):Qj F w w2:=h.trans k (fun _ e=>Or.inl e)
theorem Qj.below (h:Below w.heap.size w w') (F:Nat->Prop):Qj F w w':=⟨h.os,h.tape,h.output,h.size,fun k hk _=>h.block k hk⟩
theorem Qj.grown {b:Nat} (h:w.grownBy w' (some b)) (hb:F b):Qj F w w' :=
 ⟨h.os,h.tape,h.output,h.size,fun k hk hn=>h.block k hk (fun e=>hn (by injection e with e;rw [e];exact hb))⟩
theorem Qj.setCell (w:World) {a:Addr} (ha:F a.block) (v:Value):Qj F w (w.setCell a v) :=
 ⟨rfl,rfl,rfl,by simp [World.setCell],fun k _ hn=>Below.heap_setCell _ _ _ _ (fun e=>hn (by rw [e];exact ha))⟩
theorem Qj.toBelow {B:Nat} (h:Qj F w w') (hF:∀ k,F k->B<=k) (hB:B<=w.heap.size):Below B w w' :=
 ⟨h.os,h.tape,h.output,h.size,fun k hk=>h.block k (by omega) (fun e=>by have:=hF k e;omega)⟩
theorem Qj.more (h:Qj F w w') (hF:∀ k,F k->F' k):Qj F' w w' :=
 ⟨h.os,h.tape,h.output,h.size,fun k hk hn=>h.block k hk (fun e=>hn (hF k e))⟩
end
end Go.Proofs.YtfiflinbicbedaaGreat
namespace Go.Proofs.YtfiflinbicbedaaGreat
structure PS where
 size:Nat
 L:Int->List UInt8
 W:Int->Option (List UInt8)
 down:Bool
 fused:Bool
 fuse:Nat
namespace PS
def new (n:Nat):PS:=⟨n,fun _=>[],fun _=>none,false,false,0⟩
def has (s:PS) (n:Int):Bool:=decide (0<=n/\n<(s.size:Int))
def held (s:PS) (n:Int):List UInt8:=(s.W n).getD (s.L n)
def readE (s:PS) (n:Int):Int:=if s.down then 40 else if s.has n then 0 else 41
def readB (s:PS) (n:Int):List UInt8:=if s.down then [] else if s.has n then s.held n else []
def may (s:PS):Bool := !s.fused || s.fuse != 0
def acted (s:PS):PS:=if s.fused then (if s.fuse=0 then { s with down:=true } else { s with fuse:=s.fuse - 1 }) else s
def bad (s:PS) (n:Int) (l:List UInt8):Bool := !s.has n || decide (1024<l.length)
def writeE (s:PS) (n:Int) (l:List UInt8):Int:=if s.down then 40 else if s.bad n l then 41 else if s.may then 0 else 40
def lay (s:PS) (n:Int) (l:List UInt8):PS:={ s with W:=fun j=>if j=n then some l else s.W j }
def written (s:PS) (n:Int) (l:List UInt8):PS:=if s.down then s else if s.bad n l then s else if s.may then s.acted.lay n l else s.acted
def all (s:PS):PS:={ s with L:=s.held,W:=fun _=>none }
def kept (s:PS) (keep:List Int):PS:={ s with L:=fun j=>if j∈keep then s.held j else s.L j }
structure Ok (s:PS):Prop where
 l:∀ i,s.L i≠[]->0<=i/\i<(s.size:Int)
 w:∀ i,s.W i≠none->0<=i/\i<(s.size:Int)
 ll:∀ i,(s.L i).length<=1024
 wl:∀ i l,s.W i=some l->l.length<=1024
end PS
end Go.Proofs.YtfiflinbicbedaaGreat
namespace Go.Proofs.YtfiflinbicbedaaGreat
open Go.RowKit Go.Maps
section
variable {w w':World}
theorem Zu {base:Nat} {v:Value} {l:List UInt8} (h:Xr w base v l) (e:∀ k,v.ownBlock=some k->w'.heap[k]?=w.heap[k]?):Xr w' base v l:=by
 obtain ⟨h1,h2⟩:=h;refine ⟨h1,?_⟩;rcases h2 with h2 | ⟨g,cap,cur,hv,hg,hh,r⟩
 ·exact Or.inl h2
 ·exact Or.inr ⟨g,cap,cur,hv,hg,by rw [e g (by rw [hv];rfl)];exact hh,r⟩
theorem qi2 {base:Nat} {v:Value} {l:List UInt8} (h:Xr w base v l):Xr w 0 v l:=by
 obtain ⟨h1,h2⟩:=h;refine ⟨h1,?_⟩;rcases h2 with h2 | ⟨g,cap,cur,hv,hg,r⟩
 ·exact Or.inl h2
 ·exact Or.inr ⟨g,cap,cur,hv,wb3 _,r⟩
/-- The block of bytes of one's own is one of bytes. -/
theorem DF {base:Nat} {v:Value} {l:List UInt8} {k:Nat} (h:Xr w base v l) (e:v.ownBlock=some k):∃ cur,w.heap[k]?=some (.cells cur 5 (0,0)):=by
 rcases h.2 with ⟨rfl,_⟩ | ⟨g,cap,cur,hv,hg,hh,r⟩
 ·cases e
 ·rw [hv] at e
  injection e with e
  subst e;exact ⟨cur,hh⟩
theorem Je {base:Nat} {v:Value} {l:List UInt8} (h:Xr w base v l):∃ A c,v = .slice A l.length c/\l.length<=c/\(A=none->l.length=0/\c=0):=by
 rcases h.2 with ⟨rfl,h0⟩ | ⟨g,cap,cur,hv,_,_,hc,_⟩
 ·exact ⟨none,0,by rw [h0],by omega,fun _=>⟨h0,rfl⟩⟩
 ·exact ⟨_,_,hv,hc,fun e=>by cases e⟩
end
abbrev Ug:=Int->Option (Value×List UInt8)
def vals (g:Ug):Int->Option Value:=fun i=>(g i).map Prod.fst
def qn3 (g h:Ug) (S:Int->Int->Prop):Prop :=
 ∀ i j v l u m k,g i=some (v,l)->h j=some (u,m)->v.ownBlock=some k->u.ownBlock=some k->S i j
def VG (s:PS) (bl bw:Nat):Array Value:=#[.int .i64 s.size,.map (some bl),.map (some bw),.bool s.down,.bool s.fused,.int .i64 s.fuse]
structure Zf (w:World) (F:Nat->Prop) (S:Int->Prop) (db bl bw:Nat) (gL gW:Ug) (s:PS):Prop where
 str:w.heap[db]?=some (.cells (VG s bl bw) 146 (0,0))
 mL:Zl w bl (vals gL)
 mW:Zl w bw (vals gW)
 ne:bl≠bw
 fd:F db
 fl:F bl
 fw:F bw
 lt:∀ k,F k->k<w.heap.size
 oL:∀ i v l,gL i=some (v,l)->Xr w 0 v l/\l≠[]/\l.length<=1024/\(∀ k,v.ownBlock=some k->F k)/\0<=i/\i<(s.size:Int)
 oW:∀ i v l,gW i=some (v,l)->Xr w 0 v l/\l.length<=1024/\(∀ k,v.ownBlock=some k->F k)/\0<=i/\i<(s.size:Int)
 aL:qn3 gL gL (·=·)
 aW:qn3 gW gW (·=·)
 aX:qn3 gL gW (fun i j=>i=j/\S j)
 sL:∀ i,s.L i=((gL i).map Prod.snd).getD []
 sW:∀ i,s.W i=(gW i).map Prod.snd
 s2:2<=s.size
 s4:s.size<=4096
 fu:s.fuse<=9223372036854775807
def Dk (w:World) (F:Nat->Prop) (db:Nat) (s:PS):Prop:=∃ bl bw gL gW,Zf w F (fun _=>False) db bl bw gL gW s
section
variable {w w':World} {F F':Nat->Prop} {S S':Int->Prop} {db bl bw:Nat} {gL gW:Ug} {s:PS}
theorem Zf.same (h:Zf w F S db bl bw gL gW s) (e:∀ k,F k->w'.heap[k]?=w.heap[k]?) (hs:w.heap.size<=w'.heap.size):Zf w' F S db bl bw gL gW s :=
 {h with
  str:=(e db h.fd).trans h.str
  mL:=h.mL.block (e bl h.fl)
  mW:=h.mW.block (e bw h.fw)
  lt:=fun k hk=>wa3 (h.lt k hk) hs
  oL:=fun i v l hi=>by
   obtain ⟨o,r1,r2,r3,r4⟩:=h.oL i v l hi;exact ⟨Zu o (fun k hk=>e k (r3 k hk)),r1,r2,r3,r4⟩
  oW:=fun i v l hi=>by
   obtain ⟨o,r2,r3,r4⟩:=h.oW i v l hi;exact ⟨Zu o (fun k hk=>e k (r3 k hk)),r2,r3,r4⟩ }
theorem Dk.kept {G:Nat->Prop} (h:Dk w F db s) (hk:Qj G w w') (hd:∀ k,F k->¬ G k):Dk w' F db s:=by
 obtain ⟨bl,bw,gL,gW,h⟩:=h;exact ⟨bl,bw,gL,gW,h.same (fun k hF=>hk.block k (h.lt k hF) (hd k hF)) hk.size⟩
theorem Dk.below (h:Dk w F db s) (hb:Below w.heap.size w w'):Dk w' F db s:=by
 obtain ⟨bl,bw,gL,gW,h⟩:=h;exact ⟨bl,bw,gL,gW,h.same (fun k hF=>hb.block k (h.lt k hF)) hb.size⟩
theorem qf2:(5:TypeId)≠146:=by decide
theorem Zf.own_ne (h:Zf w F S db bl bw gL gW s) {base:Nat} {v:Value} {l:List UInt8} {k:Nat} (o:Xr w base v l) (e:v.ownBlock=some k):k≠db/\k≠bl/\k≠bw:=by
 obtain ⟨cur,hc⟩:=DF o e;refine ⟨fun e1=>?_,fun e1=>?_,fun e1=>?_⟩
 ·subst e1
  rw [h.str] at hc;injection hc with hc
  injection hc with _ hc
  exact qf2 hc.symm
 ·subst e1
  obtain ⟨es,c,hm⟩:=h.mL.isMap;rw [hm] at hc;cases hc
 ·subst e1
  obtain ⟨es,c,hm⟩:=h.mW.isMap;rw [hm] at hc;cases hc
theorem Zf.db_ne (h:Zf w F S db bl bw gL gW s):bl≠db/\bw≠db:=by
 refine ⟨fun e=>?_,fun e=>?_⟩
 ·obtain ⟨es,c,hm⟩:=h.mL.isMap
  rw [e,h.str] at hm;cases hm
 ·obtain ⟨es,c,hm⟩:=h.mW.isMap
  rw [e,h.str] at hm;cases hm
/-- The struct's own fields are written. -/
theorem Zf.field (h:Zf w F S db bl bw gL gW s) {d f:Bool} {n:Nat} (hn:n<=9223372036854775807)
 (hd:w'.heap[db]?=some (.cells (VG { s with down:=d,fused:=f,fuse:=n } bl bw) 146 (0,0))) (ho:∀ k,k≠db->w'.heap[k]?=w.heap[k]?) (hs:w.heap.size<=w'.heap.size) :
 Zf w' F S db bl bw gL gW { s with down:=d,fused:=f,fuse:=n } :=
 {h with
  str:=hd
  mL:=h.mL.block (ho _ h.db_ne.1)
  mW:=h.mW.block (ho _ h.db_ne.2)
  lt:=fun k hk=>wa3 (h.lt k hk) hs
  oL:=fun i v l hi=>by
   obtain ⟨o,r⟩:=h.oL i v l hi;exact ⟨Zu o (fun k hk=>ho k (h.own_ne o hk).1),r⟩
  oW:=fun i v l hi=>by
   obtain ⟨o,r⟩:=h.oW i v l hi;exact ⟨Zu o (fun k hk=>ho k (h.own_ne o hk).1),r⟩
  fu:=hn }
theorem Zf.putW (h:Zf w F S db bl bw gL gW s) {gW':Ug} {W':Int->Option (List UInt8)} (hg:w.grownBy w' (some bw)) (hm:Zl w' bw (vals gW'))
 (oW':∀ i v l,gW' i=some (v,l)->Xr w 0 v l/\l.length<=1024/\(∀ k,v.ownBlock=some k->F k)/\0<=i/\i<(s.size:Int))
 (aW':qn3 gW' gW' (·=·)) (aX':qn3 gL gW' (fun i j=>i=j/\S' j)) (sW':∀ i,W' i=(gW' i).map Prod.snd):Zf w' F S' db bl bw gL gW' { s with W:=W' }:=by
 have ho:∀ k,k<w.heap.size->k≠bw->w'.heap[k]?=w.heap[k]?:=fun k hk hne=>hg.block k hk (fun e=>hne (by injection e));exact { h with
  str:=(ho _ (h.lt _ h.fd) h.db_ne.2.symm).trans h.str
  mL:=h.mL.block (ho _ (h.lt _ h.fl) h.ne)
  mW:=hm
  lt:=fun k hk=>wa3 (h.lt k hk) hg.size
  oL:=fun i v l hi=>by
   obtain ⟨o,r1,r2,r3,r⟩:=h.oL i v l hi;exact ⟨Zu o (fun k hk=>ho k (h.lt k (r3 k hk)) (h.own_ne o hk).2.2),r1,r2,r3,r⟩
  oW:=fun i v l hi=>by
   obtain ⟨o,r2,r3,r⟩:=oW' i v l hi;exact ⟨Zu o (fun k hk=>ho k (h.lt k (r3 k hk)) (h.own_ne o hk).2.2),r2,r3,r⟩
  aW:=aW'
  aX:=aX'
  sW:=sW' }
theorem Zf.more (h:Zf w F S db bl bw gL gW s) (hF:∀ k,F k->F' k) (hl:∀ k,F' k->k<w.heap.size):Zf w F' S db bl bw gL gW s :=
 {h with
  fd:=hF _ h.fd
  fl:=hF _ h.fl
  fw:=hF _ h.fw
  lt:=hl
  oL:=fun i v l hi=>by
   obtain ⟨o,r1,r2,r3,r⟩:=h.oL i v l hi;exact ⟨o,r1,r2,fun k hk=>hF k (r3 k hk),r⟩
  oW:=fun i v l hi=>by
   obtain ⟨o,r2,r3,r⟩:=h.oW i v l hi;exact ⟨o,r2,fun k hk=>hF k (r3 k hk),r⟩ }
theorem Zf.cell (h:Zf w F S db bl bw gL gW s) (j:Nat) {v:Value} (e:(VG s bl bw)[j]?=some v):w.cell? ⟨db,j,none⟩=some v:=(cell_of_row w db j _ _ _ h.str).trans e
theorem Zf.free (h:Zf w F S db bl bw gL gW s) (j:Nat):w.frozen? ⟨db,j,none⟩=false:=frozen_of_row w db j _ _ h.str
theorem Zf.ok (h:Zf w F S db bl bw gL gW s):s.Ok where
 l i hi:=by
   rw [h.sL] at hi;cases hg:gL i with
   | none=>rw [hg] at hi;exact absurd rfl hi
   | some p=>obtain ⟨_,_,_,_,r⟩:=h.oL i p.1 p.2 hg;exact r
 w i hi:=by
   rw [h.sW] at hi;cases hg:gW i with
   | none=>rw [hg] at hi;exact absurd rfl hi
   | some p=>obtain ⟨_,_,_,r⟩:=h.oW i p.1 p.2 hg;exact r
 ll i:=by
  rw [h.sL];cases hg:gL i with
  | none=>simp
  | some p=>obtain ⟨_,_,r,_⟩:=h.oL i p.1 p.2 hg;simpa using r
 wl i l hl:=by
  rw [h.sW] at hl;cases hg:gW i with
  | none=>rw [hg] at hl;cases hl
  | some p =>
    obtain ⟨_,r,_⟩:=h.oW i p.1 p.2 hg;rw [hg] at hl;obtain rfl:p.2=l:=(by simpa using hl);exact r
end
def Goes (w:World) (F:Nat->Prop) (db:Nat) (s':PS) (v:Value) (e:Ending) (w':World):Prop :=
 e = .returned v/\∃ F',Dk w' F' db s'/\(∀ k,F' k->F k\/w.heap.size<=k)/\Qj F w w'
end Go.Proofs.YtfiflinbicbedaaGreat
namespace Go.Proofs.YtfiflinbicbedaaGreat
open Go.RowKit Go.Maps
theorem XJ (w:World) (db:Nat) (s:PS) (n:Int) (c0:w.cell? ⟨db,0,none⟩=some (.int .i64 s.size)) :
 Calls Tryz.prog 50 #[.pointer (some ⟨db,0,none⟩),.int .i64 n] w fun e w'=>e = .returned (.bool (s.has n))/\w=w':=by
 by_cases h0:0<=n
 ·go_enter Tryz.func50,Tryz.ntmps50
  go_wp2_with fail;go_ret;refine ⟨Qi ?_,rfl⟩;simp [PS.has,h0]
 ·go_enter Tryz.func50,Tryz.ntmps50
  go_wp2_with fail;go_ret;refine ⟨Qi ?_,rfl⟩;unfold PS.has;rw [eq_comm,decide_eq_false_iff_not];omega
def BV (gL gW:Ug) (n:Int):Value:=((vals gW n).getD ((vals gL n).getD (.slice none 0 0)))
section
variable {F:Nat->Prop} {S:Int->Prop} {db bl bw:Nat} {gL gW:Ug} {s:PS}
theorem qS4 (w:World) (n:Int) (h1 : -9223372036854775808<=n) (h2:n<=9223372036854775807) (h:Zf w F S db bl bw gL gW s) :
 Calls Tryz.prog 51 #[.pointer (some ⟨db,0,none⟩),.int .i64 n] w fun e w'=>e = .returned (BV gL gW n)/\w=w':=by
 have c1:=h.cell 1 (v := .map (some bl)) rfl;have c2:=h.cell 2 (v := .map (some bw)) rfl;have k1:=h.mL.look1 h1 h2;have k2:=h.mW.look h1 h2;unfold BV;cases hW:vals gW n with
 | none =>
   rw [hW] at k2;simp only [Option.getD_none,Option.isSome_none] at k2;clear h hW;generalize (vals gL n).getD (.slice none 0 0)=v at *;go_enter Tryz.func51,Tryz.ntmps51;go_wp2_with fail;go_ret;exact ⟨rfl,rfl⟩
 | some v =>
   rw [hW] at k2;simp only [Option.getD_some,Option.isSome_some] at k2;clear h hW k1;go_enter Tryz.func51,Tryz.ntmps51;go_wp2_with fail;go_ret;exact ⟨rfl,rfl⟩
theorem Zf.held_own {w:World} (h:Zf w F S db bl bw gL gW s) (n:Int):Xr w 0 (BV gL gW n) (s.held n)/\(∀ k,(BV gL gW n).ownBlock=some k->F k):=by
 unfold BV PS.held vals;rw [h.sW,h.sL];cases hW:gW n with
 | some p =>
   obtain ⟨o,_,r,_⟩:=h.oW n p.1 p.2 hW;exact ⟨o,r⟩
 | none =>
   cases hL:gL n with
   | some p =>
     obtain ⟨o,_,_,r,_⟩:=h.oL n p.1 p.2 hL;exact ⟨o,r⟩
   | none=>exact ⟨Xp _ _,fun k hk=>by cases hk⟩
theorem PS.held_le {s:PS} (h:s.Ok) (n:Int):(s.held n).length<=1024:=by
 unfold PS.held;cases hW:s.W n with
 | some l=>exact h.wl n l hW
 | none=>exact h.ll n
theorem qz1 (w:World) (h:Zf w F S db bl bw gL gW s) :
 Calls Tryz.prog 87 #[.pointer (some ⟨db,0,none⟩)] w fun e w'=>e = .returned (.bool s.may)/\Zf w' F S db bl bw gL gW s.acted/\Qj F w w':=by
 have c4:=h.cell 4 (v := .bool s.fused) rfl;have c5:=h.cell 5 (v := .int .i64 s.fuse) rfl;have c3:=h.cell 3 (v := .bool s.down) rfl;have f3:=h.free 3;have f5:=h.free 5;have HD:=iQ h;have hfu:=h.fu;clear h;by_cases hf:s.fused=true
 ·rw [hf] at c4
  by_cases h0:s.fuse=0
  ·rw [h0] at c5
   have HF:=iQ hf;have H0:=iQ h0;clear hf h0 hfu;go_enter Tryz.func87,Tryz.ntmps87;go_wp2_with fail;go_ret;have h:=HD.out;refine ⟨Qi ?_,?_,Qj.setCell _ h.fd _⟩
   ·simp [PS.may,HF.out,H0.out]
   ·have:=h.field (w':=w.setCell ⟨db,3,none⟩ (.bool true)) (d:=true) (f:=s.fused) (n:=s.fuse) h.fu (by rw [Joins.block_setCell h.str];rfl) (fun k hk=>Below.heap_setCell _ _ _ _ hk) (by simp [World.setCell])
    unfold PS.acted;rw [if_pos HF.out,if_pos H0.out];exact this
  ·have hb:((s.fuse:Int)==0)=false:=by rw [beq_eq_false_iff_ne];omega
   have HF:=iQ hf;clear hf;go_enter Tryz.func87,Tryz.ntmps87;go_wp2_with fail;go_ret;have h:=HD.out;refine ⟨Qi ?_,?_,Qj.setCell _ h.fd _⟩
   ·simp [PS.may,h0]
   ·have:=h.field (w':=w.setCell ⟨db,5,none⟩ (.int .i64 ((s.fuse - 1:Nat):Int))) (d:=s.down) (f:=s.fused) (n:=s.fuse - 1) (by omega) (by rw [Joins.block_setCell h.str];rfl) (fun k hk=>Below.heap_setCell _ _ _ _ hk) (by simp [World.setCell])
    unfold PS.acted;rw [if_pos HF.out,if_neg h0];rw [show ((s.fuse - 1:Nat):Int)=(s.fuse:Int) - 1 by omega] at this;exact this
 ·have hf':s.fused=false:=by simpa using hf
  rw [hf'] at c4;have HF:=iQ hf';clear hf hf';go_enter Tryz.func87,Tryz.ntmps87;go_wp2_with fail;go_ret;refine ⟨Qi ?_,?_,Qj.refl _ _⟩
  ·simp [PS.may,HF.out]
  ·unfold PS.acted
   rw [if_neg (by rw [HF.out];decide)];exact HD.out
end
end Go.Proofs.YtfiflinbicbedaaGreat
namespace Go.Proofs.YtfiflinbicbedaaGreat
open Go.RowKit Go.Maps
section
variable (w:World) {ops:Array Oper} {rest:List Oper} {o:Oper} {a:Act} {Q:Exit->Act->World->Prop}
end
def qA3 (g:Ug) (i:Int) (p:Option (Value×List UInt8)):Ug:=fun j=>if j=i then p else g j
theorem qA2 (g:Ug) (i:Int) (p:Option (Value×List UInt8)):vals (qA3 g i p)=upd (vals g) i (p.map Prod.fst):=by
 funext j;unfold vals qA3 upd;by_cases h:j=i<;>simp [h]
theorem Un {g:Ug} {i j:Int} {p:Option (Value×List UInt8)} {q:Value×List UInt8} (h:qA3 g i p j=some q):(j=i/\p=some q)\/(j≠i/\g j=some q):=by
 unfold qA3 at h;by_cases e:j=i
 ·rw [if_pos e] at h
  exact Or.inl ⟨e,h⟩
 ·rw [if_neg e] at h
  exact Or.inr ⟨e,h⟩
section
variable {F:Nat->Prop} {S:Int->Prop} {db bl bw:Nat} {gL gW:Ug} {s:PS}
end
end Go.Proofs.YtfiflinbicbedaaGreat
namespace Go.Proofs.YtfiflinbicbedaaGreat
open Go.RowKit
theorem qu2 (ad:Addr) (n c R:Nat) (l:List UInt8) (w:World) (hx:Xc w R (some ad) l) (e:l.length=n) (hn:n<=1000000) :
 Calls Tryz.prog 125 #[.slice (some ad) n c] w (XB w.heap.size w l):=by
 have E:=iQ e;clear e;have hne:=fun W=>Lib.run_eql_slice_nil (P:=Tryz.prog) W 109;obtain ⟨i0,hi,hz0,hz1,hz2⟩:=info_parts QX;have hown0:(w.alloc (.cells #[] 5)).ownsRow w.heap.size 5 1 (.slice (some ⟨w.heap.size,0,none⟩) 0 0) 0 []:=World.ownsRow_made w #[] 0 (wa2 _) (by unfold maxLen;omega) rfl;go_enter Tryz.func125,Tryz.ntmps125;go_wp2_with (at_builtin;refine wpList_append_own _ rfl (.tmp 5) (.tmp 6) 109 rfl w.heap.size 5 i0 (.int .u8 0) 1 1 Tryz.underlying109 hi hz0 hz1 hz2 rfl (by decide) _ _ _ rfl hown0 ad n c (bv l) rfl (by rw [QF,E.out];omega) (hx.alloc _).cells (MK _) (by unfold maxLen;omega) (by omega) (by simp) ?_;intro v1 w1 hown1 hg1 _);have b1:Below w.heap.size w w1:=((Below.refl _ _).alloc (wa2 _) _).grown hg1 (by simp) (fun g hg=>(hown0.lt g hg).1);go_ret;refine ⟨_,rfl,?_,b1⟩;unfold Xr;rw [E.out];simpa using hown1
theorem qF9 (w:World):Calls Tryz.prog 125 #[.slice none 0 0] w (XB w.heap.size w []):=by
 have hne:=fun W=>Lib.run_eql_slice_nil (P:=Tryz.prog) W 109;go_enter Tryz.func125,Tryz.ntmps125;go_wp2_with fail;go_ret;exact ⟨_,rfl,Xp _ _,Below.refl _ _⟩
theorem Uy (A:Option Addr) (n c R:Nat) (l:List UInt8) (w:World) (hx:Xc w R A l) (e:l.length=n) (hn:n<=1000000) (hz:A=none->n=0/\c=0) :
 Calls Tryz.prog 125 #[.slice A n c] w (XB w.heap.size w l):=by
 rcases A with _ | ad
 ·obtain ⟨rfl,rfl⟩:=hz rfl
  obtain rfl:=hx.none_;exact qF9 w
 ·exact qu2 ad n c R l w hx e hn
end Go.Proofs.YtfiflinbicbedaaGreat
namespace Go.Proofs.YtfiflinbicbedaaGreat
open Go.RowKit Go.Maps
def Out (w:World) (F:Nat->Prop) (A:Option Addr) (l:List UInt8):Prop :=
 l=[]\/∃ b off,A=some ⟨b,off,none⟩/\¬ F b/\∀ i z,l[i]?=some z->w.cell? ⟨b,off+i,none⟩=some (.int .u8 z.toNat)
section
variable {w w':World} {F F':Nat->Prop} {A:Option Addr} {l:List UInt8}
theorem Out.bys (h:Out w F A l):Xc w w.heap.size A l:=by
 rcases l with _ | ⟨y,l⟩
 ·exact Or.inl rfl
 ·rcases h with h | ⟨b,off,e,_,hc⟩
  ·cases h
  ·exact Or.inr ⟨b,off,e,World.block_lt_of_cell? _ _ (hc 0 y rfl),hc⟩
theorem Out.kept (h:Out w F A l) (hk:Qj F w w'):Out w' F A l:=by
 rcases h with h | ⟨b,off,e,hF,hc⟩
 ·exact Or.inl h
 ·refine Or.inr ⟨b,off,e,hF,fun i z hz=>?_⟩
  have h0:=hc i z hz;have hb:=World.block_lt_of_cell? _ _ h0;exact (World.cell?_of_block (w:=w) (hk.block b hb hF)).trans h0
end
def Made (w:World) (n:Nat) (e:Ending) (w':World):Prop :=
 ∃ db F,e = .returned (.tuple #[.pointer (some ⟨db,0,none⟩),.int .i64 0])/\Dk w' F db (PS.new n)/\(∀ k,F k->w.heap.size<=k)/\Below w.heap.size w w'
theorem zb4 (w:World) (n:Nat) (h2:2<=n) (h4:n<=4096) :
 Dk (((w.alloc (.map #[] 0)).alloc (.map #[] 0)).alloc (.cells #[.int .i64 n,.map (some w.heap.size),.map (some (w.heap.size+1)),.bool false,.bool false,.int .i64 0] 146)) (fun k=>w.heap.size<=k/\k<w.heap.size+3) (w.heap.size+2) (PS.new n):=by
 refine ⟨w.heap.size,w.heap.size+1,fun _=>none,fun _=>none,?_⟩;have m0:=Vs w;have m1:=Vs (w.alloc (.map #[] 0));rw [show (w.alloc (.map #[] 0)).heap.size=w.heap.size+1 by simp] at m1;have e0:∀ o,((w.alloc (.map #[] 0)).alloc o).heap[w.heap.size]?=(w.alloc (.map #[] 0)).heap[w.heap.size]?:=fun o=>Below.heap_alloc _ _ _ (by simp);have e1:∀ (w:World) o k,k<w.heap.size->(w.alloc o).heap[k]?=w.heap[k]?:=fun w o k hk=>Below.heap_alloc _ _ _ hk;exact
  {str:=by
    have:=heap_alloc_new ((w.alloc (.map #[] 0)).alloc (.map #[] 0)) (.cells #[.int .i64 n,.map (some w.heap.size),.map (some (w.heap.size+1)),.bool false,.bool false,.int .i64 0] 146);rw [show ((w.alloc (.map #[] 0)).alloc (.map #[] 0)).heap.size=w.heap.size+2 by simp] at this;exact this
   mL:=(m0.block (e0 _)).block (e1 _ _ _ (by simp;omega))
   mW:=m1.block (e1 _ _ _ (by simp))
   ne:=by omega
   fd:=by omega
   fl:=by omega
   fw:=by omega
   lt:=fun k hk=>by simp;omega
   oL:=fun i v l hi=>by cases hi
   oW:=fun i v l hi=>by cases hi
   aL:=fun i j v l u m k hi=>by cases hi
   aW:=fun i j v l u m k hi=>by cases hi
   aX:=fun i j v l u m k hi=>by cases hi
   sL:=fun i=>rfl
   sW:=fun i=>rfl
   s2:=h2
   s4:=h4
   fu:=by show 0<=_;omega }
theorem qP7 (w:World) (n:Nat) (h2:2<=n) (h4:n<=4096):Calls Tryz.prog 52 #[.int .i64 n] w (Made w n):=by
 have HM:=iQ (zb4 w n h2 h4);have hmm:=@run_makeMap Tryz.prog;go_enter Tryz.func52,Tryz.ntmps52;go_wp2_with fail;go_ret2;exact ⟨w.heap.size+2,_,rfl,HM.out,fun k hk=>hk.1,(((Below.refl _ _).alloc (wa2 _) _).alloc (by simp) _).alloc (by simp;omega) _⟩
section
variable {F:Nat->Prop} {db:Nat} {s:PS}
def zg6 (w:World) (l:List UInt8) (err:Int) (e:Ending) (w':World):Prop :=
 ∃ A c,e = .returned (.tuple #[.slice A l.length c,.int .i64 err])/\Xr w' w.heap.size (.slice A l.length c) l/\Below w.heap.size w w'
theorem qN0 (w:World) (n:Int) (h1 : -9223372036854775808<=n) (h2:n<=9223372036854775807) (h:Dk w F db s) :
 Calls Tryz.prog 198 #[.pointer (some ⟨db,0,none⟩),.int .i64 n] w (zg6 w (s.readB n) (s.readE n)):=by
 obtain ⟨bl,bw,gL,gW,h⟩:=h;have c0:=h.cell 0 (v := .int .i64 s.size) rfl;have c3:=h.cell 3 (v := .bool s.down) rfl;have HD:=iQ h;by_cases hd:s.down=true
 ·rw [hd] at c3
  have eB:s.readB n=[]:=by unfold PS.readB;rw [if_pos hd]
  have eE:s.readE n=40:=by unfold PS.readE;rw [if_pos hd]
  rw [eB,eE];clear h eB eE hd c0;go_enter Tryz.func198,Tryz.ntmps198;go_wp2_with fail;go_ret2;exact ⟨none,0,rfl,Xp _ _,Below.refl _ _⟩
 ·have hd':s.down=false:=by simpa using hd
  rw [hd'] at c3;by_cases hh:s.has n=true
  ·have eB:s.readB n=s.held n:=by unfold PS.readB;rw [if_neg hd,if_pos hh]
   have eE:s.readE n=0:=by unfold PS.readE;rw [if_neg hd,if_pos hh]
   rw [eB,eE];have HC:Hid (Calls Tryz.prog 50 #[.pointer (some ⟨db,0,none⟩),.int .i64 n] w fun e w'=>e = .returned (.bool true)/\w=w'):=hh ▸ XJ w db s n c0;have hl:=PS.held_le h.ok n;clear h eB eE hd hd' hh;go_enter Tryz.func198,Tryz.ntmps198;go_wp2_with fail;refine HC.out.mono ?_;rintro e w' ⟨rfl,rfl⟩;go_wp2_with fail;refine (qS4 w n h1 h2 HD.out).mono ?_;rintro e w' ⟨rfl,rfl⟩;have ho:=(HD.out.held_own n).1;generalize BV gL gW n=v at *;obtain ⟨A,c,rfl,hc,hz⟩:=Je ho;go_wp2_with fail;refine (Uy A _ c _ (s.held n) w (GK ho) rfl (by omega) hz).mono ?_;rintro e w1 ⟨v1,rfl,o1,b1⟩;obtain ⟨A1,cc,rfl,_,_⟩:=Je o1;clear ho hz hc;go_wp2_with fail;go_ret2;exact ⟨A1,cc,rfl,o1,b1⟩
  ·have hh':s.has n=false:=by simpa using hh
   have eB:s.readB n=[]:=by unfold PS.readB;rw [if_neg hd,if_neg hh]
   have eE:s.readE n=41:=by unfold PS.readE;rw [if_neg hd,if_neg hh]
   rw [eB,eE];have HC:Hid (Calls Tryz.prog 50 #[.pointer (some ⟨db,0,none⟩),.int .i64 n] w fun e w'=>e = .returned (.bool false)/\w=w'):=hh' ▸ XJ w db s n c0;clear h eB eE hd hd' hh hh';go_enter Tryz.func198,Tryz.ntmps198;go_wp2_with fail;refine HC.out.mono ?_;rintro e w' ⟨rfl,rfl⟩;go_wp2_with fail;go_ret2;exact ⟨none,0,rfl,Xp _ _,Below.refl _ _⟩
end
end Go.Proofs.YtfiflinbicbedaaGreat
namespace Go.Proofs.YtfiflinbicbedaaGreat
open Go.RowKit Go.Maps
section
variable {F:Nat->Prop} {db bl bw:Nat} {gL gW:Ug} {s:PS}
theorem Zf.laid {w w2 w3:World} {n:Int} {v:Value} {l:List UInt8} (h:Zf w F (fun _=>False) db bl bw gL gW s) (hn:0<=n/\n<(s.size:Int)) (hl:l.length<=1024)
 (hb:Below w.heap.size w w2) (ho:Xr w2 w.heap.size v l) (hm:Zl w3 bw (upd (vals gW) n (some v))) (hg:w2.grownBy w3 (some bw)) :
 Zf w3 (fun k=>F k\/(w.heap.size<=k/\k<w2.heap.size)) (fun _=>False) db bl bw gL (qA3 gW n (some (v,l))) (s.lay n l):=by
 have h2:Zf w2 (fun k=>F k\/(w.heap.size<=k/\k<w2.heap.size)) (fun _=>False) db bl bw gL gW s :=
  (h.same (fun k hk=>hb.block k (h.lt k hk)) hb.size).more (fun k hk=>Or.inl hk) (fun k hk=>by
    rcases hk with hk | hk
    ·exact wa3 (h.lt k hk) hb.size
    ·exact hk.2)
 refine h2.putW hg (by rw [qA2];exact hm) ?_ ?_ ?_ ?_
 ·intro i u m hi
  rcases Un hi with ⟨rfl,e⟩ | ⟨_,e⟩
  ·injection e with e
   injection e with e1 e2
   subst e1;subst e2;exact ⟨qi2 ho,hl,fun k hk=>Or.inr (ho.lt k hk),hn⟩
  ·exact h2.oW i u m e
 ·intro i j v1 l1 u m k h1 h2 h3 h4
  rcases Un h1 with ⟨e0,e⟩ | ⟨n1,e1⟩
  ·rcases Un h2 with ⟨e0',_⟩ | ⟨n2,e2⟩
   ·exact e0.trans e0'.symm
   ·injection e with e
    injection e with e3 e4
    subst e3;have:=h.lt k ((h.oW j u m e2).2.2.1 k h4);have:=(ho.lt k h3).1;omega
  ·rcases Un h2 with ⟨e0',e⟩ | ⟨_,e2⟩
   ·injection e with e
    injection e with e3 e4
    subst e3;have:=h.lt k ((h.oW i v1 l1 e1).2.2.1 k h3);have:=(ho.lt k h4).1;omega
   ·exact h.aW i j v1 l1 u m k e1 e2 h3 h4
 ·intro i j v1 l1 u m k h1 h2 h3 h4
  rcases Un h2 with ⟨e0,e⟩ | ⟨n1,e1⟩
  ·injection e with e
   injection e with e3 e4
   subst e3;have:=h.lt k ((h.oL i v1 l1 h1).2.2.2.1 k h3);have:=(ho.lt k h4).1;omega
  ·exact h.aX i j v1 l1 u m k h1 e1 h3 h4
 ·intro i
  unfold qA3;by_cases e:i=n
  ·rw [if_pos e,if_pos e]
   rfl
  ·rw [if_neg e,if_neg e]
   exact h.sW i
theorem qI8 {w w':World} (h:Below w.drew.heap.size w.drew w'):Below w.heap.size w w':=⟨h.os,h.tape,h.output,h.size,h.block⟩
theorem PS.acted_size (s:PS):s.acted.size=s.size:=by
 unfold PS.acted;split
 ·split<;>rfl
 ·rfl
theorem PS.has_iff {s:PS} {n:Int}:s.has n=true ↔ 0<=n/\n<(s.size:Int):=by unfold PS.has;exact decide_eq_true_iff
theorem qz9 (w:World) (n:Int) (h1 : -9223372036854775808<=n) (h2:n<=9223372036854775807) (A:Option Addr) (m c:Nat) (l:List UInt8) (hl:l.length=m) (hx:Out w F A l) (hz:A=none->m=0/\c=0) (h:Dk w F db s) :
 Calls Tryz.prog 86 #[.pointer (some ⟨db,0,none⟩),.int .i64 n,.slice A m c] w (Goes w F db (s.written n l) (.int .i64 (s.writeE n l))):=by
 have h0:=h;obtain ⟨bl,bw,gL,gW,h⟩:=h;have c0:=h.cell 0 (v := .int .i64 s.size) rfl;have c3:=h.cell 3 (v := .bool s.down) rfl;have HD:=iQ h;have HZ:=iQ hz;have HX:=iQ hx;have HL:=iQ hl;have H0:=iQ h0;clear hz hx h0;by_cases hd:s.down=true
 ·rw [hd] at c3
  have eB:s.written n l=s:=by unfold PS.written;rw [if_pos hd]
  have eE:s.writeE n l=40:=by unfold PS.writeE;rw [if_pos hd]
  rw [eB,eE];clear h eB eE hd c0 hl;go_enter Tryz.func86,Tryz.ntmps86;go_wp2_with fail;go_ret;exact ⟨rfl,F,H0.out,fun k hk=>Or.inl hk,Qj.refl _ _⟩
 ·have hd':s.down=false:=by simpa using hd
  rw [hd'] at c3;by_cases hb:s.bad n l=true
  ·have eB:s.written n l=s:=by unfold PS.written;rw [if_neg hd,if_pos hb]
   have eE:s.writeE n l=41:=by unfold PS.writeE;rw [if_neg hd,if_pos hb]
   rw [eB,eE];unfold PS.bad at hb;by_cases hh:s.has n=true
   ·have HC:Hid (Calls Tryz.prog 50 #[.pointer (some ⟨db,0,none⟩),.int .i64 n] w fun e w'=>e = .returned (.bool true)/\w=w'):=hh ▸ XJ w db s n c0
    have hm:1024<m:=by rw [hh] at hb;simp at hb;omega
    clear h eB eE hd hd' hh hb hl;go_enter Tryz.func86,Tryz.ntmps86;go_wp2_with fail;refine HC.out.mono ?_;rintro e w' ⟨rfl,rfl⟩;go_wp2_with fail;go_ret;exact ⟨rfl,F,H0.out,fun k hk=>Or.inl hk,Qj.refl _ _⟩
   ·have hh':s.has n=false:=by simpa using hh
    have HC:Hid (Calls Tryz.prog 50 #[.pointer (some ⟨db,0,none⟩),.int .i64 n] w fun e w'=>e = .returned (.bool false)/\w=w'):=hh' ▸ XJ w db s n c0;clear h eB eE hd hd' hh hh' hb hl;go_enter Tryz.func86,Tryz.ntmps86;go_wp2_with fail;refine HC.out.mono ?_;rintro e w' ⟨rfl,rfl⟩;go_wp2_with fail;go_ret;exact ⟨rfl,F,H0.out,fun k hk=>Or.inl hk,Qj.refl _ _⟩
  ·have hb':=hb
   unfold PS.bad at hb';have hh:s.has n=true:=by
    cases e:s.has n with
    | true=>rfl
    | false=>rw [e] at hb';simp at hb'
   have hm:m<=1024:=by rw [hh] at hb';simp at hb';omega
   have hn:=PS.has_iff.1 hh;have hs4:=h.s4;have HC:Hid (Calls Tryz.prog 50 #[.pointer (some ⟨db,0,none⟩),.int .i64 n] w fun e w'=>e = .returned (.bool true)/\w=w'):=hh ▸ XJ w db s n c0;by_cases hmay:s.may=true
   ·have eB:s.written n l=s.acted.lay n l:=by unfold PS.written;rw [if_neg hd,if_neg hb,if_pos hmay]
    have eE:s.writeE n l=0:=by unfold PS.writeE;rw [if_neg hd,if_neg hb,if_pos hmay]
    rw [eB,eE];have HA:Hid (Calls Tryz.prog 87 #[.pointer (some ⟨db,0,none⟩)] w fun e w'=>e = .returned (.bool true)/\Zf w' F (fun _=>False) db bl bw gL gW s.acted/\Qj F w w'):=hmay ▸ qz1 w h;have HN:Hid (0<=n/\n<(s.acted.size:Int)):=by rw [PS.acted_size];exact hn
    clear h eB eE hd hd' hh hb hb' hmay;go_enter Tryz.func86,Tryz.ntmps86;go_wp2_with fail;refine HC.out.mono ?_;rintro e w' ⟨rfl,rfl⟩;go_wp2_with fail;refine HA.out.mono ?_;rintro e w1 ⟨rfl,hd1,hk1⟩;have c2:=hd1.cell 2 (v := .map (some bw)) rfl;have HD1:=iQ hd1;have LZ:=iQ hk1;have UD:=iQ (HX.out.kept hk1).bys;clear hd1 hk1 c0 c3 HC HA HX hl;go_wp2_with fail;have K0:w1.drew.cell? ⟨db,2,none⟩=some (.map (some bw)):=c2;go_region_held3 (fun w'=>w'.cell? ⟨db,2,none⟩=some (.map (some bw)))
     (first | exact K2 | exact K1 | exact K0)
     (first
       | (go_at_call 125;refine (Uy A m c _ l w1.drew UD.out HL.out (by omega) HZ.out).mono ?_;rintro e w2 ⟨v,rfl,ho,hbl⟩;have K1:w2.cell? ⟨db,2,none⟩=some (.map (some bw)):=(hbl.cell (World.block_lt_of_cell? _ _ K0)).trans K0;obtain ⟨w3,hrun,hm3,hg3⟩:=(HD1.out.mW.block (hbl.block _ (HD1.out.lt _ HD1.out.fw))).put (i:=n) (by omega) (by omega) v;have K2:w3.cell? ⟨db,2,none⟩=some (.map (some bw)):=(World.cell?_of_block (w:=w2) (hg3.block db (World.block_lt_of_cell? _ _ K1) (fun e=>HD1.out.db_ne.2 (wa0 e).symm))).trans K1))
    go_wp2_with fail;go_ret;have hbu:=qI8 hbl;have hou:Xr w2 w1.heap.size v l:=ho;refine ⟨rfl,_,⟨_,_,_,_,HD1.out.laid HN.out (by rw [HL.out];omega) hbu hou hm3 hg3⟩,fun k hk=>?_,LZ.out.next ((Qj.below (w:=w1) hbu F).next (Qj.grown hg3 HD1.out.fw))⟩
    rcases hk with hk | hk
    ·exact Or.inl hk
    ·exact Or.inr (wa9 LZ.out.size hk.1)
   ·have zi0:s.may=false:=by simpa using hmay
    have eB:s.written n l=s.acted:=by unfold PS.written;rw [if_neg hd,if_neg hb,if_neg hmay]
    have eE:s.writeE n l=40:=by unfold PS.writeE;rw [if_neg hd,if_neg hb,if_neg hmay]
    rw [eB,eE];have HA:Hid (Calls Tryz.prog 87 #[.pointer (some ⟨db,0,none⟩)] w fun e w'=>e = .returned (.bool false)/\Zf w' F (fun _=>False) db bl bw gL gW s.acted/\Qj F w w'):=zi0 ▸ qz1 w h;clear h eB eE hd hd' hh hb hb' hmay zi0 hl;go_enter Tryz.func86,Tryz.ntmps86;go_wp2_with fail;refine HC.out.mono ?_;rintro e w' ⟨rfl,rfl⟩;go_wp2_with fail;refine HA.out.mono ?_;rintro e w1 ⟨rfl,hd1,hk1⟩;go_wp2_with fail;go_ret;exact ⟨rfl,F,⟨bl,bw,gL,gW,hd1⟩,fun k hk=>Or.inl hk,hk1⟩
end
end Go.Proofs.YtfiflinbicbedaaGreat
namespace Go.Proofs.YtfiflinbicbedaaGreat
open Go.RowKit Go.Maps
section
variable {F:Nat->Prop} {db bl bw:Nat} {gL gW:Ug} {s:PS}
end
end Go.Proofs.YtfiflinbicbedaaGreat
namespace Go.Proofs.YtfiflinbicbedaaGreat
open Go.RowKit
def OutN (w:World) (F:Nat->Prop) (A:Option Addr) (l:List Int):Prop :=
 l=[]\/∃ b off,A=some ⟨b,off,none⟩/\¬ F b/\∀ i z,l[i]?=some z->w.cell? ⟨b,off+i,none⟩=some (.int .i64 z) /\ -9223372036854775808<=z/\z<=9223372036854775807
section
variable {w w':World} {F F':Nat->Prop} {A:Option Addr} {l:List Int}
theorem OutN.at_ (h:OutN w F A l) {k:Nat} (hk:k<l.length) :
 ∃ b off z,A=some ⟨b,off,none⟩/\l[k]?=some z/\w.cell? ⟨b,off+k,none⟩=some (.int .i64 z) /\ -9223372036854775808<=z/\z<=9223372036854775807:=by
 rcases h with rfl | ⟨b,off,rfl,hb,hc⟩
 ·exact absurd hk (by simp)
 ·obtain ⟨h1,h2⟩:=hc k _ (wb1 hk)
  exact ⟨b,off,l[k],rfl,wb1 hk,h1,h2⟩
end
end Go.Proofs.YtfiflinbicbedaaGreat
namespace Go.Proofs.YtfiflinbicbedaaGreat
open Go.RowKit Go.Maps
structure qW9 (W:World) (F:Nat->Prop) (w:World) (db:Nat) (s:PS):Prop where
 dk:Dk w F db s
 base:∀ k,F k->W.heap.size<=k
 below:Below W.heap.size W w
structure Qb (w:World) (F:Nat->Prop) (w':World) (F':Nat->Prop):Prop where
 kept:Qj F w w'
 news:∀ k,F' k->F k\/w.heap.size<=k
section
variable {W w w' w2:World} {F F' F2:Nat->Prop} {db:Nat} {s s':PS}
theorem Dk.lt (h:Dk w F db s):∀ k,F k->k<w.heap.size:=by
 obtain ⟨bl,bw,gL,gW,h⟩:=h;exact h.lt
theorem Dk.ok (h:Dk w F db s):s.Ok:=by
 obtain ⟨bl,bw,gL,gW,h⟩:=h;exact h.ok
theorem Dk.s4 (h:Dk w F db s):s.size<=4096:=by
 obtain ⟨bl,bw,gL,gW,h⟩:=h;exact h.s4
theorem Qb.trans (h:Qb w F w' F') (k:Qb w' F' w2 F2):Qb w F w2 F2 :=
 ⟨h.kept.trans k.kept h.news,fun j hj=>by
  rcases k.news j hj with h1 | h1
  ·exact h.news j h1
  ·exact Or.inr (wa9 h.kept.size h1)⟩
theorem Qb.ob (h:Below w.heap.size w w'):Qb w F w' F:=⟨Qj.below h F,fun _ hk=>Or.inl hk⟩
theorem Qb.out {A:Option Addr} {l:List UInt8} (h:Qb w F w' F') (o:Out w F A l):Out w' F' A l:=by
 rcases l with _ | ⟨y,l⟩
 ·exact Or.inl rfl
 ·rcases o with o | ⟨b,off,e,hb,hc⟩
  ·cases o
  ·have hlt:b<w.heap.size:=World.block_lt_of_cell? _ _ (hc 0 y rfl)
   refine Or.inr ⟨b,off,e,fun h'=>?_,fun i z hz=>(World.cell?_of_block (w:=w) (h.kept.block b hlt hb)).trans (hc i z hz)⟩;rcases h.news b h' with h' | h'
   ·exact hb h'
   ·omega
theorem qW9.le (h:qW9 W F w db s):W.heap.size<=w.heap.size:=h.below.size
end
section
variable {W:World} {F:Nat->Prop} {db:Nat} {s:PS}
def zr2 (W w:World) (n:Nat) (e:Ending) (w':World):Prop :=
 ∃ db F,e = .returned (.tuple #[.pointer (some ⟨db,0,none⟩),.int .i64 0])/\qW9 W F w' db (PS.new n)/\Below w.heap.size w w'/\∀ k,F k->w.heap.size<=k
theorem qP6 (w:World) (n:Nat) (h2:2<=n) (h4:n<=4096) (hb:Below W.heap.size W w):Calls Tryz.prog 52 #[.int .i64 n] w (zr2 W w n) :=
 (qP7 w n h2 h4).mono fun _ _ ⟨db,F,he,hd,hF,hb'⟩=>⟨db,F,he,⟨hd,fun k hk=>wa9 hb.size (hF k hk),hb.trans (hb'.mono hb.size)⟩,hb',hF⟩
end
theorem PS.written_size (s:PS) (n:Int) (l:List UInt8):(s.written n l).size=s.size:=by
 unfold PS.written;split
 ·rfl
 ·split
  ·rfl
  ·split
   ·exact PS.acted_size s
   ·exact PS.acted_size s
end Go.Proofs.YtfiflinbicbedaaGreat
namespace Go.Proofs.YtfiflinbicbedaaGreat
open Go.RowKit
theorem QP:(Tryz.prog.info? 3).map (fun i=>(i.zero,i.size,i.bytes))=some (some (.int .i64 0),1,8):=by kernel_rfl
def FX (w:World) (A:Option Addr) (zs:List Int):Prop :=
 zs=[]\/∃ b off,A=some ⟨b,off,none⟩/\∀ i z,zs[i]?=some z->w.cell? ⟨b,off+i,none⟩=some (.int .i64 z)
theorem FX.below {w w':World} {A:Option Addr} {zs:List Int} (h:FX w A zs) (hb:Below w.heap.size w w'):FX w' A zs:=by
 rcases h with rfl | ⟨b,off,rfl,hc⟩
 ·exact Or.inl rfl
 ·refine Or.inr ⟨b,off,rfl,fun i z hz=>?_⟩
  have h0:=hc i z hz;have hlt:b<w.heap.size:=World.block_lt_of_cell? _ _ h0;exact (hb.cell (p:=⟨b,_,none⟩) hlt).trans h0
theorem FX.at_ {w:World} {A:Option Addr} {zs:List Int} (h:FX w A zs) {k:Nat} (hk:k<zs.length) :
 ∃ b off z,A=some ⟨b,off,none⟩/\zs[k]?=some z/\w.cell? ⟨b,off+k,none⟩=some (.int .i64 z):=by
 rcases h with rfl | ⟨b,off,rfl,hc⟩
 ·exact absurd hk (by simp)
 ·exact ⟨b,off,zs[k],rfl,wb1 hk,hc k _ (wb1 hk)⟩
def Qc (zs:List Int):List Value:=zs.map (Value.int .i64)
end Go.Proofs.YtfiflinbicbedaaGreat
namespace Go.Proofs.YtfiflinbicbedaaGreat
structure CS where
 n:Nat
 p:Nat->Nat
 u:Nat->Bool
 h:Nat
namespace CS
def new (n:Nat):CS:=⟨n,fun _=>0,fun _=>false,0⟩
def has (s:CS) (i:Int):Bool:=decide (0<=i/\i<(s.n:Int))
def setU (s:CS) (i:Nat) (b:Bool):CS:={ s with u:=fun j=>if j=i then b else s.u j }
def setP (s:CS) (i k:Nat):CS:={ s with p:=fun j=>if j=i then k else s.p j }
def useE (s:CS) (i:Int):Int:=if s.has i then 0 else 1
def useS (s:CS) (i:Int):CS:=if s.has i then s.setU i.toNat true else s
def pinS (s:CS) (i:Int):CS:=if s.has i then s.setP i.toNat (s.p i.toNat+1) else s
def un (s:CS) (i:Int):Bool:=s.has i && s.p i.toNat != 0
def next (s:CS):CS:={ s with h:=(s.h+1) % s.n }
def go:Nat->CS->Option (Nat×CS)
 | 0,_=>none
 | k+1,s=>if s.p s.h=0 then (if s.u s.h then go k (s.setU s.h false).next else some (s.h,s.next)) else go k s.next
def free (s:CS):Bool:=(List.range s.n).any fun j=>s.p j==0
def way (s:CS):Option (Nat×CS):=if s.free then go (2*s.n) s else none
def vicI (s:CS):Int:=match s.way with | some r=>r.1 | none=>0
def vicE (s:CS):Int:=match s.way with | some _=>0 | none=>60
def vicS (s:CS):CS:=match s.way with | some r=>r.2 | none=>s
def pinsL (s:CS):List Int:=(List.range s.n).map fun j=>(s.p j:Int)
def usedL (s:CS):List Bool:=(List.range s.n).map s.u
theorem free_iff (s:CS):s.free=true ↔ ∃ j,j<s.n/\s.p j=0:=by
 unfold free;rw [List.any_eq_true];constructor
 ·rintro ⟨j,hj,h⟩
  exact ⟨j,wd6.1 hj,by simpa using h⟩
 ·rintro ⟨j,hj,h⟩
  exact ⟨j,wd6.2 hj,by simpa using h⟩
theorem mod_next {h n:Nat} (hh:h<n):(h+1) % n=if h+1=n then 0 else h+1:=by
 split
 ·rename_i e
  rw [e,Nat.mod_self]
 ·exact Nat.mod_eq_of_lt (by omega)
def at_ (s:CS) (d:Nat):Nat:=if s.h+d<s.n then s.h+d else s.h+d - s.n
theorem next_h {s:CS} (hh:s.h<s.n):s.next.h=if s.h+1=s.n then 0 else s.h+1:=mod_next hh
theorem next_lt {s:CS} (hh:s.h<s.n):s.next.h<s.next.n:=Nat.mod_lt _ (by show 0<s.n;omega)
theorem next_at {s:CS} (hh:s.h<s.n) {d:Nat} (hd:d+1<s.n):s.next.at_ d=s.at_ (d+1):=by
 unfold at_;rw [next_h hh];show (if (if s.h+1=s.n then 0 else s.h+1)+d<s.n then _ else _)=_
 by_cases e:s.h+1=s.n
 ·rw [if_pos e,if_pos (by omega),if_neg (by omega)]
  omega
 ·rw [if_neg e]
  by_cases h2:s.h+1+d<s.n
  ·rw [if_pos h2,if_pos (by omega)]
   omega
  ·rw [if_neg h2,if_neg (by omega)]
   show s.h+1+d - s.n=_;omega
theorem at_zero {s:CS} (hh:s.h<s.n):s.at_ 0=s.h:=by
 unfold at_;rw [if_pos (by omega)];omega
theorem at_ne {s:CS} {d:Nat} (h0:0<d) (hd:d<s.n):s.at_ d≠s.h:=by
 unfold at_;split<;>omega
theorem go_more:∀ (k:Nat) (s:CS) (r:Nat×CS),go k s=some r->go (k+1) s=some r
 | 0,_,_,h=>by cases h
 | k+1,s,r,h=>by
   rw [go] at h ⊢;split
   ·rename_i h1
    rw [if_pos h1] at h;split
    ·rename_i h2
     rw [if_pos h2] at h;exact go_more k _ r h
    ·rename_i h2
     rw [if_neg h2] at h;exact h
   ·rename_i h1
    rw [if_neg h1] at h;exact go_more k _ r h
theorem go_le {k m:Nat} {s:CS} {r:Nat×CS} (h:go k s=some r) (hm:k<=m):go m s=some r:=by
 obtain ⟨d,rfl⟩:∃ d,m=k+d:=⟨m - k,by omega⟩
 induction d with
 | zero=>exact h
 | succ d ih=>exact go_more _ _ _ (ih (by omega))
theorem go_fresh:∀ (d:Nat) (s:CS),s.h<s.n->d<s.n->s.p (s.at_ d)=0->s.u (s.at_ d)=false->∃ r,go (d+1) s=some r
 | 0,s,hh,_,h1,h2=>by
   rw [at_zero hh] at h1 h2;rw [go,if_pos h1,if_neg (by rw [h2];decide)];exact ⟨_,rfl⟩
 | d+1,s,hh,hd,h1,h2=>by
   rw [go];split
   ·split
    ·refine go_fresh d (s.setU s.h false).next (next_lt (s:=s.setU s.h false) hh) (by show d<s.n;omega) ?_ ?_
     ·rw [next_at (s:=s.setU s.h false) hh (by show d+1<s.n;omega)]
      exact h1
     ·rw [next_at (s:=s.setU s.h false) hh (by show d+1<s.n;omega)]
      show (if s.at_ (d+1)=s.h then false else s.u (s.at_ (d+1)))=false
      rw [if_neg (at_ne (by omega) hd)];exact h2
    ·exact ⟨_,rfl⟩
   ·refine go_fresh d s.next (next_lt hh) (by show d<s.n;omega) ?_ ?_
    ·rw [next_at hh (by omega)]
     exact h1
    ·rw [next_at hh (by omega)]
     exact h2
theorem at_last {s:CS} (hh:s.h<s.n):s.next.at_ (s.n - 1)=s.h:=by
 unfold at_;rw [next_h hh];show (if (if s.h+1=s.n then 0 else s.h+1)+(s.n - 1)<s.n then _ else (if s.h+1=s.n then 0 else s.h+1)+(s.n - 1) - s.n)=_
 by_cases e:s.h+1=s.n
 ·rw [if_pos e,if_pos (by omega)]
  omega
 ·rw [if_neg e,if_neg (by omega)]
  omega
theorem go_free:∀ (d:Nat) (s:CS),s.h<s.n->d<s.n->s.p (s.at_ d)=0->∃ r,go (d+1+s.n) s=some r
 | 0,s,hh,_,h1=>by
   have h0:=at_zero hh;rw [h0] at h1;rw [Nat.add_right_comm,go,if_pos h1];split
   ·have:=go_fresh (s.n - 1) (s.setU s.h false).next (next_lt (s:=s.setU s.h false) hh) (by show s.n - 1<s.n;omega) (by
     rw [show (s.setU s.h false).next.at_ (s.n - 1)=s.h from at_last (s:=s.setU s.h false) hh]
     exact h1) (by
     rw [show (s.setU s.h false).next.at_ (s.n - 1)=s.h from at_last (s:=s.setU s.h false) hh]
     show (if s.h=s.h then false else _)=false
     rw [if_pos rfl])
    rw [show s.n - 1+1=0+s.n by omega] at this;exact this
   ·exact ⟨_,rfl⟩
 | d+1,s,hh,hd,h1=>by
   rw [show d+1+1+s.n=(d+1+s.n)+1 by omega,go];split
   ·split
    ·refine go_free d (s.setU s.h false).next (next_lt (s:=s.setU s.h false) hh) (by show d<s.n;omega) ?_
     rw [next_at (s:=s.setU s.h false) hh (by show d+1<s.n;omega)];exact h1
    ·exact ⟨_,rfl⟩
   ·refine go_free d s.next (next_lt hh) (by show d<s.n;omega) ?_
    rw [next_at hh (by omega)];exact h1
theorem at_of {s:CS} (hh:s.h<s.n) {j:Nat} (hj:j<s.n):∃ d,d<s.n/\s.at_ d=j:=by
 by_cases h:s.h<=j
 ·refine ⟨j - s.h,by omega,?_⟩
  unfold at_;rw [if_pos (by omega)];omega
 ·refine ⟨j+s.n - s.h,by omega,?_⟩
  unfold at_;rw [if_neg (by omega)];omega
theorem go_ends {s:CS} (hh:s.h<s.n) (hf:s.free=true):∃ r,go (2*s.n) s=some r:=by
 obtain ⟨j,hj,h0⟩:=(free_iff s).1 hf;obtain ⟨d,hd,rfl⟩:=at_of hh hj;obtain ⟨r,hr⟩:=go_free d s hh hd h0;exact ⟨r,go_le hr (by omega)⟩
structure Went (s:CS) (r:Nat×CS):Prop where
 lt:r.1<s.n
 p0:s.p r.1=0
 n_:r.2.n=s.n
 p_:r.2.p=s.p
 h_:r.2.h=(r.1+1) % s.n
 u_:∀ j,r.2.u j=true->s.u j=true
theorem go_went:∀ (k:Nat) (s:CS) (r:Nat×CS),s.h<s.n->go k s=some r->Went s r
 | 0,_,_,_,h=>by cases h
 | k+1,s,r,hh,h=>by
   rw [go] at h;split at h
   ·rename_i h1
    split at h
    ·have g:=go_went k _ r (next_lt (s:=s.setU s.h false) hh) h
     refine ⟨g.lt,g.p0,g.n_,g.p_,g.h_,fun j hj=>?_⟩;have:=g.u_ j hj;have h2:(if j=s.h then false else s.u j)=true:=this
     split at h2
     ·cases h2
     ·exact h2
    ·obtain rfl:=wa0 h
     exact ⟨hh,h1,rfl,rfl,rfl,fun _ hj=>hj⟩
   ·have g:=go_went k _ r (next_lt hh) h
    exact ⟨g.lt,g.p0,g.n_,g.p_,g.h_,g.u_⟩
theorem way_of {s:CS} (hh:s.h<s.n) (hf:s.free=true):∃ r,s.way=some r/\go (2*s.n) s=some r/\Went s r:=by
 obtain ⟨r,hr⟩:=go_ends hh hf;refine ⟨r,?_,hr,go_went _ _ _ hh hr⟩;unfold way;rw [if_pos hf];exact hr
theorem way_no {s:CS} (hf:s.free=false):s.way=none:=by
 unfold way;rw [if_neg (by rw [hf];decide)]
theorem vic_of {s:CS} {r:Nat×CS} (h:s.way=some r):s.vicI=r.1/\s.vicE=0/\s.vicS=r.2:=by
 unfold vicI vicE vicS;rw [h];exact ⟨rfl,rfl,rfl⟩
theorem vic_no {s:CS} (h:s.free=false):s.vicI=0/\s.vicE=60/\s.vicS=s:=by
 unfold vicI vicE vicS;rw [way_no h];exact ⟨rfl,rfl,rfl⟩
theorem useS_n (s:CS) (i:Int):(s.useS i).n=s.n:=by unfold useS;split<;>rfl
theorem vicS_n {s:CS} (hh:s.h<s.n):s.vicS.n=s.n:=by
 cases hf:s.free with
 | false=>rw [(vic_no hf).2.2]
 | true =>
   obtain ⟨r,hw,_,g⟩:=way_of hh hf;rw [(vic_of hw).2.2,g.n_]
end CS
end Go.Proofs.YtfiflinbicbedaaGreat
namespace Go.Proofs.YtfiflinbicbedaaGreat
open Go.RowKit
def plc (s:CS) (k:Nat):Value:=if k % 2=0 then .int .i64 (s.p (k / 2)) else .bool (s.u (k / 2))
theorem zq1 (s:CS) (i:Nat):plc s (i*2) = .int .i64 (s.p i):=by
 unfold plc;rw [if_pos (by omega),show i*2 / 2=i by omega]
theorem zq0 (s:CS) (i:Nat):plc s (i*2+1) = .bool (s.u i):=by
 unfold plc;rw [if_neg (by omega),show (i*2+1) / 2=i by omega]
theorem qN8 (s:CS) (i:Nat) (b:Bool) (k:Nat):(if k=i*2+1 then Value.bool b else plc s k)=plc (s.setU i b) k:=by
 unfold plc CS.setU;by_cases e:k=i*2+1
 ·subst e
  rw [if_pos rfl,if_neg (by omega)];show _=Value.bool (if (i*2+1) / 2=i then b else _)
  rw [if_pos (by omega)]
 ·rw [if_neg e]
  by_cases h:k % 2=0
  ·rw [if_pos h,if_pos h]
  ·rw [if_neg h,if_neg h]
   show _=Value.bool (if k / 2=i then b else _)
   rw [if_neg (by omega)]
theorem qN9 (s:CS) (i m:Nat) (k:Nat):(if k=i*2 then Value.int .i64 m else plc s k)=plc (s.setP i m) k:=by
 unfold plc CS.setP;by_cases e:k=i*2
 ·subst e
  rw [if_pos rfl,if_pos (by omega)];show _=Value.int .i64 ((if i*2 / 2=i then m else _:Nat):Int)
  rw [if_pos (by omega)]
 ·rw [if_neg e]
  by_cases h:k % 2=0
  ·rw [if_pos h,if_pos h]
   show _=Value.int .i64 ((if k / 2=i then m else _:Nat):Int)
   rw [if_neg (by omega)]
  ·rw [if_neg h,if_neg h]
structure Qw (w:World) (db pb:Nat) (s:CS):Prop where
 str:w.heap[db]?=some (.cells #[.slice (some ⟨pb,0,none⟩) s.n s.n,.int .i64 s.h] 163 (0,0))
 row:w.rowIs pb 287 (s.n*2) (plc s)
 n1:1<=s.n
 n2:s.n<=1000
 hn:s.h<s.n
 top:∀ j,s.p j<=9223372036854775807
def Two (db pb:Nat) (k:Nat):Prop:=k=db\/k=pb
section
variable {w w':World} {db pb:Nat} {s:CS}
theorem qh6:(287:TypeId)≠163:=by decide
theorem Qw.ne (h:Qw w db pb s):pb≠db:=by
 intro e;subst e;obtain ⟨c,hb,_⟩:=h.row;have:=h.str;rw [hb] at this;injection this with this
 injection this with _ this
 exact qh6 this
theorem Qw.lt (h:Qw w db pb s):db<w.heap.size/\pb<w.heap.size:=by
 refine ⟨?_,h.row.lt⟩;obtain ⟨hlt,_⟩:=wa1.1 h.str;exact hlt
theorem Qw.c0 (h:Qw w db pb s):w.cell? ⟨db,0,none⟩=some (.slice (some ⟨pb,0,none⟩) s.n s.n):=(cell_of_row w db 0 _ _ _ h.str).trans rfl
theorem Qw.c1 (h:Qw w db pb s):w.cell? ⟨db,1,none⟩=some (.int .i64 s.h):=(cell_of_row w db 1 _ _ _ h.str).trans rfl
theorem Qw.f (h:Qw w db pb s) (j:Nat):w.frozen? ⟨db,j,none⟩=false:=frozen_of_row w db j _ _ h.str
theorem Qw.cp (h:Qw w db pb s) {i:Nat} (hi:i<s.n):w.cell? ⟨pb,i*2,none⟩=some (.int .i64 (s.p i)):=by
 rw [h.row.cell (by omega),zq1]
theorem Qw.cu (h:Qw w db pb s) {i:Nat} (hi:i<s.n):w.cell? ⟨pb,i*2+1,none⟩=some (.bool (s.u i)):=by
 rw [h.row.cell (by omega),zq0]
theorem Qw.same (h:Qw w db pb s) (e1:w'.heap[db]?=w.heap[db]?) (e2:w'.heap[pb]?=w.heap[pb]?):Qw w' db pb s :=
 ⟨e1.trans h.str,h.row.of_block e2,h.n1,h.n2,h.hn,h.top⟩
theorem Qw.below (h:Qw w db pb s) (hb:Below w.heap.size w w'):Qw w' db pb s:=h.same (hb.block _ h.lt.1) (hb.block _ h.lt.2)
theorem Qw.kept {G:Nat->Prop} (h:Qw w db pb s) (hk:Qj G w w') (h1:¬ G db) (h2:¬ G pb):Qw w' db pb s :=
 h.same (hk.block _ h.lt.1 h1) (hk.block _ h.lt.2 h2)
theorem Qw.setU (h:Qw w db pb s) {i:Nat} (b:Bool):Qw (w.setCell ⟨pb,i*2+1,none⟩ (.bool b)) db pb (s.setU i b) :=
 ⟨(Below.heap_setCell _ _ _ _ h.ne.symm).trans h.str,(h.row.set (i*2+1) (.bool b)).congr (fun k _=>qN8 s i b k),h.n1,h.n2,h.hn,h.top⟩
theorem Qw.setP (h:Qw w db pb s) {i m:Nat} (hm:m<=9223372036854775807):Qw (w.setCell ⟨pb,i*2,none⟩ (.int .i64 (m:Int))) db pb (s.setP i m) :=
 ⟨(Below.heap_setCell _ _ _ _ h.ne.symm).trans h.str,(h.row.set (i*2) (.int .i64 (m:Int))).congr (fun k _=>qN9 s i m k),h.n1,h.n2,h.hn,fun j=>by
   show (if j=i then m else s.p j)<=_
   have:=h.top j;split<;>omega⟩
theorem Qw.setH (h:Qw w db pb s) {m:Nat} (hm:m<s.n):Qw (w.setCell ⟨db,1,none⟩ (.int .i64 (m:Int))) db pb { s with h:=m } :=
 ⟨by rw [Joins.block_setCell h.str];rfl,h.row.setOther h.ne _,h.n1,h.n2,hm,h.top⟩
theorem Qj.two_db (w:World) {j:Nat} (v:Value):Qj (Two db pb) w (w.setCell ⟨db,j,none⟩ v):=Qj.setCell w (a:=⟨db,j,none⟩) (Or.inl rfl) v
theorem Qj.two_pb (w:World) {j:Nat} (v:Value):Qj (Two db pb) w (w.setCell ⟨pb,j,none⟩ v):=Qj.setCell w (a:=⟨pb,j,none⟩) (Or.inr rfl) v
end
def qn2 (w:World) (db pb:Nat) (s':CS) (v:Value) (e:Ending) (w':World):Prop :=
 e = .returned v/\Qw w' db pb s'/\Qj (Two db pb) w w'
end Go.Proofs.YtfiflinbicbedaaGreat
namespace Go.Proofs.YtfiflinbicbedaaGreat
open Go.RowKit
section
variable {db pb:Nat} {s:CS}
theorem zm7 (w:World) (k:Nat) (hk:k<s.n) (h:Qw w db pb s) :
 Calls Tryz.prog 211 #[.pointer (some ⟨db,0,none⟩),.int .i64 k] w fun e w'=>e = .returned (.pointer (some ⟨pb,k*2,none⟩))/\w=w':=by
 have c0:=h.c0;have hn:=h.n2;clear h;go_enter Tryz.func211,Tryz.ntmps211;go_wp2_with fail;go_ret;exact ⟨rfl,rfl⟩
theorem zq8 (w:World) (i:Int) (hi:s.has i=false) (h:Qw w db pb s) :
 Calls Tryz.prog 211 #[.pointer (some ⟨db,0,none⟩),.int .i64 i] w fun e w'=>e = .returned (.pointer none)/\w=w':=by
 have c0:=h.c0;have hn:=h.n2;clear h;unfold CS.has at hi;rw [decide_eq_false_iff_not] at hi;by_cases h0:i<0
 ·clear hi
  go_enter Tryz.func211,Tryz.ntmps211;go_wp2_with fail;go_ret;exact ⟨rfl,rfl⟩
 ·have h1:(s.n:Int)<=i:=by omega
  clear hi;go_enter Tryz.func211,Tryz.ntmps211;go_wp2_with fail;go_ret;exact ⟨rfl,rfl⟩
theorem CS.has_nat {i:Int} (h:s.has i=true):∃ k:Nat,i=k/\k<s.n:=by
 unfold CS.has at h;have:=of_decide_eq_true h;exact ⟨i.toNat,by omega,by omega⟩
theorem qw0 (w:World) (i:Int) (h:Qw w db pb s) :
 Calls Tryz.prog 197 #[.pointer (some ⟨db,0,none⟩),.int .i64 i] w (qn2 w db pb (s.useS i) (.int .i64 (s.useE i))):=by
 have H:=iQ h;clear h;cases hh:s.has i with
 | true =>
   obtain ⟨k,rfl,hk⟩:=CS.has_nat hh;have HK:=iQ hk;have f:=(H.out.row).frozen (k*2+1);have c:=H.out.cu hk;rw [show s.useS (k:Int)=s.setU k true by unfold CS.useS;rw [if_pos hh];rfl,show s.useE (k:Int)=0 by unfold CS.useE;rw [if_pos hh]];clear hh hk;go_enter Tryz.func197,Tryz.ntmps197;go_wp2_with fail;refine (zm7 _ k HK.out H.out).mono ?_;rintro e w' ⟨rfl,rfl⟩;go_wp2_with fail;go_ret;exact ⟨rfl,H.out.setU true,Qj.two_pb _ _⟩
 | false =>
   rw [show s.useS i=s by unfold CS.useS;rw [if_neg (by rw [hh];decide)],show s.useE i=1 by unfold CS.useE;rw [if_neg (by rw [hh];decide)]];have HH:=iQ hh;clear hh;go_enter Tryz.func197,Tryz.ntmps197;go_wp2_with fail;refine (zq8 _ i HH.out H.out).mono ?_;rintro e w' ⟨rfl,rfl⟩;go_wp2_with fail;go_ret;exact ⟨rfl,H.out,Qj.refl _ _⟩
theorem RU (w:World) (n:Nat) (b:Bool) :
 Calls Tryz.prog 220 #[.agg #[.int .i64 n,.bool b]] w fun e w'=>e = .returned (.bool (n != 0))/\Below w.heap.size w w':=by
 rcases Nat.eq_zero_or_pos n with h0 | h0
 ·subst h0
  go_enter Tryz.func220,Tryz.ntmps220;go_wp2_with fail;go_ret;exact ⟨rfl,Qa _ _⟩
 ·have hb:(n != 0)=true:=by rw [bne_iff_ne];omega
  rw [hb];clear hb;go_enter Tryz.func220,Tryz.ntmps220;go_wp2_with fail;go_ret;exact ⟨rfl,Qa _ _⟩
theorem qS7 (w:World) (h:Qw w db pb s) :
 Calls Tryz.prog 217 #[.pointer (some ⟨db,0,none⟩)] w fun e w'=>e = .returned (.int .i64 s.h)/\w=w':=by
 have c:=h.c1;clear h;go_enter Tryz.func217,Tryz.ntmps217;go_wp2_with fail;go_ret;exact ⟨rfl,rfl⟩
end
end Go.Proofs.YtfiflinbicbedaaGreat
namespace Go.Proofs.YtfiflinbicbedaaGreat
open Go.RowKit
section
variable {db pb:Nat} {s:CS}
theorem qT6 (w:World) (n:Nat) (b:Bool) :
 Calls Tryz.prog 219 #[.agg #[.int .i64 n,.bool b]] w fun e w'=>e = .returned (.bool (n==0))/\Below w.heap.size w w':=by
 go_enter Tryz.func219,Tryz.ntmps219;go_wp2_with fail;refine (RU _ n b).mono ?_;rintro e w1 ⟨rfl,b1⟩;have HB:=iQ ((Qa _ _).trans (b1.mono (by simp)));clear b1;rcases Nat.eq_zero_or_pos n with h0 | h0
 ·subst h0
  go_wp2_with fail;go_ret;exact ⟨rfl,HB.out⟩
 ·have hb:(n != 0)=true:=by rw [bne_iff_ne];omega
  have hc:(n==0)=false:=by rw [beq_eq_false_iff_ne];omega
  rw [hb];have HC:=iQ hc;clear hb hc;go_wp2_with fail;go_ret;exact ⟨Qi HC.out.symm,HB.out⟩
def zr3 (w:World) (s:CS) (e:Ending) (w':World):Prop :=
 ∃ i:Int,e = .returned (.int .i64 i)/\decide (0<=i)=s.free/\Below w.heap.size w w'
theorem qE7 (w:World) (h:Qw w db pb s) :
 Calls Tryz.prog 227 #[.slice (some ⟨pb,0,none⟩) s.n s.n,.func (.func 219) #[] #[]] w (zr3 w s):=by
 have hn:=h.n2;have H:=iQ h;clear h;go_enter Tryz.func227,Tryz.ntmps227;go_wp2_with fail;go_loopw [8] (fun i wr=>∃ k:Nat,k<=s.n/\i = .int .i64 k/\Hid (∀ j,j<k->¬ s.p j=0)/\Below w.heap.size w wr) (fun i _=>s.n - (RowKit.intOf i).toNat)
 case atStart=>exact ⟨0,wb3 _,rfl,iQ (fun j hj=>by omega),Below.refl _ _⟩
 case round =>
  obtain ⟨k,hk,rfl,hpre,hb⟩:=hrel;by_cases hlt:k<s.n
  ·have HR:=H.out.below hb
   have d0:=HR.cp hlt;have d1:=HR.cu hlt;have HB:=iQ hb;have HL:=iQ hlt;clear HR hb;go_wp2_with fail;refine (qT6 _ (s.p k) (s.u k)).mono ?_;rintro e w1 ⟨rfl,b1⟩;have HB1:=iQ (HB.out.trans (b1.mono HB.out.size));clear b1 d0 d1;by_cases h0:s.p k=0
   ·have hb0:(s.p k==0)=true:=by rw [h0];rfl
    rw [hb0];have HH0:=iQ h0;clear h0 hb0;go_wp2_with fail;go_ret;refine ⟨_,rfl,?_,HB1.out⟩;rw [(CS.free_iff s).2 ⟨k,HL.out,HH0.out⟩];exact decide_eq_true (by omega)
   ·have hb0:(s.p k==0)=false:=by rw [beq_eq_false_iff_ne];exact h0
    rw [hb0];have HH0:=iQ h0;clear h0 hb0;go_wp2_with fail;go_roundw;case rel =>
     refine ⟨k+1,by omega,by go_num,iQ (fun j hj=>?_),HB1.out⟩;rcases we1 j k with e | e
     ·exact hpre.out j e
     ·obtain rfl:j=k:=by omega
      exact HH0.out
    case measure=>simp [RowKit.intOf];omega
  ·obtain rfl:k=s.n:=by omega
   go_wp2_with fail;go_ret;refine ⟨_,rfl,?_,hb⟩;cases hf:s.free with
   | false=>rfl
   | true =>
     obtain ⟨j,hj,h0⟩:=(CS.free_iff s).1 hf;exact absurd h0 (hpre.out j hj)
theorem XR (w:World) (h:Qw w db pb s) :
 Calls Tryz.prog 218 #[.slice (some ⟨pb,0,none⟩) s.n s.n,.func (.func 219) #[] #[]] w fun e w'=>e = .returned (.bool s.free)/\Below w.heap.size w w':=by
 have H:=iQ h;clear h;go_enter Tryz.func218,Tryz.ntmps218;go_wp2_with fail;refine (qE7 _ H.out).mono ?_;rintro e w1 ⟨i,rfl,hd,b1⟩;have HB:=iQ b1;have HD:=iQ hd;clear b1 hd;go_wp2_with fail;go_ret;exact ⟨Qi HD.out,HB.out⟩
def zm9 (w:World) (db pb:Nat) (r:Nat×CS) (g:Nat) (wr:World):Prop :=
 ∃ c,Qw wr db pb c/\CS.go g c=some r/\Qj (Two db pb) w wr
theorem qY5 (w:World) (hf:s.free=true) (h:Qw w db pb s) :
 Calls Tryz.prog 209 #[.pointer (some ⟨db,0,none⟩)] w (qn2 w db pb s.vicS (.tuple #[.int .i64 s.vicI,.int .i64 s.vicE])):=by
 obtain ⟨r,hw,hgo,_⟩:=CS.way_of h.hn hf;obtain ⟨v1,v2,v3⟩:=CS.vic_of hw;rw [v1,v2,v3];have HGO:=iQ hgo;have HF:=iQ hf;have c0:=h.c0;have H:=iQ h;clear h hf hw hgo v1 v2 v3;go_enter Tryz.func209,Tryz.ntmps209;go_wp2_with fail;go_step3;go_wp2_with fail;refine (XR _ H.out).mono ?_;rintro e w1 ⟨rfl,b1⟩;rw [HF.out];have H1:=iQ (H.out.below b1);have HB1:=iQ b1;clear b1 c0;go_wp2_with fail;go_step3;go_wp2_with fail
 go_loopg [4] (2*s.n) (fun g i wr=>zm9 w db pb r g wr)
 case atStart=>exact ⟨s,H1.out,HGO.out,Qj.below HB1.out _⟩
 case round =>
  obtain ⟨c,hc,hg,hk⟩:=hrel;have e0:=hc.c0;have e1:=hc.c1;have ef:=hc.f 1;have ep:=hc.cp hc.hn;have eu:=hc.cu hc.hn;have hn1:=hc.n1;have hn2:=hc.n2;have hhn:=hc.hn;have ne1:=hc.ne;have ne2:=hc.ne.symm;have HC:=iQ hc;have HK:=iQ hk;have HG:=iQ hg;clear hc hg hk;obtain ⟨g,rfl⟩:∃ g,gk=g+1:=by
   cases gk with
   | zero=>cases HG.out
   | succ g=>exact ⟨g,rfl⟩
  go_wp2_with fail;refine (RU _ (c.p c.h) (c.u c.h)).mono ?_;rintro e w2 ⟨rfl,b2⟩;have k2:Qw (wr.setCell ⟨db,1,none⟩ (.int .i64 (((c.h:Int)+1) % (c.n:Int)))) db pb c.next:=by
   have e:(((c.h+1) % c.n:Nat):Int)=((c.h:Int)+1) % (c.n:Int):=by
    rw [Int.natCast_emod];rfl
   have:=HC.out.setH (m:=(c.h+1) % c.n) (Nat.mod_lt _ (by omega));rwa [e] at this
  have H2:Hid (Qw w2 db pb c.next):=k2.below b2
  have HK2:Hid (Qj (Two db pb) w w2):=(HK.out.next (Qj.two_db wr _)).next (Qj.below b2 _)
  clear e0 e1 ef ep eu k2 b2 HC HK;by_cases h0:c.p c.h=0
  ·have hb0:(c.p c.h != 0)=false:=by rw [h0];rfl
   rw [hb0];have HH0:=iQ h0;clear h0 hb0;have eu:w2.cell? ⟨pb,c.h*2+1,none⟩=some (.bool (c.u c.h)):=H2.out.cu (i:=c.h) (by show c.h<c.n;exact hhn);have fu:w2.frozen? ⟨pb,c.h*2+1,none⟩=false:=H2.out.row.frozen _;cases hu:c.u c.h with
   | false =>
     rw [hu] at eu;have HU:=iQ hu;clear hu;go_wp2_with fail;rw [Exit.noGoto_ret];go_ret2;have:=HG.out;rw [CS.go,if_pos HH0.out,if_neg (by rw [HU.out];decide)] at this;obtain rfl:=wa0 this;exact ⟨rfl,H2.out,HK2.out⟩
   | true =>
     rw [hu] at eu;have HU:=iQ hu;clear hu;go_wp2_with fail
     go_roundg g
     case measure=>omega
     case rel =>
      have:=HG.out;rw [CS.go,if_pos HH0.out,if_pos HU.out] at this;exact ⟨_,H2.out.setU false,this,HK2.out.next (Qj.two_pb _ _)⟩
  ·have hb0:(c.p c.h != 0)=true:=by rw [bne_iff_ne];exact h0
   rw [hb0];have HH0:=iQ h0;clear h0 hb0;go_wp2_with fail
   go_roundg g
   case measure=>omega
   case rel =>
    have:=HG.out;rw [CS.go,if_neg HH0.out] at this;exact ⟨_,H2.out,this,HK2.out⟩
theorem qI0 (w:World) (hf:s.free=false) (h:Qw w db pb s) :
 Calls Tryz.prog 209 #[.pointer (some ⟨db,0,none⟩)] w (qn2 w db pb s.vicS (.tuple #[.int .i64 s.vicI,.int .i64 s.vicE])):=by
 obtain ⟨v1,v2,v3⟩:=CS.vic_no hf;rw [v1,v2,v3];have HF:=iQ hf;have c0:=h.c0;have H:=iQ h;clear h hf v1 v2 v3;go_enter Tryz.func209,Tryz.ntmps209;go_wp2_with fail;go_step3;go_wp2_with fail;refine (XR _ H.out).mono ?_;rintro e w1 ⟨rfl,b1⟩;rw [HF.out];have HB1:=iQ b1;clear b1 c0;go_wp2_with fail;rw [Exit.noGoto_ret];go_ret2;exact ⟨rfl,H.out.below HB1.out,Qj.below HB1.out _⟩
theorem TM (w:World) (h:Qw w db pb s) :
 Calls Tryz.prog 209 #[.pointer (some ⟨db,0,none⟩)] w (qn2 w db pb s.vicS (.tuple #[.int .i64 s.vicI,.int .i64 s.vicE])):=by
 cases hf:s.free with
 | true=>exact qY5 w hf h
 | false=>exact qI0 w hf h
end
end Go.Proofs.YtfiflinbicbedaaGreat
namespace Go.Proofs.YtfiflinbicbedaaGreat
open Go.RowKit
theorem qG4:(Tryz.prog.info? 4).map (fun i=>(i.zero,i.size,i.bytes))=some (some (.bool false),1,1):=by kernel_rfl
theorem qq5 (w:World) (n:Nat) (b:Bool) :
 Calls Tryz.prog 224 #[.agg #[.int .i64 n,.bool b]] w fun e w'=>e = .returned (.int .i64 n)/\Below w.heap.size w w':=by
 go_enter Tryz.func224,Tryz.ntmps224;go_wp2_with fail;go_ret;exact ⟨rfl,Qa _ _⟩
theorem qo2 (w:World) (n:Nat) (b:Bool) :
 Calls Tryz.prog 226 #[.agg #[.int .i64 n,.bool b]] w fun e w'=>e = .returned (.bool b)/\Below w.heap.size w w':=by
 go_enter Tryz.func226,Tryz.ntmps226;go_wp2_with fail;go_ret;exact ⟨rfl,Qa _ _⟩
def toP (s:CS) (k j:Nat):Value:=if j<k then .int .i64 (s.p j) else .int .i64 0
def toU (s:CS) (k j:Nat):Value:=if j<k then .bool (s.u j) else .bool false
theorem qA8 (s:CS) (j:Nat):toP s 0 j = .int .i64 0:=by simp [toP]
theorem qJ8 (s:CS) (k:Nat):toP s k k = .int .i64 0:=by simp [toP]
theorem qJ7 (s:CS) (k j:Nat):(if j=k then Value.int .i64 (s.p k) else toP s k j)=toP s (k+1) j:=by
 unfold toP;by_cases h:j=k
 ·subst h
  rw [if_pos rfl,if_pos (by omega)]
 ·rw [if_neg h]
  by_cases h2:j<k
  ·rw [if_pos h2,if_pos (by omega)]
  ·rw [if_neg h2,if_neg (by omega)]
theorem qA7 (s:CS) (j:Nat):toU s 0 j = .bool false:=by simp [toU]
theorem qJ6 (s:CS) (k:Nat):toU s k k = .bool false:=by simp [toU]
theorem qJ5 (s:CS) (k j:Nat):(if j=k then Value.bool (s.u k) else toU s k j)=toU s (k+1) j:=by
 unfold toU;by_cases h:j=k
 ·subst h
  rw [if_pos rfl,if_pos (by omega)]
 ·rw [if_neg h]
  by_cases h2:j<k
  ·rw [if_pos h2,if_pos (by omega)]
  ·rw [if_neg h2,if_neg (by omega)]
section
variable {db pb:Nat} {s:CS}
theorem qF6 (w:World) (h:Qw w db pb s) :
 Calls Tryz.prog 223 #[.pointer (some ⟨db,0,none⟩),.func (.func 224) #[] #[]] w
  fun e w'=>e = .returned (.slice (some ⟨w.heap.size,0,none⟩) s.n s.n)/\w'.rowIs w.heap.size 3 s.n (toP s s.n)/\Below w.heap.size w w':=by
 have hn:=h.n2;have hmk:=fun W=>run_make_row' (P:=Tryz.prog) 40 3 (.int .i64 0) 8 Tryz.underlying40 QP rfl .i64 .i64 s.n (by omega) (by omega) W;have c0:=h.c0;obtain ⟨l1,l2⟩:=h.lt;have H:=iQ h;clear h;go_enter Tryz.func223,Tryz.ntmps223;go_wp2_with fail;go_loopw [21] (fun i wr=>∃ k:Nat,k<=s.n/\i = .int .i64 k/\wr.rowIs w.heap.size 3 s.n (toP s k)/\Below w.heap.size w wr) (fun i _=>s.n - (RowKit.intOf i).toNat)
 case atStart=>exact ⟨0,wb3 _,rfl,(World.rowIs_made _ _ _ _).congr (fun j _=>(qA8 s j).symm),Qa _ _⟩
 case round =>
  obtain ⟨k,hk,rfl,hrow,hb⟩:=hrel;by_cases hlt:k<s.n
  ·have HR:=H.out.below hb
   have d0:=HR.cp hlt;have d1:=HR.cu hlt;have g2:=hrow.lt;have VD:=iQ hrow;have HB:=iQ hb;clear HR hb hrow c0;go_wp2_with fail;refine (qq5 _ (s.p k) (s.u k)).mono ?_;rintro e w1 ⟨rfl,b1⟩;have b2:Below wr.heap.size wr w1:=(Qa wr _).trans (b1.mono (by simp));have HB2:=iQ b2;clear b1 b2 d0 d1 g2;have r1:=VD.out.of_block (HB2.out.block _ VD.out.lt);have g0:=r1.cell hlt;rw [qJ8] at g0;have g1:=r1.frozen k;have g2:=r1.lt;have R1:=iQ r1;clear r1;go_wp2_with fail;go_roundw;case rel =>
    refine ⟨k+1,by omega,by go_num,(R1.out.set k _).congr (fun j _=>qJ7 s k j),?_⟩;exact (HB.out.trans (HB2.out.mono HB.out.size)).setCell (p:=⟨w.heap.size,k,none⟩) (wa2 _) _
   case measure=>simp [RowKit.intOf];omega
  ·obtain rfl:k=s.n:=by omega
   go_wp2_with fail;go_ret;exact ⟨rfl,hrow,hb⟩
theorem qF5 (w:World) (h:Qw w db pb s) :
 Calls Tryz.prog 225 #[.pointer (some ⟨db,0,none⟩),.func (.func 226) #[] #[]] w
  fun e w'=>e = .returned (.slice (some ⟨w.heap.size,0,none⟩) s.n s.n)/\w'.rowIs w.heap.size 4 s.n (toU s s.n)/\Below w.heap.size w w':=by
 have hn:=h.n2;have hmk:=fun W=>run_make_row' (P:=Tryz.prog) 291 4 (.bool false) 1 Tryz.underlying291 qG4 rfl .i64 .i64 s.n (by omega) (by omega) W;have c0:=h.c0;obtain ⟨l1,l2⟩:=h.lt;have H:=iQ h;clear h;go_enter Tryz.func225,Tryz.ntmps225;go_wp2_with fail;go_loopw [21] (fun i wr=>∃ k:Nat,k<=s.n/\i = .int .i64 k/\wr.rowIs w.heap.size 4 s.n (toU s k)/\Below w.heap.size w wr) (fun i _=>s.n - (RowKit.intOf i).toNat)
 case atStart=>exact ⟨0,wb3 _,rfl,(World.rowIs_made _ _ _ _).congr (fun j _=>(qA7 s j).symm),Qa _ _⟩
 case round =>
  obtain ⟨k,hk,rfl,hrow,hb⟩:=hrel;by_cases hlt:k<s.n
  ·have HR:=H.out.below hb
   have d0:=HR.cp hlt;have d1:=HR.cu hlt;have g2:=hrow.lt;have VD:=iQ hrow;have HB:=iQ hb;clear HR hb hrow c0;go_wp2_with fail;refine (qo2 _ (s.p k) (s.u k)).mono ?_;rintro e w1 ⟨rfl,b1⟩;have b2:Below wr.heap.size wr w1:=(Qa wr _).trans (b1.mono (by simp));have HB2:=iQ b2;clear b1 b2 d0 d1 g2;have r1:=VD.out.of_block (HB2.out.block _ VD.out.lt);have g0:=r1.cell hlt;rw [qJ6] at g0;have g1:=r1.frozen k;have g2:=r1.lt;have R1:=iQ r1;clear r1;go_wp2_with fail;go_roundw;case rel =>
    refine ⟨k+1,by omega,by go_num,(R1.out.set k _).congr (fun j _=>qJ5 s k j),?_⟩;exact (HB.out.trans (HB2.out.mono HB.out.size)).setCell (p:=⟨w.heap.size,k,none⟩) (wa2 _) _
   case measure=>simp [RowKit.intOf];omega
  ·obtain rfl:k=s.n:=by omega
   go_wp2_with fail;go_ret;exact ⟨rfl,hrow,hb⟩
def Bls (w:World) (A:Option Addr) (zs:List Bool):Prop :=
 zs=[]\/∃ b off,A=some ⟨b,off,none⟩/\∀ i z,zs[i]?=some z->w.cell? ⟨b,off+i,none⟩=some (.bool z)
theorem Bls.at_ {w:World} {A:Option Addr} {zs:List Bool} (h:Bls w A zs) {k:Nat} (hk:k<zs.length) :
 ∃ b off z,A=some ⟨b,off,none⟩/\zs[k]?=some z/\w.cell? ⟨b,off+k,none⟩=some (.bool z):=by
 rcases h with rfl | ⟨b,off,rfl,hc⟩
 ·exact absurd hk (by simp)
 ·exact ⟨b,off,zs[k],rfl,wb1 hk,hc k _ (wb1 hk)⟩
theorem DX (s:CS):s.pinsL.length=s.n:=by simp [CS.pinsL]
theorem FH (s:CS):s.usedL.length=s.n:=by simp [CS.usedL]
theorem qh9 (s:CS) {i:Nat} (h:i<s.n):s.pinsL[i]?=some ((s.p i:Nat):Int):=by simp [CS.pinsL,h]
theorem qf1 (s:CS) {i:Nat} (h:i<s.n):s.usedL[i]?=some (s.u i):=by simp [CS.usedL,h]
theorem qR7 {w:World} {b:Nat} {t:TypeId} {f:Nat->Value} {s:CS} (h:w.rowIs b t s.n f) (hf:∀ j,j<s.n->f j = .int .i64 (s.p j)):FX w (some ⟨b,0,none⟩) s.pinsL:=by
 refine Or.inr ⟨b,0,rfl,fun i z hz=>?_⟩;have hi:i<s.n:=by
  have:=(wa8.1 hz).1;rwa [DX] at this
 rw [qh9 s hi] at hz;obtain rfl:=wa0 hz;rw [we6,h.cell hi,hf i hi]
theorem ze4 {w:World} {b:Nat} {t:TypeId} {f:Nat->Value} {s:CS} (h:w.rowIs b t s.n f) (hf:∀ j,j<s.n->f j = .bool (s.u j)):Bls w (some ⟨b,0,none⟩) s.usedL:=by
 refine Or.inr ⟨b,0,rfl,fun i z hz=>?_⟩;have hi:i<s.n:=by
  have:=(wa8.1 hz).1;rwa [FH] at this
 rw [qf1 s hi] at hz;obtain rfl:=wa0 hz;rw [we6,h.cell hi,hf i hi]
theorem qO1 (w:World) (h:Qw w db pb s) :
 Calls Tryz.prog 215 #[.pointer (some ⟨db,0,none⟩)] w
  fun e w'=>e = .returned (.slice (some ⟨w.heap.size,0,none⟩) s.n s.n)/\FX w' (some ⟨w.heap.size,0,none⟩) s.pinsL/\Below w.heap.size w w':=by
 have H:=iQ h;clear h;go_enter Tryz.func215,Tryz.ntmps215;go_wp2_with fail;refine (qF6 _ H.out).mono ?_;rintro e w' ⟨rfl,hr,hb⟩;have HR:=iQ hr;have HB:=iQ hb;clear hr hb;go_wp2_with fail;go_ret;exact ⟨rfl,qR7 HR.out (fun j hj=>by unfold toP;rw [if_pos hj]),HB.out⟩
theorem qI1 (w:World) (h:Qw w db pb s) :
 Calls Tryz.prog 216 #[.pointer (some ⟨db,0,none⟩)] w
  fun e w'=>e = .returned (.slice (some ⟨w.heap.size,0,none⟩) s.n s.n)/\Bls w' (some ⟨w.heap.size,0,none⟩) s.usedL/\Below w.heap.size w w':=by
 have H:=iQ h;clear h;go_enter Tryz.func216,Tryz.ntmps216;go_wp2_with fail;refine (qF5 _ H.out).mono ?_;rintro e w' ⟨rfl,hr,hb⟩;have HR:=iQ hr;have HB:=iQ hb;clear hr hb;go_wp2_with fail;go_ret;exact ⟨rfl,ze4 HR.out (fun j hj=>by unfold toU;rw [if_pos hj]),HB.out⟩
end
end Go.Proofs.YtfiflinbicbedaaGreat
namespace Go.Proofs.YtfiflinbicbedaaGreat
open Go.RowKit
theorem qC9:(Tryz.prog.info? 287).map (fun i=>(i.zero,i.size,i.bytes))=some (some (.agg #[.int .i64 0,.bool false]),2,16):=by kernel_rfl
def plC (n:Nat):Array Value:=madeCells #[.int .i64 0,.bool false] (n*2)
theorem qh8 (n:Nat):(plC n).size=n*2:=size_madeCells _ _
theorem zj8 (n i:Nat) (h:i<n*2):(plC n)[i]?=some (plc (CS.new n) i):=by
 unfold plC madeCells plc CS.new;rcases Nat.mod_two_eq_zero_or_one i with e | e
 ·rw [if_pos e]
  simp [e,h]
 ·rw [if_neg (by omega)]
  simp [e,h]
theorem qi9 (w:World) (n:Nat) (hn:n<=1000):(Instr.makeSlice 161 (.int .i64 (n:Int)) (.int .i64 (n:Int))).run Tryz.prog w = .ok (.slice (some ⟨w.heap.size,0,none⟩) n n) (w.alloc (.cells (plC n) 287)):=by
 obtain ⟨i,hi,hzz⟩:=we2.1 qC9;simp only [Prod.mk.injEq] at hzz;obtain ⟨hz,hs,hb⟩:=hzz;have hr:=run_make (P:=Tryz.prog) w 161 287 i _ Tryz.underlying161 hi hz .i64 .i64 (n:Int) (n:Int) (by omega) (Int.le_refl _) (by rw [hb];omega) (by omega);simp only [Int.toNat_natCast,hs] at hr;exact hr
def zr6 (w:World) (n:Nat) (e:Ending) (w':World):Prop :=
 ∃ db pb,e = .returned (.tuple #[.pointer (some ⟨db,0,none⟩),.int .i64 0])/\Qw w' db pb (CS.new n)/\w.heap.size<=db/\w.heap.size<=pb/\Below w.heap.size w w'
theorem qF0 (w:World) (n:Nat) (h1:1<=n) (h2:n<=1000):Calls Tryz.prog 49 #[.int .i64 n] w (zr6 w n):=by
 have hm:=qi9 w n h2;go_enter Tryz.func49,Tryz.ntmps49;go_wp2_with fail;go_ret2;have hs:(w.alloc (.cells (plC n) 287)).heap.size=w.heap.size+1:=by simp
 refine ⟨w.heap.size+1,w.heap.size,rfl,⟨?_,?_,h1,h2,?_,fun j=>wb3 _⟩,by omega,wa2 _,Zp _ _ _⟩
 ·have:=heap_alloc_new (w.alloc (.cells (plC n) 287)) (.cells #[.slice (some ⟨w.heap.size,0,none⟩) n n,.int .i64 0] 163)
  rw [hs] at this;exact this
 ·have:=World.rowIs_alloc w (plC n) 287 (plc (CS.new n)) (fun i hi=>zj8 n i (by rw [qh8] at hi;exact hi))
  rw [qh8] at this;exact this.alloc _
 ·show 0<n
  omega
end Go.Proofs.YtfiflinbicbedaaGreat
namespace Go.Proofs.YtfiflinbicbedaaGreat
open Go.RowKit
section
variable {W w w':World} {db pb:Nat} {s s':CS}
end
end Go.Proofs.YtfiflinbicbedaaGreat
namespace Go.Proofs.YtfiflinbicbedaaGreat
structure PP where
 m:Nat
 at_:Nat->Int
 b:Nat->List UInt8
 d:Nat->Bool
 c:CS
 k:PS
namespace PP
def new (k:PS) (m:Nat):PP:=⟨m,fun _ => -1,fun _=>[],fun _=>false,CS.new m,k⟩
def first (m:Nat) (q:Nat->Bool):Option Nat:=(List.range m).find? q
def find (s:PP) (n:Int):Option Nat:=if n<0 then none else first s.m fun i=>s.at_ i==n
def gap (s:PP):Option Nat:=first s.m fun i=>s.at_ i == -1
def lay (s:PP) (i:Nat) (n:Int) (l:List UInt8) (d:Bool):PP :=
 {s with at_:=fun j=>if j=i then n else s.at_ j,b:=fun j=>if j=i then l else s.b j,d:=fun j=>if j=i then d else s.d j }
def used (s:PP) (i:Nat):PP:={ s with c:=s.c.useS i }
def wrote (s:PP) (i:Nat):PP:={ s with k:=s.k.written (s.at_ i) (s.b i) }
def room (s:PP):Option Nat×Int×PP :=
 match s.gap with
 | some i=>(some i,0,s)
 | none =>
   if s.c.free then
    let i:=s.c.vicI.toNat
    if s.d i then
     if s.k.writeE (s.at_ i) (s.b i)=0 then (some i,0,PP.lay { s.wrote i with c:=s.c.vicS } i (-1) [] false) else (none,s.k.writeE (s.at_ i) (s.b i),s.wrote i)
    else (some i,0,PP.lay { s with c:=s.c.vicS } i (-1) [] false)
   else (none,60,s)
def get (s:PP) (n:Int):Int×List UInt8×PP :=
 match s.find n with
 | some i=>(0,s.b i,s.used i)
 | none =>
   if s.k.readE n=0 then
    match s.room with
    | (some i,_,t)=>(0,s.k.readB n,(t.lay i n (s.k.readB n) false).used i)
    | (none,e,t)=>(e,[],t)
   else (s.k.readE n,[],s)
def put (s:PP) (n:Int) (l:List UInt8):Int×PP :=
 if s.k.bad n l then (41,s) else
 match s.find n with
 | some i=>(0,(s.lay i n l true).used i)
 | none =>
   match s.room with
   | (some i,_,t)=>(0,(t.lay i n l true).used i)
   | (none,e,t)=>(e,t)
def dirty (s:PP) (n:Int):Option Nat :=
 match s.find n with
 | some i=>if s.d i then some i else none
 | none=>none
def washed (s:PP) (i:Nat):PP:={ s.wrote i with d:=fun j=>if j=i then false else s.d j }
def drop (s:PP):PP:={ s with at_:=fun _ => -1,b:=fun _=>[],d:=fun _=>false,c:=CS.new s.m }
def pages (s:PP):List Int:=(List.range s.m).map s.at_
theorem first_some {m:Nat} {q:Nat->Bool} {i:Nat} (h:first m q=some i):i<m/\q i=true:=by
 unfold first at h
 have h1:=List.find?_some h;have h2:=List.mem_of_find?_eq_some h;exact ⟨wd6.1 h2,h1⟩
theorem first_none {m:Nat} {q:Nat->Bool} (h:first m q=none):∀ i,i<m->q i=false:=by
 unfold first at h
 rw [List.find?_eq_none] at h;intro i hi;have:=h i (wd6.2 hi);simpa using this
theorem find_some {s:PP} {n:Int} {i:Nat} (h:s.find n=some i):i<s.m/\s.at_ i=n/\0<=n:=by
 unfold find at h;split at h
 ·cases h
 ·obtain ⟨h1,h2⟩:=first_some h
  exact ⟨h1,by simpa using h2,by omega⟩
theorem find_none {s:PP} {n:Int} (h:s.find n=none) (hn:0<=n):∀ i,i<s.m->s.at_ i≠n:=by
 unfold find at h;rw [if_neg (by omega)] at h;intro i hi;have:=first_none h i hi;simpa using this
theorem gap_some {s:PP} {i:Nat} (h:s.gap=some i):i<s.m/\s.at_ i = -1:=by
 obtain ⟨h1,h2⟩:=first_some h;exact ⟨h1,by simpa using h2⟩
theorem gap_none {s:PP} (h:s.gap=none):∀ i,i<s.m->s.at_ i ≠ -1:=by
 intro i hi;have:=first_none h i hi;simpa using this
end PP
namespace PS
theorem has_at (s:PS) (n:Int):s.has n=true ↔ 0<=n/\n<(s.size:Int):=by
 unfold has;exact decide_eq_true_iff
structure Well (s:PS):Prop where
 down:s.down=false
 fused:s.fused=false
theorem Well.read {s:PS} (h:s.Well) {n:Int} (hn:s.has n=true):s.readE n=0/\s.readB n=s.held n:=by
 unfold readE readB;rw [h.down,hn];exact ⟨rfl,rfl⟩
theorem Well.acted {s:PS} (h:s.Well):s.acted=s/\s.may=true:=by
 unfold PS.acted may;rw [h.fused];exact ⟨rfl,rfl⟩
theorem Well.write {s:PS} (h:s.Well) {n:Int} (hn:s.has n=true) {l:List UInt8} (hl:l.length<=1024):s.writeE n l=0/\s.written n l=s.lay n l:=by
 have hb:s.bad n l=false:=by
  unfold bad;rw [hn];simp;omega
 unfold writeE written;rw [h.down,hb,h.acted.2,h.acted.1];exact ⟨rfl,rfl⟩
theorem Well.lay {s:PS} (h:s.Well) (n:Int) (l:List UInt8):(s.lay n l).Well:=⟨h.down,h.fused⟩
theorem lay_held (s:PS) (n:Int) (l:List UInt8) (j:Int):(s.lay n l).held j=if j=n then l else s.held j:=by
 unfold PS.lay held;by_cases e:j=n
 ·simp [e]
 ·simp [e]
end PS
end Go.Proofs.YtfiflinbicbedaaGreat
namespace Go.Proofs.YtfiflinbicbedaaGreat.CS
theorem at_mod {s:CS} (hh:s.h<s.n) {d:Nat} (hd:d<s.n):s.at_ d=(s.h+d) % s.n:=by
 unfold at_;split
 ·rename_i e
  exact (Nat.mod_eq_of_lt e).symm
 ·rename_i e
  rw [Nat.mod_eq_sub_mod (by omega),Nat.mod_eq_of_lt (by omega)]
theorem at_inj {s:CS} {d e:Nat} (hd:d<s.n) (he:e<s.n) (h:s.at_ d=s.at_ e):d=e:=by
 unfold at_ at h;split at h<;>split at h<;>omega
theorem at_lt {s:CS} (hh:s.h<s.n) {d:Nat} (hd:d<s.n):s.at_ d<s.n:=by
 unfold at_;split<;>omega
theorem go_first:∀ (d:Nat) (s:CS),s.h<s.n->d<s.n->(∀ e,e<d->s.p (s.at_ e)≠0\/s.u (s.at_ e)=true)->s.p (s.at_ d)=0->s.u (s.at_ d)=false ->
 ∃ r,go (d+1) s=some r/\r.1=s.at_ d
 | 0,s,hh,_,_,h1,h2=>by
   have e0:=at_zero hh;rw [e0] at h1 h2;rw [go,if_pos h1,if_neg (by rw [h2];decide)];exact ⟨_,rfl,e0.symm⟩
 | d+1,s,hh,hd,hp,h1,h2=>by
   have e0:=hp 0 (by omega);rw [at_zero hh] at e0;rw [go];by_cases hz:s.p s.h=0
   ·have hu:s.u s.h=true:=by
     rcases e0 with e0 | e0
     ·exact absurd hz e0
     ·exact e0
    rw [if_pos hz,if_pos hu];have hat:∀ e,e+1<s.n->(s.setU s.h false).next.at_ e=s.at_ (e+1):=fun e he=>next_at (s:=s.setU s.h false) hh he
    have hne:∀ e,0<e->e<s.n->(s.setU s.h false).next.u (s.at_ e)=s.u (s.at_ e):=fun e h0 he=>by
     show (if s.at_ e=s.h then false else _)=_
     rw [if_neg (at_ne h0 he)]
    obtain ⟨r,h3,h4⟩:=go_first d (s.setU s.h false).next (next_lt (s:=s.setU s.h false) hh) (by show d<s.n;omega) (fun e he=>by
     rw [hat e (by omega),hne _ (by omega) (by omega)];exact hp (e+1) (by omega)) (by rw [hat d hd];exact h1) (by rw [hat d hd,hne _ (by omega) hd];exact h2)
    exact ⟨r,h3,h4.trans (hat d hd)⟩
   ·rw [if_neg hz]
    have hat:∀ e,e+1<s.n->s.next.at_ e=s.at_ (e+1):=fun e he=>next_at hh he
    obtain ⟨r,h3,h4⟩:=go_first d s.next (next_lt hh) (by show d<s.n;omega) (fun e he=>by
     rw [hat e (by omega)];exact hp (e+1) (by omega)) (by rw [hat d hd];exact h1) (by rw [hat d hd];exact h2)
    exact ⟨r,h3,h4.trans (hat d hd)⟩
structure On (s:CS) (d:Nat) (t:CS):Prop where
 go_:∀ g,go (g+d) s=go g t
 n_:t.n=s.n
 p_:t.p=s.p
 h_:t.h=(s.h+d) % s.n
 off:∀ e,e<d->s.p (s.at_ e)=0->t.u (s.at_ e)=false
 on:∀ e,d<=e->e<s.n->t.u (s.at_ e)=s.u (s.at_ e)
theorem go_on (s:CS) (hh:s.h<s.n):∀ (d:Nat),d<=s.n->(∀ e,e<d->s.p (s.at_ e)≠0\/s.u (s.at_ e)=true)->∃ t,On s d t
 | 0,_,_=>⟨s,fun _=>rfl,rfl,rfl,(Nat.mod_eq_of_lt hh).symm,fun e he=>absurd he (by omega),fun _ _ _=>rfl⟩
 | d+1,hd,hp=>by
   obtain ⟨t,h⟩:=go_on s hh d (by omega) (fun e he=>hp e (by omega));have eh:t.h=s.at_ d:=by rw [h.h_,at_mod hh (by omega)]
   have en:(t.h+1) % t.n=(s.h+(d+1)) % s.n:=by
    rw [h.n_,h.h_,Nat.mod_add_mod,wd5]
   have h0:=hp d (by omega);by_cases hz:s.p (s.at_ d)=0
   ·have hu:s.u (s.at_ d)=true:=by
     rcases h0 with h0 | h0
     ·exact absurd hz h0
     ·exact h0
    refine ⟨(t.setU t.h false).next,fun g=>?_,h.n_,h.p_,en,fun e he h1=>?_,fun e he h1=>?_⟩
    ·rw [show g+(d+1)=(g+1)+d by omega,h.go_,go,if_pos (by rw [h.p_,eh];exact hz),if_pos (by rw [eh,h.on d (wa2 _) (by omega)];exact hu)]
    ·show (if s.at_ e=t.h then false else t.u (s.at_ e))=false
     split
     ·rfl
     ·rename_i hne
      refine h.off e ?_ h1;have:e≠d:=fun e2=>hne (by rw [eh,e2]);omega
    ·show (if s.at_ e=t.h then false else t.u (s.at_ e))=_
     rw [if_neg (fun e2=>by rw [eh] at e2;have:=at_inj h1 (by omega) e2;omega)];exact h.on e (by omega) h1
   ·refine ⟨t.next,fun g=>?_,h.n_,h.p_,en,fun e he h1=>?_,fun e he h1=>h.on e (by omega) h1⟩
    ·rw [show g+(d+1)=(g+1)+d by omega,h.go_,go,if_neg (by rw [h.p_,eh];exact hz)]
    ·refine h.off e ?_ h1
     have:e≠d:=fun e2=>hz (by rw [<- e2];exact h1);omega
theorem free_at {s:CS} (hh:s.h<s.n) {d:Nat} (hd:d<s.n) (h0:s.p (s.at_ d)=0):s.free=true :=
 (free_iff s).2 ⟨s.at_ d,at_lt hh hd,h0⟩
theorem way_is {s:CS} (hf:s.free=true) {k:Nat} (hk:k<=2*s.n) {r:Nat×CS} (h:go k s=some r):s.way=some r:=by
 unfold way;rw [if_pos hf];exact go_le h hk
theorem vic_first {s:CS} (hh:s.h<s.n) {d:Nat} (hd:d<s.n) (hp:∀ e,e<d->s.p (s.at_ e)≠0\/s.u (s.at_ e)=true) (h1:s.p (s.at_ d)=0) (h2:s.u (s.at_ d)=false) :
 s.vicI=s.at_ d:=by
 obtain ⟨r,h3,h4⟩:=go_first d s hh hd hp h1 h2;have hw:=way_is (free_at hh hd h1) (by omega) h3;unfold vicI;rw [hw,<- h4]
theorem vic_second {s:CS} (hh:s.h<s.n) {d:Nat} (hd:d<s.n) (hp:∀ e,e<s.n->s.p (s.at_ e)≠0\/s.u (s.at_ e)=true) (h0:∀ e,e<d->s.p (s.at_ e)≠0) (h1:s.p (s.at_ d)=0) :
 s.vicI=s.at_ d:=by
 obtain ⟨t,h⟩:=go_on s hh s.n (wa2 _) hp;have eh:t.h=s.h:=by rw [h.h_,Nat.add_mod_right,Nat.mod_eq_of_lt hh]
 have ea:∀ e,t.at_ e=s.at_ e:=fun e=>by unfold at_;rw [eh,h.n_]
 obtain ⟨r,h3,h4⟩:=go_first d t (by rw [eh,h.n_];exact hh) (by rw [h.n_];exact hd) (fun e he=>by rw [ea,h.p_];exact Or.inl (h0 e he)) (by rw [ea,h.p_];exact h1) (by rw [ea];exact h.off d hd h1);have hg:go (2*s.n) s=some r:=by
  rw [show 2*s.n=s.n+s.n by omega,h.go_];exact go_le h3 (by omega)
 have hw:=way_is (free_at hh hd h1) (wa2 _) hg;unfold vicI;rw [hw];show (r.1:Int)=_;rw [h4,ea]
theorem not_free {s:CS} (hh:s.h<s.n) (h0:∀ e,e<s.n->s.p (s.at_ e)≠0):s.free=false:=by
 cases hf:s.free with
 | false=>rfl
 | true =>
   obtain ⟨j,hj,h1⟩:=(free_iff s).1 hf;refine absurd h1 ?_
   -- the place j is some place on
   by_cases e:s.h<=j
   ·have:=h0 (j - s.h) (by omega)
    unfold at_ at this;rw [if_pos (by omega),show s.h+(j - s.h)=j by omega] at this;exact this
   ·have:=h0 (j+s.n - s.h) (by omega)
    unfold at_ at this;rw [if_neg (by omega),show s.h+(j+s.n - s.h) - s.n=j by omega] at this;exact this
end Go.Proofs.YtfiflinbicbedaaGreat.CS
