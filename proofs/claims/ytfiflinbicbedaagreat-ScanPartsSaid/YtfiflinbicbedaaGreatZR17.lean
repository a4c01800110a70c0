/-
  A part of the proof. Conditions: none.
-/
import Derived.Maps.OwnIn
import Derived.Test.YtfiflinbicbedaaGreatZR16

set_option maxRecDepth 20000
set_option maxHeartbeats 12800000
namespace Go.Proofs.YtfiflinbicbedaaGreat
section
open Go.RowKit Go.Maps
structure MIs (w:World) (F:Nat->Prop) (g:Nat) (A:Option Addr) (n c:Nat) (es:List TT.E):Prop where
 box:UF w g A n c
 ln:Xv w F 2 A n c (Qg es)
 out:¬ F g
 ne:0<n->∀ ad,A=some ad->ad.block≠g
def MAt (w:World) (F:Nat->Prop) (g:Nat) (es:List TT.E):Prop:=∃ A n c,MIs w F g A n c es
def Vd (A:Option Addr) (c k:Nat):Option Addr:=if c=k then A else A.map (·.add (k*2))
section
variable {w w':World} {F F':Nat->Prop} {A:Option Addr} {g n c:Nat} {es:List TT.E}
theorem MIs.mo (h:MIs w F g A n c es) (m:Qb w F w' F'):MIs w' F' g A n c es:=by
 refine ⟨(m.kept.block g h.box.lt h.out).trans h.box,h.ln.mo (by omega) m,fun e=>?_,h.ne⟩;rcases m.news g e with e | e
 ·exact h.out e
 ·have:=h.box.lt
  omega
theorem MIs.kept (h:MIs w F g A n c es) (hb:Below w.heap.size w w'):MIs w' F g A n c es:=⟨h.box.kept hb,h.ln.kept hb,h.out,h.ne⟩
theorem MAt.mo (h:MAt w F g es) (m:Qb w F w' F'):MAt w' F' g es:=by
 obtain ⟨A,n,c,h⟩:=h;exact ⟨A,n,c,h.mo m⟩
theorem MAt.kept (h:MAt w F g es) (hb:Below w.heap.size w w'):MAt w' F g es:=by
 obtain ⟨A,n,c,h⟩:=h;exact ⟨A,n,c,h.kept hb⟩
theorem MAt.lt (h:MAt w F g es):g<w.heap.size:=by
 obtain ⟨A,n,c,h⟩:=h;exact h.box.lt
theorem MAt.out (h:MAt w F g es):¬ F g:=by
 obtain ⟨A,n,c,h⟩:=h;exact h.out
theorem qS9 {k:Nat} (hb:Below w.heap.size w w') (v:Value):w.grownBy (w'.setCell ⟨k,0,none⟩ v) (some k) :=
 ⟨hb.os,hb.tape,hb.output,by simpa [World.setCell] using hb.size,fun j hj hne=>(Below.heap_setCell _ _ _ _ (fun e=>hne (by rw [e]))).trans (hb.block j hj)⟩
theorem MIs.set {w1:World} {A':Option Addr} {N c':Nat} {es':List TT.E} (h:MIs w F g A n c es) (hF:∀ k,F k->k<w.heap.size) (hb:Below w.heap.size w w1)
 (o:w1.ownsRow w.heap.size 70 2 (.slice A' N c') N (Qg es')):w.grownBy (w1.setCell ⟨g,0,none⟩ (.slice A' N c')) (some g)/\MAt (w1.setCell ⟨g,0,none⟩ (.slice A' N c')) F g es':=by
 have hlt:=h.box.lt;have hh:=Yp.oo o;obtain ⟨A2,c2,e,_,l⟩:=Ln.oo o;injection e with e1 e2 e3
 subst e1 e3;refine ⟨qS9 hb _,A',N,c',?_,⟨l.mq (by omega) (fun _ ad e=>Below.heap_setCell _ _ _ _ (fun e2=>?_)),fun _ ad e e2=>?_⟩,h.out,fun _ ad e e2=>?_⟩
 ·unfold UF
  rw [Joins.block_setCell (h.box.kept hb)];rfl
 ·have:=hh ad e
  have e3:ad.block=g:=e2;omega
 ·have:=hh ad e
  have:=hF _ e2;omega
 ·have:=hh ad e
  omega
theorem qR0 {cs:List Value} (h:Ln w 2 A n c cs) {k:Nat} (hk:k<=n):Ln w 2 (Vd A c k) (n - k) (c - k) (cs.drop (k*2)):=by
 have hle:=h.le;have hlen:=h.len;rcases A with _ | ad
 ·obtain ⟨rfl,rfl⟩:=h.lies.1 rfl
  obtain rfl:k=0:=by omega
  simpa [Vd] using h
 ·by_cases hn0:n=k
  ·subst hn0
   have e:cs.drop (n*2)=[]:=wc6 (by omega);rw [e,wf1];refine ⟨by simp,wb3 _,fun e=>?_,fun ad _ j u hu=>by simp at hu⟩;unfold Vd at e;split at e<;>simp at e
  ·have hc:¬ c=k:=by omega
   obtain ⟨b,off,e,_⟩:=h.spot (by omega);obtain rfl:=wa0 e;have:=h.drop hk;unfold Vd;rw [if_neg hc,Option.map_some,Zn];exact this
theorem PM (h:Ln w 2 A n c (Qg es)) {k:Nat} (hk:k<=n):Ln w 2 (Vd A c k) (n - k) (c - k) (Qg (es.drop k)):=by
 have:=qR0 h hk;rwa [XG] at this
theorem PN (h:Ln w 2 A n c (Qg es)) {k:Nat} (hk:k<=n):Ln w 2 A k c (Qg (es.take k)):=by
 have:=h.take hk;rwa [XU] at this
end
theorem sz_E:∀ w,(sizeOf (Tryz.prog.elem 29)).run Tryz.prog w = .ok 2 w:=fun w=>by kernel_rfl
theorem qd2 {n c k:Nat} (A:Option Addr) (hk:k<=n) (w:World):(Instr.slice 29 (.slice A n c) (some (.int .i64 (k:Int))) none none).run Tryz.prog w = .ok (.slice (Vd A c k) (n - k) (c - k)) w:=by
 rw [run_slice_l (P:=Tryz.prog) (w:=w) _ A n c Tryz.underlying29 .i64 (k:Int) (by omega) (by omega),sz_E];simp [Result.andThen,sliced,Vd]
theorem zc6 {n c k:Nat} (A:Option Addr) (hk:k+1<=n) (w:World):(Instr.slice 29 (.slice A n c) (some (.int .i64 ((k:Int)+1))) none none).run Tryz.prog w = .ok (.slice (Vd A c (k+1)) (n - (k+1)) (c - (k+1))) w:=qd2 A hk w
theorem qa5 {n c k:Nat} (A:Option Addr) (hk:k<=n) (hc:n<=c) (w:World):(Instr.slice 29 (.slice A n c) none (some (.int .i64 (k:Int))) none).run Tryz.prog w = .ok (.slice A k c) w:=by
 rw [run_slice_h (P:=Tryz.prog) (w:=w) _ A n c Tryz.underlying29 .i64 (k:Int) (by omega) (by omega),sz_E];by_cases h0:c=0
 ·subst h0
  simp [Result.andThen,sliced]
 ·simp [Result.andThen,sliced,h0]
  cases A with
  | none=>rfl
  | some ad =>
    obtain ⟨b,off,sp⟩:=ad;cases sp<;>simp [Addr.add]
theorem XH:(Tryz.prog.info? 70).map (fun i=>(i.zero,i.size,i.bytes))=some (some (.agg #[.string ⟨#[]⟩,.string ⟨#[]⟩]),2,32):=by kernel_rfl
theorem XK (w:World) (x y:ByteArray):ML (w.alloc (.cells #[.string x,.string y] 70)) (some ⟨w.heap.size,0,none⟩) 1 1 (Qg [(x.toList,y.toList)]):=by
 refine ⟨fun e=>(by cases e),fun ad e j u hu=>?_⟩;obtain rfl:=wa0 e;have h:Qg [(x.toList,y.toList)]=[.string x,.string y]:=by simp [Qg,Zx]
 rw [h] at hu;have:=qu4 w #[.string x,.string y] 70 j u hu;exact this
where
 qu4 (w:World) (cs:Array Value) (ty:TypeId):∀ j u,cs.toList[j]?=some u->(w.alloc (.cells cs ty)).cell? ((⟨w.heap.size,0,none⟩:Addr).add j)=some u:=fun j u hu=>by
  rw [Zn,we6];refine (cell_of_row _ w.heap.size j _ _ _ (heap_alloc_new w _)).trans ?_;simpa using hu
theorem Hf {P:Program} (w:World) {ops:Array Oper} {rest:List Oper} {o:Oper} {a:Act} {Q:Exit->Act->World->Prop} (hgd:o.guard=none) (t:TypeId) (ht:P.underlying t=some (.slice (P.elem t))) (s l:Operand) (ho:o.op = .slice t s (some l) none none) (vs vl v':Value) (hs:a.eval s=vs) (hl:a.eval l=vl)
 (hr:(Instr.slice t vs (some vl) none none).run P w = .ok v' w) (h:wpList P ops Q rest (a.put o.dst v') w):wpList P ops Q (o::rest) a w:=by
 refine wpList_plain hgd fun K hK=>?_;unfold Oper.wp execOp;simp only [ho,Option.map_some,Option.map_none,hs,hl,Sem.run_bind,run_sliceAt_slice (h:=ht),hr,Result.andThen_ok,Sem.run_pure];exact hK _ _ h
theorem He {P:Program} (w:World) {ops:Array Oper} {rest:List Oper} {o:Oper} {a:Act} {Q:Exit->Act->World->Prop} (hgd:o.guard=none) (t:TypeId) (ht:P.underlying t=some (.slice (P.elem t))) (s l:Operand) (ho:o.op = .slice t s none (some l) none) (vs vl v':Value) (hs:a.eval s=vs) (hl:a.eval l=vl)
 (hr:(Instr.slice t vs none (some vl) none).run P w = .ok v' w) (h:wpList P ops Q rest (a.put o.dst v') w):wpList P ops Q (o::rest) a w:=by
 refine wpList_plain hgd fun K hK=>?_;unfold Oper.wp execOp;simp only [ho,Option.map_some,Option.map_none,hs,hl,Sem.run_bind,run_sliceAt_slice (h:=ht),hr,Result.andThen_ok,Sem.run_pure];exact hK _ _ h
def zg8 (w:World) (F:Nat->Prop) (g:Nat) (v:Value) (es:List TT.E) (e:Ending) (w':World):Prop:=e = .returned v/\w.grownBy w' (some g)/\MAt w' F g es
theorem qy9 {x y:ByteArray} (h:TS.badE x.toList y.toList=false):¬ x.size<1/\¬ 120<x.size/\¬ 100<y.size:=by
 unfold TS.badE at h;rw [Qn,Qn] at h;simp only [Bool.or_eq_false_iff,decide_eq_false_iff_not] at h;exact ⟨h.1,h.2.1,h.2.2⟩
theorem qm2 {x y:ByteArray} (h:TS.badE x.toList y.toList=true):x.size<1\/(¬ x.size<1/\120<x.size)\/(¬ x.size<1/\¬ 120<x.size/\100<y.size):=by
 unfold TS.badE at h;rw [Qn,Qn] at h;simp only [Bool.or_eq_true,decide_eq_true_eq] at h;omega
section
variable {w w':World} {F F':Nat->Prop} {A:Option Addr} {g n c:Nat} {es:List TT.E}
theorem qQ0 (w:World) (x y:ByteArray) (hm:MAt w F g es) (hF:∀ k,F k->k<w.heap.size) (hn:es.length<=500000) :
 Calls Tryz.prog 97 #[.pointer (some ⟨g,0,none⟩),.string x,.string y] w (zg8 w F g (.int .i64 (if TS.badE x.toList y.toList then 120 else 0)) (if TS.badE x.toList y.toList then es else TT.putE x.toList y.toList es)):=by
 obtain ⟨A,n,c,hm⟩:=hm;have HM:=iQ hm;have HF:=iQ hF;have HE:=iQ hm.ln.ln.entN;have hn2:n<=500000:=by rw [<- hm.ln.ln.entN];exact hn
 have HX:Hid (zg8 w F g (.int .i64 120) es (.returned (.int .i64 120)) w):=iQ ⟨rfl,World.grownBy.refl _ _,A,n,c,hm⟩;clear hm hF hn;obtain ⟨i0,hi,hz0,hz1,hz2⟩:=info_parts XH;cases hbad:TS.badE x.toList y.toList with
 | true =>
   rw [if_pos rfl,if_pos rfl];rcases qm2 hbad with h1 | ⟨h1,h2⟩ | ⟨h1,h2,h3⟩
   ·go_enter Tryz.func97,Tryz.ntmps97
    go_wp2_with fail;go_ret;exact HX.out
   ·go_enter Tryz.func97,Tryz.ntmps97
    go_wp2_with fail;go_ret;exact HX.out
   ·go_enter Tryz.func97,Tryz.ntmps97
    go_wp2_with fail;go_ret;exact HX.out
 | false =>
   rw [if_neg (by decide),if_neg (by decide)];obtain ⟨h1,h2,h3⟩:=qy9 hbad;clear hbad HX;obtain ⟨es',hes⟩:∃ es',TT.putE x.toList y.toList es=es':=⟨_,rfl⟩;rw [hes];have HES:=iQ hes;clear hes;have hle:=TT.place_le (key:=x.toList) (es:=es);rw [HE.out] at hle;go_enter Tryz.func97,Tryz.ntmps97;go_wp2_with fail;refine (PK w x HM.out.box HM.out.ln.ln (by omega)).mono ?_;rintro e w1 ⟨rfl,b1⟩;have B1:=iQ b1;have Gx:=iQ (HM.out.kept b1);clear b1;have c0:=Gx.out.box.cell;have hnc:=Gx.out.ln.ln.le;have UC:=iQ (fun k hk=>PN (k:=k) Gx.out.ln.ln hk);have HLD:=iQ (fun k hk=>PM (k:=k) Gx.out.ln.ln hk);have MF:=iQ Gx.out.box.lt;have BE:=iQ (Qa w1 (.cells #[] 70));have OE:Hid ((w1.alloc (.cells #[] 70)).ownsRow w1.heap.size 70 2 (.slice (some ⟨w1.heap.size,0,none⟩) 0 0) 0 []):=iQ (DN (AL w1 _) (wa2 _));have hc1:(w1.alloc (.cells #[] 70)).cell? ⟨g,0,none⟩=some (.slice A n c):=(Gx.out.box.kept BE.out).cell;cases his:TT.isE x.toList es with
   | true =>
     have hlt:=TT.isE_lt his;rw [HE.out] at hlt;have HV:Hid (Qg (es.take (TT.placeE x.toList es))++Qg [(x.toList,y.toList)]++Qg ((es.drop (TT.placeE x.toList es)).drop 1)=Qg es'):=iQ (by
      rw [<- HES.out];unfold TT.putE ND.rep;rw [his,if_pos rfl,<- Zg,<- Zg,List.drop_drop])
     clear his;generalize TT.placeE x.toList es=k at *;have HU:=fun w=>qa5 (n:=n) (c:=c) (k:=k) A hle hnc w;have HD:=fun w=>qd2 (n:=n) (c:=c) (k:=k) A hle w;have HD1:∀ w,(Instr.slice 29 (.slice (Vd A c k) (n - k) (c - k)) (some (.int .i64 1)) none none).run Tryz.prog w = .ok (.slice (Vd (Vd A c k) (c - k) 1) (n - k - 1) (c - k - 1)) w:=fun w=>qd2 (k:=1) (Vd A c k) (by omega) w;have HL1:=iQ (PM (HLD.out k hle) (k:=1) (by omega));have hz:∀ k',(Value.slice (some ⟨w1.heap.size,0,none⟩) 0 0).ownBlock=some k'->w1.heap.size<=k':=fun k' e'=>(OE.out.lt k' e').1;have HZ:=iQ hz;clear hz;go_wp2_with (first
      | (refine Hf _ rfl 29 Tryz.underlying29 (.tmp 32) (.tmp 33) rfl (.slice A n c) (.int .i64 (k:Int)) _ rfl rfl (HD _) ?_)
      | (refine Hf _ rfl 29 Tryz.underlying29 (.tmp 36) (.const (.int .i64 1)) rfl (.slice (Vd A c k) (n - k) (c - k)) (.int .i64 1) _ rfl rfl (HD1 _) ?_)
      | (refine He _ rfl 29 Tryz.underlying29 (.tmp 43) (.tmp 44) rfl (.slice A n c) (.int .i64 (k:Int)) _ rfl rfl (HU _) ?_)
      | (at_builtin;refine Qo _ rfl (.tmp 39) (.tmp 45) 29 rfl w1.heap.size 70 i0 _ 2 32 Tryz.underlying29 hi hz0 hz1 hz2 rfl (by decide) _ 0 [] rfl OE.out A k c (Qg (es.take k)) rfl (UC.out k (by omega)).len ((UC.out k (by omega)).lies.kept BE.out) (Yc _) (by unfold maxLen;omega) (by omega) BE.out.size ?_;intro v8 w8 o8 g8;rw [we0,we6] at o8;have b8:=Below.grown (B:=w1.heap.size) (a:=w1) BE.out g8 BE.out.size HZ.out;have BX:=iQ (Qe (Qa w8 (.cells #[.string x,.string y] 70)) b8);have O8:=iQ (Us o8 (Qa w8 (.cells #[.string x,.string y] 70)));clear o8 g8 b8)
      | (at_builtin;refine Qo _ rfl (.tmp 46) (.tmp 50) 29 rfl w1.heap.size 70 i0 _ 2 32 Tryz.underlying29 hi hz0 hz1 hz2 rfl (by decide) _ _ _ rfl O8.out _ 1 1 (Qg [(x.toList,y.toList)]) rfl rfl (XK w8 x y) (Yc _) (by unfold maxLen;omega) (by omega) BX.out.size ?_;intro v9 w9 o9 g9;have B9:=iQ (Jh (B:=w1.heap.size) (a:=w1) BX.out BX.out.size O8.out (wa2 _) g9);have O9:=iQ o9;clear o9 g9)
      | (at_builtin;refine Qo _ rfl (.tmp 51) (.tmp 52) 29 rfl w1.heap.size 70 i0 _ 2 32 Tryz.underlying29 hi hz0 hz1 hz2 rfl (by decide) _ _ _ rfl O9.out (Vd (Vd A c k) (c - k) 1) (n - k - 1) (c - k - 1) (Qg ((es.drop k).drop 1)) rfl HL1.out.len (HL1.out.lies.kept B9.out) (Yc _) (by unfold maxLen;omega) (by omega) B9.out.size ?_;intro v10 w10 o10 g10;rw [HV.out] at o10;obtain ⟨A',c',rfl⟩:=QH o10;have B10:=Jh B9.out B9.out.size O9.out (wa2 _) g10;have HS:=iQ (HM.out.set HF.out (Qe B10 B1.out) (Jg o10 B1.out.size));have x0:=(Gx.out.box.kept B10).cell;have x1:=(Gx.out.box.kept B10).free;clear o10 g10 B10)
      | fail)
     go_ret;exact ⟨rfl,HS.out.1,HS.out.2⟩
   | false =>
     have HV:Hid (Qg (es.take (TT.placeE x.toList es))++Qg [(x.toList,y.toList)]++Qg (es.drop (TT.placeE x.toList es))=Qg es'):=iQ (by
      rw [<- HES.out];unfold TT.putE ND.rep;rw [his,if_neg (by decide),<- Zg,<- Zg])
     clear his;generalize TT.placeE x.toList es=k at *;have HU:=fun w=>qa5 (n:=n) (c:=c) (k:=k) A hle hnc w;have HD:=fun w=>qd2 (n:=n) (c:=c) (k:=k) A hle w;have HL1:=iQ (HLD.out k hle);have hz:∀ k',(Value.slice (some ⟨w1.heap.size,0,none⟩) 0 0).ownBlock=some k'->w1.heap.size<=k':=fun k' e'=>(OE.out.lt k' e').1;have HZ:=iQ hz;clear hz;go_wp2_with (first
      | (refine Hf _ rfl 29 Tryz.underlying29 (.tmp 32) (.tmp 33) rfl (.slice A n c) (.int .i64 (k:Int)) _ rfl rfl (HD _) ?_)
      | (refine He _ rfl 29 Tryz.underlying29 (.tmp 43) (.tmp 44) rfl (.slice A n c) (.int .i64 (k:Int)) _ rfl rfl (HU _) ?_)
      | (at_builtin;refine Qo _ rfl (.tmp 39) (.tmp 45) 29 rfl w1.heap.size 70 i0 _ 2 32 Tryz.underlying29 hi hz0 hz1 hz2 rfl (by decide) _ 0 [] rfl OE.out A k c (Qg (es.take k)) rfl (UC.out k (by omega)).len ((UC.out k (by omega)).lies.kept BE.out) (Yc _) (by unfold maxLen;omega) (by omega) BE.out.size ?_;intro v8 w8 o8 g8;rw [we0,we6] at o8;have b8:=Below.grown (B:=w1.heap.size) (a:=w1) BE.out g8 BE.out.size HZ.out;have BX:=iQ (Qe (Qa w8 (.cells #[.string x,.string y] 70)) b8);have O8:=iQ (Us o8 (Qa w8 (.cells #[.string x,.string y] 70)));clear o8 g8 b8)
      | (at_builtin;refine Qo _ rfl (.tmp 46) (.tmp 50) 29 rfl w1.heap.size 70 i0 _ 2 32 Tryz.underlying29 hi hz0 hz1 hz2 rfl (by decide) _ _ _ rfl O8.out _ 1 1 (Qg [(x.toList,y.toList)]) rfl rfl (XK w8 x y) (Yc _) (by unfold maxLen;omega) (by omega) BX.out.size ?_;intro v9 w9 o9 g9;have B9:=iQ (Jh (B:=w1.heap.size) (a:=w1) BX.out BX.out.size O8.out (wa2 _) g9);have O9:=iQ o9;clear o9 g9)
      | (at_builtin;refine Qo _ rfl (.tmp 51) (.tmp 52) 29 rfl w1.heap.size 70 i0 _ 2 32 Tryz.underlying29 hi hz0 hz1 hz2 rfl (by decide) _ _ _ rfl O9.out (Vd A c k) (n - k) (c - k) (Qg (es.drop k)) rfl HL1.out.len (HL1.out.lies.kept B9.out) (Yc _) (by unfold maxLen;omega) (by omega) B9.out.size ?_;intro v10 w10 o10 g10;rw [HV.out] at o10;obtain ⟨A',c',rfl⟩:=QH o10;have B10:=Jh B9.out B9.out.size O9.out (wa2 _) g10;have HS:=iQ (HM.out.set HF.out (Qe B10 B1.out) (Jg o10 B1.out.size));have x0:=(Gx.out.box.kept B10).cell;have x1:=(Gx.out.box.kept B10).free;clear o10 g10 B10)
      | fail)
     go_ret;exact ⟨rfl,HS.out.1,HS.out.2⟩
theorem qQ5 (w:World) (x:ByteArray) (hm:MAt w F g es) (hF:∀ k,F k->k<w.heap.size) (hn:es.length<=500000) :
 Calls Tryz.prog 99 #[.pointer (some ⟨g,0,none⟩),.string x] w (zg8 w F g (.bool (TT.isE x.toList es)) (TT.delE x.toList es)):=by
 obtain ⟨A,n,c,hm⟩:=hm;have HM:=iQ hm;have HF:=iQ hF;have HE:=iQ hm.ln.ln.entN;have hn2:n<=500000:=by rw [<- hm.ln.ln.entN];exact hn
 clear hm hF hn;obtain ⟨i0,hi,hz0,hz1,hz2⟩:=info_parts XH;obtain ⟨es',hes⟩:∃ es',TT.delE x.toList es=es':=⟨_,rfl⟩;rw [hes];have HES:=iQ hes;clear hes;have hle:=TT.place_le (key:=x.toList) (es:=es);rw [HE.out] at hle;go_enter Tryz.func99,Tryz.ntmps99;go_wp2_with fail;refine (PK w x HM.out.box HM.out.ln.ln (by omega)).mono ?_;rintro e w1 ⟨rfl,b1⟩;have B1:=iQ b1;have Gx:=iQ (HM.out.kept b1);clear b1;cases his:TT.isE x.toList es with
 | false =>
   have HX:Hid (zg8 w F g (.bool (TT.isE x.toList es)) es' (.returned (.bool false)) w1):=iQ (by
    rw [his,<- HES.out];unfold TT.delE;rw [his];have hg:w.grownBy w1 (some g):=⟨B1.out.os,B1.out.tape,B1.out.output,B1.out.size,fun k hk _=>B1.out.block k hk⟩;exact ⟨rfl,hg,A,n,c,Gx.out⟩)
   have HI:=iQ his;clear his;go_wp2_with fail;go_ret;rw [HI.out] at HX ⊢;exact HX.out
 | true =>
   have c0:=Gx.out.box.cell;have f0:=Gx.out.box.free;have hnc:=Gx.out.ln.ln.le;have UC:=iQ (fun k hk=>PN (k:=k) Gx.out.ln.ln hk);have HLD:=iQ (fun k hk=>PM (k:=k) Gx.out.ln.ln hk);have MF:=iQ Gx.out.box.lt;have BE:=iQ ((Qa w1 (.cells #[] 70)).drew);have OE:Hid (((w1.alloc (.cells #[] 70)).drew).ownsRow w1.heap.size 70 2 (.slice (some ⟨w1.heap.size,0,none⟩) 0 0) 0 []):=iQ (DN (AL w1 _) (wa2 _));have hc1:((w1.alloc (.cells #[] 70)).drew).cell? ⟨g,0,none⟩=some (.slice A n c):=(Gx.out.box.kept BE.out).cell;have hc2:(w1.drew).cell? ⟨g,0,none⟩=some (.slice A n c):=c0;have hlt:=TT.isE_lt his;rw [HE.out] at hlt;have HV:Hid (Qg (es.take (TT.placeE x.toList es))++Qg (es.drop (TT.placeE x.toList es+1))=Qg es'):=iQ (by
    rw [<- HES.out];unfold TT.delE ND.rep;rw [his,if_pos rfl,<- Zg,wc5])
   have HI:=iQ his;clear his;generalize TT.placeE x.toList es=k at *;have HU:=fun w=>qa5 (n:=n) (c:=c) (k:=k) A hle hnc w;have HD:=fun w=>zc6 (n:=n) (c:=c) (k:=k) A hlt w;have HW:IntKind.i64.wrap ((k:Int)+1)=(k:Int)+1:=IntWalk.i64_in _ (by omega);have HZ:Hid (∀ k',(Value.slice (some ⟨w1.heap.size,0,none⟩) 0 0).ownBlock=some k'->w1.heap.size<=k'):=iQ (fun k' e'=>(OE.out.lt k' e').1);have HN:Hid (k+(n - (k+1))<=500000):=iQ (by omega);go_upto_region 3 with fail
   go_region_law
    (first
      | (refine Hl _ (by rfl) _ _ _ (by rfl) w1.heap.size 70 i0 _ 2 32 Tryz.underlying29 hi hz0 hz1 hz2 rfl (by omega) _ 0 _ [] (by rfl) OE.out A k c (Qg (es.take k)) (by rfl) ((UC.out k (by omega)).kept BE.out) (Yc _) (by unfold maxLen;omega) (by omega) BE.out.size ?_;intro A1 c1 w2 o2 g2;rw [we0] at o2;rw [we6] at o2 ⊢;have B2:=iQ (Below.grown (B:=w1.heap.size) (a:=w1) BE.out g2 BE.out.size HZ.out);have y0:=(Gx.out.box.kept B2.out).cell;have O2:=iQ o2;clear o2 g2)
      | (refine Hl _ (by rfl) _ _ _ (by rfl) w1.heap.size 70 i0 _ 2 32 Tryz.underlying29 hi hz0 hz1 hz2 rfl (by omega) _ k _ (Qg (es.take k)) (by rfl) O2.out (Vd A c (k+1)) (n - (k+1)) (c - (k+1)) (Qg (es.drop (k+1))) (by rfl) ((HLD.out (k+1) (by omega)).kept B2.out) (Yc _) (by have:=HN.out;unfold maxLen;omega) (by have:=HN.out;omega) B2.out.size ?_;intro A3 c3 w3 o3 g3;rw [HV.out] at o3;have B3:=Jh B2.out B2.out.size O2.out (wa2 _) g3;have HS:=iQ (HM.out.set HF.out (Qe B3 B1.out) (Jg o3 B1.out.size));have z0:=(Gx.out.box.kept B3).cell;have z1:=(Gx.out.box.kept B3).free;clear o3 g3 B3)
      | fail)
   all_goals (
    go_wp2_with fail;go_ret;rw [HI.out];exact ⟨rfl,HS.out.1,HS.out.2⟩)
theorem zb3 {A:Option Addr} {n c:Nat} (h:Ln w 2 A n c (Qg es)) (hF:∀ k,F k->k<w.heap.size) (ho:0<n->∀ ad,A=some ad->¬ F ad.block):MAt (w.alloc (.cells #[.slice A n c] 36)) F w.heap.size es:=by
 refine ⟨A,n,c,heap_alloc_new w _,⟨h.kept (Qa w _),ho⟩,fun e=>?_,fun hn ad e e2=>?_⟩
 ·have:=hF _ e
  omega
 ·have:=h.lt (by omega) e
  have e3:ad.block=w.heap.size:=e2;omega
end
section
variable {W w w':World} {F F':Nat->Prop} {tb pb db:Nat} {t t':TS}
theorem NY (w:World) (s:ByteArray):Ul (w.alloc (.cells #[.string s] 9)) w.heap.size s:=heap_alloc_new w _
theorem qm1 (w:World) (v:Bool):Jm (w.alloc (.cells #[.bool v] 4)) w.heap.size v:=heap_alloc_new w _
structure qe5 (t:TS) (key:List UInt8) (fn:ND->ND):Prop where
 way:TS.wayIn t.nd key t.z t.ht t.rt
 ht:t.ht<=999
 climb:∀ l,t.way key=some l->Xz t l.length l.reverse (fn (TS.last l))
 ct:(t.change key fn).1=0->0<=(t.change key fn).2.ct/\(t.change key fn).2.ct<=1000000000
theorem qy1 {key:List UInt8} {l:List TS.St} (h:t.way key=some l):t.hasK key=ND.isAt key (TS.last l).keys:=by unfold TS.hasK;rw [h]
theorem way_of {key:List UInt8} {fn:ND->ND} (h:(t.change key fn).1=0):∃ l,t.way key=some l:=by
 unfold TS.change at h;cases hw:t.way key with
 | none=>rw [hw] at h;exact absurd h (show ¬ (121:Int)=0 by decide)
 | some l=>exact ⟨l,rfl⟩
def QV (W:World) (F:Nat->Prop) (w:World) (tb pb db:Nat) (v:Value) (t':TS) (e:Ending) (w':World):Prop:=e = .returned v/\Yt W F w tb pb db t' w'
theorem Gh (w:World) (key val:ByteArray) (hp:t.lost=0->TS.badE key.toList val.toList=false->qe5 t key.toList (fun n=>n.put key.toList val.toList)) (h:Ql W F w tb pb db t) :
 Calls Tryz.prog 28 #[.pointer (some ⟨tb,0,none⟩),.string key,.string val] w (QV W F w tb pb db (.int .i64 (t.put key.toList val.toList).1) (t.put key.toList val.toList).2):=by
 have h0:=(NY w key).kept (Qa _ (.cells #[.string val] 9));have h1:=NY (w.alloc (.cells #[.string key] 9)) val;have b2:=Zp w (.cells #[.string key] 9) (.cells #[.string val] 9);rw [show (w.alloc (.cells #[.string key] 9)).heap.size=w.heap.size+1 by simp] at h1;have hws:((w.alloc (.cells #[.string key] 9)).alloc (.cells #[.string val] 9)).heap.size=w.heap.size+2:=by simp
 have HKB:=iQ h0;have HVB:=iQ h1;have B0:=iQ b2;have H0:=iQ h;have H:=iQ (h.kept b2);have HP:=iQ hp;have HW:=iQ h.below.size;have HWS:=iQ hws;obtain ⟨r,hr⟩:∃ r,t.put key.toList val.toList=r:=⟨_,rfl⟩;rw [hr];have HR:=iQ hr;clear h hp h0 h1 b2 hr hws;go_enter Tryz.func28,Tryz.ntmps28;go_upto_region 1 with fail
 generalize (w.alloc (.cells #[.string key] 9)).alloc (.cells #[.string val] 9)=w1 at *;go_wp2_with fail;refine (Gq w1 H.out).mono ?_;rintro e wx ⟨rfl,hwx⟩;subst hwx;by_cases hl:t.lost=0
 ·have HL:=iQ hl
  rw [hl];clear hl;have ck:=HKB.out.cell;have cv:=HVB.out.cell;cases hbad:TS.badE key.toList val.toList with
  | true =>
    have HX:Hid (QV W F w tb pb db (.int .i64 r.1) r.2 (.returned (.int .i64 120)) w1):=iQ (by
     rw [<- HR.out];unfold TS.put;rw [if_neg (by rw [HL.out];decide),hbad,if_pos rfl];exact ⟨rfl,Yt.ob H0.out B0.out⟩)
    rcases qm2 hbad with g1 | ⟨g1,g2⟩ | ⟨g1,g2,g3⟩
    ·clear hbad
     go_wp2_with fail;go_ret;exact HX.out
    ·clear hbad
     go_wp2_with fail;go_ret;exact HX.out
    ·clear hbad
     go_wp2_with fail;go_ret;exact HX.out
  | false =>
    obtain ⟨g1,g2,g3⟩:=qy9 hbad;have PRE:=iQ (HP.out HL.out hbad);have HPU:Hid (r=if (t.change key.toList (fun n=>n.put key.toList val.toList)).1=0 then (0,{ (t.change key.toList (fun n=>n.put key.toList val.toList)).2 with ct:=if t.hasK key.toList then (t.change key.toList (fun n=>n.put key.toList val.toList)).2.ct else (t.change key.toList (fun n=>n.put key.toList val.toList)).2.ct+1 })
     else ((t.change key.toList (fun n=>n.put key.toList val.toList)).1,(t.change key.toList (fun n=>n.put key.toList val.toList)).2.told (t.change key.toList (fun n=>n.put key.toList val.toList)).1)):=iQ (by
     rw [<- HR.out];unfold TS.put;rw [if_neg (by rw [HL.out];decide),hbad,if_neg (by decide)])
    clear hbad HR HP;have b3:=Qa w1 (.cells #[.bool false] 4);have HK3:=iQ (HKB.out.kept b3);have HV3:=iQ (HVB.out.kept b3);have HB3:=iQ (qm1 w1 false);have H3:=iQ (H.out.kept b3);have B3:=iQ (Qe b3 B0.out);have HN3:=iQ (H.out.new (wa2 w1.heap.size));have HNK:=iQ (H0.out.new (wa2 w.heap.size));have HNV:=iQ (H0.out.new (wd3 w.heap.size));have ck3:=HK3.out.cell;clear b3 HKB HVB H;go_upto_region 8 with fail
    clear ck cv;rw [HWS.out] at HB3 HN3 ⊢;generalize w1.alloc (.cells #[.bool false] 4)=w3 at *;have CH:=UJ w w3 F 55 (w.heap.size+2) #[.pointer (some ⟨w.heap.size,0,none⟩),.pointer (some ⟨w.heap.size+2,0,none⟩),.pointer (some ⟨w.heap.size+1,0,none⟩)] (fun n=>n.put key.toList val.toList) (fun n=>ND.isAt key.toList n.keys) key
     (enters_of Tryz.func55 (by kernel_rfl) rfl) H3.out (Qb.ob B3.out) HW.out (by omega) HB3.out.lt HN3.out PRE.out.way PRE.out.ht PRE.out.climb
     (fun wx Fx x l hT hM hx hl he=>by
       obtain ⟨q1,_,q3,q4,q5,q6⟩:=H3.out.wayOk PRE.out.way hl;obtain ⟨q7,q8,_⟩:=q1 q3 (List.mem_of_getLast? q4);have hxl:x.s.leaf=true:=by rw [he,q6];exact q5
       have hxo:x.s.ok=true:=by rw [he,q6];exact q7
       have hxz:x.s.size<=1000:=by rw [he,q6];exact q8
       exact qN5 wx x key val w.heap.size (w.heap.size+1) (w.heap.size+2) false hT.lt hx hxl hxo hxz (HK3.out.mo hM HNK.out) (HV3.out.mo hM HNV.out) (HB3.out.mo hM HN3.out) (by omega) (by omega))
    have HC:=iQ CH;clear CH;obtain ⟨rc,hrc⟩:∃ rc,t.change key.toList (fun n=>n.put key.toList val.toList)=rc:=⟨_,rfl⟩;have HW9:Hid (rc.1=0->(t.way key.toList).map (fun l=>ND.isAt key.toList (TS.last l).keys)=some (t.hasK key.toList)):=iQ (fun h=>by
     rw [<- hrc] at h;obtain ⟨l,hl⟩:=way_of h;rw [hl,qy1 hl];rfl)
    have HCT:Hid (rc.1=0->0<=rc.2.ct/\rc.2.ct<=1000000000):=iQ (by rw [<- hrc];exact PRE.out.ct);rw [hrc] at HC HPU;clear hrc PRE HK3 HV3 HB3;go_wp2_with fail;refine HC.out.mono ?_;rintro e w4 ⟨rfl,F4,h4,m4,n4,q4⟩;have H4:=iQ h4;have M4:=iQ m4;by_cases he:rc.1=0
    ·have hb4:=q4 _ (HW9.out he)
     have HBB:=iQ hb4;have hct:=HCT.out he;have HRE:Hid (r=(0,{ rc.2 with ct:=if t.hasK key.toList then rc.2.ct else rc.2.ct+1 })):=iQ (by rw [HPU.out,if_pos he])
     rw [he];clear h4 m4 n4 q4 he HPU HC HW9 ck3;obtain ⟨_,_,c3,_,_,f3⟩:=H4.out.cells3;have cb:=hb4.cell;clear hb4;cases hk:t.hasK key.toList with
     | true =>
       rw [hk] at cb;have HX:Hid (QV W F w tb pb db (.int .i64 r.1) r.2 (.returned (.int .i64 0)) w4):=iQ (by
        rw [HRE.out,hk,if_pos rfl];exact ⟨rfl,F4,H4.out,M4.out⟩)
       clear hk;go_wp2_with fail;go_ret;exact HX.out
     | false =>
       rw [hk] at cb;obtain ⟨F5,h5,m5⟩:=H4.out.setCt (rc.2.ct+1);have HX:Hid (QV W F w tb pb db (.int .i64 r.1) r.2 (.returned (.int .i64 0)) (w4.setCell ⟨tb,3,none⟩ (.int .i64 (rc.2.ct+1)))):=iQ (by
        rw [HRE.out,hk,if_neg (by decide)];exact ⟨rfl,F5,h5,M4.out.trans m5⟩)
       obtain ⟨ct,qS5⟩:∃ ct,rc.2.ct=ct:=⟨_,rfl⟩;rw [qS5] at hct c3 HX;clear HRE;clear hk h5 m5 qS5;have hw1:wrap64 (ct+1)=ct+1:=IntWalk.wrap64_in _ (by omega);go_wp2_with fail;go_ret;exact HX.out
    ·have hb:(rc.1 != 0)=true:=bne_iff_ne.2 he
     have HRE:Hid (r=(rc.1,rc.2.told rc.1)):=iQ (by rw [HPU.out,if_neg he]);clear h4 m4 n4 q4 he HPU HC HW9 ck3 HCT;go_wp2_with fail;refine (JR w4 rc.1 H4.out).mono ?_;rintro e w5 ⟨rfl,F5,h5,m5⟩;have HX:Hid (QV W F w tb pb db (.int .i64 r.1) r.2 (.returned (.int .i64 rc.1)) w5):=iQ (by rw [HRE.out];exact ⟨rfl,F5,h5,M4.out.trans m5⟩);clear h5 m5;go_wp2_with fail;go_ret;exact HX.out
 ·have hb:(t.lost != 0)=true:=bne_iff_ne.2 hl
  have HX:Hid (QV W F w tb pb db (.int .i64 r.1) r.2 (.returned (.int .i64 t.lost)) w1):=iQ (by
   rw [<- HR.out];unfold TS.put;rw [if_pos hl];exact ⟨rfl,Yt.ob H0.out B0.out⟩)
  clear hl;go_wp2_with fail;go_ret;exact HX.out
theorem qG8 (w:World) (key:ByteArray) (hp:t.lost=0->qe5 t key.toList (fun n=>n.remove key.toList)) (h:Ql W F w tb pb db t) :
 Calls Tryz.prog 98 #[.pointer (some ⟨tb,0,none⟩),.string key] w (QV W F w tb pb db (.tuple #[.bool (t.del key.toList).1,.int .i64 (t.del key.toList).2.1]) (t.del key.toList).2.2):=by
 have h0:=NY w key;have b2:=Qa w (.cells #[.string key] 9);have hws:(w.alloc (.cells #[.string key] 9)).heap.size=w.heap.size+1:=by simp
 have HKB:=iQ h0;have B0:=iQ b2;have H0:=iQ h;have H:=iQ (h.kept b2);have HP:=iQ hp;have HW:=iQ h.below.size;have HWS:=iQ hws;obtain ⟨r,hr⟩:∃ r,t.del key.toList=r:=⟨_,rfl⟩;rw [hr];have HR:=iQ hr;clear h hp h0 b2 hr hws;go_enter Tryz.func98,Tryz.ntmps98;go_upto_region 1 with fail
 generalize w.alloc (.cells #[.string key] 9)=w1 at *;go_wp2_with fail;refine (Gq w1 H.out).mono ?_;rintro e wx ⟨rfl,hwx⟩;subst hwx;by_cases hl:t.lost=0
 ·have HL:=iQ hl
  have PRE:=iQ (HP.out hl);rw [hl];clear hl HP;have HPU:Hid (r=if (t.change key.toList (fun n=>n.remove key.toList)).1=0 then (t.hasK key.toList,0,{ (t.change key.toList (fun n=>n.remove key.toList)).2 with ct:=if t.hasK key.toList then (t.change key.toList (fun n=>n.remove key.toList)).2.ct - 1 else (t.change key.toList (fun n=>n.remove key.toList)).2.ct })
   else (false,(t.change key.toList (fun n=>n.remove key.toList)).1,(t.change key.toList (fun n=>n.remove key.toList)).2.told (t.change key.toList (fun n=>n.remove key.toList)).1)):=iQ (by
   rw [<- HR.out];unfold TS.del;rw [if_neg (by rw [HL.out];decide)])
  clear HR;have b3:=Qa w1 (.cells #[.bool false] 4);have HK3:=iQ (HKB.out.kept b3);have HB3:=iQ (qm1 w1 false);have H3:=iQ (H.out.kept b3);have B3:=iQ (Qe b3 B0.out);have HN3:=iQ (H.out.new (wa2 w1.heap.size));have HNK:=iQ (H0.out.new (wa2 w.heap.size));have ck3:=HK3.out.cell;clear b3 HKB H;go_upto_region 6 with fail
  rw [HWS.out] at HB3 HN3 ⊢;generalize w1.alloc (.cells #[.bool false] 4)=w3 at *;have CH:=UJ w w3 F 140 (w.heap.size+1) #[.pointer (some ⟨w.heap.size,0,none⟩),.pointer (some ⟨w.heap.size+1,0,none⟩)] (fun n=>n.remove key.toList) (fun n=>ND.isAt key.toList n.keys) key
   (enters_of Tryz.func140 (by kernel_rfl) rfl) H3.out (Qb.ob B3.out) HW.out (by omega) HB3.out.lt HN3.out PRE.out.way PRE.out.ht PRE.out.climb
   (fun wx Fx x l hT hM hx hl he=>by
     obtain ⟨q1,_,q3,q4,q5,q6⟩:=H3.out.wayOk PRE.out.way hl;obtain ⟨q7,q8,_⟩:=q1 q3 (List.mem_of_getLast? q4);have hxl:x.s.leaf=true:=by rw [he,q6];exact q5
     have hxo:x.s.ok=true:=by rw [he,q6];exact q7
     have hxz:x.s.size<=1000:=by rw [he,q6];exact q8
     exact qU7 wx x key w.heap.size (w.heap.size+1) false hT.lt hx hxl hxo hxz (HK3.out.mo hM HNK.out) (HB3.out.mo hM HN3.out) (by omega))
  have HC:=iQ CH;clear CH;obtain ⟨rc,hrc⟩:∃ rc,t.change key.toList (fun n=>n.remove key.toList)=rc:=⟨_,rfl⟩;have HW9:Hid (rc.1=0->(t.way key.toList).map (fun l=>ND.isAt key.toList (TS.last l).keys)=some (t.hasK key.toList)):=iQ (fun h=>by
   rw [<- hrc] at h;obtain ⟨l,hl⟩:=way_of h;rw [hl,qy1 hl];rfl)
  have HCT:Hid (rc.1=0->0<=rc.2.ct/\rc.2.ct<=1000000000):=iQ (by rw [<- hrc];exact PRE.out.ct);rw [hrc] at HC HPU;clear hrc PRE HK3 HB3;go_wp2_with fail;refine HC.out.mono ?_;rintro e w4 ⟨rfl,F4,h4,m4,n4,q4⟩;have H4:=iQ h4;have M4:=iQ m4;by_cases he:rc.1=0
  ·have hb4:=q4 _ (HW9.out he)
   have HBB:=iQ hb4;have HN4:=iQ n4;have hct:=HCT.out he;have HRE:Hid (r=(t.hasK key.toList,0,{ rc.2 with ct:=if t.hasK key.toList then rc.2.ct - 1 else rc.2.ct })):=iQ (by rw [HPU.out,if_pos he])
   rw [he];clear h4 m4 n4 q4 he HPU HC HW9 ck3;obtain ⟨_,_,c3,_,_,f3⟩:=H4.out.cells3;have cb:=hb4.cell;clear hb4;cases hk:t.hasK key.toList with
   | false =>
     rw [hk] at cb;have HX:Hid (QV W F w tb pb db (.tuple #[.bool r.1,.int .i64 r.2.1]) r.2.2 (.returned (.tuple #[.bool false,.int .i64 0])) w4):=iQ (by
      rw [HRE.out,hk,if_neg (by decide)];exact ⟨rfl,F4,H4.out,M4.out⟩)
     clear hk;go_wp2_with fail;refine bodyPost_ret (v := .tuple #[.bool false,.int .i64 0]) (by simp [results,Tryz.results98,go_sem]) rfl ?_;exact HX.out
   | true =>
     rw [hk] at cb;obtain ⟨F5,h5,m5⟩:=H4.out.setCt (rc.2.ct - 1);have HX:Hid (QV W F w tb pb db (.tuple #[.bool r.1,.int .i64 r.2.1]) r.2.2 (.returned (.tuple #[.bool true,.int .i64 0])) (w4.setCell ⟨tb,3,none⟩ (.int .i64 (rc.2.ct - 1)))):=iQ (by
      rw [HRE.out,hk,if_pos rfl];exact ⟨rfl,F5,h5,M4.out.trans m5⟩)
     have cb5:(w4.setCell ⟨tb,3,none⟩ (.int .i64 (rc.2.ct - 1))).cell? ⟨w.heap.size+1,0,none⟩=some (.bool true):=by
      have:=(HBB.out.mo m5 HN4.out).cell;rwa [hk] at this
     obtain ⟨ct,qS5⟩:∃ ct,rc.2.ct=ct:=⟨_,rfl⟩;rw [qS5] at hct c3 HX cb5;clear HRE;clear hk h5 m5 qS5;have hw1:wrap64 (ct - 1)=ct - 1:=IntWalk.wrap64_in _ (by omega);go_wp2_with fail;refine bodyPost_ret (v := .tuple #[.bool true,.int .i64 0]) (by simp [results,Tryz.results98,go_sem]) rfl ?_;exact HX.out
  ·have hb:(rc.1 != 0)=true:=bne_iff_ne.2 he
   have HRE:Hid (r=(false,rc.1,rc.2.told rc.1)):=iQ (by rw [HPU.out,if_neg he]);clear h4 m4 n4 q4 he HPU HC HW9 ck3 HCT;go_wp2_with fail;refine (JR w4 rc.1 H4.out).mono ?_;rintro e w5 ⟨rfl,F5,h5,m5⟩;have HX:Hid (QV W F w tb pb db (.tuple #[.bool r.1,.int .i64 r.2.1]) r.2.2 (.returned (.tuple #[.bool false,.int .i64 rc.1])) w5):=iQ (by rw [HRE.out];exact ⟨rfl,F5,h5,M4.out.trans m5⟩);clear h5 m5;go_wp2_with fail;refine bodyPost_ret (v := .tuple #[.bool false,.int .i64 rc.1]) (by simp [results,Tryz.results98,go_sem]) rfl ?_;exact HX.out
 ·have hb:(t.lost != 0)=true:=bne_iff_ne.2 hl
  have HX:Hid (QV W F w tb pb db (.tuple #[.bool r.1,.int .i64 r.2.1]) r.2.2 (.returned (.tuple #[.bool false,.int .i64 t.lost])) w1):=iQ (by
   rw [<- HR.out];unfold TS.del;rw [if_pos hl];exact ⟨rfl,Yt.ob H0.out B0.out⟩)
  clear hl;go_wp2_with fail;refine bodyPost_ret (v := .tuple #[.bool false,.int .i64 t.lost]) (by simp [results,Tryz.results98,go_sem]) rfl ?_;exact HX.out
end
end
section
namespace TT
open ND TS
theorem nodup_sub:∀ (l O:List Int),l.Nodup->(∀ x∈l,x∈O)->l.length<=O.length
 | [],O,_,_=>wb3 _
 | a::l,O,h,hs=>by
   obtain ⟨h1,h2⟩:=we3.1 h;have ha:=hs a (by simp);have:=nodup_sub l (O.erase a) h2 (fun x hx=>(List.mem_erase_of_ne (fun (e:x=a)=>h1 (by rw [<- e];exact hx))).2 (hs x (by simp [hx])));rw [List.length_erase_of_mem ha] at this;have:=List.length_pos_of_mem ha;rw [wb4];omega
section
variable {O:List Int} {nd0:Int->Option ND} {t:TS} {es:List E} {L:List Int}
theorem Tr.pends (h:Tr O nd0 t es L):t.sp.pe.length<=O.length:=by
 have:=nodup_sub (t.sp.pe.map (·.2)) O h.acc.fine.once (fun x hx=>by
  obtain ⟨y,hy,rfl⟩:=wd7.1 hx;exact h.acc.pend y hy)
 simpa using this
theorem Tr.used_le (h:Tr O nd0 t es L):t.used L<=2*es.length+O.length:=by
 have h1:=h.pends;have h2:=h.root.count.1;unfold TS.used;omega
theorem Tr.low (h:Tr O nd0 t es L) (he:es.length<=511):t.ht<=9:=by
 rcases h.root.count.2 with e | e
 ·omega
 ·apply Classical.byContradiction
  intro hn;have:=Nat.pow_le_pow_right (n:=2) (by decide) (show 9<=t.ht - 1 by omega);omega
theorem empty_fits (key val:K) (h2:key.length<=120) (h3:val.length<=100):(empty.put key val).size<=1000:=by
 have:=put_size (s:=empty) (k:=key) (v:=val) (by decide) rfl h2 h3;have e:empty.size=2:=rfl;omega
theorem bad_no {key val:K} (h:TS.badE key val=false):1<=key.length/\key.length<=120/\val.length<=100:=by
 unfold TS.badE at h;simp only [Bool.or_eq_false_iff,decide_eq_false_iff_not] at h;omega
theorem Tr.putF (h:Tr O nd0 t es L) {key val:K} (hb:TS.badE key val=false) :
 (∃ t',t.change key (fun n=>n.put key val)=(81,t')/\Full t L (2*t.ht+3) 81)\/∃ t' L',t.change key (fun n=>n.put key val)=(0,t')/\Done O nd0 t L (2*t.ht+3) t' L'/\Root t'.nd t'.ht t'.rt (putE key val es) L':=by
 obtain ⟨h1,h2,h3⟩:=bad_no hb;exact h.change key (fun n=>n.put key val) (putE key val) (fun n lo hi e v hk hz=>by
  obtain ⟨a,b,c⟩:=VL.put v hk h1 h2 h3;exact ⟨a,by omega⟩) (fun pre e post a b=>put_mid a b) (Or.inr (by
  obtain ⟨_,_,c⟩:=VL.put (n:=empty) (lo:=[]) (hi:=[]) (es:=[]) (val:=val) ⟨rfl,rfl,rfl,rfl,rfl,fun k hk=>(by cases hk),rfl⟩ (btw_all key) h1 h2 h3;exact c)) (empty_fits key val h2 h3)
theorem Tr.delF (h:Tr O nd0 t es L) (key:K) :
 (∃ t',t.change key (fun n=>n.remove key)=(81,t')/\Full t L (2*t.ht+3) 81)\/∃ t' L',t.change key (fun n=>n.remove key)=(0,t')/\Done O nd0 t L (2*t.ht+3) t' L'/\Root t'.nd t'.ht t'.rt (delE key es) L':=by
 have he:empty.remove key=empty:=remove_new (by rfl);exact h.change key (fun n=>n.remove key) (delE key) (fun n lo hi e v hk hz=>by
  obtain ⟨a,b⟩:=VL.remove (key:=key) v;exact ⟨a,by omega⟩) (fun pre e post a b=>del_mid a b) (Or.inl he) (by rw [he];decide)
theorem Tr.put1 (h:Tr O nd0 t es L) {key val:K} (hb:TS.badE key val=false) :
 (∃ t',t.put key val=(81,t')/\t'.lost=81/\Full t L (2*t.ht+3) 81)\/∃ t' L',t.put key val=(0,t')/\Tr O nd0 t' (putE key val es) L'/\t'.z=t.z/\t'.ep=t.ep:=by
 have hk:=h.has key;unfold TS.put;rw [if_neg (by rw [h.lost];decide),hb,if_neg (by decide)];rcases h.putF hb with ⟨t',e,f⟩ | ⟨t',L',e,d,r⟩
 ·left
  rw [e,if_neg (show ¬ (81:Int)=0 by decide)];exact ⟨t'.told 81,rfl,rfl,f⟩
 ·right
  rw [e,if_pos rfl,hk];have hl:=put_len (key:=key) (val:=val) (es:=es);refine ⟨_,L',rfl,⟨⟨d.acc.fine,d.acc.once,d.acc.inL,d.acc.all,d.acc.late,d.acc.ep0,d.acc.own,d.acc.pend,d.acc.old,d.acc.fresh⟩,r,?_,d.lost_.trans h.lost,by show t'.z<=_;rw [d.z_];exact h.z_⟩,d.z_,d.ep_⟩;show (if isE key es=true then t'.ct else t'.ct+1)=_
  rw [d.ct_,h.ct,hl];cases isE key es<;>simp
theorem Tr.del1 (h:Tr O nd0 t es L) (key:K) :
 (∃ t',t.del key=(false,81,t')/\t'.lost=81/\Full t L (2*t.ht+3) 81)\/∃ t' L',t.del key=(isE key es,0,t')/\Tr O nd0 t' (delE key es) L'/\t'.z=t.z/\t'.ep=t.ep:=by
 have hk:=h.has key;unfold TS.del;rw [if_neg (by rw [h.lost];decide)];rcases h.delF key with ⟨t',e,f⟩ | ⟨t',L',e,d,r⟩
 ·left
  rw [e,if_neg (show ¬ (81:Int)=0 by decide)];exact ⟨t'.told 81,rfl,rfl,f⟩
 ·right
  rw [e,if_pos rfl,hk];have hl:=del_len (key:=key) (es:=es);refine ⟨_,L',rfl,⟨⟨d.acc.fine,d.acc.once,d.acc.inL,d.acc.all,d.acc.late,d.acc.ep0,d.acc.own,d.acc.pend,d.acc.old,d.acc.fresh⟩,r,?_,d.lost_.trans h.lost,by show t'.z<=_;rw [d.z_];exact h.z_⟩,d.z_,d.ep_⟩;show (if isE key es=true then t'.ct - 1 else t'.ct)=_
  rw [d.ct_,h.ct,hl];cases hi:isE key es with
  | false=>simp
  | true =>
    have:=isE_lt hi;simp;omega
theorem Tr.chgPut (h:Tr O nd0 t es L) (he:es.length<=511) {key val:K} (hb:TS.badE key val=false):qe5 t key (fun n=>n.put key val):=by
 obtain ⟨h1,h2,h3⟩:=bad_no hb;have hl:=h.low he;refine ⟨h.wayIn key,by omega,fun l hl=>h.pre key (fun n=>n.put key val) (by omega) (fun n lo hi e v hk hz=>by
  obtain ⟨a,b,c⟩:=VL.put v hk h1 h2 h3;exact ⟨_,a,by omega⟩) l hl,fun e=>?_⟩
 rcases h.putF hb with ⟨t',e',f⟩ | ⟨t',L',e',d,r⟩
 ·rw [e'] at e
  exact absurd e (show ¬ (81:Int)=0 by decide)
 ·rw [e']
  show 0<=t'.ct/\t'.ct<=_;rw [d.ct_,h.ct];omega
theorem Tr.chgDel (h:Tr O nd0 t es L) (he:es.length<=511) (key:K):qe5 t key (fun n=>n.remove key):=by
 have hl:=h.low he;refine ⟨h.wayIn key,by omega,fun l hl=>h.pre key (fun n=>n.remove key) (by omega) (fun n lo hi e v hk hz=>by
  obtain ⟨a,b⟩:=VL.remove (key:=key) v;exact ⟨_,a,by omega⟩) l hl,fun e=>?_⟩
 rcases h.delF key with ⟨t',e',f⟩ | ⟨t',L',e',d,r⟩
 ·rw [e'] at e
  exact absurd e (show ¬ (81:Int)=0 by decide)
 ·rw [e']
  show 0<=t'.ct/\t'.ct<=_;rw [d.ct_,h.ct];omega
theorem Tr.noFull (h:Tr O nd0 t es L) (hz:2*es.length+O.length+30<=t.z) (he:es.length<=511):¬ Full t L (2*t.ht+3) 81:=by
 intro f;have h1:=f.2;have h2:=h.used_le;have h3:=h.low he;omega
theorem Tr.putOk (h:Tr O nd0 t es L) (hz:2*es.length+O.length+30<=t.z) (he:es.length<=511) (key val:K) :
 ∃ t' L',t.put key val=(if TS.badE key val then 120 else 0,t')/\Tr O nd0 t' (if TS.badE key val then es else putE key val es) L'/\t'.z=t.z/\t'.ep=t.ep:=by
 cases hb:TS.badE key val with
 | true =>
   refine ⟨t,L,?_,h,rfl,rfl⟩;unfold TS.put;rw [if_neg (by rw [h.lost];decide),hb,if_pos rfl];rfl
 | false =>
   rcases h.put1 hb with ⟨t',e,_,f⟩ | ⟨t',L',e,r⟩
   ·exact absurd f (h.noFull hz he)
   ·exact ⟨t',L',e,r⟩
theorem Tr.delOk (h:Tr O nd0 t es L) (hz:2*es.length+O.length+30<=t.z) (he:es.length<=511) (key:K) :
 ∃ t' L',t.del key=(isE key es,0,t')/\Tr O nd0 t' (delE key es) L'/\t'.z=t.z/\t'.ep=t.ep:=by
 rcases h.del1 key with ⟨t',e,_,f⟩ | ⟨t',L',e,r⟩
 ·exact absurd f (h.noFull hz he)
 ·exact ⟨t',L',e,r⟩
end
end TT
end
section
open Go.RowKit Go.Maps
def plus (F:Nat->Prop) (g:Nat):Nat->Prop:=fun k=>F k\/k=g
def Uk.step (c:Uk) (es:List TT.E):List TT.E :=
 if c.kind=1 then (if TS.badE c.key.toList c.val.toList then es else TT.putE c.key.toList c.val.toList es) else if c.kind=2 then TT.delE c.key.toList es else es
theorem qL4 (c:Uk) (es:List TT.E):(c.step es).length<=es.length+1:=by
 unfold Uk.step;split
 ·split
  ·omega
  ·rw [TT.put_len]
   split<;>omega
 ·split
  ·rw [TT.del_len]
   split<;>omega
  ·omega
def JY (w:World) (g:Nat) (k:Int) (x y:ByteArray):Prop:=w.heap[g]?=some (.cells #[.int .i64 k,.string x,.string y] 123 (0,0))
section
variable {w w':World} {F F':Nat->Prop} {g:Nat} {k:Int} {x y:ByteArray}
theorem JY.lt (h:JY w g k x y):g<w.heap.size:=(wa1.1 h).1
theorem JY.kept (h:JY w g k x y) (hb:Below w.heap.size w w'):JY w' g k x y:=(hb.block g h.lt).trans h
theorem JY.mo (h:JY w g k x y) (m:Qb w F w' F') (hF:¬ F g):JY w' g k x y:=(m.kept.block g h.lt hF).trans h
theorem JY.grown {q:Nat} (h:JY w g k x y) (hg:w.grownBy w' (some q)) (hne:g≠q):JY w' g k x y:=(hg.block g h.lt (fun e=>hne (wa0 e))).trans h
theorem JY.cells (h:JY w g k x y):w.cell? ⟨g,0,none⟩=some (.int .i64 k)/\w.cell? ⟨g,1,none⟩=some (.string x)/\w.cell? ⟨g,2,none⟩=some (.string y) :=
 ⟨(cell_of_row w g 0 _ _ _ h).trans rfl,(cell_of_row w g 1 _ _ _ h).trans rfl,(cell_of_row w g 2 _ _ _ h).trans rfl⟩
theorem MJ (w:World) (k:Int) (x y:ByteArray):JY (w.alloc (.cells #[.int .i64 k,.string x,.string y] 123)) w.heap.size k x y:=heap_alloc_new w _
end
structure VM (W:World) (O:List Int) (nd0:Int->Option ND) (tb pb db g:Nat) (F:Nat->Prop) (t:TS) (es:List TT.E) (L:List Int) (w:World):Prop where
 tree:Ql W F w tb pb db t
 map:MAt w F g es
 tr:TT.Tr O nd0 t es L
 base:W.heap.size<=g
section
variable {W w w' w'':World} {F F':Nat->Prop} {tb pb db g:Nat} {t t':TS} {O:List Int} {nd0:Int->Option ND} {es es':List TT.E} {L:List Int}
theorem Qb.plus (m:Qb w F w' F') (g:Nat):Qb w (plus F g) w' (plus F' g) :=
 ⟨m.kept.more (fun _ h=>Or.inl h),fun k hk=>by
  rcases hk with e | e
  ·exact (m.news k e).imp Or.inl id
  ·exact Or.inl (Or.inr e)⟩
theorem Hw (hg:w.grownBy w' (some g)):Qb w (plus F g) w' (plus F g) :=
 ⟨⟨hg.os,hg.tape,hg.output,hg.size,fun k h1 h2=>hg.block k h1 (fun e=>h2 (Or.inr (wa0 e)))⟩,fun _ h=>Or.inl h⟩
theorem VM.kept (h:VM W O nd0 tb pb db g F t es L w) (hb:Below w.heap.size w w'):VM W O nd0 tb pb db g F t es L w':=⟨h.tree.kept hb,h.map.kept hb,h.tr,h.base⟩
def YS (W:World) (O:List Int) (nd0:Int->Option ND) (tb pb db g:Nat) (F:Nat->Prop) (z:Nat) (ep:Int) (w:World) (es:List TT.E) (e:Ending) (w':World):Prop :=
 e = .returned (.bool true)/\∃ F' t' L',VM W O nd0 tb pb db g F' t' es L' w'/\Qb w (plus F g) w' (plus F' g)/\t'.z=z/\t'.ep=ep
theorem zd5 (c:Uk) (w:World) (hk:c.kind=1) (h:VM W O nd0 tb pb db g F t es L w) (hz:2*es.length+O.length+30<=t.z) (he:es.length<=511) :
 Calls Tryz.prog 61 #[.pointer (some ⟨tb,0,none⟩),.pointer (some ⟨g,0,none⟩),c.agg] w (YS W O nd0 tb pb db g F t.z t.ep w (c.step es)):=by
 obtain ⟨kd,x,y⟩:=c;obtain rfl:kd=1:=hk;unfold Uk.agg Uk.step;dsimp only;rw [if_pos rfl];have b0:=Qa w (.cells #[.int .i64 1,.string x,.string y] 123);have HB0:=iQ (MJ w 1 x y);have H:=iQ (h.kept b0);have B0:=iQ b0;have NFG:=iQ (h.tree.new (wa2 w.heap.size));have HGL:=iQ h.map.lt;obtain ⟨t1,L1,e1,tr1,z1,ep1⟩:=h.tr.putOk hz he x.toList y.toList;have CP:=Gh (W:=W) (F:=F) (tb:=tb) (pb:=pb) (db:=db) (t:=t) (w.alloc (.cells #[.int .i64 1,.string x,.string y] 123)).drew x y (fun _ hb=>h.tr.chgPut he hb) ((h.kept b0).kept ((Below.refl _ _).drew)).tree;rw [e1] at CP;have HCP:=iQ CP;have T1:=iQ tr1;have ZE:=iQ (And.intro z1 ep1);have hle:es.length<=500000:=by omega
 clear h b0 CP e1 tr1 z1 ep1 hz he;obtain ⟨rv,hrv⟩:∃ rv:Int,(if TS.badE x.toList y.toList=true then (120:Int) else 0)=rv:=⟨_,rfl⟩
 obtain ⟨es1,hes1⟩:∃ es1,(if TS.badE x.toList y.toList=true then es else TT.putE x.toList y.toList es)=es1:=⟨_,rfl⟩
 rw [hrv] at HCP;rw [hes1] at T1 ⊢;have HRV:=iQ hrv;have HES:=iQ hes1;clear hrv hes1;go_enter Tryz.func61,Tryz.ntmps61;go_upto_region 1 with fail
 generalize hw0:w.alloc (.cells #[.int .i64 1,.string x,.string y] 123)=w0 at *;have c0:=HB0.out.cells.1;go_upto_region 3 with fail
 clear c0 hw0;have BD:=iQ ((Below.refl w0.heap.size w0).drew);have HD0:=iQ (HB0.out.kept BD.out);go_region_held3 (fun w'=>w'.cell? ⟨w.heap.size,1,none⟩=some (.string x)/\w'.cell? ⟨w.heap.size,2,none⟩=some (.string y))
  (first | exact HD0.out.cells.2 | exact HD1.out.cells.2 | exact HD2.out.cells.2)
  (first
    | (go_at_call 28;refine HCP.out.mono ?_;rintro e1 w1 ⟨rfl,F1,h1,m1⟩;have H1:=iQ h1;have M1:=iQ m1;have MP1:=iQ ((H.out.map.kept BD.out).mo m1);have HD1:=iQ (HD0.out.mo m1 NFG.out);clear h1 m1)
    | (go_at_call 97;refine (qQ0 w1 x y MP1.out H1.out.lt hle).mono ?_;rintro e2 w2 ⟨rfl,g2,mp2⟩;rw [HRV.out];rw [HES.out] at mp2;have G2:=iQ g2;have MP2:=iQ mp2;have HD2:=iQ (HD1.out.grown g2 (Nat.ne_of_gt HGL.out));clear g2 mp2)
    | fail)
 all_goals (
  have HX:Hid (YS W O nd0 tb pb db g F t.z t.ep w es1 (.returned (.bool true)) w2):=iQ (by
   refine ⟨rfl,F1,t1,L1,⟨H1.out.grown G2.out (fun k e=>by obtain rfl:=wa0 e;exact ⟨MP1.out.out,H.out.base⟩),MP2.out,T1.out,H.out.base⟩,?_,ZE.out.1,ZE.out.2⟩;exact (Qb.ob (F:=plus F g) (Qe BD.out B0.out)).trans ((M1.out.plus g).trans (Hw G2.out)))
  go_wp2_with fail;go_ret;simpa using HX.out)
theorem zd6 (c:Uk) (w:World) (hk:c.kind=2) (h:VM W O nd0 tb pb db g F t es L w) (hz:2*es.length+O.length+30<=t.z) (he:es.length<=511) :
 Calls Tryz.prog 61 #[.pointer (some ⟨tb,0,none⟩),.pointer (some ⟨g,0,none⟩),c.agg] w (YS W O nd0 tb pb db g F t.z t.ep w (c.step es)):=by
 obtain ⟨kd,x,y⟩:=c;obtain rfl:kd=2:=hk;unfold Uk.agg Uk.step;dsimp only;rw [if_neg (by decide),if_pos rfl];have b0:=Qa w (.cells #[.int .i64 2,.string x,.string y] 123);have HB0:=iQ (MJ w 2 x y);have H:=iQ (h.kept b0);have B0:=iQ b0;have NFG:=iQ (h.tree.new (wa2 w.heap.size));have HGL:=iQ h.map.lt;obtain ⟨t1,L1,e1,tr1,z1,ep1⟩:=h.tr.delOk hz he x.toList;have CP:=qG8 (W:=W) (F:=F) (tb:=tb) (pb:=pb) (db:=db) (t:=t) (w.alloc (.cells #[.int .i64 2,.string x,.string y] 123)) x (fun _=>h.tr.chgDel he _) (h.kept b0).tree;rw [e1] at CP;have HCP:=iQ CP;have T1:=iQ tr1;have ZE:=iQ (And.intro z1 ep1);have hle:es.length<=500000:=by omega
 clear h b0 CP e1 tr1 z1 ep1 hz he;obtain ⟨es1,hes1⟩:∃ es1,TT.delE x.toList es=es1:=⟨_,rfl⟩;have MD:=iQ (fun (wx:World) (Fx:Nat->Prop) (hm:MAt wx Fx g es) (hF:∀ k,Fx k->k<wx.heap.size)=>qQ5 wx x hm hF hle);rw [hes1] at T1 MD ⊢;obtain ⟨is,his⟩:∃ is,TT.isE x.toList es=is:=⟨_,rfl⟩;rw [his] at HCP MD;clear hes1 his;go_enter Tryz.func61,Tryz.ntmps61;go_upto_region 1 with fail
 generalize hw0:w.alloc (.cells #[.int .i64 2,.string x,.string y] 123)=w0 at *;clear hw0;obtain ⟨c0,c1,_⟩:=HB0.out.cells;go_wp2_with fail;refine HCP.out.mono ?_;rintro e1 w1 ⟨rfl,F1,h1,m1⟩;have H1:=iQ h1;have M1:=iQ m1;have MP1:=iQ (H.out.map.mo m1);have HD1:=iQ (HB0.out.mo m1 NFG.out);clear h1 m1 c0 c1 HB0;obtain ⟨_,c1,_⟩:=HD1.out.cells;go_wp2_with fail;refine (MD.out w1 F1 MP1.out H1.out.lt).mono ?_;rintro e2 w2 ⟨rfl,g2,mp2⟩;have HX:Hid (YS W O nd0 tb pb db g F t.z t.ep w es1 (.returned (.bool true)) w2):=iQ (by
  refine ⟨rfl,F1,t1,L1,⟨H1.out.grown g2 (fun k e=>by obtain rfl:=wa0 e;exact ⟨MP1.out.out,H.out.base⟩),mp2,T1.out,H.out.base⟩,?_,ZE.out.1,ZE.out.2⟩;exact (Qb.ob (F:=plus F g) B0.out).trans ((M1.out.plus g).trans (Hw g2)))
 clear g2 mp2;cases is with
 | true =>
   go_wp2_with fail;go_ret;exact HX.out
 | false =>
   go_wp2_with fail;go_ret;exact HX.out
theorem qU5 (c:Uk) (w:World) (h1:¬ c.kind=1) (h2:¬ c.kind=2) (h3:¬ c.kind=3) (h:VM W O nd0 tb pb db g F t es L w) :
 Calls Tryz.prog 61 #[.pointer (some ⟨tb,0,none⟩),.pointer (some ⟨g,0,none⟩),c.agg] w (YS W O nd0 tb pb db g F t.z t.ep w (c.step es)):=by
 obtain ⟨kd,x,y⟩:=c;dsimp only at h1 h2 h3;unfold Uk.agg Uk.step;dsimp only;rw [if_neg h1,if_neg h2];have b0:=Qa w (.cells #[.int .i64 kd,.string x,.string y] 123);have HX:Hid (YS W O nd0 tb pb db g F t.z t.ep w es (.returned (.bool true)) (w.alloc (.cells #[.int .i64 kd,.string x,.string y] 123))):=iQ ⟨rfl,F,t,L,h.kept b0,Qb.ob b0,rfl,rfl⟩;have HB0:=iQ (MJ w kd x y);have g1:(kd==1)=false:=beq_eq_false_iff_ne.2 h1;have g2:(kd==2)=false:=beq_eq_false_iff_ne.2 h2;have g3:(kd==3)=false:=beq_eq_false_iff_ne.2 h3;clear h b0 h1 h2 h3;go_enter Tryz.func61,Tryz.ntmps61;go_upto_region 1 with fail
 generalize w.alloc (.cells #[.int .i64 kd,.string x,.string y] 123)=w0 at *;obtain ⟨c0,_,_⟩:=HB0.out.cells;go_wp2_with fail;go_ret;exact HX.out
end
def ZQ (met:List Int):Int->Option Value:=NP (fun p=>decide (p∈met))
theorem qQ4 (met:List Int) (p:Int):upd (ZQ met) p (some (.agg #[]))=ZQ (p::met):=by
 unfold ZQ;rw [qy3];congr 1;funext q;by_cases h:q=p
 ·simp [h]
 ·simp [h]
theorem CZ (met:List Int) (p:Int):(ZQ met p).isSome=decide (p∈met)/\(ZQ met p).getD (.agg #[]) = .agg #[]:=by
 unfold ZQ NP;by_cases h:p∈met
 ·simp [h]
 ·simp [h]
def JZ (W:World) (F:Nat->Prop) (w:World) (tb pb db mb:Nat) (met:List Int) (vv:VV) (t:TS) (e:Ending) (w':World):Prop :=
 ∃ (u:VV) (r:Int) (F':Nat->Prop) (er:Int) (met':List Int),e = .returned (.tuple #[u.val,.int .i64 r])/\Ql W F' w' tb pb db (t.told er)/\Zl w' mb (ZQ met')/\Qb w (plus F mb) w' (plus F' mb)/\¬ F' mb/\u.x.ok w' (plus F' mb)/\u.x.hi w.heap.size /\
   ((r=0/\er=0/\u.v=vv.v/\vv.pg ∉ met/\TS.nodeAt t.nd vv.pg (vv.ht==1)=some u.x.s/\met'=vv.pg::met)\/(r=121/\u=VV.zero/\(vv.pg∈met\/(vv.pg ∉ met/\TS.nodeAt t.nd vv.pg (vv.ht==1)=none))))
section
variable {W w w':World} {F F':Nat->Prop} {tb pb db mb:Nat} {t:TS}
theorem Xo (hl:t.lost=0):t.told 0=t:=by unfold TS.told;rw [<- hl]
theorem Js (m:Qb w F w' F') {g:Nat} (hg:g<w.heap.size) (hF:¬ F g):¬ F' g:=fun e=>by
 rcases m.news g e with e | e
 ·exact hF e
 ·omega
theorem NV.ok.also {x:NV} (h:x.ok w F) (hh:x.hi mb) {g:Nat} (hg:g<mb):x.ok w (plus F g):=by
 have mv:∀ {A:Option Addr} {n c:Nat} {cs:List Value},Xv w F 1 A n c cs->Yp mb A->Xv w (plus F g) 1 A n c cs:=fun {A n c cs} h1 h2 =>
  ⟨h1.ln,fun hn ad e hk=>by
   rcases hk with hk | hk
   ·exact h1.out hn ad e hk
   ·have:=h2 ad e
    omega⟩
 exact ⟨mv h.ke hh.1,mv h.va hh.2.1,mv h.ki hh.2.2⟩
theorem Vw (w:World) (r:Nat) (a b c d p q u v:Value):w.grownBy ((((((((w.setCell ⟨r,0,none⟩ a).setCell ⟨r,1,none⟩ b).setCell ⟨r,2,none⟩ c).setCell ⟨r,3,none⟩ d).setCell ⟨r,4,none⟩ p).setCell ⟨r,5,none⟩ q).setCell ⟨r,6,none⟩ u).setCell ⟨r,7,none⟩ v) (some r) :=
 Qu (Qu (Qu (Qu (Qu (Qu (Qu (Qu (World.grownBy.refl w (some r)) 0 a) 1 b) 2 c) 3 d) 4 p) 5 q) 6 u) 7 v
theorem UQ (w:World) (r:Nat) (p q u v:Value):w.grownBy ((((w.setCell ⟨r,4,none⟩ p).setCell ⟨r,5,none⟩ q).setCell ⟨r,6,none⟩ u).setCell ⟨r,7,none⟩ v) (some r) :=
 Qu (Qu (Qu (Qu (World.grownBy.refl w (some r)) 4 p) 5 q) 6 u) 7 v
theorem VK {w5 w6:World} {F5:Nat->Prop} {r:Nat} {T:TS} {f:Int->Option Value} {x:NV} (hg:w5.grownBy w6 (some r)) (hT:Ql W F5 w5 tb pb db T) (hM:Zl w5 mb f) (hm:Qb w (plus F mb) w5 (plus F5 mb)) (hr:w.heap.size<=r) (hmb:mb<w.heap.size) (hF:¬ F5 r) (hW:W.heap.size<=w.heap.size)
 (hx:x.ok w5 F5) (hh:x.hi (w.heap.size+2)) (hr2:r<w.heap.size+2):Ql W F5 w6 tb pb db T/\Zl w6 mb f/\Qb w (plus F mb) w6 (plus F5 mb)/\x.ok w6 F5 :=
 ⟨hT.grown hg (fun g e=>by obtain rfl:=wa0 e;exact ⟨hF,wa9 hW hr⟩),hM.block (hg.block mb hM.lt (fun e=>by have:=wa0 e;omega)),hm.grown hg (fun g e=>by obtain rfl:=wa0 e;exact hr),hx.grown hh hr2 hg⟩
theorem qt0 (w:World) (vv:VV) (met:List Int) (hl:t.lost=0) (h0:0<=vv.pg) (h1:vv.pg<t.z) (h:Ql W F w tb pb db t) (hm:Zl w mb (ZQ met)) (hmb:¬ F mb) (hW:W.heap.size<=mb) :
 Calls Tryz.prog 63 #[vv.val,.pointer (some ⟨tb,0,none⟩),.map (some mb)] w (JZ W F w tb pb db mb met vv t):=by
 obtain ⟨pg,ht,lo,hi,A,n,cc,B,m,d,C,k,e,s⟩:=vv;have hz:=h.fit.z4;unfold VV.val;dsimp only at *;have b0:=Qa w (.cells #[.int .i64 pg,.int .i64 ht,.string lo,.string hi,.bool s.leaf,.slice A n cc,.slice B m d,.slice C k e] 77);have HV0:=Zj w (.int .i64 pg) (.int .i64 ht) (.string lo) (.string hi) (.bool s.leaf) (.slice A n cc) (.slice B m d) (.slice C k e);have HML:=iQ hm.lt;have HT:=iQ h;have HMW:=iQ hm;go_enter Tryz.func63,Tryz.ntmps63;go_upto_region 1 with fail
 generalize hw0:w.alloc (.cells #[.int .i64 pg,.int .i64 ht,.string lo,.string hi,.bool s.leaf,.slice A n cc,.slice B m d,.slice C k e] 77)=w0 at *;have b1:=Qa w0 (.cells #[.int .i64 0,.int .i64 0,.string ⟨#[]⟩,.string ⟨#[]⟩,.bool false,.slice none 0 0,.slice none 0 0,.slice none 0 0] 77);have HR:=iQ (Zj w0 (.int .i64 0) (.int .i64 0) (.string ⟨#[]⟩) (.string ⟨#[]⟩) (.bool false) (.slice none 0 0) (.slice none 0 0) (.slice none 0 0));have HV1:=iQ (HV0.kept b1);have B1:=iQ (Qe b1 b0);have hsz:w0.heap.size=w.heap.size+1:=by rw [<- hw0];simp
 rw [hsz] at HR;have H1:=iQ (h.kept B1.out);have Gx:=iQ (hm.block (B1.out.block mb hm.lt));have NF:=iQ hmb;have TY:=iQ (And.intro hW h.below.size);have HL:=iQ hl;have NFG:Hid (¬ F w.heap.size/\¬ F (w.heap.size+1)):=iQ ⟨h.new (wa2 _),h.new (by omega)⟩;clear hw0 b0 b1 HV0 hsz h hm hmb hW hl;generalize hw1:w0.alloc (.cells #[.int .i64 0,.int .i64 0,.string ⟨#[]⟩,.string ⟨#[]⟩,.bool false,.slice none 0 0,.slice none 0 0,.slice none 0 0] 77)=w1 at *;clear hw1;have hlk:=Gx.out.lookU (i:=pg) (by omega) (by omega);rw [(CZ met pg).1,(CZ met pg).2] at hlk;obtain ⟨c0,_,_,_,_,_,_,_⟩:=HV1.out.cells;by_cases hin:pg∈met
 ·rw [decide_eq_true hin] at hlk
  have HIN:=iQ hin;have b2:=Qa w1 (.cells #[] 184);have HR2:=HR.out.kept b2;have B2:=iQ (Qe b2 B1.out);have HM2:=iQ (Gx.out.block (b2.block mb Gx.out.lt));have H2:=iQ (H1.out.kept b2);have r0:=HR2.free 0;have r1:=HR2.free 1;have r2:=HR2.free 2;have r3:=HR2.free 3;have r4:=HR2.free 4;have r5:=HR2.free 5;have r6:=HR2.free 6;have r7:=HR2.free 7;obtain ⟨z0,z1,z2,z3,z4,z5,z6,z7⟩:=HR2.cells;have HE:=iQ (HR2.put (.int .i64 0) (.int .i64 0) (.string ⟨#[]⟩) (.string ⟨#[]⟩) (.bool false) (.slice none 0 0) (.slice none 0 0) (.slice none 0 0));have BP:=MG (B:=w.heap.size) (a:=w) B2.out (show w.heap.size<=w.heap.size+1 by omega) (.int .i64 0) (.int .i64 0) (.string ⟨#[]⟩) (.string ⟨#[]⟩) (.bool false) (.slice none 0 0) (.slice none 0 0) (.slice none 0 0);have HB:=iQ BP;clear hin HR2 b2 BP;go_wp2_with fail;clear z0 z1 z2 z3 z4 z5 z6 z7 r0 r1 r2 r3 r4 r5 r6 r7;generalize ((((((((w1.alloc (.cells #[] 184)).setCell ⟨w.heap.size+1,0,none⟩ (.int .i64 0)).setCell ⟨w.heap.size+1,1,none⟩ (.int .i64 0)).setCell ⟨w.heap.size+1,2,none⟩ (.string ⟨#[]⟩)).setCell ⟨w.heap.size+1,3,none⟩ (.string ⟨#[]⟩)).setCell ⟨w.heap.size+1,4,none⟩ (.bool false)).setCell ⟨w.heap.size+1,5,none⟩ (.slice none 0 0)).setCell ⟨w.heap.size+1,6,none⟩ (.slice none 0 0)).setCell ⟨w.heap.size+1,7,none⟩ (.slice none 0 0)=we at *;obtain ⟨z0,z1,z2,z3,z4,z5,z6,z7⟩:=HE.out.cells;refine bodyPost_ret (v := .tuple #[.agg #[.int .i64 0,.int .i64 0,.string ⟨#[]⟩,.string ⟨#[]⟩,.bool false,.slice none 0 0,.slice none 0 0,.slice none 0 0],.int .i64 121]) (by simp [results,Tryz.results63,go_sem,z0,z1,z2,z3,z4,z5,z6,z7]) rfl ?_;exact ⟨VV.zero,121,F,t.lost,met,rfl,by rw [show t.told t.lost=t from rfl];exact HT.out.kept HB.out,HMW.out.block (HB.out.block mb HML.out),Qb.ob HB.out,NF.out,NV.zero_ok _ _,NV.hi_zero _,Or.inr ⟨rfl,rfl,Or.inl HIN.out⟩⟩
 ·rw [decide_eq_false hin] at hlk
  have HIN:=iQ hin;have b2:=Qa w1 (.cells #[] 184);clear hin;go_upto_region 4 with fail
  clear c0 hlk;generalize w1.alloc (.cells #[] 184)=w2 at *;have H2:=H1.out.kept b2;have B2:=iQ (Qe b2 B1.out);obtain ⟨w3,hrun,hm3,hg3⟩:=(Gx.out.block (b2.block mb Gx.out.lt)).putU (i:=pg) h0 (by omega) (.agg #[]);rw [qQ4] at hm3;have M3:=iQ (show Qb w (plus F mb) w3 (plus F mb) from (Qb.ob B2.out).trans (Hw hg3));have H3:=iQ (H2.grown hg3 (fun q e=>by obtain rfl:=wa0 e;exact ⟨NF.out,TY.out.1⟩));have HM3:=iQ hm3;have HV3:=iQ ((HV1.out.kept b2).grown hg3 (Nat.ne_of_gt HML.out));have HR3:=iQ ((HR.out.kept b2).grown hg3 (Nat.ne_of_gt (Nat.lt_succ_of_lt HML.out)));have c2:=(HV1.out.kept b2).cells.1;clear b2 H2 hm3 hg3 H1 Gx HV1 HR B1 B2;go_upto_region 5 with fail
  clear hrun c2;obtain ⟨c0,_,_,_,_,_,_,_⟩:=HV3.out.cells;have CN:=qo9 w3 pg h0 h1 HL.out H3.out;obtain ⟨er,her⟩:∃ er,Jz t pg=er:=⟨_,rfl⟩;obtain ⟨sr,hsr⟩:∃ sr,Uu t pg=sr:=⟨_,rfl⟩;rw [her,hsr] at CN;have HCN:=iQ CN;have HER:=iQ (And.intro her hsr);clear CN her hsr;go_wp2_with fail;refine HCN.out.mono ?_;rintro e w4 ⟨x,F4,rfl,xok,xs,xhi,h4,m4⟩;obtain ⟨xA,xn,xc,xB,xm,xd,xC,xk,xe,xss⟩:=x;obtain rfl:xss=sr:=xs;have b5:=Qa w4 (.cells #[.bool xss.leaf,.slice xA xn xc,.slice xB xm xd,.slice xC xk xe] 75);have HN5:=iQ (Qp w4 (.bool xss.leaf) (.slice xA xn xc) (.slice xB xm xd) (.slice xC xk xe));have H5:=iQ (h4.kept b5);have M5:=iQ (M3.out.trans ((m4.plus mb).trans (Qb.ob (F:=plus F4 mb) b5)));have HX5:=iQ (xok.kept b5);have HXH:Hid (NV.hi ⟨xA,xn,xc,xB,xm,xd,xC,xk,xe,xss⟩ (w.heap.size+2)):=iQ (xhi.low (by have:=HR3.out.lt;omega));have NFM:Hid (¬ F4 mb):=iQ (Js m4 HM3.out.lt NF.out);have NF5:Hid (¬ F4 w.heap.size/\¬ F4 (w.heap.size+1)):=iQ ⟨Js m4 HV3.out.lt NFG.out.1,Js m4 HR3.out.lt NFG.out.2⟩;have HV5:=iQ ((HV3.out.mo m4 NFG.out.1).kept b5);have YH:=iQ ((HR3.out.mo m4 NFG.out.2).kept b5);have HM5:=iQ ((HM3.out.block (m4.kept.block mb HM3.out.lt NF.out)).block (b5.block mb (wa3 HM3.out.lt m4.kept.size)));have MF:Hid (w.heap.size≠w4.heap.size/\w.heap.size+1≠w4.heap.size):=iQ (by
   have h1:=(HR3.out.mo m4 NFG.out.2).lt;omega)
  clear b5 h4 m4 xok xhi HCN M3 H3 HM3 HV3 HR3 c0;unfold NV.val;dsimp only;go_upto_region 6 with fail
  generalize hw5:w4.alloc (.cells #[.bool xss.leaf,.slice xA xn xc,.slice xB xm xd,.slice xC xk xe] 75)=w5 at *;clear hw5;generalize w4.heap.size=gn at *;obtain ⟨n0,n1,n2,n3⟩:=HN5.out.cells;obtain ⟨_,c1,_,_,_,_,_,_⟩:=HV5.out.cells;obtain ⟨lf,hlf⟩:∃ lf,xss.leaf=lf:=⟨_,rfl⟩;rw [hlf] at n0 HN5;have BAD:Hid (TS.nodeAt t.nd pg (ht==1)=none->JZ W F w tb pb db mb met ⟨pg,ht,lo,hi,⟨A,n,cc,B,m,d,C,k,e,s⟩⟩ t (.returned (.tuple #[.agg #[.int .i64 0,.int .i64 0,.string ⟨#[]⟩,.string ⟨#[]⟩,.bool false,.slice none 0 0,.slice none 0 0,.slice none 0 0],.int .i64 121])) ((((((((w5.setCell ⟨w.heap.size+1,0,none⟩ (.int .i64 0)).setCell ⟨w.heap.size+1,1,none⟩ (.int .i64 0)).setCell ⟨w.heap.size+1,2,none⟩ (.string ⟨#[]⟩)).setCell ⟨w.heap.size+1,3,none⟩ (.string ⟨#[]⟩)).setCell ⟨w.heap.size+1,4,none⟩ (.bool false)).setCell ⟨w.heap.size+1,5,none⟩ (.slice none 0 0)).setCell ⟨w.heap.size+1,6,none⟩ (.slice none 0 0)).setCell ⟨w.heap.size+1,7,none⟩ (.slice none 0 0))):=iQ (fun hnone=>by
   obtain ⟨a,b,c,_⟩:=VK (x:=NV.zero) (Vw w5 (w.heap.size+1) (.int .i64 0) (.int .i64 0) (.string ⟨#[]⟩) (.string ⟨#[]⟩) (.bool false) (.slice none 0 0) (.slice none 0 0) (.slice none 0 0)) H5.out HM5.out M5.out (wd3 _) HML.out NF5.out.2 TY.out.2 (NV.zero_ok _ _) (NV.hi_zero _) (Nat.lt_succ_self _);exact ⟨VV.zero,121,F4,er,_,rfl,a,b,c,NFM.out,NV.zero_ok _ _,NV.hi_zero _,Or.inr ⟨rfl,rfl,Or.inr ⟨HIN.out,hnone⟩⟩⟩)
  have qX7:=iQ (YH.out.put (.int .i64 0) (.int .i64 0) (.string ⟨#[]⟩) (.string ⟨#[]⟩) (.bool false) (.slice none 0 0) (.slice none 0 0) (.slice none 0 0)).cells;have HLF:=iQ hlf;have GOOD:Hid (TS.nodeAt t.nd pg (ht==1)=some xss->er=0->JZ W F w tb pb db mb met ⟨pg,ht,lo,hi,⟨A,n,cc,B,m,d,C,k,e,s⟩⟩ t (.returned (.tuple #[.agg #[.int .i64 pg,.int .i64 ht,.string lo,.string hi,.bool lf,.slice xA xn xc,.slice xB xm xd,.slice xC xk xe],.int .i64 0])) ((((((((((((w5.setCell ⟨w.heap.size,4,none⟩ (.bool lf)).setCell ⟨w.heap.size,5,none⟩ (.slice xA xn xc)).setCell ⟨w.heap.size,6,none⟩ (.slice xB xm xd)).setCell ⟨w.heap.size,7,none⟩ (.slice xC xk xe)).setCell ⟨w.heap.size+1,0,none⟩ (.int .i64 pg)).setCell ⟨w.heap.size+1,1,none⟩ (.int .i64 ht)).setCell ⟨w.heap.size+1,2,none⟩ (.string lo)).setCell ⟨w.heap.size+1,3,none⟩ (.string hi)).setCell ⟨w.heap.size+1,4,none⟩ (.bool lf)).setCell ⟨w.heap.size+1,5,none⟩ (.slice xA xn xc)).setCell ⟨w.heap.size+1,6,none⟩ (.slice xB xm xd)).setCell ⟨w.heap.size+1,7,none⟩ (.slice xC xk xe))):=iQ (fun hsome he=>by
   have hv:=HXH.out;obtain ⟨a,b,c,dd⟩:=VK (UQ w5 w.heap.size (.bool lf) (.slice xA xn xc) (.slice xB xm xd) (.slice xC xk xe)) H5.out HM5.out M5.out (wa2 _) HML.out NF5.out.1 TY.out.2 HX5.out hv (by omega);obtain ⟨a,b,c,dd⟩:=VK (Vw _ (w.heap.size+1) (.int .i64 pg) (.int .i64 ht) (.string lo) (.string hi) (.bool lf) (.slice xA xn xc) (.slice xB xm xd) (.slice xC xk xe)) a b c (wd3 _) HML.out NF5.out.2 TY.out.2 dd hv (Nat.lt_succ_self _);refine ⟨⟨pg,ht,lo,hi,⟨xA,xn,xc,xB,xm,xd,xC,xk,xe,xss⟩⟩,0,F4,er,_,?_,a,b,c,NFM.out,dd.also hv (wa3 HML.out (by omega)),hv.low (by omega),Or.inl ⟨rfl,he,rfl,HIN.out,hsome,rfl⟩⟩;rw [<- HLF.out];rfl)
  have GV:=iQ (HV5.out.putNode (.bool lf) (.slice xA xn xc) (.slice xB xm xd) (.slice xC xk xe));have GR:=iQ ((YH.out.grown (UQ w5 w.heap.size (.bool lf) (.slice xA xn xc) (.slice xB xm xd) (.slice xC xk xe)) (by omega)));have qm9:=iQ (GR.out.put (.int .i64 pg) (.int .i64 ht) (.string lo) (.string hi) (.bool lf) (.slice xA xn xc) (.slice xB xm xd) (.slice xC xk xe)).cells;have HEE:=HER.out;clear hlf H5 HM5 M5 HX5;cases hnd:t.nd pg with
  | none =>
    obtain ⟨e1,e2⟩:=HEE;unfold Jz at e1;rw [hnd] at e1;obtain rfl:121=er:=e1;have BD:=iQ (BAD.out (by unfold TS.nodeAt;rw [hnd]));clear GOOD GV GR qm9 BAD hnd e2 HER;obtain ⟨z0,z1,z2,z3,z4,z5,z6,z7⟩:=YH.out.cells;have r0:=YH.out.free 0;have r1:=YH.out.free 1;have r2:=YH.out.free 2;have r3:=YH.out.free 3;have r4:=YH.out.free 4;have r5:=YH.out.free 5;have r6:=YH.out.free 6;have r7:=YH.out.free 7;go_wp2_with fail;clear z0 z1 z2 z3 z4 z5 z6 z7 r0 r1 r2 r3 r4 r5 r6 r7;generalize (((((((w5.setCell ⟨w.heap.size+1,0,none⟩ (.int .i64 0)).setCell ⟨w.heap.size+1,1,none⟩ (.int .i64 0)).setCell ⟨w.heap.size+1,2,none⟩ (.string ⟨#[]⟩)).setCell ⟨w.heap.size+1,3,none⟩ (.string ⟨#[]⟩)).setCell ⟨w.heap.size+1,4,none⟩ (.bool false)).setCell ⟨w.heap.size+1,5,none⟩ (.slice none 0 0)).setCell ⟨w.heap.size+1,6,none⟩ (.slice none 0 0)).setCell ⟨w.heap.size+1,7,none⟩ (.slice none 0 0)=we at *;obtain ⟨z0,z1,z2,z3,z4,z5,z6,z7⟩:=qX7.out;refine bodyPost_ret (v := .tuple #[.agg #[.int .i64 0,.int .i64 0,.string ⟨#[]⟩,.string ⟨#[]⟩,.bool false,.slice none 0 0,.slice none 0 0,.slice none 0 0],.int .i64 121]) (by simp [results,Tryz.results63,go_sem,z0,z1,z2,z3,z4,z5,z6,z7]) rfl ?_;exact BD.out
  | some nn =>
    obtain ⟨e1,e2⟩:=HEE;unfold Jz at e1;unfold Uu at e2;rw [hnd] at e1 e2;obtain rfl:0=er:=e1;obtain rfl:nn=xss:=e2;obtain ⟨q,hq⟩:∃ q,(ht==1)=q:=⟨_,rfl⟩;have HN:Hid (TS.nodeAt t.nd pg q=if lf=q then some nn else none):=iQ (by unfold TS.nodeAt;rw [hnd,<- HLF.out])
    rw [hq] at BAD GOOD;clear hnd HER HLF;cases lf with
    | true =>
      cases q with
      | true =>
        have BD:=iQ (GOOD.out (by rw [HN.out];rfl) rfl);clear GOOD qX7 BAD HN;obtain ⟨_,_,_,_,v4,v5,v6,v7⟩:=HV5.out.cells;have g4:=HV5.out.free 4;have g5:=HV5.out.free 5;have g6:=HV5.out.free 6;have g7:=HV5.out.free 7;go_upto_region 11 with fail
        clear v4 v5 v6 v7 g4 g5 g6 g7 c1 n0 n1 n2 n3;generalize (((w5.setCell ⟨w.heap.size,4,none⟩ (.bool true)).setCell ⟨w.heap.size,5,none⟩ (.slice xA xn xc)).setCell ⟨w.heap.size,6,none⟩ (.slice xB xm xd)).setCell ⟨w.heap.size,7,none⟩ (.slice xC xk xe)=w6 at *;obtain ⟨v0,v1,v2,v3,v4,v5,v6,v7⟩:=GV.out.cells;obtain ⟨z0,z1,z2,z3,z4,z5,z6,z7⟩:=GR.out.cells;have r0:=GR.out.free 0;have r1:=GR.out.free 1;have r2:=GR.out.free 2;have r3:=GR.out.free 3;have r4:=GR.out.free 4;have r5:=GR.out.free 5;have r6:=GR.out.free 6;have r7:=GR.out.free 7;go_wp2_with fail;clear z0 z1 z2 z3 z4 z5 z6 z7 r0 r1 r2 r3 r4 r5 r6 r7 v0 v1 v2 v3 v4 v5 v6 v7;generalize (((((((w6.setCell ⟨w.heap.size+1,0,none⟩ (.int .i64 pg)).setCell ⟨w.heap.size+1,1,none⟩ (.int .i64 ht)).setCell ⟨w.heap.size+1,2,none⟩ (.string lo)).setCell ⟨w.heap.size+1,3,none⟩ (.string hi)).setCell ⟨w.heap.size+1,4,none⟩ (.bool true)).setCell ⟨w.heap.size+1,5,none⟩ (.slice xA xn xc)).setCell ⟨w.heap.size+1,6,none⟩ (.slice xB xm xd)).setCell ⟨w.heap.size+1,7,none⟩ (.slice xC xk xe)=we at *;obtain ⟨z0,z1,z2,z3,z4,z5,z6,z7⟩:=qm9.out;refine bodyPost_ret (v := .tuple #[.agg #[.int .i64 pg,.int .i64 ht,.string lo,.string hi,.bool true,.slice xA xn xc,.slice xB xm xd,.slice xC xk xe],.int .i64 0]) (by simp [results,Tryz.results63,go_sem,z0,z1,z2,z3,z4,z5,z6,z7]) rfl ?_;exact BD.out
      | false =>
        have BD:=iQ (BAD.out (by rw [HN.out];rfl));clear GOOD GV GR qm9 BAD HN;obtain ⟨z0,z1,z2,z3,z4,z5,z6,z7⟩:=YH.out.cells;have r0:=YH.out.free 0;have r1:=YH.out.free 1;have r2:=YH.out.free 2;have r3:=YH.out.free 3;have r4:=YH.out.free 4;have r5:=YH.out.free 5;have r6:=YH.out.free 6;have r7:=YH.out.free 7;go_wp2_with fail;clear z0 z1 z2 z3 z4 z5 z6 z7 r0 r1 r2 r3 r4 r5 r6 r7;generalize (((((((w5.setCell ⟨w.heap.size+1,0,none⟩ (.int .i64 0)).setCell ⟨w.heap.size+1,1,none⟩ (.int .i64 0)).setCell ⟨w.heap.size+1,2,none⟩ (.string ⟨#[]⟩)).setCell ⟨w.heap.size+1,3,none⟩ (.string ⟨#[]⟩)).setCell ⟨w.heap.size+1,4,none⟩ (.bool false)).setCell ⟨w.heap.size+1,5,none⟩ (.slice none 0 0)).setCell ⟨w.heap.size+1,6,none⟩ (.slice none 0 0)).setCell ⟨w.heap.size+1,7,none⟩ (.slice none 0 0)=we at *;obtain ⟨z0,z1,z2,z3,z4,z5,z6,z7⟩:=qX7.out;refine bodyPost_ret (v := .tuple #[.agg #[.int .i64 0,.int .i64 0,.string ⟨#[]⟩,.string ⟨#[]⟩,.bool false,.slice none 0 0,.slice none 0 0,.slice none 0 0],.int .i64 121]) (by simp [results,Tryz.results63,go_sem,z0,z1,z2,z3,z4,z5,z6,z7]) rfl ?_;exact BD.out
    | false =>
      cases q with
      | true =>
        have BD:=iQ (BAD.out (by rw [HN.out];rfl));clear GOOD GV GR qm9 BAD HN;obtain ⟨z0,z1,z2,z3,z4,z5,z6,z7⟩:=YH.out.cells;have r0:=YH.out.free 0;have r1:=YH.out.free 1;have r2:=YH.out.free 2;have r3:=YH.out.free 3;have r4:=YH.out.free 4;have r5:=YH.out.free 5;have r6:=YH.out.free 6;have r7:=YH.out.free 7;go_wp2_with fail;clear z0 z1 z2 z3 z4 z5 z6 z7 r0 r1 r2 r3 r4 r5 r6 r7;generalize (((((((w5.setCell ⟨w.heap.size+1,0,none⟩ (.int .i64 0)).setCell ⟨w.heap.size+1,1,none⟩ (.int .i64 0)).setCell ⟨w.heap.size+1,2,none⟩ (.string ⟨#[]⟩)).setCell ⟨w.heap.size+1,3,none⟩ (.string ⟨#[]⟩)).setCell ⟨w.heap.size+1,4,none⟩ (.bool false)).setCell ⟨w.heap.size+1,5,none⟩ (.slice none 0 0)).setCell ⟨w.heap.size+1,6,none⟩ (.slice none 0 0)).setCell ⟨w.heap.size+1,7,none⟩ (.slice none 0 0)=we at *;obtain ⟨z0,z1,z2,z3,z4,z5,z6,z7⟩:=qX7.out;refine bodyPost_ret (v := .tuple #[.agg #[.int .i64 0,.int .i64 0,.string ⟨#[]⟩,.string ⟨#[]⟩,.bool false,.slice none 0 0,.slice none 0 0,.slice none 0 0],.int .i64 121]) (by simp [results,Tryz.results63,go_sem,z0,z1,z2,z3,z4,z5,z6,z7]) rfl ?_;exact BD.out
      | false =>
        have BD:=iQ (GOOD.out (by rw [HN.out];rfl) rfl);clear GOOD qX7 BAD HN;obtain ⟨_,_,_,_,v4,v5,v6,v7⟩:=HV5.out.cells;have g4:=HV5.out.free 4;have g5:=HV5.out.free 5;have g6:=HV5.out.free 6;have g7:=HV5.out.free 7;go_upto_region 11 with fail
        clear v4 v5 v6 v7 g4 g5 g6 g7 c1 n0 n1 n2 n3;generalize (((w5.setCell ⟨w.heap.size,4,none⟩ (.bool false)).setCell ⟨w.heap.size,5,none⟩ (.slice xA xn xc)).setCell ⟨w.heap.size,6,none⟩ (.slice xB xm xd)).setCell ⟨w.heap.size,7,none⟩ (.slice xC xk xe)=w6 at *;obtain ⟨v0,v1,v2,v3,v4,v5,v6,v7⟩:=GV.out.cells;obtain ⟨z0,z1,z2,z3,z4,z5,z6,z7⟩:=GR.out.cells;have r0:=GR.out.free 0;have r1:=GR.out.free 1;have r2:=GR.out.free 2;have r3:=GR.out.free 3;have r4:=GR.out.free 4;have r5:=GR.out.free 5;have r6:=GR.out.free 6;have r7:=GR.out.free 7;go_wp2_with fail;clear z0 z1 z2 z3 z4 z5 z6 z7 r0 r1 r2 r3 r4 r5 r6 r7 v0 v1 v2 v3 v4 v5 v6 v7;generalize (((((((w6.setCell ⟨w.heap.size+1,0,none⟩ (.int .i64 pg)).setCell ⟨w.heap.size+1,1,none⟩ (.int .i64 ht)).setCell ⟨w.heap.size+1,2,none⟩ (.string lo)).setCell ⟨w.heap.size+1,3,none⟩ (.string hi)).setCell ⟨w.heap.size+1,4,none⟩ (.bool false)).setCell ⟨w.heap.size+1,5,none⟩ (.slice xA xn xc)).setCell ⟨w.heap.size+1,6,none⟩ (.slice xB xm xd)).setCell ⟨w.heap.size+1,7,none⟩ (.slice xC xk xe)=we at *;obtain ⟨z0,z1,z2,z3,z4,z5,z6,z7⟩:=qm9.out;refine bodyPost_ret (v := .tuple #[.agg #[.int .i64 pg,.int .i64 ht,.string lo,.string hi,.bool false,.slice xA xn xc,.slice xB xm xd,.slice xC xk xe],.int .i64 0]) (by simp [results,Tryz.results63,go_sem,z0,z1,z2,z3,z4,z5,z6,z7]) rfl ?_;exact BD.out
end
theorem Ql.other {W w w':World} {F X X':Nat->Prop} {tb pb db:Nat} {t:TS} (h:Ql W F w tb pb db t) (m:Qb w X w' X') (hX:∀ k,X k->W.heap.size<=k/\¬ F k):Ql W F w' tb pb db t:=by
 obtain ⟨G,mb,A,n,c,B,mm,d,f,h⟩:=h;have hb:Below W.heap.size W w':=h.below.trans (m.kept.toBelow (fun k hk=>(hX k hk).1) h.below.size);exact ⟨G,mb,A,n,c,B,mm,d,f,h.pool.other m (fun k hk e=>(hX k e).2 ((h.hF k).2 (Or.inl hk))) hb,h.nds,h.box.same (fun k hk=>m.kept.block k (h.box.own_lt hk) (fun e=>(hX k e).2 ((h.hF k).2 (Or.inr hk)))),h.hF,h.apart,h.base,hb⟩
theorem za8 {w:World} {base size g cap n k:Nat} {e:TypeId} {xs:List Value} (h:w.ownsRow base e size (.slice (some ⟨g,0,none⟩) n cap) n xs) (hk:k<=n) :
 w.ownsRow base e size (.slice (some ⟨g,0,none⟩) k cap) k (xs.take (k*size)):=by
 obtain ⟨hl,h⟩:=h;have hm:k*size<=n*size:=Nat.mul_le_mul_right _ hk;refine ⟨by rw [wb8,hl];omega,Or.inr ?_⟩;rcases h with ⟨e1,_⟩ | ⟨g',cap',cur,e1,a,b,c,d,f,i⟩
 ·cases e1
 ·injection e1 with e1 e2 e3
  injection e1 with e1
  injection e1 with e4 e5 e6
  subst e4 e3;exact ⟨g,cap,cur,rfl,a,b,by omega,d,f,by rw [<- i,List.take_take];congr 1;omega⟩
theorem qv8 (v:VV):∀ u∈v.cells,u.oneCell'=true:=by
 intro u hu;simp [VV.cells,NV.cells] at hu;rcases hu with rfl | rfl | rfl | rfl | rfl | rfl | rfl | rfl<;>rfl
theorem qv9:(Tryz.prog.info? 77).map (fun i=>(i.zero,i.size,i.bytes))=some (some (.agg #[.int .i64 0,.int .i64 0,.string ⟨#[]⟩,.string ⟨#[]⟩,.bool false,.slice none 0 0,.slice none 0 0,.slice none 0 0]),8,128):=by kernel_rfl
def Xt (w:World) (B nb:Nat) (v:Value) (st:List SC.V):Prop :=
 ∃ l:List VV,l.map VV.v=st.reverse/\(∀ x∈l,x.x=NV.zero)/\w.heap[nb]?=some (.cells #[v] 83 (0,0))/\w.ownsRow B 77 8 v l.length (l.flatMap VV.cells)
section
variable {w w':World} {B nb:Nat} {v:Value} {st:List SC.V}
theorem Xt.lt (h:Xt w B nb v st):nb<w.heap.size:=by
 obtain ⟨l,_,_,a,_⟩:=h;exact (wa1.1 a).1
theorem Xt.row (h:Xt w B nb v st) {g:Nat} (e:v.ownBlock=some g):B<=g/\g<w.heap.size:=by
 obtain ⟨l,_,_,_,a⟩:=h;exact a.lt g e
theorem Xt.same (h:Xt w B nb v st) (h1:w'.heap[nb]?=w.heap[nb]?) (h2:∀ g,v.ownBlock=some g->w'.heap[g]?=w.heap[g]?):Xt w' B nb v st:=by
 obtain ⟨l,a,b,c,d⟩:=h;exact ⟨l,a,b,h1.trans c,Zb d h2⟩
theorem Xt.kept (h:Xt w B nb v st) (hb:Below w.heap.size w w'):Xt w' B nb v st:=h.same (hb.block nb h.lt) (fun _ e=>hb.block _ (h.row e).2)
theorem Xt.cell (h:Xt w B nb v st):w.cell? ⟨nb,0,none⟩=some v/\w.frozen? ⟨nb,0,none⟩=false:=by
 obtain ⟨l,_,_,a,_⟩:=h;exact ⟨(cell_of_row w nb 0 _ _ _ a).trans rfl,frozen_of_row w nb 0 _ _ a⟩
theorem Xt.len (h:Xt w B nb v st):∃ A c,v = .slice A st.length c/\st.length<=c/\(A=none->st.length=0/\c=0):=by
 obtain ⟨l,a,_,_,d⟩:=h;have hl:l.length=st.length:=by
  have:=congrArg List.length a;simpa using this
 rw [hl] at d;rcases d.2 with ⟨e,e2⟩ | ⟨g,cap,cur,e,_,_,hc,_⟩
 ·exact ⟨none,0,by rw [e2];exact e,by omega,fun _=>⟨e2,rfl⟩⟩
 ·exact ⟨_,_,e,hc,fun e=>by cases e⟩
theorem Xt.top {u:SC.V} (h:Xt w B nb v (u::st)):∃ g c x,v = .slice (some ⟨g,0,none⟩) (st.length+1) c/\st.length+1<=c/\VV.v x=u/\x.x=NV.zero /\
 (w.cell? ⟨g,st.length*8,none⟩=some (.int .i64 x.pg)/\w.cell? ⟨g,st.length*8+1,none⟩=some (.int .i64 x.ht)/\w.cell? ⟨g,st.length*8+2,none⟩=some (.string x.lo)/\w.cell? ⟨g,st.length*8+3,none⟩=some (.string x.hi)/\w.cell? ⟨g,st.length*8+4,none⟩=some (.bool false)/\w.cell? ⟨g,st.length*8+5,none⟩=some (.slice none 0 0)/\w.cell? ⟨g,st.length*8+6,none⟩=some (.slice none 0 0)/\w.cell? ⟨g,st.length*8+7,none⟩=some (.slice none 0 0)):=by
 obtain ⟨l,a,b,c,d⟩:=h;have hl:l.length=st.length+1:=by
  have:=congrArg List.length a;simpa using this
 obtain ⟨x,hx,hxu⟩:∃ x,l[st.length]?=some x/\x.v=u:=by
  have h1:(l.map VV.v)[st.length]?=some u:=by
   rw [a,List.reverse_cons,wd8 (by simp)];simp
  rw [wc7] at h1;cases hx:l[st.length]? with
  | none=>rw [hx] at h1;cases h1
  | some x =>
    rw [hx] at h1;exact ⟨x,rfl,wa0 h1⟩
 have hz:=b x (wb5 hx);rw [hl] at d;obtain ⟨g,cap,rfl,_,_⟩:=d.form (by omega);have hc:st.length+1<=cap:=by
  rcases d.2 with ⟨e,_⟩ | ⟨g',cap',cur,e,_,_,hc,_⟩
  ·cases e
  ·injection e with _ _ e
   rw [e];exact hc
 have hat:∀ j,j<8->w.cell? ⟨g,st.length*8+j,none⟩=x.cells[j]?:=fun j hj=>by
  rw [d.cellAt _ (by omega)];exact QN VV.clen l st.length x j hx hj
 refine ⟨g,cap,x,rfl,hc,hxu,hz,?_⟩;have e:x.cells=[.int .i64 x.pg,.int .i64 x.ht,.string x.lo,.string x.hi,.bool false,.slice none 0 0,.slice none 0 0,.slice none 0 0]:=by
  unfold VV.cells;rw [hz];rfl
 rw [e] at hat;exact ⟨hat 0 (by omega),hat 1 (by omega),hat 2 (by omega),hat 3 (by omega),hat 4 (by omega),hat 5 (by omega),hat 6 (by omega),hat 7 (by omega)⟩
theorem Xt.pop {u:SC.V} {g c:Nat} (h:Xt w B nb (.slice (some ⟨g,0,none⟩) (st.length+1) c) (u::st)):Xt (w.setCell ⟨nb,0,none⟩ (.slice (some ⟨g,0,none⟩) st.length c)) B nb (.slice (some ⟨g,0,none⟩) st.length c) st:=by
 obtain ⟨l,a,b,hnb,d⟩:=h;have hl:l.length=st.length+1:=by
  have:=congrArg List.length a;simpa using this
 rw [hl] at d;have d2:=za8 d (wd3 st.length);have hne:g≠nb:=by
  intro e;subst e;rcases d.2 with ⟨e,_⟩ | ⟨g',cap',cur,e,_,hb,_⟩
  ·cases e
  ·injection e with e
   injection e with e
   injection e with e
   subst e;rw [hnb] at hb;injection hb with hb
   injection hb with _ hb
   exact absurd hb (by decide)
 have hll:(l.take st.length).length=st.length:=by rw [wb8];omega
 refine ⟨l.take st.length,?_,fun x hx=>b x (wf0 hx),(Joins.block_setCell (i:=0) hnb _).trans rfl,?_⟩
 ·rw [List.map_take,a,List.reverse_cons,List.take_append_of_le_length (by simp),wa5 (by simp)]
 ·rw [hll]
  have e:(l.flatMap VV.cells).take (st.length*8)=(l.take st.length).flatMap VV.cells:=by
   conv=>lhs;rw [<- wb7 st.length l,wf9]
   rw [List.take_append_of_le_length (by rw [Xj VV.clen,hll];omega),wa5 (by rw [Xj VV.clen,hll];omega)]
  rw [<- e];exact Zb d2 (fun q eq=>Below.heap_setCell _ _ _ _ (fun e=>by
   injection eq with eq
   exact hne (eq.trans e)))
theorem Xt.push {v':Value} {x:VV} {n:Nat} (h:Xt w B nb v st) (hn:n=st.length) (hx:x.x=NV.zero) (ho:w'.ownsRow B 77 8 v' (n+1) ((h.choose).flatMap VV.cells++x.cells)) (hb:w'.heap[nb]?=w.heap[nb]?) (hv:v'.ownBlock≠some nb) :
 Xt (w'.setCell ⟨nb,0,none⟩ v') B nb v' (x.v::st):=by
 have hh:=h.choose_spec;generalize h.choose=l at *;obtain ⟨a,b,c,d⟩:=hh;have hl:l.length=st.length:=by
  have:=congrArg List.length a;simpa using this
 refine ⟨l++[x],by simp [a],fun y hy=>?_,(Joins.block_setCell (i:=0) (hb.trans c) _).trans rfl,?_⟩
 ·rcases wb0.1 hy with hy | hy
  ·exact b y hy
  ·rw [wa4.1 hy]
   exact hx
 ·have e1:(l++[x]).length=n+1:=by simp [hl,hn]
  have e2:(l++[x]).flatMap VV.cells=l.flatMap VV.cells++x.cells:=by simp
  rw [e1,e2];exact Zb ho (fun q eq=>Below.heap_setCell _ _ _ _ (fun e=>hv (by rw [eq];exact congrArg some e)))
theorem Xt.rowOf (h:Xt w B nb v st):w.ownsRow B 77 8 v st.length (h.choose.flatMap VV.cells):=by
 have hh:=h.choose_spec;have hl:h.choose.length=st.length:=by
  have:=congrArg List.length hh.1;simpa using this
 rw [<- hl];exact hh.2.2.2
end
structure Way (z:Nat) (nd:Int->Option ND) (want:SC.V->Bool) (Z:Int->Prop) (vs:List SC.Vis) (e0:Int):Prop where
 inZ:∀ p,Z p->0<=p/\p<z
 kids:∀ p n,Z p->nd p=some n->∀ k∈n.kids,Z k
 few:vs.length<=5000
structure UK (W w0:World) (R:Nat->Prop) (J:Jo (VV×Int)) (tb pb db mb nb:Nat) (t:TS) (Ds:List Nat) (pre:List (VV×Int)) (C I F:Nat->Prop) (v:Value) (st:List SC.V) (met:List Int) (w:World):Prop where
 rsame:∀ k,R k->w.heap[k]?=w0.heap[k]?
 inv:J pre C I w
 sep:Jc W.heap.size R C I w
 tree:Ql W F w tb pb db t
 met_:Zl w mb (ZQ met)
 next:Xt w W.heap.size nb v st
 fI:∀ k,F k->I k
 mI:I mb/\¬ F mb/\W.heap.size<=mb
 nI:I nb/\¬ F nb/\W.heap.size<=nb
 vI:∀ g,v.ownBlock=some g->I g/\¬ F g
 dI:∀ D∈Ds,I D/\¬ F D/\W.heap.size<=D/\w.heap[D]?=some (.deferred (some []))
 once:Ds.Nodup
 ltI:∀ k,I k->k<w.heap.size
structure VsA (W w0:World) (R:Nat->Prop) (J:Jo (VV×Int)) (tb pb db mb nb:Nat) (t:TS) (want:SC.V->Bool) (Z:Int->Prop) (vs:List SC.Vis) (e0:Int) (Ds:List Nat) (pre:List (VV×Int)) (C I F:Nat->Prop) (v:Value) (st:List SC.V) (met:List Int) (rest:List SC.Vis) (w:World):Prop
 extends UK W w0 R J tb pb db mb nb t Ds pre C I F v st met w where
 all:vs=pre.map (fun y=>y.1.vis)++rest
 ok:∀ y∈pre,y.2=0
 same:pre.length=Ds.length
 walk:SC.Walk t.nd want st met rest e0
 hts:∀ u∈st,Z u.pg/\1<=u.ht/\u.ht<=100
 short:st.length<=1000*(Ds.length+1)
def VsR (W w0:World) (R:Nat->Prop) (J:Jo (VV×Int)) (tb pb db mb nb:Nat) (t:TS) (want:SC.V->Bool) (Z:Int->Prop) (vs:List SC.Vis) (e0:Int) (Ds:List Nat) (w:World):Prop :=
 ∃ pre C I F v st met rest,VsA W w0 R J tb pb db mb nb t want Z vs e0 Ds pre C I F v st met rest w
section
variable {W w0 w w':World} {R:Nat->Prop} {J:Jo (VV×Int)} {tb pb db mb nb:Nat} {t:TS} {want:SC.V->Bool} {Z:Int->Prop} {vs:List SC.Vis} {e0:Int} {Ds:List Nat} {pre:List (VV×Int)} {C I F:Nat->Prop} {v:Value} {st:List SC.V} {met:List Int} {rest:List SC.Vis}
theorem UK.kept (h:UK W w0 R J tb pb db mb nb t Ds pre C I F v st met w) (hJ:Xe W.heap.size R J) (hb:Below w.heap.size w w'):UK W w0 R J tb pb db mb nb t Ds pre C I F v st met w' :=
 {h with
  rsame:=fun k hk=>(hb.block k (h.sep.r k hk).1).trans (h.rsame k hk)
  inv:=hJ _ _ _ _ _ _ h.inv h.sep (Qb.ob hb) (fun k hk=>wa3 (h.ltI k hk) hb.size)
  sep:=h.sep.ob hb
  tree:=h.tree.kept hb
  met_:=h.met_.block (hb.block mb h.met_.lt)
  next:=h.next.kept hb
  dI:=fun D hD=>by
   obtain ⟨a,b,q,c⟩:=h.dI D hD;exact ⟨a,b,q,(hb.block D (wa1.1 c).1).trans c⟩
  ltI:=fun k hk=>wa3 (h.ltI k hk) hb.size }
theorem UK.ne (h:UK W w0 R J tb pb db mb nb t Ds pre C I F v st met w):nb≠mb/\(∀ g,v.ownBlock=some g->g≠mb)/\∀ D∈Ds,D≠mb:=by
 obtain ⟨es,cl,hm⟩:=h.met_.isMap;obtain ⟨l,_,_,hn,hr⟩:=h.next
 refine ⟨fun e=>?_,fun g hg e=>?_,fun D hD e=>?_⟩
 ·rw [e,hm] at hn
  cases hn
 ·rcases hr.2 with ⟨e1,_⟩ | ⟨g',cap,cur,e1,_,hc,_⟩
  ·rw [e1] at hg
   cases hg
  ·rw [e1] at hg
   have:g'=g:=wa0 hg;subst this;rw [e,hm] at hc;cases hc
 ·have:=(h.dI D hD).2.2.2
  rw [e,hm] at this;cases this
theorem UK.found {F':Nat->Prop} {er:Int} {met':List Int} (h:UK W w0 R J tb pb db mb nb t Ds pre C I F v st met w) (hJ:Xe W.heap.size R J) (hT:Ql W F' w' tb pb db (t.told er)) (hM:Zl w' mb (ZQ met')) (mv:Qb w (plus F mb) w' (plus F' mb)) (hmb:¬ F' mb) :
 UK W w0 R J tb pb db mb nb (t.told er) Ds pre C (fun k=>I k\/F' k) F' v st met' w':=by
 obtain ⟨n1,n2,n3⟩:=h.ne;have hsub:∀ k,plus F mb k->I k:=fun k hk=>hk.elim (h.fI k) (fun e=>e ▸ h.mI.1);have mI:Qb w I w' (fun k=>I k\/F' k):=⟨mv.kept.more hsub,fun k hk=>by
  rcases hk with e | e
  ·exact Or.inl e
  ·exact (mv.news k (Or.inl e)).imp (hsub k) id⟩
 have hout:∀ k,k<w.heap.size->¬ F k->k≠mb->¬ F' k/\w'.heap[k]?=w.heap[k]?:=fun k hk h1 h2=>by
  refine ⟨fun e=>?_,mv.kept.block k hk (fun e=>e.elim h1 h2)⟩;rcases mv.news k (Or.inl e) with (e | e) | e
  ·exact h1 e
  ·exact h2 e
  ·omega
 have hi:∀ k,(I k\/F' k)->k<w'.heap.size:=fun k hk=>by
  rcases hk with e | e
  ·exact wa3 (h.ltI k e) mv.kept.size
  ·exact hT.lt k e
 exact
  {rsame:=fun k hk=>(mv.kept.block k (h.sep.r k hk).1 (fun e=>(h.sep.r k hk).2 (hsub k e))).trans (h.rsame k hk)
   inv:=hJ _ _ _ _ _ _ h.inv h.sep mI hi
   sep:=h.sep.mo mI hi
   tree:=hT
   met_:=hM
   next:=h.next.same (hout nb h.next.lt h.nI.2.1 n1).2 (fun g e=>(hout g (h.next.row e).2 (h.vI g e).2 (n2 g e)).2)
   fI:=fun k hk=>Or.inr hk
   mI:=⟨Or.inl h.mI.1,hmb,h.mI.2.2⟩
   nI:=⟨Or.inl h.nI.1,(hout nb h.next.lt h.nI.2.1 n1).1,h.nI.2.2⟩
   vI:=fun g e=>⟨Or.inl (h.vI g e).1,(hout g (h.next.row e).2 (h.vI g e).2 (n2 g e)).1⟩
   dI:=fun D hD=>by
    obtain ⟨a,b,q,c⟩:=h.dI D hD;have hl:=(wa1.1 c).1;exact ⟨Or.inl a,(hout D hl b (n3 D hD)).1,q,(hout D hl b (n3 D hD)).2.trans c⟩
   once:=h.once
   ltI:=fun k hk=>by
    rcases hk with e | e
    ·exact wa3 (h.ltI k e) mv.kept.size
    ·exact hT.lt k e }
theorem UK.asked {J':Jo (VV×Int)} {pre':List (VV×Int)} {C':Nat->Prop} (h:UK W w0 R J tb pb db mb nb t Ds pre C I F v st met w) (hj:J' pre' C' I w') (hs:Jc W.heap.size R C' I w') (mv:Qb w C w' C') :
 UK W w0 R J' tb pb db mb nb t Ds pre' C' I F v st met w':=by
 have hout:∀ k,I k->w'.heap[k]?=w.heap[k]?:=fun k hk=>mv.kept.block k (h.ltI k hk) (fun e=>(h.sep.c k e).2.2.1 hk);exact
  {h with
   rsame:=fun k hk=>(mv.kept.block k (h.sep.r k hk).1 (fun e=>(h.sep.c k e).2.2.2 hk)).trans (h.rsame k hk)
   inv:=hj
   sep:=hs
   tree:=h.tree.other mv (fun k hk=>⟨(h.sep.c k hk).1,fun e=>(h.sep.c k hk).2.2.1 (h.fI k e)⟩)
   met_:=h.met_.block (hout mb h.mI.1)
   next:=h.next.same (hout nb h.nI.1) (fun g e=>hout g (h.vI g e).1)
   dI:=fun D hD=>by
    obtain ⟨a,b,q,c⟩:=h.dI D hD;exact ⟨a,b,q,(hout D a).trans c⟩
   ltI:=fun k hk=>wa3 (h.ltI k hk) mv.kept.size }
theorem qv6 {Jt:Jo (VV×Int)} {p:List (VV×Int)} {er:Int} (hJ:Xe W.heap.size R Jt) (hj:Jt p C I w) (hs:Jc W.heap.size R C I w) (hT:Ql W F w tb pb db (t.told er)) (hd:∀ D∈Ds,I D/\¬ F D/\W.heap.size<=D) (hm:Qb w (·∈Ds) w' (·∈Ds)) :
 Jt p C I w'/\Jc W.heap.size R C I w'/\Ql W F w' tb pb db (t.told er):=by
 have mI:Qb w I w' I:=⟨hm.kept.more (fun k hk=>(hd k hk).1),fun k hk=>Or.inl hk⟩;have hi:∀ k,I k->k<w'.heap.size:=fun k hk=>wa3 (hs.i k hk) hm.kept.size;exact ⟨hJ _ _ _ _ _ _ hj hs mI hi,hs.mo mI hi,hT.other hm (fun k hk=>⟨(hd k hk).2.2,(hd k hk).2.1⟩)⟩
end
theorem sz_V:∀ w,(sizeOf (Tryz.prog.elem 83)).run Tryz.prog w = .ok 8 w:=fun w=>by kernel_rfl
theorem zj2 {n c k:Nat} (A:Option Addr) (hk:k<=n) (hc:n<=c) (w:World):(Instr.slice 83 (.slice A n c) none (some (.int .i64 (k:Int))) none).run Tryz.prog w = .ok (.slice A k c) w:=by
 rw [run_slice_h (P:=Tryz.prog) (w:=w) _ A n c Tryz.underlying83 .i64 (k:Int) (by omega) (by omega),sz_V];by_cases h0:c=0
 ·subst h0
  simp [Result.andThen,sliced]
 ·simp [Result.andThen,sliced,h0]
  cases A with
  | none=>rfl
  | some ad =>
    obtain ⟨b,off,sp⟩:=ad;cases sp<;>simp [Addr.add]
theorem qe6:∀ l:List (List UInt8),l.length<=ND.tsz l
 | []=>wb3 _
 | x::l=>by
   rw [ND.tsz_cons,wb4];have:=qe6 l;omega
theorem qk1 {s:ND} (h:s.ok=true) (hk:0<s.kids.length):s.leaf=false/\s.kids.length=s.keys.length+1:=by
 unfold ND.ok at h;cases hl:s.leaf with
 | true =>
   rw [hl] at h;simp [ND.leafB] at h;rw [h.2.2.2] at hk;simp at hk
 | false =>
   rw [hl] at h;simp [ND.innerB] at h;exact ⟨rfl,by omega⟩
section
variable {W w0 w w':World} {R:Nat->Prop} {J:Jo (VV×Int)} {tb pb db mb nb:Nat} {t:TS} {Ds:List Nat} {pre:List (VV×Int)} {C I F:Nat->Prop} {v v':Value} {st st':List SC.V} {met:List Int}
theorem UK.wrote {X N:Nat->Prop} (h:UK W w0 R J tb pb db mb nb t Ds pre C I F v st met w) (hJ:Xe W.heap.size R J) (hX:∀ k,X k->I k/\¬ F k/\k≠mb/\(∀ D∈Ds,k≠D)/\W.heap.size<=k) (mv:Qj X w w') (hN:∀ k,N k->w.heap.size<=k/\k<w'.heap.size)
 (hn:Xt w' W.heap.size nb v' st') (hv:∀ g,v'.ownBlock=some g->(I g/\¬ F g)\/N g):UK W w0 R J tb pb db mb nb t Ds pre C (fun k=>I k\/N k) F v' st' met w':=by
 have mI:Qb w I w' (fun k=>I k\/N k):=⟨mv.more (fun k hk=>(hX k hk).1),fun k hk=>hk.imp id (fun e=>(hN k e).1)⟩;have hFN:∀ k,N k->¬ F k:=fun k hk e=>by
  have:=h.tree.lt k e;have:=(hN k hk).1;omega
 have hi:∀ k,(I k\/N k)->k<w'.heap.size:=fun k hk=>by
  rcases hk with e | e
  ·exact wa3 (h.ltI k e) mv.size
  ·exact (hN k e).2
 exact
  {rsame:=fun k hk=>(mv.block k (h.sep.r k hk).1 (fun e=>(h.sep.r k hk).2 (hX k e).1)).trans (h.rsame k hk)
   inv:=hJ _ _ _ _ _ _ h.inv h.sep mI hi
   sep:=h.sep.mo mI hi
   tree:=h.tree.other (X':=fun _=>False) ⟨mv,fun _ e=>e.elim⟩ (fun k hk=>⟨(hX k hk).2.2.2.2,(hX k hk).2.1⟩)
   met_:=h.met_.block (mv.block mb h.met_.lt (fun e=>(hX mb e).2.2.1 rfl))
   next:=hn
   fI:=fun k hk=>Or.inl (h.fI k hk)
   mI:=⟨Or.inl h.mI.1,h.mI.2⟩
   nI:=⟨Or.inl h.nI.1,h.nI.2⟩
   vI:=fun g e=>by
    rcases hv g e with ⟨a,b⟩ | a
    ·exact ⟨Or.inl a,b⟩
    ·exact ⟨Or.inr a,hFN g a⟩
   dI:=fun D hD=>by
    obtain ⟨a,b,q,c⟩:=h.dI D hD;exact ⟨Or.inl a,b,q,(mv.block D (wa1.1 c).1 (fun e=>(hX D e).2.2.2.1 D hD rfl)).trans c⟩
   once:=h.once
   ltI:=fun k hk=>by
    rcases hk with e | e
    ·exact wa3 (h.ltI k e) mv.size
    ·exact (hN k e).2 }
theorem UK.mark {D:Nat} (h:UK W w0 R J tb pb db mb nb t Ds pre C I F v st met w) (h1:I D) (h2:¬ F D) (h3:W.heap.size<=D) (h4:w.heap[D]?=some (.deferred (some []))) (h5:D ∉ Ds):UK W w0 R J tb pb db mb nb t (D::Ds) pre C I F v st met w :=
 {h with
  dI:=fun E hE=>by
   rcases wb6.1 hE with rfl | hE
   ·exact ⟨h1,h2,h3,h4⟩
   ·exact h.dI E hE
  once:=we3.2 ⟨h5,h.once⟩ }
theorem UK.nx_ne (h:UK W w0 R J tb pb db mb nb t Ds pre C I F v st met w):(∀ D∈Ds,nb≠D)/\∀ g,v.ownBlock=some g->∀ D∈Ds,g≠D:=by
 obtain ⟨l,_,_,hn,hr⟩:=h.next
 refine ⟨fun D hD e=>?_,fun g hg D hD e=>?_⟩
 ·have:=(h.dI D hD).2.2.2
  rw [<- e,hn] at this;cases this
 ·have h1:=(h.dI D hD).2.2.2
  rcases hr.2 with ⟨e1,_⟩ | ⟨g',cap,cur,e1,_,hc,_⟩
  ·rw [e1] at hg
   cases hg
  ·rw [e1] at hg
   have:g'=g:=wa0 hg;subst this;rw [<- e,hc] at h1;cases h1
theorem UK.pop {su:SC.V} {g c:Nat} (h:UK W w0 R J tb pb db mb nb t Ds pre C I F (.slice (some ⟨g,0,none⟩) (st.length+1) c) (su::st) met w) (hJ:Xe W.heap.size R J) :
 UK W w0 R J tb pb db mb nb t Ds pre C (fun k=>I k\/False) F (.slice (some ⟨g,0,none⟩) st.length c) st met (w.setCell ⟨nb,0,none⟩ (.slice (some ⟨g,0,none⟩) st.length c)):=by
 refine h.wrote (X:=fun k=>k=nb) (N:=fun _=>False) hJ (fun k hk=>?_) (Qj.setCell (F:=fun k=>k=nb) w (a:=⟨nb,0,none⟩) rfl _) (fun k e=>e.elim) h.next.pop (fun q e=>Or.inl (h.vI q e))
 obtain rfl:k=nb:=hk;exact ⟨h.nI.1,h.nI.2.1,h.ne.1,h.nx_ne.1,h.nI.2.2⟩
end
def JQ (B nb:Nat) (w5:World) (v5:Value) (want:SC.V->Bool) (su:SC.V) (n:ND) (st:List SC.V) (j:Nat) (C:Nat->Prop) (w:World):Prop :=
 ∃ v,Qj (fun k=>k=nb\/v5.ownBlock=some k) w5 w/\Xt w B nb v (((SC.kids su n).drop j).filter want++st)/\C nb/\(∀ g,v.ownBlock=some g->C g)/\(∀ g,v.ownBlock=some g->v5.ownBlock=some g\/w5.heap.size<=g)
def UT (B nb:Nat) (w5:World) (v5:Value) (want:SC.V->Bool) (su:SC.V) (n:ND) (st:List SC.V) (Rb:Nat->Prop):Jo (Nat×Int) :=
 fun pre C _ w=>(∀ k,k<w5.heap.size->¬ Rb k->C k)/\JQ B nb w5 v5 want su n st (n.kids.length - pre.length) C w
section
variable {B nb:Nat} {w5 w w':World} {v5:Value} {want:SC.V->Bool} {su:SC.V} {n:ND} {st:List SC.V} {Rb C I:Nat->Prop} {j:Nat}
theorem UT.stays:Xe 0 Rb (UT B nb w5 v5 want su n st Rb):=by
 intro pre C I w w' I' ⟨h1,v,h2,h3,h4,h5,h6⟩ hs hm _;have hC:∀ k,C k->w'.heap[k]?=w.heap[k]?:=fun k hk=>hm.kept.block k (hs.c k hk).2.1 (hs.c k hk).2.2.1;refine ⟨h1,v,⟨hm.kept.os.trans h2.os,hm.kept.tape.trans h2.tape,hm.kept.output.trans h2.output,wa9 h2.size hm.kept.size,fun k hk hn=>?_⟩,h3.same (hC nb h4) (fun g e=>hC g (h5 g e)),h4,h5,h6⟩;by_cases hR:Rb k
 ·exact (hm.kept.block k (hs.r k hR).1 (hs.r k hR).2).trans (h2.block k hk hn)
 ·exact (hC k (h1 k hk hR)).trans (h2.block k hk hn)
theorem CG {i:Nat} (hi:i<n.kids.length):(SC.kids su n).drop i=SC.kid su n i::(SC.kids su n).drop (i+1):=by
 have hl:(SC.kids su n).length=n.kids.length:=by unfold SC.kids;simp
 rw [wc4 (by omega)];congr 1;unfold SC.kids;simp
theorem JQ.skip {i:Nat} (h:JQ B nb w5 v5 want su n st (i+1) C w) (hi:i<n.kids.length) (hw:want (SC.kid su n i)=false):JQ B nb w5 v5 want su n st i C w:=by
 obtain ⟨v,h2,h3,h4,h5,h6⟩:=h;refine ⟨v,h2,?_,h4,h5,h6⟩;rw [CG hi,List.filter_cons,hw];exact h3
theorem JQ.kept (h:JQ B nb w5 v5 want su n st j C w) (hb:Below w.heap.size w w'):JQ B nb w5 v5 want su n st j C w':=by
 obtain ⟨v,h2,h3,h4,h5,h6⟩:=h;exact ⟨v,⟨hb.os.trans h2.os,hb.tape.trans h2.tape,hb.output.trans h2.output,wa9 h2.size hb.size,fun k hk hn=>(hb.block k (wa3 hk h2.size)).trans (h2.block k hk hn)⟩,h3.kept hb,h4,h5,h6⟩
theorem Xt.row_ne {v:Value} (h:Xt w B nb v st):v.ownBlock≠some nb:=by
 obtain ⟨l,_,_,hn,hr⟩:=h;intro e;rcases hr.2 with ⟨e1,_⟩ | ⟨g',cap,cur,e1,_,hc,_⟩
 ·rw [e1] at e
  cases e
 ·rw [e1] at e
  have:g'=nb:=wa0 e;subst this;rw [hn] at hc;injection hc with hc
  injection hc with _ hc
  exact absurd hc (by decide)
theorem qE4 {i N:Nat} {v v':Value} {wa w2:World} {x:VV} {l:List SC.V} (hk:Qj (fun k=>k=nb\/v5.ownBlock=some k) w5 w) (c1:C nb) (c2:∀ g,v.ownBlock=some g->C g) (c3:∀ g,v.ownBlock=some g->v5.ownBlock=some g\/w5.heap.size<=g)
 (hi:i<n.kids.length) (hw:want (SC.kid su n i)=true) (hx:x.v=SC.kid su n i) (hz:x.x=NV.zero) (hb:Below w.heap.size w wa) (hl:l=((SC.kids su n).drop (i+1)).filter want++st) (hq:Xt wa B nb v l) (hN:N=l.length)
 (ho:w2.ownsRow B 77 8 v' (N+1) (hq.choose.flatMap VV.cells++x.cells)) (hg:wa.grownBy w2 v.ownBlock) (hd:v'.ownBlock=v.ownBlock\/v'.ownBlock=some wa.heap.size) :
 JQ B nb w5 v5 want su n st i (fun k=>C k\/v'.ownBlock=some k) (w2.setCell ⟨nb,0,none⟩ v')/\Qb w C (w2.setCell ⟨nb,0,none⟩ v') (fun k=>C k\/v'.ownBlock=some k)/\(∀ g,v'.ownBlock=some g->g<(w2.setCell ⟨nb,0,none⟩ v').heap.size/\(C g\/w.heap.size<=g)):=by
 have hne:=hq.row_ne;have hv':v'.ownBlock≠some nb:=by
  rcases hd with e | e
  ·rw [e];exact hne
  ·rw [e]
   intro e;have:=wa0 e;have:=hq.lt;omega
 have hnx:=Xt.push (w':=w2) hq hN hz ho (hg.block nb hq.lt (fun e=>hne e.symm)) hv';have kC:Qj C w (w2.setCell ⟨nb,0,none⟩ v') :=
  ⟨hg.os.trans hb.os,hg.tape.trans hb.tape,hg.output.trans hb.output,by simp [World.setCell];exact wa9 hb.size hg.size,fun k h1 h2=>by
   have e1:(w2.setCell ⟨nb,0,none⟩ v').heap[k]?=w2.heap[k]?:=Below.heap_setCell _ _ _ _ (fun e=>h2 (by rw [show k=nb from e];exact c1));exact (e1.trans (hg.block k (wa3 h1 hb.size) (fun e=>h2 (c2 k e.symm)))).trans (hb.block k h1)⟩
 have hrow:∀ g,v'.ownBlock=some g->C g\/w.heap.size<=g:=fun g e=>by
  rcases hd with h | h
  ·exact Or.inl (c2 g (h.symm.trans e))
  ·right
   rw [h] at e;have:=wa0 e;have:=hb.size;omega
 refine ⟨⟨v',?_,?_,Or.inl c1,fun g e=>Or.inr e,fun g e=>?_⟩,⟨kC,fun k hk=>?_⟩,fun g e=>⟨?_,hrow g e⟩⟩
 ·refine ⟨kC.os.trans hk.os,kC.tape.trans hk.tape,kC.output.trans hk.output,wa9 hk.size kC.size,fun k h1 h2=>?_⟩
  have hkn:k≠nb:=fun e=>h2 (Or.inl e);have e1:(w2.setCell ⟨nb,0,none⟩ v').heap[k]?=w2.heap[k]?:=Below.heap_setCell _ _ _ _ hkn;have hlt:=wa3 h1 hk.size;refine (e1.trans (hg.block k (wa3 hlt hb.size) (fun e=>?_))).trans ((hb.block k hlt).trans (hk.block k h1 h2));rcases c3 k e.symm with h | h
  ·exact h2 (Or.inr h)
  ·omega
 ·rw [CG hi,List.filter_cons,hw,if_pos rfl,we7,<- hl,<- hx]
  exact hnx
 ·rcases hd with h | h
  ·exact c3 g (h.symm.trans e)
  ·right
   rw [h] at e;have:=wa0 e;have:=hb.size;have:=hk.size;omega
 ·rcases hk with h | h
  ·exact Or.inl h
  ·exact hrow k h
 ·exact (hnx.row e).2
end
end
end Go.Proofs.YtfiflinbicbedaaGreat
