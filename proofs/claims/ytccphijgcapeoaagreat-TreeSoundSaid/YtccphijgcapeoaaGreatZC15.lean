/-
  A part of the proof: what its texts say stands at the head of each. Conditions: none.
-/
import Derived.Deep.RegionWith
import Derived.Deep.RegionLaw
import Derived.Deep.Cut
import Derived.Deep.DeepCutAuto
import Derived.BigRegion
import Derived.IntWalk
import Derived.Test.YtccphijgcapeoaaGreatZC6
import Derived.Test.YtccphijgcapeoaaGreatZC7
import Derived.Test.YtccphijgcapeoaaGreatZC10
import Derived.Test.YtccphijgcapeoaaGreatZC11
import Derived.Test.YtccphijgcapeoaaGreatZC12
import Derived.Test.YtccphijgcapeoaaGreatZC13
import Derived.Test.YtccphijgcapeoaaGreatZC14

set_option maxRecDepth 20000
set_option maxHeartbeats 12800000
/-
  What Put, Delete and Copy of the document's entries in order come to (package tailraceref12). Conditions: none.
-/
namespace Go.Proofs.YtccphijgcapeoaaGreat
open Go.RowKit Go.Maps
structure MIs (w:World) (F:Nat→Prop) (g:Nat) (A:Option Addr) (n c:Nat) (es:List TT.E):Prop where
 box:MBox w g A n c
 ln:LnO w F 2 A n c (entVals es)
 out:¬ F g
 ne:0<n→∀ ad,A=some ad→ad.block≠g
def MAt (w:World) (F:Nat→Prop) (g:Nat) (es:List TT.E):Prop:=∃ A n c,MIs w F g A n c es
def dropE (A:Option Addr) (c k:Nat):Option Addr:=if c=k then A else A.map (·.add (k*2))
section
variable {w w':World} {F F':Nat→Prop} {A:Option Addr} {g n c:Nat} {es:List TT.E}
theorem MIs.moves (h:MIs w F g A n c es) (m:Moves w F w' F'):MIs w' F' g A n c es:=by
 refine ⟨(m.kept.block g h.box.lt h.out).trans h.box,h.ln.moves (by omega) m,fun e=>?_,h.ne⟩
 rcases m.news g e with e | e
 ·exact h.out e
 ·have:=h.box.lt
  omega
theorem MIs.kept (h:MIs w F g A n c es) (hb:Below w.heap.size w w'):MIs w' F g A n c es:=⟨h.box.kept hb,h.ln.kept hb,h.out,h.ne⟩
theorem MAt.moves (h:MAt w F g es) (m:Moves w F w' F'):MAt w' F' g es:=by
 obtain ⟨A,n,c,h⟩:=h
 exact ⟨A,n,c,h.moves m⟩
theorem MAt.kept (h:MAt w F g es) (hb:Below w.heap.size w w'):MAt w' F g es:=by
 obtain ⟨A,n,c,h⟩:=h
 exact ⟨A,n,c,h.kept hb⟩
theorem MAt.lt (h:MAt w F g es):g<w.heap.size:=by
 obtain ⟨A,n,c,h⟩:=h
 exact h.box.lt
theorem MAt.out (h:MAt w F g es):¬ F g:=by
 obtain ⟨A,n,c,h⟩:=h
 exact h.out
theorem grown_of {k:Nat} (hb:Below w.heap.size w w') (v:Value):w.grownBy (w'.setCell ⟨k,0,none⟩ v) (some k) :=
 ⟨hb.os,hb.tape,hb.output,by simpa [World.setCell] using hb.size,fun j hj hne=>(Below.heap_setCell _ _ _ _ (fun e=>hne (by rw [e]))).trans (hb.block j hj)⟩
theorem MIs.set {w1:World} {A':Option Addr} {N c':Nat} {es':List TT.E} (h:MIs w F g A n c es) (hF:∀ k,F k→k<w.heap.size) (hb:Below w.heap.size w w1)
 (o:w1.ownsRow w.heap.size 41 2 (.slice A' N c') N (entVals es')):w.grownBy (w1.setCell ⟨g,0,none⟩ (.slice A' N c')) (some g)∧MAt (w1.setCell ⟨g,0,none⟩ (.slice A' N c')) F g es':=by
 have hlt:=h.box.lt
 have hh:=NHi.of_own o
 obtain ⟨A2,c2,e,_,l⟩:=Ln.of_own o
 injection e with e1 e2 e3
 subst e1 e3
 refine ⟨grown_of hb _,A',N,c',?_,⟨l.moved (by omega) (fun _ ad e=>Below.heap_setCell _ _ _ _ (fun e2=>?_)),fun _ ad e e2=>?_⟩,h.out,fun _ ad e e2=>?_⟩
 ·unfold MBox
  rw [Joins.block_setCell (h.box.kept hb)]
  rfl
 ·have:=hh ad e
  have e3:ad.block=g:=e2
  omega
 ·have:=hh ad e
  have:=hF _ e2
  omega
 ·have:=hh ad e
  omega
theorem ln_dropE {cs:List Value} (h:Ln w 2 A n c cs) {k:Nat} (hk:k≤n):Ln w 2 (dropE A c k) (n - k) (c - k) (cs.drop (k*2)):=by
 have hle:=h.le
 have hlen:=h.len
 rcases A with _ | ad
 ·obtain ⟨rfl,rfl⟩:=h.lies.1 rfl
  obtain rfl:k=0:=by omega
  simpa [dropE] using h
 ·by_cases hn0:n=k
  ·subst hn0
   have e:cs.drop (n*2)=[]:=List.drop_of_length_le (by omega)
   rw [e,Nat.sub_self]
   refine ⟨by simp,Nat.zero_le _,fun e=>?_,fun ad _ j u hu=>by simp at hu⟩
   unfold dropE at e
   split at e<;>simp at e
  ·have hc:¬ c=k:=by omega
   obtain ⟨b,off,e,_⟩:=h.spot (by omega)
   obtain rfl:=Option.some.inj e
   have:=h.drop hk
   unfold dropE
   rw [if_neg hc,Option.map_some,addr_add]
   exact this
theorem lnE_drop (h:Ln w 2 A n c (entVals es)) {k:Nat} (hk:k≤n):Ln w 2 (dropE A c k) (n - k) (c - k) (entVals (es.drop k)):=by
 have:=ln_dropE h hk
 rwa [entVals_drop] at this
theorem lnE_take (h:Ln w 2 A n c (entVals es)) {k:Nat} (hk:k≤n):Ln w 2 A k c (entVals (es.take k)):=by
 have:=h.take hk
 rwa [entVals_take] at this
end
theorem sz_E:∀ w,(sizeOf (Tryz.prog.elem 29)).run Tryz.prog w = .ok 2 w:=fun w=>by kernel_rfl
theorem from_E {n c k:Nat} (A:Option Addr) (hk:k≤n) (w:World):(Instr.slice 29 (.slice A n c) (some (.int .i64 (k:Int))) none none).run Tryz.prog w = .ok (.slice (dropE A c k) (n - k) (c - k)) w:=by
 rw [run_slice_l (P:=Tryz.prog) (w:=w) _ A n c Tryz.underlying29 .i64 (k:Int) (by omega) (by omega),sz_E]
 simp [Result.andThen,sliced,dropE]
theorem from_E1 {n c k:Nat} (A:Option Addr) (hk:k+1≤n) (w:World):(Instr.slice 29 (.slice A n c) (some (.int .i64 ((k:Int)+1))) none none).run Tryz.prog w = .ok (.slice (dropE A c (k+1)) (n - (k+1)) (c - (k+1))) w:=from_E A hk w
theorem upto_E {n c k:Nat} (A:Option Addr) (hk:k≤n) (hc:n≤c) (w:World):(Instr.slice 29 (.slice A n c) none (some (.int .i64 (k:Int))) none).run Tryz.prog w = .ok (.slice A k c) w:=by
 rw [run_slice_h (P:=Tryz.prog) (w:=w) _ A n c Tryz.underlying29 .i64 (k:Int) (by omega) (by omega),sz_E]
 by_cases h0:c=0
 ·subst h0
  simp [Result.andThen,sliced]
 ·simp [Result.andThen,sliced,h0]
  cases A with
  | none=>rfl
  | some ad =>
    obtain ⟨b,off,sp⟩:=ad
    cases sp<;>simp [Addr.add]
theorem entInfo:(Tryz.prog.info? 41).map (fun i=>(i.zero,i.size,i.bytes))=some (some (.agg #[.string ⟨#[]⟩,.string ⟨#[]⟩]),2,32):=by kernel_rfl
theorem ent_new (w:World) (x y:ByteArray):Lies (w.alloc (.cells #[.string x,.string y] 41)) (some ⟨w.heap.size,0,none⟩) 1 1 (entVals [(x.toList,y.toList)]):=by
 refine ⟨fun e=>(by cases e),fun ad e j u hu=>?_⟩
 obtain rfl:=Option.some.inj e
 have h:entVals [(x.toList,y.toList)]=[.string x,.string y]:=by simp [entVals,tb_back]
 rw [h] at hu
 have:=cells_newE w #[.string x,.string y] 41 j u hu
 exact this
where
 cells_newE (w:World) (cs:Array Value) (ty:TypeId):∀ j u,cs.toList[j]?=some u→(w.alloc (.cells cs ty)).cell? ((⟨w.heap.size,0,none⟩:Addr).add j)=some u:=fun j u hu=>by
  rw [addr_add,Nat.zero_add]
  refine (cell_of_row _ w.heap.size j _ _ _ (heap_alloc_new w _)).trans ?_
  simpa using hu
theorem wpList_from {P:Program} (w:World) {ops:Array Oper} {rest:List Oper} {o:Oper} {a:Act} {Q:Exit→Act→World→Prop} (hgd:o.guard=none) (t:TypeId) (ht:P.underlying t=some (.slice (P.elem t))) (s l:Operand) (ho:o.op = .slice t s (some l) none none) (vs vl v':Value) (hs:a.eval s=vs) (hl:a.eval l=vl)
 (hr:(Instr.slice t vs (some vl) none none).run P w = .ok v' w) (h:wpList P ops Q rest (a.put o.dst v') w):wpList P ops Q (o::rest) a w:=by
 refine wpList_plain hgd fun K hK=>?_
 unfold Oper.wp execOp
 simp only [ho,Option.map_some,Option.map_none,hs,hl,Sem.run_bind,run_sliceAt_slice (h:=ht),hr,Result.andThen_ok,Sem.run_pure]
 exact hK _ _ h
theorem wpList_upto {P:Program} (w:World) {ops:Array Oper} {rest:List Oper} {o:Oper} {a:Act} {Q:Exit→Act→World→Prop} (hgd:o.guard=none) (t:TypeId) (ht:P.underlying t=some (.slice (P.elem t))) (s l:Operand) (ho:o.op = .slice t s none (some l) none) (vs vl v':Value) (hs:a.eval s=vs) (hl:a.eval l=vl)
 (hr:(Instr.slice t vs none (some vl) none).run P w = .ok v' w) (h:wpList P ops Q rest (a.put o.dst v') w):wpList P ops Q (o::rest) a w:=by
 refine wpList_plain hgd fun K hK=>?_
 unfold Oper.wp execOp
 simp only [ho,Option.map_some,Option.map_none,hs,hl,Sem.run_bind,run_sliceAt_slice (h:=ht),hr,Result.andThen_ok,Sem.run_pure]
 exact hK _ _ h
def MDid (w:World) (F:Nat→Prop) (g:Nat) (v:Value) (es:List TT.E) (e:Ending) (w':World):Prop:=e = .returned v∧w.grownBy w' (some g)∧MAt w' F g es
theorem badE_no {x y:ByteArray} (h:TS.badE x.toList y.toList=false):¬ x.size<1∧¬ 120<x.size∧¬ 100<y.size:=by
 unfold TS.badE at h
 rw [toList_length,toList_length] at h
 simp only [Bool.or_eq_false_iff,decide_eq_false_iff_not] at h
 exact ⟨h.1,h.2.1,h.2.2⟩
theorem badE_yes {x y:ByteArray} (h:TS.badE x.toList y.toList=true):x.size<1∨(¬ x.size<1∧120<x.size)∨(¬ x.size<1∧¬ 120<x.size∧100<y.size):=by
 unfold TS.badE at h
 rw [toList_length,toList_length] at h
 simp only [Bool.or_eq_true,decide_eq_true_eq] at h
 omega
section
variable {w w':World} {F F':Nat→Prop} {A:Option Addr} {g n c:Nat} {es:List TT.E}
theorem mput_any (w:World) (x y:ByteArray) (hm:MAt w F g es) (hF:∀ k,F k→k<w.heap.size) (hn:es.length≤500000) :
 Calls Tryz.prog 22 #[.pointer (some ⟨g,0,none⟩),.string x,.string y] w (MDid w F g (.int .i64 (if TS.badE x.toList y.toList then 120 else 0)) (if TS.badE x.toList y.toList then es else TT.putE x.toList y.toList es)):=by
 obtain ⟨A,n,c,hm⟩:=hm
 have HM:=Lib.hid hm
 have HF:=Lib.hid hF
 have HE:=Lib.hid hm.ln.ln.entN
 have hn2:n≤500000:=by rw [← hm.ln.ln.entN];exact hn
 have HX:Hid (MDid w F g (.int .i64 120) es (.returned (.int .i64 120)) w):=Lib.hid ⟨rfl,World.grownBy.refl _ _,A,n,c,hm⟩
 clear hm hF hn
 obtain ⟨i0,hi,hz0,hz1,hz2⟩:=info_parts entInfo
 cases hbad:TS.badE x.toList y.toList with
 | true =>
   rw [if_pos rfl,if_pos rfl]
   rcases badE_yes hbad with h1 | ⟨h1,h2⟩ | ⟨h1,h2,h3⟩
   ·go_enter Tryz.func22,Tryz.ntmps22
    go_wp2_with fail
    go_ret
    exact HX.out
   ·go_enter Tryz.func22,Tryz.ntmps22
    go_wp2_with fail
    go_ret
    exact HX.out
   ·go_enter Tryz.func22,Tryz.ntmps22
    go_wp2_with fail
    go_ret
    exact HX.out
 | false =>
   rw [if_neg (by decide),if_neg (by decide)]
   obtain ⟨h1,h2,h3⟩:=badE_no hbad
   clear hbad HX
   obtain ⟨es',hes⟩:∃ es',TT.putE x.toList y.toList es=es':=⟨_,rfl⟩
   rw [hes]
   have HES:=Lib.hid hes
   clear hes
   have hle:=TT.place_le (key:=x.toList) (es:=es)
   rw [HE.out] at hle
   go_enter Tryz.func22,Tryz.ntmps22
   go_wp2_with fail
   refine (mplace_any w x HM.out.box HM.out.ln.ln (by omega)).mono ?_
   rintro e w1 ⟨rfl,b1⟩
   have B1:=Lib.hid b1
   have HM1:=Lib.hid (HM.out.kept b1)
   clear b1
   have c0:=HM1.out.box.cell
   have hnc:=HM1.out.ln.ln.le
   have HLT:=Lib.hid (fun k hk=>lnE_take (k:=k) HM1.out.ln.ln hk)
   have HLD:=Lib.hid (fun k hk=>lnE_drop (k:=k) HM1.out.ln.ln hk)
   have HNE:=Lib.hid HM1.out.box.lt
   have BE:=Lib.hid (below_one w1 (.cells #[] 41))
   have OE:Hid ((w1.alloc (.cells #[] 41)).ownsRow w1.heap.size 41 2 (.slice (some ⟨w1.heap.size,0,none⟩) 0 0) 0 []):=Lib.hid (own_empty (empty_new w1 _) (Nat.le_refl _))
   have hc1:(w1.alloc (.cells #[] 41)).cell? ⟨g,0,none⟩=some (.slice A n c):=(HM1.out.box.kept BE.out).cell
   cases his:TT.isE x.toList es with
   | true =>
     have hlt:=TT.isE_lt his
     rw [HE.out] at hlt
     have HV:Hid (entVals (es.take (TT.placeE x.toList es))++entVals [(x.toList,y.toList)]++entVals ((es.drop (TT.placeE x.toList es)).drop 1)=entVals es'):=Lib.hid (by
      rw [← HES.out]
      unfold TT.putE ND.rep
      rw [his,if_pos rfl,← entVals_append,← entVals_append,List.drop_drop])
     clear his
     generalize TT.placeE x.toList es=k at *
     have HU:=fun w=>upto_E (n:=n) (c:=c) (k:=k) A hle hnc w
     have HD:=fun w=>from_E (n:=n) (c:=c) (k:=k) A hle w
     have HD1:∀ w,(Instr.slice 29 (.slice (dropE A c k) (n - k) (c - k)) (some (.int .i64 1)) none none).run Tryz.prog w = .ok (.slice (dropE (dropE A c k) (c - k) 1) (n - k - 1) (c - k - 1)) w:=fun w=>from_E (k:=1) (dropE A c k) (by omega) w
     have HL1:=Lib.hid (lnE_drop (HLD.out k hle) (k:=1) (by omega))
     have hz:∀ k',(Value.slice (some ⟨w1.heap.size,0,none⟩) 0 0).ownBlock=some k'→w1.heap.size≤k':=fun k' e'=>(OE.out.lt k' e').1
     have HZ:=Lib.hid hz
     clear hz
     go_wp2_with (first
      | (refine wpList_from _ rfl 29 Tryz.underlying29 (.tmp 32) (.tmp 33) rfl (.slice A n c) (.int .i64 (k:Int)) _ rfl rfl (HD _) ?_)
      | (refine wpList_from _ rfl 29 Tryz.underlying29 (.tmp 36) (.const (.int .i64 1)) rfl (.slice (dropE A c k) (n - k) (c - k)) (.int .i64 1) _ rfl rfl (HD1 _) ?_)
      | (refine wpList_upto _ rfl 29 Tryz.underlying29 (.tmp 43) (.tmp 44) rfl (.slice A n c) (.int .i64 (k:Int)) _ rfl rfl (HU _) ?_)
      | (at_builtin;refine wpList_append_lay _ rfl (.tmp 39) (.tmp 45) 29 rfl w1.heap.size 41 i0 _ 2 32 Tryz.underlying29 hi hz0 hz1 hz2 rfl (by decide) _ 0 [] rfl OE.out A k c (entVals (es.take k)) rfl (HLT.out k (by omega)).len ((HLT.out k (by omega)).lies.kept BE.out) (entVals_one _) (by unfold maxLen;omega) (by omega) BE.out.size ?_;intro v8 w8 o8 g8;rw [List.nil_append,Nat.zero_add] at o8;have b8:=Below.grown (B:=w1.heap.size) (a:=w1) BE.out g8 BE.out.size HZ.out;have BX:=Lib.hid (chainN (below_one w8 (.cells #[.string x,.string y] 41)) b8);have O8:=Lib.hid (row_below o8 (below_one w8 (.cells #[.string x,.string y] 41)));clear o8 g8 b8)
      | (at_builtin;refine wpList_append_lay _ rfl (.tmp 46) (.tmp 50) 29 rfl w1.heap.size 41 i0 _ 2 32 Tryz.underlying29 hi hz0 hz1 hz2 rfl (by decide) _ _ _ rfl O8.out _ 1 1 (entVals [(x.toList,y.toList)]) rfl rfl (ent_new w8 x y) (entVals_one _) (by unfold maxLen;omega) (by omega) BX.out.size ?_;intro v9 w9 o9 g9;have B9:=Lib.hid (own_grown_hi (B:=w1.heap.size) (a:=w1) BX.out BX.out.size O8.out (Nat.le_refl _) g9);have O9:=Lib.hid o9;clear o9 g9)
      | (at_builtin;refine wpList_append_lay _ rfl (.tmp 51) (.tmp 52) 29 rfl w1.heap.size 41 i0 _ 2 32 Tryz.underlying29 hi hz0 hz1 hz2 rfl (by decide) _ _ _ rfl O9.out (dropE (dropE A c k) (c - k) 1) (n - k - 1) (c - k - 1) (entVals ((es.drop k).drop 1)) rfl HL1.out.len (HL1.out.lies.kept B9.out) (entVals_one _) (by unfold maxLen;omega) (by omega) B9.out.size ?_;intro v10 w10 o10 g10;rw [HV.out] at o10;obtain ⟨A',c',rfl⟩:=shape_own o10;have B10:=own_grown_hi B9.out B9.out.size O9.out (Nat.le_refl _) g10;have HS:=Lib.hid (HM.out.set HF.out (chainN B10 B1.out) (row_base o10 B1.out.size));have x0:=(HM1.out.box.kept B10).cell;have x1:=(HM1.out.box.kept B10).free;clear o10 g10 B10)
      | fail)
     go_ret
     exact ⟨rfl,HS.out.1,HS.out.2⟩
   | false =>
     have HV:Hid (entVals (es.take (TT.placeE x.toList es))++entVals [(x.toList,y.toList)]++entVals (es.drop (TT.placeE x.toList es))=entVals es'):=Lib.hid (by
      rw [← HES.out]
      unfold TT.putE ND.rep
      rw [his,if_neg (by decide),← entVals_append,← entVals_append])
     clear his
     generalize TT.placeE x.toList es=k at *
     have HU:=fun w=>upto_E (n:=n) (c:=c) (k:=k) A hle hnc w
     have HD:=fun w=>from_E (n:=n) (c:=c) (k:=k) A hle w
     have HL1:=Lib.hid (HLD.out k hle)
     have hz:∀ k',(Value.slice (some ⟨w1.heap.size,0,none⟩) 0 0).ownBlock=some k'→w1.heap.size≤k':=fun k' e'=>(OE.out.lt k' e').1
     have HZ:=Lib.hid hz
     clear hz
     go_wp2_with (first
      | (refine wpList_from _ rfl 29 Tryz.underlying29 (.tmp 32) (.tmp 33) rfl (.slice A n c) (.int .i64 (k:Int)) _ rfl rfl (HD _) ?_)
      | (refine wpList_upto _ rfl 29 Tryz.underlying29 (.tmp 43) (.tmp 44) rfl (.slice A n c) (.int .i64 (k:Int)) _ rfl rfl (HU _) ?_)
      | (at_builtin;refine wpList_append_lay _ rfl (.tmp 39) (.tmp 45) 29 rfl w1.heap.size 41 i0 _ 2 32 Tryz.underlying29 hi hz0 hz1 hz2 rfl (by decide) _ 0 [] rfl OE.out A k c (entVals (es.take k)) rfl (HLT.out k (by omega)).len ((HLT.out k (by omega)).lies.kept BE.out) (entVals_one _) (by unfold maxLen;omega) (by omega) BE.out.size ?_;intro v8 w8 o8 g8;rw [List.nil_append,Nat.zero_add] at o8;have b8:=Below.grown (B:=w1.heap.size) (a:=w1) BE.out g8 BE.out.size HZ.out;have BX:=Lib.hid (chainN (below_one w8 (.cells #[.string x,.string y] 41)) b8);have O8:=Lib.hid (row_below o8 (below_one w8 (.cells #[.string x,.string y] 41)));clear o8 g8 b8)
      | (at_builtin;refine wpList_append_lay _ rfl (.tmp 46) (.tmp 50) 29 rfl w1.heap.size 41 i0 _ 2 32 Tryz.underlying29 hi hz0 hz1 hz2 rfl (by decide) _ _ _ rfl O8.out _ 1 1 (entVals [(x.toList,y.toList)]) rfl rfl (ent_new w8 x y) (entVals_one _) (by unfold maxLen;omega) (by omega) BX.out.size ?_;intro v9 w9 o9 g9;have B9:=Lib.hid (own_grown_hi (B:=w1.heap.size) (a:=w1) BX.out BX.out.size O8.out (Nat.le_refl _) g9);have O9:=Lib.hid o9;clear o9 g9)
      | (at_builtin;refine wpList_append_lay _ rfl (.tmp 51) (.tmp 52) 29 rfl w1.heap.size 41 i0 _ 2 32 Tryz.underlying29 hi hz0 hz1 hz2 rfl (by decide) _ _ _ rfl O9.out (dropE A c k) (n - k) (c - k) (entVals (es.drop k)) rfl HL1.out.len (HL1.out.lies.kept B9.out) (entVals_one _) (by unfold maxLen;omega) (by omega) B9.out.size ?_;intro v10 w10 o10 g10;rw [HV.out] at o10;obtain ⟨A',c',rfl⟩:=shape_own o10;have B10:=own_grown_hi B9.out B9.out.size O9.out (Nat.le_refl _) g10;have HS:=Lib.hid (HM.out.set HF.out (chainN B10 B1.out) (row_base o10 B1.out.size));have x0:=(HM1.out.box.kept B10).cell;have x1:=(HM1.out.box.kept B10).free;clear o10 g10 B10)
      | fail)
     go_ret
     exact ⟨rfl,HS.out.1,HS.out.2⟩
theorem mdel_any (w:World) (x:ByteArray) (hm:MAt w F g es) (hF:∀ k,F k→k<w.heap.size) (hn:es.length≤500000) :
 Calls Tryz.prog 34 #[.pointer (some ⟨g,0,none⟩),.string x] w (MDid w F g (.bool (TT.isE x.toList es)) (TT.delE x.toList es)):=by
 obtain ⟨A,n,c,hm⟩:=hm
 have HM:=Lib.hid hm
 have HF:=Lib.hid hF
 have HE:=Lib.hid hm.ln.ln.entN
 have hn2:n≤500000:=by rw [← hm.ln.ln.entN];exact hn
 clear hm hF hn
 obtain ⟨i0,hi,hz0,hz1,hz2⟩:=info_parts entInfo
 obtain ⟨es',hes⟩:∃ es',TT.delE x.toList es=es':=⟨_,rfl⟩
 rw [hes]
 have HES:=Lib.hid hes
 clear hes
 have hle:=TT.place_le (key:=x.toList) (es:=es)
 rw [HE.out] at hle
 go_enter Tryz.func34,Tryz.ntmps34
 go_wp2_with fail
 refine (mplace_any w x HM.out.box HM.out.ln.ln (by omega)).mono ?_
 rintro e w1 ⟨rfl,b1⟩
 have B1:=Lib.hid b1
 have HM1:=Lib.hid (HM.out.kept b1)
 clear b1
 cases his:TT.isE x.toList es with
 | false =>
   have HX:Hid (MDid w F g (.bool (TT.isE x.toList es)) es' (.returned (.bool false)) w1):=Lib.hid (by
    rw [his,← HES.out]
    unfold TT.delE
    rw [his]
    have hg:w.grownBy w1 (some g):=⟨B1.out.os,B1.out.tape,B1.out.output,B1.out.size,fun k hk _=>B1.out.block k hk⟩
    exact ⟨rfl,hg,A,n,c,HM1.out⟩)
   have HI:=Lib.hid his
   clear his
   go_wp2_with fail
   go_ret
   rw [HI.out] at HX ⊢
   exact HX.out
 | true =>
   have c0:=HM1.out.box.cell
   have f0:=HM1.out.box.free
   have hnc:=HM1.out.ln.ln.le
   have HLT:=Lib.hid (fun k hk=>lnE_take (k:=k) HM1.out.ln.ln hk)
   have HLD:=Lib.hid (fun k hk=>lnE_drop (k:=k) HM1.out.ln.ln hk)
   have HNE:=Lib.hid HM1.out.box.lt
   have BE:=Lib.hid ((below_one w1 (.cells #[] 41)).drew)
   have OE:Hid (((w1.alloc (.cells #[] 41)).drew).ownsRow w1.heap.size 41 2 (.slice (some ⟨w1.heap.size,0,none⟩) 0 0) 0 []):=Lib.hid (own_empty (empty_new w1 _) (Nat.le_refl _))
   have hc1:((w1.alloc (.cells #[] 41)).drew).cell? ⟨g,0,none⟩=some (.slice A n c):=(HM1.out.box.kept BE.out).cell
   have hc2:(w1.drew).cell? ⟨g,0,none⟩=some (.slice A n c):=c0
   have hlt:=TT.isE_lt his
   rw [HE.out] at hlt
   have HV:Hid (entVals (es.take (TT.placeE x.toList es))++entVals (es.drop (TT.placeE x.toList es+1))=entVals es'):=Lib.hid (by
    rw [← HES.out]
    unfold TT.delE ND.rep
    rw [his,if_pos rfl,← entVals_append,List.append_nil])
   have HI:=Lib.hid his
   clear his
   generalize TT.placeE x.toList es=k at *
   have HU:=fun w=>upto_E (n:=n) (c:=c) (k:=k) A hle hnc w
   have HD:=fun w=>from_E1 (n:=n) (c:=c) (k:=k) A hlt w
   have HW:IntKind.i64.wrap ((k:Int)+1)=(k:Int)+1:=IntWalk.i64_in _ (by omega)
   have HZ:Hid (∀ k',(Value.slice (some ⟨w1.heap.size,0,none⟩) 0 0).ownBlock=some k'→w1.heap.size≤k'):=Lib.hid (fun k' e'=>(OE.out.lt k' e').1)
   have HN:Hid (k+(n - (k+1))≤500000):=Lib.hid (by omega)
   go_upto_region 3 with fail
   go_region_law
    (first
      | (refine step_append_ls _ (by rfl) _ _ _ (by rfl) w1.heap.size 41 i0 _ 2 32 Tryz.underlying29 hi hz0 hz1 hz2 rfl (by omega) _ 0 _ [] (by rfl) OE.out A k c (entVals (es.take k)) (by rfl) ((HLT.out k (by omega)).kept BE.out) (entVals_one _) (by unfold maxLen;omega) (by omega) BE.out.size ?_;intro A1 c1 w2 o2 g2;rw [List.nil_append] at o2;rw [Nat.zero_add] at o2 ⊢;have B2:=Lib.hid (Below.grown (B:=w1.heap.size) (a:=w1) BE.out g2 BE.out.size HZ.out);have y0:=(HM1.out.box.kept B2.out).cell;have O2:=Lib.hid o2;clear o2 g2)
      | (refine step_append_ls _ (by rfl) _ _ _ (by rfl) w1.heap.size 41 i0 _ 2 32 Tryz.underlying29 hi hz0 hz1 hz2 rfl (by omega) _ k _ (entVals (es.take k)) (by rfl) O2.out (dropE A c (k+1)) (n - (k+1)) (c - (k+1)) (entVals (es.drop (k+1))) (by rfl) ((HLD.out (k+1) (by omega)).kept B2.out) (entVals_one _) (by have:=HN.out;unfold maxLen;omega) (by have:=HN.out;omega) B2.out.size ?_;intro A3 c3 w3 o3 g3;rw [HV.out] at o3;have B3:=own_grown_hi B2.out B2.out.size O2.out (Nat.le_refl _) g3;have HS:=Lib.hid (HM.out.set HF.out (chainN B3 B1.out) (row_base o3 B1.out.size));have z0:=(HM1.out.box.kept B3).cell;have z1:=(HM1.out.box.kept B3).free;clear o3 g3 B3)
      | fail)
   all_goals (
    go_wp2_with fail
    go_ret
    rw [HI.out]
    exact ⟨rfl,HS.out.1,HS.out.2⟩)
theorem mat_new {A:Option Addr} {n c:Nat} (h:Ln w 2 A n c (entVals es)) (hF:∀ k,F k→k<w.heap.size) (ho:0<n→∀ ad,A=some ad→¬ F ad.block):MAt (w.alloc (.cells #[.slice A n c] 31)) F w.heap.size es:=by
 refine ⟨A,n,c,heap_alloc_new w _,⟨h.kept (below_one w _),ho⟩,fun e=>?_,fun hn ad e e2=>?_⟩
 ·have:=hF _ e
  omega
 ·have:=h.lt (by omega) e
  have e3:ad.block=w.heap.size:=e2
  omega
end
end Go.Proofs.YtccphijgcapeoaaGreat
/-
  What the tree's Put and Delete come to. Conditions: none.
-/
namespace Go.Proofs.YtccphijgcapeoaaGreat
open Go.RowKit Go.Maps
section
variable {W w w':World} {F F':Nat→Prop} {tb pb db:Nat} {t t':TS}
theorem kbox_new (w:World) (s:ByteArray):KBox (w.alloc (.cells #[.string s] 9)) w.heap.size s:=heap_alloc_new w _
theorem bbox_new (w:World) (v:Bool):BBox (w.alloc (.cells #[.bool v] 4)) w.heap.size v:=heap_alloc_new w _
structure ChgPre (t:TS) (key:List UInt8) (fn:ND→ND):Prop where
 way:TS.wayIn t.nd key t.z t.ht t.rt
 ht:t.ht≤999
 climb:∀ l,t.way key=some l→ClimbPre t l.length l.reverse (fn (TS.last l))
 ct:(t.change key fn).1=0→0≤(t.change key fn).2.ct∧(t.change key fn).2.ct≤1000000000
theorem hasK_of {key:List UInt8} {l:List TS.St} (h:t.way key=some l):t.hasK key=ND.isAt key (TS.last l).keys:=by unfold TS.hasK;rw [h]
theorem way_of {key:List UInt8} {fn:ND→ND} (h:(t.change key fn).1=0):∃ l,t.way key=some l:=by
 unfold TS.change at h
 cases hw:t.way key with
 | none=>rw [hw] at h;exact absurd h (show ¬ (121:Int)=0 by decide)
 | some l=>exact ⟨l,rfl⟩
def TDone (W:World) (F:Nat→Prop) (w:World) (tb pb db:Nat) (v:Value) (t':TS) (e:Ending) (w':World):Prop:=e = .returned v∧TGoes W F w tb pb db t' w'
theorem aPut_live (w:World) (key val:ByteArray) (hp:t.lost=0→TS.badE key.toList val.toList=false→ChgPre t key.toList (fun n=>n.put key.toList val.toList)) (h:Tree W F w tb pb db t) :
 Calls Tryz.prog 21 #[.pointer (some ⟨tb,0,none⟩),.string key,.string val] w (TDone W F w tb pb db (.int .i64 (t.put key.toList val.toList).1) (t.put key.toList val.toList).2):=by
 have h0:=(kbox_new w key).kept (below_one _ (.cells #[.string val] 9))
 have h1:=kbox_new (w.alloc (.cells #[.string key] 9)) val
 have b2:=below_two w (.cells #[.string key] 9) (.cells #[.string val] 9)
 rw [show (w.alloc (.cells #[.string key] 9)).heap.size=w.heap.size+1 by simp] at h1
 have hws:((w.alloc (.cells #[.string key] 9)).alloc (.cells #[.string val] 9)).heap.size=w.heap.size+2:=by simp
 have HKB:=Lib.hid h0
 have HVB:=Lib.hid h1
 have B0:=Lib.hid b2
 have H0:=Lib.hid h
 have H:=Lib.hid (h.kept b2)
 have HP:=Lib.hid hp
 have HW:=Lib.hid h.below.size
 have HWS:=Lib.hid hws
 obtain ⟨r,hr⟩:∃ r,t.put key.toList val.toList=r:=⟨_,rfl⟩
 rw [hr]
 have HR:=Lib.hid hr
 clear h hp h0 h1 b2 hr hws
 go_enter Tryz.func21,Tryz.ntmps21
 go_upto_region 1 with fail
 generalize (w.alloc (.cells #[.string key] 9)).alloc (.cells #[.string val] 9)=w1 at *
 go_wp2_with fail
 refine (refusal_live w1 H.out).mono ?_
 rintro e wx ⟨rfl,hwx⟩
 subst hwx
 by_cases hl:t.lost=0
 ·have HL:=Lib.hid hl
  rw [hl]
  clear hl
  have ck:=HKB.out.cell
  have cv:=HVB.out.cell
  cases hbad:TS.badE key.toList val.toList with
  | true =>
    have HX:Hid (TDone W F w tb pb db (.int .i64 r.1) r.2 (.returned (.int .i64 120)) w1):=Lib.hid (by
     rw [← HR.out]
     unfold TS.put
     rw [if_neg (by rw [HL.out];decide),hbad,if_pos rfl]
     exact ⟨rfl,TGoes.of_below H0.out B0.out⟩)
    rcases badE_yes hbad with g1 | ⟨g1,g2⟩ | ⟨g1,g2,g3⟩
    ·clear hbad
     go_wp2_with fail
     go_ret
     exact HX.out
    ·clear hbad
     go_wp2_with fail
     go_ret
     exact HX.out
    ·clear hbad
     go_wp2_with fail
     go_ret
     exact HX.out
  | false =>
    obtain ⟨g1,g2,g3⟩:=badE_no hbad
    have PRE:=Lib.hid (HP.out HL.out hbad)
    have HPU:Hid (r=if (t.change key.toList (fun n=>n.put key.toList val.toList)).1=0 then (0,{ (t.change key.toList (fun n=>n.put key.toList val.toList)).2 with ct:=if t.hasK key.toList then (t.change key.toList (fun n=>n.put key.toList val.toList)).2.ct else (t.change key.toList (fun n=>n.put key.toList val.toList)).2.ct+1 })
     else ((t.change key.toList (fun n=>n.put key.toList val.toList)).1,(t.change key.toList (fun n=>n.put key.toList val.toList)).2.told (t.change key.toList (fun n=>n.put key.toList val.toList)).1)):=Lib.hid (by
     rw [← HR.out]
     unfold TS.put
     rw [if_neg (by rw [HL.out];decide),hbad,if_neg (by decide)])
    clear hbad HR HP
    have b3:=below_one w1 (.cells #[.bool false] 4)
    have HK3:=Lib.hid (HKB.out.kept b3)
    have HV3:=Lib.hid (HVB.out.kept b3)
    have HB3:=Lib.hid (bbox_new w1 false)
    have H3:=Lib.hid (H.out.kept b3)
    have B3:=Lib.hid (chainN b3 B0.out)
    have HN3:=Lib.hid (H.out.new (Nat.le_refl w1.heap.size))
    have HNK:=Lib.hid (H0.out.new (Nat.le_refl w.heap.size))
    have HNV:=Lib.hid (H0.out.new (Nat.le_succ w.heap.size))
    have ck3:=HK3.out.cell
    clear b3 HKB HVB H
    go_upto_region 8 with fail
    clear ck cv
    rw [HWS.out] at HB3 HN3 ⊢
    generalize w1.alloc (.cells #[.bool false] 4)=w3 at *
    have CH:=change_live w w3 F 46 (w.heap.size+2) #[.pointer (some ⟨w.heap.size,0,none⟩),.pointer (some ⟨w.heap.size+2,0,none⟩),.pointer (some ⟨w.heap.size+1,0,none⟩)] (fun n=>n.put key.toList val.toList) (fun n=>ND.isAt key.toList n.keys) key
     (enters_of Tryz.func46 (by kernel_rfl) rfl) H3.out (Moves.of_below B3.out) HW.out (by omega) HB3.out.lt HN3.out PRE.out.way PRE.out.ht PRE.out.climb
     (fun wx Fx x l hT hM hx hl he=>by
       obtain ⟨q1,_,q3,q4,q5,q6⟩:=H3.out.wayOk PRE.out.way hl
       obtain ⟨q7,q8,_⟩:=q1 q3 (List.mem_of_getLast? q4)
       have hxl:x.s.leaf=true:=by rw [he,q6];exact q5
       have hxo:x.s.ok=true:=by rw [he,q6];exact q7
       have hxz:x.s.size≤1000:=by rw [he,q6];exact q8
       exact putF_any wx x key val w.heap.size (w.heap.size+1) (w.heap.size+2) false hT.lt hx hxl hxo hxz (HK3.out.moves hM HNK.out) (HV3.out.moves hM HNV.out) (HB3.out.moves hM HN3.out) (by omega) (by omega))
    have HC:=Lib.hid CH
    clear CH
    obtain ⟨rc,hrc⟩:∃ rc,t.change key.toList (fun n=>n.put key.toList val.toList)=rc:=⟨_,rfl⟩
    have HW9:Hid (rc.1=0→(t.way key.toList).map (fun l=>ND.isAt key.toList (TS.last l).keys)=some (t.hasK key.toList)):=Lib.hid (fun h=>by
     rw [← hrc] at h
     obtain ⟨l,hl⟩:=way_of h
     rw [hl,hasK_of hl]
     rfl)
    have HCT:Hid (rc.1=0→0≤rc.2.ct∧rc.2.ct≤1000000000):=Lib.hid (by rw [← hrc];exact PRE.out.ct)
    rw [hrc] at HC HPU
    clear hrc PRE HK3 HV3 HB3
    go_wp2_with fail
    refine HC.out.mono ?_
    rintro e w4 ⟨rfl,F4,h4,m4,n4,q4⟩
    have H4:=Lib.hid h4
    have M4:=Lib.hid m4
    by_cases he:rc.1=0
    ·have hb4:=q4 _ (HW9.out he)
     have HBB:=Lib.hid hb4
     have hct:=HCT.out he
     have HRE:Hid (r=(0,{ rc.2 with ct:=if t.hasK key.toList then rc.2.ct else rc.2.ct+1 })):=Lib.hid (by rw [HPU.out,if_pos he])
     rw [he]
     clear h4 m4 n4 q4 he HPU HC HW9 ck3
     obtain ⟨_,_,c3,_,_,f3⟩:=H4.out.cells3
     have cb:=hb4.cell
     clear hb4
     cases hk:t.hasK key.toList with
     | true =>
       rw [hk] at cb
       have HX:Hid (TDone W F w tb pb db (.int .i64 r.1) r.2 (.returned (.int .i64 0)) w4):=Lib.hid (by
        rw [HRE.out,hk,if_pos rfl]
        exact ⟨rfl,F4,H4.out,M4.out⟩)
       clear hk
       go_wp2_with fail
       go_ret
       exact HX.out
     | false =>
       rw [hk] at cb
       obtain ⟨F5,h5,m5⟩:=H4.out.setCt (rc.2.ct+1)
       have HX:Hid (TDone W F w tb pb db (.int .i64 r.1) r.2 (.returned (.int .i64 0)) (w4.setCell ⟨tb,3,none⟩ (.int .i64 (rc.2.ct+1)))):=Lib.hid (by
        rw [HRE.out,hk,if_neg (by decide)]
        exact ⟨rfl,F5,h5,M4.out.trans m5⟩)
       obtain ⟨ct,hcte⟩:∃ ct,rc.2.ct=ct:=⟨_,rfl⟩
       rw [hcte] at hct c3 HX
       clear HRE
       clear hk h5 m5 hcte
       have hw1:wrap64 (ct+1)=ct+1:=IntWalk.wrap64_in _ (by omega)
       go_wp2_with fail
       go_ret
       exact HX.out
    ·have hb:(rc.1 != 0)=true:=bne_iff_ne.2 he
     have HRE:Hid (r=(rc.1,rc.2.told rc.1)):=Lib.hid (by rw [HPU.out,if_neg he])
     clear h4 m4 n4 q4 he HPU HC HW9 ck3 HCT
     go_wp2_with fail
     refine (told_live w4 rc.1 H4.out).mono ?_
     rintro e w5 ⟨rfl,F5,h5,m5⟩
     have HX:Hid (TDone W F w tb pb db (.int .i64 r.1) r.2 (.returned (.int .i64 rc.1)) w5):=Lib.hid (by rw [HRE.out];exact ⟨rfl,F5,h5,M4.out.trans m5⟩)
     clear h5 m5
     go_wp2_with fail
     go_ret
     exact HX.out
 ·have hb:(t.lost != 0)=true:=bne_iff_ne.2 hl
  have HX:Hid (TDone W F w tb pb db (.int .i64 r.1) r.2 (.returned (.int .i64 t.lost)) w1):=Lib.hid (by
   rw [← HR.out]
   unfold TS.put
   rw [if_pos hl]
   exact ⟨rfl,TGoes.of_below H0.out B0.out⟩)
  clear hl
  go_wp2_with fail
  go_ret
  exact HX.out
theorem aDel_live (w:World) (key:ByteArray) (hp:t.lost=0→ChgPre t key.toList (fun n=>n.remove key.toList)) (h:Tree W F w tb pb db t) :
 Calls Tryz.prog 28 #[.pointer (some ⟨tb,0,none⟩),.string key] w (TDone W F w tb pb db (.tuple #[.bool (t.del key.toList).1,.int .i64 (t.del key.toList).2.1]) (t.del key.toList).2.2):=by
 have h0:=kbox_new w key
 have b2:=below_one w (.cells #[.string key] 9)
 have hws:(w.alloc (.cells #[.string key] 9)).heap.size=w.heap.size+1:=by simp
 have HKB:=Lib.hid h0
 have B0:=Lib.hid b2
 have H0:=Lib.hid h
 have H:=Lib.hid (h.kept b2)
 have HP:=Lib.hid hp
 have HW:=Lib.hid h.below.size
 have HWS:=Lib.hid hws
 obtain ⟨r,hr⟩:∃ r,t.del key.toList=r:=⟨_,rfl⟩
 rw [hr]
 have HR:=Lib.hid hr
 clear h hp h0 b2 hr hws
 go_enter Tryz.func28,Tryz.ntmps28
 go_upto_region 1 with fail
 generalize w.alloc (.cells #[.string key] 9)=w1 at *
 go_wp2_with fail
 refine (refusal_live w1 H.out).mono ?_
 rintro e wx ⟨rfl,hwx⟩
 subst hwx
 by_cases hl:t.lost=0
 ·have HL:=Lib.hid hl
  have PRE:=Lib.hid (HP.out hl)
  rw [hl]
  clear hl HP
  have HPU:Hid (r=if (t.change key.toList (fun n=>n.remove key.toList)).1=0 then (t.hasK key.toList,0,{ (t.change key.toList (fun n=>n.remove key.toList)).2 with ct:=if t.hasK key.toList then (t.change key.toList (fun n=>n.remove key.toList)).2.ct - 1 else (t.change key.toList (fun n=>n.remove key.toList)).2.ct })
   else (false,(t.change key.toList (fun n=>n.remove key.toList)).1,(t.change key.toList (fun n=>n.remove key.toList)).2.told (t.change key.toList (fun n=>n.remove key.toList)).1)):=Lib.hid (by
   rw [← HR.out]
   unfold TS.del
   rw [if_neg (by rw [HL.out];decide)])
  clear HR
  have b3:=below_one w1 (.cells #[.bool false] 4)
  have HK3:=Lib.hid (HKB.out.kept b3)
  have HB3:=Lib.hid (bbox_new w1 false)
  have H3:=Lib.hid (H.out.kept b3)
  have B3:=Lib.hid (chainN b3 B0.out)
  have HN3:=Lib.hid (H.out.new (Nat.le_refl w1.heap.size))
  have HNK:=Lib.hid (H0.out.new (Nat.le_refl w.heap.size))
  have ck3:=HK3.out.cell
  clear b3 HKB H
  go_upto_region 6 with fail
  rw [HWS.out] at HB3 HN3 ⊢
  generalize w1.alloc (.cells #[.bool false] 4)=w3 at *
  have CH:=change_live w w3 F 56 (w.heap.size+1) #[.pointer (some ⟨w.heap.size,0,none⟩),.pointer (some ⟨w.heap.size+1,0,none⟩)] (fun n=>n.remove key.toList) (fun n=>ND.isAt key.toList n.keys) key
   (enters_of Tryz.func56 (by kernel_rfl) rfl) H3.out (Moves.of_below B3.out) HW.out (by omega) HB3.out.lt HN3.out PRE.out.way PRE.out.ht PRE.out.climb
   (fun wx Fx x l hT hM hx hl he=>by
     obtain ⟨q1,_,q3,q4,q5,q6⟩:=H3.out.wayOk PRE.out.way hl
     obtain ⟨q7,q8,_⟩:=q1 q3 (List.mem_of_getLast? q4)
     have hxl:x.s.leaf=true:=by rw [he,q6];exact q5
     have hxo:x.s.ok=true:=by rw [he,q6];exact q7
     have hxz:x.s.size≤1000:=by rw [he,q6];exact q8
     exact delF_any wx x key w.heap.size (w.heap.size+1) false hT.lt hx hxl hxo hxz (HK3.out.moves hM HNK.out) (HB3.out.moves hM HN3.out) (by omega))
  have HC:=Lib.hid CH
  clear CH
  obtain ⟨rc,hrc⟩:∃ rc,t.change key.toList (fun n=>n.remove key.toList)=rc:=⟨_,rfl⟩
  have HW9:Hid (rc.1=0→(t.way key.toList).map (fun l=>ND.isAt key.toList (TS.last l).keys)=some (t.hasK key.toList)):=Lib.hid (fun h=>by
   rw [← hrc] at h
   obtain ⟨l,hl⟩:=way_of h
   rw [hl,hasK_of hl]
   rfl)
  have HCT:Hid (rc.1=0→0≤rc.2.ct∧rc.2.ct≤1000000000):=Lib.hid (by rw [← hrc];exact PRE.out.ct)
  rw [hrc] at HC HPU
  clear hrc PRE HK3 HB3
  go_wp2_with fail
  refine HC.out.mono ?_
  rintro e w4 ⟨rfl,F4,h4,m4,n4,q4⟩
  have H4:=Lib.hid h4
  have M4:=Lib.hid m4
  by_cases he:rc.1=0
  ·have hb4:=q4 _ (HW9.out he)
   have HBB:=Lib.hid hb4
   have HN4:=Lib.hid n4
   have hct:=HCT.out he
   have HRE:Hid (r=(t.hasK key.toList,0,{ rc.2 with ct:=if t.hasK key.toList then rc.2.ct - 1 else rc.2.ct })):=Lib.hid (by rw [HPU.out,if_pos he])
   rw [he]
   clear h4 m4 n4 q4 he HPU HC HW9 ck3
   obtain ⟨_,_,c3,_,_,f3⟩:=H4.out.cells3
   have cb:=hb4.cell
   clear hb4
   cases hk:t.hasK key.toList with
   | false =>
     rw [hk] at cb
     have HX:Hid (TDone W F w tb pb db (.tuple #[.bool r.1,.int .i64 r.2.1]) r.2.2 (.returned (.tuple #[.bool false,.int .i64 0])) w4):=Lib.hid (by
      rw [HRE.out,hk,if_neg (by decide)]
      exact ⟨rfl,F4,H4.out,M4.out⟩)
     clear hk
     go_wp2_with fail
     refine bodyPost_ret (v := .tuple #[.bool false,.int .i64 0]) (by simp [results,Tryz.results28,go_sem]) rfl ?_
     exact HX.out
   | true =>
     rw [hk] at cb
     obtain ⟨F5,h5,m5⟩:=H4.out.setCt (rc.2.ct - 1)
     have HX:Hid (TDone W F w tb pb db (.tuple #[.bool r.1,.int .i64 r.2.1]) r.2.2 (.returned (.tuple #[.bool true,.int .i64 0])) (w4.setCell ⟨tb,3,none⟩ (.int .i64 (rc.2.ct - 1)))):=Lib.hid (by
      rw [HRE.out,hk,if_pos rfl]
      exact ⟨rfl,F5,h5,M4.out.trans m5⟩)
     have cb5:(w4.setCell ⟨tb,3,none⟩ (.int .i64 (rc.2.ct - 1))).cell? ⟨w.heap.size+1,0,none⟩=some (.bool true):=by
      have:=(HBB.out.moves m5 HN4.out).cell
      rwa [hk] at this
     obtain ⟨ct,hcte⟩:∃ ct,rc.2.ct=ct:=⟨_,rfl⟩
     rw [hcte] at hct c3 HX cb5
     clear HRE
     clear hk h5 m5 hcte
     have hw1:wrap64 (ct - 1)=ct - 1:=IntWalk.wrap64_in _ (by omega)
     go_wp2_with fail
     refine bodyPost_ret (v := .tuple #[.bool true,.int .i64 0]) (by simp [results,Tryz.results28,go_sem]) rfl ?_
     exact HX.out
  ·have hb:(rc.1 != 0)=true:=bne_iff_ne.2 he
   have HRE:Hid (r=(false,rc.1,rc.2.told rc.1)):=Lib.hid (by rw [HPU.out,if_neg he])
   clear h4 m4 n4 q4 he HPU HC HW9 ck3 HCT
   go_wp2_with fail
   refine (told_live w4 rc.1 H4.out).mono ?_
   rintro e w5 ⟨rfl,F5,h5,m5⟩
   have HX:Hid (TDone W F w tb pb db (.tuple #[.bool r.1,.int .i64 r.2.1]) r.2.2 (.returned (.tuple #[.bool false,.int .i64 rc.1])) w5):=Lib.hid (by rw [HRE.out];exact ⟨rfl,F5,h5,M4.out.trans m5⟩)
   clear h5 m5
   go_wp2_with fail
   refine bodyPost_ret (v := .tuple #[.bool false,.int .i64 rc.1]) (by simp [results,Tryz.results28,go_sem]) rfl ?_
   exact HX.out
 ·have hb:(t.lost != 0)=true:=bne_iff_ne.2 hl
  have HX:Hid (TDone W F w tb pb db (.tuple #[.bool r.1,.int .i64 r.2.1]) r.2.2 (.returned (.tuple #[.bool false,.int .i64 t.lost])) w1):=Lib.hid (by
   rw [← HR.out]
   unfold TS.del
   rw [if_pos hl]
   exact ⟨rfl,TGoes.of_below H0.out B0.out⟩)
  clear hl
  go_wp2_with fail
  refine bodyPost_ret (v := .tuple #[.bool false,.int .i64 t.lost]) (by simp [results,Tryz.results28,go_sem]) rfl ?_
  exact HX.out
end
end Go.Proofs.YtccphijgcapeoaaGreat
/-
  The plain tree's Put and Delete, of a tree that has pages enough. Nothing here names the program, but what a change asks of it.
-/
namespace Go.Proofs.YtccphijgcapeoaaGreat
namespace TT
open ND TS
theorem nodup_sub:∀ (l O:List Int),l.Nodup→(∀ x∈l,x∈O)→l.length≤O.length
 | [],O,_,_=>Nat.zero_le _
 | a::l,O,h,hs=>by
   obtain ⟨h1,h2⟩:=List.nodup_cons.1 h
   have ha:=hs a (by simp)
   have:=nodup_sub l (O.erase a) h2 (fun x hx=>(List.mem_erase_of_ne (fun (e:x=a)=>h1 (by rw [← e];exact hx))).2 (hs x (by simp [hx])))
   rw [List.length_erase_of_mem ha] at this
   have:=List.length_pos_of_mem ha
   rw [List.length_cons]
   omega
section
variable {O:List Int} {nd0:Int→Option ND} {t:TS} {es:List E} {L:List Int}
theorem Tr.pends (h:Tr O nd0 t es L):t.sp.pe.length≤O.length:=by
 have:=nodup_sub (t.sp.pe.map (·.2)) O h.acc.fine.once (fun x hx=>by
  obtain ⟨y,hy,rfl⟩:=List.mem_map.1 hx
  exact h.acc.pend y hy)
 simpa using this
theorem Tr.used_le (h:Tr O nd0 t es L):t.used L≤2*es.length+O.length:=by
 have h1:=h.pends
 have h2:=h.root.count.1
 unfold TS.used
 omega
theorem Tr.low (h:Tr O nd0 t es L) (he:es.length≤511):t.ht≤9:=by
 rcases h.root.count.2 with e | e
 ·omega
 ·apply Classical.byContradiction
  intro hn
  have:=Nat.pow_le_pow_right (n:=2) (by decide) (show 9≤t.ht - 1 by omega)
  omega
theorem empty_fits (key val:K) (h2:key.length≤120) (h3:val.length≤100):(empty.put key val).size≤1000:=by
 have:=put_size (s:=empty) (k:=key) (v:=val) (by decide) rfl h2 h3
 have e:empty.size=2:=rfl
 omega
theorem bad_no {key val:K} (h:TS.badE key val=false):1≤key.length∧key.length≤120∧val.length≤100:=by
 unfold TS.badE at h
 simp only [Bool.or_eq_false_iff,decide_eq_false_iff_not] at h
 omega
theorem Tr.putF (h:Tr O nd0 t es L) {key val:K} (hb:TS.badE key val=false) :
 (∃ t',t.change key (fun n=>n.put key val)=(81,t')∧Full t L (2*t.ht+3) 81)∨∃ t' L',t.change key (fun n=>n.put key val)=(0,t')∧Done O nd0 t L (2*t.ht+3) t' L'∧Root t'.nd t'.ht t'.rt (putE key val es) L':=by
 obtain ⟨h1,h2,h3⟩:=bad_no hb
 exact h.change key (fun n=>n.put key val) (putE key val) (fun n lo hi e v hk hz=>by
  obtain ⟨a,b,c⟩:=VL.put v hk h1 h2 h3
  exact ⟨a,by omega⟩) (fun pre e post a b=>put_mid a b) (Or.inr (by
  obtain ⟨_,_,c⟩:=VL.put (n:=empty) (lo:=[]) (hi:=[]) (es:=[]) (val:=val) ⟨rfl,rfl,rfl,rfl,rfl,fun k hk=>(by cases hk),rfl⟩ (btw_all key) h1 h2 h3
  exact c)) (empty_fits key val h2 h3)
theorem Tr.delF (h:Tr O nd0 t es L) (key:K) :
 (∃ t',t.change key (fun n=>n.remove key)=(81,t')∧Full t L (2*t.ht+3) 81)∨∃ t' L',t.change key (fun n=>n.remove key)=(0,t')∧Done O nd0 t L (2*t.ht+3) t' L'∧Root t'.nd t'.ht t'.rt (delE key es) L':=by
 have he:empty.remove key=empty:=remove_new (by rfl)
 exact h.change key (fun n=>n.remove key) (delE key) (fun n lo hi e v hk hz=>by
  obtain ⟨a,b⟩:=VL.remove (key:=key) v
  exact ⟨a,by omega⟩) (fun pre e post a b=>del_mid a b) (Or.inl he) (by rw [he];decide)
theorem Tr.put1 (h:Tr O nd0 t es L) {key val:K} (hb:TS.badE key val=false) :
 (∃ t',t.put key val=(81,t')∧t'.lost=81∧Full t L (2*t.ht+3) 81)∨∃ t' L',t.put key val=(0,t')∧Tr O nd0 t' (putE key val es) L'∧t'.z=t.z∧t'.ep=t.ep:=by
 have hk:=h.has key
 unfold TS.put
 rw [if_neg (by rw [h.lost];decide),hb,if_neg (by decide)]
 rcases h.putF hb with ⟨t',e,f⟩ | ⟨t',L',e,d,r⟩
 ·left
  rw [e,if_neg (show ¬ (81:Int)=0 by decide)]
  exact ⟨t'.told 81,rfl,rfl,f⟩
 ·right
  rw [e,if_pos rfl,hk]
  have hl:=put_len (key:=key) (val:=val) (es:=es)
  refine ⟨_,L',rfl,⟨⟨d.acc.fine,d.acc.once,d.acc.inL,d.acc.all,d.acc.late,d.acc.ep0,d.acc.own,d.acc.pend,d.acc.old,d.acc.fresh⟩,r,?_,d.lost_.trans h.lost,by show t'.z≤_;rw [d.z_];exact h.z_⟩,d.z_,d.ep_⟩
  show (if isE key es=true then t'.ct else t'.ct+1)=_
  rw [d.ct_,h.ct,hl]
  cases isE key es<;>simp
theorem Tr.del1 (h:Tr O nd0 t es L) (key:K) :
 (∃ t',t.del key=(false,81,t')∧t'.lost=81∧Full t L (2*t.ht+3) 81)∨∃ t' L',t.del key=(isE key es,0,t')∧Tr O nd0 t' (delE key es) L'∧t'.z=t.z∧t'.ep=t.ep:=by
 have hk:=h.has key
 unfold TS.del
 rw [if_neg (by rw [h.lost];decide)]
 rcases h.delF key with ⟨t',e,f⟩ | ⟨t',L',e,d,r⟩
 ·left
  rw [e,if_neg (show ¬ (81:Int)=0 by decide)]
  exact ⟨t'.told 81,rfl,rfl,f⟩
 ·right
  rw [e,if_pos rfl,hk]
  have hl:=del_len (key:=key) (es:=es)
  refine ⟨_,L',rfl,⟨⟨d.acc.fine,d.acc.once,d.acc.inL,d.acc.all,d.acc.late,d.acc.ep0,d.acc.own,d.acc.pend,d.acc.old,d.acc.fresh⟩,r,?_,d.lost_.trans h.lost,by show t'.z≤_;rw [d.z_];exact h.z_⟩,d.z_,d.ep_⟩
  show (if isE key es=true then t'.ct - 1 else t'.ct)=_
  rw [d.ct_,h.ct,hl]
  cases hi:isE key es with
  | false=>simp
  | true =>
    have:=isE_lt hi
    simp
    omega
theorem Tr.chgPut (h:Tr O nd0 t es L) (he:es.length≤511) {key val:K} (hb:TS.badE key val=false):ChgPre t key (fun n=>n.put key val):=by
 obtain ⟨h1,h2,h3⟩:=bad_no hb
 have hl:=h.low he
 refine ⟨h.wayIn key,by omega,fun l hl=>h.pre key (fun n=>n.put key val) (by omega) (fun n lo hi e v hk hz=>by
  obtain ⟨a,b,c⟩:=VL.put v hk h1 h2 h3
  exact ⟨_,a,by omega⟩) l hl,fun e=>?_⟩
 rcases h.putF hb with ⟨t',e',f⟩ | ⟨t',L',e',d,r⟩
 ·rw [e'] at e
  exact absurd e (show ¬ (81:Int)=0 by decide)
 ·rw [e']
  show 0≤t'.ct∧t'.ct≤_
  rw [d.ct_,h.ct]
  omega
theorem Tr.chgDel (h:Tr O nd0 t es L) (he:es.length≤511) (key:K):ChgPre t key (fun n=>n.remove key):=by
 have hl:=h.low he
 refine ⟨h.wayIn key,by omega,fun l hl=>h.pre key (fun n=>n.remove key) (by omega) (fun n lo hi e v hk hz=>by
  obtain ⟨a,b⟩:=VL.remove (key:=key) v
  exact ⟨_,a,by omega⟩) l hl,fun e=>?_⟩
 rcases h.delF key with ⟨t',e',f⟩ | ⟨t',L',e',d,r⟩
 ·rw [e'] at e
  exact absurd e (show ¬ (81:Int)=0 by decide)
 ·rw [e']
  show 0≤t'.ct∧t'.ct≤_
  rw [d.ct_,h.ct]
  omega
theorem Tr.noFull (h:Tr O nd0 t es L) (hz:2*es.length+O.length+30≤t.z) (he:es.length≤511):¬ Full t L (2*t.ht+3) 81:=by
 intro f
 have h1:=f.2
 have h2:=h.used_le
 have h3:=h.low he
 omega
theorem Tr.putOk (h:Tr O nd0 t es L) (hz:2*es.length+O.length+30≤t.z) (he:es.length≤511) (key val:K) :
 ∃ t' L',t.put key val=(if TS.badE key val then 120 else 0,t')∧Tr O nd0 t' (if TS.badE key val then es else putE key val es) L'∧t'.z=t.z∧t'.ep=t.ep:=by
 cases hb:TS.badE key val with
 | true =>
   refine ⟨t,L,?_,h,rfl,rfl⟩
   unfold TS.put
   rw [if_neg (by rw [h.lost];decide),hb,if_pos rfl]
   rfl
 | false =>
   rcases h.put1 hb with ⟨t',e,_,f⟩ | ⟨t',L',e,r⟩
   ·exact absurd f (h.noFull hz he)
   ·exact ⟨t',L',e,r⟩
theorem Tr.delOk (h:Tr O nd0 t es L) (hz:2*es.length+O.length+30≤t.z) (he:es.length≤511) (key:K) :
 ∃ t' L',t.del key=(isE key es,0,t')∧Tr O nd0 t' (delE key es) L'∧t'.z=t.z∧t'.ep=t.ep:=by
 rcases h.del1 key with ⟨t',e,_,f⟩ | ⟨t',L',e,r⟩
 ·exact absurd f (h.noFull hz he)
 ·exact ⟨t',L',e,r⟩
end
end TT
end Go.Proofs.YtccphijgcapeoaaGreat
/-
  What slices.Clone comes to at lists of ints and of freed pages; pages' lists in memory of their own. Conditions: none.
-/
namespace Go.Proofs.YtccphijgcapeoaaGreat
open Go.RowKit Go.Maps
def CloneEnd (w:World) (sz n:Nat) (cs:List Value) (e:Ending) (w':World):Prop:=∃ A c,e = .returned (.slice A n c)∧Ln w' sz A n c cs∧Hi w.heap.size A∧Below w.heap.size w w'
theorem sclone_I (A:Option Addr) (n c:Nat) (l:List Int) (w:World) (h:Ln w 1 A n c (intVals l)) (hn:n≤1000000) :
 Calls Tryz.prog 73 #[.slice A n c] w (CloneEnd w 1 n (intVals l)):=by
 have hne:=fun W=>Lib.run_eql_slice_nil (P:=Tryz.prog) W 36
 have H:=Lib.hid h
 rcases A with _ | ad
 ·obtain ⟨rfl,rfl⟩:=h.lies.1 rfl
  clear h
  go_enter Tryz.func73,Tryz.ntmps73
  go_wp2_with fail
  go_ret
  exact ⟨none,0,rfl,H.out,Hi.none_ _,Below.refl _ _⟩
 ·clear h
  obtain ⟨i0,hi,hz0,hz1,hz2⟩:=info_parts intInfo
  have BE:=Lib.hid (below_one w (.cells #[] 3))
  have OE:Hid ((w.alloc (.cells #[] 3)).ownsRow w.heap.size 3 1 (.slice (some ⟨w.heap.size,0,none⟩) 0 0) 0 []):=Lib.hid (World.ownsRow_made w #[] 0 (Nat.le_refl _) (by unfold maxLen;omega) rfl)
  have HZ:Hid (∀ k',(Value.slice (some ⟨w.heap.size,0,none⟩) 0 0).ownBlock=some k'→w.heap.size≤k'):=Lib.hid (fun k' e'=>(OE.out.lt k' e').1)
  go_enter Tryz.func73,Tryz.ntmps73
  go_wp2_with (first
   | (at_builtin;refine wpList_append_lay _ rfl (.tmp 5) (.tmp 6) 36 rfl w.heap.size 3 i0 _ 1 8 Tryz.underlying36 hi hz0 hz1 hz2 rfl (by decide) _ 0 [] rfl OE.out (some ad) n c (intVals l) rfl H.out.len (H.out.lies.kept BE.out) (intVals_one _) (by unfold maxLen;omega) (by omega) BE.out.size ?_;intro v8 w8 o8 g8;rw [List.nil_append,Nat.zero_add] at o8;have b8:=Below.grown (B:=w.heap.size) (a:=w) BE.out g8 BE.out.size HZ.out;have O8:=Lib.hid o8;have B8:=Lib.hid b8;clear o8 g8 b8)
   | fail)
  obtain ⟨A',c',rfl,_,l'⟩:=Ln.of_own O8.out
  go_ret
  exact ⟨A',c',rfl,l',Hi.of_own O8.out,B8.out⟩
theorem sclone_F (A:Option Addr) (n c:Nat) (l:List (Int×Int)) (w:World) (h:Ln w 2 A n c (prVals l)) (hn:n≤1000000) :
 Calls Tryz.prog 74 #[.slice A n c] w (CloneEnd w 2 n (prVals l)):=by
 have hne:=fun W=>Lib.run_eql_slice_nil (P:=Tryz.prog) W 47
 have H:=Lib.hid h
 rcases A with _ | ad
 ·obtain ⟨rfl,rfl⟩:=h.lies.1 rfl
  clear h
  go_enter Tryz.func74,Tryz.ntmps74
  go_wp2_with fail
  go_ret
  exact ⟨none,0,rfl,H.out,Hi.none_ _,Below.refl _ _⟩
 ·clear h
  obtain ⟨i0,hi,hz0,hz1,hz2⟩:=info_parts FInfo0
  have BE:=Lib.hid (below_one w (.cells #[] 129))
  have OE:Hid ((w.alloc (.cells #[] 129)).ownsRow w.heap.size 129 2 (.slice (some ⟨w.heap.size,0,none⟩) 0 0) 0 []):=Lib.hid (World.ownsRow_made w #[] 0 (Nat.le_refl _) (by unfold maxLen;omega) rfl)
  have HZ:Hid (∀ k',(Value.slice (some ⟨w.heap.size,0,none⟩) 0 0).ownBlock=some k'→w.heap.size≤k'):=Lib.hid (fun k' e'=>(OE.out.lt k' e').1)
  go_enter Tryz.func74,Tryz.ntmps74
  go_wp2_with (first
   | (at_builtin;refine wpList_append_lay _ rfl (.tmp 5) (.tmp 6) 47 rfl w.heap.size 129 i0 _ 2 16 Tryz.underlying47 hi hz0 hz1 hz2 rfl (by decide) _ 0 [] rfl OE.out (some ad) n c (prVals l) rfl H.out.len (H.out.lies.kept BE.out) (prVals_one _) (by unfold maxLen;omega) (by omega) BE.out.size ?_;intro v8 w8 o8 g8;rw [List.nil_append,Nat.zero_add] at o8;have b8:=Below.grown (B:=w.heap.size) (a:=w) BE.out g8 BE.out.size HZ.out;have O8:=Lib.hid o8;have B8:=Lib.hid b8;clear o8 g8 b8)
   | fail)
  obtain ⟨A',c',rfl,_,l'⟩:=Ln.of_own O8.out
  go_ret
  exact ⟨A',c',rfl,l',Hi.of_own O8.out,B8.out⟩
def SpCop (w:World) (s:SS) (e:Ending) (w':World):Prop:=∃ v,e = .returned v∧SpVH w' w.heap.size v s∧Below w.heap.size w w'
theorem tcopied_any (h:Int) (A:Option Addr) (n c:Nat) (B:Option Addr) (m d:Nat) (s:SS) (w:World) (hh:s.hi=h) (hs:Sp w A n c B m d s) (hn:n≤400000) (hm:m≤400000) :
 Calls Tryz.prog 43 #[.agg #[.int .i64 h,.slice A n c,.slice B m d]] w (SpCop w s):=by
 obtain ⟨t1,t2,t3⟩:=two_boxes w (.int .i64 h) (.slice A n c) (.slice B m d) (.int .i64 0) (.slice none 0 0) (.slice none 0 0)
 have HB:=Lib.hid t1
 have HR:=Lib.hid t2
 have B0:=Lib.hid t3
 have HS:=Lib.hid (hs.kept t3)
 have HH:=Lib.hid hh
 have hsz:((w.alloc (.cells #[.int .i64 h,.slice A n c,.slice B m d] 49)).alloc (.cells #[.int .i64 0,.slice none 0 0,.slice none 0 0] 49)).heap.size=w.heap.size+2:=by simp
 have HZ:=Lib.hid hsz
 clear hs hh t1 t2 t3 hsz
 go_enter Tryz.func43,Tryz.ntmps43
 go_upto_region 1 with fail
 generalize (w.alloc (.cells #[.int .i64 h,.slice A n c,.slice B m d] 49)).alloc (.cells #[.int .i64 0,.slice none 0 0,.slice none 0 0] 49)=w0 at *
 have BD:=Lib.hid ((Below.refl w0.heap.size w0).drew)
 have K0:=(HB.out.kept BD.out).cells
 have f0:=(HR.out.kept BD.out).free
 go_region_held3 (fun w'=>w'.cell? ⟨w.heap.size,0,none⟩=some (.int .i64 h)∧w'.cell? ⟨w.heap.size,1,none⟩=some (.slice A n c)∧w'.cell? ⟨w.heap.size,2,none⟩=some (.slice B m d))
  (first | with_reducible exact K0 | with_reducible exact K1 | with_reducible exact K2 | with_reducible exact K9 _ _ _)
  (first
    | (go_at_call 73;refine (sclone_I A n c s.fr _ (HS.out.fr.kept (by first | exact BF.out | exact BD.out)) (by omega)).mono ?_;rintro eI wI ⟨AI,cI,rfl,lI,hI,bI⟩;have BI:=Lib.hid (chainN bI (by first | exact BF.out | exact BD.out));have K1:=(HB.out.kept BI.out).cells;have hbx:=HR.out.kept BI.out;obtain ⟨x0,x1,x2⟩:=hbx.cells;obtain ⟨g0,g1,g2⟩:=hbx.free;clear hbx;have K9:=fun a b' c':Value=>Box.cells (((But.put wI (w.heap.size+1) a b' c').2 w.heap.size (by omega)).trans (HB.out.kept BI.out));have HIA:Hid (Hi w0.heap.size AI):=Lib.hid (Hi.low hI ((by first | exact BF.out | exact BD.out):Below w0.heap.size w0 _).size);have LI:=Lib.hid lI;first | (have LFX:=Lib.hid (LF.out.kept bI)) | skip;clear lI hI bI)
    | (go_at_call 74;refine (sclone_F B m d s.pe _ (HS.out.pe.kept (by first | exact BI.out | exact BD.out)) (by omega)).mono ?_;rintro eF wF ⟨AF,cF,rfl,lF,hF,bF⟩;have BF:=Lib.hid (chainN bF (by first | exact BI.out | exact BD.out));have K2:=(HB.out.kept BF.out).cells;have hbx:=HR.out.kept BF.out;obtain ⟨x0,x1,x2⟩:=hbx.cells;obtain ⟨g0,g1,g2⟩:=hbx.free;clear hbx;have K9:=fun a b' c':Value=>Box.cells (((But.put wF (w.heap.size+1) a b' c').2 w.heap.size (by omega)).trans (HB.out.kept BF.out));have HFA:Hid (Hi w0.heap.size AF):=Lib.hid (Hi.low hF ((by first | exact BI.out | exact BD.out):Below w0.heap.size w0 _).size);have LF:=Lib.hid lF;first | (have LIX:=Lib.hid (LI.out.kept bF)) | skip;clear lF hF bF)
    | fail)
 all_goals (
  have hne:∀ {X:Option Addr},Hi w0.heap.size X→∀ ad,X=some ad→ad.block≠w.heap.size+1:=fun hX ad e=>by
   have:=hX ad e
   have:=HZ.out
   omega
  have HD:Hid (SpCop w s (.returned (.agg #[.int .i64 h,.slice AI n cI,.slice AF m cF])) (((wF.setCell ⟨w.heap.size+1,0,none⟩ (.int .i64 h)).setCell ⟨w.heap.size+1,1,none⟩ (.slice AI n cI)).setCell ⟨w.heap.size+1,2,none⟩ (.slice AF m cF))):=Lib.hid
   ⟨_,rfl,⟨AI,n,cI,AF,m,cF,by rw [HH.out],sp_put (w2:=wF) (g:=w.heap.size+1) (s:=s) ⟨LIX.out,LF.out⟩ (fun _=>hne HIA.out) (fun _=>hne HFA.out) _ _ _,Hi.low HIA.out B0.out.size,Hi.low HFA.out B0.out.size⟩,below_put (chainN BF.out B0.out) (Nat.le_succ _) _ _ _⟩
  have HE:=Lib.hid ((HR.out.kept BF.out).put (.int .i64 h) (.slice AI n cI) (.slice AF m cF)).cells
  go_wp2_with fail
  obtain ⟨z0,z1,z2⟩:=HE.out
  refine bodyPost_ret (v := .agg #[.int .i64 h,.slice AI n cI,.slice AF m cF]) (by simp [results,Tryz.results43,go_sem,z0,z1,z2]) rfl ?_
  exact HD.out)
end Go.Proofs.YtccphijgcapeoaaGreat
/-
  What the tree's At, Space and Node come to. Conditions: none.
-/
namespace Go.Proofs.YtccphijgcapeoaaGreat
open Go.RowKit Go.Maps
def UBx (w:World) (g:Nat) (a b c d e:Value):Prop:=w.heap[g]?=some (.cells #[a,b,c,d,e] 38 (0,0))
theorem UBx.lt {w:World} {g:Nat} {a b c d e:Value} (h:UBx w g a b c d e):g<w.heap.size:=(Array.getElem?_eq_some_iff.1 h).1
theorem UBx.kept {w w':World} {g:Nat} {a b c d e:Value} (h:UBx w g a b c d e) (hb:Below w.heap.size w w'):UBx w' g a b c d e:=(hb.block g h.lt).trans h
theorem UBx.cells {w:World} {g:Nat} {a b c d e:Value} (h:UBx w g a b c d e):w.cell? ⟨g,0,none⟩=some a∧w.cell? ⟨g,1,none⟩=some b∧w.cell? ⟨g,2,none⟩=some c∧w.cell? ⟨g,3,none⟩=some d∧w.cell? ⟨g,4,none⟩=some e :=
 ⟨(cell_of_row w g 0 _ _ _ h).trans rfl,(cell_of_row w g 1 _ _ _ h).trans rfl,(cell_of_row w g 2 _ _ _ h).trans rfl,(cell_of_row w g 3 _ _ _ h).trans rfl,(cell_of_row w g 4 _ _ _ h).trans rfl⟩
theorem UBx.free {w:World} {g:Nat} {a b c d e:Value} (h:UBx w g a b c d e) (j:Nat):w.frozen? ⟨g,j,none⟩=false:=frozen_of_row w g j _ _ h
theorem ubx_new (w:World) (a b c d e:Value):UBx (w.alloc (.cells #[a,b,c,d,e] 38)) w.heap.size a b c d e:=heap_alloc_new w _
theorem UBx.put {w:World} {g:Nat} {a b c d e:Value} (h:UBx w g a b c d e) (a' b' c' d' e':Value):UBx (((((w.setCell ⟨g,0,none⟩ a').setCell ⟨g,1,none⟩ b').setCell ⟨g,2,none⟩ c').setCell ⟨g,3,none⟩ d').setCell ⟨g,4,none⟩ e') g a' b' c' d' e':=by
 have e1:=Joins.block_setCell (i:=0) h a'
 have e2:=Joins.block_setCell (i:=1) e1 b'
 have e3:=Joins.block_setCell (i:=2) e2 c'
 have e4:=Joins.block_setCell (i:=3) e3 d'
 have e5:=Joins.block_setCell (i:=4) e4 e'
 exact e5
theorem below_put5 {B:Nat} {a w:World} {r:Nat} (h:Below B a w) (hr:B≤r) (x y z p q:Value):Below B a (((((w.setCell ⟨r,0,none⟩ x).setCell ⟨r,1,none⟩ y).setCell ⟨r,2,none⟩ z).setCell ⟨r,3,none⟩ p).setCell ⟨r,4,none⟩ q):=((((h.setCell hr _).setCell hr _).setCell hr _).setCell hr _).setCell hr _
def atV (t:TS):Value := .agg #[.int .i64 t.ep,.int .i64 t.rt,.int .i64 ((t.ht:Nat):Int),.slice none 0 0,.int .i64 t.ct]
section
variable {W w w':World} {G F F':Nat→Prop} {tb mb pb db:Nat} {A B:Option Addr} {n c m d:Nat} {f:Int→List UInt8} {t t':TS}
theorem at_any (w:World) (h:TBox w tb mb pb A n c B m d t) :
 Calls Tryz.prog 14 #[.pointer (some ⟨tb,0,none⟩)] w fun e w'=>e = .returned (atV t)∧Below w.heap.size w w':=by
 have b0:=below_one w (.cells #[.int .i64 0,.int .i64 0,.int .i64 0,.slice none 0 0,.int .i64 0] 38)
 have HR:=Lib.hid (ubx_new w (.int .i64 0) (.int .i64 0) (.int .i64 0) (.slice none 0 0) (.int .i64 0))
 have B0:=Lib.hid b0
 have hcell:∀ wx,Below w.heap.size w wx→wx.cell? ⟨tb,0,none⟩=some (.pointer (some ⟨pb,0,none⟩))∧wx.cell? ⟨tb,1,none⟩=some (.int .i64 t.rt)∧wx.cell? ⟨tb,2,none⟩=some (.int .i64 ((t.ht:Nat):Int))∧wx.cell? ⟨tb,3,none⟩=some (.int .i64 t.ct)∧wx.cell? ⟨tb,7,none⟩=some (.int .i64 t.ep):=fun wx b=>by
  have hs:=(b.block tb h.lt).trans h.str
  exact ⟨(cell_of_row wx tb 0 _ _ _ hs).trans rfl,(cell_of_row wx tb 1 _ _ _ hs).trans rfl,(cell_of_row wx tb 2 _ _ _ hs).trans rfl,(cell_of_row wx tb 3 _ _ _ hs).trans rfl,(cell_of_row wx tb 7 _ _ _ hs).trans rfl⟩
 have HC:=Lib.hid hcell
 clear b0 h hcell
 unfold atV
 go_enter Tryz.func14,Tryz.ntmps14
 go_upto_region 1 with fail
 generalize w.alloc (.cells #[.int .i64 0,.int .i64 0,.int .i64 0,.slice none 0 0,.int .i64 0] 38)=w0 at *
 go_wp2_with fail
 refine (tmade_yes w0 tb pb (HC.out w0 B0.out).1).mono ?_
 rintro e wx ⟨rfl,hwx⟩
 subst hwx
 go_upto_region 3 with fail
 have BD:=Lib.hid ((Below.refl w0.heap.size w0).drew)
 obtain ⟨c0,c1,c2,c3,c7⟩:=HC.out w0.drew (B0.out.drew)
 obtain ⟨x0,x1,x2,x3,x4⟩:=(HR.out.kept BD.out).cells
 have g0:=(HR.out.kept BD.out).free 0
 have g1:=(HR.out.kept BD.out).free 1
 have g2:=(HR.out.kept BD.out).free 2
 have g3:=(HR.out.kept BD.out).free 3
 have g4:=(HR.out.kept BD.out).free 4
 obtain ⟨u0,u1,u2,u3,u4⟩:=HR.out.cells
 have v0:=HR.out.free 0
 have v1:=HR.out.free 1
 have v2:=HR.out.free 2
 have v3:=HR.out.free 3
 have v4:=HR.out.free 4
 have HX:=Lib.hid ((HR.out.put (.int .i64 t.ep) (.int .i64 t.rt) (.int .i64 ((t.ht:Nat):Int)) (.slice none 0 0) (.int .i64 t.ct)).kept ((Below.refl _ _).drew)).cells
 have HBX:=Lib.hid ((below_put5 B0.out (Nat.le_refl w.heap.size) (.int .i64 t.ep) (.int .i64 t.rt) (.int .i64 ((t.ht:Nat):Int)) (.slice none 0 0) (.int .i64 t.ct)).drew)
 go_region
 all_goals (
  go_wp2_with fail
  obtain ⟨z0,z1,z2,z3,z4⟩:=HX.out
  refine bodyPost_ret (v := .agg #[.int .i64 t.ep,.int .i64 t.rt,.int .i64 ((t.ht:Nat):Int),.slice none 0 0,.int .i64 t.ct]) (by simp [results,Tryz.results14,go_sem,z0,z1,z2,z3,z4]) rfl ?_
  exact ⟨rfl,HBX.out⟩)
theorem tspace_any (w:World) (h:TBox w tb mb pb A n c B m d t) :
 Calls Tryz.prog 18 #[.pointer (some ⟨tb,0,none⟩)] w (SpCop w t.sp):=by
 have b0:=below_one w (.cells #[.int .i64 0,.slice none 0 0,.slice none 0 0] 49)
 have HR:=Lib.hid (box_new w (.int .i64 0) (.slice none 0 0) (.slice none 0 0))
 have B0:=Lib.hid b0
 have hcell:∀ wx,Below w.heap.size w wx→wx.cell? ⟨tb,0,none⟩=some (.pointer (some ⟨pb,0,none⟩))∧wx.cell? ⟨tb,4,none⟩=some (.int .i64 t.sp.hi)∧wx.cell? ⟨tb,5,none⟩=some (.slice A n c)∧wx.cell? ⟨tb,6,none⟩=some (.slice B m d):=fun wx b=>by
  have hs:=(b.block tb h.lt).trans h.str
  exact ⟨(cell_of_row wx tb 0 _ _ _ hs).trans rfl,(cell_of_row wx tb 4 _ _ _ hs).trans rfl,(cell_of_row wx tb 5 _ _ _ hs).trans rfl,(cell_of_row wx tb 6 _ _ _ hs).trans rfl⟩
 have HC:=Lib.hid hcell
 have HS:=Lib.hid (h.sp.kept b0)
 have hf:=h.fit.few
 have hn:n≤4096:=by rw [← h.sp.fl];exact hf.1
 have hm:m≤4096:=by rw [← h.sp.pl];exact hf.2.1
 clear b0 h hcell hf
 go_enter Tryz.func18,Tryz.ntmps18
 go_upto_region 1 with fail
 generalize w.alloc (.cells #[.int .i64 0,.slice none 0 0,.slice none 0 0] 49)=w0 at *
 go_wp2_with fail
 refine (tmade_yes w0 tb pb (HC.out w0 B0.out).1).mono ?_
 rintro e wx ⟨rfl,hwx⟩
 subst hwx
 obtain ⟨c0,c4,c5,c6⟩:=HC.out w0 B0.out
 go_wp2_with fail
 refine (tcopied_any t.sp.hi A n c B m d t.sp w0 rfl HS.out (by omega) (by omega)).mono ?_
 rintro e w1 ⟨v1,rfl,⟨A1,n1,k1,B1,m1,d1,rfl,s1,i1,j1⟩,b1⟩
 have HBX:=Lib.hid (chainN b1 B0.out)
 have hbx:=HR.out.kept b1
 obtain ⟨x0,x1,x2⟩:=hbx.cells
 obtain ⟨g0,g1,g2⟩:=hbx.free
 have HE:=Lib.hid (hbx.put (.int .i64 t.sp.hi) (.slice A1 n1 k1) (.slice B1 m1 d1)).cells
 have hl:=HR.out.lt
 have HD:Hid (SpCop w t.sp (.returned (.agg #[.int .i64 t.sp.hi,.slice A1 n1 k1,.slice B1 m1 d1])) (((w1.setCell ⟨w.heap.size,0,none⟩ (.int .i64 t.sp.hi)).setCell ⟨w.heap.size,1,none⟩ (.slice A1 n1 k1)).setCell ⟨w.heap.size,2,none⟩ (.slice B1 m1 d1))):=Lib.hid
  ⟨_,rfl,⟨A1,n1,k1,B1,m1,d1,rfl,sp_put s1 (fun _ ad e=>by have:=i1 ad e;omega) (fun _ ad e=>by have:=j1 ad e;omega) _ _ _,Hi.low i1 B0.out.size,Hi.low j1 B0.out.size⟩,below_put HBX.out (Nat.le_refl _) _ _ _⟩
 clear hbx c0 c4 c5 c6 s1 i1 j1 b1 hl
 go_wp2_with fail
 obtain ⟨z0,z1,z2⟩:=HE.out
 refine bodyPost_ret (v := .agg #[.int .i64 t.sp.hi,.slice A1 n1 k1,.slice B1 m1 d1]) (by simp [results,Tryz.results18,go_sem,z0,z1,z2]) rfl ?_
 exact HD.out
theorem tnode_live (w:World) (p:Int) (h0:0≤p) (h1:p<t.z) (hl:t.lost=0) (h:Tree W F w tb pb db t) :
 Calls Tryz.prog 29 #[.pointer (some ⟨tb,0,none⟩),.int .i64 p] w (TNode W F w tb pb db (nodeS t p) (nodeE t p) (t.told (nodeE t p))):=by
 have b0:=below_one w (.cells #[.bool false,.slice none 0 0,.slice none 0 0,.slice none 0 0] 68)
 have H:=Lib.hid (h.kept b0)
 have B0:=Lib.hid b0
 have HR:=Lib.hid (nbox_new w (.bool false) (.slice none 0 0) (.slice none 0 0) (.slice none 0 0))
 have NF:Hid (¬ F w.heap.size):=Lib.hid (h.new (Nat.le_refl _))
 have HW:=Lib.hid h.below.size
 clear h b0
 obtain ⟨er,her⟩:∃ er,nodeE t p=er:=⟨_,rfl⟩
 obtain ⟨sr,hsr⟩:∃ sr,nodeS t p=sr:=⟨_,rfl⟩
 rw [her,hsr]
 go_enter Tryz.func29,Tryz.ntmps29
 go_upto_region 1 with fail
 generalize w.alloc (.cells #[.bool false,.slice none 0 0,.slice none 0 0,.slice none 0 0] 68)=w0 at *
 go_wp2_with fail
 refine (refusal_live w0 H.out).mono ?_
 rintro e wx ⟨rfl,hwx⟩
 subst hwx
 rw [hl]
 have RD:=Lib.hid (tread_live w0 p h0 h1 H.out)
 rw [her,hsr] at RD
 clear hl her hsr
 go_wp2_with fail
 refine RD.out.mono ?_
 rintro e w1 ⟨x,F1,rfl,xok,xs,xhi,h1',m1⟩
 obtain ⟨xA,xn,xc,xB,xm,xd,xC,xk,xe,xss⟩:=x
 have b2:=below_one w1 (.cells #[.bool xss.leaf,.slice xA xn xc,.slice xB xm xd,.slice xC xk xe] 68)
 have HN2:=Lib.hid (nbox_new w1 (.bool xss.leaf) (.slice xA xn xc) (.slice xB xm xd) (.slice xC xk xe))
 have H2:=Lib.hid (h1'.kept b2)
 have M2:=Lib.hid (((Moves.of_below B0.out).trans m1).trans (Moves.of_below (F:=F1) b2))
 have HX2:=Lib.hid (xok.kept b2)
 have HXS:=Lib.hid xs
 have HXH:=Lib.hid (xhi.low B0.out.size)
 have HR2:=Lib.hid ((HR.out.moves m1 NF.out).kept b2)
 have NF2:=Lib.hid (m1.not HR.out.lt NF.out)
 have NFN:=Lib.hid (h1'.new (Nat.le_refl w1.heap.size))
 have HNE:Hid (w1.heap.size≠w.heap.size):=Lib.hid (Nat.ne_of_gt (HR.out.moves m1 NF.out).lt)
 clear b2 h1' m1 xok xs xhi RD H HR NF
 unfold NV.val
 dsimp only
 go_upto_region 5 with fail
 generalize hw2:w1.alloc (.cells #[.bool xss.leaf,.slice xA xn xc,.slice xB xm xd,.slice xC xk xe] 68)=w2 at *
 clear hw2
 have BD:=Lib.hid ((Below.refl w2.heap.size w2).drew)
 have K0:=(HN2.out.kept BD.out).cells
 go_region_held3 (fun w'=>w'.cell? ⟨w1.heap.size,0,none⟩=some (.bool xss.leaf)∧w'.cell? ⟨w1.heap.size,1,none⟩=some (.slice xA xn xc)∧w'.cell? ⟨w1.heap.size,2,none⟩=some (.slice xB xm xd)∧w'.cell? ⟨w1.heap.size,3,none⟩=some (.slice xC xk xe))
  (first | with_reducible exact K0 | with_reducible exact K3 | with_reducible exact K9 _ _ _ _)
  (first
    | (go_at_call 50;refine (told_live _ er (H2.out.kept BD.out)).mono ?_;rintro e3 w3 ⟨rfl,F3,h3,m3⟩;have M3:=Lib.hid ((Moves.of_below (F:=F1) BD.out).trans m3);have hn3:=HN2.out.moves M3.out NFN.out;have hr3:=HR2.out.moves M3.out NF2.out;have K3:=hn3.cells;have K9:=fun a b' c' d':Value=>NBox.cells (hn3.but (NBut.put w3 w.heap.size a b' c' d') HNE.out);obtain ⟨x0,x1,x2,x3⟩:=hr3.cells;obtain ⟨g0,g1,g2,g3⟩:=hr3.free;have H3:=Lib.hid h3;have HR3:=Lib.hid hr3;clear hn3 hr3 h3 m3)
    | fail)
 all_goals (
  have HP:=tnode_put (x:=⟨xA,xn,xc,xB,xm,xd,xC,xk,xe,xss⟩) (s:=sr) (er:=er) H3.out (M2.out.trans M3.out) HW.out (Nat.le_refl _) (M3.out.not HR2.out.lt NF2.out) HR3.out (HX2.out.moves M3.out) HXS.out HXH.out rfl
  have HP1:=Lib.hid HP.1
  have HE:=Lib.hid HP.2.cells
  clear HP
  go_wp2_with fail
  obtain ⟨z0,z1,z2,z3⟩:=HE.out
  refine bodyPost_ret (v := .tuple #[.agg #[.bool xss.leaf,.slice xA xn xc,.slice xB xm xd,.slice xC xk xe],.int .i64 er]) (by simp [results,Tryz.results29,go_sem,z0,z1,z2,z3]) rfl ?_
  exact HP1.out)
end
end Go.Proofs.YtccphijgcapeoaaGreat
/-
  What the statements' own did comes to: a tree and the document's entries, side by side. Conditions: none.
-/
namespace Go.Proofs.YtccphijgcapeoaaGreat
open Go.RowKit Go.Maps
def plus (F:Nat→Prop) (g:Nat):Nat→Prop:=fun k=>F k∨k=g
def TCl.step (c:TCl) (es:List TT.E):List TT.E :=
 if c.kind=1 then (if TS.badE c.key.toList c.val.toList then es else TT.putE c.key.toList c.val.toList es) else if c.kind=2 then TT.delE c.key.toList es else es
theorem step_len (c:TCl) (es:List TT.E):(c.step es).length≤es.length+1:=by
 unfold TCl.step
 split
 ·split
  ·omega
  ·rw [TT.put_len]
   split<;>omega
 ·split
  ·rw [TT.del_len]
   split<;>omega
  ·omega
def CBox (w:World) (g:Nat) (k:Int) (x y:ByteArray):Prop:=w.heap[g]?=some (.cells #[.int .i64 k,.string x,.string y] 34 (0,0))
section
variable {w w':World} {F F':Nat→Prop} {g:Nat} {k:Int} {x y:ByteArray}
theorem CBox.lt (h:CBox w g k x y):g<w.heap.size:=(Array.getElem?_eq_some_iff.1 h).1
theorem CBox.kept (h:CBox w g k x y) (hb:Below w.heap.size w w'):CBox w' g k x y:=(hb.block g h.lt).trans h
theorem CBox.moves (h:CBox w g k x y) (m:Moves w F w' F') (hF:¬ F g):CBox w' g k x y:=(m.kept.block g h.lt hF).trans h
theorem CBox.grown {q:Nat} (h:CBox w g k x y) (hg:w.grownBy w' (some q)) (hne:g≠q):CBox w' g k x y:=(hg.block g h.lt (fun e=>hne (Option.some.inj e))).trans h
theorem CBox.cells (h:CBox w g k x y):w.cell? ⟨g,0,none⟩=some (.int .i64 k)∧w.cell? ⟨g,1,none⟩=some (.string x)∧w.cell? ⟨g,2,none⟩=some (.string y) :=
 ⟨(cell_of_row w g 0 _ _ _ h).trans rfl,(cell_of_row w g 1 _ _ _ h).trans rfl,(cell_of_row w g 2 _ _ _ h).trans rfl⟩
theorem cbox_new (w:World) (k:Int) (x y:ByteArray):CBox (w.alloc (.cells #[.int .i64 k,.string x,.string y] 34)) w.heap.size k x y:=heap_alloc_new w _
end
structure PlAt (W:World) (O:List Int) (nd0:Int→Option ND) (tb pb db g:Nat) (F:Nat→Prop) (t:TS) (es:List TT.E) (L:List Int) (w:World):Prop where
 tree:Tree W F w tb pb db t
 map:MAt w F g es
 tr:TT.Tr O nd0 t es L
 base:W.heap.size≤g
section
variable {W w w' w'':World} {F F':Nat→Prop} {tb pb db g:Nat} {t t':TS} {O:List Int} {nd0:Int→Option ND} {es es':List TT.E} {L:List Int}
theorem Moves.plus (m:Moves w F w' F') (g:Nat):Moves w (plus F g) w' (plus F' g) :=
 ⟨m.kept.more (fun _ h=>Or.inl h),fun k hk=>by
  rcases hk with e | e
  ·exact (m.news k e).imp Or.inl id
  ·exact Or.inl (Or.inr e)⟩
theorem moves_grown (hg:w.grownBy w' (some g)):Moves w (plus F g) w' (plus F g) :=
 ⟨⟨hg.os,hg.tape,hg.output,hg.size,fun k h1 h2=>hg.block k h1 (fun e=>h2 (Or.inr (Option.some.inj e)))⟩,fun _ h=>Or.inl h⟩
theorem PlAt.kept (h:PlAt W O nd0 tb pb db g F t es L w) (hb:Below w.heap.size w w'):PlAt W O nd0 tb pb db g F t es L w':=⟨h.tree.kept hb,h.map.kept hb,h.tr,h.base⟩
def DidEnd (W:World) (O:List Int) (nd0:Int→Option ND) (tb pb db g:Nat) (F:Nat→Prop) (z:Nat) (ep:Int) (w:World) (es:List TT.E) (e:Ending) (w':World):Prop :=
 e = .returned (.bool true)∧∃ F' t' L',PlAt W O nd0 tb pb db g F' t' es L' w'∧Moves w (plus F g) w' (plus F' g)∧t'.z=z∧t'.ep=ep
theorem did_put (c:TCl) (w:World) (hk:c.kind=1) (h:PlAt W O nd0 tb pb db g F t es L w) (hz:2*es.length+O.length+30≤t.z) (he:es.length≤511) :
 Calls Tryz.prog 13 #[.pointer (some ⟨tb,0,none⟩),.pointer (some ⟨g,0,none⟩),c.agg] w (DidEnd W O nd0 tb pb db g F t.z t.ep w (c.step es)):=by
 obtain ⟨kd,x,y⟩:=c
 obtain rfl:kd=1:=hk
 unfold TCl.agg TCl.step
 dsimp only
 rw [if_pos rfl]
 have b0:=below_one w (.cells #[.int .i64 1,.string x,.string y] 34)
 have HB0:=Lib.hid (cbox_new w 1 x y)
 have H:=Lib.hid (h.kept b0)
 have B0:=Lib.hid b0
 have NFG:=Lib.hid (h.tree.new (Nat.le_refl w.heap.size))
 have HGL:=Lib.hid h.map.lt
 obtain ⟨t1,L1,e1,tr1,z1,ep1⟩:=h.tr.putOk hz he x.toList y.toList
 have CP:=aPut_live (W:=W) (F:=F) (tb:=tb) (pb:=pb) (db:=db) (t:=t) (w.alloc (.cells #[.int .i64 1,.string x,.string y] 34)).drew x y (fun _ hb=>h.tr.chgPut he hb) ((h.kept b0).kept ((Below.refl _ _).drew)).tree
 rw [e1] at CP
 have HCP:=Lib.hid CP
 have T1:=Lib.hid tr1
 have ZE:=Lib.hid (And.intro z1 ep1)
 have hle:es.length≤500000:=by omega
 clear h b0 CP e1 tr1 z1 ep1 hz he
 obtain ⟨rv,hrv⟩:∃ rv:Int,(if TS.badE x.toList y.toList=true then (120:Int) else 0)=rv:=⟨_,rfl⟩
 obtain ⟨es1,hes1⟩:∃ es1,(if TS.badE x.toList y.toList=true then es else TT.putE x.toList y.toList es)=es1:=⟨_,rfl⟩
 rw [hrv] at HCP
 rw [hes1] at T1 ⊢
 have HRV:=Lib.hid hrv
 have HES:=Lib.hid hes1
 clear hrv hes1
 go_enter Tryz.func13,Tryz.ntmps13
 go_upto_region 1 with fail
 generalize hw0:w.alloc (.cells #[.int .i64 1,.string x,.string y] 34)=w0 at *
 have c0:=HB0.out.cells.1
 go_upto_region 3 with fail
 clear c0 hw0
 have BD:=Lib.hid ((Below.refl w0.heap.size w0).drew)
 have HD0:=Lib.hid (HB0.out.kept BD.out)
 go_region_held3 (fun w'=>w'.cell? ⟨w.heap.size,1,none⟩=some (.string x)∧w'.cell? ⟨w.heap.size,2,none⟩=some (.string y))
  (first | exact HD0.out.cells.2 | exact HD1.out.cells.2 | exact HD2.out.cells.2)
  (first
    | (go_at_call 21;refine HCP.out.mono ?_;rintro e1 w1 ⟨rfl,F1,h1,m1⟩;have H1:=Lib.hid h1;have M1:=Lib.hid m1;have MP1:=Lib.hid ((H.out.map.kept BD.out).moves m1);have HD1:=Lib.hid (HD0.out.moves m1 NFG.out);clear h1 m1)
    | (go_at_call 22;refine (mput_any w1 x y MP1.out H1.out.lt hle).mono ?_;rintro e2 w2 ⟨rfl,g2,mp2⟩;rw [HRV.out];rw [HES.out] at mp2;have G2:=Lib.hid g2;have MP2:=Lib.hid mp2;have HD2:=Lib.hid (HD1.out.grown g2 (Nat.ne_of_gt HGL.out));clear g2 mp2)
    | fail)
 all_goals (
  have HX:Hid (DidEnd W O nd0 tb pb db g F t.z t.ep w es1 (.returned (.bool true)) w2):=Lib.hid (by
   refine ⟨rfl,F1,t1,L1,⟨H1.out.grown G2.out (fun k e=>by obtain rfl:=Option.some.inj e;exact ⟨MP1.out.out,H.out.base⟩),MP2.out,T1.out,H.out.base⟩,?_,ZE.out.1,ZE.out.2⟩
   exact (Moves.of_below (F:=plus F g) (chainN BD.out B0.out)).trans ((M1.out.plus g).trans (moves_grown G2.out)))
  go_wp2_with fail
  go_ret
  simpa using HX.out)
theorem did_del (c:TCl) (w:World) (hk:c.kind=2) (h:PlAt W O nd0 tb pb db g F t es L w) (hz:2*es.length+O.length+30≤t.z) (he:es.length≤511) :
 Calls Tryz.prog 13 #[.pointer (some ⟨tb,0,none⟩),.pointer (some ⟨g,0,none⟩),c.agg] w (DidEnd W O nd0 tb pb db g F t.z t.ep w (c.step es)):=by
 obtain ⟨kd,x,y⟩:=c
 obtain rfl:kd=2:=hk
 unfold TCl.agg TCl.step
 dsimp only
 rw [if_neg (by decide),if_pos rfl]
 have b0:=below_one w (.cells #[.int .i64 2,.string x,.string y] 34)
 have HB0:=Lib.hid (cbox_new w 2 x y)
 have H:=Lib.hid (h.kept b0)
 have B0:=Lib.hid b0
 have NFG:=Lib.hid (h.tree.new (Nat.le_refl w.heap.size))
 have HGL:=Lib.hid h.map.lt
 obtain ⟨t1,L1,e1,tr1,z1,ep1⟩:=h.tr.delOk hz he x.toList
 have CP:=aDel_live (W:=W) (F:=F) (tb:=tb) (pb:=pb) (db:=db) (t:=t) (w.alloc (.cells #[.int .i64 2,.string x,.string y] 34)) x (fun _=>h.tr.chgDel he _) (h.kept b0).tree
 rw [e1] at CP
 have HCP:=Lib.hid CP
 have T1:=Lib.hid tr1
 have ZE:=Lib.hid (And.intro z1 ep1)
 have hle:es.length≤500000:=by omega
 clear h b0 CP e1 tr1 z1 ep1 hz he
 obtain ⟨es1,hes1⟩:∃ es1,TT.delE x.toList es=es1:=⟨_,rfl⟩
 have MD:=Lib.hid (fun (wx:World) (Fx:Nat→Prop) (hm:MAt wx Fx g es) (hF:∀ k,Fx k→k<wx.heap.size)=>mdel_any wx x hm hF hle)
 rw [hes1] at T1 MD ⊢
 obtain ⟨is,his⟩:∃ is,TT.isE x.toList es=is:=⟨_,rfl⟩
 rw [his] at HCP MD
 clear hes1 his
 go_enter Tryz.func13,Tryz.ntmps13
 go_upto_region 1 with fail
 generalize hw0:w.alloc (.cells #[.int .i64 2,.string x,.string y] 34)=w0 at *
 clear hw0
 obtain ⟨c0,c1,_⟩:=HB0.out.cells
 go_wp2_with fail
 refine HCP.out.mono ?_
 rintro e1 w1 ⟨rfl,F1,h1,m1⟩
 have H1:=Lib.hid h1
 have M1:=Lib.hid m1
 have MP1:=Lib.hid (H.out.map.moves m1)
 have HD1:=Lib.hid (HB0.out.moves m1 NFG.out)
 clear h1 m1 c0 c1 HB0
 obtain ⟨_,c1,_⟩:=HD1.out.cells
 go_wp2_with fail
 refine (MD.out w1 F1 MP1.out H1.out.lt).mono ?_
 rintro e2 w2 ⟨rfl,g2,mp2⟩
 have HX:Hid (DidEnd W O nd0 tb pb db g F t.z t.ep w es1 (.returned (.bool true)) w2):=Lib.hid (by
  refine ⟨rfl,F1,t1,L1,⟨H1.out.grown g2 (fun k e=>by obtain rfl:=Option.some.inj e;exact ⟨MP1.out.out,H.out.base⟩),mp2,T1.out,H.out.base⟩,?_,ZE.out.1,ZE.out.2⟩
  exact (Moves.of_below (F:=plus F g) B0.out).trans ((M1.out.plus g).trans (moves_grown g2)))
 clear g2 mp2
 cases is with
 | true =>
   go_wp2_with fail
   go_ret
   exact HX.out
 | false =>
   go_wp2_with fail
   go_ret
   exact HX.out
theorem did_get (c:TCl) (w:World) (hk:c.kind=3) (h:PlAt W O nd0 tb pb db g F t es L w) (he:es.length≤511) :
 Calls Tryz.prog 13 #[.pointer (some ⟨tb,0,none⟩),.pointer (some ⟨g,0,none⟩),c.agg] w (DidEnd W O nd0 tb pb db g F t.z t.ep w (c.step es)):=by
 obtain ⟨kd,x,y⟩:=c
 obtain rfl:kd=3:=hk
 unfold TCl.agg TCl.step
 dsimp only
 rw [if_neg (by decide),if_neg (by decide)]
 have b0:=below_one w (.cells #[.int .i64 3,.string x,.string y] 34)
 have HB0:=Lib.hid (cbox_new w 3 x y)
 have H:=Lib.hid (h.kept b0)
 have B0:=Lib.hid b0
 have NFG:=Lib.hid (h.tree.new (Nat.le_refl w.heap.size))
 have HGL:=Lib.hid h.map.lt
 have hl:=h.tr.low he
 have CP:=aGet_live (W:=W) (F:=F) (tb:=tb) (pb:=pb) (db:=db) (t:=t) (w.alloc (.cells #[.int .i64 3,.string x,.string y] 34)) x (h.tr.wayIn _) (by omega) (h.kept b0).tree
 rw [h.tr.get] at CP
 unfold TGot at CP
 dsimp only at CP
 have HCP:=Lib.hid CP
 have T1:=Lib.hid h.tr
 have hle:es.length≤1000000:=by omega
 clear h b0 CP he hl
 obtain ⟨gv,hgv⟩:∃ gv,Go.Proofs.YtccphijgcapeoaaGreat.tb (TT.getE x.toList es)=gv:=⟨_,rfl⟩
 obtain ⟨is,his⟩:∃ is,TT.isE x.toList es=is:=⟨_,rfl⟩
 have MD:Hid (∀ (wx:World) (Fx:Nat→Prop),MAt wx Fx g es→Calls Tryz.prog 27 #[.pointer (some ⟨g,0,none⟩),.string x] wx fun e w'=>e = .returned (.tuple #[.string gv,.bool is])∧Below wx.heap.size wx w'):=Lib.hid (fun wx Fx ⟨A,n,c,hm⟩=>by
  have:=mget_any wx x hm.box hm.ln.ln (by rw [← hm.ln.ln.entN];exact hle)
  unfold MGot at this
  rw [hgv,his] at this
  exact this)
 rw [hgv,his] at HCP
 clear hgv his
 go_enter Tryz.func13,Tryz.ntmps13
 go_upto_region 1 with fail
 generalize hw0:w.alloc (.cells #[.int .i64 3,.string x,.string y] 34)=w0 at *
 clear hw0
 obtain ⟨c0,c1,_⟩:=HB0.out.cells
 go_wp2_with fail
 refine HCP.out.mono ?_
 rintro e1 w1 ⟨rfl,F1,h1,m1⟩
 have H1:=Lib.hid h1
 have M1:=Lib.hid m1
 have MP1:=Lib.hid (H.out.map.moves m1)
 have HD1:=Lib.hid (HB0.out.moves m1 NFG.out)
 clear h1 m1 c0 c1 HB0
 obtain ⟨_,c1,_⟩:=HD1.out.cells
 go_wp2_with fail
 refine (MD.out w1 F1 MP1.out).mono ?_
 rintro e2 w2 ⟨rfl,b2⟩
 have HX:Hid (DidEnd W O nd0 tb pb db g F t.z t.ep w es (.returned (.bool true)) w2):=Lib.hid (by
  refine ⟨rfl,F1,t,L,⟨H1.out.kept b2,MP1.out.kept b2,T1.out,H.out.base⟩,?_,rfl,rfl⟩
  exact (Moves.of_below (F:=plus F g) B0.out).trans ((M1.out.plus g).trans (Moves.of_below b2)))
 clear b2 c1
 cases is with
 | true =>
   go_wp2_with fail
   go_ret
   simpa using HX.out
 | false =>
   go_wp2_with fail
   go_ret
   simpa using HX.out
theorem did_none (c:TCl) (w:World) (h1:¬ c.kind=1) (h2:¬ c.kind=2) (h3:¬ c.kind=3) (h:PlAt W O nd0 tb pb db g F t es L w) :
 Calls Tryz.prog 13 #[.pointer (some ⟨tb,0,none⟩),.pointer (some ⟨g,0,none⟩),c.agg] w (DidEnd W O nd0 tb pb db g F t.z t.ep w (c.step es)):=by
 obtain ⟨kd,x,y⟩:=c
 dsimp only at h1 h2 h3
 unfold TCl.agg TCl.step
 dsimp only
 rw [if_neg h1,if_neg h2]
 have b0:=below_one w (.cells #[.int .i64 kd,.string x,.string y] 34)
 have HX:Hid (DidEnd W O nd0 tb pb db g F t.z t.ep w es (.returned (.bool true)) (w.alloc (.cells #[.int .i64 kd,.string x,.string y] 34))):=Lib.hid ⟨rfl,F,t,L,h.kept b0,Moves.of_below b0,rfl,rfl⟩
 have HB0:=Lib.hid (cbox_new w kd x y)
 have g1:(kd==1)=false:=beq_eq_false_iff_ne.2 h1
 have g2:(kd==2)=false:=beq_eq_false_iff_ne.2 h2
 have g3:(kd==3)=false:=beq_eq_false_iff_ne.2 h3
 clear h b0 h1 h2 h3
 go_enter Tryz.func13,Tryz.ntmps13
 go_upto_region 1 with fail
 generalize w.alloc (.cells #[.int .i64 kd,.string x,.string y] 34)=w0 at *
 obtain ⟨c0,_,_⟩:=HB0.out.cells
 go_wp2_with fail
 go_ret
 exact HX.out
theorem did_live (c:TCl) (w:World) (h:PlAt W O nd0 tb pb db g F t es L w) (hz:2*es.length+O.length+30≤t.z) (he:es.length≤511) :
 Calls Tryz.prog 13 #[.pointer (some ⟨tb,0,none⟩),.pointer (some ⟨g,0,none⟩),c.agg] w (DidEnd W O nd0 tb pb db g F t.z t.ep w (c.step es)):=by
 by_cases h1:c.kind=1
 ·exact did_put c w h1 h hz he
 by_cases h2:c.kind=2
 ·exact did_del c w h2 h hz he
 by_cases h3:c.kind=3
 ·exact did_get c w h3 h he
 exact did_none c w h1 h2 h3 h
end
end Go.Proofs.YtccphijgcapeoaaGreat
/-
  What the statements' own Grown comes to: a script laid into a tree, and into the document's entries. Conditions: none.
-/
namespace Go.Proofs.YtccphijgcapeoaaGreat
open Go.RowKit Go.Maps
def GrEnd (W:World) (O:List Int) (nd0:Int→Option ND) (tb pb db g:Nat) (F:Nat→Prop) (z:Nat) (ep:Int) (w:World) (a:Nat) (e:Ending) (w':World):Prop :=
 e = .returned (.bool true)∧∃ F' t' es' L',PlAt W O nd0 tb pb db g F' t' es' L' w'∧Moves w (plus F g) w' (plus F' g)∧t'.z=z∧t'.ep=ep∧es'.length≤a
def GrR (W:World) (O:List Int) (nd0:Int→Option ND) (tb pb db g:Nat) (F:Nat→Prop) (z:Nat) (ep:Int) (w:World) (a:Nat) (w':World):Prop :=
 ∃ F' t' es' L',PlAt W O nd0 tb pb db g F' t' es' L' w'∧Moves w (plus F g) w' (plus F' g)∧t'.z=z∧t'.ep=ep∧es'.length≤a
section
variable {W w w' w'':World} {F F':Nat→Prop} {tb pb db g:Nat} {t t':TS} {O:List Int} {nd0:Int→Option ND} {es es':List TT.E} {L:List Int} {z a:Nat} {ep:Int}
theorem GrR.kept (h:GrR W O nd0 tb pb db g F z ep w a w') (hb:Below w'.heap.size w' w''):GrR W O nd0 tb pb db g F z ep w a w'':=by
 obtain ⟨F',t',es',L',h1,h2,h3⟩:=h
 exact ⟨F',t',es',L',h1.kept hb,h2.trans (Moves.of_below hb),h3⟩
theorem GrR.up {b:Nat} (h:GrR W O nd0 tb pb db g F z ep w a w') (hb:a≤b):GrR W O nd0 tb pb db g F z ep w b w':=by
 obtain ⟨F',t',es',L',h1,h2,h3,h4,h5⟩:=h
 exact ⟨F',t',es',L',h1,h2,h3,h4,by omega⟩
theorem GrR.below (h:GrR W O nd0 tb pb db g F z ep w a w'):Below W.heap.size W w':=by
 obtain ⟨F',t',es',L',h1,_⟩:=h
 exact h1.tree.below
theorem grown_live (w:World) (A:Option Addr) (n c most:Nat) (l:List TCl) (hl:l.length=n) (hs:TScript W W.heap.size A l) (hn:n≤maxLen) (h:PlAt W O nd0 tb pb db g F t es L w) (ha:es.length≤a) (hz:2*(a+most)+O.length+30≤t.z) (hb:a+most≤511) :
 Calls Tryz.prog 15 #[.pointer (some ⟨tb,0,none⟩),.pointer (some ⟨g,0,none⟩),.slice A n c,.int .i64 ((most:Nat):Int)] w (GrEnd W O nd0 tb pb db g F t.z t.ep w (a+most)):=by
 have HS:=Lib.hid hs
 have HL:=Lib.hid hl
 have hn2:n≤9223372036854775807:=by unfold maxLen at hn;omega
 have HZ:=Lib.hid hz
 have HR:Hid (GrR W O nd0 tb pb db g F t.z t.ep w (a+0) w):=Lib.hid ⟨F,t,es,L,h,Moves.of_below (Below.refl _ _),rfl,rfl,ha⟩
 clear hs hl hn h ha hz
 go_enter Tryz.func15,Tryz.ntmps15
 go_wp2_with fail
 go_loopw [9] (fun i wr=>∃ j:Nat,j≤n∧j≤most∧i = .int .i64 j∧Hid (GrR W O nd0 tb pb db g F t.z t.ep w (a+j) wr)) (fun i _=>n - (RowKit.intOf i).toNat)
 case atStart=>exact ⟨0,Nat.zero_le _,Nat.zero_le _,rfl,HR⟩
 case round =>
  obtain ⟨j,hj,hj2,rfl,hrel⟩:=hrel
  have HRR:=hrel
  clear hrel HR
  by_cases hgo:j<n∧j<most
  ·obtain ⟨q1,q2⟩:=hgo
   have hbel:=HRR.out.below
   obtain ⟨b,off,cl,rfl,hbl,hcl,_,d0,d1,d2⟩:=(HS.out.below hbel).at_ (k:=j) (by rw [HL.out];exact q1)
   obtain ⟨kd,x,y⟩:=cl
   have HSM:=Lib.hid (fun (wx:World)=>tsmall_any ⟨kd,x,y⟩ wx)
   have HCL:=Lib.hid hcl
   unfold TCl.agg at HSM
   clear hbel hbl hcl
   dsimp only at d0 d1 d2
   go_wp2_with fail
   refine (HSM.out _).mono ?_
   rintro e w4 ⟨rfl,b4⟩
   have HR4:=Lib.hid (HRR.out.kept b4)
   clear b4 d0 d1 d2 HSM HRR
   have hbel:=HR4.out.below
   obtain ⟨_,off2,c2,e2,_,hc2,_,d0,d1,d2⟩:=(HS.out.below hbel).at_ (k:=j) (by rw [HL.out];exact q1)
   injection e2 with e2
   injection e2 with e3 e4 e5
   subst e3 e4
   obtain rfl:TCl.mk kd x y=c2:=Option.some.inj (HCL.out.symm.trans hc2)
   clear e5 hbel hc2
   dsimp only at d0 d1 d2
   cases hsm:TCl.small ⟨kd,x,y⟩ with
   | false =>
     clear hsm
     go_wp2_with fail
     go_roundw
     case rel=>exact ⟨j+1,by omega,by omega,by go_num,Lib.hid (HR4.out.up (by omega))⟩
     case measure=>simp [RowKit.intOf];omega
   | true =>
     clear hsm
     by_cases hk3:kd=3
     ·subst hk3
      go_wp2_with fail
      go_roundw
      case rel=>exact ⟨j+1,by omega,by omega,by go_num,Lib.hid (HR4.out.up (by omega))⟩
      case measure=>simp [RowKit.intOf];omega
     ·have hk:(kd==3)=false:=beq_eq_false_iff_ne.2 hk3
      obtain ⟨F4,t4,es4,L4,h4,m4,z4,p4,l4⟩:=HR4.out
      have hlen:=step_len ⟨kd,x,y⟩ es4
      have DL:=Lib.hid (did_live ⟨kd,x,y⟩ w4 h4 (by rw [z4];have:=HZ.out;omega) (by omega))
      have HLE:Hid ((TCl.step ⟨kd,x,y⟩ es4).length≤a+(j+1)):=Lib.hid (by omega)
      have M4:=Lib.hid m4
      rw [z4,p4] at DL
      obtain ⟨es1,hes1⟩:∃ es1,TCl.step ⟨kd,x,y⟩ es4=es1:=⟨_,rfl⟩
      rw [hes1] at DL HLE
      unfold TCl.agg at DL
      clear hk3 h4 m4 z4 p4 l4 hlen hes1 HR4
      go_wp2_with fail
      refine DL.out.mono ?_
      rintro e w5 ⟨rfl,F5,t5,L5,h5,m5,z5,p5⟩
      have HR5:Hid (GrR W O nd0 tb pb db g F t.z t.ep w (a+(j+1)) w5):=Lib.hid ⟨F5,t5,es1,L5,h5,M4.out.trans m5,z5,p5,HLE.out⟩
      clear h5 m5 z5 p5 d0 d1 d2 DL
      go_wp2_with fail
      go_roundw
      case rel=>exact ⟨j+1,by omega,by omega,by go_num,HR5⟩
      case measure=>simp [RowKit.intOf];omega
  ·have hcase:(n≤j)∨(j<n∧most≤j):=by omega
   have HE:=Lib.hid (HRR.out.up (b:=a+most) (by omega))
   clear hgo HRR
   rcases hcase with hx | ⟨hx,hy⟩
   all_goals
    go_wp2_with fail
    go_ret
    exact ⟨rfl,HE.out⟩
end
end Go.Proofs.YtccphijgcapeoaaGreat
