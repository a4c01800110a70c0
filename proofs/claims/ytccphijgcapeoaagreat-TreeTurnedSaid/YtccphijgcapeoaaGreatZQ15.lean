/-
  A part of the proof: what its texts say stands at the head of each. Conditions: none.
-/
import Derived.Deep.RegionWith
import Derived.Deep.RegionLaw
import Derived.Deep.Cut
import Derived.Deep.DeepCutAuto
import Derived.Deep.RegionHeld3
import Derived.BigRegion
import Derived.Test.YtccphijgcapeoaaGreatZQ3
import Derived.Test.YtccphijgcapeoaaGreatZQ6
import Derived.Test.YtccphijgcapeoaaGreatZQ7
import Derived.Test.YtccphijgcapeoaaGreatZQ10
import Derived.Test.YtccphijgcapeoaaGreatZQ11
import Derived.Test.YtccphijgcapeoaaGreatZQ12
import Derived.Test.YtccphijgcapeoaaGreatZQ13
import Derived.Test.YtccphijgcapeoaaGreatZQ14

set_option maxRecDepth 20000
set_option maxHeartbeats 12800000
/-
  What Put, Delete and Copy of the document's entries in order come to (package tailraceref12). Conditions: none.
-/
namespace Go.Proofs.YtccphijgcapeoaaGreat
open Go.RowKit Go.Maps
structure MIs (w:World) (F:Nat→Prop) (g:Nat) (A:Option Addr) (n c:Nat) (es:List TT.E):Prop where
 box:MBox w g A n c
 ln:LnO w F 2 A n c (entVals es)
 out:¬ F g
 ne:0<n→∀ ad,A=some ad→ad.block≠g
def MAt (w:World) (F:Nat→Prop) (g:Nat) (es:List TT.E):Prop:=∃ A n c,MIs w F g A n c es
def dropE (A:Option Addr) (c k:Nat):Option Addr:=if c=k then A else A.map (·.add (k*2))
section
variable {w w':World} {F F':Nat→Prop} {A:Option Addr} {g n c:Nat} {es:List TT.E}
theorem MIs.moves (h:MIs w F g A n c es) (m:Moves w F w' F'):MIs w' F' g A n c es:=by
 refine ⟨(m.kept.block g h.box.lt h.out).trans h.box,h.ln.moves (by omega) m,fun e=>?_,h.ne⟩
 rcases m.news g e with e | e
 ·exact h.out e
 ·have:=h.box.lt
  omega
theorem MIs.kept (h:MIs w F g A n c es) (hb:Below w.heap.size w w'):MIs w' F g A n c es:=⟨h.box.kept hb,h.ln.kept hb,h.out,h.ne⟩
theorem MAt.moves (h:MAt w F g es) (m:Moves w F w' F'):MAt w' F' g es:=by
 obtain ⟨A,n,c,h⟩:=h
 exact ⟨A,n,c,h.moves m⟩
theorem MAt.kept (h:MAt w F g es) (hb:Below w.heap.size w w'):MAt w' F g es:=by
 obtain ⟨A,n,c,h⟩:=h
 exact ⟨A,n,c,h.kept hb⟩
theorem MAt.lt (h:MAt w F g es):g<w.heap.size:=by
 obtain ⟨A,n,c,h⟩:=h
 exact h.box.lt
theorem MAt.out (h:MAt w F g es):¬ F g:=by
 obtain ⟨A,n,c,h⟩:=h
 exact h.out
theorem grown_of {k:Nat} (hb:Below w.heap.size w w') (v:Value):w.grownBy (w'.setCell ⟨k,0,none⟩ v) (some k) :=
 ⟨hb.os,hb.tape,hb.output,by simpa [World.setCell] using hb.size,fun j hj hne=>(Below.heap_setCell _ _ _ _ (fun e=>hne (by rw [e]))).trans (hb.block j hj)⟩
theorem MIs.set {w1:World} {A':Option Addr} {N c':Nat} {es':List TT.E} (h:MIs w F g A n c es) (hF:∀ k,F k→k<w.heap.size) (hb:Below w.heap.size w w1)
 (o:w1.ownsRow w.heap.size 41 2 (.slice A' N c') N (entVals es')):w.grownBy (w1.setCell ⟨g,0,none⟩ (.slice A' N c')) (some g)∧MAt (w1.setCell ⟨g,0,none⟩ (.slice A' N c')) F g es':=by
 have hlt:=h.box.lt
 have hh:=NHi.of_own o
 obtain ⟨A2,c2,e,_,l⟩:=Ln.of_own o
 injection e with e1 e2 e3
 subst e1 e3
 refine ⟨grown_of hb _,A',N,c',?_,⟨l.moved (by omega) (fun _ ad e=>Below.heap_setCell _ _ _ _ (fun e2=>?_)),fun _ ad e e2=>?_⟩,h.out,fun _ ad e e2=>?_⟩
 ·unfold MBox
  rw [Joins.block_setCell (h.box.kept hb)]
  rfl
 ·have:=hh ad e
  have e3:ad.block=g:=e2
  omega
 ·have:=hh ad e
  have:=hF _ e2
  omega
 ·have:=hh ad e
  omega
theorem ln_dropE {cs:List Value} (h:Ln w 2 A n c cs) {k:Nat} (hk:k≤n):Ln w 2 (dropE A c k) (n - k) (c - k) (cs.drop (k*2)):=by
 have hle:=h.le
 have hlen:=h.len
 rcases A with _ | ad
 ·obtain ⟨rfl,rfl⟩:=h.lies.1 rfl
  obtain rfl:k=0:=by omega
  simpa [dropE] using h
 ·by_cases hn0:n=k
  ·subst hn0
   have e:cs.drop (n*2)=[]:=List.drop_of_length_le (by omega)
   rw [e,Nat.sub_self]
   refine ⟨by simp,Nat.zero_le _,fun e=>?_,fun ad _ j u hu=>by simp at hu⟩
   unfold dropE at e
   split at e<;>simp at e
  ·have hc:¬ c=k:=by omega
   obtain ⟨b,off,e,_⟩:=h.spot (by omega)
   obtain rfl:=Option.some.inj e
   have:=h.drop hk
   unfold dropE
   rw [if_neg hc,Option.map_some,addr_add]
   exact this
theorem lnE_drop (h:Ln w 2 A n c (entVals es)) {k:Nat} (hk:k≤n):Ln w 2 (dropE A c k) (n - k) (c - k) (entVals (es.drop k)):=by
 have:=ln_dropE h hk
 rwa [entVals_drop] at this
theorem lnE_take (h:Ln w 2 A n c (entVals es)) {k:Nat} (hk:k≤n):Ln w 2 A k c (entVals (es.take k)):=by
 have:=h.take hk
 rwa [entVals_take] at this
end
theorem sz_E:∀ w,(sizeOf (Tryz.prog.elem 29)).run Tryz.prog w = .ok 2 w:=fun w=>by kernel_rfl
theorem from_E {n c k:Nat} (A:Option Addr) (hk:k≤n) (w:World):(Instr.slice 29 (.slice A n c) (some (.int .i64 (k:Int))) none none).run Tryz.prog w = .ok (.slice (dropE A c k) (n - k) (c - k)) w:=by
 rw [run_slice_l (P:=Tryz.prog) (w:=w) _ A n c Tryz.underlying29 .i64 (k:Int) (by omega) (by omega),sz_E]
 simp [Result.andThen,sliced,dropE]
theorem from_E1 {n c k:Nat} (A:Option Addr) (hk:k+1≤n) (w:World):(Instr.slice 29 (.slice A n c) (some (.int .i64 ((k:Int)+1))) none none).run Tryz.prog w = .ok (.slice (dropE A c (k+1)) (n - (k+1)) (c - (k+1))) w:=from_E A hk w
theorem upto_E {n c k:Nat} (A:Option Addr) (hk:k≤n) (hc:n≤c) (w:World):(Instr.slice 29 (.slice A n c) none (some (.int .i64 (k:Int))) none).run Tryz.prog w = .ok (.slice A k c) w:=by
 rw [run_slice_h (P:=Tryz.prog) (w:=w) _ A n c Tryz.underlying29 .i64 (k:Int) (by omega) (by omega),sz_E]
 by_cases h0:c=0
 ·subst h0
  simp [Result.andThen,sliced]
 ·simp [Result.andThen,sliced,h0]
  cases A with
  | none=>rfl
  | some ad =>
    obtain ⟨b,off,sp⟩:=ad
    cases sp<;>simp [Addr.add]
theorem entInfo:(Tryz.prog.info? 41).map (fun i=>(i.zero,i.size,i.bytes))=some (some (.agg #[.string ⟨#[]⟩,.string ⟨#[]⟩]),2,32):=by kernel_rfl
theorem ent_new (w:World) (x y:ByteArray):Lies (w.alloc (.cells #[.string x,.string y] 41)) (some ⟨w.heap.size,0,none⟩) 1 1 (entVals [(x.toList,y.toList)]):=by
 refine ⟨fun e=>(by cases e),fun ad e j u hu=>?_⟩
 obtain rfl:=Option.some.inj e
 have h:entVals [(x.toList,y.toList)]=[.string x,.string y]:=by simp [entVals,tb_back]
 rw [h] at hu
 have:=cells_newE w #[.string x,.string y] 41 j u hu
 exact this
where
 cells_newE (w:World) (cs:Array Value) (ty:TypeId):∀ j u,cs.toList[j]?=some u→(w.alloc (.cells cs ty)).cell? ((⟨w.heap.size,0,none⟩:Addr).add j)=some u:=fun j u hu=>by
  rw [addr_add,Nat.zero_add]
  refine (cell_of_row _ w.heap.size j _ _ _ (heap_alloc_new w _)).trans ?_
  simpa using hu
theorem wpList_from {P:Program} (w:World) {ops:Array Oper} {rest:List Oper} {o:Oper} {a:Act} {Q:Exit→Act→World→Prop} (hgd:o.guard=none) (t:TypeId) (ht:P.underlying t=some (.slice (P.elem t))) (s l:Operand) (ho:o.op = .slice t s (some l) none none) (vs vl v':Value) (hs:a.eval s=vs) (hl:a.eval l=vl)
 (hr:(Instr.slice t vs (some vl) none none).run P w = .ok v' w) (h:wpList P ops Q rest (a.put o.dst v') w):wpList P ops Q (o::rest) a w:=by
 refine wpList_plain hgd fun K hK=>?_
 unfold Oper.wp execOp
 simp only [ho,Option.map_some,Option.map_none,hs,hl,Sem.run_bind,run_sliceAt_slice (h:=ht),hr,Result.andThen_ok,Sem.run_pure]
 exact hK _ _ h
theorem wpList_upto {P:Program} (w:World) {ops:Array Oper} {rest:List Oper} {o:Oper} {a:Act} {Q:Exit→Act→World→Prop} (hgd:o.guard=none) (t:TypeId) (ht:P.underlying t=some (.slice (P.elem t))) (s l:Operand) (ho:o.op = .slice t s none (some l) none) (vs vl v':Value) (hs:a.eval s=vs) (hl:a.eval l=vl)
 (hr:(Instr.slice t vs none (some vl) none).run P w = .ok v' w) (h:wpList P ops Q rest (a.put o.dst v') w):wpList P ops Q (o::rest) a w:=by
 refine wpList_plain hgd fun K hK=>?_
 unfold Oper.wp execOp
 simp only [ho,Option.map_some,Option.map_none,hs,hl,Sem.run_bind,run_sliceAt_slice (h:=ht),hr,Result.andThen_ok,Sem.run_pure]
 exact hK _ _ h
def MDid (w:World) (F:Nat→Prop) (g:Nat) (v:Value) (es:List TT.E) (e:Ending) (w':World):Prop:=e = .returned v∧w.grownBy w' (some g)∧MAt w' F g es
theorem badE_no {x y:ByteArray} (h:TS.badE x.toList y.toList=false):¬ x.size<1∧¬ 120<x.size∧¬ 100<y.size:=by
 unfold TS.badE at h
 rw [toList_length,toList_length] at h
 simp only [Bool.or_eq_false_iff,decide_eq_false_iff_not] at h
 exact ⟨h.1,h.2.1,h.2.2⟩
theorem badE_yes {x y:ByteArray} (h:TS.badE x.toList y.toList=true):x.size<1∨(¬ x.size<1∧120<x.size)∨(¬ x.size<1∧¬ 120<x.size∧100<y.size):=by
 unfold TS.badE at h
 rw [toList_length,toList_length] at h
 simp only [Bool.or_eq_true,decide_eq_true_eq] at h
 omega
section
variable {w w':World} {F F':Nat→Prop} {A:Option Addr} {g n c:Nat} {es:List TT.E}
theorem mput_any (w:World) (x y:ByteArray) (hm:MAt w F g es) (hF:∀ k,F k→k<w.heap.size) (hn:es.length≤500000) :
 Calls Tryz.prog 22 #[.pointer (some ⟨g,0,none⟩),.string x,.string y] w (MDid w F g (.int .i64 (if TS.badE x.toList y.toList then 120 else 0)) (if TS.badE x.toList y.toList then es else TT.putE x.toList y.toList es)):=by
 obtain ⟨A,n,c,hm⟩:=hm
 have HM:=Lib.hid hm
 have HF:=Lib.hid hF
 have HE:=Lib.hid hm.ln.ln.entN
 have hn2:n≤500000:=by rw [← hm.ln.ln.entN];exact hn
 have HX:Hid (MDid w F g (.int .i64 120) es (.returned (.int .i64 120)) w):=Lib.hid ⟨rfl,World.grownBy.refl _ _,A,n,c,hm⟩
 clear hm hF hn
 obtain ⟨i0,hi,hz0,hz1,hz2⟩:=info_parts entInfo
 cases hbad:TS.badE x.toList y.toList with
 | true =>
   rw [if_pos rfl,if_pos rfl]
   rcases badE_yes hbad with h1 | ⟨h1,h2⟩ | ⟨h1,h2,h3⟩
   ·go_enter Tryz.func22,Tryz.ntmps22
    go_wp2_with fail
    go_ret
    exact HX.out
   ·go_enter Tryz.func22,Tryz.ntmps22
    go_wp2_with fail
    go_ret
    exact HX.out
   ·go_enter Tryz.func22,Tryz.ntmps22
    go_wp2_with fail
    go_ret
    exact HX.out
 | false =>
   rw [if_neg (by decide),if_neg (by decide)]
   obtain ⟨h1,h2,h3⟩:=badE_no hbad
   clear hbad HX
   obtain ⟨es',hes⟩:∃ es',TT.putE x.toList y.toList es=es':=⟨_,rfl⟩
   rw [hes]
   have HES:=Lib.hid hes
   clear hes
   have hle:=TT.place_le (key:=x.toList) (es:=es)
   rw [HE.out] at hle
   go_enter Tryz.func22,Tryz.ntmps22
   go_wp2_with fail
   refine (mplace_any w x HM.out.box HM.out.ln.ln (by omega)).mono ?_
   rintro e w1 ⟨rfl,b1⟩
   have B1:=Lib.hid b1
   have HM1:=Lib.hid (HM.out.kept b1)
   clear b1
   have c0:=HM1.out.box.cell
   have hnc:=HM1.out.ln.ln.le
   have HLT:=Lib.hid (fun k hk=>lnE_take (k:=k) HM1.out.ln.ln hk)
   have HLD:=Lib.hid (fun k hk=>lnE_drop (k:=k) HM1.out.ln.ln hk)
   have HNE:=Lib.hid HM1.out.box.lt
   have BE:=Lib.hid (below_one w1 (.cells #[] 41))
   have OE:Hid ((w1.alloc (.cells #[] 41)).ownsRow w1.heap.size 41 2 (.slice (some ⟨w1.heap.size,0,none⟩) 0 0) 0 []):=Lib.hid (own_empty (empty_new w1 _) (Nat.le_refl _))
   have hc1:(w1.alloc (.cells #[] 41)).cell? ⟨g,0,none⟩=some (.slice A n c):=(HM1.out.box.kept BE.out).cell
   cases his:TT.isE x.toList es with
   | true =>
     have hlt:=TT.isE_lt his
     rw [HE.out] at hlt
     have HV:Hid (entVals (es.take (TT.placeE x.toList es))++entVals [(x.toList,y.toList)]++entVals ((es.drop (TT.placeE x.toList es)).drop 1)=entVals es'):=Lib.hid (by
      rw [← HES.out]
      unfold TT.putE ND.rep
      rw [his,if_pos rfl,← entVals_append,← entVals_append,List.drop_drop])
     clear his
     generalize TT.placeE x.toList es=k at *
     have HU:=fun w=>upto_E (n:=n) (c:=c) (k:=k) A hle hnc w
     have HD:=fun w=>from_E (n:=n) (c:=c) (k:=k) A hle w
     have HD1:∀ w,(Instr.slice 29 (.slice (dropE A c k) (n - k) (c - k)) (some (.int .i64 1)) none none).run Tryz.prog w = .ok (.slice (dropE (dropE A c k) (c - k) 1) (n - k - 1) (c - k - 1)) w:=fun w=>from_E (k:=1) (dropE A c k) (by omega) w
     have HL1:=Lib.hid (lnE_drop (HLD.out k hle) (k:=1) (by omega))
     have hz:∀ k',(Value.slice (some ⟨w1.heap.size,0,none⟩) 0 0).ownBlock=some k'→w1.heap.size≤k':=fun k' e'=>(OE.out.lt k' e').1
     have HZ:=Lib.hid hz
     clear hz
     go_wp2_with (first
      | (refine wpList_from _ rfl 29 Tryz.underlying29 (.tmp 32) (.tmp 33) rfl (.slice A n c) (.int .i64 (k:Int)) _ rfl rfl (HD _) ?_)
      | (refine wpList_from _ rfl 29 Tryz.underlying29 (.tmp 36) (.const (.int .i64 1)) rfl (.slice (dropE A c k) (n - k) (c - k)) (.int .i64 1) _ rfl rfl (HD1 _) ?_)
      | (refine wpList_upto _ rfl 29 Tryz.underlying29 (.tmp 43) (.tmp 44) rfl (.slice A n c) (.int .i64 (k:Int)) _ rfl rfl (HU _) ?_)
      | (at_builtin;refine wpList_append_lay _ rfl (.tmp 39) (.tmp 45) 29 rfl w1.heap.size 41 i0 _ 2 32 Tryz.underlying29 hi hz0 hz1 hz2 rfl (by decide) _ 0 [] rfl OE.out A k c (entVals (es.take k)) rfl (HLT.out k (by omega)).len ((HLT.out k (by omega)).lies.kept BE.out) (entVals_one _) (by unfold maxLen;omega) (by omega) BE.out.size ?_;intro v8 w8 o8 g8;rw [List.nil_append,Nat.zero_add] at o8;have b8:=Below.grown (B:=w1.heap.size) (a:=w1) BE.out g8 BE.out.size HZ.out;have BX:=Lib.hid (chainN (below_one w8 (.cells #[.string x,.string y] 41)) b8);have O8:=Lib.hid (row_below o8 (below_one w8 (.cells #[.string x,.string y] 41)));clear o8 g8 b8)
      | (at_builtin;refine wpList_append_lay _ rfl (.tmp 46) (.tmp 50) 29 rfl w1.heap.size 41 i0 _ 2 32 Tryz.underlying29 hi hz0 hz1 hz2 rfl (by decide) _ _ _ rfl O8.out _ 1 1 (entVals [(x.toList,y.toList)]) rfl rfl (ent_new w8 x y) (entVals_one _) (by unfold maxLen;omega) (by omega) BX.out.size ?_;intro v9 w9 o9 g9;have B9:=Lib.hid (own_grown_hi (B:=w1.heap.size) (a:=w1) BX.out BX.out.size O8.out (Nat.le_refl _) g9);have O9:=Lib.hid o9;clear o9 g9)
      | (at_builtin;refine wpList_append_lay _ rfl (.tmp 51) (.tmp 52) 29 rfl w1.heap.size 41 i0 _ 2 32 Tryz.underlying29 hi hz0 hz1 hz2 rfl (by decide) _ _ _ rfl O9.out (dropE (dropE A c k) (c - k) 1) (n - k - 1) (c - k - 1) (entVals ((es.drop k).drop 1)) rfl HL1.out.len (HL1.out.lies.kept B9.out) (entVals_one _) (by unfold maxLen;omega) (by omega) B9.out.size ?_;intro v10 w10 o10 g10;rw [HV.out] at o10;obtain ⟨A',c',rfl⟩:=shape_own o10;have B10:=own_grown_hi B9.out B9.out.size O9.out (Nat.le_refl _) g10;have HS:=Lib.hid (HM.out.set HF.out (chainN B10 B1.out) (row_base o10 B1.out.size));have x0:=(HM1.out.box.kept B10).cell;have x1:=(HM1.out.box.kept B10).free;clear o10 g10 B10)
      | fail)
     go_ret
     exact ⟨rfl,HS.out.1,HS.out.2⟩
   | false =>
     have HV:Hid (entVals (es.take (TT.placeE x.toList es))++entVals [(x.toList,y.toList)]++entVals (es.drop (TT.placeE x.toList es))=entVals es'):=Lib.hid (by
      rw [← HES.out]
      unfold TT.putE ND.rep
      rw [his,if_neg (by decide),← entVals_append,← entVals_append])
     clear his
     generalize TT.placeE x.toList es=k at *
     have HU:=fun w=>upto_E (n:=n) (c:=c) (k:=k) A hle hnc w
     have HD:=fun w=>from_E (n:=n) (c:=c) (k:=k) A hle w
     have HL1:=Lib.hid (HLD.out k hle)
     have hz:∀ k',(Value.slice (some ⟨w1.heap.size,0,none⟩) 0 0).ownBlock=some k'→w1.heap.size≤k':=fun k' e'=>(OE.out.lt k' e').1
     have HZ:=Lib.hid hz
     clear hz
     go_wp2_with (first
      | (refine wpList_from _ rfl 29 Tryz.underlying29 (.tmp 32) (.tmp 33) rfl (.slice A n c) (.int .i64 (k:Int)) _ rfl rfl (HD _) ?_)
      | (refine wpList_upto _ rfl 29 Tryz.underlying29 (.tmp 43) (.tmp 44) rfl (.slice A n c) (.int .i64 (k:Int)) _ rfl rfl (HU _) ?_)
      | (at_builtin;refine wpList_append_lay _ rfl (.tmp 39) (.tmp 45) 29 rfl w1.heap.size 41 i0 _ 2 32 Tryz.underlying29 hi hz0 hz1 hz2 rfl (by decide) _ 0 [] rfl OE.out A k c (entVals (es.take k)) rfl (HLT.out k (by omega)).len ((HLT.out k (by omega)).lies.kept BE.out) (entVals_one _) (by unfold maxLen;omega) (by omega) BE.out.size ?_;intro v8 w8 o8 g8;rw [List.nil_append,Nat.zero_add] at o8;have b8:=Below.grown (B:=w1.heap.size) (a:=w1) BE.out g8 BE.out.size HZ.out;have BX:=Lib.hid (chainN (below_one w8 (.cells #[.string x,.string y] 41)) b8);have O8:=Lib.hid (row_below o8 (below_one w8 (.cells #[.string x,.string y] 41)));clear o8 g8 b8)
      | (at_builtin;refine wpList_append_lay _ rfl (.tmp 46) (.tmp 50) 29 rfl w1.heap.size 41 i0 _ 2 32 Tryz.underlying29 hi hz0 hz1 hz2 rfl (by decide) _ _ _ rfl O8.out _ 1 1 (entVals [(x.toList,y.toList)]) rfl rfl (ent_new w8 x y) (entVals_one _) (by unfold maxLen;omega) (by omega) BX.out.size ?_;intro v9 w9 o9 g9;have B9:=Lib.hid (own_grown_hi (B:=w1.heap.size) (a:=w1) BX.out BX.out.size O8.out (Nat.le_refl _) g9);have O9:=Lib.hid o9;clear o9 g9)
      | (at_builtin;refine wpList_append_lay _ rfl (.tmp 51) (.tmp 52) 29 rfl w1.heap.size 41 i0 _ 2 32 Tryz.underlying29 hi hz0 hz1 hz2 rfl (by decide) _ _ _ rfl O9.out (dropE A c k) (n - k) (c - k) (entVals (es.drop k)) rfl HL1.out.len (HL1.out.lies.kept B9.out) (entVals_one _) (by unfold maxLen;omega) (by omega) B9.out.size ?_;intro v10 w10 o10 g10;rw [HV.out] at o10;obtain ⟨A',c',rfl⟩:=shape_own o10;have B10:=own_grown_hi B9.out B9.out.size O9.out (Nat.le_refl _) g10;have HS:=Lib.hid (HM.out.set HF.out (chainN B10 B1.out) (row_base o10 B1.out.size));have x0:=(HM1.out.box.kept B10).cell;have x1:=(HM1.out.box.kept B10).free;clear o10 g10 B10)
      | fail)
     go_ret
     exact ⟨rfl,HS.out.1,HS.out.2⟩
theorem mdel_any (w:World) (x:ByteArray) (hm:MAt w F g es) (hF:∀ k,F k→k<w.heap.size) (hn:es.length≤500000) :
 Calls Tryz.prog 34 #[.pointer (some ⟨g,0,none⟩),.string x] w (MDid w F g (.bool (TT.isE x.toList es)) (TT.delE x.toList es)):=by
 obtain ⟨A,n,c,hm⟩:=hm
 have HM:=Lib.hid hm
 have HF:=Lib.hid hF
 have HE:=Lib.hid hm.ln.ln.entN
 have hn2:n≤500000:=by rw [← hm.ln.ln.entN];exact hn
 clear hm hF hn
 obtain ⟨i0,hi,hz0,hz1,hz2⟩:=info_parts entInfo
 obtain ⟨es',hes⟩:∃ es',TT.delE x.toList es=es':=⟨_,rfl⟩
 rw [hes]
 have HES:=Lib.hid hes
 clear hes
 have hle:=TT.place_le (key:=x.toList) (es:=es)
 rw [HE.out] at hle
 go_enter Tryz.func34,Tryz.ntmps34
 go_wp2_with fail
 refine (mplace_any w x HM.out.box HM.out.ln.ln (by omega)).mono ?_
 rintro e w1 ⟨rfl,b1⟩
 have B1:=Lib.hid b1
 have HM1:=Lib.hid (HM.out.kept b1)
 clear b1
 cases his:TT.isE x.toList es with
 | false =>
   have HX:Hid (MDid w F g (.bool (TT.isE x.toList es)) es' (.returned (.bool false)) w1):=Lib.hid (by
    rw [his,← HES.out]
    unfold TT.delE
    rw [his]
    have hg:w.grownBy w1 (some g):=⟨B1.out.os,B1.out.tape,B1.out.output,B1.out.size,fun k hk _=>B1.out.block k hk⟩
    exact ⟨rfl,hg,A,n,c,HM1.out⟩)
   have HI:=Lib.hid his
   clear his
   go_wp2_with fail
   go_ret
   rw [HI.out] at HX ⊢
   exact HX.out
 | true =>
   have c0:=HM1.out.box.cell
   have f0:=HM1.out.box.free
   have hnc:=HM1.out.ln.ln.le
   have HLT:=Lib.hid (fun k hk=>lnE_take (k:=k) HM1.out.ln.ln hk)
   have HLD:=Lib.hid (fun k hk=>lnE_drop (k:=k) HM1.out.ln.ln hk)
   have HNE:=Lib.hid HM1.out.box.lt
   have BE:=Lib.hid ((below_one w1 (.cells #[] 41)).drew)
   have OE:Hid (((w1.alloc (.cells #[] 41)).drew).ownsRow w1.heap.size 41 2 (.slice (some ⟨w1.heap.size,0,none⟩) 0 0) 0 []):=Lib.hid (own_empty (empty_new w1 _) (Nat.le_refl _))
   have hc1:((w1.alloc (.cells #[] 41)).drew).cell? ⟨g,0,none⟩=some (.slice A n c):=(HM1.out.box.kept BE.out).cell
   have hc2:(w1.drew).cell? ⟨g,0,none⟩=some (.slice A n c):=c0
   have hlt:=TT.isE_lt his
   rw [HE.out] at hlt
   have HV:Hid (entVals (es.take (TT.placeE x.toList es))++entVals (es.drop (TT.placeE x.toList es+1))=entVals es'):=Lib.hid (by
    rw [← HES.out]
    unfold TT.delE ND.rep
    rw [his,if_pos rfl,← entVals_append,List.append_nil])
   have HI:=Lib.hid his
   clear his
   generalize TT.placeE x.toList es=k at *
   have HU:=fun w=>upto_E (n:=n) (c:=c) (k:=k) A hle hnc w
   have HD:=fun w=>from_E1 (n:=n) (c:=c) (k:=k) A hlt w
   have HW:IntKind.i64.wrap ((k:Int)+1)=(k:Int)+1:=IntWalk.i64_in _ (by omega)
   have HZ:Hid (∀ k',(Value.slice (some ⟨w1.heap.size,0,none⟩) 0 0).ownBlock=some k'→w1.heap.size≤k'):=Lib.hid (fun k' e'=>(OE.out.lt k' e').1)
   have HN:Hid (k+(n - (k+1))≤500000):=Lib.hid (by omega)
   go_upto_region 3 with fail
   go_region_law
    (first
      | (refine step_append_ls _ (by rfl) _ _ _ (by rfl) w1.heap.size 41 i0 _ 2 32 Tryz.underlying29 hi hz0 hz1 hz2 rfl (by omega) _ 0 _ [] (by rfl) OE.out A k c (entVals (es.take k)) (by rfl) ((HLT.out k (by omega)).kept BE.out) (entVals_one _) (by unfold maxLen;omega) (by omega) BE.out.size ?_;intro A1 c1 w2 o2 g2;rw [List.nil_append] at o2;rw [Nat.zero_add] at o2 ⊢;have B2:=Lib.hid (Below.grown (B:=w1.heap.size) (a:=w1) BE.out g2 BE.out.size HZ.out);have y0:=(HM1.out.box.kept B2.out).cell;have O2:=Lib.hid o2;clear o2 g2)
      | (refine step_append_ls _ (by rfl) _ _ _ (by rfl) w1.heap.size 41 i0 _ 2 32 Tryz.underlying29 hi hz0 hz1 hz2 rfl (by omega) _ k _ (entVals (es.take k)) (by rfl) O2.out (dropE A c (k+1)) (n - (k+1)) (c - (k+1)) (entVals (es.drop (k+1))) (by rfl) ((HLD.out (k+1) (by omega)).kept B2.out) (entVals_one _) (by have:=HN.out;unfold maxLen;omega) (by have:=HN.out;omega) B2.out.size ?_;intro A3 c3 w3 o3 g3;rw [HV.out] at o3;have B3:=own_grown_hi B2.out B2.out.size O2.out (Nat.le_refl _) g3;have HS:=Lib.hid (HM.out.set HF.out (chainN B3 B1.out) (row_base o3 B1.out.size));have z0:=(HM1.out.box.kept B3).cell;have z1:=(HM1.out.box.kept B3).free;clear o3 g3 B3)
      | fail)
   all_goals (
    go_wp2_with fail
    go_ret
    rw [HI.out]
    exact ⟨rfl,HS.out.1,HS.out.2⟩)
theorem mat_new {A:Option Addr} {n c:Nat} (h:Ln w 2 A n c (entVals es)) (hF:∀ k,F k→k<w.heap.size) (ho:0<n→∀ ad,A=some ad→¬ F ad.block):MAt (w.alloc (.cells #[.slice A n c] 31)) F w.heap.size es:=by
 refine ⟨A,n,c,heap_alloc_new w _,⟨h.kept (below_one w _),ho⟩,fun e=>?_,fun hn ad e e2=>?_⟩
 ·have:=hF _ e
  omega
 ·have:=h.lt (by omega) e
  have e3:ad.block=w.heap.size:=e2
  omega
end
end Go.Proofs.YtccphijgcapeoaaGreat
/-
  What the tree's Put and Delete come to. Conditions: none.
-/
namespace Go.Proofs.YtccphijgcapeoaaGreat
open Go.RowKit Go.Maps
section
variable {W w w':World} {F F':Nat→Prop} {tb pb db:Nat} {t t':TS}
theorem kbox_new (w:World) (s:ByteArray):KBox (w.alloc (.cells #[.string s] 9)) w.heap.size s:=heap_alloc_new w _
theorem bbox_new (w:World) (v:Bool):BBox (w.alloc (.cells #[.bool v] 4)) w.heap.size v:=heap_alloc_new w _
structure ChgPre (t:TS) (key:List UInt8) (fn:ND→ND):Prop where
 way:TS.wayIn t.nd key t.z t.ht t.rt
 ht:t.ht≤999
 climb:∀ l,t.way key=some l→ClimbPre t l.length l.reverse (fn (TS.last l))
 ct:(t.change key fn).1=0→0≤(t.change key fn).2.ct∧(t.change key fn).2.ct≤1000000000
theorem hasK_of {key:List UInt8} {l:List TS.St} (h:t.way key=some l):t.hasK key=ND.isAt key (TS.last l).keys:=by unfold TS.hasK;rw [h]
theorem way_of {key:List UInt8} {fn:ND→ND} (h:(t.change key fn).1=0):∃ l,t.way key=some l:=by
 unfold TS.change at h
 cases hw:t.way key with
 | none=>rw [hw] at h;exact absurd h (show ¬ (121:Int)=0 by decide)
 | some l=>exact ⟨l,rfl⟩
def TDone (W:World) (F:Nat→Prop) (w:World) (tb pb db:Nat) (v:Value) (t':TS) (e:Ending) (w':World):Prop:=e = .returned v∧TGoes W F w tb pb db t' w'
theorem aPut_live (w:World) (key val:ByteArray) (hp:t.lost=0→TS.badE key.toList val.toList=false→ChgPre t key.toList (fun n=>n.put key.toList val.toList)) (h:Tree W F w tb pb db t) :
 Calls Tryz.prog 21 #[.pointer (some ⟨tb,0,none⟩),.string key,.string val] w (TDone W F w tb pb db (.int .i64 (t.put key.toList val.toList).1) (t.put key.toList val.toList).2):=by
 have h0:=(kbox_new w key).kept (below_one _ (.cells #[.string val] 9))
 have h1:=kbox_new (w.alloc (.cells #[.string key] 9)) val
 have b2:=below_two w (.cells #[.string key] 9) (.cells #[.string val] 9)
 rw [show (w.alloc (.cells #[.string key] 9)).heap.size=w.heap.size+1 by simp] at h1
 have hws:((w.alloc (.cells #[.string key] 9)).alloc (.cells #[.string val] 9)).heap.size=w.heap.size+2:=by simp
 have HKB:=Lib.hid h0
 have HVB:=Lib.hid h1
 have B0:=Lib.hid b2
 have H0:=Lib.hid h
 have H:=Lib.hid (h.kept b2)
 have HP:=Lib.hid hp
 have HW:=Lib.hid h.below.size
 have HWS:=Lib.hid hws
 obtain ⟨r,hr⟩:∃ r,t.put key.toList val.toList=r:=⟨_,rfl⟩
 rw [hr]
 have HR:=Lib.hid hr
 clear h hp h0 h1 b2 hr hws
 go_enter Tryz.func21,Tryz.ntmps21
 go_upto_region 1 with fail
 generalize (w.alloc (.cells #[.string key] 9)).alloc (.cells #[.string val] 9)=w1 at *
 go_wp2_with fail
 refine (refusal_live w1 H.out).mono ?_
 rintro e wx ⟨rfl,hwx⟩
 subst hwx
 by_cases hl:t.lost=0
 ·have HL:=Lib.hid hl
  rw [hl]
  clear hl
  have ck:=HKB.out.cell
  have cv:=HVB.out.cell
  cases hbad:TS.badE key.toList val.toList with
  | true =>
    have HX:Hid (TDone W F w tb pb db (.int .i64 r.1) r.2 (.returned (.int .i64 120)) w1):=Lib.hid (by
     rw [← HR.out]
     unfold TS.put
     rw [if_neg (by rw [HL.out];decide),hbad,if_pos rfl]
     exact ⟨rfl,TGoes.of_below H0.out B0.out⟩)
    rcases badE_yes hbad with g1 | ⟨g1,g2⟩ | ⟨g1,g2,g3⟩
    ·clear hbad
     go_wp2_with fail
     go_ret
     exact HX.out
    ·clear hbad
     go_wp2_with fail
     go_ret
     exact HX.out
    ·clear hbad
     go_wp2_with fail
     go_ret
     exact HX.out
  | false =>
    obtain ⟨g1,g2,g3⟩:=badE_no hbad
    have PRE:=Lib.hid (HP.out HL.out hbad)
    have HPU:Hid (r=if (t.change key.toList (fun n=>n.put key.toList val.toList)).1=0 then (0,{ (t.change key.toList (fun n=>n.put key.toList val.toList)).2 with ct:=if t.hasK key.toList then (t.change key.toList (fun n=>n.put key.toList val.toList)).2.ct else (t.change key.toList (fun n=>n.put key.toList val.toList)).2.ct+1 })
     else ((t.change key.toList (fun n=>n.put key.toList val.toList)).1,(t.change key.toList (fun n=>n.put key.toList val.toList)).2.told (t.change key.toList (fun n=>n.put key.toList val.toList)).1)):=Lib.hid (by
     rw [← HR.out]
     unfold TS.put
     rw [if_neg (by rw [HL.out];decide),hbad,if_neg (by decide)])
    clear hbad HR HP
    have b3:=below_one w1 (.cells #[.bool false] 4)
    have HK3:=Lib.hid (HKB.out.kept b3)
    have HV3:=Lib.hid (HVB.out.kept b3)
    have HB3:=Lib.hid (bbox_new w1 false)
    have H3:=Lib.hid (H.out.kept b3)
    have B3:=Lib.hid (chainN b3 B0.out)
    have HN3:=Lib.hid (H.out.new (Nat.le_refl w1.heap.size))
    have HNK:=Lib.hid (H0.out.new (Nat.le_refl w.heap.size))
    have HNV:=Lib.hid (H0.out.new (Nat.le_succ w.heap.size))
    have ck3:=HK3.out.cell
    clear b3 HKB HVB H
    go_upto_region 8 with fail
    clear ck cv
    rw [HWS.out] at HB3 HN3 ⊢
    generalize w1.alloc (.cells #[.bool false] 4)=w3 at *
    have CH:=change_live w w3 F 46 (w.heap.size+2) #[.pointer (some ⟨w.heap.size,0,none⟩),.pointer (some ⟨w.heap.size+2,0,none⟩),.pointer (some ⟨w.heap.size+1,0,none⟩)] (fun n=>n.put key.toList val.toList) (fun n=>ND.isAt key.toList n.keys) key
     (enters_of Tryz.func46 (by kernel_rfl) rfl) H3.out (Moves.of_below B3.out) HW.out (by omega) HB3.out.lt HN3.out PRE.out.way PRE.out.ht PRE.out.climb
     (fun wx Fx x l hT hM hx hl he=>by
       obtain ⟨q1,_,q3,q4,q5,q6⟩:=H3.out.wayOk PRE.out.way hl
       obtain ⟨q7,q8,_⟩:=q1 q3 (List.mem_of_getLast? q4)
       have hxl:x.s.leaf=true:=by rw [he,q6];exact q5
       have hxo:x.s.ok=true:=by rw [he,q6];exact q7
       have hxz:x.s.size≤1000:=by rw [he,q6];exact q8
       exact putF_any wx x key val w.heap.size (w.heap.size+1) (w.heap.size+2) false hT.lt hx hxl hxo hxz (HK3.out.moves hM HNK.out) (HV3.out.moves hM HNV.out) (HB3.out.moves hM HN3.out) (by omega) (by omega))
    have HC:=Lib.hid CH
    clear CH
    obtain ⟨rc,hrc⟩:∃ rc,t.change key.toList (fun n=>n.put key.toList val.toList)=rc:=⟨_,rfl⟩
    have HW9:Hid (rc.1=0→(t.way key.toList).map (fun l=>ND.isAt key.toList (TS.last l).keys)=some (t.hasK key.toList)):=Lib.hid (fun h=>by
     rw [← hrc] at h
     obtain ⟨l,hl⟩:=way_of h
     rw [hl,hasK_of hl]
     rfl)
    have HCT:Hid (rc.1=0→0≤rc.2.ct∧rc.2.ct≤1000000000):=Lib.hid (by rw [← hrc];exact PRE.out.ct)
    rw [hrc] at HC HPU
    clear hrc PRE HK3 HV3 HB3
    go_wp2_with fail
    refine HC.out.mono ?_
    rintro e w4 ⟨rfl,F4,h4,m4,n4,q4⟩
    have H4:=Lib.hid h4
    have M4:=Lib.hid m4
    by_cases he:rc.1=0
    ·have hb4:=q4 _ (HW9.out he)
     have HBB:=Lib.hid hb4
     have hct:=HCT.out he
     have HRE:Hid (r=(0,{ rc.2 with ct:=if t.hasK key.toList then rc.2.ct else rc.2.ct+1 })):=Lib.hid (by rw [HPU.out,if_pos he])
     rw [he]
     clear h4 m4 n4 q4 he HPU HC HW9 ck3
     obtain ⟨_,_,c3,_,_,f3⟩:=H4.out.cells3
     have cb:=hb4.cell
     clear hb4
     cases hk:t.hasK key.toList with
     | true =>
       rw [hk] at cb
       have HX:Hid (TDone W F w tb pb db (.int .i64 r.1) r.2 (.returned (.int .i64 0)) w4):=Lib.hid (by
        rw [HRE.out,hk,if_pos rfl]
        exact ⟨rfl,F4,H4.out,M4.out⟩)
       clear hk
       go_wp2_with fail
       go_ret
       exact HX.out
     | false =>
       rw [hk] at cb
       obtain ⟨F5,h5,m5⟩:=H4.out.setCt (rc.2.ct+1)
       have HX:Hid (TDone W F w tb pb db (.int .i64 r.1) r.2 (.returned (.int .i64 0)) (w4.setCell ⟨tb,3,none⟩ (.int .i64 (rc.2.ct+1)))):=Lib.hid (by
        rw [HRE.out,hk,if_neg (by decide)]
        exact ⟨rfl,F5,h5,M4.out.trans m5⟩)
       obtain ⟨ct,hcte⟩:∃ ct,rc.2.ct=ct:=⟨_,rfl⟩
       rw [hcte] at hct c3 HX
       clear HRE
       clear hk h5 m5 hcte
       have hw1:wrap64 (ct+1)=ct+1:=IntWalk.wrap64_in _ (by omega)
       go_wp2_with fail
       go_ret
       exact HX.out
    ·have hb:(rc.1 != 0)=true:=bne_iff_ne.2 he
     have HRE:Hid (r=(rc.1,rc.2.told rc.1)):=Lib.hid (by rw [HPU.out,if_neg he])
     clear h4 m4 n4 q4 he HPU HC HW9 ck3 HCT
     go_wp2_with fail
     refine (told_live w4 rc.1 H4.out).mono ?_
     rintro e w5 ⟨rfl,F5,h5,m5⟩
     have HX:Hid (TDone W F w tb pb db (.int .i64 r.1) r.2 (.returned (.int .i64 rc.1)) w5):=Lib.hid (by rw [HRE.out];exact ⟨rfl,F5,h5,M4.out.trans m5⟩)
     clear h5 m5
     go_wp2_with fail
     go_ret
     exact HX.out
 ·have hb:(t.lost != 0)=true:=bne_iff_ne.2 hl
  have HX:Hid (TDone W F w tb pb db (.int .i64 r.1) r.2 (.returned (.int .i64 t.lost)) w1):=Lib.hid (by
   rw [← HR.out]
   unfold TS.put
   rw [if_pos hl]
   exact ⟨rfl,TGoes.of_below H0.out B0.out⟩)
  clear hl
  go_wp2_with fail
  go_ret
  exact HX.out
theorem aDel_live (w:World) (key:ByteArray) (hp:t.lost=0→ChgPre t key.toList (fun n=>n.remove key.toList)) (h:Tree W F w tb pb db t) :
 Calls Tryz.prog 28 #[.pointer (some ⟨tb,0,none⟩),.string key] w (TDone W F w tb pb db (.tuple #[.bool (t.del key.toList).1,.int .i64 (t.del key.toList).2.1]) (t.del key.toList).2.2):=by
 have h0:=kbox_new w key
 have b2:=below_one w (.cells #[.string key] 9)
 have hws:(w.alloc (.cells #[.string key] 9)).heap.size=w.heap.size+1:=by simp
 have HKB:=Lib.hid h0
 have B0:=Lib.hid b2
 have H0:=Lib.hid h
 have H:=Lib.hid (h.kept b2)
 have HP:=Lib.hid hp
 have HW:=Lib.hid h.below.size
 have HWS:=Lib.hid hws
 obtain ⟨r,hr⟩:∃ r,t.del key.toList=r:=⟨_,rfl⟩
 rw [hr]
 have HR:=Lib.hid hr
 clear h hp h0 b2 hr hws
 go_enter Tryz.func28,Tryz.ntmps28
 go_upto_region 1 with fail
 generalize w.alloc (.cells #[.string key] 9)=w1 at *
 go_wp2_with fail
 refine (refusal_live w1 H.out).mono ?_
 rintro e wx ⟨rfl,hwx⟩
 subst hwx
 by_cases hl:t.lost=0
 ·have HL:=Lib.hid hl
  have PRE:=Lib.hid (HP.out hl)
  rw [hl]
  clear hl HP
  have HPU:Hid (r=if (t.change key.toList (fun n=>n.remove key.toList)).1=0 then (t.hasK key.toList,0,{ (t.change key.toList (fun n=>n.remove key.toList)).2 with ct:=if t.hasK key.toList then (t.change key.toList (fun n=>n.remove key.toList)).2.ct - 1 else (t.change key.toList (fun n=>n.remove key.toList)).2.ct })
   else (false,(t.change key.toList (fun n=>n.remove key.toList)).1,(t.change key.toList (fun n=>n.remove key.toList)).2.told (t.change key.toList (fun n=>n.remove key.toList)).1)):=Lib.hid (by
   rw [← HR.out]
   unfold TS.del
   rw [if_neg (by rw [HL.out];decide)])
  clear HR
  have b3:=below_one w1 (.cells #[.bool false] 4)
  have HK3:=Lib.hid (HKB.out.kept b3)
  have HB3:=Lib.hid (bbox_new w1 false)
  have H3:=Lib.hid (H.out.kept b3)
  have B3:=Lib.hid (chainN b3 B0.out)
  have HN3:=Lib.hid (H.out.new (Nat.le_refl w1.heap.size))
  have HNK:=Lib.hid (H0.out.new (Nat.le_refl w.heap.size))
  have ck3:=HK3.out.cell
  clear b3 HKB H
  go_upto_region 6 with fail
  rw [HWS.out] at HB3 HN3 ⊢
  generalize w1.alloc (.cells #[.bool false] 4)=w3 at *
  have CH:=change_live w w3 F 56 (w.heap.size+1) #[.pointer (some ⟨w.heap.size,0,none⟩),.pointer (some ⟨w.heap.size+1,0,none⟩)] (fun n=>n.remove key.toList) (fun n=>ND.isAt key.toList n.keys) key
   (enters_of Tryz.func56 (by kernel_rfl) rfl) H3.out (Moves.of_below B3.out) HW.out (by omega) HB3.out.lt HN3.out PRE.out.way PRE.out.ht PRE.out.climb
   (fun wx Fx x l hT hM hx hl he=>by
     obtain ⟨q1,_,q3,q4,q5,q6⟩:=H3.out.wayOk PRE.out.way hl
     obtain ⟨q7,q8,_⟩:=q1 q3 (List.mem_of_getLast? q4)
     have hxl:x.s.leaf=true:=by rw [he,q6];exact q5
     have hxo:x.s.ok=true:=by rw [he,q6];exact q7
     have hxz:x.s.size≤1000:=by rw [he,q6];exact q8
     exact delF_any wx x key w.heap.size (w.heap.size+1) false hT.lt hx hxl hxo hxz (HK3.out.moves hM HNK.out) (HB3.out.moves hM HN3.out) (by omega))
  have HC:=Lib.hid CH
  clear CH
  obtain ⟨rc,hrc⟩:∃ rc,t.change key.toList (fun n=>n.remove key.toList)=rc:=⟨_,rfl⟩
  have HW9:Hid (rc.1=0→(t.way key.toList).map (fun l=>ND.isAt key.toList (TS.last l).keys)=some (t.hasK key.toList)):=Lib.hid (fun h=>by
   rw [← hrc] at h
   obtain ⟨l,hl⟩:=way_of h
   rw [hl,hasK_of hl]
   rfl)
  have HCT:Hid (rc.1=0→0≤rc.2.ct∧rc.2.ct≤1000000000):=Lib.hid (by rw [← hrc];exact PRE.out.ct)
  rw [hrc] at HC HPU
  clear hrc PRE HK3 HB3
  go_wp2_with fail
  refine HC.out.mono ?_
  rintro e w4 ⟨rfl,F4,h4,m4,n4,q4⟩
  have H4:=Lib.hid h4
  have M4:=Lib.hid m4
  by_cases he:rc.1=0
  ·have hb4:=q4 _ (HW9.out he)
   have HBB:=Lib.hid hb4
   have HN4:=Lib.hid n4
   have hct:=HCT.out he
   have HRE:Hid (r=(t.hasK key.toList,0,{ rc.2 with ct:=if t.hasK key.toList then rc.2.ct - 1 else rc.2.ct })):=Lib.hid (by rw [HPU.out,if_pos he])
   rw [he]
   clear h4 m4 n4 q4 he HPU HC HW9 ck3
   obtain ⟨_,_,c3,_,_,f3⟩:=H4.out.cells3
   have cb:=hb4.cell
   clear hb4
   cases hk:t.hasK key.toList with
   | false =>
     rw [hk] at cb
     have HX:Hid (TDone W F w tb pb db (.tuple #[.bool r.1,.int .i64 r.2.1]) r.2.2 (.returned (.tuple #[.bool false,.int .i64 0])) w4):=Lib.hid (by
      rw [HRE.out,hk,if_neg (by decide)]
      exact ⟨rfl,F4,H4.out,M4.out⟩)
     clear hk
     go_wp2_with fail
     refine bodyPost_ret (v := .tuple #[.bool false,.int .i64 0]) (by simp [results,Tryz.results28,go_sem]) rfl ?_
     exact HX.out
   | true =>
     rw [hk] at cb
     obtain ⟨F5,h5,m5⟩:=H4.out.setCt (rc.2.ct - 1)
     have HX:Hid (TDone W F w tb pb db (.tuple #[.bool r.1,.int .i64 r.2.1]) r.2.2 (.returned (.tuple #[.bool true,.int .i64 0])) (w4.setCell ⟨tb,3,none⟩ (.int .i64 (rc.2.ct - 1)))):=Lib.hid (by
      rw [HRE.out,hk,if_pos rfl]
      exact ⟨rfl,F5,h5,M4.out.trans m5⟩)
     have cb5:(w4.setCell ⟨tb,3,none⟩ (.int .i64 (rc.2.ct - 1))).cell? ⟨w.heap.size+1,0,none⟩=some (.bool true):=by
      have:=(HBB.out.moves m5 HN4.out).cell
      rwa [hk] at this
     obtain ⟨ct,hcte⟩:∃ ct,rc.2.ct=ct:=⟨_,rfl⟩
     rw [hcte] at hct c3 HX cb5
     clear HRE
     clear hk h5 m5 hcte
     have hw1:wrap64 (ct - 1)=ct - 1:=IntWalk.wrap64_in _ (by omega)
     go_wp2_with fail
     refine bodyPost_ret (v := .tuple #[.bool true,.int .i64 0]) (by simp [results,Tryz.results28,go_sem]) rfl ?_
     exact HX.out
  ·have hb:(rc.1 != 0)=true:=bne_iff_ne.2 he
   have HRE:Hid (r=(false,rc.1,rc.2.told rc.1)):=Lib.hid (by rw [HPU.out,if_neg he])
   clear h4 m4 n4 q4 he HPU HC HW9 ck3 HCT
   go_wp2_with fail
   refine (told_live w4 rc.1 H4.out).mono ?_
   rintro e w5 ⟨rfl,F5,h5,m5⟩
   have HX:Hid (TDone W F w tb pb db (.tuple #[.bool r.1,.int .i64 r.2.1]) r.2.2 (.returned (.tuple #[.bool false,.int .i64 rc.1])) w5):=Lib.hid (by rw [HRE.out];exact ⟨rfl,F5,h5,M4.out.trans m5⟩)
   clear h5 m5
   go_wp2_with fail
   refine bodyPost_ret (v := .tuple #[.bool false,.int .i64 rc.1]) (by simp [results,Tryz.results28,go_sem]) rfl ?_
   exact HX.out
 ·have hb:(t.lost != 0)=true:=bne_iff_ne.2 hl
  have HX:Hid (TDone W F w tb pb db (.tuple #[.bool r.1,.int .i64 r.2.1]) r.2.2 (.returned (.tuple #[.bool false,.int .i64 t.lost])) w1):=Lib.hid (by
   rw [← HR.out]
   unfold TS.del
   rw [if_pos hl]
   exact ⟨rfl,TGoes.of_below H0.out B0.out⟩)
  clear hl
  go_wp2_with fail
  refine bodyPost_ret (v := .tuple #[.bool false,.int .i64 t.lost]) (by simp [results,Tryz.results28,go_sem]) rfl ?_
  exact HX.out
end
end Go.Proofs.YtccphijgcapeoaaGreat
/-
  The plain tree's Put and Delete, of a tree that has pages enough. Nothing here names the program, but what a change asks of it.
-/
namespace Go.Proofs.YtccphijgcapeoaaGreat
namespace TT
open ND TS
theorem nodup_sub:∀ (l O:List Int),l.Nodup→(∀ x∈l,x∈O)→l.length≤O.length
 | [],O,_,_=>Nat.zero_le _
 | a::l,O,h,hs=>by
   obtain ⟨h1,h2⟩:=List.nodup_cons.1 h
   have ha:=hs a (by simp)
   have:=nodup_sub l (O.erase a) h2 (fun x hx=>(List.mem_erase_of_ne (fun (e:x=a)=>h1 (by rw [← e];exact hx))).2 (hs x (by simp [hx])))
   rw [List.length_erase_of_mem ha] at this
   have:=List.length_pos_of_mem ha
   rw [List.length_cons]
   omega
section
variable {O:List Int} {nd0:Int→Option ND} {t:TS} {es:List E} {L:List Int}
theorem Tr.pends (h:Tr O nd0 t es L):t.sp.pe.length≤O.length:=by
 have:=nodup_sub (t.sp.pe.map (·.2)) O h.acc.fine.once (fun x hx=>by
  obtain ⟨y,hy,rfl⟩:=List.mem_map.1 hx
  exact h.acc.pend y hy)
 simpa using this
theorem Tr.used_le (h:Tr O nd0 t es L):t.used L≤2*es.length+O.length:=by
 have h1:=h.pends
 have h2:=h.root.count.1
 unfold TS.used
 omega
theorem Tr.low (h:Tr O nd0 t es L) (he:es.length≤511):t.ht≤9:=by
 rcases h.root.count.2 with e | e
 ·omega
 ·apply Classical.byContradiction
  intro hn
  have:=Nat.pow_le_pow_right (n:=2) (by decide) (show 9≤t.ht - 1 by omega)
  omega
theorem empty_fits (key val:K) (h2:key.length≤120) (h3:val.length≤100):(empty.put key val).size≤1000:=by
 have:=put_size (s:=empty) (k:=key) (v:=val) (by decide) rfl h2 h3
 have e:empty.size=2:=rfl
 omega
theorem bad_no {key val:K} (h:TS.badE key val=false):1≤key.length∧key.length≤120∧val.length≤100:=by
 unfold TS.badE at h
 simp only [Bool.or_eq_false_iff,decide_eq_false_iff_not] at h
 omega
theorem Tr.putF (h:Tr O nd0 t es L) {key val:K} (hb:TS.badE key val=false) :
 (∃ t',t.change key (fun n=>n.put key val)=(81,t')∧Full t L (2*t.ht+3) 81)∨∃ t' L',t.change key (fun n=>n.put key val)=(0,t')∧Done O nd0 t L (2*t.ht+3) t' L'∧Root t'.nd t'.ht t'.rt (putE key val es) L':=by
 obtain ⟨h1,h2,h3⟩:=bad_no hb
 exact h.change key (fun n=>n.put key val) (putE key val) (fun n lo hi e v hk hz=>by
  obtain ⟨a,b,c⟩:=VL.put v hk h1 h2 h3
  exact ⟨a,by omega⟩) (fun pre e post a b=>put_mid a b) (Or.inr (by
  obtain ⟨_,_,c⟩:=VL.put (n:=empty) (lo:=[]) (hi:=[]) (es:=[]) (val:=val) ⟨rfl,rfl,rfl,rfl,rfl,fun k hk=>(by cases hk),rfl⟩ (btw_all key) h1 h2 h3
  exact c)) (empty_fits key val h2 h3)
theorem Tr.delF (h:Tr O nd0 t es L) (key:K) :
 (∃ t',t.change key (fun n=>n.remove key)=(81,t')∧Full t L (2*t.ht+3) 81)∨∃ t' L',t.change key (fun n=>n.remove key)=(0,t')∧Done O nd0 t L (2*t.ht+3) t' L'∧Root t'.nd t'.ht t'.rt (delE key es) L':=by
 have he:empty.remove key=empty:=remove_new (by rfl)
 exact h.change key (fun n=>n.remove key) (delE key) (fun n lo hi e v hk hz=>by
  obtain ⟨a,b⟩:=VL.remove (key:=key) v
  exact ⟨a,by omega⟩) (fun pre e post a b=>del_mid a b) (Or.inl he) (by rw [he];decide)
theorem Tr.put1 (h:Tr O nd0 t es L) {key val:K} (hb:TS.badE key val=false) :
 (∃ t',t.put key val=(81,t')∧t'.lost=81∧Full t L (2*t.ht+3) 81)∨∃ t' L',t.put key val=(0,t')∧Tr O nd0 t' (putE key val es) L'∧t'.z=t.z∧t'.ep=t.ep:=by
 have hk:=h.has key
 unfold TS.put
 rw [if_neg (by rw [h.lost];decide),hb,if_neg (by decide)]
 rcases h.putF hb with ⟨t',e,f⟩ | ⟨t',L',e,d,r⟩
 ·left
  rw [e,if_neg (show ¬ (81:Int)=0 by decide)]
  exact ⟨t'.told 81,rfl,rfl,f⟩
 ·right
  rw [e,if_pos rfl,hk]
  have hl:=put_len (key:=key) (val:=val) (es:=es)
  refine ⟨_,L',rfl,⟨⟨d.acc.fine,d.acc.once,d.acc.inL,d.acc.all,d.acc.late,d.acc.ep0,d.acc.own,d.acc.pend,d.acc.old,d.acc.fresh⟩,r,?_,d.lost_.trans h.lost,by show t'.z≤_;rw [d.z_];exact h.z_⟩,d.z_,d.ep_⟩
  show (if isE key es=true then t'.ct else t'.ct+1)=_
  rw [d.ct_,h.ct,hl]
  cases isE key es<;>simp
theorem Tr.del1 (h:Tr O nd0 t es L) (key:K) :
 (∃ t',t.del key=(false,81,t')∧t'.lost=81∧Full t L (2*t.ht+3) 81)∨∃ t' L',t.del key=(isE key es,0,t')∧Tr O nd0 t' (delE key es) L'∧t'.z=t.z∧t'.ep=t.ep:=by
 have hk:=h.has key
 unfold TS.del
 rw [if_neg (by rw [h.lost];decide)]
 rcases h.delF key with ⟨t',e,f⟩ | ⟨t',L',e,d,r⟩
 ·left
  rw [e,if_neg (show ¬ (81:Int)=0 by decide)]
  exact ⟨t'.told 81,rfl,rfl,f⟩
 ·right
  rw [e,if_pos rfl,hk]
  have hl:=del_len (key:=key) (es:=es)
  refine ⟨_,L',rfl,⟨⟨d.acc.fine,d.acc.once,d.acc.inL,d.acc.all,d.acc.late,d.acc.ep0,d.acc.own,d.acc.pend,d.acc.old,d.acc.fresh⟩,r,?_,d.lost_.trans h.lost,by show t'.z≤_;rw [d.z_];exact h.z_⟩,d.z_,d.ep_⟩
  show (if isE key es=true then t'.ct - 1 else t'.ct)=_
  rw [d.ct_,h.ct,hl]
  cases hi:isE key es with
  | false=>simp
  | true =>
    have:=isE_lt hi
    simp
    omega
theorem Tr.chgPut (h:Tr O nd0 t es L) (he:es.length≤511) {key val:K} (hb:TS.badE key val=false):ChgPre t key (fun n=>n.put key val):=by
 obtain ⟨h1,h2,h3⟩:=bad_no hb
 have hl:=h.low he
 refine ⟨h.wayIn key,by omega,fun l hl=>h.pre key (fun n=>n.put key val) (by omega) (fun n lo hi e v hk hz=>by
  obtain ⟨a,b,c⟩:=VL.put v hk h1 h2 h3
  exact ⟨_,a,by omega⟩) l hl,fun e=>?_⟩
 rcases h.putF hb with ⟨t',e',f⟩ | ⟨t',L',e',d,r⟩
 ·rw [e'] at e
  exact absurd e (show ¬ (81:Int)=0 by decide)
 ·rw [e']
  show 0≤t'.ct∧t'.ct≤_
  rw [d.ct_,h.ct]
  omega
theorem Tr.chgDel (h:Tr O nd0 t es L) (he:es.length≤511) (key:K):ChgPre t key (fun n=>n.remove key):=by
 have hl:=h.low he
 refine ⟨h.wayIn key,by omega,fun l hl=>h.pre key (fun n=>n.remove key) (by omega) (fun n lo hi e v hk hz=>by
  obtain ⟨a,b⟩:=VL.remove (key:=key) v
  exact ⟨_,a,by omega⟩) l hl,fun e=>?_⟩
 rcases h.delF key with ⟨t',e',f⟩ | ⟨t',L',e',d,r⟩
 ·rw [e'] at e
  exact absurd e (show ¬ (81:Int)=0 by decide)
 ·rw [e']
  show 0≤t'.ct∧t'.ct≤_
  rw [d.ct_,h.ct]
  omega
theorem Tr.noFull (h:Tr O nd0 t es L) (hz:2*es.length+O.length+30≤t.z) (he:es.length≤511):¬ Full t L (2*t.ht+3) 81:=by
 intro f
 have h1:=f.2
 have h2:=h.used_le
 have h3:=h.low he
 omega
theorem Tr.putOk (h:Tr O nd0 t es L) (hz:2*es.length+O.length+30≤t.z) (he:es.length≤511) (key val:K) :
 ∃ t' L',t.put key val=(if TS.badE key val then 120 else 0,t')∧Tr O nd0 t' (if TS.badE key val then es else putE key val es) L'∧t'.z=t.z∧t'.ep=t.ep:=by
 cases hb:TS.badE key val with
 | true =>
   refine ⟨t,L,?_,h,rfl,rfl⟩
   unfold TS.put
   rw [if_neg (by rw [h.lost];decide),hb,if_pos rfl]
   rfl
 | false =>
   rcases h.put1 hb with ⟨t',e,_,f⟩ | ⟨t',L',e,r⟩
   ·exact absurd f (h.noFull hz he)
   ·exact ⟨t',L',e,r⟩
theorem Tr.delOk (h:Tr O nd0 t es L) (hz:2*es.length+O.length+30≤t.z) (he:es.length≤511) (key:K) :
 ∃ t' L',t.del key=(isE key es,0,t')∧Tr O nd0 t' (delE key es) L'∧t'.z=t.z∧t'.ep=t.ep:=by
 rcases h.del1 key with ⟨t',e,_,f⟩ | ⟨t',L',e,r⟩
 ·exact absurd f (h.noFull hz he)
 ·exact ⟨t',L',e,r⟩
end
end TT
end Go.Proofs.YtccphijgcapeoaaGreat
/-
  What slices.Clone comes to at lists of ints and of freed pages; pages' lists in memory of their own. Conditions: none.
-/
namespace Go.Proofs.YtccphijgcapeoaaGreat
open Go.RowKit Go.Maps
def CloneEnd (w:World) (sz n:Nat) (cs:List Value) (e:Ending) (w':World):Prop:=∃ A c,e = .returned (.slice A n c)∧Ln w' sz A n c cs∧Hi w.heap.size A∧Below w.heap.size w w'
theorem sclone_I (A:Option Addr) (n c:Nat) (l:List Int) (w:World) (h:Ln w 1 A n c (intVals l)) (hn:n≤1000000) :
 Calls Tryz.prog 73 #[.slice A n c] w (CloneEnd w 1 n (intVals l)):=by
 have hne:=fun W=>Lib.run_eql_slice_nil (P:=Tryz.prog) W 36
 have H:=Lib.hid h
 rcases A with _ | ad
 ·obtain ⟨rfl,rfl⟩:=h.lies.1 rfl
  clear h
  go_enter Tryz.func73,Tryz.ntmps73
  go_wp2_with fail
  go_ret
  exact ⟨none,0,rfl,H.out,Hi.none_ _,Below.refl _ _⟩
 ·clear h
  obtain ⟨i0,hi,hz0,hz1,hz2⟩:=info_parts intInfo
  have BE:=Lib.hid (below_one w (.cells #[] 3))
  have OE:Hid ((w.alloc (.cells #[] 3)).ownsRow w.heap.size 3 1 (.slice (some ⟨w.heap.size,0,none⟩) 0 0) 0 []):=Lib.hid (World.ownsRow_made w #[] 0 (Nat.le_refl _) (by unfold maxLen;omega) rfl)
  have HZ:Hid (∀ k',(Value.slice (some ⟨w.heap.size,0,none⟩) 0 0).ownBlock=some k'→w.heap.size≤k'):=Lib.hid (fun k' e'=>(OE.out.lt k' e').1)
  go_enter Tryz.func73,Tryz.ntmps73
  go_wp2_with (first
   | (at_builtin;refine wpList_append_lay _ rfl (.tmp 5) (.tmp 6) 36 rfl w.heap.size 3 i0 _ 1 8 Tryz.underlying36 hi hz0 hz1 hz2 rfl (by decide) _ 0 [] rfl OE.out (some ad) n c (intVals l) rfl H.out.len (H.out.lies.kept BE.out) (intVals_one _) (by unfold maxLen;omega) (by omega) BE.out.size ?_;intro v8 w8 o8 g8;rw [List.nil_append,Nat.zero_add] at o8;have b8:=Below.grown (B:=w.heap.size) (a:=w) BE.out g8 BE.out.size HZ.out;have O8:=Lib.hid o8;have B8:=Lib.hid b8;clear o8 g8 b8)
   | fail)
  obtain ⟨A',c',rfl,_,l'⟩:=Ln.of_own O8.out
  go_ret
  exact ⟨A',c',rfl,l',Hi.of_own O8.out,B8.out⟩
theorem sclone_F (A:Option Addr) (n c:Nat) (l:List (Int×Int)) (w:World) (h:Ln w 2 A n c (prVals l)) (hn:n≤1000000) :
 Calls Tryz.prog 74 #[.slice A n c] w (CloneEnd w 2 n (prVals l)):=by
 have hne:=fun W=>Lib.run_eql_slice_nil (P:=Tryz.prog) W 47
 have H:=Lib.hid h
 rcases A with _ | ad
 ·obtain ⟨rfl,rfl⟩:=h.lies.1 rfl
  clear h
  go_enter Tryz.func74,Tryz.ntmps74
  go_wp2_with fail
  go_ret
  exact ⟨none,0,rfl,H.out,Hi.none_ _,Below.refl _ _⟩
 ·clear h
  obtain ⟨i0,hi,hz0,hz1,hz2⟩:=info_parts FInfo0
  have BE:=Lib.hid (below_one w (.cells #[] 129))
  have OE:Hid ((w.alloc (.cells #[] 129)).ownsRow w.heap.size 129 2 (.slice (some ⟨w.heap.size,0,none⟩) 0 0) 0 []):=Lib.hid (World.ownsRow_made w #[] 0 (Nat.le_refl _) (by unfold maxLen;omega) rfl)
  have HZ:Hid (∀ k',(Value.slice (some ⟨w.heap.size,0,none⟩) 0 0).ownBlock=some k'→w.heap.size≤k'):=Lib.hid (fun k' e'=>(OE.out.lt k' e').1)
  go_enter Tryz.func74,Tryz.ntmps74
  go_wp2_with (first
   | (at_builtin;refine wpList_append_lay _ rfl (.tmp 5) (.tmp 6) 47 rfl w.heap.size 129 i0 _ 2 16 Tryz.underlying47 hi hz0 hz1 hz2 rfl (by decide) _ 0 [] rfl OE.out (some ad) n c (prVals l) rfl H.out.len (H.out.lies.kept BE.out) (prVals_one _) (by unfold maxLen;omega) (by omega) BE.out.size ?_;intro v8 w8 o8 g8;rw [List.nil_append,Nat.zero_add] at o8;have b8:=Below.grown (B:=w.heap.size) (a:=w) BE.out g8 BE.out.size HZ.out;have O8:=Lib.hid o8;have B8:=Lib.hid b8;clear o8 g8 b8)
   | fail)
  obtain ⟨A',c',rfl,_,l'⟩:=Ln.of_own O8.out
  go_ret
  exact ⟨A',c',rfl,l',Hi.of_own O8.out,B8.out⟩
def SpCop (w:World) (s:SS) (e:Ending) (w':World):Prop:=∃ v,e = .returned v∧SpVH w' w.heap.size v s∧Below w.heap.size w w'
theorem tcopied_any (h:Int) (A:Option Addr) (n c:Nat) (B:Option Addr) (m d:Nat) (s:SS) (w:World) (hh:s.hi=h) (hs:Sp w A n c B m d s) (hn:n≤400000) (hm:m≤400000) :
 Calls Tryz.prog 43 #[.agg #[.int .i64 h,.slice A n c,.slice B m d]] w (SpCop w s):=by
 obtain ⟨t1,t2,t3⟩:=two_boxes w (.int .i64 h) (.slice A n c) (.slice B m d) (.int .i64 0) (.slice none 0 0) (.slice none 0 0)
 have HB:=Lib.hid t1
 have HR:=Lib.hid t2
 have B0:=Lib.hid t3
 have HS:=Lib.hid (hs.kept t3)
 have HH:=Lib.hid hh
 have hsz:((w.alloc (.cells #[.int .i64 h,.slice A n c,.slice B m d] 49)).alloc (.cells #[.int .i64 0,.slice none 0 0,.slice none 0 0] 49)).heap.size=w.heap.size+2:=by simp
 have HZ:=Lib.hid hsz
 clear hs hh t1 t2 t3 hsz
 go_enter Tryz.func43,Tryz.ntmps43
 go_upto_region 1 with fail
 generalize (w.alloc (.cells #[.int .i64 h,.slice A n c,.slice B m d] 49)).alloc (.cells #[.int .i64 0,.slice none 0 0,.slice none 0 0] 49)=w0 at *
 have BD:=Lib.hid ((Below.refl w0.heap.size w0).drew)
 have K0:=(HB.out.kept BD.out).cells
 have f0:=(HR.out.kept BD.out).free
 go_region_held3 (fun w'=>w'.cell? ⟨w.heap.size,0,none⟩=some (.int .i64 h)∧w'.cell? ⟨w.heap.size,1,none⟩=some (.slice A n c)∧w'.cell? ⟨w.heap.size,2,none⟩=some (.slice B m d))
  (first | with_reducible exact K0 | with_reducible exact K1 | with_reducible exact K2 | with_reducible exact K9 _ _ _)
  (first
    | (go_at_call 73;refine (sclone_I A n c s.fr _ (HS.out.fr.kept (by first | exact BF.out | exact BD.out)) (by omega)).mono ?_;rintro eI wI ⟨AI,cI,rfl,lI,hI,bI⟩;have BI:=Lib.hid (chainN bI (by first | exact BF.out | exact BD.out));have K1:=(HB.out.kept BI.out).cells;have hbx:=HR.out.kept BI.out;obtain ⟨x0,x1,x2⟩:=hbx.cells;obtain ⟨g0,g1,g2⟩:=hbx.free;clear hbx;have K9:=fun a b' c':Value=>Box.cells (((But.put wI (w.heap.size+1) a b' c').2 w.heap.size (by omega)).trans (HB.out.kept BI.out));have HIA:Hid (Hi w0.heap.size AI):=Lib.hid (Hi.low hI ((by first | exact BF.out | exact BD.out):Below w0.heap.size w0 _).size);have LI:=Lib.hid lI;first | (have LFX:=Lib.hid (LF.out.kept bI)) | skip;clear lI hI bI)
    | (go_at_call 74;refine (sclone_F B m d s.pe _ (HS.out.pe.kept (by first | exact BI.out | exact BD.out)) (by omega)).mono ?_;rintro eF wF ⟨AF,cF,rfl,lF,hF,bF⟩;have BF:=Lib.hid (chainN bF (by first | exact BI.out | exact BD.out));have K2:=(HB.out.kept BF.out).cells;have hbx:=HR.out.kept BF.out;obtain ⟨x0,x1,x2⟩:=hbx.cells;obtain ⟨g0,g1,g2⟩:=hbx.free;clear hbx;have K9:=fun a b' c':Value=>Box.cells (((But.put wF (w.heap.size+1) a b' c').2 w.heap.size (by omega)).trans (HB.out.kept BF.out));have HFA:Hid (Hi w0.heap.size AF):=Lib.hid (Hi.low hF ((by first | exact BI.out | exact BD.out):Below w0.heap.size w0 _).size);have LF:=Lib.hid lF;first | (have LIX:=Lib.hid (LI.out.kept bF)) | skip;clear lF hF bF)
    | fail)
 all_goals (
  have hne:∀ {X:Option Addr},Hi w0.heap.size X→∀ ad,X=some ad→ad.block≠w.heap.size+1:=fun hX ad e=>by
   have:=hX ad e
   have:=HZ.out
   omega
  have HD:Hid (SpCop w s (.returned (.agg #[.int .i64 h,.slice AI n cI,.slice AF m cF])) (((wF.setCell ⟨w.heap.size+1,0,none⟩ (.int .i64 h)).setCell ⟨w.heap.size+1,1,none⟩ (.slice AI n cI)).setCell ⟨w.heap.size+1,2,none⟩ (.slice AF m cF))):=Lib.hid
   ⟨_,rfl,⟨AI,n,cI,AF,m,cF,by rw [HH.out],sp_put (w2:=wF) (g:=w.heap.size+1) (s:=s) ⟨LIX.out,LF.out⟩ (fun _=>hne HIA.out) (fun _=>hne HFA.out) _ _ _,Hi.low HIA.out B0.out.size,Hi.low HFA.out B0.out.size⟩,below_put (chainN BF.out B0.out) (Nat.le_succ _) _ _ _⟩
  have HE:=Lib.hid ((HR.out.kept BF.out).put (.int .i64 h) (.slice AI n cI) (.slice AF m cF)).cells
  go_wp2_with fail
  obtain ⟨z0,z1,z2⟩:=HE.out
  refine bodyPost_ret (v := .agg #[.int .i64 h,.slice AI n cI,.slice AF m cF]) (by simp [results,Tryz.results43,go_sem,z0,z1,z2]) rfl ?_
  exact HD.out)
end Go.Proofs.YtccphijgcapeoaaGreat
/-
  What knownOnce comes to, with slices.ContainsFunc at its closure.
-/
namespace Go.Proofs.YtccphijgcapeoaaGreat
open Go.RowKit
theorem onceFn_any (s:SS) (h z:Int) (A B:Option Addr) (n c m d g:Nat) (w:World) (hh:s.hi=h) (hb:Box w g (.int .i64 h) (.slice A n c) (.slice B m d)) :
 Calls Tryz.prog 100 #[.int .i64 z,.pointer (some ⟨g,0,none⟩)] w fun e w'=>e = .returned (.bool (!(s.may z)))∧Below w.heap.size w w':=by
 obtain ⟨c0,c1,c2⟩:=hb.cells
 clear hb
 go_enter Tryz.func100,Tryz.ntmps100
 go_wp2_with fail
 refine (wasUsed_any s h z A B n c m d w hh).mono ?_
 rintro e w1 ⟨rfl,b1⟩
 have B1:=Lib.hid b1
 clear b1
 go_wp2_with fail
 go_ret
 exact ⟨rfl,B1.out⟩
def Mays (s:SS) (zs:List Int) (k:Nat):Prop:=(zs.take k).all s.may=true
theorem Mays.more {s:SS} {zs:List Int} {k:Nat} {x:Int} (h:Mays s zs k) (hv:zs[k]?=some x) (hx:s.may x=true):Mays s zs (k+1):=by
 unfold Mays at h ⊢
 rw [List.take_add_one,hv,Option.toList_some,List.all_append,h]
 simp [hx]
theorem any_hit {s:SS} {zs:List Int} {k:Nat} {x:Int} (hv:zs[k]?=some x) (hx:s.may x=false):zs.all s.may=false:=by
 cases h:zs.all s.may with
 | false=>rfl
 | true =>
   have:=List.all_eq_true.1 h x (List.mem_of_getElem? hv)
   rw [hx] at this
   cases this
theorem indexO_any (s:SS) (h:Int) (A B C:Option Addr) (n c m d g k0 e0:Nat) (zs:List Int) (w:World) (hh:s.hi=h) (hb:Box w g (.int .i64 h) (.slice A n c) (.slice B m d)) (hz:Ln w 1 C k0 e0 (intVals zs)) (hn:k0≤1000000) :
 Calls Tryz.prog 132 #[.slice C k0 e0,.func (.func 100) #[] #[.pointer (some ⟨g,0,none⟩)]] w fun e w'=>(∃ r:Int,e = .returned (.int .i64 r)∧decide (r ≥ 0) = !(zs.all s.may))∧Below w.heap.size w w':=by
 have HZ:=Lib.hid hz
 have HN:=Lib.hid hz.intN
 have HF:=Lib.hid (fun (z:Int) (w':World) (hb':Below w.heap.size w w')=>onceFn_any s h z A B n c m d g w' hh (hb.kept hb'))
 clear hz hb hh
 go_enter Tryz.func132,Tryz.ntmps132
 go_wp2_with fail
 go_loopw [8] (fun i wk=>∃ k:Nat,k≤k0∧i = .int .i64 k∧Hid (Mays s zs k)∧Hid (Below w.heap.size w wk)) (fun i _=>k0 - (RowKit.intOf i).toNat)
 case atStart=>exact ⟨0,Nat.zero_le _,rfl,Lib.hid rfl,Lib.hid (Below.refl _ _)⟩
 case round =>
  obtain ⟨k,hk,rfl,HL,B1⟩:=hrel
  by_cases hlt:k<k0
  ·obtain ⟨b,off,x,rfl,hv,c0⟩:=(HZ.out.kept B1.out).intAt hlt
   cases hx:s.may x with
   | true =>
     have HM:=Lib.hid (HL.out.more hv hx)
     have hF:=(HF.out x wr B1.out)
     rw [hx] at hF
     have HF1:=Lib.hid hF
     clear hv HL hx hF
     go_wp2_with fail
     refine HF1.out.mono ?_
     rintro e w1 ⟨rfl,b1⟩
     have B2:=Lib.hid (B1.out.trans (b1.mono B1.out.size))
     clear b1 B1 HF1 c0
     go_wp2_with fail
     go_roundw
     case rel=>exact ⟨k+1,by omega,by go_num,HM,B2⟩
     case measure=>simp [RowKit.intOf];omega
   | false =>
     have HM:=Lib.hid (any_hit hv hx)
     have hF:=(HF.out x wr B1.out)
     rw [hx] at hF
     have HF1:=Lib.hid hF
     clear hv HL hx hF
     go_wp2_with fail
     refine HF1.out.mono ?_
     rintro e w1 ⟨rfl,b1⟩
     have B2:=Lib.hid (B1.out.trans (b1.mono B1.out.size))
     clear b1 B1 HF1 c0
     go_wp2_with fail
     go_ret
     exact ⟨⟨_,rfl,by rw [HM.out,decide_eq_true (by omega)];rfl⟩,B2.out⟩
  ·obtain rfl:k0=k:=by omega
   have hm:=HL.out
   unfold Mays at hm
   rw [List.take_of_length_le (by rw [HN.out];exact Nat.le_refl _)] at hm
   have HM:=Lib.hid hm
   clear hm
   go_wp2_with fail
   go_ret
   exact ⟨⟨_,rfl,by rw [HM.out];rfl⟩,B1.out⟩
theorem containsO_any (s:SS) (h:Int) (A B C:Option Addr) (n c m d g k0 e0:Nat) (zs:List Int) (w:World) (hh:s.hi=h) (hb:Box w g (.int .i64 h) (.slice A n c) (.slice B m d)) (hz:Ln w 1 C k0 e0 (intVals zs)) (hn:k0≤1000000) :
 Calls Tryz.prog 99 #[.slice C k0 e0,.func (.func 100) #[] #[.pointer (some ⟨g,0,none⟩)]] w fun e w'=>e = .returned (.bool (!(zs.all s.may)))∧Below w.heap.size w w':=by
 have HC:=Lib.hid (indexO_any s h A B C n c m d g k0 e0 zs w hh hb hz hn)
 clear hz hb hh
 go_enter Tryz.func99,Tryz.ntmps99
 go_wp2_with fail
 refine HC.out.mono ?_
 rintro e w2 ⟨⟨r,rfl,hr⟩,b2⟩
 have HR:=Lib.hid hr
 have B2:=Lib.hid b2
 clear hr b2
 go_wp2_with fail
 go_ret
 exact ⟨ret_bool HR.out,B2.out⟩
theorem once_sorted {s:SS} {ms:List Int} (hp:ms.Perm s.pages) (hs:ms.Pairwise (·≤·)):SS.onceB s=(SS.rises ms && !(!(ms.all s.may))):=by
 unfold SS.onceB
 rw [SS.sorted_rises hp hs,SS.perm_all hp,Bool.not_not]
theorem once_any (s:SS) (h:Int) (A B:Option Addr) (n c m d:Nat) (w:World) (hh:s.hi=h) (hs:Sp w A n c B m d s) (hn:n≤400000) (hm:m≤400000) :
 Calls Tryz.prog 66 #[.agg #[.int .i64 h,.slice A n c,.slice B m d]] w fun e w'=>e = .returned (.bool (SS.onceB s))∧Below w.heap.size w w':=by
 have hmf:∀ (fn:Fn) (first cap:Array Value) (w:World),(Instr.makeFunc fn first cap).run Tryz.prog w = .ok (.func fn first cap) w:=fun _ _ _ _=>rfl
 have HS:=Lib.hid (hs.kept (below_one w (.cells #[.int .i64 h,.slice A n c,.slice B m d] 49)))
 have HB:=Lib.hid (box_new w (.int .i64 h) (.slice A n c) (.slice B m d))
 have B0:=Lib.hid (below_one w (.cells #[.int .i64 h,.slice A n c,.slice B m d] 49))
 have HH:=Lib.hid hh
 clear hs hh
 go_enter Tryz.func66,Tryz.ntmps66
 go_wp2_with fail
 generalize w.alloc (.cells #[.int .i64 h,.slice A n c,.slice B m d] 49)=w0 at *
 refine (known_any s h A B n c m d w0 HS.out hn hm).mono ?_
 rintro e w1 ⟨v1,rfl,o1,b1⟩
 obtain ⟨A1,c1,rfl,hc1,l1⟩:=Ln.of_own o1
 have HSo:=Lib.hid (sort_any w0.heap.size A1 (n+m) c1 s.pages w1 o1 (by omega))
 have HO1:=Lib.hid o1
 have B1:=Lib.hid b1
 clear o1 b1 l1
 go_wp2_with fail
 refine HSo.out.mono ?_
 rintro e w2 ⟨ms,rfl,hp,hso,o2,hg⟩
 have B2:=Lib.hid (B1.out.grown hg B1.out.size (fun g hg=>(HO1.out.lt g hg).1))
 have HE:=Lib.hid (once_sorted hp hso)
 obtain ⟨A2,c2,e2,hc2,l2⟩:=Ln.of_own o2
 injection e2 with e2 e3 e4
 subst e2
 subst e4
 have L2:=Lib.hid l2
 clear hg o2 hp hso l2 HSo HO1 B1
 go_wp2_with fail
 refine (rises_any A1 (n+m) c1 ms w2 L2.out (by omega)).mono ?_
 rintro e w3 ⟨rfl,b3⟩
 have B3:=Lib.hid (B2.out.trans (b3.mono B2.out.size))
 have L3:=Lib.hid (L2.out.kept b3)
 clear b3 L2 B2
 cases hr:SS.rises ms with
 | false =>
   have HF:Hid (SS.onceB s=false):=by
    rw [HE.out,hr]
    exact Lib.hid rfl
   have B4:=Lib.hid (B0.out.trans (B3.out.mono B0.out.size))
   clear hr HE
   go_wp2_with fail
   go_ret
   exact ⟨ret_bool HF.out.symm,B4.out⟩
 | true =>
   have HF:Hid (SS.onceB s=ms.all s.may):=by
    rw [HE.out,hr,Bool.not_not]
    exact Lib.hid rfl
   clear hr HE
   go_wp2_with fail
   refine (containsO_any s h A B A1 n c m d w.heap.size (n+m) c1 ms w3 HH.out (HB.out.kept B3.out) L3.out (by omega)).mono ?_
   rintro e w4 ⟨rfl,b4⟩
   have B4:=Lib.hid (B0.out.trans ((B3.out.trans (b4.mono B3.out.size)).mono B0.out.size))
   clear b4
   go_wp2_with fail
   go_ret
   exact ⟨ret_bool HF.out.symm,B4.out⟩
end Go.Proofs.YtccphijgcapeoaaGreat
/-
  What Check comes to.
-/
namespace Go.Proofs.YtccphijgcapeoaaGreat
open Go.RowKit
theorem check_one {s:SS} {t:Int} (h:s.hi<2):s.check t=80:=SS.check_bad (fun f=>by have:=f.lo;omega)
theorem check_two {s:SS} {t:Int} (h:t<s.hi):s.check t=80:=SS.check_bad (fun f=>by have:=f.hi;omega)
theorem check_rest {s:SS} {t:Int} (h1:¬ s.hi<2) (h2:¬ t<s.hi):s.check t=if !(SS.rises s.fr) || !(SS.agesB s.pe) || !(SS.onceB s) then 80 else 0:=by
 rw [SS.check_parts,decide_eq_false h1,decide_eq_false (by omega:¬ s.hi > t)]
 rfl
theorem check_any (s:SS) (h t:Int) (A B:Option Addr) (n c m d:Nat) (w:World) (hh:s.hi=h) (hs:Sp w A n c B m d s) (hn:n≤400000) (hm:m≤400000) :
 Calls Tryz.prog 37 #[.agg #[.int .i64 h,.slice A n c,.slice B m d],.int .i64 t] w fun e w'=>e = .returned (.int .i64 (s.check t))∧Below w.heap.size w w':=by
 by_cases h1:h<2
 ·have HX:=Lib.hid (check_one (s:=s) (t:=t) (by rw [hh];exact h1))
  clear hs hh
  go_enter Tryz.func37,Tryz.ntmps37
  go_wp2_with fail
  go_ret
  exact ⟨ret_int HX.out.symm,below_one _ _⟩
 by_cases h2:t<h
 ·have HX:=Lib.hid (check_two (s:=s) (t:=t) (by rw [hh];exact h2))
  clear hs hh
  go_enter Tryz.func37,Tryz.ntmps37
  go_wp2_with fail
  go_ret
  exact ⟨ret_int HX.out.symm,below_one _ _⟩
 have HX:=Lib.hid (check_rest (s:=s) (t:=t) (by rw [hh];exact h1) (by rw [hh];exact h2))
 have HS:=Lib.hid (hs.kept (below_one w (.cells #[.int .i64 h,.slice A n c,.slice B m d] 49)))
 have HB:=Lib.hid (box_new w (.int .i64 h) (.slice A n c) (.slice B m d))
 have B0:=Lib.hid (below_one w (.cells #[.int .i64 h,.slice A n c,.slice B m d] 49))
 have HH:=Lib.hid hh
 clear hs hh
 go_enter Tryz.func37,Tryz.ntmps37
 go_wp2_with fail
 generalize w.alloc (.cells #[.int .i64 h,.slice A n c,.slice B m d] 49)=w0 at *
 refine (rises_any A n c s.fr w0 HS.out.fr (by omega)).mono ?_
 rintro e w1 ⟨rfl,b1⟩
 have B1:=Lib.hid b1
 clear b1
 cases hr:SS.rises s.fr with
 | false =>
   have HF:Hid (s.check t=80):=Lib.hid (by rw [HX.out,hr];rfl)
   have B2:=Lib.hid (B0.out.trans (B1.out.mono B0.out.size))
   clear hr
   go_wp2_with fail
   go_ret
   exact ⟨ret_int HF.out.symm,B2.out⟩
 | true =>
   have HX1:Hid (s.check t=if !(SS.agesB s.pe) || !(SS.onceB s) then 80 else 0):=Lib.hid (by rw [HX.out,hr];rfl)
   obtain ⟨c0,c1,c2⟩:=(HB.out.kept B1.out).cells
   clear hr HX
   go_wp2_with fail
   refine (ages_any B m d s.pe w1 (HS.out.pe.kept B1.out) (by omega)).mono ?_
   rintro e w2 ⟨rfl,b2⟩
   have B2:=Lib.hid (B1.out.trans (b2.mono B1.out.size))
   clear b2 c0 c1 c2 B1
   cases hr:SS.agesB s.pe with
   | false =>
     have HF:Hid (s.check t=80):=Lib.hid (by rw [HX1.out,hr];rfl)
     have B3:=Lib.hid (B0.out.trans (B2.out.mono B0.out.size))
     clear hr
     go_wp2_with fail
     go_ret
     exact ⟨ret_int HF.out.symm,B3.out⟩
   | true =>
     have HX2:Hid (s.check t=if !(SS.onceB s) then 80 else 0):=Lib.hid (by rw [HX1.out,hr];rfl)
     obtain ⟨c0,c1,c2⟩:=(HB.out.kept B2.out).cells
     clear hr HX1
     go_wp2_with fail
     refine (once_any s h A B n c m d w2 HH.out (HS.out.kept B2.out) hn hm).mono ?_
     rintro e w3 ⟨rfl,b3⟩
     have B3:=Lib.hid (B0.out.trans ((B2.out.trans (b3.mono B2.out.size)).mono B0.out.size))
     clear b3 c0 c1 c2 B2
     cases hr:SS.onceB s with
     | false =>
       have HF:Hid (s.check t=80):=Lib.hid (by rw [HX2.out,hr];rfl)
       clear hr
       go_wp2_with fail
       go_ret
       exact ⟨ret_int HF.out.symm,B3.out⟩
     | true =>
       have HF:Hid (s.check t=0):=Lib.hid (by rw [HX2.out,hr];rfl)
       clear hr
       go_wp2_with fail
       go_ret
       exact ⟨ret_int HF.out.symm,B3.out⟩
end Go.Proofs.YtccphijgcapeoaaGreat
/-
  What the tree's Open comes to. Conditions: none.
-/
namespace Go.Proofs.YtccphijgcapeoaaGreat
open Go.RowKit Go.Maps
section
variable {W w w':World} {G F F':Nat→Prop} {pb db:Nat} {f:Int→List UInt8}
theorem TPool.sizeIs {z:Nat} (h:TPool W G w pb db f z):(Calls Tryz.prog 25 #[.pointer (some ⟨pb,0,none⟩)] w fun e w'=>e = .returned (.pointer (some ⟨db,0,none⟩))∧w=w') ∧
 Calls Tryz.prog 44 #[.pointer (some ⟨db,0,none⟩)] w fun e w'=>e = .returned (.int .i64 (z:Nat))∧w=w':=by
 obtain ⟨s,M,a,b,_⟩:=h
 obtain ⟨D,hd⟩:=a.disk
 refine ⟨pdisk_live w a,?_⟩
 have:=size_any w hd.dk
 rw [b.size] at this
 exact this
theorem Ln.map_ne {sz n c mb:Nat} {A:Option Addr} {cs:List Value} {g:Int→Option Value} (h:Ln w sz A n c cs) (hs:0<sz) (hm:MapAt w mb g):0<n→∀ ad,A=some ad→ad.block≠mb:=by
 intro hn ad e e2
 have hl:=h.len
 have h0:=h.lies.2 ad e 0 (cs[0]'(by rw [hl];exact Nat.mul_pos hn hs)) (by simp)
 obtain ⟨es,cl,hb⟩:=hm.isMap
 have hs2:=World.cell?_spot h0
 rw [← e2] at hb
 obtain ⟨bl,off,sp⟩:=ad
 have:sp=none:=by simpa [Addr.add] using hs2
 subst this
 rw [addr_add] at h0
 simp [World.cell?,hb] at h0
theorem opened {w1:World} {mb:Nat} {A B:Option Addr} {n c m d:Nat} {T:TS} (hp:TPool W G w pb db f T.z) (hn:∀ p,0≤p→p<T.z→rdN p (f p)=T.nd p) (hG:∀ k,G k→W.heap.size≤k) (hW:Below W.heap.size W w) (hb:Below w.heap.size w w1)
 (hm:MapAt w1 mb (frM T.fr)) (hmb:w.heap.size≤mb) (hs:Sp w1 A n c B m d T.sp) (hA:Hi w.heap.size A) (hB:Hi w.heap.size B) (fit:TFit T) :
 ∃ F',TAt W G F' (w1.alloc (.cells (treeCells pb mb A n c B m d T) 82)) w1.heap.size mb pb db A n c B m d f T∧Moves w G (w1.alloc (.cells (treeCells pb mb A n c B m d T) 82)) F'∧∀ k,F' k ↔ G k∨Own3 w1.heap.size mb A n B m k:=by
 have hb2:=below_one w1 (.cells (treeCells pb mb A n c B m d T) 82)
 have hb3:=chainN hb2 hb
 have hlt:=hm.lt
 have hsl:=sp_lt hs
 have hWs:=hW.size
 have hbs:=hb.size
 have own:∀ k,Own3 w1.heap.size mb A n B m k→w.heap.size≤k:=by
  rintro k (rfl | rfl | ⟨h0,ad,e,rfl⟩ | ⟨h0,ad,e,rfl⟩)
  ·exact hbs
  ·exact hmb
  ·exact hA ad e
  ·exact hB ad e
 refine ⟨fun k=>G k∨Own3 w1.heap.size mb A n B m k,⟨hp.below hb3,hn,⟨heap_alloc_new w1 _,hm.block (hb2.block mb hlt),hs.kept hb2,fun h0 ad e=>⟨?_,hs.fr.map_ne (by omega) hm h0 ad e⟩,fun h0 ad e=>⟨?_,hs.pe.map_ne (by omega) hm h0 ad e⟩,fit⟩,fun k=>Iff.rfl,fun k hk hg=>?_,fun k hk=>?_,hW.trans (hb3.mono hWs)⟩,?_,fun k=>Iff.rfl⟩
 ·have:=hsl.1 h0 ad e
  omega
 ·have:=hsl.2 h0 ad e
  omega
 ·have:=own k hk
  have:=hp.lt k hg
  omega
 ·rcases hk with e | e
  ·exact hG k e
  ·have:=own k e
   omega
 ·refine ⟨Kept.below hb3 G,fun k hk=>?_⟩
  rcases hk with e | e
  ·exact Or.inl e
  ·exact Or.inr (own k e)
theorem frM_none:frM (fun _=>false)=fun _=>none:=by
 funext p
 rfl
def TOpn (W:World) (G:Nat→Prop) (w:World) (pb db:Nat) (f:Int→List UInt8) (T:TS) (e:Ending) (w':World):Prop :=
 ∃ tb mb A n c B m d F',e = .returned (.tuple #[.pointer (some ⟨tb,0,none⟩),.int .i64 0])∧TAt W G F' w' tb mb pb db A n c B m d f T∧Moves w G w' F'∧(∀ k,F' k ↔ G k∨Own3 tb mb A n B m k)∧(∀ k,Own3 tb mb A n B m k→w.heap.size≤k)∧Below w.heap.size w w'
theorem open_live (w:World) (e0 rt ct ep:Int) (ht:Nat) (C:Option Addr) (k e:Nat) (A:Option Addr) (n c:Nat) (B:Option Addr) (m d:Nat) (sp:SS) (z:Nat) (nd:Int→Option ND)
 (hp:TPool W G w pb db f z) (hn:∀ p,0≤p→p<z→rdN p (f p)=nd p) (hG:∀ k,G k→W.heap.size≤k) (hW:Below W.heap.size W w) (hs:Sp w A n c B m d sp) (hf:SS.Fine sp z) (hz:z≤4096)
 (h1:1≤ep) (h2:ep≤2147483647) (h3:ht≤20) (h4:(rt==0)=(((ht:Nat):Int)==0)) (hnn:n≤400000) (hmm:m≤400000) :
 Calls Tryz.prog 19 #[.pointer (some ⟨pb,0,none⟩),.agg #[.int .i64 e0,.int .i64 rt,.int .i64 ((ht:Nat):Int),.slice C k e,.int .i64 ct],.agg #[.int .i64 sp.hi,.slice A n c,.slice B m d],.int .i64 ep] w
  (TOpn W G w pb db f ⟨rt,ht,ct,sp,ep,fun _=>false,0,nd,z⟩):=by
 have b2:=below_two w (.cells #[.int .i64 e0,.int .i64 rt,.int .i64 ((ht:Nat):Int),.slice C k e,.int .i64 ct] 38) (.cells #[.int .i64 sp.hi,.slice A n c,.slice B m d] 49)
 have x1:=(heap_alloc_new w (.cells #[.int .i64 e0,.int .i64 rt,.int .i64 ((ht:Nat):Int),.slice C k e,.int .i64 ct] 38))
 have x2:=(below_one (w.alloc (.cells #[.int .i64 e0,.int .i64 rt,.int .i64 ((ht:Nat):Int),.slice C k e,.int .i64 ct] 38)) (.cells #[.int .i64 sp.hi,.slice A n c,.slice B m d] 49)).block w.heap.size (by simp)
 have HU:=Lib.hid (x2.trans x1)
 have x3:=box_new (w.alloc (.cells #[.int .i64 e0,.int .i64 rt,.int .i64 ((ht:Nat):Int),.slice C k e,.int .i64 ct] 38)) (.int .i64 sp.hi) (.slice A n c) (.slice B m d)
 rw [show (w.alloc (.cells #[.int .i64 e0,.int .i64 rt,.int .i64 ((ht:Nat):Int),.slice C k e,.int .i64 ct] 38)).heap.size=w.heap.size+1 by simp] at x3
 have HB:=Lib.hid x3
 have B0:=Lib.hid b2
 have HP:=Lib.hid (hp.below b2)
 have HPP:=Lib.hid hp
 have HN:=Lib.hid hn
 have HG:=Lib.hid hG
 have HW:=Lib.hid hW
 have HS:=Lib.hid (hs.kept b2)
 have HF:=Lib.hid hf
 have HCK:Hid (sp.check z=0):=Lib.hid (SS.check_ok hf)
 clear x1 x2 x3 b2 hp hn hG hW hs hf
 go_enter Tryz.func19,Tryz.ntmps19
 go_upto_region 1 with fail
 generalize (w.alloc (.cells #[.int .i64 e0,.int .i64 rt,.int .i64 ((ht:Nat):Int),.slice C k e,.int .i64 ct] 38)).alloc (.cells #[.int .i64 sp.hi,.slice A n c,.slice B m d] 49)=w0 at *
 have u1:w0.cell? ⟨w.heap.size,1,none⟩=some (.int .i64 rt):=(cell_of_row w0 w.heap.size 1 _ _ _ HU.out).trans rfl
 have u2:w0.cell? ⟨w.heap.size,2,none⟩=some (.int .i64 ((ht:Nat):Int)):=(cell_of_row w0 w.heap.size 2 _ _ _ HU.out).trans rfl
 go_upto_region 5 with fail
 clear u1 u2
 have BD:=Lib.hid ((Below.refl w0.heap.size w0).drew)
 have KS:=Lib.hid (fun wx (b:Below w0.heap.size w0 wx)=>(HB.out.kept b).cells)
 have KU:Hid (∀ wx,Below w0.heap.size w0 wx→wx.cell? ⟨w.heap.size,1,none⟩=some (.int .i64 rt)∧wx.cell? ⟨w.heap.size,2,none⟩=some (.int .i64 ((ht:Nat):Int))∧wx.cell? ⟨w.heap.size,4,none⟩=some (.int .i64 ct)):=Lib.hid (fun wx b=>by
  have h:=(b.block w.heap.size (Array.getElem?_eq_some_iff.1 HU.out).1).trans HU.out
  exact ⟨(cell_of_row wx w.heap.size 1 _ _ _ h).trans rfl,(cell_of_row wx w.heap.size 2 _ _ _ h).trans rfl,(cell_of_row wx w.heap.size 4 _ _ _ h).trans rfl⟩)
 go_region_held3 (fun w'=>w'.cell? ⟨w.heap.size+1,0,none⟩=some (.int .i64 sp.hi)∧w'.cell? ⟨w.heap.size+1,1,none⟩=some (.slice A n c)∧w'.cell? ⟨w.heap.size+1,2,none⟩=some (.slice B m d))
  (first | with_reducible exact KS.out _ BC.out | with_reducible exact KS.out _ BD.out)
  (first
    | (go_at_call 25;refine (HP.out.below BD.out).sizeIs.1.mono ?_;rintro e1 wq ⟨rfl,hwq⟩;subst hwq)
    | (go_at_call 44;refine (HP.out.below BD.out).sizeIs.2.mono ?_;rintro e1 wq ⟨rfl,hwq⟩;subst hwq)
    | (go_at_call 37;refine (check_any sp sp.hi (z:Nat) A B n c m d _ rfl (HS.out.kept BD.out) hnn hmm).mono ?_;rintro e1 wC ⟨rfl,bC⟩;have BC:=Lib.hid (chainN bC BD.out);clear bC;rw [HCK.out])
    | fail)
 go_wp2_with fail
 have HMK:=Lib.hid (@run_makeMap Tryz.prog)
 have K6:Hid (∀ wx,Below w0.heap.size w0 wx→wx.cell? ⟨w.heap.size,1,none⟩=some (.int .i64 rt)∧wx.cell? ⟨w.heap.size,2,none⟩=some (.int .i64 ((ht:Nat):Int))∧wx.cell? ⟨w.heap.size,4,none⟩=some (.int .i64 ct) ∧
  wx.cell? ⟨w.heap.size+1,0,none⟩=some (.int .i64 sp.hi)∧wx.cell? ⟨w.heap.size+1,1,none⟩=some (.slice A n c)∧wx.cell? ⟨w.heap.size+1,2,none⟩=some (.slice B m d)):=Lib.hid (fun wx b=>by
  obtain ⟨a1,a2,a3⟩:=KU.out wx b
  obtain ⟨b1,b2,b3⟩:=KS.out wx b
  exact ⟨a1,a2,a3,b1,b2,b3⟩)
 have HPC:=Lib.hid (HP.out.below BC.out)
 have HSC:=Lib.hid (HS.out.kept BC.out)
 have B1:=Lib.hid (BC.out.drew)
 have B2:=Lib.hid ((chainN (below_one wC (.map #[] 0)) BC.out).drew)
 have HWC:=Lib.hid (chainN BC.out B0.out)
 have hmk:=HMK.out
 clear KU KS BD HP HS
 go_region_held3 (fun wx=>wx.cell? ⟨w.heap.size,1,none⟩=some (.int .i64 rt)∧wx.cell? ⟨w.heap.size,2,none⟩=some (.int .i64 ((ht:Nat):Int))∧wx.cell? ⟨w.heap.size,4,none⟩=some (.int .i64 ct) ∧
  wx.cell? ⟨w.heap.size+1,0,none⟩=some (.int .i64 sp.hi)∧wx.cell? ⟨w.heap.size+1,1,none⟩=some (.slice A n c)∧wx.cell? ⟨w.heap.size+1,2,none⟩=some (.slice B m d))
  (first | exact K6.out _ B1.out | exact K6.out _ B2.out | exact K6.out _ BK.out | exact K6.out _ (BK1.out _) | exact K6.out _ (BK2.out _ _))
  (first
    | (go_at_call 43;refine (tcopied_any sp.hi A n c B m d sp _ rfl (HSC.out.kept (by first | exact (Below.refl wC.heap.size wC).drew | exact (below_one wC (.map #[] 0)).drew)) hnn hmm).mono ?_;rintro e1 wK ⟨v1,rfl,hv1,bK⟩;have BK:=Lib.hid (chainN bK (by first | exact B1.out | exact B2.out));have BK1:=Lib.hid (fun o=>chainN (below_one wK o) BK.out);have BK2:=Lib.hid (fun o o'=>chainN (below_two wK o o') BK.out);have BKC:Hid (Below wC.heap.size wC wK):=Lib.hid (chainN bK (by first | exact (Below.refl wC.heap.size wC).drew | exact (below_one wC (.map #[] 0)).drew));have hvC:=hv1;obtain ⟨AK,nK,cK,BBK,mK,dK,rfl,sK,iA,iB⟩:=hv1;have SK:=Lib.hid sK;have IA:=Lib.hid iA;have IB:=Lib.hid iB;(first | (have BKM:Hid (Below ((wC.alloc (.map #[] 0)).drew).heap.size ((wC.alloc (.map #[] 0)).drew) wK):=Lib.hid bK) | skip);clear hvC sK iA iB bK)
    | fail)
 ·have hm:=mapAt_made wK
  rw [← frM_none] at hm
  obtain ⟨F',q1,q2,q3⟩:=opened (w:=w) (w1:=wK.alloc (.map #[] 0)) (T:=⟨rt,ht,ct,sp,ep,fun _=>false,0,nd,z⟩) HPP.out HN.out HG.out HW.out (chainN (BK1.out (.map #[] 0)) B0.out) hm (chainN BK.out B0.out).size (SK.out.kept (below_one wK (.map #[] 0))) (Hi.low IA.out HWC.out.size) (Hi.low IB.out HWC.out.size) ⟨HF.out,fun p h=>(by cases h),hz,h1,h2⟩
  rw [show (wK.alloc (.map #[] 0)).heap.size=wK.heap.size+1 by simp] at q1 q3
  have HD:Hid (TOpn W G w pb db f ⟨rt,ht,ct,sp,ep,fun _=>false,0,nd,z⟩ (.returned (.tuple #[.pointer (some ⟨wK.heap.size+1,0,none⟩),.int .i64 0])) ((wK.alloc (.map #[] 0)).alloc (.cells (treeCells pb wK.heap.size AK nK cK BBK mK dK ⟨rt,ht,ct,sp,ep,fun _=>false,0,nd,z⟩) 82))):=Lib.hid
   ⟨_,_,_,_,_,_,_,_,F',rfl,q1,q2,q3,fun k hk=>by
    have hs1:=(chainN BK.out B0.out).size
    have hs2:=HWC.out.size
    rcases hk with rfl | rfl | ⟨h0,ad,e,rfl⟩ | ⟨h0,ad,e,rfl⟩
    ·omega
    ·exact hs1
    ·have:=IA.out ad e
     simp at this
     omega
    ·have:=IB.out ad e
     simp at this
     omega,chainN (BK2.out (.map #[] 0) _) B0.out⟩
  clear hm q1 q2 q3
  unfold treeCells at HD
  go_wp2_with fail
  go_ret2
  exact HD.out
 ·have hm:=((mapAt_made wC).block (w':=(wC.alloc (.map #[] 0)).drew) rfl).block (w':=wK) (BKM.out.block wC.heap.size (by show wC.heap.size<(wC.alloc (.map #[] 0)).heap.size;simp))
  rw [← frM_none] at hm
  obtain ⟨F',q1,q2,q3⟩:=opened (w:=w) (w1:=wK) (T:=⟨rt,ht,ct,sp,ep,fun _=>false,0,nd,z⟩) HPP.out HN.out HG.out HW.out (chainN BK.out B0.out) hm HWC.out.size SK.out (Hi.low IA.out (by have:=HWC.out.size;simp;omega)) (Hi.low IB.out (by have:=HWC.out.size;simp;omega)) ⟨HF.out,fun p h=>(by cases h),hz,h1,h2⟩
  have HD:Hid (TOpn W G w pb db f ⟨rt,ht,ct,sp,ep,fun _=>false,0,nd,z⟩ (.returned (.tuple #[.pointer (some ⟨wK.heap.size,0,none⟩),.int .i64 0])) (wK.alloc (.cells (treeCells pb wC.heap.size AK nK cK BBK mK dK ⟨rt,ht,ct,sp,ep,fun _=>false,0,nd,z⟩) 82))):=Lib.hid
   ⟨_,_,_,_,_,_,_,_,F',rfl,q1,q2,q3,fun k hk=>by
    have hs1:=(chainN BK.out B0.out).size
    have hs2:=HWC.out.size
    rcases hk with rfl | rfl | ⟨h0,ad,e,rfl⟩ | ⟨h0,ad,e,rfl⟩
    ·exact hs1
    ·exact hs2
    ·have:=IA.out ad e
     simp at this
     omega
    ·have:=IB.out ad e
     simp at this
     omega,chainN (BK1.out _) B0.out⟩
  clear hm q1 q2 q3
  unfold treeCells at HD
  go_wp2_with fail
  go_ret2
  exact HD.out
end
end Go.Proofs.YtccphijgcapeoaaGreat
/-
  What the statements' own New comes to: an empty tree on a new disk. Conditions: none.
-/
namespace Go.Proofs.YtccphijgcapeoaaGreat
open Go.RowKit Go.Maps
theorem SS.new_fine (z:Nat) (hz:2≤z):SS.Fine ⟨2,[],[]⟩ z :=
 ⟨Int.le_refl _,by show (2:Int)≤z;omega,List.Pairwise.nil,fun x hx=>(by cases hx),List.Pairwise.nil,fun x hx=>(by cases hx),fun x hx=>(by cases hx),fun x hx=>(by cases hx),List.nodup_nil⟩
def TS.new (nd:Int→Option ND) (z:Nat):TS:=⟨0,0,0,⟨2,[],[]⟩,1,fun _=>false,0,nd,z⟩
theorem TS.new_tr (nd:Int→Option ND) (z:Nat) (hz:2≤z) (h2:z≤2147483647):TT.Tr [] nd (TS.new nd z) [] [] :=
 {acc:=⟨SS.new_fine z hz,List.nodup_nil,fun p hp=>(by cases hp),rfl,fun x hx=>(by cases hx),Int.one_nonneg,fun p hp=>(by cases hp),fun x hx=>(by cases hx),fun p hp=>(by cases hp),fun p hp=>(by cases hp)⟩
  root:=Or.inl ⟨rfl,rfl,rfl,rfl⟩
  ct:=rfl
  lost:=rfl
  z_:=h2 }
def LNewT (W w:World) (n:Nat) (e:Ending) (w':World):Prop :=
 ∃ tb mb pb db A k c B m d G F f nd,e = .returned (.tuple #[.pointer (some ⟨tb,0,none⟩),.pointer (some ⟨pb,0,none⟩)])∧TAt W G F w' tb mb pb db A k c B m d f (TS.new nd n)∧Below w.heap.size w w'∧∀ k,F k→w.heap.size≤k
theorem lnew_live {W:World} (w:World) (n fr:Nat) (h1:2≤n) (h2:n≤4096) (h3:1≤fr) (h4:fr≤12) (hW:Below W.heap.size W w) :
 Calls Tryz.prog 11 #[.int .i64 ((n:Nat):Int),.int .i64 ((fr:Nat):Int)] w (LNewT W w n):=by
 have HW:=Lib.hid hW
 clear hW
 go_enter Tryz.func11,Tryz.ntmps11
 go_wp2_with fail
 refine (new_live (W:=W) w n h1 h2 HW.out).mono ?_
 rintro e w1 ⟨db,D,rfl,hd,b1,hD⟩
 have HD:=Lib.hid hd
 have B1:=Lib.hid b1
 have HDD:=Lib.hid hD
 clear hd b1 hD
 go_wp2_with fail
 refine (pnew_live (W:=W) w1 fr h3 (by omega) HD.out).mono ?_
 rintro e w2 ⟨pb,G,rfl,hp,m2,b2⟩
 have B2:=Lib.hid (chainN b2 B1.out)
 have HG:Hid (∀ k,G k→w.heap.size≤k):=Lib.hid (fun k hk=>by
  rcases m2.news k hk with e | e
  ·exact HDD.out k e
  ·exact Nat.le_trans B1.out.size e)
 have TP:Hid (TPool W G w2 pb db (PS.new n).held n):=Lib.hid ⟨_,fr,hp,free_new (new_well n) (new_ok n) h3 rfl,h4⟩
 have HPB:=Lib.hid hp.base
 have HBL:=Lib.hid hp.below
 have OL:=open_live (W:=W) w2 0 0 0 1 0 none 0 0 none 0 0 none 0 0 ⟨2,[],[]⟩ n (fun p=>rdN p ((PS.new n).held p)) TP.out (fun _ _ _=>rfl) HPB.out HBL.out ⟨Ln.none_ w2 1,Ln.none_ w2 2⟩ (SS.new_fine n h1) h2 (by decide) (by decide) (by decide) rfl (by decide) (by decide)
 have HO:=Lib.hid OL
 rw [show (((0:Nat):Int))=0 from rfl] at HO
 clear OL hp m2 b2 HD
 go_wp2_with fail
 refine HO.out.mono ?_
 rintro e w3 ⟨tb,mb,A,k,c,B,m,d,F,rfl,ht,m3,hF,hown,b3⟩
 have HX:Hid (LNewT W w n (.returned (.tuple #[.pointer (some ⟨tb,0,none⟩),.pointer (some ⟨pb,0,none⟩)])) w3):=Lib.hid ⟨tb,mb,pb,db,A,k,c,B,m,d,G,F,_,_,rfl,ht,chainN b3 B2.out,fun k hk=>by
  rcases (hF k).1 hk with e | e
  ·exact HG.out k e
  ·exact Nat.le_trans B2.out.size (hown k e)⟩
 clear ht m3 hF hown b3 HO
 go_wp2_with fail
 go_ret2
 exact HX.out
end Go.Proofs.YtccphijgcapeoaaGreat
/-
  What the tree's At, Space and Node come to. Conditions: none.
-/
namespace Go.Proofs.YtccphijgcapeoaaGreat
open Go.RowKit Go.Maps
def UBx (w:World) (g:Nat) (a b c d e:Value):Prop:=w.heap[g]?=some (.cells #[a,b,c,d,e] 38 (0,0))
theorem UBx.lt {w:World} {g:Nat} {a b c d e:Value} (h:UBx w g a b c d e):g<w.heap.size:=(Array.getElem?_eq_some_iff.1 h).1
theorem UBx.kept {w w':World} {g:Nat} {a b c d e:Value} (h:UBx w g a b c d e) (hb:Below w.heap.size w w'):UBx w' g a b c d e:=(hb.block g h.lt).trans h
theorem UBx.cells {w:World} {g:Nat} {a b c d e:Value} (h:UBx w g a b c d e):w.cell? ⟨g,0,none⟩=some a∧w.cell? ⟨g,1,none⟩=some b∧w.cell? ⟨g,2,none⟩=some c∧w.cell? ⟨g,3,none⟩=some d∧w.cell? ⟨g,4,none⟩=some e :=
 ⟨(cell_of_row w g 0 _ _ _ h).trans rfl,(cell_of_row w g 1 _ _ _ h).trans rfl,(cell_of_row w g 2 _ _ _ h).trans rfl,(cell_of_row w g 3 _ _ _ h).trans rfl,(cell_of_row w g 4 _ _ _ h).trans rfl⟩
theorem UBx.free {w:World} {g:Nat} {a b c d e:Value} (h:UBx w g a b c d e) (j:Nat):w.frozen? ⟨g,j,none⟩=false:=frozen_of_row w g j _ _ h
theorem ubx_new (w:World) (a b c d e:Value):UBx (w.alloc (.cells #[a,b,c,d,e] 38)) w.heap.size a b c d e:=heap_alloc_new w _
theorem UBx.put {w:World} {g:Nat} {a b c d e:Value} (h:UBx w g a b c d e) (a' b' c' d' e':Value):UBx (((((w.setCell ⟨g,0,none⟩ a').setCell ⟨g,1,none⟩ b').setCell ⟨g,2,none⟩ c').setCell ⟨g,3,none⟩ d').setCell ⟨g,4,none⟩ e') g a' b' c' d' e':=by
 have e1:=Joins.block_setCell (i:=0) h a'
 have e2:=Joins.block_setCell (i:=1) e1 b'
 have e3:=Joins.block_setCell (i:=2) e2 c'
 have e4:=Joins.block_setCell (i:=3) e3 d'
 have e5:=Joins.block_setCell (i:=4) e4 e'
 exact e5
theorem below_put5 {B:Nat} {a w:World} {r:Nat} (h:Below B a w) (hr:B≤r) (x y z p q:Value):Below B a (((((w.setCell ⟨r,0,none⟩ x).setCell ⟨r,1,none⟩ y).setCell ⟨r,2,none⟩ z).setCell ⟨r,3,none⟩ p).setCell ⟨r,4,none⟩ q):=((((h.setCell hr _).setCell hr _).setCell hr _).setCell hr _).setCell hr _
def atV (t:TS):Value := .agg #[.int .i64 t.ep,.int .i64 t.rt,.int .i64 ((t.ht:Nat):Int),.slice none 0 0,.int .i64 t.ct]
section
variable {W w w':World} {G F F':Nat→Prop} {tb mb pb db:Nat} {A B:Option Addr} {n c m d:Nat} {f:Int→List UInt8} {t t':TS}
theorem at_any (w:World) (h:TBox w tb mb pb A n c B m d t) :
 Calls Tryz.prog 14 #[.pointer (some ⟨tb,0,none⟩)] w fun e w'=>e = .returned (atV t)∧Below w.heap.size w w':=by
 have b0:=below_one w (.cells #[.int .i64 0,.int .i64 0,.int .i64 0,.slice none 0 0,.int .i64 0] 38)
 have HR:=Lib.hid (ubx_new w (.int .i64 0) (.int .i64 0) (.int .i64 0) (.slice none 0 0) (.int .i64 0))
 have B0:=Lib.hid b0
 have hcell:∀ wx,Below w.heap.size w wx→wx.cell? ⟨tb,0,none⟩=some (.pointer (some ⟨pb,0,none⟩))∧wx.cell? ⟨tb,1,none⟩=some (.int .i64 t.rt)∧wx.cell? ⟨tb,2,none⟩=some (.int .i64 ((t.ht:Nat):Int))∧wx.cell? ⟨tb,3,none⟩=some (.int .i64 t.ct)∧wx.cell? ⟨tb,7,none⟩=some (.int .i64 t.ep):=fun wx b=>by
  have hs:=(b.block tb h.lt).trans h.str
  exact ⟨(cell_of_row wx tb 0 _ _ _ hs).trans rfl,(cell_of_row wx tb 1 _ _ _ hs).trans rfl,(cell_of_row wx tb 2 _ _ _ hs).trans rfl,(cell_of_row wx tb 3 _ _ _ hs).trans rfl,(cell_of_row wx tb 7 _ _ _ hs).trans rfl⟩
 have HC:=Lib.hid hcell
 clear b0 h hcell
 unfold atV
 go_enter Tryz.func14,Tryz.ntmps14
 go_upto_region 1 with fail
 generalize w.alloc (.cells #[.int .i64 0,.int .i64 0,.int .i64 0,.slice none 0 0,.int .i64 0] 38)=w0 at *
 go_wp2_with fail
 refine (tmade_yes w0 tb pb (HC.out w0 B0.out).1).mono ?_
 rintro e wx ⟨rfl,hwx⟩
 subst hwx
 go_upto_region 3 with fail
 have BD:=Lib.hid ((Below.refl w0.heap.size w0).drew)
 obtain ⟨c0,c1,c2,c3,c7⟩:=HC.out w0.drew (B0.out.drew)
 obtain ⟨x0,x1,x2,x3,x4⟩:=(HR.out.kept BD.out).cells
 have g0:=(HR.out.kept BD.out).free 0
 have g1:=(HR.out.kept BD.out).free 1
 have g2:=(HR.out.kept BD.out).free 2
 have g3:=(HR.out.kept BD.out).free 3
 have g4:=(HR.out.kept BD.out).free 4
 obtain ⟨u0,u1,u2,u3,u4⟩:=HR.out.cells
 have v0:=HR.out.free 0
 have v1:=HR.out.free 1
 have v2:=HR.out.free 2
 have v3:=HR.out.free 3
 have v4:=HR.out.free 4
 have HX:=Lib.hid ((HR.out.put (.int .i64 t.ep) (.int .i64 t.rt) (.int .i64 ((t.ht:Nat):Int)) (.slice none 0 0) (.int .i64 t.ct)).kept ((Below.refl _ _).drew)).cells
 have HBX:=Lib.hid ((below_put5 B0.out (Nat.le_refl w.heap.size) (.int .i64 t.ep) (.int .i64 t.rt) (.int .i64 ((t.ht:Nat):Int)) (.slice none 0 0) (.int .i64 t.ct)).drew)
 go_region
 all_goals (
  go_wp2_with fail
  obtain ⟨z0,z1,z2,z3,z4⟩:=HX.out
  refine bodyPost_ret (v := .agg #[.int .i64 t.ep,.int .i64 t.rt,.int .i64 ((t.ht:Nat):Int),.slice none 0 0,.int .i64 t.ct]) (by simp [results,Tryz.results14,go_sem,z0,z1,z2,z3,z4]) rfl ?_
  exact ⟨rfl,HBX.out⟩)
theorem tspace_any (w:World) (h:TBox w tb mb pb A n c B m d t) :
 Calls Tryz.prog 18 #[.pointer (some ⟨tb,0,none⟩)] w (SpCop w t.sp):=by
 have b0:=below_one w (.cells #[.int .i64 0,.slice none 0 0,.slice none 0 0] 49)
 have HR:=Lib.hid (box_new w (.int .i64 0) (.slice none 0 0) (.slice none 0 0))
 have B0:=Lib.hid b0
 have hcell:∀ wx,Below w.heap.size w wx→wx.cell? ⟨tb,0,none⟩=some (.pointer (some ⟨pb,0,none⟩))∧wx.cell? ⟨tb,4,none⟩=some (.int .i64 t.sp.hi)∧wx.cell? ⟨tb,5,none⟩=some (.slice A n c)∧wx.cell? ⟨tb,6,none⟩=some (.slice B m d):=fun wx b=>by
  have hs:=(b.block tb h.lt).trans h.str
  exact ⟨(cell_of_row wx tb 0 _ _ _ hs).trans rfl,(cell_of_row wx tb 4 _ _ _ hs).trans rfl,(cell_of_row wx tb 5 _ _ _ hs).trans rfl,(cell_of_row wx tb 6 _ _ _ hs).trans rfl⟩
 have HC:=Lib.hid hcell
 have HS:=Lib.hid (h.sp.kept b0)
 have hf:=h.fit.few
 have hn:n≤4096:=by rw [← h.sp.fl];exact hf.1
 have hm:m≤4096:=by rw [← h.sp.pl];exact hf.2.1
 clear b0 h hcell hf
 go_enter Tryz.func18,Tryz.ntmps18
 go_upto_region 1 with fail
 generalize w.alloc (.cells #[.int .i64 0,.slice none 0 0,.slice none 0 0] 49)=w0 at *
 go_wp2_with fail
 refine (tmade_yes w0 tb pb (HC.out w0 B0.out).1).mono ?_
 rintro e wx ⟨rfl,hwx⟩
 subst hwx
 obtain ⟨c0,c4,c5,c6⟩:=HC.out w0 B0.out
 go_wp2_with fail
 refine (tcopied_any t.sp.hi A n c B m d t.sp w0 rfl HS.out (by omega) (by omega)).mono ?_
 rintro e w1 ⟨v1,rfl,⟨A1,n1,k1,B1,m1,d1,rfl,s1,i1,j1⟩,b1⟩
 have HBX:=Lib.hid (chainN b1 B0.out)
 have hbx:=HR.out.kept b1
 obtain ⟨x0,x1,x2⟩:=hbx.cells
 obtain ⟨g0,g1,g2⟩:=hbx.free
 have HE:=Lib.hid (hbx.put (.int .i64 t.sp.hi) (.slice A1 n1 k1) (.slice B1 m1 d1)).cells
 have hl:=HR.out.lt
 have HD:Hid (SpCop w t.sp (.returned (.agg #[.int .i64 t.sp.hi,.slice A1 n1 k1,.slice B1 m1 d1])) (((w1.setCell ⟨w.heap.size,0,none⟩ (.int .i64 t.sp.hi)).setCell ⟨w.heap.size,1,none⟩ (.slice A1 n1 k1)).setCell ⟨w.heap.size,2,none⟩ (.slice B1 m1 d1))):=Lib.hid
  ⟨_,rfl,⟨A1,n1,k1,B1,m1,d1,rfl,sp_put s1 (fun _ ad e=>by have:=i1 ad e;omega) (fun _ ad e=>by have:=j1 ad e;omega) _ _ _,Hi.low i1 B0.out.size,Hi.low j1 B0.out.size⟩,below_put HBX.out (Nat.le_refl _) _ _ _⟩
 clear hbx c0 c4 c5 c6 s1 i1 j1 b1 hl
 go_wp2_with fail
 obtain ⟨z0,z1,z2⟩:=HE.out
 refine bodyPost_ret (v := .agg #[.int .i64 t.sp.hi,.slice A1 n1 k1,.slice B1 m1 d1]) (by simp [results,Tryz.results18,go_sem,z0,z1,z2]) rfl ?_
 exact HD.out
end
end Go.Proofs.YtccphijgcapeoaaGreat
/-
  What the statements' own awake comes to. Conditions: none.
-/
namespace Go.Proofs.YtccphijgcapeoaaGreat
open Go.RowKit Go.Maps
theorem wake_text (c:UInt8):ByteArray.toList ⟨#[c]⟩=[c]:=by rw [toList_data]
theorem wake_none:ByteArray.toList ⟨#[]⟩=[]:=by rw [toList_data]
def oneN:ND:=⟨true,[[97]],[[49]],[]⟩
def TS.one (nd:Int→Option ND):TS:=⟨2,1,1,⟨3,[],[]⟩,1,TS.setB (fun _=>false) 2 true,0,TS.setN nd 2 oneN,16⟩
def TS.two (nd:Int→Option ND):TS:=⟨0,0,0,⟨3,[2],[]⟩,1,TS.setB (TS.setB (fun _=>false) 2 true) 2 false,0,TS.setN nd 2 oneN,16⟩
theorem wake_put (nd:Int→Option ND):(TS.new nd 16).put [97] [49]=(0,TS.one nd):=by rfl
theorem wake_get (nd:Int→Option ND):(TS.one nd).get [97]=([49],true,0,TS.one nd):=by rfl
theorem wake_gets (nd:Int→Option ND):(TS.one nd).get [98]=([],false,0,TS.one nd):=by rfl
theorem wake_bad (nd:Int→Option ND):(TS.one nd).put [] []=(120,TS.one nd):=by rfl
theorem wake_del (nd:Int→Option ND):(TS.one nd).del [97]=(true,0,TS.two nd):=by rfl
theorem wake_dels (nd:Int→Option ND):(TS.two nd).del [97]=(false,0,TS.two nd):=by rfl
theorem wake_tr (nd:Int→Option ND):∃ L,TT.Tr [] nd (TS.one nd) (TT.putE [97] [49] []) L:=by
 rcases (TS.new_tr nd 16 (by decide) (by decide)).put1 (key:=[97]) (val:=[49]) (by decide) with ⟨t',e,_⟩ | ⟨t',L',e,tr,_⟩
 ·rw [wake_put] at e
  injection e with e1 e2
  exact absurd e1 (by decide)
 ·rw [wake_put] at e
  injection e with e1 e2
  subst e2
  exact ⟨L',tr⟩
theorem wake_trs (nd:Int→Option ND):∃ L,TT.Tr [] nd (TS.two nd) (TT.delE [97] (TT.putE [97] [49] [])) L:=by
 obtain ⟨L,h⟩:=wake_tr nd
 rcases h.del1 [97] with ⟨t',e,_⟩ | ⟨t',L',e,tr,_⟩
 ·rw [wake_del] at e
  injection e with e1 e2
  exact absurd e1 (by decide)
 ·rw [wake_del] at e
  injection e with e1 e2
  injection e2 with e2 e3
  subst e3
  exact ⟨L',tr⟩
section
variable {W w w':World} {F F':Nat→Prop} {tb pb db:Nat} {t t':TS}
theorem tat_live (w:World) (h:Tree W F w tb pb db t):Calls Tryz.prog 14 #[.pointer (some ⟨tb,0,none⟩)] w fun e w'=>e = .returned (atV t)∧Below w.heap.size w w':=by
 obtain ⟨G,mb,A,n,c,B,m,d,f,h⟩:=h
 exact at_any w h.box
theorem tspace_live (w:World) (h:Tree W F w tb pb db t):Calls Tryz.prog 18 #[.pointer (some ⟨tb,0,none⟩)] w (SpCop w t.sp):=by
 obtain ⟨G,mb,A,n,c,B,m,d,f,h⟩:=h
 exact tspace_any w h.box
theorem UBx.moves {g:Nat} {a b c d e:Value} (h:UBx w g a b c d e) (m:Moves w F w' F') (hF:¬ F g):UBx w' g a b c d e:=(m.kept.block g h.lt hF).trans h
theorem awake_live (w:World):Calls Tryz.prog 10 #[] w fun e w'=>e = .returned (.bool true)∧Below w.heap.size w w':=by
 have hN:=lnew_live (W:=w) w 16 3 (by decide) (by decide) (by decide) (by decide) (Below.refl _ _)
 rw [show (((16:Nat):Int))=16 from rfl,show (((3:Nat):Int))=3 from rfl] at hN
 have HN:=Lib.hid hN
 clear hN
 go_enter Tryz.func10,Tryz.ntmps10
 go_wp2_with fail
 refine HN.out.mono ?_
 rintro e w1 ⟨tb,mb,pb,db,A,k,c,B,m,d,G,F,f,nd,rfl,ht,b1,hF⟩
 have H1:=Lib.hid ht.tree
 obtain ⟨L1,tr1⟩:=wake_tr nd
 obtain ⟨L2,tr2⟩:=wake_trs nd
 have T0:=Lib.hid (TS.new_tr nd 16 (by decide) (by decide))
 have T1:=Lib.hid tr1
 have T2:=Lib.hid tr2
 clear HN ht b1 hF tr1 tr2
 have CP:=aPut_live w1 ⟨#[97]⟩ ⟨#[49]⟩ (fun _ hb=>T0.out.chgPut (by decide) hb) H1.out
 rw [wake_text,wake_text,wake_put] at CP
 have HCP:=Lib.hid CP
 clear CP
 go_wp2_with fail
 refine HCP.out.mono ?_
 rintro e w2 ⟨rfl,F2,h2,m2⟩
 have H2:=Lib.hid h2
 clear HCP h2 m2 H1 T0
 have CG:=aGet_live w2 ⟨#[97]⟩ (T1.out.wayIn _) (show 1≤1000 by decide) H2.out
 rw [wake_text,wake_get] at CG
 unfold TGot at CG
 rw [show (Go.Proofs.YtccphijgcapeoaaGreat.tb [49])=⟨#[49]⟩ from rfl] at CG
 have HCG:=Lib.hid CG
 clear CG
 go_wp2_with fail
 refine HCG.out.mono ?_
 rintro e w3 ⟨rfl,F3,h3,m3⟩
 have H3:=Lib.hid h3
 clear HCG h3 m3 H2
 have CG:=aGet_live w3 ⟨#[98]⟩ (T1.out.wayIn _) (show 1≤1000 by decide) H3.out
 rw [wake_text,wake_gets] at CG
 unfold TGot at CG
 rw [show (Go.Proofs.YtccphijgcapeoaaGreat.tb [])=⟨#[]⟩ from rfl] at CG
 have HCG:=Lib.hid CG
 clear CG
 go_wp2_with fail
 refine HCG.out.mono ?_
 rintro e w4 ⟨rfl,F4,h4,m4⟩
 have H4:=Lib.hid h4
 clear HCG h4 m4 H3
 go_wp2_with fail
 refine (tat_live w4 H4.out).mono ?_
 rintro e w5 ⟨rfl,b5⟩
 have b6:=below_one w5 (.cells #[.int .i64 1,.int .i64 2,.int .i64 1,.slice none 0 0,.int .i64 1] 38)
 have HU:=Lib.hid (ubx_new w5 (.int .i64 1) (.int .i64 2) (.int .i64 1) (.slice none 0 0) (.int .i64 1))
 have NU:=Lib.hid (H4.out.new b5.size)
 have H6:=Lib.hid (H4.out.kept (chainN b6 b5))
 clear b5 b6 H4
 unfold atV
 rw [show (((TS.one nd).ht:Nat):Int)=1 from rfl,show (TS.one nd).ep=1 from rfl,show (TS.one nd).rt=2 from rfl,show (TS.one nd).ct=1 from rfl]
 go_upto_region 8 with fail
 generalize hw6:w5.alloc (.cells #[.int .i64 1,.int .i64 2,.int .i64 1,.slice none 0 0,.int .i64 1] 38)=w6 at *
 generalize w5.heap.size=g10 at *
 clear hw6
 have CP:=aPut_live w6 ⟨#[]⟩ ⟨#[]⟩ (fun _ hb=>T1.out.chgPut (by decide) hb) H6.out
 rw [wake_none,wake_bad] at CP
 have HCP:=Lib.hid CP
 clear CP
 go_wp2_with fail
 refine HCP.out.mono ?_
 rintro e w7 ⟨rfl,F7,h7,m7⟩
 have H7:=Lib.hid h7
 have HU7:=Lib.hid (HU.out.moves m7 NU.out)
 have NU7:=Lib.hid (m7.not HU.out.lt NU.out)
 clear HCP h7 m7 H6 HU NU
 have CD:=aDel_live w7 ⟨#[97]⟩ (fun _=>T1.out.chgDel (by decide) _) H7.out
 rw [wake_text,wake_del] at CD
 have HCD:=Lib.hid CD
 clear CD
 go_wp2_with fail
 refine HCD.out.mono ?_
 rintro e w8 ⟨rfl,F8,h8,m8⟩
 have H8:=Lib.hid h8
 have HU8:=Lib.hid (HU7.out.moves m8 NU7.out)
 have NU8:=Lib.hid (m8.not HU7.out.lt NU7.out)
 clear HCD h8 m8 H7 HU7 NU7
 have CD:=aDel_live w8 ⟨#[97]⟩ (fun _=>T2.out.chgDel (by decide) _) H8.out
 rw [wake_text,wake_dels] at CD
 have HCD:=Lib.hid CD
 clear CD
 go_wp2_with fail
 refine HCD.out.mono ?_
 rintro e w9 ⟨rfl,F9,h9,m9⟩
 have H9:=Lib.hid h9
 have HU9:=Lib.hid (HU8.out.moves m9 NU8.out)
 clear HCD h9 m9 H8 HU8 NU8
 go_wp2_with fail
 refine (tat_live w9 H9.out).mono ?_
 rintro e w10 ⟨rfl,b10⟩
 have b11:=below_one w10 (.cells #[.int .i64 1,.int .i64 0,.int .i64 0,.slice none 0 0,.int .i64 0] 38)
 have HV:=Lib.hid (ubx_new w10 (.int .i64 1) (.int .i64 0) (.int .i64 0) (.slice none 0 0) (.int .i64 0))
 have H11:=Lib.hid (H9.out.kept (chainN b11 b10))
 have HU11:=Lib.hid (HU9.out.kept (chainN b11 b10))
 clear b10 b11 H9 HU9
 unfold atV
 rw [show (((TS.two nd).ht:Nat):Int)=0 from rfl,show (TS.two nd).ep=1 from rfl,show (TS.two nd).rt=0 from rfl,show (TS.two nd).ct=0 from rfl]
 go_upto_region 12 with fail
 generalize hw11:w10.alloc (.cells #[.int .i64 1,.int .i64 0,.int .i64 0,.slice none 0 0,.int .i64 0] 38)=w11 at *
 generalize w10.heap.size=g16 at *
 clear hw11
 go_wp2_with fail
 refine (tspace_live w11 H11.out).mono ?_
 rintro e w12 ⟨v12,rfl,⟨SA,sn,sc,SB,sm,sd,rfl,hs,_,_⟩,b12⟩
 have b13:=below_one w12 (.cells #[.int .i64 3,.slice SA sn sc,.slice SB sm sd] 49)
 have HS:=Lib.hid (box_new w12 (.int .i64 3) (.slice SA sn sc) (.slice SB sm sd))
 have H13:=Lib.hid (H11.out.kept (chainN b13 b12))
 have HU13:=Lib.hid (HU11.out.kept (chainN b13 b12))
 have HV13:=Lib.hid (HV.out.kept (chainN b13 b12))
 have hfr:Ln (w12.alloc (.cells #[.int .i64 3,.slice SA sn sc,.slice SB sm sd] 49)) 1 SA sn sc (intVals [2]):=hs.fr.kept b13
 obtain rfl:1=sn:=hfr.intN
 obtain ⟨bl,off,z,rfl,hz,fc⟩:=hfr.intAt (k:=0) (by decide)
 obtain rfl:2=z:=Option.some.inj hz
 have HFC:=Lib.hid fc
 clear b12 b13 H11 HU11 HV hs hfr fc hz
 rw [show (TS.two nd).sp.hi=3 from rfl]
 go_upto_region 13 with fail
 generalize hw13:w12.alloc (.cells #[.int .i64 3,.slice (some ⟨bl,off,none⟩) 1 sc,.slice SB sm sd] 49)=w13 at *
 generalize w12.heap.size=g17 at *
 clear hw13
 obtain ⟨_,u1,u2,_,u4⟩:=HU13.out.cells
 obtain ⟨_,v1,v2,_,_⟩:=HV13.out.cells
 obtain ⟨_,s1,_⟩:=HS.out.cells
 have fc:=HFC.out
 rw [Nat.add_zero] at fc
 go_wp2_with fail
 go_ret
 exact ⟨rfl,H13.out.below⟩
end
end Go.Proofs.YtccphijgcapeoaaGreat
/-
  What the tree's calls on none come to. Conditions: none.
-/
namespace Go.Proofs.YtccphijgcapeoaaGreat
open Go.RowKit Go.Maps
theorem nil_get (w:World) (key:ByteArray):Calls Tryz.prog 23 #[.pointer none,.string key] w fun e w'=>e = .returned (.tuple #[.string ⟨#[]⟩,.bool false,.int .i64 1])∧Below w.heap.size w w':=by
 go_enter Tryz.func23,Tryz.ntmps23
 go_wp2_with fail
 refine (refusal_no w).mono ?_
 rintro e wx ⟨rfl,hwx⟩
 subst hwx
 go_wp2_with fail
 refine bodyPost_ret (v := .tuple #[.string ⟨#[]⟩,.bool false,.int .i64 1]) (by simp [results,Tryz.results23,go_sem]) rfl ?_
 exact ⟨rfl,Below.refl _ _⟩
theorem nil_put (w:World) (key val:ByteArray):Calls Tryz.prog 21 #[.pointer none,.string key,.string val] w fun e w'=>e = .returned (.int .i64 1)∧Below w.heap.size w w':=by
 have HB:=Lib.hid (below_two w (.cells #[.string key] 9) (.cells #[.string val] 9))
 go_enter Tryz.func21,Tryz.ntmps21
 go_upto_region 1 with fail
 generalize (w.alloc (.cells #[.string key] 9)).alloc (.cells #[.string val] 9)=w1 at *
 go_wp2_with fail
 refine (refusal_no w1).mono ?_
 rintro e wx ⟨rfl,hwx⟩
 subst hwx
 go_wp2_with fail
 go_ret
 exact ⟨rfl,HB.out⟩
theorem nil_del (w:World) (key:ByteArray):Calls Tryz.prog 28 #[.pointer none,.string key] w fun e w'=>e = .returned (.tuple #[.bool false,.int .i64 1])∧Below w.heap.size w w':=by
 have HB:=Lib.hid (below_one w (.cells #[.string key] 9))
 go_enter Tryz.func28,Tryz.ntmps28
 go_upto_region 1 with fail
 generalize w.alloc (.cells #[.string key] 9)=w1 at *
 go_wp2_with fail
 refine (refusal_no w1).mono ?_
 rintro e wx ⟨rfl,hwx⟩
 subst hwx
 go_wp2_with fail
 refine bodyPost_ret (v := .tuple #[.bool false,.int .i64 1]) (by simp [results,Tryz.results28,go_sem]) rfl ?_
 exact ⟨rfl,HB.out⟩
theorem nil_node (w:World) (p:Int):Calls Tryz.prog 29 #[.pointer none,.int .i64 p] w fun e w'=>e = .returned (.tuple #[.agg #[.bool false,.slice none 0 0,.slice none 0 0,.slice none 0 0],.int .i64 1])∧Below w.heap.size w w':=by
 have HB:=Lib.hid (below_one w (.cells #[.bool false,.slice none 0 0,.slice none 0 0,.slice none 0 0] 68))
 have HN:=Lib.hid (nbox_new w (.bool false) (.slice none 0 0) (.slice none 0 0) (.slice none 0 0))
 go_enter Tryz.func29,Tryz.ntmps29
 go_upto_region 1 with fail
 generalize w.alloc (.cells #[.bool false,.slice none 0 0,.slice none 0 0,.slice none 0 0] 68)=w1 at *
 go_wp2_with fail
 refine (refusal_no w1).mono ?_
 rintro e wx ⟨rfl,hwx⟩
 subst hwx
 obtain ⟨x0,x1,x2,x3⟩:=HN.out.cells
 obtain ⟨f0,f1,f2,f3⟩:=HN.out.free
 have HE:=Lib.hid (HN.out.put (.bool false) (.slice none 0 0) (.slice none 0 0) (.slice none 0 0)).cells
 have HX:=Lib.hid (below_nput HB.out (Nat.le_refl w.heap.size) (.bool false) (.slice none 0 0) (.slice none 0 0) (.slice none 0 0))
 go_wp2_with fail
 obtain ⟨z0,z1,z2,z3⟩:=HE.out
 refine bodyPost_ret (v := .tuple #[.agg #[.bool false,.slice none 0 0,.slice none 0 0,.slice none 0 0],.int .i64 1]) (by simp [results,Tryz.results29,go_sem,z0,z1,z2,z3]) rfl ?_
 exact ⟨rfl,HX.out⟩
theorem nil_take (w:World):Calls Tryz.prog 30 #[.pointer none] w fun e w'=>e = .returned (.tuple #[.int .i64 0,.int .i64 1])∧Below w.heap.size w w':=by
 go_enter Tryz.func30,Tryz.ntmps30
 go_wp2_with fail
 refine (refusal_no w).mono ?_
 rintro e wx ⟨rfl,hwx⟩
 subst hwx
 go_wp2_with fail
 go_ret2
 exact ⟨rfl,Below.refl _ _⟩
theorem nil_drop (w:World) (p:Int):Calls Tryz.prog 31 #[.pointer none,.int .i64 p] w fun e w'=>e = .returned (.int .i64 1)∧Below w.heap.size w w':=by
 go_enter Tryz.func31,Tryz.ntmps31
 go_wp2_with fail
 refine (refusal_no w).mono ?_
 rintro e wx ⟨rfl,hwx⟩
 subst hwx
 go_wp2_with fail
 go_ret
 exact ⟨rfl,Below.refl _ _⟩
theorem nil_space (w:World):Calls Tryz.prog 18 #[.pointer none] w fun e w'=>e = .returned (.agg #[.int .i64 0,.slice none 0 0,.slice none 0 0])∧Below w.heap.size w w':=by
 have HB:=Lib.hid (below_one w (.cells #[.int .i64 0,.slice none 0 0,.slice none 0 0] 49))
 have HN:=Lib.hid (box_new w (.int .i64 0) (.slice none 0 0) (.slice none 0 0))
 go_enter Tryz.func18,Tryz.ntmps18
 go_upto_region 1 with fail
 generalize w.alloc (.cells #[.int .i64 0,.slice none 0 0,.slice none 0 0] 49)=w1 at *
 go_wp2_with fail
 refine (tmade_no w1).mono ?_
 rintro e wx ⟨rfl,hwx⟩
 subst hwx
 obtain ⟨x0,x1,x2⟩:=HN.out.cells
 obtain ⟨f0,f1,f2⟩:=HN.out.free
 have HE:=Lib.hid (HN.out.put (.int .i64 0) (.slice none 0 0) (.slice none 0 0)).cells
 have HX:=Lib.hid (below_put HB.out (Nat.le_refl w.heap.size) (.int .i64 0) (.slice none 0 0) (.slice none 0 0))
 go_wp2_with fail
 obtain ⟨z0,z1,z2⟩:=HE.out
 refine bodyPost_ret (v := .agg #[.int .i64 0,.slice none 0 0,.slice none 0 0]) (by simp [results,Tryz.results18,go_sem,z0,z1,z2]) rfl ?_
 exact ⟨rfl,HX.out⟩
theorem nil_at (w:World):Calls Tryz.prog 14 #[.pointer none] w fun e w'=>e = .returned (.agg #[.int .i64 0,.int .i64 0,.int .i64 0,.slice none 0 0,.int .i64 0])∧Below w.heap.size w w':=by
 have hb:=below_one w (.cells #[.int .i64 0,.int .i64 0,.int .i64 0,.slice none 0 0,.int .i64 0] 38)
 have HN:=Lib.hid (ubx_new w (.int .i64 0) (.int .i64 0) (.int .i64 0) (.slice none 0 0) (.int .i64 0))
 have HB:=Lib.hid hb
 clear hb
 go_enter Tryz.func14,Tryz.ntmps14
 go_upto_region 1 with fail
 generalize w.alloc (.cells #[.int .i64 0,.int .i64 0,.int .i64 0,.slice none 0 0,.int .i64 0] 38)=w1 at *
 go_wp2_with fail
 refine (tmade_no w1).mono ?_
 rintro e wx ⟨rfl,hwx⟩
 subst hwx
 obtain ⟨x0,x1,x2,x3,x4⟩:=HN.out.cells
 have f0:=HN.out.free 0
 have f1:=HN.out.free 1
 have f2:=HN.out.free 2
 have f3:=HN.out.free 3
 have f4:=HN.out.free 4
 have HE:=Lib.hid (HN.out.put (.int .i64 0) (.int .i64 0) (.int .i64 0) (.slice none 0 0) (.int .i64 0)).cells
 have HX:=Lib.hid (below_put5 HB.out (Nat.le_refl w.heap.size) (.int .i64 0) (.int .i64 0) (.int .i64 0) (.slice none 0 0) (.int .i64 0))
 go_wp2_with fail
 obtain ⟨z0,z1,z2,z3,z4⟩:=HE.out
 refine bodyPost_ret (v := .agg #[.int .i64 0,.int .i64 0,.int .i64 0,.slice none 0 0,.int .i64 0]) (by simp [results,Tryz.results14,go_sem,z0,z1,z2,z3,z4]) rfl ?_
 exact ⟨rfl,HX.out⟩
theorem nil_open (w:World) (a b c d e x y z:Value) (ep:Int):Calls Tryz.prog 19 #[.pointer none,.agg #[a,b,c,d,e],.agg #[x,y,z],.int .i64 ep] w fun e w'=>e = .returned (.tuple #[.pointer none,.int .i64 1])∧Below w.heap.size w w':=by
 have HB:=Lib.hid (below_two w (.cells #[a,b,c,d,e] 38) (.cells #[x,y,z] 49))
 go_enter Tryz.func19,Tryz.ntmps19
 go_upto_region 1 with fail
 generalize (w.alloc (.cells #[a,b,c,d,e] 38)).alloc (.cells #[x,y,z] 49)=w1 at *
 go_wp2_with fail
 go_ret2
 exact ⟨rfl,HB.out⟩
end Go.Proofs.YtccphijgcapeoaaGreat
