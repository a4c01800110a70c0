/-
  A part of the proof: what its texts say stands at the head of each. Conditions: none.
-/
import Derived.IntWalk
import Derived.Test.YtccphijgcapeoaaGreatZQ1
import Derived.Test.YtccphijgcapeoaaGreatZQ4
import Derived.Test.YtccphijgcapeoaaGreatZQ10
import Derived.Test.YtccphijgcapeoaaGreatZQ15

set_option maxRecDepth 20000
set_option maxHeartbeats 12800000
/-
  What the statements' own did comes to: a tree and the document's entries, side by side. Conditions: none.
-/
namespace Go.Proofs.YtccphijgcapeoaaGreat
open Go.RowKit Go.Maps
def plus (F:Nat→Prop) (g:Nat):Nat→Prop:=fun k=>F k∨k=g
def TCl.step (c:TCl) (es:List TT.E):List TT.E :=
 if c.kind=1 then (if TS.badE c.key.toList c.val.toList then es else TT.putE c.key.toList c.val.toList es) else if c.kind=2 then TT.delE c.key.toList es else es
theorem step_len (c:TCl) (es:List TT.E):(c.step es).length≤es.length+1:=by
 unfold TCl.step
 split
 ·split
  ·omega
  ·rw [TT.put_len]
   split<;>omega
 ·split
  ·rw [TT.del_len]
   split<;>omega
  ·omega
def CBox (w:World) (g:Nat) (k:Int) (x y:ByteArray):Prop:=w.heap[g]?=some (.cells #[.int .i64 k,.string x,.string y] 34 (0,0))
section
variable {w w':World} {F F':Nat→Prop} {g:Nat} {k:Int} {x y:ByteArray}
theorem CBox.lt (h:CBox w g k x y):g<w.heap.size:=(Array.getElem?_eq_some_iff.1 h).1
theorem CBox.kept (h:CBox w g k x y) (hb:Below w.heap.size w w'):CBox w' g k x y:=(hb.block g h.lt).trans h
theorem CBox.moves (h:CBox w g k x y) (m:Moves w F w' F') (hF:¬ F g):CBox w' g k x y:=(m.kept.block g h.lt hF).trans h
theorem CBox.grown {q:Nat} (h:CBox w g k x y) (hg:w.grownBy w' (some q)) (hne:g≠q):CBox w' g k x y:=(hg.block g h.lt (fun e=>hne (Option.some.inj e))).trans h
theorem CBox.cells (h:CBox w g k x y):w.cell? ⟨g,0,none⟩=some (.int .i64 k)∧w.cell? ⟨g,1,none⟩=some (.string x)∧w.cell? ⟨g,2,none⟩=some (.string y) :=
 ⟨(cell_of_row w g 0 _ _ _ h).trans rfl,(cell_of_row w g 1 _ _ _ h).trans rfl,(cell_of_row w g 2 _ _ _ h).trans rfl⟩
theorem cbox_new (w:World) (k:Int) (x y:ByteArray):CBox (w.alloc (.cells #[.int .i64 k,.string x,.string y] 34)) w.heap.size k x y:=heap_alloc_new w _
end
structure PlAt (W:World) (O:List Int) (nd0:Int→Option ND) (tb pb db g:Nat) (F:Nat→Prop) (t:TS) (es:List TT.E) (L:List Int) (w:World):Prop where
 tree:Tree W F w tb pb db t
 map:MAt w F g es
 tr:TT.Tr O nd0 t es L
 base:W.heap.size≤g
section
variable {W w w' w'':World} {F F':Nat→Prop} {tb pb db g:Nat} {t t':TS} {O:List Int} {nd0:Int→Option ND} {es es':List TT.E} {L:List Int}
theorem Moves.plus (m:Moves w F w' F') (g:Nat):Moves w (plus F g) w' (plus F' g) :=
 ⟨m.kept.more (fun _ h=>Or.inl h),fun k hk=>by
  rcases hk with e | e
  ·exact (m.news k e).imp Or.inl id
  ·exact Or.inl (Or.inr e)⟩
theorem moves_grown (hg:w.grownBy w' (some g)):Moves w (plus F g) w' (plus F g) :=
 ⟨⟨hg.os,hg.tape,hg.output,hg.size,fun k h1 h2=>hg.block k h1 (fun e=>h2 (Or.inr (Option.some.inj e)))⟩,fun _ h=>Or.inl h⟩
theorem PlAt.kept (h:PlAt W O nd0 tb pb db g F t es L w) (hb:Below w.heap.size w w'):PlAt W O nd0 tb pb db g F t es L w':=⟨h.tree.kept hb,h.map.kept hb,h.tr,h.base⟩
def DidEnd (W:World) (O:List Int) (nd0:Int→Option ND) (tb pb db g:Nat) (F:Nat→Prop) (z:Nat) (ep:Int) (w:World) (es:List TT.E) (e:Ending) (w':World):Prop :=
 e = .returned (.bool true)∧∃ F' t' L',PlAt W O nd0 tb pb db g F' t' es L' w'∧Moves w (plus F g) w' (plus F' g)∧t'.z=z∧t'.ep=ep
theorem did_put (c:TCl) (w:World) (hk:c.kind=1) (h:PlAt W O nd0 tb pb db g F t es L w) (hz:2*es.length+O.length+30≤t.z) (he:es.length≤511) :
 Calls Tryz.prog 13 #[.pointer (some ⟨tb,0,none⟩),.pointer (some ⟨g,0,none⟩),c.agg] w (DidEnd W O nd0 tb pb db g F t.z t.ep w (c.step es)):=by
 obtain ⟨kd,x,y⟩:=c
 obtain rfl:kd=1:=hk
 unfold TCl.agg TCl.step
 dsimp only
 rw [if_pos rfl]
 have b0:=below_one w (.cells #[.int .i64 1,.string x,.string y] 34)
 have HB0:=Lib.hid (cbox_new w 1 x y)
 have H:=Lib.hid (h.kept b0)
 have B0:=Lib.hid b0
 have NFG:=Lib.hid (h.tree.new (Nat.le_refl w.heap.size))
 have HGL:=Lib.hid h.map.lt
 obtain ⟨t1,L1,e1,tr1,z1,ep1⟩:=h.tr.putOk hz he x.toList y.toList
 have CP:=aPut_live (W:=W) (F:=F) (tb:=tb) (pb:=pb) (db:=db) (t:=t) (w.alloc (.cells #[.int .i64 1,.string x,.string y] 34)).drew x y (fun _ hb=>h.tr.chgPut he hb) ((h.kept b0).kept ((Below.refl _ _).drew)).tree
 rw [e1] at CP
 have HCP:=Lib.hid CP
 have T1:=Lib.hid tr1
 have ZE:=Lib.hid (And.intro z1 ep1)
 have hle:es.length≤500000:=by omega
 clear h b0 CP e1 tr1 z1 ep1 hz he
 obtain ⟨rv,hrv⟩:∃ rv:Int,(if TS.badE x.toList y.toList=true then (120:Int) else 0)=rv:=⟨_,rfl⟩
 obtain ⟨es1,hes1⟩:∃ es1,(if TS.badE x.toList y.toList=true then es else TT.putE x.toList y.toList es)=es1:=⟨_,rfl⟩
 rw [hrv] at HCP
 rw [hes1] at T1 ⊢
 have HRV:=Lib.hid hrv
 have HES:=Lib.hid hes1
 clear hrv hes1
 go_enter Tryz.func13,Tryz.ntmps13
 go_upto_region 1 with fail
 generalize hw0:w.alloc (.cells #[.int .i64 1,.string x,.string y] 34)=w0 at *
 have c0:=HB0.out.cells.1
 go_upto_region 3 with fail
 clear c0 hw0
 have BD:=Lib.hid ((Below.refl w0.heap.size w0).drew)
 have HD0:=Lib.hid (HB0.out.kept BD.out)
 go_region_held3 (fun w'=>w'.cell? ⟨w.heap.size,1,none⟩=some (.string x)∧w'.cell? ⟨w.heap.size,2,none⟩=some (.string y))
  (first | exact HD0.out.cells.2 | exact HD1.out.cells.2 | exact HD2.out.cells.2)
  (first
    | (go_at_call 21;refine HCP.out.mono ?_;rintro e1 w1 ⟨rfl,F1,h1,m1⟩;have H1:=Lib.hid h1;have M1:=Lib.hid m1;have MP1:=Lib.hid ((H.out.map.kept BD.out).moves m1);have HD1:=Lib.hid (HD0.out.moves m1 NFG.out);clear h1 m1)
    | (go_at_call 22;refine (mput_any w1 x y MP1.out H1.out.lt hle).mono ?_;rintro e2 w2 ⟨rfl,g2,mp2⟩;rw [HRV.out];rw [HES.out] at mp2;have G2:=Lib.hid g2;have MP2:=Lib.hid mp2;have HD2:=Lib.hid (HD1.out.grown g2 (Nat.ne_of_gt HGL.out));clear g2 mp2)
    | fail)
 all_goals (
  have HX:Hid (DidEnd W O nd0 tb pb db g F t.z t.ep w es1 (.returned (.bool true)) w2):=Lib.hid (by
   refine ⟨rfl,F1,t1,L1,⟨H1.out.grown G2.out (fun k e=>by obtain rfl:=Option.some.inj e;exact ⟨MP1.out.out,H.out.base⟩),MP2.out,T1.out,H.out.base⟩,?_,ZE.out.1,ZE.out.2⟩
   exact (Moves.of_below (F:=plus F g) (chainN BD.out B0.out)).trans ((M1.out.plus g).trans (moves_grown G2.out)))
  go_wp2_with fail
  go_ret
  simpa using HX.out)
theorem did_del (c:TCl) (w:World) (hk:c.kind=2) (h:PlAt W O nd0 tb pb db g F t es L w) (hz:2*es.length+O.length+30≤t.z) (he:es.length≤511) :
 Calls Tryz.prog 13 #[.pointer (some ⟨tb,0,none⟩),.pointer (some ⟨g,0,none⟩),c.agg] w (DidEnd W O nd0 tb pb db g F t.z t.ep w (c.step es)):=by
 obtain ⟨kd,x,y⟩:=c
 obtain rfl:kd=2:=hk
 unfold TCl.agg TCl.step
 dsimp only
 rw [if_neg (by decide),if_pos rfl]
 have b0:=below_one w (.cells #[.int .i64 2,.string x,.string y] 34)
 have HB0:=Lib.hid (cbox_new w 2 x y)
 have H:=Lib.hid (h.kept b0)
 have B0:=Lib.hid b0
 have NFG:=Lib.hid (h.tree.new (Nat.le_refl w.heap.size))
 have HGL:=Lib.hid h.map.lt
 obtain ⟨t1,L1,e1,tr1,z1,ep1⟩:=h.tr.delOk hz he x.toList
 have CP:=aDel_live (W:=W) (F:=F) (tb:=tb) (pb:=pb) (db:=db) (t:=t) (w.alloc (.cells #[.int .i64 2,.string x,.string y] 34)) x (fun _=>h.tr.chgDel he _) (h.kept b0).tree
 rw [e1] at CP
 have HCP:=Lib.hid CP
 have T1:=Lib.hid tr1
 have ZE:=Lib.hid (And.intro z1 ep1)
 have hle:es.length≤500000:=by omega
 clear h b0 CP e1 tr1 z1 ep1 hz he
 obtain ⟨es1,hes1⟩:∃ es1,TT.delE x.toList es=es1:=⟨_,rfl⟩
 have MD:=Lib.hid (fun (wx:World) (Fx:Nat→Prop) (hm:MAt wx Fx g es) (hF:∀ k,Fx k→k<wx.heap.size)=>mdel_any wx x hm hF hle)
 rw [hes1] at T1 MD ⊢
 obtain ⟨is,his⟩:∃ is,TT.isE x.toList es=is:=⟨_,rfl⟩
 rw [his] at HCP MD
 clear hes1 his
 go_enter Tryz.func13,Tryz.ntmps13
 go_upto_region 1 with fail
 generalize hw0:w.alloc (.cells #[.int .i64 2,.string x,.string y] 34)=w0 at *
 clear hw0
 obtain ⟨c0,c1,_⟩:=HB0.out.cells
 go_wp2_with fail
 refine HCP.out.mono ?_
 rintro e1 w1 ⟨rfl,F1,h1,m1⟩
 have H1:=Lib.hid h1
 have M1:=Lib.hid m1
 have MP1:=Lib.hid (H.out.map.moves m1)
 have HD1:=Lib.hid (HB0.out.moves m1 NFG.out)
 clear h1 m1 c0 c1 HB0
 obtain ⟨_,c1,_⟩:=HD1.out.cells
 go_wp2_with fail
 refine (MD.out w1 F1 MP1.out H1.out.lt).mono ?_
 rintro e2 w2 ⟨rfl,g2,mp2⟩
 have HX:Hid (DidEnd W O nd0 tb pb db g F t.z t.ep w es1 (.returned (.bool true)) w2):=Lib.hid (by
  refine ⟨rfl,F1,t1,L1,⟨H1.out.grown g2 (fun k e=>by obtain rfl:=Option.some.inj e;exact ⟨MP1.out.out,H.out.base⟩),mp2,T1.out,H.out.base⟩,?_,ZE.out.1,ZE.out.2⟩
  exact (Moves.of_below (F:=plus F g) B0.out).trans ((M1.out.plus g).trans (moves_grown g2)))
 clear g2 mp2
 cases is with
 | true =>
   go_wp2_with fail
   go_ret
   exact HX.out
 | false =>
   go_wp2_with fail
   go_ret
   exact HX.out
theorem did_get (c:TCl) (w:World) (hk:c.kind=3) (h:PlAt W O nd0 tb pb db g F t es L w) (he:es.length≤511) :
 Calls Tryz.prog 13 #[.pointer (some ⟨tb,0,none⟩),.pointer (some ⟨g,0,none⟩),c.agg] w (DidEnd W O nd0 tb pb db g F t.z t.ep w (c.step es)):=by
 obtain ⟨kd,x,y⟩:=c
 obtain rfl:kd=3:=hk
 unfold TCl.agg TCl.step
 dsimp only
 rw [if_neg (by decide),if_neg (by decide)]
 have b0:=below_one w (.cells #[.int .i64 3,.string x,.string y] 34)
 have HB0:=Lib.hid (cbox_new w 3 x y)
 have H:=Lib.hid (h.kept b0)
 have B0:=Lib.hid b0
 have NFG:=Lib.hid (h.tree.new (Nat.le_refl w.heap.size))
 have HGL:=Lib.hid h.map.lt
 have hl:=h.tr.low he
 have CP:=aGet_live (W:=W) (F:=F) (tb:=tb) (pb:=pb) (db:=db) (t:=t) (w.alloc (.cells #[.int .i64 3,.string x,.string y] 34)) x (h.tr.wayIn _) (by omega) (h.kept b0).tree
 rw [h.tr.get] at CP
 unfold TGot at CP
 dsimp only at CP
 have HCP:=Lib.hid CP
 have T1:=Lib.hid h.tr
 have hle:es.length≤1000000:=by omega
 clear h b0 CP he hl
 obtain ⟨gv,hgv⟩:∃ gv,Go.Proofs.YtccphijgcapeoaaGreat.tb (TT.getE x.toList es)=gv:=⟨_,rfl⟩
 obtain ⟨is,his⟩:∃ is,TT.isE x.toList es=is:=⟨_,rfl⟩
 have MD:Hid (∀ (wx:World) (Fx:Nat→Prop),MAt wx Fx g es→Calls Tryz.prog 27 #[.pointer (some ⟨g,0,none⟩),.string x] wx fun e w'=>e = .returned (.tuple #[.string gv,.bool is])∧Below wx.heap.size wx w'):=Lib.hid (fun wx Fx ⟨A,n,c,hm⟩=>by
  have:=mget_any wx x hm.box hm.ln.ln (by rw [← hm.ln.ln.entN];exact hle)
  unfold MGot at this
  rw [hgv,his] at this
  exact this)
 rw [hgv,his] at HCP
 clear hgv his
 go_enter Tryz.func13,Tryz.ntmps13
 go_upto_region 1 with fail
 generalize hw0:w.alloc (.cells #[.int .i64 3,.string x,.string y] 34)=w0 at *
 clear hw0
 obtain ⟨c0,c1,_⟩:=HB0.out.cells
 go_wp2_with fail
 refine HCP.out.mono ?_
 rintro e1 w1 ⟨rfl,F1,h1,m1⟩
 have H1:=Lib.hid h1
 have M1:=Lib.hid m1
 have MP1:=Lib.hid (H.out.map.moves m1)
 have HD1:=Lib.hid (HB0.out.moves m1 NFG.out)
 clear h1 m1 c0 c1 HB0
 obtain ⟨_,c1,_⟩:=HD1.out.cells
 go_wp2_with fail
 refine (MD.out w1 F1 MP1.out).mono ?_
 rintro e2 w2 ⟨rfl,b2⟩
 have HX:Hid (DidEnd W O nd0 tb pb db g F t.z t.ep w es (.returned (.bool true)) w2):=Lib.hid (by
  refine ⟨rfl,F1,t,L,⟨H1.out.kept b2,MP1.out.kept b2,T1.out,H.out.base⟩,?_,rfl,rfl⟩
  exact (Moves.of_below (F:=plus F g) B0.out).trans ((M1.out.plus g).trans (Moves.of_below b2)))
 clear b2 c1
 cases is with
 | true =>
   go_wp2_with fail
   go_ret
   simpa using HX.out
 | false =>
   go_wp2_with fail
   go_ret
   simpa using HX.out
theorem did_none (c:TCl) (w:World) (h1:¬ c.kind=1) (h2:¬ c.kind=2) (h3:¬ c.kind=3) (h:PlAt W O nd0 tb pb db g F t es L w) :
 Calls Tryz.prog 13 #[.pointer (some ⟨tb,0,none⟩),.pointer (some ⟨g,0,none⟩),c.agg] w (DidEnd W O nd0 tb pb db g F t.z t.ep w (c.step es)):=by
 obtain ⟨kd,x,y⟩:=c
 dsimp only at h1 h2 h3
 unfold TCl.agg TCl.step
 dsimp only
 rw [if_neg h1,if_neg h2]
 have b0:=below_one w (.cells #[.int .i64 kd,.string x,.string y] 34)
 have HX:Hid (DidEnd W O nd0 tb pb db g F t.z t.ep w es (.returned (.bool true)) (w.alloc (.cells #[.int .i64 kd,.string x,.string y] 34))):=Lib.hid ⟨rfl,F,t,L,h.kept b0,Moves.of_below b0,rfl,rfl⟩
 have HB0:=Lib.hid (cbox_new w kd x y)
 have g1:(kd==1)=false:=beq_eq_false_iff_ne.2 h1
 have g2:(kd==2)=false:=beq_eq_false_iff_ne.2 h2
 have g3:(kd==3)=false:=beq_eq_false_iff_ne.2 h3
 clear h b0 h1 h2 h3
 go_enter Tryz.func13,Tryz.ntmps13
 go_upto_region 1 with fail
 generalize w.alloc (.cells #[.int .i64 kd,.string x,.string y] 34)=w0 at *
 obtain ⟨c0,_,_⟩:=HB0.out.cells
 go_wp2_with fail
 go_ret
 exact HX.out
theorem did_live (c:TCl) (w:World) (h:PlAt W O nd0 tb pb db g F t es L w) (hz:2*es.length+O.length+30≤t.z) (he:es.length≤511) :
 Calls Tryz.prog 13 #[.pointer (some ⟨tb,0,none⟩),.pointer (some ⟨g,0,none⟩),c.agg] w (DidEnd W O nd0 tb pb db g F t.z t.ep w (c.step es)):=by
 by_cases h1:c.kind=1
 ·exact did_put c w h1 h hz he
 by_cases h2:c.kind=2
 ·exact did_del c w h2 h hz he
 by_cases h3:c.kind=3
 ·exact did_get c w h3 h he
 exact did_none c w h1 h2 h3 h
end
end Go.Proofs.YtccphijgcapeoaaGreat
/-
  What the statements' own Grown comes to: a script laid into a tree, and into the document's entries. Conditions: none.
-/
namespace Go.Proofs.YtccphijgcapeoaaGreat
open Go.RowKit Go.Maps
def GrEnd (W:World) (O:List Int) (nd0:Int→Option ND) (tb pb db g:Nat) (F:Nat→Prop) (z:Nat) (ep:Int) (w:World) (a:Nat) (e:Ending) (w':World):Prop :=
 e = .returned (.bool true)∧∃ F' t' es' L',PlAt W O nd0 tb pb db g F' t' es' L' w'∧Moves w (plus F g) w' (plus F' g)∧t'.z=z∧t'.ep=ep∧es'.length≤a
def GrR (W:World) (O:List Int) (nd0:Int→Option ND) (tb pb db g:Nat) (F:Nat→Prop) (z:Nat) (ep:Int) (w:World) (a:Nat) (w':World):Prop :=
 ∃ F' t' es' L',PlAt W O nd0 tb pb db g F' t' es' L' w'∧Moves w (plus F g) w' (plus F' g)∧t'.z=z∧t'.ep=ep∧es'.length≤a
section
variable {W w w' w'':World} {F F':Nat→Prop} {tb pb db g:Nat} {t t':TS} {O:List Int} {nd0:Int→Option ND} {es es':List TT.E} {L:List Int} {z a:Nat} {ep:Int}
theorem GrR.kept (h:GrR W O nd0 tb pb db g F z ep w a w') (hb:Below w'.heap.size w' w''):GrR W O nd0 tb pb db g F z ep w a w'':=by
 obtain ⟨F',t',es',L',h1,h2,h3⟩:=h
 exact ⟨F',t',es',L',h1.kept hb,h2.trans (Moves.of_below hb),h3⟩
theorem GrR.up {b:Nat} (h:GrR W O nd0 tb pb db g F z ep w a w') (hb:a≤b):GrR W O nd0 tb pb db g F z ep w b w':=by
 obtain ⟨F',t',es',L',h1,h2,h3,h4,h5⟩:=h
 exact ⟨F',t',es',L',h1,h2,h3,h4,by omega⟩
theorem GrR.below (h:GrR W O nd0 tb pb db g F z ep w a w'):Below W.heap.size W w':=by
 obtain ⟨F',t',es',L',h1,_⟩:=h
 exact h1.tree.below
theorem grown_live (w:World) (A:Option Addr) (n c most:Nat) (l:List TCl) (hl:l.length=n) (hs:TScript W W.heap.size A l) (hn:n≤maxLen) (h:PlAt W O nd0 tb pb db g F t es L w) (ha:es.length≤a) (hz:2*(a+most)+O.length+30≤t.z) (hb:a+most≤511) :
 Calls Tryz.prog 15 #[.pointer (some ⟨tb,0,none⟩),.pointer (some ⟨g,0,none⟩),.slice A n c,.int .i64 ((most:Nat):Int)] w (GrEnd W O nd0 tb pb db g F t.z t.ep w (a+most)):=by
 have HS:=Lib.hid hs
 have HL:=Lib.hid hl
 have hn2:n≤9223372036854775807:=by unfold maxLen at hn;omega
 have HZ:=Lib.hid hz
 have HR:Hid (GrR W O nd0 tb pb db g F t.z t.ep w (a+0) w):=Lib.hid ⟨F,t,es,L,h,Moves.of_below (Below.refl _ _),rfl,rfl,ha⟩
 clear hs hl hn h ha hz
 go_enter Tryz.func15,Tryz.ntmps15
 go_wp2_with fail
 go_loopw [9] (fun i wr=>∃ j:Nat,j≤n∧j≤most∧i = .int .i64 j∧Hid (GrR W O nd0 tb pb db g F t.z t.ep w (a+j) wr)) (fun i _=>n - (RowKit.intOf i).toNat)
 case atStart=>exact ⟨0,Nat.zero_le _,Nat.zero_le _,rfl,HR⟩
 case round =>
  obtain ⟨j,hj,hj2,rfl,hrel⟩:=hrel
  have HRR:=hrel
  clear hrel HR
  by_cases hgo:j<n∧j<most
  ·obtain ⟨q1,q2⟩:=hgo
   have hbel:=HRR.out.below
   obtain ⟨b,off,cl,rfl,hbl,hcl,_,d0,d1,d2⟩:=(HS.out.below hbel).at_ (k:=j) (by rw [HL.out];exact q1)
   obtain ⟨kd,x,y⟩:=cl
   have HSM:=Lib.hid (fun (wx:World)=>tsmall_any ⟨kd,x,y⟩ wx)
   have HCL:=Lib.hid hcl
   unfold TCl.agg at HSM
   clear hbel hbl hcl
   dsimp only at d0 d1 d2
   go_wp2_with fail
   refine (HSM.out _).mono ?_
   rintro e w4 ⟨rfl,b4⟩
   have HR4:=Lib.hid (HRR.out.kept b4)
   clear b4 d0 d1 d2 HSM HRR
   have hbel:=HR4.out.below
   obtain ⟨_,off2,c2,e2,_,hc2,_,d0,d1,d2⟩:=(HS.out.below hbel).at_ (k:=j) (by rw [HL.out];exact q1)
   injection e2 with e2
   injection e2 with e3 e4 e5
   subst e3 e4
   obtain rfl:TCl.mk kd x y=c2:=Option.some.inj (HCL.out.symm.trans hc2)
   clear e5 hbel hc2
   dsimp only at d0 d1 d2
   cases hsm:TCl.small ⟨kd,x,y⟩ with
   | false =>
     clear hsm
     go_wp2_with fail
     go_roundw
     case rel=>exact ⟨j+1,by omega,by omega,by go_num,Lib.hid (HR4.out.up (by omega))⟩
     case measure=>simp [RowKit.intOf];omega
   | true =>
     clear hsm
     by_cases hk3:kd=3
     ·subst hk3
      go_wp2_with fail
      go_roundw
      case rel=>exact ⟨j+1,by omega,by omega,by go_num,Lib.hid (HR4.out.up (by omega))⟩
      case measure=>simp [RowKit.intOf];omega
     ·have hk:(kd==3)=false:=beq_eq_false_iff_ne.2 hk3
      obtain ⟨F4,t4,es4,L4,h4,m4,z4,p4,l4⟩:=HR4.out
      have hlen:=step_len ⟨kd,x,y⟩ es4
      have DL:=Lib.hid (did_live ⟨kd,x,y⟩ w4 h4 (by rw [z4];have:=HZ.out;omega) (by omega))
      have HLE:Hid ((TCl.step ⟨kd,x,y⟩ es4).length≤a+(j+1)):=Lib.hid (by omega)
      have M4:=Lib.hid m4
      rw [z4,p4] at DL
      obtain ⟨es1,hes1⟩:∃ es1,TCl.step ⟨kd,x,y⟩ es4=es1:=⟨_,rfl⟩
      rw [hes1] at DL HLE
      unfold TCl.agg at DL
      clear hk3 h4 m4 z4 p4 l4 hlen hes1 HR4
      go_wp2_with fail
      refine DL.out.mono ?_
      rintro e w5 ⟨rfl,F5,t5,L5,h5,m5,z5,p5⟩
      have HR5:Hid (GrR W O nd0 tb pb db g F t.z t.ep w (a+(j+1)) w5):=Lib.hid ⟨F5,t5,es1,L5,h5,M4.out.trans m5,z5,p5,HLE.out⟩
      clear h5 m5 z5 p5 d0 d1 d2 DL
      go_wp2_with fail
      go_roundw
      case rel=>exact ⟨j+1,by omega,by omega,by go_num,HR5⟩
      case measure=>simp [RowKit.intOf];omega
  ·have hcase:(n≤j)∨(j<n∧most≤j):=by omega
   have HE:=Lib.hid (HRR.out.up (b:=a+most) (by omega))
   clear hgo HRR
   rcases hcase with hx | ⟨hx,hy⟩
   all_goals
    go_wp2_with fail
    go_ret
    exact ⟨rfl,HE.out⟩
end
end Go.Proofs.YtccphijgcapeoaaGreat
/-
  A tree of a pool that is flushed and emptied, of a disk of which a byte is turned: every page is what it was, or none. Conditions: none.
-/
namespace Go.Proofs.YtccphijgcapeoaaGreat
open Go.RowKit Go.Maps
namespace TT
open ND TS
section
variable {nd nd3:Int→Option ND} {key:K}
theorem nodeAt_same {p:Int} {b:Bool} (h:nd3 p=nd p):nodeAt nd3 p b=nodeAt nd p b:=by
 unfold nodeAt
 rw [h]
theorem nodeAt_gone {p:Int} {b:Bool} (h:nd3 p=none):nodeAt nd3 p b=none:=by
 unfold nodeAt
 rw [h]
theorem vn_way:∀ (h:Nat) (p:Int) (n:ND) (lo hi:K) (es:List E) (qs:List Int),nd p=some n→VN (Sub nd h) h n lo hi es qs→(∀ x∈p::qs,(∃ m,nd x=some m)→nd3 x=nd x∨nd3 x=none)→wayL nd3 key (h+1) p=wayL nd key (h+1) p∨wayL nd3 key (h+1) p=none
 | 0,p,n,lo,hi,es,qs,hn,v,hx=>by
   rw [wayL_end,wayL_end]
   rcases hx p (by simp) ⟨n,hn⟩ with e | e
   ·exact Or.inl (by rw [nodeAt_same e])
   ·exact Or.inr (by rw [nodeAt_gone e];rfl)
 | h+1,p,n,lo,hi,es,qs,hn,v,hx=>by
   rw [wayL_step,wayL_step]
   rcases hx p (by simp) ⟨n,hn⟩ with e | e
   ·rw [nodeAt_same e]
    cases hm:nodeAt nd p false with
    | none=>exact Or.inl rfl
    | some m =>
      have hmn:m=n:=by
       have:=(nodeAt_some hm).1
       rw [hn] at this
       exact (Option.some.inj this).symm
      subst hmn
      have hrun:=VI.run v
      have hlen:=run_len hrun
      have hkn:=kidN_le key m.keys
      obtain ⟨l,g,k,e1,q1,e2,q2,e3,q3,r1,rfl,rfl,r2,r3,r4,r5,r6⟩:=run_at (kidN key m.keys) hrun (by omega)
      have hgd:m.kids.getD (kidN key m.keys) 0=k:=by rw [List.getD_eq_getElem?_getD,r1];rfl
      obtain ⟨n',qs',f1,f2,_,_,v'⟩:=r3
      subst f1
      rw [Option.bind_some,Option.bind_some,hgd]
      rcases vn_way h k n' _ _ _ _ f2 v' (fun x hx'=>hx x (by simp at hx' ⊢;rcases hx' with e | e<;>simp [e])) with e | e
      ·exact Or.inl (by rw [e])
      ·exact Or.inr (by rw [e];rfl)
   ·exact Or.inr (by rw [nodeAt_gone e];rfl)
theorem vn_in {z:Nat}:∀ (h:Nat) (p:Int) (n:ND) (lo hi:K) (es:List E) (qs:List Int),nd p=some n→VN (Sub nd h) h n lo hi es qs→(∀ x∈p::qs,0≤x∧x<z∧((∃ m,nd x=some m)→nd3 x=nd x∨nd3 x=none))→TS.wayIn nd3 key z (h+1) p
 | 0,p,n,lo,hi,es,qs,hn,v,hx=>by
   obtain ⟨a,b,_⟩:=hx p (by simp)
   exact ⟨a,b,fun h0=>absurd rfl h0⟩
 | h+1,p,n,lo,hi,es,qs,hn,v,hx=>by
   obtain ⟨a,b,c⟩:=hx p (by simp)
   refine ⟨a,b,fun _ m hm=>?_⟩
   rcases c ⟨n,hn⟩ with e | e
   ·rw [nodeAt_same e] at hm
    have hmn:m=n:=by
     have:=(nodeAt_some hm).1
     rw [hn] at this
     exact (Option.some.inj this).symm
    subst hmn
    have hrun:=VI.run v
    have hlen:=run_len hrun
    have hkn:=kidN_le key m.keys
    obtain ⟨l,g,k,e1,q1,e2,q2,e3,q3,r1,rfl,rfl,r2,r3,r4,r5,r6⟩:=run_at (kidN key m.keys) hrun (by omega)
    have hgd:m.kids.getD (kidN key m.keys) 0=k:=by rw [List.getD_eq_getElem?_getD,r1];rfl
    obtain ⟨n',qs',f1,f2,_,_,v'⟩:=r3
    subst f1
    rw [hgd]
    exact vn_in h k n' _ _ _ _ f2 v' (fun x hx'=>hx x (by simp at hx' ⊢;rcases hx' with e | e<;>simp [e]))
   ·rw [nodeAt_gone e] at hm
    cases hm
end
section
variable {O:List Int} {nd0 nd3:Int→Option ND} {t:TS} {es:List E} {L:List Int}
def lostT (t:TS) (nd3:Int→Option ND) (ep:Int):TS:=⟨t.rt,t.ht,t.ct,t.sp,ep,fun _=>false,0,nd3,t.z⟩
theorem Tr.ways (h:Tr O nd0 t es L) (hx:∀ x∈L,(∃ m,t.nd x=some m)→nd3 x=t.nd x∨nd3 x=none) (key:K) (ep:Int):(lostT t nd3 ep).way key=t.way key∨(lostT t nd3 ep).way key=none:=by
 unfold TS.way lostT
 dsimp only
 rcases h.root with ⟨e,_⟩ | ⟨k,n,qs,e,rfl,a,b,c,v⟩
 ·rw [if_pos e,if_pos e]
  exact Or.inl rfl
 ·rw [if_neg (by omega),if_neg (by omega),e]
  exact vn_way k _ n _ _ _ _ a v hx
theorem Tr.lostIn (h:Tr O nd0 t es L) (hx:∀ x∈L,(∃ m,t.nd x=some m)→nd3 x=t.nd x∨nd3 x=none) (key:K):TS.wayIn nd3 key t.z t.ht t.rt:=by
 rcases h.root with ⟨e,_⟩ | ⟨k,n,qs,e,rfl,a,b,c,v⟩
 ·rw [e]
  trivial
 ·rw [e]
  exact vn_in k _ n _ _ _ _ a v (fun x hx'=>by
   have:=h.acc.top hx'
   exact ⟨by omega,by omega,hx x hx'⟩)
theorem Tr.lostGet (h:Tr O nd0 t es L) (hx:∀ x∈L,(∃ m,t.nd x=some m)→nd3 x=t.nd x∨nd3 x=none) (key:K) (ep:Int) :
 (lostT t nd3 ep).get key=(getE key es,isE key es,0,lostT t nd3 ep)∨(lostT t nd3 ep).get key=([],false,121,(lostT t nd3 ep).told 121):=by
 have h1:=h.get key
 unfold TS.get at h1 ⊢
 rw [if_neg (by rw [h.lost];decide)] at h1
 rw [if_neg (show ¬ (lostT t nd3 ep).lost≠0 by unfold lostT;simp)]
 rcases h.ways hx key ep with e | e
 ·rw [e]
  left
  cases hw:t.way key with
  | none =>
    rw [hw] at h1
    simp at h1
  | some l =>
    rw [hw] at h1
    dsimp only at h1 ⊢
    split at h1<;>rename_i hi
    ·rw [if_pos hi]
     simp only [Prod.mk.injEq] at h1 ⊢
     exact ⟨h1.1,h1.2.1,trivial⟩
    ·rw [if_neg hi]
     simp only [Prod.mk.injEq] at h1 ⊢
     exact ⟨h1.1,h1.2.1,trivial⟩
 ·rw [e]
  exact Or.inr rfl
theorem Tr.flat (h:Tr O nd0 t es L):(t.rt==0)=(((t.ht:Nat):Int)==0):=by
 rcases h.root with ⟨e,e2,_⟩ | ⟨k,n,qs,e,rfl,a,b,c,v⟩
 ·rw [e,e2]
  rfl
 ·have:=h.acc.top (p:=t.rt) (by simp)
  rw [beq_eq_false_iff_ne.2 (by omega:¬ t.rt=0),beq_eq_false_iff_ne.2 (by omega:¬ ((t.ht:Nat):Int)=0)]
end
end TT
theorem xor_same {z b:UInt8} (h:z ^^^ b=z):b=0:=by
 have h3:z ^^^ z=z ^^^ (z ^^^ b):=congrArg (z ^^^ ·) h.symm
 rw [UInt8.xor_self,← UInt8.xor_assoc,UInt8.xor_self,UInt8.zero_xor] at h3
 exact h3.symm
theorem PS.turn_size (s:PS) (n at_:Int) (by_:UInt8):(s.turned n at_ by_).size=s.size:=by
 unfold PS.turned
 split
 ·split
  ·rfl
  ·split<;>rfl
 ·rfl
theorem PS.turn_well {s:PS} (h:s.Well) (n at_:Int) (by_:UInt8):(s.turned n at_ by_).Well:=by
 unfold PS.turned
 split
 ·split
  ·exact h
  ·split
   ·exact ⟨h.down,h.fused⟩
   ·exact ⟨h.down,h.fused⟩
 ·exact h
theorem PS.turn_held (s:PS) (n at_:Int) (by_:UInt8) (p:Int):(s.turned n at_ by_).held p=s.held p∨(¬ s.held p=[]∧(s.turned n at_ by_).held p=PS.twist (s.held p) at_ by_):=by
 unfold PS.turned
 split
 ·split
  ·exact Or.inl rfl
  ·rename_i hg
   have hl:¬ s.held n=[]:=fun e=>hg (Or.inl e)
   by_cases hp:p=n
   ·subst hp
    refine Or.inr ⟨hl,?_⟩
    cases hw:s.W p with
    | some l =>
      have:s.held p=l:=by unfold PS.held;rw [hw];rfl
      rw [this]
      unfold PS.held PS.lay
      simp
    | none =>
      have:s.held p=s.L p:=by unfold PS.held;rw [hw];rfl
      rw [this]
      unfold PS.held
      simp [hw]
   ·left
    cases hw:s.W n with
    | some l =>
      unfold PS.held PS.lay
      simp [hp]
    | none =>
      unfold PS.held
      simp [hp]
 ·exact Or.inl rfl
theorem twist_rd {p:Int} {l:List UInt8} {n:ND} (h:rdN p l=some n) (hl:¬ l=[]) (at_:Int) (by_:UInt8):rdN p (PS.twist l at_ by_)=some n∨rdN p (PS.twist l at_ by_)=none:=by
 unfold PS.twist
 have hlt:(at_ % (l.length:Int)).toNat<l.length:=by
  have h0:0<l.length:=by
   rcases Nat.eq_zero_or_pos l.length with e | e
   ·exact absurd (List.eq_nil_of_length_eq_zero e) hl
   ·exact e
  have h1:=Int.emod_lt_of_pos at_ (show (0:Int)<(l.length:Int) by omega)
  have h2:=Int.emod_nonneg at_ (show (l.length:Int)≠0 by omega)
  omega
 generalize (at_ % (l.length:Int)).toNat=k at *
 obtain ⟨z,hz⟩:∃ z,l[k]?=some z:=⟨l[k],List.getElem?_eq_getElem hlt⟩
 rw [modify_set _ hz]
 by_cases hb:by_=0
 ·left
  subst hb
  rw [show z ^^^ 0=z by simp]
  rw [show l.set k z=l by
   apply List.ext_getElem?
   intro j
   rw [List.getElem?_set]
   by_cases hj:k=j
   ·subst hj
    rw [if_pos rfl,hz,if_pos hlt]
   ·rw [if_neg hj]]
  exact h
 ·right
  unfold rdN at h ⊢
  split at h
  ·rename_i hf
   refine if_neg (fun hf2=>hb ?_)
   rw [← hf.2.2] at hz hf2
   exact xor_same (isF_turn hz hf2)
  ·cases h
section
variable {W w w':World} {F F' G:Nat→Prop} {tb mb pb db g:Nat} {A B:Option Addr} {n c m d:Nat} {f:Int→List UInt8} {t u:TS} {es:List TT.E}
theorem rdN_held {k:PS} {z:Nat} (hf:∀ p,0≤p→p<(z:Int)→k.held p=f p) {p:Int} (h0:0≤p) (h1:p<z) {nn:Option ND} (h:rdN p (f p)=nn):rdN p (k.held p)=nn:=by rw [hf p h0 h1];exact h
theorem TAt.aside {ub:Nat} (h:TAt W G F w tb mb pb db A n c B m d f t) (hm:Moves w G w' F') (hu:Tree W F' w' ub pb db u) (hz:u.z=t.z) (hnd:u.nd=t.nd):∃ F2,Tree W F2 w' tb pb db t∧Moves w F w' F2:=by
 obtain ⟨G3,mb2,A2,n2,c2,B2,m2,d2,f4,hu⟩:=hu
 obtain ⟨F2,h2,m2⟩:=h.pooled (G':=G3) (f':=f4) (nd':=t.nd) ⟨hm.kept,fun k hk=>hm.news k ((hu.hF k).2 (Or.inl hk))⟩ (by rw [← hz];exact hu.pool) (fun p h0 h1=>by rw [← hnd];exact hu.nds p h0 (by rw [hz];exact h1)) (fun k hk=>hu.base k ((hu.hF k).2 (Or.inl hk)))
 exact ⟨F2,h2.tree,m2⟩
def TFl (W:World) (F:Nat→Prop) (w:World) (tb pb db:Nat) (t:TS):Prop :=
 ∃ G mb A n c B m d f s M,TAt W G F w tb mb pb db A n c B m d f t∧PLive W G w pb db s∧Free s f M t.z∧M≤12∧∀ p:Int,0≤p→p<t.z→s.k.held p=f p
def TDr (W:World) (F:Nat→Prop) (w:World) (tb pb db:Nat) (t:TS):Prop :=
 ∃ G mb A n c B m d k M,TAt W G F w tb mb pb db A n c B m d (PS.held k) t∧PLive W G w pb db (PP.new k M)∧k.Well∧k.size=t.z∧1≤M∧M≤12
theorem TDr.tree (h:TDr W F w tb pb db t):Tree W F w tb pb db t:=by
 obtain ⟨G,mb,A,n,c,B,m,d,k,M,h,_⟩:=h
 exact h.tree
theorem tflush_live (w:World) (h:Tree W F w tb pb db t) :
 Calls Tryz.prog 17 #[.pointer (some ⟨pb,0,none⟩)] w fun e w'=>e = .returned (.int .i64 0)∧∃ F',TFl W F' w' tb pb db t∧Moves w F w' F':=by
 obtain ⟨G,mb,A,n,c,B,m,d,f,h⟩:=h
 obtain ⟨s,M,hp,hf,hM⟩:=h.pool
 refine (pflush_live w (by rw [hf.m_];exact hM) hp).mono ?_
 rintro e w' ⟨js,hj,rfl,G',hp',hm⟩
 obtain ⟨e0,hf',hfl⟩:=hf.flush hp.fit hj
 rw [e0]
 obtain ⟨F',h',m'⟩:=h.pooled (nd':=t.nd) hm ⟨_,M,hp',hf',hM⟩ h.nds hp'.base
 refine ⟨rfl,F',⟨G',mb,A,n,c,B,m,d,f,_,M,h',hp',hf',hM,fun p h0 h1=>?_⟩,m'⟩
 unfold PS.held
 rw [hfl.waits]
 exact hfl.lasts p ((PS.has_at _ _).2 ⟨h0,by rw [hf.size];exact h1⟩)
theorem tdrop_live (w:World) (h:TFl W F w tb pb db t) :
 Calls Tryz.prog 24 #[.pointer (some ⟨pb,0,none⟩)] w fun e w'=>e = .returned (.tuple #[])∧∃ F',TDr W F' w' tb pb db t∧Moves w F w' F':=by
 obtain ⟨G,mb,A,n,c,B,m,d,f,s,M,h,hp,hf,hM,hk⟩:=h
 obtain ⟨D,fb,cb,rb,gg,p0⟩:=hp.at_
 refine (drop_any w p0).mono ?_
 rintro e w' ⟨rfl,G',D',cb',rb',g',p',hm⟩
 have hp':PLive W G' w' pb db (PP.new s.k M):=by
  have:=hp.moved p' hm
  rw [← hf.m_]
  exact this
 have h1:1≤M:=by
  have a:=hf.holds.cn
  have b:=hf.holds.ch
  rw [← hf.m_]
  omega
 have hok:s.k.Ok:=by
  obtain ⟨bl,bw,gL,gW,h0⟩:=p0.core.dk
  exact h0.ok
 obtain ⟨F',h',m'⟩:=h.pooled (f':=s.k.held) (nd':=t.nd) hm ⟨_,M,hp',free_new hf.holds.well hok h1 hf.size,hM⟩ (fun p h0 h1=>rdN_held hk (by omega) (by omega) (h.nds p h0 h1)) hp'.base
 exact ⟨rfl,F',⟨G',mb,A,n,c,B,m,d,s.k,M,h',hp',hf.holds.well,hf.size,h1,hM⟩,m'⟩
theorem tdisk_live (w:World) (h:Tree W F w tb pb db t):Calls Tryz.prog 25 #[.pointer (some ⟨pb,0,none⟩)] w fun e w'=>e = .returned (.pointer (some ⟨db,0,none⟩))∧w=w':=by
 obtain ⟨G,mb,A,n,c,B,m,d,f,h⟩:=h
 exact h.pool.sizeIs.1
def TTurned (W:World) (F:Nat→Prop) (w:World) (tb pb db:Nat) (t:TS) (e:Ending) (w':World):Prop :=
 (∃ r:Int,e = .returned (.int .i64 r))∧∃ F' nd3,Tree W F' w' tb pb db { t with nd:=nd3 }∧Moves w F w' F'∧∀ p:Int,0≤p→p<t.z→(∃ x,t.nd p=some x)→nd3 p=t.nd p∨nd3 p=none
theorem tturn_live (w:World) (p:Int) (h1 : -9223372036854775808≤p) (h2:p≤9223372036854775807) (at_:Int) (h3 : -9223372036854775808≤at_) (h4:at_≤9223372036854775807) (by_:UInt8) (h:TDr W F w tb pb db t) :
 Calls Tryz.prog 26 #[.pointer (some ⟨db,0,none⟩),.int .i64 p,.int .i64 at_,.int .u8 by_.toNat] w (TTurned W F w tb pb db t):=by
 obtain ⟨G,mb,A,n,c,B,m,d,k,M,h,hp,hw,hz,h5,h6⟩:=h
 obtain ⟨D,fb,cb,rb,gg,p0⟩:=hp.at_
 refine (turn_any w p h1 h2 at_ h3 h4 by_ p0.core.dk).mono ?_
 rintro e w' ⟨rfl,D',hd,hN,hK⟩
 have p1:=p0.disk (k':=k.turned p at_ by_) (PS.turn_size _ _ _ _) hd hN hK
 have hkG:Kept G w w':=hK.more (fun q hq=>p0.core.fd q hq)
 have hm:Moves w G w' (fun q=>G q∨w.heap.size≤q∧q<w'.heap.size):=⟨hkG,fun q hq=>hq.imp id And.left⟩
 have hp':PLive W _ w' pb db (PP.new (k.turned p at_ by_) M):=hp.moved p1 hm
 have hok:(k.turned p at_ by_).Ok:=by
  obtain ⟨bl,bw,gL,gW,h0⟩:=hd
  exact h0.ok
 obtain ⟨F',h',m'⟩:=h.pooled (f':=(k.turned p at_ by_).held) (nd':=fun q=>rdN q ((k.turned p at_ by_).held q)) hm ⟨_,M,hp',free_new (PS.turn_well hw _ _ _) hok h5 ((PS.turn_size _ _ _ _).trans hz),h6⟩ (fun _ _ _=>rfl) hp'.base
 refine ⟨⟨_,rfl⟩,F',_,h'.tree,m',fun q h0 h1 ⟨x,hx⟩=>?_⟩
 obtain ⟨j,rfl⟩:∃ j:Nat,q=(j:Int):=⟨q.toNat,by omega⟩
 have hq:=(h.nds j (Nat.zero_le _) (by omega)).trans hx
 show rdN (j:Int) ((k.turned p at_ by_).held (j:Int))=_∨_
 rcases PS.turn_held k p at_ by_ (j:Int) with e | ⟨e1,e2⟩
 ·rw [e,hq,hx]
  exact Or.inl rfl
 ·rw [e2,hx]
  exact twist_rd hq e1 at_ by_
end
end Go.Proofs.YtccphijgcapeoaaGreat
