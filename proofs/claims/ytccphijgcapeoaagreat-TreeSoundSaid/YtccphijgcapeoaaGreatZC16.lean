/-
  A part of the proof: what its texts say stands at the head of each. Conditions: none.
-/
import Derived.Deep.QuietTactic
import Derived.BigQuiet
import Derived.IntWalk
import Derived.Deep.AppendLies
import Derived.Deep.RegionHeld3
import Derived.Deep.OwnRows
import Derived.Test.YtccphijgcapeoaaGreatZC1
import Derived.Test.YtccphijgcapeoaaGreatZC3
import Derived.Test.YtccphijgcapeoaaGreatZC4
import Derived.Test.YtccphijgcapeoaaGreatZC6
import Derived.Test.YtccphijgcapeoaaGreatZC7
import Derived.Test.YtccphijgcapeoaaGreatZC10
import Derived.Test.YtccphijgcapeoaaGreatZC11
import Derived.Test.YtccphijgcapeoaaGreatZC12
import Derived.Test.YtccphijgcapeoaaGreatZC15

set_option maxRecDepth 20000
set_option maxHeartbeats 12800000
/-
  What the statements' own sound comes to: a page's sub-tree keeps what the document asks of it. Conditions: none.
-/
namespace Go.Proofs.YtccphijgcapeoaaGreat
open Go.RowKit Go.Maps
namespace TT
open ND TS
def lowAt (lo:K) (ks:List K) (i:Nat):K:=if i=0 then lo else ks.getD (i - 1) []
def highAt (hi:K) (ks:List K) (i:Nat):K:=ks[i]?.getD hi
theorem run_one {S:R}:∀ {ks:List K} {cs:List Int} {l hi:K} {es:List E} {qs:List Int},Run S l hi ks cs es qs →
 ∃ c cs' e1 q1 e2 q2,cs=c::cs'∧es=e1++e2∧qs=q1++q2∧S c l (ks.head?.getD hi) e1 q1∧((ks=[]∧cs'=[]∧e2=[]∧q2=[])∨∃ k ks',ks=k::ks'∧Run S k hi ks' cs' e2 q2)
 | [],[c],l,hi,es,qs,h=>⟨c,[],es,qs,[],[],rfl,by simp,by simp,h,Or.inl ⟨rfl,rfl,rfl,rfl⟩⟩
 | k::ks,c::cs,l,hi,es,qs,h=>by
   obtain ⟨e1,q1,e2,q2,rfl,rfl,h3,h4⟩:=h
   exact ⟨c,cs,e1,q1,e2,q2,rfl,rfl,rfl,h3,Or.inr ⟨k,ks,rfl,h4⟩⟩
 | [],[],_,_,_,_,h=>h.elim
 | [],_::_::_,_,_,_,_,h=>h.elim
 | _::_,[],_,_,_,_,h=>h.elim
structure SoAt (S:R) (lo hi:K) (n:ND) (es:List E) (qs:List Int) (i:Nat) (e1:List E) (q1:List Int):Prop where
 ex:∃ e2 q2,es=e1++e2∧qs=q1++q2∧(i<n.kids.length→Run S (lowAt lo n.keys i) hi (n.keys.drop i) (n.kids.drop i) e2 q2)∧(i=n.kids.length→e2=[]∧q2=[])
theorem SoAt.start {S:R} {lo hi:K} {n:ND} {es:List E} {qs:List Int} (h:Run S lo hi n.keys n.kids es qs):SoAt S lo hi n es qs 0 [] [] :=
 ⟨es,qs,rfl,rfl,fun _=>h,fun e=>by
  have:=run_len h
  omega⟩
theorem SoAt.step {S:R} {lo hi:K} {n:ND} {es e1:List E} {qs q1:List Int} {i:Nat} (h:SoAt S lo hi n es qs i e1 q1) (hlen:n.kids.length=n.keys.length+1) (hi':i<n.kids.length) :
 ∃ c ea qa,n.kids[i]?=some c∧S c (lowAt lo n.keys i) (highAt hi n.keys i) ea qa∧SoAt S lo hi n es qs (i+1) (e1++ea) (q1++qa)∧(∀ x∈qa,x∈qs)∧(e1++ea).length≤es.length∧(q1++qa).length≤qs.length:=by
 obtain ⟨e2,q2,rfl,rfl,h1,_⟩:=h.ex
 obtain ⟨c,cs',ea,qa,e3,q3,hc,rfl,rfl,hS,hr⟩:=run_one (h1 hi')
 have hc0:n.kids[i]?=some c:=by
  rw [← List.head?_drop,hc]
  rfl
 have hc1:n.kids.drop (i+1)=cs':=by
  rw [← List.drop_drop,hc]
  rfl
 rw [List.head?_drop] at hS
 refine ⟨c,ea,qa,hc0,hS,⟨e3,q3,by simp,by simp,fun hlt=>?_,fun he=>?_⟩,fun x hx=>by simp [hx],by simp,by simp⟩
 ·rcases hr with ⟨a,b,_,_⟩ | ⟨k,ks',a,b⟩
  ·have:=congrArg List.length hc
   rw [b] at this
   simp at this
   omega
  ·have hk0:n.keys[i]?=some k:=by
    rw [← List.head?_drop,a]
    rfl
   have hk1:n.keys.drop (i+1)=ks':=by
    rw [← List.drop_drop,a]
    rfl
   have:lowAt lo n.keys (i+1)=k:=by
    unfold lowAt
    rw [if_neg (by omega),Nat.add_sub_cancel,List.getD_eq_getElem?_getD,hk0]
    rfl
   rw [this,hk1,hc1]
   exact b
 ·rcases hr with ⟨a,b,c1,d1⟩ | ⟨k,ks',a,b⟩
  ·exact ⟨c1,d1⟩
  ·have h2:=congrArg List.length hc
   have h3:=congrArg List.length a
   simp at h2 h3
   have:=run_len b
   omega
theorem SoAt.done {S:R} {lo hi:K} {n:ND} {es e1:List E} {qs q1:List Int} {i:Nat} (h:SoAt S lo hi n es qs i e1 q1) (hi':i=n.kids.length):e1=es∧q1=qs:=by
 obtain ⟨e2,q2,rfl,rfl,_,h2⟩:=h.ex
 obtain ⟨rfl,rfl⟩:=h2 hi'
 simp
end TT
theorem tsz_len:∀ l:List (List UInt8),l.length≤ND.tsz l
 | []=>Nat.zero_le _
 | x::l=>by
   rw [ND.tsz_cons,List.length_cons]
   have:=tsz_len l
   omega
theorem hi_case {s H:ByteArray} (h:H.toList=[]∨Op.bytesLess s.toList H.toList=true):((H.toList==[])=true)∨((H.toList==[])=false∧Op.bytesLess s.toList H.toList=true):=by
 by_cases hH:H.toList=[]
 ·exact Or.inl (beq_iff_eq.2 hH)
 ·exact Or.inr ⟨beq_eq_false_iff_ne.2 hH,h.resolve_left hH⟩
def SoEnd (W:World) (F:Nat→Prop) (w:World) (tb pb db:Nat) (t:TS) (ps:List Int) (cnt:Nat) (e:Ending) (w':World):Prop :=
 ∃ A c F',e = .returned (.tuple #[.slice A ps.length c,.int .i64 ((cnt:Nat):Int),.bool true])∧w'.ownsRow w.heap.size 3 1 (.slice A ps.length c) ps.length (intVals ps)∧Tree W F' w' tb pb db t∧Moves w F w' F'∧∀ ad,A=some ad→¬ F' ad.block
section
variable {W w w':World} {G F F':Nat→Prop} {tb pb db:Nat} {t:TS}
def SoR (W w5:World) (F1:Nat→Prop) (tb pb db:Nat) (t:TS) (p:Int) (r cap:Nat) (q1:List Int) (w:World):Prop :=
 ∃ F,Tree W F w tb pb db t∧Moves w5 F1 w F∧w.ownsRow w5.heap.size 3 1 (.slice (some ⟨r,0,none⟩) (q1.length+1) cap) (q1.length+1) (intVals (p::q1))∧¬ F r
theorem SoR.push {w5 w7 w8:World} {F1 F7:Nat→Prop} {p:Int} {r r8 cap8:Nat} {q1 qa:List Int} (hm:Moves w5 F1 w7 F7) (hT:Tree W F7 w7 tb pb db t) (hr:¬ F7 r)
 (hb:w5.heap.size≤r) (hWb:W.heap.size≤w5.heap.size) (g8:w7.grownBy w8 (some r)) (hat:some r=some r8∨r8=w7.heap.size)
 (o8:w8.ownsRow w5.heap.size 3 1 (.slice (some ⟨r8,0,none⟩) (q1.length+1+qa.length) cap8) (q1.length+1+qa.length) (intVals (p::q1)++intVals qa)):SoR W w5 F1 tb pb db t p r8 cap8 (q1++qa) w8:=by
 have e1:(q1++qa).length+1=q1.length+1+qa.length:=by simp;omega
 have e2:intVals (p::(q1++qa))=intVals (p::q1)++intVals qa:=by simp [intVals]
 refine ⟨F7,hT.grown g8 (fun k e=>by obtain rfl:=Option.some.inj e;exact ⟨hr,Nat.le_trans hWb hb⟩),⟨⟨g8.os.trans hm.kept.os,g8.tape.trans hm.kept.tape,g8.output.trans hm.kept.output,Nat.le_trans hm.kept.size g8.size,fun k h1 h2=>?_⟩,fun k hk=>hm.news k hk⟩,by rw [e1,e2];exact o8,?_⟩
 ·exact (g8.block k (Nat.lt_of_lt_of_le h1 hm.kept.size) (fun e=>by have:=Option.some.inj e;omega)).trans (hm.kept.block k h1 h2)
 ·rcases hat with e | e
  ·rw [← Option.some.inj e]
   exact hr
  ·rw [e]
   exact hT.new (Nat.le_refl _)
theorem sound_walk (h:Nat)
 (IH:∀ (w:World) (F:Nat→Prop) (p Z:Int) (L H:ByteArray) (es:List TT.E) (ps:List Int),TT.Sub t.nd h p L.toList H.toList es ps→(∀ x∈ps,0≤x∧x<t.z)→es.length≤1000→ps.length≤5000→Tree W F w tb pb db t→Z=h →
   Calls Tryz.prog 36 #[.pointer (some ⟨tb,0,none⟩),.int .i64 p,.int .i64 Z,.string L,.string H,.bool false] w (SoEnd W F w tb pb db t ps es.length))
 (w:World) (p:Int) (n:ND) (L H:ByteArray) (es:List TT.E) (qs:List Int) (root:Bool) (hl:t.lost=0) (hn:t.nd p=some n) (hs:n.size≤1000) (hr:root=true∨250<n.size) (hk:0<n.keys.length) (hh:h≤100)
 (v:TT.VN (TT.Sub t.nd h) h n L.toList H.toList es qs) (hb:∀ x∈p::qs,0≤x∧x<t.z) (he:es.length≤1000) (hq:qs.length<5000) (hT:Tree W F w tb pb db t) (Z:Int) (hZ:Z=h+1) :
 Calls Tryz.prog 36 #[.pointer (some ⟨tb,0,none⟩),.int .i64 p,.int .i64 Z,.string L,.string H,.bool root] w (SoEnd W F w tb pb db t (p::qs) es.length):=by
 obtain ⟨i0,hi,hz0,hz1,hz2⟩:=info_parts eInfoI
 have CN:=tnode_live w p (hb p (by simp)).1 (hb p (by simp)).2 hl hT
 have e1:nodeE t p=0:=by unfold nodeE;rw [hn];rfl
 have e2:nodeS t p=n:=by unfold nodeS;rw [hn];rfl
 have e3:t.told 0=t:=by unfold TS.told;rw [← hl]
 rw [e1,e2,e3] at CN
 have HCN:=Lib.hid CN
 have HIH:=Lib.hid IH
 have HV:=Lib.hid v
 have HB:=Lib.hid hb
 have HQ:=Lib.hid hq
 have HE:=Lib.hid he
 have hok:n.ok=true:=v.ok (Or.inr hk)
 have hleaf:n.leaf=decide (h=0):=v.leaf
 have HR:Hid (root=false→((decide (((n.size:Nat):Int)≤250))=false)):=Lib.hid (fun e=>by rcases hr with e2 | e2;(rw [e] at e2;cases e2);exact decide_eq_false (by omega))
 have HCK:Hid (n.checkE=0):=Lib.hid (ncheck_good hok)
 have HK:=Lib.hid hk
 have HS:=Lib.hid hs
 have HLF:=Lib.hid hleaf
 have hW:=hT.below.size
 clear CN IH v hb hq he hok hr hk hs hleaf hn hl e1 e2 e3 hT
 go_enter Tryz.func36,Tryz.ntmps36
 go_wp2_with fail
 refine HCN.out.mono ?_
 rintro e w1 ⟨x,F1,rfl,xok,xs,xhi,h1,m1⟩
 obtain ⟨A,m,c,B,m2,c2,C,k,c3,xss⟩:=x
 obtain rfl:xss=n:=xs
 have b2:=below_one w1 (.cells #[.bool xss.leaf,.slice A m c,.slice B m2 c2,.slice C k c3] 68)
 have HN2:=Lib.hid (nbox_new w1 (.bool xss.leaf) (.slice A m c) (.slice B m2 c2) (.slice C k c3))
 have H2:=Lib.hid (h1.kept b2)
 have M2:=Lib.hid (m1.trans (Moves.of_below (F:=F1) b2))
 have HX2:=Lib.hid (xok.kept b2)
 have NF2:=Lib.hid (h1.new (Nat.le_refl w1.heap.size))
 clear xhi h1 m1 HCN b2
 unfold NV.val
 dsimp only
 go_upto_region 2 with fail
 clear xok
 generalize hw2:w1.alloc (.cells #[.bool xss.leaf,.slice A m c,.slice B m2 c2,.slice C k c3] 68)=w2 at *
 generalize w1.heap.size=g at *
 clear hw2
 obtain ⟨c0,c1,c2',c3'⟩:=HN2.out.cells
 have hkn:xss.keys.length=m:=HX2.out.nd.kn
 have hvn:xss.vals.length=m2:=HX2.out.nd.vn
 have hcn:xss.kids.length=k:=HX2.out.nd.cn
 have hsz:xss.size≤1000:=HS.out
 unfold ND.size at hsz
 have q1:=tsz_len xss.keys
 have q2:=tsz_len xss.vals
 have hm:m≤1000:=by omega
 have hm2:m2≤1000:=by omega
 have hk1:k≤1000:=by omega
 clear hsz q1 q2 hvn
 have HC:=Lib.hid (fun (wx:World) (hN:Nd wx A m c B m2 c2 C k c3 xss)=>ncheck_any xss.leaf A m c B m2 c2 C k c3 xss wx hN rfl (by omega) (by omega) (by omega))
 have HF:=Lib.hid (fun (wx:World) (hN:Nd wx A m c B m2 c2 C k c3 xss)=>fits_any xss.leaf A m c B m2 c2 C k c3 xss wx hN (by have:=HS.out;omega))
 have HZ:=Lib.hid (fun (wx:World) (hN:Nd wx A m c B m2 c2 C k c3 xss)=>nsize_any xss.leaf A m c B m2 c2 C k c3 xss wx hN (by have:=HS.out;omega))
 rw [HCK.out] at HC
 rw [decide_eq_true HS.out] at HF
 have hZL:(Z==1)=xss.leaf:=by
  rw [HLF.out]
  by_cases h0:h=0
  ·rw [decide_eq_true h0,beq_iff_eq]
   omega
  ·rw [decide_eq_false h0,beq_eq_false_iff_ne]
   omega
 have hZ1:Z≤101:=by omega
 have hZ0:1≤Z:=by omega
 have HZE:=Lib.hid hZ
 clear hZ
 obtain ⟨lf,hlf⟩:∃ lf,xss.leaf=lf:=⟨_,rfl⟩
 rw [hlf] at hZL HC HF HZ c0 HN2
 have HLFE:=Lib.hid hlf
 clear hlf
 go_wp2_with fail
 refine (HC.out _ HX2.out.nd).mono ?_
 rintro e w3 ⟨rfl,b3⟩
 have HN3:=Lib.hid (HN2.out.kept b3)
 have HX3:=Lib.hid (HX2.out.kept b3)
 have H3:=Lib.hid (H2.out.kept b3)
 have M3:=Lib.hid (M2.out.trans (Moves.of_below (F:=F1) b3))
 clear b3 c0 c1 c2' c3' HN2 HX2 H2 M2
 obtain ⟨c0,c1,c2',c3'⟩:=HN3.out.cells
 go_wp2_with fail
 refine (HF.out _ HX3.out.nd).mono ?_
 rintro e w4 ⟨rfl,b4⟩
 have HN4:=Lib.hid (HN3.out.kept b4)
 have HX4:=Lib.hid (HX3.out.kept b4)
 have H4:=Lib.hid (H3.out.kept b4)
 have M4:=Lib.hid (M3.out.trans (Moves.of_below (F:=F1) b4))
 clear b4 c0 c1 c2' c3' HN3 HX3 H3 M3
 obtain ⟨c0,c1,c2',c3'⟩:=HN4.out.cells
 have HKB:Hid (∀ k∈xss.keys,TT.btw L.toList H.toList k):=Lib.hid HV.out.keys
 clear HC HF
 cases root with
 | true =>
   clear HR HZ
   obtain ⟨w5,hw5⟩:∃ w5,w4=w5:=⟨_,rfl⟩
   rw [hw5] at HN4 HX4 H4 M4 c0 c1 c2' c3' ⊢
   clear hw5
   have HN5:=HN4
   have HX5:=HX4
   have H5:=H4
   have M5:=M4
   clear HN4 HX4 H4 M4
   go_wp2_with fail
   go_loop [17] (fun i=>∃ j:Nat,j≤m∧i = .int .i64 j) (fun i=>m - (RowKit.intOf i).toNat)
   case atStart=>exact ⟨0,Nat.zero_le _,rfl⟩
   case round =>
    obtain ⟨j,hj,rfl⟩:=hrel
    by_cases hlt:j<m
    ·obtain ⟨b,off,s,rfl,hv,f0⟩:=HX5.out.nd.ke.strAt hlt
     obtain ⟨k1,k2⟩:=HKB.out _ (List.mem_of_getElem? hv)
     have hcase:=hi_case k2
     clear hv k2
     rcases hcase with hc | ⟨hc,hc2⟩
     all_goals
      go_wp2_with fail
      go_round
      case rel=>exact ⟨j+1,by omega,by go_num⟩
      case measure=>simp [RowKit.intOf];omega
    ·obtain rfl:m=j:=by omega
     clear hlt hj HKB
     have b6:=below_one w5 (.cells #[.int .i64 p] 3)
     have hWW:w.heap.size≤w5.heap.size:=M5.out.kept.size
     have O6:Hid ((w5.alloc (.cells #[.int .i64 p] 3)).ownsRow w5.heap.size 3 1 (.slice (some ⟨w5.heap.size,0,none⟩) 1 1) 1 (intVals [p])):=Lib.hid (World.ownsRow_lit w5 #[.int .i64 p] 1 (Nat.le_refl _) (by decide) rfl)
     have HN6:=Lib.hid (HN5.out.kept b6)
     have H6:=Lib.hid (H5.out.kept b6)
     have MO6:=Lib.hid (Moves.of_below (F:=F1) b6)
     have NF6:Hid (¬ F1 w5.heap.size):=Lib.hid (H5.out.new (Nat.le_refl w5.heap.size))
     clear b6
     go_upto_region 10 with fail
     clear c0 c1 c2' c3'
     generalize hw6:w5.alloc (.cells #[.int .i64 p] 3)=w6 at *
     clear hw6
     obtain ⟨c0,c1,c2',c3'⟩:=HN6.out.cells
     cases lf with
     | true =>
       have hh0:h=0:=by have:=HLF.out;rw [HLFE.out] at this;simpa using this.symm
       have hvl:TT.VL xss L.toList H.toList es∧qs=[]:=by
        have:=HV.out
        rw [hh0] at this
        exact this
       obtain ⟨hvl,rfl⟩:=hvl
       have hes:es.length=m:=by rw [hvl.ents,List.length_zip,hvl.nv];omega
       have hm0:0<m:=by have:=HK.out;omega
       have HD:Hid (∀ wx,Below w6.heap.size w6 wx→SoEnd W F w tb pb db t [p] es.length (.returned (.tuple #[.slice (some ⟨w5.heap.size,0,none⟩) 1 1,.int .i64 ((m:Nat):Int),.bool true])) wx):=Lib.hid (fun wx hb=>by
        rw [hes]
        exact ⟨_,_,F1,rfl,row_base (row_below O6.out hb) hWW,H6.out.kept hb,M5.out.trans (MO6.out.trans (Moves.of_below hb)),fun ad e=>by obtain rfl:=Option.some.inj e;exact NF6.out⟩)
       clear hvl hes hh0
       go_wp2_with fail
       go_quiet (fail)
       go_wp2_with fail
       refine bodyPost_ret (v := .tuple #[.slice (some ⟨w5.heap.size,0,none⟩) 1 1,.int .i64 ((m:Nat):Int),.bool true]) (by simp [results,Tryz.results36,go_sem]) rfl ?_
       exact HD.out _ (belowN (Below.refl _ _) _)
     | false =>
       have hh1:∃ h1,h=h1+1:=by
        have:=HLF.out
        rw [HLFE.out] at this
        refine ⟨h - 1,?_⟩
        have:¬ h=0:=by simpa using this.symm
        omega
       obtain ⟨h1,hh1⟩:=hh1
       have HVI:Hid (TT.VI (TT.Sub t.nd h) xss L.toList H.toList es qs):=Lib.hid (by
        have:=HV.out
        rw [hh1] at this ⊢
        exact this)
       have hlen:xss.kids.length=xss.keys.length+1:=TT.run_len HVI.out.run
       have HLEN:=Lib.hid hlen
       have hkm:k=m+1:=by omega
       have hm0:0<m:=by have:=HK.out;omega
       have hWb:W.heap.size≤w5.heap.size:=Nat.le_trans hW hWW
       have R0:Hid (SoR W w5 F1 tb pb db t p w5.heap.size 1 [] w6):=Lib.hid ⟨F1,H6.out,MO6.out,O6.out,NF6.out⟩
       have S0:Hid (TT.SoAt (TT.Sub t.nd h) L.toList H.toList xss es qs 0 [] []):=Lib.hid (TT.SoAt.start HVI.out.run)
       clear hlen H6 MO6 NF6 O6
       go_wp2_with fail
       clear c0 c1 c2' c3' HN6
       go_loopw [18,19,20] (fun s18 s19 s20 wr=>∃ (j r cap:Nat) (e1:List TT.E) (q1:List Int),j≤k∧s20 = .int .i64 j∧s19 = .int .i64 ((e1.length:Nat):Int)∧s18 = .slice (some ⟨r,0,none⟩) (q1.length+1) cap∧e1.length≤es.length∧q1.length≤qs.length∧w5.heap.size≤r∧Hid (TT.SoAt (TT.Sub t.nd h) L.toList H.toList xss es qs j e1 q1)∧Hid (SoR W w5 F1 tb pb db t p r cap q1 wr)) (fun _ _ s20 _=>k - (RowKit.intOf s20).toNat)
       case atStart=>exact ⟨0,w5.heap.size,1,[],[],Nat.zero_le _,rfl,rfl,rfl,Nat.zero_le _,Nat.zero_le _,Nat.le_refl _,S0,R0⟩
       case round =>
        obtain ⟨j,r,cap,e1,q1,hj,rfl,rfl,rfl,hl1,hl2,hrb,hsa,hrel⟩:=hrel
        obtain ⟨Fr,hT,hM,hO,hnr⟩:=hrel.out
        have HNr:=HN5.out.moves hM NF2.out
        have HXr:=HX5.out.moves hM
        obtain ⟨c0,c1,c2',c3'⟩:=HNr.cells
        have HEE:=HE.out
        have HQQ:=HQ.out
        by_cases hlt:j<k
        ·obtain ⟨cz,ea,qa,hc,hS,hnx,hsub,hle1,hle2⟩:=hsa.out.step HLEN.out (by rw [hcn];exact hlt)
         obtain ⟨bk,ok,z,rfl,hz,fk⟩:=HXr.nd.ki.intAt hlt
         obtain rfl:z=cz:=Option.some.inj (hz.symm.trans hc)
         have HNX:=Lib.hid hnx
         have hqa:0<qa.length:=by
          rw [hh1] at hS
          obtain ⟨n',qs',e',_⟩:=hS
          rw [e']
          simp
         have CI:Hid (∀ LX HX:ByteArray,LX.toList=TT.lowAt L.toList xss.keys j→HX.toList=TT.highAt H.toList xss.keys j→Calls Tryz.prog 36 #[.pointer (some ⟨tb,0,none⟩),.int .i64 z,.int .i64 (Z - 1),.string LX,.string HX,.bool false] wr (SoEnd W Fr wr tb pb db t qa ea.length)):=Lib.hid (fun LX HX e1' e2' =>
          HIH.out wr Fr z (Z - 1) LX HX ea qa (by rw [e1',e2'];exact hS) (fun x hx=>HB.out x (by simp [hsub x hx])) (by simp at hle1;omega) (by simp at hle2;omega) hT (by have:=HZE.out;omega))
         have HO:=Lib.hid hO
         have HM:=Lib.hid hM
         have HNR:=Lib.hid hnr
         have hrl:r<wr.heap.size:=(hO.lt r rfl).2
         simp only [List.length_append] at hle1 hle2
         clear hnx hS hsub hz hc hT hO hM hnr hrel hsa
         by_cases hj0:j=0
         ·obtain ⟨b2,o2,s2,rfl,hv2,f2⟩:=HXr.nd.ke.strAt (k:=j) (show j<m by omega)
          have CC:=Lib.hid (CI.out L s2 (by unfold TT.lowAt;rw [if_pos hj0]) (by unfold TT.highAt;rw [hv2];rfl))
          have hjz:¬ (0:Int)<(j:Int):=by omega
          clear hv2 HXr CI hj0
          go_wp2_with fail
          refine CC.out.mono ?_
          rintro e w7 ⟨A7,cp7,F7,rfl,o7,T7,m7,n7⟩
          have hO7:Hid (w7.ownsRow w5.heap.size 3 1 (.slice (some ⟨r,0,none⟩) (q1.length+1) cap) (q1.length+1) (intVals (p::q1))):=Lib.hid (trow_same HO.out (fun gg e=>by obtain rfl:=Option.some.inj e;exact m7.kept.block r hrl HNR.out))
          obtain ⟨a7,cc7,e7⟩:=Joins.ownsRow_form o7 hqa
          injection e7 with e8 _ _
          subst e8
          have HL7:=Lib.hid (o7.cells (g:=a7) rfl)
          have HM7:=Lib.hid (HM.out.trans m7)
          have HT7:=Lib.hid T7
          have HN7:Hid (¬ F7 r):=Lib.hid (fun e=>by
           rcases m7.news r e with e | e
           ·exact HNR.out e
           ·omega)
          have hs7:w5.heap.size≤w7.heap.size:=HM7.out.kept.size
          clear o7 T7 m7 n7 c0 c1 c2' c3' fk HNr CC
          have x1:(intVals qa).length=qa.length*1:=by rw [intVals_length,Nat.mul_one]
          have x2:q1.length+1+qa.length≤maxLen:=by unfold maxLen;omega
          have x3:(q1.length+1+qa.length)*8≤140737488355328:=by omega
          go_wp2_with (at_builtin;refine wpList_append_lies _ rfl (.tmp 143) (.tmp 144) 36 rfl w5.heap.size 3 i0 (.int .i64 0) 1 8 Tryz.underlying36 hi hz0 hz1 hz2 rfl (by decide) _ (q1.length+1) (intVals (p::q1)) rfl hO7.out ⟨a7,0,none⟩ qa.length _ (intVals qa) rfl x1 HL7.out (intVals_one _) hqa x2 x3 hs7 w7.heap.size rfl ?_;intro r8 cap8 w8 o8 g8 hat8 lt8)
          have HS8:Hid (SoR W w5 F1 tb pb db t p r8 cap8 (q1++qa) w8):=Lib.hid (SoR.push HM7.out HT7.out HN7.out hrb hWb g8 hat8 o8)
          have hr8:w5.heap.size≤r8:=(o8.lt r8 rfl).1
          clear o8 g8 hat8 lt8 hO7 HL7 HM7 HT7 HN7
          go_roundw
          case rel=>exact ⟨j+1,r8,cap8,e1++ea,q1++qa,by omega,by go_num,by rw [List.length_append];go_num,by rw [List.length_append];congr 1;omega,by rw [List.length_append];omega,by rw [List.length_append];omega,hr8,HNX,HS8⟩
          case measure=>simp [RowKit.intOf];omega
         ·obtain ⟨b2,o2,s2,rfl,hv2,f2⟩:=HXr.nd.ke.strAt (k:=j - 1) (show j - 1<m by omega)
          have ej:(((j - 1:Nat)):Int)=(j:Int) - 1:=by omega
          have hlow:s2.toList=TT.lowAt L.toList xss.keys j:=by
           unfold TT.lowAt
           rw [if_neg hj0,List.getD_eq_getElem?_getD,hv2]
           rfl
          by_cases hjm:j<m
          ·obtain ⟨b3,o3,s3,e3,hv3,f3⟩:=HXr.nd.ke.strAt hjm
           injection e3 with e3
           injection e3 with e4 e5
           subst e4 e5
           have CC:=Lib.hid (CI.out s2 s3 hlow (by unfold TT.highAt;rw [hv3];rfl))
           clear hv2 hv3 hlow HXr CI
           go_wp2_with fail
           refine CC.out.mono ?_
           rintro e w7 ⟨A7,cp7,F7,rfl,o7,T7,m7,n7⟩
           have hO7:Hid (w7.ownsRow w5.heap.size 3 1 (.slice (some ⟨r,0,none⟩) (q1.length+1) cap) (q1.length+1) (intVals (p::q1))):=Lib.hid (trow_same HO.out (fun gg e=>by obtain rfl:=Option.some.inj e;exact m7.kept.block r hrl HNR.out))
           obtain ⟨a7,cc7,e7⟩:=Joins.ownsRow_form o7 hqa
           injection e7 with e8 _ _
           subst e8
           have HL7:=Lib.hid (o7.cells (g:=a7) rfl)
           have HM7:=Lib.hid (HM.out.trans m7)
           have HT7:=Lib.hid T7
           have HN7:Hid (¬ F7 r):=Lib.hid (fun e=>by
            rcases m7.news r e with e | e
            ·exact HNR.out e
            ·omega)
           have hs7:w5.heap.size≤w7.heap.size:=HM7.out.kept.size
           clear o7 T7 m7 n7 c0 c1 c2' c3' fk HNr CC
           have x1:(intVals qa).length=qa.length*1:=by rw [intVals_length,Nat.mul_one]
           have x2:q1.length+1+qa.length≤maxLen:=by unfold maxLen;omega
           have x3:(q1.length+1+qa.length)*8≤140737488355328:=by omega
           go_wp2_with (at_builtin;refine wpList_append_lies _ rfl (.tmp 143) (.tmp 144) 36 rfl w5.heap.size 3 i0 (.int .i64 0) 1 8 Tryz.underlying36 hi hz0 hz1 hz2 rfl (by decide) _ (q1.length+1) (intVals (p::q1)) rfl hO7.out ⟨a7,0,none⟩ qa.length _ (intVals qa) rfl x1 HL7.out (intVals_one _) hqa x2 x3 hs7 w7.heap.size rfl ?_;intro r8 cap8 w8 o8 g8 hat8 lt8)
           have HS8:Hid (SoR W w5 F1 tb pb db t p r8 cap8 (q1++qa) w8):=Lib.hid (SoR.push HM7.out HT7.out HN7.out hrb hWb g8 hat8 o8)
           have hr8:w5.heap.size≤r8:=(o8.lt r8 rfl).1
           clear o8 g8 hat8 lt8 hO7 HL7 HM7 HT7 HN7
           go_roundw
           case rel=>exact ⟨j+1,r8,cap8,e1++ea,q1++qa,by omega,by go_num,by rw [List.length_append];go_num,by rw [List.length_append];congr 1;omega,by rw [List.length_append];omega,by rw [List.length_append];omega,hr8,HNX,HS8⟩
           case measure=>simp [RowKit.intOf];omega
          ·have hjm2:m≤j:=by omega
           have CC:=Lib.hid (CI.out s2 H hlow (by unfold TT.highAt;rw [List.getElem?_eq_none (by omega)];rfl))
           clear hv2 hlow HXr CI
           go_wp2_with fail
           refine CC.out.mono ?_
           rintro e w7 ⟨A7,cp7,F7,rfl,o7,T7,m7,n7⟩
           have hO7:Hid (w7.ownsRow w5.heap.size 3 1 (.slice (some ⟨r,0,none⟩) (q1.length+1) cap) (q1.length+1) (intVals (p::q1))):=Lib.hid (trow_same HO.out (fun gg e=>by obtain rfl:=Option.some.inj e;exact m7.kept.block r hrl HNR.out))
           obtain ⟨a7,cc7,e7⟩:=Joins.ownsRow_form o7 hqa
           injection e7 with e8 _ _
           subst e8
           have HL7:=Lib.hid (o7.cells (g:=a7) rfl)
           have HM7:=Lib.hid (HM.out.trans m7)
           have HT7:=Lib.hid T7
           have HN7:Hid (¬ F7 r):=Lib.hid (fun e=>by
            rcases m7.news r e with e | e
            ·exact HNR.out e
            ·omega)
           have hs7:w5.heap.size≤w7.heap.size:=HM7.out.kept.size
           clear o7 T7 m7 n7 c0 c1 c2' c3' fk HNr CC
           have x1:(intVals qa).length=qa.length*1:=by rw [intVals_length,Nat.mul_one]
           have x2:q1.length+1+qa.length≤maxLen:=by unfold maxLen;omega
           have x3:(q1.length+1+qa.length)*8≤140737488355328:=by omega
           go_wp2_with (at_builtin;refine wpList_append_lies _ rfl (.tmp 143) (.tmp 144) 36 rfl w5.heap.size 3 i0 (.int .i64 0) 1 8 Tryz.underlying36 hi hz0 hz1 hz2 rfl (by decide) _ (q1.length+1) (intVals (p::q1)) rfl hO7.out ⟨a7,0,none⟩ qa.length _ (intVals qa) rfl x1 HL7.out (intVals_one _) hqa x2 x3 hs7 w7.heap.size rfl ?_;intro r8 cap8 w8 o8 g8 hat8 lt8)
           have HS8:Hid (SoR W w5 F1 tb pb db t p r8 cap8 (q1++qa) w8):=Lib.hid (SoR.push HM7.out HT7.out HN7.out hrb hWb g8 hat8 o8)
           have hr8:w5.heap.size≤r8:=(o8.lt r8 rfl).1
           clear o8 g8 hat8 lt8 hO7 HL7 HM7 HT7 HN7
           go_roundw
           case rel=>exact ⟨j+1,r8,cap8,e1++ea,q1++qa,by omega,by go_num,by rw [List.length_append];go_num,by rw [List.length_append];congr 1;omega,by rw [List.length_append];omega,by rw [List.length_append];omega,hr8,HNX,HS8⟩
           case measure=>simp [RowKit.intOf];omega
        ·obtain rfl:k=j:=by omega
         obtain ⟨rfl,rfl⟩:=hsa.out.done hcn.symm
         have HD:Hid (SoEnd W F w tb pb db t (p::q1) e1.length (.returned (.tuple #[.slice (some ⟨r,0,none⟩) (q1.length+1) cap,.int .i64 ((e1.length:Nat):Int),.bool true])) wr):=Lib.hid
          ⟨_,_,Fr,rfl,row_base hO hWW,hT,M5.out.trans hM,fun ad e=>by obtain rfl:=Option.some.inj e;exact hnr⟩
         clear hT hM hO hnr hsa HNr HXr
         go_wp2_with fail
         refine bodyPost_ret (v := .tuple #[.slice (some ⟨r,0,none⟩) (q1.length+1) cap,.int .i64 ((e1.length:Nat):Int),.bool true]) (by simp [results,Tryz.results36,go_sem]) rfl ?_
         exact HD.out
 | false =>
   have HR5:=HR.out rfl
   go_wp2_with fail
   refine (HZ.out _ HX4.out.nd).mono ?_
   rintro e w5 ⟨rfl,b5⟩
   have HN5:=Lib.hid (HN4.out.kept b5)
   have HX5:=Lib.hid (HX4.out.kept b5)
   have H5:=Lib.hid (H4.out.kept b5)
   have M5:=Lib.hid (M4.out.trans (Moves.of_below (F:=F1) b5))
   clear b5 c0 c1 c2' c3' HN4 HX4 H4 M4 HR HZ
   obtain ⟨c0,c1,c2',c3'⟩:=HN5.out.cells
   go_wp2_with fail
   clear HR5
   go_loop [17] (fun i=>∃ j:Nat,j≤m∧i = .int .i64 j) (fun i=>m - (RowKit.intOf i).toNat)
   case atStart=>exact ⟨0,Nat.zero_le _,rfl⟩
   case round =>
    obtain ⟨j,hj,rfl⟩:=hrel
    by_cases hlt:j<m
    ·obtain ⟨b,off,s,rfl,hv,f0⟩:=HX5.out.nd.ke.strAt hlt
     obtain ⟨k1,k2⟩:=HKB.out _ (List.mem_of_getElem? hv)
     have hcase:=hi_case k2
     clear hv k2
     rcases hcase with hc | ⟨hc,hc2⟩
     all_goals
      go_wp2_with fail
      go_round
      case rel=>exact ⟨j+1,by omega,by go_num⟩
      case measure=>simp [RowKit.intOf];omega
    ·obtain rfl:m=j:=by omega
     clear hlt hj HKB
     have b6:=below_one w5 (.cells #[.int .i64 p] 3)
     have hWW:w.heap.size≤w5.heap.size:=M5.out.kept.size
     have O6:Hid ((w5.alloc (.cells #[.int .i64 p] 3)).ownsRow w5.heap.size 3 1 (.slice (some ⟨w5.heap.size,0,none⟩) 1 1) 1 (intVals [p])):=Lib.hid (World.ownsRow_lit w5 #[.int .i64 p] 1 (Nat.le_refl _) (by decide) rfl)
     have HN6:=Lib.hid (HN5.out.kept b6)
     have H6:=Lib.hid (H5.out.kept b6)
     have MO6:=Lib.hid (Moves.of_below (F:=F1) b6)
     have NF6:Hid (¬ F1 w5.heap.size):=Lib.hid (H5.out.new (Nat.le_refl w5.heap.size))
     clear b6
     go_upto_region 10 with fail
     clear c0 c1 c2' c3'
     generalize hw6:w5.alloc (.cells #[.int .i64 p] 3)=w6 at *
     clear hw6
     obtain ⟨c0,c1,c2',c3'⟩:=HN6.out.cells
     cases lf with
     | true =>
       have hh0:h=0:=by have:=HLF.out;rw [HLFE.out] at this;simpa using this.symm
       have hvl:TT.VL xss L.toList H.toList es∧qs=[]:=by
        have:=HV.out
        rw [hh0] at this
        exact this
       obtain ⟨hvl,rfl⟩:=hvl
       have hes:es.length=m:=by rw [hvl.ents,List.length_zip,hvl.nv];omega
       have hm0:0<m:=by have:=HK.out;omega
       have HD:Hid (∀ wx,Below w6.heap.size w6 wx→SoEnd W F w tb pb db t [p] es.length (.returned (.tuple #[.slice (some ⟨w5.heap.size,0,none⟩) 1 1,.int .i64 ((m:Nat):Int),.bool true])) wx):=Lib.hid (fun wx hb=>by
        rw [hes]
        exact ⟨_,_,F1,rfl,row_base (row_below O6.out hb) hWW,H6.out.kept hb,M5.out.trans (MO6.out.trans (Moves.of_below hb)),fun ad e=>by obtain rfl:=Option.some.inj e;exact NF6.out⟩)
       clear hvl hes hh0
       go_wp2_with fail
       go_quiet (fail)
       go_wp2_with fail
       refine bodyPost_ret (v := .tuple #[.slice (some ⟨w5.heap.size,0,none⟩) 1 1,.int .i64 ((m:Nat):Int),.bool true]) (by simp [results,Tryz.results36,go_sem]) rfl ?_
       exact HD.out _ (belowN (Below.refl _ _) _)
     | false =>
       have hh1:∃ h1,h=h1+1:=by
        have:=HLF.out
        rw [HLFE.out] at this
        refine ⟨h - 1,?_⟩
        have:¬ h=0:=by simpa using this.symm
        omega
       obtain ⟨h1,hh1⟩:=hh1
       have HVI:Hid (TT.VI (TT.Sub t.nd h) xss L.toList H.toList es qs):=Lib.hid (by
        have:=HV.out
        rw [hh1] at this ⊢
        exact this)
       have hlen:xss.kids.length=xss.keys.length+1:=TT.run_len HVI.out.run
       have HLEN:=Lib.hid hlen
       have hkm:k=m+1:=by omega
       have hm0:0<m:=by have:=HK.out;omega
       have hWb:W.heap.size≤w5.heap.size:=Nat.le_trans hW hWW
       have R0:Hid (SoR W w5 F1 tb pb db t p w5.heap.size 1 [] w6):=Lib.hid ⟨F1,H6.out,MO6.out,O6.out,NF6.out⟩
       have S0:Hid (TT.SoAt (TT.Sub t.nd h) L.toList H.toList xss es qs 0 [] []):=Lib.hid (TT.SoAt.start HVI.out.run)
       clear hlen H6 MO6 NF6 O6
       go_wp2_with fail
       clear c0 c1 c2' c3' HN6
       go_loopw [18,19,20] (fun s18 s19 s20 wr=>∃ (j r cap:Nat) (e1:List TT.E) (q1:List Int),j≤k∧s20 = .int .i64 j∧s19 = .int .i64 ((e1.length:Nat):Int)∧s18 = .slice (some ⟨r,0,none⟩) (q1.length+1) cap∧e1.length≤es.length∧q1.length≤qs.length∧w5.heap.size≤r∧Hid (TT.SoAt (TT.Sub t.nd h) L.toList H.toList xss es qs j e1 q1)∧Hid (SoR W w5 F1 tb pb db t p r cap q1 wr)) (fun _ _ s20 _=>k - (RowKit.intOf s20).toNat)
       case atStart=>exact ⟨0,w5.heap.size,1,[],[],Nat.zero_le _,rfl,rfl,rfl,Nat.zero_le _,Nat.zero_le _,Nat.le_refl _,S0,R0⟩
       case round =>
        obtain ⟨j,r,cap,e1,q1,hj,rfl,rfl,rfl,hl1,hl2,hrb,hsa,hrel⟩:=hrel
        obtain ⟨Fr,hT,hM,hO,hnr⟩:=hrel.out
        have HNr:=HN5.out.moves hM NF2.out
        have HXr:=HX5.out.moves hM
        obtain ⟨c0,c1,c2',c3'⟩:=HNr.cells
        have HEE:=HE.out
        have HQQ:=HQ.out
        by_cases hlt:j<k
        ·obtain ⟨cz,ea,qa,hc,hS,hnx,hsub,hle1,hle2⟩:=hsa.out.step HLEN.out (by rw [hcn];exact hlt)
         obtain ⟨bk,ok,z,rfl,hz,fk⟩:=HXr.nd.ki.intAt hlt
         obtain rfl:z=cz:=Option.some.inj (hz.symm.trans hc)
         have HNX:=Lib.hid hnx
         have hqa:0<qa.length:=by
          rw [hh1] at hS
          obtain ⟨n',qs',e',_⟩:=hS
          rw [e']
          simp
         have CI:Hid (∀ LX HX:ByteArray,LX.toList=TT.lowAt L.toList xss.keys j→HX.toList=TT.highAt H.toList xss.keys j→Calls Tryz.prog 36 #[.pointer (some ⟨tb,0,none⟩),.int .i64 z,.int .i64 (Z - 1),.string LX,.string HX,.bool false] wr (SoEnd W Fr wr tb pb db t qa ea.length)):=Lib.hid (fun LX HX e1' e2' =>
          HIH.out wr Fr z (Z - 1) LX HX ea qa (by rw [e1',e2'];exact hS) (fun x hx=>HB.out x (by simp [hsub x hx])) (by simp at hle1;omega) (by simp at hle2;omega) hT (by have:=HZE.out;omega))
         have HO:=Lib.hid hO
         have HM:=Lib.hid hM
         have HNR:=Lib.hid hnr
         have hrl:r<wr.heap.size:=(hO.lt r rfl).2
         simp only [List.length_append] at hle1 hle2
         clear hnx hS hsub hz hc hT hO hM hnr hrel hsa
         by_cases hj0:j=0
         ·obtain ⟨b2,o2,s2,rfl,hv2,f2⟩:=HXr.nd.ke.strAt (k:=j) (show j<m by omega)
          have CC:=Lib.hid (CI.out L s2 (by unfold TT.lowAt;rw [if_pos hj0]) (by unfold TT.highAt;rw [hv2];rfl))
          have hjz:¬ (0:Int)<(j:Int):=by omega
          clear hv2 HXr CI hj0
          go_wp2_with fail
          refine CC.out.mono ?_
          rintro e w7 ⟨A7,cp7,F7,rfl,o7,T7,m7,n7⟩
          have hO7:Hid (w7.ownsRow w5.heap.size 3 1 (.slice (some ⟨r,0,none⟩) (q1.length+1) cap) (q1.length+1) (intVals (p::q1))):=Lib.hid (trow_same HO.out (fun gg e=>by obtain rfl:=Option.some.inj e;exact m7.kept.block r hrl HNR.out))
          obtain ⟨a7,cc7,e7⟩:=Joins.ownsRow_form o7 hqa
          injection e7 with e8 _ _
          subst e8
          have HL7:=Lib.hid (o7.cells (g:=a7) rfl)
          have HM7:=Lib.hid (HM.out.trans m7)
          have HT7:=Lib.hid T7
          have HN7:Hid (¬ F7 r):=Lib.hid (fun e=>by
           rcases m7.news r e with e | e
           ·exact HNR.out e
           ·omega)
          have hs7:w5.heap.size≤w7.heap.size:=HM7.out.kept.size
          clear o7 T7 m7 n7 c0 c1 c2' c3' fk HNr CC
          have x1:(intVals qa).length=qa.length*1:=by rw [intVals_length,Nat.mul_one]
          have x2:q1.length+1+qa.length≤maxLen:=by unfold maxLen;omega
          have x3:(q1.length+1+qa.length)*8≤140737488355328:=by omega
          go_wp2_with (at_builtin;refine wpList_append_lies _ rfl (.tmp 143) (.tmp 144) 36 rfl w5.heap.size 3 i0 (.int .i64 0) 1 8 Tryz.underlying36 hi hz0 hz1 hz2 rfl (by decide) _ (q1.length+1) (intVals (p::q1)) rfl hO7.out ⟨a7,0,none⟩ qa.length _ (intVals qa) rfl x1 HL7.out (intVals_one _) hqa x2 x3 hs7 w7.heap.size rfl ?_;intro r8 cap8 w8 o8 g8 hat8 lt8)
          have HS8:Hid (SoR W w5 F1 tb pb db t p r8 cap8 (q1++qa) w8):=Lib.hid (SoR.push HM7.out HT7.out HN7.out hrb hWb g8 hat8 o8)
          have hr8:w5.heap.size≤r8:=(o8.lt r8 rfl).1
          clear o8 g8 hat8 lt8 hO7 HL7 HM7 HT7 HN7
          go_roundw
          case rel=>exact ⟨j+1,r8,cap8,e1++ea,q1++qa,by omega,by go_num,by rw [List.length_append];go_num,by rw [List.length_append];congr 1;omega,by rw [List.length_append];omega,by rw [List.length_append];omega,hr8,HNX,HS8⟩
          case measure=>simp [RowKit.intOf];omega
         ·obtain ⟨b2,o2,s2,rfl,hv2,f2⟩:=HXr.nd.ke.strAt (k:=j - 1) (show j - 1<m by omega)
          have ej:(((j - 1:Nat)):Int)=(j:Int) - 1:=by omega
          have hlow:s2.toList=TT.lowAt L.toList xss.keys j:=by
           unfold TT.lowAt
           rw [if_neg hj0,List.getD_eq_getElem?_getD,hv2]
           rfl
          by_cases hjm:j<m
          ·obtain ⟨b3,o3,s3,e3,hv3,f3⟩:=HXr.nd.ke.strAt hjm
           injection e3 with e3
           injection e3 with e4 e5
           subst e4 e5
           have CC:=Lib.hid (CI.out s2 s3 hlow (by unfold TT.highAt;rw [hv3];rfl))
           clear hv2 hv3 hlow HXr CI
           go_wp2_with fail
           refine CC.out.mono ?_
           rintro e w7 ⟨A7,cp7,F7,rfl,o7,T7,m7,n7⟩
           have hO7:Hid (w7.ownsRow w5.heap.size 3 1 (.slice (some ⟨r,0,none⟩) (q1.length+1) cap) (q1.length+1) (intVals (p::q1))):=Lib.hid (trow_same HO.out (fun gg e=>by obtain rfl:=Option.some.inj e;exact m7.kept.block r hrl HNR.out))
           obtain ⟨a7,cc7,e7⟩:=Joins.ownsRow_form o7 hqa
           injection e7 with e8 _ _
           subst e8
           have HL7:=Lib.hid (o7.cells (g:=a7) rfl)
           have HM7:=Lib.hid (HM.out.trans m7)
           have HT7:=Lib.hid T7
           have HN7:Hid (¬ F7 r):=Lib.hid (fun e=>by
            rcases m7.news r e with e | e
            ·exact HNR.out e
            ·omega)
           have hs7:w5.heap.size≤w7.heap.size:=HM7.out.kept.size
           clear o7 T7 m7 n7 c0 c1 c2' c3' fk HNr CC
           have x1:(intVals qa).length=qa.length*1:=by rw [intVals_length,Nat.mul_one]
           have x2:q1.length+1+qa.length≤maxLen:=by unfold maxLen;omega
           have x3:(q1.length+1+qa.length)*8≤140737488355328:=by omega
           go_wp2_with (at_builtin;refine wpList_append_lies _ rfl (.tmp 143) (.tmp 144) 36 rfl w5.heap.size 3 i0 (.int .i64 0) 1 8 Tryz.underlying36 hi hz0 hz1 hz2 rfl (by decide) _ (q1.length+1) (intVals (p::q1)) rfl hO7.out ⟨a7,0,none⟩ qa.length _ (intVals qa) rfl x1 HL7.out (intVals_one _) hqa x2 x3 hs7 w7.heap.size rfl ?_;intro r8 cap8 w8 o8 g8 hat8 lt8)
           have HS8:Hid (SoR W w5 F1 tb pb db t p r8 cap8 (q1++qa) w8):=Lib.hid (SoR.push HM7.out HT7.out HN7.out hrb hWb g8 hat8 o8)
           have hr8:w5.heap.size≤r8:=(o8.lt r8 rfl).1
           clear o8 g8 hat8 lt8 hO7 HL7 HM7 HT7 HN7
           go_roundw
           case rel=>exact ⟨j+1,r8,cap8,e1++ea,q1++qa,by omega,by go_num,by rw [List.length_append];go_num,by rw [List.length_append];congr 1;omega,by rw [List.length_append];omega,by rw [List.length_append];omega,hr8,HNX,HS8⟩
           case measure=>simp [RowKit.intOf];omega
          ·have hjm2:m≤j:=by omega
           have CC:=Lib.hid (CI.out s2 H hlow (by unfold TT.highAt;rw [List.getElem?_eq_none (by omega)];rfl))
           clear hv2 hlow HXr CI
           go_wp2_with fail
           refine CC.out.mono ?_
           rintro e w7 ⟨A7,cp7,F7,rfl,o7,T7,m7,n7⟩
           have hO7:Hid (w7.ownsRow w5.heap.size 3 1 (.slice (some ⟨r,0,none⟩) (q1.length+1) cap) (q1.length+1) (intVals (p::q1))):=Lib.hid (trow_same HO.out (fun gg e=>by obtain rfl:=Option.some.inj e;exact m7.kept.block r hrl HNR.out))
           obtain ⟨a7,cc7,e7⟩:=Joins.ownsRow_form o7 hqa
           injection e7 with e8 _ _
           subst e8
           have HL7:=Lib.hid (o7.cells (g:=a7) rfl)
           have HM7:=Lib.hid (HM.out.trans m7)
           have HT7:=Lib.hid T7
           have HN7:Hid (¬ F7 r):=Lib.hid (fun e=>by
            rcases m7.news r e with e | e
            ·exact HNR.out e
            ·omega)
           have hs7:w5.heap.size≤w7.heap.size:=HM7.out.kept.size
           clear o7 T7 m7 n7 c0 c1 c2' c3' fk HNr CC
           have x1:(intVals qa).length=qa.length*1:=by rw [intVals_length,Nat.mul_one]
           have x2:q1.length+1+qa.length≤maxLen:=by unfold maxLen;omega
           have x3:(q1.length+1+qa.length)*8≤140737488355328:=by omega
           go_wp2_with (at_builtin;refine wpList_append_lies _ rfl (.tmp 143) (.tmp 144) 36 rfl w5.heap.size 3 i0 (.int .i64 0) 1 8 Tryz.underlying36 hi hz0 hz1 hz2 rfl (by decide) _ (q1.length+1) (intVals (p::q1)) rfl hO7.out ⟨a7,0,none⟩ qa.length _ (intVals qa) rfl x1 HL7.out (intVals_one _) hqa x2 x3 hs7 w7.heap.size rfl ?_;intro r8 cap8 w8 o8 g8 hat8 lt8)
           have HS8:Hid (SoR W w5 F1 tb pb db t p r8 cap8 (q1++qa) w8):=Lib.hid (SoR.push HM7.out HT7.out HN7.out hrb hWb g8 hat8 o8)
           have hr8:w5.heap.size≤r8:=(o8.lt r8 rfl).1
           clear o8 g8 hat8 lt8 hO7 HL7 HM7 HT7 HN7
           go_roundw
           case rel=>exact ⟨j+1,r8,cap8,e1++ea,q1++qa,by omega,by go_num,by rw [List.length_append];go_num,by rw [List.length_append];congr 1;omega,by rw [List.length_append];omega,by rw [List.length_append];omega,hr8,HNX,HS8⟩
           case measure=>simp [RowKit.intOf];omega
        ·obtain rfl:k=j:=by omega
         obtain ⟨rfl,rfl⟩:=hsa.out.done hcn.symm
         have HD:Hid (SoEnd W F w tb pb db t (p::q1) e1.length (.returned (.tuple #[.slice (some ⟨r,0,none⟩) (q1.length+1) cap,.int .i64 ((e1.length:Nat):Int),.bool true])) wr):=Lib.hid
          ⟨_,_,Fr,rfl,row_base hO hWW,hT,M5.out.trans hM,fun ad e=>by obtain rfl:=Option.some.inj e;exact hnr⟩
         clear hT hM hO hnr hsa HNr HXr
         go_wp2_with fail
         refine bodyPost_ret (v := .tuple #[.slice (some ⟨r,0,none⟩) (q1.length+1) cap,.int .i64 ((e1.length:Nat):Int),.bool true]) (by simp [results,Tryz.results36,go_sem]) rfl ?_
         exact HD.out
theorem keys_some {S:TT.R} {h:Nat} {n:ND} {lo hi:List UInt8} {es:List TT.E} {qs:List Int} (v:TT.VN S h n lo hi es qs) (hs:250<n.size):0<n.keys.length:=by
 rcases Nat.eq_zero_or_pos n.keys.length with e | e
 ·have ek:n.keys=[]:=List.eq_nil_of_length_eq_zero e
  exfalso
  cases h with
  | zero =>
    have v1:=v.1
    have ev:n.vals=[]:=List.eq_nil_of_length_eq_zero (by rw [v1.nv];exact e)
    unfold ND.size at hs
    rw [ek,ev,v1.kids] at hs
    simp [ND.tsz,ND.tsl] at hs
  | succ h =>
    have hl:=TT.run_len (TT.VI.run v)
    unfold ND.size at hs
    rw [ek,TT.VI.vals v] at hs
    simp [ND.tsz,ND.tsl] at hs
    omega
 ·exact e
/-- A page's sub-tree. -/
theorem sound_sub (hl:t.lost=0):∀ (h:Nat),h≤101→∀ (w:World) (F:Nat→Prop) (p Z:Int) (L H:ByteArray) (es:List TT.E) (ps:List Int),TT.Sub t.nd h p L.toList H.toList es ps→(∀ x∈ps,0≤x∧x<t.z)→es.length≤1000→ps.length≤5000→Tree W F w tb pb db t→Z=h →
 Calls Tryz.prog 36 #[.pointer (some ⟨tb,0,none⟩),.int .i64 p,.int .i64 Z,.string L,.string H,.bool false] w (SoEnd W F w tb pb db t ps es.length)
 | 0,_,_,_,_,_,_,_,_,_,hS,_,_,_,_,_=>hS.elim
 | h+1,hh,w,F,p,Z,L,H,es,ps,hS,hb,he,hp,hT,hZ=>by
   obtain ⟨n,qs,rfl,e2,s1,s2,v⟩:=hS
   exact sound_walk h (sound_sub hl h (by omega)) w p n L H es qs false hl e2 s1 (Or.inr s2) (keys_some v s2) (by omega) v hb he (by simp at hp;omega) hT Z (by rw [hZ];simp)
theorem empty_list:(⟨#[]⟩:ByteArray).toList=[]:=tb_list []
/-- A whole tree. -/
theorem sound_root {O:List Int} {nd0:Int→Option ND} {es:List TT.E} {L:List Int} (w:World) (hr:TT.Tr O nd0 t es L) (he:es.length≤511) (h0:0<t.ht) (hT:Tree W F w tb pb db t) :
 Calls Tryz.prog 36 #[.pointer (some ⟨tb,0,none⟩),.int .i64 t.rt,.int .i64 ((t.ht:Nat):Int),.string ⟨#[]⟩,.string ⟨#[]⟩,.bool true] w (SoEnd W F w tb pb db t L es.length):=by
 have hlow:=hr.low he
 rcases hr.root with ⟨e,_⟩ | ⟨k,n,qs,e,rfl,a,b,c,v⟩
 ·omega
 ·have hb:∀ x∈t.rt::qs,0≤x∧x<(t.z:Int):=fun x hx=>by
   have:=hr.acc.top hx
   omega
  have hq:(t.rt::qs).length≤4096:=by
   have h1:=few_ints t.z (t.rt::qs) hr.acc.once (fun x hx=>by have:=hb x hx;omega)
   have:=hT.fit.z4
   omega
  exact sound_walk k (sound_sub hr.lost k (by omega)) w t.rt n ⟨#[]⟩ ⟨#[]⟩ es qs true hr.lost a b (Or.inl rfl) c (by omega) (by rw [empty_list];exact v) hb (by omega) (by simp at hq;omega) hT ((t.ht:Nat):Int) (by rw [e];simp)
end
end Go.Proofs.YtccphijgcapeoaaGreat
/-
  What knownOnce comes to, with slices.ContainsFunc at its closure.
-/
namespace Go.Proofs.YtccphijgcapeoaaGreat
open Go.RowKit
theorem onceFn_any (s:SS) (h z:Int) (A B:Option Addr) (n c m d g:Nat) (w:World) (hh:s.hi=h) (hb:Box w g (.int .i64 h) (.slice A n c) (.slice B m d)) :
 Calls Tryz.prog 100 #[.int .i64 z,.pointer (some ⟨g,0,none⟩)] w fun e w'=>e = .returned (.bool (!(s.may z)))∧Below w.heap.size w w':=by
 obtain ⟨c0,c1,c2⟩:=hb.cells
 clear hb
 go_enter Tryz.func100,Tryz.ntmps100
 go_wp2_with fail
 refine (wasUsed_any s h z A B n c m d w hh).mono ?_
 rintro e w1 ⟨rfl,b1⟩
 have B1:=Lib.hid b1
 clear b1
 go_wp2_with fail
 go_ret
 exact ⟨rfl,B1.out⟩
def Mays (s:SS) (zs:List Int) (k:Nat):Prop:=(zs.take k).all s.may=true
theorem Mays.more {s:SS} {zs:List Int} {k:Nat} {x:Int} (h:Mays s zs k) (hv:zs[k]?=some x) (hx:s.may x=true):Mays s zs (k+1):=by
 unfold Mays at h ⊢
 rw [List.take_add_one,hv,Option.toList_some,List.all_append,h]
 simp [hx]
theorem any_hit {s:SS} {zs:List Int} {k:Nat} {x:Int} (hv:zs[k]?=some x) (hx:s.may x=false):zs.all s.may=false:=by
 cases h:zs.all s.may with
 | false=>rfl
 | true =>
   have:=List.all_eq_true.1 h x (List.mem_of_getElem? hv)
   rw [hx] at this
   cases this
theorem indexO_any (s:SS) (h:Int) (A B C:Option Addr) (n c m d g k0 e0:Nat) (zs:List Int) (w:World) (hh:s.hi=h) (hb:Box w g (.int .i64 h) (.slice A n c) (.slice B m d)) (hz:Ln w 1 C k0 e0 (intVals zs)) (hn:k0≤1000000) :
 Calls Tryz.prog 132 #[.slice C k0 e0,.func (.func 100) #[] #[.pointer (some ⟨g,0,none⟩)]] w fun e w'=>(∃ r:Int,e = .returned (.int .i64 r)∧decide (r ≥ 0) = !(zs.all s.may))∧Below w.heap.size w w':=by
 have HZ:=Lib.hid hz
 have HN:=Lib.hid hz.intN
 have HF:=Lib.hid (fun (z:Int) (w':World) (hb':Below w.heap.size w w')=>onceFn_any s h z A B n c m d g w' hh (hb.kept hb'))
 clear hz hb hh
 go_enter Tryz.func132,Tryz.ntmps132
 go_wp2_with fail
 go_loopw [8] (fun i wk=>∃ k:Nat,k≤k0∧i = .int .i64 k∧Hid (Mays s zs k)∧Hid (Below w.heap.size w wk)) (fun i _=>k0 - (RowKit.intOf i).toNat)
 case atStart=>exact ⟨0,Nat.zero_le _,rfl,Lib.hid rfl,Lib.hid (Below.refl _ _)⟩
 case round =>
  obtain ⟨k,hk,rfl,HL,B1⟩:=hrel
  by_cases hlt:k<k0
  ·obtain ⟨b,off,x,rfl,hv,c0⟩:=(HZ.out.kept B1.out).intAt hlt
   cases hx:s.may x with
   | true =>
     have HM:=Lib.hid (HL.out.more hv hx)
     have hF:=(HF.out x wr B1.out)
     rw [hx] at hF
     have HF1:=Lib.hid hF
     clear hv HL hx hF
     go_wp2_with fail
     refine HF1.out.mono ?_
     rintro e w1 ⟨rfl,b1⟩
     have B2:=Lib.hid (B1.out.trans (b1.mono B1.out.size))
     clear b1 B1 HF1 c0
     go_wp2_with fail
     go_roundw
     case rel=>exact ⟨k+1,by omega,by go_num,HM,B2⟩
     case measure=>simp [RowKit.intOf];omega
   | false =>
     have HM:=Lib.hid (any_hit hv hx)
     have hF:=(HF.out x wr B1.out)
     rw [hx] at hF
     have HF1:=Lib.hid hF
     clear hv HL hx hF
     go_wp2_with fail
     refine HF1.out.mono ?_
     rintro e w1 ⟨rfl,b1⟩
     have B2:=Lib.hid (B1.out.trans (b1.mono B1.out.size))
     clear b1 B1 HF1 c0
     go_wp2_with fail
     go_ret
     exact ⟨⟨_,rfl,by rw [HM.out,decide_eq_true (by omega)];rfl⟩,B2.out⟩
  ·obtain rfl:k0=k:=by omega
   have hm:=HL.out
   unfold Mays at hm
   rw [List.take_of_length_le (by rw [HN.out];exact Nat.le_refl _)] at hm
   have HM:=Lib.hid hm
   clear hm
   go_wp2_with fail
   go_ret
   exact ⟨⟨_,rfl,by rw [HM.out];rfl⟩,B1.out⟩
theorem containsO_any (s:SS) (h:Int) (A B C:Option Addr) (n c m d g k0 e0:Nat) (zs:List Int) (w:World) (hh:s.hi=h) (hb:Box w g (.int .i64 h) (.slice A n c) (.slice B m d)) (hz:Ln w 1 C k0 e0 (intVals zs)) (hn:k0≤1000000) :
 Calls Tryz.prog 99 #[.slice C k0 e0,.func (.func 100) #[] #[.pointer (some ⟨g,0,none⟩)]] w fun e w'=>e = .returned (.bool (!(zs.all s.may)))∧Below w.heap.size w w':=by
 have HC:=Lib.hid (indexO_any s h A B C n c m d g k0 e0 zs w hh hb hz hn)
 clear hz hb hh
 go_enter Tryz.func99,Tryz.ntmps99
 go_wp2_with fail
 refine HC.out.mono ?_
 rintro e w2 ⟨⟨r,rfl,hr⟩,b2⟩
 have HR:=Lib.hid hr
 have B2:=Lib.hid b2
 clear hr b2
 go_wp2_with fail
 go_ret
 exact ⟨ret_bool HR.out,B2.out⟩
theorem once_sorted {s:SS} {ms:List Int} (hp:ms.Perm s.pages) (hs:ms.Pairwise (·≤·)):SS.onceB s=(SS.rises ms && !(!(ms.all s.may))):=by
 unfold SS.onceB
 rw [SS.sorted_rises hp hs,SS.perm_all hp,Bool.not_not]
theorem once_any (s:SS) (h:Int) (A B:Option Addr) (n c m d:Nat) (w:World) (hh:s.hi=h) (hs:Sp w A n c B m d s) (hn:n≤400000) (hm:m≤400000) :
 Calls Tryz.prog 66 #[.agg #[.int .i64 h,.slice A n c,.slice B m d]] w fun e w'=>e = .returned (.bool (SS.onceB s))∧Below w.heap.size w w':=by
 have hmf:∀ (fn:Fn) (first cap:Array Value) (w:World),(Instr.makeFunc fn first cap).run Tryz.prog w = .ok (.func fn first cap) w:=fun _ _ _ _=>rfl
 have HS:=Lib.hid (hs.kept (below_one w (.cells #[.int .i64 h,.slice A n c,.slice B m d] 49)))
 have HB:=Lib.hid (box_new w (.int .i64 h) (.slice A n c) (.slice B m d))
 have B0:=Lib.hid (below_one w (.cells #[.int .i64 h,.slice A n c,.slice B m d] 49))
 have HH:=Lib.hid hh
 clear hs hh
 go_enter Tryz.func66,Tryz.ntmps66
 go_wp2_with fail
 generalize w.alloc (.cells #[.int .i64 h,.slice A n c,.slice B m d] 49)=w0 at *
 refine (known_any s h A B n c m d w0 HS.out hn hm).mono ?_
 rintro e w1 ⟨v1,rfl,o1,b1⟩
 obtain ⟨A1,c1,rfl,hc1,l1⟩:=Ln.of_own o1
 have HSo:=Lib.hid (sort_any w0.heap.size A1 (n+m) c1 s.pages w1 o1 (by omega))
 have HO1:=Lib.hid o1
 have B1:=Lib.hid b1
 clear o1 b1 l1
 go_wp2_with fail
 refine HSo.out.mono ?_
 rintro e w2 ⟨ms,rfl,hp,hso,o2,hg⟩
 have B2:=Lib.hid (B1.out.grown hg B1.out.size (fun g hg=>(HO1.out.lt g hg).1))
 have HE:=Lib.hid (once_sorted hp hso)
 obtain ⟨A2,c2,e2,hc2,l2⟩:=Ln.of_own o2
 injection e2 with e2 e3 e4
 subst e2
 subst e4
 have L2:=Lib.hid l2
 clear hg o2 hp hso l2 HSo HO1 B1
 go_wp2_with fail
 refine (rises_any A1 (n+m) c1 ms w2 L2.out (by omega)).mono ?_
 rintro e w3 ⟨rfl,b3⟩
 have B3:=Lib.hid (B2.out.trans (b3.mono B2.out.size))
 have L3:=Lib.hid (L2.out.kept b3)
 clear b3 L2 B2
 cases hr:SS.rises ms with
 | false =>
   have HF:Hid (SS.onceB s=false):=by
    rw [HE.out,hr]
    exact Lib.hid rfl
   have B4:=Lib.hid (B0.out.trans (B3.out.mono B0.out.size))
   clear hr HE
   go_wp2_with fail
   go_ret
   exact ⟨ret_bool HF.out.symm,B4.out⟩
 | true =>
   have HF:Hid (SS.onceB s=ms.all s.may):=by
    rw [HE.out,hr,Bool.not_not]
    exact Lib.hid rfl
   clear hr HE
   go_wp2_with fail
   refine (containsO_any s h A B A1 n c m d w.heap.size (n+m) c1 ms w3 HH.out (HB.out.kept B3.out) L3.out (by omega)).mono ?_
   rintro e w4 ⟨rfl,b4⟩
   have B4:=Lib.hid (B0.out.trans ((B3.out.trans (b4.mono B3.out.size)).mono B0.out.size))
   clear b4
   go_wp2_with fail
   go_ret
   exact ⟨ret_bool HF.out.symm,B4.out⟩
end Go.Proofs.YtccphijgcapeoaaGreat
/-
  What Check comes to.
-/
namespace Go.Proofs.YtccphijgcapeoaaGreat
open Go.RowKit
theorem check_one {s:SS} {t:Int} (h:s.hi<2):s.check t=80:=SS.check_bad (fun f=>by have:=f.lo;omega)
theorem check_two {s:SS} {t:Int} (h:t<s.hi):s.check t=80:=SS.check_bad (fun f=>by have:=f.hi;omega)
theorem check_rest {s:SS} {t:Int} (h1:¬ s.hi<2) (h2:¬ t<s.hi):s.check t=if !(SS.rises s.fr) || !(SS.agesB s.pe) || !(SS.onceB s) then 80 else 0:=by
 rw [SS.check_parts,decide_eq_false h1,decide_eq_false (by omega:¬ s.hi > t)]
 rfl
theorem check_any (s:SS) (h t:Int) (A B:Option Addr) (n c m d:Nat) (w:World) (hh:s.hi=h) (hs:Sp w A n c B m d s) (hn:n≤400000) (hm:m≤400000) :
 Calls Tryz.prog 37 #[.agg #[.int .i64 h,.slice A n c,.slice B m d],.int .i64 t] w fun e w'=>e = .returned (.int .i64 (s.check t))∧Below w.heap.size w w':=by
 by_cases h1:h<2
 ·have HX:=Lib.hid (check_one (s:=s) (t:=t) (by rw [hh];exact h1))
  clear hs hh
  go_enter Tryz.func37,Tryz.ntmps37
  go_wp2_with fail
  go_ret
  exact ⟨ret_int HX.out.symm,below_one _ _⟩
 by_cases h2:t<h
 ·have HX:=Lib.hid (check_two (s:=s) (t:=t) (by rw [hh];exact h2))
  clear hs hh
  go_enter Tryz.func37,Tryz.ntmps37
  go_wp2_with fail
  go_ret
  exact ⟨ret_int HX.out.symm,below_one _ _⟩
 have HX:=Lib.hid (check_rest (s:=s) (t:=t) (by rw [hh];exact h1) (by rw [hh];exact h2))
 have HS:=Lib.hid (hs.kept (below_one w (.cells #[.int .i64 h,.slice A n c,.slice B m d] 49)))
 have HB:=Lib.hid (box_new w (.int .i64 h) (.slice A n c) (.slice B m d))
 have B0:=Lib.hid (below_one w (.cells #[.int .i64 h,.slice A n c,.slice B m d] 49))
 have HH:=Lib.hid hh
 clear hs hh
 go_enter Tryz.func37,Tryz.ntmps37
 go_wp2_with fail
 generalize w.alloc (.cells #[.int .i64 h,.slice A n c,.slice B m d] 49)=w0 at *
 refine (rises_any A n c s.fr w0 HS.out.fr (by omega)).mono ?_
 rintro e w1 ⟨rfl,b1⟩
 have B1:=Lib.hid b1
 clear b1
 cases hr:SS.rises s.fr with
 | false =>
   have HF:Hid (s.check t=80):=Lib.hid (by rw [HX.out,hr];rfl)
   have B2:=Lib.hid (B0.out.trans (B1.out.mono B0.out.size))
   clear hr
   go_wp2_with fail
   go_ret
   exact ⟨ret_int HF.out.symm,B2.out⟩
 | true =>
   have HX1:Hid (s.check t=if !(SS.agesB s.pe) || !(SS.onceB s) then 80 else 0):=Lib.hid (by rw [HX.out,hr];rfl)
   obtain ⟨c0,c1,c2⟩:=(HB.out.kept B1.out).cells
   clear hr HX
   go_wp2_with fail
   refine (ages_any B m d s.pe w1 (HS.out.pe.kept B1.out) (by omega)).mono ?_
   rintro e w2 ⟨rfl,b2⟩
   have B2:=Lib.hid (B1.out.trans (b2.mono B1.out.size))
   clear b2 c0 c1 c2 B1
   cases hr:SS.agesB s.pe with
   | false =>
     have HF:Hid (s.check t=80):=Lib.hid (by rw [HX1.out,hr];rfl)
     have B3:=Lib.hid (B0.out.trans (B2.out.mono B0.out.size))
     clear hr
     go_wp2_with fail
     go_ret
     exact ⟨ret_int HF.out.symm,B3.out⟩
   | true =>
     have HX2:Hid (s.check t=if !(SS.onceB s) then 80 else 0):=Lib.hid (by rw [HX1.out,hr];rfl)
     obtain ⟨c0,c1,c2⟩:=(HB.out.kept B2.out).cells
     clear hr HX1
     go_wp2_with fail
     refine (once_any s h A B n c m d w2 HH.out (HS.out.kept B2.out) hn hm).mono ?_
     rintro e w3 ⟨rfl,b3⟩
     have B3:=Lib.hid (B0.out.trans ((B2.out.trans (b3.mono B2.out.size)).mono B0.out.size))
     clear b3 c0 c1 c2 B2
     cases hr:SS.onceB s with
     | false =>
       have HF:Hid (s.check t=80):=Lib.hid (by rw [HX2.out,hr];rfl)
       clear hr
       go_wp2_with fail
       go_ret
       exact ⟨ret_int HF.out.symm,B3.out⟩
     | true =>
       have HF:Hid (s.check t=0):=Lib.hid (by rw [HX2.out,hr];rfl)
       clear hr
       go_wp2_with fail
       go_ret
       exact ⟨ret_int HF.out.symm,B3.out⟩
end Go.Proofs.YtccphijgcapeoaaGreat
/-
  What the tree's Open comes to. Conditions: none.
-/
namespace Go.Proofs.YtccphijgcapeoaaGreat
open Go.RowKit Go.Maps
section
variable {W w w':World} {G F F':Nat→Prop} {pb db:Nat} {f:Int→List UInt8}
theorem TPool.sizeIs {z:Nat} (h:TPool W G w pb db f z):(Calls Tryz.prog 25 #[.pointer (some ⟨pb,0,none⟩)] w fun e w'=>e = .returned (.pointer (some ⟨db,0,none⟩))∧w=w') ∧
 Calls Tryz.prog 44 #[.pointer (some ⟨db,0,none⟩)] w fun e w'=>e = .returned (.int .i64 (z:Nat))∧w=w':=by
 obtain ⟨s,M,a,b,_⟩:=h
 obtain ⟨D,hd⟩:=a.disk
 refine ⟨pdisk_live w a,?_⟩
 have:=size_any w hd.dk
 rw [b.size] at this
 exact this
theorem Ln.map_ne {sz n c mb:Nat} {A:Option Addr} {cs:List Value} {g:Int→Option Value} (h:Ln w sz A n c cs) (hs:0<sz) (hm:MapAt w mb g):0<n→∀ ad,A=some ad→ad.block≠mb:=by
 intro hn ad e e2
 have hl:=h.len
 have h0:=h.lies.2 ad e 0 (cs[0]'(by rw [hl];exact Nat.mul_pos hn hs)) (by simp)
 obtain ⟨es,cl,hb⟩:=hm.isMap
 have hs2:=World.cell?_spot h0
 rw [← e2] at hb
 obtain ⟨bl,off,sp⟩:=ad
 have:sp=none:=by simpa [Addr.add] using hs2
 subst this
 rw [addr_add] at h0
 simp [World.cell?,hb] at h0
theorem opened {w1:World} {mb:Nat} {A B:Option Addr} {n c m d:Nat} {T:TS} (hp:TPool W G w pb db f T.z) (hn:∀ p,0≤p→p<T.z→rdN p (f p)=T.nd p) (hG:∀ k,G k→W.heap.size≤k) (hW:Below W.heap.size W w) (hb:Below w.heap.size w w1)
 (hm:MapAt w1 mb (frM T.fr)) (hmb:w.heap.size≤mb) (hs:Sp w1 A n c B m d T.sp) (hA:Hi w.heap.size A) (hB:Hi w.heap.size B) (fit:TFit T) :
 ∃ F',TAt W G F' (w1.alloc (.cells (treeCells pb mb A n c B m d T) 82)) w1.heap.size mb pb db A n c B m d f T∧Moves w G (w1.alloc (.cells (treeCells pb mb A n c B m d T) 82)) F'∧∀ k,F' k ↔ G k∨Own3 w1.heap.size mb A n B m k:=by
 have hb2:=below_one w1 (.cells (treeCells pb mb A n c B m d T) 82)
 have hb3:=chainN hb2 hb
 have hlt:=hm.lt
 have hsl:=sp_lt hs
 have hWs:=hW.size
 have hbs:=hb.size
 have own:∀ k,Own3 w1.heap.size mb A n B m k→w.heap.size≤k:=by
  rintro k (rfl | rfl | ⟨h0,ad,e,rfl⟩ | ⟨h0,ad,e,rfl⟩)
  ·exact hbs
  ·exact hmb
  ·exact hA ad e
  ·exact hB ad e
 refine ⟨fun k=>G k∨Own3 w1.heap.size mb A n B m k,⟨hp.below hb3,hn,⟨heap_alloc_new w1 _,hm.block (hb2.block mb hlt),hs.kept hb2,fun h0 ad e=>⟨?_,hs.fr.map_ne (by omega) hm h0 ad e⟩,fun h0 ad e=>⟨?_,hs.pe.map_ne (by omega) hm h0 ad e⟩,fit⟩,fun k=>Iff.rfl,fun k hk hg=>?_,fun k hk=>?_,hW.trans (hb3.mono hWs)⟩,?_,fun k=>Iff.rfl⟩
 ·have:=hsl.1 h0 ad e
  omega
 ·have:=hsl.2 h0 ad e
  omega
 ·have:=own k hk
  have:=hp.lt k hg
  omega
 ·rcases hk with e | e
  ·exact hG k e
  ·have:=own k e
   omega
 ·refine ⟨Kept.below hb3 G,fun k hk=>?_⟩
  rcases hk with e | e
  ·exact Or.inl e
  ·exact Or.inr (own k e)
theorem frM_none:frM (fun _=>false)=fun _=>none:=by
 funext p
 rfl
def TOpn (W:World) (G:Nat→Prop) (w:World) (pb db:Nat) (f:Int→List UInt8) (T:TS) (e:Ending) (w':World):Prop :=
 ∃ tb mb A n c B m d F',e = .returned (.tuple #[.pointer (some ⟨tb,0,none⟩),.int .i64 0])∧TAt W G F' w' tb mb pb db A n c B m d f T∧Moves w G w' F'∧(∀ k,F' k ↔ G k∨Own3 tb mb A n B m k)∧(∀ k,Own3 tb mb A n B m k→w.heap.size≤k)∧Below w.heap.size w w'
theorem open_live (w:World) (e0 rt ct ep:Int) (ht:Nat) (C:Option Addr) (k e:Nat) (A:Option Addr) (n c:Nat) (B:Option Addr) (m d:Nat) (sp:SS) (z:Nat) (nd:Int→Option ND)
 (hp:TPool W G w pb db f z) (hn:∀ p,0≤p→p<z→rdN p (f p)=nd p) (hG:∀ k,G k→W.heap.size≤k) (hW:Below W.heap.size W w) (hs:Sp w A n c B m d sp) (hf:SS.Fine sp z) (hz:z≤4096)
 (h1:1≤ep) (h2:ep≤2147483647) (h3:ht≤20) (h4:(rt==0)=(((ht:Nat):Int)==0)) (hnn:n≤400000) (hmm:m≤400000) :
 Calls Tryz.prog 19 #[.pointer (some ⟨pb,0,none⟩),.agg #[.int .i64 e0,.int .i64 rt,.int .i64 ((ht:Nat):Int),.slice C k e,.int .i64 ct],.agg #[.int .i64 sp.hi,.slice A n c,.slice B m d],.int .i64 ep] w
  (TOpn W G w pb db f ⟨rt,ht,ct,sp,ep,fun _=>false,0,nd,z⟩):=by
 have b2:=below_two w (.cells #[.int .i64 e0,.int .i64 rt,.int .i64 ((ht:Nat):Int),.slice C k e,.int .i64 ct] 38) (.cells #[.int .i64 sp.hi,.slice A n c,.slice B m d] 49)
 have x1:=(heap_alloc_new w (.cells #[.int .i64 e0,.int .i64 rt,.int .i64 ((ht:Nat):Int),.slice C k e,.int .i64 ct] 38))
 have x2:=(below_one (w.alloc (.cells #[.int .i64 e0,.int .i64 rt,.int .i64 ((ht:Nat):Int),.slice C k e,.int .i64 ct] 38)) (.cells #[.int .i64 sp.hi,.slice A n c,.slice B m d] 49)).block w.heap.size (by simp)
 have HU:=Lib.hid (x2.trans x1)
 have x3:=box_new (w.alloc (.cells #[.int .i64 e0,.int .i64 rt,.int .i64 ((ht:Nat):Int),.slice C k e,.int .i64 ct] 38)) (.int .i64 sp.hi) (.slice A n c) (.slice B m d)
 rw [show (w.alloc (.cells #[.int .i64 e0,.int .i64 rt,.int .i64 ((ht:Nat):Int),.slice C k e,.int .i64 ct] 38)).heap.size=w.heap.size+1 by simp] at x3
 have HB:=Lib.hid x3
 have B0:=Lib.hid b2
 have HP:=Lib.hid (hp.below b2)
 have HPP:=Lib.hid hp
 have HN:=Lib.hid hn
 have HG:=Lib.hid hG
 have HW:=Lib.hid hW
 have HS:=Lib.hid (hs.kept b2)
 have HF:=Lib.hid hf
 have HCK:Hid (sp.check z=0):=Lib.hid (SS.check_ok hf)
 clear x1 x2 x3 b2 hp hn hG hW hs hf
 go_enter Tryz.func19,Tryz.ntmps19
 go_upto_region 1 with fail
 generalize (w.alloc (.cells #[.int .i64 e0,.int .i64 rt,.int .i64 ((ht:Nat):Int),.slice C k e,.int .i64 ct] 38)).alloc (.cells #[.int .i64 sp.hi,.slice A n c,.slice B m d] 49)=w0 at *
 have u1:w0.cell? ⟨w.heap.size,1,none⟩=some (.int .i64 rt):=(cell_of_row w0 w.heap.size 1 _ _ _ HU.out).trans rfl
 have u2:w0.cell? ⟨w.heap.size,2,none⟩=some (.int .i64 ((ht:Nat):Int)):=(cell_of_row w0 w.heap.size 2 _ _ _ HU.out).trans rfl
 go_upto_region 5 with fail
 clear u1 u2
 have BD:=Lib.hid ((Below.refl w0.heap.size w0).drew)
 have KS:=Lib.hid (fun wx (b:Below w0.heap.size w0 wx)=>(HB.out.kept b).cells)
 have KU:Hid (∀ wx,Below w0.heap.size w0 wx→wx.cell? ⟨w.heap.size,1,none⟩=some (.int .i64 rt)∧wx.cell? ⟨w.heap.size,2,none⟩=some (.int .i64 ((ht:Nat):Int))∧wx.cell? ⟨w.heap.size,4,none⟩=some (.int .i64 ct)):=Lib.hid (fun wx b=>by
  have h:=(b.block w.heap.size (Array.getElem?_eq_some_iff.1 HU.out).1).trans HU.out
  exact ⟨(cell_of_row wx w.heap.size 1 _ _ _ h).trans rfl,(cell_of_row wx w.heap.size 2 _ _ _ h).trans rfl,(cell_of_row wx w.heap.size 4 _ _ _ h).trans rfl⟩)
 go_region_held3 (fun w'=>w'.cell? ⟨w.heap.size+1,0,none⟩=some (.int .i64 sp.hi)∧w'.cell? ⟨w.heap.size+1,1,none⟩=some (.slice A n c)∧w'.cell? ⟨w.heap.size+1,2,none⟩=some (.slice B m d))
  (first | with_reducible exact KS.out _ BC.out | with_reducible exact KS.out _ BD.out)
  (first
    | (go_at_call 25;refine (HP.out.below BD.out).sizeIs.1.mono ?_;rintro e1 wq ⟨rfl,hwq⟩;subst hwq)
    | (go_at_call 44;refine (HP.out.below BD.out).sizeIs.2.mono ?_;rintro e1 wq ⟨rfl,hwq⟩;subst hwq)
    | (go_at_call 37;refine (check_any sp sp.hi (z:Nat) A B n c m d _ rfl (HS.out.kept BD.out) hnn hmm).mono ?_;rintro e1 wC ⟨rfl,bC⟩;have BC:=Lib.hid (chainN bC BD.out);clear bC;rw [HCK.out])
    | fail)
 go_wp2_with fail
 have HMK:=Lib.hid (@run_makeMap Tryz.prog)
 have K6:Hid (∀ wx,Below w0.heap.size w0 wx→wx.cell? ⟨w.heap.size,1,none⟩=some (.int .i64 rt)∧wx.cell? ⟨w.heap.size,2,none⟩=some (.int .i64 ((ht:Nat):Int))∧wx.cell? ⟨w.heap.size,4,none⟩=some (.int .i64 ct) ∧
  wx.cell? ⟨w.heap.size+1,0,none⟩=some (.int .i64 sp.hi)∧wx.cell? ⟨w.heap.size+1,1,none⟩=some (.slice A n c)∧wx.cell? ⟨w.heap.size+1,2,none⟩=some (.slice B m d)):=Lib.hid (fun wx b=>by
  obtain ⟨a1,a2,a3⟩:=KU.out wx b
  obtain ⟨b1,b2,b3⟩:=KS.out wx b
  exact ⟨a1,a2,a3,b1,b2,b3⟩)
 have HPC:=Lib.hid (HP.out.below BC.out)
 have HSC:=Lib.hid (HS.out.kept BC.out)
 have B1:=Lib.hid (BC.out.drew)
 have B2:=Lib.hid ((chainN (below_one wC (.map #[] 0)) BC.out).drew)
 have HWC:=Lib.hid (chainN BC.out B0.out)
 have hmk:=HMK.out
 clear KU KS BD HP HS
 go_region_held3 (fun wx=>wx.cell? ⟨w.heap.size,1,none⟩=some (.int .i64 rt)∧wx.cell? ⟨w.heap.size,2,none⟩=some (.int .i64 ((ht:Nat):Int))∧wx.cell? ⟨w.heap.size,4,none⟩=some (.int .i64 ct) ∧
  wx.cell? ⟨w.heap.size+1,0,none⟩=some (.int .i64 sp.hi)∧wx.cell? ⟨w.heap.size+1,1,none⟩=some (.slice A n c)∧wx.cell? ⟨w.heap.size+1,2,none⟩=some (.slice B m d))
  (first | exact K6.out _ B1.out | exact K6.out _ B2.out | exact K6.out _ BK.out | exact K6.out _ (BK1.out _) | exact K6.out _ (BK2.out _ _))
  (first
    | (go_at_call 43;refine (tcopied_any sp.hi A n c B m d sp _ rfl (HSC.out.kept (by first | exact (Below.refl wC.heap.size wC).drew | exact (below_one wC (.map #[] 0)).drew)) hnn hmm).mono ?_;rintro e1 wK ⟨v1,rfl,hv1,bK⟩;have BK:=Lib.hid (chainN bK (by first | exact B1.out | exact B2.out));have BK1:=Lib.hid (fun o=>chainN (below_one wK o) BK.out);have BK2:=Lib.hid (fun o o'=>chainN (below_two wK o o') BK.out);have BKC:Hid (Below wC.heap.size wC wK):=Lib.hid (chainN bK (by first | exact (Below.refl wC.heap.size wC).drew | exact (below_one wC (.map #[] 0)).drew));have hvC:=hv1;obtain ⟨AK,nK,cK,BBK,mK,dK,rfl,sK,iA,iB⟩:=hv1;have SK:=Lib.hid sK;have IA:=Lib.hid iA;have IB:=Lib.hid iB;(first | (have BKM:Hid (Below ((wC.alloc (.map #[] 0)).drew).heap.size ((wC.alloc (.map #[] 0)).drew) wK):=Lib.hid bK) | skip);clear hvC sK iA iB bK)
    | fail)
 ·have hm:=mapAt_made wK
  rw [← frM_none] at hm
  obtain ⟨F',q1,q2,q3⟩:=opened (w:=w) (w1:=wK.alloc (.map #[] 0)) (T:=⟨rt,ht,ct,sp,ep,fun _=>false,0,nd,z⟩) HPP.out HN.out HG.out HW.out (chainN (BK1.out (.map #[] 0)) B0.out) hm (chainN BK.out B0.out).size (SK.out.kept (below_one wK (.map #[] 0))) (Hi.low IA.out HWC.out.size) (Hi.low IB.out HWC.out.size) ⟨HF.out,fun p h=>(by cases h),hz,h1,h2⟩
  rw [show (wK.alloc (.map #[] 0)).heap.size=wK.heap.size+1 by simp] at q1 q3
  have HD:Hid (TOpn W G w pb db f ⟨rt,ht,ct,sp,ep,fun _=>false,0,nd,z⟩ (.returned (.tuple #[.pointer (some ⟨wK.heap.size+1,0,none⟩),.int .i64 0])) ((wK.alloc (.map #[] 0)).alloc (.cells (treeCells pb wK.heap.size AK nK cK BBK mK dK ⟨rt,ht,ct,sp,ep,fun _=>false,0,nd,z⟩) 82))):=Lib.hid
   ⟨_,_,_,_,_,_,_,_,F',rfl,q1,q2,q3,fun k hk=>by
    have hs1:=(chainN BK.out B0.out).size
    have hs2:=HWC.out.size
    rcases hk with rfl | rfl | ⟨h0,ad,e,rfl⟩ | ⟨h0,ad,e,rfl⟩
    ·omega
    ·exact hs1
    ·have:=IA.out ad e
     simp at this
     omega
    ·have:=IB.out ad e
     simp at this
     omega,chainN (BK2.out (.map #[] 0) _) B0.out⟩
  clear hm q1 q2 q3
  unfold treeCells at HD
  go_wp2_with fail
  go_ret2
  exact HD.out
 ·have hm:=((mapAt_made wC).block (w':=(wC.alloc (.map #[] 0)).drew) rfl).block (w':=wK) (BKM.out.block wC.heap.size (by show wC.heap.size<(wC.alloc (.map #[] 0)).heap.size;simp))
  rw [← frM_none] at hm
  obtain ⟨F',q1,q2,q3⟩:=opened (w:=w) (w1:=wK) (T:=⟨rt,ht,ct,sp,ep,fun _=>false,0,nd,z⟩) HPP.out HN.out HG.out HW.out (chainN BK.out B0.out) hm HWC.out.size SK.out (Hi.low IA.out (by have:=HWC.out.size;simp;omega)) (Hi.low IB.out (by have:=HWC.out.size;simp;omega)) ⟨HF.out,fun p h=>(by cases h),hz,h1,h2⟩
  have HD:Hid (TOpn W G w pb db f ⟨rt,ht,ct,sp,ep,fun _=>false,0,nd,z⟩ (.returned (.tuple #[.pointer (some ⟨wK.heap.size,0,none⟩),.int .i64 0])) (wK.alloc (.cells (treeCells pb wC.heap.size AK nK cK BBK mK dK ⟨rt,ht,ct,sp,ep,fun _=>false,0,nd,z⟩) 82))):=Lib.hid
   ⟨_,_,_,_,_,_,_,_,F',rfl,q1,q2,q3,fun k hk=>by
    have hs1:=(chainN BK.out B0.out).size
    have hs2:=HWC.out.size
    rcases hk with rfl | rfl | ⟨h0,ad,e,rfl⟩ | ⟨h0,ad,e,rfl⟩
    ·exact hs1
    ·exact hs2
    ·have:=IA.out ad e
     simp at this
     omega
    ·have:=IB.out ad e
     simp at this
     omega,chainN (BK1.out _) B0.out⟩
  clear hm q1 q2 q3
  unfold treeCells at HD
  go_wp2_with fail
  go_ret2
  exact HD.out
end
end Go.Proofs.YtccphijgcapeoaaGreat
/-
  What the statements' own New comes to: an empty tree on a new disk. Conditions: none.
-/
namespace Go.Proofs.YtccphijgcapeoaaGreat
open Go.RowKit Go.Maps
theorem SS.new_fine (z:Nat) (hz:2≤z):SS.Fine ⟨2,[],[]⟩ z :=
 ⟨Int.le_refl _,by show (2:Int)≤z;omega,List.Pairwise.nil,fun x hx=>(by cases hx),List.Pairwise.nil,fun x hx=>(by cases hx),fun x hx=>(by cases hx),fun x hx=>(by cases hx),List.nodup_nil⟩
def TS.new (nd:Int→Option ND) (z:Nat):TS:=⟨0,0,0,⟨2,[],[]⟩,1,fun _=>false,0,nd,z⟩
theorem TS.new_tr (nd:Int→Option ND) (z:Nat) (hz:2≤z) (h2:z≤2147483647):TT.Tr [] nd (TS.new nd z) [] [] :=
 {acc:=⟨SS.new_fine z hz,List.nodup_nil,fun p hp=>(by cases hp),rfl,fun x hx=>(by cases hx),Int.one_nonneg,fun p hp=>(by cases hp),fun x hx=>(by cases hx),fun p hp=>(by cases hp),fun p hp=>(by cases hp)⟩
  root:=Or.inl ⟨rfl,rfl,rfl,rfl⟩
  ct:=rfl
  lost:=rfl
  z_:=h2 }
def LNewT (W w:World) (n:Nat) (e:Ending) (w':World):Prop :=
 ∃ tb mb pb db A k c B m d G F f nd,e = .returned (.tuple #[.pointer (some ⟨tb,0,none⟩),.pointer (some ⟨pb,0,none⟩)])∧TAt W G F w' tb mb pb db A k c B m d f (TS.new nd n)∧Below w.heap.size w w'∧∀ k,F k→w.heap.size≤k
theorem lnew_live {W:World} (w:World) (n fr:Nat) (h1:2≤n) (h2:n≤4096) (h3:1≤fr) (h4:fr≤12) (hW:Below W.heap.size W w) :
 Calls Tryz.prog 11 #[.int .i64 ((n:Nat):Int),.int .i64 ((fr:Nat):Int)] w (LNewT W w n):=by
 have HW:=Lib.hid hW
 clear hW
 go_enter Tryz.func11,Tryz.ntmps11
 go_wp2_with fail
 refine (new_live (W:=W) w n h1 h2 HW.out).mono ?_
 rintro e w1 ⟨db,D,rfl,hd,b1,hD⟩
 have HD:=Lib.hid hd
 have B1:=Lib.hid b1
 have HDD:=Lib.hid hD
 clear hd b1 hD
 go_wp2_with fail
 refine (pnew_live (W:=W) w1 fr h3 (by omega) HD.out).mono ?_
 rintro e w2 ⟨pb,G,rfl,hp,m2,b2⟩
 have B2:=Lib.hid (chainN b2 B1.out)
 have HG:Hid (∀ k,G k→w.heap.size≤k):=Lib.hid (fun k hk=>by
  rcases m2.news k hk with e | e
  ·exact HDD.out k e
  ·exact Nat.le_trans B1.out.size e)
 have TP:Hid (TPool W G w2 pb db (PS.new n).held n):=Lib.hid ⟨_,fr,hp,free_new (new_well n) (new_ok n) h3 rfl,h4⟩
 have HPB:=Lib.hid hp.base
 have HBL:=Lib.hid hp.below
 have OL:=open_live (W:=W) w2 0 0 0 1 0 none 0 0 none 0 0 none 0 0 ⟨2,[],[]⟩ n (fun p=>rdN p ((PS.new n).held p)) TP.out (fun _ _ _=>rfl) HPB.out HBL.out ⟨Ln.none_ w2 1,Ln.none_ w2 2⟩ (SS.new_fine n h1) h2 (by decide) (by decide) (by decide) rfl (by decide) (by decide)
 have HO:=Lib.hid OL
 rw [show (((0:Nat):Int))=0 from rfl] at HO
 clear OL hp m2 b2 HD
 go_wp2_with fail
 refine HO.out.mono ?_
 rintro e w3 ⟨tb,mb,A,k,c,B,m,d,F,rfl,ht,m3,hF,hown,b3⟩
 have HX:Hid (LNewT W w n (.returned (.tuple #[.pointer (some ⟨tb,0,none⟩),.pointer (some ⟨pb,0,none⟩)])) w3):=Lib.hid ⟨tb,mb,pb,db,A,k,c,B,m,d,G,F,_,_,rfl,ht,chainN b3 B2.out,fun k hk=>by
  rcases (hF k).1 hk with e | e
  ·exact HG.out k e
  ·exact Nat.le_trans B2.out.size (hown k e)⟩
 clear ht m3 hF hown b3 HO
 go_wp2_with fail
 go_ret2
 exact HX.out
end Go.Proofs.YtccphijgcapeoaaGreat
/-
  What the statements' own awake comes to. Conditions: none.
-/
namespace Go.Proofs.YtccphijgcapeoaaGreat
open Go.RowKit Go.Maps
theorem wake_text (c:UInt8):ByteArray.toList ⟨#[c]⟩=[c]:=by rw [toList_data]
theorem wake_none:ByteArray.toList ⟨#[]⟩=[]:=by rw [toList_data]
def oneN:ND:=⟨true,[[97]],[[49]],[]⟩
def TS.one (nd:Int→Option ND):TS:=⟨2,1,1,⟨3,[],[]⟩,1,TS.setB (fun _=>false) 2 true,0,TS.setN nd 2 oneN,16⟩
def TS.two (nd:Int→Option ND):TS:=⟨0,0,0,⟨3,[2],[]⟩,1,TS.setB (TS.setB (fun _=>false) 2 true) 2 false,0,TS.setN nd 2 oneN,16⟩
theorem wake_put (nd:Int→Option ND):(TS.new nd 16).put [97] [49]=(0,TS.one nd):=by rfl
theorem wake_get (nd:Int→Option ND):(TS.one nd).get [97]=([49],true,0,TS.one nd):=by rfl
theorem wake_gets (nd:Int→Option ND):(TS.one nd).get [98]=([],false,0,TS.one nd):=by rfl
theorem wake_bad (nd:Int→Option ND):(TS.one nd).put [] []=(120,TS.one nd):=by rfl
theorem wake_del (nd:Int→Option ND):(TS.one nd).del [97]=(true,0,TS.two nd):=by rfl
theorem wake_dels (nd:Int→Option ND):(TS.two nd).del [97]=(false,0,TS.two nd):=by rfl
theorem wake_tr (nd:Int→Option ND):∃ L,TT.Tr [] nd (TS.one nd) (TT.putE [97] [49] []) L:=by
 rcases (TS.new_tr nd 16 (by decide) (by decide)).put1 (key:=[97]) (val:=[49]) (by decide) with ⟨t',e,_⟩ | ⟨t',L',e,tr,_⟩
 ·rw [wake_put] at e
  injection e with e1 e2
  exact absurd e1 (by decide)
 ·rw [wake_put] at e
  injection e with e1 e2
  subst e2
  exact ⟨L',tr⟩
theorem wake_trs (nd:Int→Option ND):∃ L,TT.Tr [] nd (TS.two nd) (TT.delE [97] (TT.putE [97] [49] [])) L:=by
 obtain ⟨L,h⟩:=wake_tr nd
 rcases h.del1 [97] with ⟨t',e,_⟩ | ⟨t',L',e,tr,_⟩
 ·rw [wake_del] at e
  injection e with e1 e2
  exact absurd e1 (by decide)
 ·rw [wake_del] at e
  injection e with e1 e2
  injection e2 with e2 e3
  subst e3
  exact ⟨L',tr⟩
section
variable {W w w':World} {F F':Nat→Prop} {tb pb db:Nat} {t t':TS}
theorem tat_live (w:World) (h:Tree W F w tb pb db t):Calls Tryz.prog 14 #[.pointer (some ⟨tb,0,none⟩)] w fun e w'=>e = .returned (atV t)∧Below w.heap.size w w':=by
 obtain ⟨G,mb,A,n,c,B,m,d,f,h⟩:=h
 exact at_any w h.box
theorem tspace_live (w:World) (h:Tree W F w tb pb db t):Calls Tryz.prog 18 #[.pointer (some ⟨tb,0,none⟩)] w (SpCop w t.sp):=by
 obtain ⟨G,mb,A,n,c,B,m,d,f,h⟩:=h
 exact tspace_any w h.box
theorem UBx.moves {g:Nat} {a b c d e:Value} (h:UBx w g a b c d e) (m:Moves w F w' F') (hF:¬ F g):UBx w' g a b c d e:=(m.kept.block g h.lt hF).trans h
theorem awake_live (w:World):Calls Tryz.prog 10 #[] w fun e w'=>e = .returned (.bool true)∧Below w.heap.size w w':=by
 have hN:=lnew_live (W:=w) w 16 3 (by decide) (by decide) (by decide) (by decide) (Below.refl _ _)
 rw [show (((16:Nat):Int))=16 from rfl,show (((3:Nat):Int))=3 from rfl] at hN
 have HN:=Lib.hid hN
 clear hN
 go_enter Tryz.func10,Tryz.ntmps10
 go_wp2_with fail
 refine HN.out.mono ?_
 rintro e w1 ⟨tb,mb,pb,db,A,k,c,B,m,d,G,F,f,nd,rfl,ht,b1,hF⟩
 have H1:=Lib.hid ht.tree
 obtain ⟨L1,tr1⟩:=wake_tr nd
 obtain ⟨L2,tr2⟩:=wake_trs nd
 have T0:=Lib.hid (TS.new_tr nd 16 (by decide) (by decide))
 have T1:=Lib.hid tr1
 have T2:=Lib.hid tr2
 clear HN ht b1 hF tr1 tr2
 have CP:=aPut_live w1 ⟨#[97]⟩ ⟨#[49]⟩ (fun _ hb=>T0.out.chgPut (by decide) hb) H1.out
 rw [wake_text,wake_text,wake_put] at CP
 have HCP:=Lib.hid CP
 clear CP
 go_wp2_with fail
 refine HCP.out.mono ?_
 rintro e w2 ⟨rfl,F2,h2,m2⟩
 have H2:=Lib.hid h2
 clear HCP h2 m2 H1 T0
 have CG:=aGet_live w2 ⟨#[97]⟩ (T1.out.wayIn _) (show 1≤1000 by decide) H2.out
 rw [wake_text,wake_get] at CG
 unfold TGot at CG
 rw [show (Go.Proofs.YtccphijgcapeoaaGreat.tb [49])=⟨#[49]⟩ from rfl] at CG
 have HCG:=Lib.hid CG
 clear CG
 go_wp2_with fail
 refine HCG.out.mono ?_
 rintro e w3 ⟨rfl,F3,h3,m3⟩
 have H3:=Lib.hid h3
 clear HCG h3 m3 H2
 have CG:=aGet_live w3 ⟨#[98]⟩ (T1.out.wayIn _) (show 1≤1000 by decide) H3.out
 rw [wake_text,wake_gets] at CG
 unfold TGot at CG
 rw [show (Go.Proofs.YtccphijgcapeoaaGreat.tb [])=⟨#[]⟩ from rfl] at CG
 have HCG:=Lib.hid CG
 clear CG
 go_wp2_with fail
 refine HCG.out.mono ?_
 rintro e w4 ⟨rfl,F4,h4,m4⟩
 have H4:=Lib.hid h4
 clear HCG h4 m4 H3
 go_wp2_with fail
 refine (tat_live w4 H4.out).mono ?_
 rintro e w5 ⟨rfl,b5⟩
 have b6:=below_one w5 (.cells #[.int .i64 1,.int .i64 2,.int .i64 1,.slice none 0 0,.int .i64 1] 38)
 have HU:=Lib.hid (ubx_new w5 (.int .i64 1) (.int .i64 2) (.int .i64 1) (.slice none 0 0) (.int .i64 1))
 have NU:=Lib.hid (H4.out.new b5.size)
 have H6:=Lib.hid (H4.out.kept (chainN b6 b5))
 clear b5 b6 H4
 unfold atV
 rw [show (((TS.one nd).ht:Nat):Int)=1 from rfl,show (TS.one nd).ep=1 from rfl,show (TS.one nd).rt=2 from rfl,show (TS.one nd).ct=1 from rfl]
 go_upto_region 8 with fail
 generalize hw6:w5.alloc (.cells #[.int .i64 1,.int .i64 2,.int .i64 1,.slice none 0 0,.int .i64 1] 38)=w6 at *
 generalize w5.heap.size=g10 at *
 clear hw6
 have CP:=aPut_live w6 ⟨#[]⟩ ⟨#[]⟩ (fun _ hb=>T1.out.chgPut (by decide) hb) H6.out
 rw [wake_none,wake_bad] at CP
 have HCP:=Lib.hid CP
 clear CP
 go_wp2_with fail
 refine HCP.out.mono ?_
 rintro e w7 ⟨rfl,F7,h7,m7⟩
 have H7:=Lib.hid h7
 have HU7:=Lib.hid (HU.out.moves m7 NU.out)
 have NU7:=Lib.hid (m7.not HU.out.lt NU.out)
 clear HCP h7 m7 H6 HU NU
 have CD:=aDel_live w7 ⟨#[97]⟩ (fun _=>T1.out.chgDel (by decide) _) H7.out
 rw [wake_text,wake_del] at CD
 have HCD:=Lib.hid CD
 clear CD
 go_wp2_with fail
 refine HCD.out.mono ?_
 rintro e w8 ⟨rfl,F8,h8,m8⟩
 have H8:=Lib.hid h8
 have HU8:=Lib.hid (HU7.out.moves m8 NU7.out)
 have NU8:=Lib.hid (m8.not HU7.out.lt NU7.out)
 clear HCD h8 m8 H7 HU7 NU7
 have CD:=aDel_live w8 ⟨#[97]⟩ (fun _=>T2.out.chgDel (by decide) _) H8.out
 rw [wake_text,wake_dels] at CD
 have HCD:=Lib.hid CD
 clear CD
 go_wp2_with fail
 refine HCD.out.mono ?_
 rintro e w9 ⟨rfl,F9,h9,m9⟩
 have H9:=Lib.hid h9
 have HU9:=Lib.hid (HU8.out.moves m9 NU8.out)
 clear HCD h9 m9 H8 HU8 NU8
 go_wp2_with fail
 refine (tat_live w9 H9.out).mono ?_
 rintro e w10 ⟨rfl,b10⟩
 have b11:=below_one w10 (.cells #[.int .i64 1,.int .i64 0,.int .i64 0,.slice none 0 0,.int .i64 0] 38)
 have HV:=Lib.hid (ubx_new w10 (.int .i64 1) (.int .i64 0) (.int .i64 0) (.slice none 0 0) (.int .i64 0))
 have H11:=Lib.hid (H9.out.kept (chainN b11 b10))
 have HU11:=Lib.hid (HU9.out.kept (chainN b11 b10))
 clear b10 b11 H9 HU9
 unfold atV
 rw [show (((TS.two nd).ht:Nat):Int)=0 from rfl,show (TS.two nd).ep=1 from rfl,show (TS.two nd).rt=0 from rfl,show (TS.two nd).ct=0 from rfl]
 go_upto_region 12 with fail
 generalize hw11:w10.alloc (.cells #[.int .i64 1,.int .i64 0,.int .i64 0,.slice none 0 0,.int .i64 0] 38)=w11 at *
 generalize w10.heap.size=g16 at *
 clear hw11
 go_wp2_with fail
 refine (tspace_live w11 H11.out).mono ?_
 rintro e w12 ⟨v12,rfl,⟨SA,sn,sc,SB,sm,sd,rfl,hs,_,_⟩,b12⟩
 have b13:=below_one w12 (.cells #[.int .i64 3,.slice SA sn sc,.slice SB sm sd] 49)
 have HS:=Lib.hid (box_new w12 (.int .i64 3) (.slice SA sn sc) (.slice SB sm sd))
 have H13:=Lib.hid (H11.out.kept (chainN b13 b12))
 have HU13:=Lib.hid (HU11.out.kept (chainN b13 b12))
 have HV13:=Lib.hid (HV.out.kept (chainN b13 b12))
 have hfr:Ln (w12.alloc (.cells #[.int .i64 3,.slice SA sn sc,.slice SB sm sd] 49)) 1 SA sn sc (intVals [2]):=hs.fr.kept b13
 obtain rfl:1=sn:=hfr.intN
 obtain ⟨bl,off,z,rfl,hz,fc⟩:=hfr.intAt (k:=0) (by decide)
 obtain rfl:2=z:=Option.some.inj hz
 have HFC:=Lib.hid fc
 clear b12 b13 H11 HU11 HV hs hfr fc hz
 rw [show (TS.two nd).sp.hi=3 from rfl]
 go_upto_region 13 with fail
 generalize hw13:w12.alloc (.cells #[.int .i64 3,.slice (some ⟨bl,off,none⟩) 1 sc,.slice SB sm sd] 49)=w13 at *
 generalize w12.heap.size=g17 at *
 clear hw13
 obtain ⟨_,u1,u2,_,u4⟩:=HU13.out.cells
 obtain ⟨_,v1,v2,_,_⟩:=HV13.out.cells
 obtain ⟨_,s1,_⟩:=HS.out.cells
 have fc:=HFC.out
 rw [Nat.add_zero] at fc
 go_wp2_with fail
 go_ret
 exact ⟨rfl,H13.out.below⟩
end
end Go.Proofs.YtccphijgcapeoaaGreat
/-
  What the statements' own Sound comes to: a tree keeps what the document asks of its shape. Conditions: none.
-/
namespace Go.Proofs.YtccphijgcapeoaaGreat
open Go.RowKit Go.Maps
def SoIds (W:World) (F0:Nat→Prop) (w0:World) (tb pb db:Nat) (t:TS) (L:List Int) (A:Option Addr) (c:Nat) (w:World):Prop :=
 ∃ F,Tree W F w tb pb db t∧Moves w0 F0 w F∧Ln w 1 A L.length c (intVals L)
theorem seenInfo:(Tryz.prog.info? 4).map (fun i=>(i.zero,i.size,i.bytes))=some (some (.bool false),1,1):=by kernel_rfl
theorem make_seen (w:World):(Instr.makeSlice 86 (.int .i64 5000) (.int .i64 5000)).run Tryz.prog w = .ok (.slice (some ⟨w.heap.size,0,none⟩) 5000 5000) (w.alloc (.cells (madeCells #[.bool false] 5000) 4)):=by
 obtain ⟨i0,hi,hz0,hz1,hz2⟩:=info_parts seenInfo
 exact run_make_row (P:=Tryz.prog) 86 4 i0 _ Tryz.underlying86 hi hz0 hz1 rfl .i64 .i64 5000 (by rw [hz2];decide) (by decide) w
def SnR (w6:World) (L:List Int) (j:Nat) (w:World):Prop:=Below w6.heap.size w6 w∧w.rowIs w6.heap.size 4 5000 (fun i => .bool (decide ((i:Int)∈L.take j)))
section
variable {W w w':World} {G F F':Nat→Prop} {tb pb db:Nat} {t:TS}
theorem SoIds.kept {F0:Nat→Prop} {w0:World} {L:List Int} {A:Option Addr} {c:Nat} (h:SoIds W F0 w0 tb pb db t L A c w) (hb:Below w.heap.size w w'):SoIds W F0 w0 tb pb db t L A c w':=by
 obtain ⟨F,h1,h2,h3⟩:=h
 exact ⟨F,h1.kept hb,h2.trans (Moves.of_below hb),h3.kept hb⟩
theorem soundT {O:List Int} {nd0:Int→Option ND} {es:List TT.E} {L:List Int} (w:World) (hr:TT.Tr O nd0 t es L) (he:es.length≤511) (hT:Tree W F w tb pb db t) :
 Calls Tryz.prog 16 #[.pointer (some ⟨tb,0,none⟩)] w fun e w'=>e = .returned (.bool true)∧TGoes W F w tb pb db t w':=by
 have HR:=Lib.hid hr
 have HT:=Lib.hid hT
 have hfit:=hT.fit
 have hfew:=hfit.few
 have hlow:=hr.low he
 have hct:t.ct=es.length:=hr.ct
 have hz4:=hfit.z4
 have hhi:=hfit.fine.hi
 have hall:=hr.acc.all
 have HFN:Hid (SS.Fine t.sp 5000):=Lib.hid { hfit.fine with hi:=by omega }
 have HCT:=Lib.hid hct
 have HALL:=Lib.hid hall
 clear hr hT hct hall
 go_enter Tryz.func16,Tryz.ntmps16
 go_wp2_with fail
 refine (tat_live w HT.out).mono ?_
 rintro e w1 ⟨rfl,b1⟩
 have b2:=below_one w1 (.cells #[.int .i64 t.ep,.int .i64 t.rt,.int .i64 ((t.ht:Nat):Int),.slice none 0 0,.int .i64 t.ct] 38)
 have HU:=Lib.hid (ubx_new w1 (.int .i64 t.ep) (.int .i64 t.rt) (.int .i64 ((t.ht:Nat):Int)) (.slice none 0 0) (.int .i64 t.ct))
 have B2:=Lib.hid (chainN b2 b1)
 have NFU:Hid (¬ F w1.heap.size):=Lib.hid (HT.out.new b1.size)
 clear b1 b2
 unfold atV
 go_upto_region 2 with fail
 generalize hw2:w1.alloc (.cells #[.int .i64 t.ep,.int .i64 t.rt,.int .i64 ((t.ht:Nat):Int),.slice none 0 0,.int .i64 t.ct] 38)=w2 at *
 generalize w1.heap.size=gu at *
 clear hw2
 have H2:=Lib.hid (HT.out.kept B2.out)
 go_wp2_with fail
 refine (tspace_live w2 H2.out).mono ?_
 rintro e w3 ⟨v,rfl,⟨A,n,c,B,m,d,rfl,s3,i1,i2⟩,b3⟩
 have HIA:Hid (∀ ad,A=some ad→¬ F ad.block):=Lib.hid (fun ad e=>HT.out.new (Nat.le_trans B2.out.size (i1 ad e)))
 have HIB:Hid (∀ ad,B=some ad→¬ F ad.block):=Lib.hid (fun ad e=>HT.out.new (Nat.le_trans B2.out.size (i2 ad e)))
 clear i1 i2
 have b4:=below_one w3 (.cells #[.int .i64 t.sp.hi,.slice A n c,.slice B m d] 49)
 have HS:=Lib.hid (box_new w3 (.int .i64 t.sp.hi) (.slice A n c) (.slice B m d))
 have HSP:=Lib.hid (s3.kept b4)
 have HU4:=Lib.hid (HU.out.kept (chainN b4 b3))
 have H4:=Lib.hid (H2.out.kept (chainN b4 b3))
 have B4:=Lib.hid (chainN (chainN b4 b3) B2.out)
 have HFL:Hid (t.sp.fr.length=n):=Lib.hid s3.fl
 have HPL:Hid (t.sp.pe.length=m):=Lib.hid s3.pl
 have NFS:Hid (¬ F w3.heap.size):=Lib.hid (HT.out.new (Nat.le_trans B2.out.size b3.size))
 clear b3 b4 s3 H2 B2 HU
 go_upto_region 3 with fail
 generalize hw4:w3.alloc (.cells #[.int .i64 t.sp.hi,.slice A n c,.slice B m d] 49)=w4 at *
 generalize w3.heap.size=gs at *
 clear hw4
 obtain ⟨u0,u1,u2,u3,u4⟩:=HU4.out.cells
 go_upto_if 18 with fail
 go_cut [5] (fun s5 wx=>∃ AI ci,s5 = .slice AI L.length ci∧Hid (SoIds W F w4 tb pb db t L AI ci wx))
 case first =>
  by_cases h0:0<t.ht
  ·have CS:=Lib.hid (sound_root w4 HR.out he h0 H4.out)
   have h0i:(0:Int)<((t.ht:Nat):Int):=by omega
   clear h0
   go_wp2_with fail
   refine CS.out.mono ?_
   rintro e w5 ⟨AI,ci,F5,rfl,o5,T5,m5,_⟩
   obtain ⟨AI',ci',e5,_,l5⟩:=Ln.of_own o5
   injection e5 with e6 _ e7
   subst e6 e7
   have HI:Hid (SoIds W F w4 tb pb db t L AI ci w5):=Lib.hid ⟨F5,T5,m5,l5⟩
   have hu5:=HU4.out.moves m5 NFU.out
   rw [HCT.out] at hu5
   clear u0 u1 u2 u3 u4 o5 T5 m5 l5 CS
   obtain ⟨u0,u1,u2,u3,u4⟩:=hu5.cells
   clear hu5
   go_wp2_with fail
   go_meet
   exact ⟨AI,ci,rfl,HI⟩
  ·have h1:t.ht=0:=by omega
   have hroot:t.rt=0∧t.ct=0∧L=[]:=by
    rcases HR.out.root with ⟨_,e2,e3,e4⟩ | ⟨k,_,_,e2,_⟩
    ·refine ⟨e2,?_,e4⟩
     rw [HCT.out,e3]
     rfl
    ·omega
   obtain ⟨e2,e3,rfl⟩:=hroot
   rw [h1] at u2
   rw [e2] at u1
   rw [e3] at u4
   have HI:Hid (SoIds W F w4 tb pb db t [] none 0 w4):=Lib.hid ⟨F,H4.out,Moves.of_below (Below.refl _ _),Ln.none_ w4 1⟩
   have h0i:¬ (0:Int)<((t.ht:Nat):Int):=by omega
   clear h1 e2 e3
   go_wp2_with fail
   go_meet
   exact ⟨none,0,rfl,HI⟩
 case rest =>
  obtain ⟨AI,ci,rfl,hids⟩:=hcut
  have HCK:Hid (t.sp.check 5000=0):=Lib.hid (SS.check_ok HFN.out)
  obtain ⟨F5,T5,m5,l5⟩:=hids.out
  have HS5:Hid (Box wc gs (.int .i64 t.sp.hi) (.slice A n c) (.slice B m d)):=Lib.hid ((m5.kept.block gs HS.out.lt NFS.out).trans HS.out)
  have HSP5:Hid (Sp wc A n c B m d t.sp):=Lib.hid
   ⟨HSP.out.fr.moved (by omega) (fun hn ad e=>m5.kept.block ad.block (HSP.out.fr.lt (by omega) e) (HIA.out ad e)),HSP.out.pe.moved (by omega) (fun hn ad e=>m5.kept.block ad.block (HSP.out.pe.lt (by omega) e) (HIB.out ad e))⟩
  have hln:((L.length:Nat):Int)+(n:Int)+(m:Int)=t.sp.hi - 2:=by
   have:=HALL.out
   rw [HFL.out,HPL.out] at this
   omega
  have hL1:L.length≤4096:=by have:=HALL.out;omega
  have hn1:n≤4096:=by rw [← HFL.out];exact hfew.1
  have hm1:m≤4096:=by rw [← HPL.out];exact hfew.2.1
  obtain ⟨s0,s1,s2⟩:=HS5.out.cells
  clear T5 m5 l5
  go_wp2_with fail
  refine (check_any t.sp t.sp.hi 5000 A B n c m d wc rfl HSP5.out (by omega) (by omega)).mono ?_
  rintro e w6 ⟨rfl,b6⟩
  rw [HCK.out]
  have HI6:=Lib.hid (hids.out.kept b6)
  have HS6:=Lib.hid (HS5.out.kept b6)
  have HSP6:=Lib.hid (HSP5.out.kept b6)
  clear b6 s0 s1 s2 hln hids HS5 HSP5
  obtain ⟨s0,s1,s2⟩:=HS6.out.cells
  have hmk:=make_seen
  have HB7:=Lib.hid (below_one w6 (.cells (madeCells #[.bool false] 5000) 4))
  have HR7:Hid (SnR w6 L 0 (w6.alloc (.cells (madeCells #[.bool false] 5000) 4))):=Lib.hid ⟨HB7.out,(World.rowIs_made w6 (.bool false) 5000 4).congr (fun i _=>by simp)⟩
  go_wp2_with fail
  clear hmk s0 s1 s2 HB7
  generalize hw7:w6.alloc (.cells (madeCells #[.bool false] 5000) 4)=w7 at *
  clear hw7
  go_loopw [10] (fun i wr=>∃ j:Nat,j≤L.length∧i = .int .i64 j∧Hid (SnR w6 L j wr)) (fun i _=>L.length - (RowKit.intOf i).toNat)
  case atStart=>exact ⟨0,Nat.zero_le _,rfl,HR7⟩
  case round =>
   obtain ⟨j,hj,rfl,hrel⟩:=hrel
   obtain ⟨hb,hrow⟩:=hrel.out
   clear HR7
   obtain ⟨Fr,hT,hM,hL⟩:=HI6.out.kept hb
   have HSr:=HS6.out.kept hb
   have HSPr:=HSP6.out.kept hb
   by_cases hlt:j<L.length
   ·obtain ⟨bi,oi,z,rfl,hz,f0⟩:=hL.intAt hlt
    obtain ⟨z1,z2,z3,z4⟩:=HR.out.acc.inL z (List.mem_of_getElem? hz)
    obtain ⟨k,rfl⟩:∃ k:Nat,z=(k:Int):=⟨z.toNat,by omega⟩
    have hk:k<5000:=by omega
    have hkn:t.sp.known (k:Int)=false:=by
     cases hx:t.sp.known (k:Int) with
     | false=>rfl
     | true=>exact (((SS.known_iff _ _).1 hx).elim (fun e=>absurd e z3) (fun e=>absurd e z4))
    have hno:(k:Int) ∉ L.take j:=fun e=>by
     obtain ⟨i,hi'⟩:=List.mem_iff_getElem?.1 e
     rw [List.getElem?_take] at hi'
     split at hi'
     ·rename_i hij
      have:=(List.getElem?_inj (i:=i) (j:=j) (by omega) HR.out.acc.once).1 (hi'.trans hz.symm)
      omega
     ·cases hi'
    have HNX:Hid (∀ wx,Below w6.heap.size w6 wx→wx.rowIs w6.heap.size 4 5000 (fun i => .bool (decide ((i:Int)∈L.take j)))→SnR w6 L (j+1) (wx.setCell ⟨w6.heap.size,k,none⟩ (.bool true))):=Lib.hid (fun wx h1 h2=>by
     refine ⟨h1.setCell (p:=⟨w6.heap.size,k,none⟩) (Nat.le_refl _) _,(h2.set k (.bool true)).congr (fun i _=>?_)⟩
     rw [List.take_add_one,hz,Option.toList_some]
     by_cases hik:i=k
     ·rw [if_pos hik,hik]
      simp
     ·have:¬ ((i:Int)=(k:Int)):=by omega
      rw [if_neg hik]
      simp [this])
    have KS:=Lib.hid (fun (wx:World) (hbx:Below wr.heap.size wr wx)=>(show (wx.cell? ⟨gs,0,none⟩=some (.int .i64 t.sp.hi)∧wx.cell? ⟨gs,1,none⟩=some (.slice A n c)∧wx.cell? ⟨gs,2,none⟩=some (.slice B m d))∧wx.cell? ⟨bi,oi+j,none⟩=some (.int .i64 (k:Int)) from
     ⟨(HSr.kept hbx).cells,(hbx.cell (p:=⟨bi,oi+j,none⟩) (World.block_lt_of_cell? _ _ f0)).trans f0⟩))
    have HKN:Hid (∀ wx,Below wr.heap.size wr wx→Calls Tryz.prog 38 #[.agg #[.int .i64 t.sp.hi,.slice A n c,.slice B m d],.int .i64 (k:Int)] wx fun e w'=>e = .returned (.bool false)∧Below wx.heap.size wx w'):=Lib.hid (fun wx hbx=>by
     have:=refKnown_any t.sp t.sp.hi (k:Int) A B n c m d wx (HSPr.kept hbx) (by omega) (by omega)
     rw [hkn] at this
     exact this)
    have HCR:Hid (∀ wx,Below wr.heap.size wr wx→wx.rowIs w6.heap.size 4 5000 (fun i => .bool (decide ((i:Int)∈L.take j)))):=Lib.hid (fun wx hbx=>hrow.of_block (hbx.block _ hrow.lt))
    have HSEEN:Hid (∀ wx,Below wr.heap.size wr wx→wx.cell? ⟨w6.heap.size,k,none⟩=some (.bool false)):=Lib.hid (fun wx hbx=>by
     have:=(HCR.out wx hbx).cell hk
     rw [decide_eq_false hno] at this
     exact this)
    have HBW:=Lib.hid hb
    have BD:=Lib.hid ((Below.refl wr.heap.size wr).drew)
    clear hb hrow hT hM hL HSr HSPr hz hkn hno z3 z4 f0 hrel
    have f0:=(KS.out _ (Below.refl _ _)).2
    go_upto_region 17 with fail
    clear f0
    go_region_held3 (fun w'=>(w'.cell? ⟨gs,0,none⟩=some (.int .i64 t.sp.hi)∧w'.cell? ⟨gs,1,none⟩=some (.slice A n c)∧w'.cell? ⟨gs,2,none⟩=some (.slice B m d))∧w'.cell? ⟨bi,oi+j,none⟩=some (.int .i64 (k:Int)))
     (first | exact KS.out _ BD.out | exact KS.out _ BK.out)
     (first
       | (go_at_call 38;refine (HKN.out _ BD.out).mono ?_;rintro e1 wK ⟨rfl,bK⟩;have BK:=Lib.hid (chainN bK BD.out);clear bK)
       | fail)
    all_goals (
     have f0:=(KS.out _ BK.out).2
     have s0:=(KS.out _ BK.out).1.1
     have sb:=HSEEN.out _ BK.out
     have l1:decide ((k:Int)<2)=false:=decide_eq_false (by omega)
     have l2:decide (t.sp.hi≤(k:Int))=false:=decide_eq_false (by omega)
     have l3:decide (k<2)=false:=decide_eq_false (by omega)
     have l4:decide ((k:Int) ≥ t.sp.hi)=false:=decide_eq_false (by omega)
     go_wp2_with fail
     go_quiet (fail)
     have BE:=Lib.hid (chainN (Below.refl _ _).drew BK.out)
     have g0:=(KS.out _ BE.out).2
     have fz:=(HCR.out _ BE.out).frozen k
     have fz2:=(HCR.out _ BK.out).frozen k
     go_wp2_with fail
     go_roundw
     case rel=>exact ⟨j+1,by omega,by go_num,Lib.hid (HNX.out _ (HBW.out.trans ((belowN BK.out _).mono HBW.out.size)) (HCR.out _ (belowN BK.out _)))⟩
     case measure=>simp [RowKit.intOf];omega)
   ·have HX:Hid (TGoes W F w tb pb db t wr):=Lib.hid ⟨Fr,hT,(Moves.of_below B4.out).trans hM⟩
    have hle:L.length≤j:=by omega
    clear hT hM hL HSr HSPr hrow hb hrel
    go_wp2_with fail
    go_ret
    exact ⟨rfl,HX.out⟩
end
end Go.Proofs.YtccphijgcapeoaaGreat
/-
  A tree of a pool that is flushed and emptied, of a disk of which a byte is turned: every page is what it was, or none. Conditions: none.
-/
namespace Go.Proofs.YtccphijgcapeoaaGreat
open Go.RowKit Go.Maps
namespace TT
open ND TS
section
variable {nd nd3:Int→Option ND} {key:K}
end
section
variable {O:List Int} {nd0 nd3:Int→Option ND} {t:TS} {es:List E} {L:List Int}
end
end TT
section
variable {W w w':World} {F F' G:Nat→Prop} {tb mb pb db g:Nat} {A B:Option Addr} {n c m d:Nat} {f:Int→List UInt8} {t u:TS} {es:List TT.E}
def TFl (W:World) (F:Nat→Prop) (w:World) (tb pb db:Nat) (t:TS):Prop :=
 ∃ G mb A n c B m d f s M,TAt W G F w tb mb pb db A n c B m d f t∧PLive W G w pb db s∧Free s f M t.z∧M≤12∧∀ p:Int,0≤p→p<t.z→s.k.held p=f p
theorem TFl.tree (h:TFl W F w tb pb db t):Tree W F w tb pb db t:=by
 obtain ⟨G,mb,A,n,c,B,m,d,f,s,M,h,_⟩:=h
 exact h.tree
theorem tflush_live (w:World) (h:Tree W F w tb pb db t) :
 Calls Tryz.prog 17 #[.pointer (some ⟨pb,0,none⟩)] w fun e w'=>e = .returned (.int .i64 0)∧∃ F',TFl W F' w' tb pb db t∧Moves w F w' F':=by
 obtain ⟨G,mb,A,n,c,B,m,d,f,h⟩:=h
 obtain ⟨s,M,hp,hf,hM⟩:=h.pool
 refine (pflush_live w (by rw [hf.m_];exact hM) hp).mono ?_
 rintro e w' ⟨js,hj,rfl,G',hp',hm⟩
 obtain ⟨e0,hf',hfl⟩:=hf.flush hp.fit hj
 rw [e0]
 obtain ⟨F',h',m'⟩:=h.pooled (nd':=t.nd) hm ⟨_,M,hp',hf',hM⟩ h.nds hp'.base
 refine ⟨rfl,F',⟨G',mb,A,n,c,B,m,d,f,_,M,h',hp',hf',hM,fun p h0 h1=>?_⟩,m'⟩
 unfold PS.held
 rw [hfl.waits]
 exact hfl.lasts p ((PS.has_at _ _).2 ⟨h0,by rw [hf.size];exact h1⟩)
end
end Go.Proofs.YtccphijgcapeoaaGreat
/-
  A tree opened anew over the same pool; what lies beside a tree and stays: a superblock, pages' lists, the document's entries. Conditions: none.
-/
namespace Go.Proofs.YtccphijgcapeoaaGreat
open Go.RowKit Go.Maps
namespace TT
open ND TS
section
variable {O:List Int} {nd0 nd':Int→Option ND} {t:TS} {es:List E} {L:List Int}
def opnT (t:TS) (nd':Int→Option ND) (ep:Int):TS:=⟨t.rt,t.ht,t.ct,t.sp,ep,fun _=>false,0,nd',t.z⟩
theorem Root.frame {nd:Int→Option ND} {ht:Nat} {rt:Int} (h:Root nd ht rt es L) (hn:∀ q∈L,nd' q=nd q):Root nd' ht rt es L:=by
 rcases h with h | ⟨k,n,qs,e,rfl,a,b,c,v⟩
 ·exact Or.inl h
 ·exact Or.inr ⟨k,n,qs,e,rfl,(hn rt (by simp)).trans a,b,c,v.mono (fun c lo hi e q hq hs=>hs.frame (fun x hx=>hn x (by simp [hq x hx])))⟩
theorem Tr.nothing (h:Tr [] nd0 t es L):t.sp.pe=[]:=by
 cases hp:t.sp.pe with
 | nil=>rfl
 | cons x l =>
   have:=h.acc.pend x (by rw [hp];simp)
   cases this
theorem Tr.empty (h:Tr [] nd0 t es L) {x:Int×Int} (hx:x∈t.sp.pe):False:=by
 rw [h.nothing] at hx
 cases hx
theorem Tr.reopen (h:Tr [] nd0 t es L) (hn:∀ q∈L,nd' q=t.nd q) {ep:Int} (he:0≤ep):Tr L nd' (opnT t nd' ep) es L :=
 {acc:=⟨h.acc.fine,h.acc.once,h.acc.inL,h.acc.all,fun x hx=>(h.empty hx).elim,he,fun p hp=>Or.inr hp,fun x hx=>(h.empty hx).elim,fun p hp=>⟨rfl,Or.inl hp,rfl⟩,fun p hp=>by cases hp⟩
  root:=h.root.frame hn
  ct:=h.ct
  lost:=rfl
  z_:=h.z_ }
theorem Tr.flat2 (h:Tr O nd0 t es L):(t.rt==0)=(((t.ht:Nat):Int)==0):=by
 rcases h.root with ⟨e,e2,_⟩ | ⟨k,n,qs,e,rfl,a,b,c,v⟩
 ·rw [e,e2]
  rfl
 ·have:=h.acc.top (p:=t.rt) (by simp)
  rw [beq_eq_false_iff_ne.2 (by omega:¬ t.rt=0),beq_eq_false_iff_ne.2 (by omega:¬ ((t.ht:Nat):Int)=0)]
end
end TT
section
variable {w w':World} {F F' G:Nat→Prop} {g g2 gu gs n c m d:Nat} {A B:Option Addr} {es:List TT.E} {sp:SS} {a b x y z:Value}
theorem MAt.fewer (h:MAt w F g es) (hG:∀ k,G k→F k):MAt w G g es:=by
 obtain ⟨A,n,c,h⟩:=h
 exact ⟨A,n,c,h.box,h.ln.fewer hG,fun e=>h.out (hG g e),h.ne⟩
theorem MAt.apart (h:MAt w F g es) (hb:Below w.heap.size w w') (h2:w.heap.size≤g2):MAt w' (plus F g2) g es:=by
 obtain ⟨A,n,c,h⟩:=h
 refine ⟨A,n,c,h.box.kept hb,⟨h.ln.ln.kept hb,fun hn ad e hk=>?_⟩,fun hk=>?_,h.ne⟩
 ·rcases hk with hk | hk
  ·exact h.ln.out hn ad e hk
  ·have:=h.ln.ln.lt (by omega) e
   omega
 ·rcases hk with hk | hk
  ·exact h.out hk
  ·have:=h.box.lt
   omega
structure Bsd (w:World) (F:Nat→Prop) (gu:Nat) (a b x y z:Value) (gs:Nat) (A:Option Addr) (n c:Nat) (B:Option Addr) (m d:Nat) (sp:SS):Prop where
 up:UBx w gu a b x y z
 box:Box w gs (.int .i64 sp.hi) (.slice A n c) (.slice B m d)
 fr:LnO w F 1 A n c (intVals sp.fr)
 pe:LnO w F 2 B m d (prVals sp.pe)
 ou:¬ F gu
 os:¬ F gs
theorem Bsd.lists (h:Bsd w F gu a b x y z gs A n c B m d sp):Sp w A n c B m d sp:=⟨h.fr.ln,h.pe.ln⟩
theorem Bsd.moves (h:Bsd w F gu a b x y z gs A n c B m d sp) (hm:Moves w F w' F'):Bsd w' F' gu a b x y z gs A n c B m d sp :=
 ⟨h.up.moves hm h.ou,(hm.kept.block gs h.box.lt h.os).trans h.box,h.fr.moves (by omega) hm,h.pe.moves (by omega) hm,fun e=>by
  rcases hm.news gu e with e | e
  ·exact h.ou e
  ·have:=h.up.lt
   omega,fun e=>by
  rcases hm.news gs e with e | e
  ·exact h.os e
  ·have:=h.box.lt
   omega⟩
theorem Bsd.fewer (h:Bsd w F gu a b x y z gs A n c B m d sp) (hG:∀ k,G k→F k):Bsd w G gu a b x y z gs A n c B m d sp :=
 ⟨h.up,h.box,h.fr.fewer hG,h.pe.fewer hG,fun e=>h.ou (hG _ e),fun e=>h.os (hG _ e)⟩
theorem Bsd.apart (h:Bsd w F gu a b x y z gs A n c B m d sp) (hb:Below w.heap.size w w') (h2:w.heap.size≤g2):Bsd w' (plus F g2) gu a b x y z gs A n c B m d sp :=
 ⟨h.up.kept hb,h.box.kept hb,⟨h.fr.ln.kept hb,fun hn ad e hk=>by
  rcases hk with hk | hk
  ·exact h.fr.out hn ad e hk
  ·have:=h.fr.ln.lt (by omega) e
   omega⟩,⟨h.pe.ln.kept hb,fun hn ad e hk=>by
  rcases hk with hk | hk
  ·exact h.pe.out hn ad e hk
  ·have:=h.pe.ln.lt (by omega) e
   omega⟩,fun hk=>by
  rcases hk with hk | hk
  ·exact h.ou hk
  ·have:=h.up.lt
   omega,fun hk=>by
  rcases hk with hk | hk
  ·exact h.os hk
  ·have:=h.box.lt
   omega⟩
end
section
variable {W w w':World} {F F':Nat→Prop} {tb pb db:Nat} {t:TS}
def ROpn (W:World) (F:Nat→Prop) (w:World) (pb db:Nat) (T:TS) (e:Ending) (w':World):Prop :=
 ∃ ub G FU,e = .returned (.tuple #[.pointer (some ⟨ub,0,none⟩),.int .i64 0])∧(∀ k,G k→F k)∧Moves w G w' FU∧Tree W FU w' ub pb db T
theorem reopen_live {T:TS} (w:World) (hT:Tree W F w tb pb db T) (t:TS) (hz:t.z=T.z) (hf:SS.Fine t.sp t.z) (hh:t.ht≤20) (hfl:(t.rt==0)=(((t.ht:Nat):Int)==0)) {A B:Option Addr} {n c m d:Nat} (hs:Sp w A n c B m d t.sp) (e0:Int) :
 Calls Tryz.prog 19 #[.pointer (some ⟨pb,0,none⟩),.agg #[.int .i64 e0,.int .i64 t.rt,.int .i64 ((t.ht:Nat):Int),.slice none 0 0,.int .i64 t.ct],.agg #[.int .i64 t.sp.hi,.slice A n c,.slice B m d],.int .i64 2] w (ROpn W F w pb db (TT.opnT t T.nd 2)):=by
 obtain ⟨G,mb,A1,n1,c1,B1,m1,d1,f,h⟩:=hT
 have hz4:=h.box.fit.z4
 have hfew:t.sp.fr.length≤400000∧t.sp.pe.length≤400000:=by
  have a1:=few_ints t.z t.sp.fr (hf.up.imp (fun h=>by omega)) (fun x hx=>by have:=hf.inF x hx;have:=hf.hi;omega)
  have a2:=few_ints t.z (t.sp.pe.map (·.2)) hf.once (fun x hx=>by
   obtain ⟨y,hy,rfl⟩:=List.mem_map.1 hx
   have:=hf.inP y hy
   have:=hf.hi
   omega)
  rw [List.length_map] at a2
  omega
 refine (open_live (W:=W) (G:=G) (db:=db) (f:=f) w e0 t.rt t.ct 2 t.ht none 0 0 A n c B m d t.sp t.z T.nd (by rw [hz];exact h.pool) (by rw [hz];exact h.nds) (fun k hk=>h.base k ((h.hF k).2 (Or.inl hk))) h.below hs hf (by omega) (by decide) (by decide) hh hfl (by rw [← hs.fl];exact hfew.1) (by rw [← hs.pl];exact hfew.2)).mono ?_
 rintro e w' ⟨ub,mb2,A2,n2,c2,B2,m2,d2,F2,rfl,ht,hm,_,_,_⟩
 exact ⟨ub,G,F2,rfl,fun k hk=>(h.hF k).2 (Or.inl hk),hm,ht.tree⟩
end
end Go.Proofs.YtccphijgcapeoaaGreat
