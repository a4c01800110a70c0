/-
  A part of the proof. Conditions: none.
-/
import Derived.Test.YtfiflinbicbedaaGreatZR17

set_option maxRecDepth 20000
set_option maxHeartbeats 12800000
namespace Go.Proofs.YtfiflinbicbedaaGreat
section
open Go.RowKit Go.Maps
def zj0 (w:World) (es:List TT.E) (e:Ending) (w':World):Prop:=∃ A n c,e = .returned (.slice A n c)/\w'.ownsRow w.heap.size 70 2 (.slice A n c) es.length (Qg es)/\Below w.heap.size w w'
theorem qr2 (w:World) (lo hi:ByteArray) (most:Int) {F:Nat->Prop} {g:Nat} {es:List TT.E} (hm:MAt w F g es) (hn:es.length<=500000) :
 Calls Tryz.prog 15 #[.pointer (some ⟨g,0,none⟩),.string lo,.string hi,.int .i64 most] w (zj0 w ((es.filter (fun e=>Qh e.1 lo.toList hi.toList)).take most.toNat)):=by
 obtain ⟨A,n,c,hm⟩:=hm;have HM:=iQ hm;have HE:=iQ hm.ln.ln.entN;have hn2:n<=500000:=by rw [<- hm.ln.ln.entN];exact hn
 clear hm hn;obtain ⟨i0,hi0,hz0,hz1,hz2⟩:=info_parts XH;go_enter Tryz.func15,Tryz.ntmps15;go_wp2_with fail;go_loopw [9,10] (fun v i wk=>∃ k j:Nat,k<=n/\i = .int .i64 k/\((j:Int)<=most\/j=0)/\j<=k/\Hid (((es.take k).filter (fun e=>Qh e.1 lo.toList hi.toList)).length=j)/\Hid (wk.ownsRow w.heap.size 70 2 v j (Qg ((es.take k).filter (fun e=>Qh e.1 lo.toList hi.toList))))/\Hid (Below w.heap.size w wk)) (fun _ i _=>n - (RowKit.intOf i).toNat)
 case atStart=>exact ⟨0,0,wb3 _,rfl,Or.inr rfl,wa2 _,iQ rfl,iQ (World.ownsRow_nil _ _ _ _),iQ (Below.refl _ _)⟩
 case round =>
  obtain ⟨k,j,hk,rfl,hj,hjk,HJ,HO,HB⟩:=hrel;obtain ⟨A9,c9,rfl,hc9,_⟩:=Ln.oo HO.out;have cm:=(HM.out.kept HB.out).box.cell;by_cases hlt:k<n/\(j:Int)<most
  ·obtain ⟨h1,h2⟩:=hlt
   obtain ⟨b,off,x,y,rfl,hxy,d0,d1⟩:=(HM.out.kept HB.out).ln.ln.entAt h1;have hs:(es.take (k+1)).filter (fun e=>Qh e.1 lo.toList hi.toList)=(es.take k).filter (fun e=>Qh e.1 lo.toList hi.toList)++(if Qh x.toList lo.toList hi.toList then [(x.toList,y.toList)] else []):=by
    rw [wc2,hxy,wd0,we9];cases hw:Qh x.toList lo.toList hi.toList<;>simp [hw]
   cases q1:Op.bytesLess x.toList lo.toList with
   | true =>
     have hw:Qh x.toList lo.toList hi.toList=false:=by unfold Qh;rw [q1];rfl
     have HS:=iQ (hs.trans (by rw [if_neg (by rw [hw];decide),wc5]));have O3:Hid (wr.ownsRow w.heap.size 70 2 (.slice A9 j c9) j (Qg ((es.take (k+1)).filter (fun e=>Qh e.1 lo.toList hi.toList)))):=by
      rw [HS.out];exact HO
     have J3:Hid (((es.take (k+1)).filter (fun e=>Qh e.1 lo.toList hi.toList)).length=j):=iQ (by rw [HS.out];exact HJ.out);clear hs hw HS;go_wp2_with fail;go_roundw;case rel=>exact ⟨k+1,j,by omega,by go_num,hj,by omega,J3,O3,HB⟩
     case measure=>simp [RowKit.intOf];omega
   | false =>
     cases q2:(hi.toList==[]) with
     | true =>
       have hw:Qh x.toList lo.toList hi.toList=true:=by unfold Qh Yj;rw [q1,q2];rfl
       have HS:=iQ (hs.trans (by rw [if_pos hw]));have UB:Hid (∀ (j:Nat) (u:Value),[Value.string x,Value.string y][j]?=some u->(wr.alloc (.cells #[.string x,.string y] 70)).cell? ((⟨wr.heap.size,0,none⟩:Addr).add j)=some u):=iQ (fun j u hu=>(XK wr x y).2 _ rfl j u (by simpa [Qg,Zx] using hu));have bb:=Qa wr (.cells #[.string x,.string y] 70);have OB:=iQ (HO.out.alloc (.cells #[.string x,.string y] 70));have HBW:=iQ (Qe bb HB.out);clear hs hw bb;go_wp2_with (first
        | (at_builtin;refine wpList_append_own _ rfl (.tmp 52) (.tmp 60) 29 rfl w.heap.size 70 i0 _ 2 32 Tryz.underlying29 hi0 hz0 hz1 hz2 rfl (by decide) _ j _ rfl OB.out ⟨wr.heap.size,0,none⟩ 1 1 [.string x,.string y] rfl rfl UB.out (by simp [Value.oneCell']) (by unfold maxLen;omega) (by omega) HBW.out.size ?_;intro v3 w3 hown3 hg3 _)
        | fail)
       have O3:Hid (w3.ownsRow w.heap.size 70 2 v3 (j+1) (Qg ((es.take (k+1)).filter (fun e=>Qh e.1 lo.toList hi.toList)))):=by
        rw [HS.out,Zg];exact iQ (by simpa [Qg,Zx] using hown3)
       have B3:Hid (Below w.heap.size w w3):=iQ (HBW.out.grown hg3 HBW.out.size (fun g hg=>(HO.out.lt g hg).1));have J3:Hid (((es.take (k+1)).filter (fun e=>Qh e.1 lo.toList hi.toList)).length=j+1):=iQ (by rw [HS.out,wa6,HJ.out];rfl);clear hown3 hg3 HO HB HBW OB HS HJ cm d0 d1 UB;go_wp2_with fail;go_roundw;case rel=>exact ⟨k+1,j+1,by omega,by go_num,Or.inl (by omega),by omega,J3,O3,B3⟩
       case measure=>simp [RowKit.intOf];omega
     | false =>
       cases q3:Op.bytesLess x.toList hi.toList with
       | true =>
         have hw:Qh x.toList lo.toList hi.toList=true:=by unfold Qh Yj;rw [q1,q2,q3];rfl
         have HS:=iQ (hs.trans (by rw [if_pos hw]));have UB:Hid (∀ (j:Nat) (u:Value),[Value.string x,Value.string y][j]?=some u->(wr.alloc (.cells #[.string x,.string y] 70)).cell? ((⟨wr.heap.size,0,none⟩:Addr).add j)=some u):=iQ (fun j u hu=>(XK wr x y).2 _ rfl j u (by simpa [Qg,Zx] using hu));have bb:=Qa wr (.cells #[.string x,.string y] 70);have OB:=iQ (HO.out.alloc (.cells #[.string x,.string y] 70));have HBW:=iQ (Qe bb HB.out);clear hs hw bb;go_wp2_with (first
          | (at_builtin;refine wpList_append_own _ rfl (.tmp 52) (.tmp 60) 29 rfl w.heap.size 70 i0 _ 2 32 Tryz.underlying29 hi0 hz0 hz1 hz2 rfl (by decide) _ j _ rfl OB.out ⟨wr.heap.size,0,none⟩ 1 1 [.string x,.string y] rfl rfl UB.out (by simp [Value.oneCell']) (by unfold maxLen;omega) (by omega) HBW.out.size ?_;intro v3 w3 hown3 hg3 _)
          | fail)
         have O3:Hid (w3.ownsRow w.heap.size 70 2 v3 (j+1) (Qg ((es.take (k+1)).filter (fun e=>Qh e.1 lo.toList hi.toList)))):=by
          rw [HS.out,Zg];exact iQ (by simpa [Qg,Zx] using hown3)
         have B3:Hid (Below w.heap.size w w3):=iQ (HBW.out.grown hg3 HBW.out.size (fun g hg=>(HO.out.lt g hg).1));have J3:Hid (((es.take (k+1)).filter (fun e=>Qh e.1 lo.toList hi.toList)).length=j+1):=iQ (by rw [HS.out,wa6,HJ.out];rfl);clear hown3 hg3 HO HB HBW OB HS HJ cm d0 d1 UB;go_wp2_with fail;go_roundw;case rel=>exact ⟨k+1,j+1,by omega,by go_num,Or.inl (by omega),by omega,J3,O3,B3⟩
         case measure=>simp [RowKit.intOf];omega
       | false =>
         have hw:Qh x.toList lo.toList hi.toList=false:=by unfold Qh Yj;rw [q1,q2,q3];rfl
         have HS:=iQ (hs.trans (by rw [if_neg (by rw [hw];decide),wc5]));have O3:Hid (wr.ownsRow w.heap.size 70 2 (.slice A9 j c9) j (Qg ((es.take (k+1)).filter (fun e=>Qh e.1 lo.toList hi.toList)))):=by
          rw [HS.out];exact HO
         have J3:Hid (((es.take (k+1)).filter (fun e=>Qh e.1 lo.toList hi.toList)).length=j):=iQ (by rw [HS.out];exact HJ.out);clear hs hw HS;go_wp2_with fail;go_roundw;case rel=>exact ⟨k+1,j,by omega,by go_num,hj,by omega,J3,O3,HB⟩
         case measure=>simp [RowKit.intOf];omega
  ·have hpost:∀ v,v=Value.slice A9 j c9->zj0 w ((es.filter (fun e=>Qh e.1 lo.toList hi.toList)).take most.toNat) (.returned v) wr:=fun v hv=>by
    subst hv;have e:(es.filter (fun e=>Qh e.1 lo.toList hi.toList)).take most.toNat=(es.take k).filter (fun e=>Qh e.1 lo.toList hi.toList):=by
     by_cases hkn:k<n
     ·have hjm:most.toNat=j:=by omega
      have e2:es.filter (fun e=>Qh e.1 lo.toList hi.toList)=(es.take k).filter (fun e=>Qh e.1 lo.toList hi.toList)++(es.drop k).filter (fun e=>Qh e.1 lo.toList hi.toList):=by
       rw [<- we9,wb7]
      rw [e2,hjm,<- HJ.out,List.take_left]
     ·rw [wa5 (l:=es) (by rw [HE.out];omega)] at HJ ⊢
      rw [wa5 (by rw [HJ.out];omega)]
    rw [e];exact ⟨A9,j,c9,rfl,by rw [HJ.out];exact HO.out,HB.out⟩
   have zi8:=iQ hpost;clear hpost;by_cases h1:k<n
   ·have h2:¬ (j:Int)<most:=by omega
    clear hlt;go_wp2_with fail;go_ret;exact zi8.out _ rfl
   ·clear hlt
    go_wp2_with fail;go_ret;exact zi8.out _ rfl
end
end Go.Proofs.YtfiflinbicbedaaGreat
