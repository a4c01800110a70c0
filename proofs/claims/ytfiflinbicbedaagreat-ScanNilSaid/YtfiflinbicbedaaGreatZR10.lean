/-
  A part of the proof. Conditions: none.
-/
import Derived.BigQuiet
import Derived.Test.YtfiflinbicbedaaGreatZR1

set_option maxRecDepth 20000
set_option maxHeartbeats 12800000
namespace Go.Proofs.YtfiflinbicbedaaGreat
section
open Go.RowKit
theorem qh3 (A B:Option Addr) (c d:Nat) (xs ys:List Int) (w:World) (hx:FX w A xs) (hy:FX w B ys) (hn:xs.length<=2147483647) :
 Calls Tryz.prog 26 #[.slice A xs.length c,.slice B ys.length d] w
  fun e w'=>e = .returned (.bool (decide (xs=ys)))/\Below w.heap.size w w':=by
 by_cases hl:xs.length=ys.length
 ·have hl':((xs.length:Int) != (ys.length:Int))=false:=by simp [hl]
  have HL:=iQ hl;have hlx:xs.length<=ys.length:=by omega
  have hly:ys.length<=xs.length:=by omega
  clear hl;go_enter Tryz.func26,Tryz.ntmps26;go_wp2_with fail;go_loopw [5] (fun i wr=>∃ k:Nat,k<=xs.length/\i = .int .i64 k/\Hid (xs.take k=ys.take k)/\Below w.heap.size w wr) (fun i _=>xs.length - (RowKit.intOf i).toNat)
  case atStart=>exact ⟨0,wb3 _,rfl,iQ (by simp),Below.refl _ _⟩
  case round =>
   obtain ⟨k,hk,rfl,hpre,hb⟩:=hrel;by_cases hlt:k<xs.length
   ·obtain ⟨b,off,z,rfl,hv,c0⟩:=(hx.below hb).at_ hlt
    obtain ⟨b',off',z',rfl,hv',c0'⟩:=(hy.below hb).at_ (k:=k) (by omega);have hV:=iQ hv;have hV':=iQ hv';clear hv hv';have i0:(0:Int)<=(k:Int):=(by omega);by_cases hz:z=z'
    ·subst hz
     go_wp2_with fail;go_quiet (fail)
     go_wp2_with fail;go_roundw;case rel=>exact ⟨k+1,by omega,by go_num,iQ (qB2 hpre.out hV.out hV'.out),Ya hb _⟩
     case measure=>simp [RowKit.intOf];omega
    ·have hz':(z != z')=true:=by simpa using hz
     clear hz;go_wp2_with fail;go_quiet (fail)
     go_wp2_with fail;go_ret;refine ⟨Qi (decide_eq_false (fun e=>?_)).symm,Ya hb _⟩;have h1:=hV.out;rw [e,hV'.out] at h1;simp at h1;exact absurd h1.symm (by simpa using hz')
   ·obtain rfl:k=xs.length:=by omega
    go_wp2_with fail;go_ret;refine ⟨Qi (decide_eq_true ?_).symm,hb⟩;have:=hpre.out;rw [wf2,HL.out,wf2] at this;exact this
 ·have hl':((xs.length:Int) != (ys.length:Int))=true:=by simp;omega
  have hfin:decide (xs=ys)=false:=decide_eq_false (fun e=>hl (by rw [e]));rw [hfin];clear hfin;go_enter Tryz.func26,Tryz.ntmps26;go_wp2_with fail;go_ret;exact ⟨rfl,Below.refl _ _⟩
end
end Go.Proofs.YtfiflinbicbedaaGreat
