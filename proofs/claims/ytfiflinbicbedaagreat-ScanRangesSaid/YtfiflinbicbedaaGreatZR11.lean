/-
  A part of the proof. Conditions: none.
-/
import Derived.Test.YtfiflinbicbedaaGreatZR9

set_option maxRecDepth 20000
set_option maxHeartbeats 12800000
namespace Go.Proofs.YtfiflinbicbedaaGreat
section
open Go.RowKit
theorem Ux (A B:Option Addr) (n c m d:Nat) (es:List TT.E) (w:World) (hx:Ln w 2 A n c (Qg es)) (hy:Ln w 2 B m d (Qg es)) (hn:n<=1000000000) :
 Calls Tryz.prog 14 #[.slice A n c,.slice B m d] w (fun e w'=>e = .returned (.bool true)/\Below w.heap.size w w'):=by
 have HX:=iQ hx;have HY:=iQ hy;obtain rfl:n=m:=by rw [<- hx.entN,<- hy.entN]
 have hb:((n:Int) != (n:Int))=false:=bne_self_eq_false _;clear hx hy;go_enter Tryz.func14,Tryz.ntmps14;go_wp2_with fail;go_loopw [5] (fun i wk=>∃ k:Nat,k<=n/\i = .int .i64 k/\Hid (Below w.heap.size w wk)) (fun i _=>n - (RowKit.intOf i).toNat)
 case atStart=>exact ⟨0,wb3 _,rfl,iQ (Below.refl _ _)⟩
 case round =>
  obtain ⟨k,hk,rfl,BK⟩:=hrel;by_cases hlt:k<n
  ·obtain ⟨b,off,x,y,rfl,hv,f0,f1⟩:=(HX.out.kept BK.out).entAt hlt
   obtain ⟨b',off',x',y',rfl,hv',g0,g1⟩:=(HY.out.kept BK.out).entAt hlt;rw [hv] at hv';injection hv' with hv'
   injection hv' with e1 e2
   have e1:x=x':=by rw [<- Zx x,<- Zx x',e1]
   have e2:y=y':=by rw [<- Zx y,<- Zx y',e2]
   subst e1;subst e2;clear hv;go_wp2_with fail;go_quiet (fail)
   go_wp2_with fail;go_roundw;case rel=>exact ⟨k+1,by omega,by go_num,iQ (Ya BK.out _)⟩
   case measure=>simp [RowKit.intOf];omega
  ·obtain rfl:n=k:=by omega
   go_wp2_with fail;go_ret;exact ⟨rfl,BK.out⟩
end
end Go.Proofs.YtfiflinbicbedaaGreat
