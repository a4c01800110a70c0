/-
  A part of the proof. Conditions: none.
-/
import Derived.Test.YtfiflinbicbedaaGreatZR20

set_option maxRecDepth 20000
set_option maxHeartbeats 12800000
namespace Go.Proofs.YtfiflinbicbedaaGreat
section
open Go.RowKit Go.Maps
theorem TT.Tr.small {nd:Int->Option ND} {t:TS} {es:List TT.E} {L:List Int} (h:TT.Tr [] nd t es L) (he:es.length<=150):L.length<=5000/\t.ht<=100:=by
 have h1:=h.used_le;have h2:=h.low (by omega);unfold TS.used at h1;simp only [List.length_nil,Nat.add_zero] at h1;omega
theorem VC (k:List UInt8):Qh k [] []=true:=by
 unfold Qh Yj;rw [TT.nil_low];rfl
theorem qn5 (es:List TT.E) {m:Nat} (hm:es.length<=m):(es.filter (fun e=>Qh e.1 [] [])).take m=es:=by
 rw [List.filter_eq_self.2 (fun x _=>VC x.1),wa5 hm]
theorem qv7:ByteArray.toList ⟨#[]⟩=[]:=by rw [Yb]
section
variable {W w:World} {F:Nat->Prop} {tb pb db:Nat} {t:TS} {es:List TT.E} {L:List Int} {nd:Int->Option ND}
theorem qx7 (w:World) (hT:Ql W F w tb pb db t) (h:TT.Tr [] nd t es L) (he:es.length<=150) :
 Calls Tryz.prog 13 #[.pointer (some ⟨tb,0,none⟩),.string ⟨#[]⟩,.string ⟨#[]⟩,.int .i64 1000] w (LRg W F w tb pb db t es):=by
 have hs:=h.small he;have hc:=Ju w ⟨#[]⟩ ⟨#[]⟩ 1000 (by decide) hT h hs.1 hs.2;rw [qv7,show Int.toNat 1000=1000 from rfl,qn5 es (by omega)] at hc;exact hc
end
end
end Go.Proofs.YtfiflinbicbedaaGreat
