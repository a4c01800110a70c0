/-
  A part of the proof. Conditions: none.
-/
import Derived.Test.YtfiflinbicbedaaGreatZR22

set_option maxRecDepth 20000
set_option maxHeartbeats 12800000
namespace Go.Proofs.YtfiflinbicbedaaGreat
section
open Go.RowKit Go.Maps
section
variable {W:World} {F:Nat->Prop} {tb pb db:Nat} {t:TS} {es:List TT.E} {L:List Int} {nd:Int->Option ND}
theorem TT.Tr.bounds {O:List Int} {nd0:Int->Option ND} (h:TT.Tr O nd0 t es L) (hz:t.z=1000):0<=t.sp.hi/\t.sp.hi<=1000/\t.sp.fr.length<=1000/\t.sp.pe.length<=1000:=by
 have h1:=h.acc.fine.hi;have h2:=h.acc.fine.lo;have h3:=h.acc.all;omega
theorem qr6 (w:World) (hT:Ql W F w tb pb db t) (h:TT.Tr [] nd t es L) (he:es.length<=150) (hz:t.z=1000) :
 Calls Tryz.prog 16 #[.pointer (some ⟨tb,0,none⟩)] w (LCk W F w tb pb db t (0,0)):=by
 have hs:=h.small he;obtain ⟨a,b,c,d⟩:=h.bounds hz;obtain ⟨vs,hw,hc⟩:=CV w t hT h hs.1 hs.2 rfl rfl h.lost rfl rfl a (by omega) (by omega) (by omega);rw [h.checked0 hw] at hc;exact hc
theorem qZ9 {ms:List Int} (hn:ms.Nodup) (hr:ms.Pairwise (·<=·)) {i:Nat} {a b:Int} (ha:ms[i]?=some a) (hb:ms[i+1]?=some b):a<b:=by
 obtain ⟨h1,rfl⟩:=wa8.1 ha;obtain ⟨h2,rfl⟩:=wa8.1 hb;have h3:=List.pairwise_iff_getElem.1 hr i (i+1) h1 h2 (by omega);have h4:=List.pairwise_iff_getElem.1 hn i (i+1) h1 h2 (by omega);omega
end
end
end Go.Proofs.YtfiflinbicbedaaGreat
