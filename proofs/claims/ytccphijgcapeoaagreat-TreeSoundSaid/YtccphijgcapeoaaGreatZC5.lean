/-
  A part of the proof: what its texts say stands at the head of each. Conditions: none.
-/
import Derived.Lib.SmallJoins
import Derived.Deep.RegionLaw
import Derived.Deep.AppendLies
import Derived.Laws.BitsAll
import Derived.Deep.WholeRow
import Derived.Laws.CopyOwn
import Derived.Lib.BytesEntry
import Derived.Laws.Externs
import Derived.Deep.QuietTactic
import Derived.BigQuiet
import Derived.Laws.MakeOwn
import Derived.Test.YtccphijgcapeoaaGreatZC1
import Derived.Test.YtccphijgcapeoaaGreatZC2
import Derived.Test.YtccphijgcapeoaaGreatZC3
import Derived.Test.YtccphijgcapeoaaGreatZC4

set_option maxRecDepth 20000
set_option maxHeartbeats 12800000
/-
  What Get, Pin, Unpin and Put come to.
-/
namespace Go.Proofs.YtccphijgcapeoaaGreat
open Go.RowKit
theorem own_up2 {w:World} {base base2:Nat} {v:Value} {l:List UInt8} (h:Own w base v l) (hb:base2≤base):Own w base2 v l:=by
 obtain ⟨h1,h2⟩:=h
 refine ⟨h1,?_⟩
 rcases h2 with h2 | ⟨g,cap,cur,hv,hg,r⟩
 ·exact Or.inl h2
 ·exact Or.inr ⟨g,cap,cur,hv,Nat.le_trans hb hg,r⟩
def GetEnd (w:World) (F:Nat→Prop) (pb fb cb rb db:Nat) (s':PP) (err:Int) (l:List UInt8) (e:Ending) (w':World):Prop :=
 ∃ A c F' D' g',e = .returned (.tuple #[.slice A l.length c,.int .i64 err])∧PoolAt w' F' D' pb fb cb rb db g' s'∧Moves w F w' F'∧Own w' w.heap.size (.slice A l.length c) l∧Out w' F' A l∧l.length≤1024
section
variable {F D:Nat→Prop} {pb fb cb rb db:Nat} {g:Nat→Value} {s:PP}
theorem fetch_tells {t:PP} {o:Option Nat} {e n:Int} (hh:s.c.h<s.c.n) (hn:s.c.n=s.m) (h:s.fetch n=(o,e,t)) :
 t.m=s.m∧(∀ i,o=some i→i<s.m∧t.at_ i=n∧e=0)∧(o=none→e≠0):=by
 unfold PP.fetch at h
 cases hf:s.find n with
 | some i =>
   rw [hf] at h
   injection h with h2 h3
   injection h3 with h3 h4
   subst h2 h3 h4
   obtain ⟨f1,f2,_⟩:=PP.find_some hf
   exact ⟨rfl,fun j hj=>by
    obtain rfl:=Option.some.inj hj
    exact ⟨f1,f2,rfl⟩,fun e=>by cases e⟩
 | none =>
   rw [hf] at h
   by_cases hr:s.k.readE n=0
   ·simp only [if_pos hr] at h
    rcases hq:s.room with ⟨q,er,u⟩
    rw [hq] at h
    obtain ⟨t1,t2,t3,t4⟩:=room_tells hh hn hq
    cases q with
    | some i =>
      injection h with h2 h3
      injection h3 with h3 h4
      subst h2 h3 h4
      exact ⟨t1,fun j hj=>by
       obtain rfl:=Option.some.inj hj
       exact ⟨(t3 i rfl).1,if_pos rfl,rfl⟩,fun e=>by cases e⟩
    | none =>
      injection h with h2 h3
      injection h3 with h3 h4
      subst h2 h3 h4
      exact ⟨t1,fun j hj=>(by cases hj),fun _=>t4 rfl⟩
   ·simp only [if_neg hr] at h
    injection h with h2 h3
    injection h3 with h3 h4
    subst h2 h3 h4
    exact ⟨rfl,fun j hj=>(by cases hj),fun _=>hr⟩
theorem get_any (w:World) (n:Int) (h1 : -9223372036854775808≤n) (h2:n≤9223372036854775807) (h:PoolAt w F D pb fb cb rb db g s) :
 Calls Tryz.prog 84 #[.pointer (some ⟨pb,0,none⟩),.int .i64 n] w (GetEnd w F pb fb cb rb db (s.get n).2.2 (s.get n).1 (s.get n).2.1):=by
 have HF:=Lib.hid (fetch_any w n h1 h2 h)
 have hq0:∃ o er t,s.fetch n=(o,er,t):=⟨_,_,_,rfl⟩
 obtain ⟨o,er,t,hq⟩:=hq0
 obtain ⟨t1,t2,t3⟩:=fetch_tells h.core.clk.hn h.core.cm hq
 have HG:Hid (s.get n=PP.gotA (o,er,t)):=Lib.hid (by rw [PP.get_fetch,hq])
 rw [hq] at HF
 have HW:=Lib.hid h.core.lt
 clear h hq h1 h2
 go_enter Tryz.func84,Tryz.ntmps84
 go_wp2_with fail
 refine HF.out.mono ?_
 rintro e w1 ⟨rfl,F1,D1,g1,p1,m1⟩
 have P1:=Lib.hid p1
 have M1:=Lib.hid m1
 unfold PP.roomV
 cases o with
 | none =>
   have hb:(er != 0)=true:=by rw [bne_iff_ne];exact t3 rfl
   clear p1 m1 t1 t2 t3 HF
   go_wp2_with fail
   go_ret2
   rw [HG.out]
   exact ⟨none,0,F1,D1,g1,rfl,P1.out,M1.out,own_nil _ _,Or.inl rfl,Nat.zero_le _⟩
 | some i =>
   obtain ⟨i1,i2,rfl⟩:=t2 i rfl
   have hit:i<t.m:=by rw [t1];exact i1
   obtain ⟨o1,o2,o3⟩:=p1.own i hit
   have d0:=p1.s0 hit
   have c1:=p1.core.c1
   have hm:=p1.core.m1.2
   obtain ⟨A,c,hv,hc,hz⟩:=own_slice o1
   rw [hv] at d0 o1
   obtain ⟨M,hM⟩:∃ M,(t.b i).length=M:=⟨_,rfl⟩
   rw [hM] at d0 o2 hz o1
   have HT:=Lib.hid (told_any A M c _ (t.b i) w1 (own_bys o1) hM (by omega) hz)
   have HL:=Lib.hid (show (t.b i).length≤1024 by omega)
   have HG2:Hid (s.get n=(0,t.b i,t)):=HG.out
   clear p1 m1 t1 t2 t3 HF HG hv hM o1 o3 hz hc i2 i1
   go_wp2_with fail
   refine HT.out.mono ?_
   rintro e w2 ⟨v2,rfl,o2,b2⟩
   obtain ⟨A2,c2,rfl,_,_⟩:=own_slice o2
   have O2:=Lib.hid o2
   have B2:=Lib.hid b2
   clear o2 b2 HT d0 c1
   go_wp2_with fail
   go_ret2
   rw [HG2.out]
   refine ⟨A2,c2,F1,D1,g1,rfl,P1.out.below B2.out,M1.out.trans (Moves.of_below B2.out),?_,?_,HL.out⟩
   ·exact own_up2 O2.out M1.out.kept.size
   ·exact own_outD O2.out (fun q hq hF=>by
     have:=(O2.out.lt q hq).1
     have:=P1.out.core.lt q hF
     omega)
end
end Go.Proofs.YtccphijgcapeoaaGreat
/-
  A disk's size.
-/
namespace Go.Proofs.YtccphijgcapeoaaGreat
open Go.RowKit Go.Maps
section
variable {F:Nat→Prop} {db:Nat} {s:PS}
theorem size_any (w:World) (h:Dk w F db s):Calls Tryz.prog 44 #[.pointer (some ⟨db,0,none⟩)] w fun e w'=>e = .returned (.int .i64 s.size)∧w=w':=by
 obtain ⟨bl,bw,gL,gW,h⟩:=h
 have c0:=h.cell 0 (v := .int .i64 s.size) rfl
 clear h
 go_enter Tryz.func44,Tryz.ntmps44
 go_wp2_with fail
 go_ret
 exact ⟨rfl,rfl⟩
end
end Go.Proofs.YtccphijgcapeoaaGreat
/-
  What Pin, Unpin and Put come to.
-/
namespace Go.Proofs.YtccphijgcapeoaaGreat
open Go.RowKit
def PP.pinA:Option Nat×Int×PP→Int×PP
 | (some i,_,t)=>(0,{ t with c:=t.c.pinS i })
 | (none,e,t)=>(e,t)
section
variable {F D:Nat→Prop} {pb fb cb rb db:Nat} {g:Nat→Value} {s:PP}
def PP.putAt (t:PP) (i:Nat) (n:Int) (l:List UInt8):PP:=(t.lay i n l true).used i
theorem putAt_eq (t:PP) (i:Nat) (n:Int) (l:List UInt8):({ (t.lay i n l (t.d i)).used i with d:=fun j=>if j=i then true else ((t.lay i n l (t.d i)).used i).d j }:PP)=t.putAt i n l:=by
 have e:(fun j=>if j=i then true else (if j=i then t.d i else t.d j))=(fun j=>if j=i then true else t.d j):=by
  funext j
  by_cases e:j=i
  ·rw [if_pos e,if_pos e]
  ·rw [if_neg e,if_neg e,if_neg e]
 exact congrArg (fun d=>(⟨t.m,fun j=>if j=i then n else t.at_ j,fun j=>if j=i then l else t.b j,d,t.c.useS i,t.k⟩:PP)) e
theorem PoolAt.putEnd {w3:World} {t:PP} {i:Nat} {n:Int} {l:List UInt8} (hn:n ≠ -1) (h:PoolAt w3 F D pb fb cb rb db g ((t.lay i n l (t.d i)).used i)) :
 PoolAt (w3.setCell ⟨fb,i*4+3,none⟩ (.bool true)) F D pb fb cb rb db g (t.putAt i n l):=by
 have:=h.setD i true (fun _=>by
  show (if i=i then n else t.at_ i) ≠ -1
  rw [if_pos rfl]
  exact hn)
 rwa [putAt_eq] at this
theorem put_ok {s:PP} {n:Int} {l:List UInt8} (hb:s.k.bad n l=false):s.put n l=match s.find n with
 | some i=>(0,s.putAt i n l)
 | none=>match s.room with
   | (some i,_,t)=>(0,t.putAt i n l)
   | (none,e,t)=>(e,t):=by
 unfold PP.put
 rw [hb]
 rfl
theorem put_any (w:World) (n:Int) (h1 : -9223372036854775808≤n) (h2:n≤9223372036854775807) (A:Option Addr) (m c:Nat) (l:List UInt8) (hl:l.length=m) (hx:Out w F A l) (hz:A=none→m=0∧c=0) (h:PoolAt w F D pb fb cb rb db g s) :
 Calls Tryz.prog 180 #[.pointer (some ⟨pb,0,none⟩),.int .i64 n,.slice A m c] w (PEnd w F pb fb cb rb db (s.put n l).2 (.int .i64 (s.put n l).1)):=by
 have H:=Lib.hid h
 have HM:=Lib.hid (made_yes w pb db h.core.c0)
 have HF:=Lib.hid (pfind_any w n h)
 have HS:=Lib.hid (size_any w h.core.dk)
 have c0:=h.core.c0
 have c1:=h.core.c1
 have h4:=h.core.dk.s4
 have HX:=Lib.hid hx
 have HZ:=Lib.hid hz
 have HL:=Lib.hid hl
 clear h hx hz
 by_cases hb:s.k.bad n l=true
 ·have HE:Hid (s.put n l=(41,s)):=Lib.hid (by unfold PP.put;rw [if_pos hb])
  have hb':n<0∨(s.k.size:Int)≤n∨(1024:Nat)<m:=by
   unfold PS.bad PS.has at hb
   simp at hb
   omega
  clear hb hl
  by_cases hn:n<0
  ·clear hb'
   go_enter Tryz.func180,Tryz.ntmps180
   go_wp2_with fail
   refine HM.out.mono ?_
   rintro e w' ⟨rfl,rfl⟩
   clear HM
   go_wp2_with (refine HS.out.mono ?_;rintro e w' ⟨rfl,rfl⟩)
   go_ret
   rw [HE.out]
   exact ⟨rfl,F,D,g,H.out,Moves.refl _ _⟩
  ·by_cases hn2:n<(s.k.size:Int)
   ·have hm:1024<m:=by omega
    have hn3:0≤n:=by omega
    clear hb' hn
    go_enter Tryz.func180,Tryz.ntmps180
    go_wp2_with fail
    refine HM.out.mono ?_
    rintro e w' ⟨rfl,rfl⟩
    clear HM
    go_wp2_with (refine HS.out.mono ?_;rintro e w' ⟨rfl,rfl⟩)
    go_ret
    rw [HE.out]
    exact ⟨rfl,F,D,g,H.out,Moves.refl _ _⟩
   ·have hn3:0≤n:=by omega
    have hn4:(s.k.size:Int)≤n:=by omega
    clear hb' hn hn2
    go_enter Tryz.func180,Tryz.ntmps180
    go_wp2_with fail
    refine HM.out.mono ?_
    rintro e w' ⟨rfl,rfl⟩
    clear HM
    go_wp2_with (refine HS.out.mono ?_;rintro e w' ⟨rfl,rfl⟩)
    go_ret
    rw [HE.out]
    exact ⟨rfl,F,D,g,H.out,Moves.refl _ _⟩
 ·have hb0:s.k.bad n l=false:=by simpa using hb
  have hh:s.k.has n=true∧m≤1024:=by
   unfold PS.bad at hb0
   simp at hb0
   exact ⟨hb0.1,by omega⟩
  have hr:=(s.k.has_at n).1 hh.1
  have HE:=Lib.hid (put_ok hb0)
  have HH:=Lib.hid hh.1
  have hm:=hh.2
  have hr1:=hr.1
  have hr2:=hr.2
  clear hb hb0 hh hl hr
  go_enter Tryz.func180,Tryz.ntmps180
  go_wp2_with fail
  refine HM.out.mono ?_
  rintro e w' ⟨rfl,rfl⟩
  clear HM
  go_wp2_with (refine HS.out.mono ?_;rintro e w' ⟨rfl,rfl⟩)
  refine HF.out.mono ?_
  rintro e w' ⟨rfl,rfl⟩
  unfold findA
  clear HF HS
  cases hf:s.find n with
  | some i =>
    rw [hf] at HE
    obtain ⟨f1,f2,_⟩:=PP.find_some hf
    have HO:=Lib.hid (hold_any w i f1 n HH.out A m c l HL.out hm HX.out HZ.out H.out)
    have HI:=Lib.hid f1
    clear hf f1 f2 c0 c1
    go_wp2_with fail
    refine HO.out.mono ?_
    rintro e w1 ⟨rfl,F1,D1,g1,p1,m1⟩
    have P1:=Lib.hid (p1.putEnd (w3:=w1) (by omega))
    have M1:=Lib.hid (m1.trans (Moves.setCell w1 (a:=⟨fb,i*4+3,none⟩) p1.core.ff (.bool true)))
    have c1:=p1.core.c1
    have d3:=p1.s3 (i:=i) HI.out
    have f3:=p1.sf (i*4+3)
    have hi:i<s.m:=HI.out
    have hm2:s.m≤1000:=H.out.core.m1.2
    have c1':w1.cell? ⟨pb,1,none⟩=some (.slice (some ⟨fb,0,none⟩) s.m s.m):=c1
    clear p1 m1 HO c1
    go_wp2_with fail
    go_ret
    rw [HE.out]
    exact ⟨rfl,F1,D1,g1,P1.out,M1.out⟩
  | none =>
    rw [hf] at HE
    have HR:=Lib.hid (room_any w H.out)
    obtain ⟨o,er,t,hq⟩:∃ o er t,s.room=(o,er,t):=⟨_,_,_,rfl⟩
    obtain ⟨t1,t2,t3,t4⟩:=room_tells H.out.core.clk.hn H.out.core.cm hq
    rw [hq] at HR HE
    clear hf hq c0 c1
    go_wp2_with fail
    refine HR.out.mono ?_
    rintro e w1 ⟨rfl,F1,D1,g1,p1,m1⟩
    have HX1:=Lib.hid (m1.out HX.out)
    have M1:=Lib.hid m1
    unfold PP.roomV
    cases o with
    | none =>
      have HE2:Hid (s.put n l=(er,t)):=HE.out
      have P1:=Lib.hid p1
      have hb:(er != 0)=true:=by rw [bne_iff_ne];exact t4 rfl
      clear p1 m1 t1 t2 t3 t4 HR HE
      go_wp2_with fail
      go_ret
      rw [HE2.out]
      exact ⟨rfl,F1,D1,g1,P1.out,M1.out⟩
    | some i =>
      have HE2:Hid (s.put n l=(0,t.putAt i n l)):=HE.out
      obtain ⟨i1,i2,rfl⟩:=t3 i rfl
      have hit:i<t.m:=by rw [t1];exact i1
      have hkn:t.k.has n=true:=by
       rw [t.k.has_at,t2,← s.k.has_at]
       exact HH.out
      have HO:=Lib.hid (hold_any w1 i hit n hkn A m c l HL.out hm HX1.out HZ.out p1)
      have HI:=Lib.hid hit
      have HM2:=Lib.hid p1.core.m1.2
      clear p1 m1 t1 t2 t3 t4 HR HE i1 i2 hit hkn
      go_wp2_with fail
      refine HO.out.mono ?_
      rintro e w2 ⟨rfl,F2,D2,g2,p2,m2⟩
      have P2:=Lib.hid (p2.putEnd (w3:=w2) (by omega))
      have M2:=Lib.hid (M1.out.trans (m2.trans (Moves.setCell w2 (a:=⟨fb,i*4+3,none⟩) p2.core.ff (.bool true))))
      have c1:w2.cell? ⟨pb,1,none⟩=some (.slice (some ⟨fb,0,none⟩) t.m t.m):=p2.core.c1
      have d3:=p2.s3 (i:=i) HI.out
      have f3:=p2.sf (i*4+3)
      have hi:i<t.m:=HI.out
      have hm2:t.m≤1000:=HM2.out
      clear p2 m2 HO
      go_wp2_with fail
      go_ret
      rw [HE2.out]
      exact ⟨rfl,F2,D2,g2,P2.out,M2.out⟩
end
end Go.Proofs.YtccphijgcapeoaaGreat
/-
  What is got of a plain pool is what was put last. Nothing here names the program.
-/
namespace Go.Proofs.YtccphijgcapeoaaGreat.PP
structure Holds (s:PP) (f:Int→List UInt8):Prop where
 well:s.k.Well
 cn:s.c.n=s.m
 ch:s.c.h<s.c.n
 rng:∀ i,i<s.m→s.at_ i = -1∨s.k.has (s.at_ i)=true
 inj:∀ i j,i<s.m→j<s.m→s.at_ i=s.at_ j→s.at_ i ≠ -1→i=j
 hand:∀ i,i<s.m→s.at_ i ≠ -1→s.b i=f (s.at_ i)
 clean:∀ i,i<s.m→s.at_ i ≠ -1→s.d i=false→s.k.held (s.at_ i)=f (s.at_ i)
 out:∀ n,s.k.has n=true→(∀ i,i<s.m→s.at_ i≠n)→s.k.held n=f n
 len:∀ n,(f n).length≤1024
theorem has_ne {k:PS} {n:Int} (h:k.has n=true):n ≠ -1:=by
 have:=(k.has_at n).1 h
 omega
theorem Holds.new {k:PS} (hk:k.Well) (ho:k.Ok) {m:Nat} (hm:1≤m):Holds (PP.new k m) k.held :=
 ⟨hk,rfl,by show 0<m;omega,fun _ _=>Or.inl rfl,fun i j _ _ _ h=>absurd rfl h,fun i _ h=>absurd rfl h,fun i _ h=>absurd rfl h,fun _ _ _=>rfl,fun n=>by
  unfold PS.held
  cases hw:k.W n with
  | none=>exact ho.ll n
  | some l=>exact ho.wl n l hw⟩
theorem Holds.clock {s:PP} {f:Int→List UInt8} (h:Holds s f) {c:CS} (hn:c.n=s.m) (hh:c.h<c.n):Holds { s with c:=c } f :=
 {h with
  cn:=hn
  ch:=hh }
theorem useS_h (c:CS) (i:Int):(c.useS i).h=c.h:=by unfold CS.useS;split<;>rfl
theorem useS_p (c:CS) (i:Int):(c.useS i).p=c.p:=by unfold CS.useS;split<;>rfl
theorem Holds.used {s:PP} {f:Int→List UInt8} (h:Holds s f) (i:Nat):Holds (s.used i) f :=
 h.clock ((CS.useS_n _ _).trans h.cn) (by rw [useS_h,CS.useS_n];exact h.ch)
theorem Holds.void {s:PP} {f:Int→List UInt8} (h:Holds s f) {i:Nat} (hc:s.at_ i ≠ -1→s.k.held (s.at_ i)=f (s.at_ i)):Holds (s.lay i (-1) [] false) f:=by
 have ea:∀ j,(s.lay i (-1) [] false).at_ j=if j=i then -1 else s.at_ j:=fun _=>rfl
 have eb:∀ j,(s.lay i (-1) [] false).b j=if j=i then [] else s.b j:=fun _=>rfl
 have ed:∀ j,(s.lay i (-1) [] false).d j=if j=i then false else s.d j:=fun _=>rfl
 refine ⟨h.well,h.cn,h.ch,fun j hj=>?_,fun j l hj hl e hne=>?_,fun j hj hne=>?_,fun j hj hne hd=>?_,fun n hn ho=>?_,h.len⟩
 ·rw [ea]
  split
  ·exact Or.inl rfl
  ·exact h.rng j hj
 ·rw [ea] at hne
  rw [ea,ea] at e
  by_cases e1:j=i
  ·rw [if_pos e1] at hne
   exact absurd rfl hne
  ·rw [if_neg e1] at hne e
   by_cases e2:l=i
   ·rw [if_pos e2] at e
    exact absurd e hne
   ·rw [if_neg e2] at e
    exact h.inj j l hj hl e hne
 ·rw [ea] at hne ⊢
  rw [eb]
  by_cases e1:j=i
  ·rw [if_pos e1] at hne
   exact absurd rfl hne
  ·rw [if_neg e1] at hne
   rw [if_neg e1,if_neg e1]
   exact h.hand j hj hne
 ·rw [ea] at hne ⊢
  rw [ed] at hd
  by_cases e1:j=i
  ·rw [if_pos e1] at hne
   exact absurd rfl hne
  ·rw [if_neg e1] at hne hd
   rw [if_neg e1]
   exact h.clean j hj hne hd
 ·by_cases e:s.at_ i=n
  ·have hne:s.at_ i ≠ -1:=by rw [e];exact has_ne hn
   have:=hc hne
   rw [e] at this
   exact this
  ·refine h.out n hn (fun j hj=>?_)
   by_cases e1:j=i
   ·rw [e1]
    exact e
   ·have:=ho j hj
    rw [ea,if_neg e1] at this
    exact this
theorem Holds.wrote {s:PP} {f:Int→List UInt8} (h:Holds s f) {i:Nat} (hi:i<s.m) (hne:s.at_ i ≠ -1):s.k.writeE (s.at_ i) (s.b i)=0∧Holds (s.wrote i) f∧(s.wrote i).k=s.k.lay (s.at_ i) (s.b i)∧(s.wrote i).k.held (s.at_ i)=f (s.at_ i):=by
 have hh:s.k.has (s.at_ i)=true:=(h.rng i hi).resolve_left hne
 have hb:=h.hand i hi hne
 obtain ⟨w1,w2⟩:=h.well.write hh (l:=s.b i) (by rw [hb];exact h.len _)
 have ek:(s.wrote i).k=s.k.lay (s.at_ i) (s.b i):=w2
 have hl:∀ n,(s.wrote i).k.held n=if n=s.at_ i then f (s.at_ i) else s.k.held n:=fun n=>by rw [ek,PS.lay_held,hb]
 refine ⟨w1,⟨by rw [ek];exact h.well.lay _ _,h.cn,h.ch,fun j hj=>?_,h.inj,h.hand,fun j hj hn hd=>?_,fun n hn ho=>?_,h.len⟩,ek,by rw [hl,if_pos rfl]⟩
 ·rw [ek]
  exact h.rng j hj
 ·show (s.wrote i).k.held (s.at_ j)=_
  show _=f (s.at_ j)
  rw [hl]
  split
  ·rename_i e
   rw [e]
  ·exact h.clean j hj hn hd
 ·rw [ek] at hn
  rw [hl]
  split
  ·rename_i e
   rw [e]
  ·exact h.out n hn ho
theorem Holds.fill {s:PP} {f:Int→List UInt8} (h:Holds s f) {i:Nat} (he:s.at_ i = -1) {n:Int} (hn:s.k.has n=true) (hno:∀ j,j<s.m→s.at_ j≠n):Holds (s.lay i n (f n) false) f:=by
 have ea:∀ j,(s.lay i n (f n) false).at_ j=if j=i then n else s.at_ j:=fun _=>rfl
 have eb:∀ j,(s.lay i n (f n) false).b j=if j=i then f n else s.b j:=fun _=>rfl
 have ed:∀ j,(s.lay i n (f n) false).d j=if j=i then false else s.d j:=fun _=>rfl
 refine ⟨h.well,h.cn,h.ch,fun j hj=>?_,fun j l hj hl e hne=>?_,fun j hj hne=>?_,fun j hj hne hd=>?_,fun q hq ho=>?_,h.len⟩
 ·rw [ea]
  split
  ·exact Or.inr hn
  ·exact h.rng j hj
 ·rw [ea] at hne
  rw [ea,ea] at e
  by_cases e1:j=i
  ·by_cases e2:l=i
   ·rw [e1,e2]
   ·rw [if_pos e1,if_neg e2] at e
    exact absurd e.symm (hno l hl)
  ·rw [if_neg e1] at hne e
   by_cases e2:l=i
   ·rw [if_pos e2] at e
    exact absurd e (hno j hj)
   ·rw [if_neg e2] at e
    exact h.inj j l hj hl e hne
 ·rw [ea] at hne ⊢
  rw [eb]
  by_cases e1:j=i
  ·rw [if_pos e1,if_pos e1]
  ·rw [if_neg e1] at hne
   rw [if_neg e1,if_neg e1]
   exact h.hand j hj hne
 ·rw [ea] at hne ⊢
  rw [ed] at hd
  by_cases e1:j=i
  ·rw [if_pos e1]
   exact h.out n hn hno
  ·rw [if_neg e1] at hne hd
   rw [if_neg e1]
   exact h.clean j hj hne hd
 ·refine h.out q hq (fun j hj=>?_)
  by_cases e1:j=i
  ·rw [e1,he]
   exact (has_ne hq).symm
  ·have:=ho j hj
   rw [ea,if_neg e1] at this
   exact this
def upd (f:Int→List UInt8) (n:Int) (l:List UInt8):Int→List UInt8:=fun j=>if j=n then l else f j
theorem Holds.putAt {s:PP} {f:Int→List UInt8} (h:Holds s f) {i:Nat} (hi:i<s.m) {n:Int} (hn:s.k.has n=true) (he:s.at_ i=n∨(s.at_ i = -1∧∀ j,j<s.m→s.at_ j≠n)) {l:List UInt8} (hl:l.length≤1024):Holds (s.lay i n l true) (upd f n l):=by
 have ea:∀ j,(s.lay i n l true).at_ j=if j=i then n else s.at_ j:=fun _=>rfl
 have eb:∀ j,(s.lay i n l true).b j=if j=i then l else s.b j:=fun _=>rfl
 have ed:∀ j,(s.lay i n l true).d j=if j=i then true else s.d j:=fun _=>rfl
 have hno:∀ j,j<s.m→j≠i→s.at_ j≠n:=by
  intro j hj hji e
  rcases he with he | ⟨_,he⟩
  ·exact hji (h.inj j i hj hi (e.trans he.symm) (by rw [e];exact has_ne hn))
  ·exact he j hj e
 have hu:∀ q,q≠n→upd f n l q=f q:=fun q hq=>by unfold upd;rw [if_neg hq]
 refine ⟨h.well,h.cn,h.ch,fun j hj=>?_,fun j q hj hq e hne=>?_,fun j hj hne=>?_,fun j hj hne hd=>?_,fun q hq ho=>?_,fun q=>?_⟩
 ·rw [ea]
  split
  ·exact Or.inr hn
  ·exact h.rng j hj
 ·rw [ea] at hne
  rw [ea,ea] at e
  by_cases e1:j=i
  ·by_cases e2:q=i
   ·rw [e1,e2]
   ·rw [if_pos e1,if_neg e2] at e
    exact absurd e.symm (hno q hq e2)
  ·rw [if_neg e1] at hne e
   by_cases e2:q=i
   ·rw [if_pos e2] at e
    exact absurd e (hno j hj e1)
   ·rw [if_neg e2] at e
    exact h.inj j q hj hq e hne
 ·rw [ea] at hne ⊢
  rw [eb]
  by_cases e1:j=i
  ·rw [if_pos e1,if_pos e1]
   unfold upd
   rw [if_pos rfl]
  ·rw [if_neg e1] at hne
   rw [if_neg e1,if_neg e1,hu _ (hno j hj e1)]
   exact h.hand j hj hne
 ·rw [ea] at hne ⊢
  rw [ed] at hd
  by_cases e1:j=i
  ·rw [if_pos e1] at hd
   cases hd
  ·rw [if_neg e1] at hne hd
   rw [if_neg e1,hu _ (hno j hj e1)]
   exact h.clean j hj hne hd
 ·have hqn:q≠n:=by
   have:=ho i hi
   rw [ea,if_pos rfl] at this
   exact this.symm
  rw [hu q hqn]
  refine h.out q hq (fun j hj=>?_)
  by_cases e1:j=i
  ·rw [e1]
   rcases he with he | ⟨he,_⟩
   ·rw [he]
    exact hqn.symm
   ·rw [he]
    exact (has_ne hq).symm
  ·have:=ho j hj
   rw [ea,if_neg e1] at this
   exact this
 ·unfold upd
  split
  ·exact hl
  ·exact h.len q
structure Roomed (s:PP) (f:Int→List UInt8) (i:Nat) (t:PP):Prop where
 eq:s.room=(some i,0,t)
 lt:i<s.m
 void:t.at_ i = -1
 m_:t.m=s.m
 holds:Holds t f
 size:t.k.size=s.k.size
 held:∀ n,s.k.has n=true→(∀ j,j<s.m→s.at_ j≠n)→(∀ j,j<t.m→t.at_ j≠n)
 p_:t.c.p=s.c.p
 go_:(s.gap=some i∧t=s)∨s.c.p i=0
 at_:∀ j,j≠i→t.at_ j=s.at_ j
theorem Holds.room {s:PP} {f:Int→List UInt8} (h:Holds s f) (hf:s.gap=none→s.c.free=true):∃ i t,Roomed s f i t:=by
 cases hg:s.gap with
 | some i =>
   obtain ⟨h1,h2⟩:=gap_some hg
   refine ⟨i,s,?_,h1,h2,rfl,h,rfl,fun _ _ ho=>ho,rfl,Or.inl ⟨hg,rfl⟩,fun _ _=>rfl⟩
   unfold PP.room
   rw [hg]
 | none =>
   have hfr:=hf hg
   obtain ⟨r,hw,_,g⟩:=CS.way_of h.ch hfr
   obtain ⟨v1,v2,v3⟩:=CS.vic_of hw
   have hi:r.1<s.m:=by
    have:=g.lt
    rw [h.cn] at this
    exact this
   have hne:=gap_none hg r.1 hi
   have e1:s.c.vicI.toNat=r.1:=by rw [v1];rfl
   have hc:Holds { s with c:=s.c.vicS } f:=h.clock ((CS.vicS_n h.ch).trans h.cn) (by
    rw [v3,g.h_,g.n_]
    exact Nat.mod_lt _ (by have:=h.ch;omega))
   have hp:s.c.vicS.p=s.c.p:=by rw [v3];exact g.p_
   cases hd:s.d r.1 with
   | true =>
     obtain ⟨w1,w2,w3,w4⟩:=hc.wrote hi hne
     have hv:=w2.void (fun _=>w4)
     refine ⟨r.1,(PP.wrote { s with c:=s.c.vicS } r.1).lay r.1 (-1) [] false,?_,hi,?_,rfl,hv,?_,fun n hn ho j hj=>?_,hp,Or.inr g.p0,fun j hj=>?_⟩
     ·unfold PP.room
      rw [hg]
      simp only [hfr,if_true,e1,hd]
      rw [if_pos w1]
      rfl
     ·show (if r.1=r.1 then (-1:Int) else _) = -1
      rw [if_pos rfl]
     ·show (PP.wrote { s with c:=s.c.vicS } r.1).k.size=_
      rw [w3]
      rfl
     ·show (if j=r.1 then (-1:Int) else s.at_ j)≠n
      split
      ·exact (has_ne hn).symm
      ·exact ho j hj
     ·show (if j=r.1 then (-1:Int) else s.at_ j)=_
      rw [if_neg hj]
   | false =>
     have hv:=hc.void (fun _=>h.clean r.1 hi hne hd)
     refine ⟨r.1,PP.lay { s with c:=s.c.vicS } r.1 (-1) [] false,?_,hi,?_,rfl,hv,rfl,fun n hn ho j hj=>?_,hp,Or.inr g.p0,fun j hj=>?_⟩
     ·unfold PP.room
      rw [hg]
      simp only [hfr,if_true,e1,hd]
      rfl
     ·show (if r.1=r.1 then (-1:Int) else _) = -1
      rw [if_pos rfl]
     ·show (if j=r.1 then (-1:Int) else s.at_ j)≠n
      split
      ·exact (has_ne hn).symm
      ·exact ho j hj
     ·show (if j=r.1 then (-1:Int) else s.at_ j)=_
      rw [if_neg hj]
structure Got (s:PP) (f:Int→List UInt8) (n:Int) (i:Nat) (t:PP):Prop where
 eq:s.get n=(0,f n,t)
 holds:Holds t f
 m_:t.m=s.m
 size:t.k.size=s.k.size
 p_:t.c.p=s.c.p
 lt:i<s.m
 here:t.at_ i=n
 at_:∀ j,j≠i→t.at_ j=s.at_ j
 from_:(s.at_ i=n∧s.find n=some i)∨(s.find n=none∧(s.gap=some i∨s.c.p i=0))
theorem Holds.get {s:PP} {f:Int→List UInt8} (h:Holds s f) {n:Int} (hn:s.k.has n=true) (hf:s.find n=none→s.gap=none→s.c.free=true):∃ i t,Got s f n i t:=by
 cases hs:s.find n with
 | some i =>
   obtain ⟨h1,h2,h3⟩:=find_some hs
   refine ⟨i,s.used i,?_,h.used i,rfl,rfl,useS_p _ _,h1,h2,fun _ _=>rfl,Or.inl ⟨h2,hs⟩⟩
   unfold PP.get
   rw [hs]
   show (0,s.b i,s.used i)=_
   rw [h.hand i h1 (by rw [h2];exact has_ne hn),h2]
 | none =>
   have h0:=(s.k.has_at n).1 hn
   have hno:=find_none hs h0.1
   obtain ⟨r1,r2⟩:=h.well.read hn
   obtain ⟨i,t,r⟩:=h.room (hf hs)
   have ho:=h.out n hn hno
   have hk:t.k.has n=true:=by
    rw [t.k.has_at,r.size]
    exact h0
   have hl:=r.holds.fill (n:=n) r.void hk (r.held n hn hno)
   refine ⟨i,(t.lay i n (f n) false).used i,?_,hl.used i,r.m_,r.size,(useS_p _ _).trans r.p_,r.lt,?_,fun j hj=>?_,Or.inr ⟨hs,?_⟩⟩
   ·unfold PP.get
    rw [hs,r.eq]
    simp only [r1,if_true,r2,ho]
   ·show (if i=i then n else _)=n
    rw [if_pos rfl]
   ·show (if j=i then n else t.at_ j)=_
    rw [if_neg hj,r.at_ j hj]
   ·rcases r.go_ with g | g
    ·exact Or.inl g.1
    ·exact Or.inr g
theorem Holds.put {s:PP} {f:Int→List UInt8} (h:Holds s f) {n:Int} (hn:s.k.has n=true) {l:List UInt8} (hl:l.length≤1024) (hf:s.find n=none→s.gap=none→s.c.free=true) :
 ∃ t,s.put n l=(0,t)∧Holds t (upd f n l)∧t.m=s.m∧t.k.size=s.k.size∧t.c.p=s.c.p:=by
 have hb:s.k.bad n l=false:=by
  unfold PS.bad
  rw [hn]
  simp
  omega
 cases hs:s.find n with
 | some i =>
   obtain ⟨h1,h2,h3⟩:=find_some hs
   refine ⟨(s.lay i n l true).used i,?_,(h.putAt h1 hn (Or.inl h2) hl).used i,rfl,rfl,useS_p _ _⟩
   unfold PP.put
   rw [hs,hb]
   rfl
 | none =>
   have h0:=(s.k.has_at n).1 hn
   have hno:=find_none hs h0.1
   obtain ⟨i,t,r⟩:=h.room (hf hs)
   have hk:t.k.has n=true:=by
    rw [t.k.has_at,r.size]
    exact h0
   refine ⟨(t.lay i n l true).used i,?_,(r.holds.putAt (by rw [r.m_];exact r.lt) hk (Or.inr ⟨r.void,r.held n hn hno⟩) hl).used i,r.m_,r.size,(useS_p _ _).trans r.p_⟩
   unfold PP.put
   rw [hs,hb,r.eq]
   rfl
theorem Holds.washed {s:PP} {f:Int→List UInt8} (h:Holds s f) {i:Nat} (hi:i<s.m) (hne:s.at_ i ≠ -1):Holds (s.washed i) f∧(s.washed i).k.size=s.k.size:=by
 obtain ⟨w1,w2,w3,w4⟩:=h.wrote hi hne
 refine ⟨⟨w2.well,w2.cn,w2.ch,w2.rng,w2.inj,w2.hand,fun j hj hn hd=>?_,w2.out,w2.len⟩,?_⟩
 ·have hd':(if j=i then false else s.d j)=false:=hd
  by_cases e:j=i
  ·rw [e]
   exact w4
  ·rw [if_neg e] at hd'
   exact w2.clean j hj hn hd'
 ·show (s.wrote i).k.size=_
  rw [w3]
  rfl
theorem Holds.loose {s:PP} {f:Int→List UInt8} (h:Holds s f) (hp:∀ j,s.c.p j=0):s.c.free=true:=by
 rw [CS.free_iff]
 exact ⟨s.c.h,h.ch,hp _⟩
end Go.Proofs.YtccphijgcapeoaaGreat.PP
/-
  Which sectors of a plain pool are pinned. Nothing here names the program.
-/
namespace Go.Proofs.YtccphijgcapeoaaGreat.PP
end Go.Proofs.YtccphijgcapeoaaGreat.PP
/-
  Lists of ints, of freed pages and of lists in memory; pages' lists as a value.
-/
namespace Go.Proofs.YtccphijgcapeoaaGreat
open Go.RowKit
structure Ln (w:World) (sz:Nat) (A:Option Addr) (n c:Nat) (cs:List Value):Prop where
 len:cs.length=n*sz
 le:n≤c
 lies:Lies w A n c cs
def prVals:List (Int×Int)→List Value
 | []=>[]
 | p::ps => .int .i64 p.1 :: .int .i64 p.2::prVals ps
theorem prVals_length:∀ ps,(prVals ps).length=ps.length*2
 | []=>rfl
 | p::ps=>by simp only [prVals,List.length_cons,prVals_length ps];omega
theorem prVals_append:∀ ps qs,prVals (ps++qs)=prVals ps++prVals qs
 | [],_=>rfl
 | p::ps,qs=>by simp only [List.cons_append,prVals,prVals_append ps qs]
theorem prVals_at:∀ (ps:List (Int×Int)) (i:Nat) (p:Int×Int),ps[i]?=some p→(prVals ps)[i*2]?=some (.int .i64 p.1)∧(prVals ps)[i*2+1]?=some (.int .i64 p.2)
 | [],i,p,h=>by simp at h
 | x::ps,0,p,h=>by
   obtain rfl:x=p:=by simpa using h
   exact ⟨rfl,rfl⟩
 | x::ps,i+1,p,h=>by
   have:=prVals_at ps i p (by simpa using h)
   have e:(i+1)*2=i*2+1+1:=by omega
   rw [e]
   simpa [prVals] using this
theorem prVals_one (ps:List (Int×Int)):∀ u∈prVals ps,u.oneCell'=true:=by
 induction ps with
 | nil=>intro u hu;simp [prVals] at hu
 | cons p ps ih =>
   intro u hu
   unfold prVals at hu
   rcases List.mem_cons.1 hu with rfl | hu
   ·rfl
   ·rcases List.mem_cons.1 hu with rfl | hu
    ·rfl
    ·exact ih u hu
theorem intVals_one (zs:List Int):∀ u∈intVals zs,u.oneCell'=true:=by
 intro u hu
 obtain ⟨b,_,rfl⟩:=List.mem_map.1 hu
 rfl
theorem intVals_length (zs:List Int):(intVals zs).length=zs.length:=List.length_map _
theorem sIntVals_append (a b:List Int):intVals (a++b)=intVals a++intVals b:=List.map_append
section
variable {w w':World} {sz:Nat} {A:Option Addr} {n c:Nat} {cs:List Value}
theorem Ln.kept (h:Ln w sz A n c cs) (hb:Below w.heap.size w w'):Ln w' sz A n c cs:=⟨h.len,h.le,h.lies.kept hb⟩
theorem Ln.none_ (w:World) (sz:Nat):Ln w sz none 0 0 []:=⟨by simp,Nat.le_refl _,fun _=>⟨rfl,rfl⟩,fun ad e=>(by cases e)⟩
theorem Ln.empty (w:World) (sz:Nat) (ad:Addr) (c:Nat):Ln w sz (some ad) 0 c []:=⟨by simp,Nat.zero_le _,fun e=>(by cases e),fun ad _ j u hu=>by simp at hu⟩
theorem Ln.of_own {base:Nat} {e:TypeId} {v:Value} (h:w.ownsRow base e sz v n cs):∃ A c,v = .slice A n c∧c≤maxLen∧Ln w sz A n c cs:=by
 have h1:=h.1
 rcases h.2 with ⟨rfl,h0⟩ | ⟨g,cap,cur,rfl,hb,hh,hnc,hm,_⟩
 ·subst h0
  obtain rfl:cs=[]:=List.eq_nil_of_length_eq_zero (by omega)
  exact ⟨none,0,rfl,Nat.zero_le _,Ln.none_ w sz⟩
 ·refine ⟨_,_,rfl,hm,h1,hnc,fun e=>(by cases e),fun ad e j u hu=>?_⟩
  obtain rfl:=Option.some.inj e
  exact h.cells (g:=g) rfl j u hu
theorem Ln.spot (h:Ln w sz A n c cs) (hn:0<cs.length):∃ b off,A=some ⟨b,off,none⟩∧b<w.heap.size:=by
 rcases A with _ | ⟨b,off,sp⟩
 ·obtain ⟨rfl,rfl⟩:=h.lies.1 rfl
  have:=h.len
  omega
 ·have h0:=h.lies.2 _ rfl 0 cs[0] (by simp [hn])
  have hs:sp=none:=by simpa [Addr.add] using World.cell?_spot h0
  subst hs
  rw [addr_add] at h0
  exact ⟨b,off,rfl,World.block_lt_of_cell? _ _ h0⟩
theorem Ln.cell {b off:Nat} (h:Ln w sz (some ⟨b,off,none⟩) n c cs) {j:Nat} {u:Value} (hu:cs[j]?=some u):w.cell? ⟨b,off+j,none⟩=some u:=by
 have:=h.lies.2 _ rfl j u hu
 rw [addr_add] at this
 exact this
theorem Ln.ints {zs:List Int} (h:Ln w 1 A n c (intVals zs)):Ints w A zs:=by
 rcases zs with _ | ⟨z,zs⟩
 ·exact Or.inl rfl
 ·obtain ⟨b,off,rfl,_⟩:=h.spot (by simp [intVals])
  exact Or.inr ⟨b,off,rfl,fun i z hz=>h.cell (by rw [intVals,List.getElem?_map,hz];rfl)⟩
theorem Ln.intN {zs:List Int} (h:Ln w 1 A n c (intVals zs)):zs.length=n:=by
 have:=h.len
 rw [intVals_length] at this
 omega
theorem Ln.prN {ps:List (Int×Int)} (h:Ln w 2 A n c (prVals ps)):ps.length=n:=by
 have:=h.len
 rw [prVals_length] at this
 omega
theorem Ln.intAt {zs:List Int} (h:Ln w 1 A n c (intVals zs)) {k:Nat} (hk:k<n) :
 ∃ b off z,A=some ⟨b,off,none⟩∧zs[k]?=some z∧w.cell? ⟨b,off+k,none⟩=some (.int .i64 z):=h.ints.at_ (by rw [h.intN];exact hk)
theorem Ln.prAt {ps:List (Int×Int)} (h:Ln w 2 A n c (prVals ps)) {k:Nat} (hk:k<n) :
 ∃ b off x y,A=some ⟨b,off,none⟩∧ps[k]?=some (x,y)∧w.cell? ⟨b,off+k*2,none⟩=some (.int .i64 x)∧w.cell? ⟨b,off+k*2+1,none⟩=some (.int .i64 y):=by
 have hl:=h.prN
 obtain ⟨b,off,rfl,_⟩:=h.spot (by rw [prVals_length];omega)
 have hp:ps[k]?=some ps[k]:=List.getElem?_eq_getElem (by omega)
 obtain ⟨h1,h2⟩:=prVals_at ps k _ hp
 exact ⟨b,off,(ps[k]).1,(ps[k]).2,rfl,hp,h.cell h1,h.cell h2⟩
theorem Ln.take (h:Ln w sz A n c cs) {k:Nat} (hk:k≤n):Ln w sz A k c (cs.take (k*sz)):=by
 have hle:=h.le
 have hm:k*sz≤n*sz:=Nat.mul_le_mul_right _ hk
 refine ⟨by rw [List.length_take,h.len];omega,by omega,fun e=>?_,fun ad e j u hu=>h.lies.2 ad e j u ?_⟩
 ·obtain ⟨h1,h2⟩:=h.lies.1 e
  omega
 ·rw [List.getElem?_take] at hu
  split at hu
  ·exact hu
  ·cases hu
theorem Ln.drop {b off:Nat} (h:Ln w sz (some ⟨b,off,none⟩) n c cs) {k:Nat} (hk:k≤n):Ln w sz (some ⟨b,off+k*sz,none⟩) (n - k) (c - k) (cs.drop (k*sz)):=by
 have hle:=h.le
 refine ⟨by rw [List.length_drop,h.len,Nat.sub_mul],by omega,fun e=>(by cases e),fun ad e j u hu=>?_⟩
 obtain rfl:=Option.some.inj e
 rw [List.getElem?_drop] at hu
 rw [addr_add,show off+k*sz+j=off+(k*sz+j) by omega]
 exact h.cell hu
theorem Ln.intTake {zs:List Int} (h:Ln w 1 A n c (intVals zs)) {k:Nat} (hk:k≤n):Ln w 1 A k c (intVals (zs.take k)):=by
 have:=h.take hk
 rw [Nat.mul_one,intVals,← List.map_take] at this
 exact this
theorem Ln.intDrop {b off:Nat} {zs:List Int} (h:Ln w 1 (some ⟨b,off,none⟩) n c (intVals zs)) {k:Nat} (hk:k≤n):Ln w 1 (some ⟨b,off+k,none⟩) (n - k) (c - k) (intVals (zs.drop k)):=by
 have:=h.drop hk
 rw [Nat.mul_one,intVals,← List.map_drop] at this
 exact this
end
structure Pc where
 A:Option Addr
 n:Nat
 c:Nat
 cs:List Value
def tot (ps:List Pc):Nat:=(ps.map Pc.n).sum
def pcs (ps:List Pc):List Value:=ps.flatMap Pc.cs
theorem tot_take {ps:List Pc} {k:Nat} {p:Pc} (h:ps[k]?=some p):tot (ps.take (k+1))=tot (ps.take k)+p.n:=by
 unfold tot
 rw [List.take_add_one,h,Option.toList_some,List.map_append,List.sum_append]
 simp
theorem pcs_take {ps:List Pc} {k:Nat} {p:Pc} (h:ps[k]?=some p):pcs (ps.take (k+1))=pcs (ps.take k)++p.cs:=by
 unfold pcs
 rw [List.take_add_one,h,Option.toList_some,List.flatMap_append]
 simp
theorem tot_le (ps:List Pc) (k:Nat):tot (ps.take k)≤tot ps:=by
 conv=>rhs;rw [← List.take_append_drop k ps]
 unfold tot
 rw [List.map_append,List.sum_append]
 omega
def Pile (w:World) (sz:Nat) (A:Option Addr) (ps:List Pc):Prop :=
 ps=[]∨∃ b off,A=some ⟨b,off,none⟩∧∀ i p,ps[i]?=some p→w.cell? ⟨b,off+i,none⟩=some (.slice p.A p.n p.c)∧Ln w sz p.A p.n p.c p.cs∧∀ u∈p.cs,u.oneCell'=true
section
variable {w w':World} {sz:Nat} {A:Option Addr}
theorem Pile.kept {ps:List Pc} (h:Pile w sz A ps) (hb:Below w.heap.size w w'):Pile w' sz A ps:=by
 rcases h with rfl | ⟨b,off,rfl,hc⟩
 ·exact Or.inl rfl
 ·refine Or.inr ⟨b,off,rfl,fun i p hp=>?_⟩
  obtain ⟨h1,h2,h3⟩:=hc i p hp
  exact ⟨(hb.cell (p:=⟨b,_,none⟩) (World.block_lt_of_cell? _ _ h1)).trans h1,h2.kept hb,h3⟩
theorem Pile.at_ {ps:List Pc} (h:Pile w sz A ps) {k:Nat} (hk:k<ps.length) :
 ∃ b off p,A=some ⟨b,off,none⟩∧ps[k]?=some p∧w.cell? ⟨b,off+k,none⟩=some (.slice p.A p.n p.c)∧Ln w sz p.A p.n p.c p.cs∧∀ u∈p.cs,u.oneCell'=true:=by
 rcases h with rfl | ⟨b,off,rfl,hc⟩
 ·exact absurd hk (by simp)
 ·exact ⟨b,off,ps[k],rfl,List.getElem?_eq_getElem hk,hc k _ (List.getElem?_eq_getElem hk)⟩
theorem pile_one {B:Option Addr} {n c:Nat} {cs:List Value} (h:Ln w sz B n c cs) (h1:∀ u∈cs,u.oneCell'=true) (t:TypeId):Pile (w.alloc (.cells #[.slice B n c] t)) sz (some ⟨w.heap.size,0,none⟩) [⟨B,n,c,cs⟩]:=by
 refine Or.inr ⟨_,_,rfl,fun i p hp=>?_⟩
 match i,hp with
 | 0,hp =>
   obtain rfl:=Option.some.inj hp
   exact ⟨by simp,h.kept (below_one _ _),h1⟩
theorem pile_two {B C:Option Addr} {n c m d:Nat} {cs ds:List Value} (h:Ln w sz B n c cs) (h1:∀ u∈cs,u.oneCell'=true) (g:Ln w sz C m d ds) (g1:∀ u∈ds,u.oneCell'=true) (t:TypeId) :
 Pile (w.alloc (.cells #[.slice B n c,.slice C m d] t)) sz (some ⟨w.heap.size,0,none⟩) [⟨B,n,c,cs⟩,⟨C,m,d,ds⟩]:=by
 refine Or.inr ⟨_,_,rfl,fun i p hp=>?_⟩
 match i,hp with
 | 0,hp =>
   obtain rfl:=Option.some.inj hp
   exact ⟨by simp,h.kept (below_one _ _),h1⟩
 | 1,hp =>
   obtain rfl:=Option.some.inj hp
   exact ⟨by simp,g.kept (below_one _ _),g1⟩
theorem pile_three {B C D:Option Addr} {n c m d k e:Nat} {cs ds es:List Value} (h:Ln w sz B n c cs) (h1:∀ u∈cs,u.oneCell'=true) (g:Ln w sz C m d ds) (g1:∀ u∈ds,u.oneCell'=true) (f:Ln w sz D k e es) (f1:∀ u∈es,u.oneCell'=true) (t:TypeId) :
 Pile (w.alloc (.cells #[.slice B n c,.slice C m d,.slice D k e] t)) sz (some ⟨w.heap.size,0,none⟩) [⟨B,n,c,cs⟩,⟨C,m,d,ds⟩,⟨D,k,e,es⟩]:=by
 refine Or.inr ⟨_,_,rfl,fun i p hp=>?_⟩
 match i,hp with
 | 0,hp =>
   obtain rfl:=Option.some.inj hp
   exact ⟨by simp,h.kept (below_one _ _),h1⟩
 | 1,hp =>
   obtain rfl:=Option.some.inj hp
   exact ⟨by simp,g.kept (below_one _ _),g1⟩
 | 2,hp =>
   obtain rfl:=Option.some.inj hp
   exact ⟨by simp,f.kept (below_one _ _),f1⟩
end
theorem ln_one (w:World) (a:Int) (t:TypeId):Ln (w.alloc (.cells #[.int .i64 a] t)) 1 (some ⟨w.heap.size,0,none⟩) 1 1 (intVals [a]) :=
 ⟨rfl,Nat.le_refl _,fun e=>(by cases e),fun ad e j u hu=>by
  obtain rfl:=Option.some.inj e
  rw [addr_add]
  match j,hu with
  | 0,hu =>
    obtain rfl:=Option.some.inj hu
    simp⟩
theorem ln_pair (w:World) (a b:Int) (t:TypeId):Ln (w.alloc (.cells #[.int .i64 a,.int .i64 b] t)) 2 (some ⟨w.heap.size,0,none⟩) 1 1 (prVals [(a,b)]) :=
 ⟨rfl,Nat.le_refl _,fun e=>(by cases e),fun ad e j u hu=>by
  obtain rfl:=Option.some.inj e
  exact cell_two_new w _ _ t j u hu⟩
def JoinEnd (w:World) (t:TypeId) (sz N:Nat) (cs:List Value) (e:Ending) (w':World):Prop :=
 ∃ v,e = .returned v∧w'.ownsRow w.heap.size t sz v N cs∧Below w.heap.size w w'
structure Sp (w:World) (A:Option Addr) (n c:Nat) (B:Option Addr) (m d:Nat) (s:SS):Prop where
 fr:Ln w 1 A n c (intVals s.fr)
 pe:Ln w 2 B m d (prVals s.pe)
theorem Sp.kept {w w':World} {A B:Option Addr} {n c m d:Nat} {s:SS} (h:Sp w A n c B m d s) (hb:Below w.heap.size w w'):Sp w' A n c B m d s:=⟨h.fr.kept hb,h.pe.kept hb⟩
theorem Sp.fl {w:World} {A B:Option Addr} {n c m d:Nat} {s:SS} (h:Sp w A n c B m d s):s.fr.length=n:=h.fr.intN
theorem Sp.pl {w:World} {A B:Option Addr} {n c m d:Nat} {s:SS} (h:Sp w A n c B m d s):s.pe.length=m:=h.pe.prN
theorem Sp.zero (w:World):Sp w none 0 0 none 0 0 SS.none:=⟨Ln.none_ w 1,Ln.none_ w 2⟩
end Go.Proofs.YtccphijgcapeoaaGreat
/-
  Pages' lists in a block of their own, and what calls answer.
-/
namespace Go.Proofs.YtccphijgcapeoaaGreat
open Go.RowKit
def Box (w:World) (g:Nat) (x y z:Value):Prop:=w.heap[g]?=some (.cells #[x,y,z] 49 (0,0))
section
variable {w w':World} {g:Nat} {x y z:Value}
theorem Box.lt (h:Box w g x y z):g<w.heap.size:=(Array.getElem?_eq_some_iff.1 h).1
theorem Box.kept (h:Box w g x y z) (hb:Below w.heap.size w w'):Box w' g x y z:=(hb.block g h.lt).trans h
theorem Box.cells (h:Box w g x y z):w.cell? ⟨g,0,none⟩=some x∧w.cell? ⟨g,1,none⟩=some y∧w.cell? ⟨g,2,none⟩=some z :=
 ⟨(cell_of_row w g 0 _ _ _ h).trans rfl,(cell_of_row w g 1 _ _ _ h).trans rfl,(cell_of_row w g 2 _ _ _ h).trans rfl⟩
theorem Box.free (h:Box w g x y z):w.frozen? ⟨g,0,none⟩=false∧w.frozen? ⟨g,1,none⟩=false∧w.frozen? ⟨g,2,none⟩=false :=
 ⟨frozen_of_row w g 0 _ _ h,frozen_of_row w g 1 _ _ h,frozen_of_row w g 2 _ _ h⟩
end
theorem box_new (w:World) (x y z:Value):Box (w.alloc (.cells #[x,y,z] 49)) w.heap.size x y z:=heap_alloc_new w _
/-- The argument's block, and the answer's. -/
theorem two_boxes (w:World) (x y z x' y' z':Value):Box ((w.alloc (.cells #[x,y,z] 49)).alloc (.cells #[x',y',z'] 49)) w.heap.size x y z ∧
 Box ((w.alloc (.cells #[x,y,z] 49)).alloc (.cells #[x',y',z'] 49)) (w.heap.size+1) x' y' z'∧Below w.heap.size w ((w.alloc (.cells #[x,y,z] 49)).alloc (.cells #[x',y',z'] 49)):=by
 refine ⟨(box_new w x y z).kept (below_one _ _),?_,below_two _ _ _⟩
 have h:=box_new (w.alloc (.cells #[x,y,z] 49)) x' y' z'
 rw [show (w.alloc (.cells #[x,y,z] 49)).heap.size=w.heap.size+1 by simp] at h
 exact h
end Go.Proofs.YtccphijgcapeoaaGreat
/-
  Stores into a block of pages' lists, and what is left as it was.
-/
namespace Go.Proofs.YtccphijgcapeoaaGreat
open Go.RowKit Go.Maps
theorem pcs_one (A:Option Addr) (n c:Nat) (cs:List Value):pcs [⟨A,n,c,cs⟩]=cs:=by simp [pcs]
section
variable {w w':World} {g r:Nat} {x y z:Value}
theorem Box.set0 (h:Box w g x y z) (u:Value):Box (w.setCell ⟨g,0,none⟩ u) g u y z:=by
 unfold Box at h ⊢
 rw [Joins.block_setCell h]
 rfl
theorem Box.set1 (h:Box w g x y z) (u:Value):Box (w.setCell ⟨g,1,none⟩ u) g x u z:=by
 unfold Box at h ⊢
 rw [Joins.block_setCell h]
 rfl
theorem Box.set2 (h:Box w g x y z) (u:Value):Box (w.setCell ⟨g,2,none⟩ u) g x y u:=by
 unfold Box at h ⊢
 rw [Joins.block_setCell h]
 rfl
theorem Box.put (h:Box w g x y z) (x' y' z':Value):Box (((w.setCell ⟨g,0,none⟩ x').setCell ⟨g,1,none⟩ y').setCell ⟨g,2,none⟩ z') g x' y' z':=((h.set0 x').set1 y').set2 z'
def But (r:Nat) (w w':World):Prop:=w.heap.size=w'.heap.size∧∀ k,k≠r→w'.heap[k]?=w.heap[k]?
theorem But.refl (r:Nat) (w:World):But r w w:=⟨rfl,fun _ _=>rfl⟩
theorem But.set {w w':World} (h:But r w w') (j:Nat) (u:Value):But r w (w'.setCell ⟨r,j,none⟩ u):=⟨h.1.trans (by simp [World.setCell]),fun k hk=>(Below.heap_setCell _ _ _ _ hk).trans (h.2 k hk)⟩
theorem But.put (w:World) (r:Nat) (x y z:Value):But r w (((w.setCell ⟨r,0,none⟩ x).setCell ⟨r,1,none⟩ y).setCell ⟨r,2,none⟩ z):=(((But.refl r w).set 0 x).set 1 y).set 2 z
theorem But.cell (hb:But r w w') {k:Nat} (hne:k≠r) (j:Nat):w'.cell? ⟨k,j,none⟩=w.cell? ⟨k,j,none⟩:=World.cell?_of_block (w:=w) (hb.2 k hne)
theorem below_put {B:Nat} {a w:World} (h:Below B a w) (hr:B≤r) (x y z:Value):Below B a (((w.setCell ⟨r,0,none⟩ x).setCell ⟨r,1,none⟩ y).setCell ⟨r,2,none⟩ z):=((h.setCell hr _).setCell hr _).setCell hr _
end
def Hi (base:Nat) (A:Option Addr):Prop:=∀ ad,A=some ad→base≤ad.block
theorem Hi.low {base base':Nat} {A:Option Addr} (h:Hi base A) (hb:base'≤base):Hi base' A:=fun ad e=>Nat.le_trans hb (h ad e)
theorem Hi.none_ (base:Nat):Hi base none:=fun _ e=>by cases e
theorem Hi.of_own {w:World} {base sz n c:Nat} {e:TypeId} {A:Option Addr} {cs:List Value} (h:w.ownsRow base e sz (.slice A n c) n cs):Hi base A:=by
 intro ad e
 subst e
 exact (h.lt ad.block rfl).1
theorem Ln.but {w w':World} {sz r n c:Nat} {A:Option Addr} {cs:List Value} (h:Ln w sz A n c cs) (hb:But r w w') (hA:Hi (r+1) A):Ln w' sz A n c cs :=
 ⟨h.len,h.le,h.lies.1,fun ad e j u hu=>by
  have h0:=h.lies.2 ad e j u hu
  have hlt:=hA ad e
  have hblk:(ad.add j).block=ad.block:=by unfold Addr.add;split<;>rfl
  rw [World.cell?_of_block (w:=w) (hb.2 (ad.add j).block (by omega))]
  exact h0⟩
theorem Sp.but {w w':World} {r n c m d:Nat} {A B:Option Addr} {s:SS} (h:Sp w A n c B m d s) (hb:But r w w') (hA:Hi (r+1) A) (hB:Hi (r+1) B):Sp w' A n c B m d s:=⟨h.fr.but hb hA,h.pe.but hb hB⟩
def SpVH (w':World) (base:Nat) (v:Value) (s:SS):Prop:=∃ A n c B m d,v = .agg #[.int .i64 s.hi,.slice A n c,.slice B m d]∧Sp w' A n c B m d s∧Hi base A∧Hi base B
theorem SpVH.kept {w w':World} {base:Nat} {v:Value} {s:SS} (h:SpVH w base v s) (hb:Below w.heap.size w w'):SpVH w' base v s:=by
 obtain ⟨A,n,c,B,m,d,rfl,h,hi⟩:=h
 exact ⟨A,n,c,B,m,d,rfl,h.kept hb,hi⟩
def SpEndH (w:World) (r:Int) (s:SS) (e:Ending) (w':World):Prop:=∃ v,e = .returned (.tuple #[v,.int .i64 r])∧SpVH w' w.heap.size v s∧Below w.heap.size w w'
def TakeEndH (w:World) (r:Int×Int×SS) (e:Ending) (w':World):Prop:=∃ v,e = .returned (.tuple #[v,.int .i64 r.2.1,.int .i64 r.1])∧SpVH w' w.heap.size v r.2.2∧Below w.heap.size w w'
theorem put_doneH {w w2:World} {r n c m d:Nat} {h:Int} {A B:Option Addr} {s:SS} (hb:Below w.heap.size w w2) (hr:w.heap.size≤r) (hs:Sp w2 A n c B m d s) (hA:Hi (r+1) A) (hB:Hi (r+1) B) (hh:s.hi=h) (x y z:Value) :
 SpVH (((w2.setCell ⟨r,0,none⟩ x).setCell ⟨r,1,none⟩ y).setCell ⟨r,2,none⟩ z) w.heap.size (.agg #[.int .i64 h,.slice A n c,.slice B m d]) s∧Below w.heap.size w (((w2.setCell ⟨r,0,none⟩ x).setCell ⟨r,1,none⟩ y).setCell ⟨r,2,none⟩ z) :=
 ⟨⟨A,n,c,B,m,d,by rw [hh],hs.but (But.put w2 r x y z) hA hB,hA.low (by omega),hB.low (by omega)⟩,below_put hb hr x y z⟩
end Go.Proofs.YtccphijgcapeoaaGreat
/-
  Lists of texts in memory; a node as a value, and in a block of its own.
-/
namespace Go.Proofs.YtccphijgcapeoaaGreat
open Go.RowKit
def tb (t:List UInt8):ByteArray:=⟨t.toArray⟩
theorem tb_list (t:List UInt8):(tb t).toList=t:=by rw [toList_data];rfl
theorem tb_back (s:ByteArray):tb s.toList=s:=bytes_ext (tb_list _)
def strVals (l:List (List UInt8)):List Value:=l.map (fun t=>Value.string (tb t))
theorem strVals_length (l:List (List UInt8)):(strVals l).length=l.length:=List.length_map _
theorem strVals_append (a b:List (List UInt8)):strVals (a++b)=strVals a++strVals b:=List.map_append
theorem strVals_one (l:List (List UInt8)):∀ u∈strVals l,u.oneCell'=true:=by
 intro u hu
 obtain ⟨b,_,rfl⟩:=List.mem_map.1 hu
 rfl
theorem strVals_at {l:List (List UInt8)} {k:Nat} {t:List UInt8} (h:l[k]?=some t):(strVals l)[k]?=some (.string (tb t)):=by
 rw [strVals,List.getElem?_map,h]
 rfl
section
variable {w w':World} {A:Option Addr} {n c:Nat}
theorem Ln.strN {l:List (List UInt8)} (h:Ln w 1 A n c (strVals l)):l.length=n:=by
 have:=h.len
 rw [strVals_length] at this
 omega
theorem Ln.strAt {l:List (List UInt8)} (h:Ln w 1 A n c (strVals l)) {k:Nat} (hk:k<n) :
 ∃ b off s,A=some ⟨b,off,none⟩∧l[k]?=some (ByteArray.toList s)∧w.cell? ⟨b,off+k,none⟩=some (.string s):=by
 have hl:=h.strN
 obtain ⟨b,off,rfl,_⟩:=h.spot (by rw [strVals_length];omega)
 have hp:l[k]?=some l[k]:=List.getElem?_eq_getElem (by omega)
 exact ⟨b,off,tb l[k],rfl,by rw [tb_list];exact hp,h.cell (strVals_at hp)⟩
theorem Ln.strTake {l:List (List UInt8)} (h:Ln w 1 A n c (strVals l)) {k:Nat} (hk:k≤n):Ln w 1 A k c (strVals (l.take k)):=by
 have:=h.take hk
 rw [Nat.mul_one,strVals,← List.map_take] at this
 exact this
end
theorem Ln.same {w w':World} {sz n c:Nat} {A:Option Addr} {cs:List Value} (h:Ln w sz A n c cs) (e:w'.heap=w.heap):Ln w' sz A n c cs :=
 ⟨h.len,h.le,h.lies.1,fun ad ea j u hu=>(World.cell?_of_block (w:=w) (by rw [e])).trans (h.lies.2 ad ea j u hu)⟩
def NHi (base:Nat) (A:Option Addr):Prop:=∀ ad,A=some ad→base≤ad.block
theorem NHi.low {base base':Nat} {A:Option Addr} (h:NHi base A) (hb:base'≤base):NHi base' A:=fun ad e=>Nat.le_trans hb (h ad e)
theorem NHi.none_ (base:Nat):NHi base none:=fun _ e=>by cases e
theorem NHi.of_own {w:World} {base sz n c:Nat} {e:TypeId} {A:Option Addr} {cs:List Value} (h:w.ownsRow base e sz (.slice A n c) n cs):NHi base A:=by
 intro ad e
 subst e
 exact (h.lt ad.block rfl).1
def NBox (w:World) (g:Nat) (x y z p:Value):Prop:=w.heap[g]?=some (.cells #[x,y,z,p] 68 (0,0))
section
variable {w w':World} {g r:Nat} {x y z p:Value}
theorem NBox.lt (h:NBox w g x y z p):g<w.heap.size:=(Array.getElem?_eq_some_iff.1 h).1
theorem NBox.kept (h:NBox w g x y z p) (hb:Below w.heap.size w w'):NBox w' g x y z p:=(hb.block g h.lt).trans h
theorem NBox.block (h:NBox w g x y z p) (e:w'.heap[g]?=w.heap[g]?):NBox w' g x y z p:=Eq.trans e h
theorem NBox.cells (h:NBox w g x y z p):w.cell? ⟨g,0,none⟩=some x∧w.cell? ⟨g,1,none⟩=some y∧w.cell? ⟨g,2,none⟩=some z∧w.cell? ⟨g,3,none⟩=some p :=
 ⟨(cell_of_row w g 0 _ _ _ h).trans rfl,(cell_of_row w g 1 _ _ _ h).trans rfl,(cell_of_row w g 2 _ _ _ h).trans rfl,(cell_of_row w g 3 _ _ _ h).trans rfl⟩
theorem NBox.free (h:NBox w g x y z p):w.frozen? ⟨g,0,none⟩=false∧w.frozen? ⟨g,1,none⟩=false∧w.frozen? ⟨g,2,none⟩=false∧w.frozen? ⟨g,3,none⟩=false :=
 ⟨frozen_of_row w g 0 _ _ h,frozen_of_row w g 1 _ _ h,frozen_of_row w g 2 _ _ h,frozen_of_row w g 3 _ _ h⟩
theorem NBox.set0 (h:NBox w g x y z p) (u:Value):NBox (w.setCell ⟨g,0,none⟩ u) g u y z p:=by
 unfold NBox at h ⊢
 rw [Joins.block_setCell h]
 rfl
theorem NBox.set1 (h:NBox w g x y z p) (u:Value):NBox (w.setCell ⟨g,1,none⟩ u) g x u z p:=by
 unfold NBox at h ⊢
 rw [Joins.block_setCell h]
 rfl
theorem NBox.set2 (h:NBox w g x y z p) (u:Value):NBox (w.setCell ⟨g,2,none⟩ u) g x y u p:=by
 unfold NBox at h ⊢
 rw [Joins.block_setCell h]
 rfl
theorem NBox.set3 (h:NBox w g x y z p) (u:Value):NBox (w.setCell ⟨g,3,none⟩ u) g x y z u:=by
 unfold NBox at h ⊢
 rw [Joins.block_setCell h]
 rfl
theorem NBox.put (h:NBox w g x y z p) (x' y' z' p':Value):NBox ((((w.setCell ⟨g,0,none⟩ x').setCell ⟨g,1,none⟩ y').setCell ⟨g,2,none⟩ z').setCell ⟨g,3,none⟩ p') g x' y' z' p':=(((h.set0 x').set1 y').set2 z').set3 p'
def NBut (r:Nat) (w w':World):Prop:=w.heap.size=w'.heap.size∧∀ k,k≠r→w'.heap[k]?=w.heap[k]?
theorem NBut.refl (r:Nat) (w:World):NBut r w w:=⟨rfl,fun _ _=>rfl⟩
theorem NBut.set {w w':World} (h:NBut r w w') (j:Nat) (u:Value):NBut r w (w'.setCell ⟨r,j,none⟩ u):=⟨h.1.trans (by simp [World.setCell]),fun k hk=>(Below.heap_setCell _ _ _ _ hk).trans (h.2 k hk)⟩
theorem NBut.put (w:World) (r:Nat) (x y z p:Value):NBut r w ((((w.setCell ⟨r,0,none⟩ x).setCell ⟨r,1,none⟩ y).setCell ⟨r,2,none⟩ z).setCell ⟨r,3,none⟩ p):=((((NBut.refl r w).set 0 x).set 1 y).set 2 z).set 3 p
theorem NBox.but (h:NBox w g x y z p) (hb:NBut r w w') (hne:g≠r):NBox w' g x y z p:=(hb.2 g hne).trans h
theorem below_nput {B:Nat} {a w:World} (h:Below B a w) (hr:B≤r) (x y z p:Value):Below B a ((((w.setCell ⟨r,0,none⟩ x).setCell ⟨r,1,none⟩ y).setCell ⟨r,2,none⟩ z).setCell ⟨r,3,none⟩ p):=(((h.setCell hr _).setCell hr _).setCell hr _).setCell hr _
theorem Ln.nbut {sz n c:Nat} {A:Option Addr} {cs:List Value} (h:Ln w sz A n c cs) (hb:NBut r w w') (hA:NHi (r+1) A):Ln w' sz A n c cs :=
 ⟨h.len,h.le,h.lies.1,fun ad e j u hu=>by
  have h0:=h.lies.2 ad e j u hu
  have hlt:=hA ad e
  have hblk:(ad.add j).block=ad.block:=by unfold Addr.add;split<;>rfl
  rw [World.cell?_of_block (w:=w) (hb.2 (ad.add j).block (by omega))]
  exact h0⟩
end
theorem nbox_new (w:World) (x y z p:Value):NBox (w.alloc (.cells #[x,y,z,p] 68)) w.heap.size x y z p:=heap_alloc_new w _
structure Nd (w:World) (A:Option Addr) (n c:Nat) (B:Option Addr) (m d:Nat) (C:Option Addr) (k e:Nat) (s:ND):Prop where
 ke:Ln w 1 A n c (strVals s.keys)
 va:Ln w 1 B m d (strVals s.vals)
 ki:Ln w 1 C k e (intVals s.kids)
section
variable {w w':World} {A B C:Option Addr} {n c m d k e:Nat} {s:ND}
theorem Nd.kept (h:Nd w A n c B m d C k e s) (hb:Below w.heap.size w w'):Nd w' A n c B m d C k e s:=⟨h.ke.kept hb,h.va.kept hb,h.ki.kept hb⟩
theorem Nd.kn (h:Nd w A n c B m d C k e s):s.keys.length=n:=h.ke.strN
theorem Nd.vn (h:Nd w A n c B m d C k e s):s.vals.length=m:=h.va.strN
theorem Nd.cn (h:Nd w A n c B m d C k e s):s.kids.length=k:=h.ki.intN
end
def NdV (w:World) (base:Nat) (v:Value) (s:ND):Prop:=∃ A n c B m d C k e,v = .agg #[.bool s.leaf,.slice A n c,.slice B m d,.slice C k e]∧Nd w A n c B m d C k e s∧NHi base A∧NHi base B∧NHi base C
theorem NdV.kept {w w':World} {base:Nat} {v:Value} {s:ND} (h:NdV w base v s) (hb:Below w.heap.size w w'):NdV w' base v s:=by
 obtain ⟨A,n,c,B,m,d,C,k,e,rfl,h,hi⟩:=h
 exact ⟨A,n,c,B,m,d,C,k,e,rfl,h.kept hb,hi⟩
theorem NdV.low {w:World} {base base':Nat} {v:Value} {s:ND} (h:NdV w base v s) (hb:base'≤base):NdV w base' v s:=by
 obtain ⟨A,n,c,B,m,d,C,k,e,rfl,h,h1,h2,h3⟩:=h
 exact ⟨A,n,c,B,m,d,C,k,e,rfl,h,h1.low hb,h2.low hb,h3.low hb⟩
theorem ndv_zero (w:World) (base:Nat):NdV w base (.agg #[.bool false,.slice none 0 0,.slice none 0 0,.slice none 0 0]) ND.zero :=
 ⟨none,0,0,none,0,0,none,0,0,rfl,⟨Ln.none_ w 1,Ln.none_ w 1,Ln.none_ w 1⟩,NHi.none_ _,NHi.none_ _,NHi.none_ _⟩
theorem ndv_put {w:World} {base r:Nat} {v:Value} {s:ND} (h:NdV w (r+1) v s) (hr:base≤r) (x y z p:Value):NdV ((((w.setCell ⟨r,0,none⟩ x).setCell ⟨r,1,none⟩ y).setCell ⟨r,2,none⟩ z).setCell ⟨r,3,none⟩ p) base v s:=by
 obtain ⟨A,n,c,B,m,d,C,k,e,rfl,h,h1,h2,h3⟩:=h
 have hb:=NBut.put w r x y z p
 exact ⟨A,n,c,B,m,d,C,k,e,rfl,⟨h.ke.nbut hb h1,h.va.nbut hb h2,h.ki.nbut hb h3⟩,h1.low (by omega),h2.low (by omega),h3.low (by omega)⟩
def NEnd (w:World) (r:Int) (s:ND) (e:Ending) (w':World):Prop:=∃ v,e = .returned (.tuple #[v,.int .i64 r])∧NdV w' w.heap.size v s∧Below w.heap.size w w'
end Go.Proofs.YtccphijgcapeoaaGreat
/-
  What the closure that lays numbers comes to, and what makes it.
-/
namespace Go.Proofs.YtccphijgcapeoaaGreat
open Go.RowKit
def wdC (x:Nat):Nat→Array Value
 | 0=>#[.int .u8 0,.int .u8 0,.int .u8 0,.int .u8 0]
 | 1=>#[.int .u8 0,.int .u8 0,.int .u8 0,.int .u8 ((x:Int) % 256)]
 | 2=>#[.int .u8 0,.int .u8 0,.int .u8 ((x:Int) / 256 % 256),.int .u8 ((x:Int) % 256)]
 | 3=>#[.int .u8 0,.int .u8 ((x:Int) / 256 / 256 % 256),.int .u8 ((x:Int) / 256 % 256),.int .u8 ((x:Int) % 256)]
 | _=>#[.int .u8 ((x:Int) / 256 / 256 / 256),.int .u8 ((x:Int) / 256 / 256 % 256),.int .u8 ((x:Int) / 256 % 256),.int .u8 ((x:Int) % 256)]
def lft (x:Nat):Nat→Int
 | 0=>x
 | 1=>(x:Int) / 256
 | 2=>(x:Int) / 256 / 256
 | 3=>(x:Int) / 256 / 256 / 256
 | _=>(x:Int) / 256 / 256 / 256 / 256
theorem wd_bv {x:Nat} (hx:x<4294967296) {d:Nat}:(wdC x 4).toList.drop (4 - d)=bv (be d x):=by
 unfold be bv
 rw [List.map_drop]
 congr 1
 show [Value.int .u8 ((x:Int) / 256 / 256 / 256),.int .u8 ((x:Int) / 256 / 256 % 256),.int .u8 ((x:Int) / 256 % 256),.int .u8 ((x:Int) % 256)] =
  [Value.int .u8 ((UInt8.ofNat (x / 16777216)).toNat:Int),.int .u8 ((UInt8.ofNat (x / 65536)).toNat:Int),.int .u8 ((UInt8.ofNat (x / 256)).toNat:Int),.int .u8 ((UInt8.ofNat x).toNat:Int)]
 rw [ofNat_toNat,ofNat_toNat,ofNat_toNat,ofNat_toNat]
 simp only [List.cons.injEq,Value.int.injEq,and_true,true_and]
 omega
theorem lay_news (w:World) {x:Nat} (hx:x<4294967296) {d:Nat} (t:TypeId):∀ j u,(bv (be d x))[j]?=some u→(w.alloc (.cells (wdC x 4) t)).drew.cell? ((⟨w.heap.size,4 - d,none⟩:Addr).add j)=some u:=by
 intro j u h
 rw [← wd_bv hx,List.getElem?_drop] at h
 have e:(w.alloc (.cells (wdC x 4) t)).drew.heap[w.heap.size]?=some (.cells (wdC x 4) t):=heap_alloc_new w _
 rw [addr_add,cell_of_row _ w.heap.size (4 - d+j) _ t (0,0) e]
 simpa using h
structure LayAt (w:World) (B fb pb base:Nat) (l:List UInt8):Prop where
 bf:B≤fb
 bp:B≤pb
 fl:fb<base
 pl:pb<base
 ne:fb≠pb
 sz:base≤w.heap.size
 cp:w.cell? ⟨pb,0,none⟩=some (.pointer (some ⟨fb,0,none⟩))
 ff:w.frozen? ⟨fb,0,none⟩=false
 cf:∃ v,w.cell? ⟨fb,0,none⟩=some v∧Own w base v l
theorem fown_of_block {w w':World} {base:Nat} {v:Value} {l:List UInt8} (h:Own w base v l) (hk:∀ k,v.ownBlock=some k→w'.heap[k]?=w.heap[k]?):Own w' base v l:=by
 obtain ⟨h1,h2⟩:=h
 refine ⟨h1,?_⟩
 rcases h2 with h2 | ⟨g,cap,cur,hv,hg,hh,r⟩
 ·exact Or.inl h2
 ·exact Or.inr ⟨g,cap,cur,hv,hg,by rw [hk g (by rw [hv];rfl)];exact hh,r⟩
section
variable {w w':World} {B fb pb base:Nat} {l m:List UInt8}
theorem LayAt.below (h:LayAt w B fb pb base l) (hb:Below w.heap.size w w'):LayAt w' B fb pb base l:=by
 obtain ⟨v,h1,h2⟩:=h.cf
 have:=h.fl
 have:=h.pl
 have:=h.sz
 exact ⟨h.bf,h.bp,h.fl,h.pl,h.ne,Nat.le_trans h.sz hb.size,(hb.cell (p:=⟨pb,0,none⟩) (by simp only;omega)).trans h.cp,(hb.frozen (p:=⟨fb,0,none⟩) (by simp only;omega)).trans h.ff,
  v,(hb.cell (p:=⟨fb,0,none⟩) (by simp only;omega)).trans h1,own_below h2 hb⟩
theorem LayAt.put (h:LayAt w B fb pb base l) {w1:World} {row:Option Nat} {v1:Value} (hg:w.grownBy w1 row) (hr:∀ k,row=some k→base≤k) (ho:Own w1 base v1 m):LayAt (w1.setCell ⟨fb,0,none⟩ v1) B fb pb base m:=by
 have hf:=h.fl
 have hp:=h.pl
 have hs:=h.sz
 have hs1:=hg.size
 have e1:w1.heap[fb]?=w.heap[fb]?:=hg.block fb (by omega) (fun e=>by have:=hr fb e.symm;omega)
 have e2:w1.heap[pb]?=w.heap[pb]?:=hg.block pb (by omega) (fun e=>by have:=hr pb e.symm;omega)
 obtain ⟨v,c1,_⟩:=h.cf
 have c2:w1.cell? ⟨fb,0,none⟩=some v:=(World.cell?_of_block (a:=⟨fb,0,none⟩) e1).trans c1
 have f2:w1.frozen? ⟨fb,0,none⟩=false:=(World.frozen?_of_block (a:=⟨fb,0,none⟩) e1).trans h.ff
 have c3:w1.cell? ⟨pb,0,none⟩=some (.pointer (some ⟨fb,0,none⟩)):=(World.cell?_of_block (a:=⟨pb,0,none⟩) e2).trans h.cp
 refine ⟨h.bf,h.bp,hf,hp,h.ne,?_,?_,?_,v1,?_,?_⟩
 ·simp [World.setCell];omega
 ·rw [World.cell?_setCell_other _ _ _ _ (fun e=>h.ne (congrArg Addr.block e))];exact c3
 ·simpa using f2
 ·exact World.cell?_setCell_same _ _ _ c2
 ·exact fown_of_block ho (fun k hk=>Below.heap_setCell _ _ _ _ (fun e=>by have:=(ho.lt k hk).1;simp only at e;omega))
theorem lay_done {w2:World} {C:Array Value} {t:TypeId} {v v2:Value} {d x:Nat} (h:LayAt w B fb pb base l) (hd:d≤4) (hgrow:(w.alloc (.cells C t)).drew.grownBy w2 v.ownBlock) (o1:(w.alloc (.cells C t)).ownsRow base 5 1 v l.length (bv l))
 (hown2:w2.ownsRow base 5 1 v2 (l.length+d) (bv l++bv (be d x))):LayAt (w2.setCell ⟨fb,0,none⟩ v2) B fb pb base (l++be d x)∧Below B w (w2.setCell ⟨fb,0,none⟩ v2):=by
 have hB:B≤w.heap.size:=by have:=h.bf;have:=h.fl;have:=h.sz;omega
 have hg:(w.alloc (.cells C t)).grownBy w2 v.ownBlock:=⟨hgrow.os,hgrow.tape,hgrow.output,hgrow.size,hgrow.block⟩
 refine ⟨(h.below (below_one w _)).put hg (fun k hk=>(o1.lt k hk).1) ?_,?_⟩
 ·unfold Own
  rw [bv_append,List.length_append,be_length x hd]
  exact hown2
 ·refine Below.setCell (((Below.refl _ _).alloc hB _).grown hg (by simp;omega) (fun g hg=>?_)) (p:=⟨fb,0,none⟩) h.bf _
  have:=(o1.lt g hg).1
  have:=h.bf
  have:=h.fl
  omega
end
theorem lay_any (x:Nat) (hx:x<4294967296) (d:Nat) (hd:d=1∨d=2∨d=4) (w:World) (B fb pb base:Nat) (l:List UInt8) (h:LayAt w B fb pb base l) (hl:l.length≤1000000) :
 Calls Tryz.prog 186 #[.int .u32 (x:Int),.int .i64 d,.pointer (some ⟨pb,0,none⟩)] w fun e w'=>e = .returned (.tuple #[])∧LayAt w' B fb pb base (l++be d x)∧Below B w w':=by
 obtain ⟨i0,hi,hz0,hz1,hz2⟩:=info_parts byteInfo
 go_enter Tryz.func186,Tryz.ntmps186
 go_wp2_with fail
 go_loopw [0,6] (fun v i wr=>∃ j:Nat,j≤4∧i = .int .i64 (3 - (j:Int))∧v = .int .u32 (lft x j)∧wr=w.alloc (.cells (wdC x j) 252)) (fun _ i _=>(RowKit.intOf i+1).toNat)
 case atStart=>exact ⟨0,by omega,rfl,rfl,rfl⟩
 case round =>
  obtain ⟨j,hj,rfl,rfl,rfl⟩:=hrel
  by_cases hlt:j<4
  ·rcases (show j=0∨j=1∨j=2∨j=3 by omega) with rfl | rfl | rfl | rfl
   ·rw [show lft x 0=(x:Int) from rfl,show wdC x 0=#[.int .u8 0,.int .u8 0,.int .u8 0,.int .u8 0] from rfl]
    go_wp2_with fail
    exact ⟨⟨1,by omega,rfl,rfl,rfl⟩,by decide⟩
   ·rw [show lft x 1=(x:Int) / 256 from rfl,show wdC x 1=#[.int .u8 0,.int .u8 0,.int .u8 0,.int .u8 ((x:Int) % 256)] from rfl]
    go_wp2_with fail
    exact ⟨⟨2,by omega,rfl,rfl,rfl⟩,by decide⟩
   ·rw [show lft x 2=(x:Int) / 256 / 256 from rfl,show wdC x 2=#[.int .u8 0,.int .u8 0,.int .u8 ((x:Int) / 256 % 256),.int .u8 ((x:Int) % 256)] from rfl]
    go_wp2_with fail
    exact ⟨⟨3,by omega,rfl,rfl,rfl⟩,by decide⟩
   ·rw [show lft x 3=(x:Int) / 256 / 256 / 256 from rfl,show wdC x 3=#[.int .u8 0,.int .u8 ((x:Int) / 256 / 256 % 256),.int .u8 ((x:Int) / 256 % 256),.int .u8 ((x:Int) % 256)] from rfl]
    go_wp2_with fail
    exact ⟨⟨4,by omega,rfl,rfl,rfl⟩,by decide⟩
  ·obtain rfl:j=4:=by omega
   have hN:=fun d=>lay_news w hx (d:=d) 252
   have HN:=Lib.hid hN
   have h1:=h.below (below_one w (.cells (wdC x 4) 252))
   have hsz:=h.sz
   have hff:=h.ff
   have H0:=Lib.hid h
   obtain ⟨v,c1,o1⟩:=h1.cf
   have c2:=h1.cp
   have f1:=h1.ff
   have hfl:=h.fl
   have hpl:=h.pl
   have hgf:fb<(w.alloc (.cells (wdC x 4) 252)).drew.heap.size:=by have:=h1.fl;have:=h1.sz;simp at *;omega
   have hgp:pb<(w.alloc (.cells (wdC x 4) 252)).drew.heap.size:=by have:=h1.pl;have:=h1.sz;simp at *;omega
   generalize wdC x 4=C at *
   generalize lft x 4=y at *
   clear hN h h1
   unfold Own at o1
   have nf:v.ownBlock≠some fb:=fun e=>by have:=(o1.lt _ e).1;omega
   have np:v.ownBlock≠some pb:=fun e=>by have:=(o1.lt _ e).1;omega
   have k3:IntKind.i64.wrap 3=3:=rfl
   have k2:IntKind.i64.wrap 2=2:=rfl
   have k0:IntKind.i64.wrap 0=0:=rfl
   rcases hd with rfl | rfl | rfl
   ·go_wp2_with fail
    go_region_law
     ((refine step_append_lies _ (by rfl) _ _ _ (by rfl) base 5 i0 _ 1 1 Tryz.underlying115 hi hz0 hz1 hz2 rfl (by omega) v l.length (bv l) (by rfl) o1.drew
        ⟨w.heap.size,3,none⟩ 1 1 (bv (be 1 x)) (by rfl) (by rfl) (HN.out 1) (bv_one _)
        (by omega) (by unfold maxLen;omega) (by omega) (by simp;omega) (w.heap.size+1) (by simp) ?_;intro gg cap w2 hown2 hgrow hat hlt2;have T0:w2.cell? ⟨pb,0,none⟩=some (.pointer (some ⟨fb,0,none⟩)):=(hgrow.cell_far _ hgp np.symm).trans c2;have T1:w2.cell? ⟨fb,0,none⟩=some v:=(hgrow.cell_far _ hgf nf.symm).trans c1;have T2:w2.frozen? ⟨fb,0,none⟩=false:=(World.frozen?_of_block (a:=⟨fb,0,none⟩) (hgrow.block fb hgf nf.symm)).trans f1))
    all_goals (go_end0;exact ⟨rfl,lay_done H0.out (by omega) hgrow o1 hown2⟩)
   ·go_wp2_with fail
    go_region_law
     ((refine step_append_lies _ (by rfl) _ _ _ (by rfl) base 5 i0 _ 1 1 Tryz.underlying115 hi hz0 hz1 hz2 rfl (by omega) v l.length (bv l) (by rfl) o1.drew
        ⟨w.heap.size,2,none⟩ 2 2 (bv (be 2 x)) (by rfl) (by rfl) (HN.out 2) (bv_one _)
        (by omega) (by unfold maxLen;omega) (by omega) (by simp;omega) (w.heap.size+1) (by simp) ?_;intro gg cap w2 hown2 hgrow hat hlt2;have T0:w2.cell? ⟨pb,0,none⟩=some (.pointer (some ⟨fb,0,none⟩)):=(hgrow.cell_far _ hgp np.symm).trans c2;have T1:w2.cell? ⟨fb,0,none⟩=some v:=(hgrow.cell_far _ hgf nf.symm).trans c1;have T2:w2.frozen? ⟨fb,0,none⟩=false:=(World.frozen?_of_block (a:=⟨fb,0,none⟩) (hgrow.block fb hgf nf.symm)).trans f1))
    all_goals (go_end0;exact ⟨rfl,lay_done H0.out (by omega) hgrow o1 hown2⟩)
   ·go_wp2_with fail
    go_region_law
     ((refine step_append_lies _ (by rfl) _ _ _ (by rfl) base 5 i0 _ 1 1 Tryz.underlying115 hi hz0 hz1 hz2 rfl (by omega) v l.length (bv l) (by rfl) o1.drew
        ⟨w.heap.size,0,none⟩ 4 4 (bv (be 4 x)) (by rfl) (by rfl) (HN.out 4) (bv_one _)
        (by omega) (by unfold maxLen;omega) (by omega) (by simp;omega) (w.heap.size+1) (by simp) ?_;intro gg cap w2 hown2 hgrow hat hlt2;have T0:w2.cell? ⟨pb,0,none⟩=some (.pointer (some ⟨fb,0,none⟩)):=(hgrow.cell_far _ hgp np.symm).trans c2;have T1:w2.cell? ⟨fb,0,none⟩=some v:=(hgrow.cell_far _ hgf nf.symm).trans c1;have T2:w2.frozen? ⟨fb,0,none⟩=false:=(World.frozen?_of_block (a:=⟨fb,0,none⟩) (hgrow.block fb hgf nf.symm)).trans f1))
    all_goals (go_end0;exact ⟨rfl,lay_done H0.out (by omega) hgrow o1 hown2⟩)
end Go.Proofs.YtccphijgcapeoaaGreat
/-
  What makes the closure that lays numbers, and what the closure comes to at one, two and four bytes.
-/
namespace Go.Proofs.YtccphijgcapeoaaGreat
open Go.RowKit
theorem layer_any (fb:Nat) (w:World) :
 Calls Tryz.prog 153 #[.pointer (some ⟨fb,0,none⟩)] w fun e w'=>e = .returned (.func (.func 186) #[] #[.pointer (some ⟨w.heap.size,0,none⟩)])∧w'=w.alloc (.cells #[.pointer (some ⟨fb,0,none⟩)] 223):=by
 have hmf:∀ (fn:Fn) (first cap:Array Value) (w:World),(Instr.makeFunc fn first cap).run Tryz.prog w = .ok (.func fn first cap) w:=fun _ _ _ _=>rfl
 go_enter Tryz.func153,Tryz.ntmps153
 go_wp2_with fail
 go_ret
 exact ⟨rfl,rfl⟩
theorem lay_start (w:World) (t u:TypeId):LayAt ((w.alloc (.cells #[.slice none 0 0] t)).alloc (.cells #[.pointer (some ⟨w.heap.size,0,none⟩)] u)) w.heap.size w.heap.size (w.heap.size+1) (w.heap.size+2) []:=by
 have hs:(w.alloc (.cells #[.slice none 0 0] t)).heap.size=w.heap.size+1:=by simp
 have e1:((w.alloc (.cells #[.slice none 0 0] t)).alloc (.cells #[.pointer (some ⟨w.heap.size,0,none⟩)] u)).heap[w.heap.size+1]?=some (.cells #[.pointer (some ⟨w.heap.size,0,none⟩)] u):=by
  have:=heap_alloc_new (w.alloc (.cells #[.slice none 0 0] t)) (.cells #[.pointer (some ⟨w.heap.size,0,none⟩)] u)
  rwa [hs] at this
 have e0:((w.alloc (.cells #[.slice none 0 0] t)).alloc (.cells #[.pointer (some ⟨w.heap.size,0,none⟩)] u)).heap[w.heap.size]?=some (.cells #[.slice none 0 0] t):=by
  rw [heap_alloc_old _ _ (by rw [hs];omega)]
  exact heap_alloc_new w _
 refine ⟨Nat.le_refl _,by omega,by omega,by omega,by omega,by simp,?_,?_,.slice none 0 0,?_,own_nil _ _⟩
 ·rw [cell_of_row _ _ 0 _ u (0,0) e1];rfl
 ·simp
 ·rw [cell_of_row _ _ 0 _ t (0,0) e0];rfl
theorem own_low {w:World} {base base':Nat} {v:Value} {l:List UInt8} (h:Own w base v l) (hb:base'≤base):Own w base' v l:=by
 unfold Own at h ⊢
 refine ⟨h.1,?_⟩
 rcases h.2 with h2 | ⟨g,cap,cur,h2,h3,h4⟩
 ·exact Or.inl h2
 ·exact Or.inr ⟨g,cap,cur,h2,by omega,h4⟩
theorem lay1 (x:Nat) (hx:x<4294967296) (w:World) (B fb pb base:Nat) (l:List UInt8) (h:LayAt w B fb pb base l) (hl:l.length≤1000000) :
 Calls Tryz.prog 186 #[.int .u32 (x:Int),.int .i64 1,.pointer (some ⟨pb,0,none⟩)] w fun e w'=>e = .returned (.tuple #[])∧LayAt w' B fb pb base (l++be 1 x)∧Below B w w' :=
 lay_any x hx 1 (Or.inl rfl) w B fb pb base l h hl
theorem lay2 (x:Nat) (hx:x<4294967296) (w:World) (B fb pb base:Nat) (l:List UInt8) (h:LayAt w B fb pb base l) (hl:l.length≤1000000) :
 Calls Tryz.prog 186 #[.int .u32 (x:Int),.int .i64 2,.pointer (some ⟨pb,0,none⟩)] w fun e w'=>e = .returned (.tuple #[])∧LayAt w' B fb pb base (l++be 2 x)∧Below B w w' :=
 lay_any x hx 2 (Or.inr (Or.inl rfl)) w B fb pb base l h hl
theorem lay4 (x:Nat) (hx:x<4294967296) (w:World) (B fb pb base:Nat) (l:List UInt8) (h:LayAt w B fb pb base l) (hl:l.length≤1000000) :
 Calls Tryz.prog 186 #[.int .u32 (x:Int),.int .i64 4,.pointer (some ⟨pb,0,none⟩)] w fun e w'=>e = .returned (.tuple #[])∧LayAt w' B fb pb base (l++be 4 x)∧Below B w w' :=
 lay_any x hx 4 (Or.inr (Or.inr rfl)) w B fb pb base l h hl
/-- What append leaves, of two lists. -/
theorem own_grown {w:World} {base n m:Nat} {v:Value} {a b:List UInt8} (h:w.ownsRow base 5 1 v (n+m) (bv a++bv b)) :
 ∃ A c,v = .slice A (n+m) c∧Own w base (.slice A (n+m) c) (a++b)∧Bys w w.heap.size A (a++b):=by
 rw [← bv_append] at h
 obtain ⟨A,c,rfl,hl,_,_,r⟩:=Bys.of_own h
 refine ⟨A,c,rfl,?_,r⟩
 unfold Own
 rw [hl]
 exact h
/-- The cells at which bytes grow. -/
theorem LayAt.look {w:World} {B fb pb base:Nat} {l:List UInt8} (h:LayAt w B fb pb base l) {n:Nat} (hl:l.length=n) :
 ∃ v,w.cell? ⟨fb,0,none⟩=some v∧w.frozen? ⟨fb,0,none⟩=false∧w.ownsRow base 5 1 v n (bv l)∧v.ownBlock≠some fb∧fb<w.heap.size∧base≤w.heap.size:=by
 obtain ⟨v,h1,h2⟩:=h.cf
 have:=h.fl
 refine ⟨v,h1,h.ff,by rw [← hl];exact h2,fun e=>?_,World.block_lt_of_cell? _ _ h1,h.sz⟩
 have:=(h2.lt _ e).1
 omega
end Go.Proofs.YtccphijgcapeoaaGreat
/-
  What a step, and the reference's eight steps, come to.
-/
namespace Go.Proofs.YtccphijgcapeoaaGreat
open Go.RowKit
theorem and_one (w:Nat) (h:w<4294967296):bits .and .u32 (w:Int) 1=((w % 2:Nat):Int):=by
 have:=u32_and_nat w 1 h (by omega)
 rw [nat_mask1] at this
 exact this
theorem step_odd {y:Nat} (h:y<4294967296) (ho:y % 2=1):bits .xor .u32 ((y:Int) / 2) 3988292384=((step1 y:Nat):Int):=by
 have:=u32_xor_nat (y / 2) 3988292384 (by omega) (by omega)
 unfold step1
 rw [if_pos ho]
 exact this
theorem step_even {y:Nat} (ho:¬ y % 2=1):(y:Int) / 2=((step1 y:Nat):Int):=by
 unfold step1
 rw [if_neg ho,Nat.xor_zero]
 rfl
theorem step_any (x:Nat) (hx:x<4294967296) (w:World) :
 Calls Tryz.prog 211 #[.int .u32 (x:Int)] w fun e w'=>e = .returned (.int .u32 ((step1 x:Nat):Int))∧w=w':=by
 have ha:=and_one x hx
 by_cases ho:x % 2=1
 ·have hb:(bits .and .u32 (x:Int) 1==1)=true:=by rw [ha,ho];rfl
  have HO:=Lib.hid (step_odd hx ho)
  clear ha
  go_enter Tryz.func211,Tryz.ntmps211
  go_wp2_with fail
  go_ret
  exact ⟨ret_num HO.out,rfl⟩
 ·have hb:(bits .and .u32 (x:Int) 1==1)=false:=by rw [ha];simp;omega
  have HO:=Lib.hid (step_even ho)
  clear ha
  go_enter Tryz.func211,Tryz.ntmps211
  go_wp2_with fail
  go_ret
  exact ⟨ret_num HO.out,rfl⟩
end Go.Proofs.YtccphijgcapeoaaGreat
/-
  What the closure that fills one place of the table comes to.
-/
namespace Go.Proofs.YtccphijgcapeoaaGreat
open Go.RowKit
theorem fill_any (k tb:Nat) (hk:k<256) (v0:Value) (w:World) (hc:w.cell? ⟨tb,k,none⟩=some v0) (hf:w.frozen? ⟨tb,k,none⟩=false) :
 Calls Tryz.prog 210 #[.int .i64 k,.pointer (some ⟨tb,0,none⟩)] w fun e w'=>e = .returned (.tuple #[])∧w'=w.setCell ⟨tb,k,none⟩ (.int .u32 ((steps8 k:Nat):Int)):=by
 go_enter Tryz.func210,Tryz.ntmps210
 go_wp2_with fail
 go_loopw [3,6] (fun v i wr=>∃ j:Nat,j≤8∧i = .int .i64 j∧v = .int .u32 ((stepN j k:Nat):Int)∧wr=w) (fun _ i _=>8 - (RowKit.intOf i).toNat)
 case atStart=>exact ⟨0,by omega,rfl,rfl,rfl⟩
 case round =>
  obtain ⟨j,hj,rfl,rfl,rfl⟩:=hrel
  by_cases hlt:j<8
  ·have hn:stepN j k<4294967296:=stepN_lt j (by omega)
   have HS:=Lib.hid (show stepN (j+1) k=step1 (stepN j k) from rfl)
   generalize stepN j k=y at *
   go_wp2_with fail
   refine (step_any y hn _).mono ?_
   rintro e w1 ⟨rfl,rfl⟩
   go_wp2_with fail
   refine ⟨⟨j+1,by omega,by go_num,?_,trivial⟩,by simp [RowKit.intOf];omega⟩
   rw [HS.out]
  ·obtain rfl:j=8:=by omega
   go_wp2_with fail
   go_end0
   exact ⟨rfl,rfl⟩
end Go.Proofs.YtccphijgcapeoaaGreat
/-
  What Table comes to.
-/
namespace Go.Proofs.YtccphijgcapeoaaGreat
open Go.RowKit
def tabC (k:Nat):Array Value:=((List.range 256).map (fun i=>Value.int .u32 (if i<k then ((steps8 i:Nat):Int) else 0))).toArray
theorem tabC_size (k:Nat):(tabC k).size=256:=by unfold tabC;simp
theorem tabC_at (k:Nat) {i:Nat} (h:i<256):(tabC k)[i]?=some (Value.int .u32 (if i<k then ((steps8 i:Nat):Int) else 0)):=by
 unfold tabC
 rw [List.getElem?_toArray,List.getElem?_map,List.getElem?_range h]
 rfl
theorem tabC_set {k:Nat} (hk:k<256):(tabC k).setIfInBounds k (.int .u32 ((steps8 k:Nat):Int))=tabC (k+1):=by
 apply Array.ext_getElem?
 intro i
 by_cases hi:i<256
 ·rw [Array.getElem?_setIfInBounds,tabC_at (k+1) hi]
  by_cases e:k=i
  ·subst e
   rw [if_pos rfl,if_pos (by rw [tabC_size];exact hk),if_pos (by omega)]
  ·rw [if_neg e,tabC_at k hi]
   by_cases hl:i<k
   ·rw [if_pos hl,if_pos (by omega)]
   ·rw [if_neg hl,if_neg (by omega)]
 ·rw [Array.getElem?_eq_none (by rw [Array.size_setIfInBounds,tabC_size];omega),Array.getElem?_eq_none (by rw [tabC_size];omega)]
theorem tabC_one (k:Nat):(tabC k).all (·.oneCell')=true:=by
 rw [Array.all_eq_true_iff_forall_mem]
 intro v hv
 unfold tabC at hv
 rw [List.mem_toArray] at hv
 obtain ⟨i,_,rfl⟩:=List.mem_map.1 hv
 rfl
theorem two_blocks (w:World) (c d:Array Value) (t:TypeId) :
 ((w.alloc (.cells c t)).alloc (.cells d t)).heap[w.heap.size+1]?=some (.cells d t)∧((w.alloc (.cells c t)).alloc (.cells d t)).heap[w.heap.size]?=some (.cells c t):=by
 have hs:(w.alloc (.cells c t)).heap.size=w.heap.size+1:=by simp
 constructor
 ·have:=heap_alloc_new (w.alloc (.cells c t)) (.cells d t)
  rw [hs] at this
  exact this
 ·rw [heap_alloc_old _ _ (by rw [hs];omega)]
  exact heap_alloc_new w _
theorem tabInfo:(Tryz.prog.info? 267).map (fun i=>(i.zero,i.size))=some (some (.agg (tabC 0)),256):=by kernel_rfl
theorem tab_cell (w:World) (k:Nat) (hk:k<256) (t:TypeId):(w.alloc (.cells (tabC k) t)).cell? ⟨w.heap.size,k,none⟩=some (.int .u32 0):=by
 rw [cell_of_row _ w.heap.size k _ t (0,0) (heap_alloc_new w _),tabC_at k hk,if_neg (by omega)]
theorem tab_free (w:World) (k j:Nat) (t:TypeId):(w.alloc (.cells (tabC k) t)).frozen? ⟨w.heap.size,j,none⟩=false:=by simp
theorem tab_set (w:World) (k:Nat) (hk:k<256) (t:TypeId):(w.alloc (.cells (tabC k) t)).setCell ⟨w.heap.size,k,none⟩ (.int .u32 ((steps8 k:Nat):Int))=w.alloc (.cells (tabC (k+1)) t):=by
 rw [World.setCell_alloc_at _ _ _ _ _ rfl,tabC_set hk]
theorem tab_fill (w:World) (o:Obj) (k:Nat) (hk:k<256) (t:TypeId) :
 Calls Tryz.prog 210 #[.int .i64 k,.pointer (some ⟨w.heap.size+1,0,none⟩)] ((w.alloc o).alloc (.cells (tabC k) t)) fun e w'=>e = .returned (.tuple #[])∧w'=(w.alloc o).alloc (.cells (tabC (k+1)) t):=by
 have hs:w.heap.size+1=(w.alloc o).heap.size:=by simp
 rw [hs]
 refine (fill_any k _ hk _ _ (tab_cell (w.alloc o) k hk t) (tab_free _ _ _ _)).mono ?_
 rintro e w' ⟨rfl,rfl⟩
 exact ⟨rfl,tab_set _ _ hk _⟩
theorem table_any (w:World) :
 Calls Tryz.prog 203 #[] w fun e w'=>e = .returned (.agg (tabC 256))∧Below w.heap.size w w':=by
 obtain ⟨hz,hsz⟩:=zero_of_info tabInfo
 obtain ⟨F,hF⟩:∃ F,F=tabC:=⟨_,rfl⟩
 rw [← hF] at hz ⊢
 have hfill:∀ k:Nat,k<256→Calls Tryz.prog 210 #[.int .i64 (k:Int),.pointer (some ⟨w.heap.size+1,0,none⟩)] ((w.alloc (.cells (F 0) 267)).alloc (.cells (F k) 267))
  fun e w'=>e = .returned (.tuple #[])∧w'=(w.alloc (.cells (F 0) 267)).alloc (.cells (F (k+1)) 267):=by
  rw [hF]
  exact fun k hk=>tab_fill w _ k hk _
 have HF:=Lib.hid hfill
 have hsF:∀ k,(F k).size=256:=by rw [hF];exact tabC_size
 have HS:=Lib.hid hsF
 have hiF:∀ k,(Tryz.prog.info? 267).map (·.size)=some (F k).size:=fun k=>by rw [hsF k];exact hsz
 have HI:=Lib.hid hiF
 have hoF:∀ k,(F k).all (·.oneCell')=true:=by rw [hF];exact tabC_one
 have HO:=Lib.hid hoF
 clear hfill hF hsF hiF hoF hsz
 have hmf:∀ (fn:Fn) (first cap:Array Value) (w:World),(Instr.makeFunc fn first cap).run Tryz.prog w = .ok (.func fn first cap) w:=fun _ _ _ _=>rfl
 go_enter Tryz.func203,Tryz.ntmps203
 go_wp2_with fail
 go_loopw [5] (fun i wr=>∃ k:Nat,k≤256∧i = .int .i64 k∧wr=(w.alloc (.cells (F 0) 267)).alloc (.cells (F k) 267)) (fun i _=>256 - (RowKit.intOf i).toNat)
 case atStart=>exact ⟨0,by omega,rfl,rfl⟩
 case round =>
  obtain ⟨k,hk,rfl,rfl⟩:=hrel
  by_cases hlt:k<256
  ·go_wp2_with fail
   refine (HF.out k hlt).mono ?_
   rintro e w1 ⟨rfl,rfl⟩
   go_wp2_with fail
   exact ⟨⟨k+1,by omega,by go_num,rfl⟩,by simp [RowKit.intOf];omega⟩
  ·obtain rfl:k=256:=by omega
   obtain ⟨g1,g0⟩:=two_blocks w (F 0) (F 256) 267
   have G1:=Lib.hid g1
   have G0:=Lib.hid g0
   clear g1 g0
   go_wp2_with fail
   refine wp_load_row 267 (.tmp 1) rfl (w.heap.size+1) rfl 267 (F 256) (0,0) _ G1.out Tryz.underlying267 rfl (HI.out 256) ?_
   rename_i hK
   refine hK _ _ ?_
   refine wpList_store_row rfl 267 (.tmp 0) (.tmp 12) rfl w.heap.size (F 256) rfl rfl 267 (F 0) G0.out (HI.out 256) ((HS.out 0).trans (HS.out 256).symm) (HO.out 256) ?_
   go_wp2_with fail
   refine bodyPost_ret (v := .agg (F 256)) (results_cell_row rfl _ _ w.heap.size 267 (F 256) (0,0) _ rfl (setRow_heap _ _ _ _ _ _ G0.out) Tryz.underlying267 rfl (HI.out 256)) rfl ⟨rfl,?_⟩
   exact below_setRow (below_two _ _ _) (Nat.le_refl _) _
end Go.Proofs.YtccphijgcapeoaaGreat
/-
  What More and Sum come to.
-/
namespace Go.Proofs.YtccphijgcapeoaaGreat
open Go.RowKit
theorem not_spell {x:Nat} (h:x<4294967296):bits .xor .u32 IntKind.u32.max (x:Int)=((inv x:Nat):Int):=by
 have:=u32_xor_nat 4294967295 x (by omega) h
 rw [Nat.xor_comm] at this
 exact this
theorem low_spell (x:Nat) (c:UInt8):bits .xor .u8 ((x:Int) % 256) (c.toNat:Int)=((x % 256 ^^^ c.toNat:Nat):Int):=by
 have:=u8_xor_nat (x % 256) c.toNat (by omega) (UInt8.toNat_lt c)
 simpa using this
theorem low_lt (x:Nat) (c:UInt8):x % 256 ^^^ c.toNat<256:=xor_lt8 (by omega) (UInt8.toNat_lt c)
theorem crcB_spell {x:Nat} (h:x<4294967296) (c:UInt8):bits .xor .u32 ((steps8 (x % 256 ^^^ c.toNat):Nat):Int) ((x:Int) / 256)=((crcB x c:Nat):Int):=by
 rw [crcB_table]
 exact u32_xor_nat _ (x / 256) (steps8_lt (by have:=low_lt x c;omega)) (by omega)
theorem tab_read (w:World) {i:Nat} (h:i<256) (t:TypeId):(w.alloc (.cells (tabC 256) t)).cell? ⟨w.heap.size,i,none⟩=some (.int .u32 ((steps8 i:Nat):Int)):=by
 rw [cell_of_row _ w.heap.size i _ t (0,0) (heap_alloc_new w _),tabC_at 256 h,if_pos h]
def Tab (w:World) (tb:Nat):Prop:=∀ i,i<256→w.cell? ⟨tb,i,none⟩=some (.int .u32 ((steps8 i:Nat):Int))
def TabIs (Z T:Array Value):Prop :=
 (∀ w,(zeroValue 267).run Tryz.prog w = .ok (.agg Z) w)∧(Tryz.prog.info? 267).map (·.size)=some T.size∧Z.size=T.size∧T.all (·.oneCell')=true ∧
 (∀ w:World,Tab (w.alloc (.cells T 267)) w.heap.size) ∧
 ∀ w,Calls Tryz.prog 203 #[] w fun e w'=>e = .returned (.agg T)∧Below w.heap.size w w'
theorem tab_is:∃ Z T,TabIs Z T:=by
 obtain ⟨hz,hsz⟩:=zero_of_info tabInfo
 exact ⟨tabC 0,tabC 256,hz,by rw [tabC_size];exact hsz,by rw [tabC_size,tabC_size],tabC_one _,fun w i hi=>tab_read w hi _,table_any⟩
theorem more_any (s:Nat) (hs:s<4294967296) {R:Nat} (A:Option Addr) (c:Nat) (l:List UInt8) (w:World) (h:Bys w R A l) (hn:l.length≤1000000) :
 Calls Tryz.prog 187 #[.int .u32 (s:Int),.slice A l.length c] w fun e w'=>e = .returned (.int .u32 ((crcM s l:Nat):Int))∧Below w.heap.size w w':=by
 obtain ⟨Z,T,hz,hi,hZT,h1,hT,hcall⟩:=tab_is
 have HI:=Lib.hid hi
 have HZ:=Lib.hid hZT
 have H1:=Lib.hid h1
 have HT:=Lib.hid hT
 have HC:=Lib.hid hcall
 clear hi hZT h1 hT hcall
 go_enter Tryz.func187,Tryz.ntmps187
 go_wp2_with fail
 refine (HC.out _).mono ?_
 rintro e w1 ⟨rfl,b1⟩
 have h1:=h.kept b1
 clear h
 go_wp2_with (refine wpList_store_row rfl 267 (.tmp 5) (.tmp 9) rfl w1.heap.size T rfl rfl 267 Z (heap_alloc_new w1 _) HI.out HZ.out H1.out ?_;rw [World.setRow_alloc_new])
 rw [not_spell hs]
 have T2:=HT.out w1
 have h2:=h1.alloc (.cells T 267)
 have b2:Below w.heap.size w (w1.alloc (.cells T 267)):=b1.alloc b1.size _
 have HB:=Lib.hid b2
 have hb1:=b1.size
 clear h1 HT HC H1 HZ HI hz b1 b2
 generalize w1.alloc (.cells T 267)=w2 at *
 generalize w1.heap.size=tb at *
 have hv:=inv_lt hs
 have HE:=Lib.hid (show crcM s l=inv (crcF (inv s) l) from rfl)
 generalize inv s=v at *
 go_loopw [6,14] (fun x i wr=>∃ k:Nat,k≤l.length∧i = .int .i64 k∧x = .int .u32 ((crcF v (l.take k):Nat):Int)∧wr=w2) (fun _ i _=>l.length - (RowKit.intOf i).toNat)
 case atStart=>exact ⟨0,by omega,rfl,rfl,rfl⟩
 case round =>
  obtain ⟨k,hk,rfl,rfl,rfl⟩:=hrel
  by_cases hlt:k<l.length
  ·obtain ⟨b,off,z,rfl,hb,hz,hc⟩:=h2.at_ hlt
   have HN:=Lib.hid (crcF_take v hz)
   have hx:=crcF_lt (l.take k) hv
   generalize crcF v (l.take k)=x at *
   have hix:=low_spell x z
   have hil:=low_lt x z
   have hcell:=T2 _ hil
   have HX:=Lib.hid (crcB_spell hx z)
   clear hz
   generalize x % 256 ^^^ z.toNat=ix at *
   go_wp2_with fail
   refine ⟨⟨k+1,by omega,by go_num,?_,trivial⟩,by simp [RowKit.intOf];omega⟩
   rw [HX.out,HN.out]
  ·obtain rfl:k=l.length:=by omega
   rw [List.take_length]
   have hx:=crcF_lt l hv
   have HX:=Lib.hid (not_spell hx)
   generalize crcF v l=x at *
   go_wp2_with fail
   go_ret
   refine ⟨ret_num ?_,HB.out⟩
   rw [HX.out,HE.out]
theorem more_n (s:Nat) (hs:s<4294967296) {R:Nat} (A:Option Addr) (n c:Nat) (l:List UInt8) (w:World) (h:Bys w R A l) (hl:l.length=n) (hn:n≤1000000) :
 Calls Tryz.prog 187 #[.int .u32 (s:Int),.slice A n c] w fun e w'=>e = .returned (.int .u32 ((crcM s l:Nat):Int))∧Below w.heap.size w w':=by
 subst hl
 exact more_any s hs A c l w h hn
theorem sum_n {R:Nat} (A:Option Addr) (n c:Nat) (l:List UInt8) (w:World) (h:Bys w R A l) (hl:l.length=n) (hn:n≤1000000) :
 Calls Tryz.prog 154 #[.slice A n c] w fun e w'=>e = .returned (.int .u32 ((crcM 0 l:Nat):Int))∧Below w.heap.size w w':=by
 have HM:=Lib.hid (more_n 0 (by omega) A n c l w h hl hn)
 generalize crcM 0 l=x at *
 go_enter Tryz.func154,Tryz.ntmps154
 go_wp2_with fail
 refine HM.out.mono ?_
 rintro e w1 ⟨rfl,b1⟩
 go_wp2_with fail
 go_ret
 exact ⟨rfl,b1⟩
end Go.Proofs.YtccphijgcapeoaaGreat
/-
  What frame.Pack comes to, with isKind and layer.
-/
namespace Go.Proofs.YtccphijgcapeoaaGreat
open Go.RowKit
theorem isKind_any (k:Int) (w:World) :
 Calls Tryz.prog 152 #[.int .i64 k] w fun e w'=>e = .returned (.bool (decide (1≤k∧k≤4)))∧w=w':=by
 by_cases h1:1≤k
 ·by_cases h2:k≤4
  ·have HD:=Lib.hid (show decide (1≤k∧k≤4)=true from decide_eq_true ⟨h1,h2⟩)
   go_enter Tryz.func152,Tryz.ntmps152
   go_wp2_with fail
   go_ret
   exact ⟨ret_bool (by simp [h1,h2]),rfl⟩
  ·have HD:=Lib.hid (show decide (1≤k∧k≤4)=false from decide_eq_false (fun h=>h2 h.2))
   go_enter Tryz.func152,Tryz.ntmps152
   go_wp2_with fail
   go_ret
   exact ⟨ret_bool (by simp;omega),rfl⟩
 ·have HD:=Lib.hid (show decide (1≤k∧k≤4)=false from decide_eq_false (fun h=>h1 h.1))
  go_enter Tryz.func152,Tryz.ntmps152
  go_wp2_with fail
  go_ret
  exact ⟨ret_bool (by simp;omega),rfl⟩
def packB (k p:Int) (l:List UInt8):List UInt8:=if FOk k p l.length then frm k p l else []
def packE (k p:Int) (l:List UInt8):Int:=if FOk k p l.length then 0 else 1
def PackEnd (w:World) (k p:Int) (l:List UInt8) (e:Ending) (w':World):Prop :=
 ∃ v,e = .returned (.tuple #[v,.int .i64 (packE k p l)])∧Own w' w.heap.size v (packB k p l)∧Below w.heap.size w w'
theorem pack_bad {k p:Int} {l:List UInt8} (h:¬ FOk k p l.length) (w w':World) (hw:w=w'):PackEnd w k p l (.returned (.tuple #[.slice none 0 0,.int .i64 1])) w':=by
 subst hw
 refine ⟨.slice none 0 0,?_,?_,Below.refl _ _⟩
 ·rw [packE,if_neg h]
 ·rw [packB,if_neg h]
  exact own_nil _ _
theorem pack_no (k p:Int) (A:Option Addr) (n c:Nat) (l:List UInt8) (w:World) (hl:l.length=n) (h:¬ FOk k p l.length) :
 Calls Tryz.prog 119 #[.int .i64 k,.int .i64 p,.slice A n c] w (PackEnd w k p l):=by
 have HP:=Lib.hid (fun w'=>pack_bad (k:=k) (p:=p) (l:=l) h w w')
 have HK:=Lib.hid (isKind_any k)
 by_cases hk:1≤k∧k≤4
 ·rw [show decide (1≤k∧k≤4)=true from decide_eq_true hk] at HK
  by_cases hp0:p<0
  ·clear h hk
   go_enter Tryz.func119,Tryz.ntmps119
   go_wp2_with fail
   refine (HK.out _).mono ?_
   rintro e w' ⟨rfl,rfl⟩
   go_wp2_with fail
   go_ret2
   exact HP.out _ rfl
  ·by_cases hp1:p > 2147483647
   ·clear h hk
    go_enter Tryz.func119,Tryz.ntmps119
    go_wp2_with fail
    refine (HK.out _).mono ?_
    rintro e w' ⟨rfl,rfl⟩
    go_wp2_with fail
    go_ret2
    exact HP.out _ rfl
   ·have hn:1000<n:=by
     have:¬ l.length≤1000:=fun hle=>h ⟨hk.1,hk.2,by omega,by omega,hle⟩
     omega
    clear h hk hl
    go_enter Tryz.func119,Tryz.ntmps119
    go_wp2_with fail
    refine (HK.out _).mono ?_
    rintro e w' ⟨rfl,rfl⟩
    go_wp2_with fail
    go_ret2
    exact HP.out _ rfl
 ·rw [show decide (1≤k∧k≤4)=false from decide_eq_false hk] at HK
  clear h hk
  go_enter Tryz.func119,Tryz.ntmps119
  go_wp2_with fail
  refine (HK.out _).mono ?_
  rintro e w' ⟨rfl,rfl⟩
  go_wp2_with fail
  go_ret2
  exact HP.out _ rfl
theorem pack_yes {R:Nat} (k p:Nat) (A:Option Addr) (n c:Nat) (l:List UInt8) (w:World) (hl:l.length=n) (hr:Bys w R A l) (hz:A=none→n=0∧c=0) (h:FOk k p l.length) :
 Calls Tryz.prog 119 #[.int .i64 k,.int .i64 p,.slice A n c] w (PackEnd w k p l):=by
 have HP:Hid (packE k p l=0∧packB k p l=frm k p l):=by
  unfold packE packB
  rw [if_pos h,if_pos h]
  exact Lib.hid ⟨rfl,rfl⟩
 have HK:=Lib.hid (isKind_any k)
 rw [show decide (1≤(k:Int)∧(k:Int)≤4)=true from decide_eq_true ⟨h.1,h.2.1⟩] at HK
 have hk4:k≤4:=by have:=h.2.1;omega
 have hp4:p≤2147483647:=by have:=h.2.2.2.1;omega
 have hn:n≤1000:=by have:=h.2.2.2.2;omega
 obtain ⟨i0,hi,hz0,hz1,hz2⟩:=info_parts byteInfo
 have HL:=Lib.hid hl
 have HR:=Lib.hid hr
 have HZ:=Lib.hid hz
 clear h hl hr hz
 go_enter Tryz.func119,Tryz.ntmps119
 go_wp2_with fail
 refine (HK.out _).mono ?_
 rintro e w' ⟨rfl,rfl⟩
 go_wp2_with fail
 refine (layer_any _ _).mono ?_
 rintro e w1 ⟨rfl,rfl⟩
 have L0:=Lib.hid (lay_start w 115 223)
 have B0:=Lib.hid (below_two w (.cells #[.slice none 0 0] 115) (.cells #[.pointer (some ⟨w.heap.size,0,none⟩)] 223))
 go_wp2_with fail
 generalize (w.alloc (.cells #[.slice none 0 0] 115)).alloc (.cells #[.pointer (some ⟨w.heap.size,0,none⟩)] 223)=w0 at *
 refine (lay1 k (by omega) _ w.heap.size w.heap.size _ (w.heap.size+2) [] L0.out (by simp)).mono ?_
 rintro e w1 ⟨rfl,l1,b1⟩
 have L1:=Lib.hid l1
 have B1:=Lib.hid (B0.out.trans b1)
 clear l1 b1 L0 B0
 go_wp2_with fail
 refine (lay4 p (by omega) _ w.heap.size w.heap.size _ (w.heap.size+2) _ L1.out (by simp [be_length])).mono ?_
 rintro e w2 ⟨rfl,l2,b2⟩
 have L2:=Lib.hid l2
 have B2:=Lib.hid (B1.out.trans b2)
 clear l2 b2 L1 B1
 go_wp2_with fail
 refine (lay2 n (by omega) _ w.heap.size w.heap.size _ (w.heap.size+2) _ L2.out (by simp [be_length])).mono ?_
 rintro e w3 ⟨rfl,l3,b3⟩
 have HD:Hid ([]++be 1 k++be 4 p++be 2 n++l=bod (k:Int) (p:Int) l):=by
  rw [List.nil_append,← HL.out]
  exact Lib.hid rfl
 have h7:([]++be 1 k++be 4 p++be 2 n).length=7:=by simp [be_length]
 generalize []++be 1 k++be 4 p++be 2 n=hd at *
 have L3:=Lib.hid l3
 have B3:=Lib.hid (B2.out.trans b3)
 have H7:=Lib.hid h7
 obtain ⟨v3,c3,f3,o3,n3,g3,s3⟩:=l3.look h7
 have lz:=Lib.hid (Lies.bys ((HR.out.kept B3.out)) HZ.out)
 clear l3 b3 L2 B2 h7
 go_wp2_with (at_builtin;refine wpList_append_lay _ rfl (.tmp 40) (.tmp 41) 115 rfl (w.heap.size+2) 5 i0 _ 1 1 Tryz.underlying115 hi hz0 hz1 hz2 rfl (by decide) _ _ _ rfl o3 A n c (bv l) rfl (by rw [bv_length,HL.out];omega) lz.out (bv_one _) (by unfold maxLen;omega) (by omega) (by omega) ?_;intro v4 w4 hown4 hg4;obtain ⟨A4,c4,rfl,o4,r4⟩:=own_grown hown4;have d4:w4.cell? ⟨w.heap.size,0,none⟩=some v3:=(hg4.cell_far _ g3 n3.symm).trans c3;have e4:w4.frozen? ⟨w.heap.size,0,none⟩=false:=(World.frozen?_of_block (a:=⟨w.heap.size,0,none⟩) (hg4.block _ g3 n3.symm)).trans f3)
 have o5:Own (w4.setCell ⟨w.heap.size,0,none⟩ (.slice A4 (7+n) c4)) (w.heap.size+2) (.slice A4 (7+n) c4) (hd++l):=fown_of_block o4 (fun k hk=>Below.heap_setCell _ _ _ _ (fun e=>by have:=(o4.lt k hk).1;simp only at e;omega))
 have R5:=Lib.hid (own_bys o5)
 have L5:=Lib.hid (L3.out.put hg4 (fun k hk=>(o3.lt k hk).1) o4)
 have B5:Hid (Below w.heap.size w (w4.setCell ⟨w.heap.size,0,none⟩ (.slice A4 (7+n) c4))):=(B3.out.grown hg4 B3.out.size (fun g hg=>by have:=(o3.lt g hg).1;omega)).setCell (p:=⟨w.heap.size,0,none⟩) (Nat.le_refl _) _
 have hsum:(hd++l).length=7+n:=by rw [List.length_append,H7.out,HL.out]
 clear o5 o4 r4 d4 e4 hg4 hown4 c3 f3 o3 n3 g3 s3 lz L3 B3
 generalize w4.setCell ⟨w.heap.size,0,none⟩ (.slice A4 (7+n) c4)=w5 at *
 have HX:=Lib.hid (crcM_lt (s:=0) (by omega) (hd++l))
 refine (sum_n A4 (7+n) c4 (hd++l) _ R5.out hsum (by omega)).mono ?_
 rintro e w6 ⟨rfl,b6⟩
 have L6:=Lib.hid (L5.out.below b6)
 have B6:Hid (Below w.heap.size w w6):=B5.out.trans (b6.mono B5.out.size)
 have HF:Hid (hd++l++be 4 (crcM 0 (hd++l))=frm (k:Int) (p:Int) l):=by
  rw [HD.out]
  exact Lib.hid rfl
 have hsm:=Lib.hid hsum
 clear b6 R5 L5 B5 HD hsum H7
 generalize crcM 0 (hd++l)=x at *
 go_wp2_with fail
 refine (lay4 x HX.out _ w.heap.size w.heap.size _ (w.heap.size+2) _ L6.out (by rw [hsm.out];omega)).mono ?_
 rintro e w7 ⟨rfl,l7,b7⟩
 have B7:Hid (Below w.heap.size w w7):=B6.out.trans b7
 rw [HF.out] at l7
 obtain ⟨v7,c7,o7⟩:=l7.cf
 have O7:=Lib.hid o7
 clear l7 b7 L6 B6 o7 HF
 go_wp2_with fail
 go_ret2
 refine ⟨v7,?_,?_,B7.out⟩
 ·rw [HP.out.1]
  rfl
 ·rw [HP.out.2]
  exact own_low O7.out (by omega)
/-- Pack, whatever is handed in. -/
theorem pack_all {R:Nat} (k p:Int) (A:Option Addr) (n c:Nat) (l:List UInt8) (w:World) (hl:l.length=n) (hr:Bys w R A l) (hz:A=none→n=0∧c=0) :
 Calls Tryz.prog 119 #[.int .i64 k,.int .i64 p,.slice A n c] w (PackEnd w k p l):=by
 by_cases h:FOk k p l.length
 ·obtain ⟨k',rfl⟩:∃ k':Nat,k=k':=⟨k.toNat,by have:=h.1;omega⟩
  obtain ⟨p',rfl⟩:∃ p':Nat,p=p':=⟨p.toNat,by have:=h.2.2.1;omega⟩
  exact pack_yes k' p' A n c l w hl hr hz h
 ·exact pack_no k p A n c l w hl h
end Go.Proofs.YtccphijgcapeoaaGreat
/-
  What a list of bytes in memory is read as: string(b); the library's bytes.
-/
namespace Go.Proofs.YtccphijgcapeoaaGreat
open Go.RowKit
section
variable {P:Program} {w:World} {R:Nat} {A:Option Addr} {l:List UInt8}
theorem run_text (h:Bys w R A l) (src dst e:TypeId) (n c:Nat) (hn:l.length=n) (hs:P.underlying src=some (.slice e)) (he:P.underlying e=some (.int .u8)) (hd:P.underlying dst=some .string) :
 (convert src dst (.slice A n c)).run P w = .ok (.string ⟨l.toArray⟩) w:=by
 rw [run_convert_bytes_string w src dst e A n c hs he hd]
 rcases A with _ | ad
 ·rw [h.none_]
  rfl
 ·have hl:(loadCells ad n).run P w = .ok ((l.map (fun b=>(b.toNat:Int))).map (Value.int .u8)).toArray w:=by
   have:=run_loadCells_list (P:=P) w ad (bv l) h.cells
   rw [bv_length,hn] at this
   rw [this,List.map_map]
   rfl
  rw [run_bytesToString w ad n c _ hl]
  congr 2
  have:∀ (l:List UInt8) (s:ByteArray),(l.map (fun b=>(b.toNat:Int))).foldl (fun r n=>r.push (UInt8.ofNat n.toNat)) s=⟨s.data++l.toArray⟩:=by
   intro l
   induction l with
   | nil=>intro s;simp
   | cons x l ih =>
     intro s
     rw [List.map_cons,List.foldl_cons,ih]
     simp [ByteArray.push]
  rw [this]
  congr 1
  exact Array.empty_append
end
end Go.Proofs.YtccphijgcapeoaaGreat
/-
  What bytes.Equal comes to.
-/
namespace Go.Proofs.YtccphijgcapeoaaGreat
open Go.RowKit
theorem text_eq (l m:List UInt8):(l==m)=decide (l=m):=by
 rw [Bool.eq_iff_iff]
 simp
theorem bytesEqual_any {w:World} {R R':Nat} {A B:Option Addr} {l m:List UInt8} (h:Bys w R A l) (k:Bys w R' B m) (n c p d:Nat) (hn:l.length=n) (hp:m.length=p) :
 Calls Tryz.prog 120 #[.slice A n c,.slice B p d] w fun e w'=>e = .returned (.bool (decide (l=m)))∧w=w':=by
 have h1:=run_text (P:=Tryz.prog) h 115 9 5 n c hn Tryz.underlying115 Tryz.underlying5 Tryz.underlying9
 have h2:=run_text (P:=Tryz.prog) k 115 9 5 p d hp Tryz.underlying115 Tryz.underlying5 Tryz.underlying9
 have HE:=Lib.hid (text_eq l m)
 clear hn hp h k
 go_enter Tryz.func120,Tryz.ntmps120
 go_wp2_with fail
 go_ret
 exact ⟨ret_bool HE.out,rfl⟩
end Go.Proofs.YtccphijgcapeoaaGreat
/-
  What frame.Unpack comes to, with bytes.Equal.
-/
namespace Go.Proofs.YtccphijgcapeoaaGreat
open Go.RowKit
def unpK (p:Int) (b:List UInt8):Int:=if IsF p b then kin b else 0
def unpB (p:Int) (b:List UInt8):List UInt8:=if IsF p b then dat b else []
def unpE (p:Int) (b:List UInt8):Int:=if IsF p b then 0 else 50
def UnpEnd (w:World) (p:Int) (b:List UInt8) (e:Ending) (w':World):Prop :=
 ∃ v,e = .returned (.tuple #[.int .i64 (unpK p b),v,.int .i64 (unpE p b)])∧Own w' w.heap.size v (unpB p b)∧Below w.heap.size w w'
theorem unp_bad {p:Int} {b:List UInt8} (h:¬ IsF p b) {w w':World} (hb:Below w.heap.size w w'):UnpEnd w p b (.returned (.tuple #[.int .i64 0,.slice none 0 0,.int .i64 50])) w':=by
 refine ⟨.slice none 0 0,?_,?_,hb⟩
 ·rw [unpK,unpE,if_neg h,if_neg h]
 ·rw [unpB,if_neg h]
  exact own_nil _ _
theorem dat_bys {w:World} {R b off:Nat} {l:List UInt8} (h:Bys w R (some ⟨b,off,none⟩) l):Bys w R (some ⟨b,off+7,none⟩) (dat l):=by
 unfold dat
 exact (h.take _).drop 7
theorem unp_short (p:Int) (A:Option Addr) (n c:Nat) (l:List UInt8) (w:World) (hl:l.length=n) (h:n<11) :
 Calls Tryz.prog 85 #[.int .i64 p,.slice A n c] w (UnpEnd w p l):=by
 have HP:=Lib.hid (unp_bad (w:=w) (w':=w) (p:=p) (b:=l) (fun hf=>by have:=hf.1;omega) (Below.refl _ _))
 clear hl
 go_enter Tryz.func85,Tryz.ntmps85
 go_wp2_with fail
 go_ret3
 exact HP.out
theorem unp_long {R:Nat} (p:Int) (A:Option Addr) (n c:Nat) (l:List UInt8) (w:World) (hl:l.length=n) (hr:Bys w R A l) (hnc:n≤c) (hn:n≤1000000) (h:¬ n<11) :
 Calls Tryz.prog 85 #[.int .i64 p,.slice A n c] w (UnpEnd w p l):=by
 obtain ⟨b,off,z,rfl,hbR,hz,c0⟩:=hr.at_ (k:=0) (by omega)
 have HZ:=Lib.hid (kin_at hz)
 have HR:=Lib.hid hr
 have HL:=Lib.hid hl
 have hD:=dat_bys hr
 have HD:=Lib.hid hD
 have hdl:(dat l).length=n - 4 - 7:=by rw [dat_length,hl]
 have HDL:=Lib.hid hdl
 rw [Nat.add_zero] at c0
 have q0:(0:Int)<(n:Int):=by omega
 have q1:(7:Int)≤(n:Int) - 4:=by omega
 have q2:(n:Int) - 4≤(c:Int):=by omega
 have q3:(0:Int)≤(n:Int) - 4:=by omega
 have q4:¬ c=7:=by omega
 clear hl hr hz hbR hD hdl
 go_enter Tryz.func85,Tryz.ntmps85
 go_wp2_with fail
 go_quiet (fail)
 rw [show wrap64 (z.toNat:Int)=(z.toNat:Int) from by unfold wrap64;have:=UInt8.toNat_lt z;omega]
 have B1:=Lib.hid (belowN (Below.refl w.heap.size w) nq)
 have r1:=Lib.hid (HR.out.kept B1.out)
 have d1:=Lib.hid (HD.out.kept B1.out)
 have HN:Hid (n - 4 - 7≤1000000∧n≤1000000∧11≤n):=⟨by omega,hn,by omega⟩
 generalize w.drewN nq=w1 at *
 generalize n - 4 - 7=m at *
 clear HR HD c0 q0 q1 q2 q3 q4
 have HM:=HN.out.1
 go_wp2_with fail
 refine (pack_all (z.toNat:Int) p _ m (c - 7) (dat l) _ HDL.out d1.out (fun e=>by cases e)).mono ?_
 rintro e w2 ⟨v,rfl,o2,b2⟩
 rw [← HZ.out] at o2 ⊢
 have B2:Hid (Below w.heap.size w w2):=B1.out.trans (b2.mono B1.out.size)
 have r2:=Lib.hid (r1.out.kept b2)
 have d2:=Lib.hid (d1.out.kept b2)
 clear r1 d1 B1 b2
 by_cases hok:FOk (kin l) p (dat l).length
 ·have e1:packE (kin l) p (dat l)=0:=by unfold packE;rw [if_pos hok]
  have e2:packB (kin l) p (dat l)=frm (kin l) p (dat l):=by unfold packB;rw [if_pos hok]
  rw [e1]
  rw [e2] at o2
  obtain ⟨A3,c3,rfl,hl3,_,_,r3⟩:=Bys.of_own o2
  have R3:=Lib.hid r3
  have HE:=Lib.hid (bytesEqual_any r3 r2.out ((frm (kin l) p (dat l)).length) c3 n c rfl HL.out)
  by_cases hfr:frm (kin l) p (dat l)=l
  ·have hf:IsF p l:=⟨by rw [HL.out];exact HN.out.2.2,hok,hfr⟩
   have HP:Hid (unpK p l=kin l∧unpE p l=0∧unpB p l=dat l):=by
    unfold unpK unpE unpB
    rw [if_pos hf,if_pos hf,if_pos hf]
    exact Lib.hid ⟨rfl,rfl,rfl⟩
   rw [decide_eq_true hfr] at HE
   generalize (frm (kin l) p (dat l)).length=N at *
   clear e1 e2 o2 hok hl3 hfr hf r3
   generalize kin l=kk at *
   go_wp2_with fail
   refine HE.out.mono ?_
   rintro e w3 ⟨rfl,rfl⟩
   go_wp2_with fail
   refine (clone_all _ m (c - 7) _ (dat l) _ d2.out HDL.out HM (fun e=>by cases e)).mono ?_
   rintro e w4 ⟨v4,rfl,o4,b4⟩
   have O4:=Lib.hid o4
   have B4:Hid (Below w.heap.size w w4):=B2.out.trans (b4.mono B2.out.size)
   have HS:=Lib.hid B2.out.size
   clear o4 b4 B2 HE R3 r2 d2
   go_wp2_with fail
   go_ret3
   refine ⟨v4,?_,?_,B4.out⟩
   ·rw [HP.out.1,HP.out.2.1]
    rfl
   ·rw [HP.out.2.2]
    exact own_low O4.out HS.out
  ·have HP:=Lib.hid (unp_bad (p:=p) (b:=l) (fun hf=>hfr hf.2.2) B2.out)
   rw [decide_eq_false hfr] at HE
   generalize (frm (kin l) p (dat l)).length=N at *
   clear e1 e2 o2 hok hl3 hfr r3
   generalize kin l=kk at *
   go_wp2_with fail
   refine HE.out.mono ?_
   rintro e w3 ⟨rfl,rfl⟩
   go_wp2_with fail
   go_ret3
   exact HP.out
 ·have e1:packE (kin l) p (dat l)=1:=by unfold packE;rw [if_neg hok]
  have HP:=Lib.hid (unp_bad (p:=p) (b:=l) (fun hf=>hok hf.2.1) B2.out)
  rw [e1]
  clear e1 o2 hok
  generalize kin l=kk at *
  go_wp2_with fail
  go_ret3
  exact HP.out
/-- Unpack, whatever is handed in. -/
theorem unp_all {R:Nat} (p:Int) (A:Option Addr) (n c:Nat) (l:List UInt8) (w:World) (hl:l.length=n) (hr:Bys w R A l) (hnc:n≤c) (hn:n≤1000000) :
 Calls Tryz.prog 85 #[.int .i64 p,.slice A n c] w (UnpEnd w p l):=by
 by_cases h:n<11
 ·exact unp_short p A n c l w hl h
 ·exact unp_long p A n c l w hl hr hnc hn h
end Go.Proofs.YtccphijgcapeoaaGreat
/-
  What joined comes to at lists of ints.
-/
namespace Go.Proofs.YtccphijgcapeoaaGreat
open Go.RowKit
theorem IInfo0:(Tryz.prog.info? 3).map (fun i=>(i.zero,i.size,i.bytes))=some (some (.int .i64 0),1,8):=by kernel_rfl
theorem make_I (N:Nat) (hN:N≤1000000):∃ cur:Array Value,cur.size=N*1∧∀ w:World,(Instr.makeSlice 36 (.int .i64 0) (.int .i64 (N:Int))).run Tryz.prog w = .ok (.slice (some ⟨w.heap.size,0,none⟩) 0 N) (w.alloc (.cells cur 3)):=by
 obtain ⟨i0,hi,hz0,hz1,hz2⟩:=info_parts IInfo0
 refine ⟨madeCells (.int .i64 0:Value).cells (N*1),by rw [size_madeCells],fun w=>?_⟩
 have:=run_makeSlice (P:=Tryz.prog) (w:=w) 36 3 i0 _ Tryz.underlying36 hi hz0 .i64 .i64 0 (N:Int) (by omega) (by omega) (by rw [hz1];simp;omega) (by rw [hz2];omega) (by omega)
 rw [this,hz1]
 simp only [Int.toNat_natCast,Int.toNat_zero]
theorem join_I (A:Option Addr) (n c N:Nat) (ps:List Pc) (w:World) (hp:Pile w 1 A ps) (hn:ps.length=n) (hN:tot ps=N) (hb:N≤1000000) (hm:n≤1000000) :
 Calls Tryz.prog 123 #[.slice A n c] w (JoinEnd w 3 1 N (pcs ps)):=by
 obtain ⟨i0,hi,hz0,hz1,hz2⟩:=info_parts IInfo0
 obtain ⟨cur,hcs,hmk⟩:=make_I N hb
 have HP:=Lib.hid hp
 have HL:=Lib.hid hn
 have HT:=Lib.hid hN
 have HC:=Lib.hid hcs
 clear hp hn hN hcs
 go_enter Tryz.func123,Tryz.ntmps123
 go_wp2_with fail
 obtain ⟨wo,rfl⟩:∃ wo:World,wo=w:=⟨_,rfl⟩
 go_loopw [3,11] (fun s i wr=>∃ k:Nat,k≤n∧i = .int .i64 k∧s = .int .i64 (tot (ps.take k):Nat)∧wr=wo) (fun _ i _=>n - (RowKit.intOf i).toNat)
 case atStart=>exact ⟨0,Nat.zero_le _,rfl,rfl,rfl⟩
 case round =>
  obtain ⟨k,hk,rfl,rfl,hw⟩:=hrel
  have hw':=hw.symm
  subst hw'
  clear hw
  by_cases hlt:k<n
  ·obtain ⟨b,off,p,rfl,hv,c0,_,_⟩:=HP.out.at_ (k:=k) (by rw [HL.out];exact hlt)
   have hle:=tot_le ps (k+1)
   rw [tot_take hv,HT.out] at hle
   have HV:=Lib.hid (tot_take hv)
   clear hv
   generalize tot (ps.take k)=t at *
   go_wp2_with fail
   go_roundw
   case rel =>
    refine ⟨k+1,by omega,by go_num,?_,trivial⟩
    rw [HV.out]
    go_num
   case measure=>simp [RowKit.intOf];omega
  ·obtain rfl:n=k:=by omega
   have e1:tot (ps.take n)=N:=by rw [List.take_of_length_le (by rw [HL.out];omega),HT.out]
   rw [e1]
   clear e1
   go_wp2_with fail
   have O0:Hid ((wo.alloc (.cells cur 3)).ownsRow wo.heap.size 3 1 (.slice (some ⟨wo.heap.size,0,none⟩) 0 N) 0 []):=Lib.hid (World.ownsRow_made wo cur N (Nat.le_refl _) (by unfold maxLen;omega) HC.out)
   have B0:Hid (Below wo.heap.size wo (wo.alloc (.cells cur 3))):=Lib.hid (below_one _ _)
   generalize wo.alloc (.cells cur 3)=w0 at *
   clear hmk hlt
   go_loopw [6,24] (fun v i wk=>∃ k:Nat,k≤n∧i = .int .i64 k∧Hid (wk.ownsRow wo.heap.size 3 1 v (tot (ps.take k)) (pcs (ps.take k)))∧Hid (Below wo.heap.size wo wk)) (fun _ i _=>n - (RowKit.intOf i).toNat)
   case atStart=>exact ⟨0,Nat.zero_le _,rfl,O0,B0⟩
   case round =>
    obtain ⟨k,hk,rfl,O1,B1⟩:=hrel
    by_cases hlt:k<n
    ·obtain ⟨b,off,p,rfl,hv,c0,hp1,hp2⟩:=(HP.out.kept B1.out).at_ (k:=k) (by rw [HL.out];exact hlt)
     have hle:=tot_le ps (k+1)
     rw [tot_take hv,HT.out] at hle
     have HV:=Lib.hid (tot_take hv)
     have HV2:=Lib.hid (pcs_take hv)
     have HP1:=Lib.hid hp1
     have HP2:=Lib.hid hp2
     clear hv hp1 hp2
     have bs:=B1.out.size
     have o1:=O1.out
     generalize tot (ps.take k)=t at *
     go_wp2_with (at_builtin;refine wpList_append_lay _ rfl (.tmp 28) (.tmp 29) 36 rfl wo.heap.size 3 i0 (.int .i64 0) 1 8 Tryz.underlying36 hi hz0 hz1 hz2 rfl (by decide) _ _ _ rfl o1 p.A p.n p.c p.cs rfl HP1.out.len HP1.out.lies HP2.out (by unfold maxLen;omega) (by omega) bs ?_;intro v3 w3 hown3 hg3)
     have O3:Hid (w3.ownsRow wo.heap.size 3 1 v3 (tot (ps.take (k+1))) (pcs (ps.take (k+1)))):=by
      rw [HV.out,HV2.out]
      exact Lib.hid hown3
     have B3:Hid (Below wo.heap.size wo w3):=Lib.hid (B1.out.grown hg3 bs (fun g hg=>(o1.lt g hg).1))
     clear hown3 hg3 o1 O1 B1 HV HV2 HP1 HP2
     go_roundw
     case rel=>exact ⟨k+1,by omega,by go_num,O3,B3⟩
     case measure=>simp [RowKit.intOf];omega
    ·obtain rfl:n=k:=by omega
     have e1:tot (ps.take n)=N:=by rw [List.take_of_length_le (by rw [HL.out];omega),HT.out]
     have e2:ps.take n=ps:=List.take_of_length_le (by rw [HL.out];omega)
     rw [e1,e2] at O1
     go_wp2_with fail
     go_ret
     exact ⟨_,rfl,O1.out,B1.out⟩
end Go.Proofs.YtccphijgcapeoaaGreat
