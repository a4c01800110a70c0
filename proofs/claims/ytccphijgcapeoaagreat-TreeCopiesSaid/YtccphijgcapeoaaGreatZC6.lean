/-
  A part of the proof: what its texts say stands at the head of each. Conditions: none.
-/
import Derived.Laws.MakeOwn
import Derived.Deep.RegionHeld3
import Derived.IntWalk
import Derived.Deep.CutBlock
import Derived.Deep.RegionLaw
import Derived.Deep.AppendLies
import Derived.Laws.AppendOwnNone
import Derived.Deep.QuietTactic
import Derived.BigQuiet
import Derived.Deep.Cut
import Derived.Deep.DeepCutAuto
import Derived.Lib.AppendStr
import Derived.Test.YtccphijgcapeoaaGreatZC2
import Derived.Test.YtccphijgcapeoaaGreatZC5

set_option maxRecDepth 20000
set_option maxHeartbeats 12800000
/-
  What joined comes to at lists of freed pages.
-/
namespace Go.Proofs.YtccphijgcapeoaaGreat
open Go.RowKit
theorem FInfo0:(Tryz.prog.info? 129).map (fun i=>(i.zero,i.size,i.bytes))=some (some (.agg #[.int .i64 0,.int .i64 0]),2,16):=by kernel_rfl
theorem make_F (N:Nat) (hN:N≤1000000):∃ cur:Array Value,cur.size=N*2∧∀ w:World,(Instr.makeSlice 47 (.int .i64 0) (.int .i64 (N:Int))).run Tryz.prog w = .ok (.slice (some ⟨w.heap.size,0,none⟩) 0 N) (w.alloc (.cells cur 129)):=by
 obtain ⟨i0,hi,hz0,hz1,hz2⟩:=info_parts FInfo0
 refine ⟨madeCells (.agg #[.int .i64 0,.int .i64 0]:Value).cells (N*2),by rw [size_madeCells],fun w=>?_⟩
 have:=run_makeSlice (P:=Tryz.prog) (w:=w) 47 129 i0 _ Tryz.underlying47 hi hz0 .i64 .i64 0 (N:Int) (by omega) (by omega) (by rw [hz1];simp;omega) (by rw [hz2];omega) (by omega)
 rw [this,hz1]
 simp only [Int.toNat_natCast,Int.toNat_zero]
theorem join_F (A:Option Addr) (n c N:Nat) (ps:List Pc) (w:World) (hp:Pile w 2 A ps) (hn:ps.length=n) (hN:tot ps=N) (hb:N≤1000000) (hm:n≤1000000) :
 Calls Tryz.prog 122 #[.slice A n c] w (JoinEnd w 129 2 N (pcs ps)):=by
 obtain ⟨i0,hi,hz0,hz1,hz2⟩:=info_parts FInfo0
 obtain ⟨cur,hcs,hmk⟩:=make_F N hb
 have HP:=Lib.hid hp
 have HL:=Lib.hid hn
 have HT:=Lib.hid hN
 have HC:=Lib.hid hcs
 clear hp hn hN hcs
 go_enter Tryz.func122,Tryz.ntmps122
 go_wp2_with fail
 obtain ⟨wo,rfl⟩:∃ wo:World,wo=w:=⟨_,rfl⟩
 go_loopw [3,11] (fun s i wr=>∃ k:Nat,k≤n∧i = .int .i64 k∧s = .int .i64 (tot (ps.take k):Nat)∧wr=wo) (fun _ i _=>n - (RowKit.intOf i).toNat)
 case atStart=>exact ⟨0,Nat.zero_le _,rfl,rfl,rfl⟩
 case round =>
  obtain ⟨k,hk,rfl,rfl,hw⟩:=hrel
  have hw':=hw.symm
  subst hw'
  clear hw
  by_cases hlt:k<n
  ·obtain ⟨b,off,p,rfl,hv,c0,_,_⟩:=HP.out.at_ (k:=k) (by rw [HL.out];exact hlt)
   have hle:=tot_le ps (k+1)
   rw [tot_take hv,HT.out] at hle
   have HV:=Lib.hid (tot_take hv)
   clear hv
   generalize tot (ps.take k)=t at *
   go_wp2_with fail
   go_roundw
   case rel =>
    refine ⟨k+1,by omega,by go_num,?_,trivial⟩
    rw [HV.out]
    go_num
   case measure=>simp [RowKit.intOf];omega
  ·obtain rfl:n=k:=by omega
   have e1:tot (ps.take n)=N:=by rw [List.take_of_length_le (by rw [HL.out];omega),HT.out]
   rw [e1]
   clear e1
   go_wp2_with fail
   have O0:Hid ((wo.alloc (.cells cur 129)).ownsRow wo.heap.size 129 2 (.slice (some ⟨wo.heap.size,0,none⟩) 0 N) 0 []):=Lib.hid (World.ownsRow_made wo cur N (Nat.le_refl _) (by unfold maxLen;omega) HC.out)
   have B0:Hid (Below wo.heap.size wo (wo.alloc (.cells cur 129))):=Lib.hid (below_one _ _)
   generalize wo.alloc (.cells cur 129)=w0 at *
   clear hmk hlt
   go_loopw [6,24] (fun v i wk=>∃ k:Nat,k≤n∧i = .int .i64 k∧Hid (wk.ownsRow wo.heap.size 129 2 v (tot (ps.take k)) (pcs (ps.take k)))∧Hid (Below wo.heap.size wo wk)) (fun _ i _=>n - (RowKit.intOf i).toNat)
   case atStart=>exact ⟨0,Nat.zero_le _,rfl,O0,B0⟩
   case round =>
    obtain ⟨k,hk,rfl,O1,B1⟩:=hrel
    by_cases hlt:k<n
    ·obtain ⟨b,off,p,rfl,hv,c0,hp1,hp2⟩:=(HP.out.kept B1.out).at_ (k:=k) (by rw [HL.out];exact hlt)
     have hle:=tot_le ps (k+1)
     rw [tot_take hv,HT.out] at hle
     have HV:=Lib.hid (tot_take hv)
     have HV2:=Lib.hid (pcs_take hv)
     have HP1:=Lib.hid hp1
     have HP2:=Lib.hid hp2
     clear hv hp1 hp2
     have bs:=B1.out.size
     have o1:=O1.out
     generalize tot (ps.take k)=t at *
     go_wp2_with (at_builtin;refine wpList_append_lay _ rfl (.tmp 28) (.tmp 29) 47 rfl wo.heap.size 129 i0 (.agg #[.int .i64 0,.int .i64 0]) 2 16 Tryz.underlying47 hi hz0 hz1 hz2 rfl (by decide) _ _ _ rfl o1 p.A p.n p.c p.cs rfl HP1.out.len HP1.out.lies HP2.out (by unfold maxLen;omega) (by omega) bs ?_;intro v3 w3 hown3 hg3)
     have O3:Hid (w3.ownsRow wo.heap.size 129 2 v3 (tot (ps.take (k+1))) (pcs (ps.take (k+1)))):=by
      rw [HV.out,HV2.out]
      exact Lib.hid hown3
     have B3:Hid (Below wo.heap.size wo w3):=Lib.hid (B1.out.grown hg3 bs (fun g hg=>(o1.lt g hg).1))
     clear hown3 hg3 o1 O1 B1 HV HV2 HP1 HP2
     go_roundw
     case rel=>exact ⟨k+1,by omega,by go_num,O3,B3⟩
     case measure=>simp [RowKit.intOf];omega
    ·obtain rfl:n=k:=by omega
     have e1:tot (ps.take n)=N:=by rw [List.take_of_length_le (by rw [HL.out];omega),HT.out]
     have e2:ps.take n=ps:=List.take_of_length_le (by rw [HL.out];omega)
     rw [e1,e2] at O1
     go_wp2_with fail
     go_ret
     exact ⟨_,rfl,O1.out,B1.out⟩
end Go.Proofs.YtccphijgcapeoaaGreat
/-
  What Take comes to.
-/
namespace Go.Proofs.YtccphijgcapeoaaGreat
open Go.RowKit
theorem take_some {s:SS} {t z:Int} (hv:s.fr[0]?=some z):s.take t=(0,z,{ s with fr:=s.fr.drop 1 }):=by
 unfold SS.take
 cases h:s.fr with
 | nil=>rw [h] at hv;cases hv
 | cons y l =>
   rw [h] at hv
   obtain rfl:=Option.some.inj hv
   rfl
theorem take_one (s:SS) (h t:Int) (A B:Option Addr) (n c m d:Nat) (w:World) (hh:s.hi=h) (hs:Sp w A n c B m d s) (hn:n≤400000) (hm:m≤400000) (hn0:0<n) (hc1:1<c) :
 Calls Tryz.prog 87 #[.agg #[.int .i64 h,.slice A n c,.slice B m d],.int .i64 t] w (TakeEndH w (s.take t)):=by
 obtain ⟨b,off,z,rfl,hv,hz⟩:=hs.fr.intAt hn0
 have HT:=Lib.hid (take_some (t:=t) hv)
 obtain ⟨tb1,tb2,tb3⟩:=two_boxes w (.int .i64 h) (.slice (some ⟨b,off,none⟩) n c) (.slice B m d) (.int .i64 0) (.slice none 0 0) (.slice none 0 0)
 have HS:=Lib.hid (hs.kept tb3)
 have HB:=Lib.hid tb1
 have HR:=Lib.hid tb2
 have B0:=Lib.hid tb3
 have HH:=Lib.hid hh
 have HZ:=Lib.hid hz
 clear hs hh hv tb1 tb2 tb3 hz
 have hsz:((w.alloc (.cells #[.int .i64 h,.slice (some ⟨b,off,none⟩) n c,.slice B m d] 49)).alloc (.cells #[.int .i64 0,.slice none 0 0,.slice none 0 0] 49)).heap.size=w.heap.size+1+1:=by simp
 have P0:=pile_one HS.out.pe (prVals_one _) 47
 rw [hsz] at P0
 have HP0:=Lib.hid P0
 clear P0 hsz
 go_enter Tryz.func87,Tryz.ntmps87
 go_wp2_with fail
 generalize (w.alloc (.cells #[.int .i64 h,.slice (some ⟨b,off,none⟩) n c,.slice B m d] 49)).alloc (.cells #[.int .i64 0,.slice none 0 0,.slice none 0 0] 49)=w0 at *
 refine (join_F _ 1 1 m _ _ HP0.out rfl (by simp [tot]) (by omega) (by decide)).mono ?_
 rintro e w1 ⟨v1,rfl,o1,b1⟩
 rw [pcs_one] at o1
 have b01:Below w0.heap.size w0 w1:=(below_one w0 (.cells #[.slice B m d] 47)).trans (b1.mono (below_one w0 (.cells #[.slice B m d] 47)).size)
 obtain ⟨B1,d1,rfl,hd1,l1⟩:=Ln.of_own o1
 have HI1:Hid (Hi (w.heap.size+1+1) B1):=Lib.hid ((Hi.of_own o1).low (by have:=HR.out.lt;have:=(below_one w0 (.cells #[.slice B m d] 47)).size;omega))
 have L1:=Lib.hid l1
 have B1':=Lib.hid b01
 have HB1:=Lib.hid (HB.out.kept b01)
 have HR1:=Lib.hid (HR.out.kept b01)
 clear b1 o1 l1 b01 HP0
 obtain ⟨a0,a1,a2⟩:=HB1.out.cells
 have n0:(0:Int)<(n:Int):=by omega
 have n1:(1:Int)≤(n:Int):=by omega
 have n2:(n:Int)≤(c:Int):=by have:=HS.out.fr.le;omega
 have n3:(1:Int)<(c:Int):=by omega
 have n4:¬ c=1:=by omega
 have n5:(1:Int)≤(c:Int):=by omega
 have hbz:b<w.heap.size:=World.block_lt_of_cell? _ _ HZ.out
 have HZ1:Hid (w1.drew.cell? ⟨b,off,none⟩=some (.int .i64 z)):=Lib.hid (((B0.out.trans (B1'.out.mono B0.out.size)).cell (p:=⟨b,off,none⟩) hbz).trans HZ.out)
 have hb1:b<w1.heap.size:=World.block_lt_of_cell? _ _ HZ1.out
 have K0:w1.drew.cell? ⟨w.heap.size,0,none⟩=some (.int .i64 h)∧w1.drew.cell? ⟨w.heap.size,1,none⟩=some (.slice (some ⟨b,off,none⟩) n c)∧w1.drew.cell? ⟨b,off,none⟩=some (.int .i64 z):=⟨HB1.out.cells.1,HB1.out.cells.2.1,HZ1.out⟩
 have BA:=Lib.hid ((below_one w1 (.cells #[.slice (some ⟨b,off+1,none⟩) (n - 1) (c - 1)] 36)).drew)
 have PL:=Lib.hid (pile_one (w:=w1) (((HS.out.fr.kept B1'.out)).intDrop (k:=1) (by omega)) (intVals_one _) 36)
 have PL2:=Lib.hid (PL.out.kept ((Below.refl _ _).drew))
 have K1:((w1.alloc (.cells #[.slice (some ⟨b,off+1,none⟩) (n - 1) (c - 1)] 36)).drew).cell? ⟨w.heap.size,0,none⟩=some (.int .i64 h)∧((w1.alloc (.cells #[.slice (some ⟨b,off+1,none⟩) (n - 1) (c - 1)] 36)).drew).cell? ⟨w.heap.size,1,none⟩=some (.slice (some ⟨b,off,none⟩) n c)∧((w1.alloc (.cells #[.slice (some ⟨b,off+1,none⟩) (n - 1) (c - 1)] 36)).drew).cell? ⟨b,off,none⟩=some (.int .i64 z) :=
  ⟨(HB1.out.kept BA.out).cells.1,(HB1.out.kept BA.out).cells.2.1,(BA.out.cell (p:=⟨b,off,none⟩) hb1).trans HZ1.out⟩
 clear a0 a1 a2
 obtain ⟨x0,x1,x2⟩:=K0
 have K0:w1.drew.cell? ⟨w.heap.size,0,none⟩=some (.int .i64 h)∧w1.drew.cell? ⟨w.heap.size,1,none⟩=some (.slice (some ⟨b,off,none⟩) n c)∧w1.drew.cell? ⟨b,off,none⟩=some (.int .i64 z):=⟨HB1.out.cells.1,HB1.out.cells.2.1,HZ1.out⟩
 obtain ⟨y0,y1,y2⟩:=HB1.out.cells
 go_wp2_with fail
 clear y0 y1 y2
 go_region_held3 (fun w'=>w'.cell? ⟨w.heap.size,0,none⟩=some (.int .i64 h)∧w'.cell? ⟨w.heap.size,1,none⟩=some (.slice (some ⟨b,off,none⟩) n c)∧w'.cell? ⟨b,off,none⟩=some (.int .i64 z))
  (first | exact K3 | exact K2 | exact K1 | exact K0)
  (first
    | (go_at_call 123;refine (join_I _ 1 1 (n - 1) _ _ PL2.out rfl (by simp [tot]) (by omega) (by decide)).mono ?_;rintro e w2 ⟨v2,rfl,o2,b2⟩;have HB2:=Lib.hid ((HB1.out.kept BA.out).kept b2);have HR2:=Lib.hid ((HR1.out.kept BA.out).kept b2);have K2:w2.cell? ⟨w.heap.size,0,none⟩=some (.int .i64 h)∧w2.cell? ⟨w.heap.size,1,none⟩=some (.slice (some ⟨b,off,none⟩) n c)∧w2.cell? ⟨b,off,none⟩=some (.int .i64 z):=⟨HB2.out.cells.1,HB2.out.cells.2.1,(b2.cell (p:=⟨b,off,none⟩) (Nat.lt_of_lt_of_le hb1 BA.out.size)).trans K1.2.2⟩;obtain ⟨q0,q1,q2⟩:=HR2.out.cells;obtain ⟨f0,f1,f2⟩:=HR2.out.free;obtain ⟨A2,c2,rfl,hc2,l2⟩:=Ln.of_own o2;have PU:=But.put w2 (w.heap.size+1) (.int .i64 h) (.slice A2 (n - 1) c2) (.slice B1 m d1);have K3:=(show _∧_∧_ from ⟨(PU.cell (k:=w.heap.size) (by omega) 0).trans K2.1,(PU.cell (k:=w.heap.size) (by omega) 1).trans K2.2.1,(PU.cell (k:=b) (by omega) off).trans K2.2.2⟩)))
 have HI2:Hid (Hi (w.heap.size+1+1) A2):=Lib.hid ((Hi.of_own o2).low (by have:=HR1.out.lt;have:=BA.out.size;omega))
 have B2:=Lib.hid (B0.out.trans (((B1'.out.trans (BA.out.mono B1'.out.size)).trans (b2.mono (Nat.le_trans B1'.out.size BA.out.size))).mono B0.out.size))
 rw [pcs_one] at l2
 have HSp:Hid (Sp w2 A2 (n - 1) c2 B1 m d1 { s with fr:=s.fr.drop 1 }):=Lib.hid ⟨l2,(L1.out.kept BA.out).kept b2⟩
 have HD:=Lib.hid (put_doneH (h:=h) B2.out (Nat.le_succ _) HSp.out HI2.out HI1.out HH.out (.int .i64 h) (.slice A2 (n - 1) c2) (.slice B1 m d1))
 have HQ:=Lib.hid (HR2.out.put (.int .i64 h) (.slice A2 (n - 1) c2) (.slice B1 m d1))
 obtain ⟨e0,e1,e2⟩:=HQ.out.cells
 go_wp2_with fail
 refine bodyPost_ret (v := .tuple #[.agg #[.int .i64 h,.slice A2 (n - 1) c2,.slice B1 m d1],.int .i64 z,.int .i64 0]) (by simp [results,Tryz.results87,go_sem,e0,e1,e2]) rfl ?_
 rw [HT.out]
 exact ⟨_,rfl,HD.out.1,HD.out.2⟩
theorem take_last (s:SS) (h t:Int) (A B:Option Addr) (m d:Nat) (w:World) (hh:s.hi=h) (hs:Sp w A 1 1 B m d s) (hm:m≤400000) :
 Calls Tryz.prog 87 #[.agg #[.int .i64 h,.slice A 1 1,.slice B m d],.int .i64 t] w (TakeEndH w (s.take t)):=by
 obtain ⟨b,off,z,rfl,hv,hz⟩:=hs.fr.intAt (k:=0) (by omega)
 have HT:=Lib.hid (take_some (t:=t) hv)
 obtain ⟨tb1,tb2,tb3⟩:=two_boxes w (.int .i64 h) (.slice (some ⟨b,off,none⟩) 1 1) (.slice B m d) (.int .i64 0) (.slice none 0 0) (.slice none 0 0)
 have HS:=Lib.hid (hs.kept tb3)
 have HB:=Lib.hid tb1
 have HR:=Lib.hid tb2
 have B0:=Lib.hid tb3
 have HH:=Lib.hid hh
 have HZ:=Lib.hid hz
 clear hs hh hv tb1 tb2 tb3 hz
 have hsz:((w.alloc (.cells #[.int .i64 h,.slice (some ⟨b,off,none⟩) 1 1,.slice B m d] 49)).alloc (.cells #[.int .i64 0,.slice none 0 0,.slice none 0 0] 49)).heap.size=w.heap.size+1+1:=by simp
 have P0:=pile_one HS.out.pe (prVals_one _) 47
 rw [hsz] at P0
 have HP0:=Lib.hid P0
 clear P0 hsz
 go_enter Tryz.func87,Tryz.ntmps87
 go_wp2_with fail
 generalize (w.alloc (.cells #[.int .i64 h,.slice (some ⟨b,off,none⟩) 1 1,.slice B m d] 49)).alloc (.cells #[.int .i64 0,.slice none 0 0,.slice none 0 0] 49)=w0 at *
 refine (join_F _ 1 1 m _ _ HP0.out rfl (by simp [tot]) (by omega) (by decide)).mono ?_
 rintro e w1 ⟨v1,rfl,o1,b1⟩
 rw [pcs_one] at o1
 have b01:Below w0.heap.size w0 w1:=(below_one w0 (.cells #[.slice B m d] 47)).trans (b1.mono (below_one w0 (.cells #[.slice B m d] 47)).size)
 obtain ⟨B1,d1,rfl,hd1,l1⟩:=Ln.of_own o1
 have HI1:Hid (Hi (w.heap.size+1+1) B1):=Lib.hid ((Hi.of_own o1).low (by have:=HR.out.lt;have:=(below_one w0 (.cells #[.slice B m d] 47)).size;omega))
 have L1:=Lib.hid l1
 have B1':=Lib.hid b01
 have HB1:=Lib.hid (HB.out.kept b01)
 have HR1:=Lib.hid (HR.out.kept b01)
 clear b1 o1 l1 b01 HP0
 obtain ⟨a0,a1,a2⟩:=HB1.out.cells
 have hbz:b<w.heap.size:=World.block_lt_of_cell? _ _ HZ.out
 have HZ1:Hid (w1.drew.cell? ⟨b,off,none⟩=some (.int .i64 z)):=Lib.hid (((B0.out.trans (B1'.out.mono B0.out.size)).cell (p:=⟨b,off,none⟩) hbz).trans HZ.out)
 have hb1:b<w1.heap.size:=World.block_lt_of_cell? _ _ HZ1.out
 have K0:w1.drew.cell? ⟨w.heap.size,0,none⟩=some (.int .i64 h)∧w1.drew.cell? ⟨w.heap.size,1,none⟩=some (.slice (some ⟨b,off,none⟩) 1 1)∧w1.drew.cell? ⟨b,off,none⟩=some (.int .i64 z):=⟨HB1.out.cells.1,HB1.out.cells.2.1,HZ1.out⟩
 have BA:=Lib.hid ((below_one w1 (.cells #[.slice (some ⟨b,off,none⟩) 0 0] 36)).drew)
 have PL:=Lib.hid (pile_one (w:=w1) (by have:=HS.out.fr.intN;rw [List.drop_of_length_le (by omega)];exact Ln.empty _ _ _ _:Ln w1 1 (some ⟨b,off,none⟩) 0 0 (intVals (s.fr.drop 1))) (intVals_one _) 36)
 have PL2:=Lib.hid (PL.out.kept ((Below.refl _ _).drew))
 have K1:((w1.alloc (.cells #[.slice (some ⟨b,off,none⟩) 0 0] 36)).drew).cell? ⟨w.heap.size,0,none⟩=some (.int .i64 h)∧((w1.alloc (.cells #[.slice (some ⟨b,off,none⟩) 0 0] 36)).drew).cell? ⟨w.heap.size,1,none⟩=some (.slice (some ⟨b,off,none⟩) 1 1)∧((w1.alloc (.cells #[.slice (some ⟨b,off,none⟩) 0 0] 36)).drew).cell? ⟨b,off,none⟩=some (.int .i64 z) :=
  ⟨(HB1.out.kept BA.out).cells.1,(HB1.out.kept BA.out).cells.2.1,(BA.out.cell (p:=⟨b,off,none⟩) hb1).trans HZ1.out⟩
 clear a0 a1 a2
 obtain ⟨x0,x1,x2⟩:=K0
 have K0:w1.drew.cell? ⟨w.heap.size,0,none⟩=some (.int .i64 h)∧w1.drew.cell? ⟨w.heap.size,1,none⟩=some (.slice (some ⟨b,off,none⟩) 1 1)∧w1.drew.cell? ⟨b,off,none⟩=some (.int .i64 z):=⟨HB1.out.cells.1,HB1.out.cells.2.1,HZ1.out⟩
 obtain ⟨y0,y1,y2⟩:=HB1.out.cells
 go_wp2_with fail
 clear y0 y1 y2
 go_region_held3 (fun w'=>w'.cell? ⟨w.heap.size,0,none⟩=some (.int .i64 h)∧w'.cell? ⟨w.heap.size,1,none⟩=some (.slice (some ⟨b,off,none⟩) 1 1)∧w'.cell? ⟨b,off,none⟩=some (.int .i64 z))
  (first | exact K3 | exact K2 | exact K1 | exact K0)
  (first
    | (go_at_call 123;refine (join_I _ 1 1 0 _ _ PL2.out rfl (by simp [tot]) (by omega) (by decide)).mono ?_;rintro e w2 ⟨v2,rfl,o2,b2⟩;have HB2:=Lib.hid ((HB1.out.kept BA.out).kept b2);have HR2:=Lib.hid ((HR1.out.kept BA.out).kept b2);have K2:w2.cell? ⟨w.heap.size,0,none⟩=some (.int .i64 h)∧w2.cell? ⟨w.heap.size,1,none⟩=some (.slice (some ⟨b,off,none⟩) 1 1)∧w2.cell? ⟨b,off,none⟩=some (.int .i64 z):=⟨HB2.out.cells.1,HB2.out.cells.2.1,(b2.cell (p:=⟨b,off,none⟩) (Nat.lt_of_lt_of_le hb1 BA.out.size)).trans K1.2.2⟩;obtain ⟨q0,q1,q2⟩:=HR2.out.cells;obtain ⟨f0,f1,f2⟩:=HR2.out.free;obtain ⟨A2,c2,rfl,hc2,l2⟩:=Ln.of_own o2;have PU:=But.put w2 (w.heap.size+1) (.int .i64 h) (.slice A2 0 c2) (.slice B1 m d1);have K3:=(show _∧_∧_ from ⟨(PU.cell (k:=w.heap.size) (by omega) 0).trans K2.1,(PU.cell (k:=w.heap.size) (by omega) 1).trans K2.2.1,(PU.cell (k:=b) (by omega) off).trans K2.2.2⟩)))
 have HI2:Hid (Hi (w.heap.size+1+1) A2):=Lib.hid ((Hi.of_own o2).low (by have:=HR1.out.lt;have:=BA.out.size;omega))
 have B2:=Lib.hid (B0.out.trans (((B1'.out.trans (BA.out.mono B1'.out.size)).trans (b2.mono (Nat.le_trans B1'.out.size BA.out.size))).mono B0.out.size))
 rw [pcs_one] at l2
 have HSp:Hid (Sp w2 A2 0 c2 B1 m d1 { s with fr:=s.fr.drop 1 }):=Lib.hid ⟨l2,(L1.out.kept BA.out).kept b2⟩
 have HD:=Lib.hid (put_doneH (h:=h) B2.out (Nat.le_succ _) HSp.out HI2.out HI1.out HH.out (.int .i64 h) (.slice A2 0 c2) (.slice B1 m d1))
 have HQ:=Lib.hid (HR2.out.put (.int .i64 h) (.slice A2 0 c2) (.slice B1 m d1))
 obtain ⟨e0,e1,e2⟩:=HQ.out.cells
 go_wp2_with fail
 refine bodyPost_ret (v := .tuple #[.agg #[.int .i64 h,.slice A2 0 c2,.slice B1 m d1],.int .i64 z,.int .i64 0]) (by simp [results,Tryz.results87,go_sem,e0,e1,e2]) rfl ?_
 rw [HT.out]
 exact ⟨_,rfl,HD.out.1,HD.out.2⟩
theorem take_full {s:SS} {t:Int} (hl:s.fr.length=0) (hv:¬ s.hi<t):s.take t=(81,0,SS.none):=by
 unfold SS.take
 rw [List.eq_nil_of_length_eq_zero hl]
 simp only
 rw [if_neg hv]
theorem take_new {s:SS} {t:Int} (hl:s.fr.length=0) (hv:s.hi<t):s.take t=(0,s.hi,⟨s.hi+1,[],s.pe⟩):=by
 unfold SS.take
 rw [List.eq_nil_of_length_eq_zero hl]
 simp only
 rw [if_pos hv]
theorem take_none (s:SS) (h t:Int) (A B:Option Addr) (c m d:Nat) (w:World) (hh:s.hi=h) (hs:Sp w A 0 c B m d s) (hm:m≤400000) (h1 : -9223372036854775808≤h) (h2:t≤9223372036854775807) :
 Calls Tryz.prog 87 #[.agg #[.int .i64 h,.slice A 0 c,.slice B m d],.int .i64 t] w (TakeEndH w (s.take t)):=by
 obtain ⟨tb1,tb2,tb3⟩:=two_boxes w (.int .i64 h) (.slice A 0 c) (.slice B m d) (.int .i64 0) (.slice none 0 0) (.slice none 0 0)
 have HS:=Lib.hid (hs.kept tb3)
 have HB:=Lib.hid tb1
 have HR:=Lib.hid tb2
 have B0:=Lib.hid tb3
 have HFL:=Lib.hid hs.fl
 clear hs tb1 tb2 tb3
 have hsz:((w.alloc (.cells #[.int .i64 h,.slice A 0 c,.slice B m d] 49)).alloc (.cells #[.int .i64 0,.slice none 0 0,.slice none 0 0] 49)).heap.size=w.heap.size+1+1:=by simp
 have P0:=pile_one HS.out.pe (prVals_one _) 47
 rw [hsz] at P0
 have HP0:=Lib.hid P0
 have HH:=Lib.hid hh
 clear P0 hsz hh
 go_enter Tryz.func87,Tryz.ntmps87
 go_wp2_with fail
 generalize (w.alloc (.cells #[.int .i64 h,.slice A 0 c,.slice B m d] 49)).alloc (.cells #[.int .i64 0,.slice none 0 0,.slice none 0 0] 49)=w0 at *
 refine (join_F _ 1 1 m _ _ HP0.out rfl (by simp [tot]) (by omega) (by decide)).mono ?_
 rintro e w1 ⟨v1,rfl,o1,b1⟩
 rw [pcs_one] at o1
 have b01:Below w0.heap.size w0 w1:=(below_one w0 (.cells #[.slice B m d] 47)).trans (b1.mono (below_one w0 (.cells #[.slice B m d] 47)).size)
 obtain ⟨B1,d1,rfl,hd1,l1⟩:=Ln.of_own o1
 have HI1:Hid (Hi (w.heap.size+1+1) B1):=Lib.hid ((Hi.of_own o1).low (by have:=HR.out.lt;have:=(below_one w0 (.cells #[.slice B m d] 47)).size;omega))
 have L1:=Lib.hid l1
 have B2:=Lib.hid (B0.out.trans (b01.mono B0.out.size))
 have HB1:=Lib.hid (HB.out.kept b01)
 have HR1:=Lib.hid (HR.out.kept b01)
 clear b1 o1 l1 b01 HP0
 obtain ⟨y0,y1,y2⟩:=HB1.out.cells
 obtain ⟨q0,q1,q2⟩:=HR1.out.cells
 obtain ⟨f0,f1,f2⟩:=HR1.out.free
 by_cases hlt:h<t
 ·have i1:IntKind.i64.wrap (h+1)=h+1:=IntWalk.i64_in _ (by omega)
  have HT:=Lib.hid (take_new (s:=s) (t:=t) HFL.out (by rw [HH.out];exact hlt))
  have K0:w1.drew.cell? ⟨w.heap.size,0,none⟩=some (.int .i64 h):=y0
  have PU:=But.put w1 (w.heap.size+1) (.int .i64 (h+1)) (.slice none 0 0) (.slice B1 m d1)
  have K1:=(PU.cell (k:=w.heap.size) (by omega) 0).trans y0
  clear PU
  go_wp2_with fail
  go_region_held3 (fun w'=>w'.cell? ⟨w.heap.size,0,none⟩=some (.int .i64 h)) (first | exact K1 | exact K0) (fail)
  have HSp:Hid (Sp w1 none 0 0 B1 m d1 ⟨s.hi+1,[],s.pe⟩):=Lib.hid ⟨Ln.none_ _ _,L1.out⟩
  have HD:=Lib.hid (put_doneH (h:=h+1) B2.out (Nat.le_succ _) HSp.out (Hi.none_ _) HI1.out (by rw [HH.out]) (.int .i64 (h+1)) (.slice none 0 0) (.slice B1 m d1))
  have HQ:=Lib.hid (HR1.out.put (.int .i64 (h+1)) (.slice none 0 0) (.slice B1 m d1))
  obtain ⟨e0,e1,e2⟩:=HQ.out.cells
  go_wp2_with fail
  refine bodyPost_ret (v := .tuple #[.agg #[.int .i64 (h+1),.slice none 0 0,.slice B1 m d1],.int .i64 h,.int .i64 0]) (by simp [results,Tryz.results87,go_sem,e0,e1,e2]) rfl ?_
  rw [HT.out]
  exact ⟨_,by rw [HH.out],HD.out.1.kept ((Below.refl _ _).drew),HD.out.2.drew⟩
 ·have HT:=Lib.hid (take_full (s:=s) (t:=t) HFL.out (by rw [HH.out];exact hlt))
  have HD:=Lib.hid (put_doneH (h:=0) B2.out (Nat.le_succ _) (Sp.zero w1) (Hi.none_ _) (Hi.none_ _) rfl (.int .i64 0) (.slice none 0 0) (.slice none 0 0))
  have HQ:=Lib.hid (HR1.out.put (.int .i64 0) (.slice none 0 0) (.slice none 0 0))
  obtain ⟨e0,e1,e2⟩:=HQ.out.cells
  go_wp2_with fail
  refine bodyPost_ret (v := .tuple #[.agg #[.int .i64 0,.slice none 0 0,.slice none 0 0],.int .i64 0,.int .i64 81]) (by simp [results,Tryz.results87,go_sem,e0,e1,e2]) rfl ?_
  rw [HT.out]
  exact ⟨_,rfl,HD.out.1,HD.out.2⟩
theorem take_hi (s:SS) (h t:Int) (A B:Option Addr) (n c m d:Nat) (w:World) (hh:s.hi=h) (hs:Sp w A n c B m d s) (hn:n≤400000) (hm:m≤400000) (h1 : -9223372036854775808≤h) (h2:t≤9223372036854775807) :
 Calls Tryz.prog 87 #[.agg #[.int .i64 h,.slice A n c,.slice B m d],.int .i64 t] w (TakeEndH w (s.take t)):=by
 have hc:=hs.fr.le
 by_cases hn0:n=0
 ·subst hn0
  exact take_none s h t A B c m d w hh hs hm h1 h2
 ·by_cases hc1:1<c
  ·exact take_one s h t A B n c m d w hh hs hn hm (by omega) hc1
  ·obtain rfl:c=1:=by omega
   obtain rfl:n=1:=by omega
   exact take_last s h t A B m d w hh hs hm
end Go.Proofs.YtccphijgcapeoaaGreat
/-
  What pagesOf comes to.
-/
namespace Go.Proofs.YtccphijgcapeoaaGreat
open Go.RowKit
theorem pg_take {ps:List (Int×Int)} {k:Nat} {x y:Int} (h:ps[k]?=some (x,y)):intVals ((ps.take (k+1)).map (·.2))=intVals ((ps.take k).map (·.2))++[.int .i64 y]:=by
 rw [List.take_add_one,h,Option.toList_some,List.map_append,sIntVals_append]
 rfl
theorem cell_one_two (w:World) (o:Obj) (y:Value) (t:TypeId):∀ j u,[y][j]?=some u→((w.alloc o).alloc (.cells #[y] t)).cell? ((⟨w.heap.size+1,0,none⟩:Addr).add j)=some u:=by
 have h:=cell_one_new (w.alloc o) y t
 rw [show (w.alloc o).heap.size=w.heap.size+1 by simp] at h
 exact h
theorem pagesOf_any (A:Option Addr) (n c:Nat) (ps:List (Int×Int)) (w:World) (hp:Ln w 2 A n c (prVals ps)) (hn:n≤1000000) :
 Calls Tryz.prog 130 #[.slice A n c] w (JoinEnd w 3 1 n (intVals (ps.map (·.2)))):=by
 obtain ⟨i0,hi,hz0,hz1,hz2⟩:=info_parts intInfo
 have HP:=Lib.hid hp
 have HN:=Lib.hid hp.prN
 clear hp
 go_enter Tryz.func130,Tryz.ntmps130
 go_wp2_with fail
 go_loopw [3,8] (fun v i wk=>∃ k:Nat,k≤n∧i = .int .i64 k∧Hid (wk.ownsRow w.heap.size 3 1 v k (intVals ((ps.take k).map (·.2))))∧Hid (Below w.heap.size w wk)) (fun _ i _=>n - (RowKit.intOf i).toNat)
 case atStart=>exact ⟨0,Nat.zero_le _,rfl,Lib.hid (World.ownsRow_nil _ _ _ _),Lib.hid (Below.refl _ _)⟩
 case round =>
  obtain ⟨k,hk,rfl,O1,B1⟩:=hrel
  by_cases hlt:k<n
  ·obtain ⟨b,off,x,y,rfl,hv,c0,c1⟩:=(HP.out.kept B1.out).prAt hlt
   have HV:=Lib.hid (pg_take hv)
   have bs:=B1.out.size
   have o1:=O1.out
   clear hv
   go_wp2_with (at_builtin;refine wpList_append_own _ rfl (.tmp 12) (.tmp 15) 36 rfl w.heap.size 3 i0 (.int .i64 0) 1 8 Tryz.underlying36 hi hz0 hz1 hz2 rfl (by decide) _ _ _ rfl ((o1.alloc _).alloc _) ⟨wr.heap.size+1,0,none⟩ 1 1 [.int .i64 y] rfl rfl (cell_one_two _ _ _ _) (by simp [Value.oneCell']) (by unfold maxLen;omega) (by omega) (by simp;omega) ?_;intro v3 w3 hown3 hg3 _)
   have O3:Hid (w3.ownsRow w.heap.size 3 1 v3 (k+1) (intVals ((ps.take (k+1)).map (·.2)))):=by
    rw [HV.out]
    exact Lib.hid hown3
   have B3:Hid (Below w.heap.size w w3):=Lib.hid (((B1.out.alloc bs _).alloc (by simp;omega) _).grown hg3 (by simp;omega) (fun g hg=>(o1.lt g hg).1))
   clear hown3 hg3 o1 O1 B1 HV
   go_roundw
   case rel=>exact ⟨k+1,by omega,by go_num,O3,B3⟩
   case measure=>simp [RowKit.intOf];omega
  ·obtain rfl:n=k:=by omega
   have e2:ps.take n=ps:=List.take_of_length_le (by rw [HN.out];omega)
   rw [e2] at O1
   go_wp2_with fail
   go_ret
   exact ⟨_,rfl,O1.out,B1.out⟩
end Go.Proofs.YtccphijgcapeoaaGreat
/-
  Pages at their places: where a page goes, many at once in their order, and the lists that may be told by their parts. Nothing here names the program.
-/
namespace Go.Proofs.YtccphijgcapeoaaGreat.SS
def place (p:Int) (l:List Int):Nat:=(l.takeWhile (fun x=>decide (x<p))).length
theorem place_cons (p x:Int) (l:List Int):place p (x::l)=if x<p then place p l+1 else 0:=by
 unfold place
 rw [List.takeWhile_cons]
 by_cases h:x<p
 ·simp [h]
 ·simp [h]
theorem place_le (p:Int):∀ l:List Int,place p l≤l.length
 | []=>Nat.zero_le _
 | x::l=>by
   rw [place_cons,List.length_cons]
   have:=place_le p l
   split<;>omega
theorem place_lt (p:Int):∀ (l:List Int),∀ x∈l.take (place p l),x<p
 | [],x,h=>by simp at h
 | y::l,x,h=>by
   rw [place_cons] at h
   split at h
   ·rename_i hy
    rw [List.take_succ_cons] at h
    rcases List.mem_cons.1 h with rfl | h
    ·exact hy
    ·exact place_lt p l x h
   ·simp at h
theorem place_at {p:Int} {l:List Int} {k:Nat} (h1:∀ j z,j<k→l[j]?=some z→z<p) (h2:∀ z,l[k]?=some z→¬ z<p) (hk:k≤l.length):place p l=k:=by
 induction l generalizing k with
 | nil =>
   obtain rfl:k=0:=by simpa using hk
   rfl
 | cons x l ih =>
   rw [place_cons]
   match k with
   | 0 =>
     rw [if_neg (h2 x rfl)]
   | k+1 =>
     rw [if_pos (h1 0 x (by omega) rfl),ih (k:=k) (fun j z hj hz=>h1 (j+1) z (by omega) (by simpa using hz)) (fun z hz=>h2 z (by simpa using hz)) (by simpa using hk)]
theorem ins_append {p:Int}:∀ (x y:List Int),(∀ z∈x,z<p)→ins p (x++y)=x++ins p y
 | [],y,_=>rfl
 | a::x,y,h=>by
   rw [List.cons_append]
   conv=>lhs;unfold ins
   rw [if_pos (h a (by simp)),ins_append x y (fun z hz=>h z (by simp [hz])),List.cons_append]
theorem ins_comm (p q:Int):∀ l:List Int,ins p (ins q l)=ins q (ins p l)
 | []=>by
   simp only [ins]
   by_cases h1:q<p
   ·rw [if_pos h1,if_neg (by omega)]
   ·by_cases h2:p<q
    ·rw [if_neg h1,if_pos h2]
    ·obtain rfl:p=q:=by omega
     rfl
 | x::l=>by
   have ih:=ins_comm p q l
   simp only [ins]
   by_cases h1:x<q<;>by_cases h2:x<p
   ·rw [if_pos h1,if_pos h2]
    simp only [ins]
    rw [if_pos h2,if_pos h1,ih]
   ·rw [if_pos h1,if_neg h2]
    simp only [ins]
    rw [if_neg h2,if_pos (by omega),if_pos h1]
   ·rw [if_neg h1,if_pos h2]
    simp only [ins]
    rw [if_pos (by omega),if_pos h2,if_neg h1]
   ·rw [if_neg h1,if_neg h2]
    simp only [ins]
    by_cases h3:q<p
    ·rw [if_pos h3,if_neg h2,if_neg (by omega)]
    ·by_cases h4:p<q
     ·rw [if_neg h3,if_pos h4,if_neg h1]
     ·obtain rfl:p=q:=by omega
      rfl
def insL:List Int→List Int→List Int
 | [],f=>f
 | p::l,f=>ins p (insL l f)
theorem insL_perm {l m:List Int} (h:l.Perm m):∀ f,insL l f=insL m f:=by
 induction h with
 | nil=>exact fun f=>rfl
 | cons x _ ih =>
   intro f
   unfold insL
   rw [ih]
 | swap x y l =>
   intro f
   unfold insL
   unfold insL
   exact ins_comm _ _ _
 | trans _ _ h1 h2=>exact fun f=>(h1 f).trans (h2 f)
theorem insL_append {p:Int}:∀ (ps x y:List Int),(∀ q∈ps,p≤q)→(∀ z∈x,z<p)→insL ps (x++y)=x++insL ps y
 | [],x,y,_,_=>rfl
 | q::ps,x,y,h1,h2=>by
   unfold insL
   rw [insL_append ps x y (fun r hr=>h1 r (by simp [hr])) h2]
   exact ins_append _ _ (fun z hz=>by
    have:=h2 z hz
    have:=h1 q (by simp)
    omega)
def From (p:Int) (l:List Int):Prop:=∀ z,l[0]?=some z→p≤z
theorem From.ins {p q:Int} {l:List Int} (h:From p l) (hq:p≤q):From p (ins q l):=by
 match l with
 | [] =>
   intro z hz
   simp [SS.ins] at hz
   omega
 | x::l =>
   intro z hz
   have:=h x rfl
   unfold SS.ins at hz
   split at hz
   ·simp at hz
    omega
   ·simp at hz
    omega
theorem From.insL {p:Int} {f:List Int} (h:From p f):∀ (ps:List Int),(∀ q∈ps,p≤q)→From p (insL ps f)
 | [],_=>h
 | q::ps,hq=>(From.insL h ps (fun r hr=>hq r (by simp [hr]))).ins (hq q (by simp))
theorem From.head {p:Int} {l:List Int} (h:From p l):SS.ins p l=p::l:=by
 match l with
 | []=>rfl
 | x::l =>
   have:=h x rfl
   unfold SS.ins
   rw [if_neg (by omega)]
theorem from_drop (p:Int):∀ l:List Int,From p (l.drop (place p l))
 | []=>fun z hz=>by simp at hz
 | x::l=>by
   rw [place_cons]
   split
   ·rw [List.drop_succ_cons]
    exact from_drop p l
   ·intro z hz
    simp at hz
    omega
theorem insL_step {p:Int} {ps:List Int} (l:List Int) (h:∀ q∈ps,p≤q):insL (p::ps) l=l.take (place p l)++p::insL ps (l.drop (place p l)):=by
 show ins p (insL ps l)=_
 conv=>lhs;rw [← List.take_append_drop (place p l) l,insL_append ps _ _ h (place_lt p l),ins_append _ _ (place_lt p l)]
 rw [((from_drop p l).insL ps h).head]
def rises (l:List Int):Bool:=decide (l.Pairwise (·<·))
def agesB (l:List (Int×Int)):Bool:=decide (l.Pairwise (fun x y=>x.1≤y.1)) && l.all (fun x=>decide (0≤x.1))
def pages (s:SS):List Int:=s.fr++s.pe.map (·.2)
def onceB (s:SS):Bool:=decide s.pages.Nodup && s.pages.all s.may
theorem check_parts (s:SS) (top:Int):s.check top=if decide (s.hi<2) || decide (s.hi > top) || !rises s.fr || !agesB s.pe || !onceB s then 80 else 0:=by
 unfold check
 by_cases h:Fine s top
 ·rw [if_pos h]
  have h1:rises s.fr=true:=decide_eq_true h.up
  have h2:agesB s.pe=true:=by
   unfold agesB
   rw [Bool.and_eq_true]
   exact ⟨decide_eq_true h.ups,List.all_eq_true.2 (fun x hx=>decide_eq_true (h.pos x hx))⟩
  have h3:onceB s=true:=by
   unfold onceB
   rw [Bool.and_eq_true]
   refine ⟨decide_eq_true (List.nodup_append.2 ⟨h.up.imp (fun h=>by omega),h.once,fun a ha b hb=>?_⟩),List.all_eq_true.2 (fun x hx=>?_)⟩
   ·obtain ⟨x,hx,rfl⟩:=List.mem_map.1 hb
    exact fun e=>h.out x hx (by rw [← e];exact ha)
   ·refine decide_eq_true ?_
    rcases List.mem_append.1 hx with h1 | h1
    ·exact h.inF x h1
    ·obtain ⟨y,hy,rfl⟩:=List.mem_map.1 h1
     exact h.inP y hy
  have h4:=h.lo
  have h5:=h.hi
  rw [h1,h2,h3,decide_eq_false (by omega:¬ s.hi<2),decide_eq_false (by omega:¬ s.hi > top)]
  rfl
 ·rw [if_neg h]
  have:(decide (s.hi<2) || decide (s.hi > top) || !rises s.fr || !agesB s.pe || !onceB s)=true:=by
   cases hb:(decide (s.hi<2) || decide (s.hi > top) || !rises s.fr || !agesB s.pe || !onceB s) with
   | true=>rfl
   | false =>
     simp only [Bool.or_eq_false_iff,Bool.not_eq_false',decide_eq_false_iff_not] at hb
     obtain ⟨⟨⟨⟨b1,b2⟩,b3⟩,b4⟩,b5⟩:=hb
     unfold agesB at b4
     unfold onceB at b5
     rw [Bool.and_eq_true] at b4 b5
     obtain ⟨n1,n2,n3⟩:=List.nodup_append.1 (of_decide_eq_true b5.1)
     have hall:=List.all_eq_true.1 b5.2
     refine absurd ⟨by omega,by omega,of_decide_eq_true b3,fun p hp=>of_decide_eq_true (hall p (List.mem_append.2 (Or.inl hp))),of_decide_eq_true b4.1,fun x hx=>of_decide_eq_true (List.all_eq_true.1 b4.2 x hx),fun x hx=>of_decide_eq_true (hall x.2 (List.mem_append.2 (Or.inr (List.mem_map.2 ⟨x,hx,rfl⟩)))),fun x hx e=>n3 x.2 e x.2 (List.mem_map.2 ⟨x,hx,rfl⟩) rfl,n2⟩ h
  rw [this]
  rfl
theorem sorted_rises {l m:List Int} (hp:m.Perm l) (hs:m.Pairwise (·≤·)):rises m=decide l.Nodup:=by
 unfold rises
 have e:m.Pairwise (·<·) ↔ l.Nodup:=by
  constructor
  ·exact fun h=>hp.nodup_iff.1 (h.imp (fun h=>by omega))
  ·intro h
   have hn:m.Nodup:=hp.nodup_iff.2 h
   exact (List.Pairwise.and hs hn).imp (fun h=>by obtain ⟨h1,h2⟩:=h;omega)
 exact decide_eq_decide.2 e
theorem perm_all {l m:List Int} (hp:m.Perm l) (f:Int→Bool):m.all f=l.all f:=by
 induction hp with
 | nil=>rfl
 | cons x _ ih=>simp [ih]
 | swap x y l=>simp [Bool.and_left_comm]
 | trans _ _ h1 h2=>rw [h1,h2]
end Go.Proofs.YtccphijgcapeoaaGreat.SS
/-
  What known comes to: the pages of both lists.
-/
namespace Go.Proofs.YtccphijgcapeoaaGreat
open Go.RowKit
theorem pages_vals (s:SS) (A B:Option Addr) (n c m d:Nat):pcs [⟨A,n,c,intVals s.fr⟩,⟨B,m,d,intVals (s.pe.map (·.2))⟩]=intVals s.pages:=by
 unfold pcs SS.pages
 rw [sIntVals_append]
 simp
theorem own_base_low {w:World} {base base' n sz:Nat} {e:TypeId} {v:Value} {xs:List Value} (h:w.ownsRow base e sz v n xs) (hb:base'≤base):w.ownsRow base' e sz v n xs:=by
 refine ⟨h.1,?_⟩
 rcases h.2 with h2 | ⟨g,cap,cur,h2,h3,h4⟩
 ·exact Or.inl h2
 ·exact Or.inr ⟨g,cap,cur,h2,by omega,h4⟩
theorem known_any (s:SS) (h:Int) (A B:Option Addr) (n c m d:Nat) (w:World) (hs:Sp w A n c B m d s) (hn:n≤400000) (hm:m≤400000) :
 Calls Tryz.prog 97 #[.agg #[.int .i64 h,.slice A n c,.slice B m d]] w (JoinEnd w 3 1 (n+m) (intVals s.pages)):=by
 have HS:=Lib.hid (hs.kept ((below_one w (.cells #[.int .i64 h,.slice A n c,.slice B m d] 49)).drew))
 have HB:=Lib.hid ((box_new w (.int .i64 h) (.slice A n c) (.slice B m d)).kept ((Below.refl _ _).drew))
 have B1:=Lib.hid ((below_one w (.cells #[.int .i64 h,.slice A n c,.slice B m d] 49)).drew)
 have HV:=Lib.hid (pages_vals s)
 clear hs
 go_enter Tryz.func97,Tryz.ntmps97
 go_wp2_with fail
 generalize w.alloc (.cells #[.int .i64 h,.slice A n c,.slice B m d] 49)=w0 at *
 have K0:w0.drew.cell? ⟨w.heap.size,1,none⟩=some (.slice A n c)∧w0.drew.cell? ⟨w.heap.size,2,none⟩=some (.slice B m d):=HB.out.cells.2
 obtain ⟨x1,x2⟩:=K0
 have K0:w0.drew.cell? ⟨w.heap.size,1,none⟩=some (.slice A n c)∧w0.drew.cell? ⟨w.heap.size,2,none⟩=some (.slice B m d):=HB.out.cells.2
 go_region_held3 (fun w'=>w'.cell? ⟨w.heap.size,1,none⟩=some (.slice A n c)∧w'.cell? ⟨w.heap.size,2,none⟩=some (.slice B m d))
  (first | exact K3 | exact K2 | exact K1 | exact K0)
  (first
    | (go_at_call 130;refine (pagesOf_any B m d s.pe w0.drew HS.out.pe (by omega)).mono ?_;rintro e w1 ⟨v1,rfl,o1,b1⟩;obtain ⟨A1,c1,rfl,hc1,l1⟩:=Ln.of_own o1;have K1:=(HB.out.kept b1).cells.2;have K2:=((HB.out.kept b1).kept (below_one _ (.cells #[.slice A n c,.slice A1 m c1] 36))).cells.2;have P2:=pile_two (HS.out.fr.kept b1) (intVals_one _) l1 (intVals_one _) 36)
    | (go_at_call 123;refine (join_I _ 2 2 (n+m) _ _ P2 rfl (by simp [tot]) (by omega) (by decide)).mono ?_;rintro e w2 ⟨v2,rfl,o2,b2⟩;have K3:=(((HB.out.kept b1).kept (below_one _ (.cells #[.slice A n c,.slice A1 m c1] 36))).kept b2).cells.2))
 rw [HV.out] at o2
 have B2:=Lib.hid (B1.out.trans (b1.mono B1.out.size))
 have B3:=Lib.hid ((B2.out.alloc B2.out.size (.cells #[.slice A n c,.slice A1 m c1] 36)).trans (b2.mono (B2.out.alloc B2.out.size (.cells #[.slice A n c,.slice A1 m c1] 36)).size))
 have O2:=Lib.hid o2
 clear K0 K1 K2 K3 x1 x2 P2 o2 b1 b2 o1 l1
 go_wp2_with fail
 go_ret
 exact ⟨_,rfl,own_base_low O2.out (B2.out.alloc B2.out.size (.cells #[.slice A n c,.slice A1 m c1] 36)).size,B3.out⟩
end Go.Proofs.YtccphijgcapeoaaGreat
/-
  What wasUsed comes to.
-/
namespace Go.Proofs.YtccphijgcapeoaaGreat
open Go.RowKit
theorem wasUsed_any (s:SS) (h p:Int) (A B:Option Addr) (n c m d:Nat) (w:World) (hh:s.hi=h) :
 Calls Tryz.prog 101 #[.agg #[.int .i64 h,.slice A n c,.slice B m d],.int .i64 p] w fun e w'=>e = .returned (.bool (s.may p))∧Below w.heap.size w w':=by
 by_cases h1:2≤p
 ·by_cases h2:p<h
  ·have HD:Hid (s.may p=true):=Lib.hid (decide_eq_true ⟨h1,by rw [hh];exact h2⟩)
   clear hh
   go_enter Tryz.func101,Tryz.ntmps101
   go_wp2_with fail
   go_ret
   exact ⟨ret_bool HD.out.symm,below_one _ _⟩
  ·have HD:Hid (s.may p=false):=Lib.hid (decide_eq_false (fun e=>h2 (by rw [← hh];exact e.2)))
   clear hh
   go_enter Tryz.func101,Tryz.ntmps101
   go_wp2_with fail
   go_ret
   exact ⟨ret_bool HD.out.symm,below_one _ _⟩
 ·have HD:Hid (s.may p=false):=Lib.hid (decide_eq_false (fun e=>h1 e.1))
  clear hh
  go_enter Tryz.func101,Tryz.ntmps101
  go_wp2_with fail
  go_ret
  exact ⟨ret_bool HD.out.symm,below_one _ _⟩
end Go.Proofs.YtccphijgcapeoaaGreat
/-
  What slices.Contains comes to at a list of ints.
-/
namespace Go.Proofs.YtccphijgcapeoaaGreat
open Go.RowKit
def NotIn (zs:List Int) (k:Nat) (p:Int):Prop:=p ∉ zs.take k
theorem NotIn.more {zs:List Int} {k:Nat} {p x:Int} (h:NotIn zs k p) (hv:zs[k]?=some x) (hx:¬ p=x):NotIn zs (k+1) p:=by
 unfold NotIn
 rw [List.take_add_one,hv,Option.toList_some,List.mem_append]
 rintro (h1 | h1)
 ·exact h h1
 ·exact hx (by simpa using h1)
theorem sindex_any (A:Option Addr) (n c:Nat) (zs:List Int) (p:Int) (w:World) (hz:Ln w 1 A n c (intVals zs)) (hn:n≤1000000) :
 Calls Tryz.prog 188 #[.slice A n c,.int .i64 p] w fun e w'=>(∃ r:Int,e = .returned (.int .i64 r)∧(decide (r ≥ 0))=decide (p∈zs))∧w'=w:=by
 have HZ:=Lib.hid hz
 have HN:=Lib.hid hz.intN
 clear hz
 go_enter Tryz.func188,Tryz.ntmps188
 go_wp2_with fail
 obtain ⟨wo,rfl⟩:∃ wo:World,wo=w:=⟨_,rfl⟩
 go_loopw [8] (fun i wk=>∃ k:Nat,k≤n∧i = .int .i64 k∧Hid (NotIn zs k p)∧wk=wo) (fun i _=>n - (RowKit.intOf i).toNat)
 case atStart=>exact ⟨0,Nat.zero_le _,rfl,Lib.hid (by simp [NotIn]),rfl⟩
 case round =>
  obtain ⟨k,hk,rfl,HL,hw⟩:=hrel
  have hw':=hw.symm
  subst hw'
  clear hw
  by_cases hlt:k<n
  ·obtain ⟨b,off,x,rfl,hv,c0⟩:=HZ.out.intAt hlt
   by_cases hx:p=x
   ·have HM:=Lib.hid (List.mem_of_getElem? hv)
    subst hx
    clear hv HL
    go_wp2_with fail
    go_ret
    exact ⟨⟨_,rfl,by rw [decide_eq_true HM.out,decide_eq_true (by omega)]⟩,rfl⟩
   ·have HM:=Lib.hid (HL.out.more hv hx)
    have hb:(p==x)=false:=by simpa using hx
    clear hv HL hx
    go_wp2_with fail
    go_roundw
    case rel=>exact ⟨k+1,by omega,by go_num,HM,trivial⟩
    case measure=>simp [RowKit.intOf];omega
  ·obtain rfl:n=k:=by omega
   have hm:=HL.out
   unfold NotIn at hm
   rw [List.take_of_length_le (by rw [HN.out];exact Nat.le_refl _)] at hm
   have HM:=Lib.hid hm
   clear hm
   go_wp2_with fail
   go_ret
   exact ⟨⟨_,rfl,by rw [decide_eq_false HM.out];rfl⟩,rfl⟩
theorem scontains_any (A:Option Addr) (n c:Nat) (zs:List Int) (p:Int) (w:World) (hz:Ln w 1 A n c (intVals zs)) (hn:n≤1000000) :
 Calls Tryz.prog 158 #[.slice A n c,.int .i64 p] w fun e w'=>e = .returned (.bool (decide (p∈zs)))∧w'=w:=by
 have HZ:=Lib.hid hz
 clear hz
 go_enter Tryz.func158,Tryz.ntmps158
 go_wp2_with fail
 refine (sindex_any A n c zs p w HZ.out hn).mono ?_
 rintro e w2 ⟨⟨r,rfl,hr⟩,rfl⟩
 go_wp2_with fail
 go_ret
 exact ⟨rfl,rfl⟩
end Go.Proofs.YtccphijgcapeoaaGreat
/-
  What mayCome comes to.
-/
namespace Go.Proofs.YtccphijgcapeoaaGreat
open Go.RowKit
theorem known_dec (s:SS) (p:Int):decide (p∈s.pages)=s.known p:=by
 unfold SS.pages SS.known
 rw [← Bool.decide_or]
 exact decide_eq_decide.2 List.mem_append
theorem mayCome_any (s:SS) (h p:Int) (A B:Option Addr) (n c m d:Nat) (w:World) (hh:s.hi=h) (hs:Sp w A n c B m d s) (hn:n≤400000) (hm:m≤400000) :
 Calls Tryz.prog 124 #[.agg #[.int .i64 h,.slice A n c,.slice B m d],.int .i64 p] w fun e w'=>e = .returned (.bool (s.may p && !(s.known p)))∧Below w.heap.size w w':=by
 have HS:=Lib.hid (hs.kept (below_one w (.cells #[.int .i64 h,.slice A n c,.slice B m d] 49)))
 have HB:=Lib.hid (box_new w (.int .i64 h) (.slice A n c) (.slice B m d))
 have B0:=Lib.hid (below_one w (.cells #[.int .i64 h,.slice A n c,.slice B m d] 49))
 have HH:=Lib.hid hh
 clear hs hh
 go_enter Tryz.func124,Tryz.ntmps124
 go_wp2_with fail
 generalize w.alloc (.cells #[.int .i64 h,.slice A n c,.slice B m d] 49)=w0 at *
 refine (wasUsed_any s h p A B n c m d w0 HH.out).mono ?_
 rintro e w1 ⟨rfl,b1⟩
 have B1:=Lib.hid b1
 clear b1
 cases hp:s.may p with
 | false =>
   have B2:=Lib.hid (B0.out.trans (B1.out.mono B0.out.size))
   have HP:=Lib.hid hp
   clear hp
   go_wp2_with fail
   go_ret
   exact ⟨ret_bool (by rw [HP.out];rfl),B2.out⟩
 | true =>
   have HP:=Lib.hid hp
   clear hp
   obtain ⟨c0,c1,c2⟩:=(HB.out.kept B1.out).cells
   go_wp2_with fail
   refine (known_any s h A B n c m d w1 (HS.out.kept B1.out) hn hm).mono ?_
   rintro e w2 ⟨v2,rfl,o2,b2⟩
   have B2:=Lib.hid (B1.out.trans (b2.mono B1.out.size))
   obtain ⟨A2,d2,rfl,hc2,l2⟩:=Ln.of_own o2
   have L2:=Lib.hid l2
   clear c0 c1 c2 b2 o2 l2
   go_wp2_with fail
   refine (scontains_any A2 (n+m) d2 s.pages p w2 L2.out (by omega)).mono ?_
   rintro e w3 ⟨rfl,rfl⟩
   rw [known_dec]
   have B3:=Lib.hid (B0.out.trans (B2.out.mono B0.out.size))
   go_wp2_with fail
   go_ret
   exact ⟨ret_bool (by rw [HP.out];rfl),B3.out⟩
end Go.Proofs.YtccphijgcapeoaaGreat
/-
  What lastEpoch comes to.
-/
namespace Go.Proofs.YtccphijgcapeoaaGreat
open Go.RowKit
theorem last_at {s:SS} {k:Nat} {x y:Int} (hl:s.pe.length=k+1) (hv:s.pe[k]?=some (x,y)):s.last=x:=by
 unfold SS.last
 rw [List.getLast?_eq_getElem?,hl,Nat.add_sub_cancel,hv]
 rfl
theorem last_nil {s:SS} (hl:s.pe.length=0):s.last=0:=by
 unfold SS.last
 rw [List.eq_nil_of_length_eq_zero hl]
 rfl
theorem last_any (A:Option Addr) (n c:Nat) (s:SS) (w:World) (hp:Ln w 2 A n c (prVals s.pe)) (hn:n≤1000000) :
 Calls Tryz.prog 125 #[.slice A n c] w fun e w'=>e = .returned (.int .i64 s.last)∧w'=w:=by
 have hl:=hp.prN
 rcases n with _ | k
 ·have HM:=Lib.hid (last_nil hl)
  clear hp hl
  go_enter Tryz.func125,Tryz.ntmps125
  go_wp2_with fail
  go_ret
  exact ⟨ret_int HM.out.symm,rfl⟩
 ·obtain ⟨b,off,x,y,rfl,hv,c0,c1⟩:=hp.prAt (k:=k) (by omega)
  have HM:=Lib.hid (last_at hl hv)
  have hz:((((k+1:Nat):Int))==0)=false:=by simp;omega
  have e1:wrap64 (((k+1:Nat):Int) - 1)=(k:Int):=by unfold wrap64;omega
  have e2:((k+1:Nat):Int)=(k:Int)+1:=by omega
  clear hp hl hv
  go_enter Tryz.func125,Tryz.ntmps125
  go_wp2_with fail
  go_ret
  exact ⟨ret_int HM.out.symm,rfl⟩
end Go.Proofs.YtccphijgcapeoaaGreat
/-
  What Give comes to.
-/
namespace Go.Proofs.YtccphijgcapeoaaGreat
open Go.RowKit
theorem give_ill {s:SS} {e p:Int} (h:s.giveBad e p=true):s.give e p=(1,SS.none):=by
 unfold SS.give
 rw [if_pos h]
theorem give_well {s:SS} {e p:Int} (h:s.giveBad e p=false):s.give e p=(0,{ s with pe:=s.pe++[(e,p)] }):=by
 unfold SS.give
 rw [if_neg (by rw [h];simp)]
theorem giveBad_may {s:SS} {e p:Int} (h:(s.may p && !(s.known p))=false):s.giveBad e p=true:=by
 unfold SS.giveBad
 cases h1:s.may p<;>cases h2:s.known p<;>simp [h1,h2] at h ⊢
theorem giveBad_age {s:SS} {e p:Int} (h:e<0∨e<s.last):s.giveBad e p=true:=by
 unfold SS.giveBad
 rcases h with h | h<;>simp [h]
theorem giveBad_no {s:SS} {e p:Int} (h:(s.may p && !(s.known p))=true) (h1:¬ e<0) (h2:¬ e<s.last):s.giveBad e p=false:=by
 unfold SS.giveBad
 cases h3:s.may p<;>cases h4:s.known p<;>simp [h3,h4] at h ⊢
 omega
theorem give_zero {w w1:World} {r:Nat} (hb:Below w.heap.size w w1) (hr:w.heap.size≤r):SpEndH w 1 SS.none (.returned (.tuple #[.agg #[.int .i64 0,.slice none 0 0,.slice none 0 0],.int .i64 1])) (((w1.setCell ⟨r,0,none⟩ (.int .i64 0)).setCell ⟨r,1,none⟩ (.slice none 0 0)).setCell ⟨r,2,none⟩ (.slice none 0 0)) :=
 have hd:=put_doneH (h:=0) hb hr (Sp.zero w1) (Hi.none_ _) (Hi.none_ _) rfl (.int .i64 0) (.slice none 0 0) (.slice none 0 0)
 ⟨_,rfl,hd.1,hd.2⟩
theorem pend_pile {w:World} {B:Option Addr} {m d:Nat} {ps:List (Int×Int)} (h:Ln w 2 B m d (prVals ps)) (e p:Int) (t u:TypeId) :
 Pile ((w.alloc (.cells #[.int .i64 e,.int .i64 p] t)).alloc (.cells #[.slice B m d,.slice (some ⟨w.heap.size,0,none⟩) 1 1] u)) 2 (some ⟨w.heap.size+1,0,none⟩) [⟨B,m,d,prVals ps⟩,⟨some ⟨w.heap.size,0,none⟩,1,1,prVals [(e,p)]⟩]:=by
 have h1:=pile_two (h.kept (below_one w (.cells #[.int .i64 e,.int .i64 p] t))) (prVals_one _) (ln_pair w e p t) (prVals_one _) u
 rw [show (w.alloc (.cells #[.int .i64 e,.int .i64 p] t)).heap.size=w.heap.size+1 by simp] at h1
 exact h1
theorem pend_below (w:World) (B:Option Addr) (m d:Nat) (e p:Int) (t u:TypeId):Below w.heap.size w ((w.alloc (.cells #[.int .i64 e,.int .i64 p] t)).alloc (.cells #[.slice B m d,.slice (some ⟨w.heap.size,0,none⟩) 1 1] u)):=below_two w _ _
theorem pend_vals (A B:Option Addr) (n c m d:Nat) (ps:List (Int×Int)) (e p:Int):pcs [⟨A,n,c,prVals ps⟩,⟨B,m,d,prVals [(e,p)]⟩]=prVals (ps++[(e,p)]):=by
 unfold pcs
 rw [prVals_append]
 simp
theorem give_hi (s:SS) (h e p:Int) (A B:Option Addr) (n c m d:Nat) (w:World) (hh:s.hi=h) (hs:Sp w A n c B m d s) (hn:n≤300000) (hm:m≤300000) :
 Calls Tryz.prog 89 #[.agg #[.int .i64 h,.slice A n c,.slice B m d],.int .i64 e,.int .i64 p] w (SpEndH w (s.give e p).1 (s.give e p).2):=by
 obtain ⟨tb1,tb2,tb3⟩:=two_boxes w (.int .i64 h) (.slice A n c) (.slice B m d) (.int .i64 0) (.slice none 0 0) (.slice none 0 0)
 have HS:=Lib.hid (hs.kept tb3)
 have HB:=Lib.hid tb1
 have HR:=Lib.hid tb2
 have B0:=Lib.hid tb3
 have HH:=Lib.hid hh
 clear hs hh tb1 tb2 tb3
 go_enter Tryz.func89,Tryz.ntmps89
 go_wp2_with fail
 generalize (w.alloc (.cells #[.int .i64 h,.slice A n c,.slice B m d] 49)).alloc (.cells #[.int .i64 0,.slice none 0 0,.slice none 0 0] 49)=w0 at *
 refine (mayCome_any s h p A B n c m d w0 HH.out HS.out (by omega) (by omega)).mono ?_
 rintro e1 w1 ⟨rfl,b1⟩
 have B1:=Lib.hid (B0.out.trans (b1.mono B0.out.size))
 have HB1:=Lib.hid (HB.out.kept b1)
 have HR1:=Lib.hid (HR.out.kept b1)
 have HS1:=Lib.hid (HS.out.kept b1)
 clear b1 HB HR HS B0
 cases hmc:(s.may p && !(s.known p)) with
 | false =>
   have HT:=Lib.hid (give_ill (giveBad_may (e:=e) hmc))
   have HD:=Lib.hid (give_zero B1.out (Nat.le_add_right w.heap.size 1))
   obtain ⟨e0,e1,e2⟩:=(Lib.hid (HR1.out.put (.int .i64 0) (.slice none 0 0) (.slice none 0 0))).out.cells
   obtain ⟨q0,q1,q2⟩:=HR1.out.cells
   obtain ⟨f0,f1,f2⟩:=HR1.out.free
   clear hmc
   go_wp2_with fail
   refine bodyPost_ret (v := .tuple #[.agg #[.int .i64 0,.slice none 0 0,.slice none 0 0],.int .i64 1]) (by simp [results,Tryz.results89,go_sem,e0,e1,e2]) rfl ?_
   rw [HT.out]
   exact HD.out
 | true =>
   have HMC:=Lib.hid hmc
   obtain ⟨y0,y1,y2⟩:=HB1.out.cells
   clear hmc
   go_wp2_with fail
   refine (last_any B m d s w1 HS1.out.pe (by omega)).mono ?_
   rintro e1 w2 ⟨rfl,rfl⟩
   obtain ⟨L,hL⟩:∃ L,s.last=L:=⟨_,rfl⟩
   rw [hL]
   have HL:=Lib.hid hL
   clear hL
   by_cases hL0:0<L
   ·by_cases he:e<L
    ·have HT:=Lib.hid (give_ill (giveBad_age (s:=s) (p:=p) (e:=e) (by rw [HL.out];omega)))
     have HD:=Lib.hid (give_zero B1.out (Nat.le_add_right w.heap.size 1))
     obtain ⟨e0,e1,e2⟩:=(Lib.hid (HR1.out.put (.int .i64 0) (.slice none 0 0) (.slice none 0 0))).out.cells
     obtain ⟨q0,q1,q2⟩:=HR1.out.cells
     obtain ⟨f0,f1,f2⟩:=HR1.out.free
     go_wp2_with fail
     refine bodyPost_ret (v := .tuple #[.agg #[.int .i64 0,.slice none 0 0,.slice none 0 0],.int .i64 1]) (by simp [results,Tryz.results89,go_sem,e0,e1,e2]) rfl ?_
     rw [HT.out]
     exact HD.out
    ·have HT:=Lib.hid (give_well (giveBad_no (s:=s) (e:=e) (p:=p) HMC.out (by omega) (by rw [HL.out];omega)))
     have PF:=Lib.hid (pend_pile HS1.out.pe e p 129 47)
     have BF:=Lib.hid (pend_below w2 B m d e p 129 47)
     go_wp2_with fail
     clear y0 y1 y2
     refine (join_F _ 2 2 (m+1) _ _ PF.out rfl (by simp [tot]) (by omega) (by decide)).mono ?_
     rintro e1 w3 ⟨v3,rfl,o3,b3⟩
     rw [pend_vals] at o3
     obtain ⟨B3,d3,rfl,hd3,l3⟩:=Ln.of_own o3
     have HI3:Hid (Hi (w.heap.size+1+1) B3):=Lib.hid ((Hi.of_own o3).low (by have:=HR1.out.lt;have:=BF.out.size;omega))
     have b23:=BF.out.trans (b3.mono BF.out.size)
     have L3:=Lib.hid l3
     have HB3:=Lib.hid (HB1.out.kept b23)
     have HR3:=Lib.hid (HR1.out.kept b23)
     have B3':=Lib.hid (B1.out.trans (b23.mono B1.out.size))
     have PL:=Lib.hid ((pile_one (HS1.out.fr.kept b23) (intVals_one _) 36).kept ((Below.refl _ _).drew))
     have BA:=Lib.hid ((below_one w3 (.cells #[.slice A n c] 36)).drew)
     have K0:w3.drew.cell? ⟨w.heap.size,0,none⟩=some (.int .i64 h)∧w3.drew.cell? ⟨w.heap.size,1,none⟩=some (.slice A n c):=⟨HB3.out.cells.1,HB3.out.cells.2.1⟩
     obtain ⟨x0,x1⟩:=K0
     have K0:w3.drew.cell? ⟨w.heap.size,0,none⟩=some (.int .i64 h)∧w3.drew.cell? ⟨w.heap.size,1,none⟩=some (.slice A n c):=⟨HB3.out.cells.1,HB3.out.cells.2.1⟩
     have K1:((w3.alloc (.cells #[.slice A n c] 36)).drew).cell? ⟨w.heap.size,0,none⟩=some (.int .i64 h)∧((w3.alloc (.cells #[.slice A n c] 36)).drew).cell? ⟨w.heap.size,1,none⟩=some (.slice A n c):=⟨(HB3.out.kept BA.out).cells.1,(HB3.out.kept BA.out).cells.2.1⟩
     clear b3 b23 o3 l3 PF
     go_wp2_with fail
     go_region_held3 (fun w'=>w'.cell? ⟨w.heap.size,0,none⟩=some (.int .i64 h)∧w'.cell? ⟨w.heap.size,1,none⟩=some (.slice A n c))
      (first | exact K3 | exact K2 | exact K1 | exact K0)
      (first
        | (go_at_call 123;refine (join_I _ 1 1 n _ _ PL.out rfl (by simp [tot]) (by omega) (by decide)).mono ?_;rintro e1 w4 ⟨v4,rfl,o4,b4⟩;have HB4:=Lib.hid ((HB3.out.kept BA.out).kept b4);have HR4:=Lib.hid ((HR3.out.kept BA.out).kept b4);have K2:w4.cell? ⟨w.heap.size,0,none⟩=some (.int .i64 h)∧w4.cell? ⟨w.heap.size,1,none⟩=some (.slice A n c):=⟨HB4.out.cells.1,HB4.out.cells.2.1⟩;obtain ⟨q0,q1,q2⟩:=HR4.out.cells;obtain ⟨f0,f1,f2⟩:=HR4.out.free;obtain ⟨A4,c4,rfl,hc4,l4⟩:=Ln.of_own o4;have PU:=But.put w4 (w.heap.size+1) (.int .i64 h) (.slice A4 n c4) (.slice B3 (m+1) d3);have K3:=(show _∧_ from ⟨(PU.cell (k:=w.heap.size) (by omega) 0).trans K2.1,(PU.cell (k:=w.heap.size) (by omega) 1).trans K2.2⟩)))
     have HI4:Hid (Hi (w.heap.size+1+1) A4):=Lib.hid ((Hi.of_own o4).low (by have:=HR3.out.lt;have:=BA.out.size;omega))
     have B4:=Lib.hid (B3'.out.trans ((BA.out.trans (b4.mono BA.out.size)).mono B3'.out.size))
     rw [pcs_one] at l4
     have HSp:Hid (Sp w4 A4 n c4 B3 (m+1) d3 { s with pe:=s.pe++[(e,p)] }):=Lib.hid ⟨l4,(L3.out.kept BA.out).kept b4⟩
     have HD:=Lib.hid (put_doneH (h:=h) B4.out (Nat.le_add_right w.heap.size 1) HSp.out HI4.out HI3.out HH.out (.int .i64 h) (.slice A4 n c4) (.slice B3 (m+1) d3))
     obtain ⟨e0,e1,e2⟩:=(Lib.hid (HR4.out.put (.int .i64 h) (.slice A4 n c4) (.slice B3 (m+1) d3))).out.cells
     go_wp2_with fail
     refine bodyPost_ret (v := .tuple #[.agg #[.int .i64 h,.slice A4 n c4,.slice B3 (m+1) d3],.int .i64 0]) (by simp [results,Tryz.results89,go_sem,e0,e1,e2]) rfl ?_
     rw [HT.out]
     exact ⟨_,rfl,HD.out.1,HD.out.2⟩
   ·by_cases he:e<0
    ·have HT:=Lib.hid (give_ill (giveBad_age (s:=s) (p:=p) (e:=e) (by rw [HL.out];omega)))
     have HD:=Lib.hid (give_zero B1.out (Nat.le_add_right w.heap.size 1))
     obtain ⟨e0,e1,e2⟩:=(Lib.hid (HR1.out.put (.int .i64 0) (.slice none 0 0) (.slice none 0 0))).out.cells
     obtain ⟨q0,q1,q2⟩:=HR1.out.cells
     obtain ⟨f0,f1,f2⟩:=HR1.out.free
     go_wp2_with fail
     refine bodyPost_ret (v := .tuple #[.agg #[.int .i64 0,.slice none 0 0,.slice none 0 0],.int .i64 1]) (by simp [results,Tryz.results89,go_sem,e0,e1,e2]) rfl ?_
     rw [HT.out]
     exact HD.out
    ·have HT:=Lib.hid (give_well (giveBad_no (s:=s) (e:=e) (p:=p) HMC.out (by omega) (by rw [HL.out];omega)))
     have PF:=Lib.hid (pend_pile HS1.out.pe e p 129 47)
     have BF:=Lib.hid (pend_below w2 B m d e p 129 47)
     go_wp2_with fail
     clear y0 y1 y2
     refine (join_F _ 2 2 (m+1) _ _ PF.out rfl (by simp [tot]) (by omega) (by decide)).mono ?_
     rintro e1 w3 ⟨v3,rfl,o3,b3⟩
     rw [pend_vals] at o3
     obtain ⟨B3,d3,rfl,hd3,l3⟩:=Ln.of_own o3
     have HI3:Hid (Hi (w.heap.size+1+1) B3):=Lib.hid ((Hi.of_own o3).low (by have:=HR1.out.lt;have:=BF.out.size;omega))
     have b23:=BF.out.trans (b3.mono BF.out.size)
     have L3:=Lib.hid l3
     have HB3:=Lib.hid (HB1.out.kept b23)
     have HR3:=Lib.hid (HR1.out.kept b23)
     have B3':=Lib.hid (B1.out.trans (b23.mono B1.out.size))
     have PL:=Lib.hid ((pile_one (HS1.out.fr.kept b23) (intVals_one _) 36).kept ((Below.refl _ _).drew))
     have BA:=Lib.hid ((below_one w3 (.cells #[.slice A n c] 36)).drew)
     have K0:w3.drew.cell? ⟨w.heap.size,0,none⟩=some (.int .i64 h)∧w3.drew.cell? ⟨w.heap.size,1,none⟩=some (.slice A n c):=⟨HB3.out.cells.1,HB3.out.cells.2.1⟩
     obtain ⟨x0,x1⟩:=K0
     have K0:w3.drew.cell? ⟨w.heap.size,0,none⟩=some (.int .i64 h)∧w3.drew.cell? ⟨w.heap.size,1,none⟩=some (.slice A n c):=⟨HB3.out.cells.1,HB3.out.cells.2.1⟩
     have K1:((w3.alloc (.cells #[.slice A n c] 36)).drew).cell? ⟨w.heap.size,0,none⟩=some (.int .i64 h)∧((w3.alloc (.cells #[.slice A n c] 36)).drew).cell? ⟨w.heap.size,1,none⟩=some (.slice A n c):=⟨(HB3.out.kept BA.out).cells.1,(HB3.out.kept BA.out).cells.2.1⟩
     clear b3 b23 o3 l3 PF
     go_wp2_with fail
     go_region_held3 (fun w'=>w'.cell? ⟨w.heap.size,0,none⟩=some (.int .i64 h)∧w'.cell? ⟨w.heap.size,1,none⟩=some (.slice A n c))
      (first | exact K3 | exact K2 | exact K1 | exact K0)
      (first
        | (go_at_call 123;refine (join_I _ 1 1 n _ _ PL.out rfl (by simp [tot]) (by omega) (by decide)).mono ?_;rintro e1 w4 ⟨v4,rfl,o4,b4⟩;have HB4:=Lib.hid ((HB3.out.kept BA.out).kept b4);have HR4:=Lib.hid ((HR3.out.kept BA.out).kept b4);have K2:w4.cell? ⟨w.heap.size,0,none⟩=some (.int .i64 h)∧w4.cell? ⟨w.heap.size,1,none⟩=some (.slice A n c):=⟨HB4.out.cells.1,HB4.out.cells.2.1⟩;obtain ⟨q0,q1,q2⟩:=HR4.out.cells;obtain ⟨f0,f1,f2⟩:=HR4.out.free;obtain ⟨A4,c4,rfl,hc4,l4⟩:=Ln.of_own o4;have PU:=But.put w4 (w.heap.size+1) (.int .i64 h) (.slice A4 n c4) (.slice B3 (m+1) d3);have K3:=(show _∧_ from ⟨(PU.cell (k:=w.heap.size) (by omega) 0).trans K2.1,(PU.cell (k:=w.heap.size) (by omega) 1).trans K2.2⟩)))
     have HI4:Hid (Hi (w.heap.size+1+1) A4):=Lib.hid ((Hi.of_own o4).low (by have:=HR3.out.lt;have:=BA.out.size;omega))
     have B4:=Lib.hid (B3'.out.trans ((BA.out.trans (b4.mono BA.out.size)).mono B3'.out.size))
     rw [pcs_one] at l4
     have HSp:Hid (Sp w4 A4 n c4 B3 (m+1) d3 { s with pe:=s.pe++[(e,p)] }):=Lib.hid ⟨l4,(L3.out.kept BA.out).kept b4⟩
     have HD:=Lib.hid (put_doneH (h:=h) B4.out (Nat.le_add_right w.heap.size 1) HSp.out HI4.out HI3.out HH.out (.int .i64 h) (.slice A4 n c4) (.slice B3 (m+1) d3))
     obtain ⟨e0,e1,e2⟩:=(Lib.hid (HR4.out.put (.int .i64 h) (.slice A4 n c4) (.slice B3 (m+1) d3))).out.cells
     go_wp2_with fail
     refine bodyPost_ret (v := .tuple #[.agg #[.int .i64 h,.slice A4 n c4,.slice B3 (m+1) d3],.int .i64 0]) (by simp [results,Tryz.results89,go_sem,e0,e1,e2]) rfl ?_
     rw [HT.out]
     exact ⟨_,rfl,HD.out.1,HD.out.2⟩
end Go.Proofs.YtccphijgcapeoaaGreat
/-
  append, as one step of a drawn region; rows of one's own that grow apart.
-/
namespace Go.Proofs.YtccphijgcapeoaaGreat
open Go.RowKit
theorem shape_own {w:World} {base n sz:Nat} {e:TypeId} {v:Value} {xs:List Value} (h:w.ownsRow base e sz v n xs):∃ A c,v = .slice A n c:=by
 obtain ⟨A,c,h1,_⟩:=Ln.of_own h
 exact ⟨A,c,h1⟩
theorem row_below {w w':World} {base n sz:Nat} {e:TypeId} {v:Value} {xs:List Value} (h:w.ownsRow base e sz v n xs) (hb:Below w.heap.size w w'):w'.ownsRow base e sz v n xs:=by
 have hg:w.grownBy w' none:=⟨hb.os,hb.tape,hb.output,hb.size,fun k hk _=>hb.block k hk⟩
 refine h.kept hg ?_
 cases e:v.ownBlock with
 | none=>exact Or.inl rfl
 | some g=>exact Or.inr (by simp)
theorem step_append_ln {P:Program} (w:World) {ops:Array Oper} {o:Oper} {a:Act} {K:Act→World→Prop} {Q:Exit→Act→World→Prop} {E:Prop} (hgd:o.guard=none) (s x:Operand) (t:TypeId)
 (ho:o.op = .call { callee := .builtin .append,args:=#[s,x],argTypes:=#[t,t] })
 (base:Nat) (e:TypeId) (i:TypeInfo) (z:Value) (size bytes:Nat) (ht:P.underlying t=some (.slice e)) (hi:P.info? e=some i) (hz:i.zero=some z)
 (hsize:i.size=size) (hby:i.bytes=bytes) (hzs:z.cells.size=size) (hsz:0<size)
 (v:Value) (n:Nat) (xs:List Value) (hs:a.eval s=v) (hown:w.ownsRow base e size v n xs)
 (A:Option Addr) (m c:Nat) (news:List Value) (hx:a.eval x = .slice A m c) (hl:Ln w size A m c news) (h1:∀ u∈news,u.oneCell'=true)
 (h63:n+m≤maxLen) (hbytes:(n+m)*bytes≤140737488355328) (hbase:base≤w.heap.size)
 (h:∀ A' c' w',w'.ownsRow base e size (.slice A' (n+m) c') (n+m) (xs++news)→w.grownBy w' v.ownBlock→K (a.put o.dst (.slice A' (n+m) c')) w') :
 if Region.wanted o (yielded ops a.tmps)=true then Oper.wp P o a w K Q else E:=by
 have hw:Region.wanted o (yielded ops a.tmps)=true:=by simp [Region.wanted,hgd]
 rw [if_pos hw]
 rcases A with _ | ad
 ·obtain ⟨rfl,rfl⟩:=hl.lies.1 rfl
  obtain rfl:news=[]:=List.eq_nil_of_length_eq_zero (by have:=hl.len;omega)
  have hrun:=run_append_owned_none (P:=P) (w:=w) base t o.type e i size ht hi v n xs hown
  obtain ⟨A',c',rfl⟩:=shape_own hown
  unfold Oper.wp
  simp [execOp,ho,resolve,invoke,builtin,hs,hx,hrun,Result.andThen]
  exact h A' c' w (by simpa using hown) (World.grownBy.refl _ _)
 ·refine wp_append_own w s x t ho base e i z size bytes ht hi hz hsize hby hzs hsz v n xs hs hown ad m c news hx hl.len (hl.lies.2 ad rfl) h1 h63 hbytes hbase (fun v' w' h2 h3 _=>?_)
  obtain ⟨A',c',rfl⟩:=shape_own h2
  exact h A' c' w' h2 h3
theorem own_empty {w:World} {base g sz:Nat} {t:TypeId} (h:w.heap[g]?=some (.cells #[] t (0,0))) (hb:base≤g):w.ownsRow base t sz (.slice (some ⟨g,0,none⟩) 0 0) 0 [] :=
 ⟨by simp,.inr ⟨g,0,#[],rfl,hb,h,Nat.le_refl _,Nat.zero_le _,by simp,by simp⟩⟩
theorem empty_new (w:World) (t:TypeId):(w.alloc (.cells #[] t)).heap[w.heap.size]?=some (.cells #[] t (0,0)):=heap_alloc_new w _
theorem step_append_ls {P:Program} (w:World) {ops:Array Oper} {o:Oper} {a:Act} {K:Act→World→Prop} {Q:Exit→Act→World→Prop} {E:Prop} (hgd:o.guard=none) (s x:Operand) (t:TypeId)
 (ho:o.op = .call { callee := .builtin .append,args:=#[s,x],argTypes:=#[t,t] })
 (base:Nat) (e:TypeId) (i:TypeInfo) (z:Value) (size bytes:Nat) (ht:P.underlying t=some (.slice e)) (hi:P.info? e=some i) (hz:i.zero=some z)
 (hsize:i.size=size) (hby:i.bytes=bytes) (hzs:z.cells.size=size) (hsz:0<size)
 (S:Option Addr) (n d:Nat) (xs:List Value) (hs:a.eval s = .slice S n d) (hown:w.ownsRow base e size (.slice S n d) n xs)
 (A:Option Addr) (m c:Nat) (news:List Value) (hx:a.eval x = .slice A m c) (hl:Ln w size A m c news) (h1:∀ u∈news,u.oneCell'=true)
 (h63:n+m≤maxLen) (hbytes:(n+m)*bytes≤140737488355328) (hbase:base≤w.heap.size)
 (h:∀ A' c' w',w'.ownsRow base e size (.slice A' (n+m) c') (n+m) (xs++news)→w.grownBy w' (Value.slice S n d).ownBlock→K (a.put o.dst (.slice A' (n+m) c')) w') :
 if Region.wanted o (yielded ops a.tmps)=true then Oper.wp P o a w K Q else E :=
 step_append_ln w hgd s x t ho base e i z size bytes ht hi hz hsize hby hzs hsz _ n xs hs hown A m c news hx hl h1 h63 hbytes hbase h
theorem own_grown_hi {w a:World} {B:Nat} {w':World} {base sz n:Nat} {e:TypeId} {v:Value} {xs:List Value} (hb:Below B a w) (hB:B≤w.heap.size) (h:w.ownsRow base e sz v n xs) (hbase:B≤base) (hg:w.grownBy w' v.ownBlock):Below B a w' :=
 Below.grown hb hg hB (fun k hk=>Nat.le_trans hbase (h.lt k hk).1)
end Go.Proofs.YtccphijgcapeoaaGreat
/-
  What place comes to, with slices.IndexFunc at its closure.
-/
namespace Go.Proofs.YtccphijgcapeoaaGreat
open Go.RowKit
theorem placeFn_any (z p:Int) (g:Nat) (w:World) (hc:w.cell? ⟨g,0,none⟩=some (.int .i64 p)) :
 Calls Tryz.prog 189 #[.int .i64 z,.pointer (some ⟨g,0,none⟩)] w fun e w'=>e = .returned (.bool (decide (z ≥ p)))∧w'=w:=by
 go_enter Tryz.func189,Tryz.ntmps189
 go_wp2_with fail
 go_ret
 exact ⟨rfl,rfl⟩
def Lows (zs:List Int) (k:Nat) (p:Int):Prop:=∀ j z,j<k→zs[j]?=some z→z<p
theorem Lows.more {zs:List Int} {k:Nat} {p x:Int} (h:Lows zs k p) (hv:zs[k]?=some x) (hx:x<p):Lows zs (k+1) p:=by
 intro j z hj hz
 by_cases e:j=k
 ·subst e
  rw [hv] at hz
  obtain rfl:=Option.some.inj hz
  exact hx
 ·exact h j z (by omega) hz
theorem Lows.hit {zs:List Int} {k:Nat} {p x:Int} (h:Lows zs k p) (hv:zs[k]?=some x) (hx:¬ x<p):SS.place p zs=k:=by
 obtain ⟨hk,_⟩:=List.getElem?_eq_some_iff.1 hv
 refine SS.place_at h (fun z hz=>?_) (by omega)
 rw [hv] at hz
 obtain rfl:=Option.some.inj hz
 exact hx
theorem Lows.miss {zs:List Int} {p:Int} {n:Nat} (h:Lows zs n p) (hn:zs.length=n):SS.place p zs=n:=by
 refine SS.place_at h (fun z hz=>?_) (by omega)
 rw [List.getElem?_eq_none (by omega)] at hz
 cases hz
def placeR (p:Int) (zs:List Int) (n:Nat):Int:=if SS.place p zs=n then -1 else (SS.place p zs:Nat)
theorem indexP_any (A:Option Addr) (n c:Nat) (zs:List Int) (p:Int) (g:Nat) (w:World) (hz:Ln w 1 A n c (intVals zs)) (hc:w.cell? ⟨g,0,none⟩=some (.int .i64 p)) (hn:n≤1000000) :
 Calls Tryz.prog 132 #[.slice A n c,.func (.func 189) #[] #[.pointer (some ⟨g,0,none⟩)]] w fun e w'=>e = .returned (.int .i64 (placeR p zs n))∧w'=w:=by
 have HZ:=Lib.hid hz
 have HN:=Lib.hid hz.intN
 have HF:=Lib.hid (fun z=>placeFn_any z p g w hc)
 clear hz hc
 go_enter Tryz.func132,Tryz.ntmps132
 go_wp2_with fail
 obtain ⟨wo,rfl⟩:∃ wo:World,wo=w:=⟨_,rfl⟩
 go_loopw [8] (fun i wk=>∃ k:Nat,k≤n∧i = .int .i64 k∧Hid (Lows zs k p)∧wk=wo) (fun i _=>n - (RowKit.intOf i).toNat)
 case atStart=>exact ⟨0,Nat.zero_le _,rfl,Lib.hid (fun j z hj=>absurd hj (Nat.not_lt_zero _)),rfl⟩
 case round =>
  obtain ⟨k,hk,rfl,HL,hw⟩:=hrel
  have hw':=hw.symm
  subst hw'
  clear hw
  by_cases hlt:k<n
  ·obtain ⟨b,off,x,rfl,hv,c0⟩:=HZ.out.intAt hlt
   by_cases hx:x<p
   ·have HM:=Lib.hid (HL.out.more hv hx)
    have hb:decide (x ≥ p)=false:=decide_eq_false (by omega)
    clear hv HL hx
    go_wp2_with fail
    refine (HF.out x).mono ?_
    rintro e w1 ⟨rfl,rfl⟩
    go_wp2_with fail
    go_roundw
    case rel=>exact ⟨k+1,by omega,by go_num,HM,trivial⟩
    case measure=>simp [RowKit.intOf];omega
   ·have hp:=HL.out.hit hv hx
    have HM:Hid (placeR p zs n=(k:Int)):=Lib.hid (by unfold placeR;rw [if_neg (by omega),hp])
    have hb:decide (x ≥ p)=true:=decide_eq_true (by omega)
    clear hv HL hx hp
    go_wp2_with fail
    refine (HF.out x).mono ?_
    rintro e w1 ⟨rfl,rfl⟩
    go_wp2_with fail
    go_ret
    exact ⟨ret_int HM.out.symm,rfl⟩
  ·obtain rfl:n=k:=by omega
   have hp:=HL.out.miss HN.out
   have HM:Hid (placeR p zs n = -1):=Lib.hid (by unfold placeR;rw [if_pos hp])
   clear hp
   go_wp2_with fail
   go_ret
   exact ⟨ret_int HM.out.symm,rfl⟩
theorem place_any (A:Option Addr) (n c:Nat) (zs:List Int) (p:Int) (w:World) (hz:Ln w 1 A n c (intVals zs)) (hn:n≤1000000) :
 Calls Tryz.prog 159 #[.slice A n c,.int .i64 p] w fun e w'=>e = .returned (.int .i64 (SS.place p zs:Nat))∧Below w.heap.size w w':=by
 have hmf:∀ (fn:Fn) (first cap:Array Value) (w:World),(Instr.makeFunc fn first cap).run Tryz.prog w = .ok (.func fn first cap) w:=fun _ _ _ _=>rfl
 have HZ:=Lib.hid (hz.kept (below_one w (.cells #[.int .i64 p] 3)))
 have HN:=Lib.hid hz.intN
 have B1:=Lib.hid (below_one w (.cells #[.int .i64 p] 3))
 have hc:(w.alloc (.cells #[.int .i64 p] 3)).cell? ⟨w.heap.size,0,none⟩=some (.int .i64 p):=by simp
 clear hz
 go_enter Tryz.func159,Tryz.ntmps159
 go_wp2_with fail
 generalize w.alloc (.cells #[.int .i64 p] 3)=w1 at *
 refine (indexP_any A n c zs p w.heap.size w1 HZ.out hc hn).mono ?_
 rintro e w2 ⟨rfl,rfl⟩
 have hle:SS.place p zs≤n:=by have:=SS.place_le p zs;rw [HN.out] at this;exact this
 by_cases hp:SS.place p zs=n
 ·have HR:placeR p zs n = -1:=by unfold placeR;rw [if_pos hp]
  have HP:=Lib.hid hp
  rw [HR]
  clear HR hp hc
  go_wp2_with fail
  go_ret
  exact ⟨ret_int (by rw [HP.out]),B1.out⟩
 ·have HR:placeR p zs n=(SS.place p zs:Nat):=by unfold placeR;rw [if_neg hp]
  obtain ⟨k,hk⟩:∃ k,SS.place p zs=k:=⟨_,rfl⟩
  rw [HR,hk]
  have HK:=Lib.hid hk
  clear HR hp hc hk hle
  have i0:¬ ((k:Int)<0):=by omega
  go_wp2_with fail
  go_ret
  exact ⟨ret_int (by rw [HK.out]),B1.out⟩
end Go.Proofs.YtccphijgcapeoaaGreat
/-
  What slices.Equal comes to at lists of ints, and of texts.
-/
namespace Go.Proofs.YtccphijgcapeoaaGreat
open Go.RowKit
theorem ttake_more {α:Type} {xs ys:List α} {k:Nat} {z:α} (h:xs.take k=ys.take k) (hx:xs[k]?=some z) (hy:ys[k]?=some z):xs.take (k+1)=ys.take (k+1):=by
 rw [List.take_add_one,List.take_add_one,h,hx,hy]
theorem equal_I (A B:Option Addr) (n c m d:Nat) (xs ys:List Int) (w:World) (hx:Ln w 1 A n c (intVals xs)) (hy:Ln w 1 B m d (intVals ys)) (hn:n≤1000000) :
 Calls Tryz.prog 110 #[.slice A n c,.slice B m d] w fun e w'=>e = .returned (.bool (decide (xs=ys)))∧Below w.heap.size w w':=by
 have hxl:=hx.intN
 have hyl:=hy.intN
 by_cases hl:n=m
 ·have hl':((n:Int) != (m:Int))=false:=by simp [hl]
  have HL:Hid (xs.length=n∧ys.length=n):=Lib.hid (by omega)
  have hlx:n≤m:=by omega
  have hly:m≤n:=by omega
  have HX:=Lib.hid hx
  have HY:=Lib.hid hy
  clear hl hxl hyl hx hy
  go_enter Tryz.func110,Tryz.ntmps110
  go_wp2_with fail
  go_loopw [13] (fun i wr=>∃ k:Nat,k≤n∧i = .int .i64 k∧Hid (xs.take k=ys.take k)∧Below w.heap.size w wr) (fun i _=>n - (RowKit.intOf i).toNat)
  case atStart=>exact ⟨0,Nat.zero_le _,rfl,Lib.hid (by simp),Below.refl _ _⟩
  case round =>
   obtain ⟨k,hk,rfl,hpre,hb⟩:=hrel
   by_cases hlt:k<n
   ·obtain ⟨b,off,z,rfl,hv,c0⟩:=(HX.out.kept hb).intAt hlt
    obtain ⟨b',off',z',rfl,hv',c0'⟩:=(HY.out.kept hb).intAt (k:=k) (by omega)
    have hV:=Lib.hid hv
    have hV':=Lib.hid hv'
    clear hv hv'
    have i0:(0:Int)≤(k:Int):=by omega
    have i1:(k:Int)<(m:Int):=by omega
    by_cases hz:z=z'
    ·subst hz
     go_wp2_with fail
     go_quiet (fail)
     go_wp2_with fail
     go_roundw
     case rel=>exact ⟨k+1,by omega,by go_num,Lib.hid (ttake_more hpre.out hV.out hV'.out),belowN hb _⟩
     case measure=>simp [RowKit.intOf];omega
    ·have hz':(z != z')=true:=by simpa using hz
     clear hz
     go_wp2_with fail
     go_quiet (fail)
     go_wp2_with fail
     go_ret
     refine ⟨ret_bool (decide_eq_false (fun e=>?_)).symm,belowN hb _⟩
     have h1:=hV.out
     rw [e,hV'.out] at h1
     simp at h1
     exact absurd h1.symm (by simpa using hz')
   ·obtain rfl:k=n:=by omega
    go_wp2_with fail
    go_ret
    refine ⟨ret_bool (decide_eq_true ?_).symm,hb⟩
    have:=hpre.out
    rw [List.take_of_length_le (by have:=HL.out;omega),List.take_of_length_le (by have:=HL.out;omega)] at this
    exact this
 ·have hl':((n:Int) != (m:Int))=true:=by simp;omega
  have hfin:decide (xs=ys)=false:=decide_eq_false (fun e=>hl (by rw [← hxl,← hyl,e]))
  rw [hfin]
  clear hfin hx hy hxl hyl
  go_enter Tryz.func110,Tryz.ntmps110
  go_wp2_with fail
  go_ret
  exact ⟨rfl,Below.refl _ _⟩
theorem equal_S (A B:Option Addr) (n c m d:Nat) (xs ys:List (List UInt8)) (w:World) (hx:Ln w 1 A n c (strVals xs)) (hy:Ln w 1 B m d (strVals ys)) (hn:n≤1000000) :
 Calls Tryz.prog 109 #[.slice A n c,.slice B m d] w fun e w'=>e = .returned (.bool (decide (xs=ys)))∧Below w.heap.size w w':=by
 have hxl:=hx.strN
 have hyl:=hy.strN
 by_cases hl:n=m
 ·have hl':((n:Int) != (m:Int))=false:=by simp [hl]
  have HL:Hid (xs.length=n∧ys.length=n):=Lib.hid (by omega)
  have hlx:n≤m:=by omega
  have hly:m≤n:=by omega
  have HX:=Lib.hid hx
  have HY:=Lib.hid hy
  clear hl hxl hyl hx hy
  go_enter Tryz.func109,Tryz.ntmps109
  go_wp2_with fail
  go_loopw [13] (fun i wr=>∃ k:Nat,k≤n∧i = .int .i64 k∧Hid (xs.take k=ys.take k)∧Below w.heap.size w wr) (fun i _=>n - (RowKit.intOf i).toNat)
  case atStart=>exact ⟨0,Nat.zero_le _,rfl,Lib.hid (by simp),Below.refl _ _⟩
  case round =>
   obtain ⟨k,hk,rfl,hpre,hb⟩:=hrel
   by_cases hlt:k<n
   ·obtain ⟨b,off,z,rfl,hv,c0⟩:=(HX.out.kept hb).strAt hlt
    obtain ⟨b',off',z',rfl,hv',c0'⟩:=(HY.out.kept hb).strAt (k:=k) (by omega)
    have hV:=Lib.hid hv
    have hV':=Lib.hid hv'
    clear hv hv'
    have i0:(0:Int)≤(k:Int):=by omega
    have i1:(k:Int)<(m:Int):=by omega
    by_cases hz:z=z'
    ·subst hz
     go_wp2_with fail
     go_quiet (fail)
     go_wp2_with fail
     go_roundw
     case rel=>exact ⟨k+1,by omega,by go_num,Lib.hid (ttake_more hpre.out hV.out hV'.out),belowN hb _⟩
     case measure=>simp [RowKit.intOf];omega
    ·have hz':(z.toList==z'.toList)=false:=by
      cases hb:z.toList==z'.toList with
      | false=>rfl
      | true=>exact absurd (bytes_ext (eq_of_beq hb)) hz
     have HZ:=Lib.hid hz
     clear hz
     go_wp2_with fail
     go_quiet (fail)
     go_wp2_with fail
     go_ret
     refine ⟨ret_bool (decide_eq_false (fun e=>?_)).symm,belowN hb _⟩
     have h1:=hV.out
     rw [e,hV'.out] at h1
     have h2:=Option.some.inj h1
     exact HZ.out (bytes_ext h2).symm
   ·obtain rfl:k=n:=by omega
    go_wp2_with fail
    go_ret
    refine ⟨ret_bool (decide_eq_true ?_).symm,hb⟩
    have:=hpre.out
    rw [List.take_of_length_le (by have:=HL.out;omega),List.take_of_length_le (by have:=HL.out;omega)] at this
    exact this
 ·have hl':((n:Int) != (m:Int))=true:=by simp;omega
  have hfin:decide (xs=ys)=false:=decide_eq_false (fun e=>hl (by rw [← hxl,← hyl,e]))
  rw [hfin]
  clear hfin hx hy hxl hyl
  go_enter Tryz.func109,Tryz.ntmps109
  go_wp2_with fail
  go_ret
  exact ⟨rfl,Below.refl _ _⟩
end Go.Proofs.YtccphijgcapeoaaGreat
/-
  What the tree's same comes to, at any two nodes.
-/
namespace Go.Proofs.YtccphijgcapeoaaGreat
open Go.RowKit
theorem nbox_two (w:World) (x y z p x' y' z' p':Value):NBox ((w.alloc (.cells #[x,y,z,p] 68)).alloc (.cells #[x',y',z',p'] 68)) w.heap.size x y z p ∧
 NBox ((w.alloc (.cells #[x,y,z,p] 68)).alloc (.cells #[x',y',z',p'] 68)) (w.heap.size+1) x' y' z' p'∧Below w.heap.size w ((w.alloc (.cells #[x,y,z,p] 68)).alloc (.cells #[x',y',z',p'] 68)):=by
 refine ⟨(nbox_new w x y z p).kept (below_one _ _),?_,below_two _ _ _⟩
 have h:=nbox_new (w.alloc (.cells #[x,y,z,p] 68)) x' y' z' p'
 rw [show (w.alloc (.cells #[x,y,z,p] 68)).heap.size=w.heap.size+1 by simp] at h
 exact h
theorem sameB_eq (s t:ND):s.sameB t=(s.leaf==t.leaf && (decide (s.keys=t.keys) && (decide (s.vals=t.vals) && decide (s.kids=t.kids)))):=by
 unfold ND.sameB
 congr 1
 congr 1
 ·by_cases h:s.keys=t.keys<;>simp [h]
 ·congr 1
  ·by_cases h:s.vals=t.vals<;>simp [h]
  ·by_cases h:s.kids=t.kids<;>simp [h]
theorem same_any (lf:Bool) (A:Option Addr) (n c:Nat) (B:Option Addr) (m d:Nat) (C:Option Addr) (k e:Nat) (s:ND) (lf':Bool) (A':Option Addr) (n' c':Nat) (B':Option Addr) (m' d':Nat) (C':Option Addr) (k' e':Nat) (t:ND) (w:World)
 (h:Nd w A n c B m d C k e s) (g:Nd w A' n' c' B' m' d' C' k' e' t) (hl:s.leaf=lf) (hl':t.leaf=lf') (hz:s.size≤1000000) :
 Calls Tryz.prog 79 #[.agg #[.bool lf,.slice A n c,.slice B m d,.slice C k e],.agg #[.bool lf',.slice A' n' c',.slice B' m' d',.slice C' k' e']] w fun e w'=>e = .returned (.bool (s.sameB t))∧Below w.heap.size w w':=by
 obtain ⟨tb1,tb2,tb3⟩:=nbox_two w (.bool lf) (.slice A n c) (.slice B m d) (.slice C k e) (.bool lf') (.slice A' n' c') (.slice B' m' d') (.slice C' k' e')
 have HB:=Lib.hid tb1
 have HC:=Lib.hid tb2
 have B0:=Lib.hid tb3
 have HS:=Lib.hid (h.kept tb3)
 have HT:=Lib.hid (g.kept tb3)
 have hn:n≤1000000∧m≤1000000∧k≤1000000:=by
  have h1:=h.kn
  have h2:=h.vn
  have h3:=h.cn
  unfold ND.size ND.tsz at hz
  omega
 obtain ⟨hn1,hn2,hn3⟩:=hn
 have HD:=Lib.hid (sameB_eq s t)
 rw [hl,hl'] at HD
 clear tb1 tb2 tb3 h g hl hl' hz
 go_enter Tryz.func79,Tryz.ntmps79
 go_upto_region 1 with fail
 generalize (w.alloc (.cells #[.bool lf,.slice A n c,.slice B m d,.slice C k e] 68)).alloc (.cells #[.bool lf',.slice A' n' c',.slice B' m' d',.slice C' k' e'] 68)=w0 at *
 obtain ⟨c0,c1,c2,c3⟩:=HB.out.cells
 obtain ⟨y0,y1,y2,y3⟩:=HC.out.cells
 by_cases hle:lf=lf'
 ·have hb:(lf==lf')=true:=by simpa using hle
  rw [hb,Bool.true_and] at HD
  clear hle
  go_wp2_with fail
  refine (equal_S A A' n c n' c' s.keys t.keys w0 HS.out.ke HT.out.ke hn1).mono ?_
  rintro e1 w1 ⟨rfl,b1⟩
  have B1:=Lib.hid b1
  have HS1:=Lib.hid (HS.out.kept b1)
  have HT1:=Lib.hid (HT.out.kept b1)
  have HB1:=Lib.hid (HB.out.kept b1)
  have HC1:=Lib.hid (HC.out.kept b1)
  clear b1 c0 c1 c2 c3 y0 y1 y2 y3 HS HT HB HC
  generalize decide (s.keys=t.keys)=r1 at *
  cases r1 with
  | false =>
    go_wp2_with fail
    go_ret
    exact ⟨by rw [HD.out];rfl,B0.out.trans (B1.out.mono B0.out.size)⟩
  | true =>
    rw [Bool.true_and] at HD
    obtain ⟨c0,c1,c2,c3⟩:=HB1.out.cells
    obtain ⟨y0,y1,y2,y3⟩:=HC1.out.cells
    go_wp2_with fail
    refine (equal_S B B' m d m' d' s.vals t.vals w1 HS1.out.va HT1.out.va hn2).mono ?_
    rintro e2 w2 ⟨rfl,b2⟩
    have B2:=Lib.hid (B1.out.trans (b2.mono B1.out.size))
    have HS2:=Lib.hid (HS1.out.kept b2)
    have HT2:=Lib.hid (HT1.out.kept b2)
    have HB2:=Lib.hid (HB1.out.kept b2)
    have HC2:=Lib.hid (HC1.out.kept b2)
    clear b2 c0 c1 c2 c3 y0 y1 y2 y3 HS1 HT1 HB1 HC1
    generalize decide (s.vals=t.vals)=r2 at *
    cases r2 with
    | false =>
      go_wp2_with fail
      go_ret
      exact ⟨by rw [HD.out];rfl,B0.out.trans (B2.out.mono B0.out.size)⟩
    | true =>
      rw [Bool.true_and] at HD
      obtain ⟨c0,c1,c2,c3⟩:=HB2.out.cells
      obtain ⟨y0,y1,y2,y3⟩:=HC2.out.cells
      go_wp2_with fail
      refine (equal_I C C' k e k' e' s.kids t.kids w2 HS2.out.ki HT2.out.ki hn3).mono ?_
      rintro e3 w3 ⟨rfl,b3⟩
      have B3:=Lib.hid (B2.out.trans (b3.mono B2.out.size))
      clear b3 c0 c1 c2 c3 y0 y1 y2 y3
      generalize decide (s.kids=t.kids)=r3 at *
      go_wp2_with fail
      go_ret
      exact ⟨by rw [HD.out];cases r3<;>rfl,B0.out.trans (B3.out.mono B0.out.size)⟩
 ·have hb:(lf==lf')=false:=by simpa using hle
  rw [hb,Bool.false_and] at HD
  clear hle
  go_wp2_with fail
  go_ret
  exact ⟨by rw [HD.out];rfl,B0.out⟩
end Go.Proofs.YtccphijgcapeoaaGreat
/-
  What node's keysStand comes to.
-/
namespace Go.Proofs.YtccphijgcapeoaaGreat
open Go.RowKit
theorem rise_append:∀ (p:List UInt8) (a b:List (List UInt8)),ND.rise p (a++b)=(ND.rise p a && ND.rise (a.getLastD p) b)
 | p,[],b=>by simp [ND.rise]
 | p,x::a,b=>by
   have e:(x::a).getLastD p=a.getLastD x:=by cases a<;>rfl
   rw [List.cons_append,ND.rise_cons,ND.rise_cons,rise_append x a b,e]
   exact (Bool.and_assoc _ _ _).symm
theorem less_not {a b:List UInt8} (h:Op.bytesLess a b=true):Op.bytesLess b a=false∧(b==a)=false:=by
 constructor
 ·cases hb:Op.bytesLess b a with
  | false=>rfl
  | true=>have:=less_trans a b a h hb;rw [less_irrefl] at this;cases this
 ·rw [beq_eq_false_iff_ne]
  rintro rfl
  rw [less_irrefl] at h
  cases h
theorem not_less {a b:List UInt8} (h:Op.bytesLess a b=false):Op.bytesLess b a=true∨(Op.bytesLess b a=false∧(b==a)=true):=by
 rcases less_total a b with e | e | e
 ·rw [h] at e;cases e
 ·right
  subst e
  exact ⟨h,beq_self_eq_true _⟩
 ·exact Or.inl e
theorem rise_next {l:List (List UInt8)} {k:Nat} {t:List UInt8} (h:l[k]?=some t):ND.rise [] (l.take (k+1))=(ND.rise [] (l.take k) && (Op.bytesLess ((l.take k).getLastD []) t && decide (t.length≤120)))∧(l.take (k+1)).getLastD []=t:=by
 rw [List.take_add_one,h,Option.toList_some]
 exact ⟨ND.rise_snoc _ _ _,by simp⟩
theorem rise_stop {l:List (List UInt8)} {k:Nat} (h:ND.rise [] (l.take k)=false):ND.rise [] l=false:=by
 have:=rise_append [] (l.take k) (l.drop k)
 rw [List.take_append_drop,h] at this
 exact this
theorem keysStand_any (A:Option Addr) (n c:Nat) (l:List (List UInt8)) (w:World) (h:Ln w 1 A n c (strVals l)) (hn:n≤1000000000) :
 Calls Tryz.prog 95 #[.slice A n c] w fun e w'=>e = .returned (.bool (ND.rise [] l))∧w=w':=by
 have HN:=Lib.hid h.strN
 go_enter Tryz.func95,Tryz.ntmps95
 go_wp2_with fail
 go_loop [3,8] (fun s i=>∃ (k:Nat) (p:ByteArray),k≤n∧i = .int .i64 k∧s = .string p∧Hid (ND.rise [] (l.take k)=true)∧Hid (p.toList=(l.take k).getLastD [])) (fun _ i=>n - (RowKit.intOf i).toNat)
 case atStart=>exact ⟨0,⟨#[]⟩,Nat.zero_le _,rfl,rfl,Lib.hid rfl,Lib.hid (by rw [toList_data];rfl)⟩
 case round =>
  obtain ⟨k,p,hk,rfl,rfl,HR,HP⟩:=hrel
  by_cases hlt:k<n
  ·obtain ⟨b,off,s,rfl,hv,c0⟩:=h.strAt hlt
   obtain ⟨h1,h2⟩:=rise_next hv
   rw [HR.out,Bool.true_and,← HP.out,toList_length] at h1
   have H1:=Lib.hid h1
   have H2:=Lib.hid h2
   clear hv h1 h2
   cases hl:Op.bytesLess p.toList s.toList with
   | false =>
     have HE:Hid (ND.rise [] l=false):=Lib.hid (rise_stop (k:=k+1) (by rw [H1.out,hl];rfl))
     rcases not_less hl with f1 | ⟨f1,f2⟩
     ·clear hl
      go_wp2_with fail
      go_ret
      exact ⟨ret_bool HE.out.symm,rfl⟩
     ·clear hl
      go_wp2_with fail
      go_ret
      exact ⟨ret_bool HE.out.symm,rfl⟩
   | true =>
     obtain ⟨f1,f2⟩:=less_not hl
     by_cases hz:s.size≤120
     ·have HE:Hid (ND.rise [] (l.take (k+1))=true):=Lib.hid (by rw [H1.out,hl,decide_eq_true hz];rfl)
      clear hl
      go_wp2_with fail
      go_round
      case rel=>exact ⟨k+1,s,by omega,by go_num,rfl,HE,Lib.hid H2.out.symm⟩
      case measure=>simp [RowKit.intOf];omega
     ·have HE:Hid (ND.rise [] l=false):=Lib.hid (rise_stop (k:=k+1) (by rw [H1.out,hl,decide_eq_false hz];rfl))
      clear hl
      go_wp2_with fail
      go_ret
      exact ⟨ret_bool HE.out.symm,rfl⟩
  ·obtain rfl:n=k:=by omega
   go_wp2_with fail
   go_ret
   refine ⟨ret_bool ?_,rfl⟩
   have:=HR.out
   rw [List.take_of_length_le (by rw [HN.out];omega)] at this
   exact this.symm
end Go.Proofs.YtccphijgcapeoaaGreat
/-
  What slices.ContainsFunc comes to at node's two closures.
-/
namespace Go.Proofs.YtccphijgcapeoaaGreat
open Go.RowKit
theorem noPage_any (z:Int) (w:World):Calls Tryz.prog 127 #[.int .i64 z] w fun e w'=>e = .returned (.bool (!ND.kidB z))∧w=w':=by
 by_cases h1:z<2
 ·have HE:Hid (ND.kidB z=false):=Lib.hid (by unfold ND.kidB;rw [decide_eq_false (by omega)];rfl)
  go_enter Tryz.func127,Tryz.ntmps127
  go_wp2_with fail
  go_ret
  exact ⟨ret_bool (by rw [HE.out];rfl),rfl⟩
 ·by_cases h2:2147483647<z
  ·have HE:Hid (ND.kidB z=false):=Lib.hid (by unfold ND.kidB;rw [decide_eq_false (show ¬ z≤2147483647 by omega),Bool.and_false])
   go_enter Tryz.func127,Tryz.ntmps127
   go_wp2_with fail
   go_ret
   exact ⟨ret_bool (by rw [HE.out];rfl),rfl⟩
  ·have HE:Hid (ND.kidB z=true):=Lib.hid (by unfold ND.kidB;rw [decide_eq_true (by omega),decide_eq_true (by omega)];rfl)
   go_enter Tryz.func127,Tryz.ntmps127
   go_wp2_with fail
   go_ret
   exact ⟨ret_bool (by rw [HE.out];rfl),rfl⟩
theorem tooLong_any (s:ByteArray) (w:World):Calls Tryz.prog 128 #[.string s] w fun e w'=>e = .returned (.bool (!ND.valB s.toList))∧w=w':=by
 have HE:Hid (ND.valB s.toList=decide (s.size≤100)):=Lib.hid (by unfold ND.valB;rw [toList_length])
 go_enter Tryz.func128,Tryz.ntmps128
 go_wp2_with fail
 go_ret
 refine ⟨ret_bool ?_,rfl⟩
 rw [HE.out]
 by_cases hs:s.size≤100
 ·rw [decide_eq_true hs]
  simp
  omega
 ·rw [decide_eq_false hs]
  simp
  omega
theorem all_stop {α:Type} {l:List α} {f:α→Bool} {k:Nat} {z:α} (hv:l[k]?=some z) (h:f z=false):l.all f=false:=by
 rw [List.all_eq_false]
 exact ⟨z,List.mem_of_getElem? hv,by rw [h];decide⟩
theorem all_next {α:Type} {l:List α} {f:α→Bool} {k:Nat} {z:α} (hv:l[k]?=some z) (h:f z=true) (h0:(l.take k).all f=true):(l.take (k+1)).all f=true:=by
 rw [List.take_add_one,hv,Option.toList_some,List.all_append,h0]
 simp [h]
def IdxEnd (r:Bool) (w:World) (e:Ending) (w':World):Prop:=∃ z:Int,e = .returned (.int .i64 z)∧(decide (0≤z) = !r)∧w=w'
theorem indexI_any (A:Option Addr) (n c:Nat) (l:List Int) (w:World) (h:Ln w 1 A n c (intVals l)) (hn:n≤1000000000) :
 Calls Tryz.prog 132 #[.slice A n c,.func (.func 127) #[] #[]] w (IdxEnd (l.all ND.kidB) w):=by
 have HN:=Lib.hid h.intN
 go_enter Tryz.func132,Tryz.ntmps132
 go_wp2_with fail
 go_loop [8] (fun i=>∃ k:Nat,k≤n∧i = .int .i64 k∧Hid ((l.take k).all ND.kidB=true)) (fun i=>n - (RowKit.intOf i).toNat)
 case atStart=>exact ⟨0,Nat.zero_le _,rfl,Lib.hid rfl⟩
 case round =>
  obtain ⟨k,hk,rfl,HR⟩:=hrel
  by_cases hlt:k<n
  ·obtain ⟨b,off,z,rfl,hv,c0⟩:=h.intAt hlt
   cases hz:ND.kidB z with
   | false =>
     have HE:=Lib.hid (all_stop hv hz)
     have HZ:=Lib.hid hz
     clear hv hz
     go_wp2_with fail
     refine (noPage_any z w).mono ?_
     rintro e w2 ⟨rfl,rfl⟩
     rw [HZ.out]
     go_wp2_with fail
     go_ret
     exact ⟨_,rfl,by rw [HE.out];exact decide_eq_true (by omega),rfl⟩
   | true =>
     have HE:=Lib.hid (all_next hv hz HR.out)
     have HZ:=Lib.hid hz
     clear hv hz
     go_wp2_with fail
     refine (noPage_any z w).mono ?_
     rintro e w2 ⟨rfl,rfl⟩
     rw [HZ.out]
     go_wp2_with fail
     go_round
     case rel=>exact ⟨k+1,by omega,by go_num,HE⟩
     case measure=>simp [RowKit.intOf];omega
  ·obtain rfl:n=k:=by omega
   go_wp2_with fail
   go_ret
   have:=HR.out
   rw [List.take_of_length_le (by rw [HN.out];omega)] at this
   exact ⟨_,rfl,by rw [this];rfl,rfl⟩
theorem indexS_any (A:Option Addr) (n c:Nat) (l:List (List UInt8)) (w:World) (h:Ln w 1 A n c (strVals l)) (hn:n≤1000000000) :
 Calls Tryz.prog 160 #[.slice A n c,.func (.func 128) #[] #[]] w (IdxEnd (l.all ND.valB) w):=by
 have HN:=Lib.hid h.strN
 go_enter Tryz.func160,Tryz.ntmps160
 go_wp2_with fail
 go_loop [8] (fun i=>∃ k:Nat,k≤n∧i = .int .i64 k∧Hid ((l.take k).all ND.valB=true)) (fun i=>n - (RowKit.intOf i).toNat)
 case atStart=>exact ⟨0,Nat.zero_le _,rfl,Lib.hid rfl⟩
 case round =>
  obtain ⟨k,hk,rfl,HR⟩:=hrel
  by_cases hlt:k<n
  ·obtain ⟨b,off,z,rfl,hv,c0⟩:=h.strAt hlt
   cases hz:ND.valB z.toList with
   | false =>
     have HE:=Lib.hid (all_stop hv hz)
     have HZ:=Lib.hid hz
     clear hv hz
     go_wp2_with fail
     refine (tooLong_any z w).mono ?_
     rintro e w2 ⟨rfl,rfl⟩
     rw [HZ.out]
     go_wp2_with fail
     go_ret
     exact ⟨_,rfl,by rw [HE.out];exact decide_eq_true (by omega),rfl⟩
   | true =>
     have HE:=Lib.hid (all_next hv hz HR.out)
     have HZ:=Lib.hid hz
     clear hv hz
     go_wp2_with fail
     refine (tooLong_any z w).mono ?_
     rintro e w2 ⟨rfl,rfl⟩
     rw [HZ.out]
     go_wp2_with fail
     go_round
     case rel=>exact ⟨k+1,by omega,by go_num,HE⟩
     case measure=>simp [RowKit.intOf];omega
  ·obtain rfl:n=k:=by omega
   go_wp2_with fail
   go_ret
   have:=HR.out
   rw [List.take_of_length_le (by rw [HN.out];omega)] at this
   exact ⟨_,rfl,by rw [this];rfl,rfl⟩
theorem containsI_any (A:Option Addr) (n c:Nat) (l:List Int) (w:World) (h:Ln w 1 A n c (intVals l)) (hn:n≤1000000000) :
 Calls Tryz.prog 99 #[.slice A n c,.func (.func 127) #[] #[]] w fun e w'=>e = .returned (.bool (!l.all ND.kidB))∧w=w':=by
 go_enter Tryz.func99,Tryz.ntmps99
 go_wp2_with fail
 refine (indexI_any A n c l w h hn).mono ?_
 rintro e w2 ⟨z,rfl,hz,rfl⟩
 have HZ:=Lib.hid hz
 clear hz
 go_wp2_with fail
 go_ret
 exact ⟨ret_bool HZ.out,rfl⟩
theorem containsS_any (A:Option Addr) (n c:Nat) (l:List (List UInt8)) (w:World) (h:Ln w 1 A n c (strVals l)) (hn:n≤1000000000) :
 Calls Tryz.prog 129 #[.slice A n c,.func (.func 128) #[] #[]] w fun e w'=>e = .returned (.bool (!l.all ND.valB))∧w=w':=by
 go_enter Tryz.func129,Tryz.ntmps129
 go_wp2_with fail
 refine (indexS_any A n c l w h hn).mono ?_
 rintro e w2 ⟨z,rfl,hz,rfl⟩
 have HZ:=Lib.hid hz
 clear hz
 go_wp2_with fail
 go_ret
 exact ⟨ret_bool HZ.out,rfl⟩
end Go.Proofs.YtccphijgcapeoaaGreat
/-
  What node's leafStands, innerStands and Check come to.
-/
namespace Go.Proofs.YtccphijgcapeoaaGreat
open Go.RowKit
theorem int_ne {a b:Nat} (h:¬ a=b):((a:Int)==(b:Int))=false:=by rw [beq_eq_false_iff_ne];omega
theorem int_nz {a:Nat} (h:¬ a=0):((a:Int)==0)=false:=by rw [beq_eq_false_iff_ne];omega
theorem leafStands_any (lf:Bool) (A:Option Addr) (n c:Nat) (B:Option Addr) (m d:Nat) (C:Option Addr) (k e:Nat) (s:ND) (w:World) (h:Nd w A n c B m d C k e s) (hm:m≤1000000000) :
 Calls Tryz.prog 94 #[.agg #[.bool lf,.slice A n c,.slice B m d,.slice C k e]] w fun e w'=>e = .returned (.bool s.leafB)∧Below w.heap.size w w':=by
 have HB:=Lib.hid (nbox_new w (.bool lf) (.slice A n c) (.slice B m d) (.slice C k e))
 have b1:=below_one w (.cells #[.bool lf,.slice A n c,.slice B m d,.slice C k e] 68)
 have B1:=Lib.hid b1
 have H1:=Lib.hid (h.kept b1)
 have HS:Hid (s.leafB=(decide (m=n) && (s.vals.all ND.valB && decide (k=0)))):=Lib.hid (by unfold ND.leafB;rw [h.kn,h.vn,h.cn])
 clear b1 h
 go_enter Tryz.func94,Tryz.ntmps94
 go_upto_region 1 with fail
 generalize w.alloc (.cells #[.bool lf,.slice A n c,.slice B m d,.slice C k e] 68)=w1 at *
 obtain ⟨c0,c1,c2,c3⟩:=HB.out.cells
 by_cases h1:m=n
 ·subst h1
  go_wp2_with fail
  refine (containsS_any B m d s.vals w1 H1.out.va hm).mono ?_
  rintro e2 w2 ⟨rfl,rfl⟩
  cases h2:s.vals.all ND.valB with
  | false =>
    rw [h2] at HS
    clear h2
    go_wp2_with fail
    go_ret
    exact ⟨ret_bool (by rw [HS.out,Bool.false_and,Bool.and_false]),B1.out⟩
  | true =>
    rw [h2] at HS
    clear h2
    by_cases h3:k=0
    ·subst h3
     go_wp2_with fail
     go_ret
     exact ⟨ret_bool (by rw [HS.out];simp),B1.out⟩
    ·have hb:=int_nz h3
     have HK:=Lib.hid h3
     clear h3
     go_wp2_with fail
     go_ret
     exact ⟨ret_bool (by rw [HS.out,decide_eq_false HK.out];simp),B1.out⟩
 ·have hb:=int_ne h1
  have HK:=Lib.hid h1
  clear h1
  go_wp2_with fail
  go_ret
  exact ⟨ret_bool (by rw [HS.out,decide_eq_false HK.out,Bool.false_and]),B1.out⟩
theorem innerStands_any (lf:Bool) (A:Option Addr) (n c:Nat) (B:Option Addr) (m d:Nat) (C:Option Addr) (k e:Nat) (s:ND) (w:World) (h:Nd w A n c B m d C k e s) (hn:n≤1000000000) (hk:k≤1000000000) :
 Calls Tryz.prog 93 #[.agg #[.bool lf,.slice A n c,.slice B m d,.slice C k e]] w fun e w'=>e = .returned (.bool s.innerB)∧Below w.heap.size w w':=by
 have HB:=Lib.hid (nbox_new w (.bool lf) (.slice A n c) (.slice B m d) (.slice C k e))
 have b1:=below_one w (.cells #[.bool lf,.slice A n c,.slice B m d,.slice C k e] 68)
 have B1:=Lib.hid b1
 have H1:=Lib.hid (h.kept b1)
 have HS:Hid (s.innerB=(decide (0<n) && (decide (k=n+1) && (s.kids.all ND.kidB && decide (m=0))))):=Lib.hid (by unfold ND.innerB;rw [h.kn,h.vn,h.cn])
 clear b1 h
 go_enter Tryz.func93,Tryz.ntmps93
 go_upto_region 1 with fail
 generalize w.alloc (.cells #[.bool lf,.slice A n c,.slice B m d,.slice C k e] 68)=w1 at *
 obtain ⟨c0,c1,c2,c3⟩:=HB.out.cells
 rcases n with _ | n
 ·go_wp2_with fail
  go_ret
  exact ⟨ret_bool (by rw [HS.out];rfl),B1.out⟩
 ·by_cases h1:k=n+1+1
  ·subst h1
   go_wp2_with fail
   refine (containsI_any C (n+1+1) e s.kids w1 H1.out.ki hk).mono ?_
   rintro e2 w2 ⟨rfl,rfl⟩
   cases h2:s.kids.all ND.kidB with
   | false =>
     rw [h2] at HS
     clear h2
     go_wp2_with fail
     go_ret
     exact ⟨ret_bool (by rw [HS.out,Bool.false_and,Bool.and_false,Bool.and_false]),B1.out⟩
   | true =>
     rw [h2] at HS
     clear h2
     by_cases h3:m=0
     ·subst h3
      go_wp2_with fail
      go_ret
      exact ⟨ret_bool (by rw [HS.out];simp),B1.out⟩
     ·have hb:=int_nz h3
      have HK:=Lib.hid h3
      clear h3
      go_wp2_with fail
      go_ret
      exact ⟨ret_bool (by rw [HS.out,decide_eq_false HK.out];simp),B1.out⟩
  ·have hb:((k:Int)==(n:Int)+1+1)=false:=by rw [beq_eq_false_iff_ne];omega
   have HK:=Lib.hid h1
   clear h1
   go_wp2_with fail
   go_ret
   exact ⟨ret_bool (by rw [HS.out,decide_eq_false HK.out,Bool.false_and,Bool.and_false]),B1.out⟩
theorem checkE_leaf {s:ND} (h:s.leaf=true):s.checkE=if ND.rise [] s.keys && s.leafB then 0 else 100:=by
 unfold ND.checkE ND.ok
 rw [h]
 rfl
theorem checkE_inner {s:ND} (h:s.leaf=false):s.checkE=if ND.rise [] s.keys && s.innerB then 0 else 100:=by
 unfold ND.checkE ND.ok
 rw [h]
 rfl
theorem ncheck_any (lf:Bool) (A:Option Addr) (n c:Nat) (B:Option Addr) (m d:Nat) (C:Option Addr) (k e:Nat) (s:ND) (w:World) (h:Nd w A n c B m d C k e s) (hl:s.leaf=lf) (hn:n≤1000000000) (hm:m≤1000000000) (hk:k≤1000000000) :
 Calls Tryz.prog 61 #[.agg #[.bool lf,.slice A n c,.slice B m d,.slice C k e]] w fun e w'=>e = .returned (.int .i64 s.checkE)∧Below w.heap.size w w':=by
 have HB:=Lib.hid (nbox_new w (.bool lf) (.slice A n c) (.slice B m d) (.slice C k e))
 have b1:=below_one w (.cells #[.bool lf,.slice A n c,.slice B m d,.slice C k e] 68)
 have B1:=Lib.hid b1
 have H1:=Lib.hid (h.kept b1)
 clear b1 h
 go_enter Tryz.func61,Tryz.ntmps61
 go_upto_region 1 with fail
 generalize w.alloc (.cells #[.bool lf,.slice A n c,.slice B m d,.slice C k e] 68)=w1 at *
 obtain ⟨c0,c1,c2,c3⟩:=HB.out.cells
 cases lf with
 | true =>
   have HE:=Lib.hid (checkE_leaf hl)
   clear hl
   go_wp2_with fail
   refine (keysStand_any A n c s.keys w1 H1.out.ke hn).mono ?_
   rintro e2 w2 ⟨rfl,rfl⟩
   cases h1:ND.rise [] s.keys with
   | false =>
     rw [h1] at HE
     clear h1
     go_wp2_with fail
     go_ret
     exact ⟨ret_int (by rw [HE.out];rfl),B1.out⟩
   | true =>
     rw [h1] at HE
     clear h1
     go_wp2_with fail
     refine (leafStands_any true A n c B m d C k e s w1 H1.out hm).mono ?_
     rintro e3 w3 ⟨rfl,b3⟩
     have B3:=Lib.hid (B1.out.trans (b3.mono B1.out.size))
     clear b3
     cases h2:s.leafB with
     | false =>
       rw [h2] at HE
       clear h2
       go_wp2_with fail
       go_ret
       exact ⟨ret_int (by rw [HE.out];rfl),B3.out⟩
     | true =>
       rw [h2] at HE
       clear h2
       go_wp2_with fail
       go_ret
       exact ⟨ret_int (by rw [HE.out];rfl),B3.out⟩
 | false =>
   have HE:=Lib.hid (checkE_inner hl)
   clear hl
   go_wp2_with fail
   refine (keysStand_any A n c s.keys w1 H1.out.ke hn).mono ?_
   rintro e2 w2 ⟨rfl,rfl⟩
   cases h1:ND.rise [] s.keys with
   | false =>
     rw [h1] at HE
     clear h1
     go_wp2_with fail
     go_ret
     exact ⟨ret_int (by rw [HE.out];rfl),B1.out⟩
   | true =>
     rw [h1] at HE
     clear h1
     go_wp2_with fail
     refine (innerStands_any false A n c B m d C k e s w1 H1.out hn hk).mono ?_
     rintro e3 w3 ⟨rfl,b3⟩
     have B3:=Lib.hid (B1.out.trans (b3.mono B1.out.size))
     clear b3
     cases h2:s.innerB with
     | false =>
       rw [h2] at HE
       clear h2
       go_wp2_with fail
       go_ret
       exact ⟨ret_int (by rw [HE.out];rfl),B3.out⟩
     | true =>
       rw [h2] at HE
       clear h2
       go_wp2_with fail
       go_ret
       exact ⟨ret_int (by rw [HE.out];rfl),B3.out⟩
end Go.Proofs.YtccphijgcapeoaaGreat
/-
  What node's textsSize and Size come to.
-/
namespace Go.Proofs.YtccphijgcapeoaaGreat
open Go.RowKit
theorem tsl_take {l:List (List UInt8)} {k:Nat} {t:List UInt8} (h:l[k]?=some t):ND.tsl (l.take (k+1))=ND.tsl (l.take k)+t.length:=by
 rw [List.take_add_one,h,Option.toList_some,ND.tsl_append]
 simp [ND.tsl]
theorem tsl_take_le (l:List (List UInt8)) (k:Nat):ND.tsl (l.take k)≤ND.tsl l:=by
 conv=>rhs;rw [← List.take_append_drop k l]
 rw [ND.tsl_append]
 omega
theorem textsSize_any (A:Option Addr) (n c:Nat) (l:List (List UInt8)) (w:World) (h:Ln w 1 A n c (strVals l)) (hz:ND.tsz l≤1000000000) :
 Calls Tryz.prog 96 #[.slice A n c] w fun e w'=>e = .returned (.int .i64 ((ND.tsz l:Nat):Int))∧w=w':=by
 have HN:=Lib.hid h.strN
 have hn:n≤1000000000:=by have:=h.strN;unfold ND.tsz at hz;omega
 have hts:ND.tsl l≤1000000000 - n:=by have:=h.strN;unfold ND.tsz at hz;omega
 clear hz
 go_enter Tryz.func96,Tryz.ntmps96
 go_wp2_with fail
 go_loop [3,11] (fun s i=>∃ k q:Nat,k≤n∧i = .int .i64 k∧s = .int .i64 q∧Hid (q=n+ND.tsl (l.take k))∧q≤n+ND.tsl l) (fun _ i=>n - (RowKit.intOf i).toNat)
 case atStart=>exact ⟨0,n,Nat.zero_le _,rfl,rfl,Lib.hid (by simp [ND.tsl]),by omega⟩
 case round =>
  obtain ⟨k,q,hk,rfl,rfl,HQ,hq⟩:=hrel
  by_cases hlt:k<n
  ·obtain ⟨b,off,s,rfl,hv,c0⟩:=h.strAt hlt
   have HT:=Lib.hid (tsl_take hv)
   have hle:=tsl_take_le l (k+1)
   have hq2:q+s.size≤n+ND.tsl l:=by rw [HQ.out];rw [HT.out,toList_length] at hle;omega
   clear hv hle
   go_wp2_with fail
   go_round
   case rel=>exact ⟨k+1,q+s.size,by omega,by go_num,by go_num,Lib.hid (by rw [HT.out,HQ.out,toList_length];omega),hq2⟩
   case measure=>simp [RowKit.intOf];omega
  ·obtain rfl:n=k:=by omega
   go_wp2_with fail
   go_ret
   refine ⟨ret_int ?_,rfl⟩
   rw [HQ.out,List.take_of_length_le (by rw [HN.out];omega)]
   unfold ND.tsz
   rw [HN.out]
theorem nsize_any (lf:Bool) (A:Option Addr) (n c:Nat) (B:Option Addr) (m d:Nat) (C:Option Addr) (k e:Nat) (s:ND) (w:World) (h:Nd w A n c B m d C k e s) (hz:s.size≤1000000000) :
 Calls Tryz.prog 63 #[.agg #[.bool lf,.slice A n c,.slice B m d,.slice C k e]] w fun e w'=>e = .returned (.int .i64 ((s.size:Nat):Int))∧Below w.heap.size w w':=by
 have HB:=Lib.hid (nbox_new w (.bool lf) (.slice A n c) (.slice B m d) (.slice C k e))
 have b1:=below_one w (.cells #[.bool lf,.slice A n c,.slice B m d,.slice C k e] 68)
 have B1:=Lib.hid b1
 have H1:=Lib.hid (h.kept b1)
 have hs:s.size=2+ND.tsz s.keys+ND.tsz s.vals+4*k:=by rw [← h.cn];rfl
 have HS:=Lib.hid hs
 clear b1
 go_enter Tryz.func63,Tryz.ntmps63
 go_wp2_with fail
 generalize w.alloc (.cells #[.bool lf,.slice A n c,.slice B m d,.slice C k e] 68)=w1 at *
 obtain ⟨c0,c1,c2,c3⟩:=HB.out.cells
 obtain ⟨p,hp⟩:∃ p,ND.tsz s.keys=p:=⟨_,rfl⟩
 obtain ⟨q,hq⟩:∃ q,ND.tsz s.vals=q:=⟨_,rfl⟩
 have K:Hid (∀ nn,Calls Tryz.prog 96 #[.slice A n c] (w1.drewN nn) fun e w'=>e = .returned (.int .i64 (p:Int))∧w'=w1.drewN nn):=Lib.hid (by
  intro nn
  have:=textsSize_any A n c s.keys (w1.drewN nn) (H1.out.ke.same rfl) (by omega)
  rw [hp] at this
  exact this.mono fun _ _ h=>⟨h.1,h.2.symm⟩)
 have V:Hid (∀ nn,Calls Tryz.prog 96 #[.slice B m d] (w1.drewN nn) fun e w'=>e = .returned (.int .i64 (q:Int))∧w'=w1.drewN nn):=Lib.hid (by
  intro nn
  have:=textsSize_any B m d s.vals (w1.drewN nn) (H1.out.va.same rfl) (by omega)
  rw [hq] at this
  exact this.mono fun _ _ h=>⟨h.1,h.2.symm⟩)
 rw [hp,hq] at hs HS
 have e1:IntKind.i64.wrap (2+(p:Int))=2+(p:Int):=IntWalk.i64_in _ (by omega)
 have e2:IntKind.i64.wrap (2+(p:Int)+(q:Int))=2+(p:Int)+(q:Int):=IntWalk.i64_in _ (by omega)
 have e3:IntKind.i64.wrap (4*(k:Int))=4*(k:Int):=IntWalk.i64_in _ (by omega)
 have e4:IntKind.i64.wrap (2+(p:Int)+(q:Int)+4*(k:Int))=2+(p:Int)+(q:Int)+4*(k:Int):=IntWalk.i64_in _ (by omega)
 clear hs hp hq h hz H1
 go_quiet ((first | (go_at_call 96;with_reducible exact Calls.quiet_of_same (K.out _)) | (go_at_call 96;with_reducible exact Calls.quiet_of_same (V.out _))))
 go_wp2_with fail
 go_ret
 refine ⟨ret_int ?_,belowN B1.out _⟩
 rw [HS.out]
 omega
end Go.Proofs.YtccphijgcapeoaaGreat
/-
  What node's appendNumber and appendText come to.
-/
namespace Go.Proofs.YtccphijgcapeoaaGreat
open Go.RowKit
theorem nshift (k:Int) (c:Nat) (h:c=1∨c=256∨c=65536∨c=16777216):k / (c:Int) % 256=((UInt8.ofNat (mod32 k / c)).toNat:Int):=by
 rw [ofNat_toNat]
 unfold mod32
 rcases h with rfl | rfl | rfl | rfl<;>omega
theorem be_take {d x j:Nat} (hd:d=1∨d=2∨d=4) (hj:j<d):(be d x).take (j+1)=(be d x).take j++[UInt8.ofNat (x / 256 ^ (d - 1 - j))]:=by
 rcases hd with rfl | rfl | rfl
 ·obtain rfl:j=0:=by omega
  simp [be,be4]
 ·have:j=0∨j=1:=by omega
  rcases this with rfl | rfl<;>simp [be,be4]
 ·have:j=0∨j=1∨j=2∨j=3:=by omega
  rcases this with rfl | rfl | rfl | rfl<;>simp [be,be4]
theorem nshift2 (k:Int) {d j:Nat} (hd:d=1∨d=2∨d=4) (hj:j<d):k / 2 ^ (8*(d - 1) - 8*j) % 256=((UInt8.ofNat (mod32 k / 256 ^ (d - 1 - j))).toNat:Int):=by
 have e0:=nshift k 1 (by omega)
 have e1:=nshift k 256 (by omega)
 have e2:=nshift k 65536 (by omega)
 have e3:=nshift k 16777216 (by omega)
 rcases hd with rfl | rfl | rfl
 ·obtain rfl:j=0:=by omega
  exact e0
 ·have:j=0∨j=1:=by omega
  rcases this with rfl | rfl
  ·exact e1
  ·exact e0
 ·have:j=0∨j=1∨j=2∨j=3:=by omega
  rcases this with rfl | rfl | rfl | rfl
  ·exact e3
  ·exact e2
  ·exact e1
  ·exact e0
theorem nappNum (base:Nat) (v:Value) (xs:List UInt8) (k:Int) (d:Nat) (hd:d=1∨d=2∨d=4) (w:World) (hown:Own w base v xs) (hb:base≤w.heap.size) (hn:xs.length≤1000000) :
 Calls Tryz.prog 195 #[v,.int .i64 k,.int .i64 (d:Int)] w (Owned base w (xs++be d (mod32 k))):=by
 obtain ⟨i0,hi,hz0,hz1,hz2⟩:=info_parts byteInfo
 have HD:=Lib.hid hd
 have hd4:d≤4:=by omega
 clear hd
 go_enter Tryz.func195,Tryz.ntmps195
 go_wp2_with fail
 go_loopw [0,7] (fun v s wr=>∃ j:Nat,j≤d∧s = .int .i64 (8*((d:Int) - 1) - 8*(j:Int))∧Own wr base v (xs++(be d (mod32 k)).take j)∧Below base w wr) (fun _ s _=>(RowKit.intOf s+8).toNat)
 case atStart=>exact ⟨0,by omega,by simp,by simpa using hown,Below.refl _ _⟩
 case round =>
  obtain ⟨j,hj,rfl,hown2,b2⟩:=hrel
  have hlen:(xs++(be d (mod32 k)).take j).length≤xs.length+4:=by
   rw [List.length_append,List.length_take]
   omega
  by_cases hlt:j<d
  ·unfold Own at hown2
   have hle:(j:Int)≤(d:Int) - 1:=by omega
   go_wp2_with (at_builtin;refine wpList_append_own _ rfl (.tmp 15) (.tmp 20) 115 rfl base 5 i0 (.int .u8 0) 1 1 Tryz.underlying115 hi hz0 hz1 hz2 rfl (by decide) _ _ _ rfl (hown2.alloc _) ⟨wr.heap.size,0,none⟩ 1 1 [_] rfl rfl (cell_one_new _ _ _) (by simp [Value.oneCell']) (by unfold maxLen;omega) (by omega) (by have:=b2.size;simp;omega) ?_;intro v3 w3 hown3 hg3 _)
   have b3:Below base w w3:=(b2.alloc (by have:=b2.size;omega) _).grown hg3 (by have:=b2.size;simp;omega) (fun g hg=>(hown2.lt g hg).1)
   clear hg3
   go_roundw
   case rel =>
    refine ⟨j+1,by omega,by congr 1;omega,?_,b3⟩
    rw [be_take HD.out hlt,← List.append_assoc]
    exact own_push (nshift2 k HD.out hlt) hown3
   case measure=>simp [RowKit.intOf];omega
  ·obtain rfl:j=d:=by omega
   have hle:(j:Int) - 1<(j:Int):=by omega
   have ht:(be j (mod32 k)).take j=be j (mod32 k):=List.take_of_length_le (by rw [be_length _ hd4];omega)
   rw [ht] at hown2
   clear ht
   go_wp2_with fail
   go_ret
   exact ⟨_,rfl,hown2,b2⟩
theorem nappOne (base:Nat) (v:Value) (xs:List UInt8) (k:Int) (w:World) (hown:Own w base v xs) (hb:base≤w.heap.size) (hn:xs.length≤1000000) :
 Calls Tryz.prog 195 #[v,.int .i64 k,.int .i64 1] w (Owned base w (xs++be 1 (mod32 k))):=nappNum base v xs k 1 (by omega) w hown hb hn
theorem nappTwo (base:Nat) (v:Value) (xs:List UInt8) (k:Int) (w:World) (hown:Own w base v xs) (hb:base≤w.heap.size) (hn:xs.length≤1000000) :
 Calls Tryz.prog 195 #[v,.int .i64 k,.int .i64 2] w (Owned base w (xs++be 2 (mod32 k))):=nappNum base v xs k 2 (by omega) w hown hb hn
theorem nappFour (base:Nat) (v:Value) (xs:List UInt8) (k:Int) (w:World) (hown:Own w base v xs) (hb:base≤w.heap.size) (hn:xs.length≤1000000) :
 Calls Tryz.prog 195 #[v,.int .i64 k,.int .i64 4] w (Owned base w (xs++ND.kd k)):=nappNum base v xs k 4 (by omega) w hown hb hn
theorem strCells_bv (s:ByteArray):Lib.strCells s=bv s.toList:=by
 unfold Lib.strCells bv
 rw [toList_data]
/-- A text's bytes, behind the number of them. -/
theorem own_text {w:World} {base:Nat} {v:Value} {xs:List UInt8} {s:ByteArray} {N:Nat} (hN:(xs++be 1 (mod32 (s.size:Int))).length=N) (h:w.ownsRow base 5 1 v (N+s.size) (bv (xs++be 1 (mod32 (s.size:Int)))++Lib.strCells s)) :
 Own w base v (xs++ND.tx s.toList):=by
 subst hN
 rw [strCells_bv,← bv_append] at h
 have e:xs++ND.tx s.toList=xs++be 1 (mod32 (s.size:Int))++s.toList:=by
  unfold ND.tx
  rw [be_one,toList_length,List.append_assoc]
  congr 2
  apply UInt8.toNat_inj.1
  rw [ofNat_toNat,ofNat_toNat]
  unfold mod32
  omega
 rw [e]
 unfold Own
 have e2:(xs++be 1 (mod32 (s.size:Int))++s.toList).length=(xs++be 1 (mod32 (s.size:Int))).length+s.size:=by
  conv=>lhs;rw [List.length_append]
  rw [toList_length]
 rw [e2]
 exact h
theorem nappText (base:Nat) (v:Value) (xs:List UInt8) (s:ByteArray) (w:World) (hown:Own w base v xs) (hb:base≤w.heap.size) (hn:xs.length≤1000000) (hs:s.size≤1000000) :
 Calls Tryz.prog 196 #[v,.string s] w (Owned base w (xs++ND.tx s.toList)):=by
 obtain ⟨i0,hi,hz0,hz1,hz2⟩:=info_parts byteInfo
 have HO:=Lib.hid hown
 clear hown
 go_enter Tryz.func196,Tryz.ntmps196
 go_wp2_with fail
 refine (nappOne base v xs (s.size:Int) w HO.out hb hn).mono ?_
 rintro e w1 ⟨v1,rfl,o1,b1⟩
 have hN:(xs++be 1 (mod32 (s.size:Int))).length=xs.length+1:=by rw [List.length_append,be_length _ (by omega)]
 have HN:=Lib.hid hN
 have B1:=Lib.hid b1
 have hz:=b1.size
 unfold Own at o1
 rw [hN] at o1
 clear hN b1
 go_wp2_with (at_builtin;refine Lib.wpList_append_own_string _ rfl (.tmp 8) (.tmp 9) 115 9 rfl base 5 i0 Tryz.underlying115 Tryz.underlying9 hi hz0 hz1 hz2 _ _ _ rfl o1 s rfl (by unfold maxLen;omega) (by omega) (by omega) ?_;intro v3 w3 hown3 hg3 _)
 have O3:=Lib.hid (own_text HN.out hown3)
 have B3:=Lib.hid (B1.out.grown hg3 (by omega) (fun g hg=>(o1.lt g hg).1))
 clear o1 hown3 hg3
 go_wp2_with fail
 go_ret
 exact ⟨_,rfl,O3.out,B3.out⟩
end Go.Proofs.YtccphijgcapeoaaGreat
