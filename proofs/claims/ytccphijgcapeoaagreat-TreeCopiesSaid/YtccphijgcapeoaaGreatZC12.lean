/-
  A part of the proof: what its texts say stands at the head of each. Conditions: none.
-/
import Derived.Deep.RegionHeld3
import Derived.BigRegion
import Derived.Deep.Cut
import Derived.Deep.DeepCutAuto
import Derived.Laws.AppendOwn
import Derived.Maps.AppendAt
import Derived.Test.YtccphijgcapeoaaGreatZC5
import Derived.Test.YtccphijgcapeoaaGreatZC6
import Derived.Test.YtccphijgcapeoaaGreatZC7
import Derived.Test.YtccphijgcapeoaaGreatZC8
import Derived.Test.YtccphijgcapeoaaGreatZC9
import Derived.Test.YtccphijgcapeoaaGreatZC11

set_option maxRecDepth 20000
set_option maxHeartbeats 12800000
/-
  What Back comes to.
-/
namespace Go.Proofs.YtccphijgcapeoaaGreat
open Go.RowKit
theorem back_ill {s:SS} {p:Int} (h:(s.may p && !(s.known p))=false):s.back p=(1,SS.none):=by
 unfold SS.back SS.backBad
 cases h1:s.may p<;>cases h2:s.known p<;>simp [h1,h2] at h ⊢
theorem back_well {s:SS} {p:Int} (h:(s.may p && !(s.known p))=true):s.back p=(0,{ s with fr:=SS.ins p s.fr }):=by
 unfold SS.back SS.backBad
 cases h1:s.may p<;>cases h2:s.known p<;>simp [h1,h2] at h ⊢
theorem back_zero {w w1:World} {r:Nat} (hb:Below w.heap.size w w1) (hr:w.heap.size≤r):SpEndH w 1 SS.none (.returned (.tuple #[.agg #[.int .i64 0,.slice none 0 0,.slice none 0 0],.int .i64 1])) (((w1.setCell ⟨r,0,none⟩ (.int .i64 0)).setCell ⟨r,1,none⟩ (.slice none 0 0)).setCell ⟨r,2,none⟩ (.slice none 0 0)) :=
 have hd:=put_doneH (h:=0) hb hr (Sp.zero w1) (Hi.none_ _) (Hi.none_ _) rfl (.int .i64 0) (.slice none 0 0) (.slice none 0 0)
 ⟨_,rfl,hd.1,hd.2⟩
theorem chain {w1 wx w3:World} (b:Below wx.heap.size wx w3) (h:Below w1.heap.size w1 wx):Below w1.heap.size w1 w3:=h.trans (b.mono h.size)
theorem hi_chain {w1 wx w3:World} {sz n c r:Nat} {e:TypeId} {A:Option Addr} {cs:List Value} (o:w3.ownsRow wx.heap.size e sz (.slice A n c) n cs) (h:Below w1.heap.size w1 wx) (hr:r<w1.heap.size):Hi (r+1) A :=
 (Hi.of_own o).low (by have:=h.size;omega)
theorem back_hi (s:SS) (h p:Int) (A B:Option Addr) (n c m d:Nat) (w:World) (hh:s.hi=h) (hs:Sp w A n c B m d s) (hn:n≤300000) (hm:m≤300000) :
 Calls Tryz.prog 92 #[.agg #[.int .i64 h,.slice A n c,.slice B m d],.int .i64 p] w (SpEndH w (s.back p).1 (s.back p).2):=by
 obtain ⟨tb1,tb2,tb3⟩:=two_boxes w (.int .i64 h) (.slice A n c) (.slice B m d) (.int .i64 0) (.slice none 0 0) (.slice none 0 0)
 have HS:=Lib.hid (hs.kept tb3)
 have HB:=Lib.hid tb1
 have HR:=Lib.hid tb2
 have B0:=Lib.hid tb3
 have HH:=Lib.hid hh
 clear hs hh tb1 tb2 tb3
 go_enter Tryz.func92,Tryz.ntmps92
 go_wp2_with fail
 generalize (w.alloc (.cells #[.int .i64 h,.slice A n c,.slice B m d] 49)).alloc (.cells #[.int .i64 0,.slice none 0 0,.slice none 0 0] 49)=w0 at *
 refine (mayCome_any s h p A B n c m d w0 HH.out HS.out (by omega) (by omega)).mono ?_
 rintro e1 w1 ⟨rfl,b1⟩
 have B1:=Lib.hid (B0.out.trans (b1.mono B0.out.size))
 have HB1:=Lib.hid (HB.out.kept b1)
 have HR1:=Lib.hid (HR.out.kept b1)
 have HS1:=Lib.hid (HS.out.kept b1)
 clear b1 HB HR HS B0
 cases hmc:(s.may p && !(s.known p)) with
 | false =>
   have HT:=Lib.hid (back_ill hmc)
   have HD:=Lib.hid (back_zero B1.out (Nat.le_add_right w.heap.size 1))
   obtain ⟨e0,e1,e2⟩:=(Lib.hid (HR1.out.put (.int .i64 0) (.slice none 0 0) (.slice none 0 0))).out.cells
   obtain ⟨q0,q1,q2⟩:=HR1.out.cells
   obtain ⟨f0,f1,f2⟩:=HR1.out.free
   clear hmc
   go_wp2_with fail
   refine bodyPost_ret (v := .tuple #[.agg #[.int .i64 0,.slice none 0 0,.slice none 0 0],.int .i64 1]) (by simp [results,Tryz.results92,go_sem,e0,e1,e2]) rfl ?_
   rw [HT.out]
   exact HD.out
 | true =>
   have HT:=Lib.hid (back_well hmc)
   clear hmc
   have BA1:=Lib.hid ((below_one w1 (.cells #[.int .i64 p] 3)).drew)
   have BA:=Lib.hid ((below_two w1 (.cells #[.int .i64 p] 3) (.cells #[.slice B m d] 47)).drew)
   have LP:=Lib.hid ((ln_one w1 p 3).kept ((below_one _ (.cells #[.slice B m d] 47)).drew))
   have PP0:=(pile_one (HS1.out.pe.kept (below_one w1 (.cells #[.int .i64 p] 3))) (prVals_one _) 47).kept ((Below.refl _ _).drew)
   rw [show (w1.alloc (.cells #[.int .i64 p] 3)).heap.size=w1.heap.size+1 by simp] at PP0
   have PP1:=Lib.hid PP0
   clear PP0
   have BA4:=Lib.hid ((below_one w1 (.cells #[.slice B m d] 47)).drew)
   have BA3:=Lib.hid ((below_two w1 (.cells #[.slice B m d] 47) (.cells #[.int .i64 p] 3)).drew)
   have LP0:=(ln_one (w1.alloc (.cells #[.slice B m d] 47)) p 3).kept ((Below.refl _ _).drew)
   rw [show (w1.alloc (.cells #[.slice B m d] 47)).heap.size=w1.heap.size+1 by simp] at LP0
   have LP3:=Lib.hid LP0
   clear LP0
   have PP3:=Lib.hid ((pile_one HS1.out.pe (prVals_one _) 47).kept ((below_one _ (.cells #[.int .i64 p] 3)).drew))
   have LF3:=Lib.hid (HS1.out.fr.kept BA3.out)
   have LF:=Lib.hid (HS1.out.fr.kept BA.out)
   have LF1:=Lib.hid (HS1.out.fr.kept BA1.out)
   have LP1:=Lib.hid ((ln_one w1 p 3).kept ((Below.refl _ _).drew))
   have K0:w1.drew.cell? ⟨w.heap.size,0,none⟩=some (.int .i64 h)∧w1.drew.cell? ⟨w.heap.size,1,none⟩=some (.slice A n c)∧w1.drew.cell? ⟨w.heap.size,2,none⟩=some (.slice B m d):=HB1.out.cells
   obtain ⟨x0,x1,x2⟩:=K0
   have K0:w1.drew.cell? ⟨w.heap.size,0,none⟩=some (.int .i64 h)∧w1.drew.cell? ⟨w.heap.size,1,none⟩=some (.slice A n c)∧w1.drew.cell? ⟨w.heap.size,2,none⟩=some (.slice B m d):=HB1.out.cells
   have K1:((w1.alloc (.cells #[.int .i64 p] 3)).drew).cell? ⟨w.heap.size,0,none⟩=some (.int .i64 h)∧((w1.alloc (.cells #[.int .i64 p] 3)).drew).cell? ⟨w.heap.size,1,none⟩=some (.slice A n c)∧((w1.alloc (.cells #[.int .i64 p] 3)).drew).cell? ⟨w.heap.size,2,none⟩=some (.slice B m d):=(HB1.out.kept BA1.out).cells
   have K1':(((w1.alloc (.cells #[.int .i64 p] 3)).alloc (.cells #[.slice B m d] 47)).drew).cell? ⟨w.heap.size,0,none⟩=some (.int .i64 h)∧(((w1.alloc (.cells #[.int .i64 p] 3)).alloc (.cells #[.slice B m d] 47)).drew).cell? ⟨w.heap.size,1,none⟩=some (.slice A n c)∧(((w1.alloc (.cells #[.int .i64 p] 3)).alloc (.cells #[.slice B m d] 47)).drew).cell? ⟨w.heap.size,2,none⟩=some (.slice B m d):=(HB1.out.kept BA.out).cells
   have K7:(((w1.alloc (.cells #[.slice B m d] 47)).alloc (.cells #[.int .i64 p] 3)).drew).cell? ⟨w.heap.size,0,none⟩=some (.int .i64 h)∧(((w1.alloc (.cells #[.slice B m d] 47)).alloc (.cells #[.int .i64 p] 3)).drew).cell? ⟨w.heap.size,1,none⟩=some (.slice A n c)∧(((w1.alloc (.cells #[.slice B m d] 47)).alloc (.cells #[.int .i64 p] 3)).drew).cell? ⟨w.heap.size,2,none⟩=some (.slice B m d):=(HB1.out.kept BA3.out).cells
   have K8:((w1.alloc (.cells #[.slice B m d] 47)).drew).cell? ⟨w.heap.size,0,none⟩=some (.int .i64 h)∧((w1.alloc (.cells #[.slice B m d] 47)).drew).cell? ⟨w.heap.size,1,none⟩=some (.slice A n c)∧((w1.alloc (.cells #[.slice B m d] 47)).drew).cell? ⟨w.heap.size,2,none⟩=some (.slice B m d):=(HB1.out.kept BA4.out).cells
   go_wp2_with fail
   go_region_held3 (fun w'=>w'.cell? ⟨w.heap.size,0,none⟩=some (.int .i64 h)∧w'.cell? ⟨w.heap.size,1,none⟩=some (.slice A n c)∧w'.cell? ⟨w.heap.size,2,none⟩=some (.slice B m d))
    (first | exact K5 | exact K4 | exact K3 | exact K8 | exact K7 | exact K2 | exact K1' | exact K1 | exact K0)
    (first
      | (go_at_call 126;refine (laid_any A _ n c 1 1 s.fr [p] _ (by first | exact LF.out | exact LF1.out | exact LF3.out) (by first | exact LP.out | exact LP1.out | exact LP3.out) (by omega) (by decide)).mono ?_;rintro e1 w3 ⟨v3,rfl,o3,b3⟩;obtain ⟨A3,c3,rfl,hc3,l3⟩:=Ln.of_own o3;have BC:=Lib.hid (chain b3 (by first | exact BA.out | exact BA1.out | exact BA3.out));have HI3:=Lib.hid (hi_chain o3 (by first | exact BA.out | exact BA1.out | exact BA3.out) HR1.out.lt);have HB3:=Lib.hid (HB1.out.kept BC.out);have HR3:=Lib.hid (HR1.out.kept BC.out);have K2:w3.cell? ⟨w.heap.size,0,none⟩=some (.int .i64 h)∧w3.cell? ⟨w.heap.size,1,none⟩=some (.slice A n c)∧w3.cell? ⟨w.heap.size,2,none⟩=some (.slice B m d):=HB3.out.cells;have K3:(w3.alloc (.cells #[.slice B m d] 47)).cell? ⟨w.heap.size,0,none⟩=some (.int .i64 h)∧(w3.alloc (.cells #[.slice B m d] 47)).cell? ⟨w.heap.size,1,none⟩=some (.slice A n c)∧(w3.alloc (.cells #[.slice B m d] 47)).cell? ⟨w.heap.size,2,none⟩=some (.slice B m d):=(HB3.out.kept (below_one _ _)).cells;have PZ:=Lib.hid (pile_one (HS1.out.pe.kept BC.out) (prVals_one _) 47))
      | (go_at_call 122;refine (join_F _ 1 1 m _ _ (by first | exact PZ.out | exact PP1.out.kept b3 | exact PP3.out.kept b3) rfl (by simp [tot]) (by omega) (by decide)).mono ?_;rintro e1 w4 ⟨v4,rfl,o4,b4⟩;have B34:=Lib.hid (chain b4 (by first | exact Below.refl w3.heap.size w3 | exact below_one w3 _));obtain ⟨B4,d4,rfl,hd4,l4⟩:=Ln.of_own o4;have HI4:=Lib.hid (hi_chain o4 (by first | exact Below.refl w3.heap.size w3 | exact below_one w3 _) HR3.out.lt);have HB4:=Lib.hid (HB3.out.kept B34.out);have HR4:=Lib.hid (HR3.out.kept B34.out);have K4:w4.cell? ⟨w.heap.size,0,none⟩=some (.int .i64 h)∧w4.cell? ⟨w.heap.size,1,none⟩=some (.slice A n c)∧w4.cell? ⟨w.heap.size,2,none⟩=some (.slice B m d):=HB4.out.cells;obtain ⟨q0,q1,q2⟩:=HR4.out.cells;obtain ⟨f0,f1,f2⟩:=HR4.out.free;have PU:=But.put w4 (w.heap.size+1) (.int .i64 h) (.slice A3 (n+1) c3) (.slice B4 m d4);have K5:=(show _∧_∧_ from ⟨(PU.cell (k:=w.heap.size) (by omega) 0).trans K4.1,(PU.cell (k:=w.heap.size) (by omega) 1).trans K4.2.1,(PU.cell (k:=w.heap.size) (by omega) 2).trans K4.2.2⟩)))
   all_goals (
    have B3:=Lib.hid (B1.out.trans (BC.out.mono B1.out.size))
    have B4':=Lib.hid (B3.out.trans (B34.out.mono B3.out.size))
    rw [pcs_one] at l4
    have HSp:Hid (Sp w4 A3 (n+1) c3 B4 m d4 { s with fr:=SS.ins p s.fr }):=Lib.hid ⟨l3.kept B34.out,l4⟩
    have HD:=Lib.hid (put_doneH (h:=h) B4'.out (Nat.le_add_right w.heap.size 1) HSp.out HI3.out HI4.out HH.out (.int .i64 h) (.slice A3 (n+1) c3) (.slice B4 m d4))
    obtain ⟨e0,e1,e2⟩:=(Lib.hid (HR4.out.put (.int .i64 h) (.slice A3 (n+1) c3) (.slice B4 m d4))).out.cells
    go_wp2_with fail
    refine bodyPost_ret (v := .tuple #[.agg #[.int .i64 h,.slice A3 (n+1) c3,.slice B4 m d4],.int .i64 0]) (by simp [results,Tryz.results92,go_sem,e0,e1,e2]) rfl ?_
    rw [HT.out]
    exact ⟨_,rfl,HD.out.1,HD.out.2⟩)
end Go.Proofs.YtccphijgcapeoaaGreat
/-
  What the tree's release comes to: the closures.
-/
namespace Go.Proofs.YtccphijgcapeoaaGreat
open Go.RowKit Go.Maps
section
variable {W w w':World} {G F F':Nat→Prop} {tb mb pb db:Nat} {A B:Option Addr} {n c m d:Nat} {f:Int→List UInt8} {t t':TS}
def Vars (w:World) (g h tb:Nat) (p:Int):Prop:=w.cell? ⟨g,0,none⟩=some (.pointer (some ⟨tb,0,none⟩))∧w.cell? ⟨h,0,none⟩=some (.int .i64 p)
theorem Vars.kept {w w':World} {g h tb:Nat} {p:Int} (v:Vars w g h tb p) (b:Below w.heap.size w w'):Vars w' g h tb p :=
 ⟨(b.cell (World.block_lt_of_cell? _ _ v.1)).trans v.1,(b.cell (World.block_lt_of_cell? _ _ v.2)).trans v.2⟩
def RelS (g h tb:Nat) (p:Int) (A:Option Addr) (n c:Nat) (B:Option Addr) (m d:Nat) (t:TS) (w:World):Prop :=
 w.cell? ⟨g,0,none⟩=some (.pointer (some ⟨tb,0,none⟩))∧w.cell? ⟨h,0,none⟩=some (.int .i64 p)∧w.cell? ⟨tb,4,none⟩=some (.int .i64 t.sp.hi)∧w.cell? ⟨tb,5,none⟩=some (.slice A n c)∧w.cell? ⟨tb,6,none⟩=some (.slice B m d)∧w.cell? ⟨tb,7,none⟩=some (.int .i64 t.ep)
theorem rels {g h:Nat} {p:Int} (H:TAt W G F w tb mb pb db A n c B m d f t) (v:Vars w g h tb p) (b:Below w.heap.size w w'):RelS g h tb p A n c B m d t w' :=
 have k:=(H.kept b).box.cells
 have u:=v.kept b
 ⟨u.1,u.2,k.2.2.2.2.1,k.2.2.2.2.2.1,k.2.2.2.2.2.2.1,k.2.2.2.2.2.2.2.1⟩
theorem rel_give (w:World) (p:Int) (g h:Nat) (H:TAt W G F w tb mb pb db A n c B m d f t) (v:Vars w g h tb p) :
 Calls Tryz.prog 88 #[.pointer (some ⟨g,0,none⟩),.pointer (some ⟨h,0,none⟩)] w (SpEndH w (t.sp.give t.ep p).1 (t.sp.give t.ep p).2):=by
 obtain ⟨q1,q2,q3,q4⟩:=H.box.fit.few
 have hn:n≤300000:=by rw [H.box.sp.fl] at q1;omega
 have hm:m≤300000:=by rw [H.box.sp.pl] at q2;omega
 have b1:=below_one w (.cells #[.int .i64 0,.slice none 0 0,.slice none 0 0] 49)
 have bd:=b1.drew
 have H1:=Lib.hid (H.kept bd).box.sp
 have HK:Hid (∀ w':World,Below w.heap.size w w'→RelS g h tb p A n c B m d t w'):=Lib.hid (fun w' b=>rels H v b)
 have BD:=Lib.hid bd
 have HR:Hid (Box ((w.alloc (.cells #[.int .i64 0,.slice none 0 0,.slice none 0 0] 49)).drew) w.heap.size (.int .i64 0) (.slice none 0 0) (.slice none 0 0)):=Lib.hid ((box_new w (.int .i64 0) (.slice none 0 0) (.slice none 0 0)))
 clear H v b1 q1 q2 q3 q4
 go_enter Tryz.func88,Tryz.ntmps88
 go_upto_region 1 with fail
 obtain ⟨c0,c1,c2,c3,c4,c5⟩:=HK.out _ bd
 have K0:=HK.out _ bd
 clear bd
 go_region_held3 (fun w'=>w'.cell? ⟨g,0,none⟩=some (.pointer (some ⟨tb,0,none⟩))∧w'.cell? ⟨h,0,none⟩=some (.int .i64 p)∧w'.cell? ⟨tb,4,none⟩=some (.int .i64 t.sp.hi)∧w'.cell? ⟨tb,5,none⟩=some (.slice A n c)∧w'.cell? ⟨tb,6,none⟩=some (.slice B m d)∧w'.cell? ⟨tb,7,none⟩=some (.int .i64 t.ep))
  (first | exact K5 _ _ _ | exact K2 | exact K0)
  (first
    | (go_at_call 89;refine (give_hi t.sp t.sp.hi t.ep p A B n c m d _ rfl H1.out hn hm).mono ?_;rintro e w2 ⟨v2,rfl,o2,b2⟩;have BW:=Lib.hid (BD.out.trans (b2.mono BD.out.size));have K2:=HK.out _ BW.out;have K5:=fun x y z:Value=>HK.out _ (below_put BW.out (Nat.le_refl w.heap.size) x y z);have HR2:=Lib.hid (HR.out.kept b2);obtain ⟨A2,n2,c2,B2,m2,d2,rfl,p2,i2,j2⟩:=o2;have P2:=Lib.hid p2;have I2:=Lib.hid i2;have J2:=Lib.hid j2;obtain ⟨y0,y1,y2⟩:=HR2.out.cells;obtain ⟨f0,f1,f2⟩:=HR2.out.free;clear p2 i2 j2 b2))
 all_goals (
  have HD:=Lib.hid (put_doneH (h:=(t.sp.give t.ep p).2.hi) BW.out (Nat.le_refl _) P2.out (Hi.low I2.out (by simp)) (Hi.low J2.out (by simp)) rfl (.int .i64 (t.sp.give t.ep p).2.hi) (.slice A2 n2 c2) (.slice B2 m2 d2))
  obtain ⟨z0,z1,z2⟩:=(HR2.out.put (.int .i64 (t.sp.give t.ep p).2.hi) (.slice A2 n2 c2) (.slice B2 m2 d2)).cells
  clear y0 y1 y2 f0 f1 f2
  go_wp2_with fail
  refine bodyPost_ret (v := .tuple #[.agg #[.int .i64 (t.sp.give t.ep p).2.hi,.slice A2 n2 c2,.slice B2 m2 d2],.int .i64 (t.sp.give t.ep p).1]) (by simp [results,Tryz.results88,go_sem,z0,z1,z2]) rfl ?_
  exact ⟨_,rfl,HD.out.1,HD.out.2⟩)
theorem rel_back (w:World) (p:Int) (g h:Nat) (H:TAt W G F w tb mb pb db A n c B m d f t) (v:Vars w g h tb p) :
 Calls Tryz.prog 91 #[.pointer (some ⟨g,0,none⟩),.pointer (some ⟨h,0,none⟩)] w (SpEndH w (t.sp.back p).1 (t.sp.back p).2):=by
 obtain ⟨q1,q2,q3,q4⟩:=H.box.fit.few
 have hn:n≤300000:=by rw [H.box.sp.fl] at q1;omega
 have hm:m≤300000:=by rw [H.box.sp.pl] at q2;omega
 have b1:=below_one w (.cells #[.int .i64 0,.slice none 0 0,.slice none 0 0] 49)
 have bd:=b1.drew
 have H1:=Lib.hid (H.kept bd).box.sp
 have HK:Hid (∀ w':World,Below w.heap.size w w'→RelS g h tb p A n c B m d t w'):=Lib.hid (fun w' b=>rels H v b)
 have BD:=Lib.hid bd
 have HR:Hid (Box ((w.alloc (.cells #[.int .i64 0,.slice none 0 0,.slice none 0 0] 49)).drew) w.heap.size (.int .i64 0) (.slice none 0 0) (.slice none 0 0)):=Lib.hid ((box_new w (.int .i64 0) (.slice none 0 0) (.slice none 0 0)))
 clear H v b1 q1 q2 q3 q4
 go_enter Tryz.func91,Tryz.ntmps91
 go_upto_region 1 with fail
 obtain ⟨c0,c1,c2,c3,c4,c5⟩:=HK.out _ bd
 have K0:=HK.out _ bd
 clear bd
 go_region_held3 (fun w'=>w'.cell? ⟨g,0,none⟩=some (.pointer (some ⟨tb,0,none⟩))∧w'.cell? ⟨h,0,none⟩=some (.int .i64 p)∧w'.cell? ⟨tb,4,none⟩=some (.int .i64 t.sp.hi)∧w'.cell? ⟨tb,5,none⟩=some (.slice A n c)∧w'.cell? ⟨tb,6,none⟩=some (.slice B m d)∧w'.cell? ⟨tb,7,none⟩=some (.int .i64 t.ep))
  (first | exact K5 _ _ _ | exact K2 | exact K0)
  (first
    | (go_at_call 92;refine (back_hi t.sp t.sp.hi p A B n c m d _ rfl H1.out hn hm).mono ?_;rintro e w2 ⟨v2,rfl,o2,b2⟩;have BW:=Lib.hid (BD.out.trans (b2.mono BD.out.size));have K2:=HK.out _ BW.out;have K5:=fun x y z:Value=>HK.out _ (below_put BW.out (Nat.le_refl w.heap.size) x y z);have HR2:=Lib.hid (HR.out.kept b2);obtain ⟨A2,n2,c2,B2,m2,d2,rfl,p2,i2,j2⟩:=o2;have P2:=Lib.hid p2;have I2:=Lib.hid i2;have J2:=Lib.hid j2;obtain ⟨y0,y1,y2⟩:=HR2.out.cells;obtain ⟨f0,f1,f2⟩:=HR2.out.free;clear p2 i2 j2 b2))
 all_goals (
  have HD:=Lib.hid (put_doneH (h:=(t.sp.back p).2.hi) BW.out (Nat.le_refl _) P2.out (Hi.low I2.out (by simp)) (Hi.low J2.out (by simp)) rfl (.int .i64 (t.sp.back p).2.hi) (.slice A2 n2 c2) (.slice B2 m2 d2))
  obtain ⟨z0,z1,z2⟩:=(HR2.out.put (.int .i64 (t.sp.back p).2.hi) (.slice A2 n2 c2) (.slice B2 m2 d2)).cells
  clear y0 y1 y2 f0 f1 f2
  go_wp2_with fail
  refine bodyPost_ret (v := .tuple #[.agg #[.int .i64 (t.sp.back p).2.hi,.slice A2 n2 c2,.slice B2 m2 d2],.int .i64 (t.sp.back p).1]) (by simp [results,Tryz.results91,go_sem,z0,z1,z2]) rfl ?_
  exact ⟨_,rfl,HD.out.1,HD.out.2⟩)
end
end Go.Proofs.YtccphijgcapeoaaGreat
/-
  What the tree's release comes to.
-/
namespace Go.Proofs.YtccphijgcapeoaaGreat
open Go.RowKit Go.Maps
section
variable {W w w':World} {G F F':Nat→Prop} {tb mb pb db:Nat} {A B:Option Addr} {n c m d:Nat} {f:Int→List UInt8} {t t':TS}
theorem But.put3 (w:World) (r:Nat) (x y z:Value):But r w (((w.setCell ⟨r,4,none⟩ x).setCell ⟨r,5,none⟩ y).setCell ⟨r,6,none⟩ z):=(((But.refl r w).set 4 x).set 5 y).set 6 z
theorem rel_any (w:World) (p:Int) (h1 : -9223372036854775808≤p) (h2:p≤9223372036854775807) (h:TAt W G F w tb mb pb db A n c B m d f t) :
 Calls Tryz.prog 60 #[.pointer (some ⟨tb,0,none⟩),.int .i64 p] w (TErr W F w tb pb db (t.rel p).1 (t.rel p).2):=by
 have H:=Lib.hid h
 have b0:=below_two w (.cells #[.pointer (some ⟨tb,0,none⟩)] 24) (.cells #[.int .i64 p] 3)
 have v0:Vars ((w.alloc (.cells #[.pointer (some ⟨tb,0,none⟩)] 24)).alloc (.cells #[.int .i64 p] 3)) w.heap.size (w.heap.size+1) tb p:=by
  refine ⟨?_,?_⟩
  ·exact ((below_one (w.alloc (.cells #[.pointer (some ⟨tb,0,none⟩)] 24)) _).cell (p:=⟨w.heap.size,0,none⟩) (by simp)).trans ((cell_of_row _ w.heap.size 0 _ _ _ (heap_alloc_new w _)).trans rfl)
  ·have:=heap_alloc_new (w.alloc (.cells #[.pointer (some ⟨tb,0,none⟩)] 24)) (.cells #[.int .i64 p] 3)
   rw [show (w.alloc (.cells #[.pointer (some ⟨tb,0,none⟩)] 24)).heap.size=w.heap.size+1 by simp] at this
   exact (cell_of_row _ (w.heap.size+1) 0 _ _ _ this).trans rfl
 have H0:=Lib.hid (h.kept b0)
 have V0:=Lib.hid v0
 have B0:=Lib.hid b0
 have hlt:=h.box.lt
 clear h b0 v0
 go_enter Tryz.func60,Tryz.ntmps60
 go_upto_region 1 with fail
 generalize (w.alloc (.cells #[.pointer (some ⟨tb,0,none⟩)] 24)).alloc (.cells #[.int .i64 p] 3)=w0 at *
 obtain ⟨a0,a1⟩:=V0.out
 have hg0:w.heap.size≠tb:=by omega
 have hh0:w.heap.size+1≠tb:=by omega
 cases hp:t.fr p with
 | false =>
   have HF:=Lib.hid hp
   have hgone:t.gone p=t.sp.give t.ep p:=by unfold TS.gone;rw [hp];rfl
   have hrel:t.rel p=if (t.gone p).1=0 then (0,{ t with sp:=(t.gone p).2,fr:=TS.setB t.fr p false }) else ((t.gone p).1,t):=rfl
   rw [hgone] at hrel
   have hfin:(t.sp.give t.ep p).1=0→SS.Fine (t.sp.give t.ep p).2 t.z:=fun he=>by
    have h1:=H.out.box.fit.fine
    unfold SS.give at he ⊢
    split at he
    ·cases he
    ·rename_i hb
     rw [if_neg hb]
     exact h1.give (by simpa using hb)
   have HREL:=Lib.hid hrel
   clear hgone hrel
   go_wp2_with fail
   refine (isFresh_any w0 p h1 h2 H0.out.box).mono ?_
   rintro e1 w1 ⟨rfl,b1⟩
   have B1:=Lib.hid (B0.out.trans (b1.mono B0.out.size))
   have V1:=Lib.hid (V0.out.kept b1)
   have H1:=Lib.hid (H0.out.kept b1)
   rw [hp]
   clear b1 hp
   obtain ⟨c0,c1⟩:=V1.out
   go_wp2_with fail
   refine (rel_give w1 p w.heap.size (w.heap.size+1) H1.out V1.out).mono ?_
   rintro e2 w2 ⟨v2,rfl,o2,b2⟩
   obtain ⟨A2,n2,c2,B2,m2,d2,rfl,p2,i2,j2⟩:=o2
   have B2':=Lib.hid (B1.out.trans (b2.mono B1.out.size))
   clear c0 c1
   rcases hr:t.sp.give t.ep p with ⟨e,s'⟩
   have hrel:=HREL.out
   rw [hr] at hrel hfin p2
   dsimp only at hrel hfin p2 ⊢
   have HR0:=Lib.hid hr
   clear hr HREL
   by_cases he:e=0
   ·subst he
    rw [if_pos rfl] at hrel
    have b3:=(below_one w2 (.cells #[.int .i64 s'.hi,.slice A2 n2 c2,.slice B2 m2 d2] 49))
    have BX:=Lib.hid (box_new w2 (.int .i64 s'.hi) (.slice A2 n2 c2) (.slice B2 m2 d2))
    have B3:=Lib.hid (B2'.out.trans (b3.mono B2'.out.size))
    obtain ⟨F3,h3,m3⟩:=H.out.setSp B3.out (p2.kept b3) (Hi.low i2 B1.out.size) (Hi.low j2 B1.out.size) (hfin rfl)
    have V3:=Lib.hid ((V1.out.kept b2).kept b3)
    have hg0:w.heap.size≠tb:=by have:=H.out.box.lt;omega
    have hh0:w.heap.size+1≠tb:=by have:=H.out.box.lt;omega
    have C:=(H.out.kept B3.out).box.cells
    obtain ⟨c0,c1,c2',c3,c4,c5,c6,c7,c8,c9⟩:=C
    have g4:=(H.out.kept B3.out).box.free 4
    have g5:=(H.out.kept B3.out).box.free 5
    have g6:=(H.out.kept B3.out).box.free 6
    obtain ⟨x0,x1,x2⟩:=BX.out.cells
    obtain ⟨v0,v1⟩:=V3.out
    have bd:=(Below.refl ((((w2.alloc (.cells #[.int .i64 s'.hi,.slice A2 n2 c2,.slice B2 m2 d2] 49)).setCell ⟨tb,4,none⟩ (.int .i64 s'.hi)).setCell ⟨tb,5,none⟩ (.slice A2 n2 c2)).setCell ⟨tb,6,none⟩ (.slice B2 m2 d2)).heap.size ((((w2.alloc (.cells #[.int .i64 s'.hi,.slice A2 n2 c2,.slice B2 m2 d2] 49)).setCell ⟨tb,4,none⟩ (.int .i64 s'.hi)).setCell ⟨tb,5,none⟩ (.slice A2 n2 c2)).setCell ⟨tb,6,none⟩ (.slice B2 m2 d2))).drew
    have h3d:=h3.kept bd
    obtain ⟨w4,hrun,hm,hg⟩:=h3d.box.fresh.delU (i:=p) h1 h2 0
    rw [show upd (frM ({ t with sp:=s' }:TS).fr) p none=frM (TS.setB t.fr p false) from frM_del t.fr p] at hm
    obtain ⟨F4,h4,m4⟩:=h3d.setFresh hg hm (fun q hq=>by
     change (if q=p then false else t.fr q)=true at hq
     by_cases hqp:q=p
     ·rw [if_pos hqp] at hq
      cases hq
     ·rw [if_neg hqp] at hq
      exact H.out.box.fit.fresh q hq)
    have HD:Hid (TErr W F w tb pb db (t.rel p).1 (t.rel p).2 (.returned (.int .i64 0)) w4):=Lib.hid (by
     rw [hrel]
     exact ⟨rfl,F4,h4.tree,m3.trans ((Moves.of_below bd).trans m4)⟩)
    have C8:=Lib.hid h3d.box.cells.2.2.2.2.2.2.2.2.1
    have HR:=Lib.hid hrun
    have W3:Hid (Vars (((((w2.alloc (.cells #[.int .i64 s'.hi,.slice A2 n2 c2,.slice B2 m2 d2] 49)).setCell ⟨tb,4,none⟩ (.int .i64 s'.hi)).setCell ⟨tb,5,none⟩ (.slice A2 n2 c2)).setCell ⟨tb,6,none⟩ (.slice B2 m2 d2))) w.heap.size (w.heap.size+1) tb p):=Lib.hid (by
     have hb:=But.put3 (w2.alloc (.cells #[.int .i64 s'.hi,.slice A2 n2 c2,.slice B2 m2 d2] 49)) tb (.int .i64 s'.hi) (.slice A2 n2 c2) (.slice B2 m2 d2)
     exact ⟨(hb.cell hg0 0).trans v0,(hb.cell hh0 0).trans v1⟩)
    clear h3 h3d bd h4 m3 m4 hm hg hrun p2 i2 j2 hfin hrel b3 c0 c1 c2' c3 c7 c8 c9 V3
    go_upto_region 8 with fail
    generalize (((w2.alloc (.cells #[.int .i64 s'.hi,.slice A2 n2 c2,.slice B2 m2 d2] 49)).setCell ⟨tb,4,none⟩ (.int .i64 s'.hi)).setCell ⟨tb,5,none⟩ (.slice A2 n2 c2)).setCell ⟨tb,6,none⟩ (.slice B2 m2 d2)=w3 at *
    have c8:=C8.out
    have hrun:=HR.out
    obtain ⟨y0,y1⟩:=W3.out.kept ((Below.refl w3.heap.size w3).drew)
    clear x0 x1 x2 c4 c5 c6 g4 g5 g6 v0 v1
    go_region
    all_goals (
     go_wp2_with fail
     go_ret
     exact HD.out)
   ·have hb:(e != 0)=true:=bne_iff_ne.2 he
    rw [if_neg he] at hrel
    have HD:Hid (TErr W F w tb pb db (t.rel p).1 (t.rel p).2 (.returned (.int .i64 e)) (w2.alloc (.cells #[.int .i64 s'.hi,.slice A2 n2 c2,.slice B2 m2 d2] 49))):=Lib.hid (by
     rw [hrel]
     exact ⟨rfl,TGoes.of_below H.out.tree (B2'.out.trans ((below_one w2 _).mono B2'.out.size))⟩)
    clear he p2 i2 j2 hfin hrel
    go_wp2_with fail
    go_ret
    exact HD.out
 | true =>
   have HF:=Lib.hid hp
   have hgone:t.gone p=t.sp.back p:=by unfold TS.gone;rw [hp];rfl
   have hrel:t.rel p=if (t.gone p).1=0 then (0,{ t with sp:=(t.gone p).2,fr:=TS.setB t.fr p false }) else ((t.gone p).1,t):=rfl
   rw [hgone] at hrel
   have hfin:(t.sp.back p).1=0→SS.Fine (t.sp.back p).2 t.z:=fun he=>by
    have h1:=H.out.box.fit.fine
    unfold SS.back at he ⊢
    split at he
    ·cases he
    ·rename_i hb
     rw [if_neg hb]
     exact h1.back (by simpa using hb)
   have HREL:=Lib.hid hrel
   clear hgone hrel
   go_wp2_with fail
   refine (isFresh_any w0 p h1 h2 H0.out.box).mono ?_
   rintro e1 w1 ⟨rfl,b1⟩
   have B1:=Lib.hid (B0.out.trans (b1.mono B0.out.size))
   have V1:=Lib.hid (V0.out.kept b1)
   have H1:=Lib.hid (H0.out.kept b1)
   rw [hp]
   clear b1 hp
   obtain ⟨c0,c1⟩:=V1.out
   go_wp2_with fail
   refine (rel_back w1 p w.heap.size (w.heap.size+1) H1.out V1.out).mono ?_
   rintro e2 w2 ⟨v2,rfl,o2,b2⟩
   obtain ⟨A2,n2,c2,B2,m2,d2,rfl,p2,i2,j2⟩:=o2
   have B2':=Lib.hid (B1.out.trans (b2.mono B1.out.size))
   clear c0 c1
   rcases hr:t.sp.back p with ⟨e,s'⟩
   have hrel:=HREL.out
   rw [hr] at hrel hfin p2
   dsimp only at hrel hfin p2 ⊢
   have HR0:=Lib.hid hr
   clear hr HREL
   by_cases he:e=0
   ·subst he
    rw [if_pos rfl] at hrel
    have b3:=(below_one w2 (.cells #[.int .i64 s'.hi,.slice A2 n2 c2,.slice B2 m2 d2] 49))
    have BX:=Lib.hid (box_new w2 (.int .i64 s'.hi) (.slice A2 n2 c2) (.slice B2 m2 d2))
    have B3:=Lib.hid (B2'.out.trans (b3.mono B2'.out.size))
    obtain ⟨F3,h3,m3⟩:=H.out.setSp B3.out (p2.kept b3) (Hi.low i2 B1.out.size) (Hi.low j2 B1.out.size) (hfin rfl)
    have V3:=Lib.hid ((V1.out.kept b2).kept b3)
    have hg0:w.heap.size≠tb:=by have:=H.out.box.lt;omega
    have hh0:w.heap.size+1≠tb:=by have:=H.out.box.lt;omega
    have C:=(H.out.kept B3.out).box.cells
    obtain ⟨c0,c1,c2',c3,c4,c5,c6,c7,c8,c9⟩:=C
    have g4:=(H.out.kept B3.out).box.free 4
    have g5:=(H.out.kept B3.out).box.free 5
    have g6:=(H.out.kept B3.out).box.free 6
    obtain ⟨x0,x1,x2⟩:=BX.out.cells
    obtain ⟨v0,v1⟩:=V3.out
    have bd:=(Below.refl ((((w2.alloc (.cells #[.int .i64 s'.hi,.slice A2 n2 c2,.slice B2 m2 d2] 49)).setCell ⟨tb,4,none⟩ (.int .i64 s'.hi)).setCell ⟨tb,5,none⟩ (.slice A2 n2 c2)).setCell ⟨tb,6,none⟩ (.slice B2 m2 d2)).heap.size ((((w2.alloc (.cells #[.int .i64 s'.hi,.slice A2 n2 c2,.slice B2 m2 d2] 49)).setCell ⟨tb,4,none⟩ (.int .i64 s'.hi)).setCell ⟨tb,5,none⟩ (.slice A2 n2 c2)).setCell ⟨tb,6,none⟩ (.slice B2 m2 d2))).drew
    have h3d:=h3.kept bd
    obtain ⟨w4,hrun,hm,hg⟩:=h3d.box.fresh.delU (i:=p) h1 h2 0
    rw [show upd (frM ({ t with sp:=s' }:TS).fr) p none=frM (TS.setB t.fr p false) from frM_del t.fr p] at hm
    obtain ⟨F4,h4,m4⟩:=h3d.setFresh hg hm (fun q hq=>by
     change (if q=p then false else t.fr q)=true at hq
     by_cases hqp:q=p
     ·rw [if_pos hqp] at hq
      cases hq
     ·rw [if_neg hqp] at hq
      exact H.out.box.fit.fresh q hq)
    have HD:Hid (TErr W F w tb pb db (t.rel p).1 (t.rel p).2 (.returned (.int .i64 0)) w4):=Lib.hid (by
     rw [hrel]
     exact ⟨rfl,F4,h4.tree,m3.trans ((Moves.of_below bd).trans m4)⟩)
    have C8:=Lib.hid h3d.box.cells.2.2.2.2.2.2.2.2.1
    have HR:=Lib.hid hrun
    have W3:Hid (Vars (((((w2.alloc (.cells #[.int .i64 s'.hi,.slice A2 n2 c2,.slice B2 m2 d2] 49)).setCell ⟨tb,4,none⟩ (.int .i64 s'.hi)).setCell ⟨tb,5,none⟩ (.slice A2 n2 c2)).setCell ⟨tb,6,none⟩ (.slice B2 m2 d2))) w.heap.size (w.heap.size+1) tb p):=Lib.hid (by
     have hb:=But.put3 (w2.alloc (.cells #[.int .i64 s'.hi,.slice A2 n2 c2,.slice B2 m2 d2] 49)) tb (.int .i64 s'.hi) (.slice A2 n2 c2) (.slice B2 m2 d2)
     exact ⟨(hb.cell hg0 0).trans v0,(hb.cell hh0 0).trans v1⟩)
    clear h3 h3d bd h4 m3 m4 hm hg hrun p2 i2 j2 hfin hrel b3 c0 c1 c2' c3 c7 c8 c9 V3
    go_upto_region 8 with fail
    generalize (((w2.alloc (.cells #[.int .i64 s'.hi,.slice A2 n2 c2,.slice B2 m2 d2] 49)).setCell ⟨tb,4,none⟩ (.int .i64 s'.hi)).setCell ⟨tb,5,none⟩ (.slice A2 n2 c2)).setCell ⟨tb,6,none⟩ (.slice B2 m2 d2)=w3 at *
    have c8:=C8.out
    have hrun:=HR.out
    obtain ⟨y0,y1⟩:=W3.out.kept ((Below.refl w3.heap.size w3).drew)
    clear x0 x1 x2 c4 c5 c6 g4 g5 g6 v0 v1
    go_region
    all_goals (
     go_wp2_with fail
     go_ret
     exact HD.out)
   ·have hb:(e != 0)=true:=bne_iff_ne.2 he
    rw [if_neg he] at hrel
    have HD:Hid (TErr W F w tb pb db (t.rel p).1 (t.rel p).2 (.returned (.int .i64 e)) (w2.alloc (.cells #[.int .i64 s'.hi,.slice A2 n2 c2,.slice B2 m2 d2] 49))):=Lib.hid (by
     rw [hrel]
     exact ⟨rfl,TGoes.of_below H.out.tree (B2'.out.trans ((below_one w2 _).mono B2'.out.size))⟩)
    clear he p2 i2 j2 hfin hrel
    go_wp2_with fail
    go_ret
    exact HD.out
end
end Go.Proofs.YtccphijgcapeoaaGreat
/-
  What the tree's renew comes to.
-/
namespace Go.Proofs.YtccphijgcapeoaaGreat
open Go.RowKit Go.Maps
namespace TS
theorem tk_fresh {t:TS} (h:t.tk.1=0):t.tk.2.2.fr t.tk.2.1=true:=by
 unfold tk at h ⊢
 split at h
 ·rename_i e
  rw [if_pos e]
  exact if_pos rfl
 ·rename_i e
  exact absurd h e
theorem renew_fresh {t:TS} {p:Int} (h:(t.renew p).1=0):(t.renew p).2.2.fr (t.renew p).2.1=true:=by
 unfold renew at h ⊢
 cases hp:t.fr p with
 | true=>rw [if_pos rfl];exact hp
 | false =>
   rw [hp,if_neg (show ¬ (false=true) by decide)] at h
   rw [if_neg (show ¬ (false=true) by decide)]
   split at h
   ·rename_i e
    rw [if_pos e]
    exact tk_fresh h
   ·rename_i e
    rw [if_neg e]
    split at h
    ·rename_i e2
     rw [if_pos e2]
     exact tk_fresh h
    ·rename_i e2
     exact absurd h e2
end TS
section
variable {W w w':World} {G F F':Nat→Prop} {tb mb pb db:Nat} {A B:Option Addr} {n c m d:Nat} {f:Int→List UInt8} {t t':TS}
theorem tk_live (w:World) (h:Tree W F w tb pb db t):Calls Tryz.prog 59 #[.pointer (some ⟨tb,0,none⟩)] w (TPage W F w tb pb db t.tk):=by
 obtain ⟨G,mb,A,n,c,B,m,d,f,h⟩:=h
 exact tk_any w h
theorem rel_live (w:World) (p:Int) (h1 : -9223372036854775808≤p) (h2:p≤9223372036854775807) (h:Tree W F w tb pb db t) :
 Calls Tryz.prog 60 #[.pointer (some ⟨tb,0,none⟩),.int .i64 p] w (TErr W F w tb pb db (t.rel p).1 (t.rel p).2):=by
 obtain ⟨G,mb,A,n,c,B,m,d,f,h⟩:=h
 exact rel_any w p h1 h2 h
theorem fresh_live (w:World) (p:Int) (h1 : -9223372036854775808≤p) (h2:p≤9223372036854775807) (h:Tree W F w tb pb db t) :
 Calls Tryz.prog 90 #[.pointer (some ⟨tb,0,none⟩),.int .i64 p] w fun e w'=>e = .returned (.bool (t.fr p))∧Below w.heap.size w w':=by
 obtain ⟨G,mb,A,n,c,B,m,d,f,h⟩:=h
 exact isFresh_any w p h1 h2 h.box
theorem renew_live (w:World) (p:Int) (h1 : -9223372036854775808≤p) (h2:p≤9223372036854775807) (h:Tree W F w tb pb db t) :
 Calls Tryz.prog 178 #[.pointer (some ⟨tb,0,none⟩),.int .i64 p] w (TPage W F w tb pb db (t.renew p)):=by
 have H:=Lib.hid h
 have hr:t.renew p=if t.fr p then (0,p,t) else if p=0 then t.tk else if (t.rel p).1=0 then (t.rel p).2.tk else ((t.rel p).1,0,(t.rel p).2):=rfl
 have HR:=Lib.hid hr
 clear h hr
 go_enter Tryz.func178,Tryz.ntmps178
 go_wp2_with fail
 refine (fresh_live w p h1 h2 H.out).mono ?_
 rintro e w1 ⟨rfl,b1⟩
 have H1:=Lib.hid (H.out.kept b1)
 have B1:=Lib.hid b1
 clear b1
 cases hf:t.fr p with
 | true =>
   have HD:Hid (TPage W F w tb pb db (t.renew p) (.returned (.tuple #[.int .i64 p,.int .i64 0])) w1):=Lib.hid (by
    rw [HR.out,hf,if_pos rfl]
    exact ⟨rfl,TGoes.of_below H.out B1.out⟩)
   clear hf
   go_wp2_with fail
   refine bodyPost_ret (v := .tuple #[.int .i64 p,.int .i64 0]) (by simp [results,Tryz.results178,go_sem]) rfl ?_
   exact HD.out
 | false =>
   have hr:=HR.out
   rw [hf,if_neg (show ¬ (false=true) by decide)] at hr
   have HR1:=Lib.hid hr
   clear hf hr HR
   by_cases h0:p=0
   ·have hb:(p != 0)=false:=by simpa using h0
    have hr:=HR1.out
    rw [if_pos h0] at hr
    have HR2:=Lib.hid hr
    clear h0 hr HR1
    go_wp2_with fail
    refine (tk_live w1 H1.out).mono ?_
    rintro e w2 ⟨rfl,g2⟩
    have HD:Hid (TPage W F w tb pb db (t.renew p) (.returned (.tuple #[.int .i64 t.tk.2.1,.int .i64 t.tk.1])) w2):=Lib.hid (by
     rw [HR2.out]
     exact ⟨rfl,TGoes.behind B1.out g2⟩)
    clear HR2 g2
    generalize t.tk.2.1=q at *
    generalize t.tk.1=r at *
    go_wp2_with fail
    refine bodyPost_ret (v := .tuple #[.int .i64 q,.int .i64 r]) (by simp [results,Tryz.results178,go_sem]) rfl ?_
    exact HD.out
   ·have hb:(p != 0)=true:=bne_iff_ne.2 h0
    have hr:=HR1.out
    rw [if_neg h0] at hr
    have HR2:=Lib.hid hr
    clear h0 hr HR1
    go_wp2_with fail
    refine (rel_live w1 p h1 h2 H1.out).mono ?_
    rintro e w2 ⟨rfl,F2,g2,m2⟩
    have H2:=Lib.hid g2
    have M2:=Lib.hid ((Moves.of_below B1.out).trans m2)
    clear g2 m2 H1
    rcases hq:t.rel p with ⟨r,t2⟩
    rw [hq] at H2 HR2
    dsimp only at H2 HR2 ⊢
    clear hq
    by_cases he:r=0
    ·subst he
     have hr:=HR2.out
     rw [if_pos rfl] at hr
     have HR3:=Lib.hid hr
     clear hr HR2
     go_wp2_with fail
     refine (tk_live w2 H2.out).mono ?_
     rintro e w3 ⟨rfl,g3⟩
     have HD:Hid (TPage W F w tb pb db (t.renew p) (.returned (.tuple #[.int .i64 t2.tk.2.1,.int .i64 t2.tk.1])) w3):=Lib.hid (by
      rw [HR3.out]
      exact ⟨rfl,TGoes.then_ M2.out g3⟩)
     clear HR3 g3
     generalize t2.tk.2.1=q at *
     generalize t2.tk.1=r at *
     go_wp2_with fail
     refine bodyPost_ret (v := .tuple #[.int .i64 q,.int .i64 r]) (by simp [results,Tryz.results178,go_sem]) rfl ?_
     exact HD.out
    ·have hb2:(r != 0)=true:=bne_iff_ne.2 he
     have hr:=HR2.out
     rw [if_neg he] at hr
     have HD:Hid (TPage W F w tb pb db (t.renew p) (.returned (.tuple #[.int .i64 0,.int .i64 r])) w2):=Lib.hid (by
      rw [hr]
      exact ⟨rfl,F2,H2.out,M2.out⟩)
     clear he hr HR2
     go_wp2_with fail
     refine bodyPost_ret (v := .tuple #[.int .i64 0,.int .i64 r]) (by simp [results,Tryz.results178,go_sem]) rfl ?_
     exact HD.out
end
end Go.Proofs.YtccphijgcapeoaaGreat
/-
  What the tree's write comes to.
-/
namespace Go.Proofs.YtccphijgcapeoaaGreat
open Go.RowKit Go.Maps
section
variable {W w w':World} {G F F':Nat→Prop} {tb mb pb db:Nat} {A B:Option Addr} {n c m d:Nat} {f:Int→List UInt8} {t t':TS}
def LBox (w:World) (g:Nat) (q x y z p:Value):Prop:=w.heap[g]?=some (.cells #[q,x,y,z,p] 109 (0,0))
theorem LBox.lt {g:Nat} {q x y z p:Value} (h:LBox w g q x y z p):g<w.heap.size:=(Array.getElem?_eq_some_iff.1 h).1
theorem LBox.kept {g:Nat} {q x y z p:Value} (h:LBox w g q x y z p) (hb:Below w.heap.size w w'):LBox w' g q x y z p:=(hb.block g h.lt).trans h
theorem LBox.moves {g:Nat} {q x y z p:Value} (h:LBox w g q x y z p) (hm:Moves w F w' F') (hF:¬ F g):LBox w' g q x y z p:=(hm.kept.block g h.lt hF).trans h
theorem LBox.cells {g:Nat} {q x y z p:Value} (h:LBox w g q x y z p):w.cell? ⟨g,0,none⟩=some q∧w.cell? ⟨g,1,none⟩=some x∧w.cell? ⟨g,2,none⟩=some y∧w.cell? ⟨g,3,none⟩=some z∧w.cell? ⟨g,4,none⟩=some p :=
 ⟨(cell_of_row w g 0 _ _ _ h).trans rfl,(cell_of_row w g 1 _ _ _ h).trans rfl,(cell_of_row w g 2 _ _ _ h).trans rfl,(cell_of_row w g 3 _ _ _ h).trans rfl,(cell_of_row w g 4 _ _ _ h).trans rfl⟩
theorem LBox.free {g:Nat} {q x y z p:Value} (h:LBox w g q x y z p) (j:Nat):w.frozen? ⟨g,j,none⟩=false:=frozen_of_row w g j _ _ h
theorem lbox_new (w:World) (q x y z p:Value):LBox (w.alloc (.cells #[q,x,y,z,p] 109)) w.heap.size q x y z p:=heap_alloc_new w _
theorem NBox.moves {g:Nat} {x y z p:Value} (h:NBox w g x y z p) (hm:Moves w F w' F') (hF:¬ F g):NBox w' g x y z p:=(hm.kept.block g h.lt hF).trans h
theorem Moves.not {g:Nat} (hm:Moves w F w' F') (hg:g<w.heap.size) (hF:¬ F g):¬ F' g:=fun h=>by
 rcases hm.news g h with e | e
 ·exact hF e
 ·omega
theorem Tree.new (h:Tree W F w tb pb db t) {g:Nat} (hg:w.heap.size≤g):¬ F g:=fun e=>by
 have:=h.lt g e
 omega
theorem wr_live (w:World) (pg:Int) (h1 : -9223372036854775808≤pg) (h2:pg≤9223372036854775807) (lf:Bool) (A:Option Addr) (n c:Nat) (B:Option Addr) (m d:Nat) (C:Option Addr) (k e:Nat) (s:ND)
 (lf':Bool) (A':Option Addr) (n' c':Nat) (B':Option Addr) (m' d':Nat) (C':Option Addr) (k' e':Nat) (x:ND)
 (hs:Nd w A n c B m d C k e s) (hx:NdO w F A' n' c' B' m' d' C' k' e' x) (hl:s.leaf=lf) (hl':x.leaf=lf') (hz:s.size≤1000000) (hz':x.size≤1000000) (h:Tree W F w tb pb db t) :
 Calls Tryz.prog 144 #[.pointer (some ⟨tb,0,none⟩),.agg #[.int .i64 pg,.bool lf,.slice A n c,.slice B m d,.slice C k e],.agg #[.bool lf',.slice A' n' c',.slice B' m' d',.slice C' k' e']] w
  (TPage W F w tb pb db (t.wr (pg,s) x)):=by
 have H:=Lib.hid h
 have hr:t.wr (pg,s) x=if s.sameB x then (0,pg,t) else if (t.renew pg).1=0 then
  (if x.encE=0 then (0,(t.renew pg).2.1,{ (t.renew pg).2.2 with nd:=TS.setN (t.renew pg).2.2.nd (t.renew pg).2.1 x }) else (121,0,(t.renew pg).2.2))
    else ((t.renew pg).1,0,(t.renew pg).2.2):=rfl
 have HR:=Lib.hid hr
 have b1:=below_one w (.cells #[.int .i64 pg,.bool lf,.slice A n c,.slice B m d,.slice C k e] 109)
 have b2:=below_one (w.alloc (.cells #[.int .i64 pg,.bool lf,.slice A n c,.slice B m d,.slice C k e] 109)) (.cells #[.bool lf',.slice A' n' c',.slice B' m' d',.slice C' k' e'] 68)
 have b0:=b1.trans (b2.mono b1.size)
 have hlb:=(lbox_new w (.int .i64 pg) (.bool lf) (.slice A n c) (.slice B m d) (.slice C k e)).kept b2
 have hnb:=nbox_new (w.alloc (.cells #[.int .i64 pg,.bool lf,.slice A n c,.slice B m d,.slice C k e] 109)) (.bool lf') (.slice A' n' c') (.slice B' m' d') (.slice C' k' e')
 rw [show (w.alloc (.cells #[.int .i64 pg,.bool lf,.slice A n c,.slice B m d,.slice C k e] 109)).heap.size=w.heap.size+1 by simp] at hnb
 have H0:=Lib.hid (h.kept b0)
 have B0:=Lib.hid b0
 have LB:=Lib.hid hlb
 have NB:=Lib.hid hnb
 have HS:=Lib.hid (hs.kept b0)
 have HX:=Lib.hid (hx.kept b0)
 have NF:Hid (¬ F (w.heap.size+1)):=Lib.hid (h.new (Nat.le_succ _))
 have HL':=Lib.hid hl'
 have SE:=Lib.hid (fun w1 (g:Nd w1 A n c B m d C k e s) (g':Nd w1 A' n' c' B' m' d' C' k' e' x)=>same_any lf A n c B m d C k e s lf' A' n' c' B' m' d' C' k' e' x w1 g g' hl hl' hz)
 clear h hr b1 b2 b0 hlb hnb hs hx hl hl' hz
 go_enter Tryz.func144,Tryz.ntmps144
 go_upto_region 1 with fail
 generalize (w.alloc (.cells #[.int .i64 pg,.bool lf,.slice A n c,.slice B m d,.slice C k e] 109)).alloc (.cells #[.bool lf',.slice A' n' c',.slice B' m' d',.slice C' k' e'] 68)=w0 at *
 obtain ⟨c0,c1,c2,c3,c4⟩:=LB.out.cells
 obtain ⟨y0,y1,y2,y3⟩:=NB.out.cells
 go_wp2_with fail
 refine (SE.out w0 HS.out HX.out.nd).mono ?_
 rintro e1 w1 ⟨rfl,b1⟩
 have B1:=Lib.hid (B0.out.trans (b1.mono B0.out.size))
 have H1:=Lib.hid (H0.out.kept b1)
 have LB1:=Lib.hid (LB.out.kept b1)
 have NB1:=Lib.hid (NB.out.kept b1)
 have HX1:=Lib.hid (HX.out.kept b1)
 clear b1 SE HS LB NB HX H0 B0 c0 c1 c2 c3 c4 y0 y1 y2 y3
 obtain ⟨c0,c1,c2,c3,c4⟩:=LB1.out.cells
 cases hsm:s.sameB x with
 | true =>
   have HD:Hid (TPage W F w tb pb db (t.wr (pg,s) x) (.returned (.tuple #[.int .i64 pg,.int .i64 0])) w1):=Lib.hid (by
    rw [HR.out,hsm,if_pos rfl]
    exact ⟨rfl,TGoes.of_below H.out B1.out⟩)
   clear hsm
   go_wp2_with fail
   refine bodyPost_ret (v := .tuple #[.int .i64 pg,.int .i64 0]) (by simp [results,Tryz.results144,go_sem]) rfl ?_
   exact HD.out
 | false =>
   have hr:=HR.out
   rw [hsm,if_neg (show ¬ (false=true) by decide)] at hr
   have HR1:=Lib.hid hr
   clear hsm hr HR
   go_wp2_with fail
   refine (renew_live w1 pg h1 h2 H1.out).mono ?_
   rintro e2 w2 ⟨rfl,F2,g2,m2⟩
   have HF:=Lib.hid (TS.renew_fresh (t:=t) (p:=pg))
   have H2:=Lib.hid g2
   have HX2:=Lib.hid (HX1.out.moves m2)
   have NB2:=Lib.hid (NB1.out.moves m2 NF.out)
   have NF2:=Lib.hid (m2.not NB1.out.lt NF.out)
   have M2:=Lib.hid ((Moves.of_below B1.out).trans m2)
   clear g2 m2 H1 HX1 NB1 LB1 c0 c1 c2 c3 c4
   rcases hq:t.renew pg with ⟨r,q,t2⟩
   rw [hq] at H2 HR1 HF
   dsimp only at H2 HR1 HF ⊢
   clear hq
   by_cases he:r=0
   ·subst he
    have hr:=HR1.out
    rw [if_pos rfl] at hr
    have HR2:=Lib.hid hr
    have hq:=H2.out.fit.fresh q (HF.out rfl)
    have hz4:=H2.out.fit.z4
    obtain ⟨y0,y1,y2,y3⟩:=NB2.out.cells
    clear hr HR1 HF
    go_wp2_with fail
    refine (nencode_any lf' A' n' c' B' m' d' C' k' e' x w2 HX2.out.nd HL'.out hz').mono ?_
    rintro e3 w3 ⟨v3,rfl,o3,b3⟩
    have H3:=Lib.hid (H2.out.kept b3)
    have M3:=Lib.hid (M2.out.trans (Moves.of_below b3))
    clear y0 y1 y2 y3 NB2 HX2
    obtain ⟨A3,a3,rfl,l3,u3,z3⟩:=town_out o3 (H2.out.lt)
    have U3:=Lib.hid u3
    clear b3 H2 M2
    by_cases hE:x.encE=0
    ·have hr:=HR2.out
     rw [if_pos hE] at hr
     have HR3:=Lib.hid hr
     have HE:=Lib.hid hE
     clear hr HR2
     rw [hE]
     go_wp2_with fail
     refine (pack_all (R:=w3.heap.size) x.encK q A3 _ a3 x.encB w3 rfl (Out.bys u3) z3).mono ?_
     rintro e4 w4 ⟨v4,rfl,o4,b4⟩
     obtain ⟨k1,k2,k3⟩:=rdN_pack (p:=q) (by omega) (by omega) HE.out
     have H4:=Lib.hid (H3.out.kept b4)
     have M4:=Lib.hid (M3.out.trans (Moves.of_below b4))
     rw [k1]
     obtain ⟨A4,a4,rfl,l4,u4,z4⟩:=town_out o4 (H3.out.lt)
     have U4:=Lib.hid u4
     have K2:=Lib.hid k2
     have K3:=Lib.hid k3
     have Z4:=Lib.hid z4
     clear b4 o4 u4 k1 k2 k3 z4 H3 M3 o3 u3 z3 U3 l3 hE
     obtain ⟨G,mb,TA,tn,tc,TB,tm,td,ff,h4⟩:=H4.out
     have T4:=Lib.hid h4
     obtain ⟨a0,a1,a2,a3',a4',a5,a6,a7,a8,a9⟩:=h4.box.cells
     clear h4 a1 a2 a3' a4' a5 a6 a7 a8 a9
     generalize packB x.encK q x.encB=bs at *
     go_wp2_with fail
     refine (tput_any w4 q (by omega) (by omega) A4 _ a4 bs x rfl U4.out Z4.out K3.out K2.out T4.out).mono ?_
     rintro e5 w5 ⟨rfl,g5⟩
     have HD:Hid (TPage W F w tb pb db (t.wr (pg,s) x) (.returned (.tuple #[.int .i64 q,.int .i64 0])) w5):=Lib.hid (by
      rw [HR3.out]
      exact ⟨rfl,TGoes.then_ M4.out g5⟩)
     clear HR3 g5 a0
     go_wp2_with fail
     refine bodyPost_ret (v := .tuple #[.int .i64 q,.int .i64 0]) (by simp [results,Tryz.results144,go_sem]) rfl ?_
     exact HD.out
    ·have hr:=HR2.out
     rw [if_neg hE] at hr
     have hb:(x.encE != 0)=true:=bne_iff_ne.2 hE
     have HD:Hid (TPage W F w tb pb db (t.wr (pg,s) x) (.returned (.tuple #[.int .i64 0,.int .i64 121])) w3):=Lib.hid (by
      rw [hr]
      exact ⟨rfl,_,H3.out,M3.out⟩)
     clear hr HR2 hE o3 u3 z3 U3 l3
     generalize x.encE=er at *
     go_wp2_with fail
     refine bodyPost_ret (v := .tuple #[.int .i64 0,.int .i64 121]) (by simp [results,Tryz.results144,go_sem]) rfl ?_
     exact HD.out
   ·have hb2:(r != 0)=true:=bne_iff_ne.2 he
    have hr:=HR1.out
    rw [if_neg he] at hr
    have HD:Hid (TPage W F w tb pb db (t.wr (pg,s) x) (.returned (.tuple #[.int .i64 0,.int .i64 r])) w2):=Lib.hid (by
     rw [hr]
     exact ⟨rfl,F2,H2.out,M2.out⟩)
    clear he hr HR1 HF
    go_wp2_with fail
    refine bodyPost_ret (v := .tuple #[.int .i64 0,.int .i64 r]) (by simp [results,Tryz.results144,go_sem]) rfl ?_
    exact HD.out
end
end Go.Proofs.YtccphijgcapeoaaGreat
/-
  What the tree's parts comes to.
-/
namespace Go.Proofs.YtccphijgcapeoaaGreat
open Go.RowKit Go.Maps
section
variable {W w w':World} {G F F':Nat→Prop}
theorem ln_new (w:World) (cs:Array Value) (ty:TypeId) (sz n:Nat) (h:cs.size=n*sz):Ln (w.alloc (.cells cs ty)) sz (some ⟨w.heap.size,0,none⟩) n n cs.toList:=by
 refine ⟨by simpa using h,Nat.le_refl _,fun e=>(by cases e),fun ad e j u hu=>?_⟩
 obtain rfl:=Option.some.inj e
 rw [addr_add,Nat.zero_add]
 exact (cell_of_row _ w.heap.size j _ _ _ (heap_alloc_new w _)).trans (by simpa using hu)
theorem lno_new (hF:∀ k,F k→k<w.heap.size) (cs:Array Value) (ty:TypeId) (sz n:Nat) (h:cs.size=n*sz):LnO (w.alloc (.cells cs ty)) F sz (some ⟨w.heap.size,0,none⟩) n n cs.toList :=
 ⟨ln_new w cs ty sz n h,fun _ ad e hk=>by
  obtain rfl:=Option.some.inj e
  exact absurd (hF _ hk) (Nat.lt_irrefl _)⟩
def PartsEnd (w:World) (F:Nat→Prop) (s:ND) (e:Ending) (w':World):Prop :=
 ∃ A n c l B m d,e = .returned (.tuple #[.slice A n c,.slice B m d])∧NodesAt w' F A n c l∧l.map NV.s=TS.partsN s∧LnO w' F 1 B m d (strVals (TS.partsK s))∧Below w.heap.size w w'
theorem parts_any (w:World) (lf:Bool) (A:Option Addr) (n c:Nat) (B:Option Addr) (m d:Nat) (C:Option Addr) (k e:Nat) (s:ND)
 (hs:NdO w F A n c B m d C k e s) (hl:s.leaf=lf) (hz:s.size≤1000000) (ho:1000<s.size→s.ok=true) (hE:s.ents.sum≤100000000) (hF:∀ k,F k→k<w.heap.size) :
 Calls Tryz.prog 111 #[.agg #[.bool lf,.slice A n c,.slice B m d,.slice C k e]] w (PartsEnd w F s):=by
 have b0:=below_one w (.cells #[.bool lf,.slice A n c,.slice B m d,.slice C k e] 68)
 have HS:=Lib.hid (hs.kept b0)
 have HB:=Lib.hid (nbox_new w (.bool lf) (.slice A n c) (.slice B m d) (.slice C k e))
 have B0:=Lib.hid b0
 have HL:=Lib.hid hl
 have HO:=Lib.hid ho
 have HE:=Lib.hid hE
 have HFF:=Lib.hid hF
 clear hs b0 hl ho hE hF
 go_enter Tryz.func111,Tryz.ntmps111
 go_upto_region 1 with fail
 generalize w.alloc (.cells #[.bool lf,.slice A n c,.slice B m d,.slice C k e] 68)=w0 at *
 obtain ⟨c0,c1,c2,c3⟩:=HB.out.cells
 go_wp2_with fail
 refine (fits_any lf A n c B m d C k e s w0 HS.out.nd (by omega)).mono ?_
 rintro e1 w1 ⟨rfl,b1⟩
 have B1:=Lib.hid (B0.out.trans (b1.mono B0.out.size))
 have HS1:=Lib.hid (HS.out.kept b1)
 have HB1:=Lib.hid (HB.out.kept b1)
 have HF1:Hid (∀ k,F k→k<w1.heap.size):=Lib.hid (fun k hk=>Nat.lt_of_lt_of_le (HFF.out k hk) B1.out.size)
 clear b1 HS HB c0 c1 c2 c3
 obtain ⟨c0,c1,c2,c3⟩:=HB1.out.cells
 by_cases h1:s.size≤1000
 ·have hd:decide (s.size≤1000)=true:=decide_eq_true h1
  rw [hd]
  have HP:Hid (TS.partsN s=[s]∧TS.partsK s=[]):=Lib.hid ⟨if_pos h1,if_pos h1⟩
  have b2:=below_one w1 (.cells #[.bool lf,.slice A n c,.slice B m d,.slice C k e] 68)
  have LN:=Lib.hid (lno_new (F:=F) HF1.out #[.bool lf,.slice A n c,.slice B m d,.slice C k e] 68 4 1 rfl)
  have B2:=Lib.hid b2
  clear hd h1 b2
  go_wp2_with fail
  refine bodyPost_ret (v := .tuple #[.slice (some ⟨w1.heap.size,0,none⟩) 1 1,.slice none 0 0]) (by simp [results,Tryz.results111,go_sem]) rfl ?_
  refine ⟨_,_,_,[⟨A,n,c,B,m,d,C,k,e,s⟩],_,_,_,rfl,⟨?_,fun x hx=>?_⟩,by rw [HP.out.1];rfl,by rw [HP.out.2];exact LnO.none_ _ _ _,B1.out.trans (B2.out.mono B1.out.size)⟩
  ·have:=LN.out
   simpa [NV.cells,HL.out] using this
  ·rw [List.mem_singleton.1 hx]
   exact HS1.out.kept B2.out
 ·have hd:decide (s.size≤1000)=false:=decide_eq_false h1
  rw [hd]
  have HP:Hid (TS.partsN s=[s.splitL,s.splitR]∧TS.partsK s=[s.splitK]):=Lib.hid ⟨if_neg h1,if_neg h1⟩
  have HOK:=Lib.hid (HO.out (by omega))
  clear hd h1 HO
  go_wp2_with fail
  refine (split_hi lf A n c B m d C k e s w1 HS1.out.nd HL.out HOK.out hz HE.out).mono ?_
  rintro e2 w2 ⟨v,u,rfl,hv,hu,b2⟩
  obtain ⟨⟨A1,n1,c1',B1',m1,d1,C1,k1,e1,s1⟩,rfl,hx1,hs1⟩:=ndo_of hv HF1.out
  obtain ⟨⟨A2,n2,c2',B2',m2,d2,C2,k2,e2,s2⟩,rfl,hx2,hs2⟩:=ndo_of hu HF1.out
  dsimp only at hs1 hs2
  have HX1:=Lib.hid hx1
  have HX2:=Lib.hid hx2
  have HS1':=Lib.hid hs1
  have HS2':=Lib.hid hs2
  have B2'':=Lib.hid (B1.out.trans (b2.mono B1.out.size))
  have HF2:Hid (∀ k,F k→k<w2.heap.size):=Lib.hid (fun k hk=>Nat.lt_of_lt_of_le (HF1.out k hk) b2.size)
  clear hv hu hx1 hx2 hs1 hs2 b2 c0 c1 c2 c3 HB1 HS1
  unfold NV.val
  dsimp only
  generalize s.splitE=er
  obtain ⟨sk,hsk⟩:∃ sk,tb s.splitK=sk:=⟨_,rfl⟩
  rw [hsk]
  have HSK:=Lib.hid hsk
  clear hsk
  generalize hl1:s1.leaf=lf1
  generalize hl2:s2.leaf=lf2
  have HL1:=Lib.hid hl1
  have HL2:=Lib.hid hl2
  clear hl1 hl2
  obtain ⟨nb1,nb2,nb3⟩:=nbox_two w2 (.bool lf1) (.slice A1 n1 c1') (.slice B1' m1 d1) (.slice C1 k1 e1) (.bool lf2) (.slice A2 n2 c2') (.slice B2' m2 d2) (.slice C2 k2 e2)
  have N1:=Lib.hid nb1
  have N2:=Lib.hid nb2
  have N3:=Lib.hid nb3
  clear nb1 nb2 nb3
  go_upto_region 4 with fail
  generalize (w2.alloc (.cells #[.bool lf1,.slice A1 n1 c1',.slice B1' m1 d1,.slice C1 k1 e1] 68)).alloc (.cells #[.bool lf2,.slice A2 n2 c2',.slice B2' m2 d2,.slice C2 k2 e2] 68)=w3 at *
  obtain ⟨x0,x1,x2,x3⟩:=N1.out.cells
  obtain ⟨y0,y1,y2,y3⟩:=N2.out.cells
  have HF3:Hid (∀ k,F k→k<w3.heap.size):=Lib.hid (fun k hk=>Nat.lt_of_lt_of_le (HF2.out k hk) N3.out.size)
  have b4:=below_one w3 (.cells #[.bool lf1,.slice A1 n1 c1',.slice B1' m1 d1,.slice C1 k1 e1,.bool lf2,.slice A2 n2 c2',.slice B2' m2 d2,.slice C2 k2 e2] 68)
  have LN:=Lib.hid (lno_new (F:=F) HF3.out #[.bool lf1,.slice A1 n1 c1',.slice B1' m1 d1,.slice C1 k1 e1,.bool lf2,.slice A2 n2 c2',.slice B2' m2 d2,.slice C2 k2 e2] 68 4 2 rfl)
  have HF4:Hid (∀ k,F k→k<(w3.alloc (.cells #[.bool lf1,.slice A1 n1 c1',.slice B1' m1 d1,.slice C1 k1 e1,.bool lf2,.slice A2 n2 c2',.slice B2' m2 d2,.slice C2 k2 e2] 68)).heap.size):=Lib.hid (fun k hk=>Nat.lt_of_lt_of_le (HF3.out k hk) b4.size)
  have B4:=Lib.hid b4
  clear b4
  have LS:=Lib.hid (lno_new (F:=F) HF4.out #[.string sk] 9 1 1 rfl)
  have B5:=Lib.hid (below_one (w3.alloc (.cells #[.bool lf1,.slice A1 n1 c1',.slice B1' m1 d1,.slice C1 k1 e1,.bool lf2,.slice A2 n2 c2',.slice B2' m2 d2,.slice C2 k2 e2] 68)) (.cells #[.string sk] 9))
  go_wp2_with fail
  refine bodyPost_ret (v := .tuple #[.slice (some ⟨w3.heap.size,0,none⟩) 2 2,.slice (some ⟨w3.heap.size+1,0,none⟩) 1 1]) (by simp [results,Tryz.results111,go_sem]) rfl ?_
  have BX:=N3.out.trans ((B4.out.trans (B5.out.mono B4.out.size)).mono N3.out.size)
  refine ⟨_,_,_,[⟨A1,n1,c1',B1',m1,d1,C1,k1,e1,s1⟩,⟨A2,n2,c2',B2',m2,d2,C2,k2,e2,s2⟩],_,_,_,rfl,⟨?_,fun x hx=>?_⟩,?_,?_,B2''.out.trans (BX.mono B2''.out.size)⟩
  ·have:=LN.out.kept B5.out
   simpa [NV.cells,HL1.out,HL2.out] using this
  ·rcases List.mem_cons.1 hx with rfl | hx
   ·exact HX1.out.kept BX
   ·rw [List.mem_singleton.1 hx]
    exact HX2.out.kept BX
  ·rw [HP.out.1,← HS1'.out,← HS2'.out]
   rfl
  ·rw [HP.out.2]
   have:=LS.out
   rw [show (w3.alloc (.cells #[.bool lf1,.slice A1 n1 c1',.slice B1' m1 d1,.slice C1 k1 e1,.bool lf2,.slice A2 n2 c2',.slice B2' m2 d2,.slice C2 k2 e2] 68)).heap.size=w3.heap.size+1 by simp] at this
   unfold strVals
   rw [List.map_singleton,HSK.out]
   exact this
end
end Go.Proofs.YtccphijgcapeoaaGreat
/-
  What the tree's lay comes to.
-/
namespace Go.Proofs.YtccphijgcapeoaaGreat
open Go.RowKit Go.Maps
namespace TS
theorem relAll_cons (t:TS) (l:Int×ND) (r:List (Int×ND)):t.relAll (l::r)=if (t.rel l.1).1=0 then (t.rel l.1).2.relAll r else t.rel l.1:=rfl
theorem wrAll_nil (t:TS) (old:List (Int×ND)):t.wrAll old []=(0,[],t):=by
 unfold wrAll
 rfl
theorem wrAll_cons (t:TS) (old:List (Int×ND)) (n:ND) (ns:List ND):t.wrAll old (n::ns)=if (t.wr (first old) n).1=0 then
 (if (wrAll (t.wr (first old) n).2.2 old.tail ns).1=0 then (0,(t.wr (first old) n).2.1::(wrAll (t.wr (first old) n).2.2 old.tail ns).2.1,(wrAll (t.wr (first old) n).2.2 old.tail ns).2.2)
 else ((wrAll (t.wr (first old) n).2.2 old.tail ns).1,[],(wrAll (t.wr (first old) n).2.2 old.tail ns).2.2))
 else ((t.wr (first old) n).1,[],(t.wr (first old) n).2.2):=by
 conv=>lhs;unfold wrAll
theorem wrAll_err (t:TS) (old:List (Int×ND)) (ns:List ND) (h:(t.wrAll old ns).1≠0):(t.wrAll old ns).2.1=[]:=by
 cases ns with
 | nil=>rw [wrAll_nil]
 | cons n ns =>
   rw [wrAll_cons] at h ⊢
   split
   ·rename_i e
    rw [if_pos e] at h
    split
    ·rename_i e2
     rw [if_pos e2] at h
     exact absurd rfl h
    ·rfl
   ·rfl
def more (xs:List Int) (q:Int×List Int×TS):Int×List Int×TS:=if q.1=0 then (0,xs++q.2.1,q.2.2) else (q.1,[],q.2.2)
theorem more_nil (t:TS) (old:List (Int×ND)) (ns:List ND):more [] (t.wrAll old ns)=t.wrAll old ns:=by
 unfold more
 split
 ·rename_i e
  rw [List.nil_append,← e]
 ·rename_i e
  have:=wrAll_err t old ns e
  rcases hq:t.wrAll old ns with ⟨a,b,c⟩
  rw [hq] at this
  dsimp only at this ⊢
  rw [this]
theorem more_step {t:TS} {old:List (Int×ND)} {ns:List ND} {k:Nat} {n:ND} (xs:List Int) (hn:ns[k]?=some n) (h0:(t.wr (first (old.drop k)) n).1=0) :
 more xs (t.wrAll (old.drop k) (ns.drop k))=more (xs++[(t.wr (first (old.drop k)) n).2.1]) ((t.wr (first (old.drop k)) n).2.2.wrAll (old.drop (k+1)) (ns.drop (k+1))):=by
 obtain ⟨h1,h2⟩:=List.getElem?_eq_some_iff.1 hn
 rw [List.drop_eq_getElem_cons h1,h2,wrAll_cons,if_pos h0,List.tail_drop]
 generalize (t.wr (first (old.drop k)) n).2.2.wrAll (old.drop (k+1)) (ns.drop (k+1))=q
 unfold more
 by_cases hq:q.1=0
 ·rw [if_pos hq,if_pos rfl,if_pos hq]
  simp
 ·rw [if_neg hq,if_neg hq,if_neg hq]
theorem more_bad {t:TS} {old:List (Int×ND)} {ns:List ND} {k:Nat} {n:ND} (xs:List Int) (hn:ns[k]?=some n) (h0:(t.wr (first (old.drop k)) n).1≠0) :
 more xs (t.wrAll (old.drop k) (ns.drop k))=((t.wr (first (old.drop k)) n).1,[],(t.wr (first (old.drop k)) n).2.2):=by
 obtain ⟨h1,h2⟩:=List.getElem?_eq_some_iff.1 hn
 rw [List.drop_eq_getElem_cons h1,h2,wrAll_cons,if_neg h0]
 unfold more
 rw [if_neg h0]
theorem more_end (t:TS) (old:List (Int×ND)) {ns:List ND} {k:Nat} (xs:List Int) (hk:ns.length≤k):more xs (t.wrAll (old.drop k) (ns.drop k))=(0,xs,t):=by
 rw [List.drop_of_length_le hk,wrAll_nil]
 unfold more
 rw [if_pos rfl,List.append_nil]
theorem lay_eq (t:TS) (old:List (Int×ND)) (ns:List ND):t.lay old ns=if (t.relAll (old.drop ns.length)).1=0 then (t.relAll (old.drop ns.length)).2.wrAll old ns else ((t.relAll (old.drop ns.length)).1,[],(t.relAll (old.drop ns.length)).2):=rfl
end TS
section
variable {W w w':World} {G F F':Nat→Prop} {tb mb pb db:Nat} {A B:Option Addr} {n c m d:Nat} {f:Int→List UInt8} {t t':TS}
def dropZ (A:Option Addr) (c sz k:Nat):Option Addr:=if c=k then A else A.map (·.add (k*sz))
theorem lno_dropZ {sz:Nat} {cs:List Value} (h:LnO w F sz A n c cs) (hs:0<sz) {k:Nat} (hk:k≤n):LnO w F sz (dropZ A c sz k) (n - k) (c - k) (cs.drop (k*sz)):=by
 have hle:=h.ln.le
 have hlen:=h.ln.len
 rcases A with _ | ad
 ·obtain ⟨rfl,rfl⟩:=h.ln.lies.1 rfl
  obtain rfl:k=0:=by omega
  have:cs=[]:=List.eq_nil_of_length_eq_zero (by omega)
  subst this
  simpa [dropZ] using LnO.none_ w F sz
 ·by_cases hn0:n=k
  ·subst hn0
   have e:cs.drop (n*sz)=[]:=List.drop_of_length_le (by omega)
   rw [e,Nat.sub_self]
   refine ⟨⟨by simp,Nat.zero_le _,fun e=>?_,fun ad _ j u hu=>by simp at hu⟩,fun h0=>absurd h0 (by omega)⟩
   unfold dropZ at e
   split at e<;>simp at e
  ·have hc:¬ c=k:=by omega
   obtain ⟨b,off,e,_⟩:=h.ln.spot (by rw [hlen];exact Nat.mul_pos (by omega) hs)
   obtain rfl:=Option.some.inj e
   have:=h.ln.drop hk
   unfold dropZ
   rw [if_neg hc,Option.map_some,addr_add]
   refine ⟨this,fun _ ad e=>?_⟩
   obtain rfl:=Option.some.inj e
   exact h.out (by omega) ⟨b,off,none⟩ rfl
theorem sz_L:∀ w,(sizeOf (Tryz.prog.elem 184)).run Tryz.prog w = .ok 5 w:=fun w=>by kernel_rfl
theorem from_L {n c k:Nat} (A:Option Addr) (hk:k≤n) (w:World):(Instr.slice 184 (.slice A n c) (some (.int .i64 (k:Int))) none none).run Tryz.prog w = .ok (.slice (dropZ A c 5 k) (n - k) (c - k)) w:=by
 rw [run_slice_l (P:=Tryz.prog) (w:=w) 184 A n c Tryz.underlying184 .i64 (k:Int) (by omega) (by omega),sz_L]
 simp [Result.andThen,sliced,dropZ]
theorem flat_drop {α:Type} {g:α→List Value} {sz:Nat} (hg:∀ x,(g x).length=sz):∀ (l:List α) (k:Nat),(l.flatMap g).drop (k*sz)=(l.drop k).flatMap g
 | [],k=>by simp
 | x::l,0=>by simp
 | x::l,k+1=>by
   rw [List.flatMap_cons,List.drop_succ_cons,← flat_drop hg l k,Nat.succ_mul,Nat.add_comm,← List.drop_drop,List.drop_left' (hg x)]
theorem LdAt.drop {l:List LV} (h:LdAt w F A n c l) {k:Nat} (hk:k≤n):LdAt w F (dropZ A c 5 k) (n - k) (c - k) (l.drop k) :=
 ⟨by have:=lno_dropZ h.ln (by omega) hk;rwa [flat_drop LV.clen] at this,fun x hx=>h.ok x (List.mem_of_mem_drop hx)⟩
theorem trow_same {base sz k:Nat} {e:TypeId} {v:Value} {xs:List Value} (h:w.ownsRow base e sz v k xs) (f:∀ g,v.ownBlock=some g→w'.heap[g]?=w.heap[g]?):w'.ownsRow base e sz v k xs:=by
 obtain ⟨h1,h2⟩:=h
 refine ⟨h1,?_⟩
 rcases h2 with h2 | ⟨g,cap,cur,hv,hg,hh,r⟩
 ·exact Or.inl h2
 ·exact Or.inr ⟨g,cap,cur,hv,hg,by rw [f g (by rw [hv];rfl)];exact hh,r⟩
theorem Tree.grown {row:Option Nat} (h:Tree W F w tb pb db t) (hg:w.grownBy w' row) (hr:∀ g,row=some g→¬ F g∧W.heap.size≤g):Tree W F w' tb pb db t:=by
 obtain ⟨G,mb,A,n,c,B,m,d,f,h⟩:=h
 have hk:∀ k,k<w.heap.size→F k→w'.heap[k]?=w.heap[k]?:=fun k hk hF=>hg.block k hk (fun e=>(hr k e.symm).1 hF)
 have hb:Below W.heap.size W w':=h.below.grown hg h.below.size (fun g e=>(hr g e).2)
 refine ⟨G,mb,A,n,c,B,m,d,f,?_,h.nds,h.box.same (fun k ho=>hk k (h.box.own_lt ho) ((h.hF k).2 (Or.inr ho))),h.hF,h.apart,h.base,hb⟩
 exact h.pool.other (H:=fun k=>row=some k) (G':=fun _=>False) ⟨⟨hg.os,hg.tape,hg.output,hg.size,fun k h1 h2=>hg.block k h1 (fun e=>h2 e.symm)⟩,fun _ e=>e.elim⟩ (fun k hG e=>(hr k e).1 ((h.hF k).2 (Or.inl hG))) hb
theorem Moves.grown {w0:World} {F0:Nat→Prop} {row:Option Nat} (h:Moves w0 F0 w F) (hg:w.grownBy w' row) (hr:∀ g,row=some g→w0.heap.size≤g):Moves w0 F0 w' F :=
 ⟨⟨hg.os.trans h.kept.os,hg.tape.trans h.kept.tape,hg.output.trans h.kept.output,Nat.le_trans h.kept.size hg.size,fun k h1 h2=>(hg.block k (Nat.lt_of_lt_of_le h1 h.kept.size) (fun e=>by have:=hr k e.symm;omega)).trans (h.kept.block k h1 h2)⟩,h.news⟩
structure PgOwn (b:Nat) (w:World) (F:Nat→Prop) (v:Value) (xs:List Int):Prop where
 own:w.ownsRow b 3 1 v xs.length (intVals xs)
 out:∀ g,v.ownBlock=some g→¬ F g
theorem PgOwn.moves {b:Nat} {v:Value} {xs:List Int} (h:PgOwn b w F v xs) (m:Moves w F w' F'):PgOwn b w' F' v xs :=
 ⟨trow_same h.own (fun g e=>m.kept.block g (h.own.lt g e).2 (h.out g e)),fun g e=>m.not (h.own.lt g e).2 (h.out g e)⟩
theorem PgOwn.kept {b:Nat} {v:Value} {xs:List Int} (h:PgOwn b w F v xs) (hb:Below w.heap.size w w'):PgOwn b w' F v xs :=
 ⟨trow_same h.own (fun g e=>hb.block g (h.own.lt g e).2),h.out⟩
theorem PgOwn.ln {b:Nat} {v:Value} {xs:List Int} (h:PgOwn b w F v xs):∃ A c,v = .slice A xs.length c∧LnO w F 1 A xs.length c (intVals xs):=by
 obtain ⟨A,c,e,_,h1⟩:=Ln.of_own h.own
 subst e
 refine ⟨A,c,rfl,h1,fun hn ad e=>h.out ad.block ?_⟩
 rcases h.own.2 with ⟨e1,e2⟩ | ⟨g,cap,cur,e1,_⟩
 ·omega
 ·injection e1 with e1 e2 e3
  rw [e1] at e
  injection e with e
  subst e
  rw [e1]
  rfl
def TLay (W:World) (F:Nat→Prop) (w:World) (tb pb db:Nat) (r:Int×List Int×TS) (e:Ending) (w':World):Prop :=
 ∃ A k c F',e = .returned (.tuple #[.slice A k c,.int .i64 r.1])∧LnO w' F' 1 A k c (intVals r.2.1)∧Tree W F' w' tb pb db r.2.2∧Moves w F w' F'
def Lay1 (W:World) (F:Nat→Prop) (w:World) (tb pb db:Nat) (t:TS) (old:List (Int×ND)) (k:Nat) (wr:World):Prop :=
 ∃ tk Fk,Tree W Fk wr tb pb db tk∧Moves w F wr Fk∧t.relAll old=tk.relAll (old.drop k)
def Lay2 (W:World) (F:Nat→Prop) (w:World) (tb pb db:Nat) (r:Int×List Int×TS) (old:List (Int×ND)) (ns:List ND) (k:Nat) (v:Value) (wr:World):Prop :=
 ∃ tk Fk xs,Tree W Fk wr tb pb db tk∧Moves w F wr Fk∧PgOwn w.heap.size wr Fk v xs∧xs.length=k∧r=TS.more xs (tk.wrAll (old.drop k) (ns.drop k))
end
end Go.Proofs.YtccphijgcapeoaaGreat
/-
  What the tree's read and find come to.
-/
namespace Go.Proofs.YtccphijgcapeoaaGreat
open Go.RowKit Go.Maps
section
variable {W w w':World} {G F F':Nat→Prop} {tb mb pb db:Nat} {A B C:Option Addr} {n c m d k e:Nat} {f:Int→List UInt8} {t t':TS}
theorem NdO.but {q:Nat} {b:Bool} {A1 A2 A3:Option Addr} {n1 n2 n3 c1 c2 c3:Nat} {s:ND} (g:NdO w F A n c B m d C k e s) (h:NBox w q (.bool b) (.slice A1 n1 c1) (.slice A2 n2 c2) (.slice A3 n3 c3)) (hb:NBut q w w'):NdO w' F A n c B m d C k e s :=
 ⟨⟨g.ke.ln.strBut h hb,g.ke.out⟩,⟨g.va.ln.strBut h hb,g.va.out⟩,⟨g.ki.ln.intBut h hb,g.ki.out⟩⟩
theorem NV.ok.but {q:Nat} {b:Bool} {A1 A2 A3:Option Addr} {n1 n2 n3 c1 c2 c3:Nat} {x:NV} (g:x.ok w F) (h:NBox w q (.bool b) (.slice A1 n1 c1) (.slice A2 n2 c2) (.slice A3 n3 c3)) (hb:NBut q w w'):x.ok w' F:=NdO.but g h hb
theorem grown_nput (w:World) (r:Nat) (x y z p:Value):w.grownBy ((((w.setCell ⟨r,0,none⟩ x).setCell ⟨r,1,none⟩ y).setCell ⟨r,2,none⟩ z).setCell ⟨r,3,none⟩ p) (some r) :=
 ⟨rfl,rfl,rfl,by simp [World.setCell],fun k _ hne=>(NBut.put w r x y z p).2 k (fun e=>hne (by rw [e]))⟩
def NV.hi (x:NV) (b:Nat):Prop:=NHi b x.A∧NHi b x.B∧NHi b x.C
theorem NV.hi.low {x:NV} {b b':Nat} (h:x.hi b) (hb:b'≤b):x.hi b':=⟨h.1.low hb,h.2.1.low hb,h.2.2.low hb⟩
theorem NV.hi_zero (b:Nat):NV.zero.hi b:=⟨NHi.none_ _,NHi.none_ _,NHi.none_ _⟩
theorem ndo_hi {base:Nat} {v:Value} {s:ND} (h:NdV w base v s) (hF:∀ k,F k→k<base):∃ x:NV,v=x.val∧x.ok w F∧x.s=s∧x.hi base:=by
 obtain ⟨A,n,c,B,m,d,C,k,e,rfl,h,h1,h2,h3⟩:=h
 exact ⟨⟨A,n,c,B,m,d,C,k,e,s⟩,rfl,⟨LnO.of_hi h.ke h1 hF,LnO.of_hi h.va h2 hF,LnO.of_hi h.ki h3 hF⟩,rfl,h1,h2,h3⟩
def TNode (W:World) (F:Nat→Prop) (w:World) (tb pb db:Nat) (s:ND) (r:Int) (t:TS) (e:Ending) (w':World):Prop :=
 ∃ x F',e = .returned (.tuple #[NV.val x,.int .i64 r])∧x.ok w' F'∧x.s=s∧x.hi w.heap.size∧Tree W F' w' tb pb db t∧Moves w F w' F'
theorem tnode_put {w0 w1:World} {r:Nat} {s:ND} {er:Int} {x:NV} (h:Tree W F w1 tb pb db t) (hm:Moves w F' w1 F) (hW:W.heap.size≤w.heap.size) (hr:w.heap.size≤r) (hF:¬ F r) (hb:NBox w1 r (.bool false) (.slice none 0 0) (.slice none 0 0) (.slice none 0 0)) (hx:x.ok w1 F) (hs:x.s=s) (hh:x.hi w.heap.size) (hw:w1=w0) :
 TNode W F' w tb pb db s er t (.returned (.tuple #[x.val,.int .i64 er])) ((((w0.setCell ⟨r,0,none⟩ (.bool x.s.leaf)).setCell ⟨r,1,none⟩ (.slice x.A x.n x.c)).setCell ⟨r,2,none⟩ (.slice x.B x.m x.d)).setCell ⟨r,3,none⟩ (.slice x.C x.k x.e)) ∧
 NBox ((((w0.setCell ⟨r,0,none⟩ (.bool x.s.leaf)).setCell ⟨r,1,none⟩ (.slice x.A x.n x.c)).setCell ⟨r,2,none⟩ (.slice x.B x.m x.d)).setCell ⟨r,3,none⟩ (.slice x.C x.k x.e)) r (.bool x.s.leaf) (.slice x.A x.n x.c) (.slice x.B x.m x.d) (.slice x.C x.k x.e):=by
 subst hw
 have hg:=grown_nput w1 r (.bool x.s.leaf) (.slice x.A x.n x.c) (.slice x.B x.m x.d) (.slice x.C x.k x.e)
 refine ⟨⟨x,F,rfl,hx.but hb (NBut.put _ r _ _ _ _),hs,hh,?_,hm.grown hg (fun g e=>by
  obtain rfl:=Option.some.inj e
  exact hr)⟩,hb.put _ _ _ _⟩
 exact h.grown hg (fun g e=>by
  obtain rfl:=Option.some.inj e
  exact ⟨hF,Nat.le_trans hW hr⟩)
theorem TAt.ndsI {tb mb pb db:Nat} {A B:Option Addr} {n c m d:Nat} {f:Int→List UInt8} (h:TAt W G F w tb mb pb db A n c B m d f t) (p:Int) (h0:0≤p) (h1:p<t.z):rdN p (f p)=t.nd p:=by
 have:=h.nds p.toNat (by omega) (by omega)
 rwa [show ((p.toNat:Nat):Int)=p by omega] at this
theorem tnode_zero {w1:World} {r:Nat} {er:Int} (h:Tree W F w1 tb pb db t) (hm:Moves w F' w1 F) (hW:W.heap.size≤w.heap.size) (hr:w.heap.size≤r) (hF:¬ F r) (hb:NBox w1 r (.bool false) (.slice none 0 0) (.slice none 0 0) (.slice none 0 0)) :
 TNode W F' w tb pb db ND.zero er t (.returned (.tuple #[.agg #[.bool false,.slice none 0 0,.slice none 0 0,.slice none 0 0],.int .i64 er])) ((((w1.setCell ⟨r,0,none⟩ (.bool false)).setCell ⟨r,1,none⟩ (.slice none 0 0)).setCell ⟨r,2,none⟩ (.slice none 0 0)).setCell ⟨r,3,none⟩ (.slice none 0 0)) ∧
 NBox ((((w1.setCell ⟨r,0,none⟩ (.bool false)).setCell ⟨r,1,none⟩ (.slice none 0 0)).setCell ⟨r,2,none⟩ (.slice none 0 0)).setCell ⟨r,3,none⟩ (.slice none 0 0)) r (.bool false) (.slice none 0 0) (.slice none 0 0) (.slice none 0 0) :=
 tnode_put (x:=NV.zero) (s:=ND.zero) h hm hW hr hF hb (NV.zero_ok _ _) rfl (NV.hi_zero _) rfl
def nodeE (t:TS) (p:Int):Int:=if (t.nd p).isSome then 0 else 121
def nodeS (t:TS) (p:Int):ND:=(t.nd p).getD ND.zero
theorem tread_live (w:World) (p:Int) (h0:0≤p) (h1:p<t.z) (h:Tree W F w tb pb db t) :
 Calls Tryz.prog 58 #[.pointer (some ⟨tb,0,none⟩),.int .i64 p] w (TNode W F w tb pb db (nodeS t p) (nodeE t p) t):=by
 obtain ⟨G,mb,TA,tn,tc,TB,tm,td,ff,h⟩:=h
 have b0:=below_one w (.cells #[.bool false,.slice none 0 0,.slice none 0 0,.slice none 0 0] 68)
 have H:=Lib.hid (h.kept b0)
 have B0:=Lib.hid b0
 have HR:=Lib.hid (nbox_new w (.bool false) (.slice none 0 0) (.slice none 0 0) (.slice none 0 0))
 have NF:Hid (¬ F w.heap.size):=Lib.hid (h.tree.new (Nat.le_refl _))
 have HW:=Lib.hid h.below.size
 have HN:=Lib.hid (h.ndsI p h0 h1)
 obtain ⟨a0,a1,a2,a3,a4,a5,a6,a7,a8,a9⟩:=(h.kept b0).box.cells
 clear h b0 a1 a2 a3 a4 a5 a6 a7 a8 a9
 go_enter Tryz.func58,Tryz.ntmps58
 go_upto_region 1 with fail
 generalize w.alloc (.cells #[.bool false,.slice none 0 0,.slice none 0 0,.slice none 0 0] 68)=w0 at *
 go_wp2_with fail
 refine (tget_any w0 p h0 h1 H.out).mono ?_
 rintro e1 w1 ⟨A1,c1,G1,F1,mb1,TA1,tn1,tc1,TB1,tm1,td1,rfl,o1,hlen,h1',m1⟩
 have H1:=Lib.hid h1'.tree
 have M1:=Lib.hid ((Moves.of_below B0.out).trans m1)
 have HR1:=Lib.hid (HR.out.moves m1 NF.out)
 have NF1:=Lib.hid (m1.not HR.out.lt NF.out)
 obtain ⟨A1',c1',ev,_,hnc5,_,r1⟩:=Bys.of_own o1
 injection ev with e1 e2 e3
 subst e1 e3
 have hc1:(ff p).length≤c1:=hnc5
 have BY:=Lib.hid r1
 clear o1 h1' m1 r1 a0 H HR NF
 generalize ff p=bs at *
 go_wp2_with fail
 refine (unp_all (R:=w1.heap.size) p A1 bs.length c1 bs w1 rfl BY.out hc1 (by omega)).mono ?_
 rintro e2 w2 ⟨v2,rfl,o2,b2⟩
 have H2:=Lib.hid (H1.out.kept b2)
 have M2:=Lib.hid (M1.out.trans (Moves.of_below b2))
 have HR2:=Lib.hid (HR1.out.kept b2)
 clear b2 H1 M1 HR1 BY
 obtain ⟨f0,f1,f2,f3⟩:=HR2.out.free
 obtain ⟨x0,x1,x2,x3⟩:=HR2.out.cells
 by_cases hf:IsF p bs
 ·have hrd:rdN p bs=ND.dec (kin bs) (dat bs):=if_pos hf
  have HN2:Hid (ND.dec (kin bs) (dat bs)=t.nd p):=Lib.hid (by rw [← hrd];exact HN.out)
  rw [unpB,if_pos hf] at o2
  rw [unpK,unpE,if_pos hf,if_pos hf]
  obtain ⟨A2,c2,rfl,_,hc2',hc2,r2⟩:=Bys.of_own o2
  have BY2:=Lib.hid r2
  clear o2 r2 hf hrd HN
  generalize dat bs=db2 at *
  generalize kin bs=kk at *
  go_wp2_with fail
  refine (ndecode_any (R:=w2.heap.size) kk A2 db2.length c2 db2 w2 rfl BY2.out hc2' hc2).mono ?_
  rintro e3 w3 ⟨v3,rfl,hv,b3⟩
  obtain ⟨y,rfl,hy,hys,hyh⟩:=ndo_hi hv H2.out.lt
  have HYH:=Lib.hid (hyh.low M2.out.kept.size)
  clear hyh
  obtain ⟨yA,yn,yc,yB,ym,yd,yC,yk,ye,ys⟩:=y
  have HY:=Lib.hid hy
  have HYS:=Lib.hid hys
  have H3:=Lib.hid (H2.out.kept b3)
  have M3:=Lib.hid (M2.out.trans (Moves.of_below b3))
  have HR3:=Lib.hid (HR2.out.kept b3)
  clear hv hy hys b3 H2 M2 HR2 BY2 f0 f1 f2 f3 x0 x1 x2 x3
  unfold NV.val
  dsimp only
  cases hd:ND.dec kk db2 with
  | none =>
    have he:ND.decE kk db2=100:=(ND.dec_none hd).1
    rw [he]
    have HNE:Hid (nodeE t p=121∧nodeS t p=ND.zero):=Lib.hid (by
     unfold nodeE nodeS
     rw [← HN2.out,hd]
     exact ⟨rfl,rfl⟩)
    have b4:=below_one w3 (.cells #[.bool ys.leaf,.slice yA yn yc,.slice yB ym yd,.slice yC yk ye] 68)
    have HP:=tnode_zero (er:=121) (H3.out.kept b4) (M3.out.trans (Moves.of_below b4)) HW.out (Nat.le_refl _) NF1.out (HR3.out.kept b4)
    have HP1:=Lib.hid HP.1
    obtain ⟨z0,z1,z2,z3⟩:=HP.2.cells
    obtain ⟨f0,f1,f2,f3⟩:=(HR3.out.kept b4).free
    obtain ⟨x0,x1,x2,x3⟩:=(HR3.out.kept b4).cells
    clear HP b4 hd he HN2 HR3 H3 M3
    go_wp2_with fail
    refine bodyPost_ret (v := .tuple #[.agg #[.bool false,.slice none 0 0,.slice none 0 0,.slice none 0 0],.int .i64 121]) (by simp [results,Tryz.results58,go_sem,z0,z1,z2,z3]) rfl ?_
    rw [HNE.out.1,HNE.out.2]
    exact HP1.out
  | some s =>
    have he:ND.decE kk db2=0:=(ND.dec_some hd).1
    have HSS:Hid (ys=s):=Lib.hid (HYS.out.trans (ND.dec_some hd).2)
    rw [he]
    have HNE:Hid (nodeE t p=0∧nodeS t p=s):=Lib.hid (by
     unfold nodeE nodeS
     rw [← HN2.out,hd]
     exact ⟨rfl,rfl⟩)
    have b4:=below_one w3 (.cells #[.bool ys.leaf,.slice yA yn yc,.slice yB ym yd,.slice yC yk ye] 68)
    have HP:=tnode_put (x:=⟨yA,yn,yc,yB,ym,yd,yC,yk,ye,ys⟩) (s:=s) (er:=0) (H3.out.kept b4) (M3.out.trans (Moves.of_below b4)) HW.out (Nat.le_refl _) NF1.out (HR3.out.kept b4) (HY.out.kept b4) HSS.out HYH.out rfl
    have HP1:=Lib.hid HP.1
    obtain ⟨z0,z1,z2,z3⟩:=HP.2.cells
    obtain ⟨f0,f1,f2,f3⟩:=(HR3.out.kept b4).free
    obtain ⟨x0,x1,x2,x3⟩:=(HR3.out.kept b4).cells
    clear HP b4 hd he HN2 HR3 H3 M3
    dsimp only at z0 z1 z2 z3 HP1
    go_wp2_with fail
    refine bodyPost_ret (v := .tuple #[.agg #[.bool ys.leaf,.slice yA yn yc,.slice yB ym yd,.slice yC yk ye],.int .i64 0]) (by simp [results,Tryz.results58,go_sem,z0,z1,z2,z3]) rfl ?_
    rw [HNE.out.1,HNE.out.2]
    exact HP1.out
 ·have hrd:rdN p bs=none:=if_neg hf
  have HNE:Hid (nodeE t p=121∧nodeS t p=ND.zero):=Lib.hid (by
   unfold nodeE nodeS
   rw [← HN.out,hrd]
   exact ⟨rfl,rfl⟩)
  rw [unpK,unpE,if_neg hf,if_neg hf]
  have HP:=tnode_zero (er:=121) H2.out M2.out HW.out (Nat.le_refl _) NF1.out HR2.out
  have HP1:=Lib.hid HP.1
  obtain ⟨z0,z1,z2,z3⟩:=HP.2.cells
  clear HP hf hrd HN H2 M2 HR2 o2
  go_wp2_with fail
  refine bodyPost_ret (v := .tuple #[.agg #[.bool false,.slice none 0 0,.slice none 0 0,.slice none 0 0],.int .i64 121]) (by simp [results,Tryz.results58,go_sem,z0,z1,z2,z3]) rfl ?_
  rw [HNE.out.1,HNE.out.2]
  exact HP1.out
end
end Go.Proofs.YtccphijgcapeoaaGreat
/-
  What the tree's find comes to.
-/
namespace Go.Proofs.YtccphijgcapeoaaGreat
open Go.RowKit Go.Maps
section
variable {W w w':World} {G F F':Nat→Prop} {tb mb pb db:Nat} {t t':TS}
def findE (t:TS) (p:Int) (leaf:Bool):Int:=if (TS.nodeAt t.nd p leaf).isSome then 0 else 121
def findL (t:TS) (p:Int) (leaf:Bool):Int×ND:=match TS.nodeAt t.nd p leaf with
 | some n=>(p,n)
 | none=>(0,ND.zero)
def TLv (W:World) (F:Nat→Prop) (w:World) (tb pb db:Nat) (l:Int×ND) (r:Int) (t:TS) (e:Ending) (w':World):Prop :=
 ∃ x F',e = .returned (.tuple #[LV.val x,.int .i64 r])∧x.x.ok w' F'∧x.at_=l∧x.x.hi w.heap.size∧Tree W F' w' tb pb db t∧Moves w F w' F'
theorem LBox.put {g:Nat} {q x y z p:Value} (h:LBox w g q x y z p) (q' x' y' z' p':Value):LBox (((((w.setCell ⟨g,0,none⟩ q').setCell ⟨g,1,none⟩ x').setCell ⟨g,2,none⟩ y').setCell ⟨g,3,none⟩ z').setCell ⟨g,4,none⟩ p') g q' x' y' z' p':=by
 have e0:=Joins.block_setCell (i:=0) h q'
 have e1:=Joins.block_setCell (i:=1) e0 x'
 have e2:=Joins.block_setCell (i:=2) e1 y'
 have e3:=Joins.block_setCell (i:=3) e2 z'
 exact Joins.block_setCell (i:=4) e3 p'
theorem grown_set {r:Nat} (h:w.grownBy w' (some r)) (j:Nat) (u:Value):w.grownBy (w'.setCell ⟨r,j,none⟩ u) (some r) :=
 ⟨h.os,h.tape,h.output,by simpa [World.setCell] using h.size,fun k hk hne=>(Below.heap_setCell _ _ _ _ (fun e=>hne (by rw [e]))).trans (h.block k hk hne)⟩
theorem grown_lput (w:World) (r:Nat) (q x y z p:Value):w.grownBy (((((w.setCell ⟨r,0,none⟩ q).setCell ⟨r,1,none⟩ x).setCell ⟨r,2,none⟩ y).setCell ⟨r,3,none⟩ z).setCell ⟨r,4,none⟩ p) (some r) :=
 grown_set (grown_set (grown_set (grown_set (grown_set (World.grownBy.refl w (some r)) 0 q) 1 x) 2 y) 3 z) 4 p
theorem NV.ok.grown {x:NV} {r b:Nat} (h:x.ok w F) (hh:x.hi b) (hb:r<b) (hg:w.grownBy w' (some r)):x.ok w' F:=by
 have mv:∀ {A:Option Addr} {n c:Nat} {cs:List Value},LnO w F 1 A n c cs→NHi b A→LnO w' F 1 A n c cs:=fun {A n c cs} h1 h2 =>
  ⟨h1.ln.moved (by omega) (fun hn ad e=>hg.block _ (h1.ln.lt (by omega) e) (fun e2=>by
   have h3:=h2 ad e
   have h4:=Option.some.inj e2
   omega)),h1.out⟩
 exact ⟨mv h.ke hh.1,mv h.va hh.2.1,mv h.ki hh.2.2⟩
theorem tlv_put {w1:World} {r:Nat} {l:Int×ND} {er:Int} {x:LV} (h:Tree W F w1 tb pb db t) (hm:Moves w F' w1 F) (hW:W.heap.size≤w.heap.size) (hr:w.heap.size≤r) (hF:¬ F r) (hb:LBox w1 r (.int .i64 0) (.bool false) (.slice none 0 0) (.slice none 0 0) (.slice none 0 0)) (hx:x.x.ok w1 F) (hs:x.at_=l) (hh:x.x.hi (r+1)) :
 TLv W F' w tb pb db l er t (.returned (.tuple #[x.val,.int .i64 er])) (((((w1.setCell ⟨r,0,none⟩ (.int .i64 x.pg)).setCell ⟨r,1,none⟩ (.bool x.x.s.leaf)).setCell ⟨r,2,none⟩ (.slice x.x.A x.x.n x.x.c)).setCell ⟨r,3,none⟩ (.slice x.x.B x.x.m x.x.d)).setCell ⟨r,4,none⟩ (.slice x.x.C x.x.k x.x.e)) ∧
 LBox (((((w1.setCell ⟨r,0,none⟩ (.int .i64 x.pg)).setCell ⟨r,1,none⟩ (.bool x.x.s.leaf)).setCell ⟨r,2,none⟩ (.slice x.x.A x.x.n x.x.c)).setCell ⟨r,3,none⟩ (.slice x.x.B x.x.m x.x.d)).setCell ⟨r,4,none⟩ (.slice x.x.C x.x.k x.x.e)) r (.int .i64 x.pg) (.bool x.x.s.leaf) (.slice x.x.A x.x.n x.x.c) (.slice x.x.B x.x.m x.x.d) (.slice x.x.C x.x.k x.x.e):=by
 have hg:=grown_lput w1 r (.int .i64 x.pg) (.bool x.x.s.leaf) (.slice x.x.A x.x.n x.x.c) (.slice x.x.B x.x.m x.x.d) (.slice x.x.C x.x.k x.x.e)
 refine ⟨⟨x,F,rfl,hx.grown hh (Nat.lt_succ_self r) hg,hs,hh.low (by omega),?_,hm.grown hg (fun g e=>by
  obtain rfl:=Option.some.inj e
  exact hr)⟩,hb.put _ _ _ _ _⟩
 exact h.grown hg (fun g e=>by
  obtain rfl:=Option.some.inj e
  exact ⟨hF,Nat.le_trans hW hr⟩)
theorem tlv_zero {w1:World} {r:Nat} {er:Int} (h:Tree W F w1 tb pb db t) (hm:Moves w F' w1 F) (hW:W.heap.size≤w.heap.size) (hr:w.heap.size≤r) (hF:¬ F r) (hb:LBox w1 r (.int .i64 0) (.bool false) (.slice none 0 0) (.slice none 0 0) (.slice none 0 0)) :
 TLv W F' w tb pb db (0,ND.zero) er t (.returned (.tuple #[.agg #[.int .i64 0,.bool false,.slice none 0 0,.slice none 0 0,.slice none 0 0],.int .i64 er])) (((((w1.setCell ⟨r,0,none⟩ (.int .i64 0)).setCell ⟨r,1,none⟩ (.bool false)).setCell ⟨r,2,none⟩ (.slice none 0 0)).setCell ⟨r,3,none⟩ (.slice none 0 0)).setCell ⟨r,4,none⟩ (.slice none 0 0)) ∧
 LBox (((((w1.setCell ⟨r,0,none⟩ (.int .i64 0)).setCell ⟨r,1,none⟩ (.bool false)).setCell ⟨r,2,none⟩ (.slice none 0 0)).setCell ⟨r,3,none⟩ (.slice none 0 0)).setCell ⟨r,4,none⟩ (.slice none 0 0)) r (.int .i64 0) (.bool false) (.slice none 0 0) (.slice none 0 0) (.slice none 0 0) :=
 tlv_put (x:=LV.zero) h hm hW hr hF hb (NV.zero_ok _ _) rfl (NV.hi_zero _)
theorem tfind_live (w:World) (p:Int) (leaf:Bool) (h0:0≤p) (h1:p<t.z) (h:Tree W F w tb pb db t) :
 Calls Tryz.prog 82 #[.pointer (some ⟨tb,0,none⟩),.int .i64 p,.bool leaf] w (TLv W F w tb pb db (findL t p leaf) (findE t p leaf) t):=by
 have b0:=below_one w (.cells #[.int .i64 0,.bool false,.slice none 0 0,.slice none 0 0,.slice none 0 0] 109)
 have H:=Lib.hid (h.kept b0)
 have B0:=Lib.hid b0
 have HR:=Lib.hid (lbox_new w (.int .i64 0) (.bool false) (.slice none 0 0) (.slice none 0 0) (.slice none 0 0))
 have NF:Hid (¬ F w.heap.size):=Lib.hid (h.new (Nat.le_refl _))
 have HW:=Lib.hid h.below.size
 have hsz:(w.alloc (.cells #[.int .i64 0,.bool false,.slice none 0 0,.slice none 0 0,.slice none 0 0] 109)).heap.size=w.heap.size+1:=by simp
 have HSZ:=Lib.hid hsz
 clear h b0 hsz
 go_enter Tryz.func82,Tryz.ntmps82
 go_upto_region 1 with fail
 generalize w.alloc (.cells #[.int .i64 0,.bool false,.slice none 0 0,.slice none 0 0,.slice none 0 0] 109)=w0 at *
 go_wp2_with fail
 refine (tread_live w0 p h0 h1 H.out).mono ?_
 rintro e1 w1 ⟨x,F1,rfl,hx,hxs,hxh,h1',m1⟩
 obtain ⟨xA,xn,xc,xB,xm,xd,xC,xk,xe,xs⟩:=x
 have HX:=Lib.hid hx
 have HXS:=Lib.hid hxs
 have HXH:=Lib.hid hxh
 have H1:=Lib.hid h1'
 have M1:=Lib.hid ((Moves.of_below B0.out).trans m1)
 have HR1:=Lib.hid (HR.out.moves m1 NF.out)
 have NF1:=Lib.hid (m1.not HR.out.lt NF.out)
 clear hx hxs hxh h1' m1 H HR NF B0
 unfold NV.val
 dsimp only
 have b2:=below_one w1 (.cells #[.bool xs.leaf,.slice xA xn xc,.slice xB xm xd,.slice xC xk xe] 68)
 have H2:=Lib.hid (H1.out.kept b2)
 have M2:=Lib.hid (M1.out.trans (Moves.of_below b2))
 have HR2:=Lib.hid (HR1.out.kept b2)
 have HX2:=Lib.hid (HX.out.kept b2)
 have NB:=Lib.hid (nbox_new w1 (.bool xs.leaf) (.slice xA xn xc) (.slice xB xm xd) (.slice xC xk xe))
 clear b2 H1 M1 HR1 HX
 -- no node of that kind
 have bad:∀ (o:TS.nodeAt t.nd p leaf=none),findE t p leaf=121∧findL t p leaf=(0,ND.zero):=fun o=>by
  unfold findE findL
  rw [o]
  exact ⟨rfl,rfl⟩
 have HP:=tlv_zero (er:=121) H2.out M2.out HW.out (Nat.le_refl _) NF1.out HR2.out
 have HP1:=Lib.hid HP.1
 have HPC:=Lib.hid HP.2.cells
 have BAD:=Lib.hid bad
 clear HP bad
 generalize hxl:xs.leaf=xl at *
 have HXL:=Lib.hid hxl
 clear hxl
 go_upto_region 2 with fail
 generalize w1.alloc (.cells #[.bool xl,.slice xA xn xc,.slice xB xm xd,.slice xC xk xe] 68)=w2 at *
 cases hd:t.nd p with
 | none =>
   have he:nodeE t p=121:=by unfold nodeE;rw [hd];rfl
   have HBD:=Lib.hid (BAD.out (by unfold TS.nodeAt;rw [hd]))
   rw [he]
   obtain ⟨z0,z1,z2,z3,z4⟩:=HPC.out
   obtain ⟨x0,x1,x2,x3,x4⟩:=HR2.out.cells
   have f:=HR2.out.free
   have f0:=f 0
   have f1:=f 1
   have f2:=f 2
   have f3:=f 3
   have f4:=f 4
   clear f hd he
   go_wp2_with fail
   refine bodyPost_ret (v := .tuple #[.agg #[.int .i64 0,.bool false,.slice none 0 0,.slice none 0 0,.slice none 0 0],.int .i64 121]) (by simp [results,Tryz.results82,go_sem,z0,z1,z2,z3,z4]) rfl ?_
   rw [HBD.out.1,HBD.out.2]
   exact HP1.out
 | some s =>
   have he:nodeE t p=0:=by unfold nodeE;rw [hd];rfl
   have hs:xs=s:=by rw [show xs=nodeS t p from HXS.out];unfold nodeS;rw [hd];rfl
   rw [he]
   cases xl with
   | true =>
     cases leaf with
     | true =>
       have hl:s.leaf=true:=by rw [← hs];exact HXL.out
       have HG:Hid (findE t p true=0∧findL t p true=(p,s)):=Lib.hid (by
        have e:TS.nodeAt t.nd p true=some s:=by
         unfold TS.nodeAt
         rw [hd]
         exact if_pos hl
        unfold findE findL
        rw [e]
        exact ⟨rfl,rfl⟩)
       have HP:=tlv_put (x:=⟨p,⟨xA,xn,xc,xB,xm,xd,xC,xk,xe,xs⟩⟩) (l:=(p,s)) (er:=0) H2.out M2.out HW.out (Nat.le_refl _) NF1.out HR2.out HX2.out (by rw [← hs];rfl) (HXH.out.low (by rw [HSZ.out];exact Nat.le_refl _))
       have HP3:=Lib.hid HP.1
       obtain ⟨z0,z1,z2,z3,z4⟩:=HP.2.cells
       obtain ⟨x0,x1,x2,x3,x4⟩:=HR2.out.cells
       obtain ⟨n0,n1,n2,n3⟩:=NB.out.cells
       have f:=HR2.out.free
       have f0:=f 0
       have f1:=f 1
       have f2:=f 2
       have f3:=f 3
       have f4:=f 4
       clear f hd he hs hl HP
       dsimp only at z0 z1 z2 z3 z4 HP3
       rw [HXL.out] at z0 z1 z2 z3 z4 HP3
       go_wp2_with fail
       refine bodyPost_ret (v := .tuple #[.agg #[.int .i64 p,.bool true,.slice xA xn xc,.slice xB xm xd,.slice xC xk xe],.int .i64 0]) (by simp [results,Tryz.results82,go_sem,z0,z1,z2,z3,z4]) rfl ?_
       rw [HG.out.1,HG.out.2]
       have:=HP3.out
       unfold LV.val at this
       dsimp only at this
       rw [HXL.out] at this
       exact this
     | false =>
       have hl:¬ s.leaf=false:=by rw [← hs,HXL.out];decide
       have HBD:=Lib.hid (BAD.out (by unfold TS.nodeAt;rw [hd];exact if_neg hl))
       obtain ⟨z0,z1,z2,z3,z4⟩:=HPC.out
       obtain ⟨x0,x1,x2,x3,x4⟩:=HR2.out.cells
       obtain ⟨n0,n1,n2,n3⟩:=NB.out.cells
       have f:=HR2.out.free
       have f0:=f 0
       have f1:=f 1
       have f2:=f 2
       have f3:=f 3
       have f4:=f 4
       clear f hd he hs hl
       go_wp2_with fail
       refine bodyPost_ret (v := .tuple #[.agg #[.int .i64 0,.bool false,.slice none 0 0,.slice none 0 0,.slice none 0 0],.int .i64 121]) (by simp [results,Tryz.results82,go_sem,z0,z1,z2,z3,z4]) rfl ?_
       rw [HBD.out.1,HBD.out.2]
       exact HP1.out
   | false =>
     cases leaf with
     | true =>
       have hl:¬ s.leaf=true:=by rw [← hs,HXL.out];decide
       have HBD:=Lib.hid (BAD.out (by unfold TS.nodeAt;rw [hd];exact if_neg hl))
       obtain ⟨z0,z1,z2,z3,z4⟩:=HPC.out
       obtain ⟨x0,x1,x2,x3,x4⟩:=HR2.out.cells
       obtain ⟨n0,n1,n2,n3⟩:=NB.out.cells
       have f:=HR2.out.free
       have f0:=f 0
       have f1:=f 1
       have f2:=f 2
       have f3:=f 3
       have f4:=f 4
       clear f hd he hs hl
       go_wp2_with fail
       refine bodyPost_ret (v := .tuple #[.agg #[.int .i64 0,.bool false,.slice none 0 0,.slice none 0 0,.slice none 0 0],.int .i64 121]) (by simp [results,Tryz.results82,go_sem,z0,z1,z2,z3,z4]) rfl ?_
       rw [HBD.out.1,HBD.out.2]
       exact HP1.out
     | false =>
       have hl:s.leaf=false:=by rw [← hs];exact HXL.out
       have HG:Hid (findE t p false=0∧findL t p false=(p,s)):=Lib.hid (by
        have e:TS.nodeAt t.nd p false=some s:=by
         unfold TS.nodeAt
         rw [hd]
         exact if_pos hl
        unfold findE findL
        rw [e]
        exact ⟨rfl,rfl⟩)
       have HP:=tlv_put (x:=⟨p,⟨xA,xn,xc,xB,xm,xd,xC,xk,xe,xs⟩⟩) (l:=(p,s)) (er:=0) H2.out M2.out HW.out (Nat.le_refl _) NF1.out HR2.out HX2.out (by rw [← hs];rfl) (HXH.out.low (by rw [HSZ.out];exact Nat.le_refl _))
       have HP3:=Lib.hid HP.1
       obtain ⟨z0,z1,z2,z3,z4⟩:=HP.2.cells
       obtain ⟨x0,x1,x2,x3,x4⟩:=HR2.out.cells
       obtain ⟨n0,n1,n2,n3⟩:=NB.out.cells
       have f:=HR2.out.free
       have f0:=f 0
       have f1:=f 1
       have f2:=f 2
       have f3:=f 3
       have f4:=f 4
       clear f hd he hs hl HP
       dsimp only at z0 z1 z2 z3 z4 HP3
       rw [HXL.out] at z0 z1 z2 z3 z4 HP3
       go_wp2_with fail
       refine bodyPost_ret (v := .tuple #[.agg #[.int .i64 p,.bool false,.slice xA xn xc,.slice xB xm xd,.slice xC xk xe],.int .i64 0]) (by simp [results,Tryz.results82,go_sem,z0,z1,z2,z3,z4]) rfl ?_
       rw [HG.out.1,HG.out.2]
       have:=HP3.out
       unfold LV.val at this
       dsimp only at this
       rw [HXL.out] at this
       exact this
end
end Go.Proofs.YtccphijgcapeoaaGreat
/-
  Steps in a list of one's own; what the tree's way comes to.
-/
namespace Go.Proofs.YtccphijgcapeoaaGreat
open Go.RowKit Go.Maps
namespace TS
def wayIn (nd:Int→Option ND) (key:List UInt8) (z:Nat):Nat→Int→Prop
 | 0,_=>True
 | h+1,p=>0≤p∧p<z∧(h≠0→∀ n,nodeAt nd p false=some n→wayIn nd key z h (n.kids.getD (ND.kidN key n.keys) 0))
theorem wayL_end {nd:Int→Option ND} {key:List UInt8} {p:Int}:wayL nd key 1 p=(nodeAt nd p true).map (fun n=>[⟨p,n,0⟩]):=by
 unfold wayL
 cases nodeAt nd p true<;>rfl
theorem wayL_step {nd:Int→Option ND} {key:List UInt8} {h:Nat} {p:Int}:wayL nd key (h+2) p=(nodeAt nd p false).bind (fun n=>(wayL nd key (h+1) (n.kids.getD (ND.kidN key n.keys) 0)).map (⟨p,n,ND.kidN key n.keys⟩::·)):=by
 conv=>lhs;unfold wayL
 cases nodeAt nd p false<;>rfl
end TS
section
variable {W w w':World} {G F F':Nat→Prop} {tb mb pb db:Nat} {t t':TS}
theorem stepInfo:(Tryz.prog.info? 111).map (fun i=>(i.zero,i.size,i.bytes))=some (some (.agg #[.int .i64 0,.bool false,.slice none 0 0,.slice none 0 0,.slice none 0 0,.int .i64 0]),6,96):=by kernel_rfl
theorem Tree.nodeOk (h:Tree W F w tb pb db t) {p:Int} {n:ND} (h0:0≤p) (h1:p<t.z) (hn:t.nd p=some n):n.ok=true∧n.size≤1000:=by
 obtain ⟨G,mb,A,tn,c,B,m,d,f,h⟩:=h
 exact rdN_ok ((h.ndsI p h0 h1).trans hn)
theorem nodeAt_some {nd:Int→Option ND} {p:Int} {leaf:Bool} {n:ND} (h:TS.nodeAt nd p leaf=some n):nd p=some n∧n.leaf=leaf:=by
 unfold TS.nodeAt at h
 split at h
 ·rename_i m hm
  split at h
  ·obtain rfl:=Option.some.inj h
   exact ⟨hm,by assumption⟩
  ·cases h
 ·cases h
structure StOwn (b:Nat) (w:World) (F:Nat→Prop) (v:Value) (ss:List SV):Prop where
 own:w.ownsRow b 111 6 v ss.length (ss.flatMap SV.cells)
 out:∀ g,v.ownBlock=some g→¬ F g
 ok:∀ x∈ss,x.l.x.ok w (fun k=>F k∨v.ownBlock=some k)∧x.l.x.hi b
theorem Moves.but (m:Moves w F w' F') (o:Option Nat):Moves w (fun k=>F k∨o=some k) w' (fun k=>F' k∨o=some k) :=
 ⟨⟨m.kept.os,m.kept.tape,m.kept.output,m.kept.size,fun k hk hF=>m.kept.block k hk (fun h=>hF (Or.inl h))⟩,fun k hk=>by
   rcases hk with hk | hk
   ·rcases m.news k hk with h | h
    ·exact Or.inl (Or.inl h)
    ·exact Or.inr h
   ·exact Or.inl (Or.inr hk)⟩
theorem Moves.of_grown {v v':Value} (hg:w.grownBy w' v.ownBlock) (hd:v'.ownBlock=v.ownBlock∨v'.ownBlock=some w.heap.size):Moves w (fun k=>F k∨v.ownBlock=some k) w' (fun k=>F k∨v'.ownBlock=some k) :=
 ⟨⟨hg.os,hg.tape,hg.output,hg.size,fun k hk hF=>hg.block k hk (fun e=>hF (Or.inr e.symm))⟩,fun k hk=>by
   rcases hk with hk | hk
   ·exact Or.inl (Or.inl hk)
   ·rcases hd with h | h
    ·exact Or.inl (Or.inr (h.symm.trans hk))
    ·rw [h] at hk
     injection hk with hk
     exact Or.inr (by omega)⟩
theorem NV.ok.butHi {b:Nat} {x:NV} (h:x.ok w F) (hh:x.hi b) {o:Option Nat} (ho:∀ g,o=some g→g<b):x.ok w (fun k=>F k∨o=some k):=by
 have mv:∀ {A:Option Addr} {n c:Nat} {cs:List Value},LnO w F 1 A n c cs→NHi b A→LnO w (fun k=>F k∨o=some k) 1 A n c cs:=fun {A n c cs} h1 h2 =>
  ⟨h1.ln,fun hn ad e hk=>by
   rcases hk with hk | hk
   ·exact h1.out hn ad e hk
   ·have:=ho _ hk
    have:=h2 ad e
    omega⟩
 exact ⟨mv h.ke hh.1,mv h.va hh.2.1,mv h.ki hh.2.2⟩
theorem StOwn.moves {b:Nat} {v:Value} {ss:List SV} (h:StOwn b w F v ss) (m:Moves w F w' F'):StOwn b w' F' v ss :=
 ⟨trow_same h.own (fun g e=>m.kept.block g (h.own.lt g e).2 (h.out g e)),fun g e=>m.not (h.own.lt g e).2 (h.out g e),fun x hx=>⟨(h.ok x hx).1.moves (m.but _),(h.ok x hx).2⟩⟩
theorem StOwn.kept {b:Nat} {v:Value} {ss:List SV} (h:StOwn b w F v ss) (hb:Below w.heap.size w w'):StOwn b w' F v ss :=
 ⟨trow_same h.own (fun g e=>hb.block g (h.own.lt g e).2),h.out,fun x hx=>⟨(h.ok x hx).1.kept hb,(h.ok x hx).2⟩⟩
theorem StOwn.push {b:Nat} {v v':Value} {ss:List SV} {x:SV} (h:StOwn b w F v ss) (hx:x.l.x.ok w (fun k=>F k∨v.ownBlock=some k)) (hh:x.l.x.hi b) (hF:∀ k,F k→k<w.heap.size) (ho:w'.ownsRow b 111 6 v' (ss.length+1) (ss.flatMap SV.cells++x.cells)) (hg:w.grownBy w' v.ownBlock) (hd:v'.ownBlock=v.ownBlock∨v'.ownBlock=some w.heap.size):StOwn b w' F v' (ss++[x]):=by
 refine ⟨?_,fun g e hk=>?_,fun y hy=>?_⟩
 ·simpa using ho
 ·rcases hd with h1 | h1
  ·exact h.out g (h1.symm.trans e) hk
  ·rw [h1] at e
   injection e with e
   subst e
   exact absurd (hF _ hk) (Nat.lt_irrefl _)
 ·rcases List.mem_append.1 hy with hy | hy
  ·exact ⟨(h.ok y hy).1.moves (Moves.of_grown hg hd),(h.ok y hy).2⟩
  ·rw [List.mem_singleton.1 hy]
   exact ⟨hx.moves (Moves.of_grown hg hd),hh⟩
theorem StOwn.at_ {b:Nat} {v:Value} {ss:List SV} (h:StOwn b w F v ss):∃ A c,v = .slice A ss.length c∧StepsAt w F A ss.length c ss∧NHi b A:=by
 obtain ⟨A,c,e,_,h1⟩:=Ln.of_own h.own
 subst e
 refine ⟨A,c,rfl,⟨⟨h1,fun hn ad e=>h.out ad.block ?_⟩,fun x hx=>(h.ok x hx).1.fewer (fun _ hk=>Or.inl hk)⟩,fun ad e=>(h.own.lt ad.block (by rw [e];rfl)).1⟩
 rcases h.own.2 with ⟨e1,e2⟩ | ⟨g,cap,cur,e1,_⟩
 ·omega
 ·injection e1 with e1 e2 e3
  rw [e1] at e
  injection e with e
  subst e
  rw [e1]
  rfl
theorem StOwn.push_in {wr wa:World} {v v':Value} {ss:List SV} {p:Int} {X:NV} {kid:Nat} {news:List Value} (h1:Tree W F' wr tb pb db t) (m1:Moves w F wr F') (s1:StOwn w.heap.size wr F' v ss) (hx:X.ok wr (fun k=>F' k∨v.ownBlock=some k)) (hh:X.hi w.heap.size) (hW:W.heap.size≤w.heap.size)
 (hb:Below wr.heap.size wr wa) (ho:w'.ownsRow w.heap.size 111 6 v' (ss.length+1) (ss.flatMap SV.cells++news)) (hn:news=SV.cells ⟨⟨p,X⟩,kid⟩) (hg:wa.grownBy w' v.ownBlock) (hd:v'.ownBlock=v.ownBlock∨v'.ownBlock=some wa.heap.size) :
 Tree W F' w' tb pb db t∧Moves w F w' F'∧StOwn w.heap.size w' F' v' (ss++[⟨⟨p,X⟩,kid⟩]):=by
 subst hn
 have s2:=s1.kept hb
 have h2:=h1.kept hb
 exact ⟨h2.grown hg (fun g e=>⟨s2.out g e,Nat.le_trans hW (s2.own.lt g e).1⟩),(m1.trans (Moves.of_below hb)).grown hg (fun g e=>(s2.own.lt g e).1),s2.push (hx.kept hb) hh h2.lt ho hg hd⟩
def TWay (W:World) (F:Nat→Prop) (w:World) (tb pb db:Nat) (o:Option (List TS.St)) (t:TS) (e:Ending) (w':World):Prop :=
 ∃ A n c ss F',e = .returned (.tuple #[.slice A n c,.int .i64 (if o.isSome then 0 else 121)])∧StepsAt w' F' A n c ss∧ss.map SV.st=o.getD []∧Tree W F' w' tb pb db t∧Moves w F w' F'∧NHi w.heap.size A∧∀ x∈ss,x.l.x.hi w.heap.size
def WayR (W:World) (F:Nat→Prop) (w:World) (tb pb db:Nat) (t:TS) (key:List UInt8) (o:Option (List TS.St)) (h:Nat) (p:Int) (v:Value) (wr:World):Prop :=
 ∃ Fk ss,Tree W Fk wr tb pb db t∧Moves w F wr Fk∧StOwn w.heap.size wr Fk v ss∧ss.length+h≤1000∧TS.wayIn t.nd key t.z h p∧o=(TS.wayL t.nd key h p).map (ss.map SV.st++·)
end
end Go.Proofs.YtccphijgcapeoaaGreat
