/-
  A part of the proof. Conditions: none.
-/
import Derived.Test.YtfiflinbicbedaaGreatZR8
import Derived.Test.YtfiflinbicbedaaGreatZR13

set_option maxRecDepth 20000
set_option maxHeartbeats 12800000
namespace Go.Proofs.YtfiflinbicbedaaGreat
section
open Go.RowKit
theorem qV6 {s:SS} {p:Int} (h:(s.may p && !(s.known p))=false):s.back p=(1,SS.none):=by
 unfold SS.back SS.backBad;cases h1:s.may p<;>cases h2:s.known p<;>simp [h1,h2] at h ⊢
theorem qG6 {s:SS} {p:Int} (h:(s.may p && !(s.known p))=true):s.back p=(0,{ s with fr:=SS.ins p s.fr }):=by
 unfold SS.back SS.backBad;cases h1:s.may p<;>cases h2:s.known p<;>simp [h1,h2] at h ⊢
theorem qG5 {w w1:World} {r:Nat} (hb:Below w.heap.size w w1) (hr:w.heap.size<=r):VP w 1 SS.none (.returned (.tuple #[.agg #[.int .i64 0,.slice none 0 0,.slice none 0 0],.int .i64 1])) (((w1.setCell ⟨r,0,none⟩ (.int .i64 0)).setCell ⟨r,1,none⟩ (.slice none 0 0)).setCell ⟨r,2,none⟩ (.slice none 0 0)) :=
 have hd:=Yn (h:=0) hb hr (Sp.zero w1) (Hi.none_ _) (Hi.none_ _) rfl (.int .i64 0) (.slice none 0 0) (.slice none 0 0)
 ⟨_,rfl,hd.1,hd.2⟩
theorem zi5 {w1 wx w3:World} (b:Below wx.heap.size wx w3) (h:Below w1.heap.size w1 wx):Below w1.heap.size w1 w3:=h.trans (b.mono h.size)
theorem qk3 {w1 wx w3:World} {sz n c r:Nat} {e:TypeId} {A:Option Addr} {cs:List Value} (o:w3.ownsRow wx.heap.size e sz (.slice A n c) n cs) (h:Below w1.heap.size w1 wx) (hr:r<w1.heap.size):Hi (r+1) A :=
 (Hi.oo o).low (by have:=h.size;omega)
theorem qz0 (s:SS) (h p:Int) (A B:Option Addr) (n c m d:Nat) (w:World) (hh:s.hi=h) (hs:Sp w A n c B m d s) (hn:n<=300000) (hm:m<=300000) :
 Calls Tryz.prog 21 #[.agg #[.int .i64 h,.slice A n c,.slice B m d],.int .i64 p] w (VP w (s.back p).1 (s.back p).2):=by
 obtain ⟨Vh,tb2,Xm⟩:=Vm w (.int .i64 h) (.slice A n c) (.slice B m d) (.int .i64 0) (.slice none 0 0) (.slice none 0 0);have HS:=iQ (hs.kept Xm);have HB:=iQ Vh;have HR:=iQ tb2;have B0:=iQ Xm;have HH:=iQ hh;clear hs hh Vh tb2 Xm;go_enter Tryz.func21,Tryz.ntmps21;go_wp2_with fail;generalize (w.alloc (.cells #[.int .i64 h,.slice A n c,.slice B m d] 45)).alloc (.cells #[.int .i64 0,.slice none 0 0,.slice none 0 0] 45)=w0 at *;refine (KL s h p A B n c m d w0 HH.out HS.out (by omega) (by omega)).mono ?_;rintro e1 w1 ⟨rfl,b1⟩;have B1:=iQ (B0.out.trans (b1.mono B0.out.size));have HB1:=iQ (HB.out.kept b1);have HR1:=iQ (HR.out.kept b1);have Xl:=iQ (HS.out.kept b1);clear b1 HB HR HS B0;cases hmc:(s.may p && !(s.known p)) with
 | false =>
   have HT:=iQ (qV6 hmc);have HD:=iQ (qG5 B1.out (wd9 w.heap.size 1));obtain ⟨e0,e1,e2⟩:=(iQ (HR1.out.put (.int .i64 0) (.slice none 0 0) (.slice none 0 0))).out.cells;obtain ⟨q0,q1,q2⟩:=HR1.out.cells;obtain ⟨f0,f1,f2⟩:=HR1.out.free;clear hmc;go_wp2_with fail;refine bodyPost_ret (v := .tuple #[.agg #[.int .i64 0,.slice none 0 0,.slice none 0 0],.int .i64 1]) (by simp [results,Tryz.results21,go_sem,e0,e1,e2]) rfl ?_;rw [HT.out];exact HD.out
 | true =>
   have HT:=iQ (qG6 hmc);clear hmc;have BA1:=iQ ((Qa w1 (.cells #[.int .i64 p] 3)).drew);have BA:=iQ ((Zp w1 (.cells #[.int .i64 p] 3) (.cells #[.slice B m d] 43)).drew);have LP:=iQ ((qr4 w1 p 3).kept ((Qa _ (.cells #[.slice B m d] 43)).drew));have PP0:=(Za (Xl.out.pe.kept (Qa w1 (.cells #[.int .i64 p] 3))) (Yu _) 43).kept ((Below.refl _ _).drew);rw [show (w1.alloc (.cells #[.int .i64 p] 3)).heap.size=w1.heap.size+1 by simp] at PP0;have PP1:=iQ PP0;clear PP0;have BA4:=iQ ((Qa w1 (.cells #[.slice B m d] 43)).drew);have BA3:=iQ ((Zp w1 (.cells #[.slice B m d] 43) (.cells #[.int .i64 p] 3)).drew);have LP0:=(qr4 (w1.alloc (.cells #[.slice B m d] 43)) p 3).kept ((Below.refl _ _).drew);rw [show (w1.alloc (.cells #[.slice B m d] 43)).heap.size=w1.heap.size+1 by simp] at LP0;have LP3:=iQ LP0;clear LP0;have PP3:=iQ ((Za Xl.out.pe (Yu _) 43).kept ((Qa _ (.cells #[.int .i64 p] 3)).drew));have LF3:=iQ (Xl.out.fr.kept BA3.out);have LF:=iQ (Xl.out.fr.kept BA.out);have LF1:=iQ (Xl.out.fr.kept BA1.out);have LP1:=iQ ((qr4 w1 p 3).kept ((Below.refl _ _).drew));have K0:w1.drew.cell? ⟨w.heap.size,0,none⟩=some (.int .i64 h)/\w1.drew.cell? ⟨w.heap.size,1,none⟩=some (.slice A n c)/\w1.drew.cell? ⟨w.heap.size,2,none⟩=some (.slice B m d):=HB1.out.cells;obtain ⟨x0,x1,x2⟩:=K0;have K0:w1.drew.cell? ⟨w.heap.size,0,none⟩=some (.int .i64 h)/\w1.drew.cell? ⟨w.heap.size,1,none⟩=some (.slice A n c)/\w1.drew.cell? ⟨w.heap.size,2,none⟩=some (.slice B m d):=HB1.out.cells;have K1:((w1.alloc (.cells #[.int .i64 p] 3)).drew).cell? ⟨w.heap.size,0,none⟩=some (.int .i64 h)/\((w1.alloc (.cells #[.int .i64 p] 3)).drew).cell? ⟨w.heap.size,1,none⟩=some (.slice A n c)/\((w1.alloc (.cells #[.int .i64 p] 3)).drew).cell? ⟨w.heap.size,2,none⟩=some (.slice B m d):=(HB1.out.kept BA1.out).cells;have K1':(((w1.alloc (.cells #[.int .i64 p] 3)).alloc (.cells #[.slice B m d] 43)).drew).cell? ⟨w.heap.size,0,none⟩=some (.int .i64 h)/\(((w1.alloc (.cells #[.int .i64 p] 3)).alloc (.cells #[.slice B m d] 43)).drew).cell? ⟨w.heap.size,1,none⟩=some (.slice A n c)/\(((w1.alloc (.cells #[.int .i64 p] 3)).alloc (.cells #[.slice B m d] 43)).drew).cell? ⟨w.heap.size,2,none⟩=some (.slice B m d):=(HB1.out.kept BA.out).cells;have K7:(((w1.alloc (.cells #[.slice B m d] 43)).alloc (.cells #[.int .i64 p] 3)).drew).cell? ⟨w.heap.size,0,none⟩=some (.int .i64 h)/\(((w1.alloc (.cells #[.slice B m d] 43)).alloc (.cells #[.int .i64 p] 3)).drew).cell? ⟨w.heap.size,1,none⟩=some (.slice A n c)/\(((w1.alloc (.cells #[.slice B m d] 43)).alloc (.cells #[.int .i64 p] 3)).drew).cell? ⟨w.heap.size,2,none⟩=some (.slice B m d):=(HB1.out.kept BA3.out).cells;have K8:((w1.alloc (.cells #[.slice B m d] 43)).drew).cell? ⟨w.heap.size,0,none⟩=some (.int .i64 h)/\((w1.alloc (.cells #[.slice B m d] 43)).drew).cell? ⟨w.heap.size,1,none⟩=some (.slice A n c)/\((w1.alloc (.cells #[.slice B m d] 43)).drew).cell? ⟨w.heap.size,2,none⟩=some (.slice B m d):=(HB1.out.kept BA4.out).cells;go_wp2_with fail;go_region_held3 (fun w'=>w'.cell? ⟨w.heap.size,0,none⟩=some (.int .i64 h)/\w'.cell? ⟨w.heap.size,1,none⟩=some (.slice A n c)/\w'.cell? ⟨w.heap.size,2,none⟩=some (.slice B m d))
    (first | exact K5 | exact K4 | exact K3 | exact K8 | exact K7 | exact K2 | exact K1' | exact K1 | exact K0)
    (first
      | (go_at_call 43;refine (qR5 A _ n c 1 1 s.fr [p] _ (by first | exact LF.out | exact LF1.out | exact LF3.out) (by first | exact LP.out | exact LP1.out | exact LP3.out) (by omega) (by decide)).mono ?_;rintro e1 w3 ⟨v3,rfl,o3,b3⟩;obtain ⟨A3,c3,rfl,hc3,l3⟩:=Ln.oo o3;have BC:=iQ (zi5 b3 (by first | exact BA.out | exact BA1.out | exact BA3.out));have HI3:=iQ (qk3 o3 (by first | exact BA.out | exact BA1.out | exact BA3.out) HR1.out.lt);have HB3:=iQ (HB1.out.kept BC.out);have HR3:=iQ (HR1.out.kept BC.out);have K2:w3.cell? ⟨w.heap.size,0,none⟩=some (.int .i64 h)/\w3.cell? ⟨w.heap.size,1,none⟩=some (.slice A n c)/\w3.cell? ⟨w.heap.size,2,none⟩=some (.slice B m d):=HB3.out.cells;have K3:(w3.alloc (.cells #[.slice B m d] 43)).cell? ⟨w.heap.size,0,none⟩=some (.int .i64 h)/\(w3.alloc (.cells #[.slice B m d] 43)).cell? ⟨w.heap.size,1,none⟩=some (.slice A n c)/\(w3.alloc (.cells #[.slice B m d] 43)).cell? ⟨w.heap.size,2,none⟩=some (.slice B m d):=(HB3.out.kept (Qa _ _)).cells;have PZ:=iQ (Za (Xl.out.pe.kept BC.out) (Yu _) 43))
      | (go_at_call 44;refine (VX _ 1 1 m _ _ (by first | exact PZ.out | exact PP1.out.kept b3 | exact PP3.out.kept b3) rfl (by simp [Xn]) (by omega) (by decide)).mono ?_;rintro e1 w4 ⟨v4,rfl,o4,b4⟩;have B34:=iQ (zi5 b4 (by first | exact Below.refl w3.heap.size w3 | exact Qa w3 _));obtain ⟨B4,d4,rfl,hd4,l4⟩:=Ln.oo o4;have HI4:=iQ (qk3 o4 (by first | exact Below.refl w3.heap.size w3 | exact Qa w3 _) HR3.out.lt);have HB4:=iQ (HB3.out.kept B34.out);have HR4:=iQ (HR3.out.kept B34.out);have K4:w4.cell? ⟨w.heap.size,0,none⟩=some (.int .i64 h)/\w4.cell? ⟨w.heap.size,1,none⟩=some (.slice A n c)/\w4.cell? ⟨w.heap.size,2,none⟩=some (.slice B m d):=HB4.out.cells;obtain ⟨q0,q1,q2⟩:=HR4.out.cells;obtain ⟨f0,f1,f2⟩:=HR4.out.free;have PU:=JU.put w4 (w.heap.size+1) (.int .i64 h) (.slice A3 (n+1) c3) (.slice B4 m d4);have K5:=(show _/\_/\_ from ⟨(PU.cell (k:=w.heap.size) (by omega) 0).trans K4.1,(PU.cell (k:=w.heap.size) (by omega) 1).trans K4.2.1,(PU.cell (k:=w.heap.size) (by omega) 2).trans K4.2.2⟩)))
   all_goals (
    have B3:=iQ (B1.out.trans (BC.out.mono B1.out.size));have B4':=iQ (B3.out.trans (B34.out.mono B3.out.size));rw [Kz] at l4;have HSp:Hid (Sp w4 A3 (n+1) c3 B4 m d4 { s with fr:=SS.ins p s.fr }):=iQ ⟨l3.kept B34.out,l4⟩
    have HD:=iQ (Yn (h:=h) B4'.out (wd9 w.heap.size 1) HSp.out HI3.out HI4.out HH.out (.int .i64 h) (.slice A3 (n+1) c3) (.slice B4 m d4));obtain ⟨e0,e1,e2⟩:=(iQ (HR4.out.put (.int .i64 h) (.slice A3 (n+1) c3) (.slice B4 m d4))).out.cells;go_wp2_with fail;refine bodyPost_ret (v := .tuple #[.agg #[.int .i64 h,.slice A3 (n+1) c3,.slice B4 m d4],.int .i64 0]) (by simp [results,Tryz.results21,go_sem,e0,e1,e2]) rfl ?_;rw [HT.out];exact ⟨_,rfl,HD.out.1,HD.out.2⟩)
end
section
open Go.RowKit Go.Maps
section
variable {W w w':World} {G F F':Nat->Prop} {tb mb pb db:Nat} {A B:Option Addr} {n c m d:Nat} {f:Int->List UInt8} {t t':TS}
def qe0 (w:World) (g h tb:Nat) (p:Int):Prop:=w.cell? ⟨g,0,none⟩=some (.pointer (some ⟨tb,0,none⟩))/\w.cell? ⟨h,0,none⟩=some (.int .i64 p)
theorem qe0.kept {w w':World} {g h tb:Nat} {p:Int} (v:qe0 w g h tb p) (b:Below w.heap.size w w'):qe0 w' g h tb p :=
 ⟨(b.cell (World.block_lt_of_cell? _ _ v.1)).trans v.1,(b.cell (World.block_lt_of_cell? _ _ v.2)).trans v.2⟩
def zn6 (g h tb:Nat) (p:Int) (A:Option Addr) (n c:Nat) (B:Option Addr) (m d:Nat) (t:TS) (w:World):Prop :=
 w.cell? ⟨g,0,none⟩=some (.pointer (some ⟨tb,0,none⟩))/\w.cell? ⟨h,0,none⟩=some (.int .i64 p)/\w.cell? ⟨tb,4,none⟩=some (.int .i64 t.sp.hi)/\w.cell? ⟨tb,5,none⟩=some (.slice A n c)/\w.cell? ⟨tb,6,none⟩=some (.slice B m d)/\w.cell? ⟨tb,7,none⟩=some (.int .i64 t.ep)
theorem rels {g h:Nat} {p:Int} (H:Ko W G F w tb mb pb db A n c B m d f t) (v:qe0 w g h tb p) (b:Below w.heap.size w w'):zn6 g h tb p A n c B m d t w' :=
 have k:=(H.kept b).box.cells;have u:=v.kept b
 ⟨u.1,u.2,k.2.2.2.2.1,k.2.2.2.2.2.1,k.2.2.2.2.2.2.1,k.2.2.2.2.2.2.2.1⟩
theorem qM8 (w:World) (p:Int) (g h:Nat) (H:Ko W G F w tb mb pb db A n c B m d f t) (v:qe0 w g h tb p) :
 Calls Tryz.prog 157 #[.pointer (some ⟨g,0,none⟩),.pointer (some ⟨h,0,none⟩)] w (VP w (t.sp.give t.ep p).1 (t.sp.give t.ep p).2):=by
 obtain ⟨q1,q2,q3,q4⟩:=H.box.fit.few;have hn:n<=300000:=by rw [H.box.sp.fl] at q1;omega
 have hm:m<=300000:=by rw [H.box.sp.pl] at q2;omega
 have b1:=Qa w (.cells #[.int .i64 0,.slice none 0 0,.slice none 0 0] 45);have bd:=b1.drew;have H1:=iQ (H.kept bd).box.sp;have HK:Hid (∀ w':World,Below w.heap.size w w'->zn6 g h tb p A n c B m d t w'):=iQ (fun w' b=>rels H v b);have BD:=iQ bd;have HR:Hid (Gz ((w.alloc (.cells #[.int .i64 0,.slice none 0 0,.slice none 0 0] 45)).drew) w.heap.size (.int .i64 0) (.slice none 0 0) (.slice none 0 0)):=iQ ((Yi w (.int .i64 0) (.slice none 0 0) (.slice none 0 0)));clear H v b1 q1 q2 q3 q4;go_enter Tryz.func157,Tryz.ntmps157;go_upto_region 1 with fail
 obtain ⟨c0,c1,c2,c3,c4,c5⟩:=HK.out _ bd;have K0:=HK.out _ bd;clear bd;go_region_held3 (fun w'=>w'.cell? ⟨g,0,none⟩=some (.pointer (some ⟨tb,0,none⟩))/\w'.cell? ⟨h,0,none⟩=some (.int .i64 p)/\w'.cell? ⟨tb,4,none⟩=some (.int .i64 t.sp.hi)/\w'.cell? ⟨tb,5,none⟩=some (.slice A n c)/\w'.cell? ⟨tb,6,none⟩=some (.slice B m d)/\w'.cell? ⟨tb,7,none⟩=some (.int .i64 t.ep))
  (first | exact K5 _ _ _ | exact K2 | exact K0)
  (first
    | (go_at_call 158;refine (zc2 t.sp t.sp.hi t.ep p A B n c m d _ rfl H1.out hn hm).mono ?_;rintro e w2 ⟨v2,rfl,o2,b2⟩;have BW:=iQ (BD.out.trans (b2.mono BD.out.size));have K2:=HK.out _ BW.out;have K5:=fun x y z:Value=>HK.out _ (Jf BW.out (wa2 w.heap.size) x y z);have HR2:=iQ (HR.out.kept b2);obtain ⟨A2,n2,c2,B2,m2,d2,rfl,p2,i2,j2⟩:=o2;have P2:=iQ p2;have I2:=iQ i2;have J2:=iQ j2;obtain ⟨y0,y1,y2⟩:=HR2.out.cells;obtain ⟨f0,f1,f2⟩:=HR2.out.free;clear p2 i2 j2 b2))
 all_goals (
  have HD:=iQ (Yn (h:=(t.sp.give t.ep p).2.hi) BW.out (wa2 _) P2.out (Hi.low I2.out (by simp)) (Hi.low J2.out (by simp)) rfl (.int .i64 (t.sp.give t.ep p).2.hi) (.slice A2 n2 c2) (.slice B2 m2 d2));obtain ⟨z0,z1,z2⟩:=(HR2.out.put (.int .i64 (t.sp.give t.ep p).2.hi) (.slice A2 n2 c2) (.slice B2 m2 d2)).cells;clear y0 y1 y2 f0 f1 f2;go_wp2_with fail;refine bodyPost_ret (v := .tuple #[.agg #[.int .i64 (t.sp.give t.ep p).2.hi,.slice A2 n2 c2,.slice B2 m2 d2],.int .i64 (t.sp.give t.ep p).1]) (by simp [results,Tryz.results157,go_sem,z0,z1,z2]) rfl ?_;exact ⟨_,rfl,HD.out.1,HD.out.2⟩)
theorem qM9 (w:World) (p:Int) (g h:Nat) (H:Ko W G F w tb mb pb db A n c B m d f t) (v:qe0 w g h tb p) :
 Calls Tryz.prog 160 #[.pointer (some ⟨g,0,none⟩),.pointer (some ⟨h,0,none⟩)] w (VP w (t.sp.back p).1 (t.sp.back p).2):=by
 obtain ⟨q1,q2,q3,q4⟩:=H.box.fit.few;have hn:n<=300000:=by rw [H.box.sp.fl] at q1;omega
 have hm:m<=300000:=by rw [H.box.sp.pl] at q2;omega
 have b1:=Qa w (.cells #[.int .i64 0,.slice none 0 0,.slice none 0 0] 45);have bd:=b1.drew;have H1:=iQ (H.kept bd).box.sp;have HK:Hid (∀ w':World,Below w.heap.size w w'->zn6 g h tb p A n c B m d t w'):=iQ (fun w' b=>rels H v b);have BD:=iQ bd;have HR:Hid (Gz ((w.alloc (.cells #[.int .i64 0,.slice none 0 0,.slice none 0 0] 45)).drew) w.heap.size (.int .i64 0) (.slice none 0 0) (.slice none 0 0)):=iQ ((Yi w (.int .i64 0) (.slice none 0 0) (.slice none 0 0)));clear H v b1 q1 q2 q3 q4;go_enter Tryz.func160,Tryz.ntmps160;go_upto_region 1 with fail
 obtain ⟨c0,c1,c2,c3,c4,c5⟩:=HK.out _ bd;have K0:=HK.out _ bd;clear bd;go_region_held3 (fun w'=>w'.cell? ⟨g,0,none⟩=some (.pointer (some ⟨tb,0,none⟩))/\w'.cell? ⟨h,0,none⟩=some (.int .i64 p)/\w'.cell? ⟨tb,4,none⟩=some (.int .i64 t.sp.hi)/\w'.cell? ⟨tb,5,none⟩=some (.slice A n c)/\w'.cell? ⟨tb,6,none⟩=some (.slice B m d)/\w'.cell? ⟨tb,7,none⟩=some (.int .i64 t.ep))
  (first | exact K5 _ _ _ | exact K2 | exact K0)
  (first
    | (go_at_call 21;refine (qz0 t.sp t.sp.hi p A B n c m d _ rfl H1.out hn hm).mono ?_;rintro e w2 ⟨v2,rfl,o2,b2⟩;have BW:=iQ (BD.out.trans (b2.mono BD.out.size));have K2:=HK.out _ BW.out;have K5:=fun x y z:Value=>HK.out _ (Jf BW.out (wa2 w.heap.size) x y z);have HR2:=iQ (HR.out.kept b2);obtain ⟨A2,n2,c2,B2,m2,d2,rfl,p2,i2,j2⟩:=o2;have P2:=iQ p2;have I2:=iQ i2;have J2:=iQ j2;obtain ⟨y0,y1,y2⟩:=HR2.out.cells;obtain ⟨f0,f1,f2⟩:=HR2.out.free;clear p2 i2 j2 b2))
 all_goals (
  have HD:=iQ (Yn (h:=(t.sp.back p).2.hi) BW.out (wa2 _) P2.out (Hi.low I2.out (by simp)) (Hi.low J2.out (by simp)) rfl (.int .i64 (t.sp.back p).2.hi) (.slice A2 n2 c2) (.slice B2 m2 d2));obtain ⟨z0,z1,z2⟩:=(HR2.out.put (.int .i64 (t.sp.back p).2.hi) (.slice A2 n2 c2) (.slice B2 m2 d2)).cells;clear y0 y1 y2 f0 f1 f2;go_wp2_with fail;refine bodyPost_ret (v := .tuple #[.agg #[.int .i64 (t.sp.back p).2.hi,.slice A2 n2 c2,.slice B2 m2 d2],.int .i64 (t.sp.back p).1]) (by simp [results,Tryz.results160,go_sem,z0,z1,z2]) rfl ?_;exact ⟨_,rfl,HD.out.1,HD.out.2⟩)
end
section
variable {W w w':World} {G F F':Nat->Prop} {tb mb pb db:Nat} {A B:Option Addr} {n c m d:Nat} {f:Int->List UInt8} {t t':TS}
theorem JU.put3 (w:World) (r:Nat) (x y z:Value):JU r w (((w.setCell ⟨r,4,none⟩ x).setCell ⟨r,5,none⟩ y).setCell ⟨r,6,none⟩ z):=(((JU.refl r w).set 4 x).set 5 y).set 6 z
theorem za2 (w:World) (p:Int) (h1 : -9223372036854775808<=p) (h2:p<=9223372036854775807) (h:Ko W G F w tb mb pb db A n c B m d f t) :
 Calls Tryz.prog 133 #[.pointer (some ⟨tb,0,none⟩),.int .i64 p] w (XF W F w tb pb db (t.rel p).1 (t.rel p).2):=by
 have H:=iQ h;have b0:=Zp w (.cells #[.pointer (some ⟨tb,0,none⟩)] 24) (.cells #[.int .i64 p] 3);have v0:qe0 ((w.alloc (.cells #[.pointer (some ⟨tb,0,none⟩)] 24)).alloc (.cells #[.int .i64 p] 3)) w.heap.size (w.heap.size+1) tb p:=by
  refine ⟨?_,?_⟩
  ·exact ((Qa (w.alloc (.cells #[.pointer (some ⟨tb,0,none⟩)] 24)) _).cell (p:=⟨w.heap.size,0,none⟩) (by simp)).trans ((cell_of_row _ w.heap.size 0 _ _ _ (heap_alloc_new w _)).trans rfl)
  ·have:=heap_alloc_new (w.alloc (.cells #[.pointer (some ⟨tb,0,none⟩)] 24)) (.cells #[.int .i64 p] 3)
   rw [show (w.alloc (.cells #[.pointer (some ⟨tb,0,none⟩)] 24)).heap.size=w.heap.size+1 by simp] at this;exact (cell_of_row _ (w.heap.size+1) 0 _ _ _ this).trans rfl
 have H0:=iQ (h.kept b0);have V0:=iQ v0;have B0:=iQ b0;have hlt:=h.box.lt;clear h b0 v0;go_enter Tryz.func133,Tryz.ntmps133;go_upto_region 1 with fail
 generalize (w.alloc (.cells #[.pointer (some ⟨tb,0,none⟩)] 24)).alloc (.cells #[.int .i64 p] 3)=w0 at *;obtain ⟨a0,a1⟩:=V0.out;have hg0:w.heap.size≠tb:=by omega
 have hh0:w.heap.size+1≠tb:=by omega
 cases hp:t.fr p with
 | false =>
   have HF:=iQ hp;have qk4:t.gone p=t.sp.give t.ep p:=by unfold TS.gone;rw [hp];rfl
   have hrel:t.rel p=if (t.gone p).1=0 then (0,{ t with sp:=(t.gone p).2,fr:=TS.setB t.fr p false }) else ((t.gone p).1,t):=rfl
   rw [qk4] at hrel;have hfin:(t.sp.give t.ep p).1=0->SS.Fine (t.sp.give t.ep p).2 t.z:=fun he=>by
    have h1:=H.out.box.fit.fine;unfold SS.give at he ⊢;split at he
    ·cases he
    ·rename_i hb
     rw [if_neg hb];exact h1.give (by simpa using hb)
   have qX2:=iQ hrel;clear qk4 hrel;go_wp2_with fail;refine (QZ w0 p h1 h2 H0.out.box).mono ?_;rintro e1 w1 ⟨rfl,b1⟩;have B1:=iQ (B0.out.trans (b1.mono B0.out.size));have V1:=iQ (V0.out.kept b1);have H1:=iQ (H0.out.kept b1);rw [hp];clear b1 hp;obtain ⟨c0,c1⟩:=V1.out;go_wp2_with fail;refine (qM8 w1 p w.heap.size (w.heap.size+1) H1.out V1.out).mono ?_;rintro e2 w2 ⟨v2,rfl,o2,b2⟩;obtain ⟨A2,n2,c2,B2,m2,d2,rfl,p2,i2,j2⟩:=o2;have Um:=iQ (B1.out.trans (b2.mono B1.out.size));clear c0 c1;rcases hr:t.sp.give t.ep p with ⟨e,s'⟩
   have hrel:=qX2.out;rw [hr] at hrel hfin p2;dsimp only at hrel hfin p2 ⊢;have HR0:=iQ hr;clear hr qX2;by_cases he:e=0
   ·subst he
    rw [if_pos rfl] at hrel;have b3:=(Qa w2 (.cells #[.int .i64 s'.hi,.slice A2 n2 c2,.slice B2 m2 d2] 45));have BX:=iQ (Yi w2 (.int .i64 s'.hi) (.slice A2 n2 c2) (.slice B2 m2 d2));have B3:=iQ (Um.out.trans (b3.mono Um.out.size));obtain ⟨F3,h3,m3⟩:=H.out.setSp B3.out (p2.kept b3) (Hi.low i2 B1.out.size) (Hi.low j2 B1.out.size) (hfin rfl);have V3:=iQ ((V1.out.kept b2).kept b3);have hg0:w.heap.size≠tb:=by have:=H.out.box.lt;omega
    have hh0:w.heap.size+1≠tb:=by have:=H.out.box.lt;omega
    have C:=(H.out.kept B3.out).box.cells;obtain ⟨c0,c1,c2',c3,c4,c5,c6,c7,c8,c9⟩:=C;have g4:=(H.out.kept B3.out).box.free 4;have g5:=(H.out.kept B3.out).box.free 5;have g6:=(H.out.kept B3.out).box.free 6;obtain ⟨x0,x1,x2⟩:=BX.out.cells;obtain ⟨v0,v1⟩:=V3.out;have bd:=(Below.refl ((((w2.alloc (.cells #[.int .i64 s'.hi,.slice A2 n2 c2,.slice B2 m2 d2] 45)).setCell ⟨tb,4,none⟩ (.int .i64 s'.hi)).setCell ⟨tb,5,none⟩ (.slice A2 n2 c2)).setCell ⟨tb,6,none⟩ (.slice B2 m2 d2)).heap.size ((((w2.alloc (.cells #[.int .i64 s'.hi,.slice A2 n2 c2,.slice B2 m2 d2] 45)).setCell ⟨tb,4,none⟩ (.int .i64 s'.hi)).setCell ⟨tb,5,none⟩ (.slice A2 n2 c2)).setCell ⟨tb,6,none⟩ (.slice B2 m2 d2))).drew;have h3d:=h3.kept bd;obtain ⟨w4,hrun,hm,hg⟩:=h3d.box.fresh.delU (i:=p) h1 h2 0;rw [show upd (NP ({ t with sp:=s' }:TS).fr) p none=NP (TS.setB t.fr p false) from qy4 t.fr p] at hm
    obtain ⟨F4,h4,m4⟩:=h3d.setFresh hg hm (fun q hq=>by
     change (if q=p then false else t.fr q)=true at hq
     by_cases hqp:q=p
     ·rw [if_pos hqp] at hq
      cases hq
     ·rw [if_neg hqp] at hq
      exact H.out.box.fit.fresh q hq)
    have HD:Hid (XF W F w tb pb db (t.rel p).1 (t.rel p).2 (.returned (.int .i64 0)) w4):=iQ (by
     rw [hrel];exact ⟨rfl,F4,h4.tree,m3.trans ((Qb.ob bd).trans m4)⟩)
    have C8:=iQ h3d.box.cells.2.2.2.2.2.2.2.2.1;have HR:=iQ hrun;have W3:Hid (qe0 (((((w2.alloc (.cells #[.int .i64 s'.hi,.slice A2 n2 c2,.slice B2 m2 d2] 45)).setCell ⟨tb,4,none⟩ (.int .i64 s'.hi)).setCell ⟨tb,5,none⟩ (.slice A2 n2 c2)).setCell ⟨tb,6,none⟩ (.slice B2 m2 d2))) w.heap.size (w.heap.size+1) tb p):=iQ (by
     have hb:=JU.put3 (w2.alloc (.cells #[.int .i64 s'.hi,.slice A2 n2 c2,.slice B2 m2 d2] 45)) tb (.int .i64 s'.hi) (.slice A2 n2 c2) (.slice B2 m2 d2);exact ⟨(hb.cell hg0 0).trans v0,(hb.cell hh0 0).trans v1⟩)
    clear h3 h3d bd h4 m3 m4 hm hg hrun p2 i2 j2 hfin hrel b3 c0 c1 c2' c3 c7 c8 c9 V3;go_upto_region 8 with fail
    generalize (((w2.alloc (.cells #[.int .i64 s'.hi,.slice A2 n2 c2,.slice B2 m2 d2] 45)).setCell ⟨tb,4,none⟩ (.int .i64 s'.hi)).setCell ⟨tb,5,none⟩ (.slice A2 n2 c2)).setCell ⟨tb,6,none⟩ (.slice B2 m2 d2)=w3 at *;have c8:=C8.out;have hrun:=HR.out;obtain ⟨y0,y1⟩:=W3.out.kept ((Below.refl w3.heap.size w3).drew);clear x0 x1 x2 c4 c5 c6 g4 g5 g6 v0 v1;go_region
    all_goals (
     go_wp2_with fail;go_ret;exact HD.out)
   ·have hb:(e != 0)=true:=bne_iff_ne.2 he
    rw [if_neg he] at hrel;have HD:Hid (XF W F w tb pb db (t.rel p).1 (t.rel p).2 (.returned (.int .i64 e)) (w2.alloc (.cells #[.int .i64 s'.hi,.slice A2 n2 c2,.slice B2 m2 d2] 45))):=iQ (by
     rw [hrel];exact ⟨rfl,Yt.ob H.out.tree (Um.out.trans ((Qa w2 _).mono Um.out.size))⟩)
    clear he p2 i2 j2 hfin hrel;go_wp2_with fail;go_ret;exact HD.out
 | true =>
   have HF:=iQ hp;have qk4:t.gone p=t.sp.back p:=by unfold TS.gone;rw [hp];rfl
   have hrel:t.rel p=if (t.gone p).1=0 then (0,{ t with sp:=(t.gone p).2,fr:=TS.setB t.fr p false }) else ((t.gone p).1,t):=rfl
   rw [qk4] at hrel;have hfin:(t.sp.back p).1=0->SS.Fine (t.sp.back p).2 t.z:=fun he=>by
    have h1:=H.out.box.fit.fine;unfold SS.back at he ⊢;split at he
    ·cases he
    ·rename_i hb
     rw [if_neg hb];exact h1.back (by simpa using hb)
   have qX2:=iQ hrel;clear qk4 hrel;go_wp2_with fail;refine (QZ w0 p h1 h2 H0.out.box).mono ?_;rintro e1 w1 ⟨rfl,b1⟩;have B1:=iQ (B0.out.trans (b1.mono B0.out.size));have V1:=iQ (V0.out.kept b1);have H1:=iQ (H0.out.kept b1);rw [hp];clear b1 hp;obtain ⟨c0,c1⟩:=V1.out;go_wp2_with fail;refine (qM9 w1 p w.heap.size (w.heap.size+1) H1.out V1.out).mono ?_;rintro e2 w2 ⟨v2,rfl,o2,b2⟩;obtain ⟨A2,n2,c2,B2,m2,d2,rfl,p2,i2,j2⟩:=o2;have Um:=iQ (B1.out.trans (b2.mono B1.out.size));clear c0 c1;rcases hr:t.sp.back p with ⟨e,s'⟩
   have hrel:=qX2.out;rw [hr] at hrel hfin p2;dsimp only at hrel hfin p2 ⊢;have HR0:=iQ hr;clear hr qX2;by_cases he:e=0
   ·subst he
    rw [if_pos rfl] at hrel;have b3:=(Qa w2 (.cells #[.int .i64 s'.hi,.slice A2 n2 c2,.slice B2 m2 d2] 45));have BX:=iQ (Yi w2 (.int .i64 s'.hi) (.slice A2 n2 c2) (.slice B2 m2 d2));have B3:=iQ (Um.out.trans (b3.mono Um.out.size));obtain ⟨F3,h3,m3⟩:=H.out.setSp B3.out (p2.kept b3) (Hi.low i2 B1.out.size) (Hi.low j2 B1.out.size) (hfin rfl);have V3:=iQ ((V1.out.kept b2).kept b3);have hg0:w.heap.size≠tb:=by have:=H.out.box.lt;omega
    have hh0:w.heap.size+1≠tb:=by have:=H.out.box.lt;omega
    have C:=(H.out.kept B3.out).box.cells;obtain ⟨c0,c1,c2',c3,c4,c5,c6,c7,c8,c9⟩:=C;have g4:=(H.out.kept B3.out).box.free 4;have g5:=(H.out.kept B3.out).box.free 5;have g6:=(H.out.kept B3.out).box.free 6;obtain ⟨x0,x1,x2⟩:=BX.out.cells;obtain ⟨v0,v1⟩:=V3.out;have bd:=(Below.refl ((((w2.alloc (.cells #[.int .i64 s'.hi,.slice A2 n2 c2,.slice B2 m2 d2] 45)).setCell ⟨tb,4,none⟩ (.int .i64 s'.hi)).setCell ⟨tb,5,none⟩ (.slice A2 n2 c2)).setCell ⟨tb,6,none⟩ (.slice B2 m2 d2)).heap.size ((((w2.alloc (.cells #[.int .i64 s'.hi,.slice A2 n2 c2,.slice B2 m2 d2] 45)).setCell ⟨tb,4,none⟩ (.int .i64 s'.hi)).setCell ⟨tb,5,none⟩ (.slice A2 n2 c2)).setCell ⟨tb,6,none⟩ (.slice B2 m2 d2))).drew;have h3d:=h3.kept bd;obtain ⟨w4,hrun,hm,hg⟩:=h3d.box.fresh.delU (i:=p) h1 h2 0;rw [show upd (NP ({ t with sp:=s' }:TS).fr) p none=NP (TS.setB t.fr p false) from qy4 t.fr p] at hm
    obtain ⟨F4,h4,m4⟩:=h3d.setFresh hg hm (fun q hq=>by
     change (if q=p then false else t.fr q)=true at hq
     by_cases hqp:q=p
     ·rw [if_pos hqp] at hq
      cases hq
     ·rw [if_neg hqp] at hq
      exact H.out.box.fit.fresh q hq)
    have HD:Hid (XF W F w tb pb db (t.rel p).1 (t.rel p).2 (.returned (.int .i64 0)) w4):=iQ (by
     rw [hrel];exact ⟨rfl,F4,h4.tree,m3.trans ((Qb.ob bd).trans m4)⟩)
    have C8:=iQ h3d.box.cells.2.2.2.2.2.2.2.2.1;have HR:=iQ hrun;have W3:Hid (qe0 (((((w2.alloc (.cells #[.int .i64 s'.hi,.slice A2 n2 c2,.slice B2 m2 d2] 45)).setCell ⟨tb,4,none⟩ (.int .i64 s'.hi)).setCell ⟨tb,5,none⟩ (.slice A2 n2 c2)).setCell ⟨tb,6,none⟩ (.slice B2 m2 d2))) w.heap.size (w.heap.size+1) tb p):=iQ (by
     have hb:=JU.put3 (w2.alloc (.cells #[.int .i64 s'.hi,.slice A2 n2 c2,.slice B2 m2 d2] 45)) tb (.int .i64 s'.hi) (.slice A2 n2 c2) (.slice B2 m2 d2);exact ⟨(hb.cell hg0 0).trans v0,(hb.cell hh0 0).trans v1⟩)
    clear h3 h3d bd h4 m3 m4 hm hg hrun p2 i2 j2 hfin hrel b3 c0 c1 c2' c3 c7 c8 c9 V3;go_upto_region 8 with fail
    generalize (((w2.alloc (.cells #[.int .i64 s'.hi,.slice A2 n2 c2,.slice B2 m2 d2] 45)).setCell ⟨tb,4,none⟩ (.int .i64 s'.hi)).setCell ⟨tb,5,none⟩ (.slice A2 n2 c2)).setCell ⟨tb,6,none⟩ (.slice B2 m2 d2)=w3 at *;have c8:=C8.out;have hrun:=HR.out;obtain ⟨y0,y1⟩:=W3.out.kept ((Below.refl w3.heap.size w3).drew);clear x0 x1 x2 c4 c5 c6 g4 g5 g6 v0 v1;go_region
    all_goals (
     go_wp2_with fail;go_ret;exact HD.out)
   ·have hb:(e != 0)=true:=bne_iff_ne.2 he
    rw [if_neg he] at hrel;have HD:Hid (XF W F w tb pb db (t.rel p).1 (t.rel p).2 (.returned (.int .i64 e)) (w2.alloc (.cells #[.int .i64 s'.hi,.slice A2 n2 c2,.slice B2 m2 d2] 45))):=iQ (by
     rw [hrel];exact ⟨rfl,Yt.ob H.out.tree (Um.out.trans ((Qa w2 _).mono Um.out.size))⟩)
    clear he p2 i2 j2 hfin hrel;go_wp2_with fail;go_ret;exact HD.out
end
namespace TS
theorem tk_fresh {t:TS} (h:t.tk.1=0):t.tk.2.2.fr t.tk.2.1=true:=by
 unfold tk at h ⊢;split at h
 ·rename_i e
  rw [if_pos e];exact if_pos rfl
 ·rename_i e
  exact absurd h e
theorem renew_fresh {t:TS} {p:Int} (h:(t.renew p).1=0):(t.renew p).2.2.fr (t.renew p).2.1=true:=by
 unfold renew at h ⊢;cases hp:t.fr p with
 | true=>rw [if_pos rfl];exact hp
 | false =>
   rw [hp,if_neg (show ¬ (false=true) by decide)] at h;rw [if_neg (show ¬ (false=true) by decide)];split at h
   ·rename_i e
    rw [if_pos e];exact tk_fresh h
   ·rename_i e
    rw [if_neg e];split at h
    ·rename_i e2
     rw [if_pos e2];exact tk_fresh h
    ·rename_i e2
     exact absurd h e2
end TS
section
variable {W w w':World} {G F F':Nat->Prop} {tb mb pb db:Nat} {A B:Option Addr} {n c m d:Nat} {f:Int->List UInt8} {t t':TS}
theorem qw4 (w:World) (h:Ql W F w tb pb db t):Calls Tryz.prog 188 #[.pointer (some ⟨tb,0,none⟩)] w (Ue W F w tb pb db t.tk):=by
 obtain ⟨G,mb,A,n,c,B,m,d,f,h⟩:=h;exact zj4 w h
theorem YN (w:World) (p:Int) (h1 : -9223372036854775808<=p) (h2:p<=9223372036854775807) (h:Ql W F w tb pb db t) :
 Calls Tryz.prog 133 #[.pointer (some ⟨tb,0,none⟩),.int .i64 p] w (XF W F w tb pb db (t.rel p).1 (t.rel p).2):=by
 obtain ⟨G,mb,A,n,c,B,m,d,f,h⟩:=h;exact za2 w p h1 h2 h
theorem qs9 (w:World) (p:Int) (h1 : -9223372036854775808<=p) (h2:p<=9223372036854775807) (h:Ql W F w tb pb db t) :
 Calls Tryz.prog 159 #[.pointer (some ⟨tb,0,none⟩),.int .i64 p] w fun e w'=>e = .returned (.bool (t.fr p))/\Below w.heap.size w w':=by
 obtain ⟨G,mb,A,n,c,B,m,d,f,h⟩:=h;exact QZ w p h1 h2 h.box
theorem qp7 (w:World) (p:Int) (h1 : -9223372036854775808<=p) (h2:p<=9223372036854775807) (h:Ql W F w tb pb db t) :
 Calls Tryz.prog 176 #[.pointer (some ⟨tb,0,none⟩),.int .i64 p] w (Ue W F w tb pb db (t.renew p)):=by
 have H:=iQ h;have hr:t.renew p=if t.fr p then (0,p,t) else if p=0 then t.tk else if (t.rel p).1=0 then (t.rel p).2.tk else ((t.rel p).1,0,(t.rel p).2):=rfl
 have HR:=iQ hr;clear h hr;go_enter Tryz.func176,Tryz.ntmps176;go_wp2_with fail;refine (qs9 w p h1 h2 H.out).mono ?_;rintro e w1 ⟨rfl,b1⟩;have H1:=iQ (H.out.kept b1);have B1:=iQ b1;clear b1;cases hf:t.fr p with
 | true =>
   have HD:Hid (Ue W F w tb pb db (t.renew p) (.returned (.tuple #[.int .i64 p,.int .i64 0])) w1):=iQ (by
    rw [HR.out,hf,if_pos rfl];exact ⟨rfl,Yt.ob H.out B1.out⟩)
   clear hf;go_wp2_with fail;refine bodyPost_ret (v := .tuple #[.int .i64 p,.int .i64 0]) (by simp [results,Tryz.results176,go_sem]) rfl ?_;exact HD.out
 | false =>
   have hr:=HR.out;rw [hf,if_neg (show ¬ (false=true) by decide)] at hr;have HR1:=iQ hr;clear hf hr HR;by_cases h0:p=0
   ·have hb:(p != 0)=false:=by simpa using h0
    have hr:=HR1.out;rw [if_pos h0] at hr;have HR2:=iQ hr;clear h0 hr HR1;go_wp2_with fail;refine (qw4 w1 H1.out).mono ?_;rintro e w2 ⟨rfl,g2⟩;have HD:Hid (Ue W F w tb pb db (t.renew p) (.returned (.tuple #[.int .i64 t.tk.2.1,.int .i64 t.tk.1])) w2):=iQ (by
     rw [HR2.out];exact ⟨rfl,Yt.behind B1.out g2⟩)
    clear HR2 g2;generalize t.tk.2.1=q at *;generalize t.tk.1=r at *;go_wp2_with fail;refine bodyPost_ret (v := .tuple #[.int .i64 q,.int .i64 r]) (by simp [results,Tryz.results176,go_sem]) rfl ?_;exact HD.out
   ·have hb:(p != 0)=true:=bne_iff_ne.2 h0
    have hr:=HR1.out;rw [if_neg h0] at hr;have HR2:=iQ hr;clear h0 hr HR1;go_wp2_with fail;refine (YN w1 p h1 h2 H1.out).mono ?_;rintro e w2 ⟨rfl,F2,g2,m2⟩;have H2:=iQ g2;have M2:=iQ ((Qb.ob B1.out).trans m2);clear g2 m2 H1;rcases hq:t.rel p with ⟨r,t2⟩
    rw [hq] at H2 HR2;dsimp only at H2 HR2 ⊢;clear hq;by_cases he:r=0
    ·subst he
     have hr:=HR2.out;rw [if_pos rfl] at hr;have HR3:=iQ hr;clear hr HR2;go_wp2_with fail;refine (qw4 w2 H2.out).mono ?_;rintro e w3 ⟨rfl,g3⟩;have HD:Hid (Ue W F w tb pb db (t.renew p) (.returned (.tuple #[.int .i64 t2.tk.2.1,.int .i64 t2.tk.1])) w3):=iQ (by
      rw [HR3.out];exact ⟨rfl,Yt.then_ M2.out g3⟩)
     clear HR3 g3;generalize t2.tk.2.1=q at *;generalize t2.tk.1=r at *;go_wp2_with fail;refine bodyPost_ret (v := .tuple #[.int .i64 q,.int .i64 r]) (by simp [results,Tryz.results176,go_sem]) rfl ?_;exact HD.out
    ·have hb2:(r != 0)=true:=bne_iff_ne.2 he
     have hr:=HR2.out;rw [if_neg he] at hr;have HD:Hid (Ue W F w tb pb db (t.renew p) (.returned (.tuple #[.int .i64 0,.int .i64 r])) w2):=iQ (by
      rw [hr];exact ⟨rfl,F2,H2.out,M2.out⟩)
     clear he hr HR2;go_wp2_with fail;refine bodyPost_ret (v := .tuple #[.int .i64 0,.int .i64 r]) (by simp [results,Tryz.results176,go_sem]) rfl ?_;exact HD.out
end
section
variable {W w w':World} {G F F':Nat->Prop} {tb mb pb db:Nat} {A B:Option Addr} {n c m d:Nat} {f:Int->List UInt8} {t t':TS}
def Xy (w:World) (g:Nat) (q x y z p:Value):Prop:=w.heap[g]?=some (.cells #[q,x,y,z,p] 171 (0,0))
theorem Xy.lt {g:Nat} {q x y z p:Value} (h:Xy w g q x y z p):g<w.heap.size:=(wa1.1 h).1
theorem Xy.kept {g:Nat} {q x y z p:Value} (h:Xy w g q x y z p) (hb:Below w.heap.size w w'):Xy w' g q x y z p:=(hb.block g h.lt).trans h
theorem Xy.mo {g:Nat} {q x y z p:Value} (h:Xy w g q x y z p) (hm:Qb w F w' F') (hF:¬ F g):Xy w' g q x y z p:=(hm.kept.block g h.lt hF).trans h
theorem Xy.cells {g:Nat} {q x y z p:Value} (h:Xy w g q x y z p):w.cell? ⟨g,0,none⟩=some q/\w.cell? ⟨g,1,none⟩=some x/\w.cell? ⟨g,2,none⟩=some y/\w.cell? ⟨g,3,none⟩=some z/\w.cell? ⟨g,4,none⟩=some p :=
 ⟨(cell_of_row w g 0 _ _ _ h).trans rfl,(cell_of_row w g 1 _ _ _ h).trans rfl,(cell_of_row w g 2 _ _ _ h).trans rfl,(cell_of_row w g 3 _ _ _ h).trans rfl,(cell_of_row w g 4 _ _ _ h).trans rfl⟩
theorem Xy.free {g:Nat} {q x y z p:Value} (h:Xy w g q x y z p) (j:Nat):w.frozen? ⟨g,j,none⟩=false:=frozen_of_row w g j _ _ h
theorem Xw (w:World) (q x y z p:Value):Xy (w.alloc (.cells #[q,x,y,z,p] 171)) w.heap.size q x y z p:=heap_alloc_new w _
theorem Qs.mo {g:Nat} {x y z p:Value} (h:Qs w g x y z p) (hm:Qb w F w' F') (hF:¬ F g):Qs w' g x y z p:=(hm.kept.block g h.lt hF).trans h
theorem Qb.not {g:Nat} (hm:Qb w F w' F') (hg:g<w.heap.size) (hF:¬ F g):¬ F' g:=fun h=>by
 rcases hm.news g h with e | e
 ·exact hF e
 ·omega
theorem Ql.new (h:Ql W F w tb pb db t) {g:Nat} (hg:w.heap.size<=g):¬ F g:=fun e=>by
 have:=h.lt g e;omega
theorem qY3 (w:World) (pg:Int) (h1 : -9223372036854775808<=pg) (h2:pg<=9223372036854775807) (lf:Bool) (A:Option Addr) (n c:Nat) (B:Option Addr) (m d:Nat) (C:Option Addr) (k e:Nat) (s:ND)
 (lf':Bool) (A':Option Addr) (n' c':Nat) (B':Option Addr) (m' d':Nat) (C':Option Addr) (k' e':Nat) (x:ND)
 (hs:Nd w A n c B m d C k e s) (hx:UL w F A' n' c' B' m' d' C' k' e' x) (hl:s.leaf=lf) (hl':x.leaf=lf') (hz:s.size<=1000000) (hz':x.size<=1000000) (h:Ql W F w tb pb db t) :
 Calls Tryz.prog 162 #[.pointer (some ⟨tb,0,none⟩),.agg #[.int .i64 pg,.bool lf,.slice A n c,.slice B m d,.slice C k e],.agg #[.bool lf',.slice A' n' c',.slice B' m' d',.slice C' k' e']] w
  (Ue W F w tb pb db (t.wr (pg,s) x)):=by
 have H:=iQ h;have hr:t.wr (pg,s) x=if s.sameB x then (0,pg,t) else if (t.renew pg).1=0 then
  (if x.encE=0 then (0,(t.renew pg).2.1,{ (t.renew pg).2.2 with nd:=TS.setN (t.renew pg).2.2.nd (t.renew pg).2.1 x }) else (121,0,(t.renew pg).2.2))
    else ((t.renew pg).1,0,(t.renew pg).2.2):=rfl
 have HR:=iQ hr;have b1:=Qa w (.cells #[.int .i64 pg,.bool lf,.slice A n c,.slice B m d,.slice C k e] 171);have b2:=Qa (w.alloc (.cells #[.int .i64 pg,.bool lf,.slice A n c,.slice B m d,.slice C k e] 171)) (.cells #[.bool lf',.slice A' n' c',.slice B' m' d',.slice C' k' e'] 75);have b0:=b1.trans (b2.mono b1.size);have hlb:=(Xw w (.int .i64 pg) (.bool lf) (.slice A n c) (.slice B m d) (.slice C k e)).kept b2;have hnb:=Qp (w.alloc (.cells #[.int .i64 pg,.bool lf,.slice A n c,.slice B m d,.slice C k e] 171)) (.bool lf') (.slice A' n' c') (.slice B' m' d') (.slice C' k' e');rw [show (w.alloc (.cells #[.int .i64 pg,.bool lf,.slice A n c,.slice B m d,.slice C k e] 171)).heap.size=w.heap.size+1 by simp] at hnb;have H0:=iQ (h.kept b0);have B0:=iQ b0;have LB:=iQ hlb;have NB:=iQ hnb;have HS:=iQ (hs.kept b0);have HX:=iQ (hx.kept b0);have NF:Hid (¬ F (w.heap.size+1)):=iQ (h.new (wd3 _));have HL':=iQ hl';have SE:=iQ (fun w1 (g:Nd w1 A n c B m d C k e s) (g':Nd w1 A' n' c' B' m' d' C' k' e' x)=>qg3 lf A n c B m d C k e s lf' A' n' c' B' m' d' C' k' e' x w1 g g' hl hl' hz);clear h hr b1 b2 b0 hlb hnb hs hx hl hl' hz;go_enter Tryz.func162,Tryz.ntmps162;go_upto_region 1 with fail
 generalize (w.alloc (.cells #[.int .i64 pg,.bool lf,.slice A n c,.slice B m d,.slice C k e] 171)).alloc (.cells #[.bool lf',.slice A' n' c',.slice B' m' d',.slice C' k' e'] 75)=w0 at *;obtain ⟨c0,c1,c2,c3,c4⟩:=LB.out.cells;obtain ⟨y0,y1,y2,y3⟩:=NB.out.cells;go_wp2_with fail;refine (SE.out w0 HS.out HX.out.nd).mono ?_;rintro e1 w1 ⟨rfl,b1⟩;have B1:=iQ (B0.out.trans (b1.mono B0.out.size));have H1:=iQ (H0.out.kept b1);have LB1:=iQ (LB.out.kept b1);have NB1:=iQ (NB.out.kept b1);have UD:=iQ (HX.out.kept b1);clear b1 SE HS LB NB HX H0 B0 c0 c1 c2 c3 c4 y0 y1 y2 y3;obtain ⟨c0,c1,c2,c3,c4⟩:=LB1.out.cells;cases hsm:s.sameB x with
 | true =>
   have HD:Hid (Ue W F w tb pb db (t.wr (pg,s) x) (.returned (.tuple #[.int .i64 pg,.int .i64 0])) w1):=iQ (by
    rw [HR.out,hsm,if_pos rfl];exact ⟨rfl,Yt.ob H.out B1.out⟩)
   clear hsm;go_wp2_with fail;refine bodyPost_ret (v := .tuple #[.int .i64 pg,.int .i64 0]) (by simp [results,Tryz.results162,go_sem]) rfl ?_;exact HD.out
 | false =>
   have hr:=HR.out;rw [hsm,if_neg (show ¬ (false=true) by decide)] at hr;have HR1:=iQ hr;clear hsm hr HR;go_wp2_with fail;refine (qp7 w1 pg h1 h2 H1.out).mono ?_;rintro e2 w2 ⟨rfl,F2,g2,m2⟩;have HF:=iQ (TS.renew_fresh (t:=t) (p:=pg));have H2:=iQ g2;have JK:=iQ (UD.out.mo m2);have NB2:=iQ (NB1.out.mo m2 NF.out);have NF2:=iQ (m2.not NB1.out.lt NF.out);have M2:=iQ ((Qb.ob B1.out).trans m2);clear g2 m2 H1 UD NB1 LB1 c0 c1 c2 c3 c4;rcases hq:t.renew pg with ⟨r,q,t2⟩
   rw [hq] at H2 HR1 HF;dsimp only at H2 HR1 HF ⊢;clear hq;by_cases he:r=0
   ·subst he
    have hr:=HR1.out;rw [if_pos rfl] at hr;have HR2:=iQ hr;have hq:=H2.out.fit.fresh q (HF.out rfl);have hz4:=H2.out.fit.z4;obtain ⟨y0,y1,y2,y3⟩:=NB2.out.cells;clear hr HR1 HF;go_wp2_with fail;refine (qi4 lf' A' n' c' B' m' d' C' k' e' x w2 JK.out.nd HL'.out hz').mono ?_;rintro e3 w3 ⟨v3,rfl,o3,b3⟩;have H3:=iQ (H2.out.kept b3);have M3:=iQ (M2.out.trans (Qb.ob b3));clear y0 y1 y2 y3 NB2 JK;obtain ⟨A3,a3,rfl,l3,u3,z3⟩:=qf3 o3 (H2.out.lt);have U3:=iQ u3;clear b3 H2 M2;by_cases hE:x.encE=0
    ·have hr:=HR2.out
     rw [if_pos hE] at hr;have HR3:=iQ hr;have HE:=iQ hE;clear hr HR2;rw [hE];go_wp2_with fail;refine (qi1 (R:=w3.heap.size) x.encK q A3 _ a3 x.encB w3 rfl (Out.bys u3) z3).mono ?_;rintro e4 w4 ⟨v4,rfl,o4,b4⟩;obtain ⟨k1,k2,k3⟩:=qN2 (p:=q) (by omega) (by omega) HE.out;have H4:=iQ (H3.out.kept b4);have M4:=iQ (M3.out.trans (Qb.ob b4));rw [k1];obtain ⟨A4,a4,rfl,l4,u4,z4⟩:=qf3 o4 (H3.out.lt);have U4:=iQ u4;have K2:=iQ k2;have K3:=iQ k3;have Z4:=iQ z4;clear b4 o4 u4 k1 k2 k3 z4 H3 M3 o3 u3 z3 U3 l3 hE;obtain ⟨G,mb,TA,tn,tc,TB,tm,td,ff,h4⟩:=H4.out;have T4:=iQ h4;obtain ⟨a0,a1,a2,a3',a4',a5,a6,a7,a8,a9⟩:=h4.box.cells;clear h4 a1 a2 a3' a4' a5 a6 a7 a8 a9;generalize Hm x.encK q x.encB=bs at *;go_wp2_with fail;refine (qJ3 w4 q (by omega) (by omega) A4 _ a4 bs x rfl U4.out Z4.out K3.out K2.out T4.out).mono ?_;rintro e5 w5 ⟨rfl,g5⟩;have HD:Hid (Ue W F w tb pb db (t.wr (pg,s) x) (.returned (.tuple #[.int .i64 q,.int .i64 0])) w5):=iQ (by
      rw [HR3.out];exact ⟨rfl,Yt.then_ M4.out g5⟩)
     clear HR3 g5 a0;go_wp2_with fail;refine bodyPost_ret (v := .tuple #[.int .i64 q,.int .i64 0]) (by simp [results,Tryz.results162,go_sem]) rfl ?_;exact HD.out
    ·have hr:=HR2.out
     rw [if_neg hE] at hr;have hb:(x.encE != 0)=true:=bne_iff_ne.2 hE;have HD:Hid (Ue W F w tb pb db (t.wr (pg,s) x) (.returned (.tuple #[.int .i64 0,.int .i64 121])) w3):=iQ (by
      rw [hr];exact ⟨rfl,_,H3.out,M3.out⟩)
     clear hr HR2 hE o3 u3 z3 U3 l3;generalize x.encE=er at *;go_wp2_with fail;refine bodyPost_ret (v := .tuple #[.int .i64 0,.int .i64 121]) (by simp [results,Tryz.results162,go_sem]) rfl ?_;exact HD.out
   ·have hb2:(r != 0)=true:=bne_iff_ne.2 he
    have hr:=HR1.out;rw [if_neg he] at hr;have HD:Hid (Ue W F w tb pb db (t.wr (pg,s) x) (.returned (.tuple #[.int .i64 0,.int .i64 r])) w2):=iQ (by
     rw [hr];exact ⟨rfl,F2,H2.out,M2.out⟩)
    clear he hr HR1 HF;go_wp2_with fail;refine bodyPost_ret (v := .tuple #[.int .i64 0,.int .i64 r]) (by simp [results,Tryz.results162,go_sem]) rfl ?_;exact HD.out
end
section
variable {W w w':World} {G F F':Nat->Prop}
theorem qr5 (w:World) (cs:Array Value) (ty:TypeId) (sz n:Nat) (h:cs.size=n*sz):Ln (w.alloc (.cells cs ty)) sz (some ⟨w.heap.size,0,none⟩) n n cs.toList:=by
 refine ⟨by simpa using h,wa2 _,fun e=>(by cases e),fun ad e j u hu=>?_⟩;obtain rfl:=wa0 e;rw [Zn,we6];exact (cell_of_row _ w.heap.size j _ _ _ (heap_alloc_new w _)).trans (by simpa using hu)
theorem GG (hF:∀ k,F k->k<w.heap.size) (cs:Array Value) (ty:TypeId) (sz n:Nat) (h:cs.size=n*sz):Xv (w.alloc (.cells cs ty)) F sz (some ⟨w.heap.size,0,none⟩) n n cs.toList :=
 ⟨qr5 w cs ty sz n h,fun _ ad e hk=>by
  obtain rfl:=wa0 e;exact absurd (hF _ hk) (Nat.lt_irrefl _)⟩
def qW5 (w:World) (F:Nat->Prop) (s:ND) (e:Ending) (w':World):Prop :=
 ∃ A n c l B m d,e = .returned (.tuple #[.slice A n c,.slice B m d])/\Ja w' F A n c l/\l.map NV.s=TS.partsN s/\Xv w' F 1 B m d (Qd (TS.partsK s))/\Below w.heap.size w w'
theorem DU (w:World) (lf:Bool) (A:Option Addr) (n c:Nat) (B:Option Addr) (m d:Nat) (C:Option Addr) (k e:Nat) (s:ND)
 (hs:UL w F A n c B m d C k e s) (hl:s.leaf=lf) (hz:s.size<=1000000) (ho:1000<s.size->s.ok=true) (hE:s.ents.sum<=100000000) (hF:∀ k,F k->k<w.heap.size) :
 Calls Tryz.prog 134 #[.agg #[.bool lf,.slice A n c,.slice B m d,.slice C k e]] w (qW5 w F s):=by
 have b0:=Qa w (.cells #[.bool lf,.slice A n c,.slice B m d,.slice C k e] 75);have HS:=iQ (hs.kept b0);have HB:=iQ (Qp w (.bool lf) (.slice A n c) (.slice B m d) (.slice C k e));have B0:=iQ b0;have HL:=iQ hl;have HO:=iQ ho;have HE:=iQ hE;have HFF:=iQ hF;clear hs b0 hl ho hE hF;go_enter Tryz.func134,Tryz.ntmps134;go_upto_region 1 with fail
 generalize w.alloc (.cells #[.bool lf,.slice A n c,.slice B m d,.slice C k e] 75)=w0 at *;obtain ⟨c0,c1,c2,c3⟩:=HB.out.cells;go_wp2_with fail;refine (ql3 lf A n c B m d C k e s w0 HS.out.nd (by omega)).mono ?_;rintro e1 w1 ⟨rfl,b1⟩;have B1:=iQ (B0.out.trans (b1.mono B0.out.size));have Xl:=iQ (HS.out.kept b1);have HB1:=iQ (HB.out.kept b1);have HF1:Hid (∀ k,F k->k<w1.heap.size):=iQ (fun k hk=>wa3 (HFF.out k hk) B1.out.size);clear b1 HS HB c0 c1 c2 c3;obtain ⟨c0,c1,c2,c3⟩:=HB1.out.cells;by_cases h1:s.size<=1000
 ·have hd:decide (s.size<=1000)=true:=decide_eq_true h1
  rw [hd];have HP:Hid (TS.partsN s=[s]/\TS.partsK s=[]):=iQ ⟨if_pos h1,if_pos h1⟩;have b2:=Qa w1 (.cells #[.bool lf,.slice A n c,.slice B m d,.slice C k e] 75);have LN:=iQ (GG (F:=F) HF1.out #[.bool lf,.slice A n c,.slice B m d,.slice C k e] 75 4 1 rfl);have B2:=iQ b2;clear hd h1 b2;go_wp2_with fail;refine bodyPost_ret (v := .tuple #[.slice (some ⟨w1.heap.size,0,none⟩) 1 1,.slice none 0 0]) (by simp [results,Tryz.results134,go_sem]) rfl ?_;refine ⟨_,_,_,[⟨A,n,c,B,m,d,C,k,e,s⟩],_,_,_,rfl,⟨?_,fun x hx=>?_⟩,by rw [HP.out.1];rfl,by rw [HP.out.2];exact Xv.none_ _ _ _,B1.out.trans (B2.out.mono B1.out.size)⟩
  ·have:=LN.out
   simpa [NV.cells,HL.out] using this
  ·rw [wa4.1 hx]
   exact Xl.out.kept B2.out
 ·have hd:decide (s.size<=1000)=false:=decide_eq_false h1
  rw [hd];have HP:Hid (TS.partsN s=[s.splitL,s.splitR]/\TS.partsK s=[s.splitK]):=iQ ⟨if_neg h1,if_neg h1⟩;have HOK:=iQ (HO.out (by omega));clear hd h1 HO;go_wp2_with fail;refine (qL8 lf A n c B m d C k e s w1 Xl.out.nd HL.out HOK.out hz HE.out).mono ?_;rintro e2 w2 ⟨v,u,rfl,hv,hu,b2⟩;obtain ⟨⟨A1,n1,c1',Kv,m1,d1,C1,k1,e1,s1⟩,rfl,hx1,hs1⟩:=qb9 hv HF1.out;obtain ⟨⟨A2,n2,c2',Um,m2,d2,C2,k2,e2,s2⟩,rfl,hx2,hs2⟩:=qb9 hu HF1.out;dsimp only at hs1 hs2;have UD:=iQ hx1;have JK:=iQ hx2;have HS1':=iQ hs1;have HS2':=iQ hs2;have B2'':=iQ (B1.out.trans (b2.mono B1.out.size));have HF2:Hid (∀ k,F k->k<w2.heap.size):=iQ (fun k hk=>wa3 (HF1.out k hk) b2.size);clear hv hu hx1 hx2 hs1 hs2 b2 c0 c1 c2 c3 HB1 Xl;unfold NV.val;dsimp only;generalize s.splitE=er;obtain ⟨sk,hsk⟩:∃ sk,tb s.splitK=sk:=⟨_,rfl⟩;rw [hsk];have HSK:=iQ hsk;clear hsk;generalize hl1:s1.leaf=lf1;generalize hl2:s2.leaf=lf2;have HL1:=iQ hl1;have HL2:=iQ hl2;clear hl1 hl2;obtain ⟨nb1,nb2,nb3⟩:=qi6 w2 (.bool lf1) (.slice A1 n1 c1') (.slice Kv m1 d1) (.slice C1 k1 e1) (.bool lf2) (.slice A2 n2 c2') (.slice Um m2 d2) (.slice C2 k2 e2);have N1:=iQ nb1;have N2:=iQ nb2;have N3:=iQ nb3;clear nb1 nb2 nb3;go_upto_region 4 with fail
  generalize (w2.alloc (.cells #[.bool lf1,.slice A1 n1 c1',.slice Kv m1 d1,.slice C1 k1 e1] 75)).alloc (.cells #[.bool lf2,.slice A2 n2 c2',.slice Um m2 d2,.slice C2 k2 e2] 75)=w3 at *;obtain ⟨x0,x1,x2,x3⟩:=N1.out.cells;obtain ⟨y0,y1,y2,y3⟩:=N2.out.cells;have HF3:Hid (∀ k,F k->k<w3.heap.size):=iQ (fun k hk=>wa3 (HF2.out k hk) N3.out.size);have b4:=Qa w3 (.cells #[.bool lf1,.slice A1 n1 c1',.slice Kv m1 d1,.slice C1 k1 e1,.bool lf2,.slice A2 n2 c2',.slice Um m2 d2,.slice C2 k2 e2] 75);have LN:=iQ (GG (F:=F) HF3.out #[.bool lf1,.slice A1 n1 c1',.slice Kv m1 d1,.slice C1 k1 e1,.bool lf2,.slice A2 n2 c2',.slice Um m2 d2,.slice C2 k2 e2] 75 4 2 rfl);have HF4:Hid (∀ k,F k->k<(w3.alloc (.cells #[.bool lf1,.slice A1 n1 c1',.slice Kv m1 d1,.slice C1 k1 e1,.bool lf2,.slice A2 n2 c2',.slice Um m2 d2,.slice C2 k2 e2] 75)).heap.size):=iQ (fun k hk=>wa3 (HF3.out k hk) b4.size);have B4:=iQ b4;clear b4;have LS:=iQ (GG (F:=F) HF4.out #[.string sk] 9 1 1 rfl);have B5:=iQ (Qa (w3.alloc (.cells #[.bool lf1,.slice A1 n1 c1',.slice Kv m1 d1,.slice C1 k1 e1,.bool lf2,.slice A2 n2 c2',.slice Um m2 d2,.slice C2 k2 e2] 75)) (.cells #[.string sk] 9));go_wp2_with fail;refine bodyPost_ret (v := .tuple #[.slice (some ⟨w3.heap.size,0,none⟩) 2 2,.slice (some ⟨w3.heap.size+1,0,none⟩) 1 1]) (by simp [results,Tryz.results134,go_sem]) rfl ?_;have BX:=N3.out.trans ((B4.out.trans (B5.out.mono B4.out.size)).mono N3.out.size);refine ⟨_,_,_,[⟨A1,n1,c1',Kv,m1,d1,C1,k1,e1,s1⟩,⟨A2,n2,c2',Um,m2,d2,C2,k2,e2,s2⟩],_,_,_,rfl,⟨?_,fun x hx=>?_⟩,?_,?_,B2''.out.trans (BX.mono B2''.out.size)⟩
  ·have:=LN.out.kept B5.out
   simpa [NV.cells,HL1.out,HL2.out] using this
  ·rcases wb6.1 hx with rfl | hx
   ·exact UD.out.kept BX
   ·rw [wa4.1 hx]
    exact JK.out.kept BX
  ·rw [HP.out.1,<- HS1'.out,<- HS2'.out]
   rfl
  ·rw [HP.out.2]
   have:=LS.out;rw [show (w3.alloc (.cells #[.bool lf1,.slice A1 n1 c1',.slice Kv m1 d1,.slice C1 k1 e1,.bool lf2,.slice A2 n2 c2',.slice Um m2 d2,.slice C2 k2 e2] 75)).heap.size=w3.heap.size+1 by simp] at this;unfold Qd;rw [List.map_singleton,HSK.out];exact this
end
namespace TS
theorem relAll_cons (t:TS) (l:Int×ND) (r:List (Int×ND)):t.relAll (l::r)=if (t.rel l.1).1=0 then (t.rel l.1).2.relAll r else t.rel l.1:=rfl
theorem wrAll_nil (t:TS) (old:List (Int×ND)):t.wrAll old []=(0,[],t):=by
 unfold wrAll;rfl
theorem wrAll_cons (t:TS) (old:List (Int×ND)) (n:ND) (ns:List ND):t.wrAll old (n::ns)=if (t.wr (first old) n).1=0 then
 (if (wrAll (t.wr (first old) n).2.2 old.tail ns).1=0 then (0,(t.wr (first old) n).2.1::(wrAll (t.wr (first old) n).2.2 old.tail ns).2.1,(wrAll (t.wr (first old) n).2.2 old.tail ns).2.2)
 else ((wrAll (t.wr (first old) n).2.2 old.tail ns).1,[],(wrAll (t.wr (first old) n).2.2 old.tail ns).2.2))
 else ((t.wr (first old) n).1,[],(t.wr (first old) n).2.2):=by
 conv=>lhs;unfold wrAll
theorem wrAll_err (t:TS) (old:List (Int×ND)) (ns:List ND) (h:(t.wrAll old ns).1≠0):(t.wrAll old ns).2.1=[]:=by
 cases ns with
 | nil=>rw [wrAll_nil]
 | cons n ns =>
   rw [wrAll_cons] at h ⊢;split
   ·rename_i e
    rw [if_pos e] at h;split
    ·rename_i e2
     rw [if_pos e2] at h;exact absurd rfl h
    ·rfl
   ·rfl
def more (xs:List Int) (q:Int×List Int×TS):Int×List Int×TS:=if q.1=0 then (0,xs++q.2.1,q.2.2) else (q.1,[],q.2.2)
theorem more_nil (t:TS) (old:List (Int×ND)) (ns:List ND):more [] (t.wrAll old ns)=t.wrAll old ns:=by
 unfold more;split
 ·rename_i e
  rw [we0,<- e]
 ·rename_i e
  have:=wrAll_err t old ns e;rcases hq:t.wrAll old ns with ⟨a,b,c⟩
  rw [hq] at this;dsimp only at this ⊢;rw [this]
theorem more_step {t:TS} {old:List (Int×ND)} {ns:List ND} {k:Nat} {n:ND} (xs:List Int) (hn:ns[k]?=some n) (h0:(t.wr (first (old.drop k)) n).1=0) :
 more xs (t.wrAll (old.drop k) (ns.drop k))=more (xs++[(t.wr (first (old.drop k)) n).2.1]) ((t.wr (first (old.drop k)) n).2.2.wrAll (old.drop (k+1)) (ns.drop (k+1))):=by
 obtain ⟨h1,h2⟩:=wa8.1 hn;rw [wc4 h1,h2,wrAll_cons,if_pos h0,List.tail_drop];generalize (t.wr (first (old.drop k)) n).2.2.wrAll (old.drop (k+1)) (ns.drop (k+1))=q
 unfold more;by_cases hq:q.1=0
 ·rw [if_pos hq,if_pos rfl,if_pos hq]
  simp
 ·rw [if_neg hq,if_neg hq,if_neg hq]
theorem more_bad {t:TS} {old:List (Int×ND)} {ns:List ND} {k:Nat} {n:ND} (xs:List Int) (hn:ns[k]?=some n) (h0:(t.wr (first (old.drop k)) n).1≠0) :
 more xs (t.wrAll (old.drop k) (ns.drop k))=((t.wr (first (old.drop k)) n).1,[],(t.wr (first (old.drop k)) n).2.2):=by
 obtain ⟨h1,h2⟩:=wa8.1 hn;rw [wc4 h1,h2,wrAll_cons,if_neg h0];unfold more;rw [if_neg h0]
theorem more_end (t:TS) (old:List (Int×ND)) {ns:List ND} {k:Nat} (xs:List Int) (hk:ns.length<=k):more xs (t.wrAll (old.drop k) (ns.drop k))=(0,xs,t):=by
 rw [wc6 hk,wrAll_nil];unfold more;rw [if_pos rfl,wc5]
theorem lay_eq (t:TS) (old:List (Int×ND)) (ns:List ND):t.lay old ns=if (t.relAll (old.drop ns.length)).1=0 then (t.relAll (old.drop ns.length)).2.wrAll old ns else ((t.relAll (old.drop ns.length)).1,[],(t.relAll (old.drop ns.length)).2):=rfl
end TS
section
variable {W w w':World} {G F F':Nat->Prop} {tb mb pb db:Nat} {A B:Option Addr} {n c m d:Nat} {f:Int->List UInt8} {t t':TS}
def XT (A:Option Addr) (c sz k:Nat):Option Addr:=if c=k then A else A.map (·.add (k*sz))
theorem qD9 {sz:Nat} {cs:List Value} (h:Xv w F sz A n c cs) (hs:0<sz) {k:Nat} (hk:k<=n):Xv w F sz (XT A c sz k) (n - k) (c - k) (cs.drop (k*sz)):=by
 have hle:=h.ln.le;have hlen:=h.ln.len;rcases A with _ | ad
 ·obtain ⟨rfl,rfl⟩:=h.ln.lies.1 rfl
  obtain rfl:k=0:=by omega
  have:cs=[]:=wb2 (by omega);subst this;simpa [XT] using Xv.none_ w F sz
 ·by_cases hn0:n=k
  ·subst hn0
   have e:cs.drop (n*sz)=[]:=wc6 (by omega);rw [e,wf1];refine ⟨⟨by simp,wb3 _,fun e=>?_,fun ad _ j u hu=>by simp at hu⟩,fun h0=>absurd h0 (by omega)⟩;unfold XT at e;split at e<;>simp at e
  ·have hc:¬ c=k:=by omega
   obtain ⟨b,off,e,_⟩:=h.ln.spot (by rw [hlen];exact Nat.mul_pos (by omega) hs);obtain rfl:=wa0 e;have:=h.ln.drop hk;unfold XT;rw [if_neg hc,Option.map_some,Zn];refine ⟨this,fun _ ad e=>?_⟩;obtain rfl:=wa0 e;exact h.out (by omega) ⟨b,off,none⟩ rfl
theorem sz_L:∀ w,(sizeOf (Tryz.prog.elem 218)).run Tryz.prog w = .ok 5 w:=fun w=>by kernel_rfl
theorem zl9 {n c k:Nat} (A:Option Addr) (hk:k<=n) (w:World):(Instr.slice 218 (.slice A n c) (some (.int .i64 (k:Int))) none none).run Tryz.prog w = .ok (.slice (XT A c 5 k) (n - k) (c - k)) w:=by
 rw [run_slice_l (P:=Tryz.prog) (w:=w) 218 A n c Tryz.underlying218 .i64 (k:Int) (by omega) (by omega),sz_L];simp [Result.andThen,sliced,XT]
theorem BM {α:Type} {g:α->List Value} {sz:Nat} (hg:∀ x,(g x).length=sz):∀ (l:List α) (k:Nat),(l.flatMap g).drop (k*sz)=(l.drop k).flatMap g
 | [],k=>by simp
 | x::l,0=>by simp
 | x::l,k+1=>by
   rw [List.flatMap_cons,List.drop_succ_cons,<- BM hg l k,Nat.succ_mul,Nat.add_comm,<- List.drop_drop,List.drop_left' (hg x)]
theorem ZZ.drop {l:List LV} (h:ZZ w F A n c l) {k:Nat} (hk:k<=n):ZZ w F (XT A c 5 k) (n - k) (c - k) (l.drop k) :=
 ⟨by have:=qD9 h.ln (by omega) hk;rwa [BM LV.clen] at this,fun x hx=>h.ok x (wf5 hx)⟩
theorem Zb {base sz k:Nat} {e:TypeId} {v:Value} {xs:List Value} (h:w.ownsRow base e sz v k xs) (f:∀ g,v.ownBlock=some g->w'.heap[g]?=w.heap[g]?):w'.ownsRow base e sz v k xs:=by
 obtain ⟨h1,h2⟩:=h;refine ⟨h1,?_⟩;rcases h2 with h2 | ⟨g,cap,cur,hv,hg,hh,r⟩
 ·exact Or.inl h2
 ·exact Or.inr ⟨g,cap,cur,hv,hg,by rw [f g (by rw [hv];rfl)];exact hh,r⟩
theorem Ql.grown {row:Option Nat} (h:Ql W F w tb pb db t) (hg:w.grownBy w' row) (hr:∀ g,row=some g->¬ F g/\W.heap.size<=g):Ql W F w' tb pb db t:=by
 obtain ⟨G,mb,A,n,c,B,m,d,f,h⟩:=h;have hk:∀ k,k<w.heap.size->F k->w'.heap[k]?=w.heap[k]?:=fun k hk hF=>hg.block k hk (fun e=>(hr k e.symm).1 hF);have hb:Below W.heap.size W w':=h.below.grown hg h.below.size (fun g e=>(hr g e).2);refine ⟨G,mb,A,n,c,B,m,d,f,?_,h.nds,h.box.same (fun k ho=>hk k (h.box.own_lt ho) ((h.hF k).2 (Or.inr ho))),h.hF,h.apart,h.base,hb⟩;exact h.pool.other (H:=fun k=>row=some k) (G':=fun _=>False) ⟨⟨hg.os,hg.tape,hg.output,hg.size,fun k h1 h2=>hg.block k h1 (fun e=>h2 e.symm)⟩,fun _ e=>e.elim⟩ (fun k hG e=>(hr k e).1 ((h.hF k).2 (Or.inl hG))) hb
theorem Qb.grown {w0:World} {F0:Nat->Prop} {row:Option Nat} (h:Qb w0 F0 w F) (hg:w.grownBy w' row) (hr:∀ g,row=some g->w0.heap.size<=g):Qb w0 F0 w' F :=
 ⟨⟨hg.os.trans h.kept.os,hg.tape.trans h.kept.tape,hg.output.trans h.kept.output,wa9 h.kept.size hg.size,fun k h1 h2=>(hg.block k (wa3 h1 h.kept.size) (fun e=>by have:=hr k e.symm;omega)).trans (h.kept.block k h1 h2)⟩,h.news⟩
structure XC (b:Nat) (w:World) (F:Nat->Prop) (v:Value) (xs:List Int):Prop where
 own:w.ownsRow b 3 1 v xs.length (Qc xs)
 out:∀ g,v.ownBlock=some g->¬ F g
theorem XC.mo {b:Nat} {v:Value} {xs:List Int} (h:XC b w F v xs) (m:Qb w F w' F'):XC b w' F' v xs :=
 ⟨Zb h.own (fun g e=>m.kept.block g (h.own.lt g e).2 (h.out g e)),fun g e=>m.not (h.own.lt g e).2 (h.out g e)⟩
theorem XC.kept {b:Nat} {v:Value} {xs:List Int} (h:XC b w F v xs) (hb:Below w.heap.size w w'):XC b w' F v xs :=
 ⟨Zb h.own (fun g e=>hb.block g (h.own.lt g e).2),h.out⟩
theorem XC.ln {b:Nat} {v:Value} {xs:List Int} (h:XC b w F v xs):∃ A c,v = .slice A xs.length c/\Xv w F 1 A xs.length c (Qc xs):=by
 obtain ⟨A,c,e,_,h1⟩:=Ln.oo h.own;subst e;refine ⟨A,c,rfl,h1,fun hn ad e=>h.out ad.block ?_⟩;rcases h.own.2 with ⟨e1,e2⟩ | ⟨g,cap,cur,e1,_⟩
 ·omega
 ·injection e1 with e1 e2 e3
  rw [e1] at e;injection e with e
  subst e;rw [e1];rfl
def zg3 (W:World) (F:Nat->Prop) (w:World) (tb pb db:Nat) (r:Int×List Int×TS) (e:Ending) (w':World):Prop :=
 ∃ A k c F',e = .returned (.tuple #[.slice A k c,.int .i64 r.1])/\Xv w' F' 1 A k c (Qc r.2.1)/\Ql W F' w' tb pb db r.2.2/\Qb w F w' F'
def zo1 (W:World) (F:Nat->Prop) (w:World) (tb pb db:Nat) (t:TS) (old:List (Int×ND)) (k:Nat) (wr:World):Prop :=
 ∃ tk Fk,Ql W Fk wr tb pb db tk/\Qb w F wr Fk/\t.relAll old=tk.relAll (old.drop k)
def zo0 (W:World) (F:Nat->Prop) (w:World) (tb pb db:Nat) (r:Int×List Int×TS) (old:List (Int×ND)) (ns:List ND) (k:Nat) (v:Value) (wr:World):Prop :=
 ∃ tk Fk xs,Ql W Fk wr tb pb db tk/\Qb w F wr Fk/\XC w.heap.size wr Fk v xs/\xs.length=k/\r=TS.more xs (tk.wrAll (old.drop k) (ns.drop k))
end
section
variable {W w w':World} {G F F':Nat->Prop} {tb mb pb db:Nat} {A B C:Option Addr} {n c m d k e:Nat} {f:Int->List UInt8} {t t':TS}
theorem UL.but {q:Nat} {b:Bool} {A1 A2 A3:Option Addr} {n1 n2 n3 c1 c2 c3:Nat} {s:ND} (g:UL w F A n c B m d C k e s) (h:Qs w q (.bool b) (.slice A1 n1 c1) (.slice A2 n2 c2) (.slice A3 n3 c3)) (hb:Yq q w w'):UL w' F A n c B m d C k e s :=
 ⟨⟨g.ke.ln.sB h hb,g.ke.out⟩,⟨g.va.ln.sB h hb,g.va.out⟩,⟨g.ki.ln.intBut h hb,g.ki.out⟩⟩
theorem NV.ok.but {q:Nat} {b:Bool} {A1 A2 A3:Option Addr} {n1 n2 n3 c1 c2 c3:Nat} {x:NV} (g:x.ok w F) (h:Qs w q (.bool b) (.slice A1 n1 c1) (.slice A2 n2 c2) (.slice A3 n3 c3)) (hb:Yq q w w'):x.ok w' F:=UL.but g h hb
theorem qs4 (w:World) (r:Nat) (x y z p:Value):w.grownBy ((((w.setCell ⟨r,0,none⟩ x).setCell ⟨r,1,none⟩ y).setCell ⟨r,2,none⟩ z).setCell ⟨r,3,none⟩ p) (some r) :=
 ⟨rfl,rfl,rfl,by simp [World.setCell],fun k _ hne=>(Yq.put w r x y z p).2 k (fun e=>hne (by rw [e]))⟩
def NV.hi (x:NV) (b:Nat):Prop:=Yp b x.A/\Yp b x.B/\Yp b x.C
theorem NV.hi.low {x:NV} {b b':Nat} (h:x.hi b) (hb:b'<=b):x.hi b':=⟨h.1.low hb,h.2.1.low hb,h.2.2.low hb⟩
theorem NV.hi_zero (b:Nat):NV.zero.hi b:=⟨Yp.none_ _,Yp.none_ _,Yp.none_ _⟩
theorem qc0 {base:Nat} {v:Value} {s:ND} (h:Ha w base v s) (hF:∀ k,F k->k<base):∃ x:NV,v=x.val/\x.ok w F/\x.s=s/\x.hi base:=by
 obtain ⟨A,n,c,B,m,d,C,k,e,rfl,h,h1,h2,h3⟩:=h;exact ⟨⟨A,n,c,B,m,d,C,k,e,s⟩,rfl,⟨Xv.of_hi h.ke h1 hF,Xv.of_hi h.va h2 hF,Xv.of_hi h.ki h3 hF⟩,rfl,h1,h2,h3⟩
def qz4 (W:World) (F:Nat->Prop) (w:World) (tb pb db:Nat) (s:ND) (r:Int) (t:TS) (e:Ending) (w':World):Prop :=
 ∃ x F',e = .returned (.tuple #[NV.val x,.int .i64 r])/\x.ok w' F'/\x.s=s/\x.hi w.heap.size/\Ql W F' w' tb pb db t/\Qb w F w' F'
theorem JP {w0 w1:World} {r:Nat} {s:ND} {er:Int} {x:NV} (h:Ql W F w1 tb pb db t) (hm:Qb w F' w1 F) (hW:W.heap.size<=w.heap.size) (hr:w.heap.size<=r) (hF:¬ F r) (hb:Qs w1 r (.bool false) (.slice none 0 0) (.slice none 0 0) (.slice none 0 0)) (hx:x.ok w1 F) (hs:x.s=s) (hh:x.hi w.heap.size) (hw:w1=w0) :
 qz4 W F' w tb pb db s er t (.returned (.tuple #[x.val,.int .i64 er])) ((((w0.setCell ⟨r,0,none⟩ (.bool x.s.leaf)).setCell ⟨r,1,none⟩ (.slice x.A x.n x.c)).setCell ⟨r,2,none⟩ (.slice x.B x.m x.d)).setCell ⟨r,3,none⟩ (.slice x.C x.k x.e)) /\
 Qs ((((w0.setCell ⟨r,0,none⟩ (.bool x.s.leaf)).setCell ⟨r,1,none⟩ (.slice x.A x.n x.c)).setCell ⟨r,2,none⟩ (.slice x.B x.m x.d)).setCell ⟨r,3,none⟩ (.slice x.C x.k x.e)) r (.bool x.s.leaf) (.slice x.A x.n x.c) (.slice x.B x.m x.d) (.slice x.C x.k x.e):=by
 subst hw;have hg:=qs4 w1 r (.bool x.s.leaf) (.slice x.A x.n x.c) (.slice x.B x.m x.d) (.slice x.C x.k x.e);refine ⟨⟨x,F,rfl,hx.but hb (Yq.put _ r _ _ _ _),hs,hh,?_,hm.grown hg (fun g e=>by
  obtain rfl:=wa0 e;exact hr)⟩,hb.put _ _ _ _⟩
 exact h.grown hg (fun g e=>by
  obtain rfl:=wa0 e;exact ⟨hF,wa9 hW hr⟩)
theorem Ko.ndsI {tb mb pb db:Nat} {A B:Option Addr} {n c m d:Nat} {f:Int->List UInt8} (h:Ko W G F w tb mb pb db A n c B m d f t) (p:Int) (h0:0<=p) (h1:p<t.z):rdN p (f p)=t.nd p:=by
 have:=h.nds p.toNat (by omega) (by omega);rwa [show ((p.toNat:Nat):Int)=p by omega] at this
theorem TD {w1:World} {r:Nat} {er:Int} (h:Ql W F w1 tb pb db t) (hm:Qb w F' w1 F) (hW:W.heap.size<=w.heap.size) (hr:w.heap.size<=r) (hF:¬ F r) (hb:Qs w1 r (.bool false) (.slice none 0 0) (.slice none 0 0) (.slice none 0 0)) :
 qz4 W F' w tb pb db ND.zero er t (.returned (.tuple #[.agg #[.bool false,.slice none 0 0,.slice none 0 0,.slice none 0 0],.int .i64 er])) ((((w1.setCell ⟨r,0,none⟩ (.bool false)).setCell ⟨r,1,none⟩ (.slice none 0 0)).setCell ⟨r,2,none⟩ (.slice none 0 0)).setCell ⟨r,3,none⟩ (.slice none 0 0)) /\
 Qs ((((w1.setCell ⟨r,0,none⟩ (.bool false)).setCell ⟨r,1,none⟩ (.slice none 0 0)).setCell ⟨r,2,none⟩ (.slice none 0 0)).setCell ⟨r,3,none⟩ (.slice none 0 0)) r (.bool false) (.slice none 0 0) (.slice none 0 0) (.slice none 0 0) :=
 JP (x:=NV.zero) (s:=ND.zero) h hm hW hr hF hb (NV.zero_ok _ _) rfl (NV.hi_zero _) rfl
def Jz (t:TS) (p:Int):Int:=if (t.nd p).isSome then 0 else 121
def Uu (t:TS) (p:Int):ND:=(t.nd p).getD ND.zero
theorem TF (w:World) (p:Int) (h0:0<=p) (h1:p<t.z) (h:Ql W F w tb pb db t) :
 Calls Tryz.prog 142 #[.pointer (some ⟨tb,0,none⟩),.int .i64 p] w (qz4 W F w tb pb db (Uu t p) (Jz t p) t):=by
 obtain ⟨G,mb,TA,tn,tc,TB,tm,td,ff,h⟩:=h;have b0:=Qa w (.cells #[.bool false,.slice none 0 0,.slice none 0 0,.slice none 0 0] 75);have H:=iQ (h.kept b0);have B0:=iQ b0;have HR:=iQ (Qp w (.bool false) (.slice none 0 0) (.slice none 0 0) (.slice none 0 0));have NF:Hid (¬ F w.heap.size):=iQ (h.tree.new (wa2 _));have HW:=iQ h.below.size;have HN:=iQ (h.ndsI p h0 h1);obtain ⟨a0,a1,a2,a3,a4,a5,a6,a7,a8,a9⟩:=(h.kept b0).box.cells;clear h b0 a1 a2 a3 a4 a5 a6 a7 a8 a9;go_enter Tryz.func142,Tryz.ntmps142;go_upto_region 1 with fail
 generalize w.alloc (.cells #[.bool false,.slice none 0 0,.slice none 0 0,.slice none 0 0] 75)=w0 at *;go_wp2_with fail;refine (qK1 w0 p h0 h1 H.out).mono ?_;rintro e1 w1 ⟨A1,c1,G1,F1,mb1,TA1,tn1,tc1,TB1,tm1,td1,rfl,o1,hlen,h1',m1⟩;have H1:=iQ h1'.tree;have M1:=iQ ((Qb.ob B0.out).trans m1);have HR1:=iQ (HR.out.mo m1 NF.out);have FZ:=iQ (m1.not HR.out.lt NF.out);obtain ⟨A1',c1',ev,_,hnc5,_,r1⟩:=Xc.oo o1;injection ev with e1 e2 e3
 subst e1 e3;have hc1:(ff p).length<=c1:=hnc5;have BY:=iQ r1;clear o1 h1' m1 r1 a0 H HR NF;generalize ff p=bs at *;go_wp2_with fail;refine (qY9 (R:=w1.heap.size) p A1 bs.length c1 bs w1 rfl BY.out hc1 (by omega)).mono ?_;rintro e2 w2 ⟨v2,rfl,o2,b2⟩;have H2:=iQ (H1.out.kept b2);have M2:=iQ (M1.out.trans (Qb.ob b2));have HR2:=iQ (HR1.out.kept b2);clear b2 H1 M1 HR1 BY;obtain ⟨f0,f1,f2,f3⟩:=HR2.out.free;obtain ⟨x0,x1,x2,x3⟩:=HR2.out.cells;by_cases hf:IsF p bs
 ·have hrd:rdN p bs=ND.dec (GH bs) (UX bs):=if_pos hf
  have HN2:Hid (ND.dec (GH bs) (UX bs)=t.nd p):=iQ (by rw [<- hrd];exact HN.out);rw [qI7,if_pos hf] at o2;rw [qA5,qA6,if_pos hf,if_pos hf];obtain ⟨A2,c2,rfl,_,hc2',hc2,r2⟩:=Xc.oo o2;have BY2:=iQ r2;clear o2 r2 hf hrd HN;generalize UX bs=db2 at *;generalize GH bs=kk at *;go_wp2_with fail;refine (qi5 (R:=w2.heap.size) kk A2 db2.length c2 db2 w2 rfl BY2.out hc2' hc2).mono ?_;rintro e3 w3 ⟨v3,rfl,hv,b3⟩;obtain ⟨y,rfl,hy,hys,hyh⟩:=qc0 hv H2.out.lt;have HYH:=iQ (hyh.low M2.out.kept.size);clear hyh;obtain ⟨yA,yn,yc,yB,ym,yd,yC,yk,ye,ys⟩:=y;have HY:=iQ hy;have HYS:=iQ hys;have H3:=iQ (H2.out.kept b3);have M3:=iQ (M2.out.trans (Qb.ob b3));have HR3:=iQ (HR2.out.kept b3);clear hv hy hys b3 H2 M2 HR2 BY2 f0 f1 f2 f3 x0 x1 x2 x3;unfold NV.val;dsimp only;cases hd:ND.dec kk db2 with
  | none =>
    have he:ND.decE kk db2=100:=(ND.dec_none hd).1;rw [he];have MF:Hid (Jz t p=121/\Uu t p=ND.zero):=iQ (by
     unfold Jz Uu;rw [<- HN2.out,hd];exact ⟨rfl,rfl⟩)
    have b4:=Qa w3 (.cells #[.bool ys.leaf,.slice yA yn yc,.slice yB ym yd,.slice yC yk ye] 75);have HP:=TD (er:=121) (H3.out.kept b4) (M3.out.trans (Qb.ob b4)) HW.out (wa2 _) FZ.out (HR3.out.kept b4);have YT:=iQ HP.1;obtain ⟨z0,z1,z2,z3⟩:=HP.2.cells;obtain ⟨f0,f1,f2,f3⟩:=(HR3.out.kept b4).free;obtain ⟨x0,x1,x2,x3⟩:=(HR3.out.kept b4).cells;clear HP b4 hd he HN2 HR3 H3 M3;go_wp2_with fail;refine bodyPost_ret (v := .tuple #[.agg #[.bool false,.slice none 0 0,.slice none 0 0,.slice none 0 0],.int .i64 121]) (by simp [results,Tryz.results142,go_sem,z0,z1,z2,z3]) rfl ?_;rw [MF.out.1,MF.out.2];exact YT.out
  | some s =>
    have he:ND.decE kk db2=0:=(ND.dec_some hd).1;have HSS:Hid (ys=s):=iQ (HYS.out.trans (ND.dec_some hd).2);rw [he];have MF:Hid (Jz t p=0/\Uu t p=s):=iQ (by
     unfold Jz Uu;rw [<- HN2.out,hd];exact ⟨rfl,rfl⟩)
    have b4:=Qa w3 (.cells #[.bool ys.leaf,.slice yA yn yc,.slice yB ym yd,.slice yC yk ye] 75);have HP:=JP (x:=⟨yA,yn,yc,yB,ym,yd,yC,yk,ye,ys⟩) (s:=s) (er:=0) (H3.out.kept b4) (M3.out.trans (Qb.ob b4)) HW.out (wa2 _) FZ.out (HR3.out.kept b4) (HY.out.kept b4) HSS.out HYH.out rfl;have YT:=iQ HP.1;obtain ⟨z0,z1,z2,z3⟩:=HP.2.cells;obtain ⟨f0,f1,f2,f3⟩:=(HR3.out.kept b4).free;obtain ⟨x0,x1,x2,x3⟩:=(HR3.out.kept b4).cells;clear HP b4 hd he HN2 HR3 H3 M3;dsimp only at z0 z1 z2 z3 YT;go_wp2_with fail;refine bodyPost_ret (v := .tuple #[.agg #[.bool ys.leaf,.slice yA yn yc,.slice yB ym yd,.slice yC yk ye],.int .i64 0]) (by simp [results,Tryz.results142,go_sem,z0,z1,z2,z3]) rfl ?_;rw [MF.out.1,MF.out.2];exact YT.out
 ·have hrd:rdN p bs=none:=if_neg hf
  have MF:Hid (Jz t p=121/\Uu t p=ND.zero):=iQ (by
   unfold Jz Uu;rw [<- HN.out,hrd];exact ⟨rfl,rfl⟩)
  rw [qA5,qA6,if_neg hf,if_neg hf];have HP:=TD (er:=121) H2.out M2.out HW.out (wa2 _) FZ.out HR2.out;have YT:=iQ HP.1;obtain ⟨z0,z1,z2,z3⟩:=HP.2.cells;clear HP hf hrd HN H2 M2 HR2 o2;go_wp2_with fail;refine bodyPost_ret (v := .tuple #[.agg #[.bool false,.slice none 0 0,.slice none 0 0,.slice none 0 0],.int .i64 121]) (by simp [results,Tryz.results142,go_sem,z0,z1,z2,z3]) rfl ?_;rw [MF.out.1,MF.out.2];exact YT.out
end
section
variable {W w w':World} {G F F':Nat->Prop} {tb mb pb db:Nat} {t t':TS}
def Vx (t:TS) (p:Int) (leaf:Bool):Int:=if (TS.nodeAt t.nd p leaf).isSome then 0 else 121
def Uw (t:TS) (p:Int) (leaf:Bool):Int×ND:=match TS.nodeAt t.nd p leaf with
 | some n=>(p,n)
 | none=>(0,ND.zero)
def TLv (W:World) (F:Nat->Prop) (w:World) (tb pb db:Nat) (l:Int×ND) (r:Int) (t:TS) (e:Ending) (w':World):Prop :=
 ∃ x F',e = .returned (.tuple #[LV.val x,.int .i64 r])/\x.x.ok w' F'/\x.at_=l/\x.x.hi w.heap.size/\Ql W F' w' tb pb db t/\Qb w F w' F'
theorem Xy.put {g:Nat} {q x y z p:Value} (h:Xy w g q x y z p) (q' x' y' z' p':Value):Xy (((((w.setCell ⟨g,0,none⟩ q').setCell ⟨g,1,none⟩ x').setCell ⟨g,2,none⟩ y').setCell ⟨g,3,none⟩ z').setCell ⟨g,4,none⟩ p') g q' x' y' z' p':=by
 have e0:=Joins.block_setCell (i:=0) h q';have e1:=Joins.block_setCell (i:=1) e0 x';have e2:=Joins.block_setCell (i:=2) e1 y';have e3:=Joins.block_setCell (i:=3) e2 z';exact Joins.block_setCell (i:=4) e3 p'
theorem Qu {r:Nat} (h:w.grownBy w' (some r)) (j:Nat) (u:Value):w.grownBy (w'.setCell ⟨r,j,none⟩ u) (some r) :=
 ⟨h.os,h.tape,h.output,by simpa [World.setCell] using h.size,fun k hk hne=>(Below.heap_setCell _ _ _ _ (fun e=>hne (by rw [e]))).trans (h.block k hk hne)⟩
theorem Gv (w:World) (r:Nat) (q x y z p:Value):w.grownBy (((((w.setCell ⟨r,0,none⟩ q).setCell ⟨r,1,none⟩ x).setCell ⟨r,2,none⟩ y).setCell ⟨r,3,none⟩ z).setCell ⟨r,4,none⟩ p) (some r) :=
 Qu (Qu (Qu (Qu (Qu (World.grownBy.refl w (some r)) 0 q) 1 x) 2 y) 3 z) 4 p
theorem NV.ok.grown {x:NV} {r b:Nat} (h:x.ok w F) (hh:x.hi b) (hb:r<b) (hg:w.grownBy w' (some r)):x.ok w' F:=by
 have mv:∀ {A:Option Addr} {n c:Nat} {cs:List Value},Xv w F 1 A n c cs->Yp b A->Xv w' F 1 A n c cs:=fun {A n c cs} h1 h2 =>
  ⟨h1.ln.mq (by omega) (fun hn ad e=>hg.block _ (h1.ln.lt (by omega) e) (fun e2=>by
   have h3:=h2 ad e;have h4:=wa0 e2;omega)),h1.out⟩
 exact ⟨mv h.ke hh.1,mv h.va hh.2.1,mv h.ki hh.2.2⟩
theorem qa9 {w1:World} {r:Nat} {l:Int×ND} {er:Int} {x:LV} (h:Ql W F w1 tb pb db t) (hm:Qb w F' w1 F) (hW:W.heap.size<=w.heap.size) (hr:w.heap.size<=r) (hF:¬ F r) (hb:Xy w1 r (.int .i64 0) (.bool false) (.slice none 0 0) (.slice none 0 0) (.slice none 0 0)) (hx:x.x.ok w1 F) (hs:x.at_=l) (hh:x.x.hi (r+1)) :
 TLv W F' w tb pb db l er t (.returned (.tuple #[x.val,.int .i64 er])) (((((w1.setCell ⟨r,0,none⟩ (.int .i64 x.pg)).setCell ⟨r,1,none⟩ (.bool x.x.s.leaf)).setCell ⟨r,2,none⟩ (.slice x.x.A x.x.n x.x.c)).setCell ⟨r,3,none⟩ (.slice x.x.B x.x.m x.x.d)).setCell ⟨r,4,none⟩ (.slice x.x.C x.x.k x.x.e)) /\
 Xy (((((w1.setCell ⟨r,0,none⟩ (.int .i64 x.pg)).setCell ⟨r,1,none⟩ (.bool x.x.s.leaf)).setCell ⟨r,2,none⟩ (.slice x.x.A x.x.n x.x.c)).setCell ⟨r,3,none⟩ (.slice x.x.B x.x.m x.x.d)).setCell ⟨r,4,none⟩ (.slice x.x.C x.x.k x.x.e)) r (.int .i64 x.pg) (.bool x.x.s.leaf) (.slice x.x.A x.x.n x.x.c) (.slice x.x.B x.x.m x.x.d) (.slice x.x.C x.x.k x.x.e):=by
 have hg:=Gv w1 r (.int .i64 x.pg) (.bool x.x.s.leaf) (.slice x.x.A x.x.n x.x.c) (.slice x.x.B x.x.m x.x.d) (.slice x.x.C x.x.k x.x.e);refine ⟨⟨x,F,rfl,hx.grown hh (Nat.lt_succ_self r) hg,hs,hh.low (by omega),?_,hm.grown hg (fun g e=>by
  obtain rfl:=wa0 e;exact hr)⟩,hb.put _ _ _ _ _⟩
 exact h.grown hg (fun g e=>by
  obtain rfl:=wa0 e;exact ⟨hF,wa9 hW hr⟩)
theorem qK0 {w1:World} {r:Nat} {er:Int} (h:Ql W F w1 tb pb db t) (hm:Qb w F' w1 F) (hW:W.heap.size<=w.heap.size) (hr:w.heap.size<=r) (hF:¬ F r) (hb:Xy w1 r (.int .i64 0) (.bool false) (.slice none 0 0) (.slice none 0 0) (.slice none 0 0)) :
 TLv W F' w tb pb db (0,ND.zero) er t (.returned (.tuple #[.agg #[.int .i64 0,.bool false,.slice none 0 0,.slice none 0 0,.slice none 0 0],.int .i64 er])) (((((w1.setCell ⟨r,0,none⟩ (.int .i64 0)).setCell ⟨r,1,none⟩ (.bool false)).setCell ⟨r,2,none⟩ (.slice none 0 0)).setCell ⟨r,3,none⟩ (.slice none 0 0)).setCell ⟨r,4,none⟩ (.slice none 0 0)) /\
 Xy (((((w1.setCell ⟨r,0,none⟩ (.int .i64 0)).setCell ⟨r,1,none⟩ (.bool false)).setCell ⟨r,2,none⟩ (.slice none 0 0)).setCell ⟨r,3,none⟩ (.slice none 0 0)).setCell ⟨r,4,none⟩ (.slice none 0 0)) r (.int .i64 0) (.bool false) (.slice none 0 0) (.slice none 0 0) (.slice none 0 0) :=
 qa9 (x:=LV.zero) h hm hW hr hF hb (NV.zero_ok _ _) rfl (NV.hi_zero _)
theorem ZM (w:World) (p:Int) (leaf:Bool) (h0:0<=p) (h1:p<t.z) (h:Ql W F w tb pb db t) :
 Calls Tryz.prog 129 #[.pointer (some ⟨tb,0,none⟩),.int .i64 p,.bool leaf] w (TLv W F w tb pb db (Uw t p leaf) (Vx t p leaf) t):=by
 have b0:=Qa w (.cells #[.int .i64 0,.bool false,.slice none 0 0,.slice none 0 0,.slice none 0 0] 171);have H:=iQ (h.kept b0);have B0:=iQ b0;have HR:=iQ (Xw w (.int .i64 0) (.bool false) (.slice none 0 0) (.slice none 0 0) (.slice none 0 0));have NF:Hid (¬ F w.heap.size):=iQ (h.new (wa2 _));have HW:=iQ h.below.size;have hsz:(w.alloc (.cells #[.int .i64 0,.bool false,.slice none 0 0,.slice none 0 0,.slice none 0 0] 171)).heap.size=w.heap.size+1:=by simp
 have HSZ:=iQ hsz;clear h b0 hsz;go_enter Tryz.func129,Tryz.ntmps129;go_upto_region 1 with fail
 generalize w.alloc (.cells #[.int .i64 0,.bool false,.slice none 0 0,.slice none 0 0,.slice none 0 0] 171)=w0 at *;go_wp2_with fail;refine (TF w0 p h0 h1 H.out).mono ?_;rintro e1 w1 ⟨x,F1,rfl,hx,hxs,hxh,h1',m1⟩;obtain ⟨xA,xn,xc,xB,xm,xd,xC,xk,xe,xs⟩:=x;have HX:=iQ hx;have HXS:=iQ hxs;have HXH:=iQ hxh;have H1:=iQ h1';have M1:=iQ ((Qb.ob B0.out).trans m1);have HR1:=iQ (HR.out.mo m1 NF.out);have FZ:=iQ (m1.not HR.out.lt NF.out);clear hx hxs hxh h1' m1 H HR NF B0;unfold NV.val;dsimp only;have b2:=Qa w1 (.cells #[.bool xs.leaf,.slice xA xn xc,.slice xB xm xd,.slice xC xk xe] 75);have H2:=iQ (H1.out.kept b2);have M2:=iQ (M1.out.trans (Qb.ob b2));have HR2:=iQ (HR1.out.kept b2);have JK:=iQ (HX.out.kept b2);have NB:=iQ (Qp w1 (.bool xs.leaf) (.slice xA xn xc) (.slice xB xm xd) (.slice xC xk xe));clear b2 H1 M1 HR1 HX
 -- no node of that kind
 have bad:∀ (o:TS.nodeAt t.nd p leaf=none),Vx t p leaf=121/\Uw t p leaf=(0,ND.zero):=fun o=>by
  unfold Vx Uw;rw [o];exact ⟨rfl,rfl⟩
 have HP:=qK0 (er:=121) H2.out M2.out HW.out (wa2 _) FZ.out HR2.out;have YT:=iQ HP.1;have HPC:=iQ HP.2.cells;have BAD:=iQ bad;clear HP bad;generalize hxl:xs.leaf=xl at *;have HXL:=iQ hxl;clear hxl;go_upto_region 2 with fail
 generalize w1.alloc (.cells #[.bool xl,.slice xA xn xc,.slice xB xm xd,.slice xC xk xe] 75)=w2 at *;cases hd:t.nd p with
 | none =>
   have he:Jz t p=121:=by unfold Jz;rw [hd];rfl
   have HBD:=iQ (BAD.out (by unfold TS.nodeAt;rw [hd]));rw [he];obtain ⟨z0,z1,z2,z3,z4⟩:=HPC.out;obtain ⟨x0,x1,x2,x3,x4⟩:=HR2.out.cells;have f:=HR2.out.free;have f0:=f 0;have f1:=f 1;have f2:=f 2;have f3:=f 3;have f4:=f 4;clear f hd he;go_wp2_with fail;refine bodyPost_ret (v := .tuple #[.agg #[.int .i64 0,.bool false,.slice none 0 0,.slice none 0 0,.slice none 0 0],.int .i64 121]) (by simp [results,Tryz.results129,go_sem,z0,z1,z2,z3,z4]) rfl ?_;rw [HBD.out.1,HBD.out.2];exact YT.out
 | some s =>
   have he:Jz t p=0:=by unfold Jz;rw [hd];rfl
   have hs:xs=s:=by rw [show xs=Uu t p from HXS.out];unfold Uu;rw [hd];rfl
   rw [he];cases xl with
   | true =>
     cases leaf with
     | true =>
       have hl:s.leaf=true:=by rw [<- hs];exact HXL.out
       have HG:Hid (Vx t p true=0/\Uw t p true=(p,s)):=iQ (by
        have e:TS.nodeAt t.nd p true=some s:=by
         unfold TS.nodeAt;rw [hd];exact if_pos hl
        unfold Vx Uw;rw [e];exact ⟨rfl,rfl⟩)
       have HP:=qa9 (x:=⟨p,⟨xA,xn,xc,xB,xm,xd,xC,xk,xe,xs⟩⟩) (l:=(p,s)) (er:=0) H2.out M2.out HW.out (wa2 _) FZ.out HR2.out JK.out (by rw [<- hs];rfl) (HXH.out.low (by rw [HSZ.out];exact wa2 _));have HP3:=iQ HP.1;obtain ⟨z0,z1,z2,z3,z4⟩:=HP.2.cells;obtain ⟨x0,x1,x2,x3,x4⟩:=HR2.out.cells;obtain ⟨n0,n1,n2,n3⟩:=NB.out.cells;have f:=HR2.out.free;have f0:=f 0;have f1:=f 1;have f2:=f 2;have f3:=f 3;have f4:=f 4;clear f hd he hs hl HP;dsimp only at z0 z1 z2 z3 z4 HP3;rw [HXL.out] at z0 z1 z2 z3 z4 HP3;go_wp2_with fail;refine bodyPost_ret (v := .tuple #[.agg #[.int .i64 p,.bool true,.slice xA xn xc,.slice xB xm xd,.slice xC xk xe],.int .i64 0]) (by simp [results,Tryz.results129,go_sem,z0,z1,z2,z3,z4]) rfl ?_;rw [HG.out.1,HG.out.2];have:=HP3.out;unfold LV.val at this;dsimp only at this;rw [HXL.out] at this;exact this
     | false =>
       have hl:¬ s.leaf=false:=by rw [<- hs,HXL.out];decide
       have HBD:=iQ (BAD.out (by unfold TS.nodeAt;rw [hd];exact if_neg hl));obtain ⟨z0,z1,z2,z3,z4⟩:=HPC.out;obtain ⟨x0,x1,x2,x3,x4⟩:=HR2.out.cells;obtain ⟨n0,n1,n2,n3⟩:=NB.out.cells;have f:=HR2.out.free;have f0:=f 0;have f1:=f 1;have f2:=f 2;have f3:=f 3;have f4:=f 4;clear f hd he hs hl;go_wp2_with fail;refine bodyPost_ret (v := .tuple #[.agg #[.int .i64 0,.bool false,.slice none 0 0,.slice none 0 0,.slice none 0 0],.int .i64 121]) (by simp [results,Tryz.results129,go_sem,z0,z1,z2,z3,z4]) rfl ?_;rw [HBD.out.1,HBD.out.2];exact YT.out
   | false =>
     cases leaf with
     | true =>
       have hl:¬ s.leaf=true:=by rw [<- hs,HXL.out];decide
       have HBD:=iQ (BAD.out (by unfold TS.nodeAt;rw [hd];exact if_neg hl));obtain ⟨z0,z1,z2,z3,z4⟩:=HPC.out;obtain ⟨x0,x1,x2,x3,x4⟩:=HR2.out.cells;obtain ⟨n0,n1,n2,n3⟩:=NB.out.cells;have f:=HR2.out.free;have f0:=f 0;have f1:=f 1;have f2:=f 2;have f3:=f 3;have f4:=f 4;clear f hd he hs hl;go_wp2_with fail;refine bodyPost_ret (v := .tuple #[.agg #[.int .i64 0,.bool false,.slice none 0 0,.slice none 0 0,.slice none 0 0],.int .i64 121]) (by simp [results,Tryz.results129,go_sem,z0,z1,z2,z3,z4]) rfl ?_;rw [HBD.out.1,HBD.out.2];exact YT.out
     | false =>
       have hl:s.leaf=false:=by rw [<- hs];exact HXL.out
       have HG:Hid (Vx t p false=0/\Uw t p false=(p,s)):=iQ (by
        have e:TS.nodeAt t.nd p false=some s:=by
         unfold TS.nodeAt;rw [hd];exact if_pos hl
        unfold Vx Uw;rw [e];exact ⟨rfl,rfl⟩)
       have HP:=qa9 (x:=⟨p,⟨xA,xn,xc,xB,xm,xd,xC,xk,xe,xs⟩⟩) (l:=(p,s)) (er:=0) H2.out M2.out HW.out (wa2 _) FZ.out HR2.out JK.out (by rw [<- hs];rfl) (HXH.out.low (by rw [HSZ.out];exact wa2 _));have HP3:=iQ HP.1;obtain ⟨z0,z1,z2,z3,z4⟩:=HP.2.cells;obtain ⟨x0,x1,x2,x3,x4⟩:=HR2.out.cells;obtain ⟨n0,n1,n2,n3⟩:=NB.out.cells;have f:=HR2.out.free;have f0:=f 0;have f1:=f 1;have f2:=f 2;have f3:=f 3;have f4:=f 4;clear f hd he hs hl HP;dsimp only at z0 z1 z2 z3 z4 HP3;rw [HXL.out] at z0 z1 z2 z3 z4 HP3;go_wp2_with fail;refine bodyPost_ret (v := .tuple #[.agg #[.int .i64 p,.bool false,.slice xA xn xc,.slice xB xm xd,.slice xC xk xe],.int .i64 0]) (by simp [results,Tryz.results129,go_sem,z0,z1,z2,z3,z4]) rfl ?_;rw [HG.out.1,HG.out.2];have:=HP3.out;unfold LV.val at this;dsimp only at this;rw [HXL.out] at this;exact this
end
def Yj (k e:List UInt8):Bool:=(e==[]) || Op.bytesLess k e
def Qh (k lo hi:List UInt8):Bool:=(!Op.bytesLess k lo) && Yj k hi
theorem ZR (k lo hi:List UInt8):Qh k lo hi=true ↔ TT.btw lo hi k:=by
 unfold Qh Yj TT.btw;simp
theorem Vp (x y:ByteArray) (w:World):Calls Tryz.prog 31 #[.string x,.string y] w fun e w'=>e = .returned (.bool (Yj x.toList y.toList))/\Below w.heap.size w w':=by
 unfold Yj;cases h:(y.toList==[]) with
 | true =>
   go_enter Tryz.func31,Tryz.ntmps31;go_wp2_with fail;go_ret;exact ⟨rfl,Below.refl _ _⟩
 | false =>
   go_enter Tryz.func31,Tryz.ntmps31;go_wp2_with fail;go_ret;exact ⟨rfl,Below.refl _ _⟩
theorem VA (k x y:ByteArray) (w:World):Calls Tryz.prog 34 #[.string k,.string x,.string y] w fun e w'=>e = .returned (.bool (Qh k.toList x.toList y.toList))/\Below w.heap.size w w':=by
 have HA:=iQ (Vp k y w);unfold Qh;cases h:Op.bytesLess k.toList x.toList with
 | true =>
   clear HA;go_enter Tryz.func34,Tryz.ntmps34;go_wp2_with fail;go_ret;exact ⟨rfl,Below.refl _ _⟩
 | false =>
   go_enter Tryz.func34,Tryz.ntmps34;go_wp2_with fail;refine HA.out.mono ?_;rintro e w1 ⟨rfl,b1⟩;go_wp2_with fail;go_ret;exact ⟨rfl,b1⟩
theorem qt1 (v:VV) (w:World):Calls Tryz.prog 66 #[v.val] w fun e w'=>e = .returned (.bool true)/\Below w.heap.size w w':=by
 have HB:=iQ (Qa w (.cells #[.int .i64 v.pg,.int .i64 v.ht,.string v.lo,.string v.hi,.bool v.x.s.leaf,.slice v.x.A v.x.n v.x.c,.slice v.x.B v.x.m v.x.d,.slice v.x.C v.x.k v.x.e] 77));unfold VV.val;go_enter Tryz.func66,Tryz.ntmps66;go_wp2_with fail;go_ret;exact ⟨rfl,HB.out⟩
def zg1 (vv:VV) (i:Nat) (w:World) (e:Ending) (w':World):Prop:=∃ u:VV,e = .returned u.val/\u.x=NV.zero/\u.v=SC.kid vv.v vv.x.s i/\Below w.heap.size w w'
theorem qY4 (vv:VV) (i:Nat) (s u:ByteArray) (c:Int) (hc:vv.x.s.kids[i]?=some c) (hs:s.toList=if 0<i then vv.x.s.keys.getD (i - 1) [] else vv.lo.toList) (hu:u.toList=if i<vv.x.s.keys.length then vv.x.s.keys.getD i [] else vv.hi.toList) :
 (VV.mk c (vv.ht - 1) s u NV.zero).v=SC.kid vv.v vv.x.s i:=by
 unfold VV.v SC.kid;simp only [List.getD_eq_getElem?_getD] at *;rw [hc,hs,hu];rfl
def MB (w:World) (g2:Nat) (c h pg ht:Int) (lo hi:ByteArray) (lf:Bool) (A:Option Addr) (n cc:Nat) (B:Option Addr) (m d:Nat) (C:Option Addr) (k e:Nat) (lop hip:List UInt8) (wx:World):Prop :=
 ∃ s u:ByteArray,s.toList=lop/\u.toList=hip/\Ze wx g2 (.int .i64 c) (.int .i64 h) (.string s) (.string u) (.bool false) (.slice none 0 0) (.slice none 0 0) (.slice none 0 0) /\
   Ze wx w.heap.size (.int .i64 pg) (.int .i64 ht) (.string lo) (.string hi) (.bool lf) (.slice A n cc) (.slice B m d) (.slice C k e) /\
   Ze wx (w.heap.size+1) (.int .i64 0) (.int .i64 0) (.string ⟨#[]⟩) (.string ⟨#[]⟩) (.bool false) (.slice none 0 0) (.slice none 0 0) (.slice none 0 0)/\Below w.heap.size w wx
section
variable {w wx:World} {g2:Nat} {c h pg ht:Int} {lo hi:ByteArray} {lf:Bool} {A:Option Addr} {n cc:Nat} {B:Option Addr} {m d:Nat} {C:Option Addr} {k e:Nat} {lop hip:List UInt8}
theorem MB.below (q:MB w g2 c h pg ht lo hi lf A n cc B m d C k e lop hip wx):Below w.heap.size w wx:=by
 obtain ⟨s,u,_,_,_,_,_,b⟩:=q;exact b
theorem MB.keys (q:MB w g2 c h pg ht lo hi lf A n cc B m d C k e lop hip wx):wx.cell? ⟨w.heap.size,5,none⟩=some (.slice A n cc):=by
 obtain ⟨s,u,_,_,_,b,_⟩:=q;exact b.cells.2.2.2.2.2.1
theorem MB.lo_ (q:MB w g2 c h pg ht lo hi lf A n cc B m d C k e lop hip wx):∃ v,wx.cell? ⟨g2,2,none⟩=some v:=by
 obtain ⟨s,u,_,_,b,_⟩:=q;exact ⟨_,b.cells.2.2.1⟩
theorem MB.hi_ (q:MB w g2 c h pg ht lo hi lf A n cc B m d C k e lop hip wx):∃ v,wx.cell? ⟨g2,3,none⟩=some v:=by
 obtain ⟨s,u,_,_,b,_⟩:=q;exact ⟨_,b.cells.2.2.2.1⟩
theorem MB.free (q:MB w g2 c h pg ht lo hi lf A n cc B m d C k e lop hip wx) (j:Nat):wx.frozen? ⟨g2,j,none⟩=false:=by
 obtain ⟨s,u,_,_,b,_⟩:=q;exact b.free j
theorem MB.same (q:MB w g2 c h pg ht lo hi lf A n cc B m d C k e lop hip wx) {qQ8 qS3:List UInt8} (h1:lop=qQ8) (h2:hip=qS3):MB w g2 c h pg ht lo hi lf A n cc B m d C k e qQ8 qS3 wx:=by
 subst h1 h2;exact q
theorem MB.setLo (q:MB w g2 c h pg ht lo hi lf A n cc B m d C k e lop hip wx) (n1:g2≠w.heap.size) (n2:g2≠w.heap.size+1) (n3:w.heap.size<=g2) {s1:ByteArray} {qQ8:List UInt8} (hs:s1.toList=qQ8) :
 MB w g2 c h pg ht lo hi lf A n cc B m d C k e qQ8 hip (wx.setCell ⟨g2,2,none⟩ (.string s1)):=by
 obtain ⟨s,u,_,hu,b,v,r,bl⟩:=q;have gy:wx.grownBy (wx.setCell ⟨g2,2,none⟩ (.string s1)) (some g2):=Qu (World.grownBy.refl wx (some g2)) 2 _;exact ⟨s1,u,hs,hu,b.put2 _,v.grown gy (Ne.symm n1),r.grown gy (Ne.symm n2),bl.setCell n3 _⟩
theorem MB.setHi (q:MB w g2 c h pg ht lo hi lf A n cc B m d C k e lop hip wx) (n1:g2≠w.heap.size) (n2:g2≠w.heap.size+1) (n3:w.heap.size<=g2) {u1:ByteArray} {qS3:List UInt8} (hs:u1.toList=qS3) :
 MB w g2 c h pg ht lo hi lf A n cc B m d C k e lop qS3 (wx.setCell ⟨g2,3,none⟩ (.string u1)):=by
 obtain ⟨s,u,hl,_,b,v,r,bl⟩:=q;have gy:wx.grownBy (wx.setCell ⟨g2,3,none⟩ (.string u1)) (some g2):=Qu (World.grownBy.refl wx (some g2)) 3 _;exact ⟨s,u1,hl,hs,b.put3 _,v.grown gy (Ne.symm n1),r.grown gy (Ne.symm n2),bl.setCell n3 _⟩
end
theorem qA1 (z:Int) (h1:1<=z) (h2:z<=1000):IntKind.i64.wrap (z - 1)=z - 1:=by
 rw [IntWalk.i64_in _ (by omega)]
theorem qH9 (vv:VV) (i:Nat) (w:World) (h:Nd w vv.x.A vv.x.n vv.x.c vv.x.B vv.x.m vv.x.d vv.x.C vv.x.k vv.x.e vv.x.s) (hi:i<vv.x.s.kids.length) (hl:vv.x.s.kids.length=vv.x.s.keys.length+1) (hk:vv.x.s.keys.length<=1000) (h1:1<=vv.ht) (h2:vv.ht<=1000) :
 Calls Tryz.prog 65 #[vv.val,.int .i64 (i:Int)] w (zg1 vv i w):=by
 obtain ⟨b,off,c,hA,hc,f0⟩:=h.ki.iA (k:=i) (by rw [<- h.cn];exact hi);have HKI:=iQ (fun s u hs hu=>qY4 vv i s u c hc hs hu);have LZ:=iQ (fun (h0:0<i)=>h.ke.sA (k:=i - 1) (by rw [<- h.kn];omega));have HK2:=iQ (fun (h0:i<vv.x.s.keys.length)=>h.ke.sA (k:=i) (by rw [<- h.kn];omega));have hkn:=h.kn;have hcn:=h.cn;have HWR:=iQ (qA1 vv.ht h1 h2);have WRP:Hid (∀ j:Nat,j<1000->IntKind.i64.wrap (((j+1:Nat):Int) - 1)=(j:Int)):=iQ (fun j hj=>by rw [IntWalk.i64_in _ (by omega)];omega);obtain ⟨pg,ht,lo,hi',A,n,cc,B,m,d,C,k,e,s⟩:=vv;unfold VV.val;dsimp only at *;subst hA;have b0:=Qa w (.cells #[.int .i64 pg,.int .i64 ht,.string lo,.string hi',.bool s.leaf,.slice A n cc,.slice B m d,.slice (some ⟨b,off,none⟩) k e] 77);have HV0:=Zj w (.int .i64 pg) (.int .i64 ht) (.string lo) (.string hi') (.bool s.leaf) (.slice A n cc) (.slice B m d) (.slice (some ⟨b,off,none⟩) k e);go_enter Tryz.func65,Tryz.ntmps65;go_upto_region 1 with fail
 generalize hw0:w.alloc (.cells #[.int .i64 pg,.int .i64 ht,.string lo,.string hi',.bool s.leaf,.slice A n cc,.slice B m d,.slice (some ⟨b,off,none⟩) k e] 77)=w0 at *;have b1:=Qa w0 (.cells #[.int .i64 0,.int .i64 0,.string ⟨#[]⟩,.string ⟨#[]⟩,.bool false,.slice none 0 0,.slice none 0 0,.slice none 0 0] 77);have HR:=iQ (Zj w0 (.int .i64 0) (.int .i64 0) (.string ⟨#[]⟩) (.string ⟨#[]⟩) (.bool false) (.slice none 0 0) (.slice none 0 0) (.slice none 0 0));have HV1:=iQ (HV0.kept b1);have B1:=iQ (Qe b1 b0);have HSZ:Hid (w0.heap.size=w.heap.size+1):=iQ (by rw [<- hw0];simp);clear hw0 b0 b1 HV0;generalize hw1:w0.alloc (.cells #[.int .i64 0,.int .i64 0,.string ⟨#[]⟩,.string ⟨#[]⟩,.bool false,.slice none 0 0,.slice none 0 0,.slice none 0 0] 77)=w1 at *;clear hw1;have qX4:Hid (i<=n/\n<=1000/\s.keys.length=n):=iQ (by omega);have hik:i<k:=by omega
 have hwr:IntKind.i64.wrap (ht - 1)=ht - 1:=HWR.out;have MF:Hid (w1.heap.size≠w.heap.size/\w1.heap.size≠w.heap.size+1/\w.heap.size<=w1.heap.size/\w.heap.size<=w.heap.size+1):=iQ (by
  have h1:=HR.out.lt;have h2:=HSZ.out;omega)
 rw [HSZ.out] at HR;clear hi hl hk h1 h2 hkn hcn h hc HWR HSZ;go_cut [5] (fun s5 wx=>s5 = .pointer (some ⟨w1.heap.size,0,none⟩)/\MB w w1.heap.size c (ht - 1) pg ht lo hi' s.leaf A n cc B m d (some ⟨b,off,none⟩) k e lo.toList hi'.toList wx)
 case first =>
  clear LZ HK2 HKI;have b2:=Qa w1 (.cells #[.int .i64 0,.int .i64 0,.string ⟨#[]⟩,.string ⟨#[]⟩,.bool false,.slice none 0 0,.slice none 0 0,.slice none 0 0] 77);have TJ:=HV1.out.kept b2;have HK:=Zj w1 (.int .i64 0) (.int .i64 0) (.string ⟨#[]⟩) (.string ⟨#[]⟩) (.bool false) (.slice none 0 0) (.slice none 0 0) (.slice none 0 0);obtain ⟨c0,c1,c2,c3,c4,c5,c6,c7⟩:=HV1.out.cells;obtain ⟨d0,d1,d2,d3,d4,d5,d6,d7⟩:=TJ.cells;clear c0 c4 c5 c6 d0 d4 d5 d6;obtain ⟨k0,k1,k2,k3,k4,k5,k6,k7⟩:=HK.cells;have kf:=fun j=>HK.free j;have f1:w1.cell? ⟨b,off+i,none⟩=some (.int .i64 c):=(B1.out.cell (World.block_lt_of_cell? _ _ f0)).trans f0;have f2:=(b2.cell (World.block_lt_of_cell? _ _ f1)).trans f1;have HKF:=iQ kf;clear kf TJ HK b2;have kf0:=HKF.out 0;have kf1:=HKF.out 1;have kf2:=HKF.out 2;have kf3:=HKF.out 3;have kf4:=HKF.out 4;have kf5:=HKF.out 5;have kf6:=HKF.out 6;have kf7:=HKF.out 7;go_region
  go_wp2_with fail
  go_meet
  have bx:=(Qa w1 (.cells #[.int .i64 c,.int .i64 (ht - 1),.string lo,.string hi',.bool false,.slice none 0 0,.slice none 0 0,.slice none 0 0] 77)).drew;exact ⟨rfl,lo,hi',rfl,rfl,(Zj w1 (.int .i64 c) (.int .i64 (ht - 1)) (.string lo) (.string hi') (.bool false) (.slice none 0 0) (.slice none 0 0) (.slice none 0 0)).kept ((Below.refl _ _).drew),HV1.out.kept bx,HR.out.kept bx,Qe bx B1.out⟩
 case rest =>
  obtain ⟨rfl,hcut⟩:=hcut;have K0:=iQ hcut;clear hcut HV1 HR B1 f0;obtain ⟨wx,hwx⟩:∃ wx,wc=wx:=⟨_,rfl⟩;rw [hwx] at K0 ⊢;clear hwx;generalize w1.heap.size=g2 at *;have HNE2:=iQ MF.out.2.2
  go_upto_if 21 with fail
  go_cut [] (fun w2=>MB w g2 c (ht - 1) pg ht lo hi' s.leaf A n cc B m d (some ⟨b,off,none⟩) k e (if 0<i then s.keys.getD (i - 1) [] else lo.toList) hi'.toList w2)
  case first =>
   by_cases h0:0<i
   ·obtain ⟨b1,o1,s1,rfl,hk1,f1⟩:=LZ.out h0
    obtain ⟨j,rfl⟩:∃ j,i=j+1:=⟨i - 1,by omega⟩;have hf2:wx.cell? ⟨b1,o1+j,none⟩=some (.string s1):=(K0.out.below.cell (World.block_lt_of_cell? _ _ f1)).trans f1;have Xl:Hid (s1.toList=if 0<j+1 then s.keys.getD (j+1 - 1) [] else lo.toList):=iQ (by rw [if_pos (by omega),wa7,hk1];rfl)
    have hj:j<1000:=by have:=qX4.out;omega
    have hj2:j<n:=by have:=qX4.out;omega
    have hw1:=WRP.out j hj;have d5:=K0.out.keys;obtain ⟨v2,k2⟩:=K0.out.lo_;have kf:=K0.out.free 2;clear hk1 f1 h0;go_wp2_with fail
    go_meet
    exact K0.out.setLo MF.out.1 MF.out.2.1 MF.out.2.2.1 Xl.out
   ·have Xl:Hid (lo.toList=if 0<i then s.keys.getD (i - 1) [] else lo.toList):=iQ (by rw [if_neg h0])
    obtain rfl:0=i:=(by omega);clear h0;go_wp2_with fail
    go_meet
    exact K0.out.same Xl.out rfl
  case rest =>
   have K1:=iQ hcut;clear hcut K0;have d5:=K1.out.keys
   go_upto_if 35 with fail
   go_cut [] (fun w2=>MB w g2 c (ht - 1) pg ht lo hi' s.leaf A n cc B m d (some ⟨b,off,none⟩) k e (if 0<i then s.keys.getD (i - 1) [] else lo.toList) (if i<s.keys.length then s.keys.getD i [] else hi'.toList) w2)
   case first =>
    by_cases h3:i<n
    ·obtain ⟨b3,o3,u1,rfl,hk3,f3⟩:=HK2.out (by have:=qX4.out;omega)
     have f4:wc.cell? ⟨b3,o3+i,none⟩=some (.string u1):=(K1.out.below.cell (World.block_lt_of_cell? _ _ f3)).trans f3;have HU1:Hid (u1.toList=if i<s.keys.length then s.keys.getD i [] else hi'.toList):=iQ (by rw [if_pos (by have:=qX4.out;omega),wa7,hk3];rfl)
     obtain ⟨v3,k3⟩:=K1.out.hi_;have kf:=K1.out.free 3;clear hk3 f3;go_wp2_with fail
     go_meet
     exact K1.out.setHi MF.out.1 MF.out.2.1 MF.out.2.2.1 HU1.out
    ·have HU1:Hid (hi'.toList=if i<s.keys.length then s.keys.getD i [] else hi'.toList):=iQ (by rw [if_neg (by have:=qX4.out;omega)])
     have h4:n<=i:=(by omega);clear h3;go_wp2_with fail
     go_meet
     exact K1.out.same rfl HU1.out
   case rest =>
    obtain ⟨s1,u1,hs1,hu1,HK,HV,HR,B⟩:=hcut;have HE:=iQ (HR.put (.int .i64 c) (.int .i64 (ht - 1)) (.string s1) (.string u1) (.bool false) (.slice none 0 0) (.slice none 0 0) (.slice none 0 0));have BE:=iQ (MG B MF.out.2.2.2 (.int .i64 c) (.int .i64 (ht - 1)) (.string s1) (.string u1) (.bool false) (.slice none 0 0) (.slice none 0 0) (.slice none 0 0));obtain ⟨k0,k1,k2,k3,k4,k5,k6,k7⟩:=HK.cells;obtain ⟨r0,r1,r2,r3,r4,r5,r6,r7⟩:=HR.cells;have rf0:=HR.free 0;have rf1:=HR.free 1;have rf2:=HR.free 2;have rf3:=HR.free 3;have rf4:=HR.free 4;have rf5:=HR.free 5;have rf6:=HR.free 6;have rf7:=HR.free 7;have HSU:=iQ (And.intro hs1 hu1);clear HK HV HR B K1 d5 hs1 hu1;go_wp2_with fail;generalize (((((((wc.setCell ⟨w.heap.size+1,0,none⟩ (.int .i64 c)).setCell ⟨w.heap.size+1,1,none⟩ (.int .i64 (ht - 1))).setCell ⟨w.heap.size+1,2,none⟩ (.string s1)).setCell ⟨w.heap.size+1,3,none⟩ (.string u1)).setCell ⟨w.heap.size+1,4,none⟩ (.bool false)).setCell ⟨w.heap.size+1,5,none⟩ (.slice none 0 0)).setCell ⟨w.heap.size+1,6,none⟩ (.slice none 0 0)).setCell ⟨w.heap.size+1,7,none⟩ (.slice none 0 0)=we at *;obtain ⟨z0,z1,z2,z3,z4,z5,z6,z7⟩:=HE.out.cells;refine bodyPost_ret (v := .agg #[.int .i64 c,.int .i64 (ht - 1),.string s1,.string u1,.bool false,.slice none 0 0,.slice none 0 0,.slice none 0 0]) (by simp [results,Tryz.results65,go_sem,z0,z1,z2,z3,z4,z5,z6,z7]) rfl ?_;exact ⟨⟨c,ht - 1,s1,u1,NV.zero⟩,rfl,rfl,HKI.out s1 u1 HSU.out.1 HSU.out.2,BE.out⟩
def qn1 (w:World) (sz n:Nat) (cs:List Value) (e:Ending) (w':World):Prop:=∃ A c,e = .returned (.slice A n c)/\Ln w' sz A n c cs/\Hi w.heap.size A/\Below w.heap.size w w'
theorem qL9 (A:Option Addr) (n c:Nat) (l:List Int) (w:World) (h:Ln w 1 A n c (Qc l)) (hn:n<=1000000) :
 Calls Tryz.prog 73 #[.slice A n c] w (qn1 w 1 n (Qc l)):=by
 have hne:=fun W=>Lib.run_eql_slice_nil (P:=Tryz.prog) W 40;have H:=iQ h;rcases A with _ | ad
 ·obtain ⟨rfl,rfl⟩:=h.lies.1 rfl
  clear h;go_enter Tryz.func73,Tryz.ntmps73;go_wp2_with fail;go_ret;exact ⟨none,0,rfl,H.out,Hi.none_ _,Below.refl _ _⟩
 ·clear h
  obtain ⟨i0,hi,hz0,hz1,hz2⟩:=info_parts QP;have BE:=iQ (Qa w (.cells #[] 3));have OE:Hid ((w.alloc (.cells #[] 3)).ownsRow w.heap.size 3 1 (.slice (some ⟨w.heap.size,0,none⟩) 0 0) 0 []):=iQ (World.ownsRow_made w #[] 0 (wa2 _) (by unfold maxLen;omega) rfl);have HZ:Hid (∀ k',(Value.slice (some ⟨w.heap.size,0,none⟩) 0 0).ownBlock=some k'->w.heap.size<=k'):=iQ (fun k' e'=>(OE.out.lt k' e').1);go_enter Tryz.func73,Tryz.ntmps73;go_wp2_with (first
   | (at_builtin;refine Qo _ rfl (.tmp 5) (.tmp 6) 40 rfl w.heap.size 3 i0 _ 1 8 Tryz.underlying40 hi hz0 hz1 hz2 rfl (by decide) _ 0 [] rfl OE.out (some ad) n c (Qc l) rfl H.out.len (H.out.lies.kept BE.out) (Qr _) (by unfold maxLen;omega) (by omega) BE.out.size ?_;intro v8 w8 o8 g8;rw [we0,we6] at o8;have b8:=Below.grown (B:=w.heap.size) (a:=w) BE.out g8 BE.out.size HZ.out;have O8:=iQ o8;have B8:=iQ b8;clear o8 g8 b8)
   | fail)
  obtain ⟨A',c',rfl,_,l'⟩:=Ln.oo O8.out;go_ret;exact ⟨A',c',rfl,l',Hi.oo O8.out,B8.out⟩
theorem qM0 (A:Option Addr) (n c:Nat) (l:List (Int×Int)) (w:World) (h:Ln w 2 A n c (Zi l)) (hn:n<=1000000) :
 Calls Tryz.prog 74 #[.slice A n c] w (qn1 w 2 n (Zi l)):=by
 have hne:=fun W=>Lib.run_eql_slice_nil (P:=Tryz.prog) W 43;have H:=iQ h;rcases A with _ | ad
 ·obtain ⟨rfl,rfl⟩:=h.lies.1 rfl
  clear h;go_enter Tryz.func74,Tryz.ntmps74;go_wp2_with fail;go_ret;exact ⟨none,0,rfl,H.out,Hi.none_ _,Below.refl _ _⟩
 ·clear h
  obtain ⟨i0,hi,hz0,hz1,hz2⟩:=info_parts qv4;have BE:=iQ (Qa w (.cells #[] 98));have OE:Hid ((w.alloc (.cells #[] 98)).ownsRow w.heap.size 98 2 (.slice (some ⟨w.heap.size,0,none⟩) 0 0) 0 []):=iQ (World.ownsRow_made w #[] 0 (wa2 _) (by unfold maxLen;omega) rfl);have HZ:Hid (∀ k',(Value.slice (some ⟨w.heap.size,0,none⟩) 0 0).ownBlock=some k'->w.heap.size<=k'):=iQ (fun k' e'=>(OE.out.lt k' e').1);go_enter Tryz.func74,Tryz.ntmps74;go_wp2_with (first
   | (at_builtin;refine Qo _ rfl (.tmp 5) (.tmp 6) 43 rfl w.heap.size 98 i0 _ 2 16 Tryz.underlying43 hi hz0 hz1 hz2 rfl (by decide) _ 0 [] rfl OE.out (some ad) n c (Zi l) rfl H.out.len (H.out.lies.kept BE.out) (Yu _) (by unfold maxLen;omega) (by omega) BE.out.size ?_;intro v8 w8 o8 g8;rw [we0,we6] at o8;have b8:=Below.grown (B:=w.heap.size) (a:=w) BE.out g8 BE.out.size HZ.out;have O8:=iQ o8;have B8:=iQ b8;clear o8 g8 b8)
   | fail)
  obtain ⟨A',c',rfl,_,l'⟩:=Ln.oo O8.out;go_ret;exact ⟨A',c',rfl,l',Hi.oo O8.out,B8.out⟩
def qm5 (w:World) (s:SS) (e:Ending) (w':World):Prop:=∃ v,e = .returned v/\qu9 w' w.heap.size v s/\Below w.heap.size w w'
theorem KG (h:Int) (A:Option Addr) (n c:Nat) (B:Option Addr) (m d:Nat) (s:SS) (w:World) (hh:s.hi=h) (hs:Sp w A n c B m d s) (hn:n<=400000) (hm:m<=400000) :
 Calls Tryz.prog 39 #[.agg #[.int .i64 h,.slice A n c,.slice B m d]] w (qm5 w s):=by
 obtain ⟨t1,t2,t3⟩:=Vm w (.int .i64 h) (.slice A n c) (.slice B m d) (.int .i64 0) (.slice none 0 0) (.slice none 0 0);have HB:=iQ t1;have HR:=iQ t2;have B0:=iQ t3;have HS:=iQ (hs.kept t3);have HH:=iQ hh;have hsz:((w.alloc (.cells #[.int .i64 h,.slice A n c,.slice B m d] 45)).alloc (.cells #[.int .i64 0,.slice none 0 0,.slice none 0 0] 45)).heap.size=w.heap.size+2:=by simp
 have HZ:=iQ hsz;clear hs hh t1 t2 t3 hsz;go_enter Tryz.func39,Tryz.ntmps39;go_upto_region 1 with fail
 generalize (w.alloc (.cells #[.int .i64 h,.slice A n c,.slice B m d] 45)).alloc (.cells #[.int .i64 0,.slice none 0 0,.slice none 0 0] 45)=w0 at *;have BD:=iQ ((Below.refl w0.heap.size w0).drew);have K0:=(HB.out.kept BD.out).cells;have f0:=(HR.out.kept BD.out).free;go_region_held3 (fun w'=>w'.cell? ⟨w.heap.size,0,none⟩=some (.int .i64 h)/\w'.cell? ⟨w.heap.size,1,none⟩=some (.slice A n c)/\w'.cell? ⟨w.heap.size,2,none⟩=some (.slice B m d))
  (first | with_reducible exact K0 | with_reducible exact K1 | with_reducible exact K2 | with_reducible exact K9 _ _ _)
  (first
    | (go_at_call 73;refine (qL9 A n c s.fr _ (HS.out.fr.kept (by first | exact BF.out | exact BD.out)) (by omega)).mono ?_;rintro eI wI ⟨AI,cI,rfl,lI,hI,bI⟩;have BI:=iQ (Qe bI (by first | exact BF.out | exact BD.out));have K1:=(HB.out.kept BI.out).cells;have hbx:=HR.out.kept BI.out;obtain ⟨x0,x1,x2⟩:=hbx.cells;obtain ⟨g0,g1,g2⟩:=hbx.free;clear hbx;have K9:=fun a b' c':Value=>Gz.cells (((JU.put wI (w.heap.size+1) a b' c').2 w.heap.size (by omega)).trans (HB.out.kept BI.out));have HIA:Hid (Hi w0.heap.size AI):=iQ (Hi.low hI ((by first | exact BF.out | exact BD.out):Below w0.heap.size w0 _).size);have LI:=iQ lI;first | (have LFX:=iQ (LF.out.kept bI)) | skip;clear lI hI bI)
    | (go_at_call 74;refine (qM0 B m d s.pe _ (HS.out.pe.kept (by first | exact BI.out | exact BD.out)) (by omega)).mono ?_;rintro eF wF ⟨AF,cF,rfl,lF,hF,bF⟩;have BF:=iQ (Qe bF (by first | exact BI.out | exact BD.out));have K2:=(HB.out.kept BF.out).cells;have hbx:=HR.out.kept BF.out;obtain ⟨x0,x1,x2⟩:=hbx.cells;obtain ⟨g0,g1,g2⟩:=hbx.free;clear hbx;have K9:=fun a b' c':Value=>Gz.cells (((JU.put wF (w.heap.size+1) a b' c').2 w.heap.size (by omega)).trans (HB.out.kept BF.out));have HFA:Hid (Hi w0.heap.size AF):=iQ (Hi.low hF ((by first | exact BI.out | exact BD.out):Below w0.heap.size w0 _).size);have LF:=iQ lF;first | (have LIX:=iQ (LI.out.kept bF)) | skip;clear lF hF bF)
    | fail)
 all_goals (
  have hne:∀ {X:Option Addr},Hi w0.heap.size X->∀ ad,X=some ad->ad.block≠w.heap.size+1:=fun hX ad e=>by
   have:=hX ad e;have:=HZ.out;omega
  have HD:Hid (qm5 w s (.returned (.agg #[.int .i64 h,.slice AI n cI,.slice AF m cF])) (((wF.setCell ⟨w.heap.size+1,0,none⟩ (.int .i64 h)).setCell ⟨w.heap.size+1,1,none⟩ (.slice AI n cI)).setCell ⟨w.heap.size+1,2,none⟩ (.slice AF m cF))):=iQ
   ⟨_,rfl,⟨AI,n,cI,AF,m,cF,by rw [HH.out],qp3 (w2:=wF) (g:=w.heap.size+1) (s:=s) ⟨LIX.out,LF.out⟩ (fun _=>hne HIA.out) (fun _=>hne HFA.out) _ _ _,Hi.low HIA.out B0.out.size,Hi.low HFA.out B0.out.size⟩,Jf (Qe BF.out B0.out) (wd3 _) _ _ _⟩
  have HE:=iQ ((HR.out.kept BF.out).put (.int .i64 h) (.slice AI n cI) (.slice AF m cF)).cells;go_wp2_with fail;obtain ⟨z0,z1,z2⟩:=HE.out;refine bodyPost_ret (v := .agg #[.int .i64 h,.slice AI n cI,.slice AF m cF]) (by simp [results,Tryz.results39,go_sem,z0,z1,z2]) rfl ?_;exact HD.out)
namespace TS
def wayIn (nd:Int->Option ND) (key:List UInt8) (z:Nat):Nat->Int->Prop
 | 0,_=>True
 | h+1,p=>0<=p/\p<z/\(h≠0->∀ n,nodeAt nd p false=some n->wayIn nd key z h (n.kids.getD (ND.kidN key n.keys) 0))
theorem wayL_end {nd:Int->Option ND} {key:List UInt8} {p:Int}:wayL nd key 1 p=(nodeAt nd p true).map (fun n=>[⟨p,n,0⟩]):=by
 unfold wayL;cases nodeAt nd p true<;>rfl
theorem wayL_step {nd:Int->Option ND} {key:List UInt8} {h:Nat} {p:Int}:wayL nd key (h+2) p=(nodeAt nd p false).bind (fun n=>(wayL nd key (h+1) (n.kids.getD (ND.kidN key n.keys) 0)).map (⟨p,n,ND.kidN key n.keys⟩::·)):=by
 conv=>lhs;unfold wayL
 cases nodeAt nd p false<;>rfl
end TS
section
variable {W w w':World} {G F F':Nat->Prop} {tb mb pb db:Nat} {t t':TS}
theorem qL6:(Tryz.prog.info? 173).map (fun i=>(i.zero,i.size,i.bytes))=some (some (.agg #[.int .i64 0,.bool false,.slice none 0 0,.slice none 0 0,.slice none 0 0,.int .i64 0]),6,96):=by kernel_rfl
theorem Ql.nodeOk (h:Ql W F w tb pb db t) {p:Int} {n:ND} (h0:0<=p) (h1:p<t.z) (hn:t.nd p=some n):n.ok=true/\n.size<=1000:=by
 obtain ⟨G,mb,A,tn,c,B,m,d,f,h⟩:=h;exact zj7 ((h.ndsI p h0 h1).trans hn)
theorem Yg {nd:Int->Option ND} {p:Int} {leaf:Bool} {n:ND} (h:TS.nodeAt nd p leaf=some n):nd p=some n/\n.leaf=leaf:=by
 unfold TS.nodeAt at h;split at h
 ·rename_i m hm
  split at h
  ·obtain rfl:=wa0 h
   exact ⟨hm,by assumption⟩
  ·cases h
 ·cases h
structure Ve (b:Nat) (w:World) (F:Nat->Prop) (v:Value) (ss:List SV):Prop where
 own:w.ownsRow b 173 6 v ss.length (ss.flatMap SV.cells)
 out:∀ g,v.ownBlock=some g->¬ F g
 ok:∀ x∈ss,x.l.x.ok w (fun k=>F k\/v.ownBlock=some k)/\x.l.x.hi b
theorem Qb.but (m:Qb w F w' F') (o:Option Nat):Qb w (fun k=>F k\/o=some k) w' (fun k=>F' k\/o=some k) :=
 ⟨⟨m.kept.os,m.kept.tape,m.kept.output,m.kept.size,fun k hk hF=>m.kept.block k hk (fun h=>hF (Or.inl h))⟩,fun k hk=>by
   rcases hk with hk | hk
   ·rcases m.news k hk with h | h
    ·exact Or.inl (Or.inl h)
    ·exact Or.inr h
   ·exact Or.inl (Or.inr hk)⟩
theorem Qb.of_grown {v v':Value} (hg:w.grownBy w' v.ownBlock) (hd:v'.ownBlock=v.ownBlock\/v'.ownBlock=some w.heap.size):Qb w (fun k=>F k\/v.ownBlock=some k) w' (fun k=>F k\/v'.ownBlock=some k) :=
 ⟨⟨hg.os,hg.tape,hg.output,hg.size,fun k hk hF=>hg.block k hk (fun e=>hF (Or.inr e.symm))⟩,fun k hk=>by
   rcases hk with hk | hk
   ·exact Or.inl (Or.inl hk)
   ·rcases hd with h | h
    ·exact Or.inl (Or.inr (h.symm.trans hk))
    ·rw [h] at hk
     injection hk with hk
     exact Or.inr (by omega)⟩
theorem NV.ok.butHi {b:Nat} {x:NV} (h:x.ok w F) (hh:x.hi b) {o:Option Nat} (ho:∀ g,o=some g->g<b):x.ok w (fun k=>F k\/o=some k):=by
 have mv:∀ {A:Option Addr} {n c:Nat} {cs:List Value},Xv w F 1 A n c cs->Yp b A->Xv w (fun k=>F k\/o=some k) 1 A n c cs:=fun {A n c cs} h1 h2 =>
  ⟨h1.ln,fun hn ad e hk=>by
   rcases hk with hk | hk
   ·exact h1.out hn ad e hk
   ·have:=ho _ hk
    have:=h2 ad e;omega⟩
 exact ⟨mv h.ke hh.1,mv h.va hh.2.1,mv h.ki hh.2.2⟩
theorem Ve.mo {b:Nat} {v:Value} {ss:List SV} (h:Ve b w F v ss) (m:Qb w F w' F'):Ve b w' F' v ss :=
 ⟨Zb h.own (fun g e=>m.kept.block g (h.own.lt g e).2 (h.out g e)),fun g e=>m.not (h.own.lt g e).2 (h.out g e),fun x hx=>⟨(h.ok x hx).1.mo (m.but _),(h.ok x hx).2⟩⟩
theorem Ve.kept {b:Nat} {v:Value} {ss:List SV} (h:Ve b w F v ss) (hb:Below w.heap.size w w'):Ve b w' F v ss :=
 ⟨Zb h.own (fun g e=>hb.block g (h.own.lt g e).2),h.out,fun x hx=>⟨(h.ok x hx).1.kept hb,(h.ok x hx).2⟩⟩
theorem Ve.push {b:Nat} {v v':Value} {ss:List SV} {x:SV} (h:Ve b w F v ss) (hx:x.l.x.ok w (fun k=>F k\/v.ownBlock=some k)) (hh:x.l.x.hi b) (hF:∀ k,F k->k<w.heap.size) (ho:w'.ownsRow b 173 6 v' (ss.length+1) (ss.flatMap SV.cells++x.cells)) (hg:w.grownBy w' v.ownBlock) (hd:v'.ownBlock=v.ownBlock\/v'.ownBlock=some w.heap.size):Ve b w' F v' (ss++[x]):=by
 refine ⟨?_,fun g e hk=>?_,fun y hy=>?_⟩
 ·simpa using ho
 ·rcases hd with h1 | h1
  ·exact h.out g (h1.symm.trans e) hk
  ·rw [h1] at e
   injection e with e
   subst e;exact absurd (hF _ hk) (Nat.lt_irrefl _)
 ·rcases wb0.1 hy with hy | hy
  ·exact ⟨(h.ok y hy).1.mo (Qb.of_grown hg hd),(h.ok y hy).2⟩
  ·rw [wa4.1 hy]
   exact ⟨hx.mo (Qb.of_grown hg hd),hh⟩
theorem Ve.at_ {b:Nat} {v:Value} {ss:List SV} (h:Ve b w F v ss):∃ A c,v = .slice A ss.length c/\Jw w F A ss.length c ss/\Yp b A:=by
 obtain ⟨A,c,e,_,h1⟩:=Ln.oo h.own;subst e;refine ⟨A,c,rfl,⟨⟨h1,fun hn ad e=>h.out ad.block ?_⟩,fun x hx=>(h.ok x hx).1.fewer (fun _ hk=>Or.inl hk)⟩,fun ad e=>(h.own.lt ad.block (by rw [e];rfl)).1⟩;rcases h.own.2 with ⟨e1,e2⟩ | ⟨g,cap,cur,e1,_⟩
 ·omega
 ·injection e1 with e1 e2 e3
  rw [e1] at e;injection e with e
  subst e;rw [e1];rfl
theorem Ve.push_in {wr wa:World} {v v':Value} {ss:List SV} {p:Int} {X:NV} {kid:Nat} {news:List Value} (h1:Ql W F' wr tb pb db t) (m1:Qb w F wr F') (s1:Ve w.heap.size wr F' v ss) (hx:X.ok wr (fun k=>F' k\/v.ownBlock=some k)) (hh:X.hi w.heap.size) (hW:W.heap.size<=w.heap.size)
 (hb:Below wr.heap.size wr wa) (ho:w'.ownsRow w.heap.size 173 6 v' (ss.length+1) (ss.flatMap SV.cells++news)) (hn:news=SV.cells ⟨⟨p,X⟩,kid⟩) (hg:wa.grownBy w' v.ownBlock) (hd:v'.ownBlock=v.ownBlock\/v'.ownBlock=some wa.heap.size) :
 Ql W F' w' tb pb db t/\Qb w F w' F'/\Ve w.heap.size w' F' v' (ss++[⟨⟨p,X⟩,kid⟩]):=by
 subst hn;have s2:=s1.kept hb;have h2:=h1.kept hb;exact ⟨h2.grown hg (fun g e=>⟨s2.out g e,wa9 hW (s2.own.lt g e).1⟩),(m1.trans (Qb.ob hb)).grown hg (fun g e=>(s2.own.lt g e).1),s2.push (hx.kept hb) hh h2.lt ho hg hd⟩
def zg2 (W:World) (F:Nat->Prop) (w:World) (tb pb db:Nat) (o:Option (List TS.St)) (t:TS) (e:Ending) (w':World):Prop :=
 ∃ A n c ss F',e = .returned (.tuple #[.slice A n c,.int .i64 (if o.isSome then 0 else 121)])/\Jw w' F' A n c ss/\ss.map SV.st=o.getD []/\Ql W F' w' tb pb db t/\Qb w F w' F'/\Yp w.heap.size A/\∀ x∈ss,x.l.x.hi w.heap.size
def zg0 (W:World) (F:Nat->Prop) (w:World) (tb pb db:Nat) (t:TS) (key:List UInt8) (o:Option (List TS.St)) (h:Nat) (p:Int) (v:Value) (wr:World):Prop :=
 ∃ Fk ss,Ql W Fk wr tb pb db t/\Qb w F wr Fk/\Ve w.heap.size wr Fk v ss/\ss.length+h<=1000/\TS.wayIn t.nd key t.z h p/\o=(TS.wayL t.nd key h p).map (ss.map SV.st++·)
end
end
end Go.Proofs.YtfiflinbicbedaaGreat
