/-
  A part of the proof. Conditions: none.
-/
import Derived.Test.YtfiflinbicbedaaGreatZR7

set_option maxRecDepth 20000
set_option maxHeartbeats 12800000
namespace Go.Proofs.YtfiflinbicbedaaGreat
section
open Go.RowKit
def remF (g r:Nat) (A:Option Addr) (n c:Nat) (B:Option Addr) (d:Nat) (f:Nat) (u:ND):List SP :=
 [.is (.pointer (some ⟨g,1,none⟩)),.is (.slice A n c),.is (.int .i64 f),.is (.int .i64 f),.is (.int .i64 ((f+1:Nat):Int)),.ln (r+1) (f+0+(n - (f+1))) (Qd u.keys),
  .is (.pointer (some ⟨g,2,none⟩)),.is (.slice B n d),.is (.int .i64 f),.is (.int .i64 f),.is (.int .i64 ((f+1:Nat):Int)),.ln (r+1) (f+0+(n - (f+1))) (Qd u.vals),.nd (r+1) u]
theorem YA {w w1 wf:World} {r:Nat} {v:Value} {s:ND} (hb:Below w.heap.size w w1) (hr:w.heap.size<=r) (hr1:r<w1.heap.size) (h:Ha wf w1.heap.size v s) (b:Below w1.heap.size w1 wf) (x y z p:Value) :
 Ha ((((wf.setCell ⟨r,0,none⟩ x).setCell ⟨r,1,none⟩ y).setCell ⟨r,2,none⟩ z).setCell ⟨r,3,none⟩ p) w.heap.size v s/\Below w.heap.size w ((((wf.setCell ⟨r,0,none⟩ x).setCell ⟨r,1,none⟩ y).setCell ⟨r,2,none⟩ z).setCell ⟨r,3,none⟩ p) :=
 Ub (Qe b hb) hr (h.low hr1) x y z p
theorem qp8 (A:Option Addr) (n c:Nat) (B:Option Addr) (m d:Nat) (C:Option Addr) (k e:Nat) (s:ND) (x:ByteArray) (w:World) (h:Nd w A n c B m d C k e s) (hl:s.leaf=true) (ho:s.ok=true) (hn:n<=300000) :
 Calls Tryz.prog 141 #[.agg #[.bool true,.slice A n c,.slice B m d,.slice C k e],.string x] w (zn7 w (s.remove x.toList) (ND.isAt x.toList s.keys)):=by
 obtain rfl:n=m:=by rw [<- h.vn,<- h.kn];exact (ND.ok_leaf ho hl).1.symm
 obtain rfl:0=k:=by rw [<- h.cn,(ND.ok_leaf ho hl).2.2];rfl
 have HO:=iQ ho;clear ho;obtain ⟨Vh,tb2,Xm⟩:=Jr w (.bool true) (.slice A n c) (.slice B n d) (.slice C 0 e);have HS:=iQ (h.kept Xm);have HB:=iQ Vh;have HR:=iQ tb2;have B0:=iQ Xm;have HL:=iQ hl;clear h hl Vh tb2 Xm;go_enter Tryz.func141,Tryz.ntmps141;go_upto_region 1 with fail
 generalize (w.alloc (.cells #[.bool true,.slice A n c,.slice B n d,.slice C 0 e] 75)).alloc (.cells #[.bool false,.slice none 0 0,.slice none 0 0,.slice none 0 0] 75)=w0 at *;obtain ⟨c0,c1,c2,c3⟩:=HB.out.cells;go_wp2_with fail;refine (NM true A n c B n d C 0 e s x w0 HS.out (ND.ok_rise HO.out) (by omega)).mono ?_;rintro e1 w1 ⟨rfl,b1⟩;have B1:=iQ (Qe b1 B0.out);have HB1:=iQ (HB.out.kept b1);have HR1:=iQ (HR.out.kept b1);have Xl:=iQ (HS.out.kept b1);clear b1 c0 c1 c2 c3 HB HR HS B0;have hg:=HB1.out.lt;have hr:=HR1.out.lt;cases his:ND.isAt x.toList s.keys with
 | true =>
   have HP:=iQ (ND.remove_old his);have hfl:=ND.isAt_lt his;rw [Xl.out.kn] at hfl;have HRD:Hid (s.removed x.toList=⟨true,ND.rep s.keys (ND.findN x.toList s.keys) (ND.findN x.toList s.keys+1) [],ND.rep s.vals (ND.findN x.toList s.keys) (ND.findN x.toList s.keys+1) [],[]⟩):=iQ rfl;have HI:=iQ his;clear his;generalize ND.findN x.toList s.keys=f at *;have hw1:IntKind.i64.wrap ((f:Int)+1)=(f:Int)+1:=IntWalk.i64_in _ (by omega);have HW1:=iQ hw1;clear hw1;obtain ⟨c0,c1,c2,c3⟩:=HB1.out.cells;go_upto_region 4 with fail
   clear c0 c1 c2 c3;rename_i KK HM;refine Qz 13 2 (SP.at_ (remF w.heap.size (w.heap.size+1) A n c B d f ⟨true,ND.rep s.keys f (f+1) [],ND.rep s.vals f (f+1) [],[]⟩)) (by kernel_rfl) rfl (by kernel_rfl) (by kernel_rfl) (by kernel_rfl) (SP.at_st _) ?_ ?_
   ·intro i o L a wx hi ho h hd
    have e2:a.eval (.tmp 2) = .pointer (some ⟨w.heap.size,0,none⟩):=(h.old 2 (by kernel_rfl)).trans rfl;have e6:a.eval (.tmp 6) = .int .i64 (f:Int):=(h.old 6 (by kernel_rfl)).trans rfl;obtain ⟨c0,c1,c2,c3⟩:=(HB1.out.kept h.below).cells
    match i,hi,ho,hd with
    | 0,_,ho,hd =>
      obtain rfl:=wa0 ho;refine wpOp_step rfl (fun K hK=>?_);refine (if_pos (by rfl)).mpr ?_;have q0:=got e2
      go_simp
      exact hK _ _ ⟨_,_,rfl,rfl,rfl,Below.refl _ _⟩
    | 1,_,ho,hd =>
      obtain rfl:=wa0 ho;refine wpOp_step rfl (fun K hK=>?_);refine (if_pos (by rfl)).mpr ?_;have q0:=got (h.gd 0 rfl hd rfl)
      go_simp
      exact hK _ _ ⟨_,_,rfl,rfl,rfl,Below.refl _ _⟩
    | 2,_,ho,hd =>
      obtain rfl:=wa0 ho;refine wpOp_step rfl (fun K hK=>?_);refine (if_pos (by rfl)).mpr ?_;have q0:=got e6
      go_simp
      exact hK _ _ ⟨_,_,rfl,rfl,rfl,Below.refl _ _⟩
    | 3,_,ho,hd =>
      obtain rfl:=wa0 ho;refine wpOp_step rfl (fun K hK=>?_);refine (if_pos (by rfl)).mpr ?_;have q0:=got e6
      go_simp
      exact hK _ _ ⟨_,_,rfl,rfl,rfl,Below.refl _ _⟩
    | 4,_,ho,hd =>
      obtain rfl:=wa0 ho;refine wpOp_step rfl (fun K hK=>?_);refine (if_pos (by rfl)).mpr ?_;have q0:=got (h.gd 3 rfl hd rfl);have hw:=HW1.out
      go_simp
      exact hK _ _ ⟨_,_,rfl,rfl,rfl,Below.refl _ _⟩
    | 5,_,ho,hd =>
      obtain rfl:=wa0 ho;refine wpOp_step rfl (fun K hK=>?_);refine (if_pos (by rfl)).mpr ?_;have q0:=got (h.gd 1 rfl hd rfl);have q1:=got (h.gd 2 rfl hd rfl);have q2:=got (h.gd 4 rfl hd rfl);have hbs:=h.below.size
      go_simp
      refine (Xk A n c (Qd s.keys) f (f+1) none 0 0 [] wx (Xl.out.ke.kept h.below) (Qm _) (Ln.none_ _ 1) (fun u hu=>by simp at hu) (by omega) (by omega) hn (by omega)).mono ?_;rintro e w3 ⟨v3,rfl,o3,b3⟩;rw [show ([]:List Value)=Qd [] from rfl,Gm] at o3;exact hK _ _ ⟨v3,_,rfl,rfl,Qy o3 rfl (by omega),b3⟩
    | 6,_,ho,hd =>
      obtain rfl:=wa0 ho;refine wpOp_step rfl (fun K hK=>?_);refine (if_pos (by rfl)).mpr ?_;have q0:=got e2
      go_simp
      exact hK _ _ ⟨_,_,rfl,rfl,rfl,Below.refl _ _⟩
    | 7,_,ho,hd =>
      obtain rfl:=wa0 ho;refine wpOp_step rfl (fun K hK=>?_);refine (if_pos (by rfl)).mpr ?_;have q0:=got (h.gd 6 rfl hd rfl)
      go_simp
      exact hK _ _ ⟨_,_,rfl,rfl,rfl,Below.refl _ _⟩
    | 8,_,ho,hd =>
      obtain rfl:=wa0 ho;refine wpOp_step rfl (fun K hK=>?_);refine (if_pos (by rfl)).mpr ?_;have q0:=got e6
      go_simp
      exact hK _ _ ⟨_,_,rfl,rfl,rfl,Below.refl _ _⟩
    | 9,_,ho,hd =>
      obtain rfl:=wa0 ho;refine wpOp_step rfl (fun K hK=>?_);refine (if_pos (by rfl)).mpr ?_;have q0:=got e6
      go_simp
      exact hK _ _ ⟨_,_,rfl,rfl,rfl,Below.refl _ _⟩
    | 10,_,ho,hd =>
      obtain rfl:=wa0 ho;refine wpOp_step rfl (fun K hK=>?_);refine (if_pos (by rfl)).mpr ?_;have q0:=got (h.gd 9 rfl hd rfl);have hw:=HW1.out
      go_simp
      exact hK _ _ ⟨_,_,rfl,rfl,rfl,Below.refl _ _⟩
    | 11,_,ho,hd =>
      obtain rfl:=wa0 ho;refine wpOp_step rfl (fun K hK=>?_);refine (if_pos (by rfl)).mpr ?_;have q0:=got (h.gd 7 rfl hd rfl);have q1:=got (h.gd 8 rfl hd rfl);have q2:=got (h.gd 10 rfl hd rfl);have hbs:=h.below.size
      go_simp
      refine (Xk B n d (Qd s.vals) f (f+1) none 0 0 [] wx (Xl.out.va.kept h.below) (Qm _) (Ln.none_ _ 1) (fun u hu=>by simp at hu) (by omega) (by omega) hn (by omega)).mono ?_;rintro e w3 ⟨v3,rfl,o3,b3⟩;rw [show ([]:List Value)=Qd [] from rfl,Gm] at o3;exact hK _ _ ⟨v3,_,rfl,rfl,Qy o3 rfl (by omega),b3⟩
    | 12,_,ho,hd =>
      obtain rfl:=wa0 ho;refine wpOp_step rfl (fun K hK=>?_);refine (if_pos (by rfl)).mpr ?_;obtain ⟨A1,a1,z1,l1,i1,_⟩:=(h.gd 5 rfl hd rfl);obtain ⟨A2,a2,z2,l2,i2,_⟩:=(h.gd 11 rfl hd rfl);have y1:=got z1;have y2:=got z2
      go_simp
      exact hK _ _ ⟨_,_,rfl,rfl,⟨A1,_,a1,A2,_,a2,none,0,0,rfl,⟨l1,l2,Ln.none_ _ 1⟩,i1,i2,Yp.none_ _⟩,Below.refl _ _⟩
    | j+13,hi,_,_=>exact absurd hi (by omega)
   ·intro mm L a wx h hd
    refine wpAny_ready (rs:=[13]) (by decide +kernel) (by simp) (AllReady.cons rfl (fun K hK=>?_) AllReady.nil);refine (if_pos (by rfl)).mpr ?_;have hn4:=h.got 12 _ _ rfl (by decide) (hd 12 (by decide)) rfl;obtain ⟨A',n',c',B',m',d',C',k',e',ev,_,_,_,_⟩:=id hn4;have q:=got ev;have q2:=got ((h.old 4 (by kernel_rfl)).trans rfl:a.eval (.tmp 4) = .pointer (some ⟨w.heap.size+1,0,none⟩));have HR2:=iQ (HR1.out.kept h.below);obtain ⟨x0,x1,x2,x3⟩:=HR2.out.cells;obtain ⟨f0,f1,f2,f3⟩:=HR2.out.free
    go_simp
    refine hK _ _ ?_;refine wpAny_ready (rs:=[14]) (by decide +kernel) (by simp) (AllReady.cons rfl (fun K hK=>?_) AllReady.nil);refine (if_pos (by rfl)).mpr ?_
    go_simp
    refine hK _ _ ?_;refine wpAny_done (by decide +kernel) ?_ _;have HD:=iQ (Ub (Qe h.below B1.out) (wd3 _) hn4 (.bool (⟨true,ND.rep s.keys f (f+1) [],ND.rep s.vals f (f+1) [],[]⟩:ND).leaf) (.slice A' n' c') (.slice B' m' d') (.slice C' k' e'));rw [ev] at HD;obtain ⟨y0,y1,y2,y3⟩:=(HR2.out.put (.bool (⟨true,ND.rep s.keys f (f+1) [],ND.rep s.vals f (f+1) [],[]⟩:ND).leaf) (.slice A' n' c') (.slice B' m' d') (.slice C' k' e')).cells;refine HM _ _ ?_;refine wp_ret ?_;have hsz:5<a.tmps.size:=by rw [h.sz];show 5<36;decide
    refine bodyPost_ret (v := .tuple #[.agg #[.bool (⟨true,ND.rep s.keys f (f+1) [],ND.rep s.vals f (f+1) [],[]⟩:ND).leaf,.slice A' n' c',.slice B' m' d',.slice C' k' e'],.bool true]) (by simp [results,Tryz.results141,go_sem,q2,y0,y1,y2,y3,hsz]) (h.df.trans rfl) ?_;exact ⟨_,by rw [HI.out],by rw [HP.out,HRD.out];exact HD.out.1,HD.out.2⟩
 | false =>
   have HP:=iQ (ND.remove_new his);have HI:=iQ his;clear his;obtain ⟨c0,c1,c2,c3⟩:=HB1.out.cells;go_wp2_with fail;refine (Vy true A n c B n d C 0 e s w1 Xl.out HL.out (by omega) (by omega) (by omega)).mono ?_;rintro e2 w2 ⟨v2,rfl,n2,b2⟩;have N2:=iQ n2;obtain ⟨A',n',c',B',m',d',C',k',e',rfl,_,_,_,_⟩:=n2;have HR2:=iQ (HR1.out.kept b2);have HD:=iQ (YA B1.out (wd3 _) HR1.out.lt N2.out b2 (.bool s.leaf) (.slice A' n' c') (.slice B' m' d') (.slice C' k' e'));obtain ⟨y0,y1,y2,y3⟩:=(HR2.out.put (.bool s.leaf) (.slice A' n' c') (.slice B' m' d') (.slice C' k' e')).cells;obtain ⟨f0,f1,f2,f3⟩:=HR2.out.free;obtain ⟨x0,x1,x2,x3⟩:=HR2.out.cells;clear b2 c0 c1 c2 c3;go_wp2_with fail;refine bodyPost_ret (v := .tuple #[.agg #[.bool s.leaf,.slice A' n' c',.slice B' m' d',.slice C' k' e'],.bool false]) (by simp [results,Tryz.results141,go_sem,y0,y1,y2,y3]) rfl ?_;exact ⟨_,by rw [HI.out],by rw [HP.out];exact HD.out.1,HD.out.2⟩
def zp8 (g r:Nat) (A:Option Addr) (n c:Nat) (B:Option Addr) (m d:Nat) (C:Option Addr) (k e:Nat) (s:ND) (f t:Nat) (D:Option Addr) (q dq:Nat) (E:Option Addr) (p ep:Nat) (u:ND):List SP :=
 [.is (.pointer (some ⟨g,0,none⟩)),.is (.bool false),.is (.pointer (some ⟨g,1,none⟩)),.is (.slice A n c),.is (.int .i64 f),.is (.int .i64 ((t+1:Nat):Int)),.is (.int .i64 t),.is (.slice E p ep),.ln (r+1) (f+p+(n - t)) (Qd u.keys),
  .is (.pointer (some ⟨g,2,none⟩)),.is (.slice B m d),.pile 1 [⟨B,m,d,Qd s.vals⟩],.ln (r+1) m (Qd s.vals),
  .is (.pointer (some ⟨g,3,none⟩)),.is (.slice C k e),.is (.int .i64 f),.is (.int .i64 ((t+1:Nat):Int)),.is (.slice D q dq),.ln (r+1) (f+q+(k - (t+1))) (Qc u.kids),.nd (r+1) u]
theorem qi8 {s:ND} {f t:Int} {ks:List Int} {zs:List (List UInt8)}:s.mayR f t ks zs=true ↔ 0<=f/\f<t/\t<=s.kids.length/\zs.length+1=ks.length:=by
 unfold ND.mayR;rw [wc1,wc1,wc1,decide_eq_true_eq,decide_eq_true_eq,decide_eq_true_eq,decide_eq_true_eq]
theorem Gp {s:ND} {f t:Int} {ks:List Int} {zs:List (List UInt8)} (h:¬ (0<=f/\f<t/\t<=s.kids.length/\zs.length+1=ks.length)):s.replace f t ks zs=s:=by
 unfold ND.replace;rw [if_neg (fun e=>h (qi8.1 e))]
theorem qh0 {s:ND} {f t:Nat} {ks:List Int} {zs:List (List UInt8)} (h1:f<=t) (h2:t+1<=s.kids.length) (h3:zs.length+1=ks.length):s.replace (f:Int) ((t+1:Nat):Int) ks zs=⟨s.leaf,ND.rep s.keys f t zs,s.vals,ND.rep s.kids f (t+1) ks⟩:=by
 unfold ND.replace;rw [if_pos (qi8.2 ⟨by omega,by omega,by omega,h3⟩)];rfl
theorem qh1 (A:Option Addr) (n c:Nat) (B:Option Addr) (m d:Nat) (C:Option Addr) (k e:Nat) (s:ND) (f t:Int) (D:Option Addr) (q dq:Nat) (ks:List Int) (E:Option Addr) (p ep:Nat) (zs:List (List UInt8)) (w:World)
 (h:Nd w A n c B m d C k e s) (g1:Ln w 1 D q dq (Qc ks)) (g2:Ln w 1 E p ep (Qd zs)) (hl:s.leaf=false) (ho:s.ok=true) (hn:n<=300000) (hq:q<=10) (hp:p<=10) (hm:m<=300000) (hk:k<=300000) :
 Calls Tryz.prog 138 #[.agg #[.bool false,.slice A n c,.slice B m d,.slice C k e],.int .i64 f,.int .i64 t,.slice D q dq,.slice E p ep] w (qz7 w (s.replace f t ks zs)):=by
 have hkn:k=n+1:=by rw [<- h.cn,<- h.kn];exact (ND.ok_inner ho hl).2.1
 have HKN:k<=n+1/\n+1<=k:=by omega
 have HQ:=iQ g1.intN;have HPn:=iQ g2.strN;have HC:=iQ h.cn;have G10:=iQ g1;have G20:=iQ g2;clear ho hkn g1 g2;obtain ⟨Vh,tb2,Xm⟩:=Jr w (.bool false) (.slice A n c) (.slice B m d) (.slice C k e);have HS:=iQ (h.kept Xm);have HB:=iQ Vh;have HR:=iQ tb2;have B0:=iQ Xm;have HL:=iQ hl;clear h hl Vh tb2 Xm;have G1:=iQ (G10.out.kept B0.out);have G2:=iQ (G20.out.kept B0.out);clear G10 G20;go_enter Tryz.func138,Tryz.ntmps138;go_upto_region 1 with fail
 generalize (w.alloc (.cells #[.bool false,.slice A n c,.slice B m d,.slice C k e] 75)).alloc (.cells #[.bool false,.slice none 0 0,.slice none 0 0,.slice none 0 0] 75)=w0 at *;obtain ⟨c0,c1,c2,c3⟩:=HB.out.cells;have hg:=HB.out.lt;have hr:=HR.out.lt;by_cases h1:0<=f;case neg =>
  have h1':f<0:=by omega
  have z1:decide (0<=f)=false:=decide_eq_false h1;clear h1;have HP:=iQ (Gp (s:=s) (f:=f) (t:=t) (ks:=ks) (zs:=zs) (by rw [HC.out,HPn.out,HQ.out];omega));go_wp2_with fail;refine (Vy false A n c B m d C k e s w0 HS.out HL.out (by omega) (by omega) (by omega)).mono ?_;rintro e2 w2 ⟨v2,rfl,n2,b2⟩;have N2:=iQ n2;obtain ⟨A',n',c',B',m',d',C',k',e',rfl,_,_,_,_⟩:=n2;have HR2:=iQ (HR.out.kept b2);have HD:=iQ (YA B0.out (wd3 _) HR.out.lt N2.out b2 (.bool s.leaf) (.slice A' n' c') (.slice B' m' d') (.slice C' k' e'));obtain ⟨y0,y1,y2,y3⟩:=(HR2.out.put (.bool s.leaf) (.slice A' n' c') (.slice B' m' d') (.slice C' k' e')).cells;obtain ⟨f0,f1,f2,f3⟩:=HR2.out.free;obtain ⟨x0,x1,x2,x3⟩:=HR2.out.cells;clear b2 c0 c1 c2 c3;go_wp2_with fail;refine bodyPost_ret (v := .agg #[.bool s.leaf,.slice A' n' c',.slice B' m' d',.slice C' k' e']) (by simp [results,Tryz.results138,go_sem,y0,y1,y2,y3]) rfl ?_;exact ⟨_,rfl,by rw [HP.out];exact HD.out.1,HD.out.2⟩
 by_cases h2:f<t;case neg =>
  have h2':t<=f:=by omega
  have z1:decide (0<=f)=true:=decide_eq_true h1;have z2:decide (f<t)=false:=decide_eq_false h2;clear h2;have HP:=iQ (Gp (s:=s) (f:=f) (t:=t) (ks:=ks) (zs:=zs) (by rw [HC.out,HPn.out,HQ.out];omega));go_wp2_with fail;refine (Vy false A n c B m d C k e s w0 HS.out HL.out (by omega) (by omega) (by omega)).mono ?_;rintro e2 w2 ⟨v2,rfl,n2,b2⟩;have N2:=iQ n2;obtain ⟨A',n',c',B',m',d',C',k',e',rfl,_,_,_,_⟩:=n2;have HR2:=iQ (HR.out.kept b2);have HD:=iQ (YA B0.out (wd3 _) HR.out.lt N2.out b2 (.bool s.leaf) (.slice A' n' c') (.slice B' m' d') (.slice C' k' e'));obtain ⟨y0,y1,y2,y3⟩:=(HR2.out.put (.bool s.leaf) (.slice A' n' c') (.slice B' m' d') (.slice C' k' e')).cells;obtain ⟨f0,f1,f2,f3⟩:=HR2.out.free;obtain ⟨x0,x1,x2,x3⟩:=HR2.out.cells;clear b2 c0 c1 c2 c3;go_wp2_with fail;refine bodyPost_ret (v := .agg #[.bool s.leaf,.slice A' n' c',.slice B' m' d',.slice C' k' e']) (by simp [results,Tryz.results138,go_sem,y0,y1,y2,y3]) rfl ?_;exact ⟨_,rfl,by rw [HP.out];exact HD.out.1,HD.out.2⟩
 by_cases h3:t<=(k:Int);case neg =>
  have h3':(k:Int)<t:=by omega
  have z1:decide (0<=f)=true:=decide_eq_true h1;have z2:decide (f<t)=true:=decide_eq_true h2;have z3:decide (t<=(k:Int))=false:=decide_eq_false h3;clear h3;have HP:=iQ (Gp (s:=s) (f:=f) (t:=t) (ks:=ks) (zs:=zs) (by rw [HC.out,HPn.out,HQ.out];omega));go_wp2_with fail;refine (Vy false A n c B m d C k e s w0 HS.out HL.out (by omega) (by omega) (by omega)).mono ?_;rintro e2 w2 ⟨v2,rfl,n2,b2⟩;have N2:=iQ n2;obtain ⟨A',n',c',B',m',d',C',k',e',rfl,_,_,_,_⟩:=n2;have HR2:=iQ (HR.out.kept b2);have HD:=iQ (YA B0.out (wd3 _) HR.out.lt N2.out b2 (.bool s.leaf) (.slice A' n' c') (.slice B' m' d') (.slice C' k' e'));obtain ⟨y0,y1,y2,y3⟩:=(HR2.out.put (.bool s.leaf) (.slice A' n' c') (.slice B' m' d') (.slice C' k' e')).cells;obtain ⟨f0,f1,f2,f3⟩:=HR2.out.free;obtain ⟨x0,x1,x2,x3⟩:=HR2.out.cells;clear b2 c0 c1 c2 c3;go_wp2_with fail;refine bodyPost_ret (v := .agg #[.bool s.leaf,.slice A' n' c',.slice B' m' d',.slice C' k' e']) (by simp [results,Tryz.results138,go_sem,y0,y1,y2,y3]) rfl ?_;exact ⟨_,rfl,by rw [HP.out];exact HD.out.1,HD.out.2⟩
 by_cases h4:p+1=q;case neg =>
  have z1:decide (0<=f)=true:=decide_eq_true h1;have z2:decide (f<t)=true:=decide_eq_true h2;have z3:decide (t<=(k:Int))=true:=decide_eq_true h3;have z4:((p:Int) != (q:Int) - 1)=true:=by rw [bne_iff_ne];omega
  have z5:¬ (p:Int)=(q:Int) - 1:=by omega
  have h4':p+1<q\/q<p+1:=by omega
  clear h4;have HP:=iQ (Gp (s:=s) (f:=f) (t:=t) (ks:=ks) (zs:=zs) (by rw [HC.out,HPn.out,HQ.out];omega));go_wp2_with fail;refine (Vy false A n c B m d C k e s w0 HS.out HL.out (by omega) (by omega) (by omega)).mono ?_;rintro e2 w2 ⟨v2,rfl,n2,b2⟩;have N2:=iQ n2;obtain ⟨A',n',c',B',m',d',C',k',e',rfl,_,_,_,_⟩:=n2;have HR2:=iQ (HR.out.kept b2);have HD:=iQ (YA B0.out (wd3 _) HR.out.lt N2.out b2 (.bool s.leaf) (.slice A' n' c') (.slice B' m' d') (.slice C' k' e'));obtain ⟨y0,y1,y2,y3⟩:=(HR2.out.put (.bool s.leaf) (.slice A' n' c') (.slice B' m' d') (.slice C' k' e')).cells;obtain ⟨f0,f1,f2,f3⟩:=HR2.out.free;obtain ⟨x0,x1,x2,x3⟩:=HR2.out.cells;clear b2 c0 c1 c2 c3;go_wp2_with fail;refine bodyPost_ret (v := .agg #[.bool s.leaf,.slice A' n' c',.slice B' m' d',.slice C' k' e']) (by simp [results,Tryz.results138,go_sem,y0,y1,y2,y3]) rfl ?_;exact ⟨_,rfl,by rw [HP.out];exact HD.out.1,HD.out.2⟩
 obtain ⟨f,rfl⟩:∃ f':Nat,f=(f':Int):=⟨f.toNat,by omega⟩;obtain ⟨t,rfl⟩:∃ t':Nat,t=((t'+1:Nat):Int):=⟨t.toNat - 1,by omega⟩;have HP:=iQ (qh0 (s:=s) (f:=f) (t:=t) (ks:=ks) (zs:=zs) (by omega) (by rw [HC.out];omega) (by rw [HPn.out,HQ.out];exact h4));have z1:decide (0<=(f:Int))=true:=decide_eq_true h1;have z2:decide ((f:Int)<((t+1:Nat):Int))=true:=decide_eq_true h2;have z3:decide (((t+1:Nat):Int)<=(k:Int))=true:=decide_eq_true h3;have z4:((p:Int) != (q:Int) - 1)=false:=by rw [bne_eq_false_iff_eq];omega
 have hft:f<=t:=by omega
 have htk:t+1<=k:=by omega
 have hw1:IntKind.i64.wrap (t:Int)=(t:Int):=IntWalk.i64_in _ (by omega);have HW1:=iQ hw1;clear hw1 h1 h2 h3 h4;generalize hT:((t+1:Nat):Int)=T at *;have HT:=iQ hT;clear hT;go_upto_region 4 with fail
 clear c0 c1 c2 c3 z1 z2 z3 z4;rename_i KK HM;refine Qz 20 1 (SP.at_ (zp8 w.heap.size (w.heap.size+1) A n c B m d C k e s f t D q dq E p ep ⟨s.leaf,ND.rep s.keys f t zs,s.vals,ND.rep s.kids f (t+1) ks⟩)) (by kernel_rfl) rfl (by kernel_rfl) (by kernel_rfl) (by kernel_rfl) (SP.at_st _) ?_ ?_
 ·intro i o L a wx hi ho h hd
  have e5:a.eval (.tmp 5) = .pointer (some ⟨w.heap.size,0,none⟩):=(h.old 5 (by kernel_rfl)).trans rfl;have e1:a.eval (.tmp 1) = .int .i64 (f:Int):=(h.old 1 (by kernel_rfl)).trans rfl;have e2:a.eval (.tmp 2) = .int .i64 ((t+1:Nat):Int):=(h.old 2 (by kernel_rfl)).trans (by rw [HT.out];rfl);have e3:a.eval (.tmp 3) = .slice D q dq:=(h.old 3 (by kernel_rfl)).trans rfl;have e4:a.eval (.tmp 4) = .slice E p ep:=(h.old 4 (by kernel_rfl)).trans rfl;obtain ⟨c0,c1,c2,c3⟩:=(HB.out.kept h.below).cells
  match i,hi,ho,hd with
  | 0,_,ho,hd =>
    obtain rfl:=wa0 ho;refine wpOp_step rfl (fun K hK=>?_);refine (if_pos (by rfl)).mpr ?_;have q0:=got e5
    go_simp
    exact hK _ _ ⟨_,_,rfl,rfl,rfl,Below.refl _ _⟩
  | 1,_,ho,hd =>
    obtain rfl:=wa0 ho;refine wpOp_step rfl (fun K hK=>?_);refine (if_pos (by rfl)).mpr ?_;have q0:=got (h.gd 0 rfl hd rfl)
    go_simp
    exact hK _ _ ⟨_,_,rfl,rfl,rfl,Below.refl _ _⟩
  | 2,_,ho,hd =>
    obtain rfl:=wa0 ho;refine wpOp_step rfl (fun K hK=>?_);refine (if_pos (by rfl)).mpr ?_;have q0:=got e5
    go_simp
    exact hK _ _ ⟨_,_,rfl,rfl,rfl,Below.refl _ _⟩
  | 3,_,ho,hd =>
    obtain rfl:=wa0 ho;refine wpOp_step rfl (fun K hK=>?_);refine (if_pos (by rfl)).mpr ?_;have q0:=got (h.gd 2 rfl hd rfl)
    go_simp
    exact hK _ _ ⟨_,_,rfl,rfl,rfl,Below.refl _ _⟩
  | 4,_,ho,hd =>
    obtain rfl:=wa0 ho;refine wpOp_step rfl (fun K hK=>?_);refine (if_pos (by rfl)).mpr ?_;have q0:=got e1
    go_simp
    exact hK _ _ ⟨_,_,rfl,rfl,rfl,Below.refl _ _⟩
  | 5,_,ho,hd =>
    obtain rfl:=wa0 ho;refine wpOp_step rfl (fun K hK=>?_);refine (if_pos (by rfl)).mpr ?_;have q0:=got e2
    go_simp
    exact hK _ _ ⟨_,_,rfl,rfl,rfl,Below.refl _ _⟩
  | 6,_,ho,hd =>
    obtain rfl:=wa0 ho;refine wpOp_step rfl (fun K hK=>?_);refine (if_pos (by rfl)).mpr ?_;have q0:=got (h.gd 5 rfl hd rfl);have hw:=HW1.out
    go_simp
    exact hK _ _ ⟨_,_,rfl,rfl,rfl,Below.refl _ _⟩
  | 7,_,ho,hd =>
    obtain rfl:=wa0 ho;refine wpOp_step rfl (fun K hK=>?_);refine (if_pos (by rfl)).mpr ?_;have q0:=got e4
    go_simp
    exact hK _ _ ⟨_,_,rfl,rfl,rfl,Below.refl _ _⟩
  | 8,_,ho,hd =>
    obtain rfl:=wa0 ho;refine wpOp_step rfl (fun K hK=>?_);refine (if_pos (by rfl)).mpr ?_;have q0:=got (h.gd 3 rfl hd rfl);have q1:=got (h.gd 4 rfl hd rfl);have q2:=got (h.gd 6 rfl hd rfl);have q3:=got (h.gd 7 rfl hd rfl);have hbs:=h.below.size
    go_simp
    refine (Xk A n c (Qd s.keys) f t E p ep (Qd zs) wx (HS.out.ke.kept h.below) (Qm _) (G2.out.kept h.below) (Qm _) (by omega) (by omega) hn (by omega)).mono ?_;rintro e w3 ⟨v3,rfl,o3,b3⟩;rw [Gm] at o3;exact hK _ _ ⟨v3,_,rfl,rfl,Qy o3 rfl (by omega),b3⟩
  | 9,_,ho,hd =>
    obtain rfl:=wa0 ho;refine wpOp_step rfl (fun K hK=>?_);refine (if_pos (by rfl)).mpr ?_;have q0:=got e5
    go_simp
    exact hK _ _ ⟨_,_,rfl,rfl,rfl,Below.refl _ _⟩
  | 10,_,ho,hd =>
    obtain rfl:=wa0 ho;refine wpOp_step rfl (fun K hK=>?_);refine (if_pos (by rfl)).mpr ?_;have q0:=got (h.gd 9 rfl hd rfl)
    go_simp
    exact hK _ _ ⟨_,_,rfl,rfl,rfl,Below.refl _ _⟩
  | 11,_,ho,hd =>
    obtain rfl:=wa0 ho;refine wpOp_step rfl (fun K hK=>?_);refine (if_pos (by rfl)).mpr ?_;have q10:=got (h.gd 10 rfl hd rfl)
    go_simp
    exact hK _ _ ⟨_,_,rfl,rfl,⟨_,rfl,Za (HS.out.va.kept h.below) (Qm _) _⟩,Qa _ _⟩
  | 12,_,ho,hd =>
    obtain rfl:=wa0 ho;refine wpOp_step rfl (fun K hK=>?_);refine (if_pos (by rfl)).mpr ?_;obtain ⟨p9,ep9,hp9⟩:=(h.gd 11 rfl hd rfl);have q0:=got ep9;have hbs:=h.below.size
    go_simp
    refine (Xd _ 1 1 m _ wx hp9 rfl (by simp [Xn]) (by omega) (by decide)).mono ?_;rintro e w3 ⟨v3,rfl,o3,b3⟩;rw [Xa] at o3;exact hK _ _ ⟨v3,_,rfl,rfl,Qy o3 rfl (by omega),b3⟩
  | 13,_,ho,hd =>
    obtain rfl:=wa0 ho;refine wpOp_step rfl (fun K hK=>?_);refine (if_pos (by rfl)).mpr ?_;have q0:=got e5
    go_simp
    exact hK _ _ ⟨_,_,rfl,rfl,rfl,Below.refl _ _⟩
  | 14,_,ho,hd =>
    obtain rfl:=wa0 ho;refine wpOp_step rfl (fun K hK=>?_);refine (if_pos (by rfl)).mpr ?_;have q0:=got (h.gd 13 rfl hd rfl)
    go_simp
    exact hK _ _ ⟨_,_,rfl,rfl,rfl,Below.refl _ _⟩
  | 15,_,ho,hd =>
    obtain rfl:=wa0 ho;refine wpOp_step rfl (fun K hK=>?_);refine (if_pos (by rfl)).mpr ?_;have q0:=got e1
    go_simp
    exact hK _ _ ⟨_,_,rfl,rfl,rfl,Below.refl _ _⟩
  | 16,_,ho,hd =>
    obtain rfl:=wa0 ho;refine wpOp_step rfl (fun K hK=>?_);refine (if_pos (by rfl)).mpr ?_;have q0:=got e2
    go_simp
    exact hK _ _ ⟨_,_,rfl,rfl,rfl,Below.refl _ _⟩
  | 17,_,ho,hd =>
    obtain rfl:=wa0 ho;refine wpOp_step rfl (fun K hK=>?_);refine (if_pos (by rfl)).mpr ?_;have q0:=got e3
    go_simp
    exact hK _ _ ⟨_,_,rfl,rfl,rfl,Below.refl _ _⟩
  | 18,_,ho,hd =>
    obtain rfl:=wa0 ho;refine wpOp_step rfl (fun K hK=>?_);refine (if_pos (by rfl)).mpr ?_;have q0:=got (h.gd 14 rfl hd rfl);have q1:=got (h.gd 15 rfl hd rfl);have q2:=got (h.gd 16 rfl hd rfl);have q3:=got (h.gd 17 rfl hd rfl);have hbs:=h.below.size
    go_simp
    refine (ql6 C k e (Qc s.kids) f (t+1) D q dq (Qc ks) wx (HS.out.ki.kept h.below) (Qr _) (G1.out.kept h.below) (Qr _) (by omega) (by omega) hk (by omega)).mono ?_;rintro e w3 ⟨v3,rfl,o3,b3⟩;rw [zc0] at o3;exact hK _ _ ⟨v3,_,rfl,rfl,Qy o3 rfl (by omega),b3⟩
  | 19,_,ho,hd =>
    obtain rfl:=wa0 ho;refine wpOp_step rfl (fun K hK=>?_);refine (if_pos (by rfl)).mpr ?_;have q1:=got (h.gd 1 rfl hd rfl);obtain ⟨A1,a1,z1,l1,i1,_⟩:=(h.gd 8 rfl hd rfl);obtain ⟨A2,a2,z2,l2,i2,_⟩:=(h.gd 12 rfl hd rfl);obtain ⟨A3,a3,z3,l3,i3,_⟩:=(h.gd 18 rfl hd rfl);have y1:=got z1;have y2:=got z2;have y3:=got z3
    go_simp
    exact hK _ _ ⟨_,_,rfl,rfl,⟨A1,_,a1,A2,_,a2,A3,_,a3,by rw [HL.out],⟨l1,l2,l3⟩,i1,i2,i3⟩,Below.refl _ _⟩
  | j+20,hi,_,_=>exact absurd hi (by omega)
 ·intro mm L a wx h hd
  refine wpAny_ready (rs:=[20]) (by decide +kernel) (by simp) (AllReady.cons rfl (fun K hK=>?_) AllReady.nil);refine (if_pos (by rfl)).mpr ?_;have hn4:=h.got 19 _ _ rfl (by decide) (hd 19 (by decide)) rfl;obtain ⟨A',n',c',B',m',d',C',k',e',ev,_,_,_,_⟩:=id hn4;have q:=got ev;have q2:=got ((h.old 10 (by kernel_rfl)).trans rfl:a.eval (.tmp 10) = .pointer (some ⟨w.heap.size+1,0,none⟩));have HR2:=iQ (HR.out.kept h.below);obtain ⟨x0,x1,x2,x3⟩:=HR2.out.cells;obtain ⟨f0,f1,f2,f3⟩:=HR2.out.free
  go_simp
  refine hK _ _ ?_;refine wpAny_done (by decide +kernel) ?_ _;have HD:=iQ (Ub (Qe h.below B0.out) (wd3 _) hn4 (.bool (⟨s.leaf,ND.rep s.keys f t zs,s.vals,ND.rep s.kids f (t+1) ks⟩:ND).leaf) (.slice A' n' c') (.slice B' m' d') (.slice C' k' e'));rw [ev] at HD;obtain ⟨y0,y1,y2,y3⟩:=(HR2.out.put (.bool (⟨s.leaf,ND.rep s.keys f t zs,s.vals,ND.rep s.kids f (t+1) ks⟩:ND).leaf) (.slice A' n' c') (.slice B' m' d') (.slice C' k' e')).cells;refine HM _ _ ?_;refine wp_ret ?_;refine bodyPost_ret (v := .agg #[.bool (⟨s.leaf,ND.rep s.keys f t zs,s.vals,ND.rep s.kids f (t+1) ks⟩:ND).leaf,.slice A' n' c',.slice B' m' d',.slice C' k' e']) (by simp [results,Tryz.results138,go_sem,q2,y0,y1,y2,y3]) (h.df.trans rfl) ?_;exact ⟨_,rfl,by rw [HP.out];exact HD.out.1,HD.out.2⟩
def Qg:List TT.E->List Value
 | []=>[]
 | x::l => .string (tb x.1) :: .string (tb x.2)::Qg l
theorem Jj:∀ l,(Qg l).length=l.length*2
 | []=>rfl
 | p::ps=>by simp only [Qg,List.length_cons,Jj ps];omega
theorem Zg:∀ ps qs,Qg (ps++qs)=Qg ps++Qg qs
 | [],_=>rfl
 | p::ps,qs=>by simp only [List.cons_append,Qg,Zg ps qs]
theorem MZ:∀ (ps:List TT.E) (i:Nat) (p:TT.E),ps[i]?=some p->(Qg ps)[i*2]?=some (.string (tb p.1))/\(Qg ps)[i*2+1]?=some (.string (tb p.2))
 | [],i,p,h=>by simp at h
 | x::ps,0,p,h=>by
   obtain rfl:x=p:=by simpa using h
   exact ⟨rfl,rfl⟩
 | x::ps,i+1,p,h=>by
   have:=MZ ps i p (by simpa using h);have e:(i+1)*2=i*2+1+1:=by omega
   rw [e];simpa [Qg] using this
theorem XU:∀ (ps:List TT.E) (k:Nat),(Qg ps).take (k*2)=Qg (ps.take k)
 | [],k=>by simp [Qg]
 | x::ps,0=>by simp [Qg]
 | x::ps,k+1=>by
   rw [show (k+1)*2=k*2+1+1 by omega];simp only [Qg,List.take_succ_cons,XU ps k]
theorem XG:∀ (ps:List TT.E) (k:Nat),(Qg ps).drop (k*2)=Qg (ps.drop k)
 | [],k=>by simp [Qg]
 | x::ps,0=>by simp [Qg]
 | x::ps,k+1=>by
   rw [show (k+1)*2=k*2+1+1 by omega];simp only [Qg,List.drop_succ_cons,XG ps k]
theorem Yc (ps:List TT.E):∀ u∈Qg ps,u.oneCell'=true:=by
 induction ps with
 | nil=>intro u hu;simp [Qg] at hu
 | cons p ps ih =>
   intro u hu;unfold Qg at hu;rcases wb6.1 hu with rfl | hu
   ·rfl
   ·rcases wb6.1 hu with rfl | hu
    ·rfl
    ·exact ih u hu
section
variable {w w':World} {A:Option Addr} {n c:Nat} {es:List TT.E}
theorem Ln.entN (h:Ln w 2 A n c (Qg es)):es.length=n:=by
 have:=h.len;rw [Jj] at this;omega
theorem Ln.entAt (h:Ln w 2 A n c (Qg es)) {k:Nat} (hk:k<n) :
 ∃ b off x y,A=some ⟨b,off,none⟩/\es[k]?=some (x.toList,y.toList)/\w.cell? ⟨b,off+k*2,none⟩=some (.string x)/\w.cell? ⟨b,off+k*2+1,none⟩=some (.string y):=by
 have hl:=h.entN;obtain ⟨b,off,rfl,_⟩:=h.spot (by rw [Jj];omega);have hp:es[k]?=some es[k]:=wb1 (by omega);obtain ⟨h1,h2⟩:=MZ es k _ hp;refine ⟨b,off,tb (es[k]).1,tb (es[k]).2,rfl,?_,h.cell h1,h.cell h2⟩;rw [hp,GY,GY]
end
def UF (w:World) (g:Nat) (A:Option Addr) (n c:Nat):Prop:=w.heap[g]?=some (.cells #[.slice A n c] 36 (0,0))
section
variable {w w':World} {A:Option Addr} {g n c:Nat} {es:List TT.E}
theorem UF.lt (h:UF w g A n c):g<w.heap.size:=(wa1.1 h).1
theorem UF.kept (h:UF w g A n c) (hb:Below w.heap.size w w'):UF w' g A n c:=(hb.block g h.lt).trans h
theorem UF.cell (h:UF w g A n c):w.cell? ⟨g,0,none⟩=some (.slice A n c):=(cell_of_row w g 0 _ _ _ h).trans rfl
theorem UF.free (h:UF w g A n c):w.frozen? ⟨g,0,none⟩=false:=frozen_of_row w g 0 _ _ h
theorem PK (w:World) (key:ByteArray) (hb:UF w g A n c) (h:Ln w 2 A n c (Qg es)) (hn:n<=1000000) :
 Calls Tryz.prog 139 #[.pointer (some ⟨g,0,none⟩),.string key] w (qm6 w (TT.placeE key.toList es) (TT.isE key.toList es)):=by
 have c0:=hb.cell;have H1:=iQ h;have HN:=iQ h.entN;have HKN:Hid ((TT.keysE es).length=n):=iQ (by unfold TT.keysE;rw [wd2];exact h.entN);have HK:Hid (∀ (k:Nat) (x y:ByteArray),es[k]?=some (x.toList,y.toList)->(TT.keysE es)[k]?=some x.toList):=iQ (fun k x y hk=>by unfold TT.keysE;rw [wc7,hk];rfl);clear h hb;unfold TT.placeE TT.isE;generalize TT.keysE es=ks at *;go_enter Tryz.func139,Tryz.ntmps139;go_wp2_with fail;go_loop [6] (fun i=>∃ j:Nat,j<=n/\i = .int .i64 j/\Hid (∀ i t,i<j->ks[i]?=some t->Op.bytesLess t key.toList=true)) (fun i=>n - (RowKit.intOf i).toNat)
 case atStart=>exact ⟨0,wb3 _,rfl,iQ (fun i t hi=>absurd hi (by omega))⟩
 case round =>
  obtain ⟨j,hj,rfl,HA⟩:=hrel;by_cases hlt:j<n
  ·obtain ⟨b,off,t,y,rfl,hv',f0,f1⟩:=H1.out.entAt hlt
   have hv:=HK.out j t y hv';clear hv' f1;cases hb:Op.bytesLess t.toList key.toList with
   | true =>
     have HX:Hid (∀ i t,i<j+1->ks[i]?=some t->Op.bytesLess t key.toList=true):=iQ (fun i u hi hu=>by
      rcases we1 i j with h1 | h1
      ·exact HA.out i u h1 hu
      ·obtain rfl:i=j:=by omega
       rw [hv] at hu;obtain rfl:=wa0 hu;exact hb)
     clear hv;go_wp2_with fail;go_round;case rel=>exact ⟨j+1,by omega,by go_num,HX⟩
     case measure=>simp [RowKit.intOf];omega
   | false =>
     have HE:Hid (j=ND.findN key.toList ks):=iQ (ND.findN_of (by rw [HKN.out];exact hj) HA.out (fun u hu=>by
      rw [hv] at hu;obtain rfl:=wa0 hu;exact hb))
     have HV:=iQ hv;have hd:decide ((j:Int)<(n:Int))=true:=decide_eq_true (by omega);clear hv;go_wp2_with fail;go_quiet (fail)
     go_wp2_with fail;go_ret2;refine ⟨?_,Ya (Below.refl _ _) _⟩;rw [<- HE.out];have e1:ND.isAt key.toList ks=(t.toList==key.toList):=by
      unfold ND.isAt;rw [<- HE.out,HV.out];rw [Bool.eq_iff_iff];simp
     rw [e1];rfl
  ·obtain rfl:n=j:=by omega
   have HE:Hid (n=ND.findN key.toList ks):=iQ (ND.findN_of (by rw [HKN.out];exact wa2 _) HA.out (fun u hu=>by
    have:=(wa8.1 hu).1;rw [HKN.out] at this;omega))
   have e1:Hid (ND.isAt key.toList ks=false):=iQ (ND.isAt_end (by rw [<- HE.out,HKN.out];omega));have hd:decide ((n:Int)<(n:Int))=false:=decide_eq_false (by omega);go_wp2_with fail;go_quiet (fail)
   go_wp2_with fail;go_ret2;refine ⟨?_,Ya (Below.refl _ _) _⟩;rw [<- HE.out,e1.out];rfl
end
end
section
open Go.ChangeShapes Go.WideShapes Go.ChangeAt Go.RowKit Go.Joins Go.Deep
theorem Ho:ownKnob Tryz.prog.godebug=none:=by kernel_rfl
theorem XY:laidOutB Tryz.prog=true:=by kernel_rfl
section
variable {H:Type} {enc:TypeId×Value->H}
theorem AA {P:Program} (hl:laidOutB P=true) {W W':World} (hb:Below W.heap.size W W') :
 ∀ (ts:List TypeId) (vs:List Value) (ds:List (DataW H)) (ps:List MemPlace),(∀ t∈ts,P.readableRec t=true/\t<P.types.size) ->
   DataW.TrodAll enc P W 0 (fun _=>true) true ts vs ds ps->DataW.TrodAll enc P W' 0 (fun b=>decide (b<W.heap.size)) true ts vs ds ps
 | [],_,_,_,_,h=>by
   obtain ⟨rfl,rfl,rfl⟩:=trodAll_nil h;exact trodAll_mk0
 | t::ts,_,_,_,hr,h=>by
   obtain ⟨v,vs,d,ds,p,q,rfl,rfl,rfl,h0,h1⟩:=trodAll_cons h;have lt0:∀ x∈p,x.block<W.heap.size:=by
    obtain ⟨m,hm⟩:=h0;exact DataW.trod_lt m _ _ _ hm
   exact trodAll_cons_mk (Below.trod hl (hr t (by simp)).1 (hr t (by simp)).2 h0 hb lt0) (AA hl hb ts vs ds q (fun u hu=>hr u (by simp [hu])) h1)
theorem Hz {C:Checked} {os:Os} {F:FuncId} {fn:Func} {s:ChangeSpec} {conds:List PathCond} {tb:TypeId}
 (own:ownKnob C.prog.godebug=none) (started:os.Started) (noInit:C.prog.inits.idxOf? F=none) (hfn:C.prog.funcs[F]?=some fn)
 (witness:∃ (w:World) (tape:Tape) (i:Input),w.os=os/\(w.forCall tape i).Shaped C.prog/\i.vars=[]/\Input.okWide C.prog (w.forCall tape i) .any w.heap.size F i /\
   s.pre6 enc C.prog fn conds false (w.forCall tape i).memory i.args/\({}:Assume).holds C.prog (lone (Frame.enter C.prog F i.args .normal) [] (w.forCall tape i)))
 (hl:laidOutB C.prog=true) (hread:∀ t∈fn.params.toList,C.prog.readableRec t=true/\t<C.prog.types.size) (hvars:s.vars=[])
 (hres:fn.resultTypes=#[tb]) (hb:C.prog.underlying tb=some .bool)
 (hspec:∀ (vs:List Value) (ds:List (DataW H)) (W:World) (p:List MemPlace),DataW.TrodAll enc C.prog W 0 (fun _=>true) true fn.params.toList vs ds p ->
   s.fn H ds={ results:=[.lit (.bool true)],args:=ds })
 (walk:∀ (W:World) (base:Nat) (args:Array Value) (ds:List (DataW H)) (p:List MemPlace),
   (∀ (j:Nat) t v,fn.params[j]?=some t->args[j]?=some v->Value.okWide C.prog W .any base t v) ->
   DataW.TrodAll enc C.prog W 0 (fun _=>true) true fn.params.toList args.toList ds p ->
   Calls C.prog F args W fun e W'=>e = .returned (.bool true)/\Below W.heap.size W W') :
 ReturnsInHanded {} C os F .any (s.pre6 enc C.prog fn conds false) (s.post enc C.prog fn false true false false):=by
 refine returnsInHanded_of_change own started noInit hfn witness ?_;intro W base args ds gs before hval hW _ _;have hW':=hW;obtain ⟨p,q,hA,hV,rfl,_,_⟩:=hW;rw [hvars] at hV;obtain ⟨rfl,rfl⟩:=trodVars_none hV;refine (walk W base args ds p hval hA).mono fun e W' ⟨he,bel⟩=>?_;subst he;have hs:=hspec _ _ _ _ hA;refine ⟨_,rfl,ds,[],_,[],p,[],hW',?_,?_,?_,bel.frame _,fun h=>by cases h⟩
 ·rw [wc5,hs,hres]
  exact trodAll_mk1 (shut_bool hb _)
 ·rw [wc5,hs]
  exact AA hl bel _ _ _ _ hread hA
 ·rw [wc5,hs,hvars]
  rfl
end
theorem VS (b off:Nat) (n:Nat):(⟨b,off,none⟩:Addr).add n=⟨b,off+n,none⟩:=by
 unfold Addr.add;split
 ·rename_i h
  have:n=0:=by simpa using h
  subst this;rfl
 ·rfl
theorem JF {α β:Type} (R:Nat->α->Prop) (g:α->β):∀ (n:Nat),(∀ i,i<n->∃ a,R i a)->∃ l:List α,l.length=n/\∀ i a,l[i]?=some a->R i a
 | 0,_=>⟨[],rfl,fun i a h=>by simp at h⟩
 | n+1,h=>by
   obtain ⟨l,hl,hr⟩:=JF R g n (fun i hi=>h i (by omega));obtain ⟨a,ha⟩:=h n (by omega);refine ⟨l++[a],by simp [hl],fun i x hx=>?_⟩;by_cases hi:i<l.length
   ·rw [List.getElem?_append_left hi] at hx
    exact hr i x hx
   ·rw [wd8 (by omega)] at hx
    have h0:i - l.length=0:=by
     rcases Nat.eq_zero_or_pos (i - l.length) with e | e
     ·exact e
     ·have e2:i - l.length=(i - l.length - 1)+1:=by omega
      rw [e2] at hx;simp at hx
    rw [h0] at hx;have e1:i=n:=(by omega);subst e1;obtain rfl:a=x:=(by simpa using hx);exact ha
section
variable {H:Type} {enc:TypeId×Value->H} {w:World} {base:Nat} {spare:Nat->Bool} {held:Bool}
/-- A number that comes in. -/
theorem Hr {v:Value} {d:DataW H} {p:List MemPlace} {r:Reach} {b0:Nat} (hv:Value.okWide Tryz.prog w r b0 3 v) (h:DataW.Trod enc Tryz.prog w base spare held 3 v d p) :
 ∃ z:Int,v = .int .i64 z /\ -9223372036854775808<=z/\z<=9223372036854775807:=by
 obtain ⟨n,rfl⟩:=okWide_int Tryz.underlying3 hv;obtain ⟨fuel,hf⟩:=h;obtain ⟨m,hm,_,hwf⟩:=DataW.trod_int Tryz.underlying3 hf;simp [Value.cells] at hm;subst hm;simp only [Lit.wf,Bool.and_eq_true,decide_eq_true_eq] at hwf;have h1:IntKind.i64.min = -9223372036854775808:=rfl;have h2:IntKind.i64.max=9223372036854775807:=rfl;exact ⟨n,rfl,by omega,by omega⟩
end
section
variable {H:Type} {enc:TypeId×Value->H} {w:World} {base:Nat} {spare:Nat->Bool} {held:Bool}
end
def qH1 (z:Int):Prop := -9223372036854775808<=z/\z<=9223372036854775807
section
variable {w w':World} {R:Nat} {A:Option Addr}
end
section
variable {H:Type} {enc:TypeId×Value->H} {w:World} {base:Nat} {spare:Nat->Bool} {held:Bool}
theorem zc1 {z:Int} (h:(Lit.int .i64 z).wf=true):qH1 z:=by
 simp only [Lit.wf,Bool.and_eq_true,decide_eq_true_eq] at h;have h1:IntKind.i64.min = -9223372036854775808:=rfl;have h2:IntKind.i64.max=9223372036854775807:=rfl;exact ⟨by omega,by omega⟩
theorem qD4:Tryz.prog.cellsOf 3=1:=by kernel_rfl
end
structure Uk where
 kind:Int
 key:ByteArray
 val:ByteArray
def Uk.vals (c:Uk):List Value:=[.int .i64 c.kind,.string c.key,.string c.val]
def Uk.agg (c:Uk):Value := .agg #[.int .i64 c.kind,.string c.key,.string c.val]
def Xq (w:World) (R:Nat) (A:Option Addr) (l:List Uk):Prop :=
 l=[]\/∃ b off,A=some ⟨b,off,none⟩/\b<R/\∀ i c,l[i]?=some c->qH1 c.kind/\∀ j,j<3->w.cell? ⟨b,off+i*3+j,none⟩=c.vals[j]?
section
variable {w w':World} {R:Nat} {A:Option Addr}
theorem Xq.below {l:List Uk} (h:Xq w R A l) (hb:Below R w w'):Xq w' R A l:=by
 rcases h with rfl | ⟨b,off,rfl,hR,hc⟩
 ·exact Or.inl rfl
 ·refine Or.inr ⟨b,off,rfl,hR,fun i c e=>⟨(hc i c e).1,fun j hj=>?_⟩⟩
  rw [<- (hc i c e).2 j hj];exact hb.cell (p:=⟨b,off+i*3+j,none⟩) hR
theorem Xq.at_ {l:List Uk} (h:Xq w R A l) {k:Nat} (hk:k<l.length) :
 ∃ b off c,A=some ⟨b,off,none⟩/\b<R/\l[k]?=some c/\qH1 c.kind/\w.cell? ⟨b,off+k*3,none⟩=some (.int .i64 c.kind)/\w.cell? ⟨b,off+k*3+1,none⟩=some (.string c.key)/\w.cell? ⟨b,off+k*3+2,none⟩=some (.string c.val):=by
 rcases h with rfl | ⟨b,off,rfl,hR,hc⟩
 ·exact absurd hk (by simp)
 ·obtain ⟨h1,h2⟩:=hc k _ (wb1 hk)
  exact ⟨b,off,l[k],rfl,hR,wb1 hk,h1,h2 0 (by omega),h2 1 (by omega),h2 2 (by omega)⟩
end
section
variable {H:Type} {enc:TypeId×Value->H} {w:World} {base:Nat} {spare:Nat->Bool} {held:Bool}
theorem KH:Tryz.prog.cellsOf 123=3:=by kernel_rfl
theorem KZ:Tryz.prog.cellsOf 9=1:=by kernel_rfl
theorem qJ0 {α:Type} {l:List α} (h:l.length=3):∃ a b c,l=[a,b,c]:=by
 match l,h with
 | [a,b,c],_=>exact ⟨a,b,c,rfl⟩
theorem qK3 {fuel:Nat} {cs:List Value} {x:DataW H×List MemPlace} (h:DataW.trod enc Tryz.prog w base spare held fuel 123 cs=some x) :
 ∃ c:Uk,cs=c.vals/\qH1 c.kind:=by
 obtain ⟨ys,n,_,_,hlen,hys,hf⟩:=DataW.trod_struct Tryz.underlying123 h;obtain ⟨a,b,c,rfl⟩:=qJ0 (hlen.trans KH);obtain ⟨y0,y1,y2,rfl⟩:=qJ0 hys;have h0:DataW.trod enc Tryz.prog w base spare held n 3 ([a,b,c].take (Tryz.prog.cellsOf 3))=some y0:=hf 0 _ rfl;have h1:DataW.trod enc Tryz.prog w base spare held n 9 ([b,c].take (Tryz.prog.cellsOf 9))=some y1:=hf 1 _ rfl;have h2:DataW.trod enc Tryz.prog w base spare held n 9 ([c].take (Tryz.prog.cellsOf 9))=some y2:=hf 2 _ rfl;rw [qD4] at h0;rw [KZ] at h1 h2;obtain ⟨k,e0,_,w0⟩:=DataW.trod_int Tryz.underlying3 h0;obtain ⟨m,e1,_,_⟩:=DataW.trod_string Tryz.underlying9 h1;obtain ⟨s,e2,_,_⟩:=DataW.trod_string Tryz.underlying9 h2;simp only [List.take_succ_cons,List.take_zero,List.cons.injEq,and_true] at e0 e1 e2;exact ⟨⟨k,m,s⟩,by rw [e0,e1,e2];rfl,zc1 w0⟩
/-- A script that comes in. -/
theorem Hq {v:Value} {d:DataW H} {p:List MemPlace} {r:Reach} {b0:Nat} (hv:Value.okWide Tryz.prog w r b0 23 v) (h:DataW.Trod enc Tryz.prog w base spare held 23 v d p) :
 ∃ (A:Option Addr) (n c:Nat) (l:List Uk),v = .slice A n c/\l.length=n/\Xq w w.heap.size A l/\n<=maxLen:=by
 obtain ⟨A,n,c,rfl⟩:=okWide_slice Tryz.underlying23 hv;obtain ⟨fuel,hf⟩:=h;rcases open_slice Tryz.underlying23 hf with ⟨hcs,_⟩ | ⟨a,len,cap,m,f,D,Pl,hcs,_,hl,hcm,hm,_,hi⟩
 ·simp [Value.cells] at hcs
  obtain ⟨rfl,rfl,rfl⟩:=hcs;exact ⟨none,0,0,[],rfl,rfl,Or.inl rfl,wb3 _⟩
 ·simp [Value.cells] at hcs
  obtain ⟨rfl,rfl,rfl⟩:=hcs;have hlm:n<=m:=by rw [hm];split<;>omega
  have each:∀ i,i<n->∃ c:Uk,qH1 c.kind/\∀ j,j<3->w.cell? ((a.add (i*3)).add j)=c.vals[j]?:=by
   intro i hin;obtain ⟨cs',hc,ht⟩:=hi i (by omega);rw [KH] at hc;obtain ⟨c,rfl,hca⟩:=qK3 ht;obtain ⟨_,_,hat⟩:=World.cells?_some hc;exact ⟨c,hca,fun j hj=>hat j hj⟩
  obtain ⟨xs,hlen,hx⟩:=JF (fun i (c:Uk)=>qH1 c.kind/\∀ j,j<3->w.cell? ((a.add (i*3)).add j)=c.vals[j]?) (fun v=>v) n each;refine ⟨_,_,_,xs,rfl,hlen,?_,wa9 hl hcm⟩;by_cases hx0:xs=[]
  ·exact Or.inl hx0
  ·right
   obtain ⟨b,off,spot⟩:=a;have hpos:0<xs.length:=by
    rcases xs with _ | ⟨y,ys⟩
    ·exact absurd rfl hx0
    ·simp
   have h00:=(hx 0 _ (wb1 hpos)).2 0 (by omega);have h01:w.cell? (((⟨b,off,spot⟩:Addr).add (0*3)).add 0)=some (.int .i64 xs[0].kind):=h00;have hs:spot=none:=by
    simpa [Addr.add] using World.cell?_spot h01
   subst hs;refine ⟨b,off,rfl,?_,fun i c hc=>?_⟩
   ·rw [VS,VS] at h01
    exact World.block_lt_of_cell? _ _ h01
   ·obtain ⟨h0,h1⟩:=hx i c hc
    refine ⟨h0,fun j hj=>?_⟩;have g0:=h1 j hj;rw [VS,VS] at g0;exact g0
/-- A text that comes in. -/
theorem JD {v:Value} {d:DataW H} {p:List MemPlace} {r:Reach} {b0:Nat} (hv:Value.okWide Tryz.prog w r b0 9 v) (h:DataW.Trod enc Tryz.prog w base spare held 9 v d p) :
 ∃ s:ByteArray,v = .string s:=by
 obtain ⟨s,rfl⟩:=okWide_string Tryz.underlying9 hv;exact ⟨s,rfl⟩
end
def Uk.small (c:Uk):Bool:=decide (c.key.size<=200) && decide (c.val.size<=200)
theorem qo8 (c:Uk) (w:World):Calls Tryz.prog 60 #[c.agg] w fun e w'=>e = .returned (.bool c.small)/\Below w.heap.size w w':=by
 obtain ⟨k,x,y⟩:=c;have HB:=iQ (Qa w (.cells #[.int .i64 k,.string x,.string y] 123));unfold Uk.agg Uk.small;dsimp only;by_cases h1:x.size<=200
 ·by_cases h2:y.size<=200
  ·rw [decide_eq_true h1,decide_eq_true h2]
   go_enter Tryz.func60,Tryz.ntmps60;go_wp2_with fail;go_ret;exact ⟨Qi (by show decide (((y.size:Nat):Int)<=200)=_;rw [decide_eq_true (show ((y.size:Nat):Int)<=200 by omega)];rfl),HB.out⟩
  ·have h3:200<y.size:=by omega
   rw [decide_eq_true h1,decide_eq_false h2];go_enter Tryz.func60,Tryz.ntmps60;go_wp2_with fail;go_ret;exact ⟨Qi (by show decide (((y.size:Nat):Int)<=200)=_;rw [decide_eq_false (show ¬ ((y.size:Nat):Int)<=200 by omega)];rfl),HB.out⟩
 ·have h3:200<x.size:=by omega
  rw [decide_eq_false h1];go_enter Tryz.func60,Tryz.ntmps60;go_wp2_with fail;go_ret;exact ⟨rfl,HB.out⟩
end
section
namespace SC
open TT ND TS
def backs (s:SS):List Int->Option SS
 | []=>some s
 | p::l=>if (s.back p).1=0 then backs (s.back p).2 l else none
def sumE:List Vis->Nat
 | []=>0
 | x::l=>x.2.vals.length+sumE l
def checkS (t:TS) (vs:List Vis):Int×Int:=match backs t.sp (vs.map (·.1.pg)) with
 | none=>(0,130)
 | some s=>if ((sumE vs:Nat):Int)=t.ct then (s.hi - 2 - s.fr.length - s.pe.length,0) else (0,130)
theorem sumE_append:∀ (a b:List Vis),sumE (a++b)=sumE a+sumE b
 | [],b=>by simp [sumE]
 | x::a,b=>by simp only [List.cons_append,sumE,sumE_append a b];omega
theorem backs_append:∀ (l m:List Int) (s:SS),backs s (l++m)=(backs s l).bind (fun s'=>backs s' m)
 | [],m,s=>rfl
 | p::l,m,s=>by
   simp only [List.cons_append,backs];split
   ·exact backs_append l m _
   ·rfl
theorem backs_snoc {s s':SS} {l:List Int} (p:Int) (h:backs s l=some s'):backs s (l++[p])=if (s'.back p).1=0 then some (s'.back p).2 else none:=by
 rw [backs_append,h,wg6];simp only [backs]
theorem backs_fell {s s':SS} {l m:List Int} {p:Int} (h:backs s l=some s') (hb:¬ (s'.back p).1=0):backs s (l++p::m)=none:=by
 rw [show l++p::m=(l++[p])++m by simp,backs_append,backs_snoc p h,if_neg hb];rfl
theorem back_ok {s:SS} {p:Int} (h:(s.back p).1=0):(s.back p).2.hi=s.hi/\(s.back p).2.fr=SS.ins p s.fr/\(s.back p).2.pe=s.pe:=by
 unfold SS.back at h ⊢;split at h
 ·exact absurd h (by decide)
 ·rename_i hb
  rw [if_neg hb];exact ⟨rfl,rfl,rfl⟩
theorem back_to {s:SS} {p:Int} (h1:2<=p) (h2:p<s.hi) (h3:p ∉ s.fr) (h4:p ∉ s.pe.map (·.2)):(s.back p).1=0:=by
 unfold SS.back SS.backBad;have a:s.may p=true:=decide_eq_true ⟨h1,h2⟩;have b:s.known p=false:=by
  cases hk:s.known p with
  | false=>rfl
  | true =>
    rcases (s.known_iff p).1 hk with e | e
    ·exact absurd e h3
    ·exact absurd e h4
 rw [a,b];rfl
theorem backs_len:∀ (l:List Int) (s s':SS),backs s l=some s'->s'.hi=s.hi/\s'.fr.length=s.fr.length+l.length/\s'.pe=s.pe
 | [],s,s',h=>by
   obtain rfl:=wa0 h;exact ⟨rfl,rfl,rfl⟩
 | p::l,s,s',h=>by
   simp only [backs] at h;split at h
   ·rename_i h0
    obtain ⟨a,b,c⟩:=backs_len l _ _ h;obtain ⟨a1,b1,c1⟩:=back_ok h0;refine ⟨a.trans a1,?_,c.trans c1⟩;rw [b,b1,SS.ins_length,wb4];omega
   ·cases h
theorem backs_all:∀ (l:List Int) (s:SS),l.Nodup->(∀ p∈l,2<=p/\p<s.hi/\p ∉ s.fr/\p ∉ s.pe.map (·.2))->∃ s',backs s l=some s'
 | [],s,_,_=>⟨s,rfl⟩
 | p::l,s,hn,h=>by
   obtain ⟨h1,h2⟩:=we3.1 hn;obtain ⟨a,b,c,d⟩:=h p (by simp);have h0:=back_to a b c d;obtain ⟨a1,b1,c1⟩:=back_ok h0;simp only [backs,if_pos h0];refine backs_all l _ h2 (fun q hq=>?_);obtain ⟨a2,b2,c2,d2⟩:=h q (by simp [hq]);rw [a1,b1,c1];refine ⟨a2,b2,fun e=>?_,d2⟩;rcases (SS.ins_mem p q s.fr).1 e with e | e
   ·exact h1 (by rw [<- e];exact hq)
   ·exact c2 e
section
variable {O:List Int} {nd0:Int->Option ND} {t:TS} {es:List E} {L:List Int} {vs:List Vis}
theorem ok_vals {n:ND} (h:n.ok=true):n.vals.length<=n.keys.length:=by
 cases hl:n.leaf with
 | true =>
   have:=h;unfold ND.ok at this;rw [hl] at this;simp [ND.leafB] at this;omega
 | false =>
   rw [(ND.ok_inner h hl).2.2.2];exact wb3 _
theorem sumE_ents:∀ (vs:List Vis),(∀ x∈vs,x.2.vals.length<=x.2.keys.length)->sumE vs=(vs.flatMap entsV).length
 | [],_=>rfl
 | x::vs,h=>by
   rw [List.flatMap_cons,wa6];have h1:=h x (by simp);have h2:=sumE_ents vs (fun y hy=>h y (by simp [hy]));show x.2.vals.length+sumE vs=(x.2.keys.zip x.2.vals).length+_;rw [List.length_zip,h2];omega
theorem Whole.sum (h:Whole (fun _=>true) t es L vs):sumE vs=es.length:=by
 rw [sumE_ents vs (fun x hx=>ok_vals (h.sound x hx).ok)];have:=h.ents (fun _=>true) (fun _ _ _ _=>rfl);rw [List.filter_eq_self.2 (fun _ _=>rfl),List.filter_eq_self.2 (fun _ _=>rfl)] at this;rw [this]
end
end SC
namespace TT
open SC ND TS
section
variable {O:List Int} {nd0:Int->Option ND} {t:TS} {es:List E} {L:List Int} {vs:List Vis}
theorem Tr.checked (h:Tr O nd0 t es L) (hw:Whole (fun _=>true) t es L vs) (u:TS) (hc:u.ct=t.ct) (hh:t.sp.hi<=u.sp.hi) (hf:∀ p∈u.sp.fr,p∈t.sp.fr) (hp:u.sp.pe=t.sp.pe) :
 checkS u vs=(u.sp.hi - 2 - u.sp.fr.length - L.length - u.sp.pe.length,0):=by
 obtain ⟨s',hs⟩:=backs_all L u.sp h.acc.once (fun p hpL=>by
  obtain ⟨a,b,c,d⟩:=h.acc.inL p hpL;refine ⟨a,by omega,fun e=>c (hf p e),?_⟩;rw [hp];exact d)
 obtain ⟨a,b,c⟩:=backs_len _ _ _ hs;unfold checkS;rw [hw.pages (fun _=>rfl),hs];dsimp only;rw [hw.sum,if_pos (by rw [hc,h.ct]),a,b,c];congr 1;omega
theorem Tr.checked0 (h:Tr O nd0 t es L) (hw:Whole (fun _=>true) t es L vs):checkS t vs=(0,0):=by
 rw [h.checked hw t rfl (Int.le_refl _) (fun _ e=>e) rfl];have:=h.acc.all;congr 1;omega
end
end TT
end
section
open Go.RowKit
theorem qp6 {zs:List Int} {k:Nat} {x y:Int} (h:(zs.take (k+1)).Pairwise (·<·)) (hx:zs[k]?=some x) (hy:zs[k+1]?=some y) (hlt:x<y):(zs.take (k+2)).Pairwise (·<·):=by
 rw [wc2,hy,wd0];refine wc3.2 ⟨h,by simp,fun a ha b hb=>?_⟩;obtain rfl:b=y:=by simpa using hb
 rw [wc2,hx,wd0] at ha h;rcases wb0.1 ha with h1 | h1
 ·have:=(wc3.1 h).2.2 a h1 x (by simp)
  omega
 ·obtain rfl:a=x:=by simpa using h1
  exact hlt
theorem qB9 {zs:List Int} {k:Nat} {x y:Int} (hx:zs[k]?=some x) (hy:zs[k+1]?=some y) (hge:¬ x<y):SS.rises zs=false:=by
 refine decide_eq_false (fun h=>hge ?_);obtain ⟨h1,rfl⟩:=wa8.1 hx;obtain ⟨h2,rfl⟩:=wa8.1 hy;exact List.pairwise_iff_getElem.1 h k (k+1) h1 h2 (by omega)
theorem qC0 {zs:List Int} {n:Nat} (hn:zs.length<=n) (h:(zs.take n).Pairwise (·<·)):SS.rises zs=true:=by
 rw [wa5 hn] at h;exact decide_eq_true h
theorem FB (A:Option Addr) (n c:Nat) (zs:List Int) (w:World) (hz:Ln w 1 A n c (Qc zs)) (hn:n<=1000000) :
 Calls Tryz.prog 75 #[.slice A n c] w fun e w'=>e = .returned (.bool (SS.rises zs))/\Below w.heap.size w w':=by
 have HZ:=iQ hz;have HN:=iQ hz.intN;clear hz;go_enter Tryz.func75,Tryz.ntmps75;go_wp2_with fail;go_loopw [3] (fun i wk=>∃ k:Nat,(k=0\/k+1<=n)/\i = .int .i64 ((k:Int)+1)/\Hid ((zs.take (k+1)).Pairwise (·<·))/\Hid (Below w.heap.size w wk)) (fun i _=>n - (RowKit.intOf i).toNat)
 case atStart =>
  refine ⟨0,Or.inl rfl,rfl,iQ ?_,iQ (Below.refl _ _)⟩
  match zs with
  | []=>simp
  | z::zs=>simp
 case round =>
  obtain ⟨k,hk,rfl,HR,B1⟩:=hrel;by_cases hlt:k+1<n
  ·obtain ⟨b,off,x,rfl,hx,c0⟩:=(HZ.out.kept B1.out).iA (k:=k) (by omega)
   obtain ⟨b',off',y,e0,hy,c1⟩:=(HZ.out.kept B1.out).iA (k:=k+1) hlt;have e1:=wa0 e0;injection e1 with e1 e2
   subst e1;subst e2;clear e0;have i0:(k:Int)+1<(n:Int):=by omega
   have i1:(0:Int)<=(k:Int):=by omega
   have i2:(0:Int)<=(k:Int)+1:=by omega
   have i3:(k:Int)<(n:Int):=by omega
   have i4:IntKind.i64.wrap ((k:Int)+1 - 1)=(k:Int):=by
    rw [Int.add_sub_cancel];exact IntWalk.i64_in _ (by omega)
   by_cases hxy:x<y
   ·have hM:=iQ (qp6 HR.out hx hy hxy)
    have hb:(decide (x ≥ y))=false:=decide_eq_false (by omega);clear hx hy HR;go_wp2_with fail;go_quiet (fail)
    go_wp2_with fail;go_roundw;case rel=>exact ⟨k+1,Or.inr (by omega),by go_num,hM,iQ (Ya B1.out _)⟩
    case measure=>simp [RowKit.intOf];omega
   ·have hM:=iQ (qB9 hx hy hxy)
    have hb:(decide (x ≥ y))=true:=decide_eq_true (by omega);clear hx hy HR;go_wp2_with fail;go_quiet (fail)
    go_wp2_with fail;go_ret;exact ⟨Qi hM.out.symm,Ya B1.out _⟩
  ·have hM:=iQ (qC0 (n:=k+1) (by rw [HN.out];omega) HR.out)
   have i0:¬ (k:Int)+1<(n:Int):=by omega
   go_wp2_with fail;go_ret;exact ⟨Qi hM.out.symm,B1.out⟩
def Vg (ps:List (Int×Int)) (k:Nat) (z:Int):Prop :=
 0<=z/\(ps.take k).Pairwise (fun x y=>x.1<=y.1)/\(∀ x∈ps.take k,0<=x.1/\x.1<=z)/\(z=0\/∃ x∈ps.take k,x.1=z)
theorem Vg.start (ps:List (Int×Int)):Vg ps 0 0:=⟨by omega,by simp,by simp,Or.inl rfl⟩
theorem Vg.more {ps:List (Int×Int)} {k:Nat} {z x y:Int} (h:Vg ps k z) (hv:ps[k]?=some (x,y)) (hx:¬ x<z):Vg ps (k+1) x:=by
 obtain ⟨h1,h2,h3,_⟩:=h;unfold Vg;rw [wc2,hv,wd0];refine ⟨by omega,wc3.2 ⟨h2,by simp,fun a ha b hb=>?_⟩,fun a ha=>?_,Or.inr ⟨(x,y),by simp,rfl⟩⟩
 ·obtain rfl:b=(x,y):=by simpa using hb
  have:=h3 a ha;show a.1<=x;omega
 ·rcases wb0.1 ha with ha | ha
  ·have:=h3 a ha
   omega
  ·obtain rfl:a=(x,y):=by simpa using ha
   show 0<=x/\x<=x;omega
theorem Vg.bad {ps:List (Int×Int)} {k:Nat} {z x y:Int} (h:Vg ps k z) (hv:ps[k]?=some (x,y)) (hx:x<z):SS.agesB ps=false:=by
 obtain ⟨h1,h2,h3,h4⟩:=h;cases hb:SS.agesB ps with
 | false=>rfl
 | true =>
   unfold SS.agesB at hb;rw [wc1] at hb;have hp:ps.Pairwise (fun x y=>x.1<=y.1):=of_decide_eq_true hb.1;have hm:(x,y)∈ps:=wb5 hv;have h0:0<=x:=of_decide_eq_true (wd4.1 hb.2 _ hm);rcases h4 with h4 | ⟨a,ha,h4⟩
   ·omega
   ·rw [<- wb7 k ps] at hp
    have hd:(x,y)∈ps.drop k:=by
     obtain ⟨hk,e⟩:=wa8.1 hv;rw [wc4 hk,e];simp
    have:=(wc3.1 hp).2.2 a ha _ hd;have:a.1<=x:=this;omega
theorem Vg.all {ps:List (Int×Int)} {k:Nat} {z:Int} (h:Vg ps k z) (hk:ps.length<=k):SS.agesB ps=true:=by
 obtain ⟨_,h2,h3,_⟩:=h;rw [wa5 hk] at h2 h3;unfold SS.agesB;rw [wc1];exact ⟨decide_eq_true h2,wd4.2 (fun x hx=>decide_eq_true (h3 x hx).1)⟩
theorem qV9 (A:Option Addr) (n c:Nat) (ps:List (Int×Int)) (w:World) (hp:Ln w 2 A n c (Zi ps)) (hn:n<=1000000) :
 Calls Tryz.prog 76 #[.slice A n c] w fun e w'=>e = .returned (.bool (SS.agesB ps))/\Below w.heap.size w w':=by
 have HP:=iQ hp;have HN:=iQ hp.prN;clear hp;go_enter Tryz.func76,Tryz.ntmps76;go_wp2_with fail;go_loopw [3,8] (fun v i wk=>∃ (k:Nat) (z:Int),k<=n/\i = .int .i64 k/\v = .int .i64 z/\Hid (Vg ps k z)/\Hid (Below w.heap.size w wk)) (fun _ i _=>n - (RowKit.intOf i).toNat)
 case atStart=>exact ⟨0,0,wb3 _,rfl,rfl,iQ (Vg.start ps),iQ (Below.refl _ _)⟩
 case round =>
  obtain ⟨k,z,hk,rfl,rfl,HA,B1⟩:=hrel;by_cases hlt:k<n
  ·obtain ⟨b,off,x,y,rfl,hv,c0,c1⟩:=(HP.out.kept B1.out).prAt hlt
   have bs:=B1.out.size;have B2:Hid (Below w.heap.size w (wr.alloc (.cells #[.int .i64 x,.int .i64 y] 98))):=iQ (B1.out.alloc bs _);by_cases hx:x<z
   ·have HM:=iQ (HA.out.bad hv hx)
    clear hv HA;go_wp2_with fail;go_ret;exact ⟨Qi HM.out.symm,B2.out⟩
   ·have HM:=iQ (HA.out.more hv hx)
    clear hv HA;go_wp2_with fail;go_roundw;case rel=>exact ⟨k+1,x,by omega,by go_num,rfl,HM,B2⟩
    case measure=>simp [RowKit.intOf];omega
  ·obtain rfl:n=k:=by omega
   have HM:=iQ (HA.out.all (by rw [HN.out];exact wa2 _));go_wp2_with fail;go_ret;exact ⟨Qi HM.out.symm,B1.out⟩
end
end Go.Proofs.YtfiflinbicbedaaGreat
