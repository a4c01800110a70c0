/-
  A part of the proof. Conditions: none.
-/
import Derived.Test.YtfiflinbicbedaaGreatZR6

set_option maxRecDepth 20000
set_option maxHeartbeats 12800000
namespace Go.Proofs.YtfiflinbicbedaaGreat
section
open Go.RowKit
def copF (g r:Nat) (lf:Bool) (A:Option Addr) (n c:Nat) (B:Option Addr) (m d:Nat) (C:Option Addr) (k e:Nat) (s:ND):List SP :=
 [.is (.pointer (some ⟨g,0,none⟩)),.is (.bool lf),.is (.pointer (some ⟨g,1,none⟩)),.is (.slice A n c),.pile 1 [⟨A,n,c,Qd s.keys⟩],.ln (r+1) n (Qd s.keys),
  .is (.pointer (some ⟨g,2,none⟩)),.is (.slice B m d),.pile 1 [⟨B,m,d,Qd s.vals⟩],.ln (r+1) m (Qd s.vals),
  .is (.pointer (some ⟨g,3,none⟩)),.is (.slice C k e),.pile 1 [⟨C,k,e,Qc s.kids⟩],.ln (r+1) k (Qc s.kids),.nd (r+1) s]
theorem Vy (lf:Bool) (A:Option Addr) (n c:Nat) (B:Option Addr) (m d:Nat) (C:Option Addr) (k e:Nat) (s:ND) (w:World) (h:Nd w A n c B m d C k e s) (hl:s.leaf=lf) (hn:n<=1000000) (hm:m<=1000000) (hk:k<=1000000) :
 Calls Tryz.prog 91 #[.agg #[.bool lf,.slice A n c,.slice B m d,.slice C k e]] w (qz7 w s):=by
 obtain ⟨Vh,tb2,Xm⟩:=Jr w (.bool lf) (.slice A n c) (.slice B m d) (.slice C k e);have HS:=iQ (h.kept Xm);have HB:=iQ Vh;have HR:=iQ tb2;have B0:=iQ Xm;have HL:=iQ hl;clear h hl Vh tb2 Xm;go_enter Tryz.func91,Tryz.ntmps91;go_wp2_with fail;generalize (w.alloc (.cells #[.bool lf,.slice A n c,.slice B m d,.slice C k e] 75)).alloc (.cells #[.bool false,.slice none 0 0,.slice none 0 0,.slice none 0 0] 75)=w0 at *;have hg:=HB.out.lt;have hr:=HR.out.lt;rename_i KK HM;refine Qz 15 1 (SP.at_ (copF w.heap.size (w.heap.size+1) lf A n c B m d C k e s)) (by kernel_rfl) rfl (by kernel_rfl) (by kernel_rfl) (by kernel_rfl) (SP.at_st _) ?_ ?_
 ·intro i o L a wx hi ho h hd
  have e1:a.eval (.tmp 1) = .pointer (some ⟨w.heap.size,0,none⟩):=(h.old 1 (by kernel_rfl)).trans rfl;obtain ⟨c0,c1,c2,c3⟩:=(HB.out.kept h.below).cells
  match i,hi,ho,hd with
  | 0,_,ho,hd =>
    obtain rfl:=wa0 ho;refine wpOp_step rfl (fun K hK=>?_);refine (if_pos (by rfl)).mpr ?_;have q0:=got e1
    go_simp
    exact hK _ _ ⟨_,_,rfl,rfl,rfl,Below.refl _ _⟩
  | 1,_,ho,hd =>
    obtain rfl:=wa0 ho;refine wpOp_step rfl (fun K hK=>?_);refine (if_pos (by rfl)).mpr ?_;have q0:=got (h.gd 0 rfl hd rfl)
    go_simp
    exact hK _ _ ⟨_,_,rfl,rfl,rfl,Below.refl _ _⟩
  | 2,_,ho,hd =>
    obtain rfl:=wa0 ho;refine wpOp_step rfl (fun K hK=>?_);refine (if_pos (by rfl)).mpr ?_;have q0:=got e1
    go_simp
    exact hK _ _ ⟨_,_,rfl,rfl,rfl,Below.refl _ _⟩
  | 3,_,ho,hd =>
    obtain rfl:=wa0 ho;refine wpOp_step rfl (fun K hK=>?_);refine (if_pos (by rfl)).mpr ?_;have q0:=got (h.gd 2 rfl hd rfl)
    go_simp
    exact hK _ _ ⟨_,_,rfl,rfl,rfl,Below.refl _ _⟩
  | 4,_,ho,hd =>
    obtain rfl:=wa0 ho;refine wpOp_step rfl (fun K hK=>?_);refine (if_pos (by rfl)).mpr ?_;have q3:=got (h.gd 3 rfl hd rfl)
    go_simp
    exact hK _ _ ⟨_,_,rfl,rfl,⟨_,rfl,Za (HS.out.ke.kept h.below) (Qm _) _⟩,Qa _ _⟩
  | 5,_,ho,hd =>
    obtain rfl:=wa0 ho;refine wpOp_step rfl (fun K hK=>?_);refine (if_pos (by rfl)).mpr ?_;obtain ⟨p,ep,hp⟩:=(h.gd 4 rfl hd rfl);have q:=got ep;have hbs:=h.below.size
    go_simp
    refine (Xd _ 1 1 n _ wx hp rfl (by simp [Xn]) (by omega) (by decide)).mono ?_;rintro e w3 ⟨v3,rfl,o3,b3⟩;rw [Xa] at o3;exact hK _ _ ⟨v3,_,rfl,rfl,Qy o3 rfl (by omega),b3⟩
  | 6,_,ho,hd =>
    obtain rfl:=wa0 ho;refine wpOp_step rfl (fun K hK=>?_);refine (if_pos (by rfl)).mpr ?_;have q0:=got e1
    go_simp
    exact hK _ _ ⟨_,_,rfl,rfl,rfl,Below.refl _ _⟩
  | 7,_,ho,hd =>
    obtain rfl:=wa0 ho;refine wpOp_step rfl (fun K hK=>?_);refine (if_pos (by rfl)).mpr ?_;have q0:=got (h.gd 6 rfl hd rfl)
    go_simp
    exact hK _ _ ⟨_,_,rfl,rfl,rfl,Below.refl _ _⟩
  | 8,_,ho,hd =>
    obtain rfl:=wa0 ho;refine wpOp_step rfl (fun K hK=>?_);refine (if_pos (by rfl)).mpr ?_;have q7:=got (h.gd 7 rfl hd rfl)
    go_simp
    exact hK _ _ ⟨_,_,rfl,rfl,⟨_,rfl,Za (HS.out.va.kept h.below) (Qm _) _⟩,Qa _ _⟩
  | 9,_,ho,hd =>
    obtain rfl:=wa0 ho;refine wpOp_step rfl (fun K hK=>?_);refine (if_pos (by rfl)).mpr ?_;obtain ⟨p,ep,hp⟩:=(h.gd 8 rfl hd rfl);have q:=got ep;have hbs:=h.below.size
    go_simp
    refine (Xd _ 1 1 m _ wx hp rfl (by simp [Xn]) (by omega) (by decide)).mono ?_;rintro e w3 ⟨v3,rfl,o3,b3⟩;rw [Xa] at o3;exact hK _ _ ⟨v3,_,rfl,rfl,Qy o3 rfl (by omega),b3⟩
  | 10,_,ho,hd =>
    obtain rfl:=wa0 ho;refine wpOp_step rfl (fun K hK=>?_);refine (if_pos (by rfl)).mpr ?_;have q0:=got e1
    go_simp
    exact hK _ _ ⟨_,_,rfl,rfl,rfl,Below.refl _ _⟩
  | 11,_,ho,hd =>
    obtain rfl:=wa0 ho;refine wpOp_step rfl (fun K hK=>?_);refine (if_pos (by rfl)).mpr ?_;have q0:=got (h.gd 10 rfl hd rfl)
    go_simp
    exact hK _ _ ⟨_,_,rfl,rfl,rfl,Below.refl _ _⟩
  | 12,_,ho,hd =>
    obtain rfl:=wa0 ho;refine wpOp_step rfl (fun K hK=>?_);refine (if_pos (by rfl)).mpr ?_;have q11:=got (h.gd 11 rfl hd rfl)
    go_simp
    exact hK _ _ ⟨_,_,rfl,rfl,⟨_,rfl,Za (HS.out.ki.kept h.below) (Qr _) _⟩,Qa _ _⟩
  | 13,_,ho,hd =>
    obtain rfl:=wa0 ho;refine wpOp_step rfl (fun K hK=>?_);refine (if_pos (by rfl)).mpr ?_;obtain ⟨p,ep,hp⟩:=(h.gd 12 rfl hd rfl);have q:=got ep;have hbs:=h.below.size
    go_simp
    refine (QM _ 1 1 k _ wx hp rfl (by simp [Xn]) (by omega) (by decide)).mono ?_;rintro e w3 ⟨v3,rfl,o3,b3⟩;rw [Xa] at o3;exact hK _ _ ⟨v3,_,rfl,rfl,Qy o3 rfl (by omega),b3⟩
  | 14,_,ho,hd =>
    obtain rfl:=wa0 ho;refine wpOp_step rfl (fun K hK=>?_);refine (if_pos (by rfl)).mpr ?_;have q1:=got (h.gd 1 rfl hd rfl);obtain ⟨A1,a1,z1,l1,i1,_⟩:=(h.gd 5 rfl hd rfl);obtain ⟨A2,a2,z2,l2,i2,_⟩:=(h.gd 9 rfl hd rfl);obtain ⟨A3,a3,z3,l3,i3,_⟩:=(h.gd 13 rfl hd rfl);have y1:=got z1;have y2:=got z2;have y3:=got z3
    go_simp
    exact hK _ _ ⟨_,_,rfl,rfl,⟨A1,n,a1,A2,m,a2,A3,k,a3,by rw [HL.out],⟨l1,l2,l3⟩,i1,i2,i3⟩,Below.refl _ _⟩
 ·intro mm L a wx h hd
  refine wpAny_ready (rs:=[15]) (by decide +kernel) (by simp) (AllReady.cons rfl (fun K hK=>?_) AllReady.nil);refine (if_pos (by rfl)).mpr ?_;have hn4:=h.got 14 _ _ rfl (by decide) (hd 14 (by decide)) rfl;obtain ⟨A',n',c',B',m',d',C',k',e',ev,_,_,_,_⟩:=id hn4;have q:=got ev;have q2:=got ((h.old 2 (by kernel_rfl)).trans rfl:a.eval (.tmp 2) = .pointer (some ⟨w.heap.size+1,0,none⟩));have HR2:=iQ (HR.out.kept h.below);obtain ⟨x0,x1,x2,x3⟩:=HR2.out.cells;obtain ⟨f0,f1,f2,f3⟩:=HR2.out.free
  go_simp
  refine hK _ _ ?_;refine wpAny_done (by decide +kernel) ?_ _;have HD:=iQ (Ub (Qe h.below B0.out) (wd3 _) hn4 (.bool s.leaf) (.slice A' n' c') (.slice B' m' d') (.slice C' k' e'));rw [ev] at HD;obtain ⟨y0,y1,y2,y3⟩:=(HR2.out.put (.bool s.leaf) (.slice A' n' c') (.slice B' m' d') (.slice C' k' e')).cells;refine HM _ _ ?_;refine wp_ret ?_;refine bodyPost_ret (v := .agg #[.bool s.leaf,.slice A' n' c',.slice B' m' d',.slice C' k' e']) (by simp [results,Tryz.results91,go_sem,q2,y0,y1,y2,y3]) (h.df.trans rfl) ?_;exact ⟨_,rfl,HD.out.1,HD.out.2⟩
def putF (g r:Nat) (A:Option Addr) (n c:Nat) (B:Option Addr) (m d:Nat) (f t:Nat) (x y:ByteArray) (u:ND):List SP :=
 [.is (.pointer (some ⟨g,1,none⟩)),.is (.slice A n c),.is (.int .i64 f),.is (.int .i64 t),.is (.string x),.ln 0 1 [.string x],.ln (r+1) (f+1+(n - t)) (Qd u.keys),
  .is (.pointer (some ⟨g,2,none⟩)),.is (.slice B m d),.is (.int .i64 f),.is (.int .i64 t),.is (.string y),.ln 0 1 [.string y],.ln (r+1) (f+1+(m - t)) (Qd u.vals),.nd (r+1) u]
theorem Gm (l o:List (List UInt8)) (f t:Nat):ND.rep (Qd l) f t (Qd o)=Qd (ND.rep l f t o):=by
 unfold ND.rep Qd;rw [wc8,wc8,List.map_take,wg4]
theorem zc0 (l o:List Int) (f t:Nat):ND.rep (Qc l) f t (Qc o)=Qc (ND.rep l f t o):=by
 unfold ND.rep Qc;rw [wc8,wc8,List.map_take,wg4]
theorem YP (x:ByteArray):[Value.string x]=Qd [x.toList]:=by
 unfold Qd;simp [Zx]
theorem PT (w:World) (x:ByteArray):(SP.ln 0 1 [.string x]).p (.slice (some ⟨w.heap.size,0,none⟩) 1 1) (w.alloc (.cells #[.string x] 9)) :=
 ⟨_,1,rfl,⟨rfl,wa2 _,fun e=>(by cases e),fun ad e j u hu=>by
  obtain rfl:=wa0 e;rw [Zn]
  match j,hu with
  | 0,hu =>
    obtain rfl:=wa0 hu;simp⟩,fun _ _=>wb3 _,by unfold maxLen;omega⟩
theorem GU (x:ByteArray):∀ u∈[Value.string x],u.oneCell'=true:=by
 intro u hu;rw [wa4.1 hu];rfl
theorem qU2 (lf:Bool) (A:Option Addr) (n c:Nat) (B:Option Addr) (m d:Nat) (C:Option Addr) (k e:Nat) (s:ND) (x y:ByteArray) (w:World) (h:Nd w A n c B m d C k e s) (hl:s.leaf=lf) (ho:s.ok=true) (hlf:lf=true) (hn:n<=300000) :
 Calls Tryz.prog 57 #[.agg #[.bool lf,.slice A n c,.slice B m d,.slice C k e],.string x,.string y] w (qz7 w (s.put x.toList y.toList)):=by
 subst hlf;obtain rfl:n=m:=by rw [<- h.vn,<- h.kn];exact (ND.ok_leaf ho hl).1.symm
 have HO:=iQ ho;clear ho;obtain ⟨Vh,tb2,Xm⟩:=Jr w (.bool true) (.slice A n c) (.slice B n d) (.slice C k e);have HS:=iQ (h.kept Xm);have HB:=iQ Vh;have HR:=iQ tb2;have B0:=iQ Xm;have HL:=iQ hl;clear h hl Vh tb2 Xm;go_enter Tryz.func57,Tryz.ntmps57;go_upto_region 1 with fail
 generalize (w.alloc (.cells #[.bool true,.slice A n c,.slice B n d,.slice C k e] 75)).alloc (.cells #[.bool false,.slice none 0 0,.slice none 0 0,.slice none 0 0] 75)=w0 at *;obtain ⟨c0,c1,c2,c3⟩:=HB.out.cells;go_wp2_with fail;refine (NM true A n c B n d C k e s x w0 HS.out (ND.ok_rise HO.out) (by omega)).mono ?_;rintro e1 w1 ⟨rfl,b1⟩;have B1:=iQ (Qe b1 B0.out);have HB1:=iQ (HB.out.kept b1);have HR1:=iQ (HR.out.kept b1);have Xl:=iQ (HS.out.kept b1);have hfn:=ND.findN_le x.toList s.keys;rw [Xl.out.kn] at hfn;clear b1 c0 c1 c2 c3 HB HR HS B0;have hg:=HB1.out.lt;have hr:=HR1.out.lt;cases his:ND.isAt x.toList s.keys with
 | true =>
   have HP:=iQ (ND.put_old y.toList his);have hfl:=ND.isAt_lt his;rw [Xl.out.kn] at hfl;clear his hfn;generalize ND.findN x.toList s.keys=f at *;go_upto_region 7 with fail
   rename_i KK HM;refine Qz 15 1 (SP.at_ (putF w.heap.size (w.heap.size+1) A n c B n d f (f+1) x y ⟨true,ND.rep s.keys f (f+1) [x.toList],ND.rep s.vals f (f+1) [y.toList],[]⟩)) (by kernel_rfl) rfl (by kernel_rfl) (by kernel_rfl) (by kernel_rfl) (SP.at_st _) ?_ ?_
   ·intro i o L a wx hi ho h hd
    have e3:a.eval (.tmp 3) = .pointer (some ⟨w.heap.size,0,none⟩):=(h.old 3 (by kernel_rfl)).trans rfl;have e7:a.eval (.tmp 7) = .int .i64 (f:Int):=(h.old 7 (by kernel_rfl)).trans rfl;have e9:a.eval (.tmp 9) = .int .i64 ((f+1:Nat):Int):=(h.old 9 (by kernel_rfl)).trans rfl;have ek:a.eval (.tmp 1) = .string x:=(h.old 1 (by kernel_rfl)).trans rfl;have ey:a.eval (.tmp 2) = .string y:=(h.old 2 (by kernel_rfl)).trans rfl;obtain ⟨c0,c1,c2,c3⟩:=(HB1.out.kept h.below).cells
    match i,hi,ho,hd with
    | 0,_,ho,hd =>
      obtain rfl:=wa0 ho;refine wpOp_step rfl (fun K hK=>?_);refine (if_pos (by rfl)).mpr ?_;have q0:=got e3
      go_simp
      exact hK _ _ ⟨_,_,rfl,rfl,rfl,Below.refl _ _⟩
    | 1,_,ho,hd =>
      obtain rfl:=wa0 ho;refine wpOp_step rfl (fun K hK=>?_);refine (if_pos (by rfl)).mpr ?_;have q0:=got (h.gd 0 rfl hd rfl)
      go_simp
      exact hK _ _ ⟨_,_,rfl,rfl,rfl,Below.refl _ _⟩
    | 2,_,ho,hd =>
      obtain rfl:=wa0 ho;refine wpOp_step rfl (fun K hK=>?_);refine (if_pos (by rfl)).mpr ?_;have q0:=got e7
      go_simp
      exact hK _ _ ⟨_,_,rfl,rfl,rfl,Below.refl _ _⟩
    | 3,_,ho,hd =>
      obtain rfl:=wa0 ho;refine wpOp_step rfl (fun K hK=>?_);refine (if_pos (by rfl)).mpr ?_;have q0:=got e9
      go_simp
      exact hK _ _ ⟨_,_,rfl,rfl,rfl,Below.refl _ _⟩
    | 4,_,ho,hd =>
      obtain rfl:=wa0 ho;refine wpOp_step rfl (fun K hK=>?_);refine (if_pos (by rfl)).mpr ?_;have q0:=got ek
      go_simp
      exact hK _ _ ⟨_,_,rfl,rfl,rfl,Below.refl _ _⟩
    | 5,_,ho,hd =>
      obtain rfl:=wa0 ho;refine wpOp_step rfl (fun K hK=>?_);refine (if_pos (by rfl)).mpr ?_;have q0:=got (h.gd 4 rfl hd rfl)
      go_simp
      exact hK _ _ ⟨_,_,rfl,rfl,PT wx x,Qa _ _⟩
    | 6,_,ho,hd =>
      obtain rfl:=wa0 ho;refine wpOp_step rfl (fun K hK=>?_);refine (if_pos (by rfl)).mpr ?_;have q0:=got (h.gd 1 rfl hd rfl);have q1:=got (h.gd 2 rfl hd rfl);have q2:=got (h.gd 3 rfl hd rfl);obtain ⟨Z,z,ez,hz,_,_⟩:=(h.gd 5 rfl hd rfl);have q3:=got ez;have hbs:=h.below.size
      go_simp
      refine (Xk A n c (Qd s.keys) f (f+1) Z 1 z _ wx (Xl.out.ke.kept h.below) (Qm _) hz (GU _) (by omega) (by omega) hn (by omega)).mono ?_;rintro e w3 ⟨v3,rfl,o3,b3⟩;rw [YP,Gm] at o3;exact hK _ _ ⟨v3,_,rfl,rfl,Qy o3 rfl (by omega),b3⟩
    | 7,_,ho,hd =>
      obtain rfl:=wa0 ho;refine wpOp_step rfl (fun K hK=>?_);refine (if_pos (by rfl)).mpr ?_;have q0:=got e3
      go_simp
      exact hK _ _ ⟨_,_,rfl,rfl,rfl,Below.refl _ _⟩
    | 8,_,ho,hd =>
      obtain rfl:=wa0 ho;refine wpOp_step rfl (fun K hK=>?_);refine (if_pos (by rfl)).mpr ?_;have q0:=got (h.gd 7 rfl hd rfl)
      go_simp
      exact hK _ _ ⟨_,_,rfl,rfl,rfl,Below.refl _ _⟩
    | 9,_,ho,hd =>
      obtain rfl:=wa0 ho;refine wpOp_step rfl (fun K hK=>?_);refine (if_pos (by rfl)).mpr ?_;have q0:=got e7
      go_simp
      exact hK _ _ ⟨_,_,rfl,rfl,rfl,Below.refl _ _⟩
    | 10,_,ho,hd =>
      obtain rfl:=wa0 ho;refine wpOp_step rfl (fun K hK=>?_);refine (if_pos (by rfl)).mpr ?_;have q0:=got e9
      go_simp
      exact hK _ _ ⟨_,_,rfl,rfl,rfl,Below.refl _ _⟩
    | 11,_,ho,hd =>
      obtain rfl:=wa0 ho;refine wpOp_step rfl (fun K hK=>?_);refine (if_pos (by rfl)).mpr ?_;have q0:=got ey
      go_simp
      exact hK _ _ ⟨_,_,rfl,rfl,rfl,Below.refl _ _⟩
    | 12,_,ho,hd =>
      obtain rfl:=wa0 ho;refine wpOp_step rfl (fun K hK=>?_);refine (if_pos (by rfl)).mpr ?_;have q0:=got (h.gd 11 rfl hd rfl)
      go_simp
      exact hK _ _ ⟨_,_,rfl,rfl,PT wx y,Qa _ _⟩
    | 13,_,ho,hd =>
      obtain rfl:=wa0 ho;refine wpOp_step rfl (fun K hK=>?_);refine (if_pos (by rfl)).mpr ?_;have q0:=got (h.gd 8 rfl hd rfl);have q1:=got (h.gd 9 rfl hd rfl);have q2:=got (h.gd 10 rfl hd rfl);obtain ⟨Z,z,ez,hz,_,_⟩:=(h.gd 12 rfl hd rfl);have q3:=got ez;have hbs:=h.below.size
      go_simp
      refine (Xk B n d (Qd s.vals) f (f+1) Z 1 z _ wx (Xl.out.va.kept h.below) (Qm _) hz (GU _) (by omega) (by omega) hn (by omega)).mono ?_;rintro e w3 ⟨v3,rfl,o3,b3⟩;rw [YP,Gm] at o3;exact hK _ _ ⟨v3,_,rfl,rfl,Qy o3 rfl (by omega),b3⟩
    | 14,_,ho,hd =>
      obtain rfl:=wa0 ho;refine wpOp_step rfl (fun K hK=>?_);refine (if_pos (by rfl)).mpr ?_;obtain ⟨A1,a1,z1,l1,i1,_⟩:=(h.gd 6 rfl hd rfl);obtain ⟨A2,a2,z2,l2,i2,_⟩:=(h.gd 13 rfl hd rfl);have y1:=got z1;have y2:=got z2
      go_simp
      exact hK _ _ ⟨_,_,rfl,rfl,⟨A1,_,a1,A2,_,a2,none,0,0,rfl,⟨l1,l2,Ln.none_ _ 1⟩,i1,i2,Yp.none_ _⟩,Below.refl _ _⟩
    | j+15,hi,_,_=>exact absurd hi (by omega)
   ·intro mm L a wx h hd
    refine wpAny_ready (rs:=[15]) (by decide +kernel) (by simp) (AllReady.cons rfl (fun K hK=>?_) AllReady.nil);refine (if_pos (by rfl)).mpr ?_;have hn4:=h.got 14 _ _ rfl (by decide) (hd 14 (by decide)) rfl;obtain ⟨A',n',c',B',m',d',C',k',e',ev,_,_,_,_⟩:=id hn4;have q:=got ev;have q2:=got ((h.old 6 (by kernel_rfl)).trans rfl:a.eval (.tmp 6) = .pointer (some ⟨w.heap.size+1,0,none⟩));have HR2:=iQ (HR1.out.kept h.below);obtain ⟨x0,x1,x2,x3⟩:=HR2.out.cells;obtain ⟨f0,f1,f2,f3⟩:=HR2.out.free
    go_simp
    refine hK _ _ ?_;refine wpAny_done (by decide +kernel) ?_ _;have HD:=iQ (Ub (Qe h.below B1.out) (wd3 _) hn4 (.bool (⟨true,ND.rep s.keys f (f+1) [x.toList],ND.rep s.vals f (f+1) [y.toList],[]⟩:ND).leaf) (.slice A' n' c') (.slice B' m' d') (.slice C' k' e'));rw [ev] at HD;obtain ⟨y0,y1,y2,y3⟩:=(HR2.out.put (.bool (⟨true,ND.rep s.keys f (f+1) [x.toList],ND.rep s.vals f (f+1) [y.toList],[]⟩:ND).leaf) (.slice A' n' c') (.slice B' m' d') (.slice C' k' e')).cells;refine HM _ _ ?_;refine wp_ret ?_;refine bodyPost_ret (v := .agg #[.bool (⟨true,ND.rep s.keys f (f+1) [x.toList],ND.rep s.vals f (f+1) [y.toList],[]⟩:ND).leaf,.slice A' n' c',.slice B' m' d',.slice C' k' e']) (by simp [results,Tryz.results57,go_sem,q2,y0,y1,y2,y3]) (h.df.trans rfl) ?_;exact ⟨_,rfl,by rw [HP.out];exact HD.out.1,HD.out.2⟩
 | false =>
   have HP:=iQ (ND.put_new y.toList his);clear his;generalize ND.findN x.toList s.keys=f at *;go_upto_region 7 with fail
   rename_i KK HM;refine Qz 15 1 (SP.at_ (putF w.heap.size (w.heap.size+1) A n c B n d f (f) x y ⟨true,ND.rep s.keys f (f) [x.toList],ND.rep s.vals f (f) [y.toList],[]⟩)) (by kernel_rfl) rfl (by kernel_rfl) (by kernel_rfl) (by kernel_rfl) (SP.at_st _) ?_ ?_
   ·intro i o L a wx hi ho h hd
    have e3:a.eval (.tmp 3) = .pointer (some ⟨w.heap.size,0,none⟩):=(h.old 3 (by kernel_rfl)).trans rfl;have e7:a.eval (.tmp 7) = .int .i64 (f:Int):=(h.old 7 (by kernel_rfl)).trans rfl;have e9:a.eval (.tmp 9) = .int .i64 ((f:Nat):Int):=(h.old 9 (by kernel_rfl)).trans rfl;have ek:a.eval (.tmp 1) = .string x:=(h.old 1 (by kernel_rfl)).trans rfl;have ey:a.eval (.tmp 2) = .string y:=(h.old 2 (by kernel_rfl)).trans rfl;obtain ⟨c0,c1,c2,c3⟩:=(HB1.out.kept h.below).cells
    match i,hi,ho,hd with
    | 0,_,ho,hd =>
      obtain rfl:=wa0 ho;refine wpOp_step rfl (fun K hK=>?_);refine (if_pos (by rfl)).mpr ?_;have q0:=got e3
      go_simp
      exact hK _ _ ⟨_,_,rfl,rfl,rfl,Below.refl _ _⟩
    | 1,_,ho,hd =>
      obtain rfl:=wa0 ho;refine wpOp_step rfl (fun K hK=>?_);refine (if_pos (by rfl)).mpr ?_;have q0:=got (h.gd 0 rfl hd rfl)
      go_simp
      exact hK _ _ ⟨_,_,rfl,rfl,rfl,Below.refl _ _⟩
    | 2,_,ho,hd =>
      obtain rfl:=wa0 ho;refine wpOp_step rfl (fun K hK=>?_);refine (if_pos (by rfl)).mpr ?_;have q0:=got e7
      go_simp
      exact hK _ _ ⟨_,_,rfl,rfl,rfl,Below.refl _ _⟩
    | 3,_,ho,hd =>
      obtain rfl:=wa0 ho;refine wpOp_step rfl (fun K hK=>?_);refine (if_pos (by rfl)).mpr ?_;have q0:=got e9
      go_simp
      exact hK _ _ ⟨_,_,rfl,rfl,rfl,Below.refl _ _⟩
    | 4,_,ho,hd =>
      obtain rfl:=wa0 ho;refine wpOp_step rfl (fun K hK=>?_);refine (if_pos (by rfl)).mpr ?_;have q0:=got ek
      go_simp
      exact hK _ _ ⟨_,_,rfl,rfl,rfl,Below.refl _ _⟩
    | 5,_,ho,hd =>
      obtain rfl:=wa0 ho;refine wpOp_step rfl (fun K hK=>?_);refine (if_pos (by rfl)).mpr ?_;have q0:=got (h.gd 4 rfl hd rfl)
      go_simp
      exact hK _ _ ⟨_,_,rfl,rfl,PT wx x,Qa _ _⟩
    | 6,_,ho,hd =>
      obtain rfl:=wa0 ho;refine wpOp_step rfl (fun K hK=>?_);refine (if_pos (by rfl)).mpr ?_;have q0:=got (h.gd 1 rfl hd rfl);have q1:=got (h.gd 2 rfl hd rfl);have q2:=got (h.gd 3 rfl hd rfl);obtain ⟨Z,z,ez,hz,_,_⟩:=(h.gd 5 rfl hd rfl);have q3:=got ez;have hbs:=h.below.size
      go_simp
      refine (Xk A n c (Qd s.keys) f (f) Z 1 z _ wx (Xl.out.ke.kept h.below) (Qm _) hz (GU _) (by omega) (by omega) hn (by omega)).mono ?_;rintro e w3 ⟨v3,rfl,o3,b3⟩;rw [YP,Gm] at o3;exact hK _ _ ⟨v3,_,rfl,rfl,Qy o3 rfl (by omega),b3⟩
    | 7,_,ho,hd =>
      obtain rfl:=wa0 ho;refine wpOp_step rfl (fun K hK=>?_);refine (if_pos (by rfl)).mpr ?_;have q0:=got e3
      go_simp
      exact hK _ _ ⟨_,_,rfl,rfl,rfl,Below.refl _ _⟩
    | 8,_,ho,hd =>
      obtain rfl:=wa0 ho;refine wpOp_step rfl (fun K hK=>?_);refine (if_pos (by rfl)).mpr ?_;have q0:=got (h.gd 7 rfl hd rfl)
      go_simp
      exact hK _ _ ⟨_,_,rfl,rfl,rfl,Below.refl _ _⟩
    | 9,_,ho,hd =>
      obtain rfl:=wa0 ho;refine wpOp_step rfl (fun K hK=>?_);refine (if_pos (by rfl)).mpr ?_;have q0:=got e7
      go_simp
      exact hK _ _ ⟨_,_,rfl,rfl,rfl,Below.refl _ _⟩
    | 10,_,ho,hd =>
      obtain rfl:=wa0 ho;refine wpOp_step rfl (fun K hK=>?_);refine (if_pos (by rfl)).mpr ?_;have q0:=got e9
      go_simp
      exact hK _ _ ⟨_,_,rfl,rfl,rfl,Below.refl _ _⟩
    | 11,_,ho,hd =>
      obtain rfl:=wa0 ho;refine wpOp_step rfl (fun K hK=>?_);refine (if_pos (by rfl)).mpr ?_;have q0:=got ey
      go_simp
      exact hK _ _ ⟨_,_,rfl,rfl,rfl,Below.refl _ _⟩
    | 12,_,ho,hd =>
      obtain rfl:=wa0 ho;refine wpOp_step rfl (fun K hK=>?_);refine (if_pos (by rfl)).mpr ?_;have q0:=got (h.gd 11 rfl hd rfl)
      go_simp
      exact hK _ _ ⟨_,_,rfl,rfl,PT wx y,Qa _ _⟩
    | 13,_,ho,hd =>
      obtain rfl:=wa0 ho;refine wpOp_step rfl (fun K hK=>?_);refine (if_pos (by rfl)).mpr ?_;have q0:=got (h.gd 8 rfl hd rfl);have q1:=got (h.gd 9 rfl hd rfl);have q2:=got (h.gd 10 rfl hd rfl);obtain ⟨Z,z,ez,hz,_,_⟩:=(h.gd 12 rfl hd rfl);have q3:=got ez;have hbs:=h.below.size
      go_simp
      refine (Xk B n d (Qd s.vals) f (f) Z 1 z _ wx (Xl.out.va.kept h.below) (Qm _) hz (GU _) (by omega) (by omega) hn (by omega)).mono ?_;rintro e w3 ⟨v3,rfl,o3,b3⟩;rw [YP,Gm] at o3;exact hK _ _ ⟨v3,_,rfl,rfl,Qy o3 rfl (by omega),b3⟩
    | 14,_,ho,hd =>
      obtain rfl:=wa0 ho;refine wpOp_step rfl (fun K hK=>?_);refine (if_pos (by rfl)).mpr ?_;obtain ⟨A1,a1,z1,l1,i1,_⟩:=(h.gd 6 rfl hd rfl);obtain ⟨A2,a2,z2,l2,i2,_⟩:=(h.gd 13 rfl hd rfl);have y1:=got z1;have y2:=got z2
      go_simp
      exact hK _ _ ⟨_,_,rfl,rfl,⟨A1,_,a1,A2,_,a2,none,0,0,rfl,⟨l1,l2,Ln.none_ _ 1⟩,i1,i2,Yp.none_ _⟩,Below.refl _ _⟩
    | j+15,hi,_,_=>exact absurd hi (by omega)
   ·intro mm L a wx h hd
    refine wpAny_ready (rs:=[15]) (by decide +kernel) (by simp) (AllReady.cons rfl (fun K hK=>?_) AllReady.nil);refine (if_pos (by rfl)).mpr ?_;have hn4:=h.got 14 _ _ rfl (by decide) (hd 14 (by decide)) rfl;obtain ⟨A',n',c',B',m',d',C',k',e',ev,_,_,_,_⟩:=id hn4;have q:=got ev;have q2:=got ((h.old 6 (by kernel_rfl)).trans rfl:a.eval (.tmp 6) = .pointer (some ⟨w.heap.size+1,0,none⟩));have HR2:=iQ (HR1.out.kept h.below);obtain ⟨x0,x1,x2,x3⟩:=HR2.out.cells;obtain ⟨f0,f1,f2,f3⟩:=HR2.out.free
    go_simp
    refine hK _ _ ?_;refine wpAny_done (by decide +kernel) ?_ _;have HD:=iQ (Ub (Qe h.below B1.out) (wd3 _) hn4 (.bool (⟨true,ND.rep s.keys f (f) [x.toList],ND.rep s.vals f (f) [y.toList],[]⟩:ND).leaf) (.slice A' n' c') (.slice B' m' d') (.slice C' k' e'));rw [ev] at HD;obtain ⟨y0,y1,y2,y3⟩:=(HR2.out.put (.bool (⟨true,ND.rep s.keys f (f) [x.toList],ND.rep s.vals f (f) [y.toList],[]⟩:ND).leaf) (.slice A' n' c') (.slice B' m' d') (.slice C' k' e')).cells;refine HM _ _ ?_;refine wp_ret ?_;refine bodyPost_ret (v := .agg #[.bool (⟨true,ND.rep s.keys f (f) [x.toList],ND.rep s.vals f (f) [y.toList],[]⟩:ND).leaf,.slice A' n' c',.slice B' m' d',.slice C' k' e']) (by simp [results,Tryz.results57,go_sem,q2,y0,y1,y2,y3]) (h.df.trans rfl) ?_;exact ⟨_,rfl,by rw [HP.out];exact HD.out.1,HD.out.2⟩
/-- The arguments' blocks, and the answer's. -/
theorem YY (w:World) (x y z p x' y' z' p':Value):Qs (((w.alloc (.cells #[x,y,z,p] 75)).alloc (.cells #[x',y',z',p'] 75)).alloc (.cells #[.bool false,.slice none 0 0,.slice none 0 0,.slice none 0 0] 75)) w.heap.size x y z p /\
 Qs (((w.alloc (.cells #[x,y,z,p] 75)).alloc (.cells #[x',y',z',p'] 75)).alloc (.cells #[.bool false,.slice none 0 0,.slice none 0 0,.slice none 0 0] 75)) (w.heap.size+1) x' y' z' p' /\
 Qs (((w.alloc (.cells #[x,y,z,p] 75)).alloc (.cells #[x',y',z',p'] 75)).alloc (.cells #[.bool false,.slice none 0 0,.slice none 0 0,.slice none 0 0] 75)) (w.heap.size+1+1) (.bool false) (.slice none 0 0) (.slice none 0 0) (.slice none 0 0) /\
 Below w.heap.size w (((w.alloc (.cells #[x,y,z,p] 75)).alloc (.cells #[x',y',z',p'] 75)).alloc (.cells #[.bool false,.slice none 0 0,.slice none 0 0,.slice none 0 0] 75)):=by
 have e:(w.alloc (.cells #[x,y,z,p] 75)).heap.size=w.heap.size+1:=by simp
 obtain ⟨h1,h2,h3⟩:=Jr (w.alloc (.cells #[x,y,z,p] 75)) x' y' z' p';rw [e] at h1 h2;exact ⟨((Qp w x y z p).kept (Qa _ _)).kept (Qa _ _),h1,h2,Qe h3 (Qa _ _)⟩
theorem qx9 (a b:List Int):Qc a++Qc b=Qc (a++b):=(Yy a b).symm
def zh8 (g r:Nat) (A:Option Addr) (n c:Nat) (B:Option Addr) (m d:Nat) (C:Option Addr) (k e:Nat) (s:ND) (A':Option Addr) (n' c':Nat) (B':Option Addr) (m' d':Nat) (C':Option Addr) (k' e':Nat) (t:ND) (lf:Bool) (K:Option Addr) (q:Nat) (bl:List (List UInt8)):List SP :=
 [.is (.pointer (some ⟨g,0,none⟩)),.is (.bool lf),.is (.pointer (some ⟨g,1,none⟩)),.is (.slice A n c),.is (.slice K q q),.is (.pointer (some ⟨g+1,1,none⟩)),.is (.slice A' n' c'),.pile 3 [⟨A,n,c,Qd s.keys⟩,⟨K,q,q,Qd bl⟩,⟨A',n',c',Qd t.keys⟩],.ln (r+1) (n+q+n') (Qd (s.keys++bl++t.keys)),
  .is (.pointer (some ⟨g,2,none⟩)),.is (.slice B m d),.is (.pointer (some ⟨g+1,2,none⟩)),.is (.slice B' m' d'),.pile 2 [⟨B,m,d,Qd s.vals⟩,⟨B',m',d',Qd t.vals⟩],.ln (r+1) (m+m') (Qd (s.vals++t.vals)),
  .is (.pointer (some ⟨g,3,none⟩)),.is (.slice C k e),.is (.pointer (some ⟨g+1,3,none⟩)),.is (.slice C' k' e'),.pile 2 [⟨C,k,e,Qc s.kids⟩,⟨C',k',e',Qc t.kids⟩],.ln (r+1) (k+k') (Qc (s.kids++t.kids)),
  .nd (r+1) ⟨lf,s.keys++bl++t.keys,s.vals++t.vals,s.kids++t.kids⟩]
theorem qj5 (lf:Bool) (A:Option Addr) (n c:Nat) (B:Option Addr) (m d:Nat) (C:Option Addr) (k e:Nat) (s:ND) (lf':Bool) (A':Option Addr) (n' c':Nat) (B':Option Addr) (m' d':Nat) (C':Option Addr) (k' e':Nat) (t:ND) (x:ByteArray) (w:World)
 (h:Nd w A n c B m d C k e s) (g:Nd w A' n' c' B' m' d' C' k' e' t) (hl:s.leaf=lf) (hn:n<=300000) (hm:m<=300000) (hk:k<=300000) (hn':n'<=300000) (hm':m'<=300000) (hk':k'<=300000) :
 Calls Tryz.prog 163 #[.agg #[.bool lf,.slice A n c,.slice B m d,.slice C k e],.string x,.agg #[.bool lf',.slice A' n' c',.slice B' m' d',.slice C' k' e']] w (qz7 w (s.join x.toList t)):=by
 obtain ⟨Vh,tb2,Xm,tb4⟩:=YY w (.bool lf) (.slice A n c) (.slice B m d) (.slice C k e) (.bool lf') (.slice A' n' c') (.slice B' m' d') (.slice C' k' e');have HS:=iQ (h.kept tb4);have GS:=iQ (g.kept tb4);have HB:=iQ Vh;have GB:=iQ tb2;have HR:=iQ Xm;have B0:=iQ tb4;have HL:=iQ hl;clear h g hl Vh tb2 Xm tb4;go_enter Tryz.func163,Tryz.ntmps163;go_upto_region 1 with fail
 generalize ((w.alloc (.cells #[.bool lf,.slice A n c,.slice B m d,.slice C k e] 75)).alloc (.cells #[.bool lf',.slice A' n' c',.slice B' m' d',.slice C' k' e'] 75)).alloc (.cells #[.bool false,.slice none 0 0,.slice none 0 0,.slice none 0 0] 75)=w0 at *;have b1:=Qa w0 (.cells #[.string x] 9);have B1:=iQ (Qe b1 B0.out);have HB1:=iQ (HB.out.kept b1);have GB1:=iQ (GB.out.kept b1);have HR1:=iQ (HR.out.kept b1);have Xl:=iQ (HS.out.kept b1);have GS1:=iQ (GS.out.kept b1);have LX:Hid (Ln (w0.alloc (.cells #[.string x] 9)) 1 (some ⟨w0.heap.size,0,none⟩) 1 1 (Qd [x.toList])):=iQ (by
  obtain ⟨A9,c9,e9,l9,_⟩:=PT w0 x;injection e9 with e9 _ e10
  subst e9;subst e10;rw [<- YP];exact l9)
 clear b1 HB GB HR HS GS B0;go_upto_region 2 with fail
 generalize w0.alloc (.cells #[.string x] 9)=w1 at *;generalize w0.heap.size=gx at *;have hg:=HB1.out.lt;have hg2:=GB1.out.lt;have hr:=HR1.out.lt;obtain ⟨c0,c1,c2,c3⟩:=HB1.out.cells;cases lf with
 | true =>
   have LN:Hid (Ln w1 1 none 0 0 (Qd [])):=iQ (Ln.none_ _ 1);have HJ:Hid (s.join x.toList t=⟨true,s.keys++[]++t.keys,s.vals++t.vals,s.kids++t.kids⟩):=iQ (by unfold ND.join;rw [HL.out];rfl);go_upto_region 4 with fail
   clear c0 c1 c2 c3;rename_i KK HM;refine Qz 22 1 (SP.at_ (zh8 w.heap.size (w.heap.size+1+1) A n c B m d C k e s A' n' c' B' m' d' C' k' e' t true none 0 [])) (by kernel_rfl) rfl (by kernel_rfl) (by kernel_rfl) (by kernel_rfl) (SP.at_st _) ?_ ?_
   ·intro i o L a wx hi ho h hd
    have e3:a.eval (.tmp 3) = .pointer (some ⟨w.heap.size,0,none⟩):=(h.old 3 (by kernel_rfl)).trans rfl;have e5:a.eval (.tmp 5) = .pointer (some ⟨w.heap.size+1,0,none⟩):=(h.old 5 (by kernel_rfl)).trans rfl;have e7:a.eval (.tmp 7) = .slice none 0 0:=(h.old 7 (by kernel_rfl)).trans rfl;obtain ⟨c0,c1,c2,c3⟩:=(HB1.out.kept h.below).cells;obtain ⟨d0,d1,d2,d3⟩:=(GB1.out.kept h.below).cells
    match i,hi,ho,hd with
    | 0,_,ho,hd =>
      obtain rfl:=wa0 ho;refine wpOp_step rfl (fun K hK=>?_);refine (if_pos (by rfl)).mpr ?_;have q0:=got e3
      go_simp
      exact hK _ _ ⟨_,_,rfl,rfl,rfl,Below.refl _ _⟩
    | 1,_,ho,hd =>
      obtain rfl:=wa0 ho;refine wpOp_step rfl (fun K hK=>?_);refine (if_pos (by rfl)).mpr ?_;have q0:=got (h.gd 0 rfl hd rfl)
      go_simp
      exact hK _ _ ⟨_,_,rfl,rfl,rfl,Below.refl _ _⟩
    | 2,_,ho,hd =>
      obtain rfl:=wa0 ho;refine wpOp_step rfl (fun K hK=>?_);refine (if_pos (by rfl)).mpr ?_;have q0:=got e3
      go_simp
      exact hK _ _ ⟨_,_,rfl,rfl,rfl,Below.refl _ _⟩
    | 3,_,ho,hd =>
      obtain rfl:=wa0 ho;refine wpOp_step rfl (fun K hK=>?_);refine (if_pos (by rfl)).mpr ?_;have q0:=got (h.gd 2 rfl hd rfl)
      go_simp
      exact hK _ _ ⟨_,_,rfl,rfl,rfl,Below.refl _ _⟩
    | 4,_,ho,hd =>
      obtain rfl:=wa0 ho;refine wpOp_step rfl (fun K hK=>?_);refine (if_pos (by rfl)).mpr ?_;have q0:=got e7
      go_simp
      exact hK _ _ ⟨_,_,rfl,rfl,rfl,Below.refl _ _⟩
    | 5,_,ho,hd =>
      obtain rfl:=wa0 ho;refine wpOp_step rfl (fun K hK=>?_);refine (if_pos (by rfl)).mpr ?_;have q0:=got e5
      go_simp
      exact hK _ _ ⟨_,_,rfl,rfl,rfl,Below.refl _ _⟩
    | 6,_,ho,hd =>
      obtain rfl:=wa0 ho;refine wpOp_step rfl (fun K hK=>?_);refine (if_pos (by rfl)).mpr ?_;have q0:=got (h.gd 5 rfl hd rfl)
      go_simp
      exact hK _ _ ⟨_,_,rfl,rfl,rfl,Below.refl _ _⟩
    | 7,_,ho,hd =>
      obtain rfl:=wa0 ho;refine wpOp_step rfl (fun K hK=>?_);refine (if_pos (by rfl)).mpr ?_;have q3:=got (h.gd 3 rfl hd rfl);have q4:=got (h.gd 4 rfl hd rfl);have q6:=got (h.gd 6 rfl hd rfl)
      go_simp
      exact hK _ _ ⟨_,_,rfl,rfl,⟨_,rfl,Gt (Xl.out.ke.kept h.below) (Qm _) (LN.out.kept h.below) (Qm _) (GS1.out.ke.kept h.below) (Qm _) _⟩,Qa _ _⟩
    | 8,_,ho,hd =>
      obtain rfl:=wa0 ho;refine wpOp_step rfl (fun K hK=>?_);refine (if_pos (by rfl)).mpr ?_;obtain ⟨p,ep,hp⟩:=(h.gd 7 rfl hd rfl);have q0:=got ep;have hbs:=h.below.size
      go_simp
      refine (Xd _ 3 3 (n+0+n') _ wx hp rfl (by simp [Xn]<;>omega) (by omega) (by decide)).mono ?_
      rintro e w3 ⟨v3,rfl,o3,b3⟩;rw [Gw] at o3;dsimp only at o3;rw [<- Zw,<- Zw] at o3;exact hK _ _ ⟨v3,_,rfl,rfl,Qy o3 rfl (by omega),b3⟩
    | 9,_,ho,hd =>
      obtain rfl:=wa0 ho;refine wpOp_step rfl (fun K hK=>?_);refine (if_pos (by rfl)).mpr ?_;have q0:=got e3
      go_simp
      exact hK _ _ ⟨_,_,rfl,rfl,rfl,Below.refl _ _⟩
    | 10,_,ho,hd =>
      obtain rfl:=wa0 ho;refine wpOp_step rfl (fun K hK=>?_);refine (if_pos (by rfl)).mpr ?_;have q0:=got (h.gd 9 rfl hd rfl)
      go_simp
      exact hK _ _ ⟨_,_,rfl,rfl,rfl,Below.refl _ _⟩
    | 11,_,ho,hd =>
      obtain rfl:=wa0 ho;refine wpOp_step rfl (fun K hK=>?_);refine (if_pos (by rfl)).mpr ?_;have q0:=got e5
      go_simp
      exact hK _ _ ⟨_,_,rfl,rfl,rfl,Below.refl _ _⟩
    | 12,_,ho,hd =>
      obtain rfl:=wa0 ho;refine wpOp_step rfl (fun K hK=>?_);refine (if_pos (by rfl)).mpr ?_;have q0:=got (h.gd 11 rfl hd rfl)
      go_simp
      exact hK _ _ ⟨_,_,rfl,rfl,rfl,Below.refl _ _⟩
    | 13,_,ho,hd =>
      obtain rfl:=wa0 ho;refine wpOp_step rfl (fun K hK=>?_);refine (if_pos (by rfl)).mpr ?_;have q10:=got (h.gd 10 rfl hd rfl);have q12:=got (h.gd 12 rfl hd rfl)
      go_simp
      exact hK _ _ ⟨_,_,rfl,rfl,⟨_,rfl,Ut (Xl.out.va.kept h.below) (Qm _) (GS1.out.va.kept h.below) (Qm _) _⟩,Qa _ _⟩
    | 14,_,ho,hd =>
      obtain rfl:=wa0 ho;refine wpOp_step rfl (fun K hK=>?_);refine (if_pos (by rfl)).mpr ?_;obtain ⟨p,ep,hp⟩:=(h.gd 13 rfl hd rfl);have q0:=got ep;have hbs:=h.below.size
      go_simp
      refine (Xd _ 2 2 (m+m') _ wx hp rfl (by simp [Xn]) (by omega) (by decide)).mono ?_;rintro e w3 ⟨v3,rfl,o3,b3⟩;rw [XV] at o3;dsimp only at o3;rw [<- Zw] at o3;exact hK _ _ ⟨v3,_,rfl,rfl,Qy o3 rfl (by omega),b3⟩
    | 15,_,ho,hd =>
      obtain rfl:=wa0 ho;refine wpOp_step rfl (fun K hK=>?_);refine (if_pos (by rfl)).mpr ?_;have q0:=got e3
      go_simp
      exact hK _ _ ⟨_,_,rfl,rfl,rfl,Below.refl _ _⟩
    | 16,_,ho,hd =>
      obtain rfl:=wa0 ho;refine wpOp_step rfl (fun K hK=>?_);refine (if_pos (by rfl)).mpr ?_;have q0:=got (h.gd 15 rfl hd rfl)
      go_simp
      exact hK _ _ ⟨_,_,rfl,rfl,rfl,Below.refl _ _⟩
    | 17,_,ho,hd =>
      obtain rfl:=wa0 ho;refine wpOp_step rfl (fun K hK=>?_);refine (if_pos (by rfl)).mpr ?_;have q0:=got e5
      go_simp
      exact hK _ _ ⟨_,_,rfl,rfl,rfl,Below.refl _ _⟩
    | 18,_,ho,hd =>
      obtain rfl:=wa0 ho;refine wpOp_step rfl (fun K hK=>?_);refine (if_pos (by rfl)).mpr ?_;have q0:=got (h.gd 17 rfl hd rfl)
      go_simp
      exact hK _ _ ⟨_,_,rfl,rfl,rfl,Below.refl _ _⟩
    | 19,_,ho,hd =>
      obtain rfl:=wa0 ho;refine wpOp_step rfl (fun K hK=>?_);refine (if_pos (by rfl)).mpr ?_;have q16:=got (h.gd 16 rfl hd rfl);have q18:=got (h.gd 18 rfl hd rfl)
      go_simp
      exact hK _ _ ⟨_,_,rfl,rfl,⟨_,rfl,Ut (Xl.out.ki.kept h.below) (Qr _) (GS1.out.ki.kept h.below) (Qr _) _⟩,Qa _ _⟩
    | 20,_,ho,hd =>
      obtain rfl:=wa0 ho;refine wpOp_step rfl (fun K hK=>?_);refine (if_pos (by rfl)).mpr ?_;obtain ⟨p,ep,hp⟩:=(h.gd 19 rfl hd rfl);have q0:=got ep;have hbs:=h.below.size
      go_simp
      refine (QM _ 2 2 (k+k') _ wx hp rfl (by simp [Xn]) (by omega) (by decide)).mono ?_;rintro e w3 ⟨v3,rfl,o3,b3⟩;rw [XV] at o3;dsimp only at o3;rw [qx9] at o3;exact hK _ _ ⟨v3,_,rfl,rfl,Qy o3 rfl (by omega),b3⟩
    | 21,_,ho,hd =>
      obtain rfl:=wa0 ho;refine wpOp_step rfl (fun K hK=>?_);refine (if_pos (by rfl)).mpr ?_;have q1:=got (h.gd 1 rfl hd rfl);obtain ⟨A1,a1,z1,l1,i1,_⟩:=(h.gd 8 rfl hd rfl);obtain ⟨A2,a2,z2,l2,i2,_⟩:=(h.gd 14 rfl hd rfl);obtain ⟨A3,a3,z3,l3,i3,_⟩:=(h.gd 20 rfl hd rfl);have y1:=got z1;have y2:=got z2;have y3:=got z3
      go_simp
      exact hK _ _ ⟨_,_,rfl,rfl,⟨A1,_,a1,A2,_,a2,A3,_,a3,rfl,⟨l1,l2,l3⟩,i1,i2,i3⟩,Below.refl _ _⟩
    | j+22,hi,_,_=>exact absurd hi (by omega)
   ·intro mm L a wx h hd
    refine wpAny_ready (rs:=[22]) (by decide +kernel) (by simp) (AllReady.cons rfl (fun K hK=>?_) AllReady.nil);refine (if_pos (by rfl)).mpr ?_;have hn4:=h.got 21 _ _ rfl (by decide) (hd 21 (by decide)) rfl;obtain ⟨A6,n6,c6,B6,m6,d6,C6,k6,e6,ev,_,_,_,_⟩:=id hn4;have q:=got ev;have q2:=got ((h.old 6 (by kernel_rfl)).trans rfl:a.eval (.tmp 6) = .pointer (some ⟨w.heap.size+1+1,0,none⟩));have HR2:=iQ (HR1.out.kept h.below);obtain ⟨x0,x1,x2,x3⟩:=HR2.out.cells;obtain ⟨f0,f1,f2,f3⟩:=HR2.out.free
    go_simp
    refine hK _ _ ?_;refine wpAny_done (by decide +kernel) ?_ _;have HD:=iQ (Ub (Qe h.below B1.out) (by omega) hn4 (.bool (⟨true,s.keys++[]++t.keys,s.vals++t.vals,s.kids++t.kids⟩:ND).leaf) (.slice A6 n6 c6) (.slice B6 m6 d6) (.slice C6 k6 e6));rw [ev] at HD;obtain ⟨y0,y1,y2,y3⟩:=(HR2.out.put (.bool (⟨true,s.keys++[]++t.keys,s.vals++t.vals,s.kids++t.kids⟩:ND).leaf) (.slice A6 n6 c6) (.slice B6 m6 d6) (.slice C6 k6 e6)).cells;refine HM _ _ ?_;refine wp_ret ?_;refine bodyPost_ret (v := .agg #[.bool (⟨true,s.keys++[]++t.keys,s.vals++t.vals,s.kids++t.kids⟩:ND).leaf,.slice A6 n6 c6,.slice B6 m6 d6,.slice C6 k6 e6]) (by simp [results,Tryz.results163,go_sem,q2,y0,y1,y2,y3]) (h.df.trans rfl) ?_;exact ⟨_,rfl,by rw [HJ.out];exact HD.out.1,HD.out.2⟩
 | false =>
   have LN:=LX;have HJ:Hid (s.join x.toList t=⟨false,s.keys++[x.toList]++t.keys,s.vals++t.vals,s.kids++t.kids⟩):=iQ (by unfold ND.join;rw [HL.out];rfl);go_upto_region 4 with fail
   clear c0 c1 c2 c3;rename_i KK HM;refine Qz 22 1 (SP.at_ (zh8 w.heap.size (w.heap.size+1+1) A n c B m d C k e s A' n' c' B' m' d' C' k' e' t false (some ⟨gx,0,none⟩) 1 [x.toList])) (by kernel_rfl) rfl (by kernel_rfl) (by kernel_rfl) (by kernel_rfl) (SP.at_st _) ?_ ?_
   ·intro i o L a wx hi ho h hd
    have e3:a.eval (.tmp 3) = .pointer (some ⟨w.heap.size,0,none⟩):=(h.old 3 (by kernel_rfl)).trans rfl;have e5:a.eval (.tmp 5) = .pointer (some ⟨w.heap.size+1,0,none⟩):=(h.old 5 (by kernel_rfl)).trans rfl;have e7:a.eval (.tmp 7) = .slice (some ⟨gx,0,none⟩) 1 1:=(h.old 7 (by kernel_rfl)).trans rfl;obtain ⟨c0,c1,c2,c3⟩:=(HB1.out.kept h.below).cells;obtain ⟨d0,d1,d2,d3⟩:=(GB1.out.kept h.below).cells
    match i,hi,ho,hd with
    | 0,_,ho,hd =>
      obtain rfl:=wa0 ho;refine wpOp_step rfl (fun K hK=>?_);refine (if_pos (by rfl)).mpr ?_;have q0:=got e3
      go_simp
      exact hK _ _ ⟨_,_,rfl,rfl,rfl,Below.refl _ _⟩
    | 1,_,ho,hd =>
      obtain rfl:=wa0 ho;refine wpOp_step rfl (fun K hK=>?_);refine (if_pos (by rfl)).mpr ?_;have q0:=got (h.gd 0 rfl hd rfl)
      go_simp
      exact hK _ _ ⟨_,_,rfl,rfl,rfl,Below.refl _ _⟩
    | 2,_,ho,hd =>
      obtain rfl:=wa0 ho;refine wpOp_step rfl (fun K hK=>?_);refine (if_pos (by rfl)).mpr ?_;have q0:=got e3
      go_simp
      exact hK _ _ ⟨_,_,rfl,rfl,rfl,Below.refl _ _⟩
    | 3,_,ho,hd =>
      obtain rfl:=wa0 ho;refine wpOp_step rfl (fun K hK=>?_);refine (if_pos (by rfl)).mpr ?_;have q0:=got (h.gd 2 rfl hd rfl)
      go_simp
      exact hK _ _ ⟨_,_,rfl,rfl,rfl,Below.refl _ _⟩
    | 4,_,ho,hd =>
      obtain rfl:=wa0 ho;refine wpOp_step rfl (fun K hK=>?_);refine (if_pos (by rfl)).mpr ?_;have q0:=got e7
      go_simp
      exact hK _ _ ⟨_,_,rfl,rfl,rfl,Below.refl _ _⟩
    | 5,_,ho,hd =>
      obtain rfl:=wa0 ho;refine wpOp_step rfl (fun K hK=>?_);refine (if_pos (by rfl)).mpr ?_;have q0:=got e5
      go_simp
      exact hK _ _ ⟨_,_,rfl,rfl,rfl,Below.refl _ _⟩
    | 6,_,ho,hd =>
      obtain rfl:=wa0 ho;refine wpOp_step rfl (fun K hK=>?_);refine (if_pos (by rfl)).mpr ?_;have q0:=got (h.gd 5 rfl hd rfl)
      go_simp
      exact hK _ _ ⟨_,_,rfl,rfl,rfl,Below.refl _ _⟩
    | 7,_,ho,hd =>
      obtain rfl:=wa0 ho;refine wpOp_step rfl (fun K hK=>?_);refine (if_pos (by rfl)).mpr ?_;have q3:=got (h.gd 3 rfl hd rfl);have q4:=got (h.gd 4 rfl hd rfl);have q6:=got (h.gd 6 rfl hd rfl)
      go_simp
      exact hK _ _ ⟨_,_,rfl,rfl,⟨_,rfl,Gt (Xl.out.ke.kept h.below) (Qm _) (LN.out.kept h.below) (Qm _) (GS1.out.ke.kept h.below) (Qm _) _⟩,Qa _ _⟩
    | 8,_,ho,hd =>
      obtain rfl:=wa0 ho;refine wpOp_step rfl (fun K hK=>?_);refine (if_pos (by rfl)).mpr ?_;obtain ⟨p,ep,hp⟩:=(h.gd 7 rfl hd rfl);have q0:=got ep;have hbs:=h.below.size
      go_simp
      refine (Xd _ 3 3 (n+1+n') _ wx hp rfl (by simp [Xn]<;>omega) (by omega) (by decide)).mono ?_
      rintro e w3 ⟨v3,rfl,o3,b3⟩;rw [Gw] at o3;dsimp only at o3;rw [<- Zw,<- Zw] at o3;exact hK _ _ ⟨v3,_,rfl,rfl,Qy o3 rfl (by omega),b3⟩
    | 9,_,ho,hd =>
      obtain rfl:=wa0 ho;refine wpOp_step rfl (fun K hK=>?_);refine (if_pos (by rfl)).mpr ?_;have q0:=got e3
      go_simp
      exact hK _ _ ⟨_,_,rfl,rfl,rfl,Below.refl _ _⟩
    | 10,_,ho,hd =>
      obtain rfl:=wa0 ho;refine wpOp_step rfl (fun K hK=>?_);refine (if_pos (by rfl)).mpr ?_;have q0:=got (h.gd 9 rfl hd rfl)
      go_simp
      exact hK _ _ ⟨_,_,rfl,rfl,rfl,Below.refl _ _⟩
    | 11,_,ho,hd =>
      obtain rfl:=wa0 ho;refine wpOp_step rfl (fun K hK=>?_);refine (if_pos (by rfl)).mpr ?_;have q0:=got e5
      go_simp
      exact hK _ _ ⟨_,_,rfl,rfl,rfl,Below.refl _ _⟩
    | 12,_,ho,hd =>
      obtain rfl:=wa0 ho;refine wpOp_step rfl (fun K hK=>?_);refine (if_pos (by rfl)).mpr ?_;have q0:=got (h.gd 11 rfl hd rfl)
      go_simp
      exact hK _ _ ⟨_,_,rfl,rfl,rfl,Below.refl _ _⟩
    | 13,_,ho,hd =>
      obtain rfl:=wa0 ho;refine wpOp_step rfl (fun K hK=>?_);refine (if_pos (by rfl)).mpr ?_;have q10:=got (h.gd 10 rfl hd rfl);have q12:=got (h.gd 12 rfl hd rfl)
      go_simp
      exact hK _ _ ⟨_,_,rfl,rfl,⟨_,rfl,Ut (Xl.out.va.kept h.below) (Qm _) (GS1.out.va.kept h.below) (Qm _) _⟩,Qa _ _⟩
    | 14,_,ho,hd =>
      obtain rfl:=wa0 ho;refine wpOp_step rfl (fun K hK=>?_);refine (if_pos (by rfl)).mpr ?_;obtain ⟨p,ep,hp⟩:=(h.gd 13 rfl hd rfl);have q0:=got ep;have hbs:=h.below.size
      go_simp
      refine (Xd _ 2 2 (m+m') _ wx hp rfl (by simp [Xn]) (by omega) (by decide)).mono ?_;rintro e w3 ⟨v3,rfl,o3,b3⟩;rw [XV] at o3;dsimp only at o3;rw [<- Zw] at o3;exact hK _ _ ⟨v3,_,rfl,rfl,Qy o3 rfl (by omega),b3⟩
    | 15,_,ho,hd =>
      obtain rfl:=wa0 ho;refine wpOp_step rfl (fun K hK=>?_);refine (if_pos (by rfl)).mpr ?_;have q0:=got e3
      go_simp
      exact hK _ _ ⟨_,_,rfl,rfl,rfl,Below.refl _ _⟩
    | 16,_,ho,hd =>
      obtain rfl:=wa0 ho;refine wpOp_step rfl (fun K hK=>?_);refine (if_pos (by rfl)).mpr ?_;have q0:=got (h.gd 15 rfl hd rfl)
      go_simp
      exact hK _ _ ⟨_,_,rfl,rfl,rfl,Below.refl _ _⟩
    | 17,_,ho,hd =>
      obtain rfl:=wa0 ho;refine wpOp_step rfl (fun K hK=>?_);refine (if_pos (by rfl)).mpr ?_;have q0:=got e5
      go_simp
      exact hK _ _ ⟨_,_,rfl,rfl,rfl,Below.refl _ _⟩
    | 18,_,ho,hd =>
      obtain rfl:=wa0 ho;refine wpOp_step rfl (fun K hK=>?_);refine (if_pos (by rfl)).mpr ?_;have q0:=got (h.gd 17 rfl hd rfl)
      go_simp
      exact hK _ _ ⟨_,_,rfl,rfl,rfl,Below.refl _ _⟩
    | 19,_,ho,hd =>
      obtain rfl:=wa0 ho;refine wpOp_step rfl (fun K hK=>?_);refine (if_pos (by rfl)).mpr ?_;have q16:=got (h.gd 16 rfl hd rfl);have q18:=got (h.gd 18 rfl hd rfl)
      go_simp
      exact hK _ _ ⟨_,_,rfl,rfl,⟨_,rfl,Ut (Xl.out.ki.kept h.below) (Qr _) (GS1.out.ki.kept h.below) (Qr _) _⟩,Qa _ _⟩
    | 20,_,ho,hd =>
      obtain rfl:=wa0 ho;refine wpOp_step rfl (fun K hK=>?_);refine (if_pos (by rfl)).mpr ?_;obtain ⟨p,ep,hp⟩:=(h.gd 19 rfl hd rfl);have q0:=got ep;have hbs:=h.below.size
      go_simp
      refine (QM _ 2 2 (k+k') _ wx hp rfl (by simp [Xn]) (by omega) (by decide)).mono ?_;rintro e w3 ⟨v3,rfl,o3,b3⟩;rw [XV] at o3;dsimp only at o3;rw [qx9] at o3;exact hK _ _ ⟨v3,_,rfl,rfl,Qy o3 rfl (by omega),b3⟩
    | 21,_,ho,hd =>
      obtain rfl:=wa0 ho;refine wpOp_step rfl (fun K hK=>?_);refine (if_pos (by rfl)).mpr ?_;have q1:=got (h.gd 1 rfl hd rfl);obtain ⟨A1,a1,z1,l1,i1,_⟩:=(h.gd 8 rfl hd rfl);obtain ⟨A2,a2,z2,l2,i2,_⟩:=(h.gd 14 rfl hd rfl);obtain ⟨A3,a3,z3,l3,i3,_⟩:=(h.gd 20 rfl hd rfl);have y1:=got z1;have y2:=got z2;have y3:=got z3
      go_simp
      exact hK _ _ ⟨_,_,rfl,rfl,⟨A1,_,a1,A2,_,a2,A3,_,a3,rfl,⟨l1,l2,l3⟩,i1,i2,i3⟩,Below.refl _ _⟩
    | j+22,hi,_,_=>exact absurd hi (by omega)
   ·intro mm L a wx h hd
    refine wpAny_ready (rs:=[22]) (by decide +kernel) (by simp) (AllReady.cons rfl (fun K hK=>?_) AllReady.nil);refine (if_pos (by rfl)).mpr ?_;have hn4:=h.got 21 _ _ rfl (by decide) (hd 21 (by decide)) rfl;obtain ⟨A6,n6,c6,B6,m6,d6,C6,k6,e6,ev,_,_,_,_⟩:=id hn4;have q:=got ev;have q2:=got ((h.old 6 (by kernel_rfl)).trans rfl:a.eval (.tmp 6) = .pointer (some ⟨w.heap.size+1+1,0,none⟩));have HR2:=iQ (HR1.out.kept h.below);obtain ⟨x0,x1,x2,x3⟩:=HR2.out.cells;obtain ⟨f0,f1,f2,f3⟩:=HR2.out.free
    go_simp
    refine hK _ _ ?_;refine wpAny_done (by decide +kernel) ?_ _;have HD:=iQ (Ub (Qe h.below B1.out) (by omega) hn4 (.bool (⟨false,s.keys++[x.toList]++t.keys,s.vals++t.vals,s.kids++t.kids⟩:ND).leaf) (.slice A6 n6 c6) (.slice B6 m6 d6) (.slice C6 k6 e6));rw [ev] at HD;obtain ⟨y0,y1,y2,y3⟩:=(HR2.out.put (.bool (⟨false,s.keys++[x.toList]++t.keys,s.vals++t.vals,s.kids++t.kids⟩:ND).leaf) (.slice A6 n6 c6) (.slice B6 m6 d6) (.slice C6 k6 e6)).cells;refine HM _ _ ?_;refine wp_ret ?_;refine bodyPost_ret (v := .agg #[.bool (⟨false,s.keys++[x.toList]++t.keys,s.vals++t.vals,s.kids++t.kids⟩:ND).leaf,.slice A6 n6 c6,.slice B6 m6 d6,.slice C6 k6 e6]) (by simp [results,Tryz.results163,go_sem,q2,y0,y1,y2,y3]) (h.df.trans rfl) ?_;exact ⟨_,rfl,by rw [HJ.out];exact HD.out.1,HD.out.2⟩
section
variable {w w':World} {q:Nat} {b:Bool} {A1 A2 A3:Option Addr} {n1 n2 n3 c1 c2 c3:Nat}
theorem Uz (h:Qs w q (.bool b) (.slice A1 n1 c1) (.slice A2 n2 c2) (.slice A3 n3 c3)) {ad:Addr} {u:Value} (hu:w.cell? ad=some u) (hk:(∃ s,u = .string s)\/∃ z,u = .int .i64 z):ad.block≠q:=by
 rintro rfl;have hs:=World.cell?_spot hu;obtain ⟨bl,off,sp⟩:=ad;obtain rfl:sp=none:=hs;have e:=cell_of_row w bl off _ _ _ h;rw [hu] at e
 match off,e with
 | 0,e=>rcases hk with ⟨s,rfl⟩ | ⟨z,rfl⟩<;>cases e
 | 1,e=>rcases hk with ⟨s,rfl⟩ | ⟨z,rfl⟩<;>cases e
 | 2,e=>rcases hk with ⟨s,rfl⟩ | ⟨z,rfl⟩<;>cases e
 | 3,e=>rcases hk with ⟨s,rfl⟩ | ⟨z,rfl⟩<;>cases e
 | j+4,e=>simp at e
theorem Ln.apart {A:Option Addr} {n c:Nat} {cs:List Value} (g:Ln w 1 A n c cs) (hk:∀ u∈cs,(∃ s,u = .string s)\/∃ z,u = .int .i64 z) (h:Qs w q (.bool b) (.slice A1 n1 c1) (.slice A2 n2 c2) (.slice A3 n3 c3)) (hb:Yq q w w'):Ln w' 1 A n c cs :=
 ⟨g.len,g.le,g.lies.1,fun ad e j u hu=>by
  have h0:=g.lies.2 ad e j u hu;have hne:=Uz h h0 (hk u (wb5 hu));rw [World.cell?_of_block (w:=w) (hb.2 _ hne)];exact h0⟩
theorem SQ (l:List (List UInt8)):∀ u∈Qd l,(∃ s,u = .string s)\/∃ z,u = .int .i64 z:=by
 intro u hu;obtain ⟨t,_,rfl⟩:=wd7.1 hu;exact Or.inl ⟨_,rfl⟩
theorem qj9 (l:List Int):∀ u∈Qc l,(∃ s,u = .string s)\/∃ z,u = .int .i64 z:=by
 intro u hu;obtain ⟨t,_,rfl⟩:=wd7.1 hu;exact Or.inr ⟨_,rfl⟩
theorem Ln.sB {A:Option Addr} {n c:Nat} {l:List (List UInt8)} (g:Ln w 1 A n c (Qd l)) (h:Qs w q (.bool b) (.slice A1 n1 c1) (.slice A2 n2 c2) (.slice A3 n3 c3)) (hb:Yq q w w'):Ln w' 1 A n c (Qd l):=g.apart (SQ l) h hb
theorem Ln.intBut {A:Option Addr} {n c:Nat} {l:List Int} (g:Ln w 1 A n c (Qc l)) (h:Qs w q (.bool b) (.slice A1 n1 c1) (.slice A2 n2 c2) (.slice A3 n3 c3)) (hb:Yq q w w'):Ln w' 1 A n c (Qc l):=g.apart (qj9 l) h hb
theorem Nd.but {A B C:Option Addr} {n c m d k e:Nat} {s:ND} (g:Nd w A n c B m d C k e s) (h:Qs w q (.bool b) (.slice A1 n1 c1) (.slice A2 n2 c2) (.slice A3 n3 c3)) (hb:Yq q w w'):Nd w' A n c B m d C k e s :=
 ⟨g.ke.sB h hb,g.va.sB h hb,g.ki.intBut h hb⟩
end
def SP.box (base:Nat):SP:=⟨fun v w=>∃ q,v = .pointer (some ⟨q,0,none⟩)/\Qs w q (.bool false) (.slice none 0 0) (.slice none 0 0) (.slice none 0 0)/\base<=q,fun _ _ _ h hb=>by obtain ⟨q,e,h,h2⟩:=h;exact ⟨q,e,h.kept hb,h2⟩⟩
def qe2 (w:World) (s:ND) (e:Ending) (w':World):Prop:=∃ v u,e = .returned (.tuple #[v,.string (tb s.splitK),u,.int .i64 s.splitE])/\Ha w' w.heap.size v s.splitL/\Ha w' w.heap.size u s.splitR/\Below w.heap.size w w'
structure Hi6 (base:Nat) (A B C A' B' C':Option Addr):Prop where
 a:Yp base A
 b:Yp base B
 c:Yp base C
 a':Yp base A'
 b':Yp base B'
 c':Yp base C'
theorem Ha.of_hi {w:World} {base:Nat} {A B C:Option Addr} {n c m d k e:Nat} {s:ND} (h:Nd w A n c B m d C k e s) {lf:Bool} (hl:lf=s.leaf) (a:Yp base A) (b:Yp base B) (g:Yp base C):Ha w base (.agg #[.bool lf,.slice A n c,.slice B m d,.slice C k e]) s:=by
 subst hl;exact ⟨A,n,c,B,m,d,C,k,e,rfl,h,a,b,g⟩
structure Kq (w1 w:World) (q1 q2:Nat) (lf:Bool) (A1:Option Addr) (n1 c1:Nat) (B1:Option Addr) (m1 d1:Nat) (C1:Option Addr) (k1 e1:Nat) (s1:ND) (A2:Option Addr) (n2 c2:Nat) (B2:Option Addr) (m2 d2:Nat) (C2:Option Addr) (k2 e2:Nat) (s2:ND):Prop where
 b1:Qs w q1 (.bool lf) (.slice A1 n1 c1) (.slice B1 m1 d1) (.slice C1 k1 e1)
 b2:Qs w q2 (.bool lf) (.slice A2 n2 c2) (.slice B2 m2 d2) (.slice C2 k2 e2)
 h1:Nd w A1 n1 c1 B1 m1 d1 C1 k1 e1 s1
 h2:Nd w A2 n2 c2 B2 m2 d2 C2 k2 e2 s2
 ne:q1≠q2
 l1:w1.heap.size<=q1
 l2:w1.heap.size<=q2
 bel:Below w1.heap.size w1 w
 hi:Hi6 w1.heap.size A1 B1 C1 A2 B2 C2
section
variable {w1 w w':World} {q1 q2:Nat} {lf:Bool} {A1 B1 C1 A2 B2 C2:Option Addr} {n1 c1 m1 d1 k1 e1 n2 c2 m2 d2 k2 e2:Nat} {s1 s2:ND}
theorem Kq.next (h:Kq w1 w q1 q2 lf A1 n1 c1 B1 m1 d1 C1 k1 e1 s1 A2 n2 c2 B2 m2 d2 C2 k2 e2 s2) (b:Below w.heap.size w w'):Kq w1 w' q1 q2 lf A1 n1 c1 B1 m1 d1 C1 k1 e1 s1 A2 n2 c2 B2 m2 d2 C2 k2 e2 s2 :=
 ⟨h.b1.kept b,h.b2.kept b,h.h1.kept b,h.h2.kept b,h.ne,h.l1,h.l2,Qe b h.bel,h.hi⟩
theorem Kq.vals {Kv Um:Option Addr} {m1' d1' m2' d2':Nat} {v1 v2:List (List UInt8)} (h:Kq w1 w q1 q2 lf A1 n1 c1 B1 m1 d1 C1 k1 e1 s1 A2 n2 c2 B2 m2 d2 C2 k2 e2 s2) (g1:Ln w 1 Kv m1' d1' (Qd v1)) (g2:Ln w 1 Um m2' d2' (Qd v2)) (i1:Yp w1.heap.size Kv) (i2:Yp w1.heap.size Um) :
 Kq w1 ((w.setCell ⟨q1,2,none⟩ (.slice Kv m1' d1')).setCell ⟨q2,2,none⟩ (.slice Um m2' d2')) q1 q2 lf A1 n1 c1 Kv m1' d1' C1 k1 e1 ⟨s1.leaf,s1.keys,v1,s1.kids⟩ A2 n2 c2 Um m2' d2' C2 k2 e2 ⟨s2.leaf,s2.keys,v2,s2.kids⟩:=by
 have n1:=(Yq.refl q1 w).set 2 (.slice Kv m1' d1');have f2:=h.b2.but n1 (fun e=>h.ne e.symm);have n2:=(Yq.refl q2 (w.setCell ⟨q1,2,none⟩ (.slice Kv m1' d1'))).set 2 (.slice Um m2' d2');have f1:=(h.b1.set2 (.slice Kv m1' d1')).but n2 h.ne;exact ⟨f1,f2.set2 _,⟨(h.h1.ke.sB h.b1 n1).sB f2 n2,(g1.sB h.b1 n1).sB f2 n2,(h.h1.ki.intBut h.b1 n1).intBut f2 n2⟩,
  ⟨(h.h2.ke.sB h.b1 n1).sB f2 n2,(g2.sB h.b1 n1).sB f2 n2,(h.h2.ki.intBut h.b1 n1).intBut f2 n2⟩,h.ne,h.l1,h.l2,(h.bel.setCell h.l1 _).setCell h.l2 _,⟨h.hi.a,i1,h.hi.c,h.hi.a',i2,h.hi.c'⟩⟩
theorem Kq.kids {FV C2':Option Addr} {k1' e1' k2' e2':Nat} {v1 v2:List Int} (h:Kq w1 w q1 q2 lf A1 n1 c1 B1 m1 d1 C1 k1 e1 s1 A2 n2 c2 B2 m2 d2 C2 k2 e2 s2) (g1:Ln w 1 FV k1' e1' (Qc v1)) (g2:Ln w 1 C2' k2' e2' (Qc v2)) (i1:Yp w1.heap.size FV) (i2:Yp w1.heap.size C2') :
 Kq w1 ((w.setCell ⟨q1,3,none⟩ (.slice FV k1' e1')).setCell ⟨q2,3,none⟩ (.slice C2' k2' e2')) q1 q2 lf A1 n1 c1 B1 m1 d1 FV k1' e1' ⟨s1.leaf,s1.keys,s1.vals,v1⟩ A2 n2 c2 B2 m2 d2 C2' k2' e2' ⟨s2.leaf,s2.keys,s2.vals,v2⟩:=by
 have n1:=(Yq.refl q1 w).set 3 (.slice FV k1' e1');have f2:=h.b2.but n1 (fun e=>h.ne e.symm);have n2:=(Yq.refl q2 (w.setCell ⟨q1,3,none⟩ (.slice FV k1' e1'))).set 3 (.slice C2' k2' e2');have f1:=(h.b1.set3 (.slice FV k1' e1')).but n2 h.ne;exact ⟨f1,f2.set3 _,⟨(h.h1.ke.sB h.b1 n1).sB f2 n2,(h.h1.va.sB h.b1 n1).sB f2 n2,(g1.intBut h.b1 n1).intBut f2 n2⟩,
  ⟨(h.h2.ke.sB h.b1 n1).sB f2 n2,(h.h2.va.sB h.b1 n1).sB f2 n2,(g2.intBut h.b1 n1).intBut f2 n2⟩,h.ne,h.l1,h.l2,(h.bel.setCell h.l1 _).setCell h.l2 _,⟨h.hi.a,h.hi.b,i1,h.hi.a',h.hi.b',i2⟩⟩
end
def qW6 (w1 w:World) (lf:Bool) (n:Nat) (l:List (List UInt8)) (u:Value):Prop :=
 ∃ q A c B d C e,u = .pointer (some ⟨q,0,none⟩)/\Qs w q (.bool lf) (.slice A n c) (.slice B 0 d) (.slice C 0 e)/\Nd w A n c B 0 d C 0 e ⟨lf,l,[],[]⟩/\w1.heap.size<=q/\q<w.heap.size/\Below w1.heap.size w1 w/\Yp w1.heap.size A/\Yp w1.heap.size B/\Yp w1.heap.size C
theorem QS {w1 w:World} {lf:Bool} {n q c d e:Nat} {l:List (List UInt8)} {u:Value} {A B C:Option Addr} (hu:u = .pointer (some ⟨q,0,none⟩)) (hb:Qs w q (.bool false) (.slice none 0 0) (.slice none 0 0) (.slice none 0 0)) (h:Nd w A n c B 0 d C 0 e ⟨lf,l,[],[]⟩) (hq:w1.heap.size<=q) (b:Below w1.heap.size w1 w) (iA:Yp w1.heap.size A) (iB:Yp w1.heap.size B) (iC:Yp w1.heap.size C) :
 qW6 w1 ((((w.setCell ⟨q,0,none⟩ (.bool lf)).setCell ⟨q,1,none⟩ (.slice A n c)).setCell ⟨q,2,none⟩ (.slice B 0 d)).setCell ⟨q,3,none⟩ (.slice C 0 e)) lf n l u :=
 have hp:=hb.put (.bool lf) (.slice A n c) (.slice B 0 d) (.slice C 0 e)
 ⟨q,A,c,B,d,C,e,hu,hp,h.but hb (Yq.put w q _ _ _ _),hq,hp.lt,Jv b hq _ _ _ _,iA,iB,iC⟩
theorem Gn {w wf:World} {base r1 r2:Nat} {v u:Value} {s1 s2:ND} (hb:Below w.heap.size w wf) (h1:w.heap.size<=r1) (h2:w.heap.size<=r2) (hne:r1≠r2)
 (b1:Qs wf r1 (.bool false) (.slice none 0 0) (.slice none 0 0) (.slice none 0 0)) (b2:Qs wf r2 (.bool false) (.slice none 0 0) (.slice none 0 0) (.slice none 0 0)) (hv:Ha wf base v s1) (hu:Ha wf base u s2) (x y z p x' y' z' p':Value) :
 Ha ((((((((wf.setCell ⟨r1,0,none⟩ x).setCell ⟨r1,1,none⟩ y).setCell ⟨r1,2,none⟩ z).setCell ⟨r1,3,none⟩ p).setCell ⟨r2,0,none⟩ x').setCell ⟨r2,1,none⟩ y').setCell ⟨r2,2,none⟩ z').setCell ⟨r2,3,none⟩ p') base v s1 /\
 Ha ((((((((wf.setCell ⟨r1,0,none⟩ x).setCell ⟨r1,1,none⟩ y).setCell ⟨r1,2,none⟩ z).setCell ⟨r1,3,none⟩ p).setCell ⟨r2,0,none⟩ x').setCell ⟨r2,1,none⟩ y').setCell ⟨r2,2,none⟩ z').setCell ⟨r2,3,none⟩ p') base u s2 /\
 Below w.heap.size w ((((((((wf.setCell ⟨r1,0,none⟩ x).setCell ⟨r1,1,none⟩ y).setCell ⟨r1,2,none⟩ z).setCell ⟨r1,3,none⟩ p).setCell ⟨r2,0,none⟩ x').setCell ⟨r2,1,none⟩ y').setCell ⟨r2,2,none⟩ z').setCell ⟨r2,3,none⟩ p'):=by
 have n1:=Yq.put wf r1 x y z p;have f2:=b2.but n1 (fun e=>hne e.symm);have n2:=Yq.put ((((wf.setCell ⟨r1,0,none⟩ x).setCell ⟨r1,1,none⟩ y).setCell ⟨r1,2,none⟩ z).setCell ⟨r1,3,none⟩ p) r2 x' y' z' p';obtain ⟨A,n,c,B,m,d,C,k,e,rfl,h,hx⟩:=hv;obtain ⟨A',n',c',B',m',d',C',k',e',rfl,h',hx'⟩:=hu;exact ⟨⟨A,n,c,B,m,d,C,k,e,rfl,(h.but b1 n1).but f2 n2,hx⟩,
  ⟨A',n',c',B',m',d',C',k',e',rfl,(h'.but b1 n1).but f2 n2,hx'⟩,Jv (Jv hb h1 x y z p) h2 x' y' z' p'⟩
theorem Ky {wf:World} {r1 r2:Nat} (hne:r1≠r2) {a b c d a' b' c' d':Value} (b1:Qs wf r1 a b c d) (b2:Qs wf r2 a' b' c' d') (x y z p x' y' z' p':Value) :
 Qs ((((((((wf.setCell ⟨r1,0,none⟩ x).setCell ⟨r1,1,none⟩ y).setCell ⟨r1,2,none⟩ z).setCell ⟨r1,3,none⟩ p).setCell ⟨r2,0,none⟩ x').setCell ⟨r2,1,none⟩ y').setCell ⟨r2,2,none⟩ z').setCell ⟨r2,3,none⟩ p') r1 x y z p /\
 Qs ((((((((wf.setCell ⟨r1,0,none⟩ x).setCell ⟨r1,1,none⟩ y).setCell ⟨r1,2,none⟩ z).setCell ⟨r1,3,none⟩ p).setCell ⟨r2,0,none⟩ x').setCell ⟨r2,1,none⟩ y').setCell ⟨r2,2,none⟩ z').setCell ⟨r2,3,none⟩ p') r2 x' y' z' p' /\
 Qs ((((wf.setCell ⟨r1,0,none⟩ x).setCell ⟨r1,1,none⟩ y).setCell ⟨r1,2,none⟩ z).setCell ⟨r1,3,none⟩ p) r2 a' b' c' d':=by
 have f2:=b2.but (Yq.put wf r1 x y z p) (fun e=>hne e.symm);exact ⟨(b1.put x y z p).but (Yq.put _ r2 x' y' z' p') hne,f2.put x' y' z' p',f2⟩
theorem qw2:∀ (l:List (List UInt8)) (t:List UInt8),t∈l->t.length<=ND.tsl l
 | [],t,h=>by simp at h
 | x::l,t,h=>by
   rw [ND.tsl_cons];rcases wb6.1 h with rfl | h
   ·omega
   ·have:=qw2 l t h
    omega
theorem qJ2 {l:List (List UInt8)} {i:Nat} {t:List UInt8} (h:l[i]?=some t):t.length<=ND.tsl l:=qw2 l t (wb5 h)
theorem zd4 {s:ND} {i:Nat} {t v:List UInt8} (hl:s.leaf=true) (h:s.keys[i]?=some t) (g:s.vals[i]?=some v):s.ents.getD i 0=2+t.length+v.length:=by
 rw [ND.ents_leaf hl,wa7,List.getElem?_zipWith,h,g];rfl
theorem zd3 {s:ND} {i:Nat} {t:List UInt8} (hl:s.leaf=false) (h:s.keys[i]?=some t):s.ents.getD i 0=5+t.length:=by
 rw [ND.ents_inner hl,wa7,wc7,h];rfl
theorem qL2 (l:List Nat) {c:Nat} (h:c<l.length):(l.take (c+1)).sum=(l.take c).sum+l.getD c 0:=by
 rw [wc2,wb1 h,wf7,wa7,wb1 h];simp
theorem qf6 (l:List Nat) (c:Nat):(l.take c).sum<=l.sum:=by
 conv=>rhs;rw [<- wb7 c l]
 rw [wf7];omega
theorem AX (lf:Bool) (A:Option Addr) (n c:Nat) (B:Option Addr) (m d:Nat) (C:Option Addr) (k e:Nat) (s:ND) (i:Nat) (w:World) (h:Nd w A n c B m d C k e s) (hl:s.leaf=lf) (hi:i<n) (hm:lf=true->m=n) (hz:s.size<=1000000) :
 Calls Tryz.prog 187 #[.agg #[.bool lf,.slice A n c,.slice B m d,.slice C k e],.int .i64 i] w fun e w'=>e = .returned (.int .i64 ((s.ents.getD i 0:Nat):Int))/\Below w.heap.size w w':=by
 have HB:=iQ (Qp w (.bool lf) (.slice A n c) (.slice B m d) (.slice C k e));have b1:=Qa w (.cells #[.bool lf,.slice A n c,.slice B m d,.slice C k e] 75);have B1:=iQ b1;have H1:=iQ (h.kept b1);have HL:=iQ hl;have hs:ND.tsl s.keys<=1000000/\ND.tsl s.vals<=1000000:=by unfold ND.size ND.tsz at hz;omega
 obtain ⟨hs1,hs2⟩:=hs;clear b1 h hl hz;go_enter Tryz.func187,Tryz.ntmps187;go_upto_region 1 with fail
 generalize w.alloc (.cells #[.bool lf,.slice A n c,.slice B m d,.slice C k e] 75)=w1 at *;obtain ⟨c0,c1,c2,c3⟩:=HB.out.cells;obtain ⟨b,off,t,rfl,hv,f0⟩:=H1.out.ke.sA hi;have hq:=qJ2 hv;rw [Qn] at hq;have hq1:t.size<=1000000:=by omega
 have HV:=iQ hv;clear hq hv;cases lf with
 | false =>
   clear hm;go_wp2_with fail;go_ret;exact ⟨Zm (by rw [zd3 HL.out HV.out,Qn];omega),B1.out⟩
 | true =>
   obtain rfl:m=n:=hm rfl;obtain ⟨b',off',v,rfl,hv',g0⟩:=H1.out.va.sA hi;have hq:=qJ2 hv';rw [Qn] at hq;have hq2:v.size<=1000000:=by omega
   have HV':=iQ hv';clear hq hv' hm;go_wp2_with fail;go_ret;exact ⟨Zm (by rw [zd4 HL.out HV.out HV'.out,Qn,Qn];omega),B1.out⟩
theorem qk5 (lf:Bool) (A:Option Addr) (n c:Nat) (B:Option Addr) (m d:Nat) (C:Option Addr) (k e:Nat) (s:ND) (w:World) (h:Nd w A n c B m d C k e s) (hl:s.leaf=lf) (ho:s.ok=true) (hz:s.size<=1000000) (hE:s.ents.sum<=100000000) :
 Calls Tryz.prog 173 #[.agg #[.bool lf,.slice A n c,.slice B m d,.slice C k e]] w fun e w'=>e = .returned (.int .i64 ((ND.hN s.ents:Nat):Int))/\Below w.heap.size w w':=by
 have HB:=iQ (Qp w (.bool lf) (.slice A n c) (.slice B m d) (.slice C k e));have b1:=Qa w (.cells #[.bool lf,.slice A n c,.slice B m d,.slice C k e] 75);have B1:=iQ b1;have H1:=iQ (h.kept b1);have HL:=iQ hl;have HN:Hid (s.ents.length=n):=iQ (by rw [ND.ents_length ho,h.kn]);have HM:Hid (lf=true->m=n):=iQ (fun e=>by rw [<- h.vn,<- h.kn];exact (ND.ok_leaf ho (by rw [hl,e])).1);have HZ:=iQ hz;have hnn:n<=1000000:=by have:=h.kn;unfold ND.size ND.tsz at hz;omega
 have HSN:=fun c (hc:c<n)=>qL2 s.ents (c:=c) (by rw [HN.out];exact hc);have HST:=qf6 s.ents;have HSA:s.ents.take n=s.ents:=wa5 (by rw [HN.out];exact wa2 _);have HO:Hid (∀ r,r<=n->(∀ c,c<r->2*(s.ents.take c).sum<s.ents.sum)->(r<n->¬ 2*(s.ents.take r).sum<s.ents.sum)->r=ND.hN s.ents):=iQ (fun r h1 h2 h3=>ND.hN_of (by rw [HN.out];exact h1) h2 (fun h4=>h3 (by rw [<- HN.out];exact h4)));have HSN:=iQ HSN;have HST:=iQ HST;have HSA:=iQ HSA;obtain ⟨T,hT⟩:∃ T,s.ents.sum=T:=⟨_,rfl⟩;rw [hT] at hE HO HST;have HT:=iQ hT;clear b1 h hl ho hz hT;go_enter Tryz.func173,Tryz.ntmps173;go_upto_region 1 with fail
 generalize w.alloc (.cells #[.bool lf,.slice A n c,.slice B m d,.slice C k e] 75)=w1 at *;obtain ⟨c0,c1,c2,c3⟩:=HB.out.cells;go_wp2_with fail;clear c0 c1 c2 c3;go_loopw [3,10] (fun s3 i wr=>∃ j q:Nat,j<=n/\i = .int .i64 j/\s3 = .int .i64 q/\q<=T/\Hid (q=(s.ents.take j).sum)/\Hid (Below w1.heap.size w1 wr)) (fun _ i _=>n - (RowKit.intOf i).toNat)
 case atStart=>exact ⟨0,0,wb3 _,rfl,rfl,wb3 _,iQ (by simp),iQ (Below.refl _ _)⟩
 case round =>
  obtain ⟨j,q,hj,rfl,rfl,hqT,HQ,BR⟩:=hrel;obtain ⟨c0,c1,c2,c3⟩:=(HB.out.kept BR.out).cells;by_cases hlt:j<n
  ·have HX:=iQ (HSN.out j hlt)
   have hle:=HST.out (j+1);rw [HX.out,<- HQ.out] at hle;rw [<- HQ.out] at HX;obtain ⟨x,hx⟩:∃ x,s.ents.getD j 0=x:=⟨_,rfl⟩;rw [hx] at hle HX;have HXX:=iQ hx;clear hx;go_wp2_with fail;refine (AX lf A n c B m d C k e s j wr (H1.out.kept BR.out) HL.out hlt HM.out HZ.out).mono ?_;rintro e2 w2 ⟨rfl,b2⟩;rw [HXX.out];have B2:=iQ (Qe b2 BR.out);clear b2 c0 c1 c2 c3;go_wp2_with fail;go_roundw;case rel=>exact ⟨j+1,q+x,by omega,by go_num,by go_num,hle,iQ HX.out.symm,B2⟩
   case measure=>simp [RowKit.intOf];omega
  ·obtain rfl:n=j:=by omega
   have hqe:q=T:=by rw [HQ.out,HSA.out,HT.out]
   subst hqe;clear HQ hqT;obtain ⟨wv,hwv⟩:∃ wv:World,wv=wr:=⟨_,rfl⟩;subst hwv;go_wp2_with fail;clear c0 c1 c2 c3;go_loopw [5,6] (fun s5 s6 wk=>∃ j b:Nat,j<=n/\s5 = .int .i64 j/\s6 = .int .i64 b/\b<=q/\Hid (b=(s.ents.take j).sum)/\Hid (∀ c,c<j->2*(s.ents.take c).sum<q)/\Hid (Below w1.heap.size w1 wk)) (fun s5 _ _=>n - (RowKit.intOf s5).toNat)
   case atStart=>exact ⟨0,0,wb3 _,rfl,rfl,wb3 _,iQ (by simp),iQ (fun c hc=>absurd hc (by omega)),BR⟩
   case round =>
    obtain ⟨j,b,hj,rfl,rfl,hbT,HQ,HA,BK⟩:=hrel;obtain ⟨c0,c1,c2,c3⟩:=(HB.out.kept BK.out).cells;by_cases hlt:2*b<q
    ·have hjn:j<n:=by
      apply Classical.byContradiction;intro hn;obtain rfl:n=j:=(by omega);have h2:=HQ.out;rw [HSA.out,HT.out] at h2;omega
     have HX:=iQ (HSN.out j hjn);have hle:=HST.out (j+1);rw [HX.out,<- HQ.out] at hle;rw [<- HQ.out] at HX;obtain ⟨x,hx⟩:∃ x,s.ents.getD j 0=x:=⟨_,rfl⟩;rw [hx] at hle HX;have HXX:=iQ hx;have HA2:Hid (∀ c,c<j+1->2*(s.ents.take c).sum<q):=iQ (fun c hc=>by
      rcases we1 c j with h1 | h1
      ·exact HA.out c h1
      ·obtain rfl:c=j:=by omega
       rw [<- HQ.out];exact hlt)
     clear hx;go_wp2_with fail;refine (AX lf A n c B m d C k e s j wr (H1.out.kept BK.out) HL.out hjn HM.out HZ.out).mono ?_;rintro e2 w2 ⟨rfl,b2⟩;rw [HXX.out];have B2:=iQ (Qe b2 BK.out);clear b2 c0 c1 c2 c3;go_wp2_with fail;go_roundw;case rel=>exact ⟨j+1,b+x,by omega,by go_num,by go_num,hle,iQ HX.out.symm,HA2,B2⟩
     case measure=>simp [RowKit.intOf];omega
    ·have HE:=iQ (HO.out j hj HA.out (fun _=>by rw [<- HQ.out];exact hlt))
     have hlt2:q<=2*b:=(by omega);clear hlt;go_wp2_with fail;go_ret;exact ⟨Zm (by rw [<- HE.out]),Qe BK.out B1.out⟩
def zh6 (w1:World) (g:Nat) (lf:Bool) (A:Option Addr) (n c p:Nat) (s:ND):List SP :=
 [.is (.pointer (some ⟨g,0,none⟩)),.is (.bool lf),.is (.pointer (some ⟨g,1,none⟩)),.is (.slice A n c),.is (.int .i64 p),.is (.slice A p c),.pile 1 [⟨A,p,c,Qd (s.keys.take p)⟩],.ln w1.heap.size p (Qd (s.keys.take p)),.nd w1.heap.size ⟨lf,s.keys.take p,[],[]⟩,.box w1.heap.size]
def zh3 (w1:World) (g:Nat) (lf:Bool) (A:Option Addr) (n c p y:Nat) (s:ND):List SP :=
 [.is (.pointer (some ⟨g,0,none⟩)),.is (.bool lf),.is (.pointer (some ⟨g,1,none⟩)),.is (.slice A n c),.is (.int .i64 p),.is (.int .i64 y),.is (.int .i64 ((p+y:Nat):Int)),.is (.slice (Uc A c (p+y)) (n - (p+y)) (c - (p+y))),.pile 1 [⟨Uc A c (p+y),n - (p+y),c - (p+y),Qd (s.keys.drop (p+y))⟩],.ln w1.heap.size (n - (p+y)) (Qd (s.keys.drop (p+y))),.nd w1.heap.size ⟨lf,s.keys.drop (p+y),[],[]⟩,.box w1.heap.size]
theorem PG {w:World} {A:Option Addr} {n c k:Nat} {l:List (List UInt8)} (h:Ln w 1 A n c (Qd l)) (hk:k<=n):Ln w 1 A k c (Qd (l.take k)):=h.strTake hk
theorem PH {w:World} {A:Option Addr} {n c k:Nat} {l:List (List UInt8)} (h:Ln w 1 A n c (Qd l)) (hk:k<=n):Ln w 1 (Uc A c k) (n - k) (c - k) (Qd (l.drop k)):=by
 have:=XZ h hk;rw [Qd,<- wg4] at this;exact this
theorem Kw {α:Type} {l:List α} {p m mm:Nat} (h:min p m=mm) (hm:l.length=m):l.take mm=l.take p/\l.drop mm=l.drop p:=by
 subst h;subst hm;rcases Nat.le_total p l.length with h | h
 ·rw [Nat.min_eq_left h]
  exact ⟨rfl,rfl⟩
 ·rw [Nat.min_eq_right h,wa5 h,wc6 h,wf2,List.drop_length]
  exact ⟨rfl,rfl⟩
theorem qf7 (l:List (List UInt8)) (k:Nat):(Qd l).take k=Qd (l.take k):=by unfold Qd;rw [List.map_take]
theorem qf8 (l:List (List UInt8)) (k:Nat):(Qd l).drop k=Qd (l.drop k):=by unfold Qd;rw [wg4]
theorem qj8 (l:List Int) (k:Nat):(Qc l).take k=Qc (l.take k):=by unfold Qc;rw [List.map_take]
theorem qk0 (l:List Int) (k:Nat):(Qc l).drop k=Qc (l.drop k):=by unfold Qc;rw [wg4]
theorem qp1 (A:Option Addr) (n c:Nat) (B:Option Addr) (m d:Nat) (C:Option Addr) (k e:Nat) (s:ND) (w:World) (h:Nd w A n c B m d C k e s) (hl:s.leaf=true) (ho:s.ok=true) (hz:s.size<=1000000) (hE:s.ents.sum<=100000000) :
 Calls Tryz.prog 161 #[.agg #[.bool true,.slice A n c,.slice B m d,.slice C k e]] w (qe2 w s):=by
 obtain ⟨Vh,tb2,Xm,tb4⟩:=YY w (.bool true) (.slice A n c) (.slice B m d) (.slice C k e) (.bool false) (.slice none 0 0) (.slice none 0 0) (.slice none 0 0);have HS:=iQ (h.kept tb4);have HB:=iQ Vh;have HR:=iQ tb2;have HT:=iQ Xm;have B0:=iQ tb4;have HL:=iQ hl;have HO:=iQ ho;have HZ:=iQ hz;have HE:=iQ hE;have HN:=iQ h.kn;have HVN:=iQ h.vn;have HCN:=iQ h.cn;have hsz:n<=1000000/\m<=1000000/\k<=1000000:=by have h1:=h.kn;have h2:=h.vn;have h3:=h.cn;unfold ND.size ND.tsz at hz;omega
 obtain ⟨hn,hm,hk⟩:=hsz;clear h hl ho hz hE Vh tb2 Xm tb4;go_enter Tryz.func161,Tryz.ntmps161;go_upto_region 1 with fail
 generalize ((w.alloc (.cells #[.bool true,.slice A n c,.slice B m d,.slice C k e] 75)).alloc (.cells #[.bool false,.slice none 0 0,.slice none 0 0,.slice none 0 0] 75)).alloc (.cells #[.bool false,.slice none 0 0,.slice none 0 0,.slice none 0 0] 75)=w0 at *;have hg:=HB.out.lt;have hr:=HR.out.lt;have hr2:=HT.out.lt;have gr1:w.heap.size<=w.heap.size+1:=wd3 _;have gr2:w.heap.size<=w.heap.size+1+1:=by omega
 have hne:w.heap.size+1≠w.heap.size+1+1:=by omega
 have hx1:w.heap.size<w.heap.size+1:=by omega
 have hx2:w.heap.size<w.heap.size+1+1:=by omega
 generalize w.heap.size+1+1=r2 at *;generalize w.heap.size+1=r1 at *;have hne2:¬ r1=r2:=hne;have hne3:¬ r2=r1:=fun e=>hne e.symm;obtain ⟨c0,c1,c2,c3⟩:=HB.out.cells;have HG:Hid (s.gone=0):=iQ (by unfold ND.gone;rw [HL.out];rfl);by_cases hs:n<2+0;case pos =>
  obtain ⟨x1,x2,x3,x4⟩:=ND.split_no (s:=s) (by rw [HN.out,HG.out];exact hs);have X1:=iQ x1;have X2:=iQ x2;have X3:=iQ x3;have X4:=iQ x4;obtain ⟨D1,D2,D3⟩:=Gn (v := .agg #[.bool false,.slice none 0 0,.slice none 0 0,.slice none 0 0]) (u := .agg #[.bool false,.slice none 0 0,.slice none 0 0,.slice none 0 0]) B0.out gr1 gr2 hne HR.out HT.out (Ht w0 w.heap.size) (Ht w0 w.heap.size) (.bool false) (.slice none 0 0) (.slice none 0 0) (.slice none 0 0) (.bool false) (.slice none 0 0) (.slice none 0 0) (.slice none 0 0);have HD1:=iQ D1;have HD2:=iQ D2;have HD3:=iQ D3;obtain ⟨S1,S2,S3⟩:=Ky hne HR.out HT.out (.bool false) (.slice none 0 0) (.slice none 0 0) (.slice none 0 0) (.bool false) (.slice none 0 0) (.slice none 0 0) (.slice none 0 0);have Xl:=iQ S1.cells;have HS2:=iQ S2.cells;obtain ⟨f0,f1,f2,f3⟩:=HR.out.free;obtain ⟨g0,g1,g2,g3⟩:=HT.out.free;obtain ⟨t0,t1,t2,t3⟩:=HR.out.cells;obtain ⟨u0,u1,u2,u3⟩:=HT.out.cells;clear x1 x2 x3 x4 D1 D2 D3 S1 S2 S3 hne;go_wp2_with fail;obtain ⟨y0,y1,y2,y3⟩:=Xl.out;obtain ⟨z0,z1,z2,z3⟩:=HS2.out;refine bodyPost_ret (v := .tuple #[.agg #[.bool false,.slice none 0 0,.slice none 0 0,.slice none 0 0],.string ⟨#[]⟩,.agg #[.bool false,.slice none 0 0,.slice none 0 0,.slice none 0 0],.int .i64 100]) (by simp [results,Tryz.results161,go_sem,y0,y1,y2,y3,z0,z1,z2,z3]) rfl ?_;exact ⟨_,_,by rw [X1.out,X4.out];rfl,by rw [X2.out];exact HD1.out,by rw [X3.out];exact HD2.out,HD3.out⟩
 case neg =>
  obtain ⟨x1,x2,x3,x4⟩:=ND.split_yes (s:=s) (by rw [HN.out,HG.out];exact hs);have hlt:=ND.splitAt_lt (s:=s) (by rw [HN.out,HG.out];exact hs);have hpd:s.splitAt=min (ND.hN s.ents) (n - 0 - 1):=by unfold ND.splitAt;rw [HN.out,HG.out]
  rw [HN.out,HG.out] at hlt;rw [HG.out] at x3;obtain ⟨p,hp⟩:∃ p,s.splitAt=p:=⟨_,rfl⟩;rw [hp] at x2 x3 x4 hlt hpd;have X1:=iQ x1;have X2:=iQ x2;have X3:=iQ x3;have X4:=iQ x4;have HP:=iQ hpd;have hn2:2+0<=n:=by omega
  clear x1 x2 x3 x4 hp hpd hs;go_upto_region 7 with fail
  go_cut [8] (fun s8 wx=>s8 = .int .i64 (p:Int)/\Hid (Below w0.heap.size w0 wx))
  case first =>
   go_wp2_with fail;refine (qk5 true A n c B m d C k e s w0 HS.out HL.out HO.out HZ.out HE.out).mono ?_;rintro e1 w1 ⟨rfl,b1⟩;have B1:=iQ b1;have HP2:=HP.out;clear b1 c0 c1 c2 c3;generalize ND.hN s.ents=hh at *;rcases we1 (n - 0 - 1) hh with h5 | h5
   ·have h6:p=n - 0 - 1:=by omega
    have HP6:=iQ h6;have h7:(n:Int) - 1<(hh:Int):=(by omega);clear HP2 h6;go_wp2_with fail;all_goals (
     go_meet
     exact ⟨by rw [HP6.out];congr 1;omega,B1⟩)
   ·have h6:hh=p:=by omega
    have h7:(hh:Int)<=(n:Int) - 1:=(by omega);clear HP2;subst h6;go_wp2_with fail;all_goals (
     go_meet
     exact ⟨rfl,B1⟩)
  case rest =>
   obtain ⟨rfl,BC⟩:=hcut;have BB:=iQ (Qe BC.out B0.out);have Xl:=iQ (HS.out.kept BC.out);have HB1:=iQ (HB.out.kept BC.out);have HR1:=iQ (HR.out.kept BC.out);have HT1:=iQ (HT.out.kept BC.out);have hc:=Xl.out.ke.le;have hg1:=HB1.out.lt;clear BC c0 c1 c2 c3 HB HR HT HS hg hr hr2;obtain ⟨w1,hw1⟩:∃ w1:World,w1=wc:=⟨_,rfl⟩;subst hw1;go_upto_region 8 with fail
   go_cut [9] (fun s9 wx=>qW6 w1 wx true p (s.keys.take p) s9)
   case first =>
    rename_i JJ KK HJ HM;refine Qz 10 1 (SP.at_ (zh6 w1 w.heap.size true A n c p s)) (by kernel_rfl) rfl (by kernel_rfl) (by kernel_rfl) (by kernel_rfl) (SP.at_st _) ?_ ?_
    ·intro i o L a wx hi ho h hd
     have e1:a.eval (.tmp 1) = .pointer (some ⟨w.heap.size,0,none⟩):=(h.old 1 (by kernel_rfl)).trans rfl;have e8:a.eval (.tmp 8) = .int .i64 (p:Int):=(h.old 8 (by kernel_rfl)).trans rfl;obtain ⟨c0,c1,c2,c3⟩:=(HB1.out.kept h.below).cells
     match i,hi,ho,hd with
     | 0,_,ho,hd =>
       obtain rfl:=wa0 ho;refine wpOp_step rfl (fun K hK=>?_);refine (if_pos (by rfl)).mpr ?_;have q0:=got e1
       go_simp
       exact hK _ _ ⟨_,_,rfl,rfl,rfl,Below.refl _ _⟩
     | 1,_,ho,hd =>
       obtain rfl:=wa0 ho;refine wpOp_step rfl (fun K hK=>?_);refine (if_pos (by rfl)).mpr ?_;have q0:=got (h.gd 0 rfl hd rfl)
       go_simp
       exact hK _ _ ⟨_,_,rfl,rfl,rfl,Below.refl _ _⟩
     | 2,_,ho,hd =>
       obtain rfl:=wa0 ho;refine wpOp_step rfl (fun K hK=>?_);refine (if_pos (by rfl)).mpr ?_;have q0:=got e1
       go_simp
       exact hK _ _ ⟨_,_,rfl,rfl,rfl,Below.refl _ _⟩
     | 3,_,ho,hd =>
       obtain rfl:=wa0 ho;refine wpOp_step rfl (fun K hK=>?_);refine (if_pos (by rfl)).mpr ?_;have q0:=got (h.gd 2 rfl hd rfl)
       go_simp
       exact hK _ _ ⟨_,_,rfl,rfl,rfl,Below.refl _ _⟩
     | 4,_,ho,hd =>
       obtain rfl:=wa0 ho;refine wpOp_step rfl (fun K hK=>?_);refine (if_pos (by rfl)).mpr ?_;have q0:=got e8
       go_simp
       exact hK _ _ ⟨_,_,rfl,rfl,rfl,Below.refl _ _⟩
     | 5,_,ho,hd =>
       obtain rfl:=wa0 ho;refine wpOp_step rfl (fun K hK=>?_);refine (if_pos (by rfl)).mpr ?_;have q0:=got (h.gd 3 rfl hd rfl);have q1:=got (h.gd 4 rfl hd rfl);have hu:=qo3 (n:=n) (c:=c) (k:=p) A (by omega) hc wx
       go_simp
       exact hK _ _ ⟨_,_,rfl,rfl,rfl,Below.refl _ _⟩
     | 6,_,ho,hd =>
       obtain rfl:=wa0 ho;refine wpOp_step rfl (fun K hK=>?_);refine (if_pos (by rfl)).mpr ?_;have q5:=got (h.gd 5 rfl hd rfl)
       go_simp
       exact hK _ _ ⟨_,_,rfl,rfl,⟨_,rfl,Za (PG (Xl.out.ke.kept h.below) (by omega)) (Qm _) _⟩,Qa _ _⟩
     | 7,_,ho,hd =>
       obtain rfl:=wa0 ho;refine wpOp_step rfl (fun K hK=>?_);refine (if_pos (by rfl)).mpr ?_;obtain ⟨p9,ep,hp9⟩:=(h.gd 6 rfl hd rfl);have q0:=got ep;have hbs:=h.below.size
       go_simp
       refine (Xd _ 1 1 (p) _ wx hp9 rfl (by simp [Xn]) (by omega) (by decide)).mono ?_;rintro e w3 ⟨v3,rfl,o3,b3⟩;rw [Xa] at o3;exact hK _ _ ⟨v3,_,rfl,rfl,Qy o3 rfl h.below.size,b3⟩
     | 8,_,ho,hd =>
       obtain rfl:=wa0 ho;refine wpOp_step rfl (fun K hK=>?_);refine (if_pos (by rfl)).mpr ?_;have q1:=got (h.gd 1 rfl hd rfl);obtain ⟨A9,a9,z9,l9,i9,_⟩:=(h.gd 7 rfl hd rfl);have y9:=got z9
       go_simp
       exact hK _ _ ⟨_,_,rfl,rfl,⟨A9,_,a9,none,0,0,none,0,0,rfl,⟨l9,Ln.none_ _ 1,Ln.none_ _ 1⟩,i9,Yp.none_ _,Yp.none_ _⟩,Below.refl _ _⟩
     | 9,_,ho,hd =>
       obtain rfl:=wa0 ho;refine wpOp_step rfl (fun K hK=>?_);refine (if_pos (by rfl)).mpr ?_
       go_simp
       exact hK _ _ ⟨_,_,rfl,rfl,⟨_,rfl,Qp wx _ _ _ _,h.below.size⟩,Qa _ _⟩
     | j+10,hi,_,_=>exact absurd hi (by omega)
    ·intro mm L a wx h hd
     refine wpAny_ready (rs:=[10]) (by decide +kernel) (by simp) (AllReady.cons rfl (fun K hK=>?_) AllReady.nil);refine (if_pos (by rfl)).mpr ?_;obtain ⟨A',n',c',B',m',d',C',k',e',ev,hN,iA,iB,iC⟩:=h.got 8 _ _ rfl (by decide) (hd 8 (by decide)) rfl;obtain ⟨q,eq9,hq,hq2⟩:=h.got 9 _ _ rfl (by decide) (hd 9 (by decide)) rfl;obtain rfl:p=n':=by have:=hN.kn;simp only [List.length_take] at this;rw [HN.out] at this;omega
     obtain rfl:m'=0:=hN.vn.symm;obtain rfl:k'=0:=hN.cn.symm;have q0:=got ev;have q2:=got eq9;obtain ⟨x0,x1,x2,x3⟩:=hq.cells;obtain ⟨f0,f1,f2,f3⟩:=hq.free
     go_simp
     refine hK _ _ ?_;refine wpAny_done (by decide +kernel) ?_ _;have E:=h.frame 73 (fun j=>Nat.blt j 9 || (Nat.blt 9 j && Nat.blt j 27) || Nat.blt 35 j) rfl (by kernel_rfl) rfl
     refine HM _ _ (Met.intro (HJ _ _ ?_))
     (repeat apply Exists.intro)
     refine ⟨?rel,?fr⟩;case fr=>exact E
     case rel=>exact QS eq9 hq hN hq2 h.below iA iB iC
   case rest =>
    obtain ⟨q1,A1,c1,B1,d1,C1,e1,rfl,hb1,hl1,hq1,zl2,be1,iA1,iB1,iC1⟩:=hcut;have NB1:=iQ hb1;have LN1:=iQ hl1;have BE1:=iQ be1;have I1:=iQ (And.intro iA1 (And.intro iB1 iC1));clear hb1 hl1 be1 iA1 iB1 iC1;obtain ⟨w2,hw2⟩:∃ w2:World,w2=wc:=⟨_,rfl⟩;subst hw2;go_upto_region 9 with fail
    go_cut [10] (fun s10 wx=>qW6 w2 wx true (n - p) (s.keys.drop p) s10)
    case first =>
     rename_i JJ KK HJ HM;have HS2:=iQ (Xl.out.kept BE1.out);have HB2:=iQ (HB1.out.kept BE1.out);have HW:Hid (IntKind.i64.wrap ((p:Int))=(p:Int)):=iQ (IntWalk.i64_in _ (by omega));refine Qz 12 1 (SP.at_ (zh3 w2 w.heap.size true A n c p 0 s)) (by kernel_rfl) rfl (by kernel_rfl) (by kernel_rfl) (by kernel_rfl) (SP.at_st _) ?_ ?_
     ·intro i o L a wx hi ho h hd
      have e1:a.eval (.tmp 1) = .pointer (some ⟨w.heap.size,0,none⟩):=(h.old 1 (by kernel_rfl)).trans rfl;have e8:a.eval (.tmp 8) = .int .i64 (p:Int):=(h.old 8 (by kernel_rfl)).trans rfl;have e6:a.eval (.tmp 6) = .int .i64 ((0:Nat):Int):=(h.old 6 (by kernel_rfl)).trans rfl;obtain ⟨c0,c1,c2,c3⟩:=(HB2.out.kept h.below).cells
      match i,hi,ho,hd with
      | 0,_,ho,hd =>
        obtain rfl:=wa0 ho;refine wpOp_step rfl (fun K hK=>?_);refine (if_pos (by rfl)).mpr ?_;have q0:=got e1
        go_simp
        exact hK _ _ ⟨_,_,rfl,rfl,rfl,Below.refl _ _⟩
      | 1,_,ho,hd =>
        obtain rfl:=wa0 ho;refine wpOp_step rfl (fun K hK=>?_);refine (if_pos (by rfl)).mpr ?_;have q0:=got (h.gd 0 rfl hd rfl)
        go_simp
        exact hK _ _ ⟨_,_,rfl,rfl,rfl,Below.refl _ _⟩
      | 2,_,ho,hd =>
        obtain rfl:=wa0 ho;refine wpOp_step rfl (fun K hK=>?_);refine (if_pos (by rfl)).mpr ?_;have q0:=got e1
        go_simp
        exact hK _ _ ⟨_,_,rfl,rfl,rfl,Below.refl _ _⟩
      | 3,_,ho,hd =>
        obtain rfl:=wa0 ho;refine wpOp_step rfl (fun K hK=>?_);refine (if_pos (by rfl)).mpr ?_;have q0:=got (h.gd 2 rfl hd rfl)
        go_simp
        exact hK _ _ ⟨_,_,rfl,rfl,rfl,Below.refl _ _⟩
      | 4,_,ho,hd =>
        obtain rfl:=wa0 ho;refine wpOp_step rfl (fun K hK=>?_);refine (if_pos (by rfl)).mpr ?_;have q0:=got e8
        go_simp
        exact hK _ _ ⟨_,_,rfl,rfl,rfl,Below.refl _ _⟩
      | 5,_,ho,hd =>
        obtain rfl:=wa0 ho;refine wpOp_step rfl (fun K hK=>?_);refine (if_pos (by rfl)).mpr ?_;have q0:=got e6
        go_simp
        exact hK _ _ ⟨_,_,rfl,rfl,rfl,Below.refl _ _⟩
      | 6,_,ho,hd =>
        obtain rfl:=wa0 ho;refine wpOp_step rfl (fun K hK=>?_);refine (if_pos (by rfl)).mpr ?_;have q0:=got (h.gd 4 rfl hd rfl);have q1:=got (h.gd 5 rfl hd rfl);have hw:=HW.out
        go_simp
        exact hK _ _ ⟨_,_,rfl,rfl,rfl,Below.refl _ _⟩
      | 7,_,ho,hd =>
        obtain rfl:=wa0 ho;refine wpOp_step rfl (fun K hK=>?_);refine (if_pos (by rfl)).mpr ?_;have q0:=got (h.gd 3 rfl hd rfl);have q1:=got (h.gd 6 rfl hd rfl);have hu:=qs8 (n:=n) (c:=c) (k:=p) A (by omega) wx
        go_simp
        exact hK _ _ ⟨_,_,rfl,rfl,rfl,Below.refl _ _⟩
      | 8,_,ho,hd =>
        obtain rfl:=wa0 ho;refine wpOp_step rfl (fun K hK=>?_);refine (if_pos (by rfl)).mpr ?_;have q7:=got (h.gd 7 rfl hd rfl)
        go_simp
        exact hK _ _ ⟨_,_,rfl,rfl,⟨_,rfl,Za (PH (HS2.out.ke.kept h.below) (by omega)) (Qm _) _⟩,Qa _ _⟩
      | 9,_,ho,hd =>
        obtain rfl:=wa0 ho;refine wpOp_step rfl (fun K hK=>?_);refine (if_pos (by rfl)).mpr ?_;obtain ⟨p9,ep,hp9⟩:=(h.gd 8 rfl hd rfl);have q0:=got ep;have hbs:=h.below.size
        go_simp
        refine (Xd _ 1 1 (n - p) _ wx hp9 rfl (by simp [Xn]) (by omega) (by decide)).mono ?_;rintro e w3 ⟨v3,rfl,o3,b3⟩;rw [Xa] at o3;exact hK _ _ ⟨v3,_,rfl,rfl,Qy o3 rfl h.below.size,b3⟩
      | 10,_,ho,hd =>
        obtain rfl:=wa0 ho;refine wpOp_step rfl (fun K hK=>?_);refine (if_pos (by rfl)).mpr ?_;have q1:=got (h.gd 1 rfl hd rfl);obtain ⟨A9,a9,z9,l9,i9,_⟩:=(h.gd 9 rfl hd rfl);have y9:=got z9
        go_simp
        exact hK _ _ ⟨_,_,rfl,rfl,⟨A9,_,a9,none,0,0,none,0,0,rfl,⟨l9,Ln.none_ _ 1,Ln.none_ _ 1⟩,i9,Yp.none_ _,Yp.none_ _⟩,Below.refl _ _⟩
      | 11,_,ho,hd =>
        obtain rfl:=wa0 ho;refine wpOp_step rfl (fun K hK=>?_);refine (if_pos (by rfl)).mpr ?_
        go_simp
        exact hK _ _ ⟨_,_,rfl,rfl,⟨_,rfl,Qp wx _ _ _ _,h.below.size⟩,Qa _ _⟩
      | j+12,hi,_,_=>exact absurd hi (by omega)
     ·intro mm L a wx h hd
      refine wpAny_ready (rs:=[12]) (by decide +kernel) (by simp) (AllReady.cons rfl (fun K hK=>?_) AllReady.nil);refine (if_pos (by rfl)).mpr ?_;obtain ⟨A',n',c',B',m',d',C',k',e',ev,hN,iA,iB,iC⟩:=h.got 10 _ _ rfl (by decide) (hd 10 (by decide)) rfl;obtain ⟨q,eq9,hq,hq2⟩:=h.got 11 _ _ rfl (by decide) (hd 11 (by decide)) rfl;obtain rfl:n - p=n':=by have:=hN.kn;simp only [List.length_drop] at this;rw [HN.out] at this;omega
      obtain rfl:m'=0:=hN.vn.symm;obtain rfl:k'=0:=hN.cn.symm;have q0:=got ev;have q2:=got eq9;obtain ⟨x0,x1,x2,x3⟩:=hq.cells;obtain ⟨f0,f1,f2,f3⟩:=hq.free
      go_simp
      refine hK _ _ ?_;refine wpAny_done (by decide +kernel) ?_ _;have E:=h.frame 73 (fun j=>Nat.blt j 10 || (Nat.blt 10 j && Nat.blt j 36) || Nat.blt 46 j) rfl (by kernel_rfl) rfl
      refine HM _ _ (Met.intro (HJ _ _ ?_))
      (repeat apply Exists.intro)
      refine ⟨?rel,?fr⟩;case fr=>exact E
      case rel=>exact QS eq9 hq hN hq2 h.below iA iB iC
    case rest =>
     obtain ⟨q2,A2,c2,B2,d2,C2,e2,rfl,hb2,hl2,hq2,zl1,be2,iA2,iB2,iC2⟩:=hcut;have H0:Hid (Kq w1 wc q1 q2 true A1 p c1 B1 0 d1 C1 0 e1 ⟨true,s.keys.take p,[],[]⟩ A2 (n - p) c2 B2 0 d2 C2 0 e2 ⟨true,s.keys.drop p,[],[]⟩):=iQ ⟨NB1.out.kept be2,hb2,LN1.out.kept be2,hl2,by omega,hq1,wa9 BE1.out.size hq2,Qe be2 BE1.out,⟨I1.out.1,I1.out.2.1,I1.out.2.2,iA2.low BE1.out.size,iB2.low BE1.out.size,iC2.low BE1.out.size⟩⟩;have hqq:¬ q1=q2:=(by omega);have hqq2:¬ q2=q1:=(by omega);clear hb2 hl2 be2 iA2 iB2 iC2 I1 NB1 LN1 BE1 zl2 zl1 hq2 hq1;obtain ⟨w3,hw3⟩:∃ w3:World,w3=wc:=⟨_,rfl⟩;subst hw3;obtain ⟨mm,hmm⟩:∃ mm,min p m=mm:=⟨_,rfl⟩;obtain ⟨kk,hkk⟩:∃ kk,min (p+1) k=kk:=⟨_,rfl⟩;have Gx:=iQ hmm;have LZ:=iQ hkk;clear hmm hkk;obtain ⟨c0,c1',c2',c3'⟩:=(HB1.out.kept H0.out.bel).cells;have LV:=iQ (Xl.out.va.kept H0.out.bel);go_upto_region 10 with fail
     go_wp2_with fail;refine (AZ B m d p mm (Qd s.vals) w3 LV.out (Qm _) Gx.out hm).mono ?_;rintro e9 w4 ⟨v1,v2,rfl,o1,o2,b4⟩;obtain ⟨Kv,d1',rfl,_,lv1⟩:=Ln.oo o1;obtain ⟨Um,d2',rfl,_,lv2⟩:=Ln.oo o2;rw [qf7] at lv1;rw [qf8] at lv2;have H1:=iQ (H0.out.next b4)
     have H2:=iQ (H1.out.vals lv1 lv2 ((Yp.oo o1).low H0.out.bel.size) ((Yp.oo o2).low H0.out.bel.size));obtain ⟨x0,x1,x2,x3⟩:=H1.out.b1.cells;obtain ⟨y0,y1,y2,y3⟩:=H1.out.b2.cells;obtain ⟨f0,f1,f2,f3⟩:=H1.out.b1.free;obtain ⟨g0,g1,g2,g3⟩:=H1.out.b2.free;clear o1 o2 lv1 lv2 b4 c0 c1' c2' c3' LV H0;go_upto_region 11 with fail
     clear x0 x1 x2 x3 y0 y1 y2 y3 f0 f1 f2 f3 g0 g1 g2 g3 H1;generalize (w4.setCell ⟨q1,2,none⟩ (.slice Kv mm d1')).setCell ⟨q2,2,none⟩ (.slice Um (m - mm) d2')=w5 at *;have LK:=iQ (Xl.out.ki.kept H2.out.bel);obtain ⟨c0,c1',c2',c3'⟩:=(HB1.out.kept H2.out.bel).cells;have hcall:=AY C k e (p+1) kk (Qc s.kids) w5 LK.out (Qr _) LZ.out hk;rw [show ((p+1:Nat):Int)=(p:Int)+1 by omega] at hcall;have HCL:=iQ hcall;clear hcall;go_wp2_with fail;refine HCL.out.mono ?_;rintro e9 w6 ⟨v1,v2,rfl,o1,o2,b4⟩;obtain ⟨FV,e1',rfl,_,lv1⟩:=Ln.oo o1;obtain ⟨C2',e2',rfl,_,lv2⟩:=Ln.oo o2;rw [qj8] at lv1;rw [qk0] at lv2;have H3:=iQ (H2.out.next b4)
     have H4:=iQ (H3.out.kids lv1 lv2 ((Yp.oo o1).low H2.out.bel.size) ((Yp.oo o2).low H2.out.bel.size));obtain ⟨x0,x1,x2,x3⟩:=H3.out.b1.cells;obtain ⟨y0,y1,y2,y3⟩:=H3.out.b2.cells;obtain ⟨f0,f1,f2,f3⟩:=H3.out.b1.free;obtain ⟨g0,g1,g2,g3⟩:=H3.out.b2.free;clear o1 o2 lv1 lv2 b4 c0 c1' c2' c3' LK H2 HCL;go_upto_region 12 with fail
     clear x0 x1 x2 x3 y0 y1 y2 y3 f0 f1 f2 f3 g0 g1 g2 g3 H3;generalize (w6.setCell ⟨q1,3,none⟩ (.slice FV kk e1')).setCell ⟨q2,3,none⟩ (.slice C2' (k - kk) e2')=w7 at *;obtain ⟨b,off,t,rfl,hv,ct⟩:=(Xl.out.ke.kept H4.out.bel).sA (show p<n by omega);have HV:=iQ hv;have HR7:=iQ (HR1.out.kept H4.out.bel);have HT7:=iQ (HT1.out.kept H4.out.bel);have CT:=iQ ct;clear hv ct;have HD:=iQ (Gn (Qe H4.out.bel BB.out) gr1 gr2 hne HR7.out HT7.out (Ha.of_hi H4.out.h1 rfl (H4.out.hi.a.low BB.out.size) (H4.out.hi.b.low BB.out.size) (H4.out.hi.c.low BB.out.size)) (Ha.of_hi H4.out.h2 rfl (H4.out.hi.a'.low BB.out.size) (H4.out.hi.b'.low BB.out.size) (H4.out.hi.c'.low BB.out.size)) (.bool true) (.slice A1 p c1) (.slice Kv mm d1') (.slice FV kk e1') (.bool true) (.slice A2 (n - p) c2) (.slice Um (m - mm) d2') (.slice C2' (k - kk) e2'));have HE2:=iQ (Ky hne HR7.out HT7.out (.bool true) (.slice A1 p c1) (.slice Kv mm d1') (.slice FV kk e1') (.bool true) (.slice A2 (n - p) c2) (.slice Um (m - mm) d2') (.slice C2' (k - kk) e2'));have a1:¬ q1=r1:=by have:=H4.out.l1;have:=HR1.out.lt;have:=HT1.out.lt;omega
     have a2:¬ q1=r2:=by have:=H4.out.l1;have:=HR1.out.lt;have:=HT1.out.lt;omega
     have a3:¬ q2=r1:=by have:=H4.out.l2;have:=HR1.out.lt;have:=HT1.out.lt;omega
     have a4:¬ q2=r2:=by have:=H4.out.l2;have:=HR1.out.lt;have:=HT1.out.lt;omega
     have a5:¬ w.heap.size=r1:=(by omega);have a6:¬ w.heap.size=r2:=(by omega);have a7:¬ b=r1:=Uz HR7.out CT.out (Or.inl ⟨_,rfl⟩);have a8:¬ b=r2:=Uz HT7.out CT.out (Or.inl ⟨_,rfl⟩);have i1:(0:Int)<=(p:Int):=(by omega);have i2:(p:Int)<(n:Int):=(by omega);obtain ⟨x0,x1,x2,x3⟩:=H4.out.b1.cells;obtain ⟨y0,y1,y2,y3⟩:=H4.out.b2.cells;obtain ⟨c0,c1x,c2x,c3x⟩:=(HB1.out.kept H4.out.bel).cells;obtain ⟨t0,t1,t2,t3⟩:=HR7.out.cells;obtain ⟨f0,f1,f2,f3⟩:=HR7.out.free;obtain ⟨u0,u1,u2,u3⟩:=HT7.out.cells;obtain ⟨g0,g1,g2,g3⟩:=HT7.out.free;have ct:=CT.out;go_region
     all_goals (
      clear x0 x1 x2 x3 y0 y1 y2 y3 c0 c1x c2x c3x t0 t1 t2 t3 f0 f1 f2 f3 u0 u1 u2 u3 g0 g1 g2 g3 ct a1 a2 a3 a4 a5 a6 a7 a8;go_wp2_with fail;obtain ⟨S1,S2,_⟩:=HE2.out;obtain ⟨y0,y1,y2,y3⟩:=S1.cells;obtain ⟨u0,u1,u2,u3⟩:=S2.cells;clear S1 S2 HE2;generalize ((((((((w7.setCell ⟨r1,0,none⟩ (.bool true)).setCell ⟨r1,1,none⟩ (.slice A1 p c1)).setCell ⟨r1,2,none⟩ (.slice Kv mm d1')).setCell ⟨r1,3,none⟩ (.slice FV kk e1')).setCell ⟨r2,0,none⟩ (.bool true)).setCell ⟨r2,1,none⟩ (.slice A2 (n - p) c2)).setCell ⟨r2,2,none⟩ (.slice Um (m - mm) d2')).setCell ⟨r2,3,none⟩ (.slice C2' (k - kk) e2'))=w9 at *;have bd:=(Below.refl w9.heap.size w9).drew;refine bodyPost_ret (v := .tuple #[.agg #[.bool true,.slice A1 p c1,.slice Kv mm d1',.slice FV kk e1'],.string t,.agg #[.bool true,.slice A2 (n - p) c2,.slice Um (m - mm) d2',.slice C2' (k - kk) e2'],.int .i64 0]) (by simp [results,Tryz.results161,go_sem,y0,y1,y2,y3,u0,u1,u2,u3]) rfl ?_;refine ⟨.agg #[.bool true,.slice A1 p c1,.slice Kv mm d1',.slice FV kk e1'],.agg #[.bool true,.slice A2 (n - p) c2,.slice Um (m - mm) d2',.slice C2' (k - kk) e2'],?_,?_,?_,HD.out.2.2.drew⟩
      ·rw [X1.out,X4.out,Ud HV.out,Zx]
      ·rw [X2.out,HL.out,<- (Kw Gx.out HVN.out).1,<- (Kw LZ.out HCN.out).1];exact HD.out.1.kept bd
      ·rw [X3.out,HL.out,<- (Kw Gx.out HVN.out).2,<- (Kw LZ.out HCN.out).2];exact HD.out.2.1.kept bd)
end
end Go.Proofs.YtfiflinbicbedaaGreat
