/-
  A part of the proof. Conditions: none.
-/
import Derived.Deep.DeepCutAuto
import Derived.Shelf.Abstract
import Derived.Test.YtfiflinbicbedaaGreatZR5

set_option maxRecDepth 20000
set_option maxHeartbeats 12800000
namespace Go.Proofs.YtfiflinbicbedaaGreat
section
open Go.RowKit
theorem qh7 (z p:Int) (g:Nat) (w:World) (hc:w.cell? ⟨g,0,none⟩=some (.int .i64 p)) :
 Calls Tryz.prog 122 #[.int .i64 z,.pointer (some ⟨g,0,none⟩)] w fun e w'=>e = .returned (.bool (decide (z ≥ p)))/\w'=w:=by
 go_enter Tryz.func122,Tryz.ntmps122;go_wp2_with fail;go_ret;exact ⟨rfl,rfl⟩
def qm7 (zs:List Int) (k:Nat) (p:Int):Prop:=∀ j z,j<k->zs[j]?=some z->z<p
theorem qm7.more {zs:List Int} {k:Nat} {p x:Int} (h:qm7 zs k p) (hv:zs[k]?=some x) (hx:x<p):qm7 zs (k+1) p:=by
 intro j z hj hz;by_cases e:j=k
 ·subst e
  rw [hv] at hz;obtain rfl:=wa0 hz;exact hx
 ·exact h j z (by omega) hz
theorem qm7.hit {zs:List Int} {k:Nat} {p x:Int} (h:qm7 zs k p) (hv:zs[k]?=some x) (hx:¬ x<p):SS.place p zs=k:=by
 obtain ⟨hk,_⟩:=wa8.1 hv;refine SS.place_at h (fun z hz=>?_) (by omega);rw [hv] at hz;obtain rfl:=wa0 hz;exact hx
theorem qm7.miss {zs:List Int} {p:Int} {n:Nat} (h:qm7 zs n p) (hn:zs.length=n):SS.place p zs=n:=by
 refine SS.place_at h (fun z hz=>?_) (by omega);rw [List.getElem?_eq_none (by omega)] at hz;cases hz
def Gs (p:Int) (zs:List Int) (n:Nat):Int:=if SS.place p zs=n then -1 else (SS.place p zs:Nat)
theorem qs0 (A:Option Addr) (n c:Nat) (zs:List Int) (p:Int) (g:Nat) (w:World) (hz:Ln w 1 A n c (Qc zs)) (hc:w.cell? ⟨g,0,none⟩=some (.int .i64 p)) (hn:n<=1000000) :
 Calls Tryz.prog 121 #[.slice A n c,.func (.func 122) #[] #[.pointer (some ⟨g,0,none⟩)]] w fun e w'=>e = .returned (.int .i64 (Gs p zs n))/\w'=w:=by
 have HZ:=iQ hz;have HN:=iQ hz.intN;have HF:=iQ (fun z=>qh7 z p g w hc);clear hz hc;go_enter Tryz.func121,Tryz.ntmps121;go_wp2_with fail;obtain ⟨wo,rfl⟩:∃ wo:World,wo=w:=⟨_,rfl⟩;go_loopw [8] (fun i wk=>∃ k:Nat,k<=n/\i = .int .i64 k/\Hid (qm7 zs k p)/\wk=wo) (fun i _=>n - (RowKit.intOf i).toNat)
 case atStart=>exact ⟨0,wb3 _,rfl,iQ (fun j z hj=>absurd hj (Nat.not_lt_zero _)),rfl⟩
 case round =>
  obtain ⟨k,hk,rfl,HL,hw⟩:=hrel;have hw':=hw.symm;subst hw';clear hw;by_cases hlt:k<n
  ·obtain ⟨b,off,x,rfl,hv,c0⟩:=HZ.out.iA hlt
   by_cases hx:x<p
   ·have HM:=iQ (HL.out.more hv hx)
    have hb:decide (x ≥ p)=false:=decide_eq_false (by omega);clear hv HL hx;go_wp2_with fail;refine (HF.out x).mono ?_;rintro e w1 ⟨rfl,rfl⟩;go_wp2_with fail;go_roundw;case rel=>exact ⟨k+1,by omega,by go_num,HM,trivial⟩
    case measure=>simp [RowKit.intOf];omega
   ·have hp:=HL.out.hit hv hx
    have HM:Hid (Gs p zs n=(k:Int)):=iQ (by unfold Gs;rw [if_neg (by omega),hp]);have hb:decide (x ≥ p)=true:=decide_eq_true (by omega);clear hv HL hx hp;go_wp2_with fail;refine (HF.out x).mono ?_;rintro e w1 ⟨rfl,rfl⟩;go_wp2_with fail;go_ret;exact ⟨Zm HM.out.symm,rfl⟩
  ·obtain rfl:n=k:=by omega
   have hp:=HL.out.miss HN.out;have HM:Hid (Gs p zs n = -1):=iQ (by unfold Gs;rw [if_pos hp]);clear hp;go_wp2_with fail;go_ret;exact ⟨Zm HM.out.symm,rfl⟩
theorem qC8 (A:Option Addr) (n c:Nat) (zs:List Int) (p:Int) (w:World) (hz:Ln w 1 A n c (Qc zs)) (hn:n<=1000000) :
 Calls Tryz.prog 82 #[.slice A n c,.int .i64 p] w fun e w'=>e = .returned (.int .i64 (SS.place p zs:Nat))/\Below w.heap.size w w':=by
 have hmf:∀ (fn:Fn) (first cap:Array Value) (w:World),(Instr.makeFunc fn first cap).run Tryz.prog w = .ok (.func fn first cap) w:=fun _ _ _ _=>rfl
 have HZ:=iQ (hz.kept (Qa w (.cells #[.int .i64 p] 3)));have HN:=iQ hz.intN;have B1:=iQ (Qa w (.cells #[.int .i64 p] 3));have hc:(w.alloc (.cells #[.int .i64 p] 3)).cell? ⟨w.heap.size,0,none⟩=some (.int .i64 p):=by simp
 clear hz;go_enter Tryz.func82,Tryz.ntmps82;go_wp2_with fail;generalize w.alloc (.cells #[.int .i64 p] 3)=w1 at *;refine (qs0 A n c zs p w.heap.size w1 HZ.out hc hn).mono ?_;rintro e w2 ⟨rfl,rfl⟩;have hle:SS.place p zs<=n:=by have:=SS.place_le p zs;rw [HN.out] at this;exact this
 by_cases hp:SS.place p zs=n
 ·have HR:Gs p zs n = -1:=by unfold Gs;rw [if_pos hp]
  have HP:=iQ hp;rw [HR];clear HR hp hc;go_wp2_with fail;go_ret;exact ⟨Zm (by rw [HP.out]),B1.out⟩
 ·have HR:Gs p zs n=(SS.place p zs:Nat):=by unfold Gs;rw [if_neg hp]
  obtain ⟨k,hk⟩:∃ k,SS.place p zs=k:=⟨_,rfl⟩;rw [HR,hk];have HK:=iQ hk;clear HR hp hc hk hle;have i0:¬ ((k:Int)<0):=by omega
  go_wp2_with fail;go_ret;exact ⟨Zm (by rw [HK.out]),B1.out⟩
theorem TL {α:Type} {xs ys:List α} {k:Nat} {z:α} (h:xs.take k=ys.take k) (hx:xs[k]?=some z) (hy:ys[k]?=some z):xs.take (k+1)=ys.take (k+1):=by
 rw [wc2,wc2,h,hx,hy]
theorem zd2 (A B:Option Addr) (n c m d:Nat) (xs ys:List Int) (w:World) (hx:Ln w 1 A n c (Qc xs)) (hy:Ln w 1 B m d (Qc ys)) (hn:n<=1000000) :
 Calls Tryz.prog 132 #[.slice A n c,.slice B m d] w fun e w'=>e = .returned (.bool (decide (xs=ys)))/\Below w.heap.size w w':=by
 have hxl:=hx.intN;have hyl:=hy.intN;by_cases hl:n=m
 ·have hl':((n:Int) != (m:Int))=false:=by simp [hl]
  have HL:Hid (xs.length=n/\ys.length=n):=iQ (by omega);have hlx:n<=m:=by omega
  have hly:m<=n:=by omega
  have HX:=iQ hx;have HY:=iQ hy;clear hl hxl hyl hx hy;go_enter Tryz.func132,Tryz.ntmps132;go_wp2_with fail;go_loopw [13] (fun i wr=>∃ k:Nat,k<=n/\i = .int .i64 k/\Hid (xs.take k=ys.take k)/\Below w.heap.size w wr) (fun i _=>n - (RowKit.intOf i).toNat)
  case atStart=>exact ⟨0,wb3 _,rfl,iQ (by simp),Below.refl _ _⟩
  case round =>
   obtain ⟨k,hk,rfl,hpre,hb⟩:=hrel;by_cases hlt:k<n
   ·obtain ⟨b,off,z,rfl,hv,c0⟩:=(HX.out.kept hb).iA hlt
    obtain ⟨b',off',z',rfl,hv',c0'⟩:=(HY.out.kept hb).iA (k:=k) (by omega);have hV:=iQ hv;have hV':=iQ hv';clear hv hv';have i0:(0:Int)<=(k:Int):=(by omega);have i1:(k:Int)<(m:Int):=(by omega);by_cases hz:z=z'
    ·subst hz
     go_wp2_with fail;go_quiet (fail)
     go_wp2_with fail;go_roundw;case rel=>exact ⟨k+1,by omega,by go_num,iQ (TL hpre.out hV.out hV'.out),Ya hb _⟩
     case measure=>simp [RowKit.intOf];omega
    ·have hz':(z != z')=true:=by simpa using hz
     clear hz;go_wp2_with fail;go_quiet (fail)
     go_wp2_with fail;go_ret;refine ⟨Qi (decide_eq_false (fun e=>?_)).symm,Ya hb _⟩;have h1:=hV.out;rw [e,hV'.out] at h1;simp at h1;exact absurd h1.symm (by simpa using hz')
   ·obtain rfl:k=n:=by omega
    go_wp2_with fail;go_ret;refine ⟨Qi (decide_eq_true ?_).symm,hb⟩;have:=hpre.out;rw [wa5 (by have:=HL.out;omega),wa5 (by have:=HL.out;omega)] at this;exact this
 ·have hl':((n:Int) != (m:Int))=true:=by simp;omega
  have hfin:decide (xs=ys)=false:=decide_eq_false (fun e=>hl (by rw [<- hxl,<- hyl,e]));rw [hfin];clear hfin hx hy hxl hyl;go_enter Tryz.func132,Tryz.ntmps132;go_wp2_with fail;go_ret;exact ⟨rfl,Below.refl _ _⟩
theorem qy6 (A B:Option Addr) (n c m d:Nat) (xs ys:List (List UInt8)) (w:World) (hx:Ln w 1 A n c (Qd xs)) (hy:Ln w 1 B m d (Qd ys)) (hn:n<=1000000) :
 Calls Tryz.prog 131 #[.slice A n c,.slice B m d] w fun e w'=>e = .returned (.bool (decide (xs=ys)))/\Below w.heap.size w w':=by
 have hxl:=hx.strN;have hyl:=hy.strN;by_cases hl:n=m
 ·have hl':((n:Int) != (m:Int))=false:=by simp [hl]
  have HL:Hid (xs.length=n/\ys.length=n):=iQ (by omega);have hlx:n<=m:=by omega
  have hly:m<=n:=by omega
  have HX:=iQ hx;have HY:=iQ hy;clear hl hxl hyl hx hy;go_enter Tryz.func131,Tryz.ntmps131;go_wp2_with fail;go_loopw [13] (fun i wr=>∃ k:Nat,k<=n/\i = .int .i64 k/\Hid (xs.take k=ys.take k)/\Below w.heap.size w wr) (fun i _=>n - (RowKit.intOf i).toNat)
  case atStart=>exact ⟨0,wb3 _,rfl,iQ (by simp),Below.refl _ _⟩
  case round =>
   obtain ⟨k,hk,rfl,hpre,hb⟩:=hrel;by_cases hlt:k<n
   ·obtain ⟨b,off,z,rfl,hv,c0⟩:=(HX.out.kept hb).sA hlt
    obtain ⟨b',off',z',rfl,hv',c0'⟩:=(HY.out.kept hb).sA (k:=k) (by omega);have hV:=iQ hv;have hV':=iQ hv';clear hv hv';have i0:(0:Int)<=(k:Int):=(by omega);have i1:(k:Int)<(m:Int):=(by omega);by_cases hz:z=z'
    ·subst hz
     go_wp2_with fail;go_quiet (fail)
     go_wp2_with fail;go_roundw;case rel=>exact ⟨k+1,by omega,by go_num,iQ (TL hpre.out hV.out hV'.out),Ya hb _⟩
     case measure=>simp [RowKit.intOf];omega
    ·have hz':(z.toList==z'.toList)=false:=by
      cases hb:z.toList==z'.toList with
      | false=>rfl
      | true=>exact absurd (VT (eq_of_beq hb)) hz
     have HZ:=iQ hz;clear hz;go_wp2_with fail;go_quiet (fail)
     go_wp2_with fail;go_ret;refine ⟨Qi (decide_eq_false (fun e=>?_)).symm,Ya hb _⟩;have h1:=hV.out;rw [e,hV'.out] at h1;have h2:=wa0 h1;exact HZ.out (VT h2).symm
   ·obtain rfl:k=n:=by omega
    go_wp2_with fail;go_ret;refine ⟨Qi (decide_eq_true ?_).symm,hb⟩;have:=hpre.out;rw [wa5 (by have:=HL.out;omega),wa5 (by have:=HL.out;omega)] at this;exact this
 ·have hl':((n:Int) != (m:Int))=true:=by simp;omega
  have hfin:decide (xs=ys)=false:=decide_eq_false (fun e=>hl (by rw [<- hxl,<- hyl,e]));rw [hfin];clear hfin hx hy hxl hyl;go_enter Tryz.func131,Tryz.ntmps131;go_wp2_with fail;go_ret;exact ⟨rfl,Below.refl _ _⟩
theorem qi6 (w:World) (x y z p x' y' z' p':Value):Qs ((w.alloc (.cells #[x,y,z,p] 75)).alloc (.cells #[x',y',z',p'] 75)) w.heap.size x y z p /\
 Qs ((w.alloc (.cells #[x,y,z,p] 75)).alloc (.cells #[x',y',z',p'] 75)) (w.heap.size+1) x' y' z' p'/\Below w.heap.size w ((w.alloc (.cells #[x,y,z,p] 75)).alloc (.cells #[x',y',z',p'] 75)):=by
 refine ⟨(Qp w x y z p).kept (Qa _ _),?_,Zp _ _ _⟩;have h:=Qp (w.alloc (.cells #[x,y,z,p] 75)) x' y' z' p';rw [show (w.alloc (.cells #[x,y,z,p] 75)).heap.size=w.heap.size+1 by simp] at h;exact h
theorem qM1 (s t:ND):s.sameB t=(s.leaf==t.leaf && (decide (s.keys=t.keys) && (decide (s.vals=t.vals) && decide (s.kids=t.kids)))):=by
 unfold ND.sameB;congr 1;congr 1
 ·by_cases h:s.keys=t.keys<;>simp [h]
 ·congr 1
  ·by_cases h:s.vals=t.vals<;>simp [h]
  ·by_cases h:s.kids=t.kids<;>simp [h]
theorem qg3 (lf:Bool) (A:Option Addr) (n c:Nat) (B:Option Addr) (m d:Nat) (C:Option Addr) (k e:Nat) (s:ND) (lf':Bool) (A':Option Addr) (n' c':Nat) (B':Option Addr) (m' d':Nat) (C':Option Addr) (k' e':Nat) (t:ND) (w:World)
 (h:Nd w A n c B m d C k e s) (g:Nd w A' n' c' B' m' d' C' k' e' t) (hl:s.leaf=lf) (hl':t.leaf=lf') (hz:s.size<=1000000) :
 Calls Tryz.prog 94 #[.agg #[.bool lf,.slice A n c,.slice B m d,.slice C k e],.agg #[.bool lf',.slice A' n' c',.slice B' m' d',.slice C' k' e']] w fun e w'=>e = .returned (.bool (s.sameB t))/\Below w.heap.size w w':=by
 obtain ⟨Vh,tb2,Xm⟩:=qi6 w (.bool lf) (.slice A n c) (.slice B m d) (.slice C k e) (.bool lf') (.slice A' n' c') (.slice B' m' d') (.slice C' k' e');have HB:=iQ Vh;have HC:=iQ tb2;have B0:=iQ Xm;have HS:=iQ (h.kept Xm);have HT:=iQ (g.kept Xm);have hn:n<=1000000/\m<=1000000/\k<=1000000:=by
  have h1:=h.kn;have h2:=h.vn;have h3:=h.cn;unfold ND.size ND.tsz at hz;omega
 obtain ⟨hn1,hn2,hn3⟩:=hn;have HD:=iQ (qM1 s t);rw [hl,hl'] at HD;clear Vh tb2 Xm h g hl hl' hz;go_enter Tryz.func94,Tryz.ntmps94;go_upto_region 1 with fail
 generalize (w.alloc (.cells #[.bool lf,.slice A n c,.slice B m d,.slice C k e] 75)).alloc (.cells #[.bool lf',.slice A' n' c',.slice B' m' d',.slice C' k' e'] 75)=w0 at *;obtain ⟨c0,c1,c2,c3⟩:=HB.out.cells;obtain ⟨y0,y1,y2,y3⟩:=HC.out.cells;by_cases hle:lf=lf'
 ·have hb:(lf==lf')=true:=by simpa using hle
  rw [hb,Bool.true_and] at HD;clear hle;go_wp2_with fail;refine (qy6 A A' n c n' c' s.keys t.keys w0 HS.out.ke HT.out.ke hn1).mono ?_;rintro e1 w1 ⟨rfl,b1⟩;have B1:=iQ b1;have Xl:=iQ (HS.out.kept b1);have HT1:=iQ (HT.out.kept b1);have HB1:=iQ (HB.out.kept b1);have HC1:=iQ (HC.out.kept b1);clear b1 c0 c1 c2 c3 y0 y1 y2 y3 HS HT HB HC;generalize decide (s.keys=t.keys)=r1 at *;cases r1 with
  | false =>
    go_wp2_with fail;go_ret;exact ⟨by rw [HD.out];rfl,B0.out.trans (B1.out.mono B0.out.size)⟩
  | true =>
    rw [Bool.true_and] at HD;obtain ⟨c0,c1,c2,c3⟩:=HB1.out.cells;obtain ⟨y0,y1,y2,y3⟩:=HC1.out.cells;go_wp2_with fail;refine (qy6 B B' m d m' d' s.vals t.vals w1 Xl.out.va HT1.out.va hn2).mono ?_;rintro e2 w2 ⟨rfl,b2⟩;have B2:=iQ (B1.out.trans (b2.mono B1.out.size));have HS2:=iQ (Xl.out.kept b2);have HT2:=iQ (HT1.out.kept b2);have HB2:=iQ (HB1.out.kept b2);have HC2:=iQ (HC1.out.kept b2);clear b2 c0 c1 c2 c3 y0 y1 y2 y3 Xl HT1 HB1 HC1;generalize decide (s.vals=t.vals)=r2 at *;cases r2 with
    | false =>
      go_wp2_with fail;go_ret;exact ⟨by rw [HD.out];rfl,B0.out.trans (B2.out.mono B0.out.size)⟩
    | true =>
      rw [Bool.true_and] at HD;obtain ⟨c0,c1,c2,c3⟩:=HB2.out.cells;obtain ⟨y0,y1,y2,y3⟩:=HC2.out.cells;go_wp2_with fail;refine (zd2 C C' k e k' e' s.kids t.kids w2 HS2.out.ki HT2.out.ki hn3).mono ?_;rintro e3 w3 ⟨rfl,b3⟩;have B3:=iQ (B2.out.trans (b3.mono B2.out.size));clear b3 c0 c1 c2 c3 y0 y1 y2 y3;generalize decide (s.kids=t.kids)=r3 at *;go_wp2_with fail;go_ret;exact ⟨by rw [HD.out];cases r3<;>rfl,B0.out.trans (B3.out.mono B0.out.size)⟩
 ·have hb:(lf==lf')=false:=by simpa using hle
  rw [hb,Bool.false_and] at HD;clear hle;go_wp2_with fail;go_ret;exact ⟨by rw [HD.out];rfl,B0.out⟩
theorem KR:∀ (p:List UInt8) (a b:List (List UInt8)),ND.rise p (a++b)=(ND.rise p a && ND.rise (a.getLastD p) b)
 | p,[],b=>by simp [ND.rise]
 | p,x::a,b=>by
   have e:(x::a).getLastD p=a.getLastD x:=by cases a<;>rfl
   rw [we7,ND.rise_cons,ND.rise_cons,KR x a b,e];exact (Bool.and_assoc _ _ _).symm
theorem qR1 {a b:List UInt8} (h:Op.bytesLess a b=true):Op.bytesLess b a=false/\(b==a)=false:=by
 constructor
 ·cases hb:Op.bytesLess b a with
  | false=>rfl
  | true=>have:=Qq a b a h hb;rw [Yh] at this;cases this
 ·rw [beq_eq_false_iff_ne]
  rintro rfl;rw [Yh] at h;cases h
theorem qP3 {a b:List UInt8} (h:Op.bytesLess a b=false):Op.bytesLess b a=true\/(Op.bytesLess b a=false/\(b==a)=true):=by
 rcases Yv a b with e | e | e
 ·rw [h] at e;cases e
 ·right
  subst e;exact ⟨h,beq_self_eq_true _⟩
 ·exact Or.inl e
theorem qC1 {l:List (List UInt8)} {k:Nat} {t:List UInt8} (h:l[k]?=some t):ND.rise [] (l.take (k+1))=(ND.rise [] (l.take k) && (Op.bytesLess ((l.take k).getLastD []) t && decide (t.length<=120)))/\(l.take (k+1)).getLastD []=t:=by
 rw [wc2,h,wd0];exact ⟨ND.rise_snoc _ _ _,by simp⟩
theorem DZ {l:List (List UInt8)} {k:Nat} (h:ND.rise [] (l.take k)=false):ND.rise [] l=false:=by
 have:=KR [] (l.take k) (l.drop k);rw [wb7,h] at this;exact this
theorem ZK (A:Option Addr) (n c:Nat) (l:List (List UInt8)) (w:World) (h:Ln w 1 A n c (Qd l)) (hn:n<=1000000000) :
 Calls Tryz.prog 204 #[.slice A n c] w fun e w'=>e = .returned (.bool (ND.rise [] l))/\w=w':=by
 have HN:=iQ h.strN;go_enter Tryz.func204,Tryz.ntmps204;go_wp2_with fail;go_loop [3,8] (fun s i=>∃ (k:Nat) (p:ByteArray),k<=n/\i = .int .i64 k/\s = .string p/\Hid (ND.rise [] (l.take k)=true)/\Hid (p.toList=(l.take k).getLastD [])) (fun _ i=>n - (RowKit.intOf i).toNat)
 case atStart=>exact ⟨0,⟨#[]⟩,wb3 _,rfl,rfl,iQ rfl,iQ (by rw [Yb];rfl)⟩
 case round =>
  obtain ⟨k,p,hk,rfl,rfl,HR,HP⟩:=hrel;by_cases hlt:k<n
  ·obtain ⟨b,off,s,rfl,hv,c0⟩:=h.sA hlt
   obtain ⟨h1,h2⟩:=qC1 hv;rw [HR.out,Bool.true_and,<- HP.out,Qn] at h1;have H1:=iQ h1;have H2:=iQ h2;clear hv h1 h2;cases hl:Op.bytesLess p.toList s.toList with
   | false =>
     have HE:Hid (ND.rise [] l=false):=iQ (DZ (k:=k+1) (by rw [H1.out,hl];rfl));rcases qP3 hl with f1 | ⟨f1,f2⟩
     ·clear hl
      go_wp2_with fail;go_ret;exact ⟨Qi HE.out.symm,rfl⟩
     ·clear hl
      go_wp2_with fail;go_ret;exact ⟨Qi HE.out.symm,rfl⟩
   | true =>
     obtain ⟨f1,f2⟩:=qR1 hl;by_cases hz:s.size<=120
     ·have HE:Hid (ND.rise [] (l.take (k+1))=true):=iQ (by rw [H1.out,hl,decide_eq_true hz];rfl)
      clear hl;go_wp2_with fail;go_round;case rel=>exact ⟨k+1,s,by omega,by go_num,rfl,HE,iQ H2.out.symm⟩
      case measure=>simp [RowKit.intOf];omega
     ·have HE:Hid (ND.rise [] l=false):=iQ (DZ (k:=k+1) (by rw [H1.out,hl,decide_eq_false hz];rfl))
      clear hl;go_wp2_with fail;go_ret;exact ⟨Qi HE.out.symm,rfl⟩
  ·obtain rfl:n=k:=by omega
   go_wp2_with fail;go_ret;refine ⟨Qi ?_,rfl⟩;have:=HR.out;rw [wa5 (by rw [HN.out];omega)] at this;exact this.symm
theorem PY (z:Int) (w:World):Calls Tryz.prog 212 #[.int .i64 z] w fun e w'=>e = .returned (.bool (!ND.kidB z))/\w=w':=by
 by_cases h1:z<2
 ·have HE:Hid (ND.kidB z=false):=iQ (by unfold ND.kidB;rw [decide_eq_false (by omega)];rfl)
  go_enter Tryz.func212,Tryz.ntmps212;go_wp2_with fail;go_ret;exact ⟨Qi (by rw [HE.out];rfl),rfl⟩
 ·by_cases h2:2147483647<z
  ·have HE:Hid (ND.kidB z=false):=iQ (by unfold ND.kidB;rw [decide_eq_false (show ¬ z<=2147483647 by omega),Bool.and_false])
   go_enter Tryz.func212,Tryz.ntmps212;go_wp2_with fail;go_ret;exact ⟨Qi (by rw [HE.out];rfl),rfl⟩
  ·have HE:Hid (ND.kidB z=true):=iQ (by unfold ND.kidB;rw [decide_eq_true (by omega),decide_eq_true (by omega)];rfl)
   go_enter Tryz.func212,Tryz.ntmps212;go_wp2_with fail;go_ret;exact ⟨Qi (by rw [HE.out];rfl),rfl⟩
theorem KJ (s:ByteArray) (w:World):Calls Tryz.prog 213 #[.string s] w fun e w'=>e = .returned (.bool (!ND.valB s.toList))/\w=w':=by
 have HE:Hid (ND.valB s.toList=decide (s.size<=100)):=iQ (by unfold ND.valB;rw [Qn]);go_enter Tryz.func213,Tryz.ntmps213;go_wp2_with fail;go_ret;refine ⟨Qi ?_,rfl⟩;rw [HE.out];by_cases hs:s.size<=100
 ·rw [decide_eq_true hs]
  simp;omega
 ·rw [decide_eq_false hs]
  simp;omega
theorem qm3 {α:Type} {l:List α} {f:α->Bool} {k:Nat} {z:α} (hv:l[k]?=some z) (h:f z=false):l.all f=false:=by
 rw [List.all_eq_false];exact ⟨z,wb5 hv,by rw [h];decide⟩
theorem qm4 {α:Type} {l:List α} {f:α->Bool} {k:Nat} {z:α} (hv:l[k]?=some z) (h:f z=true) (h0:(l.take k).all f=true):(l.take (k+1)).all f=true:=by
 rw [wc2,hv,wd0,List.all_append,h0];simp [h]
def qX0 (r:Bool) (w:World) (e:Ending) (w':World):Prop:=∃ z:Int,e = .returned (.int .i64 z)/\(decide (0<=z) = !r)/\w=w'
theorem qs2 (A:Option Addr) (n c:Nat) (l:List Int) (w:World) (h:Ln w 1 A n c (Qc l)) (hn:n<=1000000000) :
 Calls Tryz.prog 121 #[.slice A n c,.func (.func 212) #[] #[]] w (qX0 (l.all ND.kidB) w):=by
 have HN:=iQ h.intN;go_enter Tryz.func121,Tryz.ntmps121;go_wp2_with fail;go_loop [8] (fun i=>∃ k:Nat,k<=n/\i = .int .i64 k/\Hid ((l.take k).all ND.kidB=true)) (fun i=>n - (RowKit.intOf i).toNat)
 case atStart=>exact ⟨0,wb3 _,rfl,iQ rfl⟩
 case round =>
  obtain ⟨k,hk,rfl,HR⟩:=hrel;by_cases hlt:k<n
  ·obtain ⟨b,off,z,rfl,hv,c0⟩:=h.iA hlt
   cases hz:ND.kidB z with
   | false =>
     have HE:=iQ (qm3 hv hz);have HZ:=iQ hz;clear hv hz;go_wp2_with fail;refine (PY z w).mono ?_;rintro e w2 ⟨rfl,rfl⟩;rw [HZ.out];go_wp2_with fail;go_ret;exact ⟨_,rfl,by rw [HE.out];exact decide_eq_true (by omega),rfl⟩
   | true =>
     have HE:=iQ (qm4 hv hz HR.out);have HZ:=iQ hz;clear hv hz;go_wp2_with fail;refine (PY z w).mono ?_;rintro e w2 ⟨rfl,rfl⟩;rw [HZ.out];go_wp2_with fail;go_round;case rel=>exact ⟨k+1,by omega,by go_num,HE⟩
     case measure=>simp [RowKit.intOf];omega
  ·obtain rfl:n=k:=by omega
   go_wp2_with fail;go_ret;have:=HR.out;rw [wa5 (by rw [HN.out];omega)] at this;exact ⟨_,rfl,by rw [this];rfl,rfl⟩
theorem qr9 (A:Option Addr) (n c:Nat) (l:List (List UInt8)) (w:World) (h:Ln w 1 A n c (Qd l)) (hn:n<=1000000000) :
 Calls Tryz.prog 105 #[.slice A n c,.func (.func 213) #[] #[]] w (qX0 (l.all ND.valB) w):=by
 have HN:=iQ h.strN;go_enter Tryz.func105,Tryz.ntmps105;go_wp2_with fail;go_loop [8] (fun i=>∃ k:Nat,k<=n/\i = .int .i64 k/\Hid ((l.take k).all ND.valB=true)) (fun i=>n - (RowKit.intOf i).toNat)
 case atStart=>exact ⟨0,wb3 _,rfl,iQ rfl⟩
 case round =>
  obtain ⟨k,hk,rfl,HR⟩:=hrel;by_cases hlt:k<n
  ·obtain ⟨b,off,z,rfl,hv,c0⟩:=h.sA hlt
   cases hz:ND.valB z.toList with
   | false =>
     have HE:=iQ (qm3 hv hz);have HZ:=iQ hz;clear hv hz;go_wp2_with fail;refine (KJ z w).mono ?_;rintro e w2 ⟨rfl,rfl⟩;rw [HZ.out];go_wp2_with fail;go_ret;exact ⟨_,rfl,by rw [HE.out];exact decide_eq_true (by omega),rfl⟩
   | true =>
     have HE:=iQ (qm4 hv hz HR.out);have HZ:=iQ hz;clear hv hz;go_wp2_with fail;refine (KJ z w).mono ?_;rintro e w2 ⟨rfl,rfl⟩;rw [HZ.out];go_wp2_with fail;go_round;case rel=>exact ⟨k+1,by omega,by go_num,HE⟩
     case measure=>simp [RowKit.intOf];omega
  ·obtain rfl:n=k:=by omega
   go_wp2_with fail;go_ret;have:=HR.out;rw [wa5 (by rw [HN.out];omega)] at this;exact ⟨_,rfl,by rw [this];rfl,rfl⟩
theorem FQ (A:Option Addr) (n c:Nat) (l:List Int) (w:World) (h:Ln w 1 A n c (Qc l)) (hn:n<=1000000000) :
 Calls Tryz.prog 117 #[.slice A n c,.func (.func 212) #[] #[]] w fun e w'=>e = .returned (.bool (!l.all ND.kidB))/\w=w':=by
 go_enter Tryz.func117,Tryz.ntmps117;go_wp2_with fail;refine (qs2 A n c l w h hn).mono ?_;rintro e w2 ⟨z,rfl,hz,rfl⟩;have HZ:=iQ hz;clear hz;go_wp2_with fail;go_ret;exact ⟨Qi HZ.out,rfl⟩
theorem LM (A:Option Addr) (n c:Nat) (l:List (List UInt8)) (w:World) (h:Ln w 1 A n c (Qd l)) (hn:n<=1000000000) :
 Calls Tryz.prog 70 #[.slice A n c,.func (.func 213) #[] #[]] w fun e w'=>e = .returned (.bool (!l.all ND.valB))/\w=w':=by
 go_enter Tryz.func70,Tryz.ntmps70;go_wp2_with fail;refine (qr9 A n c l w h hn).mono ?_;rintro e w2 ⟨z,rfl,hz,rfl⟩;have HZ:=iQ hz;clear hz;go_wp2_with fail;go_ret;exact ⟨Qi HZ.out,rfl⟩
theorem zk9 {a b:Nat} (h:¬ a=b):((a:Int)==(b:Int))=false:=by rw [beq_eq_false_iff_ne];omega
theorem qd1 {a:Nat} (h:¬ a=0):((a:Int)==0)=false:=by rw [beq_eq_false_iff_ne];omega
theorem PD (lf:Bool) (A:Option Addr) (n c:Nat) (B:Option Addr) (m d:Nat) (C:Option Addr) (k e:Nat) (s:ND) (w:World) (h:Nd w A n c B m d C k e s) (hm:m<=1000000000) :
 Calls Tryz.prog 203 #[.agg #[.bool lf,.slice A n c,.slice B m d,.slice C k e]] w fun e w'=>e = .returned (.bool s.leafB)/\Below w.heap.size w w':=by
 have HB:=iQ (Qp w (.bool lf) (.slice A n c) (.slice B m d) (.slice C k e));have b1:=Qa w (.cells #[.bool lf,.slice A n c,.slice B m d,.slice C k e] 75);have B1:=iQ b1;have H1:=iQ (h.kept b1);have HS:Hid (s.leafB=(decide (m=n) && (s.vals.all ND.valB && decide (k=0)))):=iQ (by unfold ND.leafB;rw [h.kn,h.vn,h.cn]);clear b1 h;go_enter Tryz.func203,Tryz.ntmps203;go_upto_region 1 with fail
 generalize w.alloc (.cells #[.bool lf,.slice A n c,.slice B m d,.slice C k e] 75)=w1 at *;obtain ⟨c0,c1,c2,c3⟩:=HB.out.cells;by_cases h1:m=n
 ·subst h1
  go_wp2_with fail;refine (LM B m d s.vals w1 H1.out.va hm).mono ?_;rintro e2 w2 ⟨rfl,rfl⟩;cases h2:s.vals.all ND.valB with
  | false =>
    rw [h2] at HS;clear h2;go_wp2_with fail;go_ret;exact ⟨Qi (by rw [HS.out,Bool.false_and,Bool.and_false]),B1.out⟩
  | true =>
    rw [h2] at HS;clear h2;by_cases h3:k=0
    ·subst h3
     go_wp2_with fail;go_ret;exact ⟨Qi (by rw [HS.out];simp),B1.out⟩
    ·have hb:=qd1 h3
     have HK:=iQ h3;clear h3;go_wp2_with fail;go_ret;exact ⟨Qi (by rw [HS.out,decide_eq_false HK.out];simp),B1.out⟩
 ·have hb:=zk9 h1
  have HK:=iQ h1;clear h1;go_wp2_with fail;go_ret;exact ⟨Qi (by rw [HS.out,decide_eq_false HK.out,Bool.false_and]),B1.out⟩
theorem UN (lf:Bool) (A:Option Addr) (n c:Nat) (B:Option Addr) (m d:Nat) (C:Option Addr) (k e:Nat) (s:ND) (w:World) (h:Nd w A n c B m d C k e s) (hn:n<=1000000000) (hk:k<=1000000000) :
 Calls Tryz.prog 202 #[.agg #[.bool lf,.slice A n c,.slice B m d,.slice C k e]] w fun e w'=>e = .returned (.bool s.innerB)/\Below w.heap.size w w':=by
 have HB:=iQ (Qp w (.bool lf) (.slice A n c) (.slice B m d) (.slice C k e));have b1:=Qa w (.cells #[.bool lf,.slice A n c,.slice B m d,.slice C k e] 75);have B1:=iQ b1;have H1:=iQ (h.kept b1);have HS:Hid (s.innerB=(decide (0<n) && (decide (k=n+1) && (s.kids.all ND.kidB && decide (m=0))))):=iQ (by unfold ND.innerB;rw [h.kn,h.vn,h.cn]);clear b1 h;go_enter Tryz.func202,Tryz.ntmps202;go_upto_region 1 with fail
 generalize w.alloc (.cells #[.bool lf,.slice A n c,.slice B m d,.slice C k e] 75)=w1 at *;obtain ⟨c0,c1,c2,c3⟩:=HB.out.cells;rcases n with _ | n
 ·go_wp2_with fail
  go_ret;exact ⟨Qi (by rw [HS.out];rfl),B1.out⟩
 ·by_cases h1:k=n+1+1
  ·subst h1
   go_wp2_with fail;refine (FQ C (n+1+1) e s.kids w1 H1.out.ki hk).mono ?_;rintro e2 w2 ⟨rfl,rfl⟩;cases h2:s.kids.all ND.kidB with
   | false =>
     rw [h2] at HS;clear h2;go_wp2_with fail;go_ret;exact ⟨Qi (by rw [HS.out,Bool.false_and,Bool.and_false,Bool.and_false]),B1.out⟩
   | true =>
     rw [h2] at HS;clear h2;by_cases h3:m=0
     ·subst h3
      go_wp2_with fail;go_ret;exact ⟨Qi (by rw [HS.out];simp),B1.out⟩
     ·have hb:=qd1 h3
      have HK:=iQ h3;clear h3;go_wp2_with fail;go_ret;exact ⟨Qi (by rw [HS.out,decide_eq_false HK.out];simp),B1.out⟩
  ·have hb:((k:Int)==(n:Int)+1+1)=false:=by rw [beq_eq_false_iff_ne];omega
   have HK:=iQ h1;clear h1;go_wp2_with fail;go_ret;exact ⟨Qi (by rw [HS.out,decide_eq_false HK.out,Bool.false_and,Bool.and_false]),B1.out⟩
theorem qm0 {s:ND} (h:s.leaf=true):s.checkE=if ND.rise [] s.keys && s.leafB then 0 else 100:=by
 unfold ND.checkE ND.ok;rw [h];rfl
theorem qd5 {s:ND} (h:s.leaf=false):s.checkE=if ND.rise [] s.keys && s.innerB then 0 else 100:=by
 unfold ND.checkE ND.ok;rw [h];rfl
theorem YZ (lf:Bool) (A:Option Addr) (n c:Nat) (B:Option Addr) (m d:Nat) (C:Option Addr) (k e:Nat) (s:ND) (w:World) (h:Nd w A n c B m d C k e s) (hl:s.leaf=lf) (hn:n<=1000000000) (hm:m<=1000000000) (hk:k<=1000000000) :
 Calls Tryz.prog 185 #[.agg #[.bool lf,.slice A n c,.slice B m d,.slice C k e]] w fun e w'=>e = .returned (.int .i64 s.checkE)/\Below w.heap.size w w':=by
 have HB:=iQ (Qp w (.bool lf) (.slice A n c) (.slice B m d) (.slice C k e));have b1:=Qa w (.cells #[.bool lf,.slice A n c,.slice B m d,.slice C k e] 75);have B1:=iQ b1;have H1:=iQ (h.kept b1);clear b1 h;go_enter Tryz.func185,Tryz.ntmps185;go_upto_region 1 with fail
 generalize w.alloc (.cells #[.bool lf,.slice A n c,.slice B m d,.slice C k e] 75)=w1 at *;obtain ⟨c0,c1,c2,c3⟩:=HB.out.cells;cases lf with
 | true =>
   have HE:=iQ (qm0 hl);clear hl;go_wp2_with fail;refine (ZK A n c s.keys w1 H1.out.ke hn).mono ?_;rintro e2 w2 ⟨rfl,rfl⟩;cases h1:ND.rise [] s.keys with
   | false =>
     rw [h1] at HE;clear h1;go_wp2_with fail;go_ret;exact ⟨Zm (by rw [HE.out];rfl),B1.out⟩
   | true =>
     rw [h1] at HE;clear h1;go_wp2_with fail;refine (PD true A n c B m d C k e s w1 H1.out hm).mono ?_;rintro e3 w3 ⟨rfl,b3⟩;have B3:=iQ (B1.out.trans (b3.mono B1.out.size));clear b3;cases h2:s.leafB with
     | false =>
       rw [h2] at HE;clear h2;go_wp2_with fail;go_ret;exact ⟨Zm (by rw [HE.out];rfl),B3.out⟩
     | true =>
       rw [h2] at HE;clear h2;go_wp2_with fail;go_ret;exact ⟨Zm (by rw [HE.out];rfl),B3.out⟩
 | false =>
   have HE:=iQ (qd5 hl);clear hl;go_wp2_with fail;refine (ZK A n c s.keys w1 H1.out.ke hn).mono ?_;rintro e2 w2 ⟨rfl,rfl⟩;cases h1:ND.rise [] s.keys with
   | false =>
     rw [h1] at HE;clear h1;go_wp2_with fail;go_ret;exact ⟨Zm (by rw [HE.out];rfl),B1.out⟩
   | true =>
     rw [h1] at HE;clear h1;go_wp2_with fail;refine (UN false A n c B m d C k e s w1 H1.out hn hk).mono ?_;rintro e3 w3 ⟨rfl,b3⟩;have B3:=iQ (B1.out.trans (b3.mono B1.out.size));clear b3;cases h2:s.innerB with
     | false =>
       rw [h2] at HE;clear h2;go_wp2_with fail;go_ret;exact ⟨Zm (by rw [HE.out];rfl),B3.out⟩
     | true =>
       rw [h2] at HE;clear h2;go_wp2_with fail;go_ret;exact ⟨Zm (by rw [HE.out];rfl),B3.out⟩
theorem qJ1 {l:List (List UInt8)} {k:Nat} {t:List UInt8} (h:l[k]?=some t):ND.tsl (l.take (k+1))=ND.tsl (l.take k)+t.length:=by
 rw [wc2,h,wd0,ND.tsl_append];simp [ND.tsl]
theorem KX (l:List (List UInt8)) (k:Nat):ND.tsl (l.take k)<=ND.tsl l:=by
 conv=>rhs;rw [<- wb7 k l]
 rw [ND.tsl_append];omega
theorem ZX (A:Option Addr) (n c:Nat) (l:List (List UInt8)) (w:World) (h:Ln w 1 A n c (Qd l)) (hz:ND.tsz l<=1000000000) :
 Calls Tryz.prog 104 #[.slice A n c] w fun e w'=>e = .returned (.int .i64 ((ND.tsz l:Nat):Int))/\w=w':=by
 have HN:=iQ h.strN;have hn:n<=1000000000:=by have:=h.strN;unfold ND.tsz at hz;omega
 have hts:ND.tsl l<=1000000000 - n:=by have:=h.strN;unfold ND.tsz at hz;omega
 clear hz;go_enter Tryz.func104,Tryz.ntmps104;go_wp2_with fail;go_loop [3,11] (fun s i=>∃ k q:Nat,k<=n/\i = .int .i64 k/\s = .int .i64 q/\Hid (q=n+ND.tsl (l.take k))/\q<=n+ND.tsl l) (fun _ i=>n - (RowKit.intOf i).toNat)
 case atStart=>exact ⟨0,n,wb3 _,rfl,rfl,iQ (by simp [ND.tsl]),by omega⟩
 case round =>
  obtain ⟨k,q,hk,rfl,rfl,HQ,hq⟩:=hrel;by_cases hlt:k<n
  ·obtain ⟨b,off,s,rfl,hv,c0⟩:=h.sA hlt
   have HT:=iQ (qJ1 hv);have hle:=KX l (k+1);have hq2:q+s.size<=n+ND.tsl l:=by rw [HQ.out];rw [HT.out,Qn] at hle;omega
   clear hv hle;go_wp2_with fail;go_round;case rel=>exact ⟨k+1,q+s.size,by omega,by go_num,by go_num,iQ (by rw [HT.out,HQ.out,Qn];omega),hq2⟩
   case measure=>simp [RowKit.intOf];omega
  ·obtain rfl:n=k:=by omega
   go_wp2_with fail;go_ret;refine ⟨Zm ?_,rfl⟩;rw [HQ.out,wa5 (by rw [HN.out];omega)];unfold ND.tsz;rw [HN.out]
theorem QR (lf:Bool) (A:Option Addr) (n c:Nat) (B:Option Addr) (m d:Nat) (C:Option Addr) (k e:Nat) (s:ND) (w:World) (h:Nd w A n c B m d C k e s) (hz:s.size<=1000000000) :
 Calls Tryz.prog 69 #[.agg #[.bool lf,.slice A n c,.slice B m d,.slice C k e]] w fun e w'=>e = .returned (.int .i64 ((s.size:Nat):Int))/\Below w.heap.size w w':=by
 have HB:=iQ (Qp w (.bool lf) (.slice A n c) (.slice B m d) (.slice C k e));have b1:=Qa w (.cells #[.bool lf,.slice A n c,.slice B m d,.slice C k e] 75);have B1:=iQ b1;have H1:=iQ (h.kept b1);have hs:s.size=2+ND.tsz s.keys+ND.tsz s.vals+4*k:=by rw [<- h.cn];rfl
 have HS:=iQ hs;clear b1;go_enter Tryz.func69,Tryz.ntmps69;go_wp2_with fail;generalize w.alloc (.cells #[.bool lf,.slice A n c,.slice B m d,.slice C k e] 75)=w1 at *;obtain ⟨c0,c1,c2,c3⟩:=HB.out.cells;obtain ⟨p,hp⟩:∃ p,ND.tsz s.keys=p:=⟨_,rfl⟩;obtain ⟨q,hq⟩:∃ q,ND.tsz s.vals=q:=⟨_,rfl⟩;have K:Hid (∀ nn,Calls Tryz.prog 104 #[.slice A n c] (w1.drewN nn) fun e w'=>e = .returned (.int .i64 (p:Int))/\w'=w1.drewN nn):=iQ (by
  intro nn;have:=ZX A n c s.keys (w1.drewN nn) (H1.out.ke.same rfl) (by omega);rw [hp] at this;exact this.mono fun _ _ h=>⟨h.1,h.2.symm⟩)
 have V:Hid (∀ nn,Calls Tryz.prog 104 #[.slice B m d] (w1.drewN nn) fun e w'=>e = .returned (.int .i64 (q:Int))/\w'=w1.drewN nn):=iQ (by
  intro nn;have:=ZX B m d s.vals (w1.drewN nn) (H1.out.va.same rfl) (by omega);rw [hq] at this;exact this.mono fun _ _ h=>⟨h.1,h.2.symm⟩)
 rw [hp,hq] at hs HS;have e1:IntKind.i64.wrap (2+(p:Int))=2+(p:Int):=IntWalk.i64_in _ (by omega);have e2:IntKind.i64.wrap (2+(p:Int)+(q:Int))=2+(p:Int)+(q:Int):=IntWalk.i64_in _ (by omega);have e3:IntKind.i64.wrap (4*(k:Int))=4*(k:Int):=IntWalk.i64_in _ (by omega);have e4:IntKind.i64.wrap (2+(p:Int)+(q:Int)+4*(k:Int))=2+(p:Int)+(q:Int)+4*(k:Int):=IntWalk.i64_in _ (by omega);clear hs hp hq h hz H1;go_quiet ((first | (go_at_call 104;with_reducible exact Calls.quiet_of_same (K.out _)) | (go_at_call 104;with_reducible exact Calls.quiet_of_same (V.out _))))
 go_wp2_with fail;go_ret;refine ⟨Zm ?_,Ya B1.out _⟩;rw [HS.out];omega
theorem qb8 (k:Int) (c:Nat) (h:c=1\/c=256\/c=65536\/c=16777216):k / (c:Int) % 256=((UInt8.ofNat (Yk k / c)).toNat:Int):=by
 rw [Qx];unfold Yk;rcases h with rfl | rfl | rfl | rfl<;>omega
theorem ze5 {d x j:Nat} (hd:d=1\/d=2\/d=4) (hj:j<d):(be d x).take (j+1)=(be d x).take j++[UInt8.ofNat (x / 256 ^ (d - 1 - j))]:=by
 rcases hd with rfl | rfl | rfl
 ·obtain rfl:j=0:=by omega
  simp [be,be4]
 ·have:j=0\/j=1:=by omega
  rcases this with rfl | rfl<;>simp [be,be4]
 ·have:j=0\/j=1\/j=2\/j=3:=by omega
  rcases this with rfl | rfl | rfl | rfl<;>simp [be,be4]
theorem zb0 (k:Int) {d j:Nat} (hd:d=1\/d=2\/d=4) (hj:j<d):k / 2 ^ (8*(d - 1) - 8*j) % 256=((UInt8.ofNat (Yk k / 256 ^ (d - 1 - j))).toNat:Int):=by
 have e0:=qb8 k 1 (by omega);have e1:=qb8 k 256 (by omega);have e2:=qb8 k 65536 (by omega);have e3:=qb8 k 16777216 (by omega);rcases hd with rfl | rfl | rfl
 ·obtain rfl:j=0:=by omega
  exact e0
 ·have:j=0\/j=1:=by omega
  rcases this with rfl | rfl
  ·exact e1
  ·exact e0
 ·have:j=0\/j=1\/j=2\/j=3:=by omega
  rcases this with rfl | rfl | rfl | rfl
  ·exact e3
  ·exact e2
  ·exact e1
  ·exact e0
theorem qc7 (base:Nat) (v:Value) (xs:List UInt8) (k:Int) (d:Nat) (hd:d=1\/d=2\/d=4) (w:World) (hown:Xr w base v xs) (hb:base<=w.heap.size) (hn:xs.length<=1000000) :
 Calls Tryz.prog 189 #[v,.int .i64 k,.int .i64 (d:Int)] w (XB base w (xs++be d (Yk k))):=by
 obtain ⟨i0,hi,hz0,hz1,hz2⟩:=info_parts QX;have HD:=iQ hd;have hd4:d<=4:=by omega
 clear hd;go_enter Tryz.func189,Tryz.ntmps189;go_wp2_with fail;go_loopw [0,7] (fun v s wr=>∃ j:Nat,j<=d/\s = .int .i64 (8*((d:Int) - 1) - 8*(j:Int))/\Xr wr base v (xs++(be d (Yk k)).take j)/\Below base w wr) (fun _ s _=>(RowKit.intOf s+8).toNat)
 case atStart=>exact ⟨0,by omega,by simp,by simpa using hown,Below.refl _ _⟩
 case round =>
  obtain ⟨j,hj,rfl,hown2,b2⟩:=hrel;have hlen:(xs++(be d (Yk k)).take j).length<=xs.length+4:=by
   rw [wa6,wb8];omega
  by_cases hlt:j<d
  ·unfold Xr at hown2
   have hle:(j:Int)<=(d:Int) - 1:=by omega
   go_wp2_with (at_builtin;refine wpList_append_own _ rfl (.tmp 15) (.tmp 20) 109 rfl base 5 i0 (.int .u8 0) 1 1 Tryz.underlying109 hi hz0 hz1 hz2 rfl (by decide) _ _ _ rfl (hown2.alloc _) ⟨wr.heap.size,0,none⟩ 1 1 [_] rfl rfl (cell_one_new _ _ _) (by simp [Value.oneCell']) (by unfold maxLen;omega) (by omega) (by have:=b2.size;simp;omega) ?_;intro v3 w3 hown3 hg3 _);have b3:Below base w w3:=(b2.alloc (by have:=b2.size;omega) _).grown hg3 (by have:=b2.size;simp;omega) (fun g hg=>(hown2.lt g hg).1);clear hg3;go_roundw;case rel =>
    refine ⟨j+1,by omega,by congr 1;omega,?_,b3⟩;rw [ze5 HD.out hlt,<- wb9];exact qO6 (zb0 k HD.out hlt) hown3
   case measure=>simp [RowKit.intOf];omega
  ·obtain rfl:j=d:=by omega
   have hle:(j:Int) - 1<(j:Int):=by omega
   have ht:(be j (Yk k)).take j=be j (Yk k):=wa5 (by rw [Zq _ hd4];omega);rw [ht] at hown2;clear ht;go_wp2_with fail;go_ret;exact ⟨_,rfl,hown2,b2⟩
theorem zb2 (base:Nat) (v:Value) (xs:List UInt8) (k:Int) (w:World) (hown:Xr w base v xs) (hb:base<=w.heap.size) (hn:xs.length<=1000000) :
 Calls Tryz.prog 189 #[v,.int .i64 k,.int .i64 1] w (XB base w (xs++be 1 (Yk k))):=qc7 base v xs k 1 (by omega) w hown hb hn
theorem zb1 (base:Nat) (v:Value) (xs:List UInt8) (k:Int) (w:World) (hown:Xr w base v xs) (hb:base<=w.heap.size) (hn:xs.length<=1000000) :
 Calls Tryz.prog 189 #[v,.int .i64 k,.int .i64 2] w (XB base w (xs++be 2 (Yk k))):=qc7 base v xs k 2 (by omega) w hown hb hn
theorem qi7 (base:Nat) (v:Value) (xs:List UInt8) (k:Int) (w:World) (hown:Xr w base v xs) (hb:base<=w.heap.size) (hn:xs.length<=1000000) :
 Calls Tryz.prog 189 #[v,.int .i64 k,.int .i64 4] w (XB base w (xs++ND.kd k)):=qc7 base v xs k 4 (by omega) w hown hb hn
theorem qf9 (s:ByteArray):Lib.strCells s=bv s.toList:=by
 unfold Lib.strCells bv;rw [Yb]
/-- A text's bytes, behind the number of them. -/
theorem qO5 {w:World} {base:Nat} {v:Value} {xs:List UInt8} {s:ByteArray} {N:Nat} (hN:(xs++be 1 (Yk (s.size:Int))).length=N) (h:w.ownsRow base 5 1 v (N+s.size) (bv (xs++be 1 (Yk (s.size:Int)))++Lib.strCells s)) :
 Xr w base v (xs++ND.tx s.toList):=by
 subst hN;rw [qf9,<- QD] at h;have e:xs++ND.tx s.toList=xs++be 1 (Yk (s.size:Int))++s.toList:=by
  unfold ND.tx;rw [qV4,Qn,wb9];congr 2;apply UInt8.toNat_inj.1;rw [Qx,Qx];unfold Yk;omega
 rw [e];unfold Xr;have e2:(xs++be 1 (Yk (s.size:Int))++s.toList).length=(xs++be 1 (Yk (s.size:Int))).length+s.size:=by
  conv=>lhs;rw [wa6]
  rw [Qn]
 rw [e2];exact h
theorem PV (base:Nat) (v:Value) (xs:List UInt8) (s:ByteArray) (w:World) (hown:Xr w base v xs) (hb:base<=w.heap.size) (hn:xs.length<=1000000) (hs:s.size<=1000000) :
 Calls Tryz.prog 190 #[v,.string s] w (XB base w (xs++ND.tx s.toList)):=by
 obtain ⟨i0,hi,hz0,hz1,hz2⟩:=info_parts QX;have HO:=iQ hown;clear hown;go_enter Tryz.func190,Tryz.ntmps190;go_wp2_with fail;refine (zb2 base v xs (s.size:Int) w HO.out hb hn).mono ?_;rintro e w1 ⟨v1,rfl,o1,b1⟩;have hN:(xs++be 1 (Yk (s.size:Int))).length=xs.length+1:=by rw [wa6,Zq _ (by omega)]
 have HN:=iQ hN;have B1:=iQ b1;have hz:=b1.size;unfold Xr at o1;rw [hN] at o1;clear hN b1;go_wp2_with (at_builtin;refine Lib.wpList_append_own_string _ rfl (.tmp 8) (.tmp 9) 109 9 rfl base 5 i0 Tryz.underlying109 Tryz.underlying9 hi hz0 hz1 hz2 _ _ _ rfl o1 s rfl (by unfold maxLen;omega) (by omega) (by omega) ?_;intro v3 w3 hown3 hg3 _);have O3:=iQ (qO5 HN.out hown3);have B3:=iQ (B1.out.grown hg3 (by omega) (fun g hg=>(o1.lt g hg).1));clear o1 hown3 hg3;go_wp2_with fail;go_ret;exact ⟨_,rfl,O3.out,B3.out⟩
theorem AU:∀ {ks vs:List (List UInt8)} {k:Nat} {a b:List UInt8},ks[k]?=some a->vs[k]?=some b->ND.encL (ks.take (k+1)) (vs.take (k+1))=ND.encL (ks.take k) (vs.take k)++ND.tx a++ND.tx b
 | [],_,_,_,_,h,_=>by simp at h
 | _::_,[],_,_,_,_,h=>by simp at h
 | x::ks,y::vs,0,a,b,h,g=>by
   obtain rfl:x=a:=by simpa using h
   obtain rfl:y=b:=by simpa using g
   simp [ND.encL]
 | x::ks,y::vs,k+1,a,b,h,g=>by
   have:=AU (ks:=ks) (vs:=vs) (k:=k) (by simpa using h) (by simpa using g);rw [we4,we4,ND.encL_cons,this,we4,we4,ND.encL_cons];simp [List.append_assoc]
theorem AP:∀ {ks:List (List UInt8)} {cs:List Int} {k:Nat} {a:List UInt8} {b:Int},ks[k]?=some a->cs[k]?=some b->ND.encI (ks.take (k+1)) (cs.take (k+1))=ND.encI (ks.take k) (cs.take k)++ND.tx a++ND.kd b
 | [],_,_,_,_,h,_=>by simp at h
 | _::_,[],_,_,_,_,h=>by simp at h
 | x::ks,y::vs,0,a,b,h,g=>by
   obtain rfl:x=a:=by simpa using h
   obtain rfl:y=b:=by simpa using g
   simp [ND.encI]
 | x::ks,y::vs,k+1,a,b,h,g=>by
   have:=AP (ks:=ks) (cs:=vs) (k:=k) (by simpa using h) (by simpa using g);rw [we4,we4,ND.encI_cons,this,we4,we4,ND.encI_cons];simp [List.append_assoc]
theorem Hg (l:List (List UInt8)) (k:Nat):ND.tsz (l.take k)<=ND.tsz l:=by
 unfold ND.tsz;have:=KX l k;rw [wb8];omega
def upL (s:ND) (k:Nat):List UInt8:=be 2 s.keys.length++ND.encL (s.keys.take k) (s.vals.take k)
def upI (s:ND) (k:Nat):List UInt8:=be 2 s.keys.length++ND.kd (s.kids.headD 0)++ND.encI (s.keys.take k) ((s.kids.drop 1).take k)
theorem qo4 {s:ND} (ho:s.ok=true) (hl:s.leaf=true) (k:Nat):(upL s k).length<=s.size:=by
 obtain ⟨h1,_,_⟩:=ND.ok_leaf ho hl;have h2:=Hg s.keys k;have h3:=Hg s.vals k;unfold upL;rw [wa6,Zq _ (by omega),ND.encL_length _ _ (by rw [wb8,wb8,h1])];unfold ND.size;omega
theorem qo5 {s:ND} (ho:s.ok=true) (hl:s.leaf=false) (k:Nat):(upI s k).length<=s.size:=by
 obtain ⟨_,h1,_,_⟩:=ND.ok_inner ho hl;have h2:=Hg s.keys k;unfold upI;rw [wa6,wa6,Zq _ (by omega),ND.kd_length,ND.encI_length _ _ (by rw [wb8,wb8,wc9];omega),wb8,wc9];unfold ND.size;omega
theorem qI2 (s:ND):upL s 0=be 2 s.keys.length:=by simp [upL,ND.encL]
theorem qI4 {s:ND} {z:Int} (h:s.kids[0]?=some z):upI s 0=be 2 s.keys.length++ND.kd z:=by
 have:s.kids.headD 0=z:=by cases hs:s.kids with
  | nil=>rw [hs] at h;simp at h
  | cons x l=>rw [hs] at h;simpa using h
 unfold upI;rw [this];simp [ND.encI]
theorem qI3 {s:ND} {k:Nat} {a b:List UInt8} (h:s.keys[k]?=some a) (g:s.vals[k]?=some b):upL s (k+1)=upL s k++ND.tx a++ND.tx b:=by
 unfold upL;rw [AU h g];simp [List.append_assoc]
theorem qI5 {s:ND} {k:Nat} {a:List UInt8} {z:Int} (h:s.keys[k]?=some a) (g:s.kids[k+1]?=some z):upI s (k+1)=upI s k++ND.tx a++ND.kd z:=by
 have g':(s.kids.drop 1)[k]?=some z:=by rw [we8,Nat.add_comm];exact g
 unfold upI;rw [AP h g'];simp [List.append_assoc]
theorem qY7 {s:ND} (ho:s.ok=true) (hl:s.leaf=true):upL s s.keys.length=s.enc:=by
 obtain ⟨h1,_,_⟩:=ND.ok_leaf ho hl;unfold upL ND.enc ND.body;rw [if_pos hl,wf2,<- h1,wf2]
theorem qY8 {s:ND} (ho:s.ok=true) (hl:s.leaf=false):upI s s.keys.length=s.enc:=by
 obtain ⟨_,h1,_,_⟩:=ND.ok_inner ho hl;unfold upI ND.enc ND.body;rw [if_neg (by rw [hl];decide),wf2,wb9];cases hs:s.kids with
 | nil=>rw [hs] at h1;simp at h1
 | cons x l =>
   rw [hs] at h1;dsimp only [List.headD,List.drop];rw [wa5 (by simp at h1;omega)]
theorem PX {s:ND} {k:Nat} {a:ByteArray} (ho:s.ok=true) (h:s.keys[k]?=some a.toList):a.size<=1000000:=by
 have:=ND.ok_keys ho _ (wb5 h);rw [Qn] at this;omega
theorem qq9 {s:ND} {k:Nat} {a:ByteArray} (ho:s.ok=true) (h:s.vals[k]?=some a.toList):a.size<=1000000:=by
 have:=ND.ok_vals ho _ (wb5 h);rw [Qn] at this;omega
theorem ze7 {n:Nat} (h:n<=1000000):be 2 (Yk (n:Int))=be 2 n:=by
 rw [show Yk (n:Int)=n by unfold Yk;omega]
theorem qP2 {w:World} {base base':Nat} {v:Value} {l:List UInt8} (h:Xr w base v l) (hb:base'<=base):Xr w base' v l:=by
 unfold Xr at h ⊢;refine ⟨h.1,?_⟩;rcases h.2 with ⟨h1,h2⟩ | ⟨g,cap,cur,h1,h2,h3⟩
 ·exact Or.inl ⟨h1,h2⟩
 ·exact Or.inr ⟨g,cap,cur,h1,by omega,h3⟩
theorem XN {a w:World} {p:Addr} {v:Value} (hb:Below a.heap.size a w) (h:a.cell? p=some v):w.cell? p=some v:=(hb.cell (World.block_lt_of_cell? _ _ h)).trans h
def TZ (w:World) (s:ND) (e:Ending) (w':World):Prop :=
 ∃ v,e = .returned (.tuple #[.int .i64 s.encK,v,.int .i64 s.encE])/\Xr w' w.heap.size v s.encB/\Below w.heap.size w w'
theorem qP9 {w w':World} {s:ND} (h:s.ok=false) (hb:Below w.heap.size w w'):TZ w s (.returned (.tuple #[.int .i64 0,.slice none 0 0,.int .i64 100])) w':=by
 have e1:s.encE=100:=if_neg (by rw [h];decide);have hf:s.fits=false:=by unfold ND.fits;rw [h];rfl
 have e2:s.encK=0:=if_neg (by rw [hf];decide);have e3:s.encB=[]:=if_neg (by rw [hf];decide);exact ⟨_,by rw [e1,e2],by rw [e3];exact Xp _ _,hb⟩
theorem qP8 {w w':World} {s:ND} (h:s.ok=true) (hz:¬ s.size<=1000) (hb:Below w.heap.size w w'):TZ w s (.returned (.tuple #[.int .i64 0,.slice none 0 0,.int .i64 101])) w':=by
 have e1:s.encE=101:=by unfold ND.encE;rw [if_pos h,if_neg hz]
 have hf:s.fits=false:=by unfold ND.fits;rw [h,decide_eq_false hz];rfl
 have e2:s.encK=0:=if_neg (by rw [hf];decide);have e3:s.encB=[]:=if_neg (by rw [hf];decide);exact ⟨_,by rw [e1,e2],by rw [e3];exact Xp _ _,hb⟩
theorem CQ {w w':World} {s:ND} {v:Value} {base:Nat} (h:s.ok=true) (hz:s.size<=1000) (ho:Xr w' base v s.enc) (hle:w.heap.size<=base) (hb:Below w.heap.size w w') :
 TZ w s (.returned (.tuple #[.int .i64 (if s.leaf then 2 else 3),v,.int .i64 0])) w':=by
 have e1:=ND.encE_fits h hz;exact ⟨v,by rw [e1,ND.encK_of e1],by rw [ND.encB_of e1];exact qP2 ho hle,hb⟩
theorem Hu {s:ND} (h:s.ok=true):s.checkE=0:=if_pos h
theorem YQ {s:ND} (h:s.ok=false):s.checkE=100:=if_neg (by rw [h];decide)
theorem qi4 (lf:Bool) (A:Option Addr) (n c:Nat) (B:Option Addr) (m d:Nat) (C:Option Addr) (k e:Nat) (s:ND) (w:World) (h:Nd w A n c B m d C k e s) (hl:s.leaf=lf) (hz:s.size<=1000000) :
 Calls Tryz.prog 177 #[.agg #[.bool lf,.slice A n c,.slice B m d,.slice C k e]] w (TZ w s):=by
 have HB:=iQ (Qp w (.bool lf) (.slice A n c) (.slice B m d) (.slice C k e));have b1:=Qa w (.cells #[.bool lf,.slice A n c,.slice B m d,.slice C k e] 75);have B1:=iQ b1;have H1:=iQ (h.kept b1);have hn:n<=1000000:=by have:=h.kn;unfold ND.size ND.tsz at hz;omega
 have hm:m<=1000000:=by have:=h.vn;unfold ND.size ND.tsz at hz;omega
 have hk:k<=1000000:=by have:=h.cn;unfold ND.size ND.tsz at hz;omega
 have HKN:=iQ h.kn;have HVN:=iQ h.vn;have HCN:=iQ h.cn;have HL:=iQ hl;clear b1 h hl;go_enter Tryz.func177,Tryz.ntmps177;go_upto_region 1 with fail
 generalize w.alloc (.cells #[.bool lf,.slice A n c,.slice B m d,.slice C k e] 75)=w1 at *;obtain ⟨c0,c1,c2,c3⟩:=HB.out.cells;go_wp2_with fail;refine (YZ lf A n c B m d C k e s w1 H1.out HL.out (by omega) (by omega) (by omega)).mono ?_;rintro e2 w2 ⟨rfl,b2⟩;have B2:=iQ (B1.out.trans (b2.mono B1.out.size));have HB2:=iQ (HB.out.kept b2);have H2:=iQ (H1.out.kept b2);clear b2 c0 c1 c2 c3 HB H1;obtain ⟨c0,c1,c2,c3⟩:=HB2.out.cells;cases hk:s.ok with
 | false =>
   rw [YQ hk];have HE:=iQ (qP9 hk B2.out);clear hk;go_wp2_with fail
   go_ret3
   exact HE.out
 | true =>
   rw [Hu hk];have HO:=iQ hk;clear hk;go_wp2_with fail;refine (QR lf A n c B m d C k e s w2 H2.out (by omega)).mono ?_;rintro e3 w3 ⟨rfl,b3⟩;have B3:=iQ (B2.out.trans (b3.mono B2.out.size));have HB3:=iQ (HB2.out.kept b3);have H3:=iQ (H2.out.kept b3);clear b3 c0 c1 c2 c3 HB2 H2;obtain ⟨c0,c1,c2,c3⟩:=HB3.out.cells;by_cases hbig:s.size<=1000;case neg =>
    have HE:=iQ (qP8 HO.out hbig B3.out);have hb:1000<s.size:=(by omega);go_wp2_with fail
    go_ret3
    exact HE.out
   have HBig:=iQ hbig;have Bs:=B3.out.size;go_wp2_with fail;refine (zb1 w3.heap.size (.slice none 0 0) [] (n:Int) w3 (Xp _ _) (wa2 _) (by simp)).mono ?_;rintro e4 w4 ⟨v4,rfl,o4,b4⟩;rw [we0,ze7 hn,<- HKN.out] at o4;have O4:=iQ o4;have B4:=iQ b4;clear o4 b4 c0 c1 c2 c3;obtain ⟨c0,c1,c2,c3⟩:=(HB3.out.kept B4.out).cells;cases lf with
   | true =>
     have hu:=fun j=>qo4 HO.out HL.out j;have HU:=iQ hu;have HA:=iQ (qY7 HO.out HL.out);have hmn:m=n:=by have:=(ND.ok_leaf HO.out HL.out).1;rw [HVN.out,HKN.out] at this;exact this
     subst hmn;clear hu;go_wp2_with fail;go_loopw [6,28] (fun v i wr=>∃ j:Nat,j<=m/\i = .int .i64 j/\Hid (Xr wr w3.heap.size v (upL s j))/\Hid (Below w3.heap.size w3 wr)) (fun _ i _=>m - (RowKit.intOf i).toNat)
     case atStart=>exact ⟨0,wb3 _,rfl,iQ (by rw [qI2];exact O4.out),B4⟩
     case round =>
      obtain ⟨j,hj,rfl,HOj,HBj⟩:=hrel;clear c0 c1 c2 c3;obtain ⟨c0,c1,c2,c3⟩:=(HB3.out.kept HBj.out).cells;by_cases hlt:j<m
      ·obtain ⟨b,off,s1,rfl,hv,f3⟩:=H3.out.ke.sA hlt
       obtain ⟨b',off',s2,rfl,hv',g3⟩:=H3.out.va.sA hlt;have HN:=iQ (qI3 hv hv');have z1:=PX HO.out hv;have z2:=qq9 HO.out hv';have z3:=HU.out j;have z4:s1.size<=120:=by have:=ND.ok_keys HO.out _ (wb5 hv);rw [Qn] at this;exact this
       have HG:=iQ g3;have f0:=XN HBj.out f3;clear hv hv' f3 g3;go_wp2_with fail;refine (PV w3.heap.size _ (upL s j) s1 _ HOj.out HBj.out.size (by omega) z1).mono ?_;rintro e5 w5 ⟨v5,rfl,o5,b5⟩;have O5:=iQ o5;have B5:=iQ (HBj.out.trans b5);have hz5:(upL s j++ND.tx s1.toList).length<=1200:=by rw [wa6,ND.tx_length,Qn];omega
       clear o5 b5 c0 c1 c2 c3 f0;obtain ⟨c0,c1,c2,c3⟩:=(HB3.out.kept B5.out).cells;have g0:=XN B5.out HG.out;go_wp2_with fail;refine (PV w3.heap.size _ _ s2 _ O5.out B5.out.size (by omega) z2).mono ?_;rintro e6 w6 ⟨v6,rfl,o6,b6⟩;rw [<- HN.out] at o6;have O6:=iQ o6;have B6:=iQ (B5.out.trans b6);clear o6 b6 c0 c1 c2 c3 g0;go_wp2_with fail;go_roundw;case rel=>exact ⟨j+1,by omega,by go_num,O6,B6⟩
       case measure=>simp [RowKit.intOf];omega
      ·obtain rfl:m=j:=by omega
       have o5:=HOj.out;rw [<- HKN.out,HA.out] at o5;have HE:=iQ (CQ HO.out HBig.out o5 Bs (B3.out.trans (HBj.out.mono Bs)));rw [HL.out] at HE;clear o5;go_wp2_with fail
       go_ret3
       exact HE.out
   | false =>
     have hu:=fun j=>qo5 HO.out HL.out j;have HU:=iQ hu;have HA:=iQ (qY8 HO.out HL.out);have hkn:k=n+1:=by have:=(ND.ok_inner HO.out HL.out).2.1;rw [HKN.out,HCN.out] at this;exact this
     subst hkn;clear hu;obtain ⟨bk,ok,z,rfl,hv0,f3⟩:=H3.out.ki.iA (k:=0) (by omega);rw [wg1] at f3;have HZ:=iQ (qI4 hv0);have q0:=XN B4.out f3;clear hv0 f3;go_wp2_with fail;refine (qi7 w3.heap.size _ _ z _ O4.out B4.out.size (by rw [Zq _ (by omega)];omega)).mono ?_;rintro e5 w5 ⟨v5,rfl,o5,b5⟩;rw [<- HZ.out] at o5;have O5:=iQ o5;have B5:=iQ (B4.out.trans b5);clear o5 b5 c0 c1 c2 c3 q0;obtain ⟨c0,c1,c2,c3⟩:=(HB3.out.kept B5.out).cells;go_wp2_with fail;go_loopw [6,54] (fun v i wr=>∃ j:Nat,j<=n/\i = .int .i64 j/\Hid (Xr wr w3.heap.size v (upI s j))/\Hid (Below w3.heap.size w3 wr)) (fun _ i _=>n - (RowKit.intOf i).toNat)
     case atStart=>exact ⟨0,wb3 _,rfl,O5,B5⟩
     case round =>
      obtain ⟨j,hj,rfl,HOj,HBj⟩:=hrel;clear c0 c1 c2 c3;obtain ⟨c0,c1,c2,c3⟩:=(HB3.out.kept HBj.out).cells;by_cases hlt:j<n
      ·obtain ⟨b,off,s1,rfl,hv,f3⟩:=H3.out.ke.sA hlt
       obtain ⟨b',off',z2,hA,hv',g3⟩:=H3.out.ki.iA (k:=j+1) (by omega);obtain ⟨rfl,rfl⟩:bk=b'/\ok=off':=by
        have:=wa0 hA;injection this with h1 h2
        exact ⟨h1,h2⟩
       have HN:=iQ (qI5 hv hv');have z1:=PX HO.out hv;have z3:=HU.out j;have z4:s1.size<=120:=by have:=ND.ok_keys HO.out _ (wb5 hv);rw [Qn] at this;exact this
       have HG:=iQ g3;have f0:=XN HBj.out f3;clear hv hv' f3 g3 hA;go_wp2_with fail;refine (PV w3.heap.size _ (upI s j) s1 _ HOj.out HBj.out.size (by omega) z1).mono ?_;rintro e6 w6 ⟨v6,rfl,o6,b6⟩;have O6:=iQ o6;have B6:=iQ (HBj.out.trans b6);have hz5:(upI s j++ND.tx s1.toList).length<=1200:=by rw [wa6,ND.tx_length,Qn];omega
       clear o6 b6 c0 c1 c2 c3 f0;obtain ⟨c0,c1,c2,c3⟩:=(HB3.out.kept B6.out).cells;have g0:=XN B6.out HG.out;go_wp2_with fail;refine (qi7 w3.heap.size _ _ z2 _ O6.out B6.out.size (by omega)).mono ?_;rintro e7 w7 ⟨v7,rfl,o7,b7⟩;rw [<- HN.out] at o7;have O7:=iQ o7;have B7:=iQ (B6.out.trans b7);clear o7 b7 c0 c1 c2 c3 g0;go_wp2_with fail;go_roundw;case rel=>exact ⟨j+1,by omega,by go_num,O7,B7⟩
       case measure=>simp [RowKit.intOf];omega
      ·obtain rfl:n=j:=by omega
       have o5:=HOj.out;rw [<- HKN.out,HA.out] at o5;have HE:=iQ (CQ HO.out HBig.out o5 Bs (B3.out.trans (HBj.out.mono Bs)));rw [HL.out] at HE;clear o5;go_wp2_with fail
       go_ret3
       exact HE.out
theorem Jg {w:World} {base base' sz n:Nat} {e:TypeId} {v:Value} {xs:List Value} (h:w.ownsRow base e sz v n xs) (hb:base'<=base):w.ownsRow base' e sz v n xs:=by
 refine ⟨h.1,?_⟩;rcases h.2 with h0 | ⟨g,cap,cur,e1,e2,e3⟩
 ·exact Or.inl h0
 ·exact Or.inr ⟨g,cap,cur,e1,wa9 hb e2,e3⟩
theorem YD {cs:List Value} (h:∀ u∈cs,u.oneCell'=true) (k:Nat):∀ u∈cs.take k,u.oneCell'=true:=fun u hu=>h u (wf0 hu)
theorem YC {cs:List Value} (h:∀ u∈cs,u.oneCell'=true) (k:Nat):∀ u∈cs.drop k,u.oneCell'=true:=fun u hu=>h u (wf5 hu)
theorem Xa (p:Pc):QT [p]=p.cs:=by simp [QT]
theorem XV (p q:Pc):QT [p,q]=p.cs++q.cs:=by simp [QT]
theorem Gw (p q r:Pc):QT [p,q,r]=p.cs++q.cs++r.cs:=by simp [QT]
def qz5 (w:World) (t:TypeId) (n m:Nat) (cs ds:List Value) (e:Ending) (w':World):Prop :=
 ∃ v u,e = .returned (.tuple #[v,u])/\w'.ownsRow w.heap.size t 1 v n cs/\w'.ownsRow w.heap.size t 1 u m ds/\Below w.heap.size w w'
def Ul (w:World) (g:Nat) (s:ByteArray):Prop:=w.heap[g]?=some (.cells #[.string s] 9 (0,0))
theorem Ul.lt {w:World} {g:Nat} {s:ByteArray} (h:Ul w g s):g<w.heap.size:=(wa1.1 h).1
theorem Ul.kept {w w':World} {g:Nat} {s:ByteArray} (h:Ul w g s) (hb:Below w.heap.size w w'):Ul w' g s:=(hb.block g h.lt).trans h
theorem Ul.cell {w:World} {g:Nat} {s:ByteArray} (h:Ul w g s):w.cell? ⟨g,0,none⟩=some (.string s):=(cell_of_row w g 0 _ _ _ h).trans rfl
theorem qS8 (a b:List UInt8):(!Op.bytesLess a b && !a==b)=Op.bytesLess b a:=by
 rcases Yv a b with h | h | h
 ·rw [h]
  cases hb:Op.bytesLess b a with
  | false=>rfl
  | true=>have:=Qq a b a h hb;rw [Yh] at this;cases this
 ·subst h
  rw [Yh];simp
 ·rw [h]
  have h1:Op.bytesLess a b=false:=by
   cases hb:Op.bytesLess a b with
   | false=>rfl
   | true=>have:=Qq a b a hb h;rw [Yh] at this;cases this
  have h2:(a==b)=false:=by
   rw [beq_eq_false_iff_ne];rintro rfl;rw [Yh] at h;cases h
  rw [h1,h2];rfl
theorem LU (g h:Nat) (A:Option Addr) (n c:Nat) (l:List (List UInt8)) (key:ByteArray) (i:Nat) (p:Bool) (w:World) (c1:w.cell? ⟨g,1,none⟩=some (.slice A n c)) (ck:w.cell? ⟨h,0,none⟩=some (.string key)) (hl:Ln w 1 A n c (Qd l)) (hi:i<n)
 (hp:∀ t,l[i]?=some t->p = !Op.bytesLess t key.toList) :
 Calls Tryz.prog 89 #[.int .i64 i,.pointer (some ⟨g,0,none⟩),.pointer (some ⟨h,0,none⟩)] w fun e w'=>e = .returned (.bool p)/\Below w.heap.size w w':=by
 obtain ⟨b,off,s,rfl,hv,c0⟩:=hl.sA hi;have HP:=iQ (hp _ hv);clear hp hv hl;go_enter Tryz.func89,Tryz.ntmps89;go_wp2_with fail;go_quiet (fail)
 go_wp2_with fail;go_ret;exact ⟨Qi HP.out.symm,Ya (Below.refl _ _) _⟩
theorem qu6 (g h:Nat) (A:Option Addr) (n c:Nat) (l:List (List UInt8)) (key:ByteArray) (i:Nat) (p:Bool) (w:World) (c1:w.cell? ⟨g,1,none⟩=some (.slice A n c)) (ck:w.cell? ⟨h,0,none⟩=some (.string key)) (hl:Ln w 1 A n c (Qd l)) (hi:i<n)
 (hp:∀ t,l[i]?=some t->p=Op.bytesLess key.toList t) :
 Calls Tryz.prog 156 #[.int .i64 i,.pointer (some ⟨g,0,none⟩),.pointer (some ⟨h,0,none⟩)] w fun e w'=>e = .returned (.bool p)/\Below w.heap.size w w':=by
 obtain ⟨b,off,s,rfl,hv,c0⟩:=hl.sA hi;have HP:=iQ (hp _ hv);clear hp hv hl;go_enter Tryz.func156,Tryz.ntmps156;go_wp2_with fail;go_quiet (fail)
 go_wp2_with fail;go_ret;exact ⟨Qi (by rw [HP.out];exact qS8 _ _),Ya (Below.refl _ _) _⟩
def zg5 (w:World) (n:Nat) (p:Nat->Bool) (e:Ending) (w':World):Prop:=∃ r:Nat,e = .returned (.int .i64 r)/\r<=n/\(∀ i,i<r->p i=false)/\(∀ i,r<=i->i<n->p i=true)/\Below w.heap.size w w'
theorem RQ (f:Nat) (x y:Value) (n:Nat) (p:Nat->Bool) (w:World) (hn:n<=1000000)
 (hmono:∀ i j,i<=j->j<n->p i=true->p j=true)
 (eg:∀ args w,(callFunc f args).run Tryz.prog w = .ok (.enter f args) w)
 (hf:∀ (i:Nat) (wx:World),i<n->Below w.heap.size w wx->Calls Tryz.prog f #[.int .i64 i,x,y] wx fun e w'=>e = .returned (.bool (p i))/\Below wx.heap.size wx w') :
 Calls Tryz.prog 90 #[.int .i64 n,.func (.func f) #[] #[x,y]] w (zg5 w n p):=by
 have HM:=iQ hmono;have HF:=iQ hf;clear hmono hf;go_enter Tryz.func90,Tryz.ntmps90;go_wp2_with fail;obtain ⟨wo,rfl⟩:∃ wo:World,wo=w:=⟨_,rfl⟩;go_loopw [5,6] (fun s5 s6 wr=>∃ lo hi:Nat,lo<=hi/\hi<=n/\s5 = .int .i64 lo/\s6 = .int .i64 hi/\Hid (∀ i,i<lo->p i=false)/\Hid (∀ i,hi<=i->i<n->p i=true)/\Hid (Below wo.heap.size wo wr)) (fun s5 s6 _=>(RowKit.intOf s6).toNat - (RowKit.intOf s5).toNat)
 case atStart=>exact ⟨0,n,by omega,by omega,rfl,rfl,iQ (fun i hi=>absurd hi (by omega)),iQ (fun i h1 h2=>absurd h2 (by omega)),iQ (Below.refl _ _)⟩
 case round =>
  obtain ⟨lo,hi,h1,h2,rfl,rfl,HA,HZ,HB⟩:=hrel;by_cases hlt:lo<hi
  ·have hc:=HF.out ((lo+hi) / 2) wr (by omega) HB.out
   have em:(((lo+hi) / 2:Nat):Int)=((lo:Int)+(hi:Int)) / 2:=by omega
   rw [em] at hc;have HC:=iQ hc;clear hc em;go_wp2_with fail;refine HC.out.mono ?_;rintro e w1 ⟨rfl,b1⟩;have B1:=iQ (Qe b1 HB.out);clear b1 HC HB;cases hp:p ((lo+hi) / 2) with
   | false =>
     have HP:=iQ hp;clear hp;go_wp2_with fail;go_roundw;case rel=>exact ⟨(lo+hi) / 2+1,hi,by omega,h2,by first | go_num | (simp;omega),rfl,iQ (fun i hj=>by
      cases hq:p i with
      | false=>rfl
      | true=>have:=HM.out i ((lo+hi) / 2) (by omega) (by omega) hq;rw [HP.out] at this;cases this),HZ,B1⟩
     case measure=>simp [RowKit.intOf];omega
   | true =>
     have HP:=iQ hp;clear hp;go_wp2_with fail;go_roundw;case rel=>exact ⟨lo,(lo+hi) / 2,by omega,by omega,rfl,by first | go_num | (simp;omega),HA,iQ (fun i h3 h4=>HM.out ((lo+hi) / 2) i h3 h4 HP.out),B1⟩
     case measure=>simp [RowKit.intOf];omega
  ·obtain rfl:lo=hi:=by omega
   go_wp2_with fail;go_ret;exact ⟨lo,rfl,h2,HA.out,HZ.out,HB.out⟩
theorem Ud {l:List (List UInt8)} {i:Nat} {t:List UInt8} (h:l[i]?=some t):l.getD i []=t:=by
 rw [wa7,h];rfl
theorem GM {l:List (List UInt8)} {i:Nat} (h:i<l.length):l[i]?=some (l.getD i []):=by
 rw [wa7,wb1 h];rfl
theorem qD6 {l:List (List UInt8)} {key:List UInt8} {n:Nat} (hl:l.length=n) (hr:ND.rise [] l=true) (i j:Nat) (hij:i<=j) (hj:j<n) (h:(!Op.bytesLess (l.getD i []) key)=true):(!Op.bytesLess (l.getD j []) key)=true:=by
 rcases we1 i j with h1 | h1
 ·cases hb:Op.bytesLess (l.getD j []) key with
  | false=>rfl
  | true =>
    have:=Qq _ _ _ (ND.rise_pair [] l hr i j _ _ h1 (GM (by omega)) (GM (by omega))) hb;rw [this] at h;cases h
 ·obtain rfl:i=j:=by omega
  exact h
theorem qQ2 {l:List (List UInt8)} {key:List UInt8} {n:Nat} (hl:l.length=n) (hr:ND.rise [] l=true) (i j:Nat) (hij:i<=j) (hj:j<n) (h:Op.bytesLess key (l.getD i [])=true):Op.bytesLess key (l.getD j [])=true:=by
 rcases we1 i j with h1 | h1
 ·exact Qq _ _ _ h (ND.rise_pair [] l hr i j _ _ h1 (GM (by omega)) (GM (by omega)))
 ·obtain rfl:i=j:=by omega
  exact h
/-- The argument's block, and the key's. -/
theorem zh7 (w:World) (x y z p:Value) (key:ByteArray):Qs ((w.alloc (.cells #[x,y,z,p] 75)).alloc (.cells #[.string key] 9)) w.heap.size x y z p /\
 Ul ((w.alloc (.cells #[x,y,z,p] 75)).alloc (.cells #[.string key] 9)) (w.heap.size+1) key/\Below w.heap.size w ((w.alloc (.cells #[x,y,z,p] 75)).alloc (.cells #[.string key] 9)):=by
 refine ⟨(Qp w x y z p).kept (Qa _ _),?_,Zp _ _ _⟩;have h:Ul ((w.alloc (.cells #[x,y,z,p] 75)).alloc (.cells #[.string key] 9)) (w.alloc (.cells #[x,y,z,p] 75)).heap.size key:=heap_alloc_new _ _;rw [show (w.alloc (.cells #[x,y,z,p] 75)).heap.size=w.heap.size+1 by simp] at h;exact h
def qm6 (w:World) (r:Nat) (is:Bool) (e:Ending) (w':World):Prop:=e = .returned (.tuple #[.int .i64 r,.bool is])/\Below w.heap.size w w'
theorem NM (lf:Bool) (A:Option Addr) (n c:Nat) (B:Option Addr) (m d:Nat) (C:Option Addr) (k e:Nat) (s:ND) (key:ByteArray) (w:World) (h:Nd w A n c B m d C k e s) (hr:ND.rise [] s.keys=true) (hn:n<=1000000) :
 Calls Tryz.prog 56 #[.agg #[.bool lf,.slice A n c,.slice B m d,.slice C k e],.string key] w (qm6 w (ND.findN key.toList s.keys) (ND.isAt key.toList s.keys)):=by
 obtain ⟨Vh,tb2,Xm⟩:=zh7 w (.bool lf) (.slice A n c) (.slice B m d) (.slice C k e) key;have HS:=iQ (h.kept Xm);have HB:=iQ Vh;have HK:=iQ tb2;have B0:=iQ Xm;have HN:=iQ h.kn;have HR:=iQ hr;have eg:∀ args w,(callFunc 89 args).run Tryz.prog w = .ok (.enter 89 args) w:=enters_of Tryz.func89 (by kernel_rfl) rfl;clear h hr Vh tb2 Xm;go_enter Tryz.func56,Tryz.ntmps56;go_upto_region 1 with fail
 generalize (w.alloc (.cells #[.bool lf,.slice A n c,.slice B m d,.slice C k e] 75)).alloc (.cells #[.string key] 9)=w0 at *;obtain ⟨c0,c1,c2,c3⟩:=HB.out.cells;go_wp2_with fail;refine (RQ 89 (.pointer (some ⟨w.heap.size,0,none⟩)) (.pointer (some ⟨w.heap.size+1,0,none⟩)) n (fun i => !Op.bytesLess (s.keys.getD i []) key.toList) w0 hn
  (fun i j h1 h2 h3=>qD6 HN.out HR.out i j h1 h2 h3) eg
  (fun i wx hi hb=>LU _ _ A n c s.keys key i _ wx (HB.out.kept hb).cells.2.1 (HK.out.kept hb).cell (HS.out.ke.kept hb) hi (fun t ht=>by simp only [Ud ht]))).mono ?_
 rintro e1 w1 ⟨r,rfl,hrn,hr1,hr2,b1⟩;have hE:r=ND.findN key.toList s.keys:=ND.findN_of (by rw [HN.out];exact hrn) (fun i t hi ht=>by have:=hr1 i hi;simp only [Ud ht] at this;simpa using this)
  (fun t ht=>by have hlt:=(wa8.1 ht).1;have:=hr2 r (wa2 _) (by rw [<- HN.out];exact hlt);simp only [Ud ht] at this;simpa using this)
 have HE:=iQ hE;have B1:=iQ (Qe b1 B0.out);have HB1:=iQ (HB.out.kept b1);have LZ:=iQ (HK.out.kept b1);have Xl:=iQ (HS.out.kept b1);clear hr1 hr2 b1 eg c0 c1 c2 c3 hE;obtain ⟨c0,c1,c2,c3⟩:=HB1.out.cells;have ck:=LZ.out.cell;by_cases hlt:r<n
 ·obtain ⟨b,off,t,rfl,hv,f0⟩:=Xl.out.ke.sA hlt
  have HV:=iQ hv;have hd:decide ((r:Int)<(n:Int))=true:=decide_eq_true (by omega);clear hv;go_wp2_with fail;go_quiet (fail)
  go_wp2_with fail;go_ret2;refine ⟨?_,Ya B1.out _⟩;rw [<- HE.out];have e1:ND.isAt key.toList s.keys=(t.toList==key.toList):=by
   unfold ND.isAt;rw [<- HE.out,HV.out];rw [Bool.eq_iff_iff];simp
  rw [e1];rfl
 ·have hd:decide ((r:Int)<(n:Int))=false:=decide_eq_false (by omega)
  have e1:Hid (ND.isAt key.toList s.keys=false):=iQ (ND.isAt_end (by rw [<- HE.out,HN.out];exact hlt));go_wp2_with fail;go_quiet (fail)
  go_wp2_with fail;go_ret2;refine ⟨?_,Ya B1.out _⟩;rw [<- HE.out,e1.out];rfl
theorem zb8 (lf:Bool) (A:Option Addr) (n c:Nat) (B:Option Addr) (m d:Nat) (C:Option Addr) (k e:Nat) (s:ND) (key:ByteArray) (w:World) (h:Nd w A n c B m d C k e s) (hr:ND.rise [] s.keys=true) (hn:n<=1000000) :
 Calls Tryz.prog 130 #[.agg #[.bool lf,.slice A n c,.slice B m d,.slice C k e],.string key] w fun e w'=>e = .returned (.int .i64 ((ND.kidN key.toList s.keys:Nat):Int))/\Below w.heap.size w w':=by
 obtain ⟨Vh,tb2,Xm⟩:=zh7 w (.bool lf) (.slice A n c) (.slice B m d) (.slice C k e) key;have HS:=iQ (h.kept Xm);have HB:=iQ Vh;have HK:=iQ tb2;have B0:=iQ Xm;have HN:=iQ h.kn;have HR:=iQ hr;have eg:∀ args w,(callFunc 156 args).run Tryz.prog w = .ok (.enter 156 args) w:=enters_of Tryz.func156 (by kernel_rfl) rfl;clear h hr Vh tb2 Xm;go_enter Tryz.func130,Tryz.ntmps130;go_upto_region 1 with fail
 generalize (w.alloc (.cells #[.bool lf,.slice A n c,.slice B m d,.slice C k e] 75)).alloc (.cells #[.string key] 9)=w0 at *;obtain ⟨c0,c1,c2,c3⟩:=HB.out.cells;go_wp2_with fail;refine (RQ 156 (.pointer (some ⟨w.heap.size,0,none⟩)) (.pointer (some ⟨w.heap.size+1,0,none⟩)) n (fun i=>Op.bytesLess key.toList (s.keys.getD i [])) w0 hn
  (fun i j h1 h2 h3=>qQ2 HN.out HR.out i j h1 h2 h3) eg
  (fun i wx hi hb=>qu6 _ _ A n c s.keys key i _ wx (HB.out.kept hb).cells.2.1 (HK.out.kept hb).cell (HS.out.ke.kept hb) hi (fun t ht=>by simp only [Ud ht]))).mono ?_
 rintro e1 w1 ⟨r,rfl,hrn,hr1,hr2,b1⟩;have HE:Hid (r=ND.kidN key.toList s.keys):=iQ (ND.kidN_of (by rw [HN.out];exact hrn) (fun i t hi ht=>by have:=hr1 i hi;simp only [Ud ht] at this;exact this)
  (fun t ht=>by have hlt:=(wa8.1 ht).1;have:=hr2 r (wa2 _) (by rw [<- HN.out];exact hlt);simp only [Ud ht] at this;exact this))
 have B1:=iQ (Qe b1 B0.out);clear hr1 hr2 b1 eg c0 c1 c2 c3;go_wp2_with fail;go_ret;exact ⟨by rw [HE.out];rfl,B1.out⟩
theorem ql3 (lf:Bool) (A:Option Addr) (n c:Nat) (B:Option Addr) (m d:Nat) (C:Option Addr) (k e:Nat) (s:ND) (w:World) (h:Nd w A n c B m d C k e s) (hz:s.size<=1000000000) :
 Calls Tryz.prog 68 #[.agg #[.bool lf,.slice A n c,.slice B m d,.slice C k e]] w fun e w'=>e = .returned (.bool (decide (s.size<=1000)))/\Below w.heap.size w w':=by
 have HB:=iQ (Qp w (.bool lf) (.slice A n c) (.slice B m d) (.slice C k e));have b1:=Qa w (.cells #[.bool lf,.slice A n c,.slice B m d,.slice C k e] 75);have B1:=iQ b1;have H1:=iQ (h.kept b1);have HZ:=iQ hz;clear b1 h hz;go_enter Tryz.func68,Tryz.ntmps68;go_upto_region 1 with fail
 generalize w.alloc (.cells #[.bool lf,.slice A n c,.slice B m d,.slice C k e] 75)=w1 at *;obtain ⟨c0,c1,c2,c3⟩:=HB.out.cells;go_wp2_with fail;refine (QR lf A n c B m d C k e s w1 H1.out HZ.out).mono ?_;rintro e1 w2 ⟨rfl,b2⟩;have B2:=iQ (Qe b2 B1.out);clear b2;go_wp2_with fail;go_ret;exact ⟨Qi (by rw [Bool.eq_iff_iff];simp;omega),B2.out⟩
theorem zb5 (lf:Bool) (A:Option Addr) (n c:Nat) (B:Option Addr) (m d:Nat) (C:Option Addr) (k e:Nat) (s:ND) (w:World) (h:Nd w A n c B m d C k e s) (hz:s.size<=1000000000) :
 Calls Tryz.prog 136 #[.agg #[.bool lf,.slice A n c,.slice B m d,.slice C k e]] w fun e w'=>e = .returned (.bool (decide (s.size<300)))/\Below w.heap.size w w':=by
 have HB:=iQ (Qp w (.bool lf) (.slice A n c) (.slice B m d) (.slice C k e));have b1:=Qa w (.cells #[.bool lf,.slice A n c,.slice B m d,.slice C k e] 75);have B1:=iQ b1;have H1:=iQ (h.kept b1);have HZ:=iQ hz;clear b1 h hz;go_enter Tryz.func136,Tryz.ntmps136;go_upto_region 1 with fail
 generalize w.alloc (.cells #[.bool lf,.slice A n c,.slice B m d,.slice C k e] 75)=w1 at *;obtain ⟨c0,c1,c2,c3⟩:=HB.out.cells;go_wp2_with fail;refine (QR lf A n c B m d C k e s w1 H1.out HZ.out).mono ?_;rintro e1 w2 ⟨rfl,b2⟩;have B2:=iQ (Qe b2 B1.out);clear b2;go_wp2_with fail;go_ret;exact ⟨Qi (by rw [Bool.eq_iff_iff];simp;omega),B2.out⟩
def Uc (A:Option Addr) (c k:Nat):Option Addr:=if c=k then A else A.map (·.add k)
theorem XZ {w:World} {A:Option Addr} {n c:Nat} {cs:List Value} (h:Ln w 1 A n c cs) {k:Nat} (hk:k<=n):Ln w 1 (Uc A c k) (n - k) (c - k) (cs.drop k):=by
 have hle:=h.le;have hlen:=h.len;rcases A with _ | ad
 ·obtain ⟨rfl,rfl⟩:=h.lies.1 rfl
  obtain rfl:k=0:=by omega
  simpa [Uc] using h
 ·by_cases hn0:n=k
  ·subst hn0
   have e:cs.drop n=[]:=wc6 (by omega);rw [e,wf1];refine ⟨by simp,wb3 _,fun e=>?_,fun ad _ j u hu=>by simp at hu⟩;unfold Uc at e;split at e<;>simp at e
  ·have hc:¬ c=k:=by omega
   obtain ⟨b,off,e,_⟩:=h.spot (by omega);obtain rfl:=wa0 e;have:=h.drop hk;rw [wg0] at this;unfold Uc;rw [if_neg hc,Option.map_some,Zn];exact this
section
variable {P:Program} (t:TypeId) (ht:P.underlying t=some (.slice (P.elem t))) (hs:∀ w,(sizeOf (P.elem t)).run P w = .ok 1 w)
include ht hs
theorem qw9 {n c k:Nat} (A:Option Addr) (hk:k<=n) (w:World):(Instr.slice t (.slice A n c) (some (.int .i64 (k:Int))) none none).run P w = .ok (.slice (Uc A c k) (n - k) (c - k)) w:=by
 rw [run_slice_l (P:=P) (w:=w) t A n c ht .i64 (k:Int) (by omega) (by omega),hs];simp [Result.andThen,sliced,Uc]
theorem qw8 {n c k:Nat} (A:Option Addr) (hk:k<=n) (hc:n<=c) (w:World):(Instr.slice t (.slice A n c) none (some (.int .i64 (k:Int))) none).run P w = .ok (.slice A k c) w:=by
 rw [run_slice_h (P:=P) (w:=w) t A n c ht .i64 (k:Int) (by omega) (by omega),hs];by_cases h0:c=0
 ·subst h0
  simp [Result.andThen,sliced]
 ·simp [Result.andThen,sliced,h0]
  cases A with
  | none=>rfl
  | some ad =>
    obtain ⟨b,off,sp⟩:=ad;cases sp<;>simp [Addr.add]
end
theorem sz_S:∀ w,(sizeOf (Tryz.prog.elem 48)).run Tryz.prog w = .ok 1 w:=fun w=>by kernel_rfl
theorem sz_I:∀ w,(sizeOf (Tryz.prog.elem 40)).run Tryz.prog w = .ok 1 w:=fun w=>by kernel_rfl
theorem qs8 {n c k:Nat} (A:Option Addr) (hk:k<=n) (w:World):(Instr.slice 48 (.slice A n c) (some (.int .i64 (k:Int))) none none).run Tryz.prog w = .ok (.slice (Uc A c k) (n - k) (c - k)) w:=qw9 _ Tryz.underlying48 sz_S A hk w
theorem zc5 {n c k:Nat} (A:Option Addr) (hk:k+1<=n) (w:World):(Instr.slice 48 (.slice A n c) (some (.int .i64 ((k:Int)+1))) none none).run Tryz.prog w = .ok (.slice (Uc A c (k+1)) (n - (k+1)) (c - (k+1))) w:=qs8 A hk w
theorem qo3 {n c k:Nat} (A:Option Addr) (hk:k<=n) (hc:n<=c) (w:World):(Instr.slice 48 (.slice A n c) none (some (.int .i64 (k:Int))) none).run Tryz.prog w = .ok (.slice A k c) w:=qw8 _ Tryz.underlying48 sz_S A hk hc w
theorem zm0 {n c k:Nat} (A:Option Addr) (hk:k<=n) (w:World):(Instr.slice 40 (.slice A n c) (some (.int .i64 (k:Int))) none none).run Tryz.prog w = .ok (.slice (Uc A c k) (n - k) (c - k)) w:=qw9 _ Tryz.underlying40 sz_I A hk w
theorem zj3 {n c k:Nat} (A:Option Addr) (hk:k<=n) (hc:n<=c) (w:World):(Instr.slice 40 (.slice A n c) none (some (.int .i64 (k:Int))) none).run Tryz.prog w = .ok (.slice A k c) w:=qw8 _ Tryz.underlying40 sz_I A hk hc w
theorem zm3:(Tryz.prog.info? 9).map (fun i=>(i.zero,i.size,i.bytes))=some (some (.string ⟨#[]⟩),1,16):=by kernel_rfl
theorem Xd (A:Option Addr) (n c N:Nat) (ps:List Pc) (w:World) (hp:YU w 1 A ps) (hn:ps.length=n) (hN:Xn ps=N) (hb:N<=1000000) (hm:n<=1000000) :
 Calls Tryz.prog 126 #[.slice A n c] w (Vl w 9 1 N (QT ps)):=by
 obtain ⟨i0,hi,hz0,hz1,hz2⟩:=info_parts zm3;have HP:=iQ hp;have HL:=iQ hn;have HT:=iQ hN;clear hp hn hN;go_enter Tryz.func126,Tryz.ntmps126;go_wp2_with fail;obtain ⟨wo,rfl⟩:∃ wo:World,wo=w:=⟨_,rfl⟩;go_loopw [3,8] (fun v i wk=>∃ k:Nat,k<=n/\i = .int .i64 k/\Hid (wk.ownsRow wo.heap.size 9 1 v (Xn (ps.take k)) (QT (ps.take k)))/\Hid (Below wo.heap.size wo wk)) (fun _ i _=>n - (RowKit.intOf i).toNat)
 case atStart=>exact ⟨0,wb3 _,rfl,iQ (World.ownsRow_nil _ _ _ _),iQ (Below.refl _ _)⟩
 case round =>
  obtain ⟨k,hk,rfl,O1,B1⟩:=hrel;by_cases hlt:k<n
  ·obtain ⟨b,off,p,rfl,hv,c0,hp1,hp2⟩:=(HP.out.kept B1.out).at_ (k:=k) (by rw [HL.out];exact hlt)
   have hle:=JS ps (k+1);rw [Yx hv,HT.out] at hle;have HV:=iQ (Yx hv);have TJ:=iQ (YM hv);have YT:=iQ hp1;have HP2:=iQ hp2;clear hv hp1 hp2;have bs:=B1.out.size;have o1:=O1.out;generalize Xn (ps.take k)=t at *;go_wp2_with (at_builtin;refine Qo _ rfl (.tmp 12) (.tmp 13) 48 rfl wo.heap.size 9 i0 (.string ⟨#[]⟩) 1 16 Tryz.underlying48 hi hz0 hz1 hz2 rfl (by decide) _ _ _ rfl o1 p.A p.n p.c p.cs rfl YT.out.len YT.out.lies HP2.out (by unfold maxLen;omega) (by omega) bs ?_;intro v3 w3 hown3 hg3);have O3:Hid (w3.ownsRow wo.heap.size 9 1 v3 (Xn (ps.take (k+1))) (QT (ps.take (k+1)))):=by
    rw [HV.out,TJ.out];exact iQ hown3
   have B3:Hid (Below wo.heap.size wo w3):=iQ (B1.out.grown hg3 bs (fun g hg=>(o1.lt g hg).1));clear hown3 hg3 o1 O1 B1 HV TJ YT HP2;go_roundw;case rel=>exact ⟨k+1,by omega,by go_num,O3,B3⟩
   case measure=>simp [RowKit.intOf];omega
  ·obtain rfl:n=k:=by omega
   have e1:Xn (ps.take n)=N:=by rw [wa5 (by rw [HL.out];omega),HT.out]
   have e2:ps.take n=ps:=wa5 (by rw [HL.out];omega);rw [e1,e2] at O1;clear e1 e2;go_wp2_with fail;go_ret;exact ⟨_,rfl,O1.out,B1.out⟩
theorem qt4 (A:Option Addr) (n c k m:Nat) (w:World) (hm:min k n=m) (hc:n<=c) :
 Calls Tryz.prog 128 #[.slice A n c,.int .i64 k] w fun e w'=>e = .returned (.tuple #[.slice A m c,.slice (Uc A c m) (n - m) (c - m)])/\Below w.heap.size w w':=by
 have hmn:m<=n:=by omega
 have HU:=iQ (fun w=>qo3 (n:=n) (c:=c) (k:=m) A hmn hc w);have HD:=iQ (fun w=>qs8 (n:=n) (c:=c) (k:=m) A hmn w);rcases we1 n k with h1 | h1
 rotate_left
 ·obtain rfl:k=m:=by omega
  clear hm hmn;go_enter Tryz.func128,Tryz.ntmps128;go_wp2_with fail;have e1:=HU.out;have e2:=HD.out;go_quiet (fail)
  go_wp2_with fail;go_ret2;exact ⟨rfl,Ya (Below.refl _ _) _⟩
 ·obtain rfl:n=m:=by omega
  clear hm hmn;go_enter Tryz.func128,Tryz.ntmps128;go_wp2_with fail;have e1:=HU.out;have e2:=HD.out;go_quiet (fail)
  go_wp2_with fail;go_ret2;exact ⟨by rw [wf1];rfl,Ya (Below.refl _ _) _⟩
theorem AZ (A:Option Addr) (n c k m:Nat) (cs:List Value) (w:World) (h:Ln w 1 A n c cs) (h1:∀ u∈cs,u.oneCell'=true) (hm:min k n=m) (hn:n<=1000000) :
 Calls Tryz.prog 174 #[.slice A n c,.int .i64 k] w (qz5 w 9 m (n - m) (cs.take m) (cs.drop m)):=by
 have hc:=h.le;have hmn:m<=n:=by omega
 have HL:=iQ h;have H1:=iQ h1;have HT:Hid (Ln w 1 A m c (cs.take m)):=iQ (by have:=h.take hmn;rw [wg0] at this;exact this);have HD:=iQ (XZ h hmn);have HM:=iQ hm;clear h h1 hm;go_enter Tryz.func174,Tryz.ntmps174;go_wp2_with fail;refine (qt4 A n c k m w HM.out hc).mono ?_;rintro e w1 ⟨rfl,b1⟩;have B1:=iQ b1;clear b1;go_wp2_with fail;refine (Xd _ 1 1 m _ _ (Za (HT.out.kept B1.out) (YD H1.out m) 48) rfl (by simp [Xn]) (by omega) (by decide)).mono ?_;rintro e w2 ⟨v2,rfl,o2,b2⟩;have B2:=iQ (Qe (Qe b2 (Qa w1 _)) B1.out);rw [Xa] at o2;have O2:=iQ (Jg o2 (show w.heap.size<=_ by have:=B1.out.size;simp;omega));clear o2 b2;go_wp2_with fail;refine (Xd _ 1 1 (n - m) _ _ (Za (HD.out.kept B2.out) (YC H1.out m) 48) rfl (by simp [Xn]) (by omega) (by decide)).mono ?_;rintro e w3 ⟨v3,rfl,o3,b3⟩;have B3:=iQ (Qe b3 (Qa w2 _));rw [Xa] at o3;have O3:=iQ (Jg o3 (show w.heap.size<=_ by have:=B2.out.size;simp;omega));have O2':=iQ (Us O2.out B3.out);clear o3 b3 O2;go_wp2_with fail;go_ret2;exact ⟨_,_,rfl,O2'.out,O3.out,Qe B3.out B2.out⟩
theorem Xk (A:Option Addr) (n c:Nat) (cs:List Value) (f t:Nat) (B:Option Addr) (m d:Nat) (ds:List Value) (w:World) (h:Ln w 1 A n c cs) (h1:∀ u∈cs,u.oneCell'=true) (g:Ln w 1 B m d ds) (g1:∀ u∈ds,u.oneCell'=true)
 (hft:f<=t) (ht:t<=n) (hn:n<=300000) (hm:m<=300000) :
 Calls Tryz.prog 92 #[.slice A n c,.int .i64 f,.int .i64 t,.slice B m d] w (Vl w 9 1 (f+m+(n - t)) (ND.rep cs f t ds)):=by
 have hc:=h.le;have hf1:min f n=f:=by omega
 have ht1:min t n=t:=by omega
 have HL:=iQ h;have H1:=iQ h1;have HG:=iQ g;have G1:=iQ g1;have HT:Hid (Ln w 1 A f c (cs.take f)):=iQ (by have:=h.take (k:=f) (by omega);rw [wg0] at this;exact this);have HD:=iQ (XZ h ht);have HF1:=iQ hf1;have HT1:=iQ ht1;clear h h1 g g1 hf1 ht1;go_enter Tryz.func92,Tryz.ntmps92;go_wp2_with fail;refine (qt4 A n c f f w HF1.out hc).mono ?_;rintro e w1 ⟨rfl,b1⟩;have B1:=iQ b1;clear b1;go_wp2_with fail;refine (qt4 A n c t t w1 HT1.out hc).mono ?_;rintro e w2 ⟨rfl,b2⟩;have B2:=iQ (Qe b2 B1.out);clear b2;go_wp2_with fail;refine (Xd _ 3 3 (f+m+(n - t)) _ _ (Gt (HT.out.kept B2.out) (YD H1.out f) (HG.out.kept B2.out) G1.out (HD.out.kept B2.out) (YC H1.out t) 48) rfl (by simp [Xn];omega) (by omega) (by decide)).mono ?_;rintro e w3 ⟨v3,rfl,o3,b3⟩;rw [Gw] at o3;have O3:=iQ (Jg o3 (show w.heap.size<=_ by have:=B2.out.size;simp;omega));have B3:=iQ (Qe (Qe b3 (Qa w2 _)) B2.out);clear o3 b3;go_wp2_with fail;go_ret;exact ⟨_,rfl,O3.out,B3.out⟩
theorem zm4:(Tryz.prog.info? 3).map (fun i=>(i.zero,i.size,i.bytes))=some (some (.int .i64 0),1,8):=by kernel_rfl
theorem QM (A:Option Addr) (n c N:Nat) (ps:List Pc) (w:World) (hp:YU w 1 A ps) (hn:ps.length=n) (hN:Xn ps=N) (hb:N<=1000000) (hm:n<=1000000) :
 Calls Tryz.prog 127 #[.slice A n c] w (Vl w 3 1 N (QT ps)):=by
 obtain ⟨i0,hi,hz0,hz1,hz2⟩:=info_parts zm4;have HP:=iQ hp;have HL:=iQ hn;have HT:=iQ hN;clear hp hn hN;go_enter Tryz.func127,Tryz.ntmps127;go_wp2_with fail;obtain ⟨wo,rfl⟩:∃ wo:World,wo=w:=⟨_,rfl⟩;go_loopw [3,8] (fun v i wk=>∃ k:Nat,k<=n/\i = .int .i64 k/\Hid (wk.ownsRow wo.heap.size 3 1 v (Xn (ps.take k)) (QT (ps.take k)))/\Hid (Below wo.heap.size wo wk)) (fun _ i _=>n - (RowKit.intOf i).toNat)
 case atStart=>exact ⟨0,wb3 _,rfl,iQ (World.ownsRow_nil _ _ _ _),iQ (Below.refl _ _)⟩
 case round =>
  obtain ⟨k,hk,rfl,O1,B1⟩:=hrel;by_cases hlt:k<n
  ·obtain ⟨b,off,p,rfl,hv,c0,hp1,hp2⟩:=(HP.out.kept B1.out).at_ (k:=k) (by rw [HL.out];exact hlt)
   have hle:=JS ps (k+1);rw [Yx hv,HT.out] at hle;have HV:=iQ (Yx hv);have TJ:=iQ (YM hv);have YT:=iQ hp1;have HP2:=iQ hp2;clear hv hp1 hp2;have bs:=B1.out.size;have o1:=O1.out;generalize Xn (ps.take k)=t at *;go_wp2_with (at_builtin;refine Qo _ rfl (.tmp 12) (.tmp 13) 40 rfl wo.heap.size 3 i0 (.int .i64 0) 1 8 Tryz.underlying40 hi hz0 hz1 hz2 rfl (by decide) _ _ _ rfl o1 p.A p.n p.c p.cs rfl YT.out.len YT.out.lies HP2.out (by unfold maxLen;omega) (by omega) bs ?_;intro v3 w3 hown3 hg3);have O3:Hid (w3.ownsRow wo.heap.size 3 1 v3 (Xn (ps.take (k+1))) (QT (ps.take (k+1)))):=by
    rw [HV.out,TJ.out];exact iQ hown3
   have B3:Hid (Below wo.heap.size wo w3):=iQ (B1.out.grown hg3 bs (fun g hg=>(o1.lt g hg).1));clear hown3 hg3 o1 O1 B1 HV TJ YT HP2;go_roundw;case rel=>exact ⟨k+1,by omega,by go_num,O3,B3⟩
   case measure=>simp [RowKit.intOf];omega
  ·obtain rfl:n=k:=by omega
   have e1:Xn (ps.take n)=N:=by rw [wa5 (by rw [HL.out];omega),HT.out]
   have e2:ps.take n=ps:=wa5 (by rw [HL.out];omega);rw [e1,e2] at O1;clear e1 e2;go_wp2_with fail;go_ret;exact ⟨_,rfl,O1.out,B1.out⟩
theorem qt5 (A:Option Addr) (n c k m:Nat) (w:World) (hm:min k n=m) (hc:n<=c) :
 Calls Tryz.prog 180 #[.slice A n c,.int .i64 k] w fun e w'=>e = .returned (.tuple #[.slice A m c,.slice (Uc A c m) (n - m) (c - m)])/\Below w.heap.size w w':=by
 have hmn:m<=n:=by omega
 have HU:=iQ (fun w=>zj3 (n:=n) (c:=c) (k:=m) A hmn hc w);have HD:=iQ (fun w=>zm0 (n:=n) (c:=c) (k:=m) A hmn w);rcases we1 n k with h1 | h1
 rotate_left
 ·obtain rfl:k=m:=by omega
  clear hm hmn;go_enter Tryz.func180,Tryz.ntmps180;go_wp2_with fail;have e1:=HU.out;have e2:=HD.out;go_quiet (fail)
  go_wp2_with fail;go_ret2;exact ⟨rfl,Ya (Below.refl _ _) _⟩
 ·obtain rfl:n=m:=by omega
  clear hm hmn;go_enter Tryz.func180,Tryz.ntmps180;go_wp2_with fail;have e1:=HU.out;have e2:=HD.out;go_quiet (fail)
  go_wp2_with fail;go_ret2;exact ⟨by rw [wf1];rfl,Ya (Below.refl _ _) _⟩
theorem AY (A:Option Addr) (n c k m:Nat) (cs:List Value) (w:World) (h:Ln w 1 A n c cs) (h1:∀ u∈cs,u.oneCell'=true) (hm:min k n=m) (hn:n<=1000000) :
 Calls Tryz.prog 175 #[.slice A n c,.int .i64 k] w (qz5 w 3 m (n - m) (cs.take m) (cs.drop m)):=by
 have hc:=h.le;have hmn:m<=n:=by omega
 have HL:=iQ h;have H1:=iQ h1;have HT:Hid (Ln w 1 A m c (cs.take m)):=iQ (by have:=h.take hmn;rw [wg0] at this;exact this);have HD:=iQ (XZ h hmn);have HM:=iQ hm;clear h h1 hm;go_enter Tryz.func175,Tryz.ntmps175;go_wp2_with fail;refine (qt5 A n c k m w HM.out hc).mono ?_;rintro e w1 ⟨rfl,b1⟩;have B1:=iQ b1;clear b1;go_wp2_with fail;refine (QM _ 1 1 m _ _ (Za (HT.out.kept B1.out) (YD H1.out m) 40) rfl (by simp [Xn]) (by omega) (by decide)).mono ?_;rintro e w2 ⟨v2,rfl,o2,b2⟩;have B2:=iQ (Qe (Qe b2 (Qa w1 _)) B1.out);rw [Xa] at o2;have O2:=iQ (Jg o2 (show w.heap.size<=_ by have:=B1.out.size;simp;omega));clear o2 b2;go_wp2_with fail;refine (QM _ 1 1 (n - m) _ _ (Za (HD.out.kept B2.out) (YC H1.out m) 40) rfl (by simp [Xn]) (by omega) (by decide)).mono ?_;rintro e w3 ⟨v3,rfl,o3,b3⟩;have B3:=iQ (Qe b3 (Qa w2 _));rw [Xa] at o3;have O3:=iQ (Jg o3 (show w.heap.size<=_ by have:=B2.out.size;simp;omega));have O2':=iQ (Us O2.out B3.out);clear o3 b3 O2;go_wp2_with fail;go_ret2;exact ⟨_,_,rfl,O2'.out,O3.out,Qe B3.out B2.out⟩
theorem ql6 (A:Option Addr) (n c:Nat) (cs:List Value) (f t:Nat) (B:Option Addr) (m d:Nat) (ds:List Value) (w:World) (h:Ln w 1 A n c cs) (h1:∀ u∈cs,u.oneCell'=true) (g:Ln w 1 B m d ds) (g1:∀ u∈ds,u.oneCell'=true)
 (hft:f<=t) (ht:t<=n) (hn:n<=300000) (hm:m<=300000) :
 Calls Tryz.prog 164 #[.slice A n c,.int .i64 f,.int .i64 t,.slice B m d] w (Vl w 3 1 (f+m+(n - t)) (ND.rep cs f t ds)):=by
 have hc:=h.le;have hf1:min f n=f:=by omega
 have ht1:min t n=t:=by omega
 have HL:=iQ h;have H1:=iQ h1;have HG:=iQ g;have G1:=iQ g1;have HT:Hid (Ln w 1 A f c (cs.take f)):=iQ (by have:=h.take (k:=f) (by omega);rw [wg0] at this;exact this);have HD:=iQ (XZ h ht);have HF1:=iQ hf1;have HT1:=iQ ht1;clear h h1 g g1 hf1 ht1;go_enter Tryz.func164,Tryz.ntmps164;go_wp2_with fail;refine (qt5 A n c f f w HF1.out hc).mono ?_;rintro e w1 ⟨rfl,b1⟩;have B1:=iQ b1;clear b1;go_wp2_with fail;refine (qt5 A n c t t w1 HT1.out hc).mono ?_;rintro e w2 ⟨rfl,b2⟩;have B2:=iQ (Qe b2 B1.out);clear b2;go_wp2_with fail;refine (QM _ 3 3 (f+m+(n - t)) _ _ (Gt (HT.out.kept B2.out) (YD H1.out f) (HG.out.kept B2.out) G1.out (HD.out.kept B2.out) (YC H1.out t) 40) rfl (by simp [Xn];omega) (by omega) (by decide)).mono ?_;rintro e w3 ⟨v3,rfl,o3,b3⟩;rw [Gw] at o3;have O3:=iQ (Jg o3 (show w.heap.size<=_ by have:=B2.out.size;simp;omega));have B3:=iQ (Qe (Qe b3 (Qa w2 _)) B2.out);clear o3 b3;go_wp2_with fail;go_ret;exact ⟨_,rfl,O3.out,B3.out⟩
end
section
section
variable {P:Program} {ops:Array Oper} {Q:Exit->Act->World->Prop} {md:Region.Mode}
def KF (listed:Array Bool) (j:Nat):Bool:=listed.getD j false
theorem qc9 {listed:Array Bool} {i:Nat} (hi:i<listed.size) (j:Nat):KF (listed.setIfInBounds i true) j=(decide (j=i) || KF listed j):=by
 unfold KF;by_cases h:i=j
 ·subst h
  simp [hi]
 ·rw [getD_set_ne false h]
  have:¬ j=i:=fun e=>h e.symm;simp [this]
theorem AQ {p q:Nat->Bool} (h:∀ j,q j=true->p j=true):∀ l:List Nat,(l.filter q).length<=(l.filter p).length
 | []=>wa2 _
 | x::l=>by
   have ih:=AQ h l;cases hq:q x with
   | true=>simp [hq,h x hq];exact ih
   | false =>
     cases hp:p x with
     | true=>simp [hq,hp];omega
     | false=>simp [hq,hp];exact ih
theorem BL {p q:Nat->Bool} (h:∀ j,q j=true->p j=true) {i:Nat} (hp:p i=true) (hq:q i=false):∀ l:List Nat,i∈l->(l.filter q).length<(l.filter p).length
 | [],h=>by cases h
 | x::l,hm=>by
   rcases wb6.1 hm with e | hm
   ·subst e
    have:=AQ h l;simp [hp,hq];omega
   ·have ih:=BL h hp hq l hm
    cases hq':q x with
    | true=>simp [hq',h x hq'];exact ih
    | false =>
      cases hp':p x with
      | true=>simp [hq',hp'];omega
      | false=>simp [hq',hp'];exact ih
theorem qj1 (n j:Nat):KF (Array.replicate n false) j=false:=by
 unfold KF;by_cases h:j<n<;>simp [h]
end
end
section
open Go.RowKit
section
variable {P:Program} {ops:Array Oper} {Q:Exit->Act->World->Prop}
def apart (ops:Array Oper) (n:Nat):Bool :=
 ((List.range ops.size).all fun i=>match (ops[i]?).bind (·.dst) with
   | none=>true
   | some d=>decide (d<n)) &&
 ((List.range ops.size).all fun i=>(List.range ops.size).all fun j=>decide (i=j) || (match (ops[i]?).bind (·.dst),(ops[j]?).bind (·.dst) with
   | some d,some e=>decide (d≠e)
   | _,_=>true))
def qu1 (ops:Array Oper) (cut:Nat):Bool :=
 (List.range ops.size).all fun i=>decide (i<cut) || (List.range cut).all fun j=>((ops[i]?).map fun o=>o.after.any fun e=>decide (e.on=j) && Region.binds .any e).getD false
def qp2 (ops:Array Oper) (j:Nat):Bool:=(List.range ops.size).all fun i=>match (ops[i]?).bind (·.dst) with
 | none=>true
 | some d=>decide (d≠j)
def qb6 (ops:Array Oper):Bool:=(List.range ops.size).all fun j=>((ops[j]?).map fun o=>o.after.all fun e => !Region.binds .any e || decide (e.on<j)).getD true
theorem qg9 (h:qb6 ops=true) {j:Nat} {o:Oper} (ho:ops[j]?=some o) {e:Edge} (he:e∈o.after) (hb:Region.binds .any e=true):e.on<j:=by
 have hlt:j<ops.size:=(wa1.1 ho).1;have h1:=wd4.1 h j (wd6.2 hlt);rw [ho] at h1;simp only [Option.map_some,Option.getD_some] at h1;have h2:=Array.all_eq_true_iff_forall_mem.1 h1 e he;rw [hb] at h2;simpa using h2
theorem qG7 (hu:qb6 ops=true) {listed:Array Bool} (hl:listed.size=ops.size) (hr:Region.ready .any ops listed=[]):∀ j,j<ops.size->KF listed j=true:=by
 intro j
 induction j using Nat.strongRecOn with
 | ind j ih =>
   intro hj;cases hc:KF listed j with
   | true=>rfl
   | false =>
     exfalso;have ho:ops[j]?=some ops[j]:=Array.getElem?_eq_getElem hj;have hm:j∈Region.ready .any ops listed:=by
      refine mem_ready.2 ⟨?_,ops[j],ho,fun e he hb=>?_⟩
      ·unfold KF at hc
       have hjl:j<listed.size:=(by omega);simp only [Array.getD_eq_getD_getElem?,Array.getElem?_eq_getElem hjl,Option.getD_some] at hc ⊢;exact hc
      ·have:=qg9 hu ho he hb
       exact ih e.on this (by omega)
     rw [hr] at hm;cases hm
theorem qV8 {n:Nat} (h:apart ops n=true) {i d:Nat} {o:Oper} (ho:ops[i]?=some o) (hd:o.dst=some d):d<n:=by
 unfold apart at h;rw [wc1] at h;have hi:i<ops.size:=(wa1.1 ho).1;have h1:=wd4.1 h.1 i (wd6.2 hi);rw [ho,wg6,hd] at h1;simpa using h1
theorem qV7 {n:Nat} (h:apart ops n=true) {i j d e:Nat} {o u:Oper} (ho:ops[i]?=some o) (hd:o.dst=some d) (hu:ops[j]?=some u) (he:u.dst=some e) (hne:i≠j):d≠e:=by
 unfold apart at h;rw [wc1] at h;have hi:i<ops.size:=(wa1.1 ho).1;have hj:j<ops.size:=(wa1.1 hu).1;have h1:=wd4.1 (wd4.1 h.2 i (wd6.2 hi)) j (wd6.2 hj);rw [ho,hu,wg6,wg6,hd,he] at h1;rcases (Bool.or_eq_true _ _).mp h1 with h1 | h1
 ·exact absurd (of_decide_eq_true h1) hne
 ·exact of_decide_eq_true h1
theorem qB8 {j:Nat} (h:qp2 ops j=true) {i d:Nat} {o:Oper} (ho:ops[i]?=some o) (hd:o.dst=some d):d≠j:=by
 have hi:i<ops.size:=(wa1.1 ho).1;have h1:=wd4.1 h i (wd6.2 hi);rw [ho,wg6,hd] at h1;exact of_decide_eq_true h1
theorem ql9 {cut:Nat} (h:qu1 ops cut=true) {i j:Nat} {o:Oper} (ho:ops[i]?=some o) (hc:¬ i<cut) (hj:j<cut):∃ e∈o.after,e.on=j/\Region.binds .any e=true:=by
 have hi:i<ops.size:=(wa1.1 ho).1;have h1:=wd4.1 h i (wd6.2 hi);rw [decide_eq_false hc,Bool.false_or] at h1;have h2:=wd4.1 h1 j (wd6.2 hj);rw [ho] at h2;simp only [Option.map_some,Option.getD_some] at h2;obtain ⟨e,he,hb⟩:=Array.any_eq_true'.1 h2;rw [wc1] at hb;exact ⟨e,he,of_decide_eq_true hb.1,hb.2⟩
theorem qh5 {a:Act} {d:Nat} (v:Value) (h:d<a.tmps.size):(a.put (some d) v).eval (.tmp d)=v:=by
 unfold Act.put Act.eval;simp [h]
theorem KP {a:Act} {d j:Nat} (v:Value) (h:d≠j):(a.put (some d) v).eval (.tmp j)=a.eval (.tmp j):=by
 unfold Act.put Act.eval;simp [Array.getElem?_setIfInBounds_ne h]
structure ZY (ops:Array Oper) (cut:Nat) (a0:Act) (w0:World) (F:Nat->Value->World->Prop) (L:Nat->Bool) (a:Act) (w:World):Prop where
 sz:a.tmps.size=a0.tmps.size
 df:a.defers=a0.defers
 old:∀ j,qp2 ops j=true->a.eval (.tmp j)=a0.eval (.tmp j)
 below:Below w0.heap.size w0 w
 got:∀ i o d,ops[i]?=some o->i<cut->L i=true->o.dst=some d->F i (a.eval (.tmp d)) w
 tail:∀ i,cut<=i->L i=false
theorem ZY.gd {cut:Nat} {a0 a:Act} {w0 w:World} {F:Nat->Value->World->Prop} {L:Nat->Bool} {u o:Oper} {d:Nat} (h:ZY ops cut a0 w0 F L a w) (i:Nat) (ho:ops[i]? = some o) (hd:∀ e∈u.after,Region.binds .any e=true->L e.on=true) (hq:o.dst=some d) (hi:i<cut:=by decide) (hm:(⟨i,.data⟩:Edge)∈u.after:=by simp):F i (a.eval (.tmp d)) w:=h.got i o d ho hi (hd ⟨i,.data⟩ hm rfl) hq
theorem ZY.ext {cut:Nat} {a0 a:Act} {w0 w:World} {F:Nat->Value->World->Prop} {L L':Nat->Bool} (h:ZY ops cut a0 w0 F L a w) (e:∀ j,L j=L' j):ZY ops cut a0 w0 F L' a w :=
 ⟨h.sz,h.df,h.old,h.below,fun i o d ho hi hl hd=>h.got i o d ho hi (by rw [e];exact hl) hd,fun i hi=>by rw [<- e];exact h.tail i hi⟩
theorem ZY.step {cut:Nat} {a0 a:Act} {w0 w w':World} {F:Nat->Value->World->Prop} {L:Nat->Bool} {i d:Nat} {o:Oper} {v:Value}
 (h:ZY ops cut a0 w0 F L a w) (hap:apart ops a0.tmps.size=true) (hF:∀ i v w w',F i v w->Below w.heap.size w w'->F i v w')
 (hi:i<cut) (ho:ops[i]?=some o) (hd:o.dst=some d) (hv:F i v w') (hb:Below w.heap.size w w') :
 ZY ops cut a0 w0 F (fun j=>decide (j=i) || L j) (a.put (some d) v) w':=by
 have hlt:d<a.tmps.size:=by rw [h.sz];exact qV8 hap ho hd
 refine ⟨by rw [<- h.sz];simp [Act.put],h.df,fun j hj=>?_,h.below.trans (hb.mono h.below.size),fun k u e hk hc hl he=>?_,fun j hj=>?_⟩
 ·rw [KP v (qB8 hj ho hd)]
  exact h.old j hj
 ·by_cases hki:k=i
  ·subst hki
   obtain rfl:o=u:=by rw [ho] at hk;exact wa0 hk
   obtain rfl:d=e:=by rw [hd] at he;exact wa0 he
   rw [qh5 v hlt];exact hv
  ·rw [KP v (qV7 hap ho hd hk he (fun x=>hki x.symm))]
   refine hF k _ w w' (h.got k u e hk hc ?_ he) hb;simpa [hki] using hl
 ·rw [h.tail j hj]
  have:¬ j=i:=by omega
  simp [this]
def qw3 (cut:Nat) (listed:Array Bool):Nat:=((List.range cut).filter fun j => !KF listed j).length
def VU (n cut:Nat):Array Bool:=((List.range n).map fun i=>decide (i<cut)).toArray
theorem qn4 {cut tl:Nat} {a0:Act} {w0:World} (F:Nat->Value->World->Prop) (hsz:ops.size=cut+tl) (hu:qb6 ops=true) (hap:apart ops a0.tmps.size=true) (hcl:qu1 ops cut=true)
 (hF:∀ i v w w',F i v w->Below w.heap.size w w'->F i v w')
 (hstep:∀ i o L a w,i<cut->ops[i]?=some o->ZY ops cut a0 w0 F L a w->(∀ e∈o.after,Region.binds .any e=true->L e.on=true) ->
   wpOp P ops Q i (fun a' w'=>∃ v d,o.dst=some d/\a'=a.put (some d) v/\F i v w'/\Below w.heap.size w w') a w)
 (hend:∀ m L a w,ZY ops cut a0 w0 F L a w->(∀ i,i<cut->L i=true)->wpAny P .any ops Q (m+tl) (VU ops.size cut) a w) :
 ∀ (fuel:Nat) (listed:Array Bool) (a:Act) (w:World),listed.size=ops.size->qw3 cut listed<=fuel->ZY ops cut a0 w0 F (KF listed) a w->wpAny P .any ops Q (fuel+tl) listed a w:=by
 intro fuel;have full:∀ (listed:Array Bool) (a:Act) (w:World),listed.size=ops.size->ZY ops cut a0 w0 F (KF listed) a w->(∀ i,i<cut->KF listed i=true)->listed=VU ops.size cut:=by
  intro listed a w hl hI hall;apply Array.ext
  ·simp [VU,hl]
  ·intro i h1 h2
   have e:listed[i]=KF listed i:=by unfold KF;simp [h1]
   rw [e];have e2:(VU ops.size cut)[i]=decide (i<cut):=by simp [VU]
   rw [e2];by_cases hc:i<cut
   ·rw [hall i hc,decide_eq_true hc]
   ·rw [hI.tail i (by omega),decide_eq_false hc]
 induction fuel with
 | zero =>
   intro listed a w hl ht hI;have hall:∀ j,j<cut->KF listed j=true:=by
    intro j hj;cases hc:KF listed j with
    | true=>rfl
    | false =>
      exfalso;have:j∈(List.range cut).filter fun j => !KF listed j:=wf8.2 ⟨wd6.2 hj,by simp [hc]⟩;have h0:(List.range cut).filter (fun j => !KF listed j)=[]:=wb2 (Nat.le_zero.1 ht);rw [h0] at this;cases this
   rw [full listed a w hl hI hall];exact hend 0 _ a w hI hall
 | succ fuel ih =>
   intro listed a w hl ht hI;by_cases hall:∀ j,j<cut->KF listed j=true
   ·rw [full listed a w hl hI hall]
    exact hend (fuel+1) _ a w hI hall
   ·have zq5:∃ j,j<cut/\KF listed j=false:=by
     apply Classical.byContradiction;intro hn;refine hall (fun j hj=>?_);cases hc:KF listed j with
     | true=>rfl
     | false=>exact absurd ⟨j,hj,hc⟩ hn
    obtain ⟨j0,hj0,hf0⟩:=zq5;rw [show fuel+1+tl=(fuel+tl)+1 by omega];refine ⟨fun hr=>?_,fun i hi=>?_⟩
    ·have:=qG7 hu hl hr j0 (by omega)
     rw [hf0] at this;cases this
    ·obtain ⟨h0,o,ho,hd⟩:=mem_ready.1 hi
     have hlt:i<ops.size:=(wa1.1 ho).1;have hil:i<listed.size:=(by omega);have h1:KF listed i=false:=by
      unfold KF;simp only [Array.getD_eq_getD_getElem?,Array.getElem?_eq_getElem hil,Option.getD_some] at h0 ⊢;exact h0
     have hic:i<cut:=by
      apply Classical.byContradiction;intro hn;obtain ⟨e,he,e1,e2⟩:=ql9 hcl ho hn hj0;have:=hd e he e2;rw [e1] at this;unfold KF at hf0;rw [hf0] at this;cases this
     refine wpOp_mono ?_ (hstep i o (KF listed) a w hic ho hI hd);rintro a' w' ⟨v,d,e1,rfl,hv,hb⟩;refine ih _ _ w' (by simp [hl]) ?_ ((hI.step hap hF hic ho e1 hv hb).ext (fun j=>(qc9 hil j).symm));have hlt2:qw3 cut (listed.setIfInBounds i true)<qw3 cut listed:=by
      unfold qw3;refine BL (fun j hj=>?_) (i:=i) (by simp [h1]) (by simp [qc9 hil]) _ (wd6.2 hic);rw [qc9 hil] at hj;revert hj;cases KF listed j<;>simp
     omega
theorem Qz {id:Nat} {a0:Act} {w0:World} (cut tl:Nat) (F:Nat->Value->World->Prop) (hm:P.follows .mixedOrders=true) (hsz:ops.size=cut+tl) (hu:qb6 ops=true) (hap:apart ops a0.tmps.size=true) (hcl:qu1 ops cut=true)
 (hF:∀ i v w w',F i v w->Below w.heap.size w w'->F i v w')
 (hstep:∀ i o L a w,i<cut->ops[i]?=some o->ZY ops cut a0 w0 F L a w->(∀ e∈o.after,Region.binds .any e=true->L e.on=true) ->
   wpOp P ops Q i (fun a' w'=>∃ v d,o.dst=some d/\a'=a.put (some d) v/\F i v w'/\Below w.heap.size w w') a w)
 (hend:∀ m L a w,ZY ops cut a0 w0 F L a w->(∀ i,i<cut->L i=true)->wpAny P .any ops Q (m+tl) (VU ops.size cut) a w) :
 (Code.region id ops true).wp P Q a0 w0:=by
 refine wp_region_any hm ?_
 conv=>arg 5;rw [hsz]
 refine qn4 F hsz hu hap hcl hF hstep hend cut _ a0 _ (by simp) (wa9 (wg3 _ _) (by simp)) ?_;exact ⟨rfl,rfl,fun _ _=>rfl,(Below.refl _ _).drew,(fun i o d _ _ hl _=>by rw [qj1] at hl;cases hl),fun i _=>qj1 _ i⟩
theorem qZ6 {a:Act} {N:Nat} (F:Nat->Value) (hs:a.tmps.size=N) (hF:∀ j,j<N->F j=a.eval (.tmp j)) (hd:a.defers=[]):a=⟨((List.range N).map F).toArray,[]⟩:=by
 obtain ⟨t,d⟩:=a;obtain rfl:d=[]:=hd;congr 1;apply Array.ext
 ·simp [hs]
 ·intro i h1 h2
  have h3:i<N:=by simpa using h2
  have:=hF i h3;simp [Act.eval,h1] at this;simp [this]
theorem ZY.frame {cut:Nat} {a0 a:Act} {w0 w:World} {F:Nat->Value->World->Prop} {L:Nat->Bool} (h:ZY ops cut a0 w0 F L a w) (N:Nat) (p:Nat->Bool) (hN:a0.tmps.size=N) (hp:((List.range N).all fun j => !p j || qp2 ops j)=true) (hd:a0.defers=[]) :
 a=⟨((List.range N).map (fun j=>cond (p j) (a0.eval (.tmp j)) (a.eval (.tmp j)))).toArray,[]⟩:=by
 refine qZ6 _ (h.sz.trans hN) (fun j hj=>?_) (h.df.trans hd);cases hc:p j with
 | false=>rfl
 | true =>
   have h1:=wd4.1 hp j (wd6.2 hj);rw [hc] at h1;exact (h.old j (by simpa using h1)).symm
theorem got {a:Act} {j:Nat} {v:Value} (h:a.eval (.tmp j)=v):a.tmps[j]?.getD undef=v:=by
 rw [<- h];simp [Act.eval]
end
structure SP where
 p:Value->World->Prop
 st:∀ v w w',p v w->Below w.heap.size w w'->p v w'
namespace SP
def any:SP:=⟨fun _ _=>True,fun _ _ _ _ _=>trivial⟩
def is (u:Value):SP:=⟨fun v _=>v=u,fun _ _ _ h _=>h⟩
def pile (n:Nat) (ps:List Pc):SP:=⟨fun v w=>∃ q,v = .slice (some q) n n/\YU w 1 (some q) ps,fun _ _ _ h hb=>by obtain ⟨q,e,h⟩:=h;exact ⟨q,e,h.kept hb⟩⟩
def ln (base n:Nat) (cs:List Value):SP:=⟨fun v w=>∃ A c,v = .slice A n c/\Ln w 1 A n c cs/\Yp base A/\c<=maxLen,fun _ _ _ h hb=>by obtain ⟨A,c,e,h,h2⟩:=h;exact ⟨A,c,e,h.kept hb,h2⟩⟩
def nd (base:Nat) (s:ND):SP:=⟨fun v w=>Ha w base v s,fun _ _ _ h hb=>h.kept hb⟩
def at_ (l:List SP) (i:Nat):Value->World->Prop:=(l.getD i any).p
theorem at_st (l:List SP):∀ i v w w',at_ l i v w->Below w.heap.size w w'->at_ l i v w':=fun i=>(l.getD i any).st
end SP
def qz7 (w:World) (s:ND) (e:Ending) (w':World):Prop:=∃ v,e = .returned v/\Ha w' w.heap.size v s/\Below w.heap.size w w'
def zn7 (w:World) (s:ND) (r:Bool) (e:Ending) (w':World):Prop:=∃ v,e = .returned (.tuple #[v,.bool r])/\Ha w' w.heap.size v s/\Below w.heap.size w w'
theorem Qy {w0 w:World} {base base' n:Nat} {t:TypeId} {v:Value} {cs:List Value} (h:w.ownsRow base t 1 v n cs) (_:w0=w) (hb:base'<=base):(SP.ln base' n cs).p v w:=by
 obtain ⟨A,c,rfl,hc,hl⟩:=Ln.oo h;exact ⟨A,c,rfl,hl,(Yp.oo h).low hb,hc⟩
/-- The argument's block, and the answer's. -/
theorem Jr (w:World) (x y z p:Value):Qs ((w.alloc (.cells #[x,y,z,p] 75)).alloc (.cells #[.bool false,.slice none 0 0,.slice none 0 0,.slice none 0 0] 75)) w.heap.size x y z p /\
 Qs ((w.alloc (.cells #[x,y,z,p] 75)).alloc (.cells #[.bool false,.slice none 0 0,.slice none 0 0,.slice none 0 0] 75)) (w.heap.size+1) (.bool false) (.slice none 0 0) (.slice none 0 0) (.slice none 0 0) /\
 Below w.heap.size w ((w.alloc (.cells #[x,y,z,p] 75)).alloc (.cells #[.bool false,.slice none 0 0,.slice none 0 0,.slice none 0 0] 75)):=by
 refine ⟨(Qp w x y z p).kept (Qa _ _),?_,Zp _ _ _⟩;have h:=Qp (w.alloc (.cells #[x,y,z,p] 75)) (.bool false) (.slice none 0 0) (.slice none 0 0) (.slice none 0 0);rw [show (w.alloc (.cells #[x,y,z,p] 75)).heap.size=w.heap.size+1 by simp] at h;exact h
theorem Ub {w wf:World} {r:Nat} {v:Value} {s:ND} (hb:Below w.heap.size w wf) (hr:w.heap.size<=r) (h:Ha wf (r+1) v s) (x y z p:Value) :
 Ha ((((wf.setCell ⟨r,0,none⟩ x).setCell ⟨r,1,none⟩ y).setCell ⟨r,2,none⟩ z).setCell ⟨r,3,none⟩ p) w.heap.size v s/\Below w.heap.size w ((((wf.setCell ⟨r,0,none⟩ x).setCell ⟨r,1,none⟩ y).setCell ⟨r,2,none⟩ z).setCell ⟨r,3,none⟩ p) :=
 ⟨qx6 h hr x y z p,Jv hb hr x y z p⟩
end
end Go.Proofs.YtfiflinbicbedaaGreat
