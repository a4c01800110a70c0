/-
  A part of the proof. Conditions: none.
-/
import Derived.Deep.WholeRow
import Derived.Laws.CopyOwn
import Derived.Lib.BytesEntry
import Derived.BigQuiet
import Derived.Deep.CutBlock
import Derived.Test.YtfiflinbicbedaaGreatZR4

set_option maxRecDepth 20000
set_option maxHeartbeats 12800000
namespace Go.Proofs.YtfiflinbicbedaaGreat
open Go.RowKit
def Uo (k:Nat):Array Value:=((List.range 256).map (fun i=>Value.int .u32 (if i<k then ((Xu i:Nat):Int) else 0))).toArray
theorem Jq (k:Nat):(Uo k).size=256:=by unfold Uo;simp
theorem GX (k:Nat) {i:Nat} (h:i<256):(Uo k)[i]?=some (Value.int .u32 (if i<k then ((Xu i:Nat):Int) else 0)):=by
 unfold Uo;rw [List.getElem?_toArray,wc7,List.getElem?_range h];rfl
theorem qL0 {k:Nat} (hk:k<256):(Uo k).setIfInBounds k (.int .u32 ((Xu k:Nat):Int))=Uo (k+1):=by
 apply Array.ext_getElem?;intro i;by_cases hi:i<256
 ·rw [Array.getElem?_setIfInBounds,GX (k+1) hi]
  by_cases e:k=i
  ·subst e
   rw [if_pos rfl,if_pos (by rw [Jq];exact hk),if_pos (by omega)]
  ·rw [if_neg e,GX k hi]
   by_cases hl:i<k
   ·rw [if_pos hl,if_pos (by omega)]
   ·rw [if_neg hl,if_neg (by omega)]
 ·rw [Array.getElem?_eq_none (by rw [Array.size_setIfInBounds,Jq];omega),Array.getElem?_eq_none (by rw [Jq];omega)]
theorem qf5 (k:Nat):(Uo k).all (·.oneCell')=true:=by
 rw [Array.all_eq_true_iff_forall_mem];intro v hv;unfold Uo at hv;rw [List.mem_toArray] at hv;obtain ⟨i,_,rfl⟩:=wd7.1 hv;rfl
theorem qo6 (w:World) (c d:Array Value) (t:TypeId) :
 ((w.alloc (.cells c t)).alloc (.cells d t)).heap[w.heap.size+1]?=some (.cells d t)/\((w.alloc (.cells c t)).alloc (.cells d t)).heap[w.heap.size]?=some (.cells c t):=by
 have hs:(w.alloc (.cells c t)).heap.size=w.heap.size+1:=by simp
 constructor
 ·have:=heap_alloc_new (w.alloc (.cells c t)) (.cells d t)
  rw [hs] at this;exact this
 ·rw [heap_alloc_old _ _ (by rw [hs];omega)]
  exact heap_alloc_new w _
theorem qw7:(Tryz.prog.info? 288).map (fun i=>(i.zero,i.size))=some (some (.agg (Uo 0)),256):=by kernel_rfl
theorem qK9 (w:World) (k:Nat) (hk:k<256) (t:TypeId):(w.alloc (.cells (Uo k) t)).cell? ⟨w.heap.size,k,none⟩=some (.int .u32 0):=by
 rw [cell_of_row _ w.heap.size k _ t (0,0) (heap_alloc_new w _),GX k hk,if_neg (by omega)]
theorem qK7 (w:World) (k j:Nat) (t:TypeId):(w.alloc (.cells (Uo k) t)).frozen? ⟨w.heap.size,j,none⟩=false:=by simp
theorem qZ4 (w:World) (k:Nat) (hk:k<256) (t:TypeId):(w.alloc (.cells (Uo k) t)).setCell ⟨w.heap.size,k,none⟩ (.int .u32 ((Xu k:Nat):Int))=w.alloc (.cells (Uo (k+1)) t):=by
 rw [World.setCell_alloc_at _ _ _ _ _ rfl,qL0 hk]
theorem qK8 (w:World) (o:Obj) (k:Nat) (hk:k<256) (t:TypeId) :
 Calls Tryz.prog 221 #[.int .i64 k,.pointer (some ⟨w.heap.size+1,0,none⟩)] ((w.alloc o).alloc (.cells (Uo k) t)) fun e w'=>e = .returned (.tuple #[])/\w'=(w.alloc o).alloc (.cells (Uo (k+1)) t):=by
 have hs:w.heap.size+1=(w.alloc o).heap.size:=by simp
 rw [hs];refine (qT9 k _ hk _ _ (qK9 (w.alloc o) k hk t) (qK7 _ _ _ _)).mono ?_;rintro e w' ⟨rfl,rfl⟩;exact ⟨rfl,qZ4 _ _ hk _⟩
theorem qB5 (w:World) :
 Calls Tryz.prog 214 #[] w fun e w'=>e = .returned (.agg (Uo 256))/\Below w.heap.size w w':=by
 obtain ⟨hz,hsz⟩:=zero_of_info qw7;obtain ⟨F,hF⟩:∃ F,F=Uo:=⟨_,rfl⟩;rw [<- hF] at hz ⊢;have zi1:∀ k:Nat,k<256->Calls Tryz.prog 221 #[.int .i64 (k:Int),.pointer (some ⟨w.heap.size+1,0,none⟩)] ((w.alloc (.cells (F 0) 288)).alloc (.cells (F k) 288))
  fun e w'=>e = .returned (.tuple #[])/\w'=(w.alloc (.cells (F 0) 288)).alloc (.cells (F (k+1)) 288):=by
  rw [hF];exact fun k hk=>qK8 w _ k hk _
 have HF:=iQ zi1;have hsF:∀ k,(F k).size=256:=by rw [hF];exact Jq
 have HS:=iQ hsF;have hiF:∀ k,(Tryz.prog.info? 288).map (·.size)=some (F k).size:=fun k=>by rw [hsF k];exact hsz
 have HI:=iQ hiF;have hoF:∀ k,(F k).all (·.oneCell')=true:=by rw [hF];exact qf5
 have HO:=iQ hoF;clear zi1 hF hsF hiF hoF hsz;have hmf:∀ (fn:Fn) (first cap:Array Value) (w:World),(Instr.makeFunc fn first cap).run Tryz.prog w = .ok (.func fn first cap) w:=fun _ _ _ _=>rfl
 go_enter Tryz.func214,Tryz.ntmps214;go_wp2_with fail;go_loopw [5] (fun i wr=>∃ k:Nat,k<=256/\i = .int .i64 k/\wr=(w.alloc (.cells (F 0) 288)).alloc (.cells (F k) 288)) (fun i _=>256 - (RowKit.intOf i).toNat)
 case atStart=>exact ⟨0,by omega,rfl,rfl⟩
 case round =>
  obtain ⟨k,hk,rfl,rfl⟩:=hrel;by_cases hlt:k<256
  ·go_wp2_with fail
   refine (HF.out k hlt).mono ?_;rintro e w1 ⟨rfl,rfl⟩;go_wp2_with fail;exact ⟨⟨k+1,by omega,by go_num,rfl⟩,by simp [RowKit.intOf];omega⟩
  ·obtain rfl:k=256:=by omega
   obtain ⟨g1,g0⟩:=qo6 w (F 0) (F 256) 288;have G1:=iQ g1;have G0:=iQ g0;clear g1 g0;go_wp2_with fail;refine wp_load_row 288 (.tmp 1) rfl (w.heap.size+1) rfl 288 (F 256) (0,0) _ G1.out Tryz.underlying288 rfl (HI.out 256) ?_;rename_i hK;refine hK _ _ ?_;refine wpList_store_row rfl 288 (.tmp 0) (.tmp 12) rfl w.heap.size (F 256) rfl rfl 288 (F 0) G0.out (HI.out 256) ((HS.out 0).trans (HS.out 256).symm) (HO.out 256) ?_;go_wp2_with fail;refine bodyPost_ret (v := .agg (F 256)) (results_cell_row rfl _ _ w.heap.size 288 (F 256) (0,0) _ rfl (setRow_heap _ _ _ _ _ _ G0.out) Tryz.underlying288 rfl (HI.out 256)) rfl ⟨rfl,?_⟩;exact below_setRow (Zp _ _ _) (wa2 _) _
end Go.Proofs.YtfiflinbicbedaaGreat
namespace Go.Proofs.YtfiflinbicbedaaGreat
open Go.RowKit
theorem DC {x:Nat} (h:x<4294967296):bits .xor .u32 IntKind.u32.max (x:Int)=((inv x:Nat):Int):=by
 have:=u32_xor_nat 4294967295 x (by omega) h;rw [Nat.xor_comm] at this;exact this
theorem qD8 (x:Nat) (c:UInt8):bits .xor .u8 ((x:Int) % 256) (c.toNat:Int)=((x % 256 ^^^ c.toNat:Nat):Int):=by
 have:=u8_xor_nat (x % 256) c.toNat (by omega) (UInt8.toNat_lt c);simpa using this
theorem qQ7 (x:Nat) (c:UInt8):x % 256 ^^^ c.toNat<256:=qX9 (by omega) (UInt8.toNat_lt c)
theorem qt9 {x:Nat} (h:x<4294967296) (c:UInt8):bits .xor .u32 ((Xu (x % 256 ^^^ c.toNat):Nat):Int) ((x:Int) / 256)=((qu0 x c:Nat):Int):=by
 rw [qt8];exact u32_xor_nat _ (x / 256) (FN (by have:=qQ7 x c;omega)) (by omega)
theorem qK6 (w:World) {i:Nat} (h:i<256) (t:TypeId):(w.alloc (.cells (Uo 256) t)).cell? ⟨w.heap.size,i,none⟩=some (.int .u32 ((Xu i:Nat):Int)):=by
 rw [cell_of_row _ w.heap.size i _ t (0,0) (heap_alloc_new w _),GX 256 h,if_pos h]
def Tab (w:World) (tb:Nat):Prop:=∀ i,i<256->w.cell? ⟨tb,i,none⟩=some (.int .u32 ((Xu i:Nat):Int))
def zq9 (Z T:Array Value):Prop :=
 (∀ w,(zeroValue 288).run Tryz.prog w = .ok (.agg Z) w)/\(Tryz.prog.info? 288).map (·.size)=some T.size/\Z.size=T.size/\T.all (·.oneCell')=true /\
 (∀ w:World,Tab (w.alloc (.cells T 288)) w.heap.size) /\
 ∀ w,Calls Tryz.prog 214 #[] w fun e w'=>e = .returned (.agg T)/\Below w.heap.size w w'
theorem zj5:∃ Z T,zq9 Z T:=by
 obtain ⟨hz,hsz⟩:=zero_of_info qw7;exact ⟨Uo 0,Uo 256,hz,by rw [Jq];exact hsz,by rw [Jq,Jq],qf5 _,fun w i hi=>qK6 w hi _,qB5⟩
theorem qQ1 (s:Nat) (hs:s<4294967296) {R:Nat} (A:Option Addr) (c:Nat) (l:List UInt8) (w:World) (h:Xc w R A l) (hn:l.length<=1000000) :
 Calls Tryz.prog 207 #[.int .u32 (s:Int),.slice A l.length c] w fun e w'=>e = .returned (.int .u32 ((UM s l:Nat):Int))/\Below w.heap.size w w':=by
 obtain ⟨Z,T,hz,hi,hZT,h1,hT,hcall⟩:=zj5;have HI:=iQ hi;have HZ:=iQ hZT;have H1:=iQ h1;have HT:=iQ hT;have HC:=iQ hcall;clear hi hZT h1 hT hcall;go_enter Tryz.func207,Tryz.ntmps207;go_wp2_with fail;refine (HC.out _).mono ?_;rintro e w1 ⟨rfl,b1⟩;have h1:=h.kept b1;clear h;go_wp2_with (refine wpList_store_row rfl 288 (.tmp 5) (.tmp 9) rfl w1.heap.size T rfl rfl 288 Z (heap_alloc_new w1 _) HI.out HZ.out H1.out ?_;rw [World.setRow_alloc_new]);rw [DC hs];have T2:=HT.out w1;have h2:=h1.alloc (.cells T 288);have b2:Below w.heap.size w (w1.alloc (.cells T 288)):=b1.alloc b1.size _;have HB:=iQ b2;have hb1:=b1.size;clear h1 HT HC H1 HZ HI hz b1 b2;generalize w1.alloc (.cells T 288)=w2 at *;generalize w1.heap.size=tb at *;have hv:=qr8 hs;have HE:=iQ (show UM s l=inv (VH (inv s) l) from rfl);generalize inv s=v at *;go_loopw [6,14] (fun x i wr=>∃ k:Nat,k<=l.length/\i = .int .i64 k/\x = .int .u32 ((VH v (l.take k):Nat):Int)/\wr=w2) (fun _ i _=>l.length - (RowKit.intOf i).toNat)
 case atStart=>exact ⟨0,by omega,rfl,rfl,rfl⟩
 case round =>
  obtain ⟨k,hk,rfl,rfl,rfl⟩:=hrel;by_cases hlt:k<l.length
  ·obtain ⟨b,off,z,rfl,hb,hz,hc⟩:=h2.at_ hlt
   have HN:=iQ (qF7 v hz);have hx:=GL (l.take k) hv;generalize VH v (l.take k)=x at *;have hix:=qD8 x z;have hil:=qQ7 x z;have hcell:=T2 _ hil;have HX:=iQ (qt9 hx z);clear hz;generalize x % 256 ^^^ z.toNat=ix at *;go_wp2_with fail;refine ⟨⟨k+1,by omega,by go_num,?_,trivial⟩,by simp [RowKit.intOf];omega⟩;rw [HX.out,HN.out]
  ·obtain rfl:k=l.length:=by omega
   rw [wf2];have hx:=GL l hv;have HX:=iQ (DC hx);generalize VH v l=x at *;go_wp2_with fail;go_ret;refine ⟨qb7 ?_,HB.out⟩;rw [HX.out,HE.out]
theorem zk2 (s:Nat) (hs:s<4294967296) {R:Nat} (A:Option Addr) (n c:Nat) (l:List UInt8) (w:World) (h:Xc w R A l) (hl:l.length=n) (hn:n<=1000000) :
 Calls Tryz.prog 207 #[.int .u32 (s:Int),.slice A n c] w fun e w'=>e = .returned (.int .u32 ((UM s l:Nat):Int))/\Below w.heap.size w w':=by
 subst hl;exact qQ1 s hs A c l w h hn
theorem zp5 {R:Nat} (A:Option Addr) (n c:Nat) (l:List UInt8) (w:World) (h:Xc w R A l) (hl:l.length=n) (hn:n<=1000000) :
 Calls Tryz.prog 193 #[.slice A n c] w fun e w'=>e = .returned (.int .u32 ((UM 0 l:Nat):Int))/\Below w.heap.size w w':=by
 have HM:=iQ (zk2 0 (by omega) A n c l w h hl hn);generalize UM 0 l=x at *;go_enter Tryz.func193,Tryz.ntmps193;go_wp2_with fail;refine HM.out.mono ?_;rintro e w1 ⟨rfl,b1⟩;go_wp2_with fail;go_ret;exact ⟨rfl,b1⟩
end Go.Proofs.YtfiflinbicbedaaGreat
namespace Go.Proofs.YtfiflinbicbedaaGreat
open Go.RowKit
theorem NJ (k:Int) (w:World) :
 Calls Tryz.prog 191 #[.int .i64 k] w fun e w'=>e = .returned (.bool (decide (1<=k/\k<=4)))/\w=w':=by
 by_cases h1:1<=k
 ·by_cases h2:k<=4
  ·have HD:=iQ (show decide (1<=k/\k<=4)=true from decide_eq_true ⟨h1,h2⟩)
   go_enter Tryz.func191,Tryz.ntmps191;go_wp2_with fail;go_ret;exact ⟨Qi (by simp [h1,h2]),rfl⟩
  ·have HD:=iQ (show decide (1<=k/\k<=4)=false from decide_eq_false (fun h=>h2 h.2))
   go_enter Tryz.func191,Tryz.ntmps191;go_wp2_with fail;go_ret;exact ⟨Qi (by simp;omega),rfl⟩
 ·have HD:=iQ (show decide (1<=k/\k<=4)=false from decide_eq_false (fun h=>h1 h.1))
  go_enter Tryz.func191,Tryz.ntmps191;go_wp2_with fail;go_ret;exact ⟨Qi (by simp;omega),rfl⟩
def Hm (k p:Int) (l:List UInt8):List UInt8:=if FOk k p l.length then frm k p l else []
def YL (k p:Int) (l:List UInt8):Int:=if FOk k p l.length then 0 else 1
def TQ (w:World) (k p:Int) (l:List UInt8) (e:Ending) (w':World):Prop :=
 ∃ v,e = .returned (.tuple #[v,.int .i64 (YL k p l)])/\Xr w' w.heap.size v (Hm k p l)/\Below w.heap.size w w'
theorem qO4 {k p:Int} {l:List UInt8} (h:¬ FOk k p l.length) (w w':World) (hw:w=w'):TQ w k p l (.returned (.tuple #[.slice none 0 0,.int .i64 1])) w':=by
 subst hw;refine ⟨.slice none 0 0,?_,?_,Below.refl _ _⟩
 ·rw [YL,if_neg h]
 ·rw [Hm,if_neg h]
  exact Xp _ _
theorem za6 (k p:Int) (A:Option Addr) (n c:Nat) (l:List UInt8) (w:World) (hl:l.length=n) (h:¬ FOk k p l.length) :
 Calls Tryz.prog 178 #[.int .i64 k,.int .i64 p,.slice A n c] w (TQ w k p l):=by
 have HP:=iQ (fun w'=>qO4 (k:=k) (p:=p) (l:=l) h w w');have HK:=iQ (NJ k);by_cases hk:1<=k/\k<=4
 ·rw [show decide (1<=k/\k<=4)=true from decide_eq_true hk] at HK
  by_cases hp0:p<0
  ·clear h hk
   go_enter Tryz.func178,Tryz.ntmps178;go_wp2_with fail;refine (HK.out _).mono ?_;rintro e w' ⟨rfl,rfl⟩;go_wp2_with fail;go_ret2;exact HP.out _ rfl
  ·by_cases hp1:p > 2147483647
   ·clear h hk
    go_enter Tryz.func178,Tryz.ntmps178;go_wp2_with fail;refine (HK.out _).mono ?_;rintro e w' ⟨rfl,rfl⟩;go_wp2_with fail;go_ret2;exact HP.out _ rfl
   ·have hn:1000<n:=by
     have:¬ l.length<=1000:=fun hle=>h ⟨hk.1,hk.2,by omega,by omega,hle⟩;omega
    clear h hk hl;go_enter Tryz.func178,Tryz.ntmps178;go_wp2_with fail;refine (HK.out _).mono ?_;rintro e w' ⟨rfl,rfl⟩;go_wp2_with fail;go_ret2;exact HP.out _ rfl
 ·rw [show decide (1<=k/\k<=4)=false from decide_eq_false hk] at HK
  clear h hk;go_enter Tryz.func178,Tryz.ntmps178;go_wp2_with fail;refine (HK.out _).mono ?_;rintro e w' ⟨rfl,rfl⟩;go_wp2_with fail;go_ret2;exact HP.out _ rfl
theorem qO3 {R:Nat} (k p:Nat) (A:Option Addr) (n c:Nat) (l:List UInt8) (w:World) (hl:l.length=n) (hr:Xc w R A l) (hz:A=none->n=0/\c=0) (h:FOk k p l.length) :
 Calls Tryz.prog 178 #[.int .i64 k,.int .i64 p,.slice A n c] w (TQ w k p l):=by
 have HP:Hid (YL k p l=0/\Hm k p l=frm k p l):=by
  unfold YL Hm;rw [if_pos h,if_pos h];exact iQ ⟨rfl,rfl⟩
 have HK:=iQ (NJ k);rw [show decide (1<=(k:Int)/\(k:Int)<=4)=true from decide_eq_true ⟨h.1,h.2.1⟩] at HK;have hk4:k<=4:=by have:=h.2.1;omega
 have hp4:p<=2147483647:=by have:=h.2.2.2.1;omega
 have hn:n<=1000:=by have:=h.2.2.2.2;omega
 obtain ⟨i0,hi,hz0,hz1,hz2⟩:=info_parts QX;have HL:=iQ hl;have HR:=iQ hr;have HZ:=iQ hz;clear h hl hr hz;go_enter Tryz.func178,Tryz.ntmps178;go_wp2_with fail;refine (HK.out _).mono ?_;rintro e w' ⟨rfl,rfl⟩;go_wp2_with fail;refine (qE1 _ _).mono ?_;rintro e w1 ⟨rfl,rfl⟩;have L0:=iQ (qE2 w 109 271);have B0:=iQ (Zp w (.cells #[.slice none 0 0] 109) (.cells #[.pointer (some ⟨w.heap.size,0,none⟩)] 271));go_wp2_with fail;generalize (w.alloc (.cells #[.slice none 0 0] 109)).alloc (.cells #[.pointer (some ⟨w.heap.size,0,none⟩)] 271)=w0 at *;refine (lay1 k (by omega) _ w.heap.size w.heap.size _ (w.heap.size+2) [] L0.out (by simp)).mono ?_;rintro e w1 ⟨rfl,l1,b1⟩;have L1:=iQ l1;have B1:=iQ (B0.out.trans b1);clear l1 b1 L0 B0;go_wp2_with fail;refine (lay4 p (by omega) _ w.heap.size w.heap.size _ (w.heap.size+2) _ L1.out (by simp [Zq])).mono ?_;rintro e w2 ⟨rfl,l2,b2⟩;have L2:=iQ l2;have B2:=iQ (B1.out.trans b2);clear l2 b2 L1 B1;go_wp2_with fail;refine (lay2 n (by omega) _ w.heap.size w.heap.size _ (w.heap.size+2) _ L2.out (by simp [Zq])).mono ?_;rintro e w3 ⟨rfl,l3,b3⟩;have HD:Hid ([]++be 1 k++be 4 p++be 2 n++l=bod (k:Int) (p:Int) l):=by
  rw [we0,<- HL.out];exact iQ rfl
 have h7:([]++be 1 k++be 4 p++be 2 n).length=7:=by simp [Zq]
 generalize []++be 1 k++be 4 p++be 2 n=hd at *;have L3:=iQ l3;have B3:=iQ (B2.out.trans b3);have H7:=iQ h7;obtain ⟨v3,c3,f3,o3,n3,g3,s3⟩:=l3.look h7;have lz:=iQ (ML.bys ((HR.out.kept B3.out)) HZ.out);clear l3 b3 L2 B2 h7;go_wp2_with (at_builtin;refine Qo _ rfl (.tmp 40) (.tmp 41) 109 rfl (w.heap.size+2) 5 i0 _ 1 1 Tryz.underlying109 hi hz0 hz1 hz2 rfl (by decide) _ _ _ rfl o3 A n c (bv l) rfl (by rw [QF,HL.out];omega) lz.out (MK _) (by unfold maxLen;omega) (by omega) (by omega) ?_;intro v4 w4 hown4 hg4;obtain ⟨A4,c4,rfl,o4,r4⟩:=qD1 hown4;have d4:w4.cell? ⟨w.heap.size,0,none⟩=some v3:=(hg4.cell_far _ g3 n3.symm).trans c3;have e4:w4.frozen? ⟨w.heap.size,0,none⟩=false:=(World.frozen?_of_block (a:=⟨w.heap.size,0,none⟩) (hg4.block _ g3 n3.symm)).trans f3);have o5:Xr (w4.setCell ⟨w.heap.size,0,none⟩ (.slice A4 (7+n) c4)) (w.heap.size+2) (.slice A4 (7+n) c4) (hd++l):=ZT o4 (fun k hk=>Below.heap_setCell _ _ _ _ (fun e=>by have:=(o4.lt k hk).1;simp only at e;omega));have R5:=iQ (GK o5);have L5:=iQ (L3.out.put hg4 (fun k hk=>(o3.lt k hk).1) o4);have B5:Hid (Below w.heap.size w (w4.setCell ⟨w.heap.size,0,none⟩ (.slice A4 (7+n) c4))):=(B3.out.grown hg4 B3.out.size (fun g hg=>by have:=(o3.lt g hg).1;omega)).setCell (p:=⟨w.heap.size,0,none⟩) (wa2 _) _;have hsum:(hd++l).length=7+n:=by rw [wa6,H7.out,HL.out]
 clear o5 o4 r4 d4 e4 hg4 hown4 c3 f3 o3 n3 g3 s3 lz L3 B3;generalize w4.setCell ⟨w.heap.size,0,none⟩ (.slice A4 (7+n) c4)=w5 at *;have HX:=iQ (zd8 (s:=0) (by omega) (hd++l));refine (zp5 A4 (7+n) c4 (hd++l) _ R5.out hsum (by omega)).mono ?_;rintro e w6 ⟨rfl,b6⟩;have L6:=iQ (L5.out.below b6);have B6:Hid (Below w.heap.size w w6):=B5.out.trans (b6.mono B5.out.size);have HF:Hid (hd++l++be 4 (UM 0 (hd++l))=frm (k:Int) (p:Int) l):=by
  rw [HD.out];exact iQ rfl
 have hsm:=iQ hsum;clear b6 R5 L5 B5 HD hsum H7;generalize UM 0 (hd++l)=x at *;go_wp2_with fail;refine (lay4 x HX.out _ w.heap.size w.heap.size _ (w.heap.size+2) _ L6.out (by rw [hsm.out];omega)).mono ?_;rintro e w7 ⟨rfl,l7,b7⟩;have B7:Hid (Below w.heap.size w w7):=B6.out.trans b7;rw [HF.out] at l7;obtain ⟨v7,c7,o7⟩:=l7.cf;have O7:=iQ o7;clear l7 b7 L6 B6 o7 HF;go_wp2_with fail;go_ret2;refine ⟨v7,?_,?_,B7.out⟩
 ·rw [HP.out.1]
  rfl
 ·rw [HP.out.2]
  exact qx4 O7.out (by omega)
/-- Pack, whatever is handed in. -/
theorem qi1 {R:Nat} (k p:Int) (A:Option Addr) (n c:Nat) (l:List UInt8) (w:World) (hl:l.length=n) (hr:Xc w R A l) (hz:A=none->n=0/\c=0) :
 Calls Tryz.prog 178 #[.int .i64 k,.int .i64 p,.slice A n c] w (TQ w k p l):=by
 by_cases h:FOk k p l.length
 ·obtain ⟨k',rfl⟩:∃ k':Nat,k=k':=⟨k.toNat,by have:=h.1;omega⟩
  obtain ⟨p',rfl⟩:∃ p':Nat,p=p':=⟨p.toNat,by have:=h.2.2.1;omega⟩;exact qO3 k' p' A n c l w hl hr hz h
 ·exact za6 k p A n c l w hl h
end Go.Proofs.YtfiflinbicbedaaGreat
namespace Go.Proofs.YtfiflinbicbedaaGreat
open Go.RowKit
section
variable {P:Program} {w:World} {R:Nat} {A:Option Addr} {l:List UInt8}
theorem RZ (h:Xc w R A l) (src dst e:TypeId) (n c:Nat) (hn:l.length=n) (hs:P.underlying src=some (.slice e)) (he:P.underlying e=some (.int .u8)) (hd:P.underlying dst=some .string) :
 (convert src dst (.slice A n c)).run P w = .ok (.string ⟨l.toArray⟩) w:=by
 rw [run_convert_bytes_string w src dst e A n c hs he hd];rcases A with _ | ad
 ·rw [h.none_]
  rfl
 ·have hl:(loadCells ad n).run P w = .ok ((l.map (fun b=>(b.toNat:Int))).map (Value.int .u8)).toArray w:=by
   have:=run_loadCells_list (P:=P) w ad (bv l) h.cells;rw [QF,hn] at this;rw [this,List.map_map];rfl
  rw [run_bytesToString w ad n c _ hl];congr 2;have:∀ (l:List UInt8) (s:ByteArray),(l.map (fun b=>(b.toNat:Int))).foldl (fun r n=>r.push (UInt8.ofNat n.toNat)) s=⟨s.data++l.toArray⟩:=by
   intro l
   induction l with
   | nil=>intro s;simp
   | cons x l ih =>
     intro s;rw [List.map_cons,List.foldl_cons,ih];simp [ByteArray.push]
  rw [this];congr 1;exact Array.empty_append
end
end Go.Proofs.YtfiflinbicbedaaGreat
namespace Go.Proofs.YtfiflinbicbedaaGreat
open Go.RowKit
theorem qZ1 (l m:List UInt8):(l==m)=decide (l=m):=by
 rw [Bool.eq_iff_iff];simp
theorem MV {w:World} {R R':Nat} {A B:Option Addr} {l m:List UInt8} (h:Xc w R A l) (k:Xc w R' B m) (n c p d:Nat) (hn:l.length=n) (hp:m.length=p) :
 Calls Tryz.prog 183 #[.slice A n c,.slice B p d] w fun e w'=>e = .returned (.bool (decide (l=m)))/\w=w':=by
 have h1:=RZ (P:=Tryz.prog) h 109 9 5 n c hn Tryz.underlying109 Tryz.underlying5 Tryz.underlying9;have h2:=RZ (P:=Tryz.prog) k 109 9 5 p d hp Tryz.underlying109 Tryz.underlying5 Tryz.underlying9;have HE:=iQ (qZ1 l m);clear hn hp h k;go_enter Tryz.func183,Tryz.ntmps183;go_wp2_with fail;go_ret;exact ⟨Qi HE.out,rfl⟩
end Go.Proofs.YtfiflinbicbedaaGreat
namespace Go.Proofs.YtfiflinbicbedaaGreat
open Go.RowKit
def qA5 (p:Int) (b:List UInt8):Int:=if IsF p b then GH b else 0
def qI7 (p:Int) (b:List UInt8):List UInt8:=if IsF p b then UX b else []
def qA6 (p:Int) (b:List UInt8):Int:=if IsF p b then 0 else 50
def qe1 (w:World) (p:Int) (b:List UInt8) (e:Ending) (w':World):Prop :=
 ∃ v,e = .returned (.tuple #[.int .i64 (qA5 p b),v,.int .i64 (qA6 p b)])/\Xr w' w.heap.size v (qI7 p b)/\Below w.heap.size w w'
theorem qa6 {p:Int} {b:List UInt8} (h:¬ IsF p b) {w w':World} (hb:Below w.heap.size w w'):qe1 w p b (.returned (.tuple #[.int .i64 0,.slice none 0 0,.int .i64 50])) w':=by
 refine ⟨.slice none 0 0,?_,?_,hb⟩
 ·rw [qA5,qA6,if_neg h,if_neg h]
 ·rw [qI7,if_neg h]
  exact Xp _ _
theorem zd7 {w:World} {R b off:Nat} {l:List UInt8} (h:Xc w R (some ⟨b,off,none⟩) l):Xc w R (some ⟨b,off+7,none⟩) (UX l):=by
 unfold UX;exact (h.take _).drop 7
theorem qA4 (p:Int) (A:Option Addr) (n c:Nat) (l:List UInt8) (w:World) (hl:l.length=n) (h:n<11) :
 Calls Tryz.prog 166 #[.int .i64 p,.slice A n c] w (qe1 w p l):=by
 have HP:=iQ (qa6 (w:=w) (w':=w) (p:=p) (b:=l) (fun hf=>by have:=hf.1;omega) (Below.refl _ _));clear hl;go_enter Tryz.func166,Tryz.ntmps166;go_wp2_with fail
 go_ret3
 exact HP.out
theorem qI6 {R:Nat} (p:Int) (A:Option Addr) (n c:Nat) (l:List UInt8) (w:World) (hl:l.length=n) (hr:Xc w R A l) (hnc:n<=c) (hn:n<=1000000) (h:¬ n<11) :
 Calls Tryz.prog 166 #[.int .i64 p,.slice A n c] w (qe1 w p l):=by
 obtain ⟨b,off,z,rfl,hbR,hz,c0⟩:=hr.at_ (k:=0) (by omega);have HZ:=iQ (zk7 hz);have HR:=iQ hr;have HL:=iQ hl;have hD:=zd7 hr;have HD:=iQ hD;have hdl:(UX l).length=n - 4 - 7:=by rw [qt7,hl]
 have HDL:=iQ hdl;rw [wg1] at c0;have q0:(0:Int)<(n:Int):=by omega
 have q1:(7:Int)<=(n:Int) - 4:=by omega
 have q2:(n:Int) - 4<=(c:Int):=by omega
 have q3:(0:Int)<=(n:Int) - 4:=by omega
 have q4:¬ c=7:=by omega
 clear hl hr hz hbR hD hdl;go_enter Tryz.func166,Tryz.ntmps166;go_wp2_with fail;go_quiet (fail)
 rw [show wrap64 (z.toNat:Int)=(z.toNat:Int) from by unfold wrap64;have:=UInt8.toNat_lt z;omega];have B1:=iQ (Ya (Below.refl w.heap.size w) nq);have r1:=iQ (HR.out.kept B1.out);have d1:=iQ (HD.out.kept B1.out);have HN:Hid (n - 4 - 7<=1000000/\n<=1000000/\11<=n):=⟨by omega,hn,by omega⟩;generalize w.drewN nq=w1 at *;generalize n - 4 - 7=m at *;clear HR HD c0 q0 q1 q2 q3 q4;have HM:=HN.out.1;go_wp2_with fail;refine (qi1 (z.toNat:Int) p _ m (c - 7) (UX l) _ HDL.out d1.out (fun e=>by cases e)).mono ?_;rintro e w2 ⟨v,rfl,o2,b2⟩;rw [<- HZ.out] at o2 ⊢;have B2:Hid (Below w.heap.size w w2):=B1.out.trans (b2.mono B1.out.size);have r2:=iQ (r1.out.kept b2);have d2:=iQ (d1.out.kept b2);clear r1 d1 B1 b2;by_cases hok:FOk (GH l) p (UX l).length
 ·have e1:YL (GH l) p (UX l)=0:=by unfold YL;rw [if_pos hok]
  have e2:Hm (GH l) p (UX l)=frm (GH l) p (UX l):=by unfold Hm;rw [if_pos hok]
  rw [e1];rw [e2] at o2;obtain ⟨A3,c3,rfl,hl3,_,_,r3⟩:=Xc.oo o2;have R3:=iQ r3;have HE:=iQ (MV r3 r2.out ((frm (GH l) p (UX l)).length) c3 n c rfl HL.out);by_cases hfr:frm (GH l) p (UX l)=l
  ·have hf:IsF p l:=⟨by rw [HL.out];exact HN.out.2.2,hok,hfr⟩
   have HP:Hid (qA5 p l=GH l/\qA6 p l=0/\qI7 p l=UX l):=by
    unfold qA5 qA6 qI7;rw [if_pos hf,if_pos hf,if_pos hf];exact iQ ⟨rfl,rfl,rfl⟩
   rw [decide_eq_true hfr] at HE;generalize (frm (GH l) p (UX l)).length=N at *;clear e1 e2 o2 hok hl3 hfr hf r3;generalize GH l=kk at *;go_wp2_with fail;refine HE.out.mono ?_;rintro e w3 ⟨rfl,rfl⟩;go_wp2_with fail;refine (Uy _ m (c - 7) _ (UX l) _ d2.out HDL.out HM (fun e=>by cases e)).mono ?_;rintro e w4 ⟨v4,rfl,o4,b4⟩;have O4:=iQ o4;have B4:Hid (Below w.heap.size w w4):=B2.out.trans (b4.mono B2.out.size);have HS:=iQ B2.out.size;clear o4 b4 B2 HE R3 r2 d2;go_wp2_with fail
   go_ret3
   refine ⟨v4,?_,?_,B4.out⟩
   ·rw [HP.out.1,HP.out.2.1]
    rfl
   ·rw [HP.out.2.2]
    exact qx4 O4.out HS.out
  ·have HP:=iQ (qa6 (p:=p) (b:=l) (fun hf=>hfr hf.2.2) B2.out)
   rw [decide_eq_false hfr] at HE;generalize (frm (GH l) p (UX l)).length=N at *;clear e1 e2 o2 hok hl3 hfr r3;generalize GH l=kk at *;go_wp2_with fail;refine HE.out.mono ?_;rintro e w3 ⟨rfl,rfl⟩;go_wp2_with fail
   go_ret3
   exact HP.out
 ·have e1:YL (GH l) p (UX l)=1:=by unfold YL;rw [if_neg hok]
  have HP:=iQ (qa6 (p:=p) (b:=l) (fun hf=>hok hf.2.1) B2.out);rw [e1];clear e1 o2 hok;generalize GH l=kk at *;go_wp2_with fail
  go_ret3
  exact HP.out
/-- Unpack, whatever is handed in. -/
theorem qY9 {R:Nat} (p:Int) (A:Option Addr) (n c:Nat) (l:List UInt8) (w:World) (hl:l.length=n) (hr:Xc w R A l) (hnc:n<=c) (hn:n<=1000000) :
 Calls Tryz.prog 166 #[.int .i64 p,.slice A n c] w (qe1 w p l):=by
 by_cases h:n<11
 ·exact qA4 p A n c l w hl h
 ·exact qI6 p A n c l w hl hr hnc hn h
end Go.Proofs.YtfiflinbicbedaaGreat
namespace Go.Proofs.YtfiflinbicbedaaGreat
namespace SC
open TT ND TS
theorem nodeAt_is {nd:Int->Option ND} {p:Int} {leaf:Bool} {n:ND} (h:TS.nodeAt nd p leaf=some n):nd p=some n/\n.leaf=leaf:=by
 unfold TS.nodeAt at h;cases hp:nd p with
 | none=>rw [hp] at h;cases h
 | some m =>
   rw [hp] at h;simp only at h;split at h
   ·rename_i hl
    obtain rfl:=wa0 h;exact ⟨rfl,hl⟩
   ·cases h
structure V where
 pg:Int
 ht:Int
 lo:K
 hi:K
abbrev Vis:=V×ND
def kid (v:V) (n:ND) (i:Nat):V:=⟨n.kids.getD i 0,v.ht - 1,if 0<i then n.keys.getD (i - 1) [] else v.lo,if i<n.keys.length then n.keys.getD i [] else v.hi⟩
def kids (v:V) (n:ND):List V:=(List.range n.kids.length).map (kid v n)
def entsV (x:Vis):List E:=x.2.keys.zip x.2.vals
inductive Walk (nd:Int->Option ND) (want:V->Bool):List V->List Int->List Vis->Int->Prop
 | done (met:List Int):Walk nd want [] met [] 0
 | again {v:V} {st:List V} {met:List Int}:v.pg∈met->Walk nd want (v::st) met [] 121
 | none {v:V} {st:List V} {met:List Int}:v.pg ∉ met->TS.nodeAt nd v.pg (v.ht==1)=none->Walk nd want (v::st) met [] 121
 | step {v:V} {st:List V} {met:List Int} {n:ND} {vs:List Vis} {e:Int}:v.pg ∉ met->TS.nodeAt nd v.pg (v.ht==1)=some n ->
    Walk nd want ((kids v n).filter want++st) (v.pg::met) vs e->Walk nd want (v::st) met ((v,n)::vs) e
section
variable {nd:Int->Option ND} {want:V->Bool}
def kidsL (h:Int) (hi:K):K->List K->List Int->List V
 | lo,[],[c]=>[⟨c,h,lo,hi⟩]
 | lo,k::ks,c::cs=>⟨c,h,lo,k⟩::kidsL h hi k ks cs
 | _,_,_=>[]
theorem kidsL_get {h:Int} {hi:K}:∀ (ks:List K) (cs:List Int) (lo:K),cs.length=ks.length+1->∀ i,i<cs.length ->
 (kidsL h hi lo ks cs)[i]?=some ⟨cs.getD i 0,h,if 0<i then ks.getD (i - 1) [] else lo,if i<ks.length then ks.getD i [] else hi⟩
 | [],[c],lo,_,0,_=>rfl
 | [],[c],lo,_,i+1,h=>by simp at h
 | k::ks,c::cs,lo,hl,0,_=>by simp [kidsL]
 | k::ks,c::cs,lo,hl,i+1,h'=>by
   have hl2:cs.length=ks.length+1:=by simpa using hl
   have hi2:i<cs.length:=by simpa using h'
   have:=kidsL_get (h:=h) (hi:=hi) ks cs k hl2 i hi2;simp only [kidsL,List.getElem?_cons_succ,this,Option.some.injEq,V.mk.injEq,true_and];refine ⟨by simp,?_,by simp⟩;cases i with
   | zero=>simp
   | succ i=>simp
 | [],[],_,hl,_,_=>by simp at hl
 | [],_::_::_,_,hl,_,_=>by simp at hl
 | _::_,[],_,hl,_,_=>by simp at hl
theorem kidsL_len {h:Int} {hi:K}:∀ (ks:List K) (cs:List Int) (lo:K),cs.length=ks.length+1->(kidsL h hi lo ks cs).length=cs.length
 | [],[c],lo,_=>rfl
 | k::ks,c::cs,lo,hl=>by
   have:=kidsL_len (h:=h) (hi:=hi) ks cs k (by simpa using hl);simp [kidsL,this]
 | [],[],_,hl=>by simp at hl
 | [],_::_::_,_,hl=>by simp at hl
 | _::_,[],_,hl=>by simp at hl
theorem kids_eq (v:V) (n:ND) (hl:n.kids.length=n.keys.length+1):kids v n=kidsL (v.ht - 1) v.hi v.lo n.keys n.kids:=by
 apply List.ext_getElem?;intro i;by_cases hi:i<n.kids.length
 ·rw [kidsL_get _ _ _ hl i hi]
  unfold kids;simp [hi,kid]
 ·rw [List.getElem?_eq_none (by unfold kids;simp;omega),List.getElem?_eq_none (by rw [kidsL_len _ _ _ hl];omega)]
structure Sound (top:Int) (x:Vis):Prop where
 ok:x.2.ok=true
 fits:x.2.size<=1000
 keyed:0<x.2.keys.length
 keys:∀ k∈x.2.keys,btw x.1.lo x.1.hi k
 high:x.1.ht=top\/(x.1.ht<top/\250<x.2.size)
theorem Sound.up {a b:Int} {x:Vis} (h:Sound a x) (hab:a<b) (hz:250<x.2.size):Sound b x :=
 ⟨h.ok,h.fits,h.keyed,h.keys,Or.inr ⟨by rcases h.high with e | e<;>omega,hz⟩⟩
structure Res (want:V->Bool) (top:Int) (es:List E) (ps:List Int) (vs:List Vis):Prop where
 ents:∀ f:E->Bool,(∀ (v:V) (e:E),f e=true->btw v.lo v.hi e.1->want v=true)->(vs.flatMap entsV).filter f=es.filter f
 pages:(∀ v,want v=true)->vs.map (·.1.pg)=ps
 sound:∀ x∈vs,Sound top x/\250<x.2.size
 inP:∀ x∈vs,x.1.pg∈ps
 few:vs.length<=ps.length
def Goes (nd:Int->Option ND) (want:V->Bool) (front:List V) (ps:List Int) (vs:List Vis):Prop :=
 ∀ (met:List Int) (st:List V) (vs0:List Vis) (e0:Int),ps.Nodup->(∀ x∈ps,x ∉ met)->(∀ met',(∀ x∈met',x∈met\/x∈ps)->Walk nd want st met' vs0 e0)->Walk nd want (front++st) met (vs++vs0) e0
theorem run_goes {S:R} {h:Nat} (g:GoodR S) (ih:∀ c lo hi e q,S c lo hi e q->∃ vs,Res want h e q vs/\Goes nd want [⟨c,h,lo,hi⟩] q vs) :
 ∀ {ks:List K} {cs:List Int} {lo hi:K} {es:List E} {qs:List Int},Run S lo hi ks cs es qs->∃ vs,Res want h es qs vs/\Goes nd want ((kidsL h hi lo ks cs).filter want) qs vs
 | [],[c],lo,hi,es,qs,hr=>by
   obtain ⟨vs,a,b⟩:=ih c lo hi es qs hr;cases hw:want ⟨c,h,lo,hi⟩ with
   | true =>
     refine ⟨vs,a,?_⟩;simp only [kidsL,List.filter_cons,hw,if_true,List.filter_nil];exact b
   | false =>
     refine ⟨[],⟨fun f hf=>?_,fun hall=>?_,fun x hx=>(by cases hx),fun x hx=>(by cases hx),wb3 _⟩,?_⟩
     ·symm
      rw [List.flatMap_nil,List.filter_nil,List.filter_eq_nil_iff];intro e he hfe;have:=hf ⟨c,h,lo,hi⟩ e hfe ((g _ _ _ _ _ hr).1 e he);rw [hw] at this;cases this
     ·rw [hall] at hw
      cases hw
     ·simp only [kidsL,List.filter_cons,hw,List.filter_nil]
      intro met st vs0 e0 _ _ k;simpa using k met (fun x hx=>Or.inl hx)
 | k::ks,c::cs,lo,hi,es,qs,hr=>by
   obtain ⟨e1,q1,e2,q2,rfl,rfl,h3,h4⟩:=hr;obtain ⟨vs1,a1,b1⟩:=ih c lo k e1 q1 h3;obtain ⟨vs2,a2,b2⟩:=run_goes g ih h4;cases hw:want ⟨c,h,lo,k⟩ with
   | true =>
     refine ⟨vs1++vs2,⟨fun f hf=>?_,fun hall=>?_,fun x hx=>?_,fun x hx=>?_,?_⟩,?_⟩
     ·rw [wf9,we9,we9,a1.ents f hf,a2.ents f hf]
     ·rw [wc8,a1.pages hall,a2.pages hall]
     ·rcases wb0.1 hx with hx | hx
      ·exact a1.sound x hx
      ·exact a2.sound x hx
     ·rcases wb0.1 hx with hx | hx
      ·exact wb0.2 (Or.inl (a1.inP x hx))
      ·exact wb0.2 (Or.inr (a2.inP x hx))
     ·have:=a1.few
      have:=a2.few;simp only [List.length_append];omega
     ·simp only [kidsL,List.filter_cons,hw,if_true]
      intro met st vs0 e0 hn hd hk;rw [List.nodup_append] at hn;rw [wb9];refine b1 met _ _ e0 hn.1 (fun x hx=>hd x (by simp [hx])) (fun m1 hm1=>?_);refine b2 m1 st vs0 e0 hn.2.1 (fun x hx hx2=>?_) (fun m2 hm2=>hk m2 (fun x hx=>?_))
      ·rcases hm1 x hx2 with e | e
       ·exact hd x (by simp [hx]) e
       ·exact hn.2.2 x e x hx rfl
      ·rcases hm2 x hx with e | e
       ·rcases hm1 x e with e | e
        ·exact Or.inl e
        ·exact Or.inr (by simp [e])
       ·exact Or.inr (by simp [e])
   | false =>
     refine ⟨vs2,⟨fun f hf=>?_,fun hall=>?_,a2.sound,fun x hx=>wb0.2 (Or.inr (a2.inP x hx)),?_⟩,?_⟩
     ·rw [we9,a2.ents f hf,show e1.filter f=[] from ?_,we0]
      rw [List.filter_eq_nil_iff];intro e he hfe;have:=hf ⟨c,h,lo,k⟩ e hfe ((g _ _ _ _ _ h3).1 e he);rw [hw] at this;cases this
     ·rw [hall] at hw
      cases hw
     ·have:=a2.few
      simp only [List.length_append];omega
     ·simp only [kidsL,List.filter_cons,hw]
      intro met st vs0 e0 hn hd hk;rw [List.nodup_append] at hn;exact b2 met st vs0 e0 hn.2.1 (fun x hx=>hd x (by simp [hx])) (fun m2 hm2=>hk m2 (fun x hx=>(hm2 x hx).imp id (fun e=>by simp [e])))
 | [],[],_,_,_,_,h=>h.elim
 | [],_::_::_,_,_,_,_,h=>h.elim
 | _::_,[],_,_,_,_,h=>h.elim
theorem node_goes {S:R} {h:Nat} (g:GoodR S) (ih:∀ c lo hi e q,S c lo hi e q->∃ vs,Res want h e q vs/\Goes nd want [⟨c,h,lo,hi⟩] q vs)
 {p:Int} {n:ND} {lo hi:K} {es:List E} {qs:List Int} (hp:nd p=some n) (v:VN S h n lo hi es qs) :
 ∃ vs,((∀ f:E->Bool,(∀ (v:V) (e:E),f e=true->btw v.lo v.hi e.1->want v=true)->((((⟨p,h+1,lo,hi⟩,n):Vis)::vs).flatMap entsV).filter f=es.filter f)/\((∀ v,want v=true)->vs.map (·.1.pg)=qs) /\
   (∀ x∈vs,Sound h x/\250<x.2.size)/\(∀ x∈vs,x.1.pg∈qs)/\vs.length<=qs.length)/\Goes nd want [⟨p,h+1,lo,hi⟩] (p::qs) ((⟨p,h+1,lo,hi⟩,n)::vs):=by
 have hat:TS.nodeAt nd p (((h:Int)+1)==1)=some n:=by
  unfold TS.nodeAt;rw [hp];have hl:=v.leaf;have:(((h:Int)+1)==1)=decide (h=0):=by
   by_cases h0:h=0
   ·subst h0;rfl
   ·rw [decide_eq_false h0,beq_eq_false_iff_ne];omega
  rw [this,<- hl];simp
 cases h with
 | zero =>
   obtain ⟨a,rfl⟩:=v;refine ⟨[],⟨fun f _=>?_,fun _=>rfl,fun x hx=>(by cases hx),fun x hx=>(by cases hx),wa2 _⟩,fun met st vs0 e0 hn hd hk=>?_⟩
   ·simp [entsV,a.ents]
   ·refine .step (hd p (by simp)) hat ?_
    have:kids ⟨p,((0:Nat):Int)+1,lo,hi⟩ n=[]:=by unfold kids;rw [a.kids];rfl
    rw [this];exact hk (p::met) (fun x hx=>by
     rcases wb6.1 hx with rfl | hx
     ·exact Or.inr (by simp)
     ·exact Or.inl hx)
 | succ h =>
   have a:VI S n lo hi es qs:=v;have hlen:=run_len a.run;obtain ⟨vs,r,k⟩:=run_goes g ih a.run;refine ⟨vs,⟨fun f hf=>?_,r.pages,r.sound,r.inP,r.few⟩,fun met st vs0 e0 hn hd hk=>?_⟩
   ·rw [List.flatMap_cons,show entsV ((⟨p,((h+1:Nat):Int)+1,lo,hi⟩,n):Vis)=[] by unfold entsV;rw [a.vals];simp,we0]
    exact r.ents f hf
   ·have hn2:=we3.1 hn
    refine .step (hd p (by simp)) hat ?_;rw [kids_eq _ _ hlen];have e1:(((h+1:Nat):Int)+1) - 1=((h+1:Nat):Int):=(by omega);simp only [e1];refine k (p::met) st vs0 e0 hn2.2 (fun x hx hx2=>?_) (fun m2 hm2=>hk m2 (fun x hx=>?_))
    ·rcases wb6.1 hx2 with rfl | hx2
     ·exact hn2.1 hx
     ·exact hd x (by simp [hx]) hx2
    ·rcases hm2 x hx with e | e
     ·rcases wb6.1 e with rfl | e
      ·exact Or.inr (by simp)
      ·exact Or.inl e
     ·exact Or.inr (by simp [e])
theorem sub_goes:∀ (h:Nat) (p:Int) (lo hi:K) (es:List E) (ps:List Int),Sub nd h p lo hi es ps->∃ vs,Res want h es ps vs/\Goes nd want [⟨p,h,lo,hi⟩] ps vs
 | 0,_,_,_,_,_,s=>s.elim
 | h+1,p,lo,hi,es,ps,s=>by
   obtain ⟨n,qs,rfl,hp,h1,h2,v⟩:=s;obtain ⟨vs,⟨a,b,c,d,k⟩,g⟩:=node_goes (Sub.good nd h) (fun c lo hi e q s=>sub_goes h c lo hi e q s) hp v;refine ⟨_,⟨a,fun hall=>by simp [b hall],fun x hx=>?_,fun x hx=>?_,by simp;omega⟩,g⟩
   ·rcases wb6.1 hx with rfl | hx
    ·exact ⟨⟨v.ok (Or.inr (v.keyed h2)),h1,v.keyed h2,v.keys,Or.inl (by simp)⟩,h2⟩
    ·exact ⟨(c x hx).1.up (by omega) (c x hx).2,(c x hx).2⟩
   ·rcases wb6.1 hx with rfl | hx
    ·simp
    ·simp [d x hx]
theorem run_closed {S:R} {L:List Int} (hs:∀ c lo hi e q,S c lo hi e q->c∈q):∀ {ks:List K} {cs:List Int} {lo hi:K} {es:List E} {qs:List Int},Run S lo hi ks cs es qs->(∀ x∈qs,x∈L)->∀ c∈cs,c∈L
 | [],[c],lo,hi,es,qs,hr,hL,x,hx=>by
   obtain rfl:x=c:=by simpa using hx
   exact hL _ (hs _ _ _ _ _ hr)
 | k::ks,c::cs,lo,hi,es,qs,hr,hL,x,hx=>by
   obtain ⟨e1,q1,e2,q2,rfl,rfl,h3,h4⟩:=hr;rcases wb6.1 hx with rfl | hx
   ·exact hL _ (by simp [hs _ _ _ _ _ h3])
   ·exact run_closed hs h4 (fun y hy=>hL y (by simp [hy])) x hx
 | [],[],_,_,_,_,h,_,_,_=>h.elim
 | [],_::_::_,_,_,_,_,h,_,_,_=>h.elim
 | _::_,[],_,_,_,_,h,_,_,_=>h.elim
theorem run_each {S:R} {T:Int->Prop} (hs:∀ c lo hi e q,S c lo hi e q->∀ x∈q,T x):∀ {ks:List K} {cs:List Int} {lo hi:K} {es:List E} {qs:List Int},Run S lo hi ks cs es qs->∀ x∈qs,T x
 | [],[c],lo,hi,es,qs,hr,x,hx=>hs _ _ _ _ _ hr x hx
 | k::ks,c::cs,lo,hi,es,qs,hr,x,hx=>by
   obtain ⟨e1,q1,e2,q2,rfl,rfl,h3,h4⟩:=hr;rcases wb0.1 hx with hx | hx
   ·exact hs _ _ _ _ _ h3 x hx
   ·exact run_each hs h4 x hx
 | [],[],_,_,_,_,h,_,_=>h.elim
 | [],_::_::_,_,_,_,_,h,_,_=>h.elim
 | _::_,[],_,_,_,_,h,_,_=>h.elim
theorem node_closed {h:Nat} {L:List Int} {n:ND} {lo hi:K} {es:List E} {qs:List Int} (v:VN (Sub nd h) h n lo hi es qs) (hL:∀ x∈qs,x∈L):∀ k∈n.kids,k∈L:=by
 cases h with
 | zero =>
   intro k hk;rw [v.1.kids] at hk;cases hk
 | succ h =>
   have a:VI (Sub nd (h+1)) n lo hi es qs:=v;exact run_closed (fun c lo hi e q s=>s.head) a.run hL
theorem sub_closed:∀ (h:Nat) (p:Int) (lo hi:K) (es:List E) (ps L:List Int),Sub nd h p lo hi es ps->(∀ x∈ps,x∈L)->∀ x∈ps,∀ n,nd x=some n->∀ k∈n.kids,k∈L
 | 0,_,_,_,_,_,_,s,_=>s.elim
 | h+1,p,lo,hi,es,ps,L,s,hL=>by
   obtain ⟨n,qs,rfl,hp,h1,h2,v⟩:=s;intro x hx m hm;rcases wb6.1 hx with rfl | hx
   ·rw [hp] at hm
    obtain rfl:=wa0 hm;exact node_closed v (fun y hy=>hL y (by simp [hy]))
   ·cases h with
    | zero =>
      obtain ⟨_,rfl⟩:=v;cases hx
    | succ h =>
      have a:VI (Sub nd (h+1)) n lo hi es qs:=v;have hq:∀ y∈qs,y∈L:=fun y hy=>hL y (by simp [hy]);have key:∀ {ks:List K} {cs:List Int} {l u:K} {es:List E} {qs:List Int},Run (Sub nd (h+1)) l u ks cs es qs->(∀ y∈qs,y∈L)->∀ y∈qs,∀ n,nd y=some n->∀ k∈n.kids,k∈L:=by
       intro ks
       induction ks with
       | nil =>
         intro cs l u es qs hr hq y hy
         match cs,hr with
         | [c],hr=>exact sub_closed (h+1) c l u es qs L hr hq y hy
       | cons k ks ihk =>
         intro cs l u es qs hr hq y hy
         match cs,hr with
         | c::cs,hr =>
           obtain ⟨e1,q1,e2,q2,rfl,rfl,h3,h4⟩:=hr;rcases wb0.1 hy with hy | hy
           ·exact sub_closed (h+1) c l k e1 q1 L h3 (fun z hz=>hq z (by simp [hz])) y hy
           ·exact ihk h4 (fun z hz=>hq z (by simp [hz])) y hy
      exact key a.run hq x hx m hm
end
def start0 (t:TS):List V:=if t.ht=0 then [] else [⟨t.rt,t.ht,[],[]⟩]
section
variable {O:List Int} {nd0:Int->Option ND} {t:TS} {es:List E} {L:List Int} {want:V->Bool}
structure Whole (want:V->Bool) (t:TS) (es:List E) (L:List Int) (vs:List Vis):Prop where
 walk:Walk t.nd want (start0 t) [] vs 0
 ents:∀ f:E->Bool,(∀ (v:V) (e:E),f e=true->btw v.lo v.hi e.1->want v=true)->(vs.flatMap entsV).filter f=es.filter f
 pages:(∀ v,want v=true)->vs.map (·.1.pg)=L
 sound:∀ x∈vs,Sound t.ht x
 inL:∀ x∈vs,x.1.pg∈L
 few:vs.length<=L.length
end
end SC
namespace TT
open SC ND TS
section
variable {O:List Int} {nd0:Int->Option ND} {t:TS} {es:List E} {L:List Int} {want:V->Bool}
theorem Tr.whole (h:Tr O nd0 t es L) (want:V->Bool):∃ vs,Whole want t es L vs:=by
 rcases h.root with ⟨e,_,rfl,rfl⟩ | ⟨k,n,qs,e,rfl,a,b,c,v⟩
 ·refine ⟨[],⟨?_,fun f _=>rfl,fun _=>rfl,fun x hx=>(by cases hx),fun x hx=>(by cases hx),wa2 _⟩⟩
  unfold start0;rw [if_pos e];exact .done _
 ·obtain ⟨vs,⟨h1,h2,h3,h4,h5⟩,g⟩:=node_goes (want:=want) (Sub.good t.nd k) (fun c lo hi e q s=>sub_goes k c lo hi e q s) a v
  refine ⟨_,⟨?_,h1,fun hall=>by simp [h2 hall],fun x hx=>?_,fun x hx=>?_,by simp;omega⟩⟩
  ·unfold start0
   rw [if_neg (by omega),e];have:=g [] [] [] 0 h.acc.once (fun x _ hx=>by cases hx) (fun m _ => .done m);simpa using this
  ·rcases wb6.1 hx with rfl | hx
   ·exact ⟨v.ok (Or.inr c),b,c,v.keys,Or.inl (by rw [e];simp)⟩
   ·exact (h3 x hx).1.up (by omega) (h3 x hx).2
  ·rcases wb6.1 hx with rfl | hx
   ·simp
   ·simp [h4 x hx]
theorem Tr.closed (h:Tr O nd0 t es L):∀ p n,p∈L->t.nd p=some n->∀ k∈n.kids,k∈L:=by
 intro p m hp hm;rcases h.root with ⟨e,_,rfl,rfl⟩ | ⟨k,n,qs,e,rfl,a,b,c,v⟩
 ·cases hp
 ·by_cases hz:250<n.size
  ·exact sub_closed (k+1) t.rt [] [] es (t.rt::qs) _ ⟨n,qs,rfl,a,b,hz,v⟩ (fun _ hx=>hx) p hp m hm
  ·rcases wb6.1 hp with rfl | hp
   ·rw [a] at hm
    obtain rfl:=wa0 hm;exact node_closed v (fun y hy=>by simp [hy])
   ·cases k with
    | zero =>
      obtain ⟨_,rfl⟩:=v;cases hp
    | succ k =>
      have a':VI (Sub t.nd (k+1)) n [] [] es qs:=v;exact run_each (S:=fun c lo hi e q=>Sub t.nd (k+1) c lo hi e q/\∀ x∈q,x∈t.rt::qs) (T:=fun x=>∀ n,t.nd x=some n->∀ k∈n.kids,k∈t.rt::qs)
       (fun c lo hi e q s x hx m hm=>sub_closed (k+1) c lo hi e q _ s.1 s.2 x hx m hm) (run_mono a'.run (fun c lo hi e q hq s=>⟨s,fun x hx=>by simp [hq x hx]⟩)) p hp m hm
theorem Tr.start_in (h:Tr O nd0 t es L):∀ v∈start0 t,v.pg∈L:=by
 intro v hv;unfold start0 at hv;split at hv
 ·cases hv
 ·rename_i h0
  obtain rfl:v=⟨t.rt,t.ht,[],[]⟩:=by simpa using hv
  rcases h.root with ⟨e,_⟩ | ⟨k,n,qs,e,rfl,a,b,c,v⟩
  ·exact absurd e h0
  ·simp
end
end TT
end Go.Proofs.YtfiflinbicbedaaGreat
namespace Go.Proofs.YtfiflinbicbedaaGreat
open Go.RowKit
theorem Qe {w1 wx w3:World} (b:Below wx.heap.size wx w3) (h:Below w1.heap.size w1 wx):Below w1.heap.size w1 w3:=h.trans (b.mono h.size)
end Go.Proofs.YtfiflinbicbedaaGreat
namespace Go.Proofs.YtfiflinbicbedaaGreat
open Go.RowKit
theorem qX1:(Tryz.prog.info? 3).map (fun i=>(i.zero,i.size,i.bytes))=some (some (.int .i64 0),1,8):=by kernel_rfl
theorem zk3 (N:Nat) (hN:N<=1000000):∃ cur:Array Value,cur.size=N*1/\∀ w:World,(Instr.makeSlice 40 (.int .i64 0) (.int .i64 (N:Int))).run Tryz.prog w = .ok (.slice (some ⟨w.heap.size,0,none⟩) 0 N) (w.alloc (.cells cur 3)):=by
 obtain ⟨i0,hi,hz0,hz1,hz2⟩:=info_parts qX1;refine ⟨madeCells (.int .i64 0:Value).cells (N*1),by rw [size_madeCells],fun w=>?_⟩;have:=run_makeSlice (P:=Tryz.prog) (w:=w) 40 3 i0 _ Tryz.underlying40 hi hz0 .i64 .i64 0 (N:Int) (by omega) (by omega) (by rw [hz1];simp;omega) (by rw [hz2];omega) (by omega);rw [this,hz1];simp only [Int.toNat_natCast,Int.toNat_zero]
theorem YX (A:Option Addr) (n c N:Nat) (ps:List Pc) (w:World) (hp:YU w 1 A ps) (hn:ps.length=n) (hN:Xn ps=N) (hb:N<=1000000) (hm:n<=1000000) :
 Calls Tryz.prog 81 #[.slice A n c] w (Vl w 3 1 N (QT ps)):=by
 obtain ⟨i0,hi,hz0,hz1,hz2⟩:=info_parts qX1;obtain ⟨cur,hcs,hmk⟩:=zk3 N hb;have HP:=iQ hp;have HL:=iQ hn;have HT:=iQ hN;have HC:=iQ hcs;clear hp hn hN hcs;go_enter Tryz.func81,Tryz.ntmps81;go_wp2_with fail;obtain ⟨wo,rfl⟩:∃ wo:World,wo=w:=⟨_,rfl⟩;go_loopw [3,11] (fun s i wr=>∃ k:Nat,k<=n/\i = .int .i64 k/\s = .int .i64 (Xn (ps.take k):Nat)/\wr=wo) (fun _ i _=>n - (RowKit.intOf i).toNat)
 case atStart=>exact ⟨0,wb3 _,rfl,rfl,rfl⟩
 case round =>
  obtain ⟨k,hk,rfl,rfl,hw⟩:=hrel;have hw':=hw.symm;subst hw';clear hw;by_cases hlt:k<n
  ·obtain ⟨b,off,p,rfl,hv,c0,_,_⟩:=HP.out.at_ (k:=k) (by rw [HL.out];exact hlt)
   have hle:=JS ps (k+1);rw [Yx hv,HT.out] at hle;have HV:=iQ (Yx hv);clear hv;generalize Xn (ps.take k)=t at *;go_wp2_with fail;go_roundw;case rel =>
    refine ⟨k+1,by omega,by go_num,?_,trivial⟩;rw [HV.out]
    go_num
   case measure=>simp [RowKit.intOf];omega
  ·obtain rfl:n=k:=by omega
   have e1:Xn (ps.take n)=N:=by rw [wa5 (by rw [HL.out];omega),HT.out]
   rw [e1];clear e1;go_wp2_with fail;have O0:Hid ((wo.alloc (.cells cur 3)).ownsRow wo.heap.size 3 1 (.slice (some ⟨wo.heap.size,0,none⟩) 0 N) 0 []):=iQ (World.ownsRow_made wo cur N (wa2 _) (by unfold maxLen;omega) HC.out);have B0:Hid (Below wo.heap.size wo (wo.alloc (.cells cur 3))):=iQ (Qa _ _);generalize wo.alloc (.cells cur 3)=w0 at *;clear hmk hlt;go_loopw [6,24] (fun v i wk=>∃ k:Nat,k<=n/\i = .int .i64 k/\Hid (wk.ownsRow wo.heap.size 3 1 v (Xn (ps.take k)) (QT (ps.take k)))/\Hid (Below wo.heap.size wo wk)) (fun _ i _=>n - (RowKit.intOf i).toNat)
   case atStart=>exact ⟨0,wb3 _,rfl,O0,B0⟩
   case round =>
    obtain ⟨k,hk,rfl,O1,B1⟩:=hrel;by_cases hlt:k<n
    ·obtain ⟨b,off,p,rfl,hv,c0,hp1,hp2⟩:=(HP.out.kept B1.out).at_ (k:=k) (by rw [HL.out];exact hlt)
     have hle:=JS ps (k+1);rw [Yx hv,HT.out] at hle;have HV:=iQ (Yx hv);have TJ:=iQ (YM hv);have YT:=iQ hp1;have HP2:=iQ hp2;clear hv hp1 hp2;have bs:=B1.out.size;have o1:=O1.out;generalize Xn (ps.take k)=t at *;go_wp2_with (at_builtin;refine Qo _ rfl (.tmp 28) (.tmp 29) 40 rfl wo.heap.size 3 i0 (.int .i64 0) 1 8 Tryz.underlying40 hi hz0 hz1 hz2 rfl (by decide) _ _ _ rfl o1 p.A p.n p.c p.cs rfl YT.out.len YT.out.lies HP2.out (by unfold maxLen;omega) (by omega) bs ?_;intro v3 w3 hown3 hg3);have O3:Hid (w3.ownsRow wo.heap.size 3 1 v3 (Xn (ps.take (k+1))) (QT (ps.take (k+1)))):=by
      rw [HV.out,TJ.out];exact iQ hown3
     have B3:Hid (Below wo.heap.size wo w3):=iQ (B1.out.grown hg3 bs (fun g hg=>(o1.lt g hg).1));clear hown3 hg3 o1 O1 B1 HV TJ YT HP2;go_roundw;case rel=>exact ⟨k+1,by omega,by go_num,O3,B3⟩
     case measure=>simp [RowKit.intOf];omega
    ·obtain rfl:n=k:=by omega
     have e1:Xn (ps.take n)=N:=by rw [wa5 (by rw [HL.out];omega),HT.out]
     have e2:ps.take n=ps:=wa5 (by rw [HL.out];omega);rw [e1,e2] at O1;go_wp2_with fail;go_ret;exact ⟨_,rfl,O1.out,B1.out⟩
end Go.Proofs.YtfiflinbicbedaaGreat
namespace Go.Proofs.YtfiflinbicbedaaGreat
open Go.RowKit
theorem qv4:(Tryz.prog.info? 98).map (fun i=>(i.zero,i.size,i.bytes))=some (some (.agg #[.int .i64 0,.int .i64 0]),2,16):=by kernel_rfl
theorem zk4 (N:Nat) (hN:N<=1000000):∃ cur:Array Value,cur.size=N*2/\∀ w:World,(Instr.makeSlice 43 (.int .i64 0) (.int .i64 (N:Int))).run Tryz.prog w = .ok (.slice (some ⟨w.heap.size,0,none⟩) 0 N) (w.alloc (.cells cur 98)):=by
 obtain ⟨i0,hi,hz0,hz1,hz2⟩:=info_parts qv4;refine ⟨madeCells (.agg #[.int .i64 0,.int .i64 0]:Value).cells (N*2),by rw [size_madeCells],fun w=>?_⟩;have:=run_makeSlice (P:=Tryz.prog) (w:=w) 43 98 i0 _ Tryz.underlying43 hi hz0 .i64 .i64 0 (N:Int) (by omega) (by omega) (by rw [hz1];simp;omega) (by rw [hz2];omega) (by omega);rw [this,hz1];simp only [Int.toNat_natCast,Int.toNat_zero]
theorem VX (A:Option Addr) (n c N:Nat) (ps:List Pc) (w:World) (hp:YU w 2 A ps) (hn:ps.length=n) (hN:Xn ps=N) (hb:N<=1000000) (hm:n<=1000000) :
 Calls Tryz.prog 44 #[.slice A n c] w (Vl w 98 2 N (QT ps)):=by
 obtain ⟨i0,hi,hz0,hz1,hz2⟩:=info_parts qv4;obtain ⟨cur,hcs,hmk⟩:=zk4 N hb;have HP:=iQ hp;have HL:=iQ hn;have HT:=iQ hN;have HC:=iQ hcs;clear hp hn hN hcs;go_enter Tryz.func44,Tryz.ntmps44;go_wp2_with fail;obtain ⟨wo,rfl⟩:∃ wo:World,wo=w:=⟨_,rfl⟩;go_loopw [3,11] (fun s i wr=>∃ k:Nat,k<=n/\i = .int .i64 k/\s = .int .i64 (Xn (ps.take k):Nat)/\wr=wo) (fun _ i _=>n - (RowKit.intOf i).toNat)
 case atStart=>exact ⟨0,wb3 _,rfl,rfl,rfl⟩
 case round =>
  obtain ⟨k,hk,rfl,rfl,hw⟩:=hrel;have hw':=hw.symm;subst hw';clear hw;by_cases hlt:k<n
  ·obtain ⟨b,off,p,rfl,hv,c0,_,_⟩:=HP.out.at_ (k:=k) (by rw [HL.out];exact hlt)
   have hle:=JS ps (k+1);rw [Yx hv,HT.out] at hle;have HV:=iQ (Yx hv);clear hv;generalize Xn (ps.take k)=t at *;go_wp2_with fail;go_roundw;case rel =>
    refine ⟨k+1,by omega,by go_num,?_,trivial⟩;rw [HV.out]
    go_num
   case measure=>simp [RowKit.intOf];omega
  ·obtain rfl:n=k:=by omega
   have e1:Xn (ps.take n)=N:=by rw [wa5 (by rw [HL.out];omega),HT.out]
   rw [e1];clear e1;go_wp2_with fail;have O0:Hid ((wo.alloc (.cells cur 98)).ownsRow wo.heap.size 98 2 (.slice (some ⟨wo.heap.size,0,none⟩) 0 N) 0 []):=iQ (World.ownsRow_made wo cur N (wa2 _) (by unfold maxLen;omega) HC.out);have B0:Hid (Below wo.heap.size wo (wo.alloc (.cells cur 98))):=iQ (Qa _ _);generalize wo.alloc (.cells cur 98)=w0 at *;clear hmk hlt;go_loopw [6,24] (fun v i wk=>∃ k:Nat,k<=n/\i = .int .i64 k/\Hid (wk.ownsRow wo.heap.size 98 2 v (Xn (ps.take k)) (QT (ps.take k)))/\Hid (Below wo.heap.size wo wk)) (fun _ i _=>n - (RowKit.intOf i).toNat)
   case atStart=>exact ⟨0,wb3 _,rfl,O0,B0⟩
   case round =>
    obtain ⟨k,hk,rfl,O1,B1⟩:=hrel;by_cases hlt:k<n
    ·obtain ⟨b,off,p,rfl,hv,c0,hp1,hp2⟩:=(HP.out.kept B1.out).at_ (k:=k) (by rw [HL.out];exact hlt)
     have hle:=JS ps (k+1);rw [Yx hv,HT.out] at hle;have HV:=iQ (Yx hv);have TJ:=iQ (YM hv);have YT:=iQ hp1;have HP2:=iQ hp2;clear hv hp1 hp2;have bs:=B1.out.size;have o1:=O1.out;generalize Xn (ps.take k)=t at *;go_wp2_with (at_builtin;refine Qo _ rfl (.tmp 28) (.tmp 29) 43 rfl wo.heap.size 98 i0 (.agg #[.int .i64 0,.int .i64 0]) 2 16 Tryz.underlying43 hi hz0 hz1 hz2 rfl (by decide) _ _ _ rfl o1 p.A p.n p.c p.cs rfl YT.out.len YT.out.lies HP2.out (by unfold maxLen;omega) (by omega) bs ?_;intro v3 w3 hown3 hg3);have O3:Hid (w3.ownsRow wo.heap.size 98 2 v3 (Xn (ps.take (k+1))) (QT (ps.take (k+1)))):=by
      rw [HV.out,TJ.out];exact iQ hown3
     have B3:Hid (Below wo.heap.size wo w3):=iQ (B1.out.grown hg3 bs (fun g hg=>(o1.lt g hg).1));clear hown3 hg3 o1 O1 B1 HV TJ YT HP2;go_roundw;case rel=>exact ⟨k+1,by omega,by go_num,O3,B3⟩
     case measure=>simp [RowKit.intOf];omega
    ·obtain rfl:n=k:=by omega
     have e1:Xn (ps.take n)=N:=by rw [wa5 (by rw [HL.out];omega),HT.out]
     have e2:ps.take n=ps:=wa5 (by rw [HL.out];omega);rw [e1,e2] at O1;go_wp2_with fail;go_ret;exact ⟨_,rfl,O1.out,B1.out⟩
end Go.Proofs.YtfiflinbicbedaaGreat
namespace Go.Proofs.YtfiflinbicbedaaGreat
open Go.RowKit
theorem FP {s:SS} {t z:Int} (hv:s.fr[0]?=some z):s.take t=(0,z,{ s with fr:=s.fr.drop 1 }):=by
 unfold SS.take;cases h:s.fr with
 | nil=>rw [h] at hv;cases hv
 | cons y l =>
   rw [h] at hv;obtain rfl:=wa0 hv;rfl
theorem qK4 (s:SS) (h t:Int) (A B:Option Addr) (n c m d:Nat) (w:World) (hh:s.hi=h) (hs:Sp w A n c B m d s) (hn:n<=400000) (hm:m<=400000) (hn0:0<n) (hc1:1<c) :
 Calls Tryz.prog 205 #[.agg #[.int .i64 h,.slice A n c,.slice B m d],.int .i64 t] w (XL w (s.take t)):=by
 obtain ⟨b,off,z,rfl,hv,hz⟩:=hs.fr.iA hn0;have HT:=iQ (FP (t:=t) hv);obtain ⟨Vh,tb2,Xm⟩:=Vm w (.int .i64 h) (.slice (some ⟨b,off,none⟩) n c) (.slice B m d) (.int .i64 0) (.slice none 0 0) (.slice none 0 0);have HS:=iQ (hs.kept Xm);have HB:=iQ Vh;have HR:=iQ tb2;have B0:=iQ Xm;have HH:=iQ hh;have HZ:=iQ hz;clear hs hh hv Vh tb2 Xm hz;have hsz:((w.alloc (.cells #[.int .i64 h,.slice (some ⟨b,off,none⟩) n c,.slice B m d] 45)).alloc (.cells #[.int .i64 0,.slice none 0 0,.slice none 0 0] 45)).heap.size=w.heap.size+1+1:=by simp
 have P0:=Za HS.out.pe (Yu _) 43;rw [hsz] at P0;have HP0:=iQ P0;clear P0 hsz;go_enter Tryz.func205,Tryz.ntmps205;go_wp2_with fail;generalize (w.alloc (.cells #[.int .i64 h,.slice (some ⟨b,off,none⟩) n c,.slice B m d] 45)).alloc (.cells #[.int .i64 0,.slice none 0 0,.slice none 0 0] 45)=w0 at *;refine (VX _ 1 1 m _ _ HP0.out rfl (by simp [Xn]) (by omega) (by decide)).mono ?_;rintro e w1 ⟨v1,rfl,o1,b1⟩;rw [Kz] at o1;have b01:Below w0.heap.size w0 w1:=(Qa w0 (.cells #[.slice B m d] 43)).trans (b1.mono (Qa w0 (.cells #[.slice B m d] 43)).size);obtain ⟨B1,d1,rfl,hd1,l1⟩:=Ln.oo o1;have HI1:Hid (Hi (w.heap.size+1+1) B1):=iQ ((Hi.oo o1).low (by have:=HR.out.lt;have:=(Qa w0 (.cells #[.slice B m d] 43)).size;omega));have L1:=iQ l1;have Kv:=iQ b01;have HB1:=iQ (HB.out.kept b01);have HR1:=iQ (HR.out.kept b01);clear b1 o1 l1 b01 HP0;obtain ⟨a0,a1,a2⟩:=HB1.out.cells;have n0:(0:Int)<(n:Int):=by omega
 have n1:(1:Int)<=(n:Int):=by omega
 have n2:(n:Int)<=(c:Int):=by have:=HS.out.fr.le;omega
 have n3:(1:Int)<(c:Int):=by omega
 have n4:¬ c=1:=by omega
 have n5:(1:Int)<=(c:Int):=by omega
 have hbz:b<w.heap.size:=World.block_lt_of_cell? _ _ HZ.out;have HZ1:Hid (w1.drew.cell? ⟨b,off,none⟩=some (.int .i64 z)):=iQ (((B0.out.trans (Kv.out.mono B0.out.size)).cell (p:=⟨b,off,none⟩) hbz).trans HZ.out);have hb1:b<w1.heap.size:=World.block_lt_of_cell? _ _ HZ1.out;have K0:w1.drew.cell? ⟨w.heap.size,0,none⟩=some (.int .i64 h)/\w1.drew.cell? ⟨w.heap.size,1,none⟩=some (.slice (some ⟨b,off,none⟩) n c)/\w1.drew.cell? ⟨b,off,none⟩=some (.int .i64 z):=⟨HB1.out.cells.1,HB1.out.cells.2.1,HZ1.out⟩;have BA:=iQ ((Qa w1 (.cells #[.slice (some ⟨b,off+1,none⟩) (n - 1) (c - 1)] 40)).drew);have PL:=iQ (Za (w:=w1) (((HS.out.fr.kept Kv.out)).intDrop (k:=1) (by omega)) (Qr _) 40);have PL2:=iQ (PL.out.kept ((Below.refl _ _).drew));have K1:((w1.alloc (.cells #[.slice (some ⟨b,off+1,none⟩) (n - 1) (c - 1)] 40)).drew).cell? ⟨w.heap.size,0,none⟩=some (.int .i64 h)/\((w1.alloc (.cells #[.slice (some ⟨b,off+1,none⟩) (n - 1) (c - 1)] 40)).drew).cell? ⟨w.heap.size,1,none⟩=some (.slice (some ⟨b,off,none⟩) n c)/\((w1.alloc (.cells #[.slice (some ⟨b,off+1,none⟩) (n - 1) (c - 1)] 40)).drew).cell? ⟨b,off,none⟩=some (.int .i64 z) :=
  ⟨(HB1.out.kept BA.out).cells.1,(HB1.out.kept BA.out).cells.2.1,(BA.out.cell (p:=⟨b,off,none⟩) hb1).trans HZ1.out⟩
 clear a0 a1 a2;obtain ⟨x0,x1,x2⟩:=K0;have K0:w1.drew.cell? ⟨w.heap.size,0,none⟩=some (.int .i64 h)/\w1.drew.cell? ⟨w.heap.size,1,none⟩=some (.slice (some ⟨b,off,none⟩) n c)/\w1.drew.cell? ⟨b,off,none⟩=some (.int .i64 z):=⟨HB1.out.cells.1,HB1.out.cells.2.1,HZ1.out⟩;obtain ⟨y0,y1,y2⟩:=HB1.out.cells;go_wp2_with fail;clear y0 y1 y2;go_region_held3 (fun w'=>w'.cell? ⟨w.heap.size,0,none⟩=some (.int .i64 h)/\w'.cell? ⟨w.heap.size,1,none⟩=some (.slice (some ⟨b,off,none⟩) n c)/\w'.cell? ⟨b,off,none⟩=some (.int .i64 z))
  (first | exact K3 | exact K2 | exact K1 | exact K0)
  (first
    | (go_at_call 81;refine (YX _ 1 1 (n - 1) _ _ PL2.out rfl (by simp [Xn]) (by omega) (by decide)).mono ?_;rintro e w2 ⟨v2,rfl,o2,b2⟩;have HB2:=iQ ((HB1.out.kept BA.out).kept b2);have HR2:=iQ ((HR1.out.kept BA.out).kept b2);have K2:w2.cell? ⟨w.heap.size,0,none⟩=some (.int .i64 h)/\w2.cell? ⟨w.heap.size,1,none⟩=some (.slice (some ⟨b,off,none⟩) n c)/\w2.cell? ⟨b,off,none⟩=some (.int .i64 z):=⟨HB2.out.cells.1,HB2.out.cells.2.1,(b2.cell (p:=⟨b,off,none⟩) (wa3 hb1 BA.out.size)).trans K1.2.2⟩;obtain ⟨q0,q1,q2⟩:=HR2.out.cells;obtain ⟨f0,f1,f2⟩:=HR2.out.free;obtain ⟨A2,c2,rfl,hc2,l2⟩:=Ln.oo o2;have PU:=JU.put w2 (w.heap.size+1) (.int .i64 h) (.slice A2 (n - 1) c2) (.slice B1 m d1);have K3:=(show _/\_/\_ from ⟨(PU.cell (k:=w.heap.size) (by omega) 0).trans K2.1,(PU.cell (k:=w.heap.size) (by omega) 1).trans K2.2.1,(PU.cell (k:=b) (by omega) off).trans K2.2.2⟩)))
 have HI2:Hid (Hi (w.heap.size+1+1) A2):=iQ ((Hi.oo o2).low (by have:=HR1.out.lt;have:=BA.out.size;omega));have B2:=iQ (B0.out.trans (((Kv.out.trans (BA.out.mono Kv.out.size)).trans (b2.mono (wa9 Kv.out.size BA.out.size))).mono B0.out.size));rw [Kz] at l2;have HSp:Hid (Sp w2 A2 (n - 1) c2 B1 m d1 { s with fr:=s.fr.drop 1 }):=iQ ⟨l2,(L1.out.kept BA.out).kept b2⟩
 have HD:=iQ (Yn (h:=h) B2.out (wd3 _) HSp.out HI2.out HI1.out HH.out (.int .i64 h) (.slice A2 (n - 1) c2) (.slice B1 m d1));have HQ:=iQ (HR2.out.put (.int .i64 h) (.slice A2 (n - 1) c2) (.slice B1 m d1));obtain ⟨e0,e1,e2⟩:=HQ.out.cells;go_wp2_with fail;refine bodyPost_ret (v := .tuple #[.agg #[.int .i64 h,.slice A2 (n - 1) c2,.slice B1 m d1],.int .i64 z,.int .i64 0]) (by simp [results,Tryz.results205,go_sem,e0,e1,e2]) rfl ?_;rw [HT.out];exact ⟨_,rfl,HD.out.1,HD.out.2⟩
theorem qB3 (s:SS) (h t:Int) (A B:Option Addr) (m d:Nat) (w:World) (hh:s.hi=h) (hs:Sp w A 1 1 B m d s) (hm:m<=400000) :
 Calls Tryz.prog 205 #[.agg #[.int .i64 h,.slice A 1 1,.slice B m d],.int .i64 t] w (XL w (s.take t)):=by
 obtain ⟨b,off,z,rfl,hv,hz⟩:=hs.fr.iA (k:=0) (by omega);have HT:=iQ (FP (t:=t) hv);obtain ⟨Vh,tb2,Xm⟩:=Vm w (.int .i64 h) (.slice (some ⟨b,off,none⟩) 1 1) (.slice B m d) (.int .i64 0) (.slice none 0 0) (.slice none 0 0);have HS:=iQ (hs.kept Xm);have HB:=iQ Vh;have HR:=iQ tb2;have B0:=iQ Xm;have HH:=iQ hh;have HZ:=iQ hz;clear hs hh hv Vh tb2 Xm hz;have hsz:((w.alloc (.cells #[.int .i64 h,.slice (some ⟨b,off,none⟩) 1 1,.slice B m d] 45)).alloc (.cells #[.int .i64 0,.slice none 0 0,.slice none 0 0] 45)).heap.size=w.heap.size+1+1:=by simp
 have P0:=Za HS.out.pe (Yu _) 43;rw [hsz] at P0;have HP0:=iQ P0;clear P0 hsz;go_enter Tryz.func205,Tryz.ntmps205;go_wp2_with fail;generalize (w.alloc (.cells #[.int .i64 h,.slice (some ⟨b,off,none⟩) 1 1,.slice B m d] 45)).alloc (.cells #[.int .i64 0,.slice none 0 0,.slice none 0 0] 45)=w0 at *;refine (VX _ 1 1 m _ _ HP0.out rfl (by simp [Xn]) (by omega) (by decide)).mono ?_;rintro e w1 ⟨v1,rfl,o1,b1⟩;rw [Kz] at o1;have b01:Below w0.heap.size w0 w1:=(Qa w0 (.cells #[.slice B m d] 43)).trans (b1.mono (Qa w0 (.cells #[.slice B m d] 43)).size);obtain ⟨B1,d1,rfl,hd1,l1⟩:=Ln.oo o1;have HI1:Hid (Hi (w.heap.size+1+1) B1):=iQ ((Hi.oo o1).low (by have:=HR.out.lt;have:=(Qa w0 (.cells #[.slice B m d] 43)).size;omega));have L1:=iQ l1;have Kv:=iQ b01;have HB1:=iQ (HB.out.kept b01);have HR1:=iQ (HR.out.kept b01);clear b1 o1 l1 b01 HP0;obtain ⟨a0,a1,a2⟩:=HB1.out.cells;have hbz:b<w.heap.size:=World.block_lt_of_cell? _ _ HZ.out;have HZ1:Hid (w1.drew.cell? ⟨b,off,none⟩=some (.int .i64 z)):=iQ (((B0.out.trans (Kv.out.mono B0.out.size)).cell (p:=⟨b,off,none⟩) hbz).trans HZ.out);have hb1:b<w1.heap.size:=World.block_lt_of_cell? _ _ HZ1.out;have K0:w1.drew.cell? ⟨w.heap.size,0,none⟩=some (.int .i64 h)/\w1.drew.cell? ⟨w.heap.size,1,none⟩=some (.slice (some ⟨b,off,none⟩) 1 1)/\w1.drew.cell? ⟨b,off,none⟩=some (.int .i64 z):=⟨HB1.out.cells.1,HB1.out.cells.2.1,HZ1.out⟩;have BA:=iQ ((Qa w1 (.cells #[.slice (some ⟨b,off,none⟩) 0 0] 40)).drew);have PL:=iQ (Za (w:=w1) (by have:=HS.out.fr.intN;rw [wc6 (by omega)];exact Ln.empty _ _ _ _:Ln w1 1 (some ⟨b,off,none⟩) 0 0 (Qc (s.fr.drop 1))) (Qr _) 40);have PL2:=iQ (PL.out.kept ((Below.refl _ _).drew));have K1:((w1.alloc (.cells #[.slice (some ⟨b,off,none⟩) 0 0] 40)).drew).cell? ⟨w.heap.size,0,none⟩=some (.int .i64 h)/\((w1.alloc (.cells #[.slice (some ⟨b,off,none⟩) 0 0] 40)).drew).cell? ⟨w.heap.size,1,none⟩=some (.slice (some ⟨b,off,none⟩) 1 1)/\((w1.alloc (.cells #[.slice (some ⟨b,off,none⟩) 0 0] 40)).drew).cell? ⟨b,off,none⟩=some (.int .i64 z) :=
  ⟨(HB1.out.kept BA.out).cells.1,(HB1.out.kept BA.out).cells.2.1,(BA.out.cell (p:=⟨b,off,none⟩) hb1).trans HZ1.out⟩
 clear a0 a1 a2;obtain ⟨x0,x1,x2⟩:=K0;have K0:w1.drew.cell? ⟨w.heap.size,0,none⟩=some (.int .i64 h)/\w1.drew.cell? ⟨w.heap.size,1,none⟩=some (.slice (some ⟨b,off,none⟩) 1 1)/\w1.drew.cell? ⟨b,off,none⟩=some (.int .i64 z):=⟨HB1.out.cells.1,HB1.out.cells.2.1,HZ1.out⟩;obtain ⟨y0,y1,y2⟩:=HB1.out.cells;go_wp2_with fail;clear y0 y1 y2;go_region_held3 (fun w'=>w'.cell? ⟨w.heap.size,0,none⟩=some (.int .i64 h)/\w'.cell? ⟨w.heap.size,1,none⟩=some (.slice (some ⟨b,off,none⟩) 1 1)/\w'.cell? ⟨b,off,none⟩=some (.int .i64 z))
  (first | exact K3 | exact K2 | exact K1 | exact K0)
  (first
    | (go_at_call 81;refine (YX _ 1 1 0 _ _ PL2.out rfl (by simp [Xn]) (by omega) (by decide)).mono ?_;rintro e w2 ⟨v2,rfl,o2,b2⟩;have HB2:=iQ ((HB1.out.kept BA.out).kept b2);have HR2:=iQ ((HR1.out.kept BA.out).kept b2);have K2:w2.cell? ⟨w.heap.size,0,none⟩=some (.int .i64 h)/\w2.cell? ⟨w.heap.size,1,none⟩=some (.slice (some ⟨b,off,none⟩) 1 1)/\w2.cell? ⟨b,off,none⟩=some (.int .i64 z):=⟨HB2.out.cells.1,HB2.out.cells.2.1,(b2.cell (p:=⟨b,off,none⟩) (wa3 hb1 BA.out.size)).trans K1.2.2⟩;obtain ⟨q0,q1,q2⟩:=HR2.out.cells;obtain ⟨f0,f1,f2⟩:=HR2.out.free;obtain ⟨A2,c2,rfl,hc2,l2⟩:=Ln.oo o2;have PU:=JU.put w2 (w.heap.size+1) (.int .i64 h) (.slice A2 0 c2) (.slice B1 m d1);have K3:=(show _/\_/\_ from ⟨(PU.cell (k:=w.heap.size) (by omega) 0).trans K2.1,(PU.cell (k:=w.heap.size) (by omega) 1).trans K2.2.1,(PU.cell (k:=b) (by omega) off).trans K2.2.2⟩)))
 have HI2:Hid (Hi (w.heap.size+1+1) A2):=iQ ((Hi.oo o2).low (by have:=HR1.out.lt;have:=BA.out.size;omega));have B2:=iQ (B0.out.trans (((Kv.out.trans (BA.out.mono Kv.out.size)).trans (b2.mono (wa9 Kv.out.size BA.out.size))).mono B0.out.size));rw [Kz] at l2;have HSp:Hid (Sp w2 A2 0 c2 B1 m d1 { s with fr:=s.fr.drop 1 }):=iQ ⟨l2,(L1.out.kept BA.out).kept b2⟩
 have HD:=iQ (Yn (h:=h) B2.out (wd3 _) HSp.out HI2.out HI1.out HH.out (.int .i64 h) (.slice A2 0 c2) (.slice B1 m d1));have HQ:=iQ (HR2.out.put (.int .i64 h) (.slice A2 0 c2) (.slice B1 m d1));obtain ⟨e0,e1,e2⟩:=HQ.out.cells;go_wp2_with fail;refine bodyPost_ret (v := .tuple #[.agg #[.int .i64 h,.slice A2 0 c2,.slice B1 m d1],.int .i64 z,.int .i64 0]) (by simp [results,Tryz.results205,go_sem,e0,e1,e2]) rfl ?_;rw [HT.out];exact ⟨_,rfl,HD.out.1,HD.out.2⟩
theorem qB4 {s:SS} {t:Int} (hl:s.fr.length=0) (hv:¬ s.hi<t):s.take t=(81,0,SS.none):=by
 unfold SS.take;rw [wb2 hl];simp only;rw [if_neg hv]
theorem qK5 {s:SS} {t:Int} (hl:s.fr.length=0) (hv:s.hi<t):s.take t=(0,s.hi,⟨s.hi+1,[],s.pe⟩):=by
 unfold SS.take;rw [wb2 hl];simp only;rw [if_pos hv]
theorem qB1 (s:SS) (h t:Int) (A B:Option Addr) (c m d:Nat) (w:World) (hh:s.hi=h) (hs:Sp w A 0 c B m d s) (hm:m<=400000) (h1 : -9223372036854775808<=h) (h2:t<=9223372036854775807) :
 Calls Tryz.prog 205 #[.agg #[.int .i64 h,.slice A 0 c,.slice B m d],.int .i64 t] w (XL w (s.take t)):=by
 obtain ⟨Vh,tb2,Xm⟩:=Vm w (.int .i64 h) (.slice A 0 c) (.slice B m d) (.int .i64 0) (.slice none 0 0) (.slice none 0 0);have HS:=iQ (hs.kept Xm);have HB:=iQ Vh;have HR:=iQ tb2;have B0:=iQ Xm;have HFL:=iQ hs.fl;clear hs Vh tb2 Xm;have hsz:((w.alloc (.cells #[.int .i64 h,.slice A 0 c,.slice B m d] 45)).alloc (.cells #[.int .i64 0,.slice none 0 0,.slice none 0 0] 45)).heap.size=w.heap.size+1+1:=by simp
 have P0:=Za HS.out.pe (Yu _) 43;rw [hsz] at P0;have HP0:=iQ P0;have HH:=iQ hh;clear P0 hsz hh;go_enter Tryz.func205,Tryz.ntmps205;go_wp2_with fail;generalize (w.alloc (.cells #[.int .i64 h,.slice A 0 c,.slice B m d] 45)).alloc (.cells #[.int .i64 0,.slice none 0 0,.slice none 0 0] 45)=w0 at *;refine (VX _ 1 1 m _ _ HP0.out rfl (by simp [Xn]) (by omega) (by decide)).mono ?_;rintro e w1 ⟨v1,rfl,o1,b1⟩;rw [Kz] at o1;have b01:Below w0.heap.size w0 w1:=(Qa w0 (.cells #[.slice B m d] 43)).trans (b1.mono (Qa w0 (.cells #[.slice B m d] 43)).size);obtain ⟨B1,d1,rfl,hd1,l1⟩:=Ln.oo o1;have HI1:Hid (Hi (w.heap.size+1+1) B1):=iQ ((Hi.oo o1).low (by have:=HR.out.lt;have:=(Qa w0 (.cells #[.slice B m d] 43)).size;omega));have L1:=iQ l1;have B2:=iQ (B0.out.trans (b01.mono B0.out.size));have HB1:=iQ (HB.out.kept b01);have HR1:=iQ (HR.out.kept b01);clear b1 o1 l1 b01 HP0;obtain ⟨y0,y1,y2⟩:=HB1.out.cells;obtain ⟨q0,q1,q2⟩:=HR1.out.cells;obtain ⟨f0,f1,f2⟩:=HR1.out.free;by_cases hlt:h<t
 ·have i1:IntKind.i64.wrap (h+1)=h+1:=IntWalk.i64_in _ (by omega)
  have HT:=iQ (qK5 (s:=s) (t:=t) HFL.out (by rw [HH.out];exact hlt));have K0:w1.drew.cell? ⟨w.heap.size,0,none⟩=some (.int .i64 h):=y0;have PU:=JU.put w1 (w.heap.size+1) (.int .i64 (h+1)) (.slice none 0 0) (.slice B1 m d1);have K1:=(PU.cell (k:=w.heap.size) (by omega) 0).trans y0;clear PU;go_wp2_with fail;go_region_held3 (fun w'=>w'.cell? ⟨w.heap.size,0,none⟩=some (.int .i64 h)) (first | exact K1 | exact K0) (fail)
  have HSp:Hid (Sp w1 none 0 0 B1 m d1 ⟨s.hi+1,[],s.pe⟩):=iQ ⟨Ln.none_ _ _,L1.out⟩;have HD:=iQ (Yn (h:=h+1) B2.out (wd3 _) HSp.out (Hi.none_ _) HI1.out (by rw [HH.out]) (.int .i64 (h+1)) (.slice none 0 0) (.slice B1 m d1));have HQ:=iQ (HR1.out.put (.int .i64 (h+1)) (.slice none 0 0) (.slice B1 m d1));obtain ⟨e0,e1,e2⟩:=HQ.out.cells;go_wp2_with fail;refine bodyPost_ret (v := .tuple #[.agg #[.int .i64 (h+1),.slice none 0 0,.slice B1 m d1],.int .i64 h,.int .i64 0]) (by simp [results,Tryz.results205,go_sem,e0,e1,e2]) rfl ?_;rw [HT.out];exact ⟨_,by rw [HH.out],HD.out.1.kept ((Below.refl _ _).drew),HD.out.2.drew⟩
 ·have HT:=iQ (qB4 (s:=s) (t:=t) HFL.out (by rw [HH.out];exact hlt))
  have HD:=iQ (Yn (h:=0) B2.out (wd3 _) (Sp.zero w1) (Hi.none_ _) (Hi.none_ _) rfl (.int .i64 0) (.slice none 0 0) (.slice none 0 0));have HQ:=iQ (HR1.out.put (.int .i64 0) (.slice none 0 0) (.slice none 0 0));obtain ⟨e0,e1,e2⟩:=HQ.out.cells;go_wp2_with fail;refine bodyPost_ret (v := .tuple #[.agg #[.int .i64 0,.slice none 0 0,.slice none 0 0],.int .i64 0,.int .i64 81]) (by simp [results,Tryz.results205,go_sem,e0,e1,e2]) rfl ?_;rw [HT.out];exact ⟨_,rfl,HD.out.1,HD.out.2⟩
theorem qZ3 (s:SS) (h t:Int) (A B:Option Addr) (n c m d:Nat) (w:World) (hh:s.hi=h) (hs:Sp w A n c B m d s) (hn:n<=400000) (hm:m<=400000) (h1 : -9223372036854775808<=h) (h2:t<=9223372036854775807) :
 Calls Tryz.prog 205 #[.agg #[.int .i64 h,.slice A n c,.slice B m d],.int .i64 t] w (XL w (s.take t)):=by
 have hc:=hs.fr.le;by_cases hn0:n=0
 ·subst hn0
  exact qB1 s h t A B c m d w hh hs hm h1 h2
 ·by_cases hc1:1<c
  ·exact qK4 s h t A B n c m d w hh hs hn hm (by omega) hc1
  ·obtain rfl:c=1:=by omega
   obtain rfl:n=1:=by omega
   exact qB3 s h t A B m d w hh hs hm
end Go.Proofs.YtfiflinbicbedaaGreat
namespace Go.Proofs.YtfiflinbicbedaaGreat
open Go.RowKit
theorem za5 {ps:List (Int×Int)} {k:Nat} {x y:Int} (h:ps[k]?=some (x,y)):Qc ((ps.take (k+1)).map (·.2))=Qc ((ps.take k).map (·.2))++[.int .i64 y]:=by
 rw [wc2,h,wd0,wc8,Yy];rfl
theorem XP (w:World) (o:Obj) (y:Value) (t:TypeId):∀ j u,[y][j]?=some u->((w.alloc o).alloc (.cells #[y] t)).cell? ((⟨w.heap.size+1,0,none⟩:Addr).add j)=some u:=by
 have h:=cell_one_new (w.alloc o) y t;rw [show (w.alloc o).heap.size=w.heap.size+1 by simp] at h;exact h
theorem qi0 (A:Option Addr) (n c:Nat) (ps:List (Int×Int)) (w:World) (hp:Ln w 2 A n c (Zi ps)) (hn:n<=1000000) :
 Calls Tryz.prog 120 #[.slice A n c] w (Vl w 3 1 n (Qc (ps.map (·.2)))):=by
 obtain ⟨i0,hi,hz0,hz1,hz2⟩:=info_parts QP;have HP:=iQ hp;have HN:=iQ hp.prN;clear hp;go_enter Tryz.func120,Tryz.ntmps120;go_wp2_with fail;go_loopw [3,8] (fun v i wk=>∃ k:Nat,k<=n/\i = .int .i64 k/\Hid (wk.ownsRow w.heap.size 3 1 v k (Qc ((ps.take k).map (·.2))))/\Hid (Below w.heap.size w wk)) (fun _ i _=>n - (RowKit.intOf i).toNat)
 case atStart=>exact ⟨0,wb3 _,rfl,iQ (World.ownsRow_nil _ _ _ _),iQ (Below.refl _ _)⟩
 case round =>
  obtain ⟨k,hk,rfl,O1,B1⟩:=hrel;by_cases hlt:k<n
  ·obtain ⟨b,off,x,y,rfl,hv,c0,c1⟩:=(HP.out.kept B1.out).prAt hlt
   have HV:=iQ (za5 hv);have bs:=B1.out.size;have o1:=O1.out;clear hv;go_wp2_with (at_builtin;refine wpList_append_own _ rfl (.tmp 12) (.tmp 15) 40 rfl w.heap.size 3 i0 (.int .i64 0) 1 8 Tryz.underlying40 hi hz0 hz1 hz2 rfl (by decide) _ _ _ rfl ((o1.alloc _).alloc _) ⟨wr.heap.size+1,0,none⟩ 1 1 [.int .i64 y] rfl rfl (XP _ _ _ _) (by simp [Value.oneCell']) (by unfold maxLen;omega) (by omega) (by simp;omega) ?_;intro v3 w3 hown3 hg3 _);have O3:Hid (w3.ownsRow w.heap.size 3 1 v3 (k+1) (Qc ((ps.take (k+1)).map (·.2)))):=by
    rw [HV.out];exact iQ hown3
   have B3:Hid (Below w.heap.size w w3):=iQ (((B1.out.alloc bs _).alloc (by simp;omega) _).grown hg3 (by simp;omega) (fun g hg=>(o1.lt g hg).1));clear hown3 hg3 o1 O1 B1 HV;go_roundw;case rel=>exact ⟨k+1,by omega,by go_num,O3,B3⟩
   case measure=>simp [RowKit.intOf];omega
  ·obtain rfl:n=k:=by omega
   have e2:ps.take n=ps:=wa5 (by rw [HN.out];omega);rw [e2] at O1;go_wp2_with fail;go_ret;exact ⟨_,rfl,O1.out,B1.out⟩
end Go.Proofs.YtfiflinbicbedaaGreat
namespace Go.Proofs.YtfiflinbicbedaaGreat.SS
def place (p:Int) (l:List Int):Nat:=(l.takeWhile (fun x=>decide (x<p))).length
theorem place_cons (p x:Int) (l:List Int):place p (x::l)=if x<p then place p l+1 else 0:=by
 unfold place;rw [wg7];by_cases h:x<p
 ·simp [h]
 ·simp [h]
theorem place_le (p:Int):∀ l:List Int,place p l<=l.length
 | []=>wb3 _
 | x::l=>by
   rw [place_cons,wb4];have:=place_le p l;split<;>omega
theorem place_lt (p:Int):∀ (l:List Int),∀ x∈l.take (place p l),x<p
 | [],x,h=>by simp at h
 | y::l,x,h=>by
   rw [place_cons] at h;split at h
   ·rename_i hy
    rw [we4] at h;rcases wb6.1 h with rfl | h
    ·exact hy
    ·exact place_lt p l x h
   ·simp at h
theorem place_at {p:Int} {l:List Int} {k:Nat} (h1:∀ j z,j<k->l[j]?=some z->z<p) (h2:∀ z,l[k]?=some z->¬ z<p) (hk:k<=l.length):place p l=k:=by
 induction l generalizing k with
 | nil =>
   obtain rfl:k=0:=by simpa using hk
   rfl
 | cons x l ih =>
   rw [place_cons]
   match k with
   | 0 =>
     rw [if_neg (h2 x rfl)]
   | k+1 =>
     rw [if_pos (h1 0 x (by omega) rfl),ih (k:=k) (fun j z hj hz=>h1 (j+1) z (by omega) (by simpa using hz)) (fun z hz=>h2 z (by simpa using hz)) (by simpa using hk)]
theorem ins_append {p:Int}:∀ (x y:List Int),(∀ z∈x,z<p)->ins p (x++y)=x++ins p y
 | [],y,_=>rfl
 | a::x,y,h=>by
   rw [we7]
   conv=>lhs;unfold ins
   rw [if_pos (h a (by simp)),ins_append x y (fun z hz=>h z (by simp [hz])),we7]
theorem ins_comm (p q:Int):∀ l:List Int,ins p (ins q l)=ins q (ins p l)
 | []=>by
   simp only [ins];by_cases h1:q<p
   ·rw [if_pos h1,if_neg (by omega)]
   ·by_cases h2:p<q
    ·rw [if_neg h1,if_pos h2]
    ·obtain rfl:p=q:=by omega
     rfl
 | x::l=>by
   have ih:=ins_comm p q l;simp only [ins];by_cases h1:x<q<;>by_cases h2:x<p
   ·rw [if_pos h1,if_pos h2]
    simp only [ins];rw [if_pos h2,if_pos h1,ih]
   ·rw [if_pos h1,if_neg h2]
    simp only [ins];rw [if_neg h2,if_pos (by omega),if_pos h1]
   ·rw [if_neg h1,if_pos h2]
    simp only [ins];rw [if_pos (by omega),if_pos h2,if_neg h1]
   ·rw [if_neg h1,if_neg h2]
    simp only [ins];by_cases h3:q<p
    ·rw [if_pos h3,if_neg h2,if_neg (by omega)]
    ·by_cases h4:p<q
     ·rw [if_neg h3,if_pos h4,if_neg h1]
     ·obtain rfl:p=q:=by omega
      rfl
def insL:List Int->List Int->List Int
 | [],f=>f
 | p::l,f=>ins p (insL l f)
theorem insL_perm {l m:List Int} (h:l.Perm m):∀ f,insL l f=insL m f:=by
 induction h with
 | nil=>exact fun f=>rfl
 | cons x _ ih =>
   intro f;unfold insL;rw [ih]
 | swap x y l =>
   intro f;unfold insL;unfold insL;exact ins_comm _ _ _
 | trans _ _ h1 h2=>exact fun f=>(h1 f).trans (h2 f)
theorem insL_append {p:Int}:∀ (ps x y:List Int),(∀ q∈ps,p<=q)->(∀ z∈x,z<p)->insL ps (x++y)=x++insL ps y
 | [],x,y,_,_=>rfl
 | q::ps,x,y,h1,h2=>by
   unfold insL;rw [insL_append ps x y (fun r hr=>h1 r (by simp [hr])) h2];exact ins_append _ _ (fun z hz=>by
    have:=h2 z hz;have:=h1 q (by simp);omega)
def From (p:Int) (l:List Int):Prop:=∀ z,l[0]?=some z->p<=z
theorem From.ins {p q:Int} {l:List Int} (h:From p l) (hq:p<=q):From p (ins q l):=by
 match l with
 | [] =>
   intro z hz;simp [SS.ins] at hz;omega
 | x::l =>
   intro z hz;have:=h x rfl;unfold SS.ins at hz;split at hz
   ·simp at hz
    omega
   ·simp at hz
    omega
theorem From.insL {p:Int} {f:List Int} (h:From p f):∀ (ps:List Int),(∀ q∈ps,p<=q)->From p (insL ps f)
 | [],_=>h
 | q::ps,hq=>(From.insL h ps (fun r hr=>hq r (by simp [hr]))).ins (hq q (by simp))
theorem From.head {p:Int} {l:List Int} (h:From p l):SS.ins p l=p::l:=by
 match l with
 | []=>rfl
 | x::l =>
   have:=h x rfl;unfold SS.ins;rw [if_neg (by omega)]
theorem from_drop (p:Int):∀ l:List Int,From p (l.drop (place p l))
 | []=>fun z hz=>by simp at hz
 | x::l=>by
   rw [place_cons];split
   ·rw [List.drop_succ_cons]
    exact from_drop p l
   ·intro z hz
    simp at hz;omega
theorem insL_step {p:Int} {ps:List Int} (l:List Int) (h:∀ q∈ps,p<=q):insL (p::ps) l=l.take (place p l)++p::insL ps (l.drop (place p l)):=by
 show ins p (insL ps l)=_
 conv=>lhs;rw [<- wb7 (place p l) l,insL_append ps _ _ h (place_lt p l),ins_append _ _ (place_lt p l)]
 rw [((from_drop p l).insL ps h).head]
def rises (l:List Int):Bool:=decide (l.Pairwise (·<·))
def agesB (l:List (Int×Int)):Bool:=decide (l.Pairwise (fun x y=>x.1<=y.1)) && l.all (fun x=>decide (0<=x.1))
def pages (s:SS):List Int:=s.fr++s.pe.map (·.2)
def onceB (s:SS):Bool:=decide s.pages.Nodup && s.pages.all s.may
theorem check_parts (s:SS) (top:Int):s.check top=if decide (s.hi<2) || decide (s.hi > top) || !rises s.fr || !agesB s.pe || !onceB s then 80 else 0:=by
 unfold check;by_cases h:Fine s top
 ·rw [if_pos h]
  have h1:rises s.fr=true:=decide_eq_true h.up;have h2:agesB s.pe=true:=by
   unfold agesB;rw [wc1];exact ⟨decide_eq_true h.ups,wd4.2 (fun x hx=>decide_eq_true (h.pos x hx))⟩
  have h3:onceB s=true:=by
   unfold onceB;rw [wc1];refine ⟨decide_eq_true (List.nodup_append.2 ⟨h.up.imp (fun h=>by omega),h.once,fun a ha b hb=>?_⟩),wd4.2 (fun x hx=>?_)⟩
   ·obtain ⟨x,hx,rfl⟩:=wd7.1 hb
    exact fun e=>h.out x hx (by rw [<- e];exact ha)
   ·refine decide_eq_true ?_
    rcases wb0.1 hx with h1 | h1
    ·exact h.inF x h1
    ·obtain ⟨y,hy,rfl⟩:=wd7.1 h1
     exact h.inP y hy
  have h4:=h.lo;have h5:=h.hi;rw [h1,h2,h3,decide_eq_false (by omega:¬ s.hi<2),decide_eq_false (by omega:¬ s.hi > top)];rfl
 ·rw [if_neg h]
  have:(decide (s.hi<2) || decide (s.hi > top) || !rises s.fr || !agesB s.pe || !onceB s)=true:=by
   cases hb:(decide (s.hi<2) || decide (s.hi > top) || !rises s.fr || !agesB s.pe || !onceB s) with
   | true=>rfl
   | false =>
     simp only [Bool.or_eq_false_iff,Bool.not_eq_false',decide_eq_false_iff_not] at hb;obtain ⟨⟨⟨⟨b1,b2⟩,b3⟩,b4⟩,b5⟩:=hb;unfold agesB at b4;unfold onceB at b5;rw [wc1] at b4 b5;obtain ⟨n1,n2,n3⟩:=List.nodup_append.1 (of_decide_eq_true b5.1);have hall:=wd4.1 b5.2;refine absurd ⟨by omega,by omega,of_decide_eq_true b3,fun p hp=>of_decide_eq_true (hall p (wb0.2 (Or.inl hp))),of_decide_eq_true b4.1,fun x hx=>of_decide_eq_true (wd4.1 b4.2 x hx),fun x hx=>of_decide_eq_true (hall x.2 (wb0.2 (Or.inr (wd7.2 ⟨x,hx,rfl⟩)))),fun x hx e=>n3 x.2 e x.2 (wd7.2 ⟨x,hx,rfl⟩) rfl,n2⟩ h
  rw [this];rfl
theorem sorted_rises {l m:List Int} (hp:m.Perm l) (hs:m.Pairwise (·<=·)):rises m=decide l.Nodup:=by
 unfold rises;have e:m.Pairwise (·<·) ↔ l.Nodup:=by
  constructor
  ·exact fun h=>hp.nodup_iff.1 (h.imp (fun h=>by omega))
  ·intro h
   have hn:m.Nodup:=hp.nodup_iff.2 h;exact (List.Pairwise.and hs hn).imp (fun h=>by obtain ⟨h1,h2⟩:=h;omega)
 exact decide_eq_decide.2 e
theorem perm_all {l m:List Int} (hp:m.Perm l) (f:Int->Bool):m.all f=l.all f:=by
 induction hp with
 | nil=>rfl
 | cons x _ ih=>simp [ih]
 | swap x y l=>simp [Bool.and_left_comm]
 | trans _ _ h1 h2=>rw [h1,h2]
end Go.Proofs.YtfiflinbicbedaaGreat.SS
namespace Go.Proofs.YtfiflinbicbedaaGreat
open Go.RowKit
theorem qq6 (s:SS) (A B:Option Addr) (n c m d:Nat):QT [⟨A,n,c,Qc s.fr⟩,⟨B,m,d,Qc (s.pe.map (·.2))⟩]=Qc s.pages:=by
 unfold QT SS.pages;rw [Yy];simp
theorem YF {w:World} {base base' n sz:Nat} {e:TypeId} {v:Value} {xs:List Value} (h:w.ownsRow base e sz v n xs) (hb:base'<=base):w.ownsRow base' e sz v n xs:=by
 refine ⟨h.1,?_⟩;rcases h.2 with h2 | ⟨g,cap,cur,h2,h3,h4⟩
 ·exact Or.inl h2
 ·exact Or.inr ⟨g,cap,cur,h2,by omega,h4⟩
theorem CU (s:SS) (h:Int) (A B:Option Addr) (n c m d:Nat) (w:World) (hs:Sp w A n c B m d s) (hn:n<=400000) (hm:m<=400000) :
 Calls Tryz.prog 80 #[.agg #[.int .i64 h,.slice A n c,.slice B m d]] w (Vl w 3 1 (n+m) (Qc s.pages)):=by
 have HS:=iQ (hs.kept ((Qa w (.cells #[.int .i64 h,.slice A n c,.slice B m d] 45)).drew));have HB:=iQ ((Yi w (.int .i64 h) (.slice A n c) (.slice B m d)).kept ((Below.refl _ _).drew));have B1:=iQ ((Qa w (.cells #[.int .i64 h,.slice A n c,.slice B m d] 45)).drew);have HV:=iQ (qq6 s);clear hs;go_enter Tryz.func80,Tryz.ntmps80;go_wp2_with fail;generalize w.alloc (.cells #[.int .i64 h,.slice A n c,.slice B m d] 45)=w0 at *;have K0:w0.drew.cell? ⟨w.heap.size,1,none⟩=some (.slice A n c)/\w0.drew.cell? ⟨w.heap.size,2,none⟩=some (.slice B m d):=HB.out.cells.2;obtain ⟨x1,x2⟩:=K0;have K0:w0.drew.cell? ⟨w.heap.size,1,none⟩=some (.slice A n c)/\w0.drew.cell? ⟨w.heap.size,2,none⟩=some (.slice B m d):=HB.out.cells.2;go_region_held3 (fun w'=>w'.cell? ⟨w.heap.size,1,none⟩=some (.slice A n c)/\w'.cell? ⟨w.heap.size,2,none⟩=some (.slice B m d))
  (first | exact K3 | exact K2 | exact K1 | exact K0)
  (first
    | (go_at_call 120;refine (qi0 B m d s.pe w0.drew HS.out.pe (by omega)).mono ?_;rintro e w1 ⟨v1,rfl,o1,b1⟩;obtain ⟨A1,c1,rfl,hc1,l1⟩:=Ln.oo o1;have K1:=(HB.out.kept b1).cells.2;have K2:=((HB.out.kept b1).kept (Qa _ (.cells #[.slice A n c,.slice A1 m c1] 40))).cells.2;have P2:=Ut (HS.out.fr.kept b1) (Qr _) l1 (Qr _) 40)
    | (go_at_call 81;refine (YX _ 2 2 (n+m) _ _ P2 rfl (by simp [Xn]) (by omega) (by decide)).mono ?_;rintro e w2 ⟨v2,rfl,o2,b2⟩;have K3:=(((HB.out.kept b1).kept (Qa _ (.cells #[.slice A n c,.slice A1 m c1] 40))).kept b2).cells.2))
 rw [HV.out] at o2;have B2:=iQ (B1.out.trans (b1.mono B1.out.size));have B3:=iQ ((B2.out.alloc B2.out.size (.cells #[.slice A n c,.slice A1 m c1] 40)).trans (b2.mono (B2.out.alloc B2.out.size (.cells #[.slice A n c,.slice A1 m c1] 40)).size));have O2:=iQ o2;clear K0 K1 K2 K3 x1 x2 P2 o2 b1 b2 o1 l1;go_wp2_with fail;go_ret;exact ⟨_,rfl,YF O2.out (B2.out.alloc B2.out.size (.cells #[.slice A n c,.slice A1 m c1] 40)).size,B3.out⟩
end Go.Proofs.YtfiflinbicbedaaGreat
namespace Go.Proofs.YtfiflinbicbedaaGreat
open Go.RowKit
theorem VB (s:SS) (h p:Int) (A B:Option Addr) (n c m d:Nat) (w:World) (hh:s.hi=h) :
 Calls Tryz.prog 78 #[.agg #[.int .i64 h,.slice A n c,.slice B m d],.int .i64 p] w fun e w'=>e = .returned (.bool (s.may p))/\Below w.heap.size w w':=by
 by_cases h1:2<=p
 ·by_cases h2:p<h
  ·have HD:Hid (s.may p=true):=iQ (decide_eq_true ⟨h1,by rw [hh];exact h2⟩)
   clear hh;go_enter Tryz.func78,Tryz.ntmps78;go_wp2_with fail;go_ret;exact ⟨Qi HD.out.symm,Qa _ _⟩
  ·have HD:Hid (s.may p=false):=iQ (decide_eq_false (fun e=>h2 (by rw [<- hh];exact e.2)))
   clear hh;go_enter Tryz.func78,Tryz.ntmps78;go_wp2_with fail;go_ret;exact ⟨Qi HD.out.symm,Qa _ _⟩
 ·have HD:Hid (s.may p=false):=iQ (decide_eq_false (fun e=>h1 e.1))
  clear hh;go_enter Tryz.func78,Tryz.ntmps78;go_wp2_with fail;go_ret;exact ⟨Qi HD.out.symm,Qa _ _⟩
end Go.Proofs.YtfiflinbicbedaaGreat
namespace Go.Proofs.YtfiflinbicbedaaGreat
open Go.RowKit
def MN (zs:List Int) (k:Nat) (p:Int):Prop:=p ∉ zs.take k
theorem MN.more {zs:List Int} {k:Nat} {p x:Int} (h:MN zs k p) (hv:zs[k]?=some x) (hx:¬ p=x):MN zs (k+1) p:=by
 unfold MN;rw [wc2,hv,wd0,wb0];rintro (h1 | h1)
 ·exact h h1
 ·exact hx (by simpa using h1)
theorem qp5 (A:Option Addr) (n c:Nat) (zs:List Int) (p:Int) (w:World) (hz:Ln w 1 A n c (Qc zs)) (hn:n<=1000000) :
 Calls Tryz.prog 119 #[.slice A n c,.int .i64 p] w fun e w'=>(∃ r:Int,e = .returned (.int .i64 r)/\(decide (r ≥ 0))=decide (p∈zs))/\w'=w:=by
 have HZ:=iQ hz;have HN:=iQ hz.intN;clear hz;go_enter Tryz.func119,Tryz.ntmps119;go_wp2_with fail;obtain ⟨wo,rfl⟩:∃ wo:World,wo=w:=⟨_,rfl⟩;go_loopw [8] (fun i wk=>∃ k:Nat,k<=n/\i = .int .i64 k/\Hid (MN zs k p)/\wk=wo) (fun i _=>n - (RowKit.intOf i).toNat)
 case atStart=>exact ⟨0,wb3 _,rfl,iQ (by simp [MN]),rfl⟩
 case round =>
  obtain ⟨k,hk,rfl,HL,hw⟩:=hrel;have hw':=hw.symm;subst hw';clear hw;by_cases hlt:k<n
  ·obtain ⟨b,off,x,rfl,hv,c0⟩:=HZ.out.iA hlt
   by_cases hx:p=x
   ·have HM:=iQ (wb5 hv)
    subst hx;clear hv HL;go_wp2_with fail;go_ret;exact ⟨⟨_,rfl,by rw [decide_eq_true HM.out,decide_eq_true (by omega)]⟩,rfl⟩
   ·have HM:=iQ (HL.out.more hv hx)
    have hb:(p==x)=false:=(by simpa using hx);clear hv HL hx;go_wp2_with fail;go_roundw;case rel=>exact ⟨k+1,by omega,by go_num,HM,trivial⟩
    case measure=>simp [RowKit.intOf];omega
  ·obtain rfl:n=k:=by omega
   have hm:=HL.out;unfold MN at hm;rw [wa5 (by rw [HN.out];exact wa2 _)] at hm;have HM:=iQ hm;clear hm;go_wp2_with fail;go_ret;exact ⟨⟨_,rfl,by rw [decide_eq_false HM.out];rfl⟩,rfl⟩
theorem LJ (A:Option Addr) (n c:Nat) (zs:List Int) (p:Int) (w:World) (hz:Ln w 1 A n c (Qc zs)) (hn:n<=1000000) :
 Calls Tryz.prog 79 #[.slice A n c,.int .i64 p] w fun e w'=>e = .returned (.bool (decide (p∈zs)))/\w'=w:=by
 have HZ:=iQ hz;clear hz;go_enter Tryz.func79,Tryz.ntmps79;go_wp2_with fail;refine (qp5 A n c zs p w HZ.out hn).mono ?_;rintro e w2 ⟨⟨r,rfl,hr⟩,rfl⟩;go_wp2_with fail;go_ret;exact ⟨rfl,rfl⟩
end Go.Proofs.YtfiflinbicbedaaGreat
namespace Go.Proofs.YtfiflinbicbedaaGreat
open Go.RowKit
theorem qE3 (s:SS) (p:Int):decide (p∈s.pages)=s.known p:=by
 unfold SS.pages SS.known;rw [<- Bool.decide_or];exact decide_eq_decide.2 wb0
theorem KL (s:SS) (h p:Int) (A B:Option Addr) (n c m d:Nat) (w:World) (hh:s.hi=h) (hs:Sp w A n c B m d s) (hn:n<=400000) (hm:m<=400000) :
 Calls Tryz.prog 42 #[.agg #[.int .i64 h,.slice A n c,.slice B m d],.int .i64 p] w fun e w'=>e = .returned (.bool (s.may p && !(s.known p)))/\Below w.heap.size w w':=by
 have HS:=iQ (hs.kept (Qa w (.cells #[.int .i64 h,.slice A n c,.slice B m d] 45)));have HB:=iQ (Yi w (.int .i64 h) (.slice A n c) (.slice B m d));have B0:=iQ (Qa w (.cells #[.int .i64 h,.slice A n c,.slice B m d] 45));have HH:=iQ hh;clear hs hh;go_enter Tryz.func42,Tryz.ntmps42;go_wp2_with fail;generalize w.alloc (.cells #[.int .i64 h,.slice A n c,.slice B m d] 45)=w0 at *;refine (VB s h p A B n c m d w0 HH.out).mono ?_;rintro e w1 ⟨rfl,b1⟩;have B1:=iQ b1;clear b1;cases hp:s.may p with
 | false =>
   have B2:=iQ (B0.out.trans (B1.out.mono B0.out.size));have HP:=iQ hp;clear hp;go_wp2_with fail;go_ret;exact ⟨Qi (by rw [HP.out];rfl),B2.out⟩
 | true =>
   have HP:=iQ hp;clear hp;obtain ⟨c0,c1,c2⟩:=(HB.out.kept B1.out).cells;go_wp2_with fail;refine (CU s h A B n c m d w1 (HS.out.kept B1.out) hn hm).mono ?_;rintro e w2 ⟨v2,rfl,o2,b2⟩;have B2:=iQ (B1.out.trans (b2.mono B1.out.size));obtain ⟨A2,d2,rfl,hc2,l2⟩:=Ln.oo o2;have L2:=iQ l2;clear c0 c1 c2 b2 o2 l2;go_wp2_with fail;refine (LJ A2 (n+m) d2 s.pages p w2 L2.out (by omega)).mono ?_;rintro e w3 ⟨rfl,rfl⟩;rw [qE3];have B3:=iQ (B0.out.trans (B2.out.mono B0.out.size));go_wp2_with fail;go_ret;exact ⟨Qi (by rw [HP.out];rfl),B3.out⟩
end Go.Proofs.YtfiflinbicbedaaGreat
namespace Go.Proofs.YtfiflinbicbedaaGreat
open Go.RowKit
theorem zb7 {s:SS} {k:Nat} {x y:Int} (hl:s.pe.length=k+1) (hv:s.pe[k]?=some (x,y)):s.last=x:=by
 unfold SS.last;rw [List.getLast?_eq_getElem?,hl,Nat.add_sub_cancel,hv];rfl
theorem qR3 {s:SS} (hl:s.pe.length=0):s.last=0:=by
 unfold SS.last;rw [wb2 hl];rfl
theorem qR4 (A:Option Addr) (n c:Nat) (s:SS) (w:World) (hp:Ln w 2 A n c (Zi s.pe)) (hn:n<=1000000) :
 Calls Tryz.prog 172 #[.slice A n c] w fun e w'=>e = .returned (.int .i64 s.last)/\w'=w:=by
 have hl:=hp.prN;rcases n with _ | k
 ·have HM:=iQ (qR3 hl)
  clear hp hl;go_enter Tryz.func172,Tryz.ntmps172;go_wp2_with fail;go_ret;exact ⟨Zm HM.out.symm,rfl⟩
 ·obtain ⟨b,off,x,y,rfl,hv,c0,c1⟩:=hp.prAt (k:=k) (by omega)
  have HM:=iQ (zb7 hl hv);have hz:((((k+1:Nat):Int))==0)=false:=by simp;omega
  have e1:wrap64 (((k+1:Nat):Int) - 1)=(k:Int):=by unfold wrap64;omega
  have e2:((k+1:Nat):Int)=(k:Int)+1:=by omega
  clear hp hl hv;go_enter Tryz.func172,Tryz.ntmps172;go_wp2_with fail;go_ret;exact ⟨Zm HM.out.symm,rfl⟩
end Go.Proofs.YtfiflinbicbedaaGreat
namespace Go.Proofs.YtfiflinbicbedaaGreat
open Go.RowKit
theorem NU {s:SS} {e p:Int} (h:s.giveBad e p=true):s.give e p=(1,SS.none):=by
 unfold SS.give;rw [if_pos h]
theorem BH {s:SS} {e p:Int} (h:s.giveBad e p=false):s.give e p=(0,{ s with pe:=s.pe++[(e,p)] }):=by
 unfold SS.give;rw [if_neg (by rw [h];simp)]
theorem qk7 {s:SS} {e p:Int} (h:(s.may p && !(s.known p))=false):s.giveBad e p=true:=by
 unfold SS.giveBad;cases h1:s.may p<;>cases h2:s.known p<;>simp [h1,h2] at h ⊢
theorem UY {s:SS} {e p:Int} (h:e<0\/e<s.last):s.giveBad e p=true:=by
 unfold SS.giveBad;rcases h with h | h<;>simp [h]
theorem NG {s:SS} {e p:Int} (h:(s.may p && !(s.known p))=true) (h1:¬ e<0) (h2:¬ e<s.last):s.giveBad e p=false:=by
 unfold SS.giveBad;cases h3:s.may p<;>cases h4:s.known p<;>simp [h3,h4] at h ⊢
 omega
theorem VJ {w w1:World} {r:Nat} (hb:Below w.heap.size w w1) (hr:w.heap.size<=r):VP w 1 SS.none (.returned (.tuple #[.agg #[.int .i64 0,.slice none 0 0,.slice none 0 0],.int .i64 1])) (((w1.setCell ⟨r,0,none⟩ (.int .i64 0)).setCell ⟨r,1,none⟩ (.slice none 0 0)).setCell ⟨r,2,none⟩ (.slice none 0 0)) :=
 have hd:=Yn (h:=0) hb hr (Sp.zero w1) (Hi.none_ _) (Hi.none_ _) rfl (.int .i64 0) (.slice none 0 0) (.slice none 0 0)
 ⟨_,rfl,hd.1,hd.2⟩
theorem DK {w:World} {B:Option Addr} {m d:Nat} {ps:List (Int×Int)} (h:Ln w 2 B m d (Zi ps)) (e p:Int) (t u:TypeId) :
 YU ((w.alloc (.cells #[.int .i64 e,.int .i64 p] t)).alloc (.cells #[.slice B m d,.slice (some ⟨w.heap.size,0,none⟩) 1 1] u)) 2 (some ⟨w.heap.size+1,0,none⟩) [⟨B,m,d,Zi ps⟩,⟨some ⟨w.heap.size,0,none⟩,1,1,Zi [(e,p)]⟩]:=by
 have h1:=Ut (h.kept (Qa w (.cells #[.int .i64 e,.int .i64 p] t))) (Yu _) (zb6 w e p t) (Yu _) u;rw [show (w.alloc (.cells #[.int .i64 e,.int .i64 p] t)).heap.size=w.heap.size+1 by simp] at h1;exact h1
theorem RG (w:World) (B:Option Addr) (m d:Nat) (e p:Int) (t u:TypeId):Below w.heap.size w ((w.alloc (.cells #[.int .i64 e,.int .i64 p] t)).alloc (.cells #[.slice B m d,.slice (some ⟨w.heap.size,0,none⟩) 1 1] u)):=Zp w _ _
theorem DV (A B:Option Addr) (n c m d:Nat) (ps:List (Int×Int)) (e p:Int):QT [⟨A,n,c,Zi ps⟩,⟨B,m,d,Zi [(e,p)]⟩]=Zi (ps++[(e,p)]):=by
 unfold QT;rw [ZV];simp
theorem zc2 (s:SS) (h e p:Int) (A B:Option Addr) (n c m d:Nat) (w:World) (hh:s.hi=h) (hs:Sp w A n c B m d s) (hn:n<=300000) (hm:m<=300000) :
 Calls Tryz.prog 158 #[.agg #[.int .i64 h,.slice A n c,.slice B m d],.int .i64 e,.int .i64 p] w (VP w (s.give e p).1 (s.give e p).2):=by
 obtain ⟨Vh,tb2,Xm⟩:=Vm w (.int .i64 h) (.slice A n c) (.slice B m d) (.int .i64 0) (.slice none 0 0) (.slice none 0 0);have HS:=iQ (hs.kept Xm);have HB:=iQ Vh;have HR:=iQ tb2;have B0:=iQ Xm;have HH:=iQ hh;clear hs hh Vh tb2 Xm;go_enter Tryz.func158,Tryz.ntmps158;go_wp2_with fail;generalize (w.alloc (.cells #[.int .i64 h,.slice A n c,.slice B m d] 45)).alloc (.cells #[.int .i64 0,.slice none 0 0,.slice none 0 0] 45)=w0 at *;refine (KL s h p A B n c m d w0 HH.out HS.out (by omega) (by omega)).mono ?_;rintro e1 w1 ⟨rfl,b1⟩;have B1:=iQ (B0.out.trans (b1.mono B0.out.size));have HB1:=iQ (HB.out.kept b1);have HR1:=iQ (HR.out.kept b1);have Xl:=iQ (HS.out.kept b1);clear b1 HB HR HS B0;cases hmc:(s.may p && !(s.known p)) with
 | false =>
   have HT:=iQ (NU (qk7 (e:=e) hmc));have HD:=iQ (VJ B1.out (wd9 w.heap.size 1));obtain ⟨e0,e1,e2⟩:=(iQ (HR1.out.put (.int .i64 0) (.slice none 0 0) (.slice none 0 0))).out.cells;obtain ⟨q0,q1,q2⟩:=HR1.out.cells;obtain ⟨f0,f1,f2⟩:=HR1.out.free;clear hmc;go_wp2_with fail;refine bodyPost_ret (v := .tuple #[.agg #[.int .i64 0,.slice none 0 0,.slice none 0 0],.int .i64 1]) (by simp [results,Tryz.results158,go_sem,e0,e1,e2]) rfl ?_;rw [HT.out];exact HD.out
 | true =>
   have HMC:=iQ hmc;obtain ⟨y0,y1,y2⟩:=HB1.out.cells;clear hmc;go_wp2_with fail;refine (qR4 B m d s w1 Xl.out.pe (by omega)).mono ?_;rintro e1 w2 ⟨rfl,rfl⟩;obtain ⟨L,hL⟩:∃ L,s.last=L:=⟨_,rfl⟩;rw [hL];have HL:=iQ hL;clear hL;by_cases hL0:0<L
   ·by_cases he:e<L
    ·have HT:=iQ (NU (UY (s:=s) (p:=p) (e:=e) (by rw [HL.out];omega)))
     have HD:=iQ (VJ B1.out (wd9 w.heap.size 1));obtain ⟨e0,e1,e2⟩:=(iQ (HR1.out.put (.int .i64 0) (.slice none 0 0) (.slice none 0 0))).out.cells;obtain ⟨q0,q1,q2⟩:=HR1.out.cells;obtain ⟨f0,f1,f2⟩:=HR1.out.free;go_wp2_with fail;refine bodyPost_ret (v := .tuple #[.agg #[.int .i64 0,.slice none 0 0,.slice none 0 0],.int .i64 1]) (by simp [results,Tryz.results158,go_sem,e0,e1,e2]) rfl ?_;rw [HT.out];exact HD.out
    ·have HT:=iQ (BH (NG (s:=s) (e:=e) (p:=p) HMC.out (by omega) (by rw [HL.out];omega)))
     have PF:=iQ (DK Xl.out.pe e p 98 43);have BF:=iQ (RG w2 B m d e p 98 43);go_wp2_with fail;clear y0 y1 y2;refine (VX _ 2 2 (m+1) _ _ PF.out rfl (by simp [Xn]) (by omega) (by decide)).mono ?_;rintro e1 w3 ⟨v3,rfl,o3,b3⟩;rw [DV] at o3;obtain ⟨B3,d3,rfl,hd3,l3⟩:=Ln.oo o3;have HI3:Hid (Hi (w.heap.size+1+1) B3):=iQ ((Hi.oo o3).low (by have:=HR1.out.lt;have:=BF.out.size;omega));have b23:=BF.out.trans (b3.mono BF.out.size);have L3:=iQ l3;have HB3:=iQ (HB1.out.kept b23);have HR3:=iQ (HR1.out.kept b23);have B3':=iQ (B1.out.trans (b23.mono B1.out.size));have PL:=iQ ((Za (Xl.out.fr.kept b23) (Qr _) 40).kept ((Below.refl _ _).drew));have BA:=iQ ((Qa w3 (.cells #[.slice A n c] 40)).drew);have K0:w3.drew.cell? ⟨w.heap.size,0,none⟩=some (.int .i64 h)/\w3.drew.cell? ⟨w.heap.size,1,none⟩=some (.slice A n c):=⟨HB3.out.cells.1,HB3.out.cells.2.1⟩;obtain ⟨x0,x1⟩:=K0;have K0:w3.drew.cell? ⟨w.heap.size,0,none⟩=some (.int .i64 h)/\w3.drew.cell? ⟨w.heap.size,1,none⟩=some (.slice A n c):=⟨HB3.out.cells.1,HB3.out.cells.2.1⟩;have K1:((w3.alloc (.cells #[.slice A n c] 40)).drew).cell? ⟨w.heap.size,0,none⟩=some (.int .i64 h)/\((w3.alloc (.cells #[.slice A n c] 40)).drew).cell? ⟨w.heap.size,1,none⟩=some (.slice A n c):=⟨(HB3.out.kept BA.out).cells.1,(HB3.out.kept BA.out).cells.2.1⟩;clear b3 b23 o3 l3 PF;go_wp2_with fail;go_region_held3 (fun w'=>w'.cell? ⟨w.heap.size,0,none⟩=some (.int .i64 h)/\w'.cell? ⟨w.heap.size,1,none⟩=some (.slice A n c))
      (first | exact K3 | exact K2 | exact K1 | exact K0)
      (first
        | (go_at_call 81;refine (YX _ 1 1 n _ _ PL.out rfl (by simp [Xn]) (by omega) (by decide)).mono ?_;rintro e1 w4 ⟨v4,rfl,o4,b4⟩;have HB4:=iQ ((HB3.out.kept BA.out).kept b4);have HR4:=iQ ((HR3.out.kept BA.out).kept b4);have K2:w4.cell? ⟨w.heap.size,0,none⟩=some (.int .i64 h)/\w4.cell? ⟨w.heap.size,1,none⟩=some (.slice A n c):=⟨HB4.out.cells.1,HB4.out.cells.2.1⟩;obtain ⟨q0,q1,q2⟩:=HR4.out.cells;obtain ⟨f0,f1,f2⟩:=HR4.out.free;obtain ⟨A4,c4,rfl,hc4,l4⟩:=Ln.oo o4;have PU:=JU.put w4 (w.heap.size+1) (.int .i64 h) (.slice A4 n c4) (.slice B3 (m+1) d3);have K3:=(show _/\_ from ⟨(PU.cell (k:=w.heap.size) (by omega) 0).trans K2.1,(PU.cell (k:=w.heap.size) (by omega) 1).trans K2.2⟩)))
     have HI4:Hid (Hi (w.heap.size+1+1) A4):=iQ ((Hi.oo o4).low (by have:=HR3.out.lt;have:=BA.out.size;omega));have B4:=iQ (B3'.out.trans ((BA.out.trans (b4.mono BA.out.size)).mono B3'.out.size));rw [Kz] at l4;have HSp:Hid (Sp w4 A4 n c4 B3 (m+1) d3 { s with pe:=s.pe++[(e,p)] }):=iQ ⟨l4,(L3.out.kept BA.out).kept b4⟩
     have HD:=iQ (Yn (h:=h) B4.out (wd9 w.heap.size 1) HSp.out HI4.out HI3.out HH.out (.int .i64 h) (.slice A4 n c4) (.slice B3 (m+1) d3));obtain ⟨e0,e1,e2⟩:=(iQ (HR4.out.put (.int .i64 h) (.slice A4 n c4) (.slice B3 (m+1) d3))).out.cells;go_wp2_with fail;refine bodyPost_ret (v := .tuple #[.agg #[.int .i64 h,.slice A4 n c4,.slice B3 (m+1) d3],.int .i64 0]) (by simp [results,Tryz.results158,go_sem,e0,e1,e2]) rfl ?_;rw [HT.out];exact ⟨_,rfl,HD.out.1,HD.out.2⟩
   ·by_cases he:e<0
    ·have HT:=iQ (NU (UY (s:=s) (p:=p) (e:=e) (by rw [HL.out];omega)))
     have HD:=iQ (VJ B1.out (wd9 w.heap.size 1));obtain ⟨e0,e1,e2⟩:=(iQ (HR1.out.put (.int .i64 0) (.slice none 0 0) (.slice none 0 0))).out.cells;obtain ⟨q0,q1,q2⟩:=HR1.out.cells;obtain ⟨f0,f1,f2⟩:=HR1.out.free;go_wp2_with fail;refine bodyPost_ret (v := .tuple #[.agg #[.int .i64 0,.slice none 0 0,.slice none 0 0],.int .i64 1]) (by simp [results,Tryz.results158,go_sem,e0,e1,e2]) rfl ?_;rw [HT.out];exact HD.out
    ·have HT:=iQ (BH (NG (s:=s) (e:=e) (p:=p) HMC.out (by omega) (by rw [HL.out];omega)))
     have PF:=iQ (DK Xl.out.pe e p 98 43);have BF:=iQ (RG w2 B m d e p 98 43);go_wp2_with fail;clear y0 y1 y2;refine (VX _ 2 2 (m+1) _ _ PF.out rfl (by simp [Xn]) (by omega) (by decide)).mono ?_;rintro e1 w3 ⟨v3,rfl,o3,b3⟩;rw [DV] at o3;obtain ⟨B3,d3,rfl,hd3,l3⟩:=Ln.oo o3;have HI3:Hid (Hi (w.heap.size+1+1) B3):=iQ ((Hi.oo o3).low (by have:=HR1.out.lt;have:=BF.out.size;omega));have b23:=BF.out.trans (b3.mono BF.out.size);have L3:=iQ l3;have HB3:=iQ (HB1.out.kept b23);have HR3:=iQ (HR1.out.kept b23);have B3':=iQ (B1.out.trans (b23.mono B1.out.size));have PL:=iQ ((Za (Xl.out.fr.kept b23) (Qr _) 40).kept ((Below.refl _ _).drew));have BA:=iQ ((Qa w3 (.cells #[.slice A n c] 40)).drew);have K0:w3.drew.cell? ⟨w.heap.size,0,none⟩=some (.int .i64 h)/\w3.drew.cell? ⟨w.heap.size,1,none⟩=some (.slice A n c):=⟨HB3.out.cells.1,HB3.out.cells.2.1⟩;obtain ⟨x0,x1⟩:=K0;have K0:w3.drew.cell? ⟨w.heap.size,0,none⟩=some (.int .i64 h)/\w3.drew.cell? ⟨w.heap.size,1,none⟩=some (.slice A n c):=⟨HB3.out.cells.1,HB3.out.cells.2.1⟩;have K1:((w3.alloc (.cells #[.slice A n c] 40)).drew).cell? ⟨w.heap.size,0,none⟩=some (.int .i64 h)/\((w3.alloc (.cells #[.slice A n c] 40)).drew).cell? ⟨w.heap.size,1,none⟩=some (.slice A n c):=⟨(HB3.out.kept BA.out).cells.1,(HB3.out.kept BA.out).cells.2.1⟩;clear b3 b23 o3 l3 PF;go_wp2_with fail;go_region_held3 (fun w'=>w'.cell? ⟨w.heap.size,0,none⟩=some (.int .i64 h)/\w'.cell? ⟨w.heap.size,1,none⟩=some (.slice A n c))
      (first | exact K3 | exact K2 | exact K1 | exact K0)
      (first
        | (go_at_call 81;refine (YX _ 1 1 n _ _ PL.out rfl (by simp [Xn]) (by omega) (by decide)).mono ?_;rintro e1 w4 ⟨v4,rfl,o4,b4⟩;have HB4:=iQ ((HB3.out.kept BA.out).kept b4);have HR4:=iQ ((HR3.out.kept BA.out).kept b4);have K2:w4.cell? ⟨w.heap.size,0,none⟩=some (.int .i64 h)/\w4.cell? ⟨w.heap.size,1,none⟩=some (.slice A n c):=⟨HB4.out.cells.1,HB4.out.cells.2.1⟩;obtain ⟨q0,q1,q2⟩:=HR4.out.cells;obtain ⟨f0,f1,f2⟩:=HR4.out.free;obtain ⟨A4,c4,rfl,hc4,l4⟩:=Ln.oo o4;have PU:=JU.put w4 (w.heap.size+1) (.int .i64 h) (.slice A4 n c4) (.slice B3 (m+1) d3);have K3:=(show _/\_ from ⟨(PU.cell (k:=w.heap.size) (by omega) 0).trans K2.1,(PU.cell (k:=w.heap.size) (by omega) 1).trans K2.2⟩)))
     have HI4:Hid (Hi (w.heap.size+1+1) A4):=iQ ((Hi.oo o4).low (by have:=HR3.out.lt;have:=BA.out.size;omega));have B4:=iQ (B3'.out.trans ((BA.out.trans (b4.mono BA.out.size)).mono B3'.out.size));rw [Kz] at l4;have HSp:Hid (Sp w4 A4 n c4 B3 (m+1) d3 { s with pe:=s.pe++[(e,p)] }):=iQ ⟨l4,(L3.out.kept BA.out).kept b4⟩
     have HD:=iQ (Yn (h:=h) B4.out (wd9 w.heap.size 1) HSp.out HI4.out HI3.out HH.out (.int .i64 h) (.slice A4 n c4) (.slice B3 (m+1) d3));obtain ⟨e0,e1,e2⟩:=(iQ (HR4.out.put (.int .i64 h) (.slice A4 n c4) (.slice B3 (m+1) d3))).out.cells;go_wp2_with fail;refine bodyPost_ret (v := .tuple #[.agg #[.int .i64 h,.slice A4 n c4,.slice B3 (m+1) d3],.int .i64 0]) (by simp [results,Tryz.results158,go_sem,e0,e1,e2]) rfl ?_;rw [HT.out];exact ⟨_,rfl,HD.out.1,HD.out.2⟩
end Go.Proofs.YtfiflinbicbedaaGreat
namespace Go.Proofs.YtfiflinbicbedaaGreat
open Go.RowKit
theorem QH {w:World} {base n sz:Nat} {e:TypeId} {v:Value} {xs:List Value} (h:w.ownsRow base e sz v n xs):∃ A c,v = .slice A n c:=by
 obtain ⟨A,c,h1,_⟩:=Ln.oo h;exact ⟨A,c,h1⟩
theorem Us {w w':World} {base n sz:Nat} {e:TypeId} {v:Value} {xs:List Value} (h:w.ownsRow base e sz v n xs) (hb:Below w.heap.size w w'):w'.ownsRow base e sz v n xs:=by
 have hg:w.grownBy w' none:=⟨hb.os,hb.tape,hb.output,hb.size,fun k hk _=>hb.block k hk⟩;refine h.kept hg ?_;cases e:v.ownBlock with
 | none=>exact Or.inl rfl
 | some g=>exact Or.inr (by simp)
theorem SY {P:Program} (w:World) {ops:Array Oper} {o:Oper} {a:Act} {K:Act->World->Prop} {Q:Exit->Act->World->Prop} {E:Prop} (hgd:o.guard=none) (s x:Operand) (t:TypeId)
 (ho:o.op = .call { callee := .builtin .append,args:=#[s,x],argTypes:=#[t,t] })
 (base:Nat) (e:TypeId) (i:TypeInfo) (z:Value) (size bytes:Nat) (ht:P.underlying t=some (.slice e)) (hi:P.info? e=some i) (hz:i.zero=some z)
 (hsize:i.size=size) (hby:i.bytes=bytes) (hzs:z.cells.size=size) (hsz:0<size)
 (v:Value) (n:Nat) (xs:List Value) (hs:a.eval s=v) (hown:w.ownsRow base e size v n xs)
 (A:Option Addr) (m c:Nat) (news:List Value) (hx:a.eval x = .slice A m c) (hl:Ln w size A m c news) (h1:∀ u∈news,u.oneCell'=true)
 (h63:n+m<=maxLen) (hbytes:(n+m)*bytes<=140737488355328) (hbase:base<=w.heap.size)
 (h:∀ A' c' w',w'.ownsRow base e size (.slice A' (n+m) c') (n+m) (xs++news)->w.grownBy w' v.ownBlock->K (a.put o.dst (.slice A' (n+m) c')) w') :
 if Region.wanted o (yielded ops a.tmps)=true then Oper.wp P o a w K Q else E:=by
 have hw:Region.wanted o (yielded ops a.tmps)=true:=by simp [Region.wanted,hgd]
 rw [if_pos hw];rcases A with _ | ad
 ·obtain ⟨rfl,rfl⟩:=hl.lies.1 rfl
  obtain rfl:news=[]:=wb2 (by have:=hl.len;omega);have hrun:=run_append_owned_none (P:=P) (w:=w) base t o.type e i size ht hi v n xs hown;obtain ⟨A',c',rfl⟩:=QH hown;unfold Oper.wp;simp [execOp,ho,resolve,invoke,builtin,hs,hx,hrun,Result.andThen];exact h A' c' w (by simpa using hown) (World.grownBy.refl _ _)
 ·refine wp_append_own w s x t ho base e i z size bytes ht hi hz hsize hby hzs hsz v n xs hs hown ad m c news hx hl.len (hl.lies.2 ad rfl) h1 h63 hbytes hbase (fun v' w' h2 h3 _=>?_)
  obtain ⟨A',c',rfl⟩:=QH h2;exact h A' c' w' h2 h3
theorem DN {w:World} {base g sz:Nat} {t:TypeId} (h:w.heap[g]?=some (.cells #[] t (0,0))) (hb:base<=g):w.ownsRow base t sz (.slice (some ⟨g,0,none⟩) 0 0) 0 [] :=
 ⟨by simp,.inr ⟨g,0,#[],rfl,hb,h,wa2 _,wb3 _,by simp,by simp⟩⟩
theorem AL (w:World) (t:TypeId):(w.alloc (.cells #[] t)).heap[w.heap.size]?=some (.cells #[] t (0,0)):=heap_alloc_new w _
theorem Hl {P:Program} (w:World) {ops:Array Oper} {o:Oper} {a:Act} {K:Act->World->Prop} {Q:Exit->Act->World->Prop} {E:Prop} (hgd:o.guard=none) (s x:Operand) (t:TypeId)
 (ho:o.op = .call { callee := .builtin .append,args:=#[s,x],argTypes:=#[t,t] })
 (base:Nat) (e:TypeId) (i:TypeInfo) (z:Value) (size bytes:Nat) (ht:P.underlying t=some (.slice e)) (hi:P.info? e=some i) (hz:i.zero=some z)
 (hsize:i.size=size) (hby:i.bytes=bytes) (hzs:z.cells.size=size) (hsz:0<size)
 (S:Option Addr) (n d:Nat) (xs:List Value) (hs:a.eval s = .slice S n d) (hown:w.ownsRow base e size (.slice S n d) n xs)
 (A:Option Addr) (m c:Nat) (news:List Value) (hx:a.eval x = .slice A m c) (hl:Ln w size A m c news) (h1:∀ u∈news,u.oneCell'=true)
 (h63:n+m<=maxLen) (hbytes:(n+m)*bytes<=140737488355328) (hbase:base<=w.heap.size)
 (h:∀ A' c' w',w'.ownsRow base e size (.slice A' (n+m) c') (n+m) (xs++news)->w.grownBy w' (Value.slice S n d).ownBlock->K (a.put o.dst (.slice A' (n+m) c')) w') :
 if Region.wanted o (yielded ops a.tmps)=true then Oper.wp P o a w K Q else E :=
 SY w hgd s x t ho base e i z size bytes ht hi hz hsize hby hzs hsz _ n xs hs hown A m c news hx hl h1 h63 hbytes hbase h
theorem Jh {w a:World} {B:Nat} {w':World} {base sz n:Nat} {e:TypeId} {v:Value} {xs:List Value} (hb:Below B a w) (hB:B<=w.heap.size) (h:w.ownsRow base e sz v n xs) (hbase:B<=base) (hg:w.grownBy w' v.ownBlock):Below B a w' :=
 Below.grown hb hg hB (fun k hk=>wa9 hbase (h.lt k hk).1)
end Go.Proofs.YtfiflinbicbedaaGreat
