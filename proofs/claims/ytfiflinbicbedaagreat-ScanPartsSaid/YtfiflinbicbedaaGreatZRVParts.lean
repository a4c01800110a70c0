/-
  ScanParts. Conditions: none.
-/
import Derived.Test.YtfiflinbicbedaaGreatRows
import Derived.Test.YtfiflinbicbedaaGreatZR26
import Derived.Deep.QuietTactic
import Derived.IntWalk
namespace Go.Proofs.YtfiflinbicbedaaGreat.scanParts
open Go.ChangeShapes Go.WideShapes Go.ChangeAt Go.RowKit Go.Maps
def PaR (W:World) (base tb pb db:Nat) (t:TS) (es:List TT.E) (A:Option Addr) (n c:Nat) (v:Value) (cU:ByteArray) (w:World):Prop :=
 ∃ F,PtR W base tb pb db t es A n c (es.filter (fun e=>Op.bytesLess e.1 cU.toList)) v F w
set_option maxRecDepth 20000 in
set_option maxHeartbeats 12800000 in
theorem walk (A:Option Addr) (n c:Nat) (l:List Uk) (hl:l.length=n) {W:World} (hs:Xq W W.heap.size A l) (hn:n<=maxLen) (A2:Option Addr) (n2 c2:Nat) (cs:List (List UInt8)) (hc:Ln W 1 A2 n2 c2 (Qd cs)) (mo:Int) (hm0 : -9223372036854775808<=mo) (hm1:mo<=9223372036854775807) :
 Calls Tryz.prog 6 #[.slice A n c,.slice A2 n2 c2,.int .i64 mo] W fun e W'=>e = .returned (.bool true)/\Below W.heap.size W W':=by
 have HG:=iQ (fun (w:World) (hW:Below W.heap.size W w)=>QQ w hW 3 (by decide) (by decide) A n c l hl hs hn);rw [show (((3:Nat):Int))=3 from rfl] at HG;have HC:=iQ hc;clear hs hl hn hc;go_enter Tryz.func6,Tryz.ntmps6;go_wp2_with fail;refine (Zv _).mono ?_;rintro e w1 ⟨rfl,b1⟩;have HGR:=iQ (HG.out w1 b1);clear b1 HG;go_wp2_with fail;refine HGR.out.mono ?_;rintro e w2 ⟨nd,tb,pb,db,g,F,t,es,L,rfl,h2,hz,hep,hle⟩;have TR:=iQ h2.tr;have H2:=iQ h2.tree;have UA:=iQ hle;clear h2 hz hep hle HGR;have C2:=iQ (qx7 w2 H2.out TR.out UA.out);go_wp2_with fail;refine C2.out.mono ?_;rintro e w3 ⟨F3,A3,n3,c3,rfl,h3,m3,hn3,l3,_⟩;have HN3:=iQ hn3;have HP0:Hid (PaR W w3.heap.size tb pb db t es A3 n3 c3 (.slice none 0 0) ⟨#[]⟩ w3):=iQ ⟨F3,h3,by
  rw [RN _ (fun x _=>by rw [qv7];exact TT.nil_low _)];exact World.ownsRow_nil _ _ _ _,fun g e=>(by cases e),l3.fewer (fun k hk=>hk.elim id (fun e=>by cases e)),⟨h3.below.size,Nat.le_refl _⟩⟩
 clear C2 h3 m3 hn3 l3 H2;obtain ⟨i0,hi0,hz0,hz1,hz2⟩:=info_parts XH;go_wp2_with fail;go_loopw [13,14,15] (fun v u i wk=>∃ (j:Nat) (cU:ByteArray),j<=n2/\j<=10/\i = .int .i64 j/\u = .string cU/\Hid (PaR W w3.heap.size tb pb db t es A3 n3 c3 v cU wk)) (fun _ _ i _=>n2 - (RowKit.intOf i).toNat)
 case atStart=>exact ⟨0,⟨#[]⟩,Nat.zero_le _,Nat.zero_le _,rfl,rfl,HP0⟩
 case round =>
  obtain ⟨j,cU,hj,hj2,rfl,rfl,HP⟩:=hrel;by_cases hgo:j<n2/\j<10
  ·obtain ⟨q1,q2⟩:=hgo
   obtain ⟨b,off,s,rfl,hv,c0⟩:=HC.out.sA (k:=j) q1;have HC0:Hid (∀ wx,Below W.heap.size W wx->wx.cell? ⟨b,off+j,none⟩=some (.string s)):=iQ (fun wx bl=>(bl.cell (World.block_lt_of_cell? _ _ c0)).trans c0);obtain ⟨F,hP⟩:=HP.out;have k0:=HC0.out _ hP.tree.below;clear hv c0 HP0;by_cases hsz:200<s.size
   ·have hsz:(200:Int)<((s.size:Nat):Int):=by omega
    clear hP;go_wp2_with fail;go_roundw;case rel=>exact ⟨j+1,cU,by omega,by omega,by go_num,rfl,HP⟩
    case measure=>simp [RowKit.intOf];omega
   ·have hsz:¬ (200:Int)<((s.size:Nat):Int):=by omega
    rcases (show Op.bytesLess s.toList cU.toList=true\/(Op.bytesLess s.toList cU.toList=false/\(s.toList==cU.toList)=true)\/(Op.bytesLess s.toList cU.toList=false/\(s.toList==cU.toList)=false/\Op.bytesLess cU.toList s.toList=true) from by
     cases p1:Op.bytesLess s.toList cU.toList with
     | true=>exact Or.inl rfl
     | false =>
       right;cases p2:(s.toList==cU.toList) with
       | true=>exact Or.inl ⟨rfl,rfl⟩
       | false =>
         refine Or.inr ⟨rfl,rfl,?_⟩;rcases Yv s.toList cU.toList with h | h | h
         ·rw [p1] at h;cases h
         ·exact absurd h (beq_eq_false_iff_ne.1 p2)
         ·exact h) with hq1 | ⟨hq1,hq2⟩ | ⟨hq1,hq2,hq⟩
    iterate 2
     ·clear hP;go_wp2_with fail;go_roundw;case rel=>exact ⟨j+1,cU,by omega,by omega,by go_num,rfl,HP⟩
      case measure=>simp [RowKit.intOf];omega
    ·have HQ:=iQ hq
     have C4:=iQ (qx2 wr cU s hP.tree TR.out UA.out);have HPT:=iQ hP;clear hq hP HP;go_wp2_with fail;refine C4.out.mono ?_;rintro e w4 ⟨F4,A4,n4,c4,rfl,h4,m4,hn4,l4,_⟩;have p4:=HPT.out.mo m4 h4;have k4:=HC0.out _ h4.below;obtain ⟨pA,pB⟩:∃ pA,es.filter (fun e=>Qh e.1 cU.toList s.toList)=pA:=⟨_,rfl⟩;obtain ⟨aA,aB⟩:∃ aA,es.filter (fun e=>Op.bytesLess e.1 cU.toList)=aA:=⟨_,rfl⟩;have hL:aA.length<=150/\pA.length<=150:=by
      have h1:=UA.out;rw [<- aB,<- pB];exact ⟨Nat.le_trans (List.length_filter_le _ _) h1,Nat.le_trans (List.length_filter_le _ _) h1⟩
     rw [pB] at hn4 l4;rw [aB] at p4;obtain ⟨N9,A9,c9,rfl,GN,h5,h6,h7,h8,h9⟩:=p4.more l4 hn4;rw [GN,hn4] at hL;have HH:=iQ (And.intro h5 (And.intro h6 (And.intro h7 h8)));have nx:=DT HQ.out es TR.out.root.sorted;rw [aB,pB] at nx;rw [nx] at h9;have HJ:=iQ h9;clear p4 l4 h4 m4 hn4 GN C4 HPT k0 h5 h6 h7 h8 h9 nx aB pB;go_wp2_with (first
      | (at_builtin;refine Jy _ rfl (.tmp 77) (.tmp 78) 29 rfl w3.heap.size 70 i0 _ 2 32 Tryz.underlying29 hi0 hz0 hz1 hz2 rfl (by decide) _ N9 _ rfl HH.out.1 A4 n4 c4 (Qg pA) rfl HH.out.2.1 HH.out.2.2.1 (Yc _) (by unfold maxLen;omega) (by omega) HH.out.2.2.2 ?_;intro v9 w9 o9 g9 d9;have R9:=iQ (show PaR W w3.heap.size tb pb db t es A3 n3 c3 v9 s w9 from ⟨F4,HJ.out v9 w9 o9 g9 d9⟩);have k9:=HC0.out w9 (by obtain ⟨F9,hp9⟩:=R9.out;exact hp9.tree.below);clear o9 g9 d9)
      | fail)
     go_roundw;case rel=>exact ⟨j+1,s,by omega,by omega,by go_num,rfl,R9⟩
     case measure=>simp [RowKit.intOf];omega
  ·have hcase:(¬ j<n2)\/(j<n2/\¬ j<10):=by omega
   obtain ⟨F,hP⟩:=HP.out;have cl:=qx2 wr cU ⟨#[]⟩ hP.tree TR.out UA.out;rw [qv7] at cl;have C4:=iQ cl;have HPT:=iQ hP;clear cl hP HP HP0 hgo HC;rcases hcase with hx | ⟨hx,hy⟩
   all_goals (
    go_wp2_with fail;refine C4.out.mono ?_;rintro e w4 ⟨F4,A4,n4,c4,rfl,h4,m4,hn4,l4,_⟩;have p4:=HPT.out.mo m4 h4;obtain ⟨pA,pB⟩:∃ pA,es.filter (fun e=>Qh e.1 cU.toList [])=pA:=⟨_,rfl⟩;obtain ⟨aA,aB⟩:∃ aA,es.filter (fun e=>Op.bytesLess e.1 cU.toList)=aA:=⟨_,rfl⟩;have hL:aA.length<=150/\pA.length<=150:=by
     have h1:=UA.out;rw [<- aB,<- pB];exact ⟨Nat.le_trans (List.length_filter_le _ _) h1,Nat.le_trans (List.length_filter_le _ _) h1⟩
    rw [pB] at hn4 l4;rw [aB] at p4;obtain ⟨N9,A9,c9,rfl,GN,h5,h6,h7,h8,h9⟩:=p4.more l4 hn4;rw [GN,hn4] at hL;have HH:=iQ (And.intro h5 (And.intro h6 (And.intro h7 h8)));have nx:=DR (a:=cU.toList) es TR.out.root.sorted;rw [aB,pB] at nx;rw [nx] at h9;have HJ:=iQ h9;clear p4 l4 h4 m4 hn4 GN C4 HPT h5 h6 h7 h8 h9 nx aB pB;go_wp2_with (first
     | (at_builtin;refine Jy _ rfl (.tmp 90) (.tmp 91) 29 rfl w3.heap.size 70 i0 _ 2 32 Tryz.underlying29 hi0 hz0 hz1 hz2 rfl (by decide) _ N9 _ rfl HH.out.1 A4 n4 c4 (Qg pA) rfl HH.out.2.1 HH.out.2.2.1 (Yc _) (by unfold maxLen;omega) (by omega) HH.out.2.2.2 ?_;intro v9 w9 o9 g9 d9;have h:=HJ.out v9 w9 o9 g9 d9;obtain ⟨A10,c10,e',_,l10⟩:=Ln.oo h.own;rw [HN3.out] at e' l10;subst e';have zk6:=h.all_.fewer (fun k hk=>Or.inl hk);have t10:=h.tree;have C5:=iQ (Ux A10 A3 n3 c10 n3 c3 es w9 l10 zk6.ln (by have h1:=UA.out;have h2:=HN3.out;omega));have HA9:=iQ (And.intro zk6 t10);clear o9 g9 d9 l10 zk6 t10 h)
     | fail)
    refine C5.out.mono ?_;rintro e w10 ⟨rfl,b10⟩;have A0_:=iQ (HA9.out.1.kept b10);have HT10:=iQ (HA9.out.2.kept b10);clear b10 C5 HA9 HJ HH hL;obtain ⟨kk,hk20,⟨ms,hw1,hw2,kx⟩ | ⟨ms,kx⟩⟩:∃ kk:Nat,kk<20/\((mo<0/\wrap64 (mo+1)=mo+1/\wrap64 (-(mo+1)) = -(mo+1)/\(-(mo+1)).tmod 20=(kk:Int))\/(¬ mo<0/\mo.tmod 20=(kk:Int))):=by
     by_cases ms:mo<0
     ·exact ⟨((-(mo+1)) % 20).toNat,by omega,Or.inl ⟨ms,IntWalk.wrap64_in _ (by omega),IntWalk.wrap64_in _ (by omega),by rw [Int.tmod_eq_emod_of_nonneg (by omega)];omega⟩⟩
     ·exact ⟨(mo % 20).toNat,by omega,Or.inr ⟨ms,by rw [Int.tmod_eq_emod_of_nonneg (by omega)];omega⟩⟩
    all_goals (
     have hsm:=TR.out.small UA.out;have cl:=Ju w10 ⟨#[]⟩ ⟨#[]⟩ ((kk:Nat):Int) (by omega) HT10.out TR.out hsm.1 hsm.2;rw [qv7,List.filter_eq_self.2 (fun x _=>VC x.1),Int.toNat_natCast] at cl;have C6:=iQ cl;clear cl hsm;go_wp2_with fail;refine C6.out.mono ?_;rintro e w11 ⟨F11,A11,n11,c11,rfl,h11,m11,hn11,l11,_⟩;have z9:=iQ (A0_.out.mo (by omega) m11);have z0:=iQ h11.below;have L11:=iQ l11.ln;have N1:=iQ hn11;clear C6 h11 m11 l11 hn11 A0_ HT10;by_cases hlt:kk<n3
     ·have C7:=iQ (Ux A11 A3 n11 c11 kk c3 (es.take kk) w11 L11.out (PN z9.out.ln (by omega)) (by have h1:=L11.out.entN;rw [List.length_take] at h1;omega))
      have HU:=fun w=>qa5 (n:=n3) (c:=c3) (k:=kk) A3 (by omega) z9.out.ln.le w;go_wp2_with (first
       | (refine He _ rfl 29 Tryz.underlying29 (.tmp 114) (.tmp 115) rfl (.slice A3 n3 c3) (.int .i64 (kk:Int)) _ rfl rfl (HU _) ?_)
       | fail)
      refine C7.out.mono ?_;rintro e w12 ⟨rfl,b12⟩;have HB:=iQ (z0.out.trans (b12.mono z0.out.size));clear b12 C7 HU;go_wp2_with fail;go_ret;exact ⟨rfl,HB.out⟩
     ·have tk:es.take kk=es:=List.take_of_length_le (by have:=HN3.out;omega)
      have C7:=iQ (Ux A11 A3 n11 c11 n3 c3 es w11 (by have h1:=L11.out;rw [tk] at h1;exact h1) z9.out.ln (by have h1:=L11.out.entN;rw [tk] at h1;have:=UA.out;omega));clear tk;go_wp2_with fail;refine C7.out.mono ?_;rintro e w12 ⟨rfl,b12⟩;have HB:=iQ (z0.out.trans (b12.mono z0.out.size));clear b12 C7;go_wp2_with fail;go_ret;exact ⟨rfl,HB.out⟩))
set_option maxRecDepth 100000 in
theorem li (os:Os) (st:os.Started) (H:Type) (enc:TypeId×Value->H) :
 ReturnsInHanded {} Tryz.checked os 6 .any (Rows.scanPartsSpec.pre6 enc Tryz.prog Tryz.f6 Rows.scanPartsRow.domain false)
  (Rows.scanPartsSpec.post enc Tryz.prog Tryz.f6 false true false false):=by
 refine Hz (C:=Tryz.checked) (tb:=4) Ho st (by kernel_rfl) Tryz.func6
  (ChangeSpec.witness6 (enc:=enc) (C:=Tryz.checked) false ⟨#[],#[.slice none 0 0,.slice none 0 0,.int .i64 0],[]⟩ 8 (by kernel_rfl) (by kernel_rfl) (by kernel_rfl) (by kernel_rfl))
  XY ?_ rfl rfl Tryz.underlying4 ?_ ?_
 ·intro t ht
  rw [Tryz.params6] at ht;simp only [List.mem_cons,List.not_mem_nil,or_false] at ht;rcases ht with rfl | rfl | rfl<;>exact ⟨by kernel_rfl,of_decide_eq_true (by kernel_rfl)⟩
 ·intro vs ds W p hA
  rw [Tryz.params6] at hA;obtain ⟨_,_,_,_,_,_,_,rfl,rfl,_,r0⟩:=trodAll_cons hA;obtain ⟨_,_,_,_,_,_,_,rfl,rfl,_,r1⟩:=trodAll_cons r0;obtain ⟨_,_,_,_,_,_,_,rfl,rfl,_,r2⟩:=trodAll_cons r1;obtain ⟨rfl,rfl,rfl⟩:=trodAll_nil r2;rfl
 ·intro W base args ds p hval hA
  rw [Tryz.params6] at hA hval;obtain ⟨v0,vs0,d0,ds0,p0,q0,ha,rfl,rfl,h0,r0⟩:=trodAll_cons hA;obtain ⟨v1,vs1,d1,ds1,p1,q1,rfl,rfl,rfl,h1,r1⟩:=trodAll_cons r0;obtain ⟨v2,vs2,d2,ds2,p2,q2,rfl,rfl,rfl,h2,r2⟩:=trodAll_cons r1;obtain ⟨rfl,rfl,rfl⟩:=trodAll_nil r2;obtain rfl:args=#[v0,v1,v2]:=by cases args;simp_all
  obtain ⟨A0,n0,c0,xs0,rfl,e0,hr0,y0⟩:=Hq (hval 0 _ v0 rfl rfl) h0;obtain ⟨A1,n1,c1,l1,rfl,hl1,_⟩:=qq7 (hval 1 _ v1 rfl rfl) h1;obtain ⟨i2,rfl,lo2,hi2⟩:=Hr (hval 2 _ v2 rfl rfl) h2;exact walk A0 n0 c0 xs0 e0 hr0 y0 A1 n1 c1 l1 hl1 i2 lo2 hi2
theorem proved:Rows.ScanPartsSaid :=
 OpenClaim.holds_of_wide 6 Tryz.f6 rfl rfl rfl rfl rfl rfl rfl ⟨rfl,rfl,rfl,rfl,rfl⟩ rfl rfl rfl rfl rfl (by kernel_rfl) Tryz.func6 (by kernel_rfl)
  (of_decide_eq_true (by kernel_rfl)) (by unfold Func.isWrapper;first | (rw [if_pos (by decide +kernel)];kernel_rfl) | (rw [if_neg (by decide +kernel)];exact ⟨rfl,rfl⟩))
  (fun a b c d _=>li a b c d)
#print axioms proved
