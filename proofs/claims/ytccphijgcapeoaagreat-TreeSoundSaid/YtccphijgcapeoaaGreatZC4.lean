/-
  A part of the proof: what its texts say stands at the head of each. Conditions: none.
-/
import Derived.Deep.LoopGhost
import Derived.Laws.MakeOwn
import Derived.Laws.IdiomCopy
import Derived.Deep.RegionHeld3
import Derived.Deep.MidRow
import Derived.Lib.LazyBuf
import Derived.Test.YtccphijgcapeoaaGreatZC3

set_option maxRecDepth 20000
set_option maxHeartbeats 12800000
/-
  What Victim comes to.
-/
namespace Go.Proofs.YtccphijgcapeoaaGreat
open Go.RowKit
section
variable {db pb:Nat} {s:CS}
theorem free_any (w:World) (n:Nat) (b:Bool) :
 Calls Tryz.prog 201 #[.agg #[.int .i64 n,.bool b]] w fun e w'=>e = .returned (.bool (n==0))∧Below w.heap.size w w':=by
 go_enter Tryz.func201,Tryz.ntmps201
 go_wp2_with fail
 refine (pinned_any _ n b).mono ?_
 rintro e w1 ⟨rfl,b1⟩
 have HB:=Lib.hid ((below_one _ _).trans (b1.mono (by simp)))
 clear b1
 rcases Nat.eq_zero_or_pos n with h0 | h0
 ·subst h0
  go_wp2_with fail
  go_ret
  exact ⟨rfl,HB.out⟩
 ·have hb:(n != 0)=true:=by rw [bne_iff_ne];omega
  have hc:(n==0)=false:=by rw [beq_eq_false_iff_ne];omega
  rw [hb]
  have HC:=Lib.hid hc
  clear hb hc
  go_wp2_with fail
  go_ret
  exact ⟨ret_bool HC.out.symm,HB.out⟩
def IxEnd (w:World) (s:CS) (e:Ending) (w':World):Prop :=
 ∃ i:Int,e = .returned (.int .i64 i)∧decide (0≤i)=s.free∧Below w.heap.size w w'
theorem index_any (w:World) (h:ClkAt w db pb s) :
 Calls Tryz.prog 209 #[.slice (some ⟨pb,0,none⟩) s.n s.n,.func (.func 201) #[] #[]] w (IxEnd w s):=by
 have hn:=h.n2
 have H:=Lib.hid h
 clear h
 go_enter Tryz.func209,Tryz.ntmps209
 go_wp2_with fail
 go_loopw [8] (fun i wr=>∃ k:Nat,k≤s.n∧i = .int .i64 k∧Hid (∀ j,j<k→¬ s.p j=0)∧Below w.heap.size w wr) (fun i _=>s.n - (RowKit.intOf i).toNat)
 case atStart=>exact ⟨0,Nat.zero_le _,rfl,Lib.hid (fun j hj=>by omega),Below.refl _ _⟩
 case round =>
  obtain ⟨k,hk,rfl,hpre,hb⟩:=hrel
  by_cases hlt:k<s.n
  ·have HR:=H.out.below hb
   have d0:=HR.cp hlt
   have d1:=HR.cu hlt
   have HB:=Lib.hid hb
   have HL:=Lib.hid hlt
   clear HR hb
   go_wp2_with fail
   refine (free_any _ (s.p k) (s.u k)).mono ?_
   rintro e w1 ⟨rfl,b1⟩
   have HB1:=Lib.hid (HB.out.trans (b1.mono HB.out.size))
   clear b1 d0 d1
   by_cases h0:s.p k=0
   ·have hb0:(s.p k==0)=true:=by rw [h0];rfl
    rw [hb0]
    have HH0:=Lib.hid h0
    clear h0 hb0
    go_wp2_with fail
    go_ret
    refine ⟨_,rfl,?_,HB1.out⟩
    rw [(CS.free_iff s).2 ⟨k,HL.out,HH0.out⟩]
    exact decide_eq_true (by omega)
   ·have hb0:(s.p k==0)=false:=by rw [beq_eq_false_iff_ne];exact h0
    rw [hb0]
    have HH0:=Lib.hid h0
    clear h0 hb0
    go_wp2_with fail
    go_roundw
    case rel =>
     refine ⟨k+1,by omega,by go_num,Lib.hid (fun j hj=>?_),HB1.out⟩
     rcases Nat.lt_or_ge j k with e | e
     ·exact hpre.out j e
     ·obtain rfl:j=k:=by omega
      exact HH0.out
    case measure=>simp [RowKit.intOf];omega
  ·obtain rfl:k=s.n:=by omega
   go_wp2_with fail
   go_ret
   refine ⟨_,rfl,?_,hb⟩
   cases hf:s.free with
   | false=>rfl
   | true =>
     obtain ⟨j,hj,h0⟩:=(CS.free_iff s).1 hf
     exact absurd h0 (hpre.out j hj)
theorem contains_any (w:World) (h:ClkAt w db pb s) :
 Calls Tryz.prog 200 #[.slice (some ⟨pb,0,none⟩) s.n s.n,.func (.func 201) #[] #[]] w fun e w'=>e = .returned (.bool s.free)∧Below w.heap.size w w':=by
 have H:=Lib.hid h
 clear h
 go_enter Tryz.func200,Tryz.ntmps200
 go_wp2_with fail
 refine (index_any _ H.out).mono ?_
 rintro e w1 ⟨i,rfl,hd,b1⟩
 have HB:=Lib.hid b1
 have HD:=Lib.hid hd
 clear b1 hd
 go_wp2_with fail
 go_ret
 exact ⟨ret_bool HD.out,HB.out⟩
def VicRel (w:World) (db pb:Nat) (r:Nat×CS) (g:Nat) (wr:World):Prop :=
 ∃ c,ClkAt wr db pb c∧CS.go g c=some r∧Kept (Two db pb) w wr
theorem vic_yes (w:World) (hf:s.free=true) (h:ClkAt w db pb s) :
 Calls Tryz.prog 184 #[.pointer (some ⟨db,0,none⟩)] w (CGoes w db pb s.vicS (.tuple #[.int .i64 s.vicI,.int .i64 s.vicE])):=by
 obtain ⟨r,hw,hgo,_⟩:=CS.way_of h.hn hf
 obtain ⟨v1,v2,v3⟩:=CS.vic_of hw
 rw [v1,v2,v3]
 have HGO:=Lib.hid hgo
 have HF:=Lib.hid hf
 have c0:=h.c0
 have H:=Lib.hid h
 clear h hf hw hgo v1 v2 v3
 go_enter Tryz.func184,Tryz.ntmps184
 go_wp2_with fail
 go_step3
 go_wp2_with fail
 refine (contains_any _ H.out).mono ?_
 rintro e w1 ⟨rfl,b1⟩
 rw [HF.out]
 have H1:=Lib.hid (H.out.below b1)
 have HB1:=Lib.hid b1
 clear b1 c0
 go_wp2_with fail
 go_step3
 go_wp2_with fail
 go_loopg [4] (2*s.n) (fun g i wr=>VicRel w db pb r g wr)
 case atStart=>exact ⟨s,H1.out,HGO.out,Kept.below HB1.out _⟩
 case round =>
  obtain ⟨c,hc,hg,hk⟩:=hrel
  have e0:=hc.c0
  have e1:=hc.c1
  have ef:=hc.f 1
  have ep:=hc.cp hc.hn
  have eu:=hc.cu hc.hn
  have hn1:=hc.n1
  have hn2:=hc.n2
  have hhn:=hc.hn
  have ne1:=hc.ne
  have ne2:=hc.ne.symm
  have HC:=Lib.hid hc
  have HK:=Lib.hid hk
  have HG:=Lib.hid hg
  clear hc hg hk
  obtain ⟨g,rfl⟩:∃ g,gk=g+1:=by
   cases gk with
   | zero=>cases HG.out
   | succ g=>exact ⟨g,rfl⟩
  go_wp2_with fail
  refine (pinned_any _ (c.p c.h) (c.u c.h)).mono ?_
  rintro e w2 ⟨rfl,b2⟩
  have k2:ClkAt (wr.setCell ⟨db,1,none⟩ (.int .i64 (((c.h:Int)+1) % (c.n:Int)))) db pb c.next:=by
   have e:(((c.h+1) % c.n:Nat):Int)=((c.h:Int)+1) % (c.n:Int):=by
    rw [Int.natCast_emod]
    rfl
   have:=HC.out.setH (m:=(c.h+1) % c.n) (Nat.mod_lt _ (by omega))
   rwa [e] at this
  have H2:Hid (ClkAt w2 db pb c.next):=k2.below b2
  have HK2:Hid (Kept (Two db pb) w w2):=(HK.out.next (Kept.two_db wr _)).next (Kept.below b2 _)
  clear e0 e1 ef ep eu k2 b2 HC HK
  by_cases h0:c.p c.h=0
  ·have hb0:(c.p c.h != 0)=false:=by rw [h0];rfl
   rw [hb0]
   have HH0:=Lib.hid h0
   clear h0 hb0
   have eu:w2.cell? ⟨pb,c.h*2+1,none⟩=some (.bool (c.u c.h)):=H2.out.cu (i:=c.h) (by show c.h<c.n;exact hhn)
   have fu:w2.frozen? ⟨pb,c.h*2+1,none⟩=false:=H2.out.row.frozen _
   cases hu:c.u c.h with
   | false =>
     rw [hu] at eu
     have HU:=Lib.hid hu
     clear hu
     go_wp2_with fail
     rw [Exit.noGoto_ret]
     go_ret2
     have:=HG.out
     rw [CS.go,if_pos HH0.out,if_neg (by rw [HU.out];decide)] at this
     obtain rfl:=Option.some.inj this
     exact ⟨rfl,H2.out,HK2.out⟩
   | true =>
     rw [hu] at eu
     have HU:=Lib.hid hu
     clear hu
     go_wp2_with fail
     go_roundg g
     case measure=>omega
     case rel =>
      have:=HG.out
      rw [CS.go,if_pos HH0.out,if_pos HU.out] at this
      exact ⟨_,H2.out.setU false,this,HK2.out.next (Kept.two_pb _ _)⟩
  ·have hb0:(c.p c.h != 0)=true:=by rw [bne_iff_ne];exact h0
   rw [hb0]
   have HH0:=Lib.hid h0
   clear h0 hb0
   go_wp2_with fail
   go_roundg g
   case measure=>omega
   case rel =>
    have:=HG.out
    rw [CS.go,if_neg HH0.out] at this
    exact ⟨_,H2.out,this,HK2.out⟩
theorem vic_none (w:World) (hf:s.free=false) (h:ClkAt w db pb s) :
 Calls Tryz.prog 184 #[.pointer (some ⟨db,0,none⟩)] w (CGoes w db pb s.vicS (.tuple #[.int .i64 s.vicI,.int .i64 s.vicE])):=by
 obtain ⟨v1,v2,v3⟩:=CS.vic_no hf
 rw [v1,v2,v3]
 have HF:=Lib.hid hf
 have c0:=h.c0
 have H:=Lib.hid h
 clear h hf v1 v2 v3
 go_enter Tryz.func184,Tryz.ntmps184
 go_wp2_with fail
 go_step3
 go_wp2_with fail
 refine (contains_any _ H.out).mono ?_
 rintro e w1 ⟨rfl,b1⟩
 rw [HF.out]
 have HB1:=Lib.hid b1
 clear b1 c0
 go_wp2_with fail
 rw [Exit.noGoto_ret]
 go_ret2
 exact ⟨rfl,H.out.below HB1.out,Kept.below HB1.out _⟩
theorem victim_any (w:World) (h:ClkAt w db pb s) :
 Calls Tryz.prog 184 #[.pointer (some ⟨db,0,none⟩)] w (CGoes w db pb s.vicS (.tuple #[.int .i64 s.vicI,.int .i64 s.vicE])):=by
 cases hf:s.free with
 | true=>exact vic_yes w hf h
 | false=>exact vic_none w hf h
end
end Go.Proofs.YtccphijgcapeoaaGreat
/-
  What Pins and Used come to.
-/
namespace Go.Proofs.YtccphijgcapeoaaGreat
open Go.RowKit
theorem boolInfo1:(Tryz.prog.info? 4).map (fun i=>(i.zero,i.size,i.bytes))=some (some (.bool false),1,1):=by kernel_rfl
theorem pinsOf_any (w:World) (n:Nat) (b:Bool) :
 Calls Tryz.prog 206 #[.agg #[.int .i64 n,.bool b]] w fun e w'=>e = .returned (.int .i64 n)∧Below w.heap.size w w':=by
 go_enter Tryz.func206,Tryz.ntmps206
 go_wp2_with fail
 go_ret
 exact ⟨rfl,below_one _ _⟩
theorem usedOf_any (w:World) (n:Nat) (b:Bool) :
 Calls Tryz.prog 208 #[.agg #[.int .i64 n,.bool b]] w fun e w'=>e = .returned (.bool b)∧Below w.heap.size w w':=by
 go_enter Tryz.func208,Tryz.ntmps208
 go_wp2_with fail
 go_ret
 exact ⟨rfl,below_one _ _⟩
def toP (s:CS) (k j:Nat):Value:=if j<k then .int .i64 (s.p j) else .int .i64 0
def toU (s:CS) (k j:Nat):Value:=if j<k then .bool (s.u j) else .bool false
theorem toP_start (s:CS) (j:Nat):toP s 0 j = .int .i64 0:=by simp [toP]
theorem toP_here (s:CS) (k:Nat):toP s k k = .int .i64 0:=by simp [toP]
theorem toP_step (s:CS) (k j:Nat):(if j=k then Value.int .i64 (s.p k) else toP s k j)=toP s (k+1) j:=by
 unfold toP
 by_cases h:j=k
 ·subst h
  rw [if_pos rfl,if_pos (by omega)]
 ·rw [if_neg h]
  by_cases h2:j<k
  ·rw [if_pos h2,if_pos (by omega)]
  ·rw [if_neg h2,if_neg (by omega)]
theorem toU_start (s:CS) (j:Nat):toU s 0 j = .bool false:=by simp [toU]
theorem toU_here (s:CS) (k:Nat):toU s k k = .bool false:=by simp [toU]
theorem toU_step (s:CS) (k j:Nat):(if j=k then Value.bool (s.u k) else toU s k j)=toU s (k+1) j:=by
 unfold toU
 by_cases h:j=k
 ·subst h
  rw [if_pos rfl,if_pos (by omega)]
 ·rw [if_neg h]
  by_cases h2:j<k
  ·rw [if_pos h2,if_pos (by omega)]
  ·rw [if_neg h2,if_neg (by omega)]
section
variable {db pb:Nat} {s:CS}
theorem eachP_any (w:World) (h:ClkAt w db pb s) :
 Calls Tryz.prog 205 #[.pointer (some ⟨db,0,none⟩),.func (.func 206) #[] #[]] w
  fun e w'=>e = .returned (.slice (some ⟨w.heap.size,0,none⟩) s.n s.n)∧w'.rowIs w.heap.size 3 s.n (toP s s.n)∧Below w.heap.size w w':=by
 have hn:=h.n2
 have hmk:=fun W=>run_make_row' (P:=Tryz.prog) 36 3 (.int .i64 0) 8 Tryz.underlying36 intInfo rfl .i64 .i64 s.n (by omega) (by omega) W
 have c0:=h.c0
 obtain ⟨l1,l2⟩:=h.lt
 have H:=Lib.hid h
 clear h
 go_enter Tryz.func205,Tryz.ntmps205
 go_wp2_with fail
 go_loopw [21] (fun i wr=>∃ k:Nat,k≤s.n∧i = .int .i64 k∧wr.rowIs w.heap.size 3 s.n (toP s k)∧Below w.heap.size w wr) (fun i _=>s.n - (RowKit.intOf i).toNat)
 case atStart=>exact ⟨0,Nat.zero_le _,rfl,(World.rowIs_made _ _ _ _).congr (fun j _=>(toP_start s j).symm),below_one _ _⟩
 case round =>
  obtain ⟨k,hk,rfl,hrow,hb⟩:=hrel
  by_cases hlt:k<s.n
  ·have HR:=H.out.below hb
   have d0:=HR.cp hlt
   have d1:=HR.cu hlt
   have g2:=hrow.lt
   have HROW:=Lib.hid hrow
   have HB:=Lib.hid hb
   clear HR hb hrow c0
   go_wp2_with fail
   refine (pinsOf_any _ (s.p k) (s.u k)).mono ?_
   rintro e w1 ⟨rfl,b1⟩
   have b2:Below wr.heap.size wr w1:=(below_one wr _).trans (b1.mono (by simp))
   have HB2:=Lib.hid b2
   clear b1 b2 d0 d1 g2
   have r1:=HROW.out.of_block (HB2.out.block _ HROW.out.lt)
   have g0:=r1.cell hlt
   rw [toP_here] at g0
   have g1:=r1.frozen k
   have g2:=r1.lt
   have R1:=Lib.hid r1
   clear r1
   go_wp2_with fail
   go_roundw
   case rel =>
    refine ⟨k+1,by omega,by go_num,(R1.out.set k _).congr (fun j _=>toP_step s k j),?_⟩
    exact (HB.out.trans (HB2.out.mono HB.out.size)).setCell (p:=⟨w.heap.size,k,none⟩) (Nat.le_refl _) _
   case measure=>simp [RowKit.intOf];omega
  ·obtain rfl:k=s.n:=by omega
   go_wp2_with fail
   go_ret
   exact ⟨rfl,hrow,hb⟩
theorem eachU_any (w:World) (h:ClkAt w db pb s) :
 Calls Tryz.prog 207 #[.pointer (some ⟨db,0,none⟩),.func (.func 208) #[] #[]] w
  fun e w'=>e = .returned (.slice (some ⟨w.heap.size,0,none⟩) s.n s.n)∧w'.rowIs w.heap.size 4 s.n (toU s s.n)∧Below w.heap.size w w':=by
 have hn:=h.n2
 have hmk:=fun W=>run_make_row' (P:=Tryz.prog) 86 4 (.bool false) 1 Tryz.underlying86 boolInfo1 rfl .i64 .i64 s.n (by omega) (by omega) W
 have c0:=h.c0
 obtain ⟨l1,l2⟩:=h.lt
 have H:=Lib.hid h
 clear h
 go_enter Tryz.func207,Tryz.ntmps207
 go_wp2_with fail
 go_loopw [21] (fun i wr=>∃ k:Nat,k≤s.n∧i = .int .i64 k∧wr.rowIs w.heap.size 4 s.n (toU s k)∧Below w.heap.size w wr) (fun i _=>s.n - (RowKit.intOf i).toNat)
 case atStart=>exact ⟨0,Nat.zero_le _,rfl,(World.rowIs_made _ _ _ _).congr (fun j _=>(toU_start s j).symm),below_one _ _⟩
 case round =>
  obtain ⟨k,hk,rfl,hrow,hb⟩:=hrel
  by_cases hlt:k<s.n
  ·have HR:=H.out.below hb
   have d0:=HR.cp hlt
   have d1:=HR.cu hlt
   have g2:=hrow.lt
   have HROW:=Lib.hid hrow
   have HB:=Lib.hid hb
   clear HR hb hrow c0
   go_wp2_with fail
   refine (usedOf_any _ (s.p k) (s.u k)).mono ?_
   rintro e w1 ⟨rfl,b1⟩
   have b2:Below wr.heap.size wr w1:=(below_one wr _).trans (b1.mono (by simp))
   have HB2:=Lib.hid b2
   clear b1 b2 d0 d1 g2
   have r1:=HROW.out.of_block (HB2.out.block _ HROW.out.lt)
   have g0:=r1.cell hlt
   rw [toU_here] at g0
   have g1:=r1.frozen k
   have g2:=r1.lt
   have R1:=Lib.hid r1
   clear r1
   go_wp2_with fail
   go_roundw
   case rel =>
    refine ⟨k+1,by omega,by go_num,(R1.out.set k _).congr (fun j _=>toU_step s k j),?_⟩
    exact (HB.out.trans (HB2.out.mono HB.out.size)).setCell (p:=⟨w.heap.size,k,none⟩) (Nat.le_refl _) _
   case measure=>simp [RowKit.intOf];omega
  ·obtain rfl:k=s.n:=by omega
   go_wp2_with fail
   go_ret
   exact ⟨rfl,hrow,hb⟩
def Bls (w:World) (A:Option Addr) (zs:List Bool):Prop :=
 zs=[]∨∃ b off,A=some ⟨b,off,none⟩∧∀ i z,zs[i]?=some z→w.cell? ⟨b,off+i,none⟩=some (.bool z)
theorem Bls.at_ {w:World} {A:Option Addr} {zs:List Bool} (h:Bls w A zs) {k:Nat} (hk:k<zs.length) :
 ∃ b off z,A=some ⟨b,off,none⟩∧zs[k]?=some z∧w.cell? ⟨b,off+k,none⟩=some (.bool z):=by
 rcases h with rfl | ⟨b,off,rfl,hc⟩
 ·exact absurd hk (by simp)
 ·exact ⟨b,off,zs[k],rfl,List.getElem?_eq_getElem hk,hc k _ (List.getElem?_eq_getElem hk)⟩
theorem pinsL_len (s:CS):s.pinsL.length=s.n:=by simp [CS.pinsL]
theorem usedL_len (s:CS):s.usedL.length=s.n:=by simp [CS.usedL]
theorem pinsL_at (s:CS) {i:Nat} (h:i<s.n):s.pinsL[i]?=some ((s.p i:Nat):Int):=by simp [CS.pinsL,h]
theorem usedL_at (s:CS) {i:Nat} (h:i<s.n):s.usedL[i]?=some (s.u i):=by simp [CS.usedL,h]
theorem ints_row {w:World} {b:Nat} {t:TypeId} {f:Nat→Value} {s:CS} (h:w.rowIs b t s.n f) (hf:∀ j,j<s.n→f j = .int .i64 (s.p j)):Ints w (some ⟨b,0,none⟩) s.pinsL:=by
 refine Or.inr ⟨b,0,rfl,fun i z hz=>?_⟩
 have hi:i<s.n:=by
  have:=(List.getElem?_eq_some_iff.1 hz).1
  rwa [pinsL_len] at this
 rw [pinsL_at s hi] at hz
 obtain rfl:=Option.some.inj hz
 rw [Nat.zero_add,h.cell hi,hf i hi]
theorem bls_row {w:World} {b:Nat} {t:TypeId} {f:Nat→Value} {s:CS} (h:w.rowIs b t s.n f) (hf:∀ j,j<s.n→f j = .bool (s.u j)):Bls w (some ⟨b,0,none⟩) s.usedL:=by
 refine Or.inr ⟨b,0,rfl,fun i z hz=>?_⟩
 have hi:i<s.n:=by
  have:=(List.getElem?_eq_some_iff.1 hz).1
  rwa [usedL_len] at this
 rw [usedL_at s hi] at hz
 obtain rfl:=Option.some.inj hz
 rw [Nat.zero_add,h.cell hi,hf i hi]
theorem pins_any (w:World) (h:ClkAt w db pb s) :
 Calls Tryz.prog 197 #[.pointer (some ⟨db,0,none⟩)] w
  fun e w'=>e = .returned (.slice (some ⟨w.heap.size,0,none⟩) s.n s.n)∧Ints w' (some ⟨w.heap.size,0,none⟩) s.pinsL∧Below w.heap.size w w':=by
 have H:=Lib.hid h
 clear h
 go_enter Tryz.func197,Tryz.ntmps197
 go_wp2_with fail
 refine (eachP_any _ H.out).mono ?_
 rintro e w' ⟨rfl,hr,hb⟩
 have HR:=Lib.hid hr
 have HB:=Lib.hid hb
 clear hr hb
 go_wp2_with fail
 go_ret
 exact ⟨rfl,ints_row HR.out (fun j hj=>by unfold toP;rw [if_pos hj]),HB.out⟩
theorem used_any (w:World) (h:ClkAt w db pb s) :
 Calls Tryz.prog 198 #[.pointer (some ⟨db,0,none⟩)] w
  fun e w'=>e = .returned (.slice (some ⟨w.heap.size,0,none⟩) s.n s.n)∧Bls w' (some ⟨w.heap.size,0,none⟩) s.usedL∧Below w.heap.size w w':=by
 have H:=Lib.hid h
 clear h
 go_enter Tryz.func198,Tryz.ntmps198
 go_wp2_with fail
 refine (eachU_any _ H.out).mono ?_
 rintro e w' ⟨rfl,hr,hb⟩
 have HR:=Lib.hid hr
 have HB:=Lib.hid hb
 clear hr hb
 go_wp2_with fail
 go_ret
 exact ⟨rfl,bls_row HR.out (fun j hj=>by unfold toU;rw [if_pos hj]),HB.out⟩
end
end Go.Proofs.YtccphijgcapeoaaGreat
/-
  What New comes to.
-/
namespace Go.Proofs.YtccphijgcapeoaaGreat
open Go.RowKit
theorem placeInfo:(Tryz.prog.info? 249).map (fun i=>(i.zero,i.size,i.bytes))=some (some (.agg #[.int .i64 0,.bool false]),2,16):=by kernel_rfl
def plC (n:Nat):Array Value:=madeCells #[.int .i64 0,.bool false] (n*2)
theorem plC_size (n:Nat):(plC n).size=n*2:=size_madeCells _ _
theorem plC_at (n i:Nat) (h:i<n*2):(plC n)[i]?=some (plc (CS.new n) i):=by
 unfold plC madeCells plc CS.new
 rcases Nat.mod_two_eq_zero_or_one i with e | e
 ·rw [if_pos e]
  simp [e,h]
 ·rw [if_neg (by omega)]
  simp [e,h]
theorem make_places (w:World) (n:Nat) (hn:n≤1000):(Instr.makeSlice 148 (.int .i64 (n:Int)) (.int .i64 (n:Int))).run Tryz.prog w = .ok (.slice (some ⟨w.heap.size,0,none⟩) n n) (w.alloc (.cells (plC n) 249)):=by
 obtain ⟨i,hi,hzz⟩:=Option.map_eq_some_iff.1 placeInfo
 simp only [Prod.mk.injEq] at hzz
 obtain ⟨hz,hs,hb⟩:=hzz
 have hr:=run_make (P:=Tryz.prog) w 148 249 i _ Tryz.underlying148 hi hz .i64 .i64 (n:Int) (n:Int) (by omega) (Int.le_refl _) (by rw [hb];omega) (by omega)
 simp only [Int.toNat_natCast,hs] at hr
 exact hr
def CMade (w:World) (n:Nat) (e:Ending) (w':World):Prop :=
 ∃ db pb,e = .returned (.tuple #[.pointer (some ⟨db,0,none⟩),.int .i64 0])∧ClkAt w' db pb (CS.new n)∧w.heap.size≤db∧w.heap.size≤pb∧Below w.heap.size w w'
theorem gnew_good (w:World) (n:Nat) (h1:1≤n) (h2:n≤1000):Calls Tryz.prog 53 #[.int .i64 n] w (CMade w n):=by
 have hm:=make_places w n h2
 go_enter Tryz.func53,Tryz.ntmps53
 go_wp2_with fail
 go_ret2
 have hs:(w.alloc (.cells (plC n) 249)).heap.size=w.heap.size+1:=by simp
 refine ⟨w.heap.size+1,w.heap.size,rfl,⟨?_,?_,h1,h2,?_,fun j=>Nat.zero_le _⟩,by omega,Nat.le_refl _,below_two _ _ _⟩
 ·have:=heap_alloc_new (w.alloc (.cells (plC n) 249)) (.cells #[.slice (some ⟨w.heap.size,0,none⟩) n n,.int .i64 0] 150)
  rw [hs] at this
  exact this
 ·have:=World.rowIs_alloc w (plC n) 249 (plc (CS.new n)) (fun i hi=>plC_at n i (by rw [plC_size] at hi;exact hi))
  rw [plC_size] at this
  exact this.alloc _
 ·show 0<n
  omega
end Go.Proofs.YtccphijgcapeoaaGreat
/-
  A clock in the midst of a law: what lies below the law's first world stays.
-/
namespace Go.Proofs.YtccphijgcapeoaaGreat
open Go.RowKit
section
variable {W w w':World} {db pb:Nat} {s s':CS}
end
end Go.Proofs.YtccphijgcapeoaaGreat
/-
  The plain pool: what each call answers, and how it stands behind it. Nothing here names the program.
-/
namespace Go.Proofs.YtccphijgcapeoaaGreat
structure PP where
 m:Nat
 at_:Nat→Int
 b:Nat→List UInt8
 d:Nat→Bool
 c:CS
 k:PS
namespace PP
def new (k:PS) (m:Nat):PP:=⟨m,fun _ => -1,fun _=>[],fun _=>false,CS.new m,k⟩
def first (m:Nat) (q:Nat→Bool):Option Nat:=(List.range m).find? q
def find (s:PP) (n:Int):Option Nat:=if n<0 then none else first s.m fun i=>s.at_ i==n
def gap (s:PP):Option Nat:=first s.m fun i=>s.at_ i == -1
def lay (s:PP) (i:Nat) (n:Int) (l:List UInt8) (d:Bool):PP :=
 {s with at_:=fun j=>if j=i then n else s.at_ j,b:=fun j=>if j=i then l else s.b j,d:=fun j=>if j=i then d else s.d j }
def used (s:PP) (i:Nat):PP:={ s with c:=s.c.useS i }
def wrote (s:PP) (i:Nat):PP:={ s with k:=s.k.written (s.at_ i) (s.b i) }
def room (s:PP):Option Nat×Int×PP :=
 match s.gap with
 | some i=>(some i,0,s)
 | none =>
   if s.c.free then
    let i:=s.c.vicI.toNat
    if s.d i then
     if s.k.writeE (s.at_ i) (s.b i)=0 then (some i,0,PP.lay { s.wrote i with c:=s.c.vicS } i (-1) [] false) else (none,s.k.writeE (s.at_ i) (s.b i),s.wrote i)
    else (some i,0,PP.lay { s with c:=s.c.vicS } i (-1) [] false)
   else (none,60,s)
def get (s:PP) (n:Int):Int×List UInt8×PP :=
 match s.find n with
 | some i=>(0,s.b i,s.used i)
 | none =>
   if s.k.readE n=0 then
    match s.room with
    | (some i,_,t)=>(0,s.k.readB n,(t.lay i n (s.k.readB n) false).used i)
    | (none,e,t)=>(e,[],t)
   else (s.k.readE n,[],s)
def put (s:PP) (n:Int) (l:List UInt8):Int×PP :=
 if s.k.bad n l then (41,s) else
 match s.find n with
 | some i=>(0,(s.lay i n l true).used i)
 | none =>
   match s.room with
   | (some i,_,t)=>(0,(t.lay i n l true).used i)
   | (none,e,t)=>(e,t)
def dirty (s:PP) (n:Int):Option Nat :=
 match s.find n with
 | some i=>if s.d i then some i else none
 | none=>none
def washed (s:PP) (i:Nat):PP:={ s.wrote i with d:=fun j=>if j=i then false else s.d j }
def wash:Nat→Int→PP→Int×PP
 | 0,_,s=>(0,s)
 | g+1,n,s =>
   match s.dirty n with
   | some i=>if s.k.writeE (s.at_ i) (s.b i)=0 then wash g (n+1) (s.washed i) else (s.k.writeE (s.at_ i) (s.b i),s.wrote i)
   | none=>wash g (n+1) s
def flush (s:PP):Int×PP :=
 let r:=wash s.k.size 0 s
 if r.1=0 then (r.2.k.flushE,{ r.2 with k:=r.2.k.flushed }) else r
def drop (s:PP):PP:={ s with at_:=fun _ => -1,b:=fun _=>[],d:=fun _=>false,c:=CS.new s.m }
def pages (s:PP):List Int:=(List.range s.m).map s.at_
theorem first_some {m:Nat} {q:Nat→Bool} {i:Nat} (h:first m q=some i):i<m∧q i=true:=by
 unfold first at h
 have h1:=List.find?_some h
 have h2:=List.mem_of_find?_eq_some h
 exact ⟨List.mem_range.1 h2,h1⟩
theorem first_none {m:Nat} {q:Nat→Bool} (h:first m q=none):∀ i,i<m→q i=false:=by
 unfold first at h
 rw [List.find?_eq_none] at h
 intro i hi
 have:=h i (List.mem_range.2 hi)
 simpa using this
theorem find_some {s:PP} {n:Int} {i:Nat} (h:s.find n=some i):i<s.m∧s.at_ i=n∧0≤n:=by
 unfold find at h
 split at h
 ·cases h
 ·obtain ⟨h1,h2⟩:=first_some h
  exact ⟨h1,by simpa using h2,by omega⟩
theorem find_none {s:PP} {n:Int} (h:s.find n=none) (hn:0≤n):∀ i,i<s.m→s.at_ i≠n:=by
 unfold find at h
 rw [if_neg (by omega)] at h
 intro i hi
 have:=first_none h i hi
 simpa using this
theorem gap_some {s:PP} {i:Nat} (h:s.gap=some i):i<s.m∧s.at_ i = -1:=by
 obtain ⟨h1,h2⟩:=first_some h
 exact ⟨h1,by simpa using h2⟩
theorem gap_none {s:PP} (h:s.gap=none):∀ i,i<s.m→s.at_ i ≠ -1:=by
 intro i hi
 have:=first_none h i hi
 simpa using this
end PP
namespace PS
theorem has_at (s:PS) (n:Int):s.has n=true ↔ 0≤n∧n<(s.size:Int):=by
 unfold has
 exact decide_eq_true_iff
structure Well (s:PS):Prop where
 down:s.down=false
 fused:s.fused=false
theorem Well.read {s:PS} (h:s.Well) {n:Int} (hn:s.has n=true):s.readE n=0∧s.readB n=s.held n:=by
 unfold readE readB
 rw [h.down,hn]
 exact ⟨rfl,rfl⟩
theorem Well.acted {s:PS} (h:s.Well):s.acted=s∧s.may=true:=by
 unfold PS.acted may
 rw [h.fused]
 exact ⟨rfl,rfl⟩
theorem Well.write {s:PS} (h:s.Well) {n:Int} (hn:s.has n=true) {l:List UInt8} (hl:l.length≤1024):s.writeE n l=0∧s.written n l=s.lay n l:=by
 have hb:s.bad n l=false:=by
  unfold bad
  rw [hn]
  simp
  omega
 unfold writeE written
 rw [h.down,hb,h.acted.2,h.acted.1]
 exact ⟨rfl,rfl⟩
theorem Well.flush {s:PS} (h:s.Well):s.flushE=0∧s.flushed=s.all:=by
 unfold flushE flushed
 rw [h.down,h.acted.2,h.acted.1]
 exact ⟨rfl,rfl⟩
theorem Well.lay {s:PS} (h:s.Well) (n:Int) (l:List UInt8):(s.lay n l).Well:=⟨h.down,h.fused⟩
theorem Well.all {s:PS} (h:s.Well):s.all.Well:=⟨h.down,h.fused⟩
theorem lay_held (s:PS) (n:Int) (l:List UInt8) (j:Int):(s.lay n l).held j=if j=n then l else s.held j:=by
 unfold PS.lay held
 by_cases e:j=n
 ·simp [e]
 ·simp [e]
theorem all_held (s:PS) (j:Int):s.all.held j=s.held j:=by
 unfold PS.all held
 simp
end PS
end Go.Proofs.YtccphijgcapeoaaGreat
/-
  Which place the clock's Victim is, told without its hand's way. Nothing here names the program.
-/
namespace Go.Proofs.YtccphijgcapeoaaGreat.CS
theorem at_mod {s:CS} (hh:s.h<s.n) {d:Nat} (hd:d<s.n):s.at_ d=(s.h+d) % s.n:=by
 unfold at_
 split
 ·rename_i e
  exact (Nat.mod_eq_of_lt e).symm
 ·rename_i e
  rw [Nat.mod_eq_sub_mod (by omega),Nat.mod_eq_of_lt (by omega)]
theorem at_inj {s:CS} {d e:Nat} (hd:d<s.n) (he:e<s.n) (h:s.at_ d=s.at_ e):d=e:=by
 unfold at_ at h
 split at h<;>split at h<;>omega
theorem at_lt {s:CS} (hh:s.h<s.n) {d:Nat} (hd:d<s.n):s.at_ d<s.n:=by
 unfold at_
 split<;>omega
theorem go_first:∀ (d:Nat) (s:CS),s.h<s.n→d<s.n→(∀ e,e<d→s.p (s.at_ e)≠0∨s.u (s.at_ e)=true)→s.p (s.at_ d)=0→s.u (s.at_ d)=false →
 ∃ r,go (d+1) s=some r∧r.1=s.at_ d
 | 0,s,hh,_,_,h1,h2=>by
   have e0:=at_zero hh
   rw [e0] at h1 h2
   rw [go,if_pos h1,if_neg (by rw [h2];decide)]
   exact ⟨_,rfl,e0.symm⟩
 | d+1,s,hh,hd,hp,h1,h2=>by
   have e0:=hp 0 (by omega)
   rw [at_zero hh] at e0
   rw [go]
   by_cases hz:s.p s.h=0
   ·have hu:s.u s.h=true:=by
     rcases e0 with e0 | e0
     ·exact absurd hz e0
     ·exact e0
    rw [if_pos hz,if_pos hu]
    have hat:∀ e,e+1<s.n→(s.setU s.h false).next.at_ e=s.at_ (e+1):=fun e he=>next_at (s:=s.setU s.h false) hh he
    have hne:∀ e,0<e→e<s.n→(s.setU s.h false).next.u (s.at_ e)=s.u (s.at_ e):=fun e h0 he=>by
     show (if s.at_ e=s.h then false else _)=_
     rw [if_neg (at_ne h0 he)]
    obtain ⟨r,h3,h4⟩:=go_first d (s.setU s.h false).next (next_lt (s:=s.setU s.h false) hh) (by show d<s.n;omega) (fun e he=>by
     rw [hat e (by omega),hne _ (by omega) (by omega)]
     exact hp (e+1) (by omega)) (by rw [hat d hd];exact h1) (by rw [hat d hd,hne _ (by omega) hd];exact h2)
    exact ⟨r,h3,h4.trans (hat d hd)⟩
   ·rw [if_neg hz]
    have hat:∀ e,e+1<s.n→s.next.at_ e=s.at_ (e+1):=fun e he=>next_at hh he
    obtain ⟨r,h3,h4⟩:=go_first d s.next (next_lt hh) (by show d<s.n;omega) (fun e he=>by
     rw [hat e (by omega)]
     exact hp (e+1) (by omega)) (by rw [hat d hd];exact h1) (by rw [hat d hd];exact h2)
    exact ⟨r,h3,h4.trans (hat d hd)⟩
structure On (s:CS) (d:Nat) (t:CS):Prop where
 go_:∀ g,go (g+d) s=go g t
 n_:t.n=s.n
 p_:t.p=s.p
 h_:t.h=(s.h+d) % s.n
 off:∀ e,e<d→s.p (s.at_ e)=0→t.u (s.at_ e)=false
 on:∀ e,d≤e→e<s.n→t.u (s.at_ e)=s.u (s.at_ e)
theorem go_on (s:CS) (hh:s.h<s.n):∀ (d:Nat),d≤s.n→(∀ e,e<d→s.p (s.at_ e)≠0∨s.u (s.at_ e)=true)→∃ t,On s d t
 | 0,_,_=>⟨s,fun _=>rfl,rfl,rfl,(Nat.mod_eq_of_lt hh).symm,fun e he=>absurd he (by omega),fun _ _ _=>rfl⟩
 | d+1,hd,hp=>by
   obtain ⟨t,h⟩:=go_on s hh d (by omega) (fun e he=>hp e (by omega))
   have eh:t.h=s.at_ d:=by rw [h.h_,at_mod hh (by omega)]
   have en:(t.h+1) % t.n=(s.h+(d+1)) % s.n:=by
    rw [h.n_,h.h_,Nat.mod_add_mod,Nat.add_assoc]
   have h0:=hp d (by omega)
   by_cases hz:s.p (s.at_ d)=0
   ·have hu:s.u (s.at_ d)=true:=by
     rcases h0 with h0 | h0
     ·exact absurd hz h0
     ·exact h0
    refine ⟨(t.setU t.h false).next,fun g=>?_,h.n_,h.p_,en,fun e he h1=>?_,fun e he h1=>?_⟩
    ·rw [show g+(d+1)=(g+1)+d by omega,h.go_,go,if_pos (by rw [h.p_,eh];exact hz),if_pos (by rw [eh,h.on d (Nat.le_refl _) (by omega)];exact hu)]
    ·show (if s.at_ e=t.h then false else t.u (s.at_ e))=false
     split
     ·rfl
     ·rename_i hne
      refine h.off e ?_ h1
      have:e≠d:=fun e2=>hne (by rw [eh,e2])
      omega
    ·show (if s.at_ e=t.h then false else t.u (s.at_ e))=_
     rw [if_neg (fun e2=>by rw [eh] at e2;have:=at_inj h1 (by omega) e2;omega)]
     exact h.on e (by omega) h1
   ·refine ⟨t.next,fun g=>?_,h.n_,h.p_,en,fun e he h1=>?_,fun e he h1=>h.on e (by omega) h1⟩
    ·rw [show g+(d+1)=(g+1)+d by omega,h.go_,go,if_neg (by rw [h.p_,eh];exact hz)]
    ·refine h.off e ?_ h1
     have:e≠d:=fun e2=>hz (by rw [← e2];exact h1)
     omega
theorem free_at {s:CS} (hh:s.h<s.n) {d:Nat} (hd:d<s.n) (h0:s.p (s.at_ d)=0):s.free=true :=
 (free_iff s).2 ⟨s.at_ d,at_lt hh hd,h0⟩
theorem way_is {s:CS} (hf:s.free=true) {k:Nat} (hk:k≤2*s.n) {r:Nat×CS} (h:go k s=some r):s.way=some r:=by
 unfold way
 rw [if_pos hf]
 exact go_le h hk
theorem vic_first {s:CS} (hh:s.h<s.n) {d:Nat} (hd:d<s.n) (hp:∀ e,e<d→s.p (s.at_ e)≠0∨s.u (s.at_ e)=true) (h1:s.p (s.at_ d)=0) (h2:s.u (s.at_ d)=false) :
 s.vicI=s.at_ d:=by
 obtain ⟨r,h3,h4⟩:=go_first d s hh hd hp h1 h2
 have hw:=way_is (free_at hh hd h1) (by omega) h3
 unfold vicI
 rw [hw,← h4]
theorem vic_second {s:CS} (hh:s.h<s.n) {d:Nat} (hd:d<s.n) (hp:∀ e,e<s.n→s.p (s.at_ e)≠0∨s.u (s.at_ e)=true) (h0:∀ e,e<d→s.p (s.at_ e)≠0) (h1:s.p (s.at_ d)=0) :
 s.vicI=s.at_ d:=by
 obtain ⟨t,h⟩:=go_on s hh s.n (Nat.le_refl _) hp
 have eh:t.h=s.h:=by rw [h.h_,Nat.add_mod_right,Nat.mod_eq_of_lt hh]
 have ea:∀ e,t.at_ e=s.at_ e:=fun e=>by unfold at_;rw [eh,h.n_]
 obtain ⟨r,h3,h4⟩:=go_first d t (by rw [eh,h.n_];exact hh) (by rw [h.n_];exact hd) (fun e he=>by rw [ea,h.p_];exact Or.inl (h0 e he)) (by rw [ea,h.p_];exact h1) (by rw [ea];exact h.off d hd h1)
 have hg:go (2*s.n) s=some r:=by
  rw [show 2*s.n=s.n+s.n by omega,h.go_]
  exact go_le h3 (by omega)
 have hw:=way_is (free_at hh hd h1) (Nat.le_refl _) hg
 unfold vicI
 rw [hw]
 show (r.1:Int)=_
 rw [h4,ea]
theorem not_free {s:CS} (hh:s.h<s.n) (h0:∀ e,e<s.n→s.p (s.at_ e)≠0):s.free=false:=by
 cases hf:s.free with
 | false=>rfl
 | true =>
   obtain ⟨j,hj,h1⟩:=(free_iff s).1 hf
   refine absurd h1 ?_
   -- the place j is some place on
   by_cases e:s.h≤j
   ·have:=h0 (j - s.h) (by omega)
    unfold at_ at this
    rw [if_pos (by omega),show s.h+(j - s.h)=j by omega] at this
    exact this
   ·have:=h0 (j+s.n - s.h) (by omega)
    unfold at_ at this
    rw [if_neg (by omega),show s.h+(j+s.n - s.h) - s.n=j by omega] at this
    exact this
end Go.Proofs.YtccphijgcapeoaaGreat.CS
/-
  What is meant by a pool in memory.
-/
namespace Go.Proofs.YtccphijgcapeoaaGreat
open Go.RowKit
def frc (g:Nat→Value) (S:Nat→Int) (U T:Nat→Bool) (k:Nat):Value :=
 if k % 4=0 then g (k / 4) else if k % 4=1 then .int .i64 (S (k / 4)) else if k % 4=2 then .bool (U (k / 4)) else .bool (T (k / 4))
def at1 {α:Type} (f:Nat→α) (i:Nat) (v:α):Nat→α:=fun j=>if j=i then v else f j
theorem at1_here {α:Type} (f:Nat→α) (i:Nat) (v:α):at1 f i v i=v:=if_pos rfl
theorem at1_else {α:Type} (f:Nat→α) {i j:Nat} (v:α) (h:j≠i):at1 f i v j=f j:=if_neg h
section
variable (g:Nat→Value) (S:Nat→Int) (U T:Nat→Bool) (i:Nat)
theorem frc_0:frc g S U T (i*4)=g i:=by
 unfold frc
 rw [if_pos (by omega),show i*4 / 4=i by omega]
theorem frc_1:frc g S U T (i*4+1) = .int .i64 (S i):=by
 unfold frc
 rw [if_neg (by omega),if_pos (by omega),show (i*4+1) / 4=i by omega]
theorem frc_2:frc g S U T (i*4+2) = .bool (U i):=by
 unfold frc
 rw [if_neg (by omega),if_neg (by omega),if_pos (by omega),show (i*4+2) / 4=i by omega]
theorem frc_3:frc g S U T (i*4+3) = .bool (T i):=by
 unfold frc
 rw [if_neg (by omega),if_neg (by omega),if_neg (by omega),show (i*4+3) / 4=i by omega]
theorem frc_set0 (v:Value) (k:Nat):(if k=i*4 then v else frc g S U T k)=frc (at1 g i v) S U T k:=by
 by_cases e:k=i*4
 ·rw [if_pos e,e,frc_0,at1_here]
 ·rw [if_neg e]
  unfold frc
  by_cases h:k % 4=0
  ·rw [if_pos h,if_pos h,at1_else _ _ (by omega)]
  ·rw [if_neg h,if_neg h]
theorem frc_set1 (v:Int) (k:Nat):(if k=i*4+1 then Value.int .i64 v else frc g S U T k)=frc g (at1 S i v) U T k:=by
 by_cases e:k=i*4+1
 ·rw [if_pos e,e,frc_1,at1_here]
 ·rw [if_neg e]
  unfold frc
  by_cases h:k % 4=1
  ·rw [if_neg (by omega),if_pos h,if_neg (by omega),if_pos h,at1_else _ _ (by omega)]
  ·rw [if_neg h,if_neg h]
theorem frc_set2 (v:Bool) (k:Nat):(if k=i*4+2 then Value.bool v else frc g S U T k)=frc g S (at1 U i v) T k:=by
 by_cases e:k=i*4+2
 ·rw [if_pos e,e,frc_2,at1_here]
 ·rw [if_neg e]
  unfold frc
  by_cases h:k % 4=2
  ·rw [if_neg (by omega),if_neg (by omega),if_pos h,if_neg (by omega),if_neg (by omega),if_pos h,at1_else _ _ (by omega)]
  ·rw [if_neg h,if_neg h]
theorem frc_set3 (v:Bool) (k:Nat):(if k=i*4+3 then Value.bool v else frc g S U T k)=frc g S U (at1 T i v) k:=by
 by_cases e:k=i*4+3
 ·rw [if_pos e,e,frc_3,at1_here]
 ·rw [if_neg e]
  unfold frc
  by_cases h:k % 4=3
  ·rw [if_neg (by omega),if_neg (by omega),if_neg (by omega),if_neg (by omega),if_neg (by omega),if_neg (by omega),at1_else _ _ (by omega)]
  ·by_cases h0:k % 4=0
   ·rw [if_pos h0,if_pos h0]
   ·by_cases h1:k % 4=1
    ·rw [if_neg h0,if_pos h1,if_neg h0,if_pos h1]
    ·have h2:k % 4=2:=by omega
     rw [if_neg h0,if_neg h1,if_pos h2,if_neg h0,if_neg h1,if_pos h2]
end
def PP.sec (s:PP) (i:Nat):Int:=if s.at_ i = -1 then 0 else s.at_ i
def PP.ful (s:PP) (i:Nat):Bool := !(s.at_ i == -1)
structure PCore (w:World) (F D:Nat→Prop) (pb fb cb rb db m:Nat) (c:CS) (k:PS):Prop where
 str:w.heap[pb]?=some (.cells #[.pointer (some ⟨db,0,none⟩),.slice (some ⟨fb,0,none⟩) m m,.pointer (some ⟨cb,0,none⟩)] 95 (0,0))
 fty:∃ cur,w.heap[fb]?=some (.cells cur 132 (0,0))
 clk:ClkAt w cb rb c
 cm:c.n=m
 dk:Dk w D db k
 fp:F pb
 ff:F fb
 fc:F cb
 fr:F rb
 fd:∀ k,D k→F k
 dp:¬ D pb
 df:¬ D fb
 dc:¬ D cb
 dr:¬ D rb
 lt:∀ k,F k→k<w.heap.size
def Owns (w:World) (F D:Nat→Prop) (g:Nat→Value) (m:Nat) (b:Nat→List UInt8):Prop :=
 ∀ i,i<m→Own w 0 (g i) (b i)∧(b i).length≤1024∧∀ k,(g i).ownBlock=some k→F k∧¬ D k
structure Fit (s:PP):Prop where
 vd:∀ i,i<s.m→s.at_ i = -1→s.d i=false
 rng:∀ i,i<s.m→s.at_ i = -1∨s.k.has (s.at_ i)=true
structure PoolAt (w:World) (F D:Nat→Prop) (pb fb cb rb db:Nat) (g:Nat→Value) (s:PP):Prop where
 core:PCore w F D pb fb cb rb db s.m s.c s.k
 row:w.rowIs fb 132 (s.m*4) (frc g s.sec s.ful s.d)
 own:Owns w F D g s.m s.b
 fit:Fit s
section
variable {w w':World} {F F' D D':Nat→Prop} {pb fb cb rb db m:Nat} {c:CS} {k:PS}
theorem pool_types:((95:TypeId)≠132∧(95:TypeId)≠150∧(95:TypeId)≠249) ∧
 ((132:TypeId)≠150∧(132:TypeId)≠249) ∧
 ((5:TypeId)≠95∧(5:TypeId)≠132∧(5:TypeId)≠150∧(5:TypeId)≠249):=by decide
theorem block_ne {w:World} {a b:Nat} {x y:Array Value} {t u:TypeId} {p q:Nat×Nat} (h:w.heap[a]?=some (.cells x t p)) (k:w.heap[b]?=some (.cells y u q)) (ht:t≠u):a≠b:=by
 intro e
 rw [e,k] at h
 injection h with h
 injection h with _ h
 exact ht h.symm
theorem PCore.ne (h:PCore w F D pb fb cb rb db m c k):(pb≠fb∧pb≠cb∧pb≠rb)∧(fb≠cb∧fb≠rb):=by
 obtain ⟨⟨t1,t2,t3⟩,⟨t4,t5⟩,_⟩:=pool_types
 obtain ⟨cur,hf⟩:=h.fty
 obtain ⟨cr,hr,_⟩:=h.clk.row
 exact ⟨⟨block_ne h.str hf t1,block_ne h.str h.clk.str t2,block_ne h.str hr t3⟩,block_ne hf h.clk.str t4,block_ne hf hr t5⟩
theorem PCore.own_ne (h:PCore w F D pb fb cb rb db m c k) {base:Nat} {v:Value} {l:List UInt8} {q:Nat} (o:Own w base v l) (e:v.ownBlock=some q):q≠pb∧q≠fb∧q≠cb∧q≠rb:=by
 obtain ⟨_,_,⟨t1,t2,t3,t4⟩⟩:=pool_types
 obtain ⟨cur,hc⟩:=own_cells o e
 obtain ⟨cur2,hf⟩:=h.fty
 obtain ⟨cr,hr,_⟩:=h.clk.row
 exact ⟨block_ne hc h.str t1,block_ne hc hf t2,block_ne hc h.clk.str t3,block_ne hc hr t4⟩
theorem PCore.c0 (h:PCore w F D pb fb cb rb db m c k):w.cell? ⟨pb,0,none⟩=some (.pointer (some ⟨db,0,none⟩)):=(cell_of_row w pb 0 _ _ _ h.str).trans rfl
theorem PCore.c1 (h:PCore w F D pb fb cb rb db m c k):w.cell? ⟨pb,1,none⟩=some (.slice (some ⟨fb,0,none⟩) m m):=(cell_of_row w pb 1 _ _ _ h.str).trans rfl
theorem PCore.c2 (h:PCore w F D pb fb cb rb db m c k):w.cell? ⟨pb,2,none⟩=some (.pointer (some ⟨cb,0,none⟩)):=(cell_of_row w pb 2 _ _ _ h.str).trans rfl
theorem PCore.m1 (h:PCore w F D pb fb cb rb db m c k):1≤m∧m≤1000:=by
 have h1:=h.clk.n1
 have h2:=h.clk.n2
 have h3:=h.cm
 omega
theorem PCore.same (h:PCore w F D pb fb cb rb db m c k) (e:∀ k,F k→w'.heap[k]?=w.heap[k]?) (hs:w.heap.size≤w'.heap.size):PCore w' F D pb fb cb rb db m c k :=
 {h with
  str:=(e pb h.fp).trans h.str
  fty:=by
   obtain ⟨cur,hf⟩:=h.fty
   exact ⟨cur,(e fb h.ff).trans hf⟩
  clk:=h.clk.same (e cb h.fc) (e rb h.fr)
  dk:=by
   obtain ⟨bl,bw,gL,gW,h0⟩:=h.dk
   exact ⟨bl,bw,gL,gW,h0.same (fun k hk=>e k (h.fd k hk)) hs⟩
  lt:=fun k hk=>Nat.lt_of_lt_of_le (h.lt k hk) hs }
theorem PCore.more (h:PCore w F D pb fb cb rb db m c k) (hF:∀ k,F k→F' k) (hl:∀ k,F' k→k<w.heap.size):PCore w F' D pb fb cb rb db m c k :=
 {h with
  fp:=hF _ h.fp
  ff:=hF _ h.ff
  fc:=hF _ h.fc
  fr:=hF _ h.fr
  fd:=fun k hk=>hF k (h.fd k hk)
  lt:=hl }
/-- The frames alone were written. -/
theorem PCore.frame (h:PCore w F D pb fb cb rb db m c k) (hf:∃ cur,w'.heap[fb]?=some (.cells cur 132 (0,0))) (hk:Kept (·=fb) w w'):PCore w' F D pb fb cb rb db m c k:=by
 obtain ⟨⟨n1,n2,n3⟩,n4,n5⟩:=h.ne
 exact { h with
  str:=(hk.block _ (h.lt _ h.fp) n1).trans h.str
  fty:=hf
  clk:=h.clk.kept hk (fun e=>n4 e.symm) (fun e=>n5 e.symm)
  dk:=h.dk.kept hk (fun k hD e=>h.df (by rw [← e];exact hD))
  lt:=fun k hk'=>Nat.lt_of_lt_of_le (h.lt k hk') hk.size }
theorem PCore.clock (h:PCore w F D pb fb cb rb db m c k) {c':CS} (hn:c'.n=m) (hc:ClkAt w' cb rb c') (hk:Kept (Two cb rb) w w'):PCore w' F D pb fb cb rb db m c' k:=by
 obtain ⟨⟨n1,n2,n3⟩,n4,n5⟩:=h.ne
 exact { h with
  str:=(hk.block _ (h.lt _ h.fp) (by rintro (e | e);exact n2 e;exact n3 e)).trans h.str
  fty:=by
   obtain ⟨cur,hf⟩:=h.fty
   exact ⟨cur,(hk.block _ (h.lt _ h.ff) (by rintro (e | e);exact n4 e;exact n5 e)).trans hf⟩
  clk:=hc
  cm:=hn
  dk:=h.dk.kept hk (fun k hD e=>by rcases e with e | e;exact h.dc (by rw [← e];exact hD);exact h.dr (by rw [← e];exact hD))
  lt:=fun k hk'=>Nat.lt_of_lt_of_le (h.lt k hk') hk.size }
theorem PCore.disk (h:PCore w F D pb fb cb rb db m c k) {k':PS} (hd:Dk w' D' db k') (hN:∀ k,D' k→D k∨w.heap.size≤k) (hk:Kept D w w') :
 PCore w' (fun k=>F k∨w.heap.size≤k∧k<w'.heap.size) D' pb fb cb rb db m c k':=by
 have no:∀ b,F b→¬ D b→¬ D' b:=fun b hF hD h'=>by
  rcases hN b h' with e | e
  ·exact hD e
  ·have:=h.lt b hF
   omega
 exact
  {str:=(hk.block _ (h.lt _ h.fp) h.dp).trans h.str
   fty:=by
    obtain ⟨cur,hf⟩:=h.fty
    exact ⟨cur,(hk.block _ (h.lt _ h.ff) h.df).trans hf⟩
   clk:=h.clk.kept hk h.dc h.dr
   cm:=h.cm
   dk:=hd
   fp:=Or.inl h.fp
   ff:=Or.inl h.ff
   fc:=Or.inl h.fc
   fr:=Or.inl h.fr
   fd:=fun b hb=>by
    rcases hN b hb with e | e
    ·exact Or.inl (h.fd b e)
    ·exact Or.inr ⟨e,hd.lt b hb⟩
   dp:=no _ h.fp h.dp
   df:=no _ h.ff h.df
   dc:=no _ h.fc h.dc
   dr:=no _ h.fr h.dr
   lt:=fun b hb=>by
    rcases hb with e | e
    ·exact Nat.lt_of_lt_of_le (h.lt b e) hk.size
    ·exact e.2 }
end
section
variable {w w' w2:World} {F F' D D':Nat→Prop} {pb fb cb rb db:Nat} {g:Nat→Value} {s s':PP}
theorem Owns.same {m:Nat} {b:Nat→List UInt8} (h:Owns w F D g m b) (e:∀ i q,i<m→(g i).ownBlock=some q→w'.heap[q]?=w.heap[q]?):Owns w' F D g m b:=fun i hi=>by
 obtain ⟨h1,h2,h3⟩:=h i hi
 exact ⟨own_of_block h1 (fun q hq=>e i q hi hq),h2,h3⟩
theorem Owns.sets {m:Nat} {b:Nat→List UInt8} (h:Owns w F D g m b) (hF:∀ k,F k→F' k) (hD:∀ k,F k→¬ D k→¬ D' k):Owns w F' D' g m b:=fun i hi=>by
 obtain ⟨h1,h2,h3⟩:=h i hi
 exact ⟨h1,h2,fun q hq=>⟨hF q (h3 q hq).1,hD q (h3 q hq).1 (h3 q hq).2⟩⟩
theorem PoolAt.s0 (h:PoolAt w F D pb fb cb rb db g s) {i:Nat} (hi:i<s.m):w.cell? ⟨fb,i*4,none⟩=some (g i):=by
 rw [h.row.cell (by omega),frc_0]
theorem PoolAt.s1 (h:PoolAt w F D pb fb cb rb db g s) {i:Nat} (hi:i<s.m):w.cell? ⟨fb,i*4+1,none⟩=some (.int .i64 (s.sec i)):=by
 rw [h.row.cell (by omega),frc_1]
theorem PoolAt.s2 (h:PoolAt w F D pb fb cb rb db g s) {i:Nat} (hi:i<s.m):w.cell? ⟨fb,i*4+2,none⟩=some (.bool (s.ful i)):=by
 rw [h.row.cell (by omega),frc_2]
theorem PoolAt.s3 (h:PoolAt w F D pb fb cb rb db g s) {i:Nat} (hi:i<s.m):w.cell? ⟨fb,i*4+3,none⟩=some (.bool (s.d i)):=by
 rw [h.row.cell (by omega),frc_3]
theorem PoolAt.sf (h:PoolAt w F D pb fb cb rb db g s) (j:Nat):w.frozen? ⟨fb,j,none⟩=false:=h.row.frozen j
theorem PoolAt.same (h:PoolAt w F D pb fb cb rb db g s) (e:∀ k,F k→w'.heap[k]?=w.heap[k]?) (hs:w.heap.size≤w'.heap.size):PoolAt w' F D pb fb cb rb db g s :=
 ⟨h.core.same e hs,h.row.of_block (e fb h.core.ff),h.own.same (fun i q hi hq=>e q ((h.own i hi).2.2 q hq).1),h.fit⟩
theorem PoolAt.below (h:PoolAt w F D pb fb cb rb db g s) (hb:Below w.heap.size w w'):PoolAt w' F D pb fb cb rb db g s:=h.same (fun k hF=>hb.block k (h.core.lt k hF)) hb.size
theorem PoolAt.drewN (h:PoolAt w F D pb fb cb rb db g s) (n:Nat):PoolAt (w.drewN n) F D pb fb cb rb db g s:=h.same (fun _ _=>rfl) (Nat.le_refl _)
theorem PoolAt.kept {G:Nat→Prop} (h:PoolAt w F D pb fb cb rb db g s) (hk:Kept G w w') (hd:∀ k,F k→¬ G k):PoolAt w' F D pb fb cb rb db g s :=
 h.same (fun k hF=>hk.block k (h.core.lt k hF) (hd k hF)) hk.size
theorem PoolAt.clock (h:PoolAt w F D pb fb cb rb db g s) {c':CS} (hn:c'.n=s.c.n) (hc:ClkAt w' cb rb c') (hk:Kept (Two cb rb) w w'):PoolAt w' F D pb fb cb rb db g { s with c:=c' }:=by
 obtain ⟨⟨n1,n2,n3⟩,n4,n5⟩:=h.core.ne
 exact ⟨h.core.clock (hn.trans h.core.cm) hc hk,h.row.of_block (hk.block _ (h.core.lt _ h.core.ff) (by rintro (e | e);exact n4 e;exact n5 e)),h.own.same (fun i q hi hq=>by
  obtain ⟨o1,o2,o3⟩:=h.own i hi
  obtain ⟨_,_,q3,q4⟩:=h.core.own_ne o1 hq
  exact hk.block q (h.core.lt _ (o3 q hq).1) (by rintro (e | e);exact q3 e;exact q4 e)),⟨h.fit.vd,h.fit.rng⟩⟩
theorem PoolAt.disk (h:PoolAt w F D pb fb cb rb db g s) {k':PS} (hz:k'.size=s.k.size) (hd:Dk w' D' db k') (hN:∀ k,D' k→D k∨w.heap.size≤k) (hk:Kept D w w') :
 PoolAt w' (fun k=>F k∨w.heap.size≤k∧k<w'.heap.size) D' pb fb cb rb db g { s with k:=k' }:=by
 refine ⟨h.core.disk hd hN hk,h.row.of_block (hk.block _ (h.core.lt _ h.core.ff) h.core.df),(h.own.same (fun i q hi hq=>by
  obtain ⟨o1,o2,o3⟩:=h.own i hi
  exact hk.block q (h.core.lt _ (o3 q hq).1) (o3 q hq).2)).sets (fun _ hF=>Or.inl hF) (fun q hF hD h'=>?_),⟨h.fit.vd,fun i hi=>?_⟩⟩
 ·rcases hN q h' with e | e
  ·exact hD e
  ·have:=h.core.lt q hF
   omega
 ·show s.at_ i = -1∨k'.has _=true
  rw [PS.has_at,hz,← PS.has_at]
  exact h.fit.rng i hi
theorem PoolAt.setD (h:PoolAt w F D pb fb cb rb db g s) (i:Nat) (v:Bool) (hv:v=true→s.at_ i ≠ -1):PoolAt (w.setCell ⟨fb,i*4+3,none⟩ (.bool v)) F D pb fb cb rb db g { s with d:=fun j=>if j=i then v else s.d j }:=by
 have hk:Kept (·=fb) w (w.setCell ⟨fb,i*4+3,none⟩ (.bool v)):=Kept.setCell (F:=(·=fb)) w (a:=⟨fb,i*4+3,none⟩) rfl _
 have hr:=(h.row.set (i*4+3) (.bool v)).congr (fun k _=>frc_set3 g s.sec s.ful s.d i v k)
 obtain ⟨cur,hc,_⟩:=hr
 refine ⟨h.core.frame ⟨cur,hc⟩ hk,(h.row.set (i*4+3) (.bool v)).congr (fun k _=>frc_set3 g s.sec s.ful s.d i v k),h.own.same (fun j q hj hq=>?_),⟨fun j hj hat=>?_,h.fit.rng⟩⟩
 ·obtain ⟨o1,o2,o3⟩:=h.own j hj
  exact hk.block q (h.core.lt _ (o3 q hq).1) (h.core.own_ne o1 hq).2.1
 ·show (if j=i then v else s.d j)=false
  split
  ·rename_i e
   cases hv':v with
   | false=>rfl
   | true=>exact absurd (by rw [← e];exact hat) (hv hv')
  ·exact h.fit.vd j hj hat
/-- A frame comes to hold something. -/
theorem PoolAt.laid (h:PoolAt w F D pb fb cb rb db g s) {i:Nat} {n:Int} (hn:s.k.has n=true) {v:Value} {l:List UInt8} (hl:l.length≤1024) (hk:Kept (·=fb) w w') (ho:Own w' w.heap.size v l)
 (hr:w'.rowIs fb 132 (s.m*4) (frc (at1 g i v) (at1 s.sec i n) (at1 s.ful i true) s.d)) :
 PoolAt w' (fun k=>F k∨w.heap.size≤k∧k<w'.heap.size) D pb fb cb rb db (at1 g i v) (s.lay i n l (s.d i)):=by
 have hne:n ≠ -1:=by
  have:=(s.k.has_at n).1 hn
  omega
 have hc:=hr
 obtain ⟨cur,hc,_⟩:=hc
 have e1:∀ j,(s.lay i n l (s.d i)).sec j=at1 s.sec i n j:=fun j=>by
  unfold PP.sec at1 PP.lay
  show (if (if j=i then n else s.at_ j) = -1 then (0:Int) else (if j=i then n else s.at_ j))=_
  by_cases e:j=i
  ·rw [if_pos e,if_neg hne,if_pos e]
  ·rw [if_neg e,if_neg e]
 have e2:∀ j,(s.lay i n l (s.d i)).ful j=at1 s.ful i true j:=fun j=>by
  unfold PP.ful at1 PP.lay
  show (!((if j=i then n else s.at_ j) == -1))=_
  by_cases e:j=i
  ·rw [if_pos e,if_pos e]
   simp [hne]
  ·rw [if_neg e,if_neg e]
 have e3:∀ j,(s.lay i n l (s.d i)).d j=s.d j:=fun j=>by
  unfold PP.lay
  show (if j=i then s.d i else s.d j)=_
  split
  ·rename_i e
   rw [e]
  ·rfl
 refine ⟨(h.core.frame ⟨cur,hc⟩ hk).more (fun _ hF=>Or.inl hF) (fun b hb=>?_),hr.congr (fun j _=>?_),fun j hj=>?_,⟨fun j hj hat=>?_,fun j hj=>?_⟩⟩
 ·rcases hb with e | e
  ·exact Nat.lt_of_lt_of_le (h.core.lt b e) hk.size
  ·exact e.2
 ·rw [show (s.lay i n l (s.d i)).sec=at1 s.sec i n from funext e1,show (s.lay i n l (s.d i)).ful=at1 s.ful i true from funext e2,show (s.lay i n l (s.d i)).d=s.d from funext e3]
 ·by_cases e:j=i
  ·rw [e,at1_here]
   show Own w' 0 v (if i=i then l else s.b i)∧(if i=i then l else s.b i).length≤1024∧_
   rw [if_pos rfl]
   refine ⟨own_base ho,hl,fun q hq=>?_⟩
   obtain ⟨q1,q2⟩:=ho.lt q hq
   refine ⟨Or.inr ⟨q1,q2⟩,fun hD=>?_⟩
   have:=h.core.lt q (h.core.fd q hD)
   omega
  ·rw [at1_else _ _ e]
   show Own w' 0 (g j) (if j=i then l else s.b j)∧(if j=i then l else s.b j).length≤1024∧_
   rw [if_neg e]
   obtain ⟨o1,o2,o3⟩:=h.own j hj
   exact ⟨own_of_block o1 (fun q hq=>hk.block q (h.core.lt _ (o3 q hq).1) (h.core.own_ne o1 hq).2.1),o2,fun q hq=>⟨Or.inl (o3 q hq).1,(o3 q hq).2⟩⟩
 ·rw [e3]
  have hat':(if j=i then n else s.at_ j) = -1:=hat
  by_cases e:j=i
  ·rw [if_pos e] at hat'
   exact absurd hat' hne
  ·rw [if_neg e] at hat'
   exact h.fit.vd j hj hat'
 ·show (if j=i then n else s.at_ j) = -1∨s.k.has (if j=i then n else s.at_ j)=true
  by_cases e:j=i
  ·rw [if_pos e]
   exact Or.inr hn
  ·rw [if_neg e]
   exact h.fit.rng j hj
/-- A frame is emptied. -/
theorem PoolAt.void (h:PoolAt w F D pb fb cb rb db g s) {i:Nat} (hk:Kept (·=fb) w w')
 (hr:w'.rowIs fb 132 (s.m*4) (frc (at1 g i (.slice none 0 0)) (at1 s.sec i 0) (at1 s.ful i false) (at1 s.d i false))) :
 PoolAt w' F D pb fb cb rb db (at1 g i (.slice none 0 0)) (s.lay i (-1) [] false):=by
 have hc:=hr
 obtain ⟨cur,hc,_⟩:=hc
 have e1:∀ j,(s.lay i (-1) [] false).sec j=at1 s.sec i 0 j:=fun j=>by
  unfold PP.sec at1 PP.lay
  show (if (if j=i then (-1:Int) else s.at_ j) = -1 then (0:Int) else (if j=i then (-1:Int) else s.at_ j))=_
  by_cases e:j=i
  ·rw [if_pos e,if_pos rfl,if_pos e]
  ·rw [if_neg e,if_neg e]
 have e2:∀ j,(s.lay i (-1) [] false).ful j=at1 s.ful i false j:=fun j=>by
  unfold PP.ful at1 PP.lay
  show (!((if j=i then (-1:Int) else s.at_ j) == -1))=_
  by_cases e:j=i
  ·rw [if_pos e,if_pos e]
   rfl
  ·rw [if_neg e,if_neg e]
 refine ⟨h.core.frame ⟨cur,hc⟩ hk,hr.congr (fun j _=>?_),fun j hj=>?_,⟨fun j hj hat=>?_,fun j hj=>?_⟩⟩
 ·rw [show (s.lay i (-1) [] false).sec=at1 s.sec i 0 from funext e1,show (s.lay i (-1) [] false).ful=at1 s.ful i false from funext e2]
  rfl
 ·show Own w' 0 _ (if j=i then [] else s.b j)∧(if j=i then [] else s.b j).length≤1024∧_
  by_cases e:j=i
  ·rw [if_pos e,e,at1_here]
   exact ⟨own_nil _ _,Nat.zero_le _,fun q hq=>by cases hq⟩
  ·rw [at1_else _ _ e,if_neg e]
   obtain ⟨o1,o2,o3⟩:=h.own j hj
   exact ⟨own_of_block o1 (fun q hq=>hk.block q (h.core.lt _ (o3 q hq).1) (h.core.own_ne o1 hq).2.1),o2,o3⟩
 ·show (if j=i then false else s.d j)=false
  have hat':(if j=i then (-1:Int) else s.at_ j) = -1:=hat
  split
  ·rfl
  ·rename_i e
   rw [if_neg e] at hat'
   exact h.fit.vd j hj hat'
 ·show (if j=i then (-1:Int) else s.at_ j) = -1∨s.k.has (if j=i then (-1:Int) else s.at_ j)=true
  by_cases e:j=i
  ·rw [if_pos e]
   exact Or.inl rfl
  ·rw [if_neg e]
   exact h.fit.rng j hj
end
def PEnd (w:World) (F:Nat→Prop) (pb fb cb rb db:Nat) (s':PP) (v:Value) (e:Ending) (w':World):Prop :=
 e = .returned v∧∃ F' D' g',PoolAt w' F' D' pb fb cb rb db g' s'∧Moves w F w' F'
theorem Moves.new {w w':World} {F:Nat→Prop} (h:Kept F w w'):Moves w F w' (fun k=>F k∨w.heap.size≤k∧k<w'.heap.size) :=
 ⟨h,fun _ hk=>by rcases hk with e | e;exact Or.inl e;exact Or.inr e.1⟩
theorem Moves.refl (w:World) (F:Nat→Prop):Moves w F w F:=⟨Kept.refl _ _,fun _ hk=>Or.inl hk⟩
end Go.Proofs.YtccphijgcapeoaaGreat
/-
  What the pool's own small functions come to: made, find, told, lay, hold.
-/
namespace Go.Proofs.YtccphijgcapeoaaGreat
open Go.RowKit
theorem made_yes (w:World) (pb db:Nat) (c0:w.cell? ⟨pb,0,none⟩=some (.pointer (some ⟨db,0,none⟩))) :
 Calls Tryz.prog 39 #[.pointer (some ⟨pb,0,none⟩)] w fun e w'=>e = .returned (.bool true)∧w=w':=by
 go_enter Tryz.func39,Tryz.ntmps39
 go_wp2_with fail
 go_ret
 exact ⟨rfl,rfl⟩
theorem told_any (A:Option Addr) (n c R:Nat) (l:List UInt8) (w:World) (hx:Bys w R A l) (e:l.length=n) (hn:n≤1000000) (hz:A=none→n=0∧c=0) :
 Calls Tryz.prog 118 #[.slice A n c] w (Owned w.heap.size w l):=by
 have HC:=Lib.hid (clone_all A n c R l w hx e hn hz)
 clear hx e hn hz
 go_enter Tryz.func118,Tryz.ntmps118
 go_wp2_with fail
 refine HC.out.mono ?_
 rintro e w1 ⟨v1,rfl,o1,b1⟩
 have HO:=Lib.hid o1
 have HB:=Lib.hid b1
 clear o1 b1
 go_wp2_with fail
 go_ret
 exact ⟨v1,rfl,HO.out,HB.out⟩
def LayEnd (w:World) (fb o:Nat) (l:List UInt8) (e:Ending) (w':World):Prop :=
 ∃ v w1,e = .returned (.tuple #[])∧Own w1 w.heap.size v l∧Below w.heap.size w w1∧w'=w1.setCell ⟨fb,o,none⟩ v
theorem play_any (fb o:Nat) (A:Option Addr) (n c R:Nat) (l:List UInt8) (u:Value) (w:World) (hx:Bys w R A l) (e:l.length=n) (hn:n≤1000000) (hz:A=none→n=0∧c=0)
 (cc:w.cell? ⟨fb,o,none⟩=some u) (cf:w.frozen? ⟨fb,o,none⟩=false) :
 Calls Tryz.prog 185 #[.pointer (some ⟨fb,o,none⟩),.slice A n c] w (LayEnd w fb o l):=by
 have HC:=Lib.hid (clone_all A n c R l w hx e hn hz)
 have lt:fb<w.heap.size:=World.block_lt_of_cell? _ _ cc
 clear hx e hn hz
 go_enter Tryz.func185,Tryz.ntmps185
 go_wp2_with fail
 refine HC.out.mono ?_
 rintro e w1 ⟨v1,rfl,o1,b1⟩
 have d1:=(b1.cell (p:=⟨fb,o,none⟩) lt).trans cc
 have d2:=(b1.frozen (p:=⟨fb,o,none⟩) lt).trans cf
 obtain ⟨A1,c1,rfl,-,-⟩:=own_slice o1
 have HO:=Lib.hid o1
 have HB:=Lib.hid b1
 clear o1 b1 cc cf
 go_wp2_with fail
 go_end0
 exact ⟨_,w1,rfl,HO.out,HB.out,rfl⟩
section
variable {F D:Nat→Prop} {pb fb cb rb db:Nat} {g:Nat→Value} {s:PP}
def findA (o:Option Nat):Value := .tuple #[.int .i64 ((o.getD 0:Nat):Int),.bool o.isSome]
theorem find_here {s:PP} {n:Int} {k:Nat} (hf:Fit s) (hk:k<s.m) (hu:s.ful k=true) (hs:s.sec k=n) (hp:∀ j,j<k→¬ (s.ful j=true∧s.sec j=n)):s.find n=some k:=by
 have hat:∀ j,s.ful j=true→s.at_ j ≠ -1∧s.sec j=s.at_ j:=fun j hj=>by
  have h1:s.at_ j ≠ -1:=by
   unfold PP.ful at hj
   simpa using hj
  exact ⟨h1,by unfold PP.sec;rw [if_neg h1]⟩
 have h1:=hat k hu
 have hn:0≤n:=by
  rcases hf.rng k hk with e | e
  ·exact absurd e h1.1
  ·have:=(s.k.has_at _).1 e
   omega
 unfold PP.find PP.first
 rw [if_neg (by omega),List.find?_range_eq_some]
 refine ⟨by rw [← hs,h1.2];simp,List.mem_range.2 hk,fun j hj=>?_⟩
 have h2:=hp j hj
 by_cases e:s.at_ j=n
 ·refine absurd ⟨?_,?_⟩ h2
  ·unfold PP.ful
   simp [e]
   omega
  ·unfold PP.sec
   rw [if_neg (by omega),e]
 ·simpa using e
theorem find_nowhere {s:PP} {n:Int} (hp:∀ j,j<s.m→¬ (s.ful j=true∧s.sec j=n)):s.find n=none:=by
 unfold PP.find PP.first
 split
 ·rfl
 ·rw [List.find?_eq_none]
  intro j hj h
  have e:s.at_ j=n:=by simpa using h
  refine hp j (List.mem_range.1 hj) ⟨?_,?_⟩
  ·unfold PP.ful
   simp [e]
   omega
  ·unfold PP.sec
   rw [if_neg (by omega),e]
theorem pfind_any (w:World) (n:Int) (h:PoolAt w F D pb fb cb rb db g s) :
 Calls Tryz.prog 147 #[.pointer (some ⟨pb,0,none⟩),.int .i64 n] w fun e w'=>e = .returned (findA (s.find n))∧w=w':=by
 have hm:=h.core.m1.2
 have c1:=h.core.c1
 have H:=Lib.hid h
 clear h
 go_enter Tryz.func147,Tryz.ntmps147
 go_wp2_with fail
 go_loopw [13] (fun i wr=>∃ k:Nat,k≤s.m∧i = .int .i64 k∧Hid (∀ j,j<k→¬ (s.ful j=true∧s.sec j=n))∧w=wr) (fun i _=>s.m - (RowKit.intOf i).toNat)
 case atStart=>exact ⟨0,Nat.zero_le _,rfl,Lib.hid (fun j hj=>by omega),rfl⟩
 case round =>
  obtain ⟨k,hk,rfl,hpre,rfl⟩:=hrel
  by_cases hlt:k<s.m
  ·have d1:=H.out.s1 hlt
   have d2:=H.out.s2 hlt
   by_cases hu:s.ful k=true
   ·rw [hu] at d2
    by_cases hs:s.sec k=n
    ·rw [hs] at d1
     have HE:=Lib.hid (find_here H.out.fit hlt hu hs hpre.out)
     clear hu hs
     go_wp2_with fail
     go_ret2
     refine ⟨?_,rfl⟩
     rw [HE.out]
     rfl
    ·have HP:Hid (∀ j,j<k+1→¬ (s.ful j=true∧s.sec j=n)):=fun j hj=>by
      rcases Nat.lt_or_ge j k with e | e
      ·exact hpre.out j e
      ·obtain rfl:j=k:=by omega
       exact fun h2=>hs h2.2
     have hs':(s.sec k==n)=false:=by simpa using hs
     clear hs hu hpre
     go_wp2_with fail
     go_roundw
     case rel=>exact ⟨k+1,by omega,by go_num,HP,trivial⟩
     case measure=>simp [RowKit.intOf];omega
   ·have hu':s.ful k=false:=by simpa using hu
    rw [hu'] at d2
    have HP:Hid (∀ j,j<k+1→¬ (s.ful j=true∧s.sec j=n)):=fun j hj=>by
     rcases Nat.lt_or_ge j k with e | e
     ·exact hpre.out j e
     ·obtain rfl:j=k:=by omega
      exact fun h2=>hu h2.1
    clear hu hu' hpre
    go_wp2_with fail
    go_roundw
    case rel=>exact ⟨k+1,by omega,by go_num,HP,trivial⟩
    case measure=>simp [RowKit.intOf];omega
  ·obtain rfl:k=s.m:=by omega
   have HE:=Lib.hid (find_nowhere hpre.out)
   clear hpre
   go_wp2_with fail
   go_ret2
   refine ⟨?_,rfl⟩
   rw [HE.out]
   rfl
end
end Go.Proofs.YtccphijgcapeoaaGreat
/-
  What hold comes to: a frame comes to hold a sector's bytes, and is used.
-/
namespace Go.Proofs.YtccphijgcapeoaaGreat
open Go.RowKit
section
variable {F D:Nat→Prop} {pb fb cb rb db:Nat} {g:Nat→Value} {s:PP}
theorem useS_n' (c:CS) (i:Int):(c.useS i).n=c.n:=by
 unfold CS.useS CS.setU
 split<;>rfl
theorem PoolAt.use {w w':World} (h:PoolAt w F D pb fb cb rb db g s) (i:Nat) {v:Value} {e:Ending} (hg:CGoes w cb rb (s.c.useS i) v e w'):e = .returned v∧PoolAt w' F D pb fb cb rb db g (s.used i)∧Moves w F w' F:=by
 obtain ⟨he,hc,hk⟩:=hg
 exact ⟨he,h.clock (useS_n' _ _) hc hk,hk.more (by rintro k (rfl | rfl);exact h.core.fc;exact h.core.fr),fun _ hF=>Or.inl hF⟩
theorem hold_laid {w w2 w3:World} (h:PoolAt w F D pb fb cb rb db g s) {i:Nat} {n:Int} (hn:s.k.has n=true) {v:Value} {l:List UInt8} (hl:l.length≤1024)
 (e2:w2=(w.setCell ⟨fb,i*4+1,none⟩ (.int .i64 n)).setCell ⟨fb,i*4+2,none⟩ (.bool true)) (ho:Own w3 w2.heap.size v l) (hb:Below w2.heap.size w2 w3) :
 PoolAt (w3.setCell ⟨fb,i*4,none⟩ v) (fun k=>F k∨w.heap.size≤k∧k<(w3.setCell ⟨fb,i*4,none⟩ v).heap.size) D pb fb cb rb db (at1 g i v) (s.lay i n l (s.d i))∧Kept (·=fb) w (w3.setCell ⟨fb,i*4,none⟩ v):=by
 have k2:Kept (·=fb) w w2:=by
  rw [e2]
  exact (Kept.setCell (F:=(·=fb)) w (a:=⟨fb,i*4+1,none⟩) rfl _).next (Kept.setCell (F:=(·=fb)) _ (a:=⟨fb,i*4+2,none⟩) rfl _)
 have r2:w2.rowIs fb 132 (s.m*4) (frc g (at1 s.sec i n) (at1 s.ful i true) s.d):=by
  rw [e2]
  have r1:=(h.row.set (i*4+1) (.int .i64 n)).congr (fun k _=>frc_set1 g s.sec s.ful s.d i n k)
  exact (r1.set (i*4+2) (.bool true)).congr (fun k _=>frc_set2 g _ s.ful s.d i true k)
 have r3:=r2.of_block (hb.block _ r2.lt)
 have r4:=(r3.set (i*4) v).congr (fun k _=>frc_set0 g (at1 s.sec i n) (at1 s.ful i true) s.d i v k)
 have k3:Kept (·=fb) w (w3.setCell ⟨fb,i*4,none⟩ v):=(k2.next (Kept.below hb _)).next (Kept.setCell (F:=(·=fb)) _ (a:=⟨fb,i*4,none⟩) rfl _)
 have hs:w2.heap.size=w.heap.size:=by rw [e2];simp [World.setCell]
 refine ⟨h.laid hn hl k3 ?_ r4,k3⟩
 rw [hs] at ho
 refine own_of_block ho (fun q hq=>Below.heap_setCell _ _ _ _ (fun e=>?_))
 have h1:=(ho.lt q hq).1
 have h2:=h.core.lt fb h.core.ff
 have h3:q=fb:=e
 omega
theorem hold_any (w:World) (i:Nat) (hi:i<s.m) (n:Int) (hn:s.k.has n=true) (A:Option Addr) (m c:Nat) (l:List UInt8) (hl:l.length=m) (h24:m≤1024) (hx:Out w F A l) (hz:A=none→m=0∧c=0) (h:PoolAt w F D pb fb cb rb db g s) :
 Calls Tryz.prog 151 #[.pointer (some ⟨pb,0,none⟩),.int .i64 i,.int .i64 n,.slice A m c] w (PEnd w F pb fb cb rb db ((s.lay i n l (s.d i)).used i) (.tuple #[])):=by
 have hm:=h.core.m1.2
 have c1:=h.core.c1
 have d1:=h.s1 hi
 have d2:=h.s2 hi
 have f1:=h.sf (i*4+1)
 have f2:=h.sf (i*4+2)
 have H:=Lib.hid h
 have HL:=Lib.hid (show l.length≤1024 by omega)
 have HN:=Lib.hid hn
 have HX:Hid (Out ((w.setCell ⟨fb,i*4+1,none⟩ (.int .i64 n)).setCell ⟨fb,i*4+2,none⟩ (.bool true)) F A l) :=
  hx.kept ((Kept.setCell (F:=F) w (a:=⟨fb,i*4+1,none⟩) h.core.ff _).next (Kept.setCell (F:=F) _ (a:=⟨fb,i*4+2,none⟩) h.core.ff _))
 have HI:=Lib.hid hi
 have HE:=Lib.hid hl
 have HZ:=Lib.hid hz
 clear h hn hx hl hz
 go_enter Tryz.func151,Tryz.ntmps151
 go_wp2_with fail
 have HR:Hid (((w.setCell ⟨fb,i*4+1,none⟩ (.int .i64 n)).setCell ⟨fb,i*4+2,none⟩ (.bool true)).rowIs fb 132 (s.m*4) (frc g (at1 s.sec i n) (at1 s.ful i true) s.d)) :=
  ((((H.out.row.set (i*4+1) (.int .i64 n)).congr (fun k _=>frc_set1 g s.sec s.ful s.d i n k)).set (i*4+2) (.bool true)).congr (fun k _=>frc_set2 g _ s.ful s.d i true k))
 refine (play_any fb (i*4) A m c _ l (g i) _ HX.out.bys HE.out (by omega) HZ.out ((HR.out.cell (by have:=HI.out;omega)).trans (by rw [frc_0])) (HR.out.frozen _)).mono ?_
 rintro e w4 ⟨v,w3,rfl,ho,hb,rfl⟩
 obtain ⟨p4,k4⟩:=hold_laid H.out HN.out HL.out rfl ho hb
 have c2:=p4.core.c2
 have P4:=Lib.hid p4
 have K4:=Lib.hid k4
 clear p4 k4 ho hb c1 d1 d2 f1 f2 HR HX
 go_wp2_with fail
 refine (use_any _ (i:Int) P4.out.core.clk).mono ?_
 rintro e w5 hu
 obtain ⟨rfl,p5,m5⟩:=P4.out.use i hu
 have P5:=Lib.hid p5
 have M5:=Lib.hid m5
 clear p5 m5 hu c2
 go_wp2_with fail
 go_end0
 exact ⟨rfl,_,D,_,P5.out,(Moves.new (K4.out.more (by rintro k rfl;exact H.out.core.ff))).trans M5.out⟩
end
end Go.Proofs.YtccphijgcapeoaaGreat
/-
  What next comes to: the frame that the clock's Victim will be.
-/
namespace Go.Proofs.YtccphijgcapeoaaGreat
open Go.RowKit
def NextRel (c:CS) (k:Nat) (sec:Int) (ok:Bool):Prop :=
 (∀ d,d<k→c.p (c.at_ d)≠0∨c.u (c.at_ d)=true) ∧
 ((ok=false∧∀ d,d<k→c.p (c.at_ d)≠0)∨(ok=true∧∃ d0,d0<k∧c.p (c.at_ d0)=0∧(∀ d,d<d0→c.p (c.at_ d)≠0)∧sec=(c.at_ d0:Nat)))
theorem NextRel.pinned {c:CS} {k:Nat} {sec:Int} {ok:Bool} (h:NextRel c k sec ok) (hp:c.p (c.at_ k)≠0):NextRel c (k+1) sec ok:=by
 refine ⟨fun d hd=>?_,?_⟩
 ·rcases Nat.lt_or_ge d k with e | e
  ·exact h.1 d e
  ·obtain rfl:d=k:=by omega
   exact Or.inl hp
 ·rcases h.2 with ⟨h1,h2⟩ | ⟨h1,d0,h2,h3⟩
  ·refine Or.inl ⟨h1,fun d hd=>?_⟩
   rcases Nat.lt_or_ge d k with e | e
   ·exact h2 d e
   ·obtain rfl:d=k:=by omega
    exact hp
  ·exact Or.inr ⟨h1,d0,by omega,h3⟩
theorem NextRel.used {c:CS} {k:Nat} {sec:Int} (h:NextRel c k sec true) (hu:c.u (c.at_ k)=true):NextRel c (k+1) sec true:=by
 refine ⟨fun d hd=>?_,?_⟩
 ·rcases Nat.lt_or_ge d k with e | e
  ·exact h.1 d e
  ·obtain rfl:d=k:=by omega
   exact Or.inr hu
 ·rcases h.2 with ⟨h1,h2⟩ | ⟨h1,d0,h2,h3⟩
  ·cases h1
  ·exact Or.inr ⟨h1,d0,by omega,h3⟩
theorem NextRel.first {c:CS} {k:Nat} {sec:Int} (h:NextRel c k sec false) (hp:c.p (c.at_ k)=0) (hu:c.u (c.at_ k)=true):NextRel c (k+1) ((c.at_ k:Nat):Int) true:=by
 refine ⟨fun d hd=>?_,?_⟩
 ·rcases Nat.lt_or_ge d k with e | e
  ·exact h.1 d e
  ·obtain rfl:d=k:=by omega
   exact Or.inr hu
 ·rcases h.2 with ⟨h1,h2⟩ | ⟨h1,_⟩
  ·exact Or.inr ⟨rfl,k,by omega,hp,h2,rfl⟩
  ·cases h1
def NextEnd (w:World) (c:CS) (e:Ending) (w':World):Prop :=
 ∃ (i:Int) (b:Bool),e = .returned (.tuple #[.int .i64 i,.bool b])∧b=c.free∧(b=true→i=c.vicI)∧Below w.heap.size w w'
theorem NextRel.fresh {c:CS} {k:Nat} {sec:Int} {ok:Bool} (h:NextRel c k sec ok) (hh:c.h<c.n) (hk:k<c.n) (hp:c.p (c.at_ k)=0) (hu:c.u (c.at_ k)=false):true=c.free∧(true=true→((c.at_ k:Nat):Int)=c.vicI) :=
 ⟨(CS.free_at hh hk hp).symm,fun _=>(CS.vic_first hh hk h.1 hp hu).symm⟩
theorem NextRel.done {c:CS} {sec:Int} {ok:Bool} (h:NextRel c c.n sec ok) (hh:c.h<c.n):ok=c.free∧(ok=true→sec=c.vicI):=by
 rcases h.2 with ⟨h1,h2⟩ | ⟨h1,d0,h2,h3,h4,h5⟩
 ·subst h1
  exact ⟨(CS.not_free hh h2).symm,fun e=>by cases e⟩
 ·subst h1
  exact ⟨(CS.free_at hh h2 h3).symm,fun _=>h5.trans (CS.vic_second hh h2 h.1 h4 h3).symm⟩
section
variable {F D:Nat→Prop} {pb fb cb rb db:Nat} {g:Nat→Value} {s:PP}
theorem tmod_at {c:CS} (hh:c.h<c.n) {k:Nat} (hk:k<c.n):Int.tmod ((c.h:Int)+(k:Int)) (c.n:Int)=((c.at_ k:Nat):Int):=by
 rw [CS.at_mod hh hk,← Int.natCast_add,Int.ofNat_tmod]
theorem next_any (w:World) (h:PoolAt w F D pb fb cb rb db g s) :
 Calls Tryz.prog 183 #[.pointer (some ⟨pb,0,none⟩)] w (NextEnd w s.c):=by
 have hm:=h.core.m1
 have hcm:=h.core.cm
 have c2:=h.core.c2
 have HLT:=Lib.hid (h.core.lt _ h.core.fp)
 have HC:=Lib.hid (h.drewN 1).core.clk
 have HP:=Lib.hid h.core
 have hh:=h.core.clk.hn
 clear h
 go_enter Tryz.func183,Tryz.ntmps183
 go_wp2_with fail
 have K0:w.drew.cell? ⟨pb,2,none⟩=some (.pointer (some ⟨cb,0,none⟩)):=c2
 go_region_held3 (fun w'=>w'.cell? ⟨pb,2,none⟩=some (.pointer (some ⟨cb,0,none⟩)))
  (first | exact K2 | exact K1 | exact K0)
  (first
    | (go_at_call 197;refine (pins_any w.drew HC.out).mono ?_;rintro e w1 ⟨rfl,hi1,hb1⟩;have K1:w1.cell? ⟨pb,2,none⟩=some (.pointer (some ⟨cb,0,none⟩)):=(hb1.cell HLT.out).trans K0)
    | (go_at_call 198;refine (used_any w1 (HC.out.below hb1)).mono ?_;rintro e w2 ⟨rfl,hu2,hb2⟩;have K2:w2.cell? ⟨pb,2,none⟩=some (.pointer (some ⟨cb,0,none⟩)):=(hb2.cell (Nat.lt_of_lt_of_le HLT.out hb1.size)).trans K1)
    | (go_at_call 199;refine (hand_any w2 ((HC.out.below hb1).below hb2)).mono ?_;rintro e w3 ⟨rfl,rfl⟩))
 have HB:Hid (Below w.heap.size w w2):=by
  have b1:Below w.heap.size w w1:=undrew hb1
  exact b1.trans (hb2.mono b1.size)
 have c1:w2.cell? ⟨pb,1,none⟩=some (.slice (some ⟨fb,0,none⟩) s.m s.m):=(HB.out.cell HLT.out).trans HP.out.c1
 have hi2:=hi1.below hb2
 have HH:=Lib.hid hh
 have HI:=Lib.hid hi2
 have HU:=Lib.hid hu2
 have HCM:=Lib.hid hcm
 have hcn:s.c.h<s.m:=by omega
 clear hi1 hu2 hb1 hb2 hi2 K0 K1 K2 hh c2 hcm HC
 go_wp2_with fail
 go_loopw [7,8,31] (fun a o i wr=>∃ (k:Nat) (sec:Int) (ok:Bool),k≤s.m∧i = .int .i64 k∧a = .int .i64 sec∧o = .bool ok∧Hid (NextRel s.c k sec ok)∧w2=wr) (fun _ _ i _=>s.m - (RowKit.intOf i).toNat)
 case atStart=>exact ⟨0,0,false,Nat.zero_le _,rfl,rfl,rfl,Lib.hid ⟨fun d hd=>absurd hd (by omega),Or.inl ⟨rfl,fun d hd=>absurd hd (by omega)⟩⟩,rfl⟩
 case round =>
  obtain ⟨k,sec,ok,hk,rfl,rfl,rfl,hr,rfl⟩:=hrel
  by_cases hlt:k<s.m
  ·have hkc:k<s.c.n:=by rw [HCM.out];exact hlt
   have HK:=Lib.hid hkc
   have ht:=tmod_at HH.out hkc
   rw [HCM.out] at ht
   have hj:=CS.at_lt HH.out hkc
   obtain ⟨b1,o1,z1,e1,hz1,p1⟩:=HI.out.at_ (k:=s.c.at_ k) (by rw [pinsL_len];exact hj)
   obtain ⟨b2,o2,z2,e2,hz2,p2⟩:=HU.out.at_ (k:=s.c.at_ k) (by rw [usedL_len];exact hj)
   rw [pinsL_at s.c hj] at hz1
   rw [usedL_at s.c hj] at hz2
   obtain rfl:=Option.some.inj hz1
   obtain rfl:=Option.some.inj hz2
   injection e1 with e1
   injection e2 with e2
   injection e1 with e1 e1'
   injection e2 with e2 e2'
   subst e1 e1' e2 e2'
   rw [Nat.zero_add] at p1 p2
   rw [HCM.out] at hj
   generalize hJ:s.c.at_ k=j at *
   have HJ:=Lib.hid hJ
   have q1:w2.cell? ⟨w.heap.size,j,none⟩=some (.int .i64 (s.c.p j:Int)):=p1
   clear p1
   by_cases hp:s.c.p j=0
   ·rw [hp] at q1
    cases hu:s.c.u j with
    | false =>
      rw [hu] at p2
      have HE:=Lib.hid (hr.out.fresh HH.out hkc (by rw [hJ];exact hp) (by rw [hJ];exact hu))
      clear hp hu hkc hJ hz1 hz2
      go_wp2_with fail
      go_ret2
      exact ⟨_,true,rfl,HE.out.1,fun _=>by rw [← HJ.out];exact HE.out.2 trivial,HB.out⟩
    | true =>
      rw [hu] at p2
      cases ok with
      | true =>
        have HN:=Lib.hid (hr.out.used (by rw [hJ];exact hu))
        clear hp hu hkc hJ hr hz1 hz2
        go_wp2_with fail
        go_roundw
        case rel=>exact ⟨k+1,sec,true,by omega,by go_num,rfl,rfl,HN,trivial⟩
        case measure=>simp [RowKit.intOf];omega
      | false =>
        have HN:=Lib.hid (hr.out.first (by rw [hJ];exact hp) (by rw [hJ];exact hu))
        rw [hJ] at HN
        clear hp hu hkc hJ hr hz1 hz2
        go_wp2_with fail
        go_roundw
        case rel=>exact ⟨k+1,_,true,by omega,by go_num,rfl,rfl,HN,trivial⟩
        case measure=>simp [RowKit.intOf];omega
   ·have HN:=Lib.hid (hr.out.pinned (by rw [hJ];exact hp))
    have hp':(0:Int)<(s.c.p j:Int):=by omega
    clear hp hkc hJ hr hz1 hz2 p2
    go_wp2_with fail
    go_roundw
    case rel=>exact ⟨k+1,sec,ok,by omega,by go_num,rfl,rfl,HN,trivial⟩
    case measure=>simp [RowKit.intOf];omega
  ·obtain rfl:k=s.m:=by omega
   have HN:=Lib.hid ((show NextRel s.c s.c.n sec ok by rw [HCM.out];exact hr.out).done HH.out)
   clear hr
   go_wp2_with fail
   go_ret2
   exact ⟨_,ok,rfl,HN.out.1,HN.out.2,HB.out⟩
end
end Go.Proofs.YtccphijgcapeoaaGreat
/-
  What write comes to: what a frame holds is written, if it is dirty.
-/
namespace Go.Proofs.YtccphijgcapeoaaGreat
open Go.RowKit
theorem own_outD {w:World} {D:Nat→Prop} {base:Nat} {A:Option Addr} {n c:Nat} {l:List UInt8} (o:Own w base (.slice A n c) l) (h:∀ q,(Value.slice A n c).ownBlock=some q→¬ D q):Out w D A l:=by
 rcases own_bys o with hb | ⟨b,off,e,_,hc⟩
 ·exact Or.inl hb
 ·exact Or.inr ⟨b,off,e,h b (by rw [e];rfl),hc⟩
theorem Kept.cellAt {F:Nat→Prop} {w w':World} (h:Kept F w w') {b j:Nat} (hb:b<w.heap.size) (hn:¬ F b):w'.cell? ⟨b,j,none⟩=w.cell? ⟨b,j,none⟩:=World.cell?_of_block (w:=w) (h.block b hb hn)
theorem Moves.setCell (w:World) {F:Nat→Prop} {a:Addr} (ha:F a.block) (v:Value):Moves w F (w.setCell a v) F:=⟨Kept.setCell w ha v,fun _ h=>Or.inl h⟩
def PP.writeA (s:PP) (i:Nat):Int×PP :=
 if s.d i then (if s.k.writeE (s.at_ i) (s.b i)=0 then (0,s.washed i) else (s.k.writeE (s.at_ i) (s.b i),s.wrote i)) else (0,s)
section
variable {F D:Nat→Prop} {pb fb cb rb db:Nat} {g:Nat→Value} {s:PP}
theorem Fit.sec {s:PP} (_:Fit s) {i:Nat} (hne:s.at_ i ≠ -1):s.sec i=s.at_ i:=by
 unfold PP.sec
 rw [if_neg hne]
theorem Fit.has {s:PP} (h:Fit s) {i:Nat} (hi:i<s.m) (hne:s.at_ i ≠ -1):s.k.has (s.at_ i)=true:=(h.rng i hi).resolve_left hne
theorem PoolAt.wrote {w w':World} (h:PoolAt w F D pb fb cb rb db g s) (i:Nat) {v:Value} {e:Ending} (hg:Goes w D db (s.k.written (s.at_ i) (s.b i)) v e w') :
 e = .returned v∧∃ F' D',PoolAt w' F' D' pb fb cb rb db g (s.wrote i)∧Moves w F w' F'∧Kept D w w':=by
 obtain ⟨he,D',hd,hN,hk⟩:=hg
 exact ⟨he,_,D',h.disk (PS.written_size _ _ _) hd hN hk,Moves.new (hk.more (fun k hD=>h.core.fd k hD)),hk⟩
theorem pwrite_any (w:World) (i:Nat) (hi:i<s.m) (hne:s.at_ i ≠ -1) (h:PoolAt w F D pb fb cb rb db g s) :
 Calls Tryz.prog 41 #[.pointer (some ⟨pb,0,none⟩),.pointer (some ⟨fb,i*4,none⟩)] w (PEnd w F pb fb cb rb db (s.writeA i).2 (.int .i64 (s.writeA i).1)):=by
 have hm:=h.core.m1.2
 have d3:=h.s3 hi
 cases hd:s.d i with
 | false =>
   have e0:s.writeA i=(0,s):=by unfold PP.writeA;rw [if_neg (by rw [hd];decide)]
   rw [e0]
   rw [hd] at d3
   have H:=Lib.hid h
   clear h hd e0 hne
   go_enter Tryz.func41,Tryz.ntmps41
   go_wp2_with fail
   go_ret
   exact ⟨rfl,F,D,g,H.out,Moves.refl _ _⟩
 | true =>
   rw [hd] at d3
   have c0:=h.core.c0
   have d1:=h.s1 hi
   rw [h.fit.sec hne] at d1
   obtain ⟨o1,o2,o3⟩:=h.own i hi
   obtain ⟨A,c,hv,hc,hz⟩:=own_slice o1
   have d0:=h.s0 hi
   rw [hv] at d0 o1 o3
   have hx:=own_outD o1 (fun q hq=>(o3 q hq).2)
   have hh:=(s.k.has_at _).1 (h.fit.has hi hne)
   have h4:=h.core.dk.s4
   have HX:=Lib.hid hx
   have HZ:=Lib.hid hz
   have H:=Lib.hid h
   have HI:=Lib.hid hi
   have HD:=Lib.hid hd
   have HNE:=Lib.hid hne
   generalize hA:s.at_ i=n at *
   generalize hB:s.b i=l at *
   have HLT:=Lib.hid (show pb<w.drew.heap.size∧fb<w.drew.heap.size from ⟨h.core.lt _ h.core.fp,h.core.lt _ h.core.ff⟩)
   obtain ⟨M,hM⟩:∃ M,l.length=M:=⟨_,rfl⟩
   rw [hM] at d0 hc o2
   rw [hM] at HZ
   have HM:=Lib.hid hM
   have EA:=Lib.hid hA
   have EB:=Lib.hid hB
   clear h hx hd hz o1 o3 hv hA hB hne hM
   have HW:Hid (Calls Tryz.prog 70 #[.pointer (some ⟨db,0,none⟩),.int .i64 n,.slice A M c] w.drew (Goes w.drew D db (s.k.written n l) (.int .i64 (s.k.writeE n l)))) :=
    write_any w.drew n (by omega) (by omega) A M c l HM.out HX.out HZ.out (H.out.drewN 1).core.dk
   go_enter Tryz.func41,Tryz.ntmps41
   go_wp2_with fail
   have K0:w.drew.cell? ⟨pb,0,none⟩=some (.pointer (some ⟨db,0,none⟩))∧w.drew.cell? ⟨fb,i*4+1,none⟩=some (.int .i64 n)∧w.drew.cell? ⟨fb,i*4,none⟩=some (.slice A M c):=⟨c0,d1,d0⟩
   go_region_held3 (fun w'=>w'.cell? ⟨pb,0,none⟩=some (.pointer (some ⟨db,0,none⟩))∧w'.cell? ⟨fb,i*4+1,none⟩=some (.int .i64 n)∧w'.cell? ⟨fb,i*4,none⟩=some (.slice A M c))
    (first | exact K1 | exact K0)
    (first
      | (go_at_call 70;refine HW.out.mono ?_;intro e w2 hg2;obtain ⟨rfl,D2,hd2,hN2,hk2⟩:=hg2;have K1:=And.intro ((hk2.cellAt HLT.out.1 H.out.core.dp).trans K0.1) (And.intro ((hk2.cellAt HLT.out.2 H.out.core.df).trans K0.2.1) ((hk2.cellAt HLT.out.2 H.out.core.df).trans K0.2.2))))
   have hp2:∃ F' D',PoolAt w2 F' D' pb fb cb rb db g (s.wrote i)∧Moves w F w2 F':=by
    obtain ⟨-,F',D',p2,m2,-⟩:=(H.out.drewN 1).wrote i (v := .int .i64 (s.k.writeE n l)) (e := .returned (.int .i64 (s.k.writeE n l))) (w':=w2) ⟨rfl,D2,by rw [EA.out,EB.out];exact hd2,hN2,hk2⟩
    exact ⟨F',D',p2,⟨m2.kept.os,m2.kept.tape,m2.kept.output,m2.kept.size,m2.kept.block⟩,m2.news⟩
   obtain ⟨F',D',p2,m2⟩:=hp2
   have P2:=Lib.hid p2
   have M2:=Lib.hid m2
   have eW:s.writeA i=if s.k.writeE n l=0 then (0,s.washed i) else (s.k.writeE n l,s.wrote i):=by
    unfold PP.writeA
    rw [if_pos HD.out,EA.out,EB.out]
   have EW:=Lib.hid eW
   have f3:=p2.sf (i*4+3)
   have d3':=p2.s3 (i:=i) HI.out
   clear p2 m2 hd2 hN2 hk2 K0 K1 c0 d0 d1 d3 eW HW HX
   by_cases hE:s.k.writeE n l=0
   ·rw [hE]
    have EE:Hid (s.writeA i=(0,s.washed i)):=EW.out.trans (if_pos hE)
    clear hE EW
    go_wp2_with fail
    go_ret
    rw [EE.out]
    exact ⟨rfl,F',D',g,P2.out.setD i false (fun e=>by cases e),M2.out.trans (Moves.setCell _ (a:=⟨fb,i*4+3,none⟩) P2.out.core.ff _)⟩
   ·have EE:Hid (s.writeA i=(s.k.writeE n l,s.wrote i)):=EW.out.trans (if_neg hE)
    have hb:(s.k.writeE n l != 0)=true:=by rw [bne_iff_ne];exact hE
    clear hE EW
    go_wp2_with fail
    go_ret
    rw [EE.out]
    exact ⟨rfl,F',D',g,P2.out,M2.out⟩
end
end Go.Proofs.YtccphijgcapeoaaGreat
/-
  What room comes to: a frame that is empty, or is emptied.
-/
namespace Go.Proofs.YtccphijgcapeoaaGreat
open Go.RowKit
def PP.roomV (r:Option Nat×Int×PP):Value := .tuple #[.int .i64 ((r.1.getD 0:Nat):Int),.int .i64 r.2.1]
theorem ful_iff (s:PP) (i:Nat):s.ful i=true ↔ s.at_ i ≠ -1:=by
 unfold PP.ful
 simp
theorem gap_here {s:PP} {k:Nat} (hk:k<s.m) (hu:s.ful k=false) (hp:∀ j,j<k→s.ful j=true):s.gap=some k:=by
 unfold PP.gap PP.first
 rw [List.find?_range_eq_some]
 refine ⟨?_,List.mem_range.2 hk,fun j hj=>?_⟩
 ·unfold PP.ful at hu
  simpa using hu
 ·have:=hp j hj
  unfold PP.ful at this
  exact this
theorem gap_nowhere {s:PP} (hp:∀ j,j<s.m→s.ful j=true):s.gap=none:=by
 unfold PP.gap PP.first
 rw [List.find?_eq_none]
 intro j hj h
 have:=(ful_iff s j).1 (hp j (List.mem_range.1 hj))
 exact this (by simpa using h)
section
variable {F D:Nat→Prop} {pb fb cb rb db:Nat} {g:Nat→Value} {s:PP}
theorem frameInfo:(Tryz.prog.info? 132).map (fun i=>(i.zero,i.size,i.bytes))=some (some (.agg #[.slice none 0 0,.int .i64 0,.bool false,.bool false]),4,40):=by kernel_rfl
def noFrame:Array Value:=#[.slice none 0 0,.int .i64 0,.bool false,.bool false]
theorem PoolAt.voided {w:World} (h:PoolAt w F D pb fb cb rb db g s) (i:Nat) :
 ∃ g',PoolAt (w.setCells fb (i*4) noFrame.toList) F D pb fb cb rb db g' (s.lay i (-1) [] false)∧Kept (·=fb) w (w.setCells fb (i*4) noFrame.toList):=by
 have k1:∀ (w:World) (j:Nat) (v:Value),Kept (·=fb) w (w.setCell ⟨fb,j,none⟩ v):=fun w j v=>Kept.setCell (F:=(·=fb)) w (a:=⟨fb,j,none⟩) rfl _
 have r0:=(h.row.set (i*4) (.slice none 0 0)).congr (fun k _=>frc_set0 g s.sec s.ful s.d i (.slice none 0 0) k)
 have r1:=(r0.set (i*4+1) (.int .i64 0)).congr (fun k _=>frc_set1 _ s.sec s.ful s.d i 0 k)
 have r2:=(r1.set (i*4+2) (.bool false)).congr (fun k _=>frc_set2 _ _ s.ful s.d i false k)
 have r3:=(r2.set (i*4+3) (.bool false)).congr (fun k _=>frc_set3 _ _ _ s.d i false k)
 have hk:Kept (·=fb) w (w.setCells fb (i*4) noFrame.toList):=(((k1 _ _ _).next (k1 _ _ _)).next (k1 _ _ _)).next (k1 _ _ _)
 exact ⟨_,h.void hk r3,hk⟩
theorem pvic_none {c:CS} (hf:c.free=false):c.vicI=0∧c.vicE=60∧c.vicS=c:=by
 have hw:c.way=none:=by
  unfold CS.way
  rw [if_neg (by rw [hf];decide)]
 unfold CS.vicI CS.vicE CS.vicS
 rw [hw]
 exact ⟨rfl,rfl,rfl⟩
theorem room_void {s t:PP} {v:Nat} (hg:s.gap=none) (hf:s.c.free=true) (hv:s.c.vicI=v) (ht:(s.writeA v).1=0) (e:t=(s.writeA v).2):s.room=(some v,0,PP.lay { t with c:=t.c.vicS } v (-1) [] false)∧t.c=s.c∧t.m=s.m:=by
 subst e
 unfold PP.room
 rw [hg]
 simp only [hf,if_true,hv,Int.toNat_natCast]
 unfold PP.writeA at ht ⊢
 cases hd:s.d v with
 | false =>
   simp only [Bool.false_eq_true,if_false]
   exact ⟨trivial,trivial,trivial⟩
 | true =>
   rw [hd] at ht
   simp only [if_true] at ht ⊢
   by_cases hE:s.k.writeE (s.at_ v) (s.b v)=0
   ·simp only [if_pos hE]
    refine ⟨?_,rfl,rfl⟩
    refine congrArg (fun x=>(some v,(0:Int),x)) ?_
    unfold PP.lay PP.washed PP.wrote
    congr 1
    funext j
    show (if j=v then false else s.d j)=(if j=v then false else if j=v then false else s.d j)
    by_cases ej:j=v
    ·rw [if_pos ej,if_pos ej]
    ·rw [if_neg ej,if_neg ej]
   ·simp only [if_neg hE] at ht
    exact absurd ht hE
theorem room_err {s:PP} {v:Nat} (hg:s.gap=none) (hf:s.c.free=true) (hv:s.c.vicI=v) (ht:(s.writeA v).1≠0):s.room=(none,(s.writeA v).1,(s.writeA v).2):=by
 unfold PP.room
 rw [hg]
 simp only [hf,if_true,hv,Int.toNat_natCast]
 unfold PP.writeA at ht ⊢
 cases hd:s.d v with
 | false =>
   rw [hd] at ht
   exact absurd rfl ht
 | true =>
   rw [hd] at ht
   simp only [if_true] at ht ⊢
   by_cases hE:s.k.writeE (s.at_ v) (s.b v)=0
   ·rw [if_pos hE] at ht
    exact absurd rfl ht
   ·rw [if_neg hE,if_neg hE]
theorem room_full' {s:PP} (hg:s.gap=none) (hf:s.c.free=false):s.room=(none,60,s):=by
 unfold PP.room
 rw [hg]
 simp only [hf]
 rfl
theorem room_any (w:World) (h:PoolAt w F D pb fb cb rb db g s) :
 Calls Tryz.prog 150 #[.pointer (some ⟨pb,0,none⟩)] w (PEnd w F pb fb cb rb db s.room.2.2 (PP.roomV s.room)):=by
 have hm:=h.core.m1.2
 have c1:=h.core.c1
 have H:=Lib.hid h
 clear h
 go_enter Tryz.func150,Tryz.ntmps150
 go_wp2_with fail
 go_loopw [15] (fun i wr=>∃ k:Nat,k≤s.m∧i = .int .i64 k∧Hid (∀ j,j<k→s.ful j=true)∧w=wr) (fun i _=>s.m - (RowKit.intOf i).toNat)
 case atStart=>exact ⟨0,Nat.zero_le _,rfl,Lib.hid (fun j hj=>by omega),rfl⟩
 case round =>
  obtain ⟨k,hk,rfl,hpre,rfl⟩:=hrel
  by_cases hlt:k<s.m
  ·have d2:=H.out.s2 hlt
   cases hu:s.ful k with
   | true =>
     rw [hu] at d2
     have HP:Hid (∀ j,j<k+1→s.ful j=true):=fun j hj=>by
      rcases Nat.lt_or_ge j k with e | e
      ·exact hpre.out j e
      ·obtain rfl:j=k:=by omega
       exact hu
     clear hu hpre
     go_wp2_with fail
     go_roundw
     case rel=>exact ⟨k+1,by omega,by go_num,HP,trivial⟩
     case measure=>simp [RowKit.intOf];omega
   | false =>
     rw [hu] at d2
     have HE:Hid (s.room=(some k,0,s)):=Lib.hid (by unfold PP.room;rw [gap_here hlt hu hpre.out])
     clear hu hpre
     go_wp2_with fail
     go_ret2
     rw [HE.out]
     exact ⟨rfl,F,D,g,H.out,Moves.refl _ _⟩
  ·obtain rfl:k=s.m:=by omega
   have HG:=Lib.hid (gap_nowhere hpre.out)
   clear hpre
   go_wp2_with fail
   refine (next_any _ H.out).mono ?_
   rintro e w1 ⟨i,b,rfl,hb,hi,hbw⟩
   have p1:=H.out.below hbw
   have P1:=Lib.hid p1
   have B1:=Lib.hid hbw
   have d1:=p1.core.c1
   have d2:=p1.core.c2
   clear c1 p1 hbw
   cases hf:s.c.free with
   | false =>
     rw [hf] at hb
     subst hb
     obtain ⟨v1,v2,v3⟩:=pvic_none hf
     have HV:=Lib.hid (victim_any w1 P1.out.core.clk)
     rw [v1,v2,v3] at HV
     have HE:=Lib.hid (room_full' HG.out hf)
     clear v1 v2 v3 hf hi
     go_wp2_with fail
     refine HV.out.mono ?_
     rintro e w2 ⟨rfl,hc2,hk2⟩
     have P2:=Lib.hid (P1.out.clock rfl hc2 hk2)
     have K2:=Lib.hid hk2
     clear hc2 hk2 d1 d2
     go_wp2_with fail
     go_ret2
     rw [HE.out]
     exact ⟨rfl,F,D,g,P2.out,(Moves.of_below B1.out).trans ⟨K2.out.more (by rintro k (rfl | rfl);exact P1.out.core.fc;exact P1.out.core.fr),fun _ hk=>Or.inl hk⟩⟩
   | true =>
     rw [hf] at hb
     subst hb
     obtain ⟨r,hw,_,gr⟩:=CS.way_of P1.out.core.clk.hn hf
     obtain ⟨v1,v2,v3⟩:=CS.vic_of hw
     obtain rfl:=hi rfl
     have hvm:r.1<s.m:=by
      have:=gr.lt
      rw [P1.out.core.cm] at this
      exact this
     have HV1:=Lib.hid v1
     have HV2:=Lib.hid v2
     have HF:=Lib.hid hf
     have HVM:=Lib.hid hvm
     rw [v1]
     generalize hR:r.1=v at *
     have hW:=pwrite_any w1 v hvm (PP.gap_none HG.out v hvm) P1.out
     have HW:=Lib.hid hW
     clear hW hf hi v1 v2 v3 gr hw hR
     go_wp2_with fail
     refine HW.out.mono ?_
     rintro e w2 ⟨rfl,F2,D2,g2,p2,m2⟩
     have HM2:=Lib.hid m2
     clear m2
     by_cases hE:(s.writeA v).1=0
     ·obtain ⟨r1,r2,r3⟩:=room_void HG.out HF.out HV1.out hE rfl
      have HE:=Lib.hid r1
      rw [hE]
      generalize (s.writeA v).2=t at *
      have HV:=Lib.hid (victim_any w2 p2.core.clk)
      rw [r2,HV1.out,HV2.out] at HV
      have P2:=Lib.hid p2
      have HTC:=Lib.hid r2
      have HTM:=Lib.hid r3
      have d3:=p2.core.c2
      clear p2 r1 r2 r3 hE d1 d2
      go_wp2_with fail
      refine HV.out.mono ?_
      rintro e w3 ⟨rfl,hc3,hk3⟩
      rw [← HTC.out] at hc3
      have p3:=P2.out.clock (CS.vicS_n P2.out.core.clk.hn) hc3 hk3
      have P3:=Lib.hid p3
      have K3:=Lib.hid hk3
      have d4:=p3.core.c1
      have hvt:v<({ t with c:=t.c.vicS }:PP).m:=by
       show v<t.m
       rw [HTM.out]
       exact HVM.out
      have q0:=p3.s0 hvt
      have q1:=p3.s1 hvt
      have q2:=p3.s2 hvt
      have q3:=p3.s3 hvt
      have y0:=p3.sf (v*4)
      have y1:=p3.sf (v*4+1)
      have y2:=p3.sf (v*4+2)
      have y3:=p3.sf (v*4+3)
      obtain ⟨g4,p4,k4⟩:=p3.voided v
      have P4:=Lib.hid p4
      have K4:=Lib.hid k4
      have d5:w3.cell? ⟨pb,1,none⟩=some (.slice (some ⟨fb,0,none⟩) s.m s.m):=by
       rw [← HTM.out]
       exact d4
      clear p3 hc3 hk3 d3 d4 p4 k4 hvt
      go_wp2_with fail
      go_ret2
      rw [HE.out]
      exact ⟨rfl,F2,D2,g4,P4.out,(((Moves.of_below B1.out).trans HM2.out).trans ⟨K3.out.more (by rintro k (rfl | rfl);exact P2.out.core.fc;exact P2.out.core.fr),fun _ hk=>Or.inl hk⟩).trans ⟨K4.out.more (by rintro k rfl;exact P2.out.core.ff),fun _ hk=>Or.inl hk⟩⟩
     ·have HE:=Lib.hid (room_err HG.out HF.out HV1.out hE)
      have P2:=Lib.hid p2
      have hb:((s.writeA v).1 != 0)=true:=by rw [bne_iff_ne];exact hE
      generalize (s.writeA v).1=E at *
      clear p2 hE d1 d2
      go_wp2_with fail
      go_ret2
      rw [HE.out]
      exact ⟨rfl,F2,D2,g2,P2.out,(Moves.of_below B1.out).trans HM2.out⟩
end
end Go.Proofs.YtccphijgcapeoaaGreat
/-
  What fetch comes to, and Get, Pin, Unpin on it.
-/
namespace Go.Proofs.YtccphijgcapeoaaGreat
open Go.RowKit
def PP.fetch (s:PP) (n:Int):Option Nat×Int×PP :=
 match s.find n with
 | some i=>(some i,0,s.used i)
 | none =>
   if s.k.readE n=0 then
    match s.room with
    | (some i,_,t)=>(some i,0,(t.lay i n (s.k.readB n) false).used i)
    | (none,e,t)=>(none,e,t)
   else (none,s.k.readE n,s)
def PP.gotA:Option Nat×Int×PP→Int×List UInt8×PP
 | (some i,_,t)=>(0,t.b i,t)
 | (none,e,t)=>(e,[],t)
theorem PP.get_fetch (s:PP) (n:Int):s.get n=PP.gotA (s.fetch n):=by
 unfold PP.get PP.fetch PP.gotA
 cases hf:s.find n with
 | some i=>rfl
 | none =>
   by_cases hr:s.k.readE n=0
   ·simp only [if_pos hr]
    rcases hq:s.room with ⟨_ | i,e,t⟩
    ·rfl
    ·show _=(0,(if i=i then s.k.readB n else t.b i),_)
     rw [if_pos rfl]
   ·simp only [if_neg hr]
theorem writeA_at (s:PP) (v:Nat):(s.writeA v).2.at_=s.at_∧(s.writeA v).2.m=s.m∧(s.writeA v).2.k.size=s.k.size:=by
 unfold PP.writeA
 split
 ·split
  ·exact ⟨rfl,rfl,PS.written_size _ _ _⟩
  ·exact ⟨rfl,rfl,PS.written_size _ _ _⟩
 ·exact ⟨rfl,rfl,rfl⟩
theorem room_tells {s t:PP} {o:Option Nat} {e:Int} (hh:s.c.h<s.c.n) (hn:s.c.n=s.m) (h:s.room=(o,e,t)) :
 t.m=s.m∧t.k.size=s.k.size∧(∀ i,o=some i→i<s.m∧t.at_ i = -1∧e=0)∧(o=none→e≠0):=by
 cases hg:s.gap with
 | some i =>
   have h1:s.room=(some i,0,s):=by unfold PP.room;rw [hg]
   rw [h1] at h
   injection h with h2 h3
   injection h3 with h3 h4
   subst h2 h3 h4
   exact ⟨rfl,rfl,fun j hj=>by
    obtain rfl:=Option.some.inj hj
    exact ⟨(PP.gap_some hg).1,(PP.gap_some hg).2,rfl⟩,fun e=>by cases e⟩
 | none =>
   cases hf:s.c.free with
   | false =>
     rw [room_full' hg hf] at h
     injection h with h2 h3
     injection h3 with h3 h4
     subst h2 h3 h4
     exact ⟨rfl,rfl,fun j hj=>(by cases hj),fun _=>(by omega)⟩
   | true =>
     obtain ⟨r,hw,_,gr⟩:=CS.way_of hh hf
     obtain ⟨v1,_,_⟩:=CS.vic_of hw
     have hlt:=gr.lt
     rw [hn] at hlt
     obtain ⟨a1,a2,a3⟩:=writeA_at s r.1
     by_cases hE:(s.writeA r.1).1=0
     ·obtain ⟨r1,r2,r3⟩:=room_void hg hf v1 hE rfl
      rw [r1] at h
      injection h with h2 h3
      injection h3 with h3 h4
      subst h2 h3 h4
      refine ⟨r3,a3,fun j hj=>?_,fun e=>by cases e⟩
      obtain rfl:=Option.some.inj hj
      exact ⟨hlt,if_pos rfl,rfl⟩
     ·rw [room_err hg hf v1 hE] at h
      injection h with h2 h3
      injection h3 with h3 h4
      subst h2 h3 h4
      exact ⟨a2,a3,fun j hj=>(by cases hj),fun _=>hE⟩
section
variable {F D:Nat→Prop} {pb fb cb rb db:Nat} {g:Nat→Value} {s:PP}
theorem readB_le {k:PS} (h:k.Ok) (n:Int):(k.readB n).length≤1024:=by
 unfold PS.readB
 split
 ·simp
 ·split
  ·exact PS.held_le h n
  ·simp
theorem readE_has {k:PS} {n:Int} (h:k.readE n=0):k.has n=true:=by
 unfold PS.readE at h
 split at h
 ·cases h
 ·split at h
  ·assumption
  ·cases h
theorem fetch_any (w:World) (n:Int) (h1 : -9223372036854775808≤n) (h2:n≤9223372036854775807) (h:PoolAt w F D pb fb cb rb db g s) :
 Calls Tryz.prog 117 #[.pointer (some ⟨pb,0,none⟩),.int .i64 n] w (PEnd w F pb fb cb rb db (s.fetch n).2.2 (PP.roomV (s.fetch n))):=by
 have c0:=h.core.c0
 have c2:=h.core.c2
 have H:=Lib.hid h
 have HM:=Lib.hid (made_yes w pb db c0)
 have HF:=Lib.hid (pfind_any w n h)
 have HR:=Lib.hid (read_any w n h1 h2 h.core.dk)
 clear h h1 h2
 go_enter Tryz.func117,Tryz.ntmps117
 go_wp2_with fail
 refine HM.out.mono ?_
 rintro e w' ⟨rfl,rfl⟩
 clear HM
 go_wp2_with fail
 refine HF.out.mono ?_
 rintro e w' ⟨rfl,rfl⟩
 clear HF
 cases hf:s.find n with
 | some i =>
   have HE:Hid (s.fetch n=(some i,0,s.used i)):=Lib.hid (by unfold PP.fetch;rw [hf])
   clear hf HR
   unfold findA
   go_wp2_with fail
   refine (use_any _ (i:Int) H.out.core.clk).mono ?_
   rintro e w1 hu
   obtain ⟨rfl,p1,m1⟩:=H.out.use i hu
   have P1:=Lib.hid p1
   have M1:=Lib.hid m1
   clear p1 m1 hu c0 c2
   go_wp2_with fail
   go_ret2
   rw [HE.out]
   exact ⟨rfl,F,D,g,P1.out,M1.out⟩
 | none =>
   unfold findA
   have HFN:=Lib.hid hf
   clear hf
   go_wp2_with fail
   refine HR.out.mono ?_
   rintro e w1 ⟨A,c,rfl,ho,hb⟩
   have P1:=Lib.hid (H.out.below hb)
   have HX:Hid (Out w1 F A (s.k.readB n)):=own_outD ho (fun q hq hF=>by
    have:=(ho.lt q hq).1
    have:=H.out.core.lt q hF
    omega)
   obtain ⟨_,_,e1,_,hz⟩:=own_slice ho
   injection e1 with e1 e2 e3
   subst e1 e3
   have HZ:=Lib.hid hz
   have HB:=Lib.hid hb
   have hl:=readB_le H.out.core.dk.ok n
   obtain ⟨M,hM⟩:∃ M,(s.k.readB n).length=M:=⟨_,rfl⟩
   rw [hM] at hl
   rw [hM]
   rw [hM] at HZ
   have HL:=Lib.hid hM
   clear hb ho hz e2 hM HR c0 c2
   by_cases hr:s.k.readE n=0
   ·have HE:Hid (s.fetch n=match s.room with
     | (some i,_,t)=>(some i,0,(t.lay i n (s.k.readB n) false).used i)
     | (none,e,t)=>(none,e,t)):=Lib.hid (by unfold PP.fetch;rw [HFN.out];simp only [if_pos hr])
    have HH:=Lib.hid (readE_has hr)
    have HLE:=Lib.hid hl
    rw [hr]
    clear hr
    go_wp2_with fail
    refine (room_any _ P1.out).mono ?_
    rintro e w2 ⟨rfl,F2,D2,g2,p2,m2⟩
    have HMM:=Lib.hid m2
    rcases hq:s.room with ⟨o,er,t⟩
    rw [hq] at p2
    obtain ⟨t1,t2,t3,t4⟩:=room_tells P1.out.core.clk.hn P1.out.core.cm hq
    have T1:=Lib.hid t1
    have T2:=Lib.hid t2
    have P2:=Lib.hid p2
    cases o with
    | none =>
      have hb:(er != 0)=true:=by rw [bne_iff_ne];exact t4 rfl
      have HE2:Hid (s.fetch n=(none,er,t)):=Lib.hid (by rw [HE.out,hq])
      clear p2 m2 hq t1 t2 t3 t4 HE HX hl
      unfold PP.roomV
      go_wp2_with fail
      go_ret2
      rw [HE2.out]
      exact ⟨rfl,F2,D2,g2,P2.out,(Moves.of_below HB.out).trans HMM.out⟩
    | some i =>
      obtain ⟨i1,i2,rfl⟩:=t3 i rfl
      have HX2:=Lib.hid (HMM.out.out HX.out)
      have hit:i<t.m:=by rw [t1];exact i1
      have hd:t.d i=false:=p2.fit.vd i hit i2
      have hkn:t.k.has n=true:=by
       rw [t.k.has_at,t2,← s.k.has_at]
       exact HH.out
      have HE2:Hid (s.fetch n=(some i,0,(t.lay i n (s.k.readB n) (t.d i)).used i)):=Lib.hid (by rw [HE.out,hq,hd])
      have HO:=Lib.hid (hold_any w2 i hit n hkn A M c (s.k.readB n) HL.out HLE.out HX2.out HZ.out p2)
      clear p2 m2 hq t1 t2 t3 t4 HE HX HX2 i1 i2 hd hkn hit hl
      unfold PP.roomV
      go_wp2_with fail
      refine HO.out.mono ?_
      rintro e w3 ⟨rfl,F3,D3,g3,p3,m3⟩
      have P3:=Lib.hid p3
      have M3:=Lib.hid m3
      clear p3 m3 HO
      go_wp2_with fail
      go_ret2
      rw [HE2.out]
      exact ⟨rfl,F3,D3,g3,P3.out,((Moves.of_below HB.out).trans HMM.out).trans M3.out⟩
   ·have HE:Hid (s.fetch n=(none,s.k.readE n,s)):=Lib.hid (by unfold PP.fetch;rw [HFN.out];simp only [if_neg hr])
    have hb:(s.k.readE n != 0)=true:=by rw [bne_iff_ne];exact hr
    clear hr hl
    go_wp2_with fail
    go_ret2
    rw [HE.out]
    exact ⟨rfl,F,D,g,P1.out,Moves.of_below HB.out⟩
end
end Go.Proofs.YtccphijgcapeoaaGreat
/-
  What Drop and New come to.
-/
namespace Go.Proofs.YtccphijgcapeoaaGreat
open Go.RowKit
theorem zero_size (m:Nat):(Builtin.zeroCells noFrame m).size=m*4:=by
 simp [Builtin.zeroCells,noFrame]
theorem zero_at (m j:Nat) (h:j<m*4):(Builtin.zeroCells noFrame m).toList[j]?=some (frc (fun _ => .slice none 0 0) (fun _=>0) (fun _=>false) (fun _=>false) j):=by
 rw [Array.getElem?_toList]
 unfold Builtin.zeroCells
 rw [Array.getElem?_map,Array.getElem?_range]
 rw [if_pos (by show j<m*4;exact h)]
 simp only [Option.map_some,Option.some.injEq]
 show noFrame[j % 4]! = _
 unfold frc
 rcases (show j % 4=0∨j % 4=1∨j % 4=2∨j % 4=3 by omega) with e | e | e | e
 ·rw [e,if_pos rfl]
  rfl
 ·rw [e,if_neg (by omega),if_pos rfl]
  rfl
 ·rw [e,if_neg (by omega),if_neg (by omega),if_pos rfl]
  rfl
 ·rw [e,if_neg (by omega),if_neg (by omega),if_neg (by omega)]
  rfl
theorem kept_setCells {F:Nat→Prop} {b:Nat} (hb:F b):∀ (vs:List Value) (o:Nat) (w:World),Kept F w (w.setCells b o vs)
 | [],_,w=>Kept.refl F w
 | v::r,o,w=>(Kept.setCell (F:=F) w (a:=⟨b,o,none⟩) hb v).next (kept_setCells hb r (o+1) _)
def noFrc:Nat→Value:=frc (fun _ => .slice none 0 0) (fun _=>0) (fun _=>false) (fun _=>false)
section
variable {w:World} {fb m:Nat} {f:Nat→Value}
theorem clear_run (hm:1≤m) (h:w.rowIs fb 132 (m*4) f) (ty:TypeId) :
 (Builtin.clear_ #[92] ty #[.slice (some ⟨fb,0,none⟩) m m]).run Tryz.prog w = .ok (.tuple #[]) (w.setCells fb 0 (Builtin.zeroCells noFrame m).toList) ∧
 (w.setCells fb 0 (Builtin.zeroCells noFrame m).toList).rowIs fb 132 (m*4) noFrc∧Kept (·=fb) w (w.setCells fb 0 (Builtin.zeroCells noFrame m).toList):=by
 obtain ⟨i,hi,hzz⟩:=Option.map_eq_some_iff.1 frameInfo
 simp only [Prod.mk.injEq] at hzz
 obtain ⟨hz,_,_⟩:=hzz
 have hs:=zero_size m
 refine ⟨?_,?_,kept_setCells (F:=(·=fb)) rfl _ _ _⟩
 ·have hrun:=run_storeCells_cells (P:=Tryz.prog) fb 0 (Builtin.zeroCells noFrame m).toList 0 w (fun j hj=>by
   have hj':j<m*4:=by rw [← hs];simpa using hj
   simp only [Nat.zero_add]
   rw [h.cell hj']
   rfl) (fun j _=>h.frozen _) (fun v hv=>by
   obtain ⟨j,hj⟩:=List.getElem?_of_mem hv
   have hj':j<m*4:=by
    have:=(List.getElem?_eq_some_iff.1 hj).1
    rw [← hs]
    simpa using this
   rw [zero_at m j hj'] at hj
   obtain rfl:=Option.some.inj hj
   unfold frc
   split
   ·rfl
   ·split
    ·rfl
    ·split<;>rfl)
  obtain ⟨k,rfl⟩:∃ k,m=k+1:=⟨m - 1,by omega⟩
  have hzv:(zeroValue 132).run Tryz.prog w = .ok (.agg noFrame) w:=by
   simp [zeroValue,typeInfo,hi,hz,Sem.run_bind,Result.andThen]
   rfl
  simp only [Nat.add_zero] at hrun
  simp [Builtin.clear_,run_underlying Tryz.underlying92,hzv,Result.andThen,Value.cells,hrun]
 ·have:=Go.rowIs_setCells (Builtin.zeroCells noFrame m).toList 0 w f h
  refine this.congr (fun j hj=>?_)
  have hl:(Builtin.zeroCells noFrame m).toList.length=m*4:=by rw [Array.length_toList,hs]
  rw [if_pos (by rw [hl];omega),Nat.sub_zero,zero_at m j hj]
  rfl
end
section
variable {ops:Array Oper} {rest:List Oper} {o:Oper} {a:Act} {w:World} {Q:Exit→Act→World→Prop}
theorem wpList_clear_row (hg:o.guard=none) (x:Operand) (hop:o.op=Op.call { callee:=Callee.builtin Builtin.clear,args:=#[x],argTypes:=#[92] })
 {fb m:Nat} {f:Nat→Value} (hx:a.eval x = .slice (some ⟨fb,0,none⟩) m m) (hm:1≤m) (h:w.rowIs fb 132 (m*4) f)
 (hK:∀ w',w'.rowIs fb 132 (m*4) noFrc→Kept (·=fb) w w'→wpList Tryz.prog ops Q rest (a.put o.dst (.tuple #[])) w') :
 wpList Tryz.prog ops Q (o::rest) a w:=by
 refine wpList_plain hg fun K' hK'=>?_
 obtain ⟨hrun,r1,r2⟩:=clear_run hm h o.type
 unfold Oper.wp
 simp [execOp,hop,resolve,invoke,builtin,hx,hrun,Result.andThen]
 exact hK' _ _ (hK _ r1 r2)
end
def RawEnd (w:World) (pb fb db m:Nat) (e:Ending) (w':World):Prop :=
 ∃ cb rb,e = .returned (.tuple #[])∧w'.heap[pb]?=some (.cells #[.pointer (some ⟨db,0,none⟩),.slice (some ⟨fb,0,none⟩) m m,.pointer (some ⟨cb,0,none⟩)] 95 (0,0)) ∧
   w'.rowIs fb 132 (m*4) noFrc∧ClkAt w' cb rb (CS.new m)∧w.heap.size≤cb∧w.heap.size≤rb∧Kept (fun k=>k=pb∨k=fb) w w'
theorem drop_raw (w:World) (pb fb db m:Nat) (u:Value) (f:Nat→Value) (hm1:1≤m) (hm2:m≤1000)
 (hs:w.heap[pb]?=some (.cells #[.pointer (some ⟨db,0,none⟩),.slice (some ⟨fb,0,none⟩) m m,u] 95 (0,0))) (hr:w.rowIs fb 132 (m*4) f) :
 Calls Tryz.prog 24 #[.pointer (some ⟨pb,0,none⟩)] w (RawEnd w pb fb db m):=by
 have c0:w.cell? ⟨pb,0,none⟩=some (.pointer (some ⟨db,0,none⟩)):=(cell_of_row w pb 0 _ _ _ hs).trans rfl
 have c1:w.cell? ⟨pb,1,none⟩=some (.slice (some ⟨fb,0,none⟩) m m):=(cell_of_row w pb 1 _ _ _ hs).trans rfl
 have HM:=Lib.hid (made_yes w pb db c0)
 have HS:=Lib.hid hs
 have HR:=Lib.hid hr
 have hlp:pb<w.heap.size:=World.block_lt_of_cell? _ _ c0
 have hne:pb≠fb:=by
  obtain ⟨cur,hc,_⟩:=hr
  exact block_ne hs hc pool_types.1.1
 clear hs hr
 go_enter Tryz.func24,Tryz.ntmps24
 go_wp2_with fail
 refine HM.out.mono ?_
 rintro e w' ⟨rfl,rfl⟩
 clear HM
 go_wp2_with (refine wpList_clear_row rfl (.tmp 8) rfl rfl hm1 HR.out ?_;intro w1 hr1 hk1;have hs1:=(hk1.block pb hlp hne).trans HS.out;have d1:w1.cell? ⟨pb,1,none⟩=some (.slice (some ⟨fb,0,none⟩) m m):=(cell_of_row w1 pb 1 _ _ _ hs1).trans rfl)
 have hlp1:pb<w1.heap.size:=World.block_lt_of_cell? _ _ d1
 have HR1:=Lib.hid hr1
 have HK1:=Lib.hid hk1
 have HS1:=Lib.hid hs1
 have HC:=Lib.hid (gnew_good w1 m hm1 hm2)
 clear hr1 hk1 hs1 c0 c1 HR HS
 refine HC.out.mono ?_
 rintro e w2 ⟨cb,rb,rfl,hc2,hb1,hb2,hb⟩
 have hs2:=(hb.block pb hlp1).trans HS1.out
 have d2:w2.cell? ⟨pb,2,none⟩=some u:=(cell_of_row w2 pb 2 _ _ _ hs2).trans rfl
 have f2:w2.frozen? ⟨pb,2,none⟩=false:=frozen_of_row w2 pb 2 _ _ hs2
 have HS2:=Lib.hid hs2
 have HC2:=Lib.hid hc2
 have HB:=Lib.hid hb
 have HB1:=Lib.hid hb1
 have HB2:=Lib.hid hb2
 clear hs2 hc2 hb hb1 hb2 d1 HC
 go_wp2_with fail
 go_end0
 have hnb:cb≠pb∧rb≠pb:=by
  have:=HB1.out
  have:=HB2.out
  omega
 refine ⟨cb,rb,rfl,by rw [Joins.block_setCell HS2.out];rfl,?_,?_,Nat.le_trans HK1.out.size HB1.out,Nat.le_trans HK1.out.size HB2.out,?_⟩
 ·exact (HR1.out.of_block (HB.out.block _ HR1.out.lt)).setOther (fun e=>hne e.symm) _
 ·exact HC2.out.same (Below.heap_setCell _ _ _ _ hnb.1) (Below.heap_setCell _ _ _ _ hnb.2)
 ·exact ((HK1.out.more (fun k e=>Or.inr e)).next (Kept.below HB.out _)).next (Kept.setCell (F:=fun k=>k=pb∨k=fb) _ (a:=⟨pb,2,none⟩) (Or.inl rfl) _)
section
variable {F D:Nat→Prop} {pb fb cb rb db:Nat} {g:Nat→Value} {s:PP}
theorem drop_cells (s:PP):frc (fun _ => .slice none 0 0) s.drop.sec s.drop.ful s.drop.d=noFrc:=by
 have e1:s.drop.sec=fun _=>0:=funext fun _=>rfl
 have e2:s.drop.ful=fun _=>false:=funext fun _=>rfl
 have e3:s.drop.d=fun _=>false:=rfl
 rw [e1,e2,e3]
 rfl
/-- A pool that was made anew: its struct, its frames, its clock; a disk that was not touched. -/
theorem raw_pool {w w':World} {m:Nat} {k:PS} {cb rb:Nat} (s:PP) (hsm:s.m=m) (hk:s.k=k) (hs:w'.heap[pb]?=some (.cells #[.pointer (some ⟨db,0,none⟩),.slice (some ⟨fb,0,none⟩) m m,.pointer (some ⟨cb,0,none⟩)] 95 (0,0)))
 (hr:w'.rowIs fb 132 (m*4) noFrc) (hc:ClkAt w' cb rb (CS.new m)) (hd:Dk w' D db k) (dp:¬ D pb) (df:¬ D fb) (dc:¬ D cb) (dr:¬ D rb)
 (hp:F pb) (hf:F fb) (hD:∀ k,D k→F k) (hl:∀ k,F k→k<w.heap.size) (h1:w.heap.size≤cb) (h2:w.heap.size≤rb) (hz:w.heap.size≤w'.heap.size) :
 PoolAt w' (fun k=>F k∨w.heap.size≤k∧k<w'.heap.size) D pb fb cb rb db (fun _ => .slice none 0 0) s.drop:=by
 subst hsm hk
 obtain ⟨cur,hcur,_⟩:=id hr
 refine ⟨⟨hs,⟨cur,hcur⟩,hc,rfl,hd,Or.inl hp,Or.inl hf,Or.inr ⟨h1,hc.lt.1⟩,Or.inr ⟨h2,hc.lt.2⟩,fun k hk=>Or.inl (hD k hk),dp,df,dc,dr,fun k hk=>?_⟩,?_,fun i _=>⟨own_nil _ _,Nat.zero_le _,fun q hq=>by cases hq⟩,⟨fun _ _ _=>rfl,fun _ _=>Or.inl rfl⟩⟩
 ·rcases hk with e | e
  ·exact Nat.lt_of_lt_of_le (hl k e) hz
  ·exact e.2
 ·show w'.rowIs fb _ (s.m*4) (frc (fun _ => .slice none 0 0) s.drop.sec s.drop.ful s.drop.d)
  rw [drop_cells]
  exact hr
def frC (n:Nat):Array Value:=madeCells noFrame (n*4)
theorem frC_size (n:Nat):(frC n).size=n*4:=size_madeCells _ _
theorem frC_at (n i:Nat) (h:i<n*4):(frC n)[i]?=some (noFrc i):=by
 unfold frC madeCells noFrc frc
 rcases (show i % 4=0∨i % 4=1∨i % 4=2∨i % 4=3 by omega) with e | e | e | e
 ·rw [if_pos e]
  simp [e,h,noFrame]
 ·rw [if_neg (by omega),if_pos e]
  simp [e,h,noFrame]
 ·rw [if_neg (by omega),if_neg (by omega),if_pos e]
  simp [e,h,noFrame]
 ·rw [if_neg (by omega),if_neg (by omega),if_neg (by omega)]
  simp [e,h,noFrame]
theorem make_frames (w:World) (n:Nat) (hn:n≤1000):(Instr.makeSlice 92 (.int .i64 (n:Int)) (.int .i64 (n:Int))).run Tryz.prog w = .ok (.slice (some ⟨w.heap.size,0,none⟩) n n) (w.alloc (.cells (frC n) 132)):=by
 obtain ⟨i,hi,hzz⟩:=Option.map_eq_some_iff.1 frameInfo
 simp only [Prod.mk.injEq] at hzz
 obtain ⟨hz,hs,hb⟩:=hzz
 have hr:=run_make (P:=Tryz.prog) w 92 132 i _ Tryz.underlying92 hi hz .i64 .i64 (n:Int) (n:Int) (by omega) (Int.le_refl _) (by rw [hb];omega) (by omega)
 simp only [Int.toNat_natCast,hs] at hr
 exact hr
def PMade (w:World) (D:Nat→Prop) (db:Nat) (k:PS) (n:Nat) (e:Ending) (w':World):Prop :=
 ∃ pb fb cb rb g F,e = .returned (.tuple #[.pointer (some ⟨pb,0,none⟩),.int .i64 0])∧PoolAt w' F D pb fb cb rb db g (PP.new k n)∧Moves w D w' F∧Below w.heap.size w w'
theorem pnew_any (w:World) (n:Nat) (k:PS) (h1:1≤n) (h2:n≤1000) (hd:Dk w D db k) :
 Calls Tryz.prog 33 #[.pointer (some ⟨db,0,none⟩),.int .i64 n] w (PMade w D db k n):=by
 have hm:=make_frames w n h2
 have HD:=Lib.hid hd
 have HRAW:Hid (Calls Tryz.prog 24 #[.pointer (some ⟨w.heap.size+1,0,none⟩)] ((w.alloc (.cells (frC n) 132)).alloc (.cells #[.pointer (some ⟨db,0,none⟩),.slice (some ⟨w.heap.size,0,none⟩) n n,.pointer none] 95)) (RawEnd ((w.alloc (.cells (frC n) 132)).alloc (.cells #[.pointer (some ⟨db,0,none⟩),.slice (some ⟨w.heap.size,0,none⟩) n n,.pointer none] 95)) (w.heap.size+1) w.heap.size db n)):=by
  refine Lib.hid (drop_raw _ _ _ _ _ (.pointer none) noFrc h1 h2 ?_ ?_)
  ·have:=heap_alloc_new (w.alloc (.cells (frC n) 132)) (.cells #[.pointer (some ⟨db,0,none⟩),.slice (some ⟨w.heap.size,0,none⟩) n n,.pointer none] 95)
   rw [show (w.alloc (.cells (frC n) 132)).heap.size=w.heap.size+1 by simp] at this
   exact this
  ·have:=World.rowIs_alloc w (frC n) 132 noFrc (fun i hi=>frC_at n i (by rw [frC_size] at hi;exact hi))
   rw [frC_size] at this
   exact this.alloc _
 clear hd
 go_enter Tryz.func33,Tryz.ntmps33
 go_wp2_with fail
 refine HRAW.out.mono ?_
 rintro e w' ⟨cb,rb,rfl,hs,hr,hc,b1,b2,hk⟩
 have HS:=Lib.hid hs
 have HR:=Lib.hid hr
 have HC:=Lib.hid hc
 have HB1:=Lib.hid b1
 have HB2:=Lib.hid b2
 have HK:=Lib.hid hk
 clear hs hr hc b1 b2 hk HRAW hm
 go_wp2_with fail
 go_ret2
 generalize hw0:(w.alloc (.cells (frC n) 132)).alloc (.cells #[.pointer (some ⟨db,0,none⟩),.slice (some ⟨w.heap.size,0,none⟩) n n,.pointer none] 95)=w0 at *
 have hz0:w0.heap.size=w.heap.size+2:=by rw [← hw0];simp
 have hb0:Below w.heap.size w w0:=by rw [← hw0];exact below_two _ _ _
 have hlt:=HD.out.lt
 have hbw:Below w.heap.size w w':=hb0.trans (HK.out.toBelow (by rintro k (rfl | rfl)<;>omega) hb0.size)
 have hd':Dk w' D db k:=HD.out.below hbw
 have no:∀ b,w.heap.size≤b→¬ D b:=fun b hb hD=>by
  have:=hlt b hD
  omega
 have hb1:=HB1.out
 have hb2:=HB2.out
 have hP:=raw_pool (F:=fun k=>D k∨w.heap.size≤k∧k<w0.heap.size) (w:=w0) (PP.new k n) rfl rfl HS.out HR.out HC.out hd' (no _ (by omega)) (no _ (by omega)) (no _ (by omega)) (no _ (by omega)) (Or.inr (by omega)) (Or.inr (by omega)) (fun _ h=>Or.inl h)
  (fun b hb=>by
    rcases hb with e | e
    ·have:=hlt b e
     omega
    ·exact e.2) hb1 hb2 HK.out.size
 refine ⟨_,_,cb,rb,_,_,rfl,hP,⟨Kept.below hbw _,fun b hb=>?_⟩,hbw⟩
 rcases hb with (e | e) | e
 ·exact Or.inl e
 ·exact Or.inr e.1
 ·exact Or.inr (by omega)
end
end Go.Proofs.YtccphijgcapeoaaGreat
