/-
  A part of the proof: what its texts say stands at the head of each. Conditions: none.
-/
import Derived.Lib.EndianBits
import Derived.Deep.RegionWith
import Derived.Deep.RegionLaw
import Derived.Deep.AppendLies
import Derived.Deep.DeepCutAuto
import Derived.Deep.LoopGhost
import Derived.Laws.EntriesVeiled
import Derived.RegionTactic
import Derived.ChangeAlike
import Derived.BigRegion
import Derived.Deep.Cut
import Derived.IntWalk
import Derived.Test.YtccphijgcapeoaaGreatZC3
import Derived.Test.YtccphijgcapeoaaGreatZC5
import Derived.Test.YtccphijgcapeoaaGreatZC6
import Derived.Test.YtccphijgcapeoaaGreatZC7

set_option maxRecDepth 20000
set_option maxHeartbeats 12800000
/-
  What the closures of node's read come to: take, number, text.
-/
namespace Go.Proofs.YtccphijgcapeoaaGreat
open Go.RowKit
def RB (w:World) (gb gm R:Nat) (mis:Bool) (l:List UInt8):Prop :=
 ∃ A c,w.heap[gb]?=some (.cells #[.slice A l.length c] 115 (0,0))∧w.heap[gm]?=some (.cells #[.bool mis] 4 (0,0))∧l.length≤c∧c≤maxLen∧Bys w R A l∧R≤gb∧R≤gm
def RF (gb gm:Nat):Nat→Prop:=fun k=>k=gb∨k=gm
section
variable {w w':World} {gb gm R:Nat} {mis:Bool} {l:List UInt8}
theorem RB.lt (h:RB w gb gm R mis l):gb<w.heap.size∧gm<w.heap.size∧gb≠gm:=by
 obtain ⟨A,c,h1,h2,_⟩:=h
 refine ⟨(Array.getElem?_eq_some_iff.1 h1).1,(Array.getElem?_eq_some_iff.1 h2).1,?_⟩
 rintro rfl
 rw [h1] at h2
 injection h2 with h2
 injection h2 with _ h3
 exact absurd h3 (by decide)
theorem RB.far {F:Nat→Prop} (h:RB w gb gm R mis l) (hk:Kept F w w') (hF:∀ k,F k→R≤k∧k≠gb∧k≠gm):RB w' gb gm R mis l:=by
 obtain ⟨q1,q2,_⟩:=h.lt
 obtain ⟨A,c,h1,h2,h3,h4,h5,h6,h7⟩:=h
 have hb:Below R w w':=hk.toBelow (fun k e=>(hF k e).1) (by omega)
 exact ⟨A,c,(hk.block _ q1 (fun e=>(hF _ e).2.1 rfl)).trans h1,(hk.block _ q2 (fun e=>(hF _ e).2.2 rfl)).trans h2,h3,h4,h5.below hb,h6,h7⟩
theorem RB.same (h:RB w gb gm R mis l) (e:w'.heap=w.heap):RB w' gb gm R mis l:=by
 obtain ⟨A,c,h1,h2,h3,h4,h5,h6,h7⟩:=h
 refine ⟨A,c,by rw [e];exact h1,by rw [e];exact h2,h3,h4,?_,h6,h7⟩
 rcases h5 with rfl | ⟨b,off,rfl,hR,hc⟩
 ·exact Or.inl rfl
 ·exact Or.inr ⟨b,off,rfl,hR,fun i z hz=>(World.cell?_of_block (w:=w) (by rw [e])).trans (hc i z hz)⟩
end
theorem one_cell {w:World} {g:Nat} {v:Value} {t:TypeId} (h:w.heap[g]?=some (.cells #[v] t (0,0))):w.cell? ⟨g,0,none⟩=some v∧w.frozen? ⟨g,0,none⟩=false :=
 ⟨(cell_of_row w g 0 _ _ _ h).trans rfl,frozen_of_row w g 0 _ _ h⟩
theorem one_put {w:World} {g:Nat} {v u:Value} {t:TypeId} (h:w.heap[g]?=some (.cells #[v] t (0,0))):(w.setCell ⟨g,0,none⟩ u).heap[g]?=some (.cells #[u] t (0,0)):=by
 rw [Joins.block_setCell h]
 rfl
def TakeOk (w:World) (gb gm R:Nat) (mis:Bool) (l:List UInt8) (d:Nat) (e:Ending) (w':World):Prop :=
 ∃ A c,e = .returned (.slice A d c)∧Bys w' R A (l.take d)∧RB w' gb gm R mis (l.drop d)∧Kept (RF gb gm) w w'∧w'.heap.size=w.heap.size
theorem take_rb {w:World} {gb gm R c c' d:Nat} {A A':Option Addr} {mis:Bool} {l:List UInt8} (h1:w.heap[gb]?=some (.cells #[.slice A l.length c] 115 (0,0))) (h2:w.heap[gm]?=some (.cells #[.bool mis] 4 (0,0)))
 (h3:l.length≤c) (h4:c≤maxLen) (h5:Bys w R A l) (h6:R≤gb) (h7:R≤gm) (hd:d≤l.length) (hA:Bys w R A' (l.drop d)) (hc:c'=c - d) :
 Bys (w.setCell ⟨gb,0,none⟩ (.slice A' (l.length - d) c')) R A (l.take d)∧RB (w.setCell ⟨gb,0,none⟩ (.slice A' (l.length - d) c')) gb gm R mis (l.drop d)∧Kept (RF gb gm) w (w.setCell ⟨gb,0,none⟩ (.slice A' (l.length - d) c')):=by
 have hk:Kept (RF gb gm) w (w.setCell ⟨gb,0,none⟩ (.slice A' (l.length - d) c')):=Kept.setCell w (Or.inl rfl) _
 have hlt:gb<w.heap.size:=(Array.getElem?_eq_some_iff.1 h1).1
 have hne:gb≠gm:=(RB.lt ⟨A,c,h1,h2,h3,h4,h5,h6,h7⟩).2.2
 have hb:Below R w (w.setCell ⟨gb,0,none⟩ (.slice A' (l.length - d) c')):=(Below.refl _ _).setCell (p:=⟨gb,0,none⟩) h6 _
 refine ⟨(h5.take d).below hb,⟨A',c',?_,?_,?_,?_,hA.below hb,h6,h7⟩,hk⟩
 ·rw [one_put h1,List.length_drop]
 ·exact (Below.heap_setCell w ⟨gb,0,none⟩ _ gm (fun e=>hne e.symm)).trans h2
 ·rw [List.length_drop];omega
 ·omega
theorem bys_drop_any {w:World} {R:Nat} {A:Option Addr} {l:List UInt8} (h:Bys w R A l) (d:Nat):Bys w R (A.map (fun x=>x.add d)) (l.drop d):=by
 rcases A with _ | ⟨b,off,sp⟩
 ·rw [h.none_,List.drop_nil]
  exact Bys.nil _ _ _
 ·rcases h with rfl | ⟨b',off',e,hR,hc⟩
  ·rw [List.drop_nil]
   exact Bys.nil _ _ _
  ·injection e with e
   injection e with e1 e2 e3
   subst e1
   subst e2
   subst e3
   rw [Option.map_some,addr_add]
   exact Bys.drop (Or.inr ⟨b,off,rfl,hR,hc⟩) d
theorem take_ok {w:World} {gb gm R:Nat} {mis:Bool} {l:List UInt8} (h:RB w gb gm R mis l) (d:Nat) (hd:d≤l.length) :
 Calls Tryz.prog 155 #[.int .i64 (d:Int),.pointer (some ⟨gb,0,none⟩),.pointer (some ⟨gm,0,none⟩)] w (TakeOk w gb gm R mis l d):=by
 obtain ⟨A,c,h1,h2,h3,h4,h5,h6,h7⟩:=h
 obtain ⟨c0,f0⟩:=one_cell h1
 have H:=Lib.hid (fun (A':Option Addr) (c':Nat) (hA:Bys w R A' (l.drop d)) hc=>take_rb (A':=A') (c':=c') h1 h2 h3 h4 h5 h6 h7 hd hA hc)
 have hm:=h4
 unfold maxLen at hm
 have H5:=Lib.hid h5
 clear h1 h2 h4 h5 h6 h7
 obtain ⟨N,hN⟩:∃ N,l.length=N:=⟨_,rfl⟩
 rw [hN] at c0 h3 hd H
 have HN:=Lib.hid hN
 clear hN
 go_enter Tryz.func155,Tryz.ntmps155
 by_cases hc:c=d
 ·subst hc
  go_wp2_with fail
  go_ret
  have hz:l.drop c=[]:=List.drop_eq_nil_of_le (by rw [HN.out];omega)
  obtain ⟨q1,q2,q3⟩:=H.out A 0 (by rw [hz];exact Bys.nil _ _ _) (by omega)
  have e:N - c=0:=by omega
  rw [e] at q1 q2 q3
  exact ⟨A,c,rfl,q1,q2,q3,by simp [World.setCell]⟩
 ·go_wp2_with fail
  go_ret
  obtain ⟨q1,q2,q3⟩:=H.out _ (c - d) (bys_drop_any H5.out d) rfl
  exact ⟨A,c,rfl,q1,q2,q3,by simp [World.setCell]⟩
/-- Where there are too few. -/
theorem take_no {w:World} {gb gm R:Nat} {mis:Bool} {l:List UInt8} (h:RB w gb gm R mis l) (d:Nat) (hd:l.length<d) :
 Calls Tryz.prog 155 #[.int .i64 (d:Int),.pointer (some ⟨gb,0,none⟩),.pointer (some ⟨gm,0,none⟩)] w fun e w' =>
  e = .returned (.slice none 0 0)∧RB w' gb gm R true l∧Kept (RF gb gm) w w'∧w'.heap.size=w.heap.size:=by
 have hne:=h.lt.2.2
 obtain ⟨A,c,h1,h2,h3,h4,h5,h6,h7⟩:=h
 obtain ⟨c0,f0⟩:=one_cell h1
 obtain ⟨c1,f1⟩:=one_cell h2
 have hb:Below R w (w.setCell ⟨gm,0,none⟩ (.bool true)):=(Below.refl _ _).setCell (p:=⟨gm,0,none⟩) h7 _
 have H:Hid (RB (w.setCell ⟨gm,0,none⟩ (.bool true)) gb gm R true l):=Lib.hid ⟨A,c,(Below.heap_setCell w ⟨gm,0,none⟩ _ gb hne).trans h1,one_put h2,h3,h4,h5.below hb,h6,h7⟩
 clear h1 h2 h4 h5 h6 h7 hb hne
 obtain ⟨N,hN⟩:∃ N,l.length=N:=⟨_,rfl⟩
 rw [hN] at c0 h3 hd
 clear hN
 go_enter Tryz.func155,Tryz.ntmps155
 go_wp2_with fail
 go_ret
 exact ⟨rfl,H.out,Kept.setCell w (Or.inr rfl) _,by simp [World.setCell]⟩
def bn (l:List UInt8):Nat:=l.foldl (fun n c=>n*256+c.toNat) 0
theorem bn_snoc (l:List UInt8) (c:UInt8):bn (l++[c])=bn l*256+c.toNat:=by
 unfold bn
 rw [List.foldl_append]
 rfl
theorem bn_lt:∀ l:List UInt8,l.length≤4→bn l<4294967296
 | [],_=>by decide
 | [a],_=>by have:=byte_lt a;simp only [bn,List.foldl];omega
 | [a,b],_=>by have:=byte_lt a;have:=byte_lt b;simp only [bn,List.foldl];omega
 | [a,b,c],_=>by have:=byte_lt a;have:=byte_lt b;have:=byte_lt c;simp only [bn,List.foldl];omega
 | [a,b,c,d],_=>by have:=byte_lt a;have:=byte_lt b;have:=byte_lt c;have:=byte_lt d;simp only [bn,List.foldl];omega
 | _::_::_::_::_::_,h=>by simp at h
theorem njoin (z:Nat) (u:UInt8) (h:z*256+u.toNat<4294967296):bits .or .i64 ((z:Int)*256) (u.toNat:Int)=((z*256+u.toNat:Nat):Int):=by
 have hu:=byte_lt u
 rw [bits_join .i64 63 (by decide) (fun n h0 h1=>IntWalk.i64_in n (by omega)) 8 ((z:Int)*256) (u.toNat:Int) (by omega) (by omega) (by omega) (by omega) (by omega) (by omega)]
 omega
def TB (w:World) (gt gb gm:Nat):Prop:=w.heap[gt]?=some (.cells #[.func (.func 155) #[] #[.pointer (some ⟨gb,0,none⟩),.pointer (some ⟨gm,0,none⟩)]] 116 (0,0))
theorem TB.far {w w':World} {gt gb gm:Nat} {F:Nat→Prop} (h:TB w gt gb gm) (hk:Kept F w w') (hF:¬ F gt):TB w' gt gb gm:=(hk.block gt (Array.getElem?_eq_some_iff.1 h).1 hF).trans h
theorem TB.ne {w:World} {gt gb gm R:Nat} {mis:Bool} {l:List UInt8} (h:TB w gt gb gm) (hr:RB w gb gm R mis l):¬ RF gb gm gt:=by
 obtain ⟨A,c,h1,h2,_⟩:=hr
 rintro (rfl | rfl)
 ·unfold TB at h
  rw [h1] at h
  injection h with h
  injection h with _ h3
  exact absurd h3 (by decide)
 ·unfold TB at h
  rw [h2] at h
  injection h with h
  injection h with _ h3
  exact absurd h3 (by decide)
def NumEnd (w:World) (gb gm R:Nat) (mis:Bool) (l:List UInt8) (d:Nat) (e:Ending) (w':World):Prop :=
 ∃ (z:Nat) (mis':Bool) (l':List UInt8),e = .returned (.int .i64 (z:Int))∧z<4294967296∧RB w' gb gm R mis' l'∧Kept (RF gb gm) w w' ∧
   ((mis'=mis∧d≤l.length∧z=bn (l.take d)∧l'=l.drop d)∨(mis'=true∧l.length<d∧z=0∧l'=l))
theorem number_any {w:World} {gb gm gt R:Nat} {mis:Bool} {l:List UInt8} (h:RB w gb gm R mis l) (ht:TB w gt gb gm) (d:Nat) (hd:d≤4) :
 Calls Tryz.prog 156 #[.int .i64 (d:Int),.pointer (some ⟨gt,0,none⟩)] w (NumEnd w gb gm R mis l d):=by
 obtain ⟨t0,t1⟩:=one_cell ht
 have H:=Lib.hid h
 clear h ht
 go_enter Tryz.func156,Tryz.ntmps156
 go_wp2_with fail
 by_cases hl:d≤l.length
 ·refine (take_ok H.out d hl).mono ?_
  rintro e w2 ⟨A,c,rfl,y2,r2,k2,-⟩
  have R2:=Lib.hid r2
  have K2:=Lib.hid k2
  have Y2:=Lib.hid y2
  have hxl:(l.take d).length=d:=by rw [List.length_take];omega
  have HX:=Lib.hid hxl
  have HL:=Lib.hid hl
  clear r2 k2 y2 hxl hl
  go_wp2_with fail
  go_loop [4,11] (fun s i=>∃ j z:Nat,j≤d∧i = .int .i64 j∧s = .int .i64 z∧Hid (z=bn ((l.take d).take j))∧z<4294967296) (fun _ i=>d - (RowKit.intOf i).toNat)
  case atStart=>exact ⟨0,0,Nat.zero_le _,rfl,rfl,Lib.hid rfl,by omega⟩
  case round =>
   obtain ⟨j,z,hj,rfl,rfl,HZ,hz⟩:=hrel
   by_cases hlt:j<d
   ·obtain ⟨b,off,u,rfl,_,hv,c0⟩:=Y2.out.at_ (k:=j) (by rw [HX.out];exact hlt)
    have hn:bn ((l.take d).take (j+1))=z*256+u.toNat:=by
     rw [List.take_add_one,hv,Option.toList_some,bn_snoc,HZ.out]
    have HN:=Lib.hid hn
    have hlt2:z*256+u.toNat<4294967296:=by
     rw [← hn]
     exact bn_lt _ (by rw [List.length_take];omega)
    have hu:=byte_lt u
    clear hv hn
    go_wp2_with fail
    go_round
    case rel =>
     exact ⟨j+1,z*256+u.toNat,by omega,by go_num,by rw [njoin z u hlt2],Lib.hid HN.out.symm,hlt2⟩
    case measure=>simp [RowKit.intOf];omega
   ·obtain rfl:d=j:=by omega
    go_wp2_with fail
    go_ret
    exact ⟨z,mis,l.drop d,rfl,hz,R2.out,K2.out,Or.inl ⟨rfl,HL.out,by rw [HZ.out,List.take_of_length_le (by rw [HX.out];omega)],rfl⟩⟩
 ·refine (take_no H.out d (by omega)).mono ?_
  rintro e w2 ⟨rfl,r2,k2,-⟩
  have R2:=Lib.hid r2
  have K2:=Lib.hid k2
  have HL:=Lib.hid hl
  clear r2 k2 hl
  go_wp2_with fail
  go_loop [4,11] (fun s i=>i = .int .i64 0∧s = .int .i64 0) (fun _ i=>1 - (RowKit.intOf i).toNat)
  case atStart=>exact ⟨rfl,rfl⟩
  case round =>
   obtain ⟨rfl,rfl⟩:=hrel
   go_wp2_with fail
   go_ret
   exact ⟨0,true,l,rfl,by omega,R2.out,K2.out,Or.inr ⟨rfl,by have:=HL.out;omega,rfl,rfl⟩⟩
theorem number_one {w:World} {gb gm gt R:Nat} {mis:Bool} {l:List UInt8} (h:RB w gb gm R mis l) (ht:TB w gt gb gm) :
 Calls Tryz.prog 156 #[.int .i64 1,.pointer (some ⟨gt,0,none⟩)] w (NumEnd w gb gm R mis l 1):=number_any h ht 1 (by omega)
theorem number_two {w:World} {gb gm gt R:Nat} {mis:Bool} {l:List UInt8} (h:RB w gb gm R mis l) (ht:TB w gt gb gm) :
 Calls Tryz.prog 156 #[.int .i64 2,.pointer (some ⟨gt,0,none⟩)] w (NumEnd w gb gm R mis l 2):=number_any h ht 2 (by omega)
theorem number_four {w:World} {gb gm gt R:Nat} {mis:Bool} {l:List UInt8} (h:RB w gb gm R mis l) (ht:TB w gt gb gm) :
 Calls Tryz.prog 156 #[.int .i64 4,.pointer (some ⟨gt,0,none⟩)] w (NumEnd w gb gm R mis l 4):=number_any h ht 4 (by omega)
def NB (w:World) (gn gt:Nat):Prop:=w.heap[gn]?=some (.cells #[.func (.func 156) #[] #[.pointer (some ⟨gt,0,none⟩)]] 225 (0,0))
theorem NB.far {w w':World} {gn gt:Nat} {F:Nat→Prop} (h:NB w gn gt) (hk:Kept F w w') (hF:¬ F gn):NB w' gn gt:=(hk.block gn (Array.getElem?_eq_some_iff.1 h).1 hF).trans h
theorem NB.ne {w:World} {gn gt gb gm R:Nat} {mis:Bool} {l:List UInt8} (h:NB w gn gt) (hr:RB w gb gm R mis l):¬ RF gb gm gn:=by
 obtain ⟨A,c,h1,h2,_⟩:=hr
 rintro (rfl | rfl)
 ·unfold NB at h
  rw [h1] at h
  injection h with h
  injection h with _ h3
  exact absurd h3 (by decide)
 ·unfold NB at h
  rw [h2] at h
  injection h with h
  injection h with _ h3
  exact absurd h3 (by decide)
def TextEnd (w:World) (gb gm R:Nat) (mis:Bool) (l:List UInt8) (e:Ending) (w':World):Prop :=
 ∃ (s:ByteArray) (mis':Bool) (l':List UInt8),e = .returned (.string s)∧RB w' gb gm R mis' l'∧Kept (RF gb gm) w w'∧l'.length≤l.length ∧
   ((mis'=mis∧ND.cutT l=some (s.toList,l'))∨(mis'=true∧ND.cutT l=none))
theorem cut_ways {l l':List UInt8} {z:Nat} {mis mis':Bool} (h:(mis'=mis∧1≤l.length∧z=bn (l.take 1)∧l'=l.drop 1)∨(mis'=true∧l.length<1∧z=0∧l'=l)) :
 l'.length≤l.length∧(z≤l'.length→((mis'=mis∧ND.cutT l=some (l'.take z,l'.drop z))∨(mis'=true∧ND.cutT l=none)))∧(l'.length<z→ND.cutT l=none):=by
 rcases h with ⟨rfl,h1,rfl,rfl⟩ | ⟨rfl,h1,rfl,rfl⟩
 ·rcases l with _ | ⟨c,r⟩
  ·simp at h1
  ·have e:bn ((c::r).take 1)=c.toNat:=by simp [bn]
   rw [e]
   simp only [List.drop_succ_cons,List.drop_zero,List.length_cons]
   refine ⟨by omega,fun hz=>Or.inl ⟨trivial,?_⟩,fun hz=>?_⟩
   ·exact if_pos hz
   ·exact if_neg (by omega)
 ·obtain rfl:l'=[]:=List.eq_nil_of_length_eq_zero (by omega)
  exact ⟨Nat.le_refl _,fun _=>Or.inr (And.intro rfl rfl),fun h=>absurd h (Nat.not_lt_zero _)⟩
def NTakeEnd (w:World) (gb gm R:Nat) (mis:Bool) (l:List UInt8) (d:Nat) (e:Ending) (w':World):Prop :=
 ∃ A n c x mis' l',e = .returned (.slice A n c)∧x.length=n∧Bys w' R A x∧RB w' gb gm R mis' l'∧Kept (RF gb gm) w w' ∧
   ((mis'=mis∧d≤l.length∧x=l.take d∧l'=l.drop d)∨(mis'=true∧l.length<d∧x=[]∧l'=l))
theorem ntake_any {w:World} {gb gm R:Nat} {mis:Bool} {l:List UInt8} (h:RB w gb gm R mis l) (d:Nat) :
 Calls Tryz.prog 155 #[.int .i64 (d:Int),.pointer (some ⟨gb,0,none⟩),.pointer (some ⟨gm,0,none⟩)] w (NTakeEnd w gb gm R mis l d):=by
 by_cases hd:d≤l.length
 ·refine (take_ok h d hd).mono ?_
  rintro e w2 ⟨A,c,rfl,y2,r2,k2,-⟩
  exact ⟨A,d,c,l.take d,mis,l.drop d,rfl,by rw [List.length_take];omega,y2,r2,k2,Or.inl ⟨rfl,hd,rfl,rfl⟩⟩
 ·refine (take_no h d (by omega)).mono ?_
  rintro e w2 ⟨rfl,r2,k2,-⟩
  exact ⟨none,0,0,[],true,l,rfl,rfl,Bys.nil _ _ _,r2,k2,Or.inr ⟨rfl,by omega,rfl,rfl⟩⟩
theorem text_end {w w1 w2:World} {gb gm R z:Nat} {mis mis1 mis2:Bool} {l l1 l2 x:List UInt8} (k0:Kept (RF gb gm) w w1) (k1:Kept (RF gb gm) w1 w2)
 (h:l1.length≤l.length∧(z≤l1.length→((mis1=mis∧ND.cutT l=some (l1.take z,l1.drop z))∨(mis1=true∧ND.cutT l=none)))∧(l1.length<z→ND.cutT l=none))
 (g:(mis2=mis1∧z≤l1.length∧x=l1.take z∧l2=l1.drop z)∨(mis2=true∧l1.length<z∧x=[]∧l2=l1)) (r2:RB w2 gb gm R mis2 l2) :
 TextEnd w gb gm R mis l (.returned (.string ⟨x.toArray⟩)) w2:=by
 obtain ⟨h1,h2,h3⟩:=h
 refine ⟨_,mis2,l2,rfl,r2,k0.next k1,?_,?_⟩
 ·rcases g with ⟨_,_,_,rfl⟩ | ⟨_,_,_,rfl⟩
  ·rw [List.length_drop];omega
  ·exact h1
 ·rcases g with ⟨rfl,g1,rfl,rfl⟩ | ⟨rfl,g1,rfl,rfl⟩
  ·rcases h2 g1 with ⟨rfl,h⟩ | ⟨rfl,h⟩
   ·exact Or.inl ⟨rfl,by rw [h,toList_data]⟩
   ·exact Or.inr ⟨rfl,h⟩
  ·exact Or.inr ⟨rfl,h3 g1⟩
theorem ntext_any {w:World} {gb gm gt gn R:Nat} {mis:Bool} {l:List UInt8} (h:RB w gb gm R mis l) (ht:TB w gt gb gm) (hn:NB w gn gt) :
 Calls Tryz.prog 157 #[.pointer (some ⟨gt,0,none⟩),.pointer (some ⟨gn,0,none⟩)] w (TextEnd w gb gm R mis l):=by
 obtain ⟨t0,t1⟩:=one_cell ht
 obtain ⟨n0,n1⟩:=one_cell hn
 have H:=Lib.hid h
 have HT:Hid (TB w.drew gt gb gm):=Lib.hid ht
 have HNT:=Lib.hid (ht.ne h)
 have HNN:=Lib.hid (hn.ne h)
 have HN:Hid (NB w.drew gn gt):=Lib.hid hn
 have KD:Hid (Kept (RF gb gm) w w.drew):=Lib.hid ⟨rfl,rfl,rfl,Nat.le_refl _,fun _ _ _=>rfl⟩
 clear h ht hn t1 n1
 go_enter Tryz.func157,Tryz.ntmps157
 go_wp2_with fail
 go_region_with
  (first
    | (go_at_call 156;refine (number_one (w:=w.drew) (H.out.same rfl) HT.out).mono ?_;rintro e1 w1 ⟨z,mis1,l1,rfl,_,r1,k1,hw⟩;have f0:=(one_cell (HT.out.far k1 HNT.out)).1;have f1:=(one_cell (HN.out.far k1 HNN.out)).1;have R1:=Lib.hid r1;have K1:=Lib.hid k1;have HW:=Lib.hid (cut_ways hw);clear r1 k1 hw)
    | (go_at_call 155;refine (ntake_any R1.out z).mono ?_;rintro e2 w2 ⟨A2,n2,c2,x2,mis2,l2,rfl,hx2,y2,r2,k2,hw2⟩;have g0:=(one_cell ((HT.out.far K1.out HNT.out).far k2 HNT.out)).1;have g1:=(one_cell ((HN.out.far K1.out HNN.out).far k2 HNN.out)).1;have ct:=run_text (P:=Tryz.prog) y2 115 9 5 n2 c2 hx2 Tryz.underlying115 Tryz.underlying5 Tryz.underlying9;have HE:=Lib.hid (text_end (KD.out.next K1.out) k2 HW.out hw2 r2);clear hx2 y2 r2 k2 hw2)
    | fail)
 all_goals (
  go_wp2_with fail
  go_ret
  exact HE.out)
end Go.Proofs.YtccphijgcapeoaaGreat
/-
  What node's read holds while it goes on: its blocks, and what the bytes tell from there.
-/
namespace Go.Proofs.YtccphijgcapeoaaGreat
open Go.RowKit
theorem row_same {w w':World} {base sz n:Nat} {e:TypeId} {v:Value} {xs:List Value} (h:w.ownsRow base e sz v n xs) (hk:∀ g,v.ownBlock=some g→w'.heap[g]?=w.heap[g]?):w'.ownsRow base e sz v n xs:=by
 refine ⟨h.1,?_⟩
 rcases h.2 with ⟨h1,h2⟩ | ⟨g,cap,cur,rfl,h2,h3,h4⟩
 ·exact Or.inl ⟨h1,h2⟩
 ·exact Or.inr ⟨g,cap,cur,rfl,h2,(hk g rfl).trans h3,h4⟩
theorem nrows_apart {w:World} {base base' sz sz' n n':Nat} {e e':TypeId} {v v':Value} {xs xs':List Value} (h:w.ownsRow base e sz v n xs) (h':w.ownsRow base' e' sz' v' n' xs') (hne:e≠e'):∀ g,v.ownBlock=some g→v'.ownBlock≠some g:=by
 intro g h1 h2
 rcases h.2 with ⟨rfl,_⟩ | ⟨g1,cap,cur,rfl,_,h3,_⟩
 ·cases h1
 ·rcases h'.2 with ⟨rfl,_⟩ | ⟨g2,cap',cur',rfl,_,h4,_⟩
  ·cases h2
  ·have e1:g1=g:=by simpa [Value.ownBlock] using h1
   have e2:g2=g:=by simpa [Value.ownBlock] using h2
   subst e1
   subst e2
   rw [h3] at h4
   injection h4 with h4
   injection h4 with _ h5
   exact hne h5
structure RS (w:World) (gb gr gm gt gn gx R:Nat) (mis:Bool) (r:List UInt8) (s:ND) (kv vv cv:Value):Prop where
 od:gb<gr∧gr<gm∧gm<gt∧gt<gn∧gn<gx
 rb:RB w gb gm R mis r
 tk:TB w gt gb gm
 nb:NB w gn gt
 res:NBox w gr (.bool false) (.slice none 0 0) (.slice none 0 0) (.slice none 0 0)
 box:NBox w gx (.bool s.leaf) kv vv cv
 ke:w.ownsRow (gx+1) 9 1 kv s.keys.length (strVals s.keys)
 va:w.ownsRow (gx+1) 9 1 vv s.vals.length (strVals s.vals)
 ki:w.ownsRow (gx+1) 3 1 cv s.kids.length (intVals s.kids)
 ne:∀ g,kv.ownBlock=some g→vv.ownBlock≠some g
section
variable {w w' w4:World} {gb gr gm gt gn gx R:Nat} {mis mis':Bool} {r r':List UInt8} {s s':ND} {kv vv cv kv' vv' cv':Value}
theorem RS.same (h:RS w gb gr gm gt gn gx R mis r s kv vv cv) (e:w'.heap=w.heap):RS w' gb gr gm gt gn gx R mis r s kv vv cv :=
 ⟨h.od,h.rb.same e,by unfold TB;rw [e];exact h.tk,by unfold NB;rw [e];exact h.nb,h.res.block (by rw [e]),h.box.block (by rw [e]),row_same h.ke (fun _ _=>by rw [e]),row_same h.va (fun _ _=>by rw [e]),row_same h.ki (fun _ _=>by rw [e]),h.ne⟩
theorem RS.far {F:Nat→Prop} (h:RS w gb gr gm gt gn gx R mis r s kv vv cv) (k:Kept F w w') (hF:∀ j,F j→j=gb∨j=gm) (q':RB w' gb gm R mis' r'):RS w' gb gr gm gt gn gx R mis' r' s kv vv cv:=by
 obtain ⟨o1,o2,o3,o4,o5⟩:=h.od
 have hlt:gx<w.heap.size:=h.box.lt
 have no:∀ j,j<w.heap.size→j≠gb→j≠gm→w'.heap[j]?=w.heap[j]?:=fun j hj h1 h2=>k.block j hj (fun e=>by rcases hF j e with e | e;exact h1 e;exact h2 e)
 exact ⟨h.od,q',(no gt (by omega) (by omega) (by omega)).trans h.tk,(no gn (by omega) (by omega) (by omega)).trans h.nb,h.res.block (no gr (by omega) (by omega) (by omega)),h.box.block (no gx hlt (by omega) (by omega)),
  row_same h.ke (fun g e=>by have:=h.ke.lt g e;exact no g this.2 (by omega) (by omega)),row_same h.va (fun g e=>by have:=h.va.lt g e;exact no g this.2 (by omega) (by omega)),row_same h.ki (fun g e=>by have:=h.ki.lt g e;exact no g this.2 (by omega) (by omega)),h.ne⟩
theorem RS.call (h:RS w gb gr gm gt gn gx R mis r s kv vv cv) (k:Kept (RF gb gm) w w') (q':RB w' gb gm R mis' r'):RS w' gb gr gm gt gn gx R mis' r' s kv vv cv:=h.far k (fun _ e=>e) q'
theorem RS.put {row:Option Nat} (h:RS w gb gr gm gt gn gx R mis r s kv vv cv) (k:Kept (fun j=>row=some j∨j=gx) w w') (hr:∀ g,row=some g→gx+1≤g) (hb:NBox w' gx (.bool s'.leaf) kv' vv' cv')
 (hke:w'.ownsRow (gx+1) 9 1 kv' s'.keys.length (strVals s'.keys)) (hva:w'.ownsRow (gx+1) 9 1 vv' s'.vals.length (strVals s'.vals)) (hki:w'.ownsRow (gx+1) 3 1 cv' s'.kids.length (intVals s'.kids))
 (hne:∀ g,kv'.ownBlock=some g→vv'.ownBlock≠some g):RS w' gb gr gm gt gn gx R mis r s' kv' vv' cv':=by
 obtain ⟨o1,o2,o3,o4,o5⟩:=h.od
 have hlt:gx<w.heap.size:=h.box.lt
 have no:∀ j,j<gx→w'.heap[j]?=w.heap[j]?:=fun j hj=>k.block j (by omega) (fun e=>by rcases e with e | e;(have:=hr j e;omega);omega)
 have hR:R≤gb:=by obtain ⟨A,c,_,_,_,_,_,h6,_⟩:=h.rb;exact h6
 refine ⟨h.od,h.rb.far k (fun j e=>?_),(no gt (by omega)).trans h.tk,(no gn (by omega)).trans h.nb,h.res.block (no gr (by omega)),hb,hke,hva,hki,hne⟩
 rcases e with e | e
 ·have:=hr j e
  exact ⟨by omega,by omega,by omega⟩
 ·exact ⟨by omega,by omega,by omega⟩
theorem push_kept {o:Obj} {row:Option Nat} (gr4:(w.alloc o).grownBy w4 row) (j:Nat) (u:Value):Kept (fun k=>row=some k∨k=gx) w (w4.setCell ⟨gx,j,none⟩ u) :=
 ((Kept.below (below_one w o) _).trans (F':=fun k=>row=some k) ⟨gr4.os,gr4.tape,gr4.output,gr4.size,fun k hk hn=>gr4.block k hk (fun e=>hn e.symm)⟩ (fun _ e=>Or.inl (Or.inl e))).trans (F':=fun k=>k=gx) (Kept.setCell (F:=fun k=>k=gx) (a:=⟨gx,j,none⟩) w4 rfl u) (fun _ e=>Or.inl (Or.inr e))
theorem push_box {o:Obj} {row:Option Nat} {x y z p:Value} (h:NBox w gx x y z p) (gr4:(w.alloc o).grownBy w4 row) (hr:∀ g,row=some g→gx+1≤g):NBox w4 gx x y z p:=by
 have hlt:=h.lt
 refine (h.kept (below_one w o)).block (gr4.block gx (by simp;omega) (fun e=>?_))
 have:=hr gx e.symm
 omega
theorem pushK {o:Obj} {g cap:Nat} {t:ByteArray} (M:RS w gb gr gm gt gn gx R mis r s kv vv cv) (o4:w4.ownsRow (gx+1) 9 1 (.slice (some ⟨g,0,none⟩) (s.keys.length+1) cap) (s.keys.length+1) (strVals s.keys++[.string t]))
 (gr4:(w.alloc o).grownBy w4 kv.ownBlock) (at4:kv.ownBlock=some g∨g=(w.alloc o).heap.size) :
 w4.cell? ⟨gx,1,none⟩=some kv∧w4.frozen? ⟨gx,1,none⟩=false ∧
  Hid (RS (w4.setCell ⟨gx,1,none⟩ (.slice (some ⟨g,0,none⟩) (s.keys.length+1) cap)) gb gr gm gt gn gx R mis r ⟨s.leaf,s.keys++[t.toList],s.vals,s.kids⟩ (.slice (some ⟨g,0,none⟩) (s.keys.length+1) cap) vv cv) ∧
  Hid (Kept (fun j=>gx≤j) w (w4.setCell ⟨gx,1,none⟩ (.slice (some ⟨g,0,none⟩) (s.keys.length+1) cap))):=by
 have hr:∀ k,kv.ownBlock=some k→gx+1≤k:=fun k e=>(M.ke.lt k e).1
 have hk:=push_kept (gx:=gx) gr4 1 (.slice (some ⟨g,0,none⟩) (s.keys.length+1) cap)
 have hb:=push_box M.box gr4 hr
 have hlt:∀ k,vv.ownBlock=some k→k<w.heap.size:=fun k e=>(M.va.lt k e).2
 refine ⟨hb.cells.2.1,hb.free.2.1,M.put hk hr (hb.set1 _) ?_ ?_ ?_ ?_,hk.more (fun j e=>?_)⟩
 ·have:=ownsRow_setCell_below o4 (a:=⟨gx,1,none⟩) (by simp) (.slice (some ⟨g,0,none⟩) (s.keys.length+1) cap)
  rw [strVals_append,List.length_append]
  rw [← tb_back t] at this
  exact this
 ·refine row_same M.va (fun k e=>hk.block k (hlt k e) ?_)
  rintro (e1 | rfl)
  ·exact M.ne k e1 e
  ·have:=(M.va.lt _ e).1;omega
 ·refine row_same M.ki (fun k e=>hk.block k (M.ki.lt k e).2 ?_)
  rintro (e1 | rfl)
  ·exact nrows_apart M.ke M.ki (by decide) k e1 e
  ·have:=(M.ki.lt _ e).1;omega
 ·intro k e1 e2
  obtain rfl:g=k:=by simpa [Value.ownBlock] using e1
  rcases at4 with e | e
  ·exact M.ne g e e2
  ·have:=hlt g e2
   simp at e
   omega
 ·rcases e with e | e
  ·have:=hr j e;omega
  ·omega
theorem pushV {o:Obj} {g cap:Nat} {t:ByteArray} (M:RS w gb gr gm gt gn gx R mis r s kv vv cv) (o4:w4.ownsRow (gx+1) 9 1 (.slice (some ⟨g,0,none⟩) (s.vals.length+1) cap) (s.vals.length+1) (strVals s.vals++[.string t]))
 (gr4:(w.alloc o).grownBy w4 vv.ownBlock) (at4:vv.ownBlock=some g∨g=(w.alloc o).heap.size) :
 w4.cell? ⟨gx,2,none⟩=some vv∧w4.frozen? ⟨gx,2,none⟩=false ∧
  Hid (RS (w4.setCell ⟨gx,2,none⟩ (.slice (some ⟨g,0,none⟩) (s.vals.length+1) cap)) gb gr gm gt gn gx R mis r ⟨s.leaf,s.keys,s.vals++[t.toList],s.kids⟩ kv (.slice (some ⟨g,0,none⟩) (s.vals.length+1) cap) cv) ∧
  Hid (Kept (fun j=>gx≤j) w (w4.setCell ⟨gx,2,none⟩ (.slice (some ⟨g,0,none⟩) (s.vals.length+1) cap))):=by
 have hr:∀ k,vv.ownBlock=some k→gx+1≤k:=fun k e=>(M.va.lt k e).1
 have hk:=push_kept (gx:=gx) gr4 2 (.slice (some ⟨g,0,none⟩) (s.vals.length+1) cap)
 have hb:=push_box M.box gr4 hr
 have hlt:∀ k,kv.ownBlock=some k→k<w.heap.size:=fun k e=>(M.ke.lt k e).2
 refine ⟨hb.cells.2.2.1,hb.free.2.2.1,M.put hk hr (hb.set2 _) ?_ ?_ ?_ ?_,hk.more (fun j e=>?_)⟩
 ·refine row_same M.ke (fun k e=>hk.block k (hlt k e) ?_)
  rintro (e1 | rfl)
  ·exact M.ne k e e1
  ·have:=(M.ke.lt _ e).1;omega
 ·have:=ownsRow_setCell_below o4 (a:=⟨gx,2,none⟩) (by simp) (.slice (some ⟨g,0,none⟩) (s.vals.length+1) cap)
  rw [strVals_append,List.length_append]
  rw [← tb_back t] at this
  exact this
 ·refine row_same M.ki (fun k e=>hk.block k (M.ki.lt k e).2 ?_)
  rintro (e1 | rfl)
  ·exact nrows_apart M.va M.ki (by decide) k e1 e
  ·have:=(M.ki.lt _ e).1;omega
 ·intro k e1 e2
  obtain rfl:g=k:=by simpa [Value.ownBlock] using e2
  rcases at4 with e | e
  ·exact M.ne g e1 e
  ·have:=hlt g e1
   simp at e
   omega
 ·rcases e with e | e
  ·have:=hr j e;omega
  ·omega
theorem pushC {o:Obj} {g cap:Nat} {z:Int} (M:RS w gb gr gm gt gn gx R mis r s kv vv cv) (o4:w4.ownsRow (gx+1) 3 1 (.slice (some ⟨g,0,none⟩) (s.kids.length+1) cap) (s.kids.length+1) (intVals s.kids++[.int .i64 z]))
 (gr4:(w.alloc o).grownBy w4 cv.ownBlock) :
 w4.cell? ⟨gx,3,none⟩=some cv∧w4.frozen? ⟨gx,3,none⟩=false ∧
  Hid (RS (w4.setCell ⟨gx,3,none⟩ (.slice (some ⟨g,0,none⟩) (s.kids.length+1) cap)) gb gr gm gt gn gx R mis r ⟨s.leaf,s.keys,s.vals,s.kids++[z]⟩ kv vv (.slice (some ⟨g,0,none⟩) (s.kids.length+1) cap)) ∧
  Hid (Kept (fun j=>gx≤j) w (w4.setCell ⟨gx,3,none⟩ (.slice (some ⟨g,0,none⟩) (s.kids.length+1) cap))):=by
 have hr:∀ k,cv.ownBlock=some k→gx+1≤k:=fun k e=>(M.ki.lt k e).1
 have hk:=push_kept (gx:=gx) gr4 3 (.slice (some ⟨g,0,none⟩) (s.kids.length+1) cap)
 have hb:=push_box M.box gr4 hr
 refine ⟨hb.cells.2.2.2,hb.free.2.2.2,M.put hk hr (hb.set3 _) ?_ ?_ ?_ M.ne,hk.more (fun j e=>?_)⟩
 ·refine row_same M.ke (fun k e=>hk.block k (M.ke.lt k e).2 ?_)
  rintro (e1 | rfl)
  ·exact nrows_apart M.ke M.ki (by decide) k e e1
  ·have:=(M.ke.lt _ e).1;omega
 ·refine row_same M.va (fun k e=>hk.block k (M.va.lt k e).2 ?_)
  rintro (e1 | rfl)
  ·exact nrows_apart M.va M.ki (by decide) k e e1
  ·have:=(M.va.lt _ e).1;omega
 ·have:=ownsRow_setCell_below o4 (a:=⟨gx,3,none⟩) (by simp) (.slice (some ⟨g,0,none⟩) (s.kids.length+1) cap)
  rw [sIntVals_append,List.length_append]
  exact this
 ·rcases e with e | e
  ·have:=hr j e;omega
  ·omega
end
def goOn (lf:Bool) (m:Nat) (r:List UInt8) (s:ND):Option ND :=
 if lf then (ND.prsL m r).map (fun p=>⟨true,s.keys++p.1,s.vals++p.2,s.kids⟩) else (ND.prsI m r).map (fun p=>⟨false,s.keys++p.1,s.vals,s.kids++p.2⟩)
theorem goOn_end {lf:Bool} {r:List UInt8} {s:ND} (h:s.leaf=lf):goOn lf 0 r s=if r.length=0 then some s else none:=by
 obtain ⟨leaf,ks,vs,cs⟩:=s
 dsimp only at h
 subst h
 have e1:ND.prsL 0 r=if r.length=0 then some ([],[]) else none:=rfl
 have e2:ND.prsI 0 r=if r.length=0 then some ([],[]) else none:=rfl
 unfold goOn
 rw [e1,e2]
 cases leaf<;>by_cases h0:r.length=0<;>simp [h0]
theorem goOn_none {lf:Bool} {m:Nat} {r:List UInt8} {s:ND} (h:ND.cutT r=none):goOn lf (m+1) r s=none:=by
 unfold goOn
 rw [ND.prsL_succ,ND.prsI_succ,h]
 cases lf<;>rfl
theorem goOn_val {m:Nat} {r r1 r2:List UInt8} {s:ND} {a b:List UInt8} (h:ND.cutT r=some (a,r1)) (g:ND.cutT r1=some (b,r2)):goOn true (m+1) r s=goOn true m r2 ⟨s.leaf,s.keys++[a],s.vals++[b],s.kids⟩:=by
 unfold goOn
 rw [if_pos rfl,if_pos rfl,ND.prsL_succ,h]
 dsimp only
 rw [g]
 dsimp only
 cases ND.prsL m r2<;>simp
theorem goOn_noval {m:Nat} {r r1:List UInt8} {s:ND} {a:List UInt8} (h:ND.cutT r=some (a,r1)) (g:ND.cutT r1=none):goOn true (m+1) r s=none:=by
 unfold goOn
 rw [if_pos rfl,ND.prsL_succ,h]
 dsimp only
 rw [g]
 rfl
theorem goOn_kid {m:Nat} {r r1 r2:List UInt8} {s:ND} {a:List UInt8} {z:Int} (h:ND.cutT r=some (a,r1)) (g:ND.kidT r1=some (z,r2)):goOn false (m+1) r s=goOn false m r2 ⟨s.leaf,s.keys++[a],s.vals,s.kids++[z]⟩:=by
 unfold goOn
 rw [if_neg (by decide),if_neg (by decide),ND.prsI_succ,h]
 dsimp only
 rw [g]
 dsimp only
 cases ND.prsI m r2<;>simp
theorem goOn_nokid {m:Nat} {r r1:List UInt8} {s:ND} {a:List UInt8} (h:ND.cutT r=some (a,r1)) (g:ND.kidT r1=none):goOn false (m+1) r s=none:=by
 unfold goOn
 rw [if_neg (by decide),ND.prsI_succ,h]
 dsimp only
 rw [g]
 rfl
theorem kid_bn {l:List UInt8} (h:4≤l.length):ND.kidT l=some (((bn (l.take 4):Nat):Int),l.drop 4):=by
 match l,h with
 | a::b::c::d::r,_ =>
   show some (((num4 a b c d:Nat):Int),r)=some (((bn [a,b,c,d]:Nat):Int),r)
   have:bn [a,b,c,d]=num4 a b c d:=by unfold bn num4;simp [List.foldl]
   rw [this]
theorem kid_short {l:List UInt8} (h:l.length<4):ND.kidT l=none:=by
 match l,h with
 | [],_=>rfl
 | [_],_=>rfl
 | [_,_],_=>rfl
 | [_,_,_],_=>rfl
 | _::_::_::_::_,h=>simp at h;omega
theorem prs_two {lf:Bool} {l:List UInt8} (h:2≤l.length):bn (l.take 2)<65536∧ND.prs lf l=if lf then goOn true (bn (l.take 2)) (l.drop 2) ⟨true,[],[],[]⟩ else (match ND.kidT (l.drop 2) with
 | none=>none
 | some (c,r')=>goOn false (bn (l.take 2)) r' ⟨false,[],[],[c]⟩):=by
 match l,h with
 | x::y::r,_ =>
   have e:bn [x,y]=x.toNat*256+y.toNat:=by unfold bn;simp [List.foldl]
   have hx:=byte_lt x
   have hy:=byte_lt y
   refine ⟨by show bn [x,y]<_;rw [e];omega,?_⟩
   show _=if lf then goOn true (bn [x,y]) r _ else match ND.kidT r with
    | none=>none
    | some (c,r')=>goOn false (bn [x,y]) r' ⟨false,[],[],[c]⟩
   rw [e]
   cases lf with
   | true =>
     rw [ND.prs_leaf,if_pos rfl]
     unfold goOn
     rw [if_pos rfl]
     simp
   | false =>
     rw [ND.prs_inner,if_neg (by decide)]
     cases ND.kidT r with
     | none=>rfl
     | some q =>
       obtain ⟨c,r'⟩:=q
       dsimp only
       unfold goOn
       rw [if_neg (by decide)]
       simp
theorem prs_short {lf:Bool} {l:List UInt8} (h:l.length<2):ND.prs lf l=none:=by
 match l,h with
 | [],_=>rfl
 | [_],_=>rfl
 | _::_::_,h=>simp at h;omega
end Go.Proofs.YtccphijgcapeoaaGreat
/-
  What node's read comes to.
-/
namespace Go.Proofs.YtccphijgcapeoaaGreat
open Go.RowKit
theorem strInfo:(Tryz.prog.info? 9).map (fun i=>(i.zero,i.size,i.bytes))=some (some (.string ⟨#[]⟩),1,16):=by kernel_rfl
def NReadEnd (w:World) (lf:Bool) (l:List UInt8) (e:Ending) (w':World):Prop :=
 ∃ v s,e = .returned (.tuple #[v,.bool (ND.prs lf l).isSome])∧NdV w' w.heap.size v s∧Below w.heap.size w w'∧(∀ t,ND.prs lf l=some t→s=t)∧s.keys.length≤70000∧s.vals.length≤70000∧s.kids.length≤70000
structure RP (w0:World) (w:World) (gb gr gm gt gn gx:Nat) (lf:Bool) (l:List UInt8) (N k:Nat):Prop where
 is:∃ mis r s kv vv cv,RS w gb gr gm gt gn gx gb mis r s kv vv cv∧Below gb w0 w∧s.leaf=lf∧s.keys.length≤k∧s.vals.length≤k∧s.kids.length≤k+1∧r.length≤l.length ∧
  ((mis=false∧ND.prs lf l=goOn lf (N - k) r s)∨(mis=true∧ND.prs lf l=none))
theorem six_blocks (w:World) (o1 o2 o3 o4 o5 o6:Obj) :
 ((((((w.alloc o1).alloc o2).alloc o3).alloc o4).alloc o5).alloc o6).heap[w.heap.size]?=some o1∧((((((w.alloc o1).alloc o2).alloc o3).alloc o4).alloc o5).alloc o6).heap[w.heap.size+1]?=some o2 ∧
 ((((((w.alloc o1).alloc o2).alloc o3).alloc o4).alloc o5).alloc o6).heap[w.heap.size+1+1]?=some o3∧((((((w.alloc o1).alloc o2).alloc o3).alloc o4).alloc o5).alloc o6).heap[w.heap.size+1+1+1]?=some o4 ∧
 ((((((w.alloc o1).alloc o2).alloc o3).alloc o4).alloc o5).alloc o6).heap[w.heap.size+1+1+1+1]?=some o5∧((((((w.alloc o1).alloc o2).alloc o3).alloc o4).alloc o5).alloc o6).heap[w.heap.size+1+1+1+1+1]?=some o6:=by
 have e:((((((w.alloc o1).alloc o2).alloc o3).alloc o4).alloc o5).alloc o6).heap=(((((w.heap.push o1).push o2).push o3).push o4).push o5).push o6:=rfl
 rw [e]
 generalize w.heap=H
 simp only [Array.getElem?_push,Array.size_push]
 refine ⟨?_,?_,?_,?_,?_,?_⟩<;>(repeat (first | rw [if_pos trivial] | rw [if_pos (by omega)] | rw [if_neg (by omega)]))
theorem rs_start {w:World} {lf:Bool} {A:Option Addr} {n c:Nat} {l:List UInt8} (hl:l.length=n) (hb:Bys w w.heap.size A l) (hc:n≤c) (hm:c≤maxLen) :
 RS ((((((w.alloc (Obj.cells #[Value.slice A n c] 115)).alloc (Obj.cells #[Value.bool false,Value.slice none 0 0,Value.slice none 0 0,Value.slice none 0 0] 68)).alloc (Obj.cells #[Value.bool false] 4)).alloc
  (Obj.cells #[Value.func (Fn.func 155) #[] #[Value.pointer (some ⟨w.heap.size,0,none⟩),Value.pointer (some ⟨w.heap.size+1+1,0,none⟩)]] 116)).alloc
  (Obj.cells #[Value.func (Fn.func 156) #[] #[Value.pointer (some ⟨w.heap.size+1+1+1,0,none⟩)]] 225)).alloc
  (Obj.cells #[Value.bool lf,Value.slice none 0 0,Value.slice none 0 0,Value.slice none 0 0] 68))
  w.heap.size (w.heap.size+1) (w.heap.size+1+1) (w.heap.size+1+1+1) (w.heap.size+1+1+1+1) (w.heap.size+1+1+1+1+1) w.heap.size false l ⟨lf,[],[],[]⟩ (.slice none 0 0) (.slice none 0 0) (.slice none 0 0):=by
 subst hl
 obtain ⟨e1,e2,e3,e4,e5,e6⟩:=six_blocks w (Obj.cells #[Value.slice A l.length c] 115) (Obj.cells #[Value.bool false,Value.slice none 0 0,Value.slice none 0 0,Value.slice none 0 0] 68) (Obj.cells #[Value.bool false] 4)
  (Obj.cells #[Value.func (Fn.func 155) #[] #[Value.pointer (some ⟨w.heap.size,0,none⟩),Value.pointer (some ⟨w.heap.size+1+1,0,none⟩)]] 116)
  (Obj.cells #[Value.func (Fn.func 156) #[] #[Value.pointer (some ⟨w.heap.size+1+1+1,0,none⟩)]] 225)
  (Obj.cells #[Value.bool lf,Value.slice none 0 0,Value.slice none 0 0,Value.slice none 0 0] 68)
 exact ⟨by omega,⟨A,c,e1,e3,hc,hm,(((((hb.alloc _).alloc _).alloc _).alloc _).alloc _).alloc _,by omega,by omega⟩,e4,e5,e2,e6,World.ownsRow_nil _ _ _ _,World.ownsRow_nil _ _ _ _,World.ownsRow_nil _ _ _ _,fun g e=>by cases e⟩
theorem below_step {w wr w2 w5:World} {gb gr gm gt gn gx R:Nat} {mis:Bool} {r:List UInt8} (od:gb<gr∧gr<gm∧gm<gt∧gt<gn∧gn<gx) (b:Below gb w wr) (q:RB wr gb gm R mis r) (k1:Kept (RF gb gm) wr.drew w2) (k2:Kept (fun j=>gx≤j) w2 w5):Below gb w w5:=by
 have hlt:=q.lt.1
 have b1:Below gb wr.drew w2:=k1.toBelow (fun j e=>by rcases e with e | e<;>omega) (Nat.le_of_lt hlt)
 have hs:wr.heap.size≤w2.heap.size:=k1.size
 have b2:Below gb w2 w5:=k2.toBelow (fun j e=>by omega) (by omega)
 exact (b.drew.trans b1).trans b2
theorem kid_ways {l l':List UInt8} {z:Nat} {mis mis':Bool} (h:(mis'=mis∧4≤l.length∧z=bn (l.take 4)∧l'=l.drop 4)∨(mis'=true∧l.length<4∧z=0∧l'=l)) :
 l'.length≤l.length∧((mis'=mis∧ND.kidT l=some ((z:Int),l'))∨(mis'=true∧ND.kidT l=none)):=by
 rcases h with ⟨rfl,h1,rfl,rfl⟩ | ⟨rfl,h1,rfl,rfl⟩
 ·exact ⟨by rw [List.length_drop];omega,Or.inl ⟨rfl,kid_bn h1⟩⟩
 ·exact ⟨Nat.le_refl _,Or.inr ⟨rfl,kid_short h1⟩⟩
theorem first_kid {l r1 r2:List UInt8} {z:Nat} {c:Int} {mis1 mis2:Bool} (h:(mis1=false∧z<65536∧ND.prs false l=if false then goOn true z r1 ⟨true,[],[],[]⟩ else (match ND.kidT r1 with
 | none=>none
 | some (c,r')=>goOn false z r' ⟨false,[],[],[c]⟩))∨(mis1=true∧z=0∧ND.prs false l=none)) (g:(mis2=mis1∧ND.kidT r1=some (c,r2))∨(mis2=true∧ND.kidT r1=none)) :
 (mis2=false∧ND.prs false l=goOn false (z - 0) r2 ⟨false,[],[],[]++[c]⟩)∨(mis2=true∧ND.prs false l=none):=by
 rcases h with ⟨rfl,_,h⟩ | ⟨rfl,_,h⟩
 ·rw [if_neg (by decide)] at h
  rcases g with ⟨rfl,g⟩ | ⟨rfl,g⟩
  ·rw [g] at h
   exact Or.inl ⟨rfl,h⟩
  ·rw [g] at h
   exact Or.inr ⟨rfl,h⟩
 ·rcases g with ⟨rfl,_⟩ | ⟨rfl,_⟩
  ·exact Or.inr ⟨rfl,h⟩
  ·exact Or.inr ⟨rfl,h⟩
theorem read_laid {w wX W4:World} {gb gr gm gt gn gx nk nv nc ck cw cc:Nat} {Ak Av Ac:Option Addr} {mis res lf:Bool} {r l:List UInt8} {s:ND} (M:RS wX gb gr gm gt gn gx gb mis r s (.slice Ak nk ck) (.slice Av nv cw) (.slice Ac nc cc))
 (hb:NBut gr wX W4) (hx:NBox W4 gr (.bool s.leaf) (.slice Ak nk ck) (.slice Av nv cw) (.slice Ac nc cc)) (B:Below gb w W4)
 (hg:w.heap.size=gb) (hp:∀ t,ND.prs lf l=some t→s=t) (hr:(ND.prs lf l).isSome=res) (h1:s.keys.length≤70000) (h2:s.vals.length≤70000) (h3:s.kids.length≤70000) :
 (W4.drew.cell? ⟨gr,0,none⟩=some (.bool s.leaf)∧W4.drew.cell? ⟨gr,1,none⟩=some (.slice Ak nk ck)∧W4.drew.cell? ⟨gr,2,none⟩=some (.slice Av nv cw)∧W4.drew.cell? ⟨gr,3,none⟩=some (.slice Ac nc cc)) ∧
 NReadEnd w lf l (.returned (.tuple #[.agg #[.bool s.leaf,.slice Ak nk ck,.slice Av nv cw,.slice Ac nc cc],.bool res])) W4.drew:=by
 obtain ⟨o1,o2,o3,o4,o5⟩:=M.od
 have el:∀ {A:Option Addr} {n c N:Nat} {e:TypeId} {xs:List Value},wX.ownsRow (gx+1) e 1 (.slice A n c) N xs→n=N∧NHi (gx+1) A∧Ln wX 1 A n c xs:=by
  intro A n c N e xs h
  obtain ⟨A',c',e',_,hL⟩:=Ln.of_own h
  injection e' with e1 e2 e3
  subst e1
  subst e2
  subst e3
  exact ⟨rfl,NHi.of_own h,hL⟩
 obtain ⟨_,a2,a3⟩:=el M.ke
 obtain ⟨_,b2,b3⟩:=el M.va
 obtain ⟨_,c2,c3⟩:=el M.ki
 have d1:=(a3.nbut hb (a2.low (by omega))).same (w':=W4.drew) rfl
 have d2:=(b3.nbut hb (b2.low (by omega))).same (w':=W4.drew) rfl
 have d3:=(c3.nbut hb (c2.low (by omega))).same (w':=W4.drew) rfl
 have hx':NBox W4.drew gr (.bool s.leaf) (.slice Ak nk ck) (.slice Av nv cw) (.slice Ac nc cc):=hx.block rfl
 subst hr
 subst hg
 have hv:NdV W4.drew w.heap.size (.agg #[.bool s.leaf,.slice Ak nk ck,.slice Av nv cw,.slice Ac nc cc]) s :=
  ⟨Ak,nk,ck,Av,nv,cw,Ac,nc,cc,rfl,⟨d1,d2,d3⟩,a2.low (by omega),b2.low (by omega),c2.low (by omega)⟩
 exact ⟨hx'.cells,_,s,rfl,hv,B.drew,hp,h1,h2,h3⟩
theorem read_done {w wX:World} {gb gr gm gt gn gx nk nv nc ck cw cc:Nat} {Ak Av Ac:Option Addr} {mis res lf:Bool} {r l:List UInt8} {s:ND} (M:RS wX gb gr gm gt gn gx gb mis r s (.slice Ak nk ck) (.slice Av nv cw) (.slice Ac nc cc))
 (hg:w.heap.size=gb) (B:Below gb w wX) (hp:∀ t,ND.prs lf l=some t→s=t) (hr:(ND.prs lf l).isSome=res) (h1:s.keys.length≤70000) (h2:s.vals.length≤70000) (h3:s.kids.length≤70000) :
 (((((wX.setCell ⟨gr,0,none⟩ (.bool s.leaf)).setCell ⟨gr,1,none⟩ (.slice Ak nk ck)).setCell ⟨gr,2,none⟩ (.slice Av nv cw)).setCell ⟨gr,3,none⟩ (.slice Ac nc cc)).drew.cell? ⟨gr,0,none⟩=some (.bool s.leaf) ∧
 ((((wX.setCell ⟨gr,0,none⟩ (.bool s.leaf)).setCell ⟨gr,1,none⟩ (.slice Ak nk ck)).setCell ⟨gr,2,none⟩ (.slice Av nv cw)).setCell ⟨gr,3,none⟩ (.slice Ac nc cc)).drew.cell? ⟨gr,1,none⟩=some (.slice Ak nk ck) ∧
 ((((wX.setCell ⟨gr,0,none⟩ (.bool s.leaf)).setCell ⟨gr,1,none⟩ (.slice Ak nk ck)).setCell ⟨gr,2,none⟩ (.slice Av nv cw)).setCell ⟨gr,3,none⟩ (.slice Ac nc cc)).drew.cell? ⟨gr,2,none⟩=some (.slice Av nv cw) ∧
 ((((wX.setCell ⟨gr,0,none⟩ (.bool s.leaf)).setCell ⟨gr,1,none⟩ (.slice Ak nk ck)).setCell ⟨gr,2,none⟩ (.slice Av nv cw)).setCell ⟨gr,3,none⟩ (.slice Ac nc cc)).drew.cell? ⟨gr,3,none⟩=some (.slice Ac nc cc)) ∧
 NReadEnd w lf l (.returned (.tuple #[.agg #[.bool s.leaf,.slice Ak nk ck,.slice Av nv cw,.slice Ac nc cc],.bool res])) ((((wX.setCell ⟨gr,0,none⟩ (.bool s.leaf)).setCell ⟨gr,1,none⟩ (.slice Ak nk ck)).setCell ⟨gr,2,none⟩ (.slice Av nv cw)).setCell ⟨gr,3,none⟩ (.slice Ac nc cc)).drew :=
 read_laid M (NBut.put wX gr (.bool s.leaf) (.slice Ak nk ck) (.slice Av nv cw) (.slice Ac nc cc)) (M.res.put (.bool s.leaf) (.slice Ak nk ck) (.slice Av nv cw) (.slice Ac nc cc)) (below_nput B (by have:=M.od;omega) (.bool s.leaf) (.slice Ak nk ck) (.slice Av nv cw) (.slice Ac nc cc)) hg hp hr h1 h2 h3
theorem nread_any (lf:Bool) (A:Option Addr) (n c:Nat) (l:List UInt8) (w:World) (hl:l.length=n) (hb:Bys w w.heap.size A l) (hc:n≤c) (hm:c≤maxLen) :
 Calls Tryz.prog 121 #[.bool lf,.slice A n c] w (NReadEnd w lf l):=by
 have hmf:∀ (fn:Fn) (first cap:Array Value) (w:World),(Instr.makeFunc fn first cap).run Tryz.prog w = .ok (.func fn first cap) w:=fun _ _ _ _=>rfl
 obtain ⟨i0,hi,hz0,hz1,hz2⟩:=info_parts strInfo
 obtain ⟨i1,hi1,hy0,hy1,hy2⟩:=info_parts intInfo
 have M0:=Lib.hid (rs_start (lf:=lf) hl hb hc hm)
 clear hl hb hc hm
 go_enter Tryz.func121,Tryz.ntmps121
 go_wp2_with fail
 go_step3
 go_wp2_with fail
 have B0:Hid (Below w.heap.size w ((((((w.alloc (Obj.cells #[Value.slice A n c] 115)).alloc (Obj.cells #[Value.bool false,Value.slice none 0 0,Value.slice none 0 0,Value.slice none 0 0] 68)).alloc (Obj.cells #[Value.bool false] 4)).alloc
  (Obj.cells #[Value.func (Fn.func 155) #[] #[Value.pointer (some ⟨w.heap.size,0,none⟩),Value.pointer (some ⟨w.heap.size+1+1,0,none⟩)]] 116)).alloc
  (Obj.cells #[Value.func (Fn.func 156) #[] #[Value.pointer (some ⟨w.heap.size+1+1+1,0,none⟩)]] 225)).alloc
  (Obj.cells #[Value.bool lf,Value.slice none 0 0,Value.slice none 0 0,Value.slice none 0 0] 68))) :=
  Lib.hid (((((((Below.refl _ _).alloc (Nat.le_refl _) _).alloc (by simp) _).alloc (by simp;omega) _).alloc (by simp;omega) _).alloc (by simp;omega) _).alloc (by simp;omega) _)
 generalize ((((((w.alloc (Obj.cells #[Value.slice A n c] 115)).alloc (Obj.cells #[Value.bool false,Value.slice none 0 0,Value.slice none 0 0,Value.slice none 0 0] 68)).alloc (Obj.cells #[Value.bool false] 4)).alloc
  (Obj.cells #[Value.func (Fn.func 155) #[] #[Value.pointer (some ⟨w.heap.size,0,none⟩),Value.pointer (some ⟨w.heap.size+1+1,0,none⟩)]] 116)).alloc
  (Obj.cells #[Value.func (Fn.func 156) #[] #[Value.pointer (some ⟨w.heap.size+1+1+1,0,none⟩)]] 225)).alloc
  (Obj.cells #[Value.bool lf,Value.slice none 0 0,Value.slice none 0 0,Value.slice none 0 0] 68))=w0 at *
 generalize w.heap.size+1+1+1+1+1=gx at *
 generalize w.heap.size+1+1+1+1=gn at *
 generalize w.heap.size+1+1+1=gt at *
 generalize w.heap.size+1+1=gm at *
 generalize w.heap.size+1=gr at *
 generalize hgb:w.heap.size=gb at *
 have HGB:=Lib.hid hgb
 clear hgb
 refine (number_two (w:=w0) M0.out.rb M0.out.tk).mono ?_
 rintro e w1 ⟨z,mis1,r1,rfl,hz,q1,k1,hw1⟩
 have RL:Hid (r1.length≤l.length):=Lib.hid (by rcases hw1 with ⟨_,_,_,rfl⟩ | ⟨_,_,_,rfl⟩;(rw [List.length_drop];omega);omega)
 have HP2:Hid ((mis1=false∧z<65536∧ND.prs lf l=if lf then goOn true z r1 ⟨true,[],[],[]⟩ else (match ND.kidT r1 with
  | none=>none
  | some (c,r')=>goOn false z r' ⟨false,[],[],[c]⟩))∨(mis1=true∧z=0∧ND.prs lf l=none)):=Lib.hid (by
    rcases hw1 with ⟨rfl,h2,rfl,rfl⟩ | ⟨rfl,h2,rfl,rfl⟩
    ·exact Or.inl ⟨rfl,(prs_two (lf:=lf) h2).1,(prs_two h2).2⟩
    ·exact Or.inr ⟨rfl,rfl,prs_short h2⟩)
 have hzz:z<65536:=by rcases HP2.out with h | h;exact h.2.1;(have:=h.2.1;omega)
 have M1:=Lib.hid (M0.out.call k1 q1)
 have B1:Hid (Below gb w w1):=Lib.hid (B0.out.trans (k1.toBelow (fun j e=>by have:=M0.out.od;rcases e with e | e<;>omega) (by have:=M0.out.rb.lt.1;omega)))
 clear q1 k1 hw1 hz M0 B0
 cases lf with
 | true =>
   have H0:Hid (RP w w1 gb gr gm gt gn gx true l z 0):=Lib.hid ⟨mis1,r1,_,_,_,_,M1.out,B1.out,rfl,Nat.le_refl _,Nat.le_refl _,Nat.zero_le _,RL.out,by
    rcases HP2.out with ⟨h1,_,h3⟩ | ⟨h1,_,h3⟩
    ·exact Or.inl ⟨h1,h3⟩
    ·exact Or.inr ⟨h1,h3⟩⟩
   clear M1 B1 RL HP2
   go_wp2_with fail
   go_step3
   go_wp2_with fail
   go_loopg [29] z (fun g v wr=>∃ k:Nat,g=z - k∧k≤z∧v = .int .i64 k∧Hid (RP w wr gb gr gm gt gn gx true l z k))
   case atStart=>exact ⟨0,rfl,Nat.zero_le _,rfl,H0⟩
   case round =>
    obtain ⟨k,rfl,hk,rfl,HP⟩:=hrel
    obtain ⟨mis,r,s,kv,vv,cv,m,hB,hl,lk,lv,lc,lr,hG⟩:=HP.out.is
    have M:=Lib.hid m
    have BW:=Lib.hid hB
    have HL:=Lib.hid hl
    have HG:=Lib.hid hG
    clear hB hl hG
    by_cases hlt:k<z
    ·have MD:Hid (RS wr.drew gb gr gm gt gn gx gb mis r s kv vv cv):=Lib.hid (m.same rfl)
     clear m
     go_upto_region 11 with fail
     go_cut [] (fun wx=>Hid (∃ mis1 r1 t kv1 s1,s1=ND.mk s.leaf (s.keys++[t]) s.vals s.kids∧RS wx gb gr gm gt gn gx gb mis1 r1 s1 kv1 vv cv∧Below gb w wx∧r1.length≤r.length∧((mis1=mis∧ND.cutT r=some (t,r1))∨(mis1=true∧ND.cutT r=none))))
     case first =>
      obtain ⟨p0,p1,p2,p3⟩:=M.out.box.cells
      obtain ⟨f0,f1,f2,f3⟩:=M.out.box.free
      go_region_law
       (first
         | (go_simp;go_at_call 157;refine (ntext_any (w:=wr.drew) MD.out.rb MD.out.tk MD.out.nb).mono ?_;rintro e w2 ⟨t,mis1,r1,rfl,q1,k1,hr1,hw1⟩;have M2:=Lib.hid (MD.out.call k1 q1);have KK:=Lib.hid k1;have HW:=Lib.hid hw1;have x1:=M2.out.box.cells.2.1;have x2:=M2.out.box.free.2.1;have x3:=M2.out.box.lt;clear q1 k1 hw1)
         | (refine step_append_lies _ rfl (.tmp 32) (.tmp 35) 58 rfl (gx+1) 9 i0 _ 1 16 Tryz.underlying58 hi hz0 hz1 hz2 rfl (by decide) kv s.keys.length (strVals s.keys) (by rfl) (M2.out.ke.alloc _) ⟨w2.heap.size,0,none⟩ 1 1 [.string t] (by rfl) rfl (cell_one_new _ _ _) (by simp [Value.oneCell']) (by omega) (by unfold maxLen;omega) (by omega) (by simp;omega) _ rfl ?_;intro g4 cap4 w4 o4 gr4 at4 lt4;obtain ⟨s0,s1,S2,S3⟩:=pushK M2.out o4 gr4 at4))
      all_goals (
       go_wp2_with fail
       go_meet
       exact Lib.hid ⟨mis1,r1,t.toList,_,_,rfl,S2.out,below_step M.out.od BW.out M.out.rb KK.out S3.out,hr1,HW.out⟩)
     case rest =>
      clear MD
      obtain ⟨mis1,r1,t,kv1,s1,hs1,m1,b1,hr1,hw1⟩:=hcut.out
      have jk:s1.keys.length≤k+1:=by rw [hs1];simp;exact lk
      have jv:s1.vals.length≤k:=by rw [hs1];exact lv
      have jc:s1.kids.length≤k+1:=by rw [hs1];exact lc
      have HS1:=Lib.hid hs1
      have M1:=Lib.hid m1
      have BW1:=Lib.hid b1
      have HW:=Lib.hid hw1
      have MC:=(show ∃ A c,wc.heap[gm]?=some (.cells #[.bool mis1] 4 (0,0)) from by obtain ⟨A,c,_,h2,_⟩:=m1.rb;exact ⟨A,c,h2⟩)
      obtain ⟨_,_,mc⟩:=MC
      obtain ⟨mc0,mc1⟩:=one_cell mc
      clear hs1 b1 hw1 mc mc1 hcut
      cases mis1 with
      | true =>
        clear m1
        have HN:Hid (ND.prs true l=none):=Lib.hid (by
         rcases HG.out with ⟨h1,h2⟩ | ⟨_,h2⟩
         ·rcases HW.out with ⟨h3,_⟩ | ⟨_,h4⟩
          ·rw [h1] at h3;cases h3
          ·rw [h2,show z - k=(z - k - 1)+1 by omega];exact goOn_none h4
         ·exact h2)
        go_wp2_with fail
        obtain ⟨Ak,ck,rfl,_,_⟩:=Ln.of_own M1.out.ke
        obtain ⟨Av,cw,rfl,_,_⟩:=Ln.of_own M1.out.va
        obtain ⟨Ac,cc,rfl,_,_⟩:=Ln.of_own M1.out.ki
        obtain ⟨p0,p1,p2,p3⟩:=M1.out.box.cells
        obtain ⟨q0,q1,q2,q3⟩:=M1.out.res.cells
        obtain ⟨f0,f1,f2,f3⟩:=M1.out.res.free
        obtain ⟨o1,o2,o3,o4,o5⟩:=M1.out.od
        have n1:gr≠gx:=by omega
        have n2:gr≠gm:=by omega
        have n3:gr≠gb:=by omega
        have n4:gx≠gr:=by omega
        have n5:gm≠gr:=by omega
        have n6:gb≠gr:=by omega
        have HPP:=Lib.hid (show ∀ t,ND.prs true l=some t→s1=t from fun t e=>by rw [HN.out] at e;cases e)
        have HRR:=Lib.hid (show (ND.prs true l).isSome=false from by rw [HN.out];rfl)
        go_region
        go_wp2_with fail
        obtain ⟨⟨e0,e1,e2,e3⟩,HE⟩:=read_done M1.out HGB.out BW1.out HPP.out HRR.out (by omega) (by omega) (by omega)
        rw [Exit.noGoto_ret]
        refine bodyPost_ret (v := .tuple #[.agg #[.bool s1.leaf,.slice Ak s1.keys.length ck,.slice Av s1.vals.length cw,.slice Ac s1.kids.length cc],.bool false]) (by simp [results,Tryz.results121,go_sem,e0,e1,e2,e3]) rfl HE
      | false =>
        have HC:Hid (mis=false∧ND.cutT r=some (t,r1)):=Lib.hid (by rcases HW.out with ⟨h1,h2⟩ | ⟨h1,_⟩;exact ⟨h1.symm,h2⟩;cases h1)
        have HG1:Hid (ND.prs true l=goOn true (z - (k+1)+1) r s):=Lib.hid (by
         rw [show z - (k+1)+1=z - k by omega]
         rcases HG.out with ⟨_,h2⟩ | ⟨h1,_⟩
         ·exact h2
         ·rw [HC.out.1] at h1;cases h1)
        have MD:Hid (RS wc.drew gb gr gm gt gn gx gb false r1 s1 kv1 vv cv):=Lib.hid (m1.same rfl)
        clear m1 HP HG HW
        go_wp2_with fail
        ·obtain ⟨p0,p1,p2,p3⟩:=M1.out.box.cells
         obtain ⟨f0,f1,f2,f3⟩:=M1.out.box.free
         go_region_law
          (first
            | (go_simp;go_at_call 157;refine (ntext_any (w:=wc.drew) MD.out.rb MD.out.tk MD.out.nb).mono ?_;rintro e w2 ⟨t2,mis2,r2,rfl,q1,k1,hr2,hw2⟩;have M2:=Lib.hid (MD.out.call k1 q1);have KK:=Lib.hid k1;have HW:=Lib.hid hw2;have x1:=M2.out.box.cells.2.2.1;have x2:=M2.out.box.free.2.2.1;have x3:=M2.out.box.lt;clear q1 k1 hw2)
            | (refine step_append_lies _ rfl (.tmp 50) (.tmp 53) 58 rfl (gx+1) 9 i0 _ 1 16 Tryz.underlying58 hi hz0 hz1 hz2 rfl (by decide) vv s1.vals.length (strVals s1.vals) (by rfl) (M2.out.va.alloc _) ⟨w2.heap.size,0,none⟩ 1 1 [.string t2] (by rfl) rfl (cell_one_new _ _ _) (by simp [Value.oneCell']) (by omega) (by unfold maxLen;omega) (by omega) (by simp;omega) _ rfl ?_;intro g4 cap4 w4 o4 gr4 at4 lt4;obtain ⟨z0,z1,S2,S3⟩:=pushV M2.out o4 gr4 at4))
         all_goals (
          go_wp2_with fail
          go_roundg (z - (k+1))
          case measure=>omega
          case rel =>
           refine ⟨k+1,rfl,by omega,by go_num,Lib.hid ⟨mis2,r2,_,kv1,_,cv,S2.out,below_step M1.out.od BW1.out M1.out.rb KK.out S3.out,by show s1.leaf=true;rw [HS1.out];exact HL.out,jk,by simp;exact jv,by show s1.kids.length≤_;omega,by omega,?_⟩⟩
           rcases HW.out with ⟨h1,h2⟩ | ⟨h1,h2⟩
           ·refine Or.inl ⟨h1,?_⟩
            rw [HG1.out,goOn_val HC.out.2 h2,HS1.out]
           ·refine Or.inr ⟨h1,?_⟩
            rw [HG1.out]
            exact goOn_noval HC.out.2 h2)
    ·obtain rfl:z=k:=by omega
     obtain ⟨Ab,cb,hb0,hm0,_⟩:=m.rb
     obtain ⟨bb0,_⟩:=one_cell hb0
     obtain ⟨mm0,_⟩:=one_cell hm0
     clear m hb0 hm0
     cases mis with
     | true =>
       have HN:Hid (ND.prs true l=none):=Lib.hid (by rcases HG.out with ⟨h1,_⟩ | ⟨_,h2⟩;cases h1;exact h2)
       go_wp2_with fail
       obtain ⟨Ak,ck,rfl,_,_⟩:=Ln.of_own M.out.ke
       obtain ⟨Av,cw,rfl,_,_⟩:=Ln.of_own M.out.va
       obtain ⟨Ac,cc,rfl,_,_⟩:=Ln.of_own M.out.ki
       obtain ⟨p0,p1,p2,p3⟩:=M.out.box.cells
       obtain ⟨q0,q1,q2,q3⟩:=M.out.res.cells
       obtain ⟨f0,f1,f2,f3⟩:=M.out.res.free
       obtain ⟨o1,o2,o3,o4,o5⟩:=M.out.od
       have n1:gr≠gx:=by omega
       have n2:gr≠gm:=by omega
       have n3:gr≠gb:=by omega
       have n4:gx≠gr:=by omega
       have n5:gm≠gr:=by omega
       have n6:gb≠gr:=by omega
       have HPP:=Lib.hid (show ∀ t,ND.prs true l=some t→s=t from fun t e=>by rw [HN.out] at e;cases e)
       have HRR:=Lib.hid (show (ND.prs true l).isSome=false from by rw [HN.out];rfl)
       go_region
       go_wp2_with fail
       obtain ⟨⟨e0,e1,e2,e3⟩,HE⟩:=read_done M.out HGB.out BW.out HPP.out HRR.out (by omega) (by omega) (by omega)
       rw [Exit.noGoto_ret]
       refine bodyPost_ret (v := .tuple #[.agg #[.bool s.leaf,.slice Ak s.keys.length ck,.slice Av s.vals.length cw,.slice Ac s.kids.length cc],.bool false]) (by simp [results,Tryz.results121,go_sem,e0,e1,e2,e3]) rfl HE
     | false =>
       have HN:Hid (ND.prs true l=if r.length=0 then some s else none):=Lib.hid (by rcases HG.out with ⟨_,h2⟩ | ⟨h1,_⟩;(rw [h2,Nat.sub_self];exact goOn_end HL.out);cases h1)
       by_cases hr0:r.length=0
       ·have HT:Hid (ND.prs true l=some s):=Lib.hid (HN.out.trans (if_pos hr0))
        have hq:((r.length:Int)==0)=true:=by rw [hr0];rfl
        clear hr0
        go_wp2_with fail
        obtain ⟨Ak,ck,rfl,_,_⟩:=Ln.of_own M.out.ke
        obtain ⟨Av,cw,rfl,_,_⟩:=Ln.of_own M.out.va
        obtain ⟨Ac,cc,rfl,_,_⟩:=Ln.of_own M.out.ki
        obtain ⟨p0,p1,p2,p3⟩:=M.out.box.cells
        obtain ⟨q0,q1,q2,q3⟩:=M.out.res.cells
        obtain ⟨f0,f1,f2,f3⟩:=M.out.res.free
        obtain ⟨o1,o2,o3,o4,o5⟩:=M.out.od
        have n1:gr≠gx:=by omega
        have n2:gr≠gm:=by omega
        have n3:gr≠gb:=by omega
        have n4:gx≠gr:=by omega
        have n5:gm≠gr:=by omega
        have n6:gb≠gr:=by omega
        have HPP:=Lib.hid (show ∀ t,ND.prs true l=some t→s=t from fun t e=>by rw [HT.out] at e;exact Option.some.inj e)
        have HRR:=Lib.hid (show (ND.prs true l).isSome=true from by rw [HT.out];rfl)
        go_region
        go_wp2_with fail
        obtain ⟨⟨e0,e1,e2,e3⟩,HE⟩:=read_done M.out HGB.out BW.out HPP.out HRR.out (by omega) (by omega) (by omega)
        rw [Exit.noGoto_ret]
        refine bodyPost_ret (v := .tuple #[.agg #[.bool s.leaf,.slice Ak s.keys.length ck,.slice Av s.vals.length cw,.slice Ac s.kids.length cc],.bool true]) (by simp [results,Tryz.results121,go_sem,e0,e1,e2,e3]) rfl HE
       ·have HT:Hid (ND.prs true l=none):=Lib.hid (HN.out.trans (if_neg hr0))
        have hq:=int_nz hr0
        clear hr0
        go_wp2_with fail
        obtain ⟨Ak,ck,rfl,_,_⟩:=Ln.of_own M.out.ke
        obtain ⟨Av,cw,rfl,_,_⟩:=Ln.of_own M.out.va
        obtain ⟨Ac,cc,rfl,_,_⟩:=Ln.of_own M.out.ki
        obtain ⟨p0,p1,p2,p3⟩:=M.out.box.cells
        obtain ⟨q0,q1,q2,q3⟩:=M.out.res.cells
        obtain ⟨f0,f1,f2,f3⟩:=M.out.res.free
        obtain ⟨o1,o2,o3,o4,o5⟩:=M.out.od
        have n1:gr≠gx:=by omega
        have n2:gr≠gm:=by omega
        have n3:gr≠gb:=by omega
        have n4:gx≠gr:=by omega
        have n5:gm≠gr:=by omega
        have n6:gb≠gr:=by omega
        have HPP:=Lib.hid (show ∀ t,ND.prs true l=some t→s=t from fun t e=>by rw [HT.out] at e;cases e)
        have HRR:=Lib.hid (show (ND.prs true l).isSome=false from by rw [HT.out];rfl)
        go_region
        go_wp2_with fail
        obtain ⟨⟨e0,e1,e2,e3⟩,HE⟩:=read_done M.out HGB.out BW.out HPP.out HRR.out (by omega) (by omega) (by omega)
        rw [Exit.noGoto_ret]
        refine bodyPost_ret (v := .tuple #[.agg #[.bool s.leaf,.slice Ak s.keys.length ck,.slice Av s.vals.length cw,.slice Ac s.kids.length cc],.bool false]) (by simp [results,Tryz.results121,go_sem,e0,e1,e2,e3]) rfl HE
 | false =>
   have MD:Hid (RS w1.drew gb gr gm gt gn gx gb mis1 r1 ⟨false,[],[],[]⟩ (.slice none 0 0) (.slice none 0 0) (.slice none 0 0)):=Lib.hid (M1.out.same rfl)
   go_wp2_with fail
   go_cut [] (fun wx=>Hid (RP w wx gb gr gm gt gn gx false l z 0))
   case first =>
    obtain ⟨p0,p1,p2,p3⟩:=M1.out.box.cells
    obtain ⟨f0,f1,f2,f3⟩:=M1.out.box.free
    obtain ⟨nb0,_⟩:=one_cell M1.out.nb
    go_region_law
     (first
       | (go_simp;go_at_call 156;refine (number_four (w:=w1.drew) MD.out.rb MD.out.tk).mono ?_;rintro e w2 ⟨z2,mis2,r2,rfl,hz4,q1,k1,hw2⟩;have M2:=Lib.hid (MD.out.call k1 q1);have KK:=Lib.hid k1;have HW:=Lib.hid (kid_ways hw2);have x1:=M2.out.box.cells.2.2.2;have x2:=M2.out.box.free.2.2.2;have x3:=M2.out.box.lt;clear q1 k1 hw2 hz4)
       | (refine step_append_lies _ rfl (.tmp 22) (.tmp 25) 36 rfl (gx+1) 3 i1 _ 1 8 Tryz.underlying36 hi1 hy0 hy1 hy2 rfl (by decide) (.slice none 0 0) 0 (intVals []) (by rfl) (M2.out.ki.alloc _) ⟨w2.heap.size,0,none⟩ 1 1 [.int .i64 z2] (by rfl) rfl (cell_one_new _ _ _) (by simp [Value.oneCell']) (by omega) (by unfold maxLen;omega) (by omega) (by simp;omega) _ rfl ?_;intro g4 cap4 w4 o4 gr4 at4 lt4;obtain ⟨z0,z1,S2,S3⟩:=pushC M2.out o4 gr4))
    all_goals (
     go_wp2_with fail
     go_meet
     exact Lib.hid ⟨mis2,r2,_,_,_,_,S2.out,below_step M1.out.od B1.out M1.out.rb KK.out S3.out,rfl,Nat.zero_le _,Nat.zero_le _,Nat.le_refl _,Nat.le_trans HW.out.1 RL.out,first_kid HP2.out HW.out.2⟩)
   case rest =>
    have H0:=hcut
    clear MD M1 B1 RL HP2 hcut
    go_wp2_with fail
    go_step3
    go_wp2_with fail
    go_loopg [29] z (fun g v wr=>∃ k:Nat,g=z - k∧k≤z∧v = .int .i64 k∧Hid (RP w wr gb gr gm gt gn gx false l z k))
    case atStart=>exact ⟨0,rfl,Nat.zero_le _,rfl,H0⟩
    case round =>
     obtain ⟨k,rfl,hk,rfl,HP⟩:=hrel
     obtain ⟨mis,r,s,kv,vv,cv,m,hB,hl,lk,lv,lc,lr,hG⟩:=HP.out.is
     have M:=Lib.hid m
     have BW:=Lib.hid hB
     have HL:=Lib.hid hl
     have HG:=Lib.hid hG
     clear hB hl hG
     by_cases hlt:k<z
     ·have MD:Hid (RS wr.drew gb gr gm gt gn gx gb mis r s kv vv cv):=Lib.hid (m.same rfl)
      clear m
      go_upto_region 11 with fail
      go_cut [] (fun wx=>Hid (∃ mis1 r1 t kv1 s1,s1=ND.mk s.leaf (s.keys++[t]) s.vals s.kids∧RS wx gb gr gm gt gn gx gb mis1 r1 s1 kv1 vv cv∧Below gb w wx∧r1.length≤r.length∧((mis1=mis∧ND.cutT r=some (t,r1))∨(mis1=true∧ND.cutT r=none))))
      case first =>
       obtain ⟨p0,p1,p2,p3⟩:=M.out.box.cells
       obtain ⟨f0,f1,f2,f3⟩:=M.out.box.free
       go_region_law
        (first
          | (go_simp;go_at_call 157;refine (ntext_any (w:=wr.drew) MD.out.rb MD.out.tk MD.out.nb).mono ?_;rintro e w2 ⟨t,mis1,r1,rfl,q1,k1,hr1,hw1⟩;have M2:=Lib.hid (MD.out.call k1 q1);have KK:=Lib.hid k1;have HW:=Lib.hid hw1;have x1:=M2.out.box.cells.2.1;have x2:=M2.out.box.free.2.1;have x3:=M2.out.box.lt;clear q1 k1 hw1)
          | (refine step_append_lies _ rfl (.tmp 32) (.tmp 35) 58 rfl (gx+1) 9 i0 _ 1 16 Tryz.underlying58 hi hz0 hz1 hz2 rfl (by decide) kv s.keys.length (strVals s.keys) (by rfl) (M2.out.ke.alloc _) ⟨w2.heap.size,0,none⟩ 1 1 [.string t] (by rfl) rfl (cell_one_new _ _ _) (by simp [Value.oneCell']) (by omega) (by unfold maxLen;omega) (by omega) (by simp;omega) _ rfl ?_;intro g4 cap4 w4 o4 gr4 at4 lt4;obtain ⟨s0,s1,S2,S3⟩:=pushK M2.out o4 gr4 at4))
       all_goals (
        go_wp2_with fail
        go_meet
        exact Lib.hid ⟨mis1,r1,t.toList,_,_,rfl,S2.out,below_step M.out.od BW.out M.out.rb KK.out S3.out,hr1,HW.out⟩)
      case rest =>
       clear MD
       obtain ⟨mis1,r1,t,kv1,s1,hs1,m1,b1,hr1,hw1⟩:=hcut.out
       have jk:s1.keys.length≤k+1:=by rw [hs1];simp;exact lk
       have jv:s1.vals.length≤k:=by rw [hs1];exact lv
       have jc:s1.kids.length≤k+1:=by rw [hs1];exact lc
       have HS1:=Lib.hid hs1
       have M1:=Lib.hid m1
       have BW1:=Lib.hid b1
       have HW:=Lib.hid hw1
       have MC:=(show ∃ A c,wc.heap[gm]?=some (.cells #[.bool mis1] 4 (0,0)) from by obtain ⟨A,c,_,h2,_⟩:=m1.rb;exact ⟨A,c,h2⟩)
       obtain ⟨_,_,mc⟩:=MC
       obtain ⟨mc0,mc1⟩:=one_cell mc
       clear hs1 b1 hw1 mc mc1 hcut
       cases mis1 with
       | true =>
         clear m1
         have HN:Hid (ND.prs false l=none):=Lib.hid (by
          rcases HG.out with ⟨h1,h2⟩ | ⟨_,h2⟩
          ·rcases HW.out with ⟨h3,_⟩ | ⟨_,h4⟩
           ·rw [h1] at h3;cases h3
           ·rw [h2,show z - k=(z - k - 1)+1 by omega];exact goOn_none h4
          ·exact h2)
         go_wp2_with fail
         obtain ⟨Ak,ck,rfl,_,_⟩:=Ln.of_own M1.out.ke
         obtain ⟨Av,cw,rfl,_,_⟩:=Ln.of_own M1.out.va
         obtain ⟨Ac,cc,rfl,_,_⟩:=Ln.of_own M1.out.ki
         obtain ⟨p0,p1,p2,p3⟩:=M1.out.box.cells
         obtain ⟨q0,q1,q2,q3⟩:=M1.out.res.cells
         obtain ⟨f0,f1,f2,f3⟩:=M1.out.res.free
         obtain ⟨o1,o2,o3,o4,o5⟩:=M1.out.od
         have n1:gr≠gx:=by omega
         have n2:gr≠gm:=by omega
         have n3:gr≠gb:=by omega
         have n4:gx≠gr:=by omega
         have n5:gm≠gr:=by omega
         have n6:gb≠gr:=by omega
         have HPP:=Lib.hid (show ∀ t,ND.prs false l=some t→s1=t from fun t e=>by rw [HN.out] at e;cases e)
         have HRR:=Lib.hid (show (ND.prs false l).isSome=false from by rw [HN.out];rfl)
         go_region
         go_wp2_with fail
         obtain ⟨⟨e0,e1,e2,e3⟩,HE⟩:=read_done M1.out HGB.out BW1.out HPP.out HRR.out (by omega) (by omega) (by omega)
         rw [Exit.noGoto_ret]
         refine bodyPost_ret (v := .tuple #[.agg #[.bool s1.leaf,.slice Ak s1.keys.length ck,.slice Av s1.vals.length cw,.slice Ac s1.kids.length cc],.bool false]) (by simp [results,Tryz.results121,go_sem,e0,e1,e2,e3]) rfl HE
       | false =>
         have HC:Hid (mis=false∧ND.cutT r=some (t,r1)):=Lib.hid (by rcases HW.out with ⟨h1,h2⟩ | ⟨h1,_⟩;exact ⟨h1.symm,h2⟩;cases h1)
         have HG1:Hid (ND.prs false l=goOn false (z - (k+1)+1) r s):=Lib.hid (by
          rw [show z - (k+1)+1=z - k by omega]
          rcases HG.out with ⟨_,h2⟩ | ⟨h1,_⟩
          ·exact h2
          ·rw [HC.out.1] at h1;cases h1)
         have MD:Hid (RS wc.drew gb gr gm gt gn gx gb false r1 s1 kv1 vv cv):=Lib.hid (m1.same rfl)
         clear m1 HP HG HW
         go_wp2_with fail
         ·obtain ⟨p0,p1,p2,p3⟩:=M1.out.box.cells
          obtain ⟨f0,f1,f2,f3⟩:=M1.out.box.free
          obtain ⟨nb0,_⟩:=one_cell M1.out.nb
          go_region_law
           (first
             | (go_simp;go_at_call 156;refine (number_four (w:=wc.drew) MD.out.rb MD.out.tk).mono ?_;rintro e w2 ⟨z2,mis2,r2,rfl,hz4,q1,k1,hw2⟩;have M2:=Lib.hid (MD.out.call k1 q1);have KK:=Lib.hid k1;have HW:=Lib.hid (kid_ways hw2);have x1:=M2.out.box.cells.2.2.2;have x2:=M2.out.box.free.2.2.2;have x3:=M2.out.box.lt;clear q1 k1 hw2 hz4)
             | (refine step_append_lies _ rfl (.tmp 39) (.tmp 42) 36 rfl (gx+1) 3 i1 _ 1 8 Tryz.underlying36 hi1 hy0 hy1 hy2 rfl (by decide) cv s1.kids.length (intVals s1.kids) (by rfl) (M2.out.ki.alloc _) ⟨w2.heap.size,0,none⟩ 1 1 [.int .i64 z2] (by rfl) rfl (cell_one_new _ _ _) (by simp [Value.oneCell']) (by omega) (by unfold maxLen;omega) (by omega) (by simp;omega) _ rfl ?_;intro g4 cap4 w4 o4 gr4 at4 lt4;obtain ⟨z0,z1,S2,S3⟩:=pushC M2.out o4 gr4))
          all_goals (
           go_wp2_with fail
           go_roundg (z - (k+1))
           case measure=>omega
           case rel =>
            refine ⟨k+1,rfl,by omega,by go_num,Lib.hid ⟨mis2,r2,_,kv1,vv,_,S2.out,below_step M1.out.od BW1.out M1.out.rb KK.out S3.out,by show s1.leaf=false;rw [HS1.out];exact HL.out,jk,by show s1.vals.length≤_;omega,by simp;omega,by have:=HW.out.1;omega,?_⟩⟩
            rcases HW.out.2 with ⟨h1,h2⟩ | ⟨h1,h2⟩
            ·refine Or.inl ⟨h1,?_⟩
             rw [HG1.out,goOn_kid HC.out.2 h2,HS1.out]
            ·refine Or.inr ⟨h1,?_⟩
             rw [HG1.out]
             exact goOn_nokid HC.out.2 h2)
     ·obtain rfl:z=k:=by omega
      obtain ⟨Ab,cb,hb0,hm0,_⟩:=m.rb
      obtain ⟨bb0,_⟩:=one_cell hb0
      obtain ⟨mm0,_⟩:=one_cell hm0
      clear m hb0 hm0
      cases mis with
      | true =>
        have HN:Hid (ND.prs false l=none):=Lib.hid (by rcases HG.out with ⟨h1,_⟩ | ⟨_,h2⟩;cases h1;exact h2)
        go_wp2_with fail
        obtain ⟨Ak,ck,rfl,_,_⟩:=Ln.of_own M.out.ke
        obtain ⟨Av,cw,rfl,_,_⟩:=Ln.of_own M.out.va
        obtain ⟨Ac,cc,rfl,_,_⟩:=Ln.of_own M.out.ki
        obtain ⟨p0,p1,p2,p3⟩:=M.out.box.cells
        obtain ⟨q0,q1,q2,q3⟩:=M.out.res.cells
        obtain ⟨f0,f1,f2,f3⟩:=M.out.res.free
        obtain ⟨o1,o2,o3,o4,o5⟩:=M.out.od
        have n1:gr≠gx:=by omega
        have n2:gr≠gm:=by omega
        have n3:gr≠gb:=by omega
        have n4:gx≠gr:=by omega
        have n5:gm≠gr:=by omega
        have n6:gb≠gr:=by omega
        have HPP:=Lib.hid (show ∀ t,ND.prs false l=some t→s=t from fun t e=>by rw [HN.out] at e;cases e)
        have HRR:=Lib.hid (show (ND.prs false l).isSome=false from by rw [HN.out];rfl)
        go_region
        go_wp2_with fail
        obtain ⟨⟨e0,e1,e2,e3⟩,HE⟩:=read_done M.out HGB.out BW.out HPP.out HRR.out (by omega) (by omega) (by omega)
        rw [Exit.noGoto_ret]
        refine bodyPost_ret (v := .tuple #[.agg #[.bool s.leaf,.slice Ak s.keys.length ck,.slice Av s.vals.length cw,.slice Ac s.kids.length cc],.bool false]) (by simp [results,Tryz.results121,go_sem,e0,e1,e2,e3]) rfl HE
      | false =>
        have HN:Hid (ND.prs false l=if r.length=0 then some s else none):=Lib.hid (by rcases HG.out with ⟨_,h2⟩ | ⟨h1,_⟩;(rw [h2,Nat.sub_self];exact goOn_end HL.out);cases h1)
        by_cases hr0:r.length=0
        ·have HT:Hid (ND.prs false l=some s):=Lib.hid (HN.out.trans (if_pos hr0))
         have hq:((r.length:Int)==0)=true:=by rw [hr0];rfl
         clear hr0
         go_wp2_with fail
         obtain ⟨Ak,ck,rfl,_,_⟩:=Ln.of_own M.out.ke
         obtain ⟨Av,cw,rfl,_,_⟩:=Ln.of_own M.out.va
         obtain ⟨Ac,cc,rfl,_,_⟩:=Ln.of_own M.out.ki
         obtain ⟨p0,p1,p2,p3⟩:=M.out.box.cells
         obtain ⟨q0,q1,q2,q3⟩:=M.out.res.cells
         obtain ⟨f0,f1,f2,f3⟩:=M.out.res.free
         obtain ⟨o1,o2,o3,o4,o5⟩:=M.out.od
         have n1:gr≠gx:=by omega
         have n2:gr≠gm:=by omega
         have n3:gr≠gb:=by omega
         have n4:gx≠gr:=by omega
         have n5:gm≠gr:=by omega
         have n6:gb≠gr:=by omega
         have HPP:=Lib.hid (show ∀ t,ND.prs false l=some t→s=t from fun t e=>by rw [HT.out] at e;exact Option.some.inj e)
         have HRR:=Lib.hid (show (ND.prs false l).isSome=true from by rw [HT.out];rfl)
         go_region
         go_wp2_with fail
         obtain ⟨⟨e0,e1,e2,e3⟩,HE⟩:=read_done M.out HGB.out BW.out HPP.out HRR.out (by omega) (by omega) (by omega)
         rw [Exit.noGoto_ret]
         refine bodyPost_ret (v := .tuple #[.agg #[.bool s.leaf,.slice Ak s.keys.length ck,.slice Av s.vals.length cw,.slice Ac s.kids.length cc],.bool true]) (by simp [results,Tryz.results121,go_sem,e0,e1,e2,e3]) rfl HE
        ·have HT:Hid (ND.prs false l=none):=Lib.hid (HN.out.trans (if_neg hr0))
         have hq:=int_nz hr0
         clear hr0
         go_wp2_with fail
         obtain ⟨Ak,ck,rfl,_,_⟩:=Ln.of_own M.out.ke
         obtain ⟨Av,cw,rfl,_,_⟩:=Ln.of_own M.out.va
         obtain ⟨Ac,cc,rfl,_,_⟩:=Ln.of_own M.out.ki
         obtain ⟨p0,p1,p2,p3⟩:=M.out.box.cells
         obtain ⟨q0,q1,q2,q3⟩:=M.out.res.cells
         obtain ⟨f0,f1,f2,f3⟩:=M.out.res.free
         obtain ⟨o1,o2,o3,o4,o5⟩:=M.out.od
         have n1:gr≠gx:=by omega
         have n2:gr≠gm:=by omega
         have n3:gr≠gb:=by omega
         have n4:gx≠gr:=by omega
         have n5:gm≠gr:=by omega
         have n6:gb≠gr:=by omega
         have HPP:=Lib.hid (show ∀ t,ND.prs false l=some t→s=t from fun t e=>by rw [HT.out] at e;cases e)
         have HRR:=Lib.hid (show (ND.prs false l).isSome=false from by rw [HT.out];rfl)
         go_region
         go_wp2_with fail
         obtain ⟨⟨e0,e1,e2,e3⟩,HE⟩:=read_done M.out HGB.out BW.out HPP.out HRR.out (by omega) (by omega) (by omega)
         rw [Exit.noGoto_ret]
         refine bodyPost_ret (v := .tuple #[.agg #[.bool s.leaf,.slice Ak s.keys.length ck,.slice Av s.vals.length cw,.slice Ac s.kids.length cc],.bool false]) (by simp [results,Tryz.results121,go_sem,e0,e1,e2,e3]) rfl HE
end Go.Proofs.YtccphijgcapeoaaGreat
/-
  What node's Decode comes to.
-/
namespace Go.Proofs.YtccphijgcapeoaaGreat
open Go.RowKit
theorem nput_done {w w2:World} {err:Int} {v:Value} {s:ND} (hb:Below w.heap.size w w2) (hv:NdV w2 (w.heap.size+1) v s) (x y z p:Value) :
 NEnd w err s (.returned (.tuple #[v,.int .i64 err])) ((((w2.setCell ⟨w.heap.size,0,none⟩ x).setCell ⟨w.heap.size,1,none⟩ y).setCell ⟨w.heap.size,2,none⟩ z).setCell ⟨w.heap.size,3,none⟩ p) :=
 ⟨v,rfl,ndv_put hv (Nat.le_refl _) x y z p,below_nput hb (Nat.le_refl _) x y z p⟩
theorem ndec_zero {w w1:World} {k:Int} {b:List UInt8} (h:ND.dec k b=none) (hb:Below w.heap.size w w1):NEnd w (ND.decE k b) (ND.decS k b) (.returned (.tuple #[.agg #[.bool false,.slice none 0 0,.slice none 0 0,.slice none 0 0],.int .i64 100]))
 ((((w1.setCell ⟨w.heap.size,0,none⟩ (.bool false)).setCell ⟨w.heap.size,1,none⟩ (.slice none 0 0)).setCell ⟨w.heap.size,2,none⟩ (.slice none 0 0)).setCell ⟨w.heap.size,3,none⟩ (.slice none 0 0)):=by
 rw [(ND.dec_none h).1,(ND.dec_none h).2]
 exact nput_done hb (ndv_zero _ _) _ _ _ _
theorem bys_any {w:World} {R:Nat} {A:Option Addr} {l:List UInt8} (h:Bys w R A l):Bys w w.heap.size A l:=by
 rcases l with _ | ⟨x,l⟩
 ·exact Bys.nil _ _ _
 ·rcases h with h | ⟨b,off,rfl,hR,hc⟩
  ·cases h
  ·exact Or.inr ⟨b,off,rfl,World.block_lt_of_cell? _ _ (hc 0 x rfl),hc⟩
theorem dec_kind {k:Int} {b:List UInt8} (h2:k≠2) (h3:k≠3):ND.dec k b=none:=by
 unfold ND.dec ND.isKind
 rw [decide_eq_false h2,decide_eq_false h3]
 rfl
theorem dec_long {k:Int} {b:List UInt8} (h:¬ b.length≤1000):ND.dec k b=none:=by
 unfold ND.dec
 rw [decide_eq_false h,Bool.and_false]
 rfl
theorem dec_at {k:Int} {b:List UInt8} (hk:k=2∨k=3) (h:b.length≤1000):ND.dec k b=(ND.prs (decide (k=2)) b).bind (fun s=>if s.ok then some s else none):=by
 unfold ND.dec ND.isKind
 rw [decide_eq_true h]
 rcases hk with rfl | rfl<;>rfl
theorem ndecode_any {R:Nat} (k:Int) (A:Option Addr) (n c:Nat) (b:List UInt8) (w:World) (hl:b.length=n) (hr:Bys w R A b) (hnc:n≤c) (hm:c≤maxLen) :
 Calls Tryz.prog 86 #[.int .i64 k,.slice A n c] w (NEnd w (ND.decE k b) (ND.decS k b)):=by
 have b0:=below_one w (.cells #[.bool false,.slice none 0 0,.slice none 0 0,.slice none 0 0] 68)
 have B0:=Lib.hid b0
 have HR:=Lib.hid (nbox_new w (.bool false) (.slice none 0 0) (.slice none 0 0) (.slice none 0 0))
 have HY:=Lib.hid (bys_any (hr.kept b0))
 have HL:=Lib.hid hl
 have HM:=Lib.hid hm
 clear hr b0 hm
 by_cases hk:k=2∨k=3
 case neg =>
  have HZ:=Lib.hid (ndec_zero (b:=b) (dec_kind (k:=k) (by omega) (by omega)) B0.out)
  have h2:(k != 2)=true:=by rw [bne_iff_ne];omega
  have h3:(k != 3)=true:=by rw [bne_iff_ne];omega
  clear hk hl
  go_enter Tryz.func86,Tryz.ntmps86
  go_upto_region 1 with fail
  generalize w.alloc (.cells #[.bool false,.slice none 0 0,.slice none 0 0,.slice none 0 0] 68)=w0 at *
  obtain ⟨q0,q1,q2,q3⟩:=HR.out.cells
  obtain ⟨f0,f1,f2,f3⟩:=HR.out.free
  obtain ⟨e0,e1,e2,e3⟩:=(Lib.hid (HR.out.put (.bool false) (.slice none 0 0) (.slice none 0 0) (.slice none 0 0))).out.cells
  go_wp2_with fail
  refine bodyPost_ret (v := .tuple #[.agg #[.bool false,.slice none 0 0,.slice none 0 0,.slice none 0 0],.int .i64 100]) (by simp [results,Tryz.results86,go_sem,e0,e1,e2,e3]) rfl ?_
  exact HZ.out
 by_cases hn:n≤1000
 case neg =>
  have HZ:=Lib.hid (ndec_zero (dec_long (k:=k) (b:=b) (by omega)) B0.out)
  clear hl
  rcases hk with rfl | rfl
  all_goals
   go_enter Tryz.func86,Tryz.ntmps86
   go_upto_region 1 with fail
   generalize w.alloc (.cells #[.bool false,.slice none 0 0,.slice none 0 0,.slice none 0 0] 68)=w0 at *
   obtain ⟨q0,q1,q2,q3⟩:=HR.out.cells
   obtain ⟨f0,f1,f2,f3⟩:=HR.out.free
   obtain ⟨e0,e1,e2,e3⟩:=(Lib.hid (HR.out.put (.bool false) (.slice none 0 0) (.slice none 0 0) (.slice none 0 0))).out.cells
   go_wp2_with fail
   refine bodyPost_ret (v := .tuple #[.agg #[.bool false,.slice none 0 0,.slice none 0 0,.slice none 0 0],.int .i64 100]) (by simp [results,Tryz.results86,go_sem,e0,e1,e2,e3]) rfl ?_
   exact HZ.out
 rcases hk with rfl | rfl
 ·have HD:Hid (ND.dec 2 b=(ND.prs true b).bind (fun s=>if s.ok then some s else none)):=Lib.hid (dec_at (k:=2) (b:=b) (by omega) (by omega))
  have HC:=Lib.hid (fun W (hy:Bys W W.heap.size A b)=>nread_any true A n c b W HL.out hy hnc HM.out)
  clear hl
  go_enter Tryz.func86,Tryz.ntmps86
  go_upto_region 1 with fail
  generalize w.alloc (.cells #[.bool false,.slice none 0 0,.slice none 0 0,.slice none 0 0] 68)=w0 at *
  go_wp2_with fail
  refine (HC.out w0 HY.out).mono ?_
  rintro e w2 ⟨v2,s,rfl,hv,b2,hp,j1,j2,j3⟩
  obtain ⟨Ak,nk,ck,Av,nv,cw,Ac,nc,cc,rfl,hnd,g1,g2,g3⟩:=hv
  have Z0:=HR.out.lt
  have HND:=Lib.hid (hnd.kept (below_one w2 (.cells #[.bool s.leaf,.slice Ak nk ck,.slice Av nv cw,.slice Ac nc cc] 68)))
  have B2:=Lib.hid ((B0.out.trans (b2.mono B0.out.size)).trans ((below_one w2 (.cells #[.bool s.leaf,.slice Ak nk ck,.slice Av nv cw,.slice Ac nc cc] 68)).mono (Nat.le_trans B0.out.size b2.size)))
  have HX:=Lib.hid (nbox_new w2 (.bool s.leaf) (.slice Ak nk ck) (.slice Av nv cw) (.slice Ac nc cc))
  have HR2:=Lib.hid ((HR.out.kept b2).kept (below_one w2 (.cells #[.bool s.leaf,.slice Ak nk ck,.slice Av nv cw,.slice Ac nc cc] 68)))
  have G1:=Lib.hid (g1.low (base':=w.heap.size+1) Z0)
  have G2:=Lib.hid (g2.low (base':=w.heap.size+1) Z0)
  have G3:=Lib.hid (g3.low (base':=w.heap.size+1) Z0)
  have hk1:nk≤70000:=by rw [← hnd.kn];exact j1
  have hk2:nv≤70000:=by rw [← hnd.vn];exact j2
  have hk3:nc≤70000:=by rw [← hnd.cn];exact j3
  clear b2 hnd g1 g2 g3 j1 j2 j3 HR B0 Z0
  cases hpr:ND.prs true b with
  | none =>
    have HZ:=Lib.hid (ndec_zero (k:=2) (b:=b) (HD.out.trans (by rw [hpr];rfl)) B2.out)
    clear hp hpr HND G1 G2 G3
    rw [Option.isSome_none]
    go_upto_region 4 with fail
    generalize w2.alloc (.cells #[.bool s.leaf,.slice Ak nk ck,.slice Av nv cw,.slice Ac nc cc] 68)=w3 at *
    obtain ⟨q0,q1,q2,q3⟩:=HR2.out.cells
    obtain ⟨f0,f1,f2,f3⟩:=HR2.out.free
    obtain ⟨e0,e1,e2,e3⟩:=(Lib.hid (HR2.out.put (.bool false) (.slice none 0 0) (.slice none 0 0) (.slice none 0 0))).out.cells
    go_wp2_with fail
    refine bodyPost_ret (v := .tuple #[.agg #[.bool false,.slice none 0 0,.slice none 0 0,.slice none 0 0],.int .i64 100]) (by simp [results,Tryz.results86,go_sem,e0,e1,e2,e3]) rfl ?_
    exact HZ.out
  | some t =>
    obtain rfl:s=t:=hp t hpr
    have HE:Hid (ND.dec 2 b=if s.ok then some s else none):=Lib.hid (HD.out.trans (by rw [hpr];rfl))
    clear hp hpr
    rw [Option.isSome_some]
    go_upto_region 4 with fail
    generalize hw3:w2.alloc (.cells #[.bool s.leaf,.slice Ak nk ck,.slice Av nv cw,.slice Ac nc cc] 68)=w3 at *
    clear hw3
    generalize w2.heap.size=r2 at *
    obtain ⟨x0,x1,x2,x3⟩:=HX.out.cells
    go_wp2_with fail
    refine (ncheck_any s.leaf Ak nk ck Av nv cw Ac nc cc s w3 HND.out rfl (by omega) (by omega) (by omega)).mono ?_
    rintro e w4 ⟨rfl,b4⟩
    have B4:=Lib.hid (B2.out.trans (b4.mono B2.out.size))
    have HR4:=Lib.hid (HR2.out.kept b4)
    have HX4:=Lib.hid (HX.out.kept b4)
    have HN4:=Lib.hid (HND.out.kept b4)
    clear b4 x0 x1 x2 x3 B2 HR2 HX HND
    obtain ⟨q0,q1,q2,q3⟩:=HR4.out.cells
    obtain ⟨f0,f1,f2,f3⟩:=HR4.out.free
    cases hok:s.ok with
    | false =>
      rw [ncheck_bad hok]
      have HZ:=Lib.hid (ndec_zero (k:=2) (b:=b) (HE.out.trans (by rw [hok];rfl)) B4.out)
      obtain ⟨e0,e1,e2,e3⟩:=(Lib.hid (HR4.out.put (.bool false) (.slice none 0 0) (.slice none 0 0) (.slice none 0 0))).out.cells
      clear hok
      go_wp2_with fail
      refine bodyPost_ret (v := .tuple #[.agg #[.bool false,.slice none 0 0,.slice none 0 0,.slice none 0 0],.int .i64 100]) (by simp [results,Tryz.results86,go_sem,e0,e1,e2,e3]) rfl ?_
      exact HZ.out
    | true =>
      rw [ncheck_good hok]
      have HDS:=Lib.hid (ND.dec_some (HE.out.trans (by rw [hok];rfl)))
      obtain ⟨x0,x1,x2,x3⟩:=HX4.out.cells
      obtain ⟨e0,e1,e2,e3⟩:=(Lib.hid (HR4.out.put (.bool s.leaf) (.slice Ak nk ck) (.slice Av nv cw) (.slice Ac nc cc))).out.cells
      have HZ:=Lib.hid (nput_done (err:=0) B4.out (show NdV w4 (w.heap.size+1) (.agg #[.bool s.leaf,.slice Ak nk ck,.slice Av nv cw,.slice Ac nc cc]) s from ⟨Ak,nk,ck,Av,nv,cw,Ac,nc,cc,rfl,HN4.out,G1.out,G2.out,G3.out⟩) (.bool s.leaf) (.slice Ak nk ck) (.slice Av nv cw) (.slice Ac nc cc))
      clear hok
      go_wp2_with fail
      refine bodyPost_ret (v := .tuple #[.agg #[.bool s.leaf,.slice Ak nk ck,.slice Av nv cw,.slice Ac nc cc],.int .i64 0]) (by simp [results,Tryz.results86,go_sem,e0,e1,e2,e3]) rfl ?_
      rw [HDS.out.1,HDS.out.2]
      exact HZ.out
 ·have HD:Hid (ND.dec 3 b=(ND.prs false b).bind (fun s=>if s.ok then some s else none)):=Lib.hid (dec_at (k:=3) (b:=b) (by omega) (by omega))
  have HC:=Lib.hid (fun W (hy:Bys W W.heap.size A b)=>nread_any false A n c b W HL.out hy hnc HM.out)
  clear hl
  go_enter Tryz.func86,Tryz.ntmps86
  go_upto_region 1 with fail
  generalize w.alloc (.cells #[.bool false,.slice none 0 0,.slice none 0 0,.slice none 0 0] 68)=w0 at *
  go_wp2_with fail
  refine (HC.out w0 HY.out).mono ?_
  rintro e w2 ⟨v2,s,rfl,hv,b2,hp,j1,j2,j3⟩
  obtain ⟨Ak,nk,ck,Av,nv,cw,Ac,nc,cc,rfl,hnd,g1,g2,g3⟩:=hv
  have Z0:=HR.out.lt
  have HND:=Lib.hid (hnd.kept (below_one w2 (.cells #[.bool s.leaf,.slice Ak nk ck,.slice Av nv cw,.slice Ac nc cc] 68)))
  have B2:=Lib.hid ((B0.out.trans (b2.mono B0.out.size)).trans ((below_one w2 (.cells #[.bool s.leaf,.slice Ak nk ck,.slice Av nv cw,.slice Ac nc cc] 68)).mono (Nat.le_trans B0.out.size b2.size)))
  have HX:=Lib.hid (nbox_new w2 (.bool s.leaf) (.slice Ak nk ck) (.slice Av nv cw) (.slice Ac nc cc))
  have HR2:=Lib.hid ((HR.out.kept b2).kept (below_one w2 (.cells #[.bool s.leaf,.slice Ak nk ck,.slice Av nv cw,.slice Ac nc cc] 68)))
  have G1:=Lib.hid (g1.low (base':=w.heap.size+1) Z0)
  have G2:=Lib.hid (g2.low (base':=w.heap.size+1) Z0)
  have G3:=Lib.hid (g3.low (base':=w.heap.size+1) Z0)
  have hk1:nk≤70000:=by rw [← hnd.kn];exact j1
  have hk2:nv≤70000:=by rw [← hnd.vn];exact j2
  have hk3:nc≤70000:=by rw [← hnd.cn];exact j3
  clear b2 hnd g1 g2 g3 j1 j2 j3 HR B0 Z0
  cases hpr:ND.prs false b with
  | none =>
    have HZ:=Lib.hid (ndec_zero (k:=3) (b:=b) (HD.out.trans (by rw [hpr];rfl)) B2.out)
    clear hp hpr HND G1 G2 G3
    rw [Option.isSome_none]
    go_upto_region 4 with fail
    generalize w2.alloc (.cells #[.bool s.leaf,.slice Ak nk ck,.slice Av nv cw,.slice Ac nc cc] 68)=w3 at *
    obtain ⟨q0,q1,q2,q3⟩:=HR2.out.cells
    obtain ⟨f0,f1,f2,f3⟩:=HR2.out.free
    obtain ⟨e0,e1,e2,e3⟩:=(Lib.hid (HR2.out.put (.bool false) (.slice none 0 0) (.slice none 0 0) (.slice none 0 0))).out.cells
    go_wp2_with fail
    refine bodyPost_ret (v := .tuple #[.agg #[.bool false,.slice none 0 0,.slice none 0 0,.slice none 0 0],.int .i64 100]) (by simp [results,Tryz.results86,go_sem,e0,e1,e2,e3]) rfl ?_
    exact HZ.out
  | some t =>
    obtain rfl:s=t:=hp t hpr
    have HE:Hid (ND.dec 3 b=if s.ok then some s else none):=Lib.hid (HD.out.trans (by rw [hpr];rfl))
    clear hp hpr
    rw [Option.isSome_some]
    go_upto_region 4 with fail
    generalize hw3:w2.alloc (.cells #[.bool s.leaf,.slice Ak nk ck,.slice Av nv cw,.slice Ac nc cc] 68)=w3 at *
    clear hw3
    generalize w2.heap.size=r2 at *
    obtain ⟨x0,x1,x2,x3⟩:=HX.out.cells
    go_wp2_with fail
    refine (ncheck_any s.leaf Ak nk ck Av nv cw Ac nc cc s w3 HND.out rfl (by omega) (by omega) (by omega)).mono ?_
    rintro e w4 ⟨rfl,b4⟩
    have B4:=Lib.hid (B2.out.trans (b4.mono B2.out.size))
    have HR4:=Lib.hid (HR2.out.kept b4)
    have HX4:=Lib.hid (HX.out.kept b4)
    have HN4:=Lib.hid (HND.out.kept b4)
    clear b4 x0 x1 x2 x3 B2 HR2 HX HND
    obtain ⟨q0,q1,q2,q3⟩:=HR4.out.cells
    obtain ⟨f0,f1,f2,f3⟩:=HR4.out.free
    cases hok:s.ok with
    | false =>
      rw [ncheck_bad hok]
      have HZ:=Lib.hid (ndec_zero (k:=3) (b:=b) (HE.out.trans (by rw [hok];rfl)) B4.out)
      obtain ⟨e0,e1,e2,e3⟩:=(Lib.hid (HR4.out.put (.bool false) (.slice none 0 0) (.slice none 0 0) (.slice none 0 0))).out.cells
      clear hok
      go_wp2_with fail
      refine bodyPost_ret (v := .tuple #[.agg #[.bool false,.slice none 0 0,.slice none 0 0,.slice none 0 0],.int .i64 100]) (by simp [results,Tryz.results86,go_sem,e0,e1,e2,e3]) rfl ?_
      exact HZ.out
    | true =>
      rw [ncheck_good hok]
      have HDS:=Lib.hid (ND.dec_some (HE.out.trans (by rw [hok];rfl)))
      obtain ⟨x0,x1,x2,x3⟩:=HX4.out.cells
      obtain ⟨e0,e1,e2,e3⟩:=(Lib.hid (HR4.out.put (.bool s.leaf) (.slice Ak nk ck) (.slice Av nv cw) (.slice Ac nc cc))).out.cells
      have HZ:=Lib.hid (nput_done (err:=0) B4.out (show NdV w4 (w.heap.size+1) (.agg #[.bool s.leaf,.slice Ak nk ck,.slice Av nv cw,.slice Ac nc cc]) s from ⟨Ak,nk,ck,Av,nv,cw,Ac,nc,cc,rfl,HN4.out,G1.out,G2.out,G3.out⟩) (.bool s.leaf) (.slice Ak nk ck) (.slice Av nv cw) (.slice Ac nc cc))
      clear hok
      go_wp2_with fail
      refine bodyPost_ret (v := .tuple #[.agg #[.bool s.leaf,.slice Ak nk ck,.slice Av nv cw,.slice Ac nc cc],.int .i64 0]) (by simp [results,Tryz.results86,go_sem,e0,e1,e2,e3]) rfl ?_
      rw [HDS.out.1,HDS.out.2]
      exact HZ.out
end Go.Proofs.YtccphijgcapeoaaGreat
/-
  What cell's Remove comes to.
-/
namespace Go.Proofs.YtccphijgcapeoaaGreat
open Go.RowKit
def remF (g r:Nat) (A:Option Addr) (n c:Nat) (B:Option Addr) (d:Nat) (f:Nat) (u:ND):List SP :=
 [.is (.pointer (some ⟨g,1,none⟩)),.is (.slice A n c),.is (.int .i64 f),.is (.int .i64 f),.is (.int .i64 ((f+1:Nat):Int)),.ln (r+1) (f+0+(n - (f+1))) (strVals u.keys),
  .is (.pointer (some ⟨g,2,none⟩)),.is (.slice B n d),.is (.int .i64 f),.is (.int .i64 f),.is (.int .i64 ((f+1:Nat):Int)),.ln (r+1) (f+0+(n - (f+1))) (strVals u.vals),.nd (r+1) u]
theorem nd_pass {w w1 wf:World} {r:Nat} {v:Value} {s:ND} (hb:Below w.heap.size w w1) (hr:w.heap.size≤r) (hr1:r<w1.heap.size) (h:NdV wf w1.heap.size v s) (b:Below w1.heap.size w1 wf) (x y z p:Value) :
 NdV ((((wf.setCell ⟨r,0,none⟩ x).setCell ⟨r,1,none⟩ y).setCell ⟨r,2,none⟩ z).setCell ⟨r,3,none⟩ p) w.heap.size v s∧Below w.heap.size w ((((wf.setCell ⟨r,0,none⟩ x).setCell ⟨r,1,none⟩ y).setCell ⟨r,2,none⟩ z).setCell ⟨r,3,none⟩ p) :=
 nd_done (chainN b hb) hr (h.low hr1) x y z p
theorem remove_any (A:Option Addr) (n c:Nat) (B:Option Addr) (m d:Nat) (C:Option Addr) (k e:Nat) (s:ND) (x:ByteArray) (w:World) (h:Nd w A n c B m d C k e s) (hl:s.leaf=true) (ho:s.ok=true) (hn:n≤300000) :
 Calls Tryz.prog 57 #[.agg #[.bool true,.slice A n c,.slice B m d,.slice C k e],.string x] w (NdBEnd w (s.remove x.toList) (ND.isAt x.toList s.keys)):=by
 obtain rfl:n=m:=by rw [← h.vn,← h.kn];exact (ND.ok_leaf ho hl).1.symm
 obtain rfl:0=k:=by rw [← h.cn,(ND.ok_leaf ho hl).2.2];rfl
 have HO:=Lib.hid ho
 clear ho
 obtain ⟨tb1,tb2,tb3⟩:=nbox_pair w (.bool true) (.slice A n c) (.slice B n d) (.slice C 0 e)
 have HS:=Lib.hid (h.kept tb3)
 have HB:=Lib.hid tb1
 have HR:=Lib.hid tb2
 have B0:=Lib.hid tb3
 have HL:=Lib.hid hl
 clear h hl tb1 tb2 tb3
 go_enter Tryz.func57,Tryz.ntmps57
 go_upto_region 1 with fail
 generalize (w.alloc (.cells #[.bool true,.slice A n c,.slice B n d,.slice C 0 e] 68)).alloc (.cells #[.bool false,.slice none 0 0,.slice none 0 0,.slice none 0 0] 68)=w0 at *
 obtain ⟨c0,c1,c2,c3⟩:=HB.out.cells
 go_wp2_with fail
 refine (find_any true A n c B n d C 0 e s x w0 HS.out (ND.ok_rise HO.out) (by omega)).mono ?_
 rintro e1 w1 ⟨rfl,b1⟩
 have B1:=Lib.hid (chainN b1 B0.out)
 have HB1:=Lib.hid (HB.out.kept b1)
 have HR1:=Lib.hid (HR.out.kept b1)
 have HS1:=Lib.hid (HS.out.kept b1)
 clear b1 c0 c1 c2 c3 HB HR HS B0
 have hg:=HB1.out.lt
 have hr:=HR1.out.lt
 cases his:ND.isAt x.toList s.keys with
 | true =>
   have HP:=Lib.hid (ND.remove_old his)
   have hfl:=ND.isAt_lt his
   rw [HS1.out.kn] at hfl
   have HRD:Hid (s.removed x.toList=⟨true,ND.rep s.keys (ND.findN x.toList s.keys) (ND.findN x.toList s.keys+1) [],ND.rep s.vals (ND.findN x.toList s.keys) (ND.findN x.toList s.keys+1) [],[]⟩):=Lib.hid rfl
   have HI:=Lib.hid his
   clear his
   generalize ND.findN x.toList s.keys=f at *
   have hw1:IntKind.i64.wrap ((f:Int)+1)=(f:Int)+1:=IntWalk.i64_in _ (by omega)
   have HW1:=Lib.hid hw1
   clear hw1
   obtain ⟨c0,c1,c2,c3⟩:=HB1.out.cells
   go_upto_region 4 with fail
   clear c0 c1 c2 c3
   rename_i KK HM
   refine wp_region_flow 13 2 (SP.at_ (remF w.heap.size (w.heap.size+1) A n c B d f ⟨true,ND.rep s.keys f (f+1) [],ND.rep s.vals f (f+1) [],[]⟩)) (by kernel_rfl) rfl (by kernel_rfl) (by kernel_rfl) (by kernel_rfl) (SP.at_st _) ?_ ?_
   ·intro i o L a wx hi ho h hd
    have e2:a.eval (.tmp 2) = .pointer (some ⟨w.heap.size,0,none⟩):=(h.old 2 (by kernel_rfl)).trans rfl
    have e6:a.eval (.tmp 6) = .int .i64 (f:Int):=(h.old 6 (by kernel_rfl)).trans rfl
    obtain ⟨c0,c1,c2,c3⟩:=(HB1.out.kept h.below).cells
    match i,hi,ho,hd with
    | 0,_,ho,hd =>
      obtain rfl:=Option.some.inj ho
      refine wpOp_step rfl (fun K hK=>?_)
      refine (if_pos (by rfl)).mpr ?_
      have q0:=got e2
      go_simp
      exact hK _ _ ⟨_,_,rfl,rfl,rfl,Below.refl _ _⟩
    | 1,_,ho,hd =>
      obtain rfl:=Option.some.inj ho
      refine wpOp_step rfl (fun K hK=>?_)
      refine (if_pos (by rfl)).mpr ?_
      have q0:=got (h.got 0 _ _ rfl (by decide) (hd ⟨0,.data⟩ (by simp) rfl) rfl)
      go_simp
      exact hK _ _ ⟨_,_,rfl,rfl,rfl,Below.refl _ _⟩
    | 2,_,ho,hd =>
      obtain rfl:=Option.some.inj ho
      refine wpOp_step rfl (fun K hK=>?_)
      refine (if_pos (by rfl)).mpr ?_
      have q0:=got e6
      go_simp
      exact hK _ _ ⟨_,_,rfl,rfl,rfl,Below.refl _ _⟩
    | 3,_,ho,hd =>
      obtain rfl:=Option.some.inj ho
      refine wpOp_step rfl (fun K hK=>?_)
      refine (if_pos (by rfl)).mpr ?_
      have q0:=got e6
      go_simp
      exact hK _ _ ⟨_,_,rfl,rfl,rfl,Below.refl _ _⟩
    | 4,_,ho,hd =>
      obtain rfl:=Option.some.inj ho
      refine wpOp_step rfl (fun K hK=>?_)
      refine (if_pos (by rfl)).mpr ?_
      have q0:=got (h.got 3 _ _ rfl (by decide) (hd ⟨3,.data⟩ (by simp) rfl) rfl)
      have hw:=HW1.out
      go_simp
      exact hK _ _ ⟨_,_,rfl,rfl,rfl,Below.refl _ _⟩
    | 5,_,ho,hd =>
      obtain rfl:=Option.some.inj ho
      refine wpOp_step rfl (fun K hK=>?_)
      refine (if_pos (by rfl)).mpr ?_
      have q0:=got (h.got 1 _ _ rfl (by decide) (hd ⟨1,.data⟩ (by simp) rfl) rfl)
      have q1:=got (h.got 2 _ _ rfl (by decide) (hd ⟨2,.data⟩ (by simp) rfl) rfl)
      have q2:=got (h.got 4 _ _ rfl (by decide) (hd ⟨4,.data⟩ (by simp) rfl) rfl)
      have hbs:=h.below.size
      go_simp
      refine (ereplaced_S A n c (strVals s.keys) f (f+1) none 0 0 [] wx (HS1.out.ke.kept h.below) (strVals_one _) (Ln.none_ _ 1) (fun u hu=>by simp at hu) (by omega) (by omega) hn (by omega)).mono ?_
      rintro e w3 ⟨v3,rfl,o3,b3⟩
      rw [show ([]:List Value)=strVals [] from rfl,str_rep] at o3
      exact hK _ _ ⟨v3,_,rfl,rfl,ln_of_row o3 rfl (by omega),b3⟩
    | 6,_,ho,hd =>
      obtain rfl:=Option.some.inj ho
      refine wpOp_step rfl (fun K hK=>?_)
      refine (if_pos (by rfl)).mpr ?_
      have q0:=got e2
      go_simp
      exact hK _ _ ⟨_,_,rfl,rfl,rfl,Below.refl _ _⟩
    | 7,_,ho,hd =>
      obtain rfl:=Option.some.inj ho
      refine wpOp_step rfl (fun K hK=>?_)
      refine (if_pos (by rfl)).mpr ?_
      have q0:=got (h.got 6 _ _ rfl (by decide) (hd ⟨6,.data⟩ (by simp) rfl) rfl)
      go_simp
      exact hK _ _ ⟨_,_,rfl,rfl,rfl,Below.refl _ _⟩
    | 8,_,ho,hd =>
      obtain rfl:=Option.some.inj ho
      refine wpOp_step rfl (fun K hK=>?_)
      refine (if_pos (by rfl)).mpr ?_
      have q0:=got e6
      go_simp
      exact hK _ _ ⟨_,_,rfl,rfl,rfl,Below.refl _ _⟩
    | 9,_,ho,hd =>
      obtain rfl:=Option.some.inj ho
      refine wpOp_step rfl (fun K hK=>?_)
      refine (if_pos (by rfl)).mpr ?_
      have q0:=got e6
      go_simp
      exact hK _ _ ⟨_,_,rfl,rfl,rfl,Below.refl _ _⟩
    | 10,_,ho,hd =>
      obtain rfl:=Option.some.inj ho
      refine wpOp_step rfl (fun K hK=>?_)
      refine (if_pos (by rfl)).mpr ?_
      have q0:=got (h.got 9 _ _ rfl (by decide) (hd ⟨9,.data⟩ (by simp) rfl) rfl)
      have hw:=HW1.out
      go_simp
      exact hK _ _ ⟨_,_,rfl,rfl,rfl,Below.refl _ _⟩
    | 11,_,ho,hd =>
      obtain rfl:=Option.some.inj ho
      refine wpOp_step rfl (fun K hK=>?_)
      refine (if_pos (by rfl)).mpr ?_
      have q0:=got (h.got 7 _ _ rfl (by decide) (hd ⟨7,.data⟩ (by simp) rfl) rfl)
      have q1:=got (h.got 8 _ _ rfl (by decide) (hd ⟨8,.data⟩ (by simp) rfl) rfl)
      have q2:=got (h.got 10 _ _ rfl (by decide) (hd ⟨10,.data⟩ (by simp) rfl) rfl)
      have hbs:=h.below.size
      go_simp
      refine (ereplaced_S B n d (strVals s.vals) f (f+1) none 0 0 [] wx (HS1.out.va.kept h.below) (strVals_one _) (Ln.none_ _ 1) (fun u hu=>by simp at hu) (by omega) (by omega) hn (by omega)).mono ?_
      rintro e w3 ⟨v3,rfl,o3,b3⟩
      rw [show ([]:List Value)=strVals [] from rfl,str_rep] at o3
      exact hK _ _ ⟨v3,_,rfl,rfl,ln_of_row o3 rfl (by omega),b3⟩
    | 12,_,ho,hd =>
      obtain rfl:=Option.some.inj ho
      refine wpOp_step rfl (fun K hK=>?_)
      refine (if_pos (by rfl)).mpr ?_
      obtain ⟨A1,a1,z1,l1,i1,_⟩:=(h.got 5 _ _ rfl (by decide) (hd ⟨5,.data⟩ (by simp) rfl) rfl)
      obtain ⟨A2,a2,z2,l2,i2,_⟩:=(h.got 11 _ _ rfl (by decide) (hd ⟨11,.data⟩ (by simp) rfl) rfl)
      have y1:=got z1
      have y2:=got z2
      go_simp
      exact hK _ _ ⟨_,_,rfl,rfl,⟨A1,_,a1,A2,_,a2,none,0,0,rfl,⟨l1,l2,Ln.none_ _ 1⟩,i1,i2,NHi.none_ _⟩,Below.refl _ _⟩
    | j+13,hi,_,_=>exact absurd hi (by omega)
   ·intro mm L a wx h hd
    refine wpAny_ready (rs:=[13]) (by decide +kernel) (by simp) (AllReady.cons rfl (fun K hK=>?_) AllReady.nil)
    refine (if_pos (by rfl)).mpr ?_
    have hn4:=h.got 12 _ _ rfl (by decide) (hd 12 (by decide)) rfl
    obtain ⟨A',n',c',B',m',d',C',k',e',ev,_,_,_,_⟩:=id hn4
    have q:=got ev
    have q2:=got ((h.old 4 (by kernel_rfl)).trans rfl:a.eval (.tmp 4) = .pointer (some ⟨w.heap.size+1,0,none⟩))
    have HR2:=Lib.hid (HR1.out.kept h.below)
    obtain ⟨x0,x1,x2,x3⟩:=HR2.out.cells
    obtain ⟨f0,f1,f2,f3⟩:=HR2.out.free
    go_simp
    refine hK _ _ ?_
    refine wpAny_ready (rs:=[14]) (by decide +kernel) (by simp) (AllReady.cons rfl (fun K hK=>?_) AllReady.nil)
    refine (if_pos (by rfl)).mpr ?_
    go_simp
    refine hK _ _ ?_
    refine wpAny_done (by decide +kernel) ?_ _
    have HD:=Lib.hid (nd_done (chainN h.below B1.out) (Nat.le_succ _) hn4 (.bool (⟨true,ND.rep s.keys f (f+1) [],ND.rep s.vals f (f+1) [],[]⟩:ND).leaf) (.slice A' n' c') (.slice B' m' d') (.slice C' k' e'))
    rw [ev] at HD
    obtain ⟨y0,y1,y2,y3⟩:=(HR2.out.put (.bool (⟨true,ND.rep s.keys f (f+1) [],ND.rep s.vals f (f+1) [],[]⟩:ND).leaf) (.slice A' n' c') (.slice B' m' d') (.slice C' k' e')).cells
    refine HM _ _ ?_
    refine wp_ret ?_
    have hsz:5<a.tmps.size:=by rw [h.sz];show 5<36;decide
    refine bodyPost_ret (v := .tuple #[.agg #[.bool (⟨true,ND.rep s.keys f (f+1) [],ND.rep s.vals f (f+1) [],[]⟩:ND).leaf,.slice A' n' c',.slice B' m' d',.slice C' k' e'],.bool true]) (by simp [results,Tryz.results57,go_sem,q2,y0,y1,y2,y3,hsz]) (h.df.trans rfl) ?_
    exact ⟨_,by rw [HI.out],by rw [HP.out,HRD.out];exact HD.out.1,HD.out.2⟩
 | false =>
   have HP:=Lib.hid (ND.remove_new his)
   have HI:=Lib.hid his
   clear his
   obtain ⟨c0,c1,c2,c3⟩:=HB1.out.cells
   go_wp2_with fail
   refine (copied_any true A n c B n d C 0 e s w1 HS1.out HL.out (by omega) (by omega) (by omega)).mono ?_
   rintro e2 w2 ⟨v2,rfl,n2,b2⟩
   have N2:=Lib.hid n2
   obtain ⟨A',n',c',B',m',d',C',k',e',rfl,_,_,_,_⟩:=n2
   have HR2:=Lib.hid (HR1.out.kept b2)
   have HD:=Lib.hid (nd_pass B1.out (Nat.le_succ _) HR1.out.lt N2.out b2 (.bool s.leaf) (.slice A' n' c') (.slice B' m' d') (.slice C' k' e'))
   obtain ⟨y0,y1,y2,y3⟩:=(HR2.out.put (.bool s.leaf) (.slice A' n' c') (.slice B' m' d') (.slice C' k' e')).cells
   obtain ⟨f0,f1,f2,f3⟩:=HR2.out.free
   obtain ⟨x0,x1,x2,x3⟩:=HR2.out.cells
   clear b2 c0 c1 c2 c3
   go_wp2_with fail
   refine bodyPost_ret (v := .tuple #[.agg #[.bool s.leaf,.slice A' n' c',.slice B' m' d',.slice C' k' e'],.bool false]) (by simp [results,Tryz.results57,go_sem,y0,y1,y2,y3]) rfl ?_
   exact ⟨_,by rw [HI.out],by rw [HP.out];exact HD.out.1,HD.out.2⟩
end Go.Proofs.YtccphijgcapeoaaGreat
