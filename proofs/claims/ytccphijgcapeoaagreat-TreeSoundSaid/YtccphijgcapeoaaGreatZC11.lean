/-
  A part of the proof: what its texts say stands at the head of each. Conditions: none.
-/
import Derived.Shelf.SlSortCmp.Small
import Derived.Shelf.Small.Bits
import Derived.Ground.SlsfProg
import Derived.Ground.NamesProg
import Derived.Test.YtccphijgcapeoaaGreatProg
import Derived.BigQuiet
import Derived.Maps.AppendAt
import Derived.Laws.OwnMore
import Derived.Laws.MakeOwn
import Derived.IntWalk
import Derived.Deep.RegionHeld3
import Derived.Deep.DeepCutAuto
import Derived.Shelf.SortM.Plain
import Derived.Shelf.SortM.SortNone
import Derived.Ground.SlgmProg
import Derived.Sort.OwnSortedInts
import Derived.Deep.AppendLies
import Derived.Test.YtccphijgcapeoaaGreatZC1
import Derived.Test.YtccphijgcapeoaaGreatZC3
import Derived.Test.YtccphijgcapeoaaGreatZC4
import Derived.Test.YtccphijgcapeoaaGreatZC5
import Derived.Test.YtccphijgcapeoaaGreatZC6

set_option maxRecDepth 20000
set_option maxHeartbeats 12800000
/-
  The library functions that sort frames are, in this program, those that the library's contracts speak of. Conditions: none.
-/
namespace Go.Proofs.YtccphijgcapeoaaGreat
open Go.Shelf
def Tryz.sortF_ren:Go.Shelf.Ren:=⟨fun | 6=>67 | 15=>103 | 14=>102 | 28=>141 | 29=>142 | 20=>133 | 21=>134 | 22=>135 | 23=>136 | 24=>137 | 25=>138 | 26=>139 | 27=>140 | 46=>170 | 47=>171 | 48=>172 | 49=>173 | 50=>174 | 57=>193 | n=>n,fun | 22=>88 | 24=>90 | 25=>135 | 3=>3 | 39=>171 | 0=>0 | 53=>209 | 55=>211 | 4=>4 | 46=>203 | 45=>202 | 50=>98 | 5=>5 | 9=>9 | 66=>237 | 70=>241 | 76=>256 | 77=>257 | n=>n,fun | n=>n⟩
theorem Tryz.sortF:Go.Proofs.SlLaysF.n6 Tryz.prog Tryz.sortF_ren:={
 mixed:=by kernel_rfl
 f6:=⟨Tryz.f67.name,by decide,Tryz.func67.trans (congrArg some (by kernel_rfl))⟩
 f14:=⟨Tryz.f102.name,by decide,Tryz.func102.trans (congrArg some (by kernel_rfl))⟩
 f15:=Tryz.func103.trans (congrArg some (by kernel_rfl))
 f20:=⟨Tryz.f133.name,by decide,Tryz.func133.trans (congrArg some (by kernel_rfl))⟩
 f21:=⟨Tryz.f134.name,by decide,Tryz.func134.trans (congrArg some (by kernel_rfl))⟩
 f22:=⟨Tryz.f135.name,by decide,Tryz.func135.trans (congrArg some (by kernel_rfl))⟩
 f23:=⟨Tryz.f136.name,by decide,Tryz.func136.trans (congrArg some (by kernel_rfl))⟩
 f24:=⟨Tryz.f137.name,by decide,Tryz.func137.trans (congrArg some (by kernel_rfl))⟩
 f25:=⟨Tryz.f138.name,by decide,Tryz.func138.trans (congrArg some (by kernel_rfl))⟩
 f26:=⟨Tryz.f139.name,by decide,Tryz.func139.trans (congrArg some (by kernel_rfl))⟩
 f27:=⟨Tryz.f140.name,by decide,Tryz.func140.trans (congrArg some (by kernel_rfl))⟩
 f28:=Tryz.func141.trans (congrArg some (by kernel_rfl))
 f29:=Tryz.func142.trans (congrArg some (by kernel_rfl))
 f46:=⟨Tryz.f170.name,by decide,Tryz.func170.trans (congrArg some (by kernel_rfl))⟩
 f47:=Tryz.func171.trans (congrArg some (by kernel_rfl))
 f48:=Tryz.func172.trans (congrArg some (by kernel_rfl))
 f49:=⟨Tryz.f173.name,by decide,Tryz.func173.trans (congrArg some (by kernel_rfl))⟩
 f50:=⟨Tryz.f174.name,by decide,Tryz.func174.trans (congrArg some (by kernel_rfl))⟩
 f57:=⟨Tryz.f193.name,by decide,Tryz.func193.trans (congrArg some (by kernel_rfl))⟩
 t0:=Tryz.underlying0
 a0:=Tryz.isAgg0
 z0:=Tryz.sizeOf0
 v0:=Tryz.zeroValue0
 t3:=Tryz.underlying3
 a3:=Tryz.isAgg3
 z3:=Tryz.sizeOf3
 v3:=Tryz.zeroValue3
 t4:=Tryz.underlying4
 a4:=Tryz.isAgg4
 z4:=Tryz.sizeOf4
 v4:=Tryz.zeroValue4
 t5:=Tryz.underlying5
 a5:=Tryz.isAgg5
 z5:=Tryz.sizeOf5
 v5:=Tryz.zeroValue5
 t9:=Tryz.underlying9
 a9:=Tryz.isAgg9
 z9:=Tryz.sizeOf9
 v9:=Tryz.zeroValue9
 t22:=Tryz.underlying88
 a22:=Tryz.isAgg88
 z22:=Tryz.sizeOf88
 v22:=Tryz.zeroValue88
 a24:=Tryz.isAgg90
 z24:=Tryz.sizeOf90
 t25:=Tryz.underlying135
 a25:=Tryz.isAgg135
 z25:=Tryz.sizeOf135
 v25:=Tryz.zeroValue135
 t39:=Tryz.underlying171
 a39:=Tryz.isAgg171
 z39:=Tryz.sizeOf171
 v39:=Tryz.zeroValue171
 t45:=Tryz.underlying202
 a45:=Tryz.isAgg202
 z45:=Tryz.sizeOf202
 v45:=Tryz.zeroValue202
 t46:=Tryz.underlying203
 a46:=Tryz.isAgg203
 z46:=Tryz.sizeOf203
 v46:=Tryz.zeroValue203
 t50:=Tryz.underlying98
 a50:=Tryz.isAgg98
 z50:=Tryz.sizeOf98
 v50:=Tryz.zeroValue98
 t53:=Tryz.underlying209
 a53:=Tryz.isAgg209
 z53:=Tryz.sizeOf209
 v53:=Tryz.zeroValue209
 t55:=Tryz.underlying211
 a55:=Tryz.isAgg211
 z55:=Tryz.sizeOf211
 v55:=Tryz.zeroValue211
 t66:=Tryz.underlying237
 a66:=Tryz.isAgg237
 z66:=Tryz.sizeOf237
 v66:=Tryz.zeroValue237
 t70:=Tryz.underlying241
 a70:=Tryz.isAgg241
 z70:=Tryz.sizeOf241
 v70:=Tryz.zeroValue241
 t76:=Tryz.underlying256
 a76:=Tryz.isAgg256
 z76:=Tryz.sizeOf256
 v76:=Tryz.zeroValue256
 t77:=Tryz.underlying257
 a77:=Tryz.isAgg257
 z77:=Tryz.sizeOf257
 v77:=Tryz.zeroValue257 }
def Tryz.bitsLen_ren:Go.Shelf.Ren:=⟨fun | 125=>103 | 128=>141 | 129=>142 | n=>n,fun | 46=>171 | 3=>3 | 51=>209 | 53=>211 | 4=>4 | 5=>5 | 9=>9 | n=>n,fun | n=>n⟩
theorem Tryz.bitsLen:Go.Proofs.Lays.n125 Tryz.prog Tryz.bitsLen_ren:={
 mixed:=by kernel_rfl
 f125:=Tryz.func103.trans (congrArg some (by kernel_rfl))
 f128:=Tryz.func141.trans (congrArg some (by kernel_rfl))
 f129:=Tryz.func142.trans (congrArg some (by kernel_rfl))
 t3:=Tryz.underlying3
 a3:=Tryz.isAgg3
 z3:=Tryz.sizeOf3
 v3:=Tryz.zeroValue3
 t4:=Tryz.underlying4
 a4:=Tryz.isAgg4
 z4:=Tryz.sizeOf4
 v4:=Tryz.zeroValue4
 t5:=Tryz.underlying5
 a5:=Tryz.isAgg5
 z5:=Tryz.sizeOf5
 v5:=Tryz.zeroValue5
 t9:=Tryz.underlying9
 a9:=Tryz.isAgg9
 z9:=Tryz.sizeOf9
 v9:=Tryz.zeroValue9
 t46:=Tryz.underlying171
 a46:=Tryz.isAgg171
 z46:=Tryz.sizeOf171
 v46:=Tryz.zeroValue171
 t51:=Tryz.underlying209
 a51:=Tryz.isAgg209
 z51:=Tryz.sizeOf209
 v51:=Tryz.zeroValue209
 t53:=Tryz.underlying211
 a53:=Tryz.isAgg211
 z53:=Tryz.sizeOf211
 v53:=Tryz.zeroValue211 }
end Go.Proofs.YtccphijgcapeoaaGreat
/-
  What slices.SortFunc comes to at pointers to frames, by their sectors.
-/
namespace Go.Proofs.YtccphijgcapeoaaGreat
open Go.RowKit Go.Sort Go.Shelf
def cmpI (x y:Int):Int:=if x<y then -1 else if y<x then 1 else 0
theorem nan_any (x:Int) (w:World):Calls Tryz.prog 104 #[.int .i64 x] w fun e w'=>e = .returned (.bool false)∧w=w':=by
 go_enter Tryz.func104,Tryz.ntmps104
 go_wp2_with fail
 go_ret
 exact ⟨rfl,rfl⟩
theorem cmpint_any (x y:Int) (w:World):Calls Tryz.prog 69 #[.int .i64 x,.int .i64 y] w fun e w'=>e = .returned (.int .i64 (cmpI x y))∧w=w':=by
 unfold cmpI
 by_cases h1:x<y
 ·rw [if_pos h1]
  go_enter Tryz.func69,Tryz.ntmps69
  go_wp2_with (refine (nan_any _ _).mono ?_;rintro e w' ⟨rfl,rfl⟩)
  go_ret
  exact ⟨rfl,rfl⟩
 ·by_cases h2:y<x
  ·rw [if_neg h1,if_pos h2]
   go_enter Tryz.func69,Tryz.ntmps69
   go_wp2_with (refine (nan_any _ _).mono ?_;rintro e w' ⟨rfl,rfl⟩)
   go_ret
   exact ⟨rfl,rfl⟩
  ·rw [if_neg h1,if_neg h2]
   have h3:y≤x:=by omega
   have h4:x≤y:=by omega
   go_enter Tryz.func69,Tryz.ntmps69
   go_wp2_with (refine (nan_any _ _).mono ?_;rintro e w' ⟨rfl,rfl⟩)
   go_ret
   exact ⟨rfl,rfl⟩
theorem bysec_any (fb i j:Nat) (x y:Int) (w:World) (h1:w.cell? ⟨fb,i*4+1,none⟩=some (.int .i64 x)) (h2:w.cell? ⟨fb,j*4+1,none⟩=some (.int .i64 y)) :
 Calls Tryz.prog 68 #[.pointer (some ⟨fb,i*4,none⟩),.pointer (some ⟨fb,j*4,none⟩)] w fun e w'=>e = .returned (.int .i64 (cmpI x y))∧∃ q,w'=w.drewN q:=by
 go_enter Tryz.func68,Tryz.ntmps68
 go_wp2_with fail
 go_quiet ((go_at_call 69;exact Calls.quiet_of_same ((cmpint_any _ _ _).mono fun _ _ h=>⟨h.1,h.2.symm⟩)))
 go_wp2_with fail
 go_ret
 exact ⟨rfl,_,rfl⟩
theorem ltI (x y:Int):decide (cmpI x y<0)=decide (x<y):=by
 unfold cmpI
 by_cases h1:x<y
 ·simp [h1]
 ·by_cases h2:y<x<;>simp [h1,h2]
theorem swoF (m:Nat) (S:Nat→Int):SWO (ltOf fun x y:Nat=>cmpI (S (x % m)) (S (y % m))) where
 irrefl x:=by unfold ltOf;rw [ltI];simp
 trans x y z h1 h2:=by unfold ltOf at *;rw [ltI] at *;simp at *;omega
 ntrans x y z h1 h2:=by unfold ltOf at *;rw [ltI] at *;simp at *;omega
theorem bitslen_any (n:Nat) (w:World) (h:n≤12):Calls Tryz.prog 103 #[.int .u64 n] w fun e w'=>(∃ l:Int,e = .returned (.int .i64 l))∧w'=w :=
 (Any.bits_Len Tryz.bitsLen n w (by omega) (by omega)).mono fun _ _ ⟨he,hw⟩=>⟨⟨_,he⟩,hw⟩
def ptrF (fb m:Nat) (j:Nat):Value := .pointer (some ⟨fb,j % m*4,none⟩)
theorem below_putRow {α:Type} [Inhabited α] (enc:α→Value) (w:World) {B blk:Nat} (off:Nat) (d:Array α) (h:B≤blk):RowKit.Below B w (putRow enc w blk off d) :=
 ⟨rfl,rfl,rfl,by simp,fun k hk=>by
  unfold putRow mapBlock
  show (w.heap.modify blk _)[k]?=_
  rw [Array.getElem?_modify]
  rw [if_neg (by omega)]⟩
theorem cell_sortWorld {α:Type} [Inhabited α] (enc:α→Value) (w:World) (blk off m:Nat) (d:Array α) (os:Array Obj) {b o:Nat} (h:b≠blk) (hb:b<w.heap.size):(sortWorld enc w blk off m d os).cell? ⟨b,o,none⟩=w.cell? ⟨b,o,none⟩:=by
 unfold sortWorld
 rw [cell?_grow _ _ _ (by simp;exact hb),cell?_putRow_other _ _ _ _ _ _ (Or.inl h)]
 rfl
/-- Some frames are put in order. -/
theorem sortF_any (fb m blk cap:Nat) (S:Nat→Int) (d:Array Nat) (w:World) (hm:1≤m) (hS:∀ i,i<m→w.cell? ⟨fb,i*4+1,none⟩=some (.int .i64 (S i))) (hne:fb≠blk)
 (hH:Holds (ptrF fb m) w blk 0 d) (h12:d.size≤12) :
 Calls Tryz.prog 67 #[.slice (some ⟨blk,0,none⟩) d.size cap,.func (.func 68) #[] #[]] w
  fun e w'=>e = .returned (.tuple #[])∧∃ d' n,PermIn 0 d.size d d'∧SortedIn (ltOf fun x y:Nat=>cmpI (S (x % m)) (S (y % m))) 0 d.size d'∧w'=(putRow (ptrF fb m) w blk 0 d').drewN n:=by
 have hlt:fb<w.heap.size:=World.block_lt_of_cell? _ _ (hS 0 (by omega))
 have hC:CmpReads Tryz.prog 68 #[] (ptrF fb m) (fun x y:Nat=>cmpI (S (x % m)) (S (y % m))) blk 0 d.size w:=fun k os dk _ x y=>by
  refine (bysec_any fb (x % m) (y % m) _ _ _ ?_ ?_)
  ·rw [cell_sortWorld _ _ _ _ _ _ _ hne hlt]
   exact hS _ (Nat.mod_lt _ (by omega))
  ·rw [cell_sortWorld _ _ _ _ _ _ _ hne hlt]
   exact hS _ (Nat.mod_lt _ (by omega))
 exact Any.slices_SortFunc_small_sorted Tryz.sortF (ptrF fb m) (fun _=>rfl) _ (swoF m S) 68 #[] blk 0 cap d w (enters_of Tryz.func68 (by kernel_rfl) rfl) hC hH h12 (fun n W h=>bitslen_any n W h)
theorem insert_none (fv:Value) (w:World):Calls Tryz.prog 133 #[.slice none 0 0,.int .i64 0,.int .i64 0,fv] w fun e w'=>e = .returned (.tuple #[])∧w'=w:=by
 go_enter Tryz.func133,Tryz.ntmps133
 go_wp2
 refine wp_loop_rounds 1 ?_
 rw [rounds_succ]
 go_wp2
 go_end0
 exact ⟨rfl,rfl⟩
theorem pdq_none (lim:Int) (fv:Value) (w:World):Calls Tryz.prog 102 #[.slice none 0 0,.int .i64 0,.int .i64 0,.int .i64 lim,fv] w fun e w'=>e = .returned (.tuple #[])∧w'=w:=by
 have hi:=insert_none fv
 go_enter Tryz.func102,Tryz.ntmps102
 go_wp2
 refine wp_loop_rounds 1 ?_
 rw [rounds_succ]
 go_wp2_with (refine (hi _).mono ?_;rintro e w' ⟨rfl,rfl⟩)
 (try simp only [Exit.inBlock,Exit.then]);refine bodyPost_ret (results_none rfl _ _ _) rfl ?_
 exact ⟨rfl,rfl⟩
theorem sortF_none (fv:Value) (w:World):Calls Tryz.prog 67 #[.slice none 0 0,fv] w fun e w'=>e = .returned (.tuple #[])∧w'=w:=by
 have hp:=fun lim=>pdq_none lim fv
 have hl:=fun W=>bitslen_any 0 W (by omega)
 go_enter Tryz.func67,Tryz.ntmps67
 go_wp2_with (first | (refine (hl _).mono ?_;rintro e w' ⟨⟨l,rfl⟩,rfl⟩) | (refine (hp _ _).mono ?_;rintro e w' ⟨rfl,rfl⟩))
 go_end0
 exact ⟨rfl,rfl⟩
end Go.Proofs.YtccphijgcapeoaaGreat
/-
  What unwritten comes to: the frames that are dirty, by their sectors.
-/
namespace Go.Proofs.YtccphijgcapeoaaGreat
open Go.RowKit
def ptrs (fb:Nat) (js:List Nat):List Value:=js.map fun j => .pointer (some ⟨fb,j*4,none⟩)
def Ptrs (w:World) (base fb:Nat) (A:Option Addr) (js:List Nat):Prop :=
 js=[]∨∃ b,A=some ⟨b,0,none⟩∧base≤b∧∀ i j,js[i]?=some j→w.cell? ⟨b,i,none⟩=some (.pointer (some ⟨fb,j*4,none⟩))
structure Js (s:PP) (js:List Nat):Prop where
 perm:js.Perm ((List.range s.m).filter s.d)
 up:js.Pairwise fun a b=>s.sec a≤s.sec b
def UnwEnd (w:World) (fb:Nat) (s:PP) (e:Ending) (w':World):Prop :=
 ∃ A c js,e = .returned (.slice A js.length c)∧Ptrs w' w.heap.size fb A js∧Js s js∧Below w.heap.size w w'
def UnwRel (w:World) (fb:Nat) (d:Nat→Bool) (k:Nat) (v:Value) (wr:World):Prop :=
 wr.ownsRow w.heap.size 90 1 v ((List.range k).filter d).length (ptrs fb ((List.range k).filter d))∧((List.range k).filter d=[]→v = .slice none 0 0)∧Below w.heap.size w wr
theorem js_len (d:Nat→Bool) (k:Nat):((List.range k).filter d).length≤k:=by
 have:=List.length_filter_le d (List.range k)
 rw [List.length_range] at this
 exact this
theorem js_no {d:Nat→Bool} {k:Nat} (h:d k=false):(List.range (k+1)).filter d=(List.range k).filter d:=by
 rw [List.range_succ,List.filter_append]
 simp [h]
theorem js_yes {d:Nat→Bool} {k:Nat} (h:d k=true):(List.range (k+1)).filter d=(List.range k).filter d++[k]:=by
 rw [List.range_succ,List.filter_append]
 simp [h]
section
variable {F D:Nat→Prop} {pb fb cb rb db:Nat} {g:Nat→Value} {s:PP}
theorem ptrInfo:(Tryz.prog.info? 90).map (fun i=>(i.zero,i.size,i.bytes))=some (some (.pointer none),1,8):=by kernel_rfl
theorem unw_sorted {w wr w2:World} {v:Value} {gb cap:Nat} {d':Array Nat} {q:Nat} (hm:∀ j∈(List.range s.m).filter s.d,j<s.m) (hr:UnwRel w fb s.d s.m v wr) (hv:v = .slice (some ⟨gb,0,none⟩) ((List.range s.m).filter s.d).length cap)
 (hgb:w.heap.size≤gb) (hH:Sort.Holds (ptrF fb s.m) wr gb 0 ((List.range s.m).filter s.d).toArray) (hp:Sort.PermIn 0 ((List.range s.m).filter s.d).toArray.size ((List.range s.m).filter s.d).toArray d')
 (hs:Sort.SortedIn (ltOf fun x y:Nat=>cmpI (s.sec (x % s.m)) (s.sec (y % s.m))) 0 ((List.range s.m).filter s.d).toArray.size d') (e2:w2=(Sort.putRow (ptrF fb s.m) wr gb 0 d').drewN q) :
 UnwEnd w fb s (.returned v) w2:=by
 generalize hL:(List.range s.m).filter s.d=L at *
 obtain ⟨p1,_,p3⟩:=hp
 have hsz:d'.size=L.length:=by rw [p1];simp
 have hperm:d'.toList.Perm L:=by
  have e1:(d'.extract 0 L.toArray.size)=d':=by
   rw [← p1]
   exact Array.extract_size
  have e3:(L.toArray.extract 0 L.toArray.size)=L.toArray:=Array.extract_size
  rw [e1,e3] at p3
  exact p3
 have hmem:∀ j∈d'.toList,j<s.m:=fun j hj=>hm j (hperm.mem_iff.1 hj)
 have hlen:d'.toList.length=L.length:=by rw [Array.length_toList,hsz]
 have hat:∀ i (h:i<d'.size),d'[i]! = d'.toList[i]'(by simpa using h):=fun i h=>by
  rw [getElem!_pos d' i h]
  simp
 refine ⟨some ⟨gb,0,none⟩,cap,d'.toList,by rw [hv,hlen],Or.inr ⟨gb,rfl,hgb,fun i j hij=>?_⟩,⟨by rw [hL];exact hperm,?_⟩,?_⟩
 ·have hi:i<d'.size:=by
   have:=(List.getElem?_eq_some_iff.1 hij).1
   simpa using this
  have hc:=(Sort.holds_putRow (ptrF fb s.m) wr gb 0 L.toArray d' hH (by rw [hsz];simp) i hi).1
  rw [Nat.zero_add] at hc
  have ej:d'[i]! = j:=by
   rw [hat i hi]
   exact (List.getElem?_eq_some_iff.1 hij).2
  rw [ej] at hc
  rw [e2]
  show (Sort.putRow (ptrF fb s.m) wr gb 0 d').cell? ⟨gb,i,none⟩=_
  rw [hc]
  unfold ptrF
  rw [Nat.mod_eq_of_lt (hmem j (List.mem_of_getElem? hij))]
 ·rw [List.pairwise_iff_getElem]
  intro i j hi hj hij
  have hi':i<d'.size:=by simpa using hi
  have hj':j<d'.size:=by simpa using hj
  have h1:=hs i j (Nat.zero_le _) hij (by rw [← p1];exact hj')
  unfold ltOf at h1
  rw [ltI,hat i hi',hat j hj',Nat.mod_eq_of_lt (hmem _ (List.getElem_mem _)),Nat.mod_eq_of_lt (hmem _ (List.getElem_mem _))] at h1
  simp at h1
  exact h1
 ·rw [e2]
  exact hr.2.2.trans (belowN (below_putRow _ _ _ _ hgb) _)
theorem unwritten_any (w:World) (hm12:s.m≤12) (h:PoolAt w F D pb fb cb rb db g s) :
 Calls Tryz.prog 40 #[.pointer (some ⟨pb,0,none⟩)] w (UnwEnd w fb s):=by
 obtain ⟨i0,hi,hz0,hz1,hz2⟩:=info_parts ptrInfo
 have c1:=h.core.c1
 have hm1:=h.core.m1.1
 have hlp:=h.core.lt _ h.core.fp
 have hlf:=h.core.lt _ h.core.ff
 have H:=Lib.hid h
 clear h
 go_enter Tryz.func40,Tryz.ntmps40
 go_wp2_with fail
 go_loopw [3,11] (fun v i wr=>∃ k:Nat,k≤s.m∧i = .int .i64 k∧Hid (UnwRel w fb s.d k v wr)) (fun _ i _=>s.m - (RowKit.intOf i).toNat)
 case atStart=>exact ⟨0,Nat.zero_le _,rfl,Lib.hid ⟨World.ownsRow_nil _ _ _ _,fun _=>rfl,Below.refl _ _⟩⟩
 case round =>
  obtain ⟨k,hk,rfl,hr⟩:=hrel
  have HP:=Lib.hid (H.out.below hr.out.2.2)
  have c1:wr.cell? ⟨pb,1,none⟩=some (.slice (some ⟨fb,0,none⟩) s.m s.m):=HP.out.core.c1
  by_cases hlt:k<s.m
  ·have d3:=HP.out.s3 hlt
   cases hd:s.d k with
   | false =>
     rw [hd] at d3
     have HN:Hid (UnwRel w fb s.d (k+1) u3 wr):=Lib.hid (by unfold UnwRel;rw [js_no hd];exact hr.out)
     clear hd
     go_wp2_with fail
     go_roundw
     case rel=>exact ⟨k+1,by omega,by go_num,HN⟩
     case measure=>simp [RowKit.intOf];omega
   | true =>
     rw [hd] at d3
     have HD:=Lib.hid hd
     obtain ⟨h1,h2,h3⟩:=hr.out
     have hl:=js_len s.d k
     have bs:=h3.size
     generalize hM:((List.range k).filter s.d).length=M at *
     clear hd h2
     go_wp2_with (at_builtin;refine wpList_append_own _ rfl (.tmp 24) (.tmp 26) 88 rfl w.heap.size 90 i0 (.pointer none) 1 8 Tryz.underlying88 hi hz0 hz1 hz2 rfl (by decide) _ _ _ rfl (h1.alloc _) ⟨wr.heap.size,0,none⟩ 1 1 [.pointer (some ⟨fb,k*4,none⟩)] rfl rfl (cell_one_new _ _ _) (by simp [Value.oneCell']) (by unfold maxLen;omega) (by omega) (by simp;omega) ?_;intro v3 w3 hown3 hg3 _)
     have HN:Hid (UnwRel w fb s.d (k+1) v3 w3):=Lib.hid (by
      unfold UnwRel
      rw [js_yes HD.out]
      refine ⟨?_,fun e=>by simp at e,(h3.alloc bs _).grown hg3 (by simp;omega) (fun g hg=>(h1.lt g hg).1)⟩
      unfold ptrs at hown3 ⊢
      rw [List.length_append,hM,List.map_append]
      exact hown3)
     clear hown3 hg3 h1 h3
     go_wp2_with fail
     go_roundw
     case rel=>exact ⟨k+1,by omega,by go_num,HN⟩
     case measure=>simp [RowKit.intOf];omega
  ·obtain rfl:k=s.m:=by omega
   by_cases h0:(List.range s.m).filter s.d=[]
   ·obtain rfl:=hr.out.2.1 h0
    have HE:Hid (UnwEnd w fb s (.returned (.slice none 0 0)) wr):=Lib.hid ⟨none,0,[],rfl,Or.inl rfl,⟨by rw [h0],List.Pairwise.nil⟩,hr.out.2.2⟩
    clear hr h0
    go_wp2_with fail
    refine (sortF_none _ _).mono ?_
    rintro e w2 ⟨rfl,rfl⟩
    go_wp2_with fail
    go_ret
    exact HE.out
   ·have hmem:∀ j∈(List.range s.m).filter s.d,j<s.m:=fun j hj=>List.mem_range.1 (List.mem_filter.1 hj).1
    have hl:=js_len s.d s.m
    have hpos:0<((List.range s.m).filter s.d).length:=List.length_pos_iff.2 h0
    have hrow:=hr.out.1
    obtain ⟨gb,cap,e3,hgb⟩:∃ gb cap,u3 = .slice (some ⟨gb,0,none⟩) ((List.range s.m).filter s.d).length cap∧w.heap.size≤gb:=by
     rcases hrow.2 with ⟨_,h0⟩ | ⟨gb,cap,cur,e,hb,_⟩
     ·omega
     ·exact ⟨gb,cap,e,hb⟩
    have HR:=hr
    rw [e3] at hrow
    have hH:Sort.Holds (ptrF fb s.m) wr gb 0 ((List.range s.m).filter s.d).toArray:=fun j hj=>by
     have hj':j<((List.range s.m).filter s.d).length:=by simpa using hj
     refine ⟨?_,hrow.frozenAt _⟩
     rw [Nat.zero_add,hrow.cellAt j (by omega)]
     unfold ptrs ptrF
     rw [getElem!_pos _ j hj,List.getElem?_map,List.getElem?_eq_getElem hj']
     simp only [Option.map_some,List.getElem_toArray]
     rw [Nat.mod_eq_of_lt (hmem _ (List.getElem_mem _))]
    have HS:=Lib.hid (sortF_any fb s.m gb cap s.sec ((List.range s.m).filter s.d).toArray wr hm1 (fun i hi=>HP.out.s1 hi) (by omega) hH (by simp;omega))
    have HM:=Lib.hid hmem
    have HH:=Lib.hid hH
    have HE:=Lib.hid e3
    have HB:=Lib.hid hgb
    rw [List.size_toArray] at HS
    subst e3
    clear hr hrow hH hpos h0 hmem
    generalize hN:((List.range s.m).filter s.d).length=N at *
    go_wp2_with fail
    refine HS.out.mono ?_
    rintro e w2 ⟨rfl,d',q,hp,hs,hw⟩
    have HU:=Lib.hid (unw_sorted (w2:=w2) (cap:=cap) HM.out HR.out (by rw [hN]) HB.out HH.out (by rw [List.size_toArray,hN];exact hp) (by rw [List.size_toArray,hN];exact hs) hw)
    clear hp hs hw
    go_wp2_with fail
    go_ret
    exact HU.out
end
end Go.Proofs.YtccphijgcapeoaaGreat
/-
  What the pool's Flush comes to.
-/
namespace Go.Proofs.YtccphijgcapeoaaGreat
open Go.RowKit
def PP.washL:List Nat→PP→Int×PP
 | [],s=>(0,s)
 | j::js,s=>if (s.writeA j).1=0 then washL js (s.writeA j).2 else s.writeA j
def PP.flushA (s:PP) (js:List Nat):Int×PP :=
 if (s.washL js).1=0 then ((s.washL js).2.k.flushE,{ (s.washL js).2 with k:=(s.washL js).2.k.flushed }) else s.washL js
def FlushEnd (w:World) (F:Nat→Prop) (pb fb cb rb db:Nat) (s:PP) (e:Ending) (w':World):Prop :=
 ∃ js,Js s js∧PEnd w F pb fb cb rb db (s.flushA js).2 (.int .i64 (s.flushA js).1) e w'
def WashRel (w:World) (F:Nat→Prop) (pb fb cb rb db:Nat) (s:PP) (js:List Nat) (q:Nat) (wr:World):Prop :=
 ∃ F' D' g' t,PoolAt wr F' D' pb fb cb rb db g' t∧Moves w F wr F'∧t.washL (js.drop q)=s.washL js∧t.at_=s.at_∧t.m=s.m
section
variable {F D:Nat→Prop} {pb fb cb rb db:Nat} {g:Nat→Value} {s:PP}
theorem Js.mem {js:List Nat} (h:Js s js) {q j:Nat} (hq:js[q]?=some j):j<s.m∧s.d j=true:=by
 have h1:=h.perm.mem_iff.1 (List.mem_of_getElem? hq)
 rw [List.mem_filter] at h1
 exact ⟨List.mem_range.1 h1.1,h1.2⟩
theorem pflush_any (w:World) (hm12:s.m≤12) (h:PoolAt w F D pb fb cb rb db g s) :
 Calls Tryz.prog 17 #[.pointer (some ⟨pb,0,none⟩)] w (FlushEnd w F pb fb cb rb db s):=by
 have H:=Lib.hid h
 have HM:=Lib.hid (made_yes w pb db h.core.c0)
 have HU:=Lib.hid (unwritten_any w hm12 h)
 clear h
 go_enter Tryz.func17,Tryz.ntmps17
 go_wp2_with fail
 refine HM.out.mono ?_
 rintro e w' ⟨rfl,rfl⟩
 clear HM
 go_wp2_with fail
 refine HU.out.mono ?_
 rintro e w1 ⟨A,c,js,rfl,hp,hj,hb⟩
 have HP:=Lib.hid hp
 have HJ:=Lib.hid hj
 have HB:=Lib.hid hb
 have hlen:js.length≤12:=by
  have:=hj.perm.length_eq
  have:=js_len s.d s.m
  omega
 have H1:=Lib.hid (H.out.below hb)
 obtain ⟨N,hN⟩:∃ N,js.length=N:=⟨_,rfl⟩
 have HN:=Lib.hid hN
 rw [hN] at hlen
 rw [hN]
 clear hp hj hb HU hN
 go_wp2_with fail
 go_loopw [12] (fun i wr=>∃ q:Nat,q≤N∧i = .int .i64 q∧Hid (WashRel w1 F pb fb cb rb db s js q wr)) (fun i _=>N - (RowKit.intOf i).toNat)
 case atStart=>exact ⟨0,Nat.zero_le _,rfl,Lib.hid ⟨F,D,g,s,H1.out,Moves.refl _ _,rfl,rfl,rfl⟩⟩
 case round =>
  obtain ⟨q,hq,rfl,hr⟩:=hrel
  obtain ⟨F',D',g',t,ht,hm,hw,ha,hmm⟩:=hr.out
  by_cases hlt:q<N
  ·have hlq:q<js.length:=by rw [HN.out];exact hlt
   obtain ⟨j,hJ⟩:∃ j,js[q]'hlq=j:=⟨_,rfl⟩
   have hqj:js[q]?=some j:=by rw [← hJ];exact List.getElem?_eq_getElem hlq
   obtain ⟨j1,j2⟩:=HJ.out.mem hqj
   have hat:t.at_ j ≠ -1:=by
    rw [ha]
    intro e
    have:=H.out.fit.vd j j1 e
    rw [j2] at this
    cases this
   have hjt:j<t.m:=by rw [hmm];exact j1
   have hdrop:js.drop q=j::js.drop (q+1):=by
    rw [List.drop_eq_getElem_cons hlq,hJ]
   obtain ⟨b,hA,hbb,hbc⟩:∃ b,A=some ⟨b,0,none⟩∧w.heap.size≤b∧∀ i j,js[i]?=some j→w1.cell? ⟨b,i,none⟩=some (.pointer (some ⟨fb,j*4,none⟩)):=by
    rcases HP.out with e | e
    ·rw [e] at hlq
     exact absurd hlq (by simp)
    ·exact e
   have hcell:wr.cell? ⟨b,q,none⟩=some (.pointer (some ⟨fb,j*4,none⟩)):=by
    have h0:=hbc q j hqj
    have hlb:=World.block_lt_of_cell? _ _ h0
    have hnF:¬ F b:=fun hF=>by
     have:=H.out.core.lt b hF
     omega
    exact (World.cell?_of_block (w:=w1) (hm.block hlb hnF).1).trans h0
   have HW:=Lib.hid (pwrite_any wr j hjt hat ht)
   have HM1:=Lib.hid hm
   obtain ⟨a1,a2,_⟩:=writeA_at t j
   have HA:=Lib.hid (a1.trans ha)
   have HMM:=Lib.hid (a2.trans hmm)
   rw [hdrop] at hw
   have HWL:Hid ((if (t.writeA j).1=0 then PP.washL (js.drop (q+1)) (t.writeA j).2 else t.writeA j)=s.washL js):=hw
   subst hA
   clear hr ht hm hw ha hmm hqj hJ j1 j2 hat hjt hdrop hbc hbb a1 a2 hlq
   go_wp2_with fail
   refine HW.out.mono ?_
   rintro e w2 ⟨rfl,F2,D2,g2,p2,m2⟩
   have P2:=Lib.hid p2
   have M2:=Lib.hid m2
   clear p2 m2 HW hcell
   by_cases hE:(t.writeA j).1=0
   ·have HE:Hid (PP.washL (js.drop (q+1)) (t.writeA j).2=s.washL js):=Lib.hid (by rw [← HWL.out,if_pos hE])
    rw [hE]
    clear hE HWL
    go_wp2_with fail
    go_roundw
    case rel=>exact ⟨q+1,by omega,by go_num,Lib.hid ⟨F2,D2,g2,_,P2.out,HM1.out.trans M2.out,HE.out,HA.out,HMM.out⟩⟩
    case measure=>simp [RowKit.intOf];omega
   ·have hb:((t.writeA j).1 != 0)=true:=by rw [bne_iff_ne];exact hE
    have HE:Hid (s.flushA js=t.writeA j):=Lib.hid (by
     unfold PP.flushA
     rw [← HWL.out,if_neg hE,if_neg hE])
    clear hE HWL
    go_wp2_with fail
    go_ret
    refine ⟨js,HJ.out,?_⟩
    rw [HE.out]
    exact ⟨rfl,F2,D2,g2,P2.out,((Moves.of_below HB.out).trans HM1.out).trans M2.out⟩
  ·obtain rfl:q=N:=by omega
   rw [List.drop_eq_nil_of_le (by rw [HN.out];exact Nat.le_refl _)] at hw
   have HE:Hid (s.flushA js=(t.k.flushE,{ t with k:=t.k.flushed })):=Lib.hid (by
    unfold PP.flushA
    rw [← hw]
    rfl)
   have HT:=Lib.hid ht
   have c0:=ht.core.c0
   have HM1:=Lib.hid hm
   clear hr ht hm hw ha hmm
   go_wp2_with fail
   refine (flush_any wr HT.out.core.dk).mono ?_
   rintro e w2 ⟨rfl,D2,hd2,hN2,hk2⟩
   have P2:=Lib.hid (HT.out.disk (PS.flushed_size _) hd2 hN2 hk2)
   have M2:=Lib.hid (Moves.new (hk2.more (fun k hD=>HT.out.core.fd k hD)))
   clear hd2 hN2 hk2 c0
   go_wp2_with fail
   go_ret
   refine ⟨js,HJ.out,?_⟩
   rw [HE.out]
   exact ⟨rfl,_,D2,g',P2.out,((Moves.of_below HB.out).trans HM1.out).trans M2.out⟩
end
end Go.Proofs.YtccphijgcapeoaaGreat
/-
  The disk of a pool.
-/
namespace Go.Proofs.YtccphijgcapeoaaGreat
open Go.RowKit
section
variable {F D:Nat→Prop} {pb fb cb rb db:Nat} {g:Nat→Value} {s:PP}
theorem disk_any (w:World) (h:PoolAt w F D pb fb cb rb db g s) :
 Calls Tryz.prog 25 #[.pointer (some ⟨pb,0,none⟩)] w fun e w'=>e = .returned (.pointer (some ⟨db,0,none⟩))∧w=w':=by
 have c0:=h.core.c0
 have HM:=Lib.hid (made_yes w pb db c0)
 clear h
 go_enter Tryz.func25,Tryz.ntmps25
 go_wp2_with fail
 refine HM.out.mono ?_
 rintro e w' ⟨rfl,rfl⟩
 go_wp2_with fail
 go_ret
 exact ⟨rfl,rfl⟩
end
end Go.Proofs.YtccphijgcapeoaaGreat
/-
  A pool in the midst of a law: what lies outside of it stays. What is got of it behind a flush.
-/
namespace Go.Proofs.YtccphijgcapeoaaGreat
open Go.RowKit
namespace PP
theorem Holds.writeA {s:PP} {f:Int→List UInt8} (h:Holds s f) {i:Nat} (hi:i<s.m) (hne:s.at_ i ≠ -1) :
 (s.writeA i).1=0∧Holds (s.writeA i).2 f∧(s.writeA i).2.m=s.m∧(s.writeA i).2.k.size=s.k.size∧(s.writeA i).2.c=s.c∧(s.writeA i).2.at_=s.at_∧∀ j,(s.writeA i).2.d j=if j=i then false else s.d j:=by
 unfold PP.writeA
 cases hd:s.d i with
 | true =>
   obtain ⟨w1,_,_,_⟩:=h.wrote hi hne
   obtain ⟨k1,k2⟩:=h.washed hi hne
   simp only [if_true,w1]
   exact ⟨trivial,k1,rfl,k2,rfl,rfl,fun _=>rfl⟩
 | false =>
   simp only [Bool.false_eq_true,if_false]
   refine ⟨trivial,h,trivial,trivial,trivial,trivial,fun j=>?_⟩
   split
   ·rename_i e
    rw [e,hd]
   ·rfl
theorem Holds.washL {f:Int→List UInt8}:∀ (js:List Nat) (s:PP),Holds s f→(∀ j∈js,j<s.m∧s.at_ j ≠ -1) →
 (s.washL js).1=0∧Holds (s.washL js).2 f∧(s.washL js).2.m=s.m∧(s.washL js).2.k.size=s.k.size∧(s.washL js).2.c=s.c∧(s.washL js).2.at_=s.at_∧∀ j,(s.washL js).2.d j=if j∈js then false else s.d j
 | [],s,h,_=>⟨rfl,h,rfl,rfl,rfl,rfl,fun _=>rfl⟩
 | i::js,s,h,hj=>by
   obtain ⟨i1,i2⟩:=hj i (by simp)
   obtain ⟨a1,a2,a3,a4,a5,a6,a7⟩:=h.writeA i1 i2
   obtain ⟨b1,b2,b3,b4,b5,b6,b7⟩:=Holds.washL js (s.writeA i).2 a2 (fun j hm=>by
    rw [a3,a6]
    exact hj j (by simp [hm]))
   have e:s.washL (i::js)=(s.writeA i).2.washL js:=by
    show (if (s.writeA i).1=0 then _ else _)=_
    rw [if_pos a1]
   rw [e]
   refine ⟨b1,b2,b3.trans a3,b4.trans a4,b5.trans a5,b6.trans a6,fun j=>?_⟩
   rw [b7,a7]
   by_cases e1:j∈js
   ·rw [if_pos e1,if_pos (by simp [e1])]
   ·rw [if_neg e1]
    by_cases e2:j=i
    ·rw [if_pos e2,if_pos (by simp [e2])]
    ·rw [if_neg e2,if_neg (by simp [e1,e2])]
structure FlushedA (s:PP) (f:Int→List UInt8) (t:PP):Prop where
 holds:Holds t f
 m_:t.m=s.m
 size:t.k.size=s.k.size
 c_:t.c=s.c
 at_:t.at_=s.at_
 clean:∀ j,j<s.m→t.d j=false
 waits:t.k.W=fun _=>none
 lasts:∀ n,s.k.has n=true→t.k.L n=f n
theorem Holds.flushA {s:PP} {f:Int→List UInt8} (h:Holds s f) (hv:∀ i,i<s.m→s.at_ i = -1→s.d i=false) {js:List Nat} (hj:Js s js):(s.flushA js).1=0∧FlushedA s f (s.flushA js).2:=by
 have hm:∀ j,j∈js ↔ j<s.m∧s.d j=true:=fun j=>by
  rw [hj.perm.mem_iff,List.mem_filter,List.mem_range]
 obtain ⟨b1,b2,b3,b4,b5,b6,b7⟩:=h.washL js s (fun j hm'=>by
  obtain ⟨j1,j2⟩:=(hm j).1 hm'
  exact ⟨j1,fun e=>by rw [hv j j1 e] at j2;cases j2⟩)
 have hd:∀ j,j<s.m→(s.washL js).2.d j=false:=fun j hjm=>by
  rw [b7]
  split
  ·rfl
  ·rename_i hn
   cases hdj:s.d j with
   | false=>rfl
   | true=>exact absurd ((hm j).2 ⟨hjm,hdj⟩) hn
 obtain ⟨f1,f2⟩:=b2.well.flush
 unfold PP.flushA
 rw [if_pos b1]
 generalize (s.washL js).2=r at *
 refine ⟨f1,⟨by rw [f2];exact b2.well.all,b2.cn,b2.ch,?_,b2.inj,b2.hand,?_,?_,b2.len⟩,b3,?_,b5,b6,hd,?_,?_⟩
 ·show ∀ i,i<r.m→_∨r.k.flushed.has _=true
  rw [f2]
  exact b2.rng
 ·show ∀ i,i<r.m→r.at_ i ≠ -1→r.d i=false→r.k.flushed.held _=_
  rw [f2]
  intro i hi hne hd
  rw [PS.all_held]
  exact b2.clean i hi hne hd
 ·show ∀ n,r.k.flushed.has n=true→_→r.k.flushed.held n=_
  rw [f2]
  intro n hn ho
  rw [PS.all_held]
  exact b2.out n hn ho
 ·show r.k.flushed.size=_
  rw [f2]
  exact b4
 ·show r.k.flushed.W=_
  rw [f2]
  rfl
 ·intro n hn
  show r.k.flushed.L n=f n
  rw [f2]
  show r.k.held n=f n
  have hk:r.k.has n=true:=by
   rw [r.k.has_at,b4]
   exact (s.k.has_at n).1 hn
  by_cases e:∃ i,i<r.m∧r.at_ i=n
  ·obtain ⟨i,hi,rfl⟩:=e
   exact b2.clean i hi (has_ne hk) (hd i (by rw [← b3];exact hi))
  ·exact b2.out n hk (fun i hi e'=>e ⟨i,hi,e'⟩)
end PP
structure PLive (W:World) (F:Nat→Prop) (w:World) (pb db:Nat) (s:PP):Prop where
 at_:∃ D fb cb rb g,PoolAt w F D pb fb cb rb db g s
 base:∀ k,F k→W.heap.size≤k
 below:Below W.heap.size W w
def PLGoes (W:World) (F:Nat→Prop) (w:World) (pb db:Nat) (s':PP) (v:Value) (e:Ending) (w':World):Prop :=
 e = .returned v∧∃ F',PLive W F' w' pb db s'∧Moves w F w' F'
section
variable {W w w':World} {F F':Nat→Prop} {pb db:Nat} {s s':PP}
theorem PLive.le (h:PLive W F w pb db s):W.heap.size≤w.heap.size:=h.below.size
theorem PLive.lt (h:PLive W F w pb db s):∀ k,F k→k<w.heap.size:=by
 obtain ⟨D,fb,cb,rb,g,h⟩:=h.at_
 exact h.core.lt
theorem PLive.fit (h:PLive W F w pb db s):Fit s:=by
 obtain ⟨D,fb,cb,rb,g,h⟩:=h.at_
 exact h.fit
theorem PLive.next (h:PLive W F w pb db s) (hb:Below w.heap.size w w'):PLive W F w' pb db s:=by
 obtain ⟨⟨D,fb,cb,rb,g,h0⟩,h1,h2⟩:=h
 exact ⟨⟨D,fb,cb,rb,g,h0.below hb⟩,h1,h2.trans (hb.mono h2.size)⟩
theorem PLive.other {G G':Nat→Prop} (h:PLive W F w pb db s) (hm:Moves w G w' G') (hG:∀ k,F k→¬ G k) (hb:Below W.heap.size W w'):PLive W F w' pb db s:=by
 obtain ⟨⟨D,fb,cb,rb,g,h0⟩,h1,h2⟩:=h
 exact ⟨⟨D,fb,cb,rb,g,h0.kept hm.kept hG⟩,h1,hb⟩
theorem PLive.moved {D':Nat→Prop} {fb cb rb:Nat} {g':Nat→Value} (h:PLive W F w pb db s) (p:PoolAt w' F' D' pb fb cb rb db g' s') (m:Moves w F w' F'):PLive W F' w' pb db s' :=
 ⟨⟨D',fb,cb,rb,g',p⟩,fun k hk=>by
   rcases m.news k hk with e | e
   ·exact h.base k e
   ·exact Nat.le_trans h.le e,h.below.trans (m.kept.toBelow h.base h.le)⟩
theorem PLive.ends {fb cb rb:Nat} {v:Value} {e:Ending} (h:PLive W F w pb db s) (p:PEnd w F pb fb cb rb db s' v e w'):PLGoes W F w pb db s' v e w':=by
 obtain ⟨he,F',D',g',p,m⟩:=p
 exact ⟨he,F',h.moved p m,m⟩
theorem PLive.disk (h:PLive W F w pb db s):∃ D,Live W D w db s.k:=by
 obtain ⟨⟨D,fb,cb,rb,g,h0⟩,h1,h2⟩:=h
 exact ⟨D,h0.core.dk,fun k hk=>h1 k (h0.core.fd k hk),h2⟩
theorem put_live (w:World) (n:Int) (h1 : -9223372036854775808≤n) (h2:n≤9223372036854775807) (A:Option Addr) (m c:Nat) (l:List UInt8) (hl:l.length=m) (hx:Out w F A l) (hz:A=none→m=0∧c=0) (h:PLive W F w pb db s) :
 Calls Tryz.prog 180 #[.pointer (some ⟨pb,0,none⟩),.int .i64 n,.slice A m c] w (PLGoes W F w pb db (s.put n l).2 (.int .i64 (s.put n l).1)):=by
 obtain ⟨D,fb,cb,rb,g,p⟩:=h.at_
 exact (put_any w n h1 h2 A m c l hl hx hz p).mono fun _ _ e=>h.ends e
def LGet (W:World) (F:Nat→Prop) (w:World) (pb db:Nat) (s':PP) (l:List UInt8) (err:Int) (e:Ending) (w':World):Prop :=
 ∃ A c F',e = .returned (.tuple #[.slice A l.length c,.int .i64 err])∧Out w' F' A l∧Own w' w.heap.size (.slice A l.length c) l∧PLive W F' w' pb db s'∧Moves w F w' F'∧l.length≤1024
theorem get_live (w:World) (n:Int) (h1 : -9223372036854775808≤n) (h2:n≤9223372036854775807) (h:PLive W F w pb db s) :
 Calls Tryz.prog 84 #[.pointer (some ⟨pb,0,none⟩),.int .i64 n] w (LGet W F w pb db (s.get n).2.2 (s.get n).2.1 (s.get n).1):=by
 obtain ⟨D,fb,cb,rb,g,p⟩:=h.at_
 refine (get_any w n h1 h2 p).mono ?_
 rintro e w' ⟨A,c,F',D',g',he,p',m,o,x,hl⟩
 exact ⟨A,c,F',he,x,o,h.moved p' m,m,hl⟩
def LFlush (W:World) (F:Nat→Prop) (w:World) (pb db:Nat) (s:PP) (e:Ending) (w':World):Prop :=
 ∃ js,Js s js∧PLGoes W F w pb db (s.flushA js).2 (.int .i64 (s.flushA js).1) e w'
theorem pflush_live (w:World) (hm:s.m≤12) (h:PLive W F w pb db s) :
 Calls Tryz.prog 17 #[.pointer (some ⟨pb,0,none⟩)] w (LFlush W F w pb db s):=by
 obtain ⟨D,fb,cb,rb,g,p⟩:=h.at_
 refine (pflush_any w hm p).mono ?_
 rintro e w' ⟨js,hj,hp⟩
 exact ⟨js,hj,h.ends hp⟩
theorem pdisk_live (w:World) (h:PLive W F w pb db s) :
 Calls Tryz.prog 25 #[.pointer (some ⟨pb,0,none⟩)] w fun e w'=>e = .returned (.pointer (some ⟨db,0,none⟩))∧w=w':=by
 obtain ⟨D,fb,cb,rb,g,p⟩:=h.at_
 exact disk_any w p
def LPool (W:World) (D:Nat→Prop) (w:World) (db:Nat) (k:PS) (n:Nat) (e:Ending) (w':World):Prop :=
 ∃ pb F,e = .returned (.tuple #[.pointer (some ⟨pb,0,none⟩),.int .i64 0])∧PLive W F w' pb db (PP.new k n)∧Moves w D w' F∧Below w.heap.size w w'
theorem pnew_live {D:Nat→Prop} {k:PS} (w:World) (n:Nat) (h1:1≤n) (h2:n≤1000) (h:Live W D w db k) :
 Calls Tryz.prog 33 #[.pointer (some ⟨db,0,none⟩),.int .i64 n] w (LPool W D w db k n):=by
 refine (pnew_any w n k h1 h2 h.dk).mono ?_
 rintro e w' ⟨pb,fb,cb,rb,g,F,he,p,m,hb⟩
 exact ⟨pb,F,he,⟨⟨D,fb,cb,rb,g,p⟩,fun b hb'=>by
  rcases m.news b hb' with e | e
  ·exact h.base b e
  ·exact Nat.le_trans h.le e,h.below.trans (hb.mono h.le)⟩,m,hb⟩
end
end Go.Proofs.YtccphijgcapeoaaGreat
/-
  What Pin comes to, out of fetch; what the first calls of the laws come to. Nothing here walks.
-/
namespace Go.Proofs.YtccphijgcapeoaaGreat
open Go.RowKit
namespace PP
end PP
structure Free (s:PP) (f:Int→List UInt8) (m z:Nat):Prop where
 holds:PP.Holds s f
 p_:∀ j,s.c.p j=0
 m_:s.m=m
 size:s.k.size=z
theorem free_new {k:PS} (hk:k.Well) (ho:k.Ok) {m z:Nat} (hm:1≤m) (hz:k.size=z):Free (PP.new k m) k.held m z:=⟨PP.Holds.new hk ho hm,fun _=>rfl,rfl,hz⟩
theorem Free.put {s:PP} {f:Int→List UInt8} {m z:Nat} (h:Free s f m z) {n:Int} (h0:0≤n) (h1:n<z) {l:List UInt8} (hl:l.length≤1024):(s.put n l).1=0∧Free (s.put n l).2 (PP.upd f n l) m z:=by
 obtain ⟨t,e,h2,h3,h4,h5⟩:=h.holds.put ((s.k.has_at n).2 ⟨h0,by rw [h.size];exact h1⟩) hl (fun _ _=>h.holds.loose h.p_)
 rw [e]
 exact ⟨rfl,h2,fun j=>by rw [h5];exact h.p_ j,h3.trans h.m_,h4.trans h.size⟩
theorem Free.get {s:PP} {f:Int→List UInt8} {m z:Nat} (h:Free s f m z) {n:Int} (h0:0≤n) (h1:n<z):(s.get n).1=0∧(s.get n).2.1=f n∧Free (s.get n).2.2 f m z:=by
 obtain ⟨i,t,g⟩:=h.holds.get ((s.k.has_at n).2 ⟨h0,by rw [h.size];exact h1⟩) (fun _ _=>h.holds.loose h.p_)
 rw [g.eq]
 exact ⟨rfl,rfl,g.holds,fun j=>by rw [g.p_];exact h.p_ j,g.m_.trans h.m_,g.size.trans h.size⟩
theorem Free.flush {s:PP} {f:Int→List UInt8} {m z:Nat} (h:Free s f m z) (hv:Fit s) {js:List Nat} (hj:Js s js):(s.flushA js).1=0∧Free (s.flushA js).2 f m z∧PP.FlushedA s f (s.flushA js).2:=by
 obtain ⟨e,k⟩:=h.holds.flushA hv.vd hj
 exact ⟨e,⟨k.holds,fun j=>by rw [k.c_];exact h.p_ j,k.m_.trans h.m_,k.size.trans h.size⟩,k⟩
theorem new_well (n:Nat):(PS.new n).Well:=⟨rfl,rfl⟩
theorem new_ok (n:Nat):(PS.new n).Ok:=⟨fun _ h=>absurd rfl h,fun _ h=>absurd rfl h,fun _=>by show (0:Nat)≤1024;omega,fun _ _ h=>by cases h⟩
end Go.Proofs.YtccphijgcapeoaaGreat
/-
  Lists, nodes and nodes in pages that lie outside of some blocks; what is meant by a tree in memory.
-/
namespace Go.Proofs.YtccphijgcapeoaaGreat
open Go.RowKit Go.Maps
structure LnO (w:World) (F:Nat→Prop) (sz:Nat) (A:Option Addr) (n c:Nat) (cs:List Value):Prop where
 ln:Ln w sz A n c cs
 out:0<n→∀ ad,A=some ad→¬ F ad.block
theorem add_block (ad:Addr) (j:Nat):(ad.add j).block=ad.block:=by unfold Addr.add;split<;>rfl
section
variable {w w':World} {F F':Nat→Prop} {sz:Nat} {A:Option Addr} {n c:Nat} {cs:List Value}
theorem Ln.lt (h:Ln w sz A n c cs) (h0:0<n*sz) {ad:Addr} (e:A=some ad):ad.block<w.heap.size:=by
 have hl:=h.len
 have h1:=h.lies.2 ad e 0 (cs[0]'(by omega)) (by simp)
 have h2:=World.block_lt_of_cell? _ _ h1
 rwa [add_block] at h2
theorem Ln.moved (h:Ln w sz A n c cs) (_hs:0<sz) (f:0<n→∀ ad,A=some ad→w'.heap[ad.block]?=w.heap[ad.block]?):Ln w' sz A n c cs:=by
 refine ⟨h.len,h.le,h.lies.1,fun ad e j u hu=>?_⟩
 have hl:=h.len
 have hj:=(List.getElem?_eq_some_iff.1 hu).1
 have hn:0<n:=by
  rcases Nat.eq_zero_or_pos n with h0 | h0
  ·rw [h0] at hl
   omega
  ·exact h0
 rw [World.cell?_of_block (w:=w) (by rw [add_block];exact f hn ad e)]
 exact h.lies.2 ad e j u hu
theorem LnO.moves (h:LnO w F sz A n c cs) (hs:0<sz) (m:Moves w F w' F'):LnO w' F' sz A n c cs:=by
 have hlt:0<n→∀ ad,A=some ad→ad.block<w.heap.size:=fun hn ad e=>h.ln.lt (Nat.mul_pos hn hs) e
 refine ⟨h.ln.moved hs (fun hn ad e=>m.kept.block _ (hlt hn ad e) (h.out hn ad e)),fun hn ad e h'=>?_⟩
 rcases m.news _ h' with h1 | h1
 ·exact h.out hn ad e h1
 ·have:=hlt hn ad e
  omega
theorem LnO.kept (h:LnO w F sz A n c cs) (hb:Below w.heap.size w w'):LnO w' F sz A n c cs:=⟨h.ln.kept hb,h.out⟩
theorem LnO.of_hi {base:Nat} (h:Ln w sz A n c cs) (hi:NHi base A) (hF:∀ k,F k→k<base):LnO w F sz A n c cs :=
 ⟨h,fun _ ad e hk=>by have:=hi ad e;have:=hF _ hk;omega⟩
theorem LnO.none_ (w:World) (F:Nat→Prop) (sz:Nat):LnO w F sz none 0 0 []:=⟨Ln.none_ w sz,fun h=>absurd h (by omega)⟩
theorem LnO.fewer {G:Nat→Prop} (h:LnO w F sz A n c cs) (hG:∀ k,G k→F k):LnO w G sz A n c cs:=⟨h.ln,fun hn ad e hk=>h.out hn ad e (hG _ hk)⟩
end
structure NdO (w:World) (F:Nat→Prop) (A:Option Addr) (n c:Nat) (B:Option Addr) (m d:Nat) (C:Option Addr) (k e:Nat) (s:ND):Prop where
 ke:LnO w F 1 A n c (strVals s.keys)
 va:LnO w F 1 B m d (strVals s.vals)
 ki:LnO w F 1 C k e (intVals s.kids)
structure NV where
 A:Option Addr
 n:Nat
 c:Nat
 B:Option Addr
 m:Nat
 d:Nat
 C:Option Addr
 k:Nat
 e:Nat
 s:ND
namespace NV
def ok (x:NV) (w:World) (F:Nat→Prop):Prop:=NdO w F x.A x.n x.c x.B x.m x.d x.C x.k x.e x.s
def cells (x:NV):List Value:=[.bool x.s.leaf,.slice x.A x.n x.c,.slice x.B x.m x.d,.slice x.C x.k x.e]
def val (x:NV):Value := .agg #[.bool x.s.leaf,.slice x.A x.n x.c,.slice x.B x.m x.d,.slice x.C x.k x.e]
def zero:NV:=⟨none,0,0,none,0,0,none,0,0,ND.zero⟩
end NV
section
variable {w w':World} {F F':Nat→Prop} {A B C:Option Addr} {n c m d k e:Nat} {s:ND}
theorem NdO.nd (h:NdO w F A n c B m d C k e s):Nd w A n c B m d C k e s:=⟨h.ke.ln,h.va.ln,h.ki.ln⟩
theorem NdO.moves (h:NdO w F A n c B m d C k e s) (g:Moves w F w' F'):NdO w' F' A n c B m d C k e s:=⟨h.ke.moves Nat.one_pos g,h.va.moves Nat.one_pos g,h.ki.moves Nat.one_pos g⟩
theorem NdO.kept (h:NdO w F A n c B m d C k e s) (hb:Below w.heap.size w w'):NdO w' F A n c B m d C k e s:=⟨h.ke.kept hb,h.va.kept hb,h.ki.kept hb⟩
theorem NdO.fewer {G:Nat→Prop} (h:NdO w F A n c B m d C k e s) (hG:∀ k,G k→F k):NdO w G A n c B m d C k e s:=⟨h.ke.fewer hG,h.va.fewer hG,h.ki.fewer hG⟩
theorem NdO.zero (w:World) (F:Nat→Prop):NdO w F none 0 0 none 0 0 none 0 0 ND.zero:=⟨LnO.none_ w F 1,LnO.none_ w F 1,LnO.none_ w F 1⟩
theorem ndo_of {base:Nat} {v:Value} (h:NdV w base v s) (hF:∀ k,F k→k<base):∃ x:NV,v=x.val∧x.ok w F∧x.s=s:=by
 obtain ⟨A,n,c,B,m,d,C,k,e,rfl,h,h1,h2,h3⟩:=h
 exact ⟨⟨A,n,c,B,m,d,C,k,e,s⟩,rfl,⟨LnO.of_hi h.ke h1 hF,LnO.of_hi h.va h2 hF,LnO.of_hi h.ki h3 hF⟩,rfl⟩
theorem NV.ok.moves {x:NV} (h:x.ok w F) (g:Moves w F w' F'):x.ok w' F':=NdO.moves h g
theorem NV.ok.kept {x:NV} (h:x.ok w F) (hb:Below w.heap.size w w'):x.ok w' F:=NdO.kept h hb
theorem NV.ok.fewer {x:NV} {G:Nat→Prop} (h:x.ok w F) (hG:∀ k,G k→F k):x.ok w G:=NdO.fewer h hG
theorem NV.ok.nd {x:NV} (h:x.ok w F):Nd w x.A x.n x.c x.B x.m x.d x.C x.k x.e x.s:=NdO.nd h
theorem NV.zero_ok (w:World) (F:Nat→Prop):NV.zero.ok w F:=NdO.zero w F
end
structure LV where
 pg:Int
 x:NV
namespace LV
def cells (l:LV):List Value := .int .i64 l.pg::l.x.cells
def val (l:LV):Value := .agg #[.int .i64 l.pg,.bool l.x.s.leaf,.slice l.x.A l.x.n l.x.c,.slice l.x.B l.x.m l.x.d,.slice l.x.C l.x.k l.x.e]
def at_ (l:LV):Int×ND:=(l.pg,l.x.s)
def zero:LV:=⟨0,NV.zero⟩
end LV
structure SV where
 l:LV
 kid:Nat
namespace SV
def cells (s:SV):List Value:=s.l.cells++[.int .i64 ((s.kid:Nat):Int)]
def val (s:SV):Value := .agg #[.int .i64 s.l.pg,.bool s.l.x.s.leaf,.slice s.l.x.A s.l.x.n s.l.x.c,.slice s.l.x.B s.l.x.m s.l.x.d,.slice s.l.x.C s.l.x.k s.l.x.e,.int .i64 ((s.kid:Nat):Int)]
def st (s:SV):TS.St:=⟨s.l.pg,s.l.x.s,s.kid⟩
end SV
structure NodesAt (w:World) (F:Nat→Prop) (A:Option Addr) (n c:Nat) (l:List NV):Prop where
 ln:LnO w F 4 A n c (l.flatMap NV.cells)
 ok:∀ x∈l,x.ok w F
structure LdAt (w:World) (F:Nat→Prop) (A:Option Addr) (n c:Nat) (l:List LV):Prop where
 ln:LnO w F 5 A n c (l.flatMap LV.cells)
 ok:∀ x∈l,x.x.ok w F
structure StepsAt (w:World) (F:Nat→Prop) (A:Option Addr) (n c:Nat) (l:List SV):Prop where
 ln:LnO w F 6 A n c (l.flatMap SV.cells)
 ok:∀ x∈l,x.l.x.ok w F
theorem flat_len {α:Type} {f:α→List Value} {k:Nat} (h:∀ x,(f x).length=k):∀ l:List α,(l.flatMap f).length=l.length*k
 | []=>by simp
 | x::l=>by
   rw [List.flatMap_cons,List.length_append,h,flat_len h l,List.length_cons,Nat.succ_mul]
   omega
theorem flat_at {α:Type} {f:α→List Value} {k:Nat} (h:∀ x,(f x).length=k):∀ (l:List α) (i:Nat) (x:α) (j:Nat),l[i]?=some x→j<k→(l.flatMap f)[i*k+j]?=(f x)[j]?
 | [],i,x,j,hx,_=>by simp at hx
 | y::l,0,x,j,hx,hj=>by
   obtain rfl:y=x:=by simpa using hx
   rw [List.flatMap_cons,Nat.zero_mul,Nat.zero_add,List.getElem?_append_left (by rw [h];exact hj)]
 | y::l,i+1,x,j,hx,hj=>by
   rw [List.flatMap_cons,List.getElem?_append_right (by rw [h,Nat.succ_mul];omega),h,show (i+1)*k+j - k=i*k+j by rw [Nat.succ_mul];omega]
   exact flat_at h l i x j (by simpa using hx) hj
theorem NV.clen (x:NV):x.cells.length=4:=rfl
theorem LV.clen (x:LV):x.cells.length=5:=rfl
theorem SV.clen (x:SV):x.cells.length=6:=rfl
section
variable {w w':World} {F F':Nat→Prop} {A:Option Addr} {n c:Nat}
theorem NodesAt.moves {l:List NV} (h:NodesAt w F A n c l) (g:Moves w F w' F'):NodesAt w' F' A n c l:=⟨h.ln.moves (by omega) g,fun x hx=>(h.ok x hx).moves g⟩
theorem LdAt.moves {l:List LV} (h:LdAt w F A n c l) (g:Moves w F w' F'):LdAt w' F' A n c l:=⟨h.ln.moves (by omega) g,fun x hx=>(h.ok x hx).moves g⟩
theorem StepsAt.moves {l:List SV} (h:StepsAt w F A n c l) (g:Moves w F w' F'):StepsAt w' F' A n c l:=⟨h.ln.moves (by omega) g,fun x hx=>(h.ok x hx).moves g⟩
theorem NodesAt.kept {l:List NV} (h:NodesAt w F A n c l) (hb:Below w.heap.size w w'):NodesAt w' F A n c l:=⟨h.ln.kept hb,fun x hx=>(h.ok x hx).kept hb⟩
theorem LdAt.kept {l:List LV} (h:LdAt w F A n c l) (hb:Below w.heap.size w w'):LdAt w' F A n c l:=⟨h.ln.kept hb,fun x hx=>(h.ok x hx).kept hb⟩
theorem NodesAt.len {l:List NV} (h:NodesAt w F A n c l):l.length=n:=by
 have:=h.ln.ln.len
 rw [flat_len NV.clen] at this
 omega
theorem LdAt.len {l:List LV} (h:LdAt w F A n c l):l.length=n:=by
 have:=h.ln.ln.len
 rw [flat_len LV.clen] at this
 omega
theorem StepsAt.len {l:List SV} (h:StepsAt w F A n c l):l.length=n:=by
 have:=h.ln.ln.len
 rw [flat_len SV.clen] at this
 omega
theorem NodesAt.at_ {l:List NV} (h:NodesAt w F A n c l) {i:Nat} {x:NV} (hx:l[i]?=some x):∃ b off,A=some ⟨b,off,none⟩∧b<w.heap.size∧¬ F b∧x.ok w F ∧
 w.cell? ⟨b,off+i*4,none⟩=some (.bool x.s.leaf)∧w.cell? ⟨b,off+i*4+1,none⟩=some (.slice x.A x.n x.c)∧w.cell? ⟨b,off+i*4+2,none⟩=some (.slice x.B x.m x.d)∧w.cell? ⟨b,off+i*4+3,none⟩=some (.slice x.C x.k x.e):=by
 have hi:=(List.getElem?_eq_some_iff.1 hx).1
 have hl:=h.len
 obtain ⟨b,off,rfl,hb⟩:=h.ln.ln.spot (by rw [flat_len NV.clen];omega)
 have hf:=fun j hj=>flat_at NV.clen l i x j hx hj
 refine ⟨b,off,rfl,hb,h.ln.out (by omega) _ rfl,h.ok x (List.mem_of_getElem? hx),?_,?_,?_,?_⟩
 ·exact h.ln.ln.cell (j:=i*4) (hf 0 (by omega))
 ·rw [Nat.add_assoc]
  exact h.ln.ln.cell (j:=i*4+1) (hf 1 (by omega))
 ·rw [Nat.add_assoc]
  exact h.ln.ln.cell (j:=i*4+2) (hf 2 (by omega))
 ·rw [Nat.add_assoc]
  exact h.ln.ln.cell (j:=i*4+3) (hf 3 (by omega))
theorem LdAt.at_ {l:List LV} (h:LdAt w F A n c l) {i:Nat} {x:LV} (hx:l[i]?=some x):∃ b off,A=some ⟨b,off,none⟩∧b<w.heap.size∧¬ F b∧x.x.ok w F ∧
 w.cell? ⟨b,off+i*5,none⟩=some (.int .i64 x.pg)∧w.cell? ⟨b,off+i*5+1,none⟩=some (.bool x.x.s.leaf)∧w.cell? ⟨b,off+i*5+2,none⟩=some (.slice x.x.A x.x.n x.x.c)∧w.cell? ⟨b,off+i*5+3,none⟩=some (.slice x.x.B x.x.m x.x.d)∧w.cell? ⟨b,off+i*5+4,none⟩=some (.slice x.x.C x.x.k x.x.e):=by
 have hi:=(List.getElem?_eq_some_iff.1 hx).1
 have hl:=h.len
 obtain ⟨b,off,rfl,hb⟩:=h.ln.ln.spot (by rw [flat_len LV.clen];omega)
 have hf:=fun j hj=>flat_at LV.clen l i x j hx hj
 refine ⟨b,off,rfl,hb,h.ln.out (by omega) _ rfl,h.ok x (List.mem_of_getElem? hx),?_,?_,?_,?_,?_⟩
 ·exact h.ln.ln.cell (j:=i*5) (hf 0 (by omega))
 ·rw [Nat.add_assoc]
  exact h.ln.ln.cell (j:=i*5+1) (hf 1 (by omega))
 ·rw [Nat.add_assoc]
  exact h.ln.ln.cell (j:=i*5+2) (hf 2 (by omega))
 ·rw [Nat.add_assoc]
  exact h.ln.ln.cell (j:=i*5+3) (hf 3 (by omega))
 ·rw [Nat.add_assoc]
  exact h.ln.ln.cell (j:=i*5+4) (hf 4 (by omega))
theorem StepsAt.at_ {l:List SV} (h:StepsAt w F A n c l) {i:Nat} {x:SV} (hx:l[i]?=some x):∃ b off,A=some ⟨b,off,none⟩∧b<w.heap.size∧¬ F b∧x.l.x.ok w F ∧
 w.cell? ⟨b,off+i*6,none⟩=some (.int .i64 x.l.pg)∧w.cell? ⟨b,off+i*6+1,none⟩=some (.bool x.l.x.s.leaf)∧w.cell? ⟨b,off+i*6+2,none⟩=some (.slice x.l.x.A x.l.x.n x.l.x.c)∧w.cell? ⟨b,off+i*6+3,none⟩=some (.slice x.l.x.B x.l.x.m x.l.x.d)∧w.cell? ⟨b,off+i*6+4,none⟩=some (.slice x.l.x.C x.l.x.k x.l.x.e)∧w.cell? ⟨b,off+i*6+5,none⟩=some (.int .i64 ((x.kid:Nat):Int)):=by
 have hi:=(List.getElem?_eq_some_iff.1 hx).1
 have hl:=h.len
 obtain ⟨b,off,rfl,hb⟩:=h.ln.ln.spot (by rw [flat_len SV.clen];omega)
 have hf:=fun j hj=>flat_at SV.clen l i x j hx hj
 refine ⟨b,off,rfl,hb,h.ln.out (by omega) _ rfl,h.ok x (List.mem_of_getElem? hx),?_,?_,?_,?_,?_,?_⟩
 ·exact h.ln.ln.cell (j:=i*6) (hf 0 (by omega))
 ·rw [Nat.add_assoc]
  exact h.ln.ln.cell (j:=i*6+1) (hf 1 (by omega))
 ·rw [Nat.add_assoc]
  exact h.ln.ln.cell (j:=i*6+2) (hf 2 (by omega))
 ·rw [Nat.add_assoc]
  exact h.ln.ln.cell (j:=i*6+3) (hf 3 (by omega))
 ·rw [Nat.add_assoc]
  exact h.ln.ln.cell (j:=i*6+4) (hf 4 (by omega))
 ·rw [Nat.add_assoc]
  exact h.ln.ln.cell (j:=i*6+5) (hf 5 (by omega))
end
def rdN (p:Int) (b:List UInt8):Option ND:=if IsF p b then ND.dec (kin b) (dat b) else none
theorem rdN_pack {p:Int} {n:ND} (h0:0≤p) (h1:p≤2147483647) (hn:n.encE=0):packE n.encK p n.encB=0∧rdN p (packB n.encK p n.encB)=some n∧(packB n.encK p n.encB).length≤1024:=by
 obtain ⟨f1,f2,f3⟩:=ND.fits_of hn
 have hl:n.encB.length≤1000:=by rw [ND.encB_of hn,ND.enc_length f2];exact f3
 have hk:n.encK=2∨n.encK=3:=by
  rw [ND.encK_of hn]
  cases n.leaf<;>simp
 have hok:FOk n.encK p n.encB.length:=by
  unfold FOk
  rcases hk with e | e<;>rw [e]<;>refine ⟨by omega,by omega,h0,h1,hl⟩
 have hf:=isF_frm hok
 refine ⟨if_pos hok,?_,?_⟩
 ·unfold packB rdN
  rw [if_pos hok,if_pos hf,frm_kin (by omega) (by omega),frm_dat]
  exact ND.dec_enc hn
 ·unfold packB
  rw [if_pos hok,frm_length]
  omega
theorem rdN_ok {p:Int} {b:List UInt8} {n:ND} (h:rdN p b=some n):n.ok=true∧n.size≤1000:=by
 unfold rdN at h
 split at h
 ·obtain ⟨e,_,_⟩:=ND.dec_back h
  obtain ⟨_,a,b⟩:=ND.fits_of e
  exact ⟨a,b⟩
 ·cases h
structure TFit (t:TS):Prop where
 fine:SS.Fine t.sp t.z
 fresh:∀ p,t.fr p=true→2≤p∧p<t.z
 z4:t.z≤4096
 ep1:1≤t.ep
 ep2:t.ep≤2147483647
def Own3 (tb mb:Nat) (A:Option Addr) (n:Nat) (B:Option Addr) (m:Nat) (k:Nat):Prop:=k=tb∨k=mb∨(0<n∧∃ ad,A=some ad∧k=ad.block)∨(0<m∧∃ ad,B=some ad∧k=ad.block)
def treeCells (pb mb:Nat) (A:Option Addr) (n c:Nat) (B:Option Addr) (m d:Nat) (t:TS):Array Value :=
 #[.pointer (some ⟨pb,0,none⟩),.int .i64 t.rt,.int .i64 ((t.ht:Nat):Int),.int .i64 t.ct,.int .i64 t.sp.hi,.slice A n c,.slice B m d,.int .i64 t.ep,.map (some mb),.int .i64 t.lost]
structure TBox (w:World) (tb mb pb:Nat) (A:Option Addr) (n c:Nat) (B:Option Addr) (m d:Nat) (t:TS):Prop where
 str:w.heap[tb]?=some (.cells (treeCells pb mb A n c B m d t) 82 (0,0))
 fresh:MapAt w mb (frM t.fr)
 sp:Sp w A n c B m d t.sp
 a1:0<n→∀ ad,A=some ad→ad.block≠tb∧ad.block≠mb
 b1:0<m→∀ ad,B=some ad→ad.block≠tb∧ad.block≠mb
 fit:TFit t
structure TPool (W:World) (G:Nat→Prop) (w:World) (pb db:Nat) (f:Int→List UInt8) (z:Nat):Prop where
 ex:∃ s M,PLive W G w pb db s∧Free s f M z∧M≤12
structure TAt (W:World) (G:Nat→Prop) (F:Nat→Prop) (w:World) (tb mb pb db:Nat) (A:Option Addr) (n c:Nat) (B:Option Addr) (m d:Nat) (f:Int→List UInt8) (t:TS):Prop where
 pool:TPool W G w pb db f t.z
 nds:∀ p,0≤p→p<t.z→rdN p (f p)=t.nd p
 box:TBox w tb mb pb A n c B m d t
 hF:∀ k,F k ↔ G k∨Own3 tb mb A n B m k
 apart:∀ k,Own3 tb mb A n B m k→¬ G k
 base:∀ k,F k→W.heap.size≤k
 below:Below W.heap.size W w
def Tree (W:World) (F:Nat→Prop) (w:World) (tb pb db:Nat) (t:TS):Prop:=∃ G mb A n c B m d f,TAt W G F w tb mb pb db A n c B m d f t
def TGoes (W:World) (F:Nat→Prop) (w:World) (tb pb db:Nat) (t':TS) (w':World):Prop:=∃ F',Tree W F' w' tb pb db t'∧Moves w F w' F'
section
variable {W w w':World} {G F F':Nat→Prop} {tb mb pb db:Nat} {A B:Option Addr} {n c m d:Nat} {f:Int→List UInt8} {t t':TS}
theorem TBox.cells (h:TBox w tb mb pb A n c B m d t) :
 w.cell? ⟨tb,0,none⟩=some (.pointer (some ⟨pb,0,none⟩))∧w.cell? ⟨tb,1,none⟩=some (.int .i64 t.rt)∧w.cell? ⟨tb,2,none⟩=some (.int .i64 ((t.ht:Nat):Int))∧w.cell? ⟨tb,3,none⟩=some (.int .i64 t.ct)∧w.cell? ⟨tb,4,none⟩=some (.int .i64 t.sp.hi) ∧
 w.cell? ⟨tb,5,none⟩=some (.slice A n c)∧w.cell? ⟨tb,6,none⟩=some (.slice B m d)∧w.cell? ⟨tb,7,none⟩=some (.int .i64 t.ep)∧w.cell? ⟨tb,8,none⟩=some (.map (some mb))∧w.cell? ⟨tb,9,none⟩=some (.int .i64 t.lost) :=
 ⟨(cell_of_row w tb 0 _ _ _ h.str).trans rfl,(cell_of_row w tb 1 _ _ _ h.str).trans rfl,(cell_of_row w tb 2 _ _ _ h.str).trans rfl,(cell_of_row w tb 3 _ _ _ h.str).trans rfl,(cell_of_row w tb 4 _ _ _ h.str).trans rfl,
   (cell_of_row w tb 5 _ _ _ h.str).trans rfl,(cell_of_row w tb 6 _ _ _ h.str).trans rfl,(cell_of_row w tb 7 _ _ _ h.str).trans rfl,(cell_of_row w tb 8 _ _ _ h.str).trans rfl,(cell_of_row w tb 9 _ _ _ h.str).trans rfl⟩
theorem TBox.free (h:TBox w tb mb pb A n c B m d t) (j:Nat):w.frozen? ⟨tb,j,none⟩=false:=frozen_of_row w tb j _ _ h.str
theorem TBox.lt (h:TBox w tb mb pb A n c B m d t):tb<w.heap.size:=(Array.getElem?_eq_some_iff.1 h.str).1
theorem TBox.own_lt (h:TBox w tb mb pb A n c B m d t) {k:Nat} (hk:Own3 tb mb A n B m k):k<w.heap.size:=by
 rcases hk with rfl | rfl | ⟨h0,ad,e,rfl⟩ | ⟨h0,ad,e,rfl⟩
 ·exact h.lt
 ·exact h.fresh.lt
 ·exact h.sp.fr.lt (by omega) e
 ·exact h.sp.pe.lt (by omega) e
theorem TBox.ne (h:TBox w tb mb pb A n c B m d t):mb≠tb:=by
 intro e
 obtain ⟨es,cl,hm⟩:=h.fresh.isMap
 rw [e,h.str] at hm
 cases hm
theorem TBox.same (h:TBox w tb mb pb A n c B m d t) (e:∀ k,Own3 tb mb A n B m k→w'.heap[k]?=w.heap[k]?):TBox w' tb mb pb A n c B m d t :=
 ⟨(e tb (Or.inl rfl)).trans h.str,h.fresh.block (e mb (Or.inr (Or.inl rfl))),⟨h.sp.fr.moved (by omega) (fun hn ad ea=>e _ (Or.inr (Or.inr (Or.inl ⟨hn,ad,ea,rfl⟩)))),h.sp.pe.moved (by omega) (fun hn ad ea=>e _ (Or.inr (Or.inr (Or.inr ⟨hn,ad,ea,rfl⟩))))⟩,h.a1,h.b1,h.fit⟩
theorem TPool.below {z:Nat} (h:TPool W G w pb db f z) (hb:Below w.heap.size w w'):TPool W G w' pb db f z:=by
 obtain ⟨s,M,a,b,c⟩:=h
 exact ⟨s,M,a.next hb,b,c⟩
theorem TPool.lt {z:Nat} (h:TPool W G w pb db f z):∀ k,G k→k<w.heap.size:=by
 obtain ⟨s,M,a,b,c⟩:=h
 exact a.lt
theorem TPool.other {G' H:Nat→Prop} {z:Nat} (h:TPool W G w pb db f z) (hm:Moves w H w' G') (hG:∀ k,G k→¬ H k) (hb:Below W.heap.size W w'):TPool W G w' pb db f z:=by
 obtain ⟨s,M,a,b,c⟩:=h
 exact ⟨s,M,a.other hm hG hb,b,c⟩
theorem TAt.lt (h:TAt W G F w tb mb pb db A n c B m d f t):∀ k,F k→k<w.heap.size:=by
 intro k hk
 rcases (h.hF k).1 hk with e | e
 ·exact h.pool.lt k e
 ·exact h.box.own_lt e
theorem TAt.kept (h:TAt W G F w tb mb pb db A n c B m d f t) (hb:Below w.heap.size w w'):TAt W G F w' tb mb pb db A n c B m d f t :=
 ⟨h.pool.below hb,h.nds,h.box.same (fun k hk=>hb.block k (h.box.own_lt hk)),h.hF,h.apart,h.base,h.below.trans (hb.mono h.below.size)⟩
theorem TAt.tree (h:TAt W G F w tb mb pb db A n c B m d f t):Tree W F w tb pb db t:=⟨G,mb,A,n,c,B,m,d,f,h⟩
theorem TAt.ftb (h:TAt W G F w tb mb pb db A n c B m d f t):F tb:=(h.hF tb).2 (Or.inr (Or.inl rfl))
theorem TAt.fmb (h:TAt W G F w tb mb pb db A n c B m d f t):F mb:=(h.hF mb).2 (Or.inr (Or.inr (Or.inl rfl)))
theorem Tree.lt (h:Tree W F w tb pb db t):∀ k,F k→k<w.heap.size:=by
 obtain ⟨G,mb,A,n,c,B,m,d,f,h⟩:=h
 exact h.lt
theorem Tree.kept (h:Tree W F w tb pb db t) (hb:Below w.heap.size w w'):Tree W F w' tb pb db t:=by
 obtain ⟨G,mb,A,n,c,B,m,d,f,h⟩:=h
 exact (h.kept hb).tree
theorem Tree.fit (h:Tree W F w tb pb db t):TFit t:=by
 obtain ⟨G,mb,A,n,c,B,m,d,f,h⟩:=h
 exact h.box.fit
theorem Tree.below (h:Tree W F w tb pb db t):Below W.heap.size W w:=by
 obtain ⟨G,mb,A,n,c,B,m,d,f,h⟩:=h
 exact h.below
theorem TGoes.of_below (h:Tree W F w tb pb db t) (hb:Below w.heap.size w w'):TGoes W F w tb pb db t w':=⟨F,h.kept hb,Moves.of_below hb⟩
theorem TGoes.behind {w1 w2:World} {t':TS} (hb:Below w.heap.size w w1) (g:TGoes W F w1 tb pb db t' w2):TGoes W F w tb pb db t' w2:=by
 obtain ⟨F',h,m⟩:=g
 exact ⟨F',h,(Moves.of_below hb).trans m⟩
theorem TGoes.then_ {w1 w2:World} {F1:Nat→Prop} {t':TS} (hm:Moves w F w1 F1) (g:TGoes W F1 w1 tb pb db t' w2):TGoes W F w tb pb db t' w2:=by
 obtain ⟨F',h,m⟩:=g
 exact ⟨F',h,hm.trans m⟩
theorem TAt.pooled {G':Nat→Prop} {f':Int→List UInt8} {nd':Int→Option ND} (h:TAt W G F w tb mb pb db A n c B m d f t) (hm:Moves w G w' G') (hp:TPool W G' w' pb db f' t.z) (hn:∀ p,0≤p→p<t.z→rdN p (f' p)=nd' p) (hb:∀ k,G' k→W.heap.size≤k) :
 ∃ F',TAt W G' F' w' tb mb pb db A n c B m d f' { t with nd:=nd' }∧Moves w F w' F':=by
 have hk:Kept F w w':=hm.kept.more (fun k hk=>(h.hF k).2 (Or.inl hk))
 have hbox:TBox w' tb mb pb A n c B m d t:=h.box.same (fun k hk=>hm.kept.block k (h.box.own_lt hk) (h.apart k hk))
 refine ⟨fun k=>G' k∨Own3 tb mb A n B m k,⟨hp,hn,⟨hbox.str,hbox.fresh,hbox.sp,hbox.a1,hbox.b1,⟨hbox.fit.fine,hbox.fit.fresh,hbox.fit.z4,hbox.fit.ep1,hbox.fit.ep2⟩⟩,fun k=>Iff.rfl,fun k hk hg=>?_,fun k hk=>?_,?_⟩,hk,fun k hk=>?_⟩
 ·rcases hm.news k hg with e | e
  ·exact h.apart k hk e
  ·have:=h.box.own_lt hk
   omega
 ·rcases hk with e | e
  ·exact hb k e
  ·exact h.base k ((h.hF k).2 (Or.inr e))
 ·exact h.below.trans (hk.toBelow h.base h.below.size)
 ·rcases hk with e | e
  ·rcases hm.news k e with e | e
   ·exact Or.inl ((h.hF k).2 (Or.inl e))
   ·exact Or.inr e
  ·exact Or.inl ((h.hF k).2 (Or.inr e))
theorem TAt.boxed {A' B':Option Addr} {n' c' m' d':Nat} {t':TS} (h:TAt W G F w tb mb pb db A n c B m d f t) (hk:Kept F w w') (hg:∀ k,k<w.heap.size→G k→w'.heap[k]?=w.heap[k]?) (hb:TBox w' tb mb pb A' n' c' B' m' d' t') (hnd:t'.nd=t.nd) (hz:t'.z=t.z)
 (hn:∀ k,Own3 tb mb A' n' B' m' k→Own3 tb mb A n B m k∨w.heap.size≤k):∃ F',TAt W G F' w' tb mb pb db A' n' c' B' m' d' f t'∧Moves w F w' F':=by
 have hbel:=hk.toBelow h.base h.below.size
 have hown:∀ k,Own3 tb mb A' n' B' m' k→W.heap.size≤k:=fun k hk=>by
  rcases hn k hk with e | e
  ·exact h.base k ((h.hF k).2 (Or.inr e))
  ·exact Nat.le_trans h.below.size e
 have hpl:TPool W G w' pb db f t'.z:=by
  rw [hz]
  refine h.pool.other (H:=fun k=>F k∧¬ G k) (G':=fun _=>False) ⟨⟨hk.os,hk.tape,hk.output,hk.size,fun k h1 h2=>?_⟩,fun _ e=>e.elim⟩ (fun k hk e=>e.2 hk) (h.below.trans hbel)
  by_cases hG:G k
  ·exact hg k h1 hG
  ·exact hk.block k h1 (fun e=>h2 ⟨e,hG⟩)
 refine ⟨fun k=>G k∨Own3 tb mb A' n' B' m' k,⟨hpl,by rw [hnd,hz];exact h.nds,hb,fun k=>Iff.rfl,fun k hk hG=>?_,fun k hk=>?_,h.below.trans hbel⟩,hk,fun k hk=>?_⟩
 ·rcases hn k hk with e | e
  ·exact h.apart k e hG
  ·have:=h.pool.lt k hG
   omega
 ·rcases hk with e | e
  ·exact h.base k ((h.hF k).2 (Or.inl e))
  ·exact hown k e
 ·rcases hk with e | e
  ·exact Or.inl ((h.hF k).2 (Or.inl e))
  ·rcases hn k e with e | e
   ·exact Or.inl ((h.hF k).2 (Or.inr e))
   ·exact Or.inr e
theorem few_ints:∀ (n:Nat) (l:List Int),l.Nodup→(∀ x∈l,0≤x∧x<n)→l.length≤n:=by
 intro n l h1 h2
 have:=few_nats n (l.map Int.toNat) (by
  rw [List.pairwise_map]
  refine List.Pairwise.imp_of_mem ?_ h1
  intro a b ha hb hne e
  have:=h2 a ha
  have:=h2 b hb
  omega) (fun x hx=>by
  obtain ⟨y,hy,rfl⟩:=List.mem_map.1 hx
  have:=h2 y hy
  omega)
 simpa using this
theorem TFit.few (h:TFit t):t.sp.fr.length≤4096∧t.sp.pe.length≤4096∧2≤t.sp.hi∧t.sp.hi≤4096:=by
 have h1:=h.fine.hi
 have h2:=h.fine.lo
 have hz:=h.z4
 refine ⟨?_,?_,by omega,by omega⟩
 ·exact few_ints 4096 t.sp.fr (h.fine.up.imp (fun h=>by omega)) (fun x hx=>by have:=h.fine.inF x hx;omega)
 ·have:=few_ints 4096 (t.sp.pe.map (·.2)) h.fine.once (fun x hx=>by
   obtain ⟨y,hy,rfl⟩:=List.mem_map.1 hx
   have:=h.fine.inP y hy
   omega)
  simpa using this
end
end Go.Proofs.YtccphijgcapeoaaGreat
/-
  What the pool's Get and Put come to, of a tree in memory.
-/
namespace Go.Proofs.YtccphijgcapeoaaGreat
open Go.RowKit Go.Maps
section
variable {W w w':World} {G F F':Nat→Prop} {tb mb pb db:Nat} {A B:Option Addr} {n c m d:Nat} {f:Int→List UInt8} {t t':TS}
theorem town_out {w:World} {F:Nat→Prop} {base:Nat} {v:Value} {l:List UInt8} (h:Own w base v l) (hF:∀ k,F k→k<base):∃ A c,v = .slice A l.length c∧l.length≤c∧Out w F A l∧(A=none→l.length=0∧c=0):=by
 obtain ⟨A,c,e,h1,h2⟩:=own_slice h
 subst e
 refine ⟨A,c,rfl,h1,?_,h2⟩
 rcases h.2 with ⟨e,h0⟩ | ⟨g,cap,cur,e,hg,hr⟩
 ·exact Or.inl (List.eq_nil_of_length_eq_zero h0)
 ·obtain ⟨A',c',e',hl',_,_,r⟩:=Bys.of_own h
  injection e' with e1 e2 e3
  subst e1
  rcases r with r | ⟨b,off,eb,_,hc⟩
  ·exact Or.inl r
  ·refine Or.inr ⟨b,off,eb,fun hb=>?_,hc⟩
   injection e with e1 e2 e3
   rw [eb] at e1
   injection e1 with e1
   injection e1 with e1
   have:=hF b hb
   omega
def TGet (W:World) (F:Nat→Prop) (w:World) (tb pb db:Nat) (f:Int→List UInt8) (t:TS) (p:Int) (e:Ending) (w':World):Prop :=
 ∃ A' c' G' F' mb A n c B m d,e = .returned (.tuple #[.slice A' (f p).length c',.int .i64 0])∧Own w' w.heap.size (.slice A' (f p).length c') (f p)∧(f p).length≤1024∧TAt W G' F' w' tb mb pb db A n c B m d f t∧Moves w F w' F'
theorem tget_any (w:World) (p:Int) (h0:0≤p) (h1:p<t.z) (h:TAt W G F w tb mb pb db A n c B m d f t) :
 Calls Tryz.prog 84 #[.pointer (some ⟨pb,0,none⟩),.int .i64 p] w (TGet W F w tb pb db f t p):=by
 have hz:=h.box.fit.z4
 obtain ⟨s,M,hp,hf,hM⟩:=h.pool
 obtain ⟨g1,g2,g3⟩:=hf.get h0 h1
 refine (get_live w p (by omega) (by omega) hp).mono ?_
 rintro e w' ⟨A',c',G',rfl,ho,hown,hp',hm,hl⟩
 rw [g1]
 rw [g2] at ho hown hl ⊢
 obtain ⟨F',h',m'⟩:=h.pooled (nd':=t.nd) hm ⟨_,M,hp',g3,hM⟩ h.nds hp'.base
 exact ⟨A',c',G',F',mb,A,n,c,B,m,d,rfl,hown,hl,h',m'⟩
def TPut (W:World) (F:Nat→Prop) (w:World) (tb pb db:Nat) (t':TS) (e:Ending) (w':World):Prop:=e = .returned (.int .i64 0)∧TGoes W F w tb pb db t' w'
theorem tput_any (w:World) (p:Int) (h0:0≤p) (h1:p<t.z) (A':Option Addr) (k c':Nat) (l:List UInt8) (nn:ND) (hl:l.length=k) (hx:Out w F A' l) (hz:A'=none→k=0∧c'=0) (hlen:l.length≤1024) (hn:rdN p l=some nn) (h:TAt W G F w tb mb pb db A n c B m d f t) :
 Calls Tryz.prog 180 #[.pointer (some ⟨pb,0,none⟩),.int .i64 p,.slice A' k c'] w (TPut W F w tb pb db { t with nd:=TS.setN t.nd p nn }):=by
 have hz4:=h.box.fit.z4
 obtain ⟨s,M,hp,hf,hM⟩:=h.pool
 obtain ⟨g1,g2⟩:=hf.put (l:=l) h0 h1 hlen
 have hxG:Out w G A' l:=by
  rcases hx with e | ⟨b,off,e,hb,hc⟩
  ·exact Or.inl e
  ·exact Or.inr ⟨b,off,e,fun hg=>hb ((h.hF b).2 (Or.inl hg)),hc⟩
 refine (put_live w p (by omega) (by omega) A' k c' l hl hxG hz hp).mono ?_
 rintro e w' ⟨rfl,G',hp',hm⟩
 rw [g1]
 obtain ⟨F',h',m'⟩:=h.pooled (nd':=TS.setN t.nd p nn) hm ⟨_,M,hp',g2,hM⟩ (fun q q0 q1=>by
  unfold PP.upd TS.setN
  by_cases e:q=p
  ·rw [if_pos e,if_pos e,e]
   exact hn
  ·rw [if_neg e,if_neg e]
   exact h.nds q q0 q1) hp'.base
 exact ⟨rfl,F',h'.tree,m'⟩
end
end Go.Proofs.YtccphijgcapeoaaGreat
/-
  What the tree's own small functions come to: made, refusal, told, isFresh.
-/
namespace Go.Proofs.YtccphijgcapeoaaGreat
open Go.RowKit Go.Maps
section
variable {W w w':World} {G F F':Nat→Prop} {tb mb pb db:Nat} {A B:Option Addr} {n c m d:Nat} {f:Int→List UInt8} {t t':TS}
theorem tmade_yes (w:World) (tb pb:Nat) (c0:w.cell? ⟨tb,0,none⟩=some (.pointer (some ⟨pb,0,none⟩))) :
 Calls Tryz.prog 35 #[.pointer (some ⟨tb,0,none⟩)] w fun e w'=>e = .returned (.bool true)∧w=w':=by
 go_enter Tryz.func35,Tryz.ntmps35
 go_wp2_with fail
 go_ret
 exact ⟨rfl,rfl⟩
theorem refusal_any (w:World) (h:TBox w tb mb pb A n c B m d t) :
 Calls Tryz.prog 45 #[.pointer (some ⟨tb,0,none⟩)] w fun e w'=>e = .returned (.int .i64 t.lost)∧w=w':=by
 obtain ⟨c0,c1,c2,c3,c4,c5,c6,c7,c8,c9⟩:=h.cells
 have HM:=Lib.hid (tmade_yes w tb pb c0)
 clear h c1 c2 c3 c4 c5 c6 c7 c8
 go_enter Tryz.func45,Tryz.ntmps45
 go_wp2_with fail
 refine HM.out.mono ?_
 rintro e w' ⟨rfl,rfl⟩
 go_wp2_with fail
 go_ret
 exact ⟨rfl,rfl⟩
theorem TAt.field (h:TAt W G F w tb mb pb db A n c B m d f t) {t':TS} (hs:w'.heap[tb]?=some (.cells (treeCells pb mb A n c B m d t') 82 (0,0))) (ho:∀ k,k≠tb→w'.heap[k]?=w.heap[k]?) (hk:Kept F w w')
 (h1:t'.sp=t.sp) (h2:t'.fr=t.fr) (h3:t'.nd=t.nd) (h4:t'.z=t.z) (h5:t'.ep=t.ep):∃ F',TAt W G F' w' tb mb pb db A n c B m d f t'∧Moves w F w' F':=by
 refine h.boxed hk (fun k _ hG=>ho k (fun e=>h.apart tb (Or.inl rfl) (e ▸ hG))) ⟨hs,?_,?_,h.box.a1,h.box.b1,⟨by rw [h1,h4];exact h.box.fit.fine,by rw [h2,h4];exact h.box.fit.fresh,by rw [h4];exact h.box.fit.z4,by rw [h5];exact h.box.fit.ep1,by rw [h5];exact h.box.fit.ep2⟩⟩ h3 h4 (fun k hk=>Or.inl hk)
 ·rw [h2]
  exact h.box.fresh.block (ho mb h.box.ne)
 ·rw [h1]
  exact ⟨h.box.sp.fr.moved (by omega) (fun hn ad e=>ho _ (h.box.a1 hn ad e).1),h.box.sp.pe.moved (by omega) (fun hn ad e=>ho _ (h.box.b1 hn ad e).1)⟩
theorem TAt.setF (h:TAt W G F w tb mb pb db A n c B m d f t) (j:Nat) (v:Value) {t':TS} (he:(treeCells pb mb A n c B m d t).set! j v=treeCells pb mb A n c B m d t')
 (h1:t'.sp=t.sp) (h2:t'.fr=t.fr) (h3:t'.nd=t.nd) (h4:t'.z=t.z) (h5:t'.ep=t.ep):∃ F',TAt W G F' (w.setCell ⟨tb,j,none⟩ v) tb mb pb db A n c B m d f t'∧Moves w F (w.setCell ⟨tb,j,none⟩ v) F' :=
 h.field (by rw [Joins.block_setCell h.box.str,← he];rfl) (fun k hk=>Below.heap_setCell _ _ _ _ hk) (Kept.setCell w h.ftb v) h1 h2 h3 h4 h5
def TErr (W:World) (F:Nat→Prop) (w:World) (tb pb db:Nat) (r:Int) (t':TS) (e:Ending) (w':World):Prop:=e = .returned (.int .i64 r)∧TGoes W F w tb pb db t' w'
theorem told_live (w:World) (r:Int) (h:Tree W F w tb pb db t) :
 Calls Tryz.prog 50 #[.pointer (some ⟨tb,0,none⟩),.int .i64 r] w (TErr W F w tb pb db r (t.told r)):=by
 obtain ⟨G,mb,A,n,c,B,m,d,f,h⟩:=h
 obtain ⟨F',h',mv⟩:=h.setF 9 (.int .i64 r) (t':=t.told r) rfl rfl rfl rfl rfl rfl
 obtain ⟨c0,c1,c2,c3,c4,c5,c6,c7,c8,c9⟩:=h.box.cells
 have f9:=h.box.free 9
 have HD:=Lib.hid (show TGoes W F w tb pb db (t.told r) (w.setCell ⟨tb,9,none⟩ (.int .i64 r)) from ⟨F',h'.tree,mv⟩)
 clear h h' mv c0 c1 c2 c3 c4 c5 c6 c7 c8
 go_enter Tryz.func50,Tryz.ntmps50
 go_wp2_with fail
 go_ret
 exact ⟨rfl,HD.out⟩
theorem isFresh_any (w:World) (p:Int) (h1 : -9223372036854775808≤p) (h2:p≤9223372036854775807) (h:TBox w tb mb pb A n c B m d t) :
 Calls Tryz.prog 90 #[.pointer (some ⟨tb,0,none⟩),.int .i64 p] w fun e w'=>e = .returned (.bool (t.fr p))∧Below w.heap.size w w':=by
 obtain ⟨c0,c1,c2,c3,c4,c5,c6,c7,c8,c9⟩:=h.cells
 have hl:=h.fresh.lookU (i:=p) h1 h2
 rw [show (frM t.fr p).isSome=t.fr p by unfold frM;cases t.fr p<;>rfl] at hl
 rw [show (frM t.fr p).getD (.agg #[]) = .agg #[] by unfold frM;cases t.fr p<;>rfl] at hl
 have HB:=Lib.hid (below_one w (.cells #[] 159))
 clear h c0 c1 c2 c3 c4 c5 c6 c7 c9
 go_enter Tryz.func90,Tryz.ntmps90
 go_wp2_with fail
 go_ret
 exact ⟨rfl,HB.out⟩
end
end Go.Proofs.YtccphijgcapeoaaGreat
/-
  What the tree's take comes to.
-/
namespace Go.Proofs.YtccphijgcapeoaaGreat
open Go.RowKit Go.Maps
section
variable {W w w':World} {G F F':Nat→Prop} {tb mb pb db:Nat} {A B:Option Addr} {n c m d:Nat} {f:Int→List UInt8} {t t':TS}
def TPage (W:World) (F:Nat→Prop) (w:World) (tb pb db:Nat) (r:Int×Int×TS) (e:Ending) (w':World):Prop:=e = .returned (.tuple #[.int .i64 r.2.1,.int .i64 r.1])∧TGoes W F w tb pb db r.2.2 w'
theorem TAt.sizeIs (h:TAt W G F w tb mb pb db A n c B m d f t):(Calls Tryz.prog 25 #[.pointer (some ⟨pb,0,none⟩)] w fun e w'=>e = .returned (.pointer (some ⟨db,0,none⟩))∧w=w') ∧
 Calls Tryz.prog 44 #[.pointer (some ⟨db,0,none⟩)] w fun e w'=>e = .returned (.int .i64 (t.z:Nat))∧w=w':=by
 obtain ⟨s,M,a,b,_⟩:=h.pool
 obtain ⟨D,hd⟩:=a.disk
 refine ⟨pdisk_live w a,?_⟩
 have:=size_any w hd.dk
 rw [b.size] at this
 exact this
theorem TAt.setSp {w1:World} {A' B':Option Addr} {n' c' m' d':Nat} {s':SS} (h:TAt W G F w tb mb pb db A n c B m d f t) (hb:Below w.heap.size w w1) (hs:Sp w1 A' n' c' B' m' d' s') (ha:Hi w.heap.size A') (hb':Hi w.heap.size B') (hf:SS.Fine s' t.z) :
 ∃ F',TAt W G F' (((w1.setCell ⟨tb,4,none⟩ (.int .i64 s'.hi)).setCell ⟨tb,5,none⟩ (.slice A' n' c')).setCell ⟨tb,6,none⟩ (.slice B' m' d')) tb mb pb db A' n' c' B' m' d' f { t with sp:=s' }∧Moves w F (((w1.setCell ⟨tb,4,none⟩ (.int .i64 s'.hi)).setCell ⟨tb,5,none⟩ (.slice A' n' c')).setCell ⟨tb,6,none⟩ (.slice B' m' d')) F':=by
 have h1:=h.kept hb
 have hlt:=h.box.lt
 have hmb:=h.box.fresh.lt
 have ho:∀ k,k≠tb→(((w1.setCell ⟨tb,4,none⟩ (.int .i64 s'.hi)).setCell ⟨tb,5,none⟩ (.slice A' n' c')).setCell ⟨tb,6,none⟩ (.slice B' m' d')).heap[k]?=w1.heap[k]?:=fun k hk=>by
  rw [Below.heap_setCell _ _ _ _ hk,Below.heap_setCell _ _ _ _ hk,Below.heap_setCell _ _ _ _ hk]
 have hstr:(((w1.setCell ⟨tb,4,none⟩ (.int .i64 s'.hi)).setCell ⟨tb,5,none⟩ (.slice A' n' c')).setCell ⟨tb,6,none⟩ (.slice B' m' d')).heap[tb]?=some (.cells (treeCells pb mb A' n' c' B' m' d' { t with sp:=s' }) 82 (0,0)):=by
  have e1:=Joins.block_setCell (i:=4) h1.box.str (.int .i64 s'.hi)
  have e2:=Joins.block_setCell (i:=5) e1 (.slice A' n' c')
  have e3:=Joins.block_setCell (i:=6) e2 (.slice B' m' d')
  exact e3
 have hA:0<n'→∀ ad,A'=some ad→ad.block≠tb∧ad.block≠mb:=fun _ ad e=>by
  have:=ha ad e
  omega
 have hB:0<m'→∀ ad,B'=some ad→ad.block≠tb∧ad.block≠mb:=fun _ ad e=>by
  have:=hb' ad e
  omega
 refine h.boxed (t':={ t with sp:=s' }) ((((Kept.below hb F).next (Kept.setCell w1 (a:=⟨tb,4,none⟩) h1.ftb _)).next (Kept.setCell _ (a:=⟨tb,5,none⟩) h1.ftb _)).next (Kept.setCell _ (a:=⟨tb,6,none⟩) h1.ftb _))
  (fun k hk hG=>(ho k (fun e=>h1.apart tb (Or.inl rfl) (e ▸ hG))).trans (hb.block k hk))
  ⟨hstr,h1.box.fresh.block (ho mb h1.box.ne),⟨hs.fr.moved (by omega) (fun hn ad e=>ho _ (hA hn ad e).1),hs.pe.moved (by omega) (fun hn ad e=>ho _ (hB hn ad e).1)⟩,hA,hB,⟨hf,h.box.fit.fresh,h.box.fit.z4,h.box.fit.ep1,h.box.fit.ep2⟩⟩ rfl rfl (fun k hk=>?_)
 rcases hk with e | e | ⟨h0,ad,e,rfl⟩ | ⟨h0,ad,e,rfl⟩
 ·exact Or.inl (Or.inl e)
 ·exact Or.inl (Or.inr (Or.inl e))
 ·exact Or.inr (ha ad e)
 ·exact Or.inr (hb' ad e)
theorem TAt.setFresh {w1:World} (h:TAt W G F w tb mb pb db A n c B m d f t) {fr':Int→Bool} (hg:w.grownBy w1 (some mb)) (hm:MapAt w1 mb (frM fr')) (hf:∀ p,fr' p=true→2≤p∧p<t.z) :
 ∃ F',TAt W G F' w1 tb mb pb db A n c B m d f { t with fr:=fr' }∧Moves w F w1 F':=by
 have ho:∀ k,k<w.heap.size→k≠mb→w1.heap[k]?=w.heap[k]?:=fun k hk hne=>hg.block k hk (fun e=>hne (Option.some.inj e))
 refine h.boxed (t':={ t with fr:=fr' }) (Kept.grown hg h.fmb) (fun k hk hG=>ho k hk (fun e=>h.apart mb (Or.inr (Or.inl rfl)) (e ▸ hG)))
  ⟨(ho tb h.box.lt (fun e=>h.box.ne e.symm)).trans h.box.str,hm,⟨h.box.sp.fr.moved (by omega) (fun hn ad e=>ho _ (h.box.sp.fr.lt (by omega) e) (h.box.a1 hn ad e).2),h.box.sp.pe.moved (by omega) (fun hn ad e=>ho _ (h.box.sp.pe.lt (by omega) e) (h.box.b1 hn ad e).2)⟩,h.box.a1,h.box.b1,⟨h.box.fit.fine,hf,h.box.fit.z4,h.box.fit.ep1,h.box.fit.ep2⟩⟩ rfl rfl (fun k hk=>Or.inl hk)
theorem fine_take {s:SS} {z:Nat} (h:SS.Fine s z) (he:(s.take z).1=0):SS.Fine (s.take z).2.2 z∧2≤(s.take z).2.1∧(s.take z).2.1<z:=by
 obtain ⟨a,b,c,d,e⟩:=h.take he
 have:=a.hi
 exact ⟨a,c,by omega⟩
def TakeCut (w:World) (r:Int×Int×SS) (s4 s5 s6:Value) (wx:World):Prop :=
 ∃ g A n c B m d,s4 = .pointer (some ⟨g,0,none⟩)∧s5 = .int .i64 r.2.1∧s6 = .int .i64 r.1∧Box wx g (.int .i64 r.2.2.hi) (.slice A n c) (.slice B m d)∧Sp wx A n c B m d r.2.2∧Hi w.heap.size A∧Hi w.heap.size B∧Below w.heap.size w wx
theorem sp_put {w2:World} {g:Nat} {A B:Option Addr} {n c m d:Nat} {s:SS} (hs:Sp w2 A n c B m d s) (ha:0<n→∀ ad,A=some ad→ad.block≠g) (hb:0<m→∀ ad,B=some ad→ad.block≠g) (x y z:Value) :
 Sp (((w2.setCell ⟨g,0,none⟩ x).setCell ⟨g,1,none⟩ y).setCell ⟨g,2,none⟩ z) A n c B m d s:=by
 have ho:∀ k,k≠g→(((w2.setCell ⟨g,0,none⟩ x).setCell ⟨g,1,none⟩ y).setCell ⟨g,2,none⟩ z).heap[k]?=w2.heap[k]?:=(But.put w2 g x y z).2
 exact ⟨hs.fr.moved (by omega) (fun hn ad e=>ho _ (ha hn ad e)),hs.pe.moved (by omega) (fun hn ad e=>ho _ (hb hn ad e))⟩
theorem cut_of {w w2:World} {g:Nat} {A B:Option Addr} {n c m d:Nat} {s:SS} {x y z:Value} (r:Int×Int×SS) (hr:r.2.2=s) (hg:w.heap.size≤g) (hbox:Box w2 g x y z) (hs:Sp w2 A n c B m d s) (ha:0<n→∀ ad,A=some ad→ad.block≠g) (hb:0<m→∀ ad,B=some ad→ad.block≠g)
 (i1:Hi w.heap.size A) (i2:Hi w.heap.size B) (hbel:Below w.heap.size w w2):TakeCut w r (.pointer (some ⟨g,0,none⟩)) (.int .i64 r.2.1) (.int .i64 r.1) (((w2.setCell ⟨g,0,none⟩ (.int .i64 s.hi)).setCell ⟨g,1,none⟩ (.slice A n c)).setCell ⟨g,2,none⟩ (.slice B m d)):=by
 subst hr
 exact ⟨g,A,n,c,B,m,d,rfl,rfl,rfl,hbox.put _ _ _,sp_put hs ha hb _ _ _,i1,i2,below_put hbel hg _ _ _⟩
theorem TAt.four (h:TAt W G F w tb mb pb db A n c B m d f t):w.cell? ⟨tb,0,none⟩=some (.pointer (some ⟨pb,0,none⟩))∧w.cell? ⟨tb,4,none⟩=some (.int .i64 t.sp.hi)∧w.cell? ⟨tb,5,none⟩=some (.slice A n c)∧w.cell? ⟨tb,6,none⟩=some (.slice B m d) :=
 ⟨h.box.cells.1,h.box.cells.2.2.2.2.1,h.box.cells.2.2.2.2.2.1,h.box.cells.2.2.2.2.2.2.1⟩
theorem sp_lt {w:World} {A B:Option Addr} {n c m d:Nat} {s:SS} (h:Sp w A n c B m d s):(0<n→∀ ad,A=some ad→ad.block<w.heap.size)∧(0<m→∀ ad,B=some ad→ad.block<w.heap.size) :=
 ⟨fun hn _ e=>h.fr.lt (by omega) e,fun hn _ e=>h.pe.lt (by omega) e⟩
theorem tk_any (w:World) (h:TAt W G F w tb mb pb db A n c B m d f t) :
 Calls Tryz.prog 59 #[.pointer (some ⟨tb,0,none⟩)] w (TPage W F w tb pb db t.tk):=by
 have K:=h.four
 have H:=Lib.hid h
 obtain ⟨q1,q2,q3,q4⟩:=h.box.fit.few
 have hn:n≤400000:=by rw [h.box.sp.fl] at q1;omega
 have hm:m≤400000:=by rw [h.box.sp.pl] at q2;omega
 have hz:=h.box.fit.z4
 clear h
 go_enter Tryz.func59,Tryz.ntmps59
 go_upto_region 1 with fail
 go_cut [4,5,6] (fun s4 s5 s6 wx=>TakeCut w (t.sp.take t.z) s4 s5 s6 wx)
 case first =>
  have bd:=(Below.refl w.heap.size w).drew
  have ba:=bd.trans ((below_one w.drew (.cells #[.int .i64 0,.slice none 0 0,.slice none 0 0] 49)).mono bd.size)
  have D0:=Lib.hid (H.out.kept bd).sizeIs
  have D1:=Lib.hid (H.out.kept ba).sizeIs
  have P0:=Lib.hid (H.out.kept bd).box.sp
  have P1:=Lib.hid (H.out.kept ba).box.sp
  have BD:=Lib.hid bd
  have BA:=Lib.hid ba
  have BX:Hid (Box (w.drew.alloc (.cells #[.int .i64 0,.slice none 0 0,.slice none 0 0] 49)) w.heap.size (.int .i64 0) (.slice none 0 0) (.slice none 0 0)):=Lib.hid (box_new w.drew (.int .i64 0) (.slice none 0 0) (.slice none 0 0))
  have K0:=(H.out.kept bd).four
  have K1:=(H.out.kept ba).four
  obtain ⟨c0,c4,c5,c6⟩:=(H.out.kept bd).four
  clear bd ba K
  go_region_held3 (fun w'=>w'.cell? ⟨tb,0,none⟩=some (.pointer (some ⟨pb,0,none⟩))∧w'.cell? ⟨tb,4,none⟩=some (.int .i64 t.sp.hi)∧w'.cell? ⟨tb,5,none⟩=some (.slice A n c)∧w'.cell? ⟨tb,6,none⟩=some (.slice B m d))
   (first | exact K3 _ | exact K5 _ _ _ | exact K2 | exact K0 | exact K1)
   (first
     | (go_at_call 87;refine (take_hi t.sp t.sp.hi (t.z:Nat) A B n c m d _ rfl (by first | exact P0.out | exact P1.out) hn hm (by omega) (by omega)).mono ?_;rintro e w2 ⟨v2,rfl,o2,b2⟩;have BW:Hid (Below w.heap.size w w2):=Lib.hid (by first | exact BD.out.trans (b2.mono BD.out.size) | exact BA.out.trans (b2.mono BA.out.size));obtain ⟨A2,n2,c2,B2,m2,d2,rfl,p2,i2,j2⟩:=o2;have K2:=(H.out.kept BW.out).four;have K3:=fun o:Obj=>(H.out.kept (BW.out.trans ((below_one w2 o).mono BW.out.size))).four;have K5:=fun x y z:Value=>(H.out.kept (below_put BW.out (Nat.le_refl w.heap.size) x y z)).four;have P2:=Lib.hid p2;have I2:=Lib.hid i2;have J2:=Lib.hid j2;have B2':=Lib.hid b2;(first | (have BY:=Lib.hid (BX.out.kept b2);obtain ⟨y0,y1,y2⟩:=BY.out.cells;obtain ⟨f0,f1,f2⟩:=BY.out.free) | skip);clear p2 i2 j2 b2)
     | (go_at_call 44;refine (by first | exact D0.out.2 | exact D1.out.2:Calls Tryz.prog 44 #[.pointer (some ⟨db,0,none⟩)] _ fun e w'=>e = .returned (.int .i64 (t.z:Nat))∧_=w').mono ?_;rintro e w' ⟨rfl,rfl⟩)
     | (go_at_call 25;refine (by first | exact D0.out.1 | exact D1.out.1:Calls Tryz.prog 25 #[.pointer (some ⟨pb,0,none⟩)] _ fun e w'=>e = .returned (.pointer (some ⟨db,0,none⟩))∧_=w').mono ?_;rintro e w' ⟨rfl,rfl⟩))
  all_goals (
   go_wp2_with fail
   go_meet
   first
    | exact ⟨_,_,_,_,_,_,_,rfl,rfl,rfl,box_new w2 _ _ _,P2.out.kept (below_one w2 _),Hi.low I2.out BD.out.size,Hi.low J2.out BD.out.size,BW.out.trans ((below_one w2 _).mono BW.out.size)⟩
    | exact ⟨_,_,_,_,_,_,_,rfl,rfl,rfl,box_new w2 _ _ _,P2.out.kept (below_one w2 _),Hi.low I2.out BA.out.size,Hi.low J2.out BA.out.size,BW.out.trans ((below_one w2 _).mono BW.out.size)⟩
    | exact cut_of _ rfl (Nat.le_refl _) BY.out P2.out (fun _ ad e=>by have:=I2.out ad e;simp at this;omega) (fun _ ad e=>by have:=J2.out ad e;simp at this;omega) (Hi.low I2.out BA.out.size) (Hi.low J2.out BA.out.size) BW.out)
 case rest =>
  obtain ⟨g,A2,n2,c2,B2,m2,d2,rfl,rfl,rfl,bx,p2,i2,j2,b2⟩:=hcut
  have hfin:=fine_take (s:=t.sp) (z:=t.z) H.out.box.fit.fine
  have htk:t.tk=if (t.sp.take t.z).1=0 then (0,(t.sp.take t.z).2.1,{ t with sp:=(t.sp.take t.z).2.2,fr:=TS.setB t.fr (t.sp.take t.z).2.1 true }) else ((t.sp.take t.z).1,0,t):=rfl
  rcases hr:t.sp.take t.z with ⟨e,p,s'⟩
  rw [hr] at bx p2 hfin htk
  dsimp only at bx p2 hfin htk ⊢
  by_cases he:e=0
  ·subst he
   rw [if_pos rfl] at htk
   obtain ⟨f1,f2,f3⟩:=hfin rfl
   obtain ⟨F3,h3,m3⟩:=H.out.setSp b2 p2 i2 j2 f1
   obtain ⟨w4,hrun,hm,hg⟩:=h3.box.fresh.putU (i:=p) (by omega) (by have:=h3.box.fit.z4;dsimp only at this;omega) (.agg #[])
   rw [show upd (frM ({ t with sp:=s' }:TS).fr) p (some (.agg #[]))=frM (TS.setB t.fr p true) from frM_set t.fr p] at hm
   obtain ⟨F4,h4,m4⟩:=h3.setFresh hg hm (fun q hq=>by
    change (if q=p then true else t.fr q)=true at hq
    by_cases hqp:q=p
    ·subst hqp
     exact ⟨f2,f3⟩
    ·rw [if_neg hqp] at hq
     exact H.out.box.fit.fresh q hq)
   have HD:Hid (TPage W F w tb pb db t.tk (.returned (.tuple #[.int .i64 p,.int .i64 0])) w4):=Lib.hid (by
    rw [htk]
    exact ⟨rfl,F4,h4.tree,m3.trans m4⟩)
   obtain ⟨x0,x1,x2⟩:=bx.cells
   obtain ⟨c0,c1,c2',c3,c4,c5,c6,c7,c8,c9⟩:=(H.out.kept b2).box.cells
   have g4:=(H.out.kept b2).box.free 4
   have g5:=(H.out.kept b2).box.free 5
   have g6:=(H.out.kept b2).box.free 6
   have C8:=Lib.hid h3.box.cells.2.2.2.2.2.2.2.2.1
   have HR:=Lib.hid hrun
   clear h3 h4 m3 m4 hm hg hrun bx p2 i2 j2 hfin htk f1 f2 f3 c0 c1 c2' c3 c7 c8 c9 K q1 q2 q3 q4
   go_upto_region 5 with fail
   generalize ((wc.setCell ⟨tb,4,none⟩ (.int .i64 s'.hi)).setCell ⟨tb,5,none⟩ (.slice A2 n2 c2)).setCell ⟨tb,6,none⟩ (.slice B2 m2 d2)=w3 at *
   have c8:=C8.out
   have hrun:=HR.out
   clear x0 x1 x2 c4 c5 c6 g4 g5 g6
   go_wp2_with fail
   refine bodyPost_ret (v := .tuple #[.int .i64 p,.int .i64 0]) (by simp [results,Tryz.results59,go_sem]) rfl ?_
   exact HD.out
  ·have hb:(e != 0)=true:=bne_iff_ne.2 he
   rw [if_neg he] at htk
   have HD:Hid (TPage W F w tb pb db t.tk (.returned (.tuple #[.int .i64 0,.int .i64 e])) wc):=Lib.hid (by
    rw [htk]
    exact ⟨rfl,TGoes.of_below H.out.tree b2⟩)
   clear he bx p2 i2 j2 hfin htk K
   go_wp2_with fail
   refine bodyPost_ret (v := .tuple #[.int .i64 0,.int .i64 e]) (by simp [results,Tryz.results59,go_sem]) rfl ?_
   exact HD.out
end
end Go.Proofs.YtccphijgcapeoaaGreat
/-
  The library function that puts numbers in order is, in this program, the one that the library's contracts speak of. Conditions: none.
-/
namespace Go.Proofs.YtccphijgcapeoaaGreat
open Go.Shelf
def Tryz.sortA_ren:Go.Shelf.Ren:=⟨fun | 5=>98 | 8=>103 | 7=>131 | 19=>141 | 20=>142 | 10=>161 | 11=>162 | 12=>163 | 13=>164 | 14=>165 | 15=>166 | 16=>167 | 17=>168 | 18=>169 | 30=>190 | 31=>171 | 32=>172 | 33=>191 | 34=>192 | 35=>104 | 40=>204 | n=>n,fun | 23=>36 | 25=>3 | 3=>3 | 32=>171 | 22=>36 | 0=>0 | 44=>209 | 46=>211 | 4=>4 | 36=>203 | 35=>202 | 41=>98 | 5=>5 | 9=>9 | 53=>237 | 57=>241 | 63=>256 | 64=>257 | n=>n,fun | n=>n⟩
theorem Tryz.sortA:Go.Proofs.SlLaysM.n5 Tryz.prog Tryz.sortA_ren:={
 mixed:=by kernel_rfl
 f5:=⟨Tryz.f98.name,by decide,Tryz.func98.trans (congrArg some (by kernel_rfl))⟩
 f7:=⟨Tryz.f131.name,by decide,Tryz.func131.trans (congrArg some (by kernel_rfl))⟩
 f8:=Tryz.func103.trans (congrArg some (by kernel_rfl))
 f10:=⟨Tryz.f161.name,by decide,Tryz.func161.trans (congrArg some (by kernel_rfl))⟩
 f11:=⟨Tryz.f162.name,by decide,Tryz.func162.trans (congrArg some (by kernel_rfl))⟩
 f12:=⟨Tryz.f163.name,by decide,Tryz.func163.trans (congrArg some (by kernel_rfl))⟩
 f13:=⟨Tryz.f164.name,by decide,Tryz.func164.trans (congrArg some (by kernel_rfl))⟩
 f14:=⟨Tryz.f165.name,by decide,Tryz.func165.trans (congrArg some (by kernel_rfl))⟩
 f15:=⟨Tryz.f166.name,by decide,Tryz.func166.trans (congrArg some (by kernel_rfl))⟩
 f16:=⟨Tryz.f167.name,by decide,Tryz.func167.trans (congrArg some (by kernel_rfl))⟩
 f17:=⟨Tryz.f168.name,by decide,Tryz.func168.trans (congrArg some (by kernel_rfl))⟩
 f18:=⟨Tryz.f169.name,by decide,Tryz.func169.trans (congrArg some (by kernel_rfl))⟩
 f19:=Tryz.func141.trans (congrArg some (by kernel_rfl))
 f20:=Tryz.func142.trans (congrArg some (by kernel_rfl))
 f30:=⟨Tryz.f190.name,by decide,Tryz.func190.trans (congrArg some (by kernel_rfl))⟩
 f31:=Tryz.func171.trans (congrArg some (by kernel_rfl))
 f32:=Tryz.func172.trans (congrArg some (by kernel_rfl))
 f33:=⟨Tryz.f191.name,by decide,Tryz.func191.trans (congrArg some (by kernel_rfl))⟩
 f34:=⟨Tryz.f192.name,by decide,Tryz.func192.trans (congrArg some (by kernel_rfl))⟩
 f35:=⟨Tryz.f104.name,by decide,Tryz.func104.trans (congrArg some (by kernel_rfl))⟩
 f40:=⟨Tryz.f204.name,by decide,Tryz.func204.trans (congrArg some (by kernel_rfl))⟩
 t0:=Tryz.underlying0
 a0:=Tryz.isAgg0
 z0:=Tryz.sizeOf0
 v0:=Tryz.zeroValue0
 t3:=Tryz.underlying3
 a3:=Tryz.isAgg3
 z3:=Tryz.sizeOf3
 v3:=Tryz.zeroValue3
 t4:=Tryz.underlying4
 a4:=Tryz.isAgg4
 z4:=Tryz.sizeOf4
 v4:=Tryz.zeroValue4
 t5:=Tryz.underlying5
 a5:=Tryz.isAgg5
 z5:=Tryz.sizeOf5
 v5:=Tryz.zeroValue5
 t9:=Tryz.underlying9
 a9:=Tryz.isAgg9
 z9:=Tryz.sizeOf9
 v9:=Tryz.zeroValue9
 t22:=Tryz.underlying36
 a22:=Tryz.isAgg36
 z22:=Tryz.sizeOf36
 v22:=Tryz.zeroValue36
 t23:=Tryz.underlying36
 a23:=Tryz.isAgg36
 z23:=Tryz.sizeOf36
 v23:=Tryz.zeroValue36
 t25:=Tryz.underlying3
 a25:=Tryz.isAgg3
 z25:=Tryz.sizeOf3
 v25:=Tryz.zeroValue3
 t32:=Tryz.underlying171
 a32:=Tryz.isAgg171
 z32:=Tryz.sizeOf171
 v32:=Tryz.zeroValue171
 t35:=Tryz.underlying202
 a35:=Tryz.isAgg202
 z35:=Tryz.sizeOf202
 v35:=Tryz.zeroValue202
 t36:=Tryz.underlying203
 a36:=Tryz.isAgg203
 z36:=Tryz.sizeOf203
 v36:=Tryz.zeroValue203
 t41:=Tryz.underlying98
 a41:=Tryz.isAgg98
 z41:=Tryz.sizeOf98
 v41:=Tryz.zeroValue98
 t44:=Tryz.underlying209
 a44:=Tryz.isAgg209
 z44:=Tryz.sizeOf209
 v44:=Tryz.zeroValue209
 t46:=Tryz.underlying211
 a46:=Tryz.isAgg211
 z46:=Tryz.sizeOf211
 v46:=Tryz.zeroValue211
 t53:=Tryz.underlying237
 a53:=Tryz.isAgg237
 z53:=Tryz.sizeOf237
 v53:=Tryz.zeroValue237
 t57:=Tryz.underlying241
 a57:=Tryz.isAgg241
 z57:=Tryz.sizeOf241
 v57:=Tryz.zeroValue241
 t63:=Tryz.underlying256
 a63:=Tryz.isAgg256
 z63:=Tryz.sizeOf256
 v63:=Tryz.zeroValue256
 t64:=Tryz.underlying257
 a64:=Tryz.isAgg257
 z64:=Tryz.sizeOf257
 v64:=Tryz.zeroValue257 }
end Go.Proofs.YtccphijgcapeoaaGreat
/-
  What slices.Sort comes to at a list of ints of one's own.
-/
namespace Go.Proofs.YtccphijgcapeoaaGreat
open Go.RowKit Go.Sort Go.Shelf
def SortEnd (w:World) (base:Nat) (v:Value) (n:Nat) (zs:List Int) (e:Ending) (w':World):Prop :=
 ∃ ms:List Int,e = .returned (.tuple #[])∧ms.Perm zs∧ms.Pairwise (·≤·)∧w'.ownsRow base 3 1 v n (intVals ms)∧w.grownBy w' v.ownBlock
theorem sort_any (base:Nat) (A:Option Addr) (n c:Nat) (zs:List Int) (w:World) (h:w.ownsRow base 3 1 (.slice A n c) n (intVals zs)) (hn:n≤1000000) :
 Calls Tryz.prog 98 #[.slice A n c] w (SortEnd w base (.slice A n c) n zs):=by
 have hl:zs.length=n:=by
  have:=h.1
  rw [intVals_length] at this
  omega
 rcases h.2 with ⟨hv,h0⟩ | ⟨g,cap,cur,hv,hb,hh,hnc,hm,hsz,ht⟩
 ·injection hv with e1 e2 e3
  subst e1
  subst e2
  subst e3
  refine (AnyM.slices_Sort_int_none Tryz.sortA none 0 w).mono ?_
  rintro e w' ⟨rfl,rfl⟩
  obtain rfl:zs=[]:=List.eq_nil_of_length_eq_zero hl
  exact ⟨[],rfl,List.Perm.refl _,List.Pairwise.nil,h,World.grownBy.refl _ _⟩
 ·injection hv with e1 e2 e3
  subst e1
  subst e3
  rw [Nat.mul_one,← hl] at ht
  have hH:Holds (Value.int .i64) w g 0 zs.toArray:=holds_of_blockI hh ht
  have hg:g<w.heap.size:=(Array.getElem?_eq_some_iff.1 hh).1
  have hc:=AnyM.slices_Sort_int Tryz.sortA g 0 c zs w hH hg (by omega)
  rw [hl] at hc
  refine hc.mono ?_
  rintro e w' ⟨rfl,m,os,rfl⟩
  have hlen:(zs.mergeSort fun x y=>decide (x≤y)).length=zs.length:=List.length_mergeSort _
  refine ⟨zs.mergeSort fun x y=>decide (x≤y),rfl,List.mergeSort_perm _ _,?_,?_,grownBy_sortedI _⟩
  ·exact (List.pairwise_mergeSort (le:=fun x y:Int=>decide (x≤y)) (fun a b c h1 h2=>by simp only [decide_eq_true_eq] at *;omega) (fun a b=>by simp only [Bool.or_eq_true,decide_eq_true_eq];omega) zs).imp (fun h=>of_decide_eq_true h)
  ·have:=ownsRow_sortedI (n:=m) (os:=os) hlen hb hh (by omega) hm hsz
   rw [hl] at this
   exact this
end Go.Proofs.YtccphijgcapeoaaGreat
/-
  What laid comes to: pages at their places.
-/
namespace Go.Proofs.YtccphijgcapeoaaGreat
open Go.RowKit
theorem intsInfo:(Tryz.prog.info? 36).map (fun i=>(i.zero,i.size,i.bytes))=some (some (.slice none 0 0),1,24):=by kernel_rfl
def Pc.val (q:Pc):Value := .slice q.A q.n q.c
def Good (w:World) (qs:List Pc):Prop:=∀ q∈qs,Ln w 1 q.A q.n q.c q.cs∧∀ u∈q.cs,u.oneCell'=true
theorem pile_own {w:World} {base N c:Nat} {A:Option Addr} {t:TypeId} {qs:List Pc} (h:w.ownsRow base t 1 (.slice A N c) N (qs.map Pc.val)) (hg:Good w qs):Pile w 1 A qs:=by
 rcases h.2 with ⟨hv,h0⟩ | ⟨g,cap,cur,hv,_⟩
 ·subst h0
  have:=h.1
  exact Or.inl (List.eq_nil_of_length_eq_zero (by simpa using this))
 ·injection hv with e1 e2 e3
  subst e1
  refine Or.inr ⟨g,0,rfl,fun i p hp=>⟨?_,hg p (List.mem_of_getElem? hp)⟩⟩
  have:=h.cells (g:=g) rfl i p.val (by rw [List.getElem?_map,hp];rfl)
  rw [addr_add] at this
  exact this
structure LaidAt (wp:World) (n:Nat) (ms zs:List Int) (k:Nat) (A:Option Addr) (n' c':Nat) (rest:List Int) (qs:List Pc) (v:Value) (wk:World):Prop where
 left:Ln wp 1 A n' c' (intVals rest)
 good:Good wp qs
 len:qs.length=2*k
 sum:tot qs+n'=n+k
 all:pcs qs++intVals (SS.insL (ms.drop k) rest)=intVals (SS.insL ms zs)
 own:wk.ownsRow wp.heap.size 36 1 v (2*k) (qs.map Pc.val)
 bel:Below wp.heap.size wp wk
def LaidRel (wp:World) (n:Nat) (ms zs:List Int) (k:Nat) (s v:Value) (wk:World):Prop :=
 ∃ (A:Option Addr) (n' c':Nat) (rest:List Int) (qs:List Pc),s = .slice A n' c'∧LaidAt wp n ms zs k A n' c' rest qs v wk
theorem LaidAt.below {wp wr w':World} {n k n' c':Nat} {ms zs rest:List Int} {A:Option Addr} {qs:List Pc} {v:Value} (h:LaidAt wp n ms zs k A n' c' rest qs v wr) (hb:Below wr.heap.size wr w'):LaidAt wp n ms zs k A n' c' rest qs v w' :=
 {h with
  own:=row_below h.own hb
  bel:=h.bel.trans (hb.mono h.bel.size) }
theorem LaidAt.step {wp wr w3:World} {n k n' c' c'' c1:Nat} {ms zs rest:List Int} {A A' B:Option Addr} {qs:List Pc} {u6 v3:Value} {x:Int} {C:Array Value} {T:TypeId}
 (h:LaidAt wp n ms zs k A n' c' rest qs u6 wr) (hs:ms.Pairwise (·≤·)) (hx:ms[k]?=some x) (hB:Ln wp 1 B 1 c1 (intVals [x])) (hA:Ln wp 1 A' (n' - SS.place x rest) c'' (intVals (rest.drop (SS.place x rest))))
 (hown:w3.ownsRow wp.heap.size 36 1 v3 (2*k+2) (qs.map Pc.val++[.slice A (SS.place x rest) c',.slice B 1 c1])) (hg:((wr.alloc (.cells C T)).drew).grownBy w3 u6.ownBlock) :
 LaidRel wp n ms zs (k+1) (.slice A' (n' - SS.place x rest) c'') v3 w3:=by
 have hl:rest.length=n':=h.left.intN
 have hp:=SS.place_le x rest
 have ht:=h.left.intTake (k:=SS.place x rest) (by omega)
 have hd:ms.drop k=x::ms.drop (k+1):=by
  obtain ⟨hk,e⟩:=List.getElem?_eq_some_iff.1 hx
  rw [List.drop_eq_getElem_cons hk,e]
 have hxs:∀ q∈ms.drop (k+1),x≤q:=by
  have h1:(ms.drop k).Pairwise (·≤·):=hs.sublist (List.drop_sublist k ms)
  rw [hd] at h1
  exact (List.pairwise_cons.1 h1).1
 refine ⟨A',_,c'',_,qs++[⟨A,SS.place x rest,c',intVals (rest.take (SS.place x rest))⟩,⟨B,1,c1,intVals [x]⟩],rfl,hA,fun q hq=>?_,?_,?_,?_,?_,?_⟩
 ·rcases List.mem_append.1 hq with hq | hq
  ·exact h.good q hq
  ·rcases List.mem_cons.1 hq with rfl | hq
   ·exact ⟨ht,intVals_one _⟩
   ·obtain rfl:q=_:=by simpa using hq
    exact ⟨hB,intVals_one _⟩
 ·rw [List.length_append,h.len]
  simp
  omega
 ·have:=h.sum
  unfold tot at this ⊢
  rw [List.map_append,List.sum_append]
  simp
  omega
 ·rw [← h.all,hd,SS.insL_step _ hxs]
  unfold pcs
  rw [List.flatMap_append,List.append_assoc]
  congr 1
  simp [intVals,List.map_append]
 ·rw [List.map_append]
  exact hown
 ·exact ((h.bel.alloc h.bel.size _).drew).grown hg (by have:=h.bel.size;simp;omega) (fun g hg=>(h.own.lt g hg).1)
theorem LaidAt.fin {wp wr w3:World} {n k n' c' c'' c1 p:Nat} {ms zs rest:List Int} {A A' B:Option Addr} {qs:List Pc} {u6 v3:Value} {x:Int} {C:Array Value} {T:TypeId}
 (h:LaidAt wp n ms zs k A n' c' rest qs u6 wr) (hs:ms.Pairwise (·≤·)) (hx:ms[k]?=some x) (hB:Ln wp 1 B 1 c1 (intVals [x])) (hp:SS.place x rest=p) (hA:Ln wp 1 A' (n' - p) c'' (intVals (rest.drop p)))
 (hown:w3.ownsRow wp.heap.size 36 1 v3 (2*k+2) (qs.map Pc.val++[.slice A p c',.slice B 1 c1])) (hg:((wr.alloc (.cells C T)).drew).grownBy w3 u6.ownBlock) :
 LaidRel wp n ms zs (k+1) (.slice A' (n' - p) c'') v3 w3:=by
 subst hp
 exact h.step hs hx hB hA hown hg
theorem laid_any (A B:Option Addr) (n c m d:Nat) (zs ps:List Int) (w:World) (hz:Ln w 1 A n c (intVals zs)) (hp:Ln w 1 B m d (intVals ps)) (hn:n≤400000) (hm:m≤400000) :
 Calls Tryz.prog 126 #[.slice A n c,.slice B m d] w (JoinEnd w 3 1 (n+m) (intVals (SS.insL ps zs))):=by
 obtain ⟨i0,hi,hz0,hz1,hz2⟩:=info_parts intsInfo
 have HZ:=Lib.hid (hz.kept (below_one w (.cells #[.slice B m d] 36)))
 have HP:=Lib.hid (pile_one hp (intVals_one _) 36)
 have HPN:=Lib.hid hp.intN
 have B0:=Lib.hid (below_one w (.cells #[.slice B m d] 36))
 clear hz hp
 go_enter Tryz.func126,Tryz.ntmps126
 go_wp2_with fail
 refine (join_I _ 1 1 m _ _ HP.out rfl (by simp [tot]) (by omega) (by decide)).mono ?_
 rintro e w1 ⟨v1,rfl,o1,b1⟩
 rw [show pcs [⟨B,m,d,intVals ps⟩]=intVals ps by simp [pcs]] at o1
 have HZ1:=Lib.hid (HZ.out.kept b1)
 have B1:=Lib.hid (B0.out.trans (b1.mono B0.out.size))
 have HLT:=Lib.hid (show w.heap.size≤(w.alloc (.cells #[.slice B m d] 36)).heap.size from B0.out.size)
 obtain ⟨A1,c1,rfl,hc1,l1⟩:=Ln.of_own o1
 have HSo:=Lib.hid (sort_any _ A1 m c1 ps w1 o1 (by omega))
 have HO1:=Lib.hid o1
 have B1':=Lib.hid b1
 clear b1 o1 l1 HP
 generalize w.alloc (.cells #[.slice B m d] 36)=w0 at *
 go_wp2_with fail
 refine HSo.out.mono ?_
 rintro e wp ⟨ms,rfl,hperm,hso,o2,hg⟩
 have B2':=Lib.hid (B1'.out.grown hg B1'.out.size (fun g hg=>(HO1.out.lt g hg).1))
 have B2:=Lib.hid (B0.out.trans (B2'.out.mono HLT.out))
 have HZ2:=Lib.hid (HZ.out.kept B2'.out)
 obtain ⟨A2,c2,e2,hc2,l2⟩:=Ln.of_own o2
 injection e2 with e2 e3 e4
 subst e2
 subst e4
 have L2:=Lib.hid l2
 have HM:=Lib.hid hso
 have HI:Hid (intVals (SS.insL ms zs)=intVals (SS.insL ps zs)):=Lib.hid (by rw [SS.insL_perm hperm])
 have H0:Hid (LaidRel wp n ms zs 0 (.slice A n c) (.slice none 0 0) wp) :=
  Lib.hid ⟨A,n,c,zs,[],rfl,HZ2.out,fun q hq=>absurd hq (by simp),rfl,by simp [tot],by simp [pcs],World.ownsRow_nil _ _ _ _,Below.refl _ _⟩
 clear hg o2 l2 hso hperm B1' B1 HZ HSo HO1 B2' HZ2 B0
 go_wp2_with fail
 go_loopw [0,6,16] (fun s v i wk=>∃ k:Nat,k≤m∧i = .int .i64 k∧Hid (LaidRel wp n ms zs k s v wk)) (fun _ _ i _=>m - (RowKit.intOf i).toNat)
 case atStart=>exact ⟨0,Nat.zero_le _,rfl,H0⟩
 case round =>
  obtain ⟨k,hk,rfl,HR⟩:=hrel
  obtain ⟨A',n',c',rest,qs,rfl,h1⟩:=HR.out
  have H1:=Lib.hid h1
  clear HR h1
  by_cases hlt:k<m
  ·obtain ⟨b,off,x,rfl,hv,c0⟩:=(L2.out.kept H1.out.bel).intAt hlt
   have HX:=Lib.hid hv
   have hsum:=H1.out.sum
   clear hv
   go_wp2_with fail
   refine (place_any A' n' c' rest x wr (H1.out.left.kept H1.out.bel) (by omega)).mono ?_
   rintro e w4 ⟨rfl,b4⟩
   have H2:=Lib.hid (H1.out.below b4)
   have hple:SS.place x rest≤n':=by have:=SS.place_le x rest;rw [H1.out.left.intN] at this;exact this
   have hnc:=H1.out.left.le
   have hNil:=H1.out.left.lies.1
   have HB:Hid (Ln wp 1 (some ⟨b,off+k,none⟩) 1 (c1 - k) (intVals [x])):=by
    have hd:=(L2.out.intDrop (k:=k) (by omega)).intTake (k:=1) (by omega)
    obtain ⟨hk',e⟩:=List.getElem?_eq_some_iff.1 HX.out
    rw [List.drop_eq_getElem_cons hk',e] at hd
    exact Lib.hid hd
   have hmc:=L2.out.le
   clear b4 c0 H1
   obtain ⟨p,hp⟩:∃ p,SS.place x rest=p:=⟨_,rfl⟩
   have hp2:=Lib.hid hp
   rw [hp] at hple ⊢
   clear hp
   have o3:=H2.out.own
   have i1:(k:Int)+1≤(c1:Int):=by omega
   have i2:(0:Int)≤(k:Int):=by omega
   have i3:(p:Int)≤(c':Int):=by omega
   have i5:IntKind.i64.wrap ((k:Int)+1)=(k:Int)+1:=IntWalk.i64_in _ (by omega)
   have i6:(k:Int)≤(k:Int)+1:=by omega
   have i7:(k:Int)<(c1:Int):=by omega
   have i8:(0:Int)≤(p:Int):=by omega
   have i9:¬ c1=k:=by omega
   have bsz:=H2.out.bel.size
   rcases A' with _ | ad
   ·obtain ⟨rfl,rfl⟩:=hNil rfl
    obtain rfl:p=0:=by omega
    go_wp2_with fail
    go_region_held3 (fun _=>True)
     (first | exact trivial)
     ((refine step_append_lies _ (by rfl) _ _ _ (by rfl) wp.heap.size 36 i0 _ 1 24 Tryz.underlying213 hi hz0 hz1 hz2 rfl (by omega) u6 (2*k) (qs.map Pc.val) (by rfl) ((o3.alloc _).drew)
        ⟨w4.heap.size,0,none⟩ 2 2 [.slice none 0 0,.slice (some ⟨b,off+k,none⟩) 1 (c1 - k)] (by rfl) (by rfl) (World.news_of_block (cs:=#[.slice none 0 0,.slice (some ⟨b,off+k,none⟩) 1 (c1 - k)]) (t:=36) (fr:=(0,0)) (heap_alloc_new w4 _)) (by simp [Value.oneCell'])
        (by omega) (by unfold maxLen;omega) (by omega) (by simp;omega) (w4.heap.size+1) (by simp) ?_;intro gg cap w5 hown5 hgrow hat hlt5))
    have HR:Hid (LaidRel wp n ms zs (k+1) (.slice none 0 0) (.slice (some ⟨gg,0,none⟩) (2*k+2) cap) w5):=Lib.hid (LaidAt.fin H2.out HM.out HX.out HB.out hp2.out (by simpa using H2.out.left) hown5 hgrow)
    clear hown5 hgrow hat hlt5 o3
    go_wp2_with fail
    go_roundw
    case rel=>exact ⟨k+1,by omega,by go_num,HR⟩
    case measure=>simp [RowKit.intOf];omega
   ·by_cases hn0:n'=0
    ·subst hn0
     obtain rfl:p=0:=by omega
     go_wp2_with fail
     go_region_held3 (fun _=>True)
      (first | exact trivial)
      ((refine step_append_lies _ (by rfl) _ _ _ (by rfl) wp.heap.size 36 i0 _ 1 24 Tryz.underlying213 hi hz0 hz1 hz2 rfl (by omega) u6 (2*k) (qs.map Pc.val) (by rfl) ((o3.alloc _).drew)
         ⟨w4.heap.size,0,none⟩ 2 2 [.slice (some ad) 0 c',.slice (some ⟨b,off+k,none⟩) 1 (c1 - k)] (by rfl) (by rfl) (World.news_of_block (cs:=#[.slice (some ad) 0 c',.slice (some ⟨b,off+k,none⟩) 1 (c1 - k)]) (t:=36) (fr:=(0,0)) (heap_alloc_new w4 _)) (by simp [Value.oneCell'])
         (by omega) (by unfold maxLen;omega) (by omega) (by simp;omega) (w4.heap.size+1) (by simp) ?_;intro gg cap w5 hown5 hgrow hat hlt5))
     have HR:Hid (LaidRel wp n ms zs (k+1) (.slice (some ad) 0 c') (.slice (some ⟨gg,0,none⟩) (2*k+2) cap) w5):=Lib.hid (LaidAt.fin H2.out HM.out HX.out HB.out hp2.out (by simpa using H2.out.left) hown5 hgrow)
     clear hown5 hgrow hat hlt5 o3
     go_wp2_with fail
     go_roundw
     case rel=>exact ⟨k+1,by omega,by go_num,HR⟩
     case measure=>simp [RowKit.intOf];omega
    ·obtain ⟨b',off',e,_⟩:=H2.out.left.spot (by rw [intVals_length,H2.out.left.intN];omega)
     obtain rfl:=Option.some.inj e
     by_cases hpc:p=c'
     ·subst hpc
      obtain rfl:n'=p:=by omega
      have hA0:Ln wp 1 (some ⟨b',off',none⟩) (n' - n') 0 (intVals (rest.drop n')):=by
       rw [List.drop_of_length_le (by rw [H2.out.left.intN];exact Nat.le_refl _),Nat.sub_self]
       exact Ln.empty _ _ _ _
      have HA0:=Lib.hid hA0
      clear hA0
      go_wp2_with fail
      go_region_held3 (fun _=>True)
       (first | exact trivial)
       ((refine step_append_lies _ (by rfl) _ _ _ (by rfl) wp.heap.size 36 i0 _ 1 24 Tryz.underlying213 hi hz0 hz1 hz2 rfl (by omega) u6 (2*k) (qs.map Pc.val) (by rfl) ((o3.alloc _).drew)
          ⟨w4.heap.size,0,none⟩ 2 2 [.slice (some ⟨b',off',none⟩) n' n',.slice (some ⟨b,off+k,none⟩) 1 (c1 - k)] (by rfl) (by rfl) (World.news_of_block (cs:=#[.slice (some ⟨b',off',none⟩) n' n',.slice (some ⟨b,off+k,none⟩) 1 (c1 - k)]) (t:=36) (fr:=(0,0)) (heap_alloc_new w4 _)) (by simp [Value.oneCell'])
          (by omega) (by unfold maxLen;omega) (by omega) (by simp;omega) (w4.heap.size+1) (by simp) ?_;intro gg cap w5 hown5 hgrow hat hlt5))
      have HR:Hid (LaidRel wp n ms zs (k+1) (.slice (some ⟨b',off',none⟩) (n' - n') 0) (.slice (some ⟨gg,0,none⟩) (2*k+2) cap) w5):=Lib.hid (LaidAt.fin H2.out HM.out HX.out HB.out hp2.out (HA0.out) hown5 hgrow)
      rw [Nat.sub_self] at HR
      clear hown5 hgrow hat hlt5 o3
      go_wp2_with fail
      go_roundw
      case rel=>exact ⟨k+1,by omega,by go_num,HR⟩
      case measure=>simp [RowKit.intOf];omega
     ·have i4:(p:Int)<(c':Int):=by omega
      have j4:¬ c'=p:=by omega
      have j5:(p:Int)≤(n':Int):=by omega
      have j6:(n':Int)≤(c':Int):=by omega
      go_wp2_with fail
      go_region_held3 (fun _=>True)
       (first | exact trivial)
       ((refine step_append_lies _ (by rfl) _ _ _ (by rfl) wp.heap.size 36 i0 _ 1 24 Tryz.underlying213 hi hz0 hz1 hz2 rfl (by omega) u6 (2*k) (qs.map Pc.val) (by rfl) ((o3.alloc _).drew)
          ⟨w4.heap.size,0,none⟩ 2 2 [.slice (some ⟨b',off',none⟩) p c',.slice (some ⟨b,off+k,none⟩) 1 (c1 - k)] (by rfl) (by rfl) (World.news_of_block (cs:=#[.slice (some ⟨b',off',none⟩) p c',.slice (some ⟨b,off+k,none⟩) 1 (c1 - k)]) (t:=36) (fr:=(0,0)) (heap_alloc_new w4 _)) (by simp [Value.oneCell'])
          (by omega) (by unfold maxLen;omega) (by omega) (by simp;omega) (w4.heap.size+1) (by simp) ?_;intro gg cap w5 hown5 hgrow hat hlt5))
      have HR:Hid (LaidRel wp n ms zs (k+1) (.slice (some ⟨b',off'+p,none⟩) (n' - p) (c' - p)) (.slice (some ⟨gg,0,none⟩) (2*k+2) cap) w5):=Lib.hid (LaidAt.fin H2.out HM.out HX.out HB.out hp2.out (H2.out.left.intDrop (by omega)) hown5 hgrow)
      clear hown5 hgrow hat hlt5 o3
      go_wp2_with fail
      go_roundw
      case rel=>exact ⟨k+1,by omega,by go_num,HR⟩
      case measure=>simp [RowKit.intOf];omega
  ·obtain rfl:m=k:=by omega
   have o3:=H1.out.own
   have bsz:=H1.out.bel.size
   have hsum:=H1.out.sum
   have HA:Hid (pcs (qs++[⟨A',n',c',intVals rest⟩])=intVals (SS.insL ps zs)):=by
    have ha:=H1.out.all
    rw [List.drop_of_length_le (by rw [L2.out.intN];exact Nat.le_refl _),HI.out] at ha
    rw [← ha]
    unfold pcs
    rw [List.flatMap_append]
    exact Lib.hid (by simp [SS.insL])
   have HG:Hid (Good wp (qs++[⟨A',n',c',intVals rest⟩])):=by
    refine Lib.hid (fun q hq=>?_)
    rcases List.mem_append.1 hq with hq | hq
    ·exact H1.out.good q hq
    ·obtain rfl:q=_:=by simpa using hq
     exact ⟨H1.out.left,intVals_one _⟩
   have HT:Hid (tot (qs++[⟨A',n',c',intVals rest⟩])=n+m):=by
    unfold tot at hsum ⊢
    rw [List.map_append,List.sum_append]
    exact Lib.hid (by simp;omega)
   have HN2:Hid ((qs++[(⟨A',n',c',intVals rest⟩:Pc)]).length=2*m+1):=by
    rw [List.length_append,H1.out.len]
    exact Lib.hid rfl
   go_wp2_with (at_builtin;refine wpList_append_own _ rfl (.tmp 40) (.tmp 42) 213 rfl wp.heap.size 36 i0 (.slice none 0 0) 1 24 Tryz.underlying213 hi hz0 hz1 hz2 rfl (by decide) _ _ _ rfl (o3.alloc _) ⟨wr.heap.size,0,none⟩ 1 1 [.slice A' n' c'] rfl rfl (cell_one_new _ _ _) (by simp [Value.oneCell']) (by unfold maxLen;omega) (by omega) (by simp;omega) ?_;intro v5 w5 hown5 hg5 _;obtain ⟨A5,c5,rfl,hc5,l5⟩:=Ln.of_own hown5)
   have B5:=Lib.hid ((H1.out.bel.alloc bsz _).grown hg5 (by simp;omega) (fun g hg=>(o3.lt g hg).1))
   have HO5:Hid (w5.ownsRow wp.heap.size 36 1 (.slice A5 (2*m+1) c5) (2*m+1) ((qs++[(⟨A',n',c',intVals rest⟩:Pc)]).map Pc.val)):=by
    rw [List.map_append]
    exact Lib.hid hown5
   have HP5:=Lib.hid (pile_own HO5.out (show Good w5 (qs++[⟨A',n',c',intVals rest⟩]) from fun q hq=>⟨(HG.out q hq).1.kept B5.out,(HG.out q hq).2⟩))
   clear hown5 hg5 o3 l5
   refine (join_I A5 (2*m+1) c5 (n+m) _ w5 HP5.out HN2.out HT.out (by omega) (by omega)).mono ?_
   rintro e w6 ⟨v6,rfl,o6,b6⟩
   rw [HA.out] at o6
   have O6:=Lib.hid o6
   have B6:=Lib.hid (B2.out.trans ((B5.out.trans (b6.mono B5.out.size)).mono B2.out.size))
   have HLE:Hid (w.heap.size≤w5.heap.size):=Lib.hid (Nat.le_trans B2.out.size B5.out.size)
   clear o6 b6
   go_wp2_with fail
   go_ret
   exact ⟨_,rfl,own_base_low O6.out HLE.out,B6.out⟩
end Go.Proofs.YtccphijgcapeoaaGreat
