/-
  A part of the proof: what its texts say stands at the head of each. Conditions: none.
-/
import Derived.Test.YtccphijgcapeoaaGreatProg
import Derived.WalkKit
import Derived.WalkLawsBesides
import Derived.WalkSpells
import Derived.KernelRfl
import Derived.Deep.OwnRows
import Derived.Lib.Hide
import Derived.OwnWalk
import Derived.Laws.AppendOwn
import Derived.Maps.OwnSet
import Derived.Maps.RangeWalk
import Derived.Lib.SlKeysI
import Derived.Laws.Strings
import GoSem.Op.String
import Derived.Laws.BitsAllLaws

set_option maxRecDepth 20000
set_option maxHeartbeats 12800000
/-
  Plain facts on bytes as numbers; nothing here names the program.
-/
namespace Go.Proofs.YtccphijgcapeoaaGreat
theorem byte_lt (c:UInt8):c.toNat<256:=UInt8.toNat_lt c
theorem ofNat_toNat (n:Nat):(UInt8.ofNat n).toNat=n % 256:=by simp
end Go.Proofs.YtccphijgcapeoaaGreat
/-
  Plain words on memory, results and bytes that all texts stand on; nothing here names a function of the program.
-/
namespace Go.Proofs.YtccphijgcapeoaaGreat
open Go.RowKit
theorem below_two (w:World) (o o':Obj):Below w.heap.size w ((w.alloc o).alloc o') :=
 ((Below.refl _ _).alloc (Nat.le_refl _) _).alloc (by simp) _
theorem below_one (w:World) (o:Obj):Below w.heap.size w (w.alloc o) :=
 (Below.refl _ _).alloc (Nat.le_refl _) _
theorem belowN {B:Nat} {a w:World} (h:Below B a w) (n:Nat):Below B a (w.drewN n):=⟨h.os,h.tape,h.output,h.size,h.block⟩
theorem ret_bool {a b:Bool} (h:a=b):Ending.returned (.bool a) = .returned (.bool b):=by rw [h]
theorem ret_int {a b:Int} (h:a=b):Ending.returned (.int .i64 a) = .returned (.int .i64 b):=by rw [h]
theorem ret_num {k:IntKind} {a b:Int} (h:a=b):Ending.returned (.int k a) = .returned (.int k b):=by rw [h]
theorem addr_add (b off n:Nat):(⟨b,off,none⟩:Addr).add n=⟨b,off+n,none⟩:=by
 unfold Addr.add
 split
 ·rename_i h
  have:n=0:=by simpa using h
  subst this
  rfl
 ·rfl
end Go.Proofs.YtccphijgcapeoaaGreat
/-
  Maps whose keys are numbers, told entry by entry: what the operations on such a map come to.
-/
namespace Go.Proofs.YtccphijgcapeoaaGreat
open Go.RowKit Go.Maps
def heldR (v:Value):Option (DataW Value×List MemPlace):=some (.held v,[])
theorem keyLaw:Keyed Tryz.prog 3:=int_keyed Tryz.underlying3
theorem i64_wf {i:Int} (h1 : -9223372036854775808≤i) (h2:i≤9223372036854775807):(Lit.int .i64 i).wf=true:=by
 simp only [Lit.wf,Bool.and_eq_true,decide_eq_true_eq]
 have e1:IntKind.i64.min = -9223372036854775808:=rfl
 have e2:IntKind.i64.max=9223372036854775807:=rfl
 omega
theorem keyIs {i:Int} (h1 : -9223372036854775808≤i) (h2:i≤9223372036854775807):keyOf Tryz.prog 3 (.int .i64 i)=some (.int .i64 i):=keyOf_int_mk Tryz.underlying3 (i64_wf h1 h2)
section
variable {es:List (Lit×DataW Value)} {k:Lit} {d z:DataW Value}
theorem find_mem (hp:es.Pairwise (fun p q=>p.1≠q.1)) (hk:WideAt.IsKeyLit k) (h:(k,d)∈es):es.find? (fun p=>p.1.sameKey k)=some (k,d):=by
 induction es with
 | nil=>simp at h
 | cons y r ih =>
   obtain ⟨h1,h2⟩:=List.pairwise_cons.1 hp
   rcases List.mem_cons.1 h with e | e
   ·subst e
    simp [WideAt.sameKey_self hk]
   ·have hy:y.1.sameKey k=false:=Maps.sameKey_ne (h1 _ e)
    rw [List.find?_cons,hy]
    exact ih h2 e
theorem at_mem (hp:es.Pairwise (fun p q=>p.1≠q.1)) (hk:WideAt.IsKeyLit k) (h:(k,d)∈es):(DataW.map es).atKey k z=d:=by
 unfold DataW.atKey
 simp only [find_mem hp hk h]
theorem has_mem (hk:WideAt.IsKeyLit k) (h:(k,d)∈es):Maps.has (DataW.map es) k=true:=by
 rw [Maps.has_eq,List.any_eq_true]
 exact ⟨_,h,WideAt.sameKey_self hk⟩
theorem mem_has (h:Maps.has (DataW.map es) k=true):∃ d,(k,d)∈es:=by
 rw [Maps.has_eq,List.any_eq_true] at h
 obtain ⟨p,hp,hs⟩:=h
 have:=WideAt.sameKey_eq hs
 exact ⟨p.2,by rw [← this];exact hp⟩
theorem mem_insert {x y:Lit×DataW Value}:y∈DataW.insert x es ↔ y=x∨y∈es:=by
 rw [(WideShapes.insert_perm x es).mem_iff,List.mem_cons]
theorem few_nats:∀ (n:Nat) (l:List Nat),l.Pairwise (·≠·)→(∀ x∈l,x<n)→l.length≤n
 | 0,l,_,h=>by
   rcases l with _ | ⟨x,l⟩
   ·simp
   ·exact absurd (h x (by simp)) (by omega)
 | n+1,l,hp,h=>by
   have h1:=few_nats n (l.filter (fun x=>x≠n)) (hp.filter _) (fun x hx=>by
    obtain ⟨h2,h3⟩:=List.mem_filter.1 hx
    have:=h x h2
    have:x≠n:=by simpa using h3
    omega)
   have h2:l.length≤(l.filter (fun x=>x≠n)).length+1:=by
    clear h1 h
    induction l with
    | nil=>simp
    | cons y r ih =>
      obtain ⟨p1,p2⟩:=List.pairwise_cons.1 hp
      by_cases hy:y=n
      ·subst hy
       have:r.filter (fun x=>x≠y)=r:=List.filter_eq_self.2 (fun x hx=>by simpa using (p1 x hx).symm)
       rw [List.filter_cons,if_neg (by simp),this]
       simp
      ·rw [List.filter_cons,if_pos (by simpa using hy)]
       have:=ih p2
       simp only [List.length_cons]
       omega
   omega
end
def upd (f:Int→Option Value) (i:Int) (v:Option Value):Int→Option Value:=fun j=>if j=i then v else f j
def MapAt (w:World) (b:Nat) (f:Int→Option Value):Prop :=
 ∃ n es,w.ownsMap Tryz.prog 3 heldR b n (.map es)∧(∀ p∈es,∃ i v,p=(Lit.int .i64 i,DataW.held v)∧0≤i∧i<4096)∧∀ i v,f i=some v ↔ (Lit.int .i64 i,DataW.held v)∈es
section
variable {w w':World} {b:Nat} {f:Int→Option Value}
theorem tight {n:Nat} {es:List (Lit×DataW Value)} (h:w.ownsMap Tryz.prog 3 heldR b n (.map es)):w.ownsMap Tryz.prog 3 heldR b es.length (.map es):=by
 obtain ⟨xs,clock,hb,F,hs,hD⟩:=h
 refine ⟨xs,clock,hb,F,?_,hD⟩
 injection hD with e
 rw [e,length_sorted]
 simp
theorem few_of {es:List (Lit×DataW Value)} (hp:es.Pairwise (fun p q=>p.1≠q.1)) (hk:∀ p∈es,∃ i v,p=(Lit.int .i64 i,DataW.held v)∧0≤i∧i<4096):es.length≤4096:=by
 have:=few_nats 4096 (es.map fun p=>(_root_.Go.intOf p.1).toNat) (by
  rw [List.pairwise_map]
  refine List.Pairwise.imp_of_mem ?_ hp
  intro p q hp' hq' hne e
  obtain ⟨i,v,rfl,h1,h2⟩:=hk p hp'
  obtain ⟨j,u,rfl,h3,h4⟩:=hk q hq'
  simp only [_root_.Go.intOf] at e
  exact hne (by show Lit.int .i64 i=Lit.int .i64 j;rw [show i=j by omega])) (fun x hx=>by
  obtain ⟨p,hp',rfl⟩:=List.mem_map.1 hx
  obtain ⟨i,v,rfl,h1,h2⟩:=hk p hp'
  simp only [_root_.Go.intOf]
  omega)
 simpa using this
theorem MapAt.lt (h:MapAt w b f):b<w.heap.size:=by
 obtain ⟨n,es,ho,_⟩:=h
 exact ho.lt
theorem MapAt.isMap (h:MapAt w b f):∃ es clock,w.heap[b]?=some (.map es clock):=by
 obtain ⟨n,es,⟨xs,clock,hb,_⟩,_⟩:=h
 exact ⟨xs,clock,hb⟩
theorem MapAt.block (h:MapAt w b f) (e:w'.heap[b]?=w.heap[b]?):MapAt w' b f:=by
 obtain ⟨n,es,⟨xs,clock,hb,F,hs,hD⟩,hr⟩:=h
 exact ⟨n,es,⟨xs,clock,e.trans hb,F,hs,hD⟩,hr⟩
theorem mapAt_made (w:World):MapAt (w.alloc (.map #[] 0)) w.heap.size (fun _=>none) :=
 ⟨0,[],World.ownsMap_made w _ _ _,by simp,by simp⟩
theorem litKey (i:Int):WideAt.IsKeyLit (.int .i64 i):=trivial
theorem zeroBytes (w:World):(zeroValue 115).run Tryz.prog w = .ok (.slice none 0 0) w:=by kernel_rfl
/-- v, ok := m[i] -/
theorem MapAt.look (h:MapAt w b f) {i:Int} (h1 : -9223372036854775808≤i) (h2:i≤9223372036854775807) :
 (Instr.lookup 119 (.map (some b)) (.int .i64 i) true).run Tryz.prog w = .ok (.tuple #[(f i).getD (.slice none 0 0),.bool (f i).isSome]) w:=by
 obtain ⟨n,es,ho,hk,hf⟩:=h
 obtain ⟨v,ps,hrun,hv⟩:=ho.look_ok keyLaw Tryz.underlying119 (zeroBytes w) (zd := .held (.slice none 0 0)) (zp:=[]) rfl (keyIs h1 h2)
 obtain ⟨es',e',hp,_⟩:=ho.entries keyLaw
 injection e' with e'
 subst e'
 rw [hrun]
 have hv':DataW.held v=(DataW.map es).atKey (.int .i64 i) (.held (.slice none 0 0)):=by
  unfold heldR at hv
  injection hv with hv
  injection hv
 cases hfi:f i with
 | some u =>
   have hm:=(hf i u).1 hfi
   rw [at_mem hp (litKey i) hm] at hv'
   injection hv' with hv'
   rw [has_mem (litKey i) hm,hv']
   rfl
 | none =>
   have hn:Maps.has (DataW.map es) (.int .i64 i)=false:=by
    cases hh:Maps.has (DataW.map es) (.int .i64 i) with
    | false=>rfl
    | true =>
      obtain ⟨d,hd⟩:=mem_has hh
      obtain ⟨j,u,e1,_⟩:=hk _ hd
      injection e1 with e2 e3
      subst e3
      rw [(hf i u).2 hd] at hfi
      cases hfi
   rw [Maps.atKey_of_not_has hn] at hv'
   injection hv' with hv'
   rw [hn,hv']
   rfl
/-- v := m[i] -/
theorem MapAt.look1 (h:MapAt w b f) {i:Int} (h1 : -9223372036854775808≤i) (h2:i≤9223372036854775807) :
 (Instr.lookup 119 (.map (some b)) (.int .i64 i) false).run Tryz.prog w = .ok ((f i).getD (.slice none 0 0)) w:=by
 obtain ⟨n,es,ho,hk,hf⟩:=h
 obtain ⟨v,ps,hrun,hv⟩:=ho.lookup keyLaw Tryz.underlying119 (zeroBytes w) (zd := .held (.slice none 0 0)) (zp:=[]) rfl (keyIs h1 h2)
 obtain ⟨es',e',hp,_⟩:=ho.entries keyLaw
 injection e' with e'
 subst e'
 rw [hrun]
 have hv':DataW.held v=(DataW.map es).atKey (.int .i64 i) (.held (.slice none 0 0)):=by
  unfold heldR at hv
  injection hv with hv
  injection hv
 cases hfi:f i with
 | some u =>
   have hm:=(hf i u).1 hfi
   rw [at_mem hp (litKey i) hm] at hv'
   injection hv' with hv'
   rw [hv']
   rfl
 | none =>
   have hn:Maps.has (DataW.map es) (.int .i64 i)=false:=by
    cases hh:Maps.has (DataW.map es) (.int .i64 i) with
    | false=>rfl
    | true =>
      obtain ⟨d,hd⟩:=mem_has hh
      obtain ⟨j,u,e1,_⟩:=hk _ hd
      injection e1 with e2 e3
      subst e3
      rw [(hf i u).2 hd] at hfi
      cases hfi
   rw [Maps.atKey_of_not_has hn] at hv'
   injection hv' with hv'
   rw [hv']
   rfl
/-- m[i] = v -/
theorem MapAt.put (h:MapAt w b f) {i:Int} (h1:0≤i) (h2:i<4096) (v:Value) :
 ∃ w',(Instr.mapUpdate 119 (.map (some b)) (.int .i64 i) v).run Tryz.prog w = .ok () w'∧MapAt w' b (upd f i (some v))∧w.grownBy w' (some b):=by
 obtain ⟨n,es,ho,hk,hf⟩:=h
 obtain ⟨es',e',hp,_⟩:=ho.entries keyLaw
 injection e' with e'
 subst e'
 have hl:=few_of hp hk
 obtain ⟨w',hrun,ho',hg⟩:=(tight ho).update keyLaw Tryz.underlying119 (by unfold maxLen;omega) (keyIs (i:=i) (by omega) (by omega)) (val:=v) (d := .held v) (ps:=[]) rfl
 refine ⟨w',hrun,⟨_,DataW.insert (.int .i64 i,.held v) (es.filter fun p => !p.1.sameKey (.int .i64 i)),ho',?_,?_⟩,hg⟩
 ·intro p hm
  rcases mem_insert.1 hm with rfl | hm
  ·exact ⟨i,v,rfl,h1,h2⟩
  ·exact hk p (List.mem_filter.1 hm).1
 ·intro j u
  rw [mem_insert,List.mem_filter]
  unfold upd
  by_cases hj:j=i
  ·subst hj
   rw [if_pos rfl,WideAt.sameKey_self (litKey j)]
   constructor
   ·intro e
    injection e with e
    subst e
    exact Or.inl rfl
   ·rintro (e | ⟨_,e⟩)
    ·obtain rfl:u=v:=DataW.held.inj (congrArg Prod.snd e)
     rfl
    ·cases e
  ·rw [if_neg hj,hf,Maps.sameKey_ne (a:=Lit.int .i64 j) (b:=Lit.int .i64 i) (fun e=>hj (by injection e))]
   constructor
   ·intro e
    exact Or.inr ⟨e,rfl⟩
   ·rintro (e | ⟨e,_⟩)
    ·injection e with e
     injection e with _ e
     exact absurd e hj
    ·exact e
/-- delete(m, i) -/
theorem MapAt.del (h:MapAt w b f) {i:Int} (h1 : -9223372036854775808≤i) (h2:i≤9223372036854775807) (ty:TypeId) :
 ∃ w',(Builtin.delete_ #[119,3] ty #[.map (some b),.int .i64 i]).run Tryz.prog w = .ok (.tuple #[]) w'∧MapAt w' b (upd f i none)∧w.grownBy w' (some b):=by
 obtain ⟨n,es,ho,hk,hf⟩:=h
 obtain ⟨w',hrun,ho',hg⟩:=ho.drop keyLaw Tryz.underlying119 (keyIs h1 h2) ty
 refine ⟨w',hrun,⟨_,es.filter fun p => !p.1.sameKey (.int .i64 i),ho',?_,?_⟩,hg.grown⟩
 ·intro p hm
  exact hk p (List.mem_filter.1 hm).1
 ·intro j u
  rw [List.mem_filter]
  unfold upd
  by_cases hj:j=i
  ·subst hj
   rw [if_pos rfl,WideAt.sameKey_self (litKey j)]
   simp
  ·rw [if_neg hj,hf,Maps.sameKey_ne (a:=Lit.int .i64 j) (b:=Lit.int .i64 i) (fun e=>hj (by injection e))]
   simp
/-- clear(m) -/
theorem MapAt.clear (h:MapAt w b f) (ty:TypeId) :
 ∃ w',(Builtin.clear_ #[119] ty #[.map (some b)]).run Tryz.prog w = .ok (.tuple #[]) w'∧MapAt w' b (fun _=>none)∧w.grownBy w' (some b):=by
 obtain ⟨es,clock,hb⟩:=h.isMap
 refine ⟨ChangeMaps.setBlock w b (.map #[] clock),?_,⟨0,[],⟨#[],clock,ChangeMaps.heap_setBlock_same hb _,⟨by simp,?_,by simp⟩,Nat.le_refl _,rfl⟩,by simp,by simp⟩,⟨rfl,rfl,rfl,by simp [ChangeMaps.setBlock],fun i _ hi=>ChangeMaps.heap_setBlock_other hb _ (fun e=>hi (by rw [e]))⟩⟩
 ·simp [Builtin.clear_,run_underlying Tryz.underlying119,MapKept.run_getObj_map hb,MapKept.run_setObj_map _ hb,Result.andThen]
  rfl
 ·exact MapKept.stamped_empty clock
end
end Go.Proofs.YtccphijgcapeoaaGreat
/-
  A map of pages that are there: what the operations on it come to.
-/
namespace Go.Proofs.YtccphijgcapeoaaGreat
open Go.RowKit Go.Maps
def frM (f:Int→Bool):Int→Option Value:=fun p=>if f p then some (.agg #[]) else none
theorem frM_set (f:Int→Bool) (p:Int):upd (frM f) p (some (.agg #[]))=frM (fun q=>if q=p then true else f q):=by
 funext q
 unfold upd frM
 by_cases h:q=p
 ·simp [h]
 ·simp [h]
theorem frM_del (f:Int→Bool) (p:Int):upd (frM f) p none=frM (fun q=>if q=p then false else f q):=by
 funext q
 unfold upd frM
 by_cases h:q=p
 ·simp [h]
 ·simp [h]
section
variable {w w':World} {b:Nat} {f:Int→Option Value}
theorem zeroUnit (w:World):(zeroValue 159).run Tryz.prog w = .ok (.agg #[]) w:=by kernel_rfl
/-- v, ok := m[i] -/
theorem MapAt.lookU (h:MapAt w b f) {i:Int} (h1 : -9223372036854775808≤i) (h2:i≤9223372036854775807) :
 (Instr.lookup 80 (.map (some b)) (.int .i64 i) true).run Tryz.prog w = .ok (.tuple #[(f i).getD (.agg #[]),.bool (f i).isSome]) w:=by
 obtain ⟨n,es,ho,hk,hf⟩:=h
 obtain ⟨v,ps,hrun,hv⟩:=ho.look_ok keyLaw Tryz.underlying80 (zeroUnit w) (zd := .held (.agg #[])) (zp:=[]) rfl (keyIs h1 h2)
 obtain ⟨es',e',hp,_⟩:=ho.entries keyLaw
 injection e' with e'
 subst e'
 rw [hrun]
 have hv':DataW.held v=(DataW.map es).atKey (.int .i64 i) (.held (.agg #[])):=by
  unfold heldR at hv
  injection hv with hv
  injection hv
 cases hfi:f i with
 | some u =>
   have hm:=(hf i u).1 hfi
   rw [at_mem hp (litKey i) hm] at hv'
   injection hv' with hv'
   rw [has_mem (litKey i) hm,hv']
   rfl
 | none =>
   have hn:Maps.has (DataW.map es) (.int .i64 i)=false:=by
    cases hh:Maps.has (DataW.map es) (.int .i64 i) with
    | false=>rfl
    | true =>
      obtain ⟨d,hd⟩:=mem_has hh
      obtain ⟨j,u,e1,_⟩:=hk _ hd
      injection e1 with e2 e3
      subst e3
      rw [(hf i u).2 hd] at hfi
      cases hfi
   rw [Maps.atKey_of_not_has hn] at hv'
   injection hv' with hv'
   rw [hn,hv']
   rfl
/-- m[i] = v -/
theorem MapAt.putU (h:MapAt w b f) {i:Int} (h1:0≤i) (h2:i<4096) (v:Value) :
 ∃ w',(Instr.mapUpdate 80 (.map (some b)) (.int .i64 i) v).run Tryz.prog w = .ok () w'∧MapAt w' b (upd f i (some v))∧w.grownBy w' (some b):=by
 obtain ⟨n,es,ho,hk,hf⟩:=h
 obtain ⟨es',e',hp,_⟩:=ho.entries keyLaw
 injection e' with e'
 subst e'
 have hl:=few_of hp hk
 obtain ⟨w',hrun,ho',hg⟩:=(tight ho).update keyLaw Tryz.underlying80 (by unfold maxLen;omega) (keyIs (i:=i) (by omega) (by omega)) (val:=v) (d := .held v) (ps:=[]) rfl
 refine ⟨w',hrun,⟨_,DataW.insert (.int .i64 i,.held v) (es.filter fun p => !p.1.sameKey (.int .i64 i)),ho',?_,?_⟩,hg⟩
 ·intro p hm
  rcases mem_insert.1 hm with rfl | hm
  ·exact ⟨i,v,rfl,h1,h2⟩
  ·exact hk p (List.mem_filter.1 hm).1
 ·intro j u
  rw [mem_insert,List.mem_filter]
  unfold upd
  by_cases hj:j=i
  ·subst hj
   rw [if_pos rfl,WideAt.sameKey_self (litKey j)]
   constructor
   ·intro e
    injection e with e
    subst e
    exact Or.inl rfl
   ·rintro (e | ⟨_,e⟩)
    ·obtain rfl:u=v:=DataW.held.inj (congrArg Prod.snd e)
     rfl
    ·cases e
  ·rw [if_neg hj,hf,Maps.sameKey_ne (a:=Lit.int .i64 j) (b:=Lit.int .i64 i) (fun e=>hj (by injection e))]
   constructor
   ·intro e
    exact Or.inr ⟨e,rfl⟩
   ·rintro (e | ⟨e,_⟩)
    ·injection e with e
     injection e with _ e
     exact absurd e hj
    ·exact e
/-- delete(m, i) -/
theorem MapAt.delU (h:MapAt w b f) {i:Int} (h1 : -9223372036854775808≤i) (h2:i≤9223372036854775807) (ty:TypeId) :
 ∃ w',(Builtin.delete_ #[80,3] ty #[.map (some b),.int .i64 i]).run Tryz.prog w = .ok (.tuple #[]) w'∧MapAt w' b (upd f i none)∧w.grownBy w' (some b):=by
 obtain ⟨n,es,ho,hk,hf⟩:=h
 obtain ⟨w',hrun,ho',hg⟩:=ho.drop keyLaw Tryz.underlying80 (keyIs h1 h2) ty
 refine ⟨w',hrun,⟨_,es.filter fun p => !p.1.sameKey (.int .i64 i),ho',?_,?_⟩,hg.grown⟩
 ·intro p hm
  exact hk p (List.mem_filter.1 hm).1
 ·intro j u
  rw [List.mem_filter]
  unfold upd
  by_cases hj:j=i
  ·subst hj
   rw [if_pos rfl,WideAt.sameKey_self (litKey j)]
   simp
  ·rw [if_neg hj,hf,Maps.sameKey_ne (a:=Lit.int .i64 j) (b:=Lit.int .i64 i) (fun e=>hj (by injection e))]
   simp
end
end Go.Proofs.YtccphijgcapeoaaGreat
/-
  Plain facts on numbers, bytes and the order of values and rows; nothing here names the program.
-/
namespace Go.Proofs.YtccphijgcapeoaaGreat
theorem toList_data (a:ByteArray):a.toList=a.data.toList:=by
 obtain ⟨⟨l⟩⟩:=a
 exact ByteArray.toList_mk l
theorem bytes_ext {a b:ByteArray} (h:a.toList=b.toList):a=b:=by
 obtain ⟨⟨l⟩⟩:=a
 obtain ⟨⟨m⟩⟩:=b
 have h1:l=m:=(ByteArray.toList_mk l).symm.trans (h.trans (ByteArray.toList_mk m))
 rw [h1]
theorem toList_length (a:ByteArray):a.toList.length=a.size:=by
 rw [toList_data]
 rfl
theorem less_irrefl (a:List UInt8):Op.bytesLess a a=false:=by
 induction a with
 | nil=>rfl
 | cons x l ih=>simp [Op.bytesLess,ih]
theorem less_trans:∀ a b c:List UInt8,Op.bytesLess a b=true→Op.bytesLess b c=true→Op.bytesLess a c=true
 | a,[],c,h,_=>by cases a<;>simp [Op.bytesLess] at h
 | a,y::b,[],_,h=>by simp [Op.bytesLess] at h
 | [],y::b,z::c,_,_=>by simp [Op.bytesLess]
 | x::a,y::b,z::c,h,k=>by
   simp only [Op.bytesLess,Bool.or_eq_true,Bool.and_eq_true,decide_eq_true_eq,beq_iff_eq] at h k ⊢
   rcases h with h | ⟨rfl,h⟩
   ·rcases k with k | ⟨rfl,k⟩
    ·exact Or.inl (UInt8.lt_trans h k)
    ·exact Or.inl h
   ·rcases k with k | ⟨rfl,k⟩
    ·exact Or.inl k
    ·exact Or.inr ⟨rfl,less_trans a b c h k⟩
theorem less_total:∀ a b:List UInt8,Op.bytesLess a b=true∨a=b∨Op.bytesLess b a=true
 | [],[]=>Or.inr (Or.inl rfl)
 | [],_::_=>Or.inl rfl
 | _::_,[]=>Or.inr (Or.inr rfl)
 | x::a,y::b=>by
   simp only [Op.bytesLess,Bool.or_eq_true,Bool.and_eq_true,decide_eq_true_eq,beq_iff_eq,List.cons.injEq]
   have tri:x=y∨x<y∨y<x:=by
    by_cases e:x=y
    ·exact Or.inl e
    ·exact Or.inr (UInt8.lt_or_lt_of_ne e)
   rcases tri with rfl | h | h
   ·rcases less_total a b with h | h | h
    ·exact Or.inl (Or.inr ⟨rfl,h⟩)
    ·exact Or.inr (Or.inl ⟨rfl,h⟩)
    ·exact Or.inr (Or.inr (Or.inr ⟨rfl,h⟩))
   ·exact Or.inl (Or.inl h)
   ·exact Or.inr (Or.inr (Or.inl h))
theorem less_asymm (a b:List UInt8) (h:Op.bytesLess a b=true):Op.bytesLess b a=false:=by
 cases k:Op.bytesLess b a with
 | false=>rfl
 | true =>
   have:=less_trans a b a h k
   rw [less_irrefl] at this
   cases this
end Go.Proofs.YtccphijgcapeoaaGreat
/-
  Plain facts on check sums: a step, eight steps, the sum of bytes; sums go by differences (^) and forget nothing. Nothing here names the program.
-/
namespace Go.Proofs.YtccphijgcapeoaaGreat
def step1 (w:Nat):Nat:=w / 2 ^^^ (if w % 2=1 then 3988292384 else 0)
def stepN:Nat→Nat→Nat
 | 0,w=>w
 | k+1,w=>step1 (stepN k w)
def steps8 (w:Nat):Nat:=stepN 8 w
def crcB (w:Nat) (c:UInt8):Nat:=steps8 (w ^^^ c.toNat)
def crcF (w:Nat) (l:List UInt8):Nat:=l.foldl crcB w
def inv (w:Nat):Nat:=w ^^^ 4294967295
def crcM (s:Nat) (l:List UInt8):Nat:=inv (crcF (inv s) l)
theorem xor_half (a b:Nat):(a ^^^ b) / 2=a / 2 ^^^ b / 2:=by
 have:=Nat.shiftRight_xor_distrib (a:=a) (b:=b) (i:=1)
 simpa [Nat.shiftRight_eq_div_pow] using this
theorem xor_odd (a b:Nat):(a ^^^ b) % 2=(a % 2+b % 2) % 2:=by
 have h:(a ^^^ b) % 2=(a % 2 ^^^ b % 2) % 2:=by
  have:=Nat.xor_mod_two_pow (a:=a) (b:=b) (n:=1)
  rw [Nat.pow_one] at this
  rw [this]
  have h1:a % 2=0∨a % 2=1:=by omega
  have h2:b % 2=0∨b % 2=1:=by omega
  rcases h1 with h1 | h1<;>rcases h2 with h2 | h2<;>rw [h1,h2]<;>rfl
 rw [h]
 have h1:a % 2=0∨a % 2=1:=by omega
 have h2:b % 2=0∨b % 2=1:=by omega
 rcases h1 with h1 | h1<;>rcases h2 with h2 | h2<;>rw [h1,h2]<;>rfl
theorem xor4 (a b c d:Nat):(a ^^^ b) ^^^ (c ^^^ d)=(a ^^^ c) ^^^ (b ^^^ d):=by
 rw [Nat.xor_assoc,← Nat.xor_assoc b c d,Nat.xor_comm b c,Nat.xor_assoc c b d,← Nat.xor_assoc]
theorem step1_xor (a b:Nat):step1 (a ^^^ b)=step1 a ^^^ step1 b:=by
 unfold step1
 rw [xor_half,xor_odd,xor4]
 congr 1
 have h1:a % 2=0∨a % 2=1:=by omega
 have h2:b % 2=0∨b % 2=1:=by omega
 rcases h1 with h1 | h1<;>rcases h2 with h2 | h2<;>rw [h1,h2]<;>rfl
theorem stepN_xor:∀ (k a b:Nat),stepN k (a ^^^ b)=stepN k a ^^^ stepN k b
 | 0,_,_=>rfl
 | k+1,a,b=>by
   simp only [stepN]
   rw [stepN_xor k a b,step1_xor]
theorem steps8_xor (a b:Nat):steps8 (a ^^^ b)=steps8 a ^^^ steps8 b:=stepN_xor 8 a b
theorem step1_even (m:Nat):step1 (m*2)=m:=by
 unfold step1
 rw [if_neg (by omega),Nat.xor_zero]
 omega
theorem steps8_high (m:Nat):steps8 (m*256)=m:=by
 unfold steps8
 simp only [stepN]
 rw [show m*256=m*128*2 from by omega,step1_even,show m*128=m*64*2 from by omega,step1_even,show m*64=m*32*2 from by omega,step1_even,
  show m*32=m*16*2 from by omega,step1_even,show m*16=m*8*2 from by omega,step1_even,show m*8=m*4*2 from by omega,step1_even,
  show m*4=m*2*2 from by omega,step1_even,step1_even]
theorem split8 (w:Nat):w=(w % 256) ^^^ (w / 256*256):=by
 apply Nat.eq_of_testBit_eq
 intro i
 rw [Nat.testBit_xor,show (256:Nat)=2 ^ 8 from rfl,Nat.testBit_mod_two_pow,Nat.mul_comm,Nat.testBit_two_pow_mul]
 by_cases h:i<8
 ·have h':¬ i ≥ 8:=by omega
  simp only [h,h',decide_true,decide_false,Bool.false_and,Bool.true_and,Bool.xor_false]
 ·have h':i ≥ 8:=by omega
  have e:8+(i - 8)=i:=by omega
  simp only [h,h',decide_true,decide_false,Bool.false_and,Bool.true_and,Bool.false_xor]
  rw [← Nat.shiftRight_eq_div_pow,Nat.testBit_shiftRight,e]
theorem crcB_table (w:Nat) (c:UInt8):crcB w c=steps8 (w % 256 ^^^ c.toNat) ^^^ w / 256:=by
 unfold crcB
 have e:w ^^^ c.toNat=(w % 256 ^^^ c.toNat) ^^^ (w / 256*256):=by
  have h:=split8 w
  generalize w % 256=lo at h ⊢
  generalize w / 256*256=hi at h ⊢
  rw [h,Nat.xor_assoc,Nat.xor_comm hi,← Nat.xor_assoc]
 rw [e,steps8_xor,steps8_high]
theorem xor_lt32 {a b:Nat} (ha:a<4294967296) (hb:b<4294967296):a ^^^ b<4294967296:=Nat.xor_lt_two_pow (n:=32) ha hb
theorem xor_lt8 {a b:Nat} (ha:a<256) (hb:b<256):a ^^^ b<256:=Nat.xor_lt_two_pow (n:=8) ha hb
theorem step1_lt {w:Nat} (h:w<4294967296):step1 w<4294967296:=by
 unfold step1
 refine xor_lt32 (by omega) ?_
 split<;>omega
theorem stepN_lt:∀ (k:Nat) {w:Nat},w<4294967296→stepN k w<4294967296
 | 0,_,h=>h
 | k+1,_,h=>step1_lt (stepN_lt k h)
theorem steps8_lt {w:Nat} (h:w<4294967296):steps8 w<4294967296:=stepN_lt 8 h
theorem crcB_lt {w:Nat} (h:w<4294967296) (c:UInt8):crcB w c<4294967296:=by
 have:=UInt8.toNat_lt c
 exact steps8_lt (xor_lt32 h (by omega))
theorem crcF_lt:∀ (l:List UInt8) {w:Nat},w<4294967296→crcF w l<4294967296
 | [],_,h=>h
 | c::l,_,h=>crcF_lt l (crcB_lt h c)
theorem inv_lt {w:Nat} (h:w<4294967296):inv w<4294967296:=xor_lt32 h (by omega)
theorem crcM_lt {s:Nat} (h:s<4294967296) (l:List UInt8):crcM s l<4294967296:=inv_lt (crcF_lt l (inv_lt h))
theorem crcF_append (w:Nat) (a b:List UInt8):crcF w (a++b)=crcF (crcF w a) b:=List.foldl_append
theorem crcF_snoc (w:Nat) (a:List UInt8) (c:UInt8):crcF w (a++[c])=crcB (crcF w a) c:=by
 rw [crcF_append]
 rfl
theorem crcF_take {l:List UInt8} {k:Nat} {z:UInt8} (w:Nat) (h:l[k]?=some z):crcF w (l.take (k+1))=crcB (crcF w (l.take k)) z:=by
 rw [List.take_add_one,h,Option.toList_some,crcF_snoc]
end Go.Proofs.YtccphijgcapeoaaGreat
/-
  Plain facts on frames: a number's bytes, a frame, what bytes are a frame's, numbers one behind the other. Nothing here names the program.
-/
namespace Go.Proofs.YtccphijgcapeoaaGreat
def be4 (x:Nat):List UInt8:=[UInt8.ofNat (x / 16777216),UInt8.ofNat (x / 65536),UInt8.ofNat (x / 256),UInt8.ofNat x]
def be (d x:Nat):List UInt8:=(be4 x).drop (4 - d)
theorem be4_length (x:Nat):(be4 x).length=4:=rfl
theorem be_length {d:Nat} (x:Nat) (h:d≤4):(be d x).length=d:=by
 unfold be
 rw [List.length_drop,be4_length]
 omega
theorem be_four (x:Nat):be 4 x=be4 x:=rfl
theorem be_one (x:Nat):be 1 x=[UInt8.ofNat x]:=rfl
theorem be_two (x:Nat):be 2 x=[UInt8.ofNat (x / 256),UInt8.ofNat x]:=rfl
def FOk (k p:Int) (n:Nat):Prop:=1≤k∧k≤4∧0≤p∧p≤2147483647∧n≤1000
instance (k p:Int) (n:Nat):Decidable (FOk k p n):=by unfold FOk;infer_instance
def bod (k p:Int) (l:List UInt8):List UInt8:=be 1 k.toNat++be 4 p.toNat++be 2 l.length++l
def frm (k p:Int) (l:List UInt8):List UInt8:=bod k p l++be 4 (crcM 0 (bod k p l))
theorem bod_length (k p:Int) (l:List UInt8):(bod k p l).length=l.length+7:=by
 unfold bod
 rw [List.length_append,List.length_append,List.length_append,be_length _ (by omega),be_length _ (by omega),be_length _ (by omega)]
 omega
theorem frm_length (k p:Int) (l:List UInt8):(frm k p l).length=l.length+11:=by
 unfold frm
 rw [List.length_append,bod_length,be_length _ (by omega)]
def kin (b:List UInt8):Int:=((b.headD 0).toNat:Int)
def dat (b:List UInt8):List UInt8:=(b.take (b.length - 4)).drop 7
theorem dat_length (b:List UInt8):(dat b).length=b.length - 4 - 7:=by
 unfold dat
 rw [List.length_drop,List.length_take]
 omega
theorem kin_at {b:List UInt8} {z:UInt8} (h:b[0]?=some z):kin b=(z.toNat:Int):=by
 cases b with
 | nil=>simp at h
 | cons x b =>
   obtain rfl:x=z:=by simpa using h
   rfl
def IsF (p:Int) (b:List UInt8):Prop:=11≤b.length∧FOk (kin b) p (dat b).length∧frm (kin b) p (dat b)=b
instance (p:Int) (b:List UInt8):Decidable (IsF p b):=by unfold IsF;infer_instance
theorem frm_cons (k p:Int) (l:List UInt8):frm k p l=UInt8.ofNat k.toNat::(be4 p.toNat++(be 2 l.length++(l++be4 (crcM 0 (bod k p l))))):=by
 have e:bod k p l=UInt8.ofNat k.toNat::(be4 p.toNat++(be 2 l.length++l)):=by
  unfold bod
  rw [be_one,be_four]
  simp
 have e2:frm k p l=bod k p l++be4 (crcM 0 (bod k p l)):=rfl
 generalize crcM 0 (bod k p l)=x at *
 rw [e2,e]
 simp
theorem frm_kin {k p:Int} {l:List UInt8} (h0:0≤k) (h1:k≤255):kin (frm k p l)=k:=by
 rw [frm_cons]
 unfold kin
 rw [List.headD_cons,ofNat_toNat]
 omega
theorem frm_dat (k p:Int) (l:List UInt8):dat (frm k p l)=l:=by
 unfold dat
 rw [frm_length]
 unfold frm
 rw [List.take_append_of_le_length (by rw [bod_length];omega),List.take_of_length_le (by rw [bod_length];omega)]
 unfold bod
 rw [List.drop_append_of_le_length (by simp [be_length]),List.drop_of_length_le (by simp [be_length]),List.nil_append]
theorem isF_frm {k p:Int} {l:List UInt8} (h:FOk k p l.length):IsF p (frm k p l):=by
 have hk:kin (frm k p l)=k:=frm_kin (by have:=h.1;omega) (by have:=h.2.1;omega)
 refine ⟨by rw [frm_length];omega,?_,?_⟩
 ·rw [hk,frm_dat]
  exact h
 ·rw [hk,frm_dat]
def mod32 (z:Int):Nat:=(z % 4294967296).toNat
theorem mod32_lt (z:Int):mod32 z<4294967296:=by unfold mod32;omega
theorem mod32_cast (z:Int):((mod32 z:Nat):Int)=z % 4294967296:=by unfold mod32;omega
def num4 (a b c d:UInt8):Nat:=((a.toNat*256+b.toNat)*256+c.toNat)*256+d.toNat
theorem num4_lt (a b c d:UInt8):num4 a b c d<4294967296:=by
 have:=byte_lt a
 have:=byte_lt b
 have:=byte_lt c
 have:=byte_lt d
 unfold num4
 omega
theorem byte_eq {n:Nat} {a:UInt8} (h:n % 256=a.toNat):UInt8.ofNat n=a:=by
 apply UInt8.toNat_inj.1
 rw [ofNat_toNat]
 exact h
theorem be4_num4 (a b c d:UInt8):be4 (num4 a b c d)=[a,b,c,d]:=by
 have:=byte_lt a
 have:=byte_lt b
 have:=byte_lt c
 have:=byte_lt d
 unfold be4 num4
 rw [byte_eq (a:=a) (by omega),byte_eq (a:=b) (by omega),byte_eq (a:=c) (by omega),byte_eq (a:=d) (by omega)]
theorem num4_be4 {x:Nat} (h:x<4294967296):num4 (UInt8.ofNat (x / 16777216)) (UInt8.ofNat (x / 65536)) (UInt8.ofNat (x / 256)) (UInt8.ofNat x)=x:=by
 unfold num4
 rw [ofNat_toNat,ofNat_toNat,ofNat_toNat,ofNat_toNat]
 omega
end Go.Proofs.YtccphijgcapeoaaGreat
/-
  Plain facts on nodes: which may be, how many bytes they have, which bytes these are, and which bytes are a node's. Nothing here names the program.
-/
namespace Go.Proofs.YtccphijgcapeoaaGreat
structure ND where
 leaf:Bool
 keys:List (List UInt8)
 vals:List (List UInt8)
 kids:List Int
namespace ND
def rise:List UInt8→List (List UInt8)→Bool
 | _,[]=>true
 | p,k::r=>(Op.bytesLess p k && decide (k.length≤120)) && rise k r
def valB (v:List UInt8):Bool:=decide (v.length≤100)
def kidB (k:Int):Bool:=decide (2≤k) && decide (k≤2147483647)
def leafB (s:ND):Bool:=decide (s.vals.length=s.keys.length) && (s.vals.all valB && decide (s.kids.length=0))
def innerB (s:ND):Bool:=decide (0<s.keys.length) && (decide (s.kids.length=s.keys.length+1) && (s.kids.all kidB && decide (s.vals.length=0)))
def ok (s:ND):Bool:=rise [] s.keys && (if s.leaf then s.leafB else s.innerB)
def checkE (s:ND):Int:=if s.ok then 0 else 100
theorem rise_cons (p k:List UInt8) (r:List (List UInt8)):rise p (k::r)=((Op.bytesLess p k && decide (k.length≤120)) && rise k r):=rfl
theorem less_nil (k:List UInt8):Op.bytesLess [] k=decide (1≤k.length):=by
 cases k with
 | nil=>rfl
 | cons x l=>simp [Op.bytesLess]
theorem rise_le:∀ (p:List UInt8) (l:List (List UInt8)),rise p l=true→∀ k∈l,k.length≤120
 | _,[],_,k,hk=>by simp at hk
 | p,x::l,h,k,hk=>by
   rw [rise_cons,Bool.and_eq_true,Bool.and_eq_true,decide_eq_true_eq] at h
   rcases List.mem_cons.1 hk with rfl | hk
   ·exact h.1.2
   ·exact rise_le x l h.2 k hk
theorem rise_snoc:∀ (p:List UInt8) (l:List (List UInt8)) (k:List UInt8),rise p (l++[k])=(rise p l && (Op.bytesLess (l.getLastD p) k && decide (k.length≤120)))
 | p,[],k=>by
   show (_ && rise k [])=_
   simp [rise]
 | p,x::l,k=>by
   have e:(x::l).getLastD p=l.getLastD x:=by cases l<;>rfl
   rw [List.cons_append,rise_cons,rise_cons,rise_snoc x l k,e]
   exact (Bool.and_assoc _ _ _).symm
def tsl:List (List UInt8)→Nat
 | []=>0
 | t::r=>t.length+tsl r
def tsz (l:List (List UInt8)):Nat:=l.length+tsl l
def size (s:ND):Nat:=2+tsz s.keys+tsz s.vals+4*s.kids.length
theorem tsl_cons (t:List UInt8) (r:List (List UInt8)):tsl (t::r)=t.length+tsl r:=rfl
theorem tsz_cons (t:List UInt8) (r:List (List UInt8)):tsz (t::r)=1+t.length+tsz r:=by
 unfold tsz
 rw [tsl_cons,List.length_cons]
 omega
theorem tsl_append:∀ a b:List (List UInt8),tsl (a++b)=tsl a+tsl b
 | [],b=>by simp [tsl]
 | t::a,b=>by
   rw [List.cons_append,tsl_cons,tsl_cons,tsl_append a b]
   omega
def tx (t:List UInt8):List UInt8:=UInt8.ofNat t.length::t
def kd (c:Int):List UInt8:=be4 (mod32 c)
def encL:List (List UInt8)→List (List UInt8)→List UInt8
 | k::ks,v::vs=>tx k++(tx v++encL ks vs)
 | _,_=>[]
def encI:List (List UInt8)→List Int→List UInt8
 | k::ks,c::cs=>tx k++(kd c++encI ks cs)
 | _,_=>[]
def body (s:ND):List UInt8:=if s.leaf then encL s.keys s.vals else (match s.kids with
 | []=>[]
 | c::cs=>kd c++encI s.keys cs)
def enc (s:ND):List UInt8:=be 2 s.keys.length++s.body
def fits (s:ND):Bool:=s.ok && decide (s.size≤1000)
def encE (s:ND):Int:=if s.ok then (if s.size≤1000 then 0 else 101) else 100
def encK (s:ND):Int:=if s.fits then (if s.leaf then 2 else 3) else 0
def encB (s:ND):List UInt8:=if s.fits then s.enc else []
theorem encL_cons (k v:List UInt8) (ks vs:List (List UInt8)):encL (k::ks) (v::vs)=tx k++(tx v++encL ks vs):=rfl
theorem encI_cons (k:List UInt8) (ks:List (List UInt8)) (c:Int) (cs:List Int):encI (k::ks) (c::cs)=tx k++(kd c++encI ks cs):=rfl
theorem tx_length (t:List UInt8):(tx t).length=1+t.length:=by simp [tx];omega
theorem kd_length (c:Int):(kd c).length=4:=rfl
theorem encL_length:∀ ks vs:List (List UInt8),vs.length=ks.length→(encL ks vs).length=tsz ks+tsz vs
 | [],[],_=>rfl
 | k::ks,v::vs,h=>by
   rw [encL_cons,List.length_append,List.length_append,tx_length,tx_length,encL_length ks vs (by simpa using h),tsz_cons,tsz_cons]
   omega
 | [],_::_,h=>by simp at h
 | _::_,[],h=>by simp at h
theorem encI_length:∀ (ks:List (List UInt8)) (cs:List Int),cs.length=ks.length→(encI ks cs).length=tsz ks+4*cs.length
 | [],[],_=>rfl
 | k::ks,c::cs,h=>by
   rw [encI_cons,List.length_append,List.length_append,tx_length,kd_length,encI_length ks cs (by simpa using h),tsz_cons,List.length_cons]
   omega
 | [],_::_,h=>by simp at h
 | _::_,[],h=>by simp at h
theorem ok_rise {s:ND} (h:s.ok=true):rise [] s.keys=true:=by
 unfold ok at h
 rw [Bool.and_eq_true] at h
 exact h.1
theorem ok_leaf {s:ND} (h:s.ok=true) (hl:s.leaf=true):s.vals.length=s.keys.length∧s.vals.all valB=true∧s.kids=[]:=by
 unfold ok at h
 rw [Bool.and_eq_true,if_pos hl] at h
 have h2:=h.2
 unfold leafB at h2
 rw [Bool.and_eq_true,Bool.and_eq_true,decide_eq_true_eq,decide_eq_true_eq] at h2
 exact ⟨h2.1,h2.2.1,List.eq_nil_of_length_eq_zero h2.2.2⟩
theorem ok_inner {s:ND} (h:s.ok=true) (hl:s.leaf=false):0<s.keys.length∧s.kids.length=s.keys.length+1∧s.kids.all kidB=true∧s.vals=[]:=by
 unfold ok at h
 rw [Bool.and_eq_true,if_neg (by rw [hl];decide)] at h
 have h2:=h.2
 unfold innerB at h2
 rw [Bool.and_eq_true,Bool.and_eq_true,Bool.and_eq_true,decide_eq_true_eq,decide_eq_true_eq,decide_eq_true_eq] at h2
 exact ⟨h2.1,h2.2.1,h2.2.2.1,List.eq_nil_of_length_eq_zero h2.2.2.2⟩
theorem ok_keys {s:ND} (h:s.ok=true):∀ k∈s.keys,k.length≤120:=rise_le _ _ (ok_rise h)
theorem ok_vals {s:ND} (h:s.ok=true):∀ v∈s.vals,v.length≤100:=by
 intro v hv
 cases hl:s.leaf with
 | true =>
   have:=List.all_eq_true.1 (ok_leaf h hl).2.1 v hv
   unfold valB at this
   exact of_decide_eq_true this
 | false =>
   rw [(ok_inner h hl).2.2.2] at hv
   simp at hv
theorem ok_kids {s:ND} (h:s.ok=true):∀ c∈s.kids,2≤c∧c≤2147483647:=by
 intro c hc
 cases hl:s.leaf with
 | true =>
   rw [(ok_leaf h hl).2.2] at hc
   simp at hc
 | false =>
   have:=List.all_eq_true.1 (ok_inner h hl).2.2.1 c hc
   unfold kidB at this
   rw [Bool.and_eq_true,decide_eq_true_eq,decide_eq_true_eq] at this
   exact this
theorem enc_length {s:ND} (h:s.ok=true):s.enc.length=s.size:=by
 unfold enc size body
 rw [List.length_append,be_length _ (by omega)]
 cases hl:s.leaf with
 | true =>
   obtain ⟨h1,_,h3⟩:=ok_leaf h hl
   rw [if_pos rfl,encL_length _ _ h1,h3]
   simp
   omega
 | false =>
   obtain ⟨_,h2,_,h4⟩:=ok_inner h hl
   rw [if_neg (by decide),h4]
   cases hk:s.kids with
   | nil=>rw [hk] at h2;simp at h2
   | cons c cs =>
     rw [hk] at h2
     simp only [List.length_cons] at h2
     show 2+(kd c++encI s.keys cs).length=_
     rw [List.length_append,kd_length,encI_length _ _ (by omega),List.length_cons]
     simp [tsz,tsl]
     omega
theorem fits_of {s:ND} (h:s.encE=0):s.fits=true∧s.ok=true∧s.size≤1000:=by
 unfold encE at h
 split at h
 ·rename_i ho
  split at h
  ·rename_i hz
   refine ⟨?_,ho,hz⟩
   unfold fits
   rw [ho,decide_eq_true hz]
   rfl
  ·omega
 ·omega
theorem encE_fits {s:ND} (ho:s.ok=true) (hz:s.size≤1000):s.encE=0:=by
 unfold encE
 rw [if_pos ho,if_pos hz]
theorem encB_of {s:ND} (h:s.encE=0):s.encB=s.enc:=if_pos (fits_of h).1
theorem encK_of {s:ND} (h:s.encE=0):s.encK=if s.leaf then 2 else 3:=if_pos (fits_of h).1
def cutT:List UInt8→Option (List UInt8×List UInt8)
 | []=>none
 | c::r=>if c.toNat≤r.length then some (r.take c.toNat,r.drop c.toNat) else none
def kidT:List UInt8→Option (Int×List UInt8)
 | a::b::c::d::r=>some (((num4 a b c d:Nat):Int),r)
 | _=>none
def prsL:Nat→List UInt8→Option (List (List UInt8)×List (List UInt8))
 | 0,b=>if b.length=0 then some ([],[]) else none
 | n+1,b=>match cutT b with
   | none=>none
   | some (k,r)=>match cutT r with
     | none=>none
     | some (v,r')=>(prsL n r').map (fun p=>(k::p.1,v::p.2))
def prsI:Nat→List UInt8→Option (List (List UInt8)×List Int)
 | 0,b=>if b.length=0 then some ([],[]) else none
 | n+1,b=>match cutT b with
   | none=>none
   | some (k,r)=>match kidT r with
     | none=>none
     | some (v,r')=>(prsI n r').map (fun p=>(k::p.1,v::p.2))
def prs (leaf:Bool):List UInt8→Option ND
 | x::y::r=>if leaf then (prsL (x.toNat*256+y.toNat) r).map (fun p=>⟨true,p.1,p.2,[]⟩)
   else match kidT r with
    | none=>none
    | some (c,r')=>(prsI (x.toNat*256+y.toNat) r').map (fun p=>⟨false,p.1,[],c::p.2⟩)
 | _=>none
def zero:ND:=⟨false,[],[],[]⟩
def isKind (k:Int):Bool:=decide (k=2) || decide (k=3)
def dec (k:Int) (b:List UInt8):Option ND:=if isKind k && decide (b.length≤1000) then (prs (decide (k=2)) b).bind (fun s=>if s.ok then some s else none) else none
def decE (k:Int) (b:List UInt8):Int:=if (dec k b).isSome then 0 else 100
def decS (k:Int) (b:List UInt8):ND:=(dec k b).getD zero
theorem dec_none {k:Int} {b:List UInt8} (h:dec k b=none):decE k b=100∧decS k b=zero:=by
 unfold decE decS
 rw [h]
 exact ⟨rfl,rfl⟩
theorem dec_some {k:Int} {b:List UInt8} {s:ND} (h:dec k b=some s):decE k b=0∧decS k b=s:=by
 unfold decE decS
 rw [h]
 exact ⟨rfl,rfl⟩
theorem cutT_tx {t:List UInt8} (h:t.length<256) (r:List UInt8):cutT (tx t++r)=some (t,r):=by
 unfold tx
 rw [List.cons_append]
 show (if (UInt8.ofNat t.length).toNat≤(t++r).length then some ((t++r).take (UInt8.ofNat t.length).toNat,(t++r).drop (UInt8.ofNat t.length).toNat) else none)=_
 rw [ofNat_toNat,Nat.mod_eq_of_lt h,if_pos (by rw [List.length_append];omega),List.take_left' rfl,List.drop_left' rfl]
theorem cutT_back {b k r:List UInt8} (h:cutT b=some (k,r)):b=tx k++r:=by
 cases b with
 | nil=>cases h
 | cons c b =>
   change (if c.toNat≤b.length then some (b.take c.toNat,b.drop c.toNat) else none)=_ at h
   split at h
   ·rename_i hc
    have e:=Option.some.inj h
    injection e with e1 e2
    subst e1
    subst e2
    unfold tx
    rw [List.length_take,Nat.min_eq_left hc,List.cons_append,List.take_append_drop]
    congr 1
    apply UInt8.toNat_inj.1
    rw [ofNat_toNat]
    have:=byte_lt c
    omega
   ·cases h
theorem kidT_kd {c:Int} (h:2≤c∧c≤2147483647) (r:List UInt8):kidT (kd c++r)=some (c,r):=by
 unfold kd be4
 simp only [List.cons_append,List.nil_append]
 show some (((num4 _ _ _ _:Nat):Int),r)=_
 rw [num4_be4 (mod32_lt c)]
 have e:((mod32 c:Nat):Int)=c:=by rw [mod32_cast];omega
 rw [e]
theorem kidT_back {b r:List UInt8} {c:Int} (h:kidT b=some (c,r)):b=kd c++r:=by
 match b,h with
 | x::y::z::u::b,h =>
   have e:=Option.some.inj h
   injection e with e1 e2
   subst e1
   subst e2
   unfold kd
   have hlt:=num4_lt x y z u
   rw [show mod32 ((num4 x y z u:Nat):Int)=num4 x y z u by unfold mod32;omega,be4_num4]
   rfl
theorem prsL_succ (n:Nat) (b:List UInt8):prsL (n+1) b=match cutT b with
 | none=>none
 | some (k,r)=>match cutT r with
   | none=>none
   | some (v,r')=>(prsL n r').map (fun p=>(k::p.1,v::p.2)):=rfl
theorem prsI_succ (n:Nat) (b:List UInt8):prsI (n+1) b=match cutT b with
 | none=>none
 | some (k,r)=>match kidT r with
   | none=>none
   | some (v,r')=>(prsI n r').map (fun p=>(k::p.1,v::p.2)):=rfl
theorem prsL_enc:∀ ks vs:List (List UInt8),vs.length=ks.length→(∀ k∈ks,k.length≤120)→(∀ v∈vs,v.length≤100)→prsL ks.length (encL ks vs)=some (ks,vs)
 | [],[],_,_,_=>rfl
 | k::ks,v::vs,h,hk,hv=>by
   have h1:=hk k (by simp)
   have h2:=hv v (by simp)
   rw [encL_cons,List.length_cons,prsL_succ,cutT_tx (by omega)]
   dsimp only
   rw [cutT_tx (by omega)]
   dsimp only
   rw [prsL_enc ks vs (by simpa using h) (fun x hx=>hk x (by simp [hx])) (fun x hx=>hv x (by simp [hx]))]
   rfl
 | [],_::_,h,_,_=>by simp at h
 | _::_,[],h,_,_=>by simp at h
theorem prsI_enc:∀ (ks:List (List UInt8)) (cs:List Int),cs.length=ks.length→(∀ k∈ks,k.length≤120)→(∀ c∈cs,2≤c∧c≤2147483647)→prsI ks.length (encI ks cs)=some (ks,cs)
 | [],[],_,_,_=>rfl
 | k::ks,c::cs,h,hk,hc=>by
   have h1:=hk k (by simp)
   rw [encI_cons,List.length_cons,prsI_succ,cutT_tx (by omega)]
   dsimp only
   rw [kidT_kd (hc c (by simp))]
   dsimp only
   rw [prsI_enc ks cs (by simpa using h) (fun x hx=>hk x (by simp [hx])) (fun x hx=>hc x (by simp [hx]))]
   rfl
 | [],_::_,h,_,_=>by simp at h
 | _::_,[],h,_,_=>by simp at h
theorem prsL_back:∀ (n:Nat) (b:List UInt8) (ks vs:List (List UInt8)),prsL n b=some (ks,vs)→ks.length=n∧vs.length=n∧encL ks vs=b
 | 0,b,ks,vs,h=>by
   change (if b.length=0 then some ([],[]) else none)=some (ks,vs) at h
   split at h
   ·rename_i hb
    have e:=Option.some.inj h
    injection e with e1 e2
    subst e1
    subst e2
    exact ⟨rfl,rfl,(List.eq_nil_of_length_eq_zero hb).symm⟩
   ·cases h
 | n+1,b,ks,vs,h=>by
   rw [prsL_succ] at h
   cases hc:cutT b with
   | none=>rw [hc] at h;cases h
   | some p =>
     obtain ⟨k,r⟩:=p
     rw [hc] at h
     dsimp only at h
     cases hd:cutT r with
     | none=>rw [hd] at h;cases h
     | some q =>
       obtain ⟨v,r'⟩:=q
       rw [hd] at h
       dsimp only at h
       obtain ⟨⟨ks',vs'⟩,h1,h2⟩:=Option.map_eq_some_iff.1 h
       injection h2 with e1 e2
       subst e1
       subst e2
       obtain ⟨g1,g2,g3⟩:=prsL_back n r' ks' vs' h1
       refine ⟨by rw [List.length_cons,g1],by rw [List.length_cons,g2],?_⟩
       rw [encL_cons,g3,← cutT_back hd,← cutT_back hc]
theorem prsI_back:∀ (n:Nat) (b:List UInt8) (ks:List (List UInt8)) (cs:List Int),prsI n b=some (ks,cs)→ks.length=n∧cs.length=n∧encI ks cs=b
 | 0,b,ks,vs,h=>by
   change (if b.length=0 then some ([],[]) else none)=some (ks,vs) at h
   split at h
   ·rename_i hb
    have e:=Option.some.inj h
    injection e with e1 e2
    subst e1
    subst e2
    exact ⟨rfl,rfl,(List.eq_nil_of_length_eq_zero hb).symm⟩
   ·cases h
 | n+1,b,ks,vs,h=>by
   rw [prsI_succ] at h
   cases hc:cutT b with
   | none=>rw [hc] at h;cases h
   | some p =>
     obtain ⟨k,r⟩:=p
     rw [hc] at h
     dsimp only at h
     cases hd:kidT r with
     | none=>rw [hd] at h;cases h
     | some q =>
       obtain ⟨v,r'⟩:=q
       rw [hd] at h
       dsimp only at h
       obtain ⟨⟨ks',vs'⟩,h1,h2⟩:=Option.map_eq_some_iff.1 h
       injection h2 with e1 e2
       subst e1
       subst e2
       obtain ⟨g1,g2,g3⟩:=prsI_back n r' ks' vs' h1
       refine ⟨by rw [List.length_cons,g1],by rw [List.length_cons,g2],?_⟩
       rw [encI_cons,g3,← kidT_back hd,← cutT_back hc]
theorem prs_leaf (x y:UInt8) (r:List UInt8):prs true (x::y::r)=(prsL (x.toNat*256+y.toNat) r).map (fun p=>⟨true,p.1,p.2,[]⟩):=rfl
theorem prs_inner (x y:UInt8) (r:List UInt8):prs false (x::y::r)=match kidT r with
 | none=>none
 | some (c,r')=>(prsI (x.toNat*256+y.toNat) r').map (fun p=>⟨false,p.1,[],c::p.2⟩):=rfl
theorem prs_enc {s:ND} (h:s.ok=true) (hz:s.keys.length<65536):prs s.leaf s.enc=some s:=by
 unfold enc body
 rw [be_two]
 simp only [List.cons_append,List.nil_append]
 have hn:(UInt8.ofNat (s.keys.length / 256)).toNat*256+(UInt8.ofNat s.keys.length).toNat=s.keys.length:=by
  rw [ofNat_toNat,ofNat_toNat]
  omega
 obtain ⟨leaf,keys,vals,kids⟩:=s
 cases leaf with
 | true =>
   obtain ⟨h1,_,h3⟩:=ok_leaf h rfl
   dsimp only at h1 h3 hn ⊢
   subst h3
   rw [if_pos rfl,prs_leaf,hn,prsL_enc keys vals h1 (ok_keys h) (ok_vals h)]
   rfl
 | false =>
   obtain ⟨_,h2,_,h4⟩:=ok_inner h rfl
   dsimp only at h2 h4 hn ⊢
   subst h4
   have hk:=ok_kids h
   dsimp only at hk
   cases kids with
   | nil=>simp at h2
   | cons c cs =>
     rw [if_neg (by decide),prs_inner,hn]
     dsimp only
     rw [kidT_kd (hk c (by simp))]
     dsimp only
     rw [prsI_enc keys cs (by simpa using h2) (ok_keys h) (fun x hx=>hk x (by simp [hx]))]
     rfl
theorem prs_back {leaf:Bool} {b:List UInt8} {s:ND} (h:prs leaf b=some s):s.leaf=leaf∧s.enc=b:=by
 match b,h with
 | x::y::r,h =>
   have hx:=byte_lt x
   have hy:=byte_lt y
   have two:∀ n,n=x.toNat*256+y.toNat→be 2 n=[x,y]:=by
    intro n hn
    rw [be_two,byte_eq (a:=x) (by omega),byte_eq (a:=y) (by omega)]
   cases leaf with
   | true =>
     rw [prs_leaf] at h
     obtain ⟨⟨ks,vs⟩,h1,rfl⟩:=Option.map_eq_some_iff.1 h
     obtain ⟨g1,g2,g3⟩:=prsL_back _ _ _ _ h1
     refine ⟨rfl,?_⟩
     unfold enc body
     dsimp only
     rw [if_pos rfl,two _ g1,g3]
     rfl
   | false =>
     rw [prs_inner] at h
     cases hk:kidT r with
     | none=>rw [hk] at h;cases h
     | some q =>
       obtain ⟨c,r'⟩:=q
       rw [hk] at h
       dsimp only at h
       obtain ⟨⟨ks,cs⟩,h1,rfl⟩:=Option.map_eq_some_iff.1 h
       obtain ⟨g1,g2,g3⟩:=prsI_back _ _ _ _ h1
       refine ⟨rfl,?_⟩
       unfold enc body
       dsimp only
       rw [if_neg (by decide),two _ g1,g3,← kidT_back hk]
       rfl
theorem few_keys {s:ND} (h:s.size≤1000):s.keys.length≤1000:=by
 unfold size tsz at h
 omega
theorem dec_enc {s:ND} (h:s.encE=0):dec s.encK s.encB=some s:=by
 obtain ⟨hf,ho,hz⟩:=fits_of h
 have hk:=few_keys hz
 unfold dec
 rw [encB_of h,encK_of h,enc_length ho,decide_eq_true hz]
 have hp:=prs_enc ho (by omega)
 cases hl:s.leaf with
 | true =>
   rw [hl] at hp
   show (prs true s.enc).bind _=_
   rw [hp]
   show (if s.ok=true then some s else none)=_
   rw [if_pos ho]
 | false =>
   rw [hl] at hp
   show (prs false s.enc).bind _=_
   rw [hp]
   show (if s.ok=true then some s else none)=_
   rw [if_pos ho]
theorem dec_ok {k:Int} {b:List UInt8} {s:ND} (h:dec k b=some s):(k=2∨k=3)∧b.length≤1000∧prs (decide (k=2)) b=some s∧s.ok=true:=by
 unfold dec at h
 split at h
 ·rename_i hk
  unfold isKind at hk
  rw [Bool.and_eq_true,Bool.or_eq_true,decide_eq_true_eq,decide_eq_true_eq,decide_eq_true_eq] at hk
  obtain ⟨t,h1,h2⟩:=Option.bind_eq_some_iff.1 h
  split at h2
  ·rename_i ho
   obtain rfl:=Option.some.inj h2
   exact ⟨hk.1,hk.2,h1,ho⟩
  ·cases h2
 ·cases h
theorem dec_back {k:Int} {b:List UInt8} {s:ND} (h:dec k b=some s):s.encE=0∧s.encK=k∧s.encB=b:=by
 obtain ⟨hk,hb,hp,ho⟩:=dec_ok h
 obtain ⟨g1,g2⟩:=prs_back hp
 have hz:s.size≤1000:=by rw [← enc_length ho,g2];exact hb
 have he:=encE_fits ho hz
 refine ⟨he,?_,?_⟩
 ·rw [encK_of he,g1]
  rcases hk with rfl | rfl<;>rfl
 ·rw [encB_of he,g2]
end ND
end Go.Proofs.YtccphijgcapeoaaGreat
/-
  Plain facts on entries of nodes: where a key stands, an entry laid or taken out, a node in two parts, two nodes joined, other kids. Nothing here names the program.
-/
namespace Go.Proofs.YtccphijgcapeoaaGreat
theorem tw_all {α:Type} {p:α→Bool}:∀ (l:List α) (i:Nat) (t:α),i<(l.takeWhile p).length→l[i]?=some t→p t=true
 | [],i,t,h,_=>by simp at h
 | x::l,i,t,h,ht=>by
   rw [List.takeWhile_cons] at h
   cases hx:p x with
   | false=>rw [hx] at h;simp at h
   | true =>
     rw [hx] at h
     cases i with
     | zero =>
       obtain rfl:x=t:=by simpa using ht
       exact hx
     | succ i=>exact tw_all l i t (by simpa using h) (by simpa using ht)
theorem tw_stop {α:Type} {p:α→Bool}:∀ (l:List α) (t:α),l[(l.takeWhile p).length]?=some t→p t=false
 | [],t,h=>by simp at h
 | x::l,t,h=>by
   rw [List.takeWhile_cons] at h
   cases hx:p x with
   | false =>
     rw [hx] at h
     obtain rfl:x=t:=by simpa using h
     exact hx
   | true =>
     rw [hx] at h
     exact tw_stop l t (by simpa using h)
theorem tw_le {α:Type} (p:α→Bool) (l:List α):(l.takeWhile p).length≤l.length:=(List.takeWhile_sublist p).length_le
theorem tw_of {α:Type} {p:α→Bool}:∀ (l:List α) (r:Nat),r≤l.length→(∀ i t,i<r→l[i]?=some t→p t=true)→(∀ t,l[r]?=some t→p t=false)→r=(l.takeWhile p).length
 | [],r,h,_,_=>by simp at h;simp [h]
 | x::l,r,h,h1,h2=>by
   rw [List.takeWhile_cons]
   cases r with
   | zero =>
     rw [h2 x (by simp)]
     rfl
   | succ r =>
     rw [h1 0 x (by omega) (by simp)]
     have:=tw_of l r (by simpa using h) (fun i t hi ht=>h1 (i+1) t (by omega) (by simpa using ht)) (fun t ht=>h2 t (by simpa using ht))
     simp [← this]
namespace ND
def findN (k:List UInt8) (l:List (List UInt8)):Nat:=(l.takeWhile (fun t=>Op.bytesLess t k)).length
def isAt (k:List UInt8) (l:List (List UInt8)):Bool:=decide (l[findN k l]?=some k)
def kidN (k:List UInt8) (l:List (List UInt8)):Nat:=(l.takeWhile (fun t => !Op.bytesLess k t)).length
theorem findN_le (k:List UInt8) (l:List (List UInt8)):findN k l≤l.length:=tw_le _ _
theorem kidN_le (k:List UInt8) (l:List (List UInt8)):kidN k l≤l.length:=tw_le _ _
theorem isAt_iff {k:List UInt8} {l:List (List UInt8)}:isAt k l=true ↔ l[findN k l]?=some k:=by unfold isAt;rw [decide_eq_true_eq]
theorem isAt_lt {k:List UInt8} {l:List (List UInt8)} (h:isAt k l=true):findN k l<l.length:=(List.getElem?_eq_some_iff.1 (isAt_iff.1 h)).1
theorem isAt_end {k:List UInt8} {l:List (List UInt8)} (h:¬ findN k l<l.length):isAt k l=false:=by
 cases hc:isAt k l with
 | false=>rfl
 | true=>exact absurd (isAt_lt hc) h
theorem rise_head:∀ (p:List UInt8) (l:List (List UInt8)),rise p l=true→∀ t∈l,Op.bytesLess p t=true
 | _,[],_,t,h=>by simp at h
 | p,x::l,h,t,ht=>by
   rw [rise_cons,Bool.and_eq_true,Bool.and_eq_true] at h
   rcases List.mem_cons.1 ht with rfl | ht
   ·exact h.1.1
   ·exact less_trans p x t h.1.1 (rise_head x l h.2 t ht)
theorem rise_pair:∀ (p:List UInt8) (l:List (List UInt8)),rise p l=true→∀ (i j:Nat) (s t:List UInt8),i<j→l[i]?=some s→l[j]?=some t→Op.bytesLess s t=true
 | _,[],_,i,j,s,t,_,hs,_=>by simp at hs
 | p,x::l,h,i,j,s,t,hij,hs,ht=>by
   rw [rise_cons,Bool.and_eq_true,Bool.and_eq_true] at h
   cases j with
   | zero=>omega
   | succ j =>
     cases i with
     | zero =>
       obtain rfl:x=s:=by simpa using hs
       exact rise_head x l h.2 t (List.mem_of_getElem? (by simpa using ht))
     | succ i=>exact rise_pair x l h.2 i j s t (by omega) (by simpa using hs) (by simpa using ht)
theorem findN_of {k:List UInt8} {l:List (List UInt8)} {r:Nat} (h:r≤l.length) (h1:∀ i t,i<r→l[i]?=some t→Op.bytesLess t k=true) (h2:∀ t,l[r]?=some t→Op.bytesLess t k=false):r=findN k l:=tw_of l r h h1 h2
theorem kidN_of {k:List UInt8} {l:List (List UInt8)} {r:Nat} (h:r≤l.length) (h1:∀ i t,i<r→l[i]?=some t→Op.bytesLess k t=false) (h2:∀ t,l[r]?=some t→Op.bytesLess k t=true):r=kidN k l :=
 tw_of l r h (fun i t hi ht=>by simp [h1 i t hi ht]) (fun t ht=>by simp [h2 t ht])
theorem findN_before {k t:List UInt8} {l:List (List UInt8)} {i:Nat} (hi:i<findN k l) (h:l[i]?=some t):Op.bytesLess t k=true:=tw_all l i t hi h
theorem findN_not {k t:List UInt8} {l:List (List UInt8)} (h:l[findN k l]?=some t):Op.bytesLess t k=false:=tw_stop l t h
theorem kidN_before {k t:List UInt8} {l:List (List UInt8)} {i:Nat} (hi:i<kidN k l) (h:l[i]?=some t):Op.bytesLess k t=false:=by
 have:=tw_all (p:=fun t => !Op.bytesLess k t) l i t hi h
 simpa using this
theorem kidN_behind {k t:List UInt8} {l:List (List UInt8)} (h:l[kidN k l]?=some t):Op.bytesLess k t=true:=by
 have:=tw_stop (p:=fun t => !Op.bytesLess k t) l t h
 simpa using this
def rep {α:Type} (l:List α) (f t:Nat) (o:List α):List α:=l.take f++o++l.drop t
theorem rep_length {α:Type} {l o:List α} {f t:Nat} (h:f≤t) (ht:t≤l.length):(rep l f t o).length+(t - f)=l.length+o.length:=by
 unfold rep
 rw [List.length_append,List.length_append,List.length_take,List.length_drop]
 omega
def put (s:ND) (k v:List UInt8):ND :=
 let b:=if isAt k s.keys then findN k s.keys+1 else findN k s.keys
 ⟨true,rep s.keys (findN k s.keys) b [k],rep s.vals (findN k s.keys) b [v],[]⟩
def removed (s:ND) (k:List UInt8):ND:=⟨true,rep s.keys (findN k s.keys) (findN k s.keys+1) [],rep s.vals (findN k s.keys) (findN k s.keys+1) [],[]⟩
def remove (s:ND) (k:List UInt8):ND:=if isAt k s.keys then s.removed k else s
theorem put_new {s:ND} {k:List UInt8} (v:List UInt8) (h:isAt k s.keys=false):s.put k v=⟨true,rep s.keys (findN k s.keys) (findN k s.keys) [k],rep s.vals (findN k s.keys) (findN k s.keys) [v],[]⟩:=by
 unfold put
 rw [h]
 rfl
theorem put_old {s:ND} {k:List UInt8} (v:List UInt8) (h:isAt k s.keys=true):s.put k v=⟨true,rep s.keys (findN k s.keys) (findN k s.keys+1) [k],rep s.vals (findN k s.keys) (findN k s.keys+1) [v],[]⟩:=by
 unfold put
 rw [h]
 rfl
theorem remove_old {s:ND} {k:List UInt8} (h:isAt k s.keys=true):s.remove k=s.removed k:=by unfold remove;rw [h];rfl
theorem remove_new {s:ND} {k:List UInt8} (h:isAt k s.keys=false):s.remove k=s:=by unfold remove;rw [h];rfl
def ents (s:ND):List Nat:=if s.leaf then List.zipWith (fun k v=>2+k.length+v.length) s.keys s.vals else s.keys.map (fun k=>5+k.length)
def hN (es:List Nat):Nat:=((List.range es.length).takeWhile (fun c=>decide (2*(es.take c).sum<es.sum))).length
theorem hN_le (es:List Nat):hN es≤es.length:=by
 have:=tw_le (fun c=>decide (2*(es.take c).sum<es.sum)) (List.range es.length)
 simpa [hN] using this
theorem hN_of {es:List Nat} {r:Nat} (h:r≤es.length) (h1:∀ c,c<r→2*(es.take c).sum<es.sum) (h2:r<es.length→¬ 2*(es.take r).sum<es.sum):r=hN es:=by
 refine tw_of (List.range es.length) r (by simpa using h) (fun i t hi ht=>?_) (fun t ht=>?_)
 ·obtain ⟨_,e⟩:=List.getElem?_eq_some_iff.1 ht
  obtain rfl:i=t:=by simpa using e
  exact decide_eq_true (h1 i hi)
 ·obtain ⟨hlt,e⟩:=List.getElem?_eq_some_iff.1 ht
  obtain rfl:r=t:=by simpa using e
  exact decide_eq_false (h2 (by simpa using hlt))
theorem hN_before {es:List Nat} {c:Nat} (h:c<hN es):2*(es.take c).sum<es.sum:=by
 have hl:c<es.length:=Nat.lt_of_lt_of_le h (hN_le es)
 have:=tw_all (p:=fun c=>decide (2*(es.take c).sum<es.sum)) (List.range es.length) c c h (by simp [hl])
 exact of_decide_eq_true this
theorem hN_at {es:List Nat}:¬ 2*(es.take (hN es)).sum<es.sum:=by
 by_cases hl:hN es<es.length
 ·have:=tw_stop (p:=fun c=>decide (2*(es.take c).sum<es.sum)) (List.range es.length) (hN es) (by show (List.range es.length)[hN es]?=_;simp [hl])
  exact of_decide_eq_false this
 ·rw [List.take_of_length_le (by omega)]
  omega
theorem ents_leaf {s:ND} (h:s.leaf=true):s.ents=List.zipWith (fun k v=>2+k.length+v.length) s.keys s.vals:=by unfold ents;rw [h];rfl
theorem ents_inner {s:ND} (h:s.leaf=false):s.ents=s.keys.map (fun k=>5+k.length):=by unfold ents;rw [h];rfl
theorem ents_length {s:ND} (h:s.ok=true):s.ents.length=s.keys.length:=by
 cases hl:s.leaf with
 | true =>
   rw [ents_leaf hl,List.length_zipWith,(ok_leaf h hl).1]
   omega
 | false=>rw [ents_inner hl,List.length_map]
def gone (s:ND):Nat:=if s.leaf then 0 else 1
def splitE (s:ND):Int:=if s.keys.length<2+s.gone then 100 else 0
def splitAt (s:ND):Nat:=min (hN s.ents) (s.keys.length - s.gone - 1)
def splitL (s:ND):ND:=if s.keys.length<2+s.gone then zero else ⟨s.leaf,s.keys.take s.splitAt,s.vals.take s.splitAt,s.kids.take (s.splitAt+1)⟩
def splitR (s:ND):ND:=if s.keys.length<2+s.gone then zero else ⟨s.leaf,s.keys.drop (s.splitAt+s.gone),s.vals.drop s.splitAt,s.kids.drop (s.splitAt+1)⟩
def splitK (s:ND):List UInt8:=if s.keys.length<2+s.gone then [] else s.keys.getD s.splitAt []
theorem split_no {s:ND} (h:s.keys.length<2+s.gone):s.splitE=100∧s.splitL=zero∧s.splitR=zero∧s.splitK=[]:=by
 unfold splitE splitL splitR splitK
 rw [if_pos h,if_pos h,if_pos h,if_pos h]
 exact ⟨rfl,rfl,rfl,rfl⟩
theorem split_yes {s:ND} (h:¬ s.keys.length<2+s.gone):s.splitE=0∧s.splitL=⟨s.leaf,s.keys.take s.splitAt,s.vals.take s.splitAt,s.kids.take (s.splitAt+1)⟩ ∧
 s.splitR=⟨s.leaf,s.keys.drop (s.splitAt+s.gone),s.vals.drop s.splitAt,s.kids.drop (s.splitAt+1)⟩∧s.splitK=s.keys.getD s.splitAt []:=by
 unfold splitE splitL splitR splitK
 rw [if_neg h,if_neg h,if_neg h,if_neg h]
 exact ⟨rfl,rfl,rfl,rfl⟩
theorem splitAt_lt {s:ND} (h:¬ s.keys.length<2+s.gone):s.splitAt+s.gone<s.keys.length:=by
 unfold splitAt
 omega
def join (l:ND) (k:List UInt8) (r:ND):ND:=⟨l.leaf,l.keys++(if l.leaf then [] else [k])++r.keys,l.vals++r.vals,l.kids++r.kids⟩
def mayR (s:ND) (f t:Int) (kids:List Int) (keys:List (List UInt8)):Bool:=decide (0≤f) && (decide (f<t) && (decide (t≤s.kids.length) && decide (keys.length+1=kids.length)))
def replace (s:ND) (f t:Int) (kids:List Int) (keys:List (List UInt8)):ND :=
 if s.mayR f t kids keys then ⟨s.leaf,rep s.keys f.toNat (t.toNat - 1) keys,s.vals,rep s.kids f.toNat t.toNat kids⟩ else s
end ND
end Go.Proofs.YtccphijgcapeoaaGreat
/-
  What the laws of cells say, on plain nodes: parts and what they join to, sizes of halves, entries laid and taken out.
-/
namespace Go.Proofs.YtccphijgcapeoaaGreat
namespace ND
theorem rise_iff:∀ (p:List UInt8) (l:List (List UInt8)),rise p l=true ↔ (∀ t∈l,Op.bytesLess p t=true∧t.length≤120)∧l.Pairwise (fun a b=>Op.bytesLess a b=true)
 | p,[]=>by simp [rise]
 | p,x::l=>by
   rw [rise_cons,Bool.and_eq_true,Bool.and_eq_true,decide_eq_true_eq,List.pairwise_cons,rise_iff x l]
   constructor
   ·rintro ⟨⟨h1,h2⟩,h3,h4⟩
    refine ⟨fun t ht=>?_,fun t ht=>(h3 t ht).1,h4⟩
    rcases List.mem_cons.1 ht with rfl | ht
    ·exact ⟨h1,h2⟩
    ·exact ⟨less_trans p x t h1 (h3 t ht).1,(h3 t ht).2⟩
   ·rintro ⟨h1,h2,h3⟩
    exact ⟨h1 x (by simp),fun t ht=>⟨h2 t ht,(h1 t (by simp [ht])).2⟩,h3⟩
theorem rise_nil {l:List (List UInt8)}:rise [] l=true ↔ (∀ t∈l,1≤t.length∧t.length≤120)∧l.Pairwise (fun a b=>Op.bytesLess a b=true):=by
 rw [rise_iff]
 constructor
 ·rintro ⟨h1,h2⟩
  refine ⟨fun t ht=>⟨?_,(h1 t ht).2⟩,h2⟩
  have:=(h1 t ht).1
  rw [less_nil] at this
  exact of_decide_eq_true this
 ·rintro ⟨h1,h2⟩
  refine ⟨fun t ht=>⟨?_,(h1 t ht).2⟩,h2⟩
  rw [less_nil]
  exact decide_eq_true (h1 t ht).1
theorem rise_sub {l l':List (List UInt8)} (h:rise [] l=true) (hs:List.Sublist l' l):rise [] l'=true:=by
 rw [rise_nil] at h ⊢
 exact ⟨fun t ht=>h.1 t (hs.subset ht),h.2.sublist hs⟩
theorem all_sub {α:Type} {p:α→Bool} {l l':List α} (h:l.all p=true) (hs:List.Sublist l' l):l'.all p=true:=by
 rw [List.all_eq_true] at h ⊢
 exact fun x hx=>h x (hs.subset hx)
theorem ok_mk_leaf {keys vals:List (List UInt8)} (h1:rise [] keys=true) (h2:vals.length=keys.length) (h3:vals.all valB=true):ok ⟨true,keys,vals,[]⟩=true:=by
 unfold ok leafB
 simp [h1,h2,h3]
theorem ok_mk_inner {keys:List (List UInt8)} {kids:List Int} (h1:rise [] keys=true) (h2:0<keys.length) (h3:kids.length=keys.length+1) (h4:kids.all kidB=true):ok ⟨false,keys,[],kids⟩=true:=by
 unfold ok innerB
 simp [h1,h2,h3,h4]
theorem ents_pos {s:ND} (h:s.ok=true) (hk:0<s.keys.length):0<s.ents.sum:=by
 have hlen:=ents_length h
 cases he:s.ents with
 | nil=>rw [he] at hlen;simp at hlen;omega
 | cons x l =>
   have:2≤x:=by
    have hx:s.ents[0]?=some x:=by rw [he];rfl
    cases hl:s.leaf with
    | true =>
      rw [ents_leaf hl,List.getElem?_zipWith] at hx
      cases h1:s.keys[0]? with
      | none=>rw [h1] at hx;simp at hx
      | some t =>
        cases h2:s.vals[0]? with
        | none=>rw [h1,h2] at hx;simp at hx
        | some v =>
          rw [h1,h2] at hx
          have:=Option.some.inj hx
          omega
    | false =>
      rw [ents_inner hl,List.getElem?_map] at hx
      cases h1:s.keys[0]? with
      | none=>rw [h1] at hx;simp at hx
      | some t =>
        rw [h1] at hx
        have:=Option.some.inj hx
        dsimp only at this
        omega
   rw [List.sum_cons]
   omega
theorem hN_pos {s:ND} (h:s.ok=true) (hk:0<s.keys.length):0<hN s.ents:=by
 apply Classical.byContradiction
 intro hn
 have h0:hN s.ents=0:=by omega
 have:=hN_at (es:=s.ents)
 rw [h0] at this
 have hp:=ents_pos h hk
 simp at this
 omega
theorem splitAt_pos {s:ND} (h:s.ok=true) (hs:¬ s.keys.length<2+s.gone):0<s.splitAt:=by
 have:=hN_pos h (by omega)
 unfold splitAt
 omega
theorem getD_some {l:List (List UInt8)} {i:Nat} (h:i<l.length):l[i]?=some (l.getD i []):=by
 rw [List.getD_eq_getElem?_getD,List.getElem?_eq_getElem h]
 rfl
theorem split_okL {s:ND} (h:s.ok=true) (hs:¬ s.keys.length<2+s.gone):s.splitL.ok=true:=by
 obtain ⟨_,e1,_,_⟩:=split_yes hs
 have hlt:=splitAt_lt hs
 have hp:=splitAt_pos h hs
 rw [e1]
 have hr:=rise_sub (ok_rise h) (List.take_sublist s.splitAt s.keys)
 cases hl:s.leaf with
 | true =>
   obtain ⟨h1,h2,h3⟩:=ok_leaf h hl
   rw [h3,List.take_nil]
   exact ok_mk_leaf hr (by rw [List.length_take,List.length_take,h1]) (all_sub h2 (List.take_sublist _ _))
 | false =>
   obtain ⟨h0,h1,h2,h3⟩:=ok_inner h hl
   rw [h3,List.take_nil]
   refine ok_mk_inner hr (by rw [List.length_take];omega) (by rw [List.length_take,List.length_take];omega) (all_sub h2 (List.take_sublist _ _))
theorem split_okR {s:ND} (h:s.ok=true) (hs:¬ s.keys.length<2+s.gone):s.splitR.ok=true:=by
 obtain ⟨_,_,e2,_⟩:=split_yes hs
 have hlt:=splitAt_lt hs
 rw [e2]
 have hr:=rise_sub (ok_rise h) (List.drop_sublist (s.splitAt+s.gone) s.keys)
 cases hl:s.leaf with
 | true =>
   obtain ⟨h1,h2,h3⟩:=ok_leaf h hl
   have hg:s.gone=0:=by unfold gone;rw [hl];rfl
   rw [hg] at hr hlt ⊢
   rw [h3,List.drop_nil]
   exact ok_mk_leaf hr (by rw [List.length_drop,List.length_drop,h1];rfl) (all_sub h2 (List.drop_sublist _ _))
 | false =>
   obtain ⟨h0,h1,h2,h3⟩:=ok_inner h hl
   have hg:s.gone=1:=by unfold gone;rw [hl];rfl
   rw [hg] at hr hlt ⊢
   rw [h3,List.drop_nil]
   refine ok_mk_inner hr (by rw [List.length_drop];omega) (by rw [List.length_drop,List.length_drop];omega) (all_sub h2 (List.drop_sublist _ _))
theorem split_leafs {s:ND} (hs:¬ s.keys.length<2+s.gone):s.splitL.leaf=s.leaf∧s.splitR.leaf=s.leaf:=by
 obtain ⟨_,e1,e2,_⟩:=split_yes hs
 rw [e1,e2]
 exact ⟨rfl,rfl⟩
theorem behind_new {k:List UInt8} {l:List (List UInt8)} (h:rise [] l=true) (hn:isAt k l=false):∀ t∈l.drop (findN k l),Op.bytesLess k t=true:=by
 intro t ht
 obtain ⟨j,hj⟩:=List.mem_iff_getElem?.1 ht
 rw [List.getElem?_drop] at hj
 have hlt:findN k l<l.length:=by have:=(List.getElem?_eq_some_iff.1 hj).1;omega
 have h0:=getD_some hlt
 have h1:=findN_not h0
 have h2:¬ l.getD (findN k l) []=k:=by
  intro e
  rw [e] at h0
  rw [isAt_iff.2 h0] at hn
  cases hn
 have h3:Op.bytesLess k (l.getD (findN k l) [])=true:=by
  rcases less_total (l.getD (findN k l) []) k with e | e | e
  ·rw [h1] at e;cases e
  ·exact absurd e h2
  ·exact e
 rcases Nat.eq_zero_or_pos j with rfl | hj0
 ·rw [Nat.add_zero,h0] at hj
  obtain rfl:=Option.some.inj hj
  exact h3
 ·exact less_trans _ _ _ h3 (rise_pair [] l h (findN k l) (findN k l+j) _ _ (by omega) h0 hj)
theorem behind_old {k:List UInt8} {l:List (List UInt8)} (h:rise [] l=true) (ha:isAt k l=true):∀ t∈l.drop (findN k l+1),Op.bytesLess k t=true:=by
 intro t ht
 obtain ⟨j,hj⟩:=List.mem_iff_getElem?.1 ht
 rw [List.getElem?_drop] at hj
 exact rise_pair [] l h (findN k l) (findN k l+1+j) _ _ (by omega) (isAt_iff.1 ha) hj
theorem ahead_of {k:List UInt8} {l:List (List UInt8)}:∀ t∈l.take (findN k l),Op.bytesLess t k=true:=by
 intro t ht
 obtain ⟨j,hj⟩:=List.mem_iff_getElem?.1 ht
 rw [List.getElem?_take] at hj
 split at hj
 ·rename_i hlt
  exact findN_before hlt hj
 ·cases hj
theorem rise_rep {k:List UInt8} {l:List (List UInt8)} {b:Nat} (h:rise [] l=true) (h1:1≤k.length) (h2:k.length≤120) (hb:findN k l≤b) (hd:∀ t∈l.drop b,Op.bytesLess k t=true):rise [] (rep l (findN k l) b [k])=true:=by
 rw [rise_nil] at h ⊢
 have hsub:List.Sublist (l.take (findN k l)++l.drop b) l:=by
  have h3:List.Sublist (l.take (findN k l)++l.drop b) (l.take (findN k l)++l.drop (findN k l)):=List.Sublist.append (List.Sublist.refl _) (by
   rw [show b=findN k l+(b - findN k l) by omega,← List.drop_drop]
   exact List.drop_sublist _ _)
  rw [List.take_append_drop] at h3
  exact h3
 have hp:=h.2.sublist hsub
 rw [List.pairwise_append] at hp
 obtain ⟨p1,p2,p3⟩:=hp
 constructor
 ·intro t ht
  unfold rep at ht
  rcases List.mem_append.1 ht with ht | ht
  ·rcases List.mem_append.1 ht with ht | ht
   ·exact h.1 t (List.mem_of_mem_take ht)
   ·rw [List.mem_singleton.1 ht]
    exact ⟨h1,h2⟩
  ·exact h.1 t (List.mem_of_mem_drop ht)
 ·unfold rep
  rw [List.append_assoc,List.pairwise_append]
  refine ⟨p1,?_,?_⟩
  ·rw [List.singleton_append,List.pairwise_cons]
   exact ⟨hd,p2⟩
  ·intro a ha c hc
   rw [List.singleton_append] at hc
   rcases List.mem_cons.1 hc with rfl | hc
   ·exact ahead_of a ha
   ·exact p3 a ha c hc
theorem valB_all_rep {l:List (List UInt8)} {v:List UInt8} {f b:Nat} (h:l.all valB=true) (hv:v.length≤100):(rep l f b [v]).all valB=true:=by
 unfold rep
 rw [List.all_append,List.all_append,all_sub h (List.take_sublist _ _),all_sub h (List.drop_sublist _ _)]
 simp [valB,hv]
theorem put_ok {s:ND} {k v:List UInt8} (h:s.ok=true) (hl:s.leaf=true) (h1:1≤k.length) (h2:k.length≤120) (hv:v.length≤100):(s.put k v).ok=true:=by
 obtain ⟨g1,g2,g3⟩:=ok_leaf h hl
 have hr:=ok_rise h
 have hle:=findN_le k s.keys
 cases ha:isAt k s.keys with
 | true =>
   rw [put_old v ha]
   have hlt:=isAt_lt ha
   have e1:=rep_length (o:=[k]) (Nat.le_succ (findN k s.keys)) (show findN k s.keys+1≤s.keys.length from hlt)
   have e2:=rep_length (o:=[v]) (Nat.le_succ (findN k s.keys)) (show findN k s.keys+1≤s.vals.length by omega)
   simp at e1 e2
   exact ok_mk_leaf (rise_rep hr h1 h2 (Nat.le_succ _) (behind_old hr ha)) (by omega) (valB_all_rep g2 hv)
 | false =>
   rw [put_new v ha]
   have e1:=rep_length (o:=[k]) (Nat.le_refl (findN k s.keys)) hle
   have e2:=rep_length (o:=[v]) (Nat.le_refl (findN k s.keys)) (show findN k s.keys≤s.vals.length by omega)
   simp at e1 e2
   exact ok_mk_leaf (rise_rep hr h1 h2 (Nat.le_refl _) (behind_new hr ha)) (by omega) (valB_all_rep g2 hv)
def putB (s:ND) (k:List UInt8):Nat:=if isAt k s.keys then findN k s.keys+1 else findN k s.keys
theorem put_eq (s:ND) (k v:List UInt8):s.put k v=⟨true,rep s.keys (findN k s.keys) (putB s k) [k],rep s.vals (findN k s.keys) (putB s k) [v],[]⟩:=rfl
theorem putB_le {s:ND} {k:List UInt8}:findN k s.keys≤putB s k∧putB s k≤findN k s.keys+1:=by
 unfold putB
 split<;>omega
theorem removed_ok {s:ND} {k:List UInt8} (h:s.ok=true) (hl:s.leaf=true) (ha:isAt k s.keys=true):(s.removed k).ok=true:=by
 obtain ⟨g1,g2,g3⟩:=ok_leaf h hl
 have hlt:=isAt_lt ha
 have e1:=rep_length (o:=([]:List (List UInt8))) (Nat.le_succ (findN k s.keys)) (show findN k s.keys+1≤s.keys.length from hlt)
 have e2:=rep_length (o:=([]:List (List UInt8))) (Nat.le_succ (findN k s.keys)) (show findN k s.keys+1≤s.vals.length by omega)
 simp at e1 e2
 have sub:∀ l:List (List UInt8),List.Sublist (rep l (findN k s.keys) (findN k s.keys+1) []) l:=by
  intro l
  unfold rep
  rw [List.append_nil]
  have h3:List.Sublist (l.take (findN k s.keys)++l.drop (findN k s.keys+1)) (l.take (findN k s.keys)++l.drop (findN k s.keys)):=List.Sublist.append (List.Sublist.refl _) (by
   rw [← List.drop_drop]
   exact List.drop_sublist _ _)
  rw [List.take_append_drop] at h3
  exact h3
 exact ok_mk_leaf (rise_sub (ok_rise h) (sub _)) (by omega) (all_sub g2 (sub _))
theorem removed_only {s:ND} {k o:List UInt8} (hm:o∈(s.removed k).keys):o∈s.keys:=by
 unfold removed rep at hm
 dsimp only at hm
 rw [List.append_nil] at hm
 rcases List.mem_append.1 hm with hm | hm
 ·exact List.mem_of_mem_take hm
 ·exact List.mem_of_mem_drop hm
theorem zip_sum:∀ ks vs:List (List UInt8),vs.length=ks.length→(List.zipWith (fun k v=>2+k.length+v.length) ks vs).sum=tsz ks+tsz vs
 | [],[],_=>rfl
 | k::ks,v::vs,h=>by
   rw [List.zipWith_cons_cons,List.sum_cons,zip_sum ks vs (by simpa using h),tsz_cons,tsz_cons]
   omega
 | [],_::_,h=>by simp at h
 | _::_,[],h=>by simp at h
theorem ents_sum {s:ND} (h:s.ok=true) (hl:s.leaf=true):s.size=2+s.ents.sum:=by
 obtain ⟨h1,_,h3⟩:=ok_leaf h hl
 rw [ents_leaf hl,zip_sum _ _ h1]
 unfold size
 rw [h3]
 simp
 omega
theorem ents_splitL {s:ND} (hl:s.leaf=true) (hs:¬ s.keys.length<2+s.gone):s.splitL.ents=s.ents.take s.splitAt:=by
 obtain ⟨_,e1,_,_⟩:=split_yes hs
 rw [e1,ents_leaf (by exact hl),ents_leaf hl,List.take_zipWith]
theorem ents_splitR {s:ND} (hl:s.leaf=true) (hs:¬ s.keys.length<2+s.gone):s.splitR.ents=s.ents.drop s.splitAt:=by
 obtain ⟨_,_,e2,_⟩:=split_yes hs
 have hg:s.gone=0:=by unfold gone;rw [hl];rfl
 rw [e2,ents_leaf (by exact hl),ents_leaf hl,List.drop_zipWith,hg,Nat.add_zero]
theorem ents_at_le {s:ND} (h:s.ok=true) (hl:s.leaf=true) {i:Nat}:s.ents.getD i 0≤222:=by
 rw [List.getD_eq_getElem?_getD,ents_leaf hl,List.getElem?_zipWith]
 cases h1:s.keys[i]? with
 | none=>simp
 | some t =>
   cases h2:s.vals[i]? with
   | none=>simp
   | some v =>
     have g1:=ok_keys h t (List.mem_of_getElem? h1)
     have g2:=(ok_leaf h hl).2.1
     rw [List.all_eq_true] at g2
     have g3:=g2 v (List.mem_of_getElem? h2)
     unfold valB at g3
     have g4:=of_decide_eq_true g3
     simp
     omega
theorem tsl_rep (l o:List (List UInt8)) (f t:Nat):tsl (rep l f t o)=tsl (l.take f)+tsl o+tsl (l.drop t):=by
 unfold rep
 rw [tsl_append,tsl_append]
theorem tsl_cut (l:List (List UInt8)) (f:Nat):tsl l=tsl (l.take f)+tsl (l.drop f):=by
 conv=>lhs;rw [← List.take_append_drop f l]
 exact tsl_append _ _
theorem tsl_drop_le (l:List (List UInt8)) (f:Nat):tsl (l.drop (f+1))≤tsl (l.drop f):=by
 rw [← List.drop_drop]
 have:=tsl_cut (l.drop f) 1
 omega
theorem tsz_rep_le {l:List (List UInt8)} {f b:Nat} {x:List UInt8} (hf:f≤b) (hb:b≤l.length) (hb1:b≤f+1):tsz (rep l f b [x])≤tsz l+1+x.length:=by
 unfold tsz
 have h1:=rep_length (o:=[x]) hf hb
 have h2:=tsl_rep l [x] f b
 have h3:=tsl_cut l f
 have h4:tsl (l.drop b)≤tsl (l.drop f):=by
  rcases Nat.eq_or_lt_of_le hf with e | e
  ·rw [e];exact Nat.le_refl _
  ·rw [show b=f+1 by omega];exact tsl_drop_le l f
 have h5:tsl [x]=x.length:=by rw [tsl_cons];simp [tsl]
 simp at h1
 omega
theorem put_size {s:ND} {k v:List UInt8} (h:s.ok=true) (hl:s.leaf=true) (h2:k.length≤120) (hv:v.length≤100):(s.put k v).size≤s.size+222:=by
 obtain ⟨g1,_,g3⟩:=ok_leaf h hl
 have hle:=findN_le k s.keys
 have hb:=putB_le (s:=s) (k:=k)
 have hbl:putB s k≤s.keys.length:=by
  unfold putB
  split
  ·rename_i ha
   exact isAt_lt ha
  ·exact hle
 have a1:=tsz_rep_le (l:=s.keys) (x:=k) hb.1 hbl hb.2
 have a2:=tsz_rep_le (l:=s.vals) (x:=v) hb.1 (by omega) hb.2
 rw [put_eq]
 unfold size
 simp
 omega
theorem halves {s:ND} (h:s.ok=true) (hl:s.leaf=true) (h1:1000<s.size) (h2:s.size≤1222) :
 ¬ s.keys.length<2+s.gone∧s.splitL.size≤1000∧s.splitR.size≤1000∧¬ s.splitL.size<300∧250<s.splitR.size:=by
 have hsum:=ents_sum h hl
 have hlen:=ents_length h
 have hg:s.gone=0:=by unfold gone;rw [hl];rfl
 have hmany:¬ s.keys.length<2+s.gone:=by
  intro hf
  rw [hg] at hf
  have hs:∀ es:List Nat,es.length<2→(∀ i,es.getD i 0≤222)→es.sum≤222:=by
   intro es he hi
   match es,he with
   | [],_=>simp
   | [x],_=>simpa using hi 0
  have:=hs s.ents (by omega) (fun i=>ents_at_le h hl)
  omega
 have hp:=splitAt_pos h hmany
 obtain ⟨_,e1,e2,_⟩:=split_yes hmany
 obtain ⟨l1,l2⟩:=split_leafs hmany
 have sL:=ents_sum (split_okL h hmany) (l1.trans hl)
 have sR:=ents_sum (split_okR h hmany) (l2.trans hl)
 rw [ents_splitL hl hmany] at sL
 rw [ents_splitR hl hmany] at sR
 have hcut:(s.ents.take s.splitAt).sum+(s.ents.drop s.splitAt).sum=s.ents.sum:=by
  conv=>rhs;rw [← List.take_append_drop s.splitAt s.ents]
  rw [List.sum_append]
 have hstep:∀ c,(s.ents.take (c+1)).sum≤(s.ents.take c).sum+222:=by
  intro c
  rw [List.take_add_one,List.sum_append]
  have:=ents_at_le h hl (i:=c)
  rw [List.getD_eq_getElem?_getD] at this
  cases hc:s.ents[c]? with
  | none=>simp
  | some x=>rw [hc] at this;simp at this ⊢;exact this
 have hh:=hN_pos h (by omega)
 have hb:=hN_before (es:=s.ents) (c:=hN s.ents - 1) (by omega)
 have ha:=hN_at (es:=s.ents)
 have hs1:=hstep (hN s.ents - 1)
 rw [show hN s.ents - 1+1=hN s.ents by omega] at hs1
 have hlt:hN s.ents<s.ents.length:=by
  apply Classical.byContradiction
  intro hn
  have:(s.ents.take (hN s.ents)).sum=s.ents.sum:=by rw [List.take_of_length_le (by omega)]
  omega
 have hat:s.splitAt=hN s.ents:=by unfold splitAt;rw [hg];omega
 rw [hat] at sL sR hcut
 exact ⟨hmany,by omega,by omega,by omega,by omega⟩
end ND
end Go.Proofs.YtccphijgcapeoaaGreat
/-
  Plain trees in pages: what a page's sub-tree holds, between which keys, in which pages. Nothing here names the program.
-/
namespace Go.Proofs.YtccphijgcapeoaaGreat
namespace TT
open ND
abbrev K:=List UInt8
abbrev E:=K×K
theorem nlt_trans {a b c:K} (h1:Op.bytesLess b a=false) (h2:Op.bytesLess c b=false):Op.bytesLess c a=false:=by
 cases h:Op.bytesLess c a with
 | false=>rfl
 | true =>
   rcases less_total a b with e | e | e
   ·have:=less_trans c a b h e
    rw [h2] at this
    cases this
   ·subst e
    rw [h2] at h
    cases h
   ·rw [h1] at e
    cases e
theorem nlt_lt {a b c:K} (h1:Op.bytesLess b a=false) (h2:Op.bytesLess b c=true):Op.bytesLess a c=true:=by
 rcases less_total a b with e | e | e
 ·exact less_trans a b c e h2
 ·subst e
  exact h2
 ·rw [h1] at e
  cases e
theorem lt_nlt {a b c:K} (h1:Op.bytesLess a b=true) (h2:Op.bytesLess c b=false):Op.bytesLess a c=true:=by
 rcases less_total b c with e | e | e
 ·exact less_trans a b c h1 e
 ·subst e
  exact h1
 ·rw [h2] at e
  cases e
theorem nil_low (k:K):Op.bytesLess k []=false:=by cases k<;>rfl
def btw (lo hi k:K):Prop:=Op.bytesLess k lo=false∧(hi=[]∨Op.bytesLess k hi=true)
theorem btw_all (k:K):btw [] [] k:=⟨nil_low k,Or.inl rfl⟩
theorem btw_lo {lo hi k q:K} (h:btw lo hi k) (g:btw k hi q):btw lo hi q:=⟨nlt_trans h.1 g.1,g.2⟩
theorem btw_hi {lo hi k q:K} (h:btw lo hi k) (hk:k≠[]) (g:btw lo k q):btw lo hi q:=by
 refine ⟨g.1,?_⟩
 rcases h.2 with e | e
 ·exact Or.inl e
 ·rcases g.2 with e2 | e2
  ·exact absurd e2 hk
  ·exact Or.inr (less_trans q k hi e2 e)
theorem btw_less {lo hi k a b:K} (hk:k≠[]) (ha:btw lo k a) (hb:btw k hi b):Op.bytesLess a b=true:=by
 rcases ha.2 with e | e
 ·exact absurd e hk
 ·exact lt_nlt e hb.1
def sorted (es:List E):Prop:=es.Pairwise (fun a b=>Op.bytesLess a.1 b.1=true)
abbrev R:=Int→K→K→List E→List Int→Prop
def Run (S:R):K→K→List K→List Int→List E→List Int→Prop
 | lo,hi,[],[c],es,qs=>S c lo hi es qs
 | lo,hi,k::ks,c::cs,es,qs=>∃ e1 q1 e2 q2,es=e1++e2∧qs=q1++q2∧S c lo k e1 q1∧Run S k hi ks cs e2 q2
 | _,_,[],[],_,_=>False
 | _,_,[],_::_::_,_,_=>False
 | _,_,_::_,[],_,_=>False
def RunL (S:R):K→List K→List Int→K→List E→List Int→Prop
 | lo,[],[],l,es,qs=>l=lo∧es=[]∧qs=[]
 | lo,k::ks,c::cs,l,es,qs=>∃ e1 q1 e2 q2,es=e1++e2∧qs=q1++q2∧S c lo k e1 q1∧RunL S k ks cs l e2 q2
 | _,[],_::_,_,_,_=>False
 | _,_::_,[],_,_,_=>False
def RunR (S:R):K→K→List K→List Int→List E→List Int→Prop
 | h,hi,[],[],es,qs=>h=hi∧es=[]∧qs=[]
 | h,hi,k::ks,c::cs,es,qs=>h=k∧∃ g e1 q1 e2 q2,es=e1++e2∧qs=q1++q2∧S c k g e1 q1∧RunR S g hi ks cs e2 q2
 | _,_,[],_::_,_,_=>False
 | _,_,_::_,[],_,_=>False
section
variable {S:R}
theorem run_len:∀ {ks:List K} {cs:List Int} {lo hi:K} {es:List E} {qs:List Int},Run S lo hi ks cs es qs→cs.length=ks.length+1
 | [],[c],_,_,_,_,_=>rfl
 | k::ks,c::cs,lo,hi,es,qs,h=>by
   obtain ⟨e1,q1,e2,q2,_,_,_,h4⟩:=h
   have:=run_len h4
   simp only [List.length_cons]
   omega
 | [],[],_,_,_,_,h=>h.elim
 | [],_::_::_,_,_,_,_,h=>h.elim
 | _::_,[],_,_,_,_,h=>h.elim
theorem runL_len:∀ {ks:List K} {cs:List Int} {lo l:K} {es:List E} {qs:List Int},RunL S lo ks cs l es qs→cs.length=ks.length
 | [],[],_,_,_,_,_=>rfl
 | k::ks,c::cs,lo,hi,es,qs,h=>by
   obtain ⟨e1,q1,e2,q2,_,_,_,h4⟩:=h
   have:=runL_len h4
   simp only [List.length_cons]
   omega
 | [],_::_,_,_,_,_,h=>h.elim
 | _::_,[],_,_,_,_,h=>h.elim
theorem runR_len:∀ {ks:List K} {cs:List Int} {lo l:K} {es:List E} {qs:List Int},RunR S lo l ks cs es qs→cs.length=ks.length
 | [],[],_,_,_,_,_=>rfl
 | k::ks,c::cs,lo,hi,es,qs,h=>by
   obtain ⟨_,g,e1,q1,e2,q2,_,_,_,h4⟩:=h
   have:=runR_len h4
   simp only [List.length_cons]
   omega
 | [],_::_,_,_,_,_,h=>h.elim
 | _::_,[],_,_,_,_,h=>h.elim
theorem run_mono {S':R}:∀ {ks:List K} {cs:List Int} {lo hi:K} {es:List E} {qs:List Int},Run S lo hi ks cs es qs →
 (∀ c lo hi e q,(∀ x∈q,x∈qs)→S c lo hi e q→S' c lo hi e q)→Run S' lo hi ks cs es qs
 | [],[c],_,_,_,_,h,f=>f _ _ _ _ _ (fun _ hx=>hx) h
 | k::ks,c::cs,lo,hi,es,qs,h,f=>by
   obtain ⟨e1,q1,e2,q2,rfl,rfl,h3,h4⟩:=h
   exact ⟨e1,q1,e2,q2,rfl,rfl,f _ _ _ _ _ (fun x hx=>List.mem_append.2 (Or.inl hx)) h3,
    run_mono h4 (fun c lo hi e q hq=>f c lo hi e q (fun x hx=>List.mem_append.2 (Or.inr (hq x hx))))⟩
 | [],[],_,_,_,_,h,_=>h.elim
 | [],_::_::_,_,_,_,_,h,_=>h.elim
 | _::_,[],_,_,_,_,h,_=>h.elim
theorem runL_mono {S':R}:∀ {ks:List K} {cs:List Int} {lo l:K} {es:List E} {qs:List Int},RunL S lo ks cs l es qs →
 (∀ c lo hi e q,(∀ x∈q,x∈qs)→S c lo hi e q→S' c lo hi e q)→RunL S' lo ks cs l es qs
 | [],[],_,_,_,_,h,_=>h
 | k::ks,c::cs,lo,hi,es,qs,h,f=>by
   obtain ⟨e1,q1,e2,q2,rfl,rfl,h3,h4⟩:=h
   exact ⟨e1,q1,e2,q2,rfl,rfl,f _ _ _ _ _ (fun x hx=>List.mem_append.2 (Or.inl hx)) h3,
    runL_mono h4 (fun c lo hi e q hq=>f c lo hi e q (fun x hx=>List.mem_append.2 (Or.inr (hq x hx))))⟩
 | [],_::_,_,_,_,_,h,_=>h.elim
 | _::_,[],_,_,_,_,h,_=>h.elim
theorem runR_mono {S':R}:∀ {ks:List K} {cs:List Int} {h hi:K} {es:List E} {qs:List Int},RunR S h hi ks cs es qs →
 (∀ c lo hi e q,(∀ x∈q,x∈qs)→S c lo hi e q→S' c lo hi e q)→RunR S' h hi ks cs es qs
 | [],[],_,_,_,_,h,_=>h
 | k::ks,c::cs,lo,hi,es,qs,h,f=>by
   obtain ⟨h0,g,e1,q1,e2,q2,rfl,rfl,h3,h4⟩:=h
   exact ⟨h0,g,e1,q1,e2,q2,rfl,rfl,f _ _ _ _ _ (fun x hx=>List.mem_append.2 (Or.inl hx)) h3,
    runR_mono h4 (fun c lo hi e q hq=>f c lo hi e q (fun x hx=>List.mem_append.2 (Or.inr (hq x hx))))⟩
 | [],_::_,_,_,_,_,h,_=>h.elim
 | _::_,[],_,_,_,_,h,_=>h.elim
theorem run_app:∀ {ks:List K} {cs:List Int} {lo k hi:K} {ks':List K} {cs':List Int} {e1 e2:List E} {q1 q2:List Int},
 Run S lo k ks cs e1 q1→Run S k hi ks' cs' e2 q2→Run S lo hi (ks++k::ks') (cs++cs') (e1++e2) (q1++q2)
 | [],[c],lo,k,hi,ks',cs',e1,e2,q1,q2,h,g=>⟨e1,q1,e2,q2,rfl,rfl,h,g⟩
 | x::ks,c::cs,lo,k,hi,ks',cs',e1,e2,q1,q2,h,g=>by
   obtain ⟨a1,b1,a2,b2,rfl,rfl,h3,h4⟩:=h
   exact ⟨a1,b1,a2++e2,b2++q2,List.append_assoc _ _ _,List.append_assoc _ _ _,h3,run_app h4 g⟩
 | [],[],_,_,_,_,_,_,_,_,_,h,_=>h.elim
 | [],_::_::_,_,_,_,_,_,_,_,_,_,h,_=>h.elim
 | _::_,[],_,_,_,_,_,_,_,_,_,h,_=>h.elim
theorem run_cut:∀ {ks:List K} {cs:List Int} {lo k hi:K} {ks':List K} {cs':List Int} {es:List E} {qs:List Int},cs.length=ks.length+1 →
 Run S lo hi (ks++k::ks') (cs++cs') es qs→∃ e1 q1 e2 q2,es=e1++e2∧qs=q1++q2∧Run S lo k ks cs e1 q1∧Run S k hi ks' cs' e2 q2
 | [],[c],lo,k,hi,ks',cs',es,qs,_,h=>h
 | x::ks,c::cs,lo,k,hi,ks',cs',es,qs,hl,h=>by
   obtain ⟨a1,b1,a2,b2,rfl,rfl,h3,h4⟩:=h
   obtain ⟨c1,d1,c2,d2,rfl,rfl,g1,g2⟩:=run_cut (ks:=ks) (cs:=cs) (by simpa using hl) h4
   exact ⟨a1++c1,b1++d1,c2,d2,(List.append_assoc _ _ _).symm,(List.append_assoc _ _ _).symm,⟨a1,b1,c1,d1,rfl,rfl,h3,g1⟩,g2⟩
 | [],[],_,_,_,_,_,_,_,hl,_=>by simp at hl
 | [],_::_::_,_,_,_,_,_,_,_,hl,_=>by simp at hl
 | _::_,[],_,_,_,_,_,_,_,hl,_=>by simp at hl
theorem run_left:∀ {ks:List K} {cs:List Int} {lo l hi:K} {ks':List K} {cs':List Int} {e1 e2:List E} {q1 q2:List Int},
 RunL S lo ks cs l e1 q1→Run S l hi ks' cs' e2 q2→Run S lo hi (ks++ks') (cs++cs') (e1++e2) (q1++q2)
 | [],[],lo,l,hi,ks',cs',e1,e2,q1,q2,h,g=>by
   obtain ⟨rfl,rfl,rfl⟩:=h
   exact g
 | x::ks,c::cs,lo,k,hi,ks',cs',e1,e2,q1,q2,h,g=>by
   obtain ⟨a1,b1,a2,b2,rfl,rfl,h3,h4⟩:=h
   exact ⟨a1,b1,a2++e2,b2++q2,List.append_assoc _ _ _,List.append_assoc _ _ _,h3,run_left h4 g⟩
 | [],_::_,_,_,_,_,_,_,_,_,_,h,_=>h.elim
 | _::_,[],_,_,_,_,_,_,_,_,_,h,_=>h.elim
theorem run_right:∀ {ks':List K} {cs':List Int} {lo h hi:K} {ks:List K} {cs:List Int} {e1 e2:List E} {q1 q2:List Int},
 Run S lo h ks cs e1 q1→RunR S h hi ks' cs' e2 q2→Run S lo hi (ks++ks') (cs++cs') (e1++e2) (q1++q2)
 | [],[],lo,h,hi,ks,cs,e1,e2,q1,q2,g,r=>by
   obtain ⟨rfl,rfl,rfl⟩:=r
   simpa using g
 | k::ks',c::cs',lo,h,hi,ks,cs,e1,e2,q1,q2,g,r=>by
   obtain ⟨rfl,x,a1,b1,a2,b2,rfl,rfl,h3,h4⟩:=r
   have h5:Run S h x [] [c] a1 b1:=h3
   have:=run_right (run_app g h5) h4
   simpa [List.append_assoc] using this
 | [],_::_,_,_,_,_,_,_,_,_,_,_,h=>h.elim
 | _::_,[],_,_,_,_,_,_,_,_,_,_,h=>h.elim
theorem run_at:∀ {ks:List K} {cs:List Int} {lo hi:K} {es:List E} {qs:List Int} (i:Nat),Run S lo hi ks cs es qs→i<cs.length →
 ∃ l h c e1 q1 e2 q2 e3 q3,cs[i]?=some c∧es=e1++(e2++e3)∧qs=q1++(q2++q3)∧RunL S lo (ks.take i) (cs.take i) l e1 q1∧S c l h e2 q2∧RunR S h hi (ks.drop i) (cs.drop (i+1)) e3 q3 ∧
   (l=lo∨l∈ks.take i)∧(h=hi∨h∈ks.drop i)
 | [],[c],lo,hi,es,qs,i,h,hi'=>by
   obtain rfl:i=0:=by simpa using hi'
   exact ⟨lo,hi,c,[],[],es,qs,[],[],rfl,by simp,by simp,⟨rfl,rfl,rfl⟩,h,⟨rfl,rfl,rfl⟩,Or.inl rfl,Or.inl rfl⟩
 | k::ks,c::cs,lo,hi,es,qs,0,h,_=>by
   obtain ⟨a1,b1,a2,b2,rfl,rfl,h3,h4⟩:=h
   refine ⟨lo,k,c,[],[],a1,b1,a2,b2,rfl,rfl,rfl,⟨rfl,rfl,rfl⟩,h3,?_,Or.inl rfl,Or.inr (by simp)⟩
   exact run_first h4
 | k::ks,c::cs,lo,hi,es,qs,i+1,h,hi'=>by
   obtain ⟨a1,b1,a2,b2,rfl,rfl,h3,h4⟩:=h
   obtain ⟨l,g,d,e1,q1,e2,q2,e3,q3,g1,rfl,rfl,g2,g3,g4,g5,g6⟩:=run_at i h4 (by simpa using hi')
   refine ⟨l,g,d,a1++e1,b1++q1,e2,q2,e3,q3,by simpa using g1,by simp [List.append_assoc],by simp [List.append_assoc],⟨a1,b1,e1,q1,rfl,rfl,h3,g2⟩,g3,g4,Or.inr ?_,g6⟩
   rw [List.take_succ_cons]
   rcases g5 with e | e
   ·rw [e]
    simp
   ·simp [e]
 | [],[],_,_,_,_,_,h,_=>h.elim
 | [],_::_::_,_,_,_,_,_,h,_=>h.elim
 | _::_,[],_,_,_,_,_,h,_=>h.elim
where
 run_first:∀ {ks:List K} {cs:List Int} {k hi:K} {es:List E} {qs:List Int},Run S k hi ks cs es qs→RunR S k hi (k::ks) cs es qs
 | [],[c],k,hi,es,qs,h=>⟨rfl,hi,es,qs,[],[],by simp,by simp,h,rfl,rfl,rfl⟩
 | x::ks,c::cs,k,hi,es,qs,h=>by
   obtain ⟨a1,b1,a2,b2,rfl,rfl,h3,h4⟩:=h
   exact ⟨rfl,x,a1,b1,a2,b2,rfl,rfl,h3,run_first h4⟩
 | [],[],_,_,_,_,h=>h.elim
 | [],_::_::_,_,_,_,_,h=>h.elim
 | _::_,[],_,_,_,_,h=>h.elim
theorem runL_last:∀ {ks:List K} {cs:List Int} {lo l k:K} {c:Int} {es:List E} {qs:List Int},cs.length=ks.length→RunL S lo (ks++[k]) (cs++[c]) l es qs →
 l=k∧∃ m e1 q1 e2 q2,es=e1++e2∧qs=q1++q2∧RunL S lo ks cs m e1 q1∧S c m k e2 q2∧(m=lo∨m∈ks)
 | [],[],lo,l,k,c,es,qs,_,h=>by
   obtain ⟨a1,b1,a2,b2,rfl,rfl,h3,rfl,rfl,rfl⟩:=h
   exact ⟨rfl,lo,[],[],a1,b1,by simp,by simp,⟨rfl,rfl,rfl⟩,h3,Or.inl rfl⟩
 | x::ks,y::cs,lo,l,k,c,es,qs,hl,h=>by
   obtain ⟨a1,b1,a2,b2,rfl,rfl,h3,h4⟩:=h
   obtain ⟨rfl,m,c1,d1,c2,d2,rfl,rfl,g1,g2,g3⟩:=runL_last (by simpa using hl) h4
   refine ⟨rfl,m,a1++c1,b1++d1,c2,d2,(List.append_assoc _ _ _).symm,(List.append_assoc _ _ _).symm,⟨a1,b1,c1,d1,rfl,rfl,h3,g1⟩,g2,Or.inr ?_⟩
   rcases g3 with e | e
   ·rw [e]
    simp
   ·simp [e]
 | [],_::_,_,_,_,_,_,_,hl,_=>by simp at hl
 | _::_,[],_,_,_,_,_,_,hl,_=>by simp at hl
end
structure VL (n:ND) (lo hi:K) (es:List E):Prop where
 leaf:n.leaf=true
 rise:ND.rise [] n.keys=true
 nv:n.vals.length=n.keys.length
 vals:n.vals.all valB=true
 kids:n.kids=[]
 keys:∀ k∈n.keys,btw lo hi k
 ents:es=n.keys.zip n.vals
structure VI (S:R) (n:ND) (lo hi:K) (es:List E) (qs:List Int):Prop where
 leaf:n.leaf=false
 rise:ND.rise [] n.keys=true
 vals:n.vals=[]
 kids:n.kids.all kidB=true
 keys:∀ k∈n.keys,btw lo hi k
 run:Run S lo hi n.keys n.kids es qs
def VN (S:R):Nat→ND→K→K→List E→List Int→Prop
 | 0,n,lo,hi,es,qs=>VL n lo hi es∧qs=[]
 | _+1,n,lo,hi,es,qs=>VI S n lo hi es qs
def Sub (nd:Int→Option ND):Nat→R
 | 0=>fun _ _ _ _ _=>False
 | h+1=>fun p lo hi es ps=>∃ n qs,ps=p::qs∧nd p=some n∧n.size≤1000∧250<n.size∧VN (Sub nd h) h n lo hi es qs
theorem VN.leaf {S:R} {h:Nat} {n:ND} {lo hi:K} {es:List E} {qs:List Int} (v:VN S h n lo hi es qs):n.leaf=decide (h=0):=by
 cases h with
 | zero=>exact v.1.leaf
 | succ h=>exact VI.leaf v
theorem VN.rise {S:R} {h:Nat} {n:ND} {lo hi:K} {es:List E} {qs:List Int} (v:VN S h n lo hi es qs):ND.rise [] n.keys=true:=by
 cases h with
 | zero=>exact v.1.rise
 | succ h=>exact VI.rise v
theorem VN.keys {S:R} {h:Nat} {n:ND} {lo hi:K} {es:List E} {qs:List Int} (v:VN S h n lo hi es qs):∀ k∈n.keys,btw lo hi k:=by
 cases h with
 | zero=>exact v.1.keys
 | succ h=>exact VI.keys v
theorem VN.ok {S:R} {h:Nat} {n:ND} {lo hi:K} {es:List E} {qs:List Int} (v:VN S h n lo hi es qs) (hk:h=0∨0<n.keys.length):n.ok=true:=by
 cases h with
 | zero =>
   obtain ⟨⟨h1,h2,h3,h4,h5,_,_⟩,_⟩:=v
   unfold ND.ok leafB
   simp [h1,h2,h3,h4,h5]
 | succ h =>
   obtain ⟨h1,h2,h3,h4,h5,h6⟩:=v
   have:=run_len h6
   unfold ND.ok innerB
   simp [h1,h2,h3,h4,this]
   omega
theorem VN.mono {S S':R} {h:Nat} {n:ND} {lo hi:K} {es:List E} {qs:List Int} (v:VN S h n lo hi es qs)
 (f:∀ c lo hi e q,(∀ x∈q,x∈qs)→S c lo hi e q→S' c lo hi e q):VN S' h n lo hi es qs:=by
 cases h with
 | zero=>exact v
 | succ h =>
   obtain ⟨h1,h2,h3,h4,h5,h6⟩:=v
   exact ⟨h1,h2,h3,h4,h5,run_mono h6 f⟩
theorem Sub.frame {nd nd':Int→Option ND}:∀ {h:Nat} {p:Int} {lo hi:K} {es:List E} {ps:List Int},Sub nd h p lo hi es ps→(∀ q∈ps,nd' q=nd q)→Sub nd' h p lo hi es ps
 | 0,_,_,_,_,_,h,_=>h.elim
 | h+1,p,lo,hi,es,ps,⟨n,qs,e1,e2,e3,e4,e5⟩,f=>by
   subst e1
   exact ⟨n,qs,rfl,(f p (by simp)).trans e2,e3,e4,e5.mono (fun c lo hi e q hq hs=>hs.frame (fun x hx=>f x (by simp [hq x hx])))⟩
theorem VN.frame {nd nd':Int→Option ND} {h:Nat} {n:ND} {lo hi:K} {es:List E} {qs:List Int} (v:VN (Sub nd h) h n lo hi es qs) (f:∀ q∈qs,nd' q=nd q):VN (Sub nd' h) h n lo hi es qs :=
 v.mono (fun _ _ _ _ _ hq hs=>hs.frame (fun x hx=>f x (hq x hx)))
def Good (S:R):Prop:=∀ c lo hi e q,S c lo hi e q→(∀ x∈e,btw lo hi x.1)∧sorted e∧0<e.length
theorem run_good {S:R} (g:Good S):∀ {ks:List K} {cs:List Int} {lo hi:K} {es:List E} {qs:List Int},Run S lo hi ks cs es qs→(∀ k∈ks,btw lo hi k∧k≠[])→ks.Pairwise (fun a b=>Op.bytesLess a b=true) →
 (∀ x∈es,btw lo hi x.1)∧sorted es∧cs.length≤es.length
 | [],[c],lo,hi,es,qs,h,_,_=>by
   obtain ⟨h1,h2,h3⟩:=g _ _ _ _ _ h
   exact ⟨h1,h2,h3⟩
 | k::ks,c::cs,lo,hi,es,qs,h,hk,hp=>by
   obtain ⟨e1,q1,e2,q2,rfl,rfl,h3,h4⟩:=h
   obtain ⟨k1,k2⟩:=hk k (by simp)
   obtain ⟨p1,p2⟩:=List.pairwise_cons.1 hp
   obtain ⟨a1,a2,a3⟩:=g _ _ _ _ _ h3
   obtain ⟨b1,b2,b3⟩:=run_good g h4 (fun x hx=>by
    obtain ⟨y1,y2⟩:=hk x (by simp [hx])
    exact ⟨⟨less_asymm _ _ (p1 x hx),y1.2⟩,y2⟩) p2
   refine ⟨fun x hx=>?_,?_,by rw [List.length_cons,List.length_append];omega⟩
   ·rcases List.mem_append.1 hx with hx | hx
    ·exact btw_hi k1 k2 (a1 x hx)
    ·exact btw_lo k1 (b1 x hx)
   ·unfold sorted
    rw [List.pairwise_append]
    exact ⟨a2,b2,fun x hx y hy=>btw_less k2 (a1 x hx) (b1 y hy)⟩
 | [],[],_,_,_,_,h,_,_=>h.elim
 | [],_::_::_,_,_,_,_,h,_,_=>h.elim
 | _::_,[],_,_,_,_,h,_,_=>h.elim
theorem rise_ne {l:List K} (h:ND.rise [] l=true):∀ k∈l,k≠[]:=by
 intro k hk e
 have:=((rise_nil.1 h).1 k hk).1
 subst e
 simp at this
theorem zip_keys {ks vs:List K} (h:vs.length=ks.length):(ks.zip vs).map (·.1)=ks:=List.map_fst_zip (by omega)
theorem sorted_iff {es:List E}:sorted es ↔ (es.map (·.1)).Pairwise (fun a b=>Op.bytesLess a b=true):=by
 unfold sorted
 rw [List.pairwise_map]
theorem VN.good {S:R} (g:Good S) {h:Nat} {n:ND} {lo hi:K} {es:List E} {qs:List Int} (v:VN S h n lo hi es qs):(∀ x∈es,btw lo hi x.1)∧sorted es∧(0<n.keys.length→0<es.length)∧(h≠0→n.kids.length≤es.length):=by
 cases h with
 | zero =>
   obtain ⟨⟨h1,h2,h3,h4,h5,h6,rfl⟩,_⟩:=v
   have hz:=zip_keys h3
   refine ⟨fun x hx=>h6 x.1 (by rw [← hz];exact List.mem_map_of_mem hx),?_,fun hk=>?_,fun e=>absurd rfl e⟩
   ·rw [sorted_iff,hz]
    exact (rise_nil.1 h2).2
   ·have:=congrArg List.length hz
    rw [List.length_map] at this
    omega
 | succ h =>
   obtain ⟨h1,h2,h3,h4,h5,h6⟩:=v
   obtain ⟨a,b,c⟩:=run_good g h6 (fun k hk=>⟨h5 k hk,rise_ne h2 k hk⟩) (rise_nil.1 h2).2
   have:=run_len h6
   exact ⟨a,b,fun _=>by omega,fun _=>c⟩
theorem VN.keyed {S:R} {h:Nat} {n:ND} {lo hi:K} {es:List E} {qs:List Int} (v:VN S h n lo hi es qs) (hz:250<n.size):0<n.keys.length:=by
 cases h with
 | zero =>
   have h3:=v.1.nv
   have h5:=v.1.kids
   unfold ND.size tsz at hz
   apply Classical.byContradiction
   intro hn
   have e1:n.keys=[]:=List.eq_nil_of_length_eq_zero (by omega)
   have e2:n.vals=[]:=List.eq_nil_of_length_eq_zero (by omega)
   rw [e1,e2,h5] at hz
   simp [tsl] at hz
 | succ h =>
   have h3:=VI.vals v
   have h6:=run_len (VI.run v)
   unfold ND.size tsz at hz
   apply Classical.byContradiction
   intro hn
   have e1:n.keys=[]:=List.eq_nil_of_length_eq_zero (by omega)
   rw [e1] at h6
   rw [e1,h3,h6] at hz
   simp [tsl] at hz
theorem Sub.good (nd:Int→Option ND):∀ h,Good (Sub nd h)
 | 0=>fun _ _ _ _ _ h=>h.elim
 | h+1=>by
   rintro p lo hi es ps ⟨n,qs,rfl,e2,e3,e4,e5⟩
   obtain ⟨a,b,c,_⟩:=e5.good (Sub.good nd h)
   exact ⟨a,b,c (e5.keyed e4)⟩
theorem run_count {S:R} {m:Nat} (g:∀ c lo hi e q,S c lo hi e q→q.length+1≤2*e.length∧m≤e.length):∀ {ks:List K} {cs:List Int} {lo hi:K} {es:List E} {qs:List Int},Run S lo hi ks cs es qs →
 qs.length+cs.length≤2*es.length∧cs.length*m≤es.length
 | [],[c],lo,hi,es,qs,h=>by
   obtain ⟨h1,h2⟩:=g _ _ _ _ _ h
   simp only [List.length_cons,List.length_nil]
   omega
 | k::ks,c::cs,lo,hi,es,qs,h=>by
   obtain ⟨e1,q1,e2,q2,rfl,rfl,h3,h4⟩:=h
   obtain ⟨a1,a2⟩:=g _ _ _ _ _ h3
   obtain ⟨b1,b2⟩:=run_count g h4
   simp only [List.length_cons,List.length_append,Nat.succ_mul]
   omega
 | [],[],_,_,_,_,h=>h.elim
 | [],_::_::_,_,_,_,_,h=>h.elim
 | _::_,[],_,_,_,_,h=>h.elim
theorem VN.count {S:R} {m h:Nat} (g:∀ c lo hi e q,S c lo hi e q→q.length+1≤2*e.length∧m≤e.length) {n:ND} {lo hi:K} {es:List E} {qs:List Int} (v:VN S h n lo hi es qs) (hk:0<n.keys.length):qs.length+2≤2*es.length∧(h≠0→2*m≤es.length):=by
 cases h with
 | zero =>
   obtain ⟨⟨h1,h2,h3,h4,h5,h6,rfl⟩,rfl⟩:=v
   refine ⟨?_,fun e=>absurd rfl e⟩
   rw [List.length_zip]
   simp only [List.length_nil]
   omega
 | succ h =>
   have h6:=VI.run v
   have h7:=run_len h6
   obtain ⟨a,b⟩:=run_count g h6
   refine ⟨by omega,fun _=>?_⟩
   have:2*m≤n.kids.length*m:=Nat.mul_le_mul_right m (by omega)
   omega
theorem Sub.count (nd:Int→Option ND):∀ h p lo hi es ps,Sub nd h p lo hi es ps→ps.length+1≤2*es.length∧2 ^ (h - 1)≤es.length
 | 0,_,_,_,_,_,h=>h.elim
 | h+1,p,lo,hi,es,ps,⟨n,qs,e1,e2,e3,e4,e5⟩=>by
   subst e1
   have hk:=e5.keyed e4
   obtain ⟨a,b⟩:=e5.count (Sub.count nd h) hk
   refine ⟨by rw [List.length_cons];omega,?_⟩
   cases h with
   | zero =>
     show 2 ^ 0≤_
     have:=(e5.good (Sub.good nd 0)).2.2.1 hk
     rw [Nat.pow_zero]
     omega
   | succ h =>
     have:=b (by omega)
     show 2 ^ (h+1)≤_
     have e:h+1 - 1=h:=by omega
     rw [e] at this
     rw [Nat.pow_succ]
     omega
end TT
end Go.Proofs.YtccphijgcapeoaaGreat
/-
  A node that has no room, in two parts: both have room, and have enough. Nothing here names the program.
-/
namespace Go.Proofs.YtccphijgcapeoaaGreat
namespace ND
theorem sum_inner:∀ l:List (List UInt8),(l.map (fun k=>5+k.length)).sum=5*l.length+tsl l
 | []=>rfl
 | x::l=>by
   rw [List.map_cons,List.sum_cons,sum_inner l,tsl_cons,List.length_cons]
   omega
theorem inner_size {s:ND} (hl:s.leaf=false) (hv:s.vals=[]) (hk:s.kids.length=s.keys.length+1):s.size=6+s.ents.sum:=by
 rw [ents_inner hl,sum_inner]
 unfold size tsz
 rw [hv,hk]
 simp [tsl]
 omega
theorem ents_le {s:ND} (h:s.ok=true) {i:Nat}:s.ents.getD i 0≤if s.leaf then 222 else 125:=by
 cases hl:s.leaf with
 | true=>exact ents_at_le h hl
 | false =>
   rw [List.getD_eq_getElem?_getD,ents_inner hl,List.getElem?_map]
   cases h1:s.keys[i]? with
   | none=>simp
   | some t =>
     have g1:=ok_keys h t (List.mem_of_getElem? h1)
     simp
     omega
theorem take_step {es:List Nat} {m:Nat} (h:∀ i,es.getD i 0≤m) (c:Nat):(es.take (c+1)).sum≤(es.take c).sum+m:=by
 rw [List.take_add_one,List.sum_append]
 have:=h c
 rw [List.getD_eq_getElem?_getD] at this
 cases hc:es[c]? with
 | none=>simp
 | some x=>rw [hc] at this;simp at this ⊢;exact this
theorem take_drop_sum (es:List Nat) (c:Nat):(es.take c).sum+(es.drop c).sum=es.sum:=by
 conv=>rhs;rw [← List.take_append_drop c es]
 rw [List.sum_append]
def Most (s:ND):Prop:=s.size≤if s.leaf then 1350 else 1420
structure Halves2 (s:ND):Prop where
 many:¬ s.keys.length<2+s.gone
 l1:250<s.splitL.size
 l2:s.splitL.size≤1000
 r1:250<s.splitR.size
 r2:s.splitR.size≤1000
theorem halves_leaf {s:ND} (h:s.ok=true) (hl:s.leaf=true) (h1:1000<s.size) (h2:s.size≤1350):Halves2 s:=by
 have hsum:=ents_sum h hl
 have hlen:=ents_length h
 have hg:s.gone=0:=by unfold gone;rw [hl];rfl
 have hle:∀ i,s.ents.getD i 0≤222:=fun i=>ents_at_le h hl
 have hmany:¬ s.keys.length<2+s.gone:=by
  intro hf
  rw [hg] at hf
  have hs:∀ es:List Nat,es.length<2→(∀ i,es.getD i 0≤222)→es.sum≤222:=by
   intro es he hi
   match es,he with
   | [],_=>simp
   | [x],_=>simpa using hi 0
  have:=hs s.ents (by omega) hle
  omega
 have hp:=splitAt_pos h hmany
 obtain ⟨_,e1,e2,_⟩:=split_yes hmany
 obtain ⟨l1,l2⟩:=split_leafs hmany
 have sL:=ents_sum (split_okL h hmany) (l1.trans hl)
 have sR:=ents_sum (split_okR h hmany) (l2.trans hl)
 rw [ents_splitL hl hmany] at sL
 rw [ents_splitR hl hmany] at sR
 have hcut:=take_drop_sum s.ents s.splitAt
 have hh:=hN_pos h (by omega)
 have hb:=hN_before (es:=s.ents) (c:=hN s.ents - 1) (by omega)
 have ha:=hN_at (es:=s.ents)
 have hs1:=take_step hle (hN s.ents - 1)
 rw [show hN s.ents - 1+1=hN s.ents by omega] at hs1
 have hlt:hN s.ents<s.ents.length:=by
  apply Classical.byContradiction
  intro hn
  have:(s.ents.take (hN s.ents)).sum=s.ents.sum:=by rw [List.take_of_length_le (by omega)]
  omega
 have hat:s.splitAt=hN s.ents:=by unfold splitAt;rw [hg];omega
 rw [hat] at sL sR hcut
 exact ⟨hmany,by omega,by omega,by omega,by omega⟩
theorem halves_inner {s:ND} (h:s.ok=true) (hl:s.leaf=false) (h1:1000<s.size) (h2:s.size≤1420):Halves2 s:=by
 obtain ⟨g0,g1,g2,g3⟩:=ok_inner h hl
 have hsum:=inner_size hl g3 g1
 have hlen:=ents_length h
 have hg:s.gone=1:=by unfold gone;rw [hl];rfl
 have hle:∀ i,s.ents.getD i 0≤125:=fun i=>by
  have:=ents_le h (i:=i)
  rw [hl] at this
  simpa using this
 have hpart:∀ c,s.ents.sum≤(s.ents.take c).sum+(s.ents.length - c)*125:=by
  intro c
  have e:=take_drop_sum s.ents c
  have:∀ es:List Nat,(∀ i,es.getD i 0≤125)→es.sum≤es.length*125:=by
   intro es
   induction es with
   | nil=>intro _;simp
   | cons x l ih =>
     intro hi
     have a:=hi 0
     have b:=ih (fun i=>by simpa using hi (i+1))
     simp at a
     rw [List.sum_cons,List.length_cons,Nat.succ_mul]
     omega
  have:=this (s.ents.drop c) (fun i=>by
   rw [List.getD_eq_getElem?_getD,List.getElem?_drop,← List.getD_eq_getElem?_getD]
   exact hle _)
  rw [List.length_drop] at this
  omega
 have h5:4≤s.ents.length:=by
  have:=hpart 0
  simp at this
  omega
 have hmany:¬ s.keys.length<2+s.gone:=by omega
 obtain ⟨_,e1,e2,_⟩:=split_yes hmany
 have hh:=hN_pos h (by omega)
 have hb:=hN_before (es:=s.ents) (c:=hN s.ents - 1) (by omega)
 have ha:=hN_at (es:=s.ents)
 have hs1:=take_step hle (hN s.ents - 1)
 rw [show hN s.ents - 1+1=hN s.ents by omega] at hs1
 have hs2:=take_step hle (hN s.ents)
 have hlt:hN s.ents+2≤s.ents.length:=by
  apply Classical.byContradiction
  intro hn
  have:=hpart (hN s.ents - 1)
  omega
 have hat:s.splitAt=hN s.ents:=by unfold splitAt;rw [hg];omega
 have hcut:=take_drop_sum s.ents (hN s.ents+1)
 have hcut2:=take_drop_sum s.ents (hN s.ents)
 have hup:(s.ents.take (hN s.ents)).sum≤(s.ents.take (hN s.ents+1)).sum:=by
  rw [List.take_add_one,List.sum_append]
  exact Nat.le_add_right _ _
 have sL:s.splitL.size=6+(s.ents.take (hN s.ents)).sum:=by
  rw [e1,inner_size (by exact hl) (by dsimp only;rw [g3,List.take_nil]) (by dsimp only;rw [List.length_take,List.length_take];omega),ents_inner (by exact hl),ents_inner hl,← List.map_take,hat,ents_inner hl]
 have sR:s.splitR.size=6+(s.ents.drop (hN s.ents+1)).sum:=by
  rw [e2,inner_size (by exact hl) (by dsimp only;rw [g3,List.drop_nil]) (by dsimp only;rw [List.length_drop,List.length_drop,hg];omega),ents_inner (by exact hl),ents_inner hl,← List.map_drop,hat,hg,ents_inner hl]
 exact ⟨hmany,by omega,by omega,by omega,by omega⟩
theorem halves2 {s:ND} (h:s.ok=true) (h1:1000<s.size) (h2:Most s):Halves2 s:=by
 unfold Most at h2
 cases hl:s.leaf with
 | true =>
   rw [hl] at h2
   exact halves_leaf h hl h1 (by simpa using h2)
 | false =>
   rw [hl] at h2
   exact halves_inner h hl h1 (by simpa using h2)
end ND
namespace TT
open ND
theorem zip_cut (a b:List K) (n:Nat):a.zip b=(a.take n).zip (b.take n)++(a.drop n).zip (b.drop n):=by
 have e1:(a.take n).zip (b.take n)=(a.zip b).take n:=by simp only [List.zip,List.take_zipWith]
 have e2:(a.drop n).zip (b.drop n)=(a.zip b).drop n:=by simp only [List.zip,List.drop_zipWith]
 rw [e1,e2,List.take_append_drop]
structure Parts (S:R) (h:Nat) (n:ND) (lo hi:K) (es:List E) (qs:List Int):Prop where
 key:btw lo hi n.splitK∧n.splitK≠[]∧n.splitK.length≤120∧Op.bytesLess lo n.splitK=true
 halves:Halves2 n
 cut:∃ e1 q1 e2 q2,es=e1++e2∧qs=q1++q2∧VN S h n.splitL lo n.splitK e1 q1∧VN S h n.splitR n.splitK hi e2 q2
theorem VN.parts {S:R} {h:Nat} {n:ND} {lo hi:K} {es:List E} {qs:List Int} (v:VN S h n lo hi es qs) (h1:1000<n.size) (h2:Most n):Parts S h n lo hi es qs:=by
 have hk:=v.keyed (by omega)
 have ho:=v.ok (Or.inr hk)
 have hv:=halves2 ho h1 h2
 obtain ⟨_,e1,e2,e3⟩:=split_yes hv.many
 have hlt:=splitAt_lt hv.many
 have hke:n.keys[n.splitAt]?=some n.splitK:=by rw [e3];exact getD_some (by omega)
 have hmem:=List.mem_of_getElem? hke
 have hb:=v.keys _ hmem
 have hr:=v.rise
 have hlen:=(rise_nil.1 hr).1 _ hmem
 have hne:n.splitK≠[]:=rise_ne hr _ hmem
 have hrL:=rise_sub hr (List.take_sublist n.splitAt n.keys)
 have hrR:=rise_sub hr (List.drop_sublist (n.splitAt+n.gone) n.keys)
 have hkL:∀ k∈n.keys.take n.splitAt,btw lo n.splitK k:=fun k hk'=>by
  refine ⟨(v.keys k (List.mem_of_mem_take hk')).1,Or.inr ?_⟩
  obtain ⟨j,hj⟩:=List.mem_iff_getElem?.1 hk'
  rw [List.getElem?_take] at hj
  split at hj
  ·exact rise_pair [] n.keys hr j n.splitAt _ _ (by assumption) hj hke
  ·cases hj
 have hkR:∀ k∈n.keys.drop (n.splitAt+n.gone),btw n.splitK hi k:=fun k hk'=>by
  refine ⟨?_,(v.keys k (List.mem_of_mem_drop hk')).2⟩
  obtain ⟨j,hj⟩:=List.mem_iff_getElem?.1 hk'
  rw [List.getElem?_drop] at hj
  rcases Nat.eq_zero_or_pos (n.gone+j) with e | e
  ·rw [show n.splitAt+n.gone+j=n.splitAt by omega,hke] at hj
   obtain rfl:=Option.some.inj hj
   exact less_irrefl _
  ·exact less_asymm _ _ (rise_pair [] n.keys hr n.splitAt (n.splitAt+n.gone+j) _ _ (by omega) hke hj)
 have hstrict:Op.bytesLess lo n.splitK=true:=by
  have hp:=splitAt_pos ho hv.many
  have h0:n.keys[0]?=some n.keys[0]:=List.getElem?_eq_getElem hk
  exact nlt_lt (v.keys _ (List.mem_of_getElem? h0)).1 (rise_pair [] n.keys hr 0 n.splitAt _ _ hp h0 hke)
 refine ⟨⟨hb,hne,hlen.2,hstrict⟩,hv,?_⟩
 cases h with
 | zero =>
   obtain ⟨⟨l1,l2,l3,l4,l5,l6,rfl⟩,rfl⟩:=v
   have hg:n.gone=0:=by unfold gone;rw [l1];rfl
   rw [hg,Nat.add_zero] at hrR hkR
   refine ⟨_,[],_,[],zip_cut n.keys n.vals n.splitAt,rfl,⟨?_,rfl⟩,⟨?_,rfl⟩⟩
   ·rw [e1]
    exact ⟨l1,hrL,by dsimp only;rw [List.length_take,List.length_take,l3],all_sub l4 (List.take_sublist _ _),by dsimp only;rw [l5,List.take_nil],hkL,rfl⟩
   ·rw [e2,hg,Nat.add_zero]
    exact ⟨l1,hrR,by dsimp only;rw [List.length_drop,List.length_drop,l3],all_sub l4 (List.drop_sublist _ _),by dsimp only;rw [l5,List.drop_nil],hkR,rfl⟩
 | succ h =>
   obtain ⟨l1,l2,l3,l4,l5,l6⟩:=v
   have hg:n.gone=1:=by unfold gone;rw [l1];rfl
   rw [hg] at hrR hkR hlt
   have hlen2:=run_len l6
   have ek:n.keys=n.keys.take n.splitAt++n.splitK::n.keys.drop (n.splitAt+1):=by
    obtain ⟨h3,h4⟩:=List.getElem?_eq_some_iff.1 hke
    conv=>lhs;rw [← List.take_append_drop n.splitAt n.keys]
    rw [List.drop_eq_getElem_cons h3,h4]
   have ec:n.kids=n.kids.take (n.splitAt+1)++n.kids.drop (n.splitAt+1):=(List.take_append_drop _ _).symm
   have l7:=l6
   rw [ek,ec] at l7
   obtain ⟨a1,b1,a2,b2,rfl,rfl,r1,r2⟩:=run_cut (by rw [List.length_take,List.length_take];omega) l7
   refine ⟨a1,b1,a2,b2,rfl,rfl,?_,?_⟩
   ·rw [e1]
    exact ⟨l1,hrL,by dsimp only;rw [l3,List.take_nil],all_sub l4 (List.take_sublist _ _),hkL,r1⟩
   ·rw [e2,hg]
    exact ⟨l1,hrR,by dsimp only;rw [l3,List.drop_nil],all_sub l4 (List.drop_sublist _ _),hkR,r2⟩
end TT
end Go.Proofs.YtccphijgcapeoaaGreat
