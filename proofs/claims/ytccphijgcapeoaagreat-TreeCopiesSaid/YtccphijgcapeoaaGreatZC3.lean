/-
  A part of the proof: what its texts say stands at the head of each. Conditions: none.
-/
import Derived.Maps.AppendAt
import Derived.Laws.AppendOwnNone
import Derived.Laws.OwnMore
import Derived.Lib.SmallJoins
import Derived.Deep.AppendLies
import Derived.Deep.RegionHeld3
import Derived.Carry
import Derived.Test.YtccphijgcapeoaaGreatZC1
import Derived.Test.YtccphijgcapeoaaGreatZC2

set_option maxRecDepth 20000
set_option maxHeartbeats 12800000
/-
  The plain tree as entries in order: what Get, Put and Delete answer and leave. Nothing here names the program.
-/
namespace Go.Proofs.YtccphijgcapeoaaGreat
namespace TT
open ND TS
def keysE (es:List E):List K:=es.map (·.1)
def placeE (key:K) (es:List E):Nat:=findN key (keysE es)
def isE (key:K) (es:List E):Bool:=isAt key (keysE es)
def getE (key:K) (es:List E):K:=if isE key es then (es.getD (placeE key es) ([],[])).2 else []
def putE (key val:K) (es:List E):List E:=rep es (placeE key es) (if isE key es then placeE key es+1 else placeE key es) [(key,val)]
def delE (key:K) (es:List E):List E:=if isE key es then rep es (placeE key es) (placeE key es+1) [] else es
theorem findN_nil (k:K):findN k []=0:=rfl
theorem findN_lt {k a:K} {l:List K} (h:Op.bytesLess a k=true):findN k (a::l)=findN k l+1:=by
 unfold findN
 rw [List.takeWhile_cons,if_pos h]
 rfl
theorem findN_ge {k a:K} {l:List K} (h:Op.bytesLess a k=false):findN k (a::l)=0:=by
 unfold findN
 rw [List.takeWhile_cons,if_neg (by rw [h];decide)]
 rfl
theorem findN_pre {k:K}:∀ {a:List K} (b:List K),(∀ x∈a,Op.bytesLess x k=true)→findN k (a++b)=a.length+findN k b
 | [],b,_=>by simp
 | x::a,b,h=>by
   rw [List.cons_append,findN_lt (h x (by simp)),findN_pre b (fun y hy=>h y (by simp [hy])),List.length_cons]
   omega
theorem findN_post {k:K} {b:List K} (h:∀ x∈b,Op.bytesLess k x=true):∀ (a:List K),findN k (a++b)=findN k a
 | []=>by
   cases b with
   | nil=>rfl
   | cons x b=>rw [List.nil_append,findN_ge (less_asymm _ _ (h x (by simp))),findN_nil]
 | x::a=>by
   cases hx:Op.bytesLess x k with
   | true=>rw [List.cons_append,findN_lt hx,findN_lt hx,findN_post h a]
   | false=>rw [List.cons_append,findN_ge hx,findN_ge hx]
section
variable {key val:K} {pre es post:List E}
theorem place_mid (h1:∀ x∈pre,Op.bytesLess x.1 key=true) (h2:∀ x∈post,Op.bytesLess key x.1=true):placeE key (pre++(es++post))=pre.length+placeE key es:=by
 unfold placeE keysE
 rw [List.map_append,List.map_append,findN_pre _ (fun x hx=>by
  obtain ⟨y,hy,rfl⟩:=List.mem_map.1 hx
  exact h1 y hy),findN_post (fun x hx=>by
  obtain ⟨y,hy,rfl⟩:=List.mem_map.1 hx
  exact h2 y hy),List.length_map]
theorem place_le:placeE key es≤es.length:=by
 have:=findN_le key (keysE es)
 unfold placeE
 unfold keysE at this ⊢
 rwa [List.length_map] at this
theorem isE_iff:isE key es=true ↔ ∃ v,es[placeE key es]?=some (key,v):=by
 unfold isE
 rw [isAt_iff]
 unfold placeE keysE
 rw [List.getElem?_map]
 cases es[findN key (es.map (·.1))]? with
 | none=>simp
 | some x =>
   obtain ⟨a,b⟩:=x
   simp
theorem isE_lt (h:isE key es=true):placeE key es<es.length:=by
 obtain ⟨v,hv⟩:=isE_iff.1 h
 exact (List.getElem?_eq_some_iff.1 hv).1
theorem is_mid (h1:∀ x∈pre,Op.bytesLess x.1 key=true) (h2:∀ x∈post,Op.bytesLess key x.1=true):isE key (pre++(es++post))=isE key es:=by
 have hp:=place_mid (es:=es) h1 h2
 have hle:=place_le (key:=key) (es:=es)
 have key_iff:isE key (pre++(es++post))=true ↔ isE key es=true:=by
  rw [isE_iff,isE_iff,hp,List.getElem?_append_right (by omega),show pre.length+placeE key es - pre.length=placeE key es by omega]
  by_cases hlt:placeE key es<es.length
  ·rw [List.getElem?_append_left hlt]
  ·rw [List.getElem?_append_right (by omega),List.getElem?_eq_none (l:=es) (by omega),show placeE key es - es.length=0 by omega]
   constructor
   ·rintro ⟨v,hv⟩
    have:=h2 _ (List.mem_of_getElem? hv)
    rw [less_irrefl] at this
    cases this
   ·rintro ⟨v,hv⟩
    cases hv
 cases ha:isE key es with
 | true=>exact key_iff.2 ha
 | false =>
   cases hb:isE key (pre++(es++post)) with
   | false=>rfl
   | true=>rw [key_iff.1 hb] at ha;cases ha
theorem rep_in {α:Type} (a c:List α) {b:List α} {f t:Nat} (o:List α) (h:f≤b.length) (ht:t≤b.length):rep (a++(b++c)) (a.length+f) (a.length+t) o=a++(rep b f t o++c):=by
 unfold rep
 rw [List.take_append,List.drop_append,List.take_of_length_le (by omega),List.drop_of_length_le (by omega),show a.length+f - a.length=f by omega,show a.length+t - a.length=t by omega,
  List.take_append_of_le_length h,List.drop_append_of_le_length ht]
 simp
theorem put_mid (h1:∀ x∈pre,Op.bytesLess x.1 key=true) (h2:∀ x∈post,Op.bytesLess key x.1=true):putE key val (pre++(es++post))=pre++(putE key val es++post):=by
 have hle:=place_le (key:=key) (es:=es)
 unfold putE
 rw [is_mid h1 h2,place_mid h1 h2]
 cases ha:isE key es with
 | true =>
   have:=isE_lt ha
   rw [if_pos rfl,if_pos rfl,Nat.add_assoc,rep_in _ _ _ hle (by omega)]
 | false=>rw [if_neg (by decide),if_neg (by decide),rep_in _ _ _ hle hle]
theorem del_mid (h1:∀ x∈pre,Op.bytesLess x.1 key=true) (h2:∀ x∈post,Op.bytesLess key x.1=true):delE key (pre++(es++post))=pre++(delE key es++post):=by
 have hle:=place_le (key:=key) (es:=es)
 unfold delE
 rw [is_mid h1 h2,place_mid h1 h2]
 cases ha:isE key es with
 | true =>
   have:=isE_lt ha
   rw [if_pos rfl,if_pos rfl,Nat.add_assoc,rep_in _ _ _ hle (by omega)]
 | false=>rw [if_neg (by decide),if_neg (by decide)]
theorem get_mid (h1:∀ x∈pre,Op.bytesLess x.1 key=true) (h2:∀ x∈post,Op.bytesLess key x.1=true):getE key (pre++(es++post))=getE key es:=by
 unfold getE
 rw [is_mid h1 h2,place_mid h1 h2]
 cases ha:isE key es with
 | true =>
   have:=isE_lt ha
   rw [if_pos rfl,if_pos rfl,List.getD_eq_getElem?_getD,List.getElem?_append_right (by omega),show pre.length+placeE key es - pre.length=placeE key es by omega,List.getElem?_append_left this,
    ← List.getD_eq_getElem?_getD]
 | false=>rw [if_neg (by decide),if_neg (by decide)]
theorem put_len:(putE key val es).length=if isE key es then es.length else es.length+1:=by
 have hle:=place_le (key:=key) (es:=es)
 unfold putE
 cases ha:isE key es with
 | true =>
   have:=isE_lt ha
   have:=rep_length (l:=es) (o:=[(key,val)]) (show placeE key es≤placeE key es+1 by omega) (show placeE key es+1≤es.length by omega)
   simp only [if_pos,List.length_cons,List.length_nil] at this ⊢
   omega
 | false =>
   have:=rep_length (l:=es) (o:=[(key,val)]) (Nat.le_refl (placeE key es)) hle
   simp only [List.length_cons,List.length_nil,Bool.false_eq_true,if_false] at this ⊢
   omega
theorem del_len:(delE key es).length=if isE key es then es.length - 1 else es.length:=by
 unfold delE
 cases ha:isE key es with
 | true =>
   have:=isE_lt ha
   have:=rep_length (l:=es) (o:=[]) (show placeE key es≤placeE key es+1 by omega) (show placeE key es+1≤es.length by omega)
   simp only [if_pos,List.length_nil] at this ⊢
   omega
 | false=>rfl
end
theorem zip_rep {a v:List K} {f b:Nat} {o u:List K} (h:v.length=a.length) (hou:u.length=o.length):(rep a f b o).zip (rep v f b u)=rep (a.zip v) f b (o.zip u):=by
 unfold rep
 rw [List.zip_append (by rw [List.length_append,List.length_append,List.length_take,List.length_take,h,hou]),List.zip_append (by rw [List.length_take,List.length_take,h])]
 simp only [List.zip,List.take_zipWith,List.drop_zipWith]
theorem keysE_zip {ks vs:List K} (h:vs.length=ks.length):keysE (ks.zip vs)=ks:=zip_keys h
theorem VL.put {n:ND} {lo hi:K} {es:List E} {key val:K} (v:VL n lo hi es) (hb:btw lo hi key) (h1:1≤key.length) (h2:key.length≤120) (h3:val.length≤100):VL (n.put key val) lo hi (putE key val es)∧(n.put key val).size≤n.size+222∧0<(n.put key val).keys.length:=by
 have vn:VN (fun _ _ _ _ _=>False) 0 n lo hi es []:=⟨v,rfl⟩
 have ho:=vn.ok (Or.inl rfl)
 obtain ⟨l1,l2,l3,l4,l5,l6,rfl⟩:=v
 have hp:=put_ok (k:=key) (v:=val) ho l1 h1 h2 h3
 obtain ⟨p1,p2,p3⟩:=ok_leaf hp rfl
 have hke:=keysE_zip l3
 have hle:=findN_le key n.keys
 refine ⟨⟨rfl,ok_rise hp,p1,p2,p3,fun k hk=>?_,?_⟩,put_size ho l1 h2 h3,?_⟩
 ·rw [put_eq] at hk
  unfold rep at hk
  rcases List.mem_append.1 hk with e | e
  ·rcases List.mem_append.1 e with e | e
   ·exact l6 k (List.mem_of_mem_take e)
   ·rw [List.mem_singleton.1 e]
    exact hb
  ·exact l6 k (List.mem_of_mem_drop e)
 ·rw [put_eq]
  dsimp only
  rw [zip_rep l3 (by rfl)]
  unfold putE placeE isE putB
  rw [hke]
  rfl
 ·rw [put_eq]
  unfold rep
  simp
  omega
theorem VL.remove {n:ND} {lo hi:K} {es:List E} {key:K} (v:VL n lo hi es):VL (n.remove key) lo hi (delE key es)∧(n.remove key).size≤n.size:=by
 have vn:VN (fun _ _ _ _ _=>False) 0 n lo hi es []:=⟨v,rfl⟩
 have ho:=vn.ok (Or.inl rfl)
 have hv:=v
 obtain ⟨l1,l2,l3,l4,l5,l6,rfl⟩:=v
 have hke:=keysE_zip l3
 have hle:=findN_le key n.keys
 cases ha:isAt key n.keys with
 | true =>
   have hp:=removed_ok (k:=key) ho l1 ha
   obtain ⟨p1,p2,p3⟩:=ok_leaf hp rfl
   rw [remove_old ha]
   refine ⟨⟨rfl,ok_rise hp,p1,p2,p3,fun k hk=>l6 k (removed_only hk),?_⟩,?_⟩
   ·unfold removed
    dsimp only
    rw [zip_rep l3 (by rfl)]
    unfold delE placeE isE
    rw [hke,ha]
    rfl
   ·have hlt:=isAt_lt ha
    unfold removed ND.size
    dsimp only
    have h1:∀ l:List K,tsz (rep l (findN key n.keys) (findN key n.keys+1) [])≤tsz l:=by
     intro l
     have e:=tsz_append (l.take (findN key n.keys)) (l.drop (findN key n.keys))
     rw [List.take_append_drop] at e
     unfold rep
     rw [List.append_nil,tsz_append,e]
     have h2:tsz (l.drop (findN key n.keys+1))≤tsz (l.drop (findN key n.keys)):=by
      rw [← List.drop_drop]
      have e3:=tsz_append ((l.drop (findN key n.keys)).take 1) ((l.drop (findN key n.keys)).drop 1)
      rw [List.take_append_drop] at e3
      omega
     omega
    have a:=h1 n.keys
    have b:=h1 n.vals
    have c:n.kids.length=0:=by rw [l5];rfl
    simp only [List.length_nil]
    omega
 | false =>
   rw [remove_new ha]
   have:delE key (n.keys.zip n.vals)=n.keys.zip n.vals:=by
    unfold delE isE
    rw [hke,ha]
    rfl
   rw [this]
   exact ⟨hv,Nat.le_refl _⟩
theorem VL.look {n:ND} {lo hi:K} {es:List E} {key:K} (v:VL n lo hi es):isAt key n.keys=isE key es∧(isE key es=true→n.vals.getD (findN key n.keys) []=getE key es):=by
 obtain ⟨l1,l2,l3,l4,l5,l6,rfl⟩:=v
 have hke:=keysE_zip l3
 have e1:isE key (n.keys.zip n.vals)=isAt key n.keys:=by unfold isE;rw [hke]
 refine ⟨e1.symm,fun h=>?_⟩
 unfold getE
 rw [if_pos h]
 have e2:placeE key (n.keys.zip n.vals)=findN key n.keys:=by unfold placeE;rw [hke]
 have hlt:findN key n.keys<n.keys.length:=isAt_lt (by rw [← e1];exact h)
 have hv:findN key n.keys<n.vals.length:=by omega
 have ez:(n.keys.zip n.vals)[findN key n.keys]?=some (n.keys[findN key n.keys],n.vals[findN key n.keys]):=List.getElem?_zip_eq_some.2 ⟨List.getElem?_eq_getElem hlt,List.getElem?_eq_getElem hv⟩
 rw [e2,List.getD_eq_getElem?_getD,List.getD_eq_getElem?_getD,ez,List.getElem?_eq_getElem hv]
 rfl
structure Tr (O:List Int) (nd0:Int→Option ND) (t:TS) (es:List E) (L:List Int):Prop where
 acc:Acc O nd0 t L
 root:Root t.nd t.ht t.rt es L
 ct:t.ct=es.length
 lost:t.lost=0
 z_:t.z≤2147483647
section
variable {O:List Int} {nd0:Int→Option ND} {t:TS} {es:List E} {L:List Int}
theorem Root.way {nd:Int→Option ND} {ht:Nat} {rt:Int} (h:Root nd ht rt es L) (key:K):(ht=0∧rt=0∧es=[]∧L=[]) ∨
 (ht≠0∧∃ l,wayL nd key ht rt=some l∧l.length=ht∧∃ s r' lo' hi' es' pre' post' qs',Leafed nd key l [] es L rt s r' lo' hi' es' pre' post' qs'):=by
 rcases h with h | ⟨h,n,qs,rfl,rfl,a,b,c,v⟩
 ·exact Or.inl h
 ·right
  refine ⟨by omega,?_⟩
  have:=way_down (key:=key) h rt n [] [] es qs [] [] [] [] a b (fun e=>absurd rfl e) c v (btw_all key) ⟨rfl,rfl,rfl,rfl,rfl⟩
  simpa [rootPg] using this
theorem Root.count {nd:Int→Option ND} {ht:Nat} {rt:Int} (h:Root nd ht rt es L):L.length≤2*es.length∧(ht=0∨2 ^ (ht - 1)≤es.length):=by
 rcases h with ⟨rfl,_,rfl,rfl⟩ | ⟨h,n,qs,rfl,rfl,_,_,c,v⟩
 ·exact ⟨Nat.le_refl _,Or.inl rfl⟩
 ·obtain ⟨a,b⟩:=v.count (Sub.count nd h) c
  refine ⟨by rw [List.length_cons];omega,Or.inr ?_⟩
  have e:h+1 - 1=h:=by omega
  rw [e]
  cases h with
  | zero =>
    have:=(v.good (Sub.good nd 0)).2.2.1 c
    rw [Nat.pow_zero]
    omega
  | succ h =>
    have:=b (by omega)
    have e:h+1 - 1=h:=by omega
    rw [e] at this
    rw [Nat.pow_succ]
    omega
theorem Tr.get (h:Tr O nd0 t es L) (key:K):t.get key=(getE key es,isE key es,0,t):=by
 unfold TS.get TS.way
 rw [if_neg (by rw [h.lost];decide)]
 rcases h.root.way key with ⟨h1,h2,rfl,_⟩ | ⟨h1,l,w1,w2,s,r',lo,hi,es',pre,post,qs,w⟩
 ·rw [if_pos h1]
  rfl
 ·rw [if_neg h1,w1]
  dsimp only
  obtain ⟨s1,s2,_⟩:=w.up.sides w.btw_
  obtain ⟨k1,k2⟩:=VL.look (key:=key) w.vn.1
  rw [w.last,k1,← w.ents,get_mid s1 s2,is_mid s1 s2]
  cases hi:isE key es' with
  | true=>rw [if_pos rfl,k2 hi]
  | false =>
    rw [if_neg (by decide)]
    unfold getE
    rw [hi]
    rfl
theorem Tr.has (h:Tr O nd0 t es L) (key:K):t.hasK key=isE key es:=by
 unfold TS.hasK TS.way
 rcases h.root.way key with ⟨h1,h2,rfl,_⟩ | ⟨h1,l,w1,w2,s,r',lo,hi,es',pre,post,qs,w⟩
 ·rw [if_pos h1]
  rfl
 ·rw [if_neg h1,w1]
  dsimp only
  obtain ⟨s1,s2,_⟩:=w.up.sides w.btw_
  obtain ⟨k1,_⟩:=VL.look (key:=key) w.vn.1
  rw [w.last,k1,← w.ents,is_mid s1 s2]
theorem Tr.change (h:Tr O nd0 t es L) (key:K) (f:ND→ND) (g:List E→List E)
 (hf:∀ n lo hi e,VL n lo hi e→btw lo hi key→n.size≤1000→VL (f n) lo hi (g e)∧(f n).size≤1222)
 (hg:∀ pre e post,(∀ x∈pre,Op.bytesLess x.1 key=true)→(∀ x∈post,Op.bytesLess key x.1=true)→g (pre++(e++post))=pre++(g e++post))
 (h0:f empty=empty∨0<(f empty).keys.length) (h9:(f empty).size≤1000) :
 (∃ t',t.change key f=(81,t')∧Full t L (2*t.ht+3) 81)∨∃ t' L',t.change key f=(0,t')∧Done O nd0 t L (2*t.ht+3) t' L'∧Root t'.nd t'.ht t'.rt (g es) L':=by
 unfold TS.change TS.way
 rcases h.root.way key with ⟨h1,h2,rfl,rfl⟩ | ⟨h1,l,w1,w2,s,r',lo,hi,es',pre,post,qs,w⟩
 ·rw [if_pos h1]
  dsimp only
  have ve:VL empty [] [] []:=⟨rfl,rfl,rfl,rfl,rfl,fun k hk=>(by cases hk),rfl⟩
  obtain ⟨v,hsz⟩:=hf empty [] [] [] ve (btw_all key) (by decide)
  show (∃ t',t.climb 1 [⟨0,empty,0⟩] (f empty)=_∧_)∨∃ t' L',t.climb 1 [⟨0,empty,0⟩] (f empty)=_∧_
  unfold TS.climb
  by_cases hs:empty.sameB (f empty)=true
  ·right
   rw [if_pos hs]
   have e:=(ND.sameB_iff _ _).1 hs
   rw [← e] at v
   refine ⟨t,[],rfl,⟨h.acc,Nat.le_add_right _ _,rfl,rfl,rfl,rfl⟩,Or.inl ⟨h1,h2,v.ents,rfl⟩⟩
  ·rw [if_neg hs]
   have hk:0<(f empty).keys.length:=by
    rcases h0 with e | e
    ·rw [e] at hs
     exact absurd ((ND.sameB_iff empty empty).2 rfl) hs
    ·exact e
   have hs':empty.sameB (f empty)=false:=by
    cases hb:empty.sameB (f empty) with
    | false=>rfl
    | true=>exact absurd hb hs
   have vn:VN (Sub t.nd 0) 0 (f empty) [] [] (g []) []:=⟨v,rfl⟩
   have hz:=h9
   have hlay:(∃ t',t.lay [(0,empty)] [f empty]=(81,[],t')∧Full t [] 1 81)∨∃ qs t',t.lay [(0,empty)] [f empty]=(0,qs,t')∧Laid O nd0 t [] [] [f empty] qs t':=by
    have e1:∀ o,(first o=(0,empty)∨True)→t.lay [(0,empty)] [f empty]=(if (t.wr (0,empty) (f empty)).1=0 then (0,[(t.wr (0,empty) (f empty)).2.1],(t.wr (0,empty) (f empty)).2.2) else ((t.wr (0,empty) (f empty)).1,[],(t.wr (0,empty) (f empty)).2.2)):=fun _ _=>rfl
    rw [e1 [] (Or.inr trivial)]
    rcases h.acc.wr0 hs' (encE_fits (vn.ok (Or.inl rfl)) hz) with ⟨t',e,f⟩ | ⟨q,t',e,w⟩
    ·left
     rw [e,if_neg (show ¬ (81:Int)=0 by decide)]
     exact ⟨t',rfl,f.up (by omega)⟩
    ·right
     rw [e,if_pos rfl]
     refine ⟨[q],t',rfl,w.did,rfl,fun i m hm=>?_,fun x hx=>w.else_ x (fun e=>hx (by simp [e]))⟩
     cases i with
     | zero =>
       have e:f empty=m:=by simpa using hm
       rw [← e]
       exact ⟨q,rfl,w.here⟩
     | succ i=>simp at hm
   rcases plant_one (H:=1) hlay vn hk hz rfl with ⟨t',e,f⟩ | ⟨t',L',e,d,r⟩
   ·exact Or.inl ⟨t',e,f.up (by omega)⟩
   ·exact Or.inr ⟨t',L',e,d.up (by omega),r⟩
 ·rw [if_neg h1,w1]
  dsimp only
  obtain ⟨s1,s2,_⟩:=w.up.sides w.btw_
  obtain ⟨v,hsz⟩:=hf s.nd lo hi es' w.vn.1 w.btw_ w.fits
  have hp:=w.path
  rw [List.append_nil] at hp
  have hrl:r'.length+1=t.ht:=by
   have:=congrArg List.length hp
   rw [List.length_reverse,List.length_cons] at this
   omega
  rw [hp,w.last,w2]
  have vn:VN (Sub t.nd 0) 0 (f s.nd) lo hi (g es') []:=⟨v,rfl⟩
  rcases climb_ok (O:=O) (nd0:=nd0) t.ht r' s t 0 (f s.nd) lo hi (g es') [] pre post qs h.z_ (h.acc.perm w.pages) w.here w.fits w.room w.keyed vn (by rw [v.leaf];simpa using hsz) w.up w.root_.symm rfl (by omega) with ⟨t',e,f⟩ | ⟨t',L',e,d,r⟩
  ·left
   exact ⟨t',e,(f.perm w.pages.symm).up (by omega)⟩
  ·right
   refine ⟨t',L',e,(d.perm w.pages.symm).up (by omega),?_⟩
   rw [← w.ents,hg _ _ _ s1 s2]
   exact r
end
end TT
end Go.Proofs.YtccphijgcapeoaaGreat
/-
  What is meant by a list of bytes in memory.
-/
namespace Go.Proofs.YtccphijgcapeoaaGreat
open Go.RowKit
def bv (l:List UInt8):List Value:=l.map (fun b=>Value.int .u8 b.toNat)
theorem bv_append (a b:List UInt8):bv (a++b)=bv a++bv b:=List.map_append
theorem bv_length (l:List UInt8):(bv l).length=l.length:=List.length_map _
theorem bv_one (l:List UInt8):∀ u∈bv l,u.oneCell'=true:=by
 intro u hu
 obtain ⟨b,_,rfl⟩:=List.mem_map.1 hu
 rfl
theorem bv_at {l:List UInt8} {j:Nat} {u:Value} (h:(bv l)[j]?=some u):∃ z,l[j]?=some z∧u = .int .u8 z.toNat:=by
 unfold bv at h
 rw [List.getElem?_map] at h
 obtain ⟨z,h1,h2⟩:=Option.map_eq_some_iff.1 h
 exact ⟨z,h1,h2.symm⟩
def Bys (w:World) (R:Nat) (A:Option Addr) (l:List UInt8):Prop :=
 l=[]∨∃ b off,A=some ⟨b,off,none⟩∧b<R∧∀ i z,l[i]?=some z→w.cell? ⟨b,off+i,none⟩=some (.int .u8 z.toNat)
section
variable {w w':World} {R R':Nat} {A:Option Addr} {l:List UInt8}
theorem Bys.below (h:Bys w R A l) (hb:Below R w w'):Bys w' R A l:=by
 rcases h with rfl | ⟨b,off,rfl,hR,hc⟩
 ·exact Or.inl rfl
 ·exact Or.inr ⟨b,off,rfl,hR,fun i z hz=>(hb.cell (p:=⟨b,_,none⟩) hR).trans (hc i z hz)⟩
theorem Bys.kept (h:Bys w R A l) (hb:Below w.heap.size w w'):Bys w' R A l:=by
 rcases h with rfl | ⟨b,off,rfl,hR,hc⟩
 ·exact Or.inl rfl
 ·refine Or.inr ⟨b,off,rfl,hR,fun i z hz=>?_⟩
  have h0:=hc i z hz
  exact (hb.cell (p:=⟨b,_,none⟩) (World.block_lt_of_cell? _ _ h0)).trans h0
theorem Bys.alloc (h:Bys w R A l) (o:Obj):Bys (w.alloc o) R A l:=h.kept (below_one _ _)
theorem Bys.nil (w:World) (R:Nat) (A:Option Addr):Bys w R A []:=Or.inl rfl
theorem Bys.at_ (h:Bys w R A l) {k:Nat} (hk:k<l.length) :
 ∃ b off z,A=some ⟨b,off,none⟩∧b<R∧l[k]?=some z∧w.cell? ⟨b,off+k,none⟩=some (.int .u8 z.toNat):=by
 rcases h with rfl | ⟨b,off,rfl,hb,hc⟩
 ·exact absurd hk (by simp)
 ·exact ⟨b,off,l[k],rfl,hb,List.getElem?_eq_getElem hk,hc k _ (List.getElem?_eq_getElem hk)⟩
theorem Bys.cells {ad:Addr} (h:Bys w R (some ad) l):∀ j u,(bv l)[j]?=some u→w.cell? (ad.add j)=some u:=by
 intro j u hu
 obtain ⟨z,hz,rfl⟩:=bv_at hu
 rcases h with rfl | ⟨b,off,e,_,hc⟩
 ·simp at hz
 ·obtain rfl:ad=⟨b,off,none⟩:=Option.some.inj e
  rw [addr_add]
  exact hc j z hz
theorem Bys.none_ (h:Bys w R none l):l=[]:=by
 rcases h with h | ⟨b,off,e,_⟩
 ·exact h
 ·cases e
theorem Bys.drop {b off:Nat} (h:Bys w R (some ⟨b,off,none⟩) l) (k:Nat):Bys w R (some ⟨b,off+k,none⟩) (l.drop k):=by
 rcases h with rfl | ⟨b',off',e,hb,hc⟩
 ·exact Or.inl (by simp)
 ·obtain ⟨rfl,rfl⟩:b=b'∧off=off':=by
   have:=Option.some.inj e
   injection this with h1 h2
   exact ⟨h1,h2⟩
  refine Or.inr ⟨b,off+k,rfl,hb,fun i z hz=>?_⟩
  rw [List.getElem?_drop] at hz
  have:=hc (k+i) z hz
  rw [show off+k+i=off+(k+i) from by omega]
  exact this
theorem Bys.take (h:Bys w R A l) (k:Nat):Bys w R A (l.take k):=by
 rcases h with rfl | ⟨b,off,rfl,hb,hc⟩
 ·exact Or.inl (by simp)
 ·refine Or.inr ⟨b,off,rfl,hb,fun i z hz=>hc i z ?_⟩
  rw [List.getElem?_take] at hz
  split at hz
  ·exact hz
  ·cases hz
theorem Bys.of_own {base:Nat} {e:TypeId} {v:Value} {n:Nat} (h:w.ownsRow base e 1 v n (bv l)) :
 ∃ A c,v = .slice A n c∧l.length=n∧n≤c∧c≤maxLen∧Bys w w.heap.size A l:=by
 have hl:l.length=n:=by have:=h.1;rw [bv_length] at this;omega
 have hlt:=h.lt
 rcases h.2 with ⟨rfl,h0⟩ | ⟨g,cap,cur,rfl,hb,hh,hnc,hm,_⟩
 ·subst h0
  exact ⟨none,0,rfl,hl,Nat.le_refl _,Nat.zero_le _,Or.inl (List.eq_nil_of_length_eq_zero hl)⟩
 ·refine ⟨_,_,rfl,hl,hnc,hm,Or.inr ⟨g,0,rfl,(hlt g rfl).2,fun i z hz=>?_⟩⟩
  have:=h.cells (g:=g) rfl i (.int .u8 z.toNat) (by unfold bv;rw [List.getElem?_map,hz];rfl)
  rw [addr_add] at this
  exact this
end
end Go.Proofs.YtccphijgcapeoaaGreat
/-
  Lists of bytes of one's own, that are made by append.
-/
namespace Go.Proofs.YtccphijgcapeoaaGreat
open Go.RowKit
theorem byteInfo:(Tryz.prog.info? 5).map (fun i=>(i.zero,i.size,i.bytes))=some (some (.int .u8 0),1,1):=by kernel_rfl
def Own (w:World) (base:Nat) (v:Value) (l:List UInt8):Prop:=w.ownsRow base 5 1 v l.length (bv l)
def Owned (base:Nat) (w:World) (l:List UInt8) (e:Ending) (w':World):Prop :=
 ∃ v,e = .returned v∧Own w' base v l∧Below base w w'
theorem own_nil (w:World) (base:Nat):Own w base (.slice none 0 0) []:=World.ownsRow_nil _ _ _ _
theorem own_push {w:World} {base:Nat} {v:Value} {l:List UInt8} {c:UInt8} {z:Int} (hz:z=c.toNat) (h:w.ownsRow base 5 1 v (l.length+1) (bv l++[.int .u8 z])) :
 Own w base v (l++[c]):=by
 unfold Own
 rw [bv_append,List.length_append]
 rw [hz] at h
 exact h
theorem cell_two_new (w:World) (x y:Value) (t:TypeId):∀ j u,[x,y][j]?=some u→(w.alloc (.cells #[x,y] t)).cell? ((⟨w.heap.size,0,none⟩:Addr).add j)=some u:=by
 intro j u h
 rw [addr_add]
 match j,h with
 | 0,h =>
   obtain rfl:x=u:=by simpa using h
   simp
 | 1,h =>
   obtain rfl:y=u:=by simpa using h
   simp
def Lies (w:World) (A:Option Addr) (m c:Nat) (news:List Value):Prop :=
 (A=none→m=0∧c=0)∧∀ ad,A=some ad→∀ j u,news[j]?=some u→w.cell? (ad.add j)=some u
theorem wpList_append_lay {P:Program} (w:World) {ops:Array Oper} {rest:List Oper} {o:Oper} {a:Act} {Q:Exit→Act→World→Prop} (hgd:o.guard=none) (s x:Operand) (t:TypeId)
 (ho:o.op = .call { callee := .builtin .append,args:=#[s,x],argTypes:=#[t,t] })
 (base:Nat) (e:TypeId) (i:TypeInfo) (z:Value) (size bytes:Nat) (ht:P.underlying t=some (.slice e)) (hi:P.info? e=some i) (hz:i.zero=some z)
 (hsize:i.size=size) (hby:i.bytes=bytes) (hzs:z.cells.size=size) (hsz:0<size)
 (v:Value) (n:Nat) (xs:List Value) (hs:a.eval s=v) (hown:w.ownsRow base e size v n xs)
 (A:Option Addr) (m c:Nat) (news:List Value) (hx:a.eval x = .slice A m c) (hl:news.length=m*size) (hnews:Lies w A m c news) (h1:∀ u∈news,u.oneCell'=true)
 (h63:n+m≤maxLen) (hbytes:(n+m)*bytes≤140737488355328) (hbase:base≤w.heap.size)
 (h:∀ v' w',w'.ownsRow base e size v' (n+m) (xs++news)→w.grownBy w' v.ownBlock→wpList P ops Q rest (a.put o.dst v') w'):wpList P ops Q (o::rest) a w:=by
 rcases A with _ | ad
 ·obtain ⟨rfl,rfl⟩:=hnews.1 rfl
  obtain rfl:news=[]:=List.eq_nil_of_length_eq_zero (by omega)
  refine wpList_append_own_none hgd s x t ho base e i size ht hi v n xs hs hown hx ?_
  exact h v w (by simpa using hown) (World.grownBy.refl _ _)
 ·exact wpList_append_own w hgd s x t ho base e i z size bytes ht hi hz hsize hby hzs hsz v n xs hs hown ad m c news hx hl (hnews.2 ad rfl) h1 h63 hbytes hbase (fun v' w' h2 h3 _=>h v' w' h2 h3)
theorem Lies.kept {w w':World} {A:Option Addr} {m c:Nat} {news:List Value} (h:Lies w A m c news) (hb:Below w.heap.size w w'):Lies w' A m c news :=
 ⟨h.1,fun ad e j u hu=>(hb.cell (World.block_lt_of_cell? _ _ (h.2 ad e j u hu))).trans (h.2 ad e j u hu)⟩
theorem Lies.bys {w:World} {R:Nat} {A:Option Addr} {n c:Nat} {l:List UInt8} (h:Bys w R A l) (hz:A=none→n=0∧c=0):Lies w A n c (bv l) :=
 ⟨hz,fun ad e j u hu=>by subst e;exact h.cells j u hu⟩
theorem own_below {w w':World} {base:Nat} {v:Value} {l:List UInt8} (h:Own w base v l) (hb:Below w.heap.size w w'):Own w' base v l:=by
 unfold Own at h ⊢
 have hg:w.grownBy w' none:=⟨hb.os,hb.tape,hb.output,hb.size,fun k hk _=>hb.block k hk⟩
 refine h.kept hg ?_
 cases e:v.ownBlock with
 | none=>exact Or.inl rfl
 | some g=>exact Or.inr (by simp)
theorem own_bys {w:World} {base n c:Nat} {A:Option Addr} {l:List UInt8} (h:Own w base (.slice A n c) l):Bys w w.heap.size A l:=by
 obtain ⟨A',c',e,_,_,_,hb⟩:=Bys.of_own h
 injection e with e1 e2 e3
 subst e1
 exact hb
end Go.Proofs.YtccphijgcapeoaaGreat
/-
  What it is that nothing but some blocks has changed.
-/
namespace Go.Proofs.YtccphijgcapeoaaGreat
open Go.RowKit
structure Kept (F:Nat→Prop) (w w':World):Prop where
 os:w'.os=w.os
 tape:w'.tape=w.tape
 output:w'.output=w.output
 size:w.heap.size≤w'.heap.size
 block:∀ k,k<w.heap.size→¬ F k→w'.heap[k]?=w.heap[k]?
section
variable {F F':Nat→Prop} {w w' w2:World}
theorem Kept.refl (F:Nat→Prop) (w:World):Kept F w w:=⟨rfl,rfl,rfl,Nat.le_refl _,fun _ _ _=>rfl⟩
theorem Kept.trans (h:Kept F w w') (k:Kept F' w' w2) (hF:∀ k,F' k→F k∨w.heap.size≤k):Kept F w w2 :=
 ⟨k.os.trans h.os,k.tape.trans h.tape,k.output.trans h.output,Nat.le_trans h.size k.size,fun i hi hn =>
  (k.block i (Nat.lt_of_lt_of_le hi h.size) (fun e=>by rcases hF i e with e | e;exact hn e;omega)).trans (h.block i hi hn)⟩
theorem Kept.next (h:Kept F w w') (k:Kept F w' w2):Kept F w w2:=h.trans k (fun _ e=>Or.inl e)
theorem Kept.below (h:Below w.heap.size w w') (F:Nat→Prop):Kept F w w':=⟨h.os,h.tape,h.output,h.size,fun k hk _=>h.block k hk⟩
theorem Kept.grown {b:Nat} (h:w.grownBy w' (some b)) (hb:F b):Kept F w w' :=
 ⟨h.os,h.tape,h.output,h.size,fun k hk hn=>h.block k hk (fun e=>hn (by injection e with e;rw [e];exact hb))⟩
theorem Kept.setCell (w:World) {a:Addr} (ha:F a.block) (v:Value):Kept F w (w.setCell a v) :=
 ⟨rfl,rfl,rfl,by simp [World.setCell],fun k _ hn=>Below.heap_setCell _ _ _ _ (fun e=>hn (by rw [e];exact ha))⟩
theorem Kept.toBelow {B:Nat} (h:Kept F w w') (hF:∀ k,F k→B≤k) (hB:B≤w.heap.size):Below B w w' :=
 ⟨h.os,h.tape,h.output,h.size,fun k hk=>h.block k (by omega) (fun e=>by have:=hF k e;omega)⟩
theorem Kept.more (h:Kept F w w') (hF:∀ k,F k→F' k):Kept F' w w' :=
 ⟨h.os,h.tape,h.output,h.size,fun k hk hn=>h.block k hk (fun e=>hn (hF k e))⟩
end
end Go.Proofs.YtccphijgcapeoaaGreat
/-
  The plain disk: what each call answers, and what there is behind it. Nothing here names the program.
-/
namespace Go.Proofs.YtccphijgcapeoaaGreat
structure PS where
 size:Nat
 L:Int→List UInt8
 W:Int→Option (List UInt8)
 down:Bool
 fused:Bool
 fuse:Nat
namespace PS
def new (n:Nat):PS:=⟨n,fun _=>[],fun _=>none,false,false,0⟩
def has (s:PS) (n:Int):Bool:=decide (0≤n∧n<(s.size:Int))
def held (s:PS) (n:Int):List UInt8:=(s.W n).getD (s.L n)
def readE (s:PS) (n:Int):Int:=if s.down then 40 else if s.has n then 0 else 41
def readB (s:PS) (n:Int):List UInt8:=if s.down then [] else if s.has n then s.held n else []
def may (s:PS):Bool := !s.fused || s.fuse != 0
def acted (s:PS):PS:=if s.fused then (if s.fuse=0 then { s with down:=true } else { s with fuse:=s.fuse - 1 }) else s
def bad (s:PS) (n:Int) (l:List UInt8):Bool := !s.has n || decide (1024<l.length)
def writeE (s:PS) (n:Int) (l:List UInt8):Int:=if s.down then 40 else if s.bad n l then 41 else if s.may then 0 else 40
def lay (s:PS) (n:Int) (l:List UInt8):PS:={ s with W:=fun j=>if j=n then some l else s.W j }
def written (s:PS) (n:Int) (l:List UInt8):PS:=if s.down then s else if s.bad n l then s else if s.may then s.acted.lay n l else s.acted
def flushE (s:PS):Int:=if s.down then 40 else if s.may then 0 else 40
def settled (s:PS) (n:Int):PS:={ s with L:=fun j=>if j=n then s.held n else s.L j }
def all (s:PS):PS:={ s with L:=s.held,W:=fun _=>none }
def flushed (s:PS):PS:=if s.down then s else if s.may then s.acted.all else s.acted
def kept (s:PS) (keep:List Int):PS:={ s with L:=fun j=>if j∈keep then s.held j else s.L j }
structure Ok (s:PS):Prop where
 l:∀ i,s.L i≠[]→0≤i∧i<(s.size:Int)
 w:∀ i,s.W i≠none→0≤i∧i<(s.size:Int)
 ll:∀ i,(s.L i).length≤1024
 wl:∀ i l,s.W i=some l→l.length≤1024
end PS
end Go.Proofs.YtccphijgcapeoaaGreat
/-
  What is meant by a disk in memory.
-/
namespace Go.Proofs.YtccphijgcapeoaaGreat
open Go.RowKit Go.Maps
section
variable {w w':World}
theorem own_of_block {base:Nat} {v:Value} {l:List UInt8} (h:Own w base v l) (e:∀ k,v.ownBlock=some k→w'.heap[k]?=w.heap[k]?):Own w' base v l:=by
 obtain ⟨h1,h2⟩:=h
 refine ⟨h1,?_⟩
 rcases h2 with h2 | ⟨g,cap,cur,hv,hg,hh,r⟩
 ·exact Or.inl h2
 ·exact Or.inr ⟨g,cap,cur,hv,hg,by rw [e g (by rw [hv];rfl)];exact hh,r⟩
theorem own_base {base:Nat} {v:Value} {l:List UInt8} (h:Own w base v l):Own w 0 v l:=by
 obtain ⟨h1,h2⟩:=h
 refine ⟨h1,?_⟩
 rcases h2 with h2 | ⟨g,cap,cur,hv,hg,r⟩
 ·exact Or.inl h2
 ·exact Or.inr ⟨g,cap,cur,hv,Nat.zero_le _,r⟩
/-- The block of bytes of one's own is one of bytes. -/
theorem own_cells {base:Nat} {v:Value} {l:List UInt8} {k:Nat} (h:Own w base v l) (e:v.ownBlock=some k):∃ cur,w.heap[k]?=some (.cells cur 5 (0,0)):=by
 rcases h.2 with ⟨rfl,_⟩ | ⟨g,cap,cur,hv,hg,hh,r⟩
 ·cases e
 ·rw [hv] at e
  injection e with e
  subst e
  exact ⟨cur,hh⟩
theorem own_slice {base:Nat} {v:Value} {l:List UInt8} (h:Own w base v l):∃ A c,v = .slice A l.length c∧l.length≤c∧(A=none→l.length=0∧c=0):=by
 rcases h.2 with ⟨rfl,h0⟩ | ⟨g,cap,cur,hv,_,_,hc,_⟩
 ·exact ⟨none,0,by rw [h0],by omega,fun _=>⟨h0,rfl⟩⟩
 ·exact ⟨_,_,hv,hc,fun e=>by cases e⟩
end
abbrev Ghost:=Int→Option (Value×List UInt8)
def vals (g:Ghost):Int→Option Value:=fun i=>(g i).map Prod.fst
def Apart (g h:Ghost) (S:Int→Int→Prop):Prop :=
 ∀ i j v l u m k,g i=some (v,l)→h j=some (u,m)→v.ownBlock=some k→u.ownBlock=some k→S i j
def diskCells (s:PS) (bl bw:Nat):Array Value:=#[.int .i64 s.size,.map (some bl),.map (some bw),.bool s.down,.bool s.fused,.int .i64 s.fuse]
structure DiskAt (w:World) (F:Nat→Prop) (S:Int→Prop) (db bl bw:Nat) (gL gW:Ghost) (s:PS):Prop where
 str:w.heap[db]?=some (.cells (diskCells s bl bw) 121 (0,0))
 mL:MapAt w bl (vals gL)
 mW:MapAt w bw (vals gW)
 ne:bl≠bw
 fd:F db
 fl:F bl
 fw:F bw
 lt:∀ k,F k→k<w.heap.size
 oL:∀ i v l,gL i=some (v,l)→Own w 0 v l∧l≠[]∧l.length≤1024∧(∀ k,v.ownBlock=some k→F k)∧0≤i∧i<(s.size:Int)
 oW:∀ i v l,gW i=some (v,l)→Own w 0 v l∧l.length≤1024∧(∀ k,v.ownBlock=some k→F k)∧0≤i∧i<(s.size:Int)
 aL:Apart gL gL (·=·)
 aW:Apart gW gW (·=·)
 aX:Apart gL gW (fun i j=>i=j∧S j)
 sL:∀ i,s.L i=((gL i).map Prod.snd).getD []
 sW:∀ i,s.W i=(gW i).map Prod.snd
 s2:2≤s.size
 s4:s.size≤4096
 fu:s.fuse≤9223372036854775807
def Dk (w:World) (F:Nat→Prop) (db:Nat) (s:PS):Prop:=∃ bl bw gL gW,DiskAt w F (fun _=>False) db bl bw gL gW s
section
variable {w w':World} {F F':Nat→Prop} {S S':Int→Prop} {db bl bw:Nat} {gL gW:Ghost} {s:PS}
theorem DiskAt.same (h:DiskAt w F S db bl bw gL gW s) (e:∀ k,F k→w'.heap[k]?=w.heap[k]?) (hs:w.heap.size≤w'.heap.size):DiskAt w' F S db bl bw gL gW s :=
 {h with
  str:=(e db h.fd).trans h.str
  mL:=h.mL.block (e bl h.fl)
  mW:=h.mW.block (e bw h.fw)
  lt:=fun k hk=>Nat.lt_of_lt_of_le (h.lt k hk) hs
  oL:=fun i v l hi=>by
   obtain ⟨o,r1,r2,r3,r4⟩:=h.oL i v l hi
   exact ⟨own_of_block o (fun k hk=>e k (r3 k hk)),r1,r2,r3,r4⟩
  oW:=fun i v l hi=>by
   obtain ⟨o,r2,r3,r4⟩:=h.oW i v l hi
   exact ⟨own_of_block o (fun k hk=>e k (r3 k hk)),r2,r3,r4⟩ }
theorem Dk.kept {G:Nat→Prop} (h:Dk w F db s) (hk:Kept G w w') (hd:∀ k,F k→¬ G k):Dk w' F db s:=by
 obtain ⟨bl,bw,gL,gW,h⟩:=h
 exact ⟨bl,bw,gL,gW,h.same (fun k hF=>hk.block k (h.lt k hF) (hd k hF)) hk.size⟩
theorem Dk.below (h:Dk w F db s) (hb:Below w.heap.size w w'):Dk w' F db s:=by
 obtain ⟨bl,bw,gL,gW,h⟩:=h
 exact ⟨bl,bw,gL,gW,h.same (fun k hF=>hb.block k (h.lt k hF)) hb.size⟩
theorem DiskAt.rest (h:DiskAt w F S db bl bw gL (fun _=>none) s):Dk w F db s :=
 ⟨bl,bw,gL,_,{ h with aX:=fun i j v l u m k _ e=>by cases e }⟩
theorem types_apart:(5:TypeId)≠121:=by decide
theorem DiskAt.own_ne (h:DiskAt w F S db bl bw gL gW s) {base:Nat} {v:Value} {l:List UInt8} {k:Nat} (o:Own w base v l) (e:v.ownBlock=some k):k≠db∧k≠bl∧k≠bw:=by
 obtain ⟨cur,hc⟩:=own_cells o e
 refine ⟨fun e1=>?_,fun e1=>?_,fun e1=>?_⟩
 ·subst e1
  rw [h.str] at hc
  injection hc with hc
  injection hc with _ hc
  exact types_apart hc.symm
 ·subst e1
  obtain ⟨es,c,hm⟩:=h.mL.isMap
  rw [hm] at hc
  cases hc
 ·subst e1
  obtain ⟨es,c,hm⟩:=h.mW.isMap
  rw [hm] at hc
  cases hc
theorem DiskAt.db_ne (h:DiskAt w F S db bl bw gL gW s):bl≠db∧bw≠db:=by
 refine ⟨fun e=>?_,fun e=>?_⟩
 ·obtain ⟨es,c,hm⟩:=h.mL.isMap
  rw [e,h.str] at hm
  cases hm
 ·obtain ⟨es,c,hm⟩:=h.mW.isMap
  rw [e,h.str] at hm
  cases hm
/-- The struct's own fields are written. -/
theorem DiskAt.field (h:DiskAt w F S db bl bw gL gW s) {d f:Bool} {n:Nat} (hn:n≤9223372036854775807)
 (hd:w'.heap[db]?=some (.cells (diskCells { s with down:=d,fused:=f,fuse:=n } bl bw) 121 (0,0))) (ho:∀ k,k≠db→w'.heap[k]?=w.heap[k]?) (hs:w.heap.size≤w'.heap.size) :
 DiskAt w' F S db bl bw gL gW { s with down:=d,fused:=f,fuse:=n } :=
 {h with
  str:=hd
  mL:=h.mL.block (ho _ h.db_ne.1)
  mW:=h.mW.block (ho _ h.db_ne.2)
  lt:=fun k hk=>Nat.lt_of_lt_of_le (h.lt k hk) hs
  oL:=fun i v l hi=>by
   obtain ⟨o,r⟩:=h.oL i v l hi
   exact ⟨own_of_block o (fun k hk=>ho k (h.own_ne o hk).1),r⟩
  oW:=fun i v l hi=>by
   obtain ⟨o,r⟩:=h.oW i v l hi
   exact ⟨own_of_block o (fun k hk=>ho k (h.own_ne o hk).1),r⟩
  fu:=hn }
theorem DiskAt.putL (h:DiskAt w F S db bl bw gL gW s) {gL':Ghost} {L':Int→List UInt8} (hg:w.grownBy w' (some bl)) (hm:MapAt w' bl (vals gL'))
 (oL':∀ i v l,gL' i=some (v,l)→Own w 0 v l∧l≠[]∧l.length≤1024∧(∀ k,v.ownBlock=some k→F k)∧0≤i∧i<(s.size:Int))
 (aL':Apart gL' gL' (·=·)) (aX':Apart gL' gW (fun i j=>i=j∧S' j)) (sL':∀ i,L' i=((gL' i).map Prod.snd).getD []):DiskAt w' F S' db bl bw gL' gW { s with L:=L' }:=by
 have ho:∀ k,k<w.heap.size→k≠bl→w'.heap[k]?=w.heap[k]?:=fun k hk hne=>hg.block k hk (fun e=>hne (by injection e))
 exact { h with
  str:=(ho _ (h.lt _ h.fd) h.db_ne.1.symm).trans h.str
  mL:=hm
  mW:=h.mW.block (ho _ (h.lt _ h.fw) h.ne.symm)
  lt:=fun k hk=>Nat.lt_of_lt_of_le (h.lt k hk) hg.size
  oL:=fun i v l hi=>by
   obtain ⟨o,r1,r2,r3,r⟩:=oL' i v l hi
   exact ⟨own_of_block o (fun k hk=>ho k (h.lt k (r3 k hk)) (h.own_ne o hk).2.1),r1,r2,r3,r⟩
  oW:=fun i v l hi=>by
   obtain ⟨o,r2,r3,r⟩:=h.oW i v l hi
   exact ⟨own_of_block o (fun k hk=>ho k (h.lt k (r3 k hk)) (h.own_ne o hk).2.1),r2,r3,r⟩
  aL:=aL'
  aX:=aX'
  sL:=sL' }
theorem DiskAt.putW (h:DiskAt w F S db bl bw gL gW s) {gW':Ghost} {W':Int→Option (List UInt8)} (hg:w.grownBy w' (some bw)) (hm:MapAt w' bw (vals gW'))
 (oW':∀ i v l,gW' i=some (v,l)→Own w 0 v l∧l.length≤1024∧(∀ k,v.ownBlock=some k→F k)∧0≤i∧i<(s.size:Int))
 (aW':Apart gW' gW' (·=·)) (aX':Apart gL gW' (fun i j=>i=j∧S' j)) (sW':∀ i,W' i=(gW' i).map Prod.snd):DiskAt w' F S' db bl bw gL gW' { s with W:=W' }:=by
 have ho:∀ k,k<w.heap.size→k≠bw→w'.heap[k]?=w.heap[k]?:=fun k hk hne=>hg.block k hk (fun e=>hne (by injection e))
 exact { h with
  str:=(ho _ (h.lt _ h.fd) h.db_ne.2.symm).trans h.str
  mL:=h.mL.block (ho _ (h.lt _ h.fl) h.ne)
  mW:=hm
  lt:=fun k hk=>Nat.lt_of_lt_of_le (h.lt k hk) hg.size
  oL:=fun i v l hi=>by
   obtain ⟨o,r1,r2,r3,r⟩:=h.oL i v l hi
   exact ⟨own_of_block o (fun k hk=>ho k (h.lt k (r3 k hk)) (h.own_ne o hk).2.2),r1,r2,r3,r⟩
  oW:=fun i v l hi=>by
   obtain ⟨o,r2,r3,r⟩:=oW' i v l hi
   exact ⟨own_of_block o (fun k hk=>ho k (h.lt k (r3 k hk)) (h.own_ne o hk).2.2),r2,r3,r⟩
  aW:=aW'
  aX:=aX'
  sW:=sW' }
theorem DiskAt.more (h:DiskAt w F S db bl bw gL gW s) (hF:∀ k,F k→F' k) (hl:∀ k,F' k→k<w.heap.size):DiskAt w F' S db bl bw gL gW s :=
 {h with
  fd:=hF _ h.fd
  fl:=hF _ h.fl
  fw:=hF _ h.fw
  lt:=hl
  oL:=fun i v l hi=>by
   obtain ⟨o,r1,r2,r3,r⟩:=h.oL i v l hi
   exact ⟨o,r1,r2,fun k hk=>hF k (r3 k hk),r⟩
  oW:=fun i v l hi=>by
   obtain ⟨o,r2,r3,r⟩:=h.oW i v l hi
   exact ⟨o,r2,fun k hk=>hF k (r3 k hk),r⟩ }
theorem DiskAt.cell (h:DiskAt w F S db bl bw gL gW s) (j:Nat) {v:Value} (e:(diskCells s bl bw)[j]?=some v):w.cell? ⟨db,j,none⟩=some v:=(cell_of_row w db j _ _ _ h.str).trans e
theorem DiskAt.free (h:DiskAt w F S db bl bw gL gW s) (j:Nat):w.frozen? ⟨db,j,none⟩=false:=frozen_of_row w db j _ _ h.str
theorem DiskAt.ok (h:DiskAt w F S db bl bw gL gW s):s.Ok where
 l i hi:=by
   rw [h.sL] at hi
   cases hg:gL i with
   | none=>rw [hg] at hi;exact absurd rfl hi
   | some p=>obtain ⟨_,_,_,_,r⟩:=h.oL i p.1 p.2 hg;exact r
 w i hi:=by
   rw [h.sW] at hi
   cases hg:gW i with
   | none=>rw [hg] at hi;exact absurd rfl hi
   | some p=>obtain ⟨_,_,_,r⟩:=h.oW i p.1 p.2 hg;exact r
 ll i:=by
  rw [h.sL]
  cases hg:gL i with
  | none=>simp
  | some p=>obtain ⟨_,_,r,_⟩:=h.oL i p.1 p.2 hg;simpa using r
 wl i l hl:=by
  rw [h.sW] at hl
  cases hg:gW i with
  | none=>rw [hg] at hl;cases hl
  | some p =>
    obtain ⟨_,r,_⟩:=h.oW i p.1 p.2 hg
    rw [hg] at hl
    obtain rfl:p.2=l:=by simpa using hl
    exact r
end
def Goes (w:World) (F:Nat→Prop) (db:Nat) (s':PS) (v:Value) (e:Ending) (w':World):Prop :=
 e = .returned v∧∃ F',Dk w' F' db s'∧(∀ k,F' k→F k∨w.heap.size≤k)∧Kept F w w'
end Go.Proofs.YtccphijgcapeoaaGreat
/-
  What the disk's own functions come to: has, held, mayAct, settle.
-/
namespace Go.Proofs.YtccphijgcapeoaaGreat
open Go.RowKit Go.Maps
theorem has_any (w:World) (db:Nat) (s:PS) (n:Int) (c0:w.cell? ⟨db,0,none⟩=some (.int .i64 s.size)) :
 Calls Tryz.prog 54 #[.pointer (some ⟨db,0,none⟩),.int .i64 n] w fun e w'=>e = .returned (.bool (s.has n))∧w=w':=by
 by_cases h0:0≤n
 ·go_enter Tryz.func54,Tryz.ntmps54
  go_wp2_with fail
  go_ret
  refine ⟨ret_bool ?_,rfl⟩
  simp [PS.has,h0]
 ·go_enter Tryz.func54,Tryz.ntmps54
  go_wp2_with fail
  go_ret
  refine ⟨ret_bool ?_,rfl⟩
  unfold PS.has
  rw [eq_comm,decide_eq_false_iff_not]
  omega
def heldV (gL gW:Ghost) (n:Int):Value:=((vals gW n).getD ((vals gL n).getD (.slice none 0 0)))
section
variable {F:Nat→Prop} {S:Int→Prop} {db bl bw:Nat} {gL gW:Ghost} {s:PS}
theorem held_any (w:World) (n:Int) (h1 : -9223372036854775808≤n) (h2:n≤9223372036854775807) (h:DiskAt w F S db bl bw gL gW s) :
 Calls Tryz.prog 55 #[.pointer (some ⟨db,0,none⟩),.int .i64 n] w fun e w'=>e = .returned (heldV gL gW n)∧w=w':=by
 have c1:=h.cell 1 (v := .map (some bl)) rfl
 have c2:=h.cell 2 (v := .map (some bw)) rfl
 have k1:=h.mL.look1 h1 h2
 have k2:=h.mW.look h1 h2
 unfold heldV
 cases hW:vals gW n with
 | none =>
   rw [hW] at k2
   simp only [Option.getD_none,Option.isSome_none] at k2
   clear h hW
   generalize (vals gL n).getD (.slice none 0 0)=v at *
   go_enter Tryz.func55,Tryz.ntmps55
   go_wp2_with fail
   go_ret
   exact ⟨rfl,rfl⟩
 | some v =>
   rw [hW] at k2
   simp only [Option.getD_some,Option.isSome_some] at k2
   clear h hW k1
   go_enter Tryz.func55,Tryz.ntmps55
   go_wp2_with fail
   go_ret
   exact ⟨rfl,rfl⟩
theorem DiskAt.held_own {w:World} (h:DiskAt w F S db bl bw gL gW s) (n:Int):Own w 0 (heldV gL gW n) (s.held n)∧(∀ k,(heldV gL gW n).ownBlock=some k→F k):=by
 unfold heldV PS.held vals
 rw [h.sW,h.sL]
 cases hW:gW n with
 | some p =>
   obtain ⟨o,_,r,_⟩:=h.oW n p.1 p.2 hW
   exact ⟨o,r⟩
 | none =>
   cases hL:gL n with
   | some p =>
     obtain ⟨o,_,_,r,_⟩:=h.oL n p.1 p.2 hL
     exact ⟨o,r⟩
   | none=>exact ⟨own_nil _ _,fun k hk=>by cases hk⟩
theorem PS.held_le {s:PS} (h:s.Ok) (n:Int):(s.held n).length≤1024:=by
 unfold PS.held
 cases hW:s.W n with
 | some l=>exact h.wl n l hW
 | none=>exact h.ll n
theorem act_any (w:World) (h:DiskAt w F S db bl bw gL gW s) :
 Calls Tryz.prog 71 #[.pointer (some ⟨db,0,none⟩)] w fun e w'=>e = .returned (.bool s.may)∧DiskAt w' F S db bl bw gL gW s.acted∧Kept F w w':=by
 have c4:=h.cell 4 (v := .bool s.fused) rfl
 have c5:=h.cell 5 (v := .int .i64 s.fuse) rfl
 have c3:=h.cell 3 (v := .bool s.down) rfl
 have f3:=h.free 3
 have f5:=h.free 5
 have HD:=Lib.hid h
 have hfu:=h.fu
 clear h
 by_cases hf:s.fused=true
 ·rw [hf] at c4
  by_cases h0:s.fuse=0
  ·rw [h0] at c5
   have HF:=Lib.hid hf
   have H0:=Lib.hid h0
   clear hf h0 hfu
   go_enter Tryz.func71,Tryz.ntmps71
   go_wp2_with fail
   go_ret
   have h:=HD.out
   refine ⟨ret_bool ?_,?_,Kept.setCell _ h.fd _⟩
   ·simp [PS.may,HF.out,H0.out]
   ·have:=h.field (w':=w.setCell ⟨db,3,none⟩ (.bool true)) (d:=true) (f:=s.fused) (n:=s.fuse) h.fu (by rw [Joins.block_setCell h.str];rfl) (fun k hk=>Below.heap_setCell _ _ _ _ hk) (by simp [World.setCell])
    unfold PS.acted
    rw [if_pos HF.out,if_pos H0.out]
    exact this
  ·have hb:((s.fuse:Int)==0)=false:=by rw [beq_eq_false_iff_ne];omega
   have HF:=Lib.hid hf
   clear hf
   go_enter Tryz.func71,Tryz.ntmps71
   go_wp2_with fail
   go_ret
   have h:=HD.out
   refine ⟨ret_bool ?_,?_,Kept.setCell _ h.fd _⟩
   ·simp [PS.may,h0]
   ·have:=h.field (w':=w.setCell ⟨db,5,none⟩ (.int .i64 ((s.fuse - 1:Nat):Int))) (d:=s.down) (f:=s.fused) (n:=s.fuse - 1) (by omega) (by rw [Joins.block_setCell h.str];rfl) (fun k hk=>Below.heap_setCell _ _ _ _ hk) (by simp [World.setCell])
    unfold PS.acted
    rw [if_pos HF.out,if_neg h0]
    rw [show ((s.fuse - 1:Nat):Int)=(s.fuse:Int) - 1 by omega] at this
    exact this
 ·have hf':s.fused=false:=by simpa using hf
  rw [hf'] at c4
  have HF:=Lib.hid hf'
  clear hf hf'
  go_enter Tryz.func71,Tryz.ntmps71
  go_wp2_with fail
  go_ret
  refine ⟨ret_bool ?_,?_,Kept.refl _ _⟩
  ·simp [PS.may,HF.out]
  ·unfold PS.acted
   rw [if_neg (by rw [HF.out];decide)]
   exact HD.out
end
end Go.Proofs.YtccphijgcapeoaaGreat
/-
  What disk's settle comes to; the writes of maps at their operations.
-/
namespace Go.Proofs.YtccphijgcapeoaaGreat
open Go.RowKit Go.Maps
section
variable (w:World) {ops:Array Oper} {rest:List Oper} {o:Oper} {a:Act} {Q:Exit→Act→World→Prop}
theorem wpList_delete_at (hg:o.guard=none) (m x:Operand) (hop:o.op=Op.call { callee:=Callee.builtin Builtin.delete,args:=#[m,x],argTypes:=#[119,3] })
 (b:Nat) (f:Int→Option Value) (hm:a.eval m = .map (some b)) (h:MapAt w b f) (i:Int) (hx:a.eval x = .int .i64 i) (h1 : -9223372036854775808≤i) (h2:i≤9223372036854775807)
 (hK:∀ w',MapAt w' b (upd f i none)→w.grownBy w' (some b)→wpList Tryz.prog ops Q rest (a.put o.dst (.tuple #[])) w') :
 wpList Tryz.prog ops Q (o::rest) a w:=by
 refine wpList_plain hg fun K' hK'=>?_
 obtain ⟨w',hrun,r1,r2⟩:=h.del h1 h2 o.type
 unfold Oper.wp
 simp [execOp,hop,resolve,invoke,builtin,hm,hx,hrun,Result.andThen]
 exact hK' _ _ (hK w' r1 r2)
theorem wpList_clear_at (hg:o.guard=none) (m:Operand) (hop:o.op=Op.call { callee:=Callee.builtin Builtin.clear,args:=#[m],argTypes:=#[119] })
 (b:Nat) (f:Int→Option Value) (hm:a.eval m = .map (some b)) (h:MapAt w b f)
 (hK:∀ w',MapAt w' b (fun _=>none)→w.grownBy w' (some b)→wpList Tryz.prog ops Q rest (a.put o.dst (.tuple #[])) w') :
 wpList Tryz.prog ops Q (o::rest) a w:=by
 refine wpList_plain hg fun K' hK'=>?_
 obtain ⟨w',hrun,r1,r2⟩:=h.clear o.type
 unfold Oper.wp
 simp [execOp,hop,resolve,invoke,builtin,hm,hrun,Result.andThen]
 exact hK' _ _ (hK w' r1 r2)
theorem wpList_put_at (hg:o.guard=none) (m x v:Operand) (hop:o.op=Op.mapUpdate 119 m x v)
 (b:Nat) (f:Int→Option Value) (hm:a.eval m = .map (some b)) (h:MapAt w b f) (i:Int) (u:Value) (hx:a.eval x = .int .i64 i) (hv:a.eval v=u) (h1:0≤i) (h2:i<4096)
 (hK:∀ w',MapAt w' b (upd f i (some u))→w.grownBy w' (some b)→wpList Tryz.prog ops Q rest (a.put o.dst undef) w') :
 wpList Tryz.prog ops Q (o::rest) a w:=by
 refine wpList_plain hg fun K' hK'=>?_
 obtain ⟨w',hrun,r1,r2⟩:=h.put h1 h2 u
 unfold Oper.wp
 simp [execOp,hop,hm,hx,hv,hrun,Result.andThen]
 exact hK' _ _ (hK w' r1 r2)
end
def updG (g:Ghost) (i:Int) (p:Option (Value×List UInt8)):Ghost:=fun j=>if j=i then p else g j
theorem vals_updG (g:Ghost) (i:Int) (p:Option (Value×List UInt8)):vals (updG g i p)=upd (vals g) i (p.map Prod.fst):=by
 funext j
 unfold vals updG upd
 by_cases h:j=i<;>simp [h]
theorem updG_some {g:Ghost} {i j:Int} {p:Option (Value×List UInt8)} {q:Value×List UInt8} (h:updG g i p j=some q):(j=i∧p=some q)∨(j≠i∧g j=some q):=by
 unfold updG at h
 by_cases e:j=i
 ·rw [if_pos e] at h
  exact Or.inl ⟨e,h⟩
 ·rw [if_neg e] at h
  exact Or.inr ⟨e,h⟩
section
variable {F:Nat→Prop} {S:Int→Prop} {db bl bw:Nat} {gL gW:Ghost} {s:PS}
theorem DiskAt.settle_none {w:World} {n:Int} (h:DiskAt w F S db bl bw gL gW s) (hn:gW n=none):DiskAt w F (fun j=>S j∨j=n) db bl bw gL gW (s.settled n) :=
 {h with
  aX:=fun i j v l u m k h1 h2 h3 h4=>by
   obtain ⟨e1,e2⟩:=h.aX i j v l u m k h1 h2 h3 h4
   exact ⟨e1,Or.inl e2⟩
  sL:=fun i=>by
   show (if i=n then s.held n else s.L i)=_
   rw [← h.sL]
   by_cases e:i=n
   ·rw [if_pos e,e]
    unfold PS.held
    rw [h.sW,hn]
    rfl
   ·rw [if_neg e] }
theorem DiskAt.settle_empty {w w':World} {n:Int} {v:Value} (h:DiskAt w F S db bl bw gL gW s) (hn:gW n=some (v,[])) (hm:MapAt w' bl (upd (vals gL) n none)) (hg:w.grownBy w' (some bl)) :
 DiskAt w' F (fun j=>S j∨j=n) db bl bw (updG gL n none) gW (s.settled n):=by
 refine h.putL hg (by rw [vals_updG];exact hm) ?_ ?_ ?_ ?_
 ·intro i v l hi
  rcases updG_some hi with ⟨_,e⟩ | ⟨_,e⟩
  ·cases e
  ·exact h.oL i v l e
 ·intro i j v l u m k h1 h2 h3 h4
  rcases updG_some h1 with ⟨_,e⟩ | ⟨_,e1⟩
  ·cases e
  ·rcases updG_some h2 with ⟨_,e⟩ | ⟨_,e2⟩
   ·cases e
   ·exact h.aL i j v l u m k e1 e2 h3 h4
 ·intro i j v l u m k h1 h2 h3 h4
  rcases updG_some h1 with ⟨_,e⟩ | ⟨_,e1⟩
  ·cases e
  ·obtain ⟨e3,e4⟩:=h.aX i j v l u m k e1 h2 h3 h4
   exact ⟨e3,Or.inl e4⟩
 ·intro i
  unfold updG
  by_cases e:i=n
  ·rw [if_pos e,if_pos e]
   unfold PS.held
   rw [h.sW,hn]
   rfl
  ·rw [if_neg e,if_neg e,h.sL]
theorem DiskAt.settle_some {w w':World} {n:Int} {v:Value} {l:List UInt8} (h:DiskAt w F S db bl bw gL gW s) (hn:gW n=some (v,l)) (hl:l≠[]) (hm:MapAt w' bl (upd (vals gL) n (some v))) (hg:w.grownBy w' (some bl)) :
 DiskAt w' F (fun j=>S j∨j=n) db bl bw (updG gL n (some (v,l))) gW (s.settled n):=by
 refine h.putL hg (by rw [vals_updG];exact hm) ?_ ?_ ?_ ?_
 ·intro i u m hi
  rcases updG_some hi with ⟨rfl,e⟩ | ⟨_,e⟩
  ·injection e with e
   injection e with e1 e2
   subst e1
   subst e2
   obtain ⟨r1,r2,r3,r4⟩:=h.oW i v l hn
   exact ⟨r1,hl,r2,r3,r4⟩
  ·exact h.oL i u m e
 ·intro i j v1 l1 u m k h1 h2 h3 h4
  rcases updG_some h1 with ⟨e0,e⟩ | ⟨n1,e1⟩
  ·rcases updG_some h2 with ⟨e0',_⟩ | ⟨n2,e2⟩
   ·exact e0.trans e0'.symm
   ·injection e with e
    injection e with e3 e4
    subst e3
    exact absurd (h.aX j n u m v l k e2 hn h4 h3).1 n2
  ·rcases updG_some h2 with ⟨e0',e⟩ | ⟨_,e2⟩
   ·injection e with e
    injection e with e3 e4
    subst e3
    exact absurd (h.aX i n v1 l1 v l k e1 hn h3 h4).1 n1
   ·exact h.aL i j v1 l1 u m k e1 e2 h3 h4
 ·intro i j v1 l1 u m k h1 h2 h3 h4
  rcases updG_some h1 with ⟨e0,e⟩ | ⟨n1,e1⟩
  ·injection e with e
   injection e with e3 e4
   subst e3
   have:=h.aW n j v l u m k hn h2 h3 h4
   exact ⟨e0.trans this,Or.inr this.symm⟩
  ·obtain ⟨e3,e4⟩:=h.aX i j v1 l1 u m k e1 h2 h3 h4
   exact ⟨e3,Or.inl e4⟩
 ·intro i
  unfold updG
  by_cases e:i=n
  ·rw [if_pos e,if_pos e]
   unfold PS.held
   rw [h.sW,hn]
   rfl
  ·rw [if_neg e,if_neg e,h.sL]
def Settles (w:World) (F:Nat→Prop) (S:Int→Prop) (db bl bw:Nat) (gW:Ghost) (s:PS) (n:Int) (e:Ending) (w':World):Prop :=
 e = .returned (.tuple #[])∧∃ gL',DiskAt w' F (fun j=>S j∨j=n) db bl bw gL' gW (s.settled n)∧(∃ row,w.grownBy w' row∧∀ b,row=some b→b=bl)
theorem settle_any (w:World) (n:Int) (h1 : -9223372036854775808≤n) (h2:n≤9223372036854775807) (h:DiskAt w F S db bl bw gL gW s) :
 Calls Tryz.prog 72 #[.pointer (some ⟨db,0,none⟩),.int .i64 n] w (Settles w F S db bl bw gW s n):=by
 have c1:=h.cell 1 (v := .map (some bl)) rfl
 have c2:=h.cell 2 (v := .map (some bw)) rfl
 have k2:=h.mW.look h1 h2
 have HD:=Lib.hid h
 cases hW:gW n with
 | none =>
   rw [show vals gW n=none by unfold vals;rw [hW];rfl] at k2
   simp only [Option.getD_none,Option.isSome_none] at k2
   have HW:=Lib.hid hW
   clear h hW
   go_enter Tryz.func72,Tryz.ntmps72
   go_wp2_with fail
   go_end0
   exact ⟨rfl,gL,HD.out.settle_none HW.out,none,World.grownBy.refl _ _,fun b hb=>by cases hb⟩
 | some p =>
   obtain ⟨v,l⟩:=p
   obtain ⟨o,r2,r3,r4,r5⟩:=h.oW n v l hW
   obtain ⟨A,c,rfl,hc,hz⟩:=own_slice o
   rw [show vals gW n=some (.slice A l.length c) by unfold vals;rw [hW];rfl] at k2
   simp only [Option.getD_some,Option.isSome_some] at k2
   have HW:=Lib.hid hW
   have HM:=Lib.hid h.mL
   have hs4:=h.s4
   clear hW o r3 hz
   by_cases hl:l=[]
   ·subst hl
    clear h hs4
    go_enter Tryz.func72,Tryz.ntmps72
    go_wp2_with (at_delete;refine wpList_delete_at _ rfl _ _ rfl bl _ rfl HM.out n rfl h1 h2 ?_;intro w1 hm1 hg1)
    go_end0
    exact ⟨rfl,_,HD.out.settle_empty HW.out hm1 hg1,some bl,hg1,fun _ hb=>(Option.some.inj hb).symm⟩
   ·have hl0:((l.length:Int)==0)=false:=by
     rw [beq_eq_false_iff_ne]
     intro e
     exact hl (List.eq_nil_of_length_eq_zero (by omega))
    have HL:=Lib.hid hl
    clear h hl
    go_enter Tryz.func72,Tryz.ntmps72
    go_wp2_with (at_mapUpdate;refine wpList_put_at _ rfl _ _ _ rfl bl _ rfl HM.out n _ rfl rfl (by omega) (by omega) ?_;intro w1 hm1 hg1)
    go_end0
    exact ⟨rfl,_,HD.out.settle_some HW.out HL.out hm1 hg1,some bl,hg1,fun _ hb=>(Option.some.inj hb).symm⟩
end
end Go.Proofs.YtccphijgcapeoaaGreat
/-
  What bytes.Clone comes to, at any bytes (at most 1000000), nil or not.
-/
namespace Go.Proofs.YtccphijgcapeoaaGreat
open Go.RowKit
theorem clone_some (ad:Addr) (n c R:Nat) (l:List UInt8) (w:World) (hx:Bys w R (some ad) l) (e:l.length=n) (hn:n≤1000000) :
 Calls Tryz.prog 105 #[.slice (some ad) n c] w (Owned w.heap.size w l):=by
 have E:=Lib.hid e
 clear e
 have hne:=fun W=>Lib.run_eql_slice_nil (P:=Tryz.prog) W 115
 obtain ⟨i0,hi,hz0,hz1,hz2⟩:=info_parts byteInfo
 have hown0:(w.alloc (.cells #[] 5)).ownsRow w.heap.size 5 1 (.slice (some ⟨w.heap.size,0,none⟩) 0 0) 0 []:=World.ownsRow_made w #[] 0 (Nat.le_refl _) (by unfold maxLen;omega) rfl
 go_enter Tryz.func105,Tryz.ntmps105
 go_wp2_with (at_builtin;refine wpList_append_own _ rfl (.tmp 5) (.tmp 6) 115 rfl w.heap.size 5 i0 (.int .u8 0) 1 1 Tryz.underlying115 hi hz0 hz1 hz2 rfl (by decide) _ _ _ rfl hown0 ad n c (bv l) rfl (by rw [bv_length,E.out];omega) (hx.alloc _).cells (bv_one _) (by unfold maxLen;omega) (by omega) (by simp) ?_;intro v1 w1 hown1 hg1 _)
 have b1:Below w.heap.size w w1:=((Below.refl _ _).alloc (Nat.le_refl _) _).grown hg1 (by simp) (fun g hg=>(hown0.lt g hg).1)
 go_ret
 refine ⟨_,rfl,?_,b1⟩
 unfold Own
 rw [E.out]
 simpa using hown1
theorem clone_nil (w:World):Calls Tryz.prog 105 #[.slice none 0 0] w (Owned w.heap.size w []):=by
 have hne:=fun W=>Lib.run_eql_slice_nil (P:=Tryz.prog) W 115
 go_enter Tryz.func105,Tryz.ntmps105
 go_wp2_with fail
 go_ret
 exact ⟨_,rfl,own_nil _ _,Below.refl _ _⟩
theorem clone_all (A:Option Addr) (n c R:Nat) (l:List UInt8) (w:World) (hx:Bys w R A l) (e:l.length=n) (hn:n≤1000000) (hz:A=none→n=0∧c=0) :
 Calls Tryz.prog 105 #[.slice A n c] w (Owned w.heap.size w l):=by
 rcases A with _ | ad
 ·obtain ⟨rfl,rfl⟩:=hz rfl
  obtain rfl:=hx.none_
  exact clone_nil w
 ·exact clone_some ad n c R l w hx e hn
end Go.Proofs.YtccphijgcapeoaaGreat
/-
  What the disk's calls come to: New, Size, Read.
-/
namespace Go.Proofs.YtccphijgcapeoaaGreat
open Go.RowKit Go.Maps
def Out (w:World) (F:Nat→Prop) (A:Option Addr) (l:List UInt8):Prop :=
 l=[]∨∃ b off,A=some ⟨b,off,none⟩∧¬ F b∧∀ i z,l[i]?=some z→w.cell? ⟨b,off+i,none⟩=some (.int .u8 z.toNat)
section
variable {w w':World} {F F':Nat→Prop} {A:Option Addr} {l:List UInt8}
theorem Out.bys (h:Out w F A l):Bys w w.heap.size A l:=by
 rcases l with _ | ⟨y,l⟩
 ·exact Or.inl rfl
 ·rcases h with h | ⟨b,off,e,_,hc⟩
  ·cases h
  ·exact Or.inr ⟨b,off,e,World.block_lt_of_cell? _ _ (hc 0 y rfl),hc⟩
theorem Out.kept (h:Out w F A l) (hk:Kept F w w'):Out w' F A l:=by
 rcases h with h | ⟨b,off,e,hF,hc⟩
 ·exact Or.inl h
 ·refine Or.inr ⟨b,off,e,hF,fun i z hz=>?_⟩
  have h0:=hc i z hz
  have hb:=World.block_lt_of_cell? _ _ h0
  exact (World.cell?_of_block (w:=w) (hk.block b hb hF)).trans h0
end
def Made (w:World) (n:Nat) (e:Ending) (w':World):Prop :=
 ∃ db F,e = .returned (.tuple #[.pointer (some ⟨db,0,none⟩),.int .i64 0])∧Dk w' F db (PS.new n)∧(∀ k,F k→w.heap.size≤k)∧Below w.heap.size w w'
theorem made_at (w:World) (n:Nat) (h2:2≤n) (h4:n≤4096) :
 Dk (((w.alloc (.map #[] 0)).alloc (.map #[] 0)).alloc (.cells #[.int .i64 n,.map (some w.heap.size),.map (some (w.heap.size+1)),.bool false,.bool false,.int .i64 0] 121)) (fun k=>w.heap.size≤k∧k<w.heap.size+3) (w.heap.size+2) (PS.new n):=by
 refine ⟨w.heap.size,w.heap.size+1,fun _=>none,fun _=>none,?_⟩
 have m0:=mapAt_made w
 have m1:=mapAt_made (w.alloc (.map #[] 0))
 rw [show (w.alloc (.map #[] 0)).heap.size=w.heap.size+1 by simp] at m1
 have e0:∀ o,((w.alloc (.map #[] 0)).alloc o).heap[w.heap.size]?=(w.alloc (.map #[] 0)).heap[w.heap.size]?:=fun o=>Below.heap_alloc _ _ _ (by simp)
 have e1:∀ (w:World) o k,k<w.heap.size→(w.alloc o).heap[k]?=w.heap[k]?:=fun w o k hk=>Below.heap_alloc _ _ _ hk
 exact
  {str:=by
    have:=heap_alloc_new ((w.alloc (.map #[] 0)).alloc (.map #[] 0)) (.cells #[.int .i64 n,.map (some w.heap.size),.map (some (w.heap.size+1)),.bool false,.bool false,.int .i64 0] 121)
    rw [show ((w.alloc (.map #[] 0)).alloc (.map #[] 0)).heap.size=w.heap.size+2 by simp] at this
    exact this
   mL:=(m0.block (e0 _)).block (e1 _ _ _ (by simp;omega))
   mW:=m1.block (e1 _ _ _ (by simp))
   ne:=by omega
   fd:=by omega
   fl:=by omega
   fw:=by omega
   lt:=fun k hk=>by simp;omega
   oL:=fun i v l hi=>by cases hi
   oW:=fun i v l hi=>by cases hi
   aL:=fun i j v l u m k hi=>by cases hi
   aW:=fun i j v l u m k hi=>by cases hi
   aX:=fun i j v l u m k hi=>by cases hi
   sL:=fun i=>rfl
   sW:=fun i=>rfl
   s2:=h2
   s4:=h4
   fu:=by show 0≤_;omega }
theorem new_good (w:World) (n:Nat) (h2:2≤n) (h4:n≤4096):Calls Tryz.prog 32 #[.int .i64 n] w (Made w n):=by
 have HM:=Lib.hid (made_at w n h2 h4)
 have hmm:=@run_makeMap Tryz.prog
 go_enter Tryz.func32,Tryz.ntmps32
 go_wp2_with fail
 go_ret2
 exact ⟨w.heap.size+2,_,rfl,HM.out,fun k hk=>hk.1,(((Below.refl _ _).alloc (Nat.le_refl _) _).alloc (by simp) _).alloc (by simp;omega) _⟩
section
variable {F:Nat→Prop} {db:Nat} {s:PS}
def ReadEnd (w:World) (l:List UInt8) (err:Int) (e:Ending) (w':World):Prop :=
 ∃ A c,e = .returned (.tuple #[.slice A l.length c,.int .i64 err])∧Own w' w.heap.size (.slice A l.length c) l∧Below w.heap.size w w'
theorem read_any (w:World) (n:Int) (h1 : -9223372036854775808≤n) (h2:n≤9223372036854775807) (h:Dk w F db s) :
 Calls Tryz.prog 149 #[.pointer (some ⟨db,0,none⟩),.int .i64 n] w (ReadEnd w (s.readB n) (s.readE n)):=by
 obtain ⟨bl,bw,gL,gW,h⟩:=h
 have c0:=h.cell 0 (v := .int .i64 s.size) rfl
 have c3:=h.cell 3 (v := .bool s.down) rfl
 have HD:=Lib.hid h
 by_cases hd:s.down=true
 ·rw [hd] at c3
  have eB:s.readB n=[]:=by unfold PS.readB;rw [if_pos hd]
  have eE:s.readE n=40:=by unfold PS.readE;rw [if_pos hd]
  rw [eB,eE]
  clear h eB eE hd c0
  go_enter Tryz.func149,Tryz.ntmps149
  go_wp2_with fail
  go_ret2
  exact ⟨none,0,rfl,own_nil _ _,Below.refl _ _⟩
 ·have hd':s.down=false:=by simpa using hd
  rw [hd'] at c3
  by_cases hh:s.has n=true
  ·have eB:s.readB n=s.held n:=by unfold PS.readB;rw [if_neg hd,if_pos hh]
   have eE:s.readE n=0:=by unfold PS.readE;rw [if_neg hd,if_pos hh]
   rw [eB,eE]
   have HC:Hid (Calls Tryz.prog 54 #[.pointer (some ⟨db,0,none⟩),.int .i64 n] w fun e w'=>e = .returned (.bool true)∧w=w'):=hh ▸ has_any w db s n c0
   have hl:=PS.held_le h.ok n
   clear h eB eE hd hd' hh
   go_enter Tryz.func149,Tryz.ntmps149
   go_wp2_with fail
   refine HC.out.mono ?_
   rintro e w' ⟨rfl,rfl⟩
   go_wp2_with fail
   refine (held_any w n h1 h2 HD.out).mono ?_
   rintro e w' ⟨rfl,rfl⟩
   have ho:=(HD.out.held_own n).1
   generalize heldV gL gW n=v at *
   obtain ⟨A,c,rfl,hc,hz⟩:=own_slice ho
   go_wp2_with fail
   refine (clone_all A _ c _ (s.held n) w (own_bys ho) rfl (by omega) hz).mono ?_
   rintro e w1 ⟨v1,rfl,o1,b1⟩
   obtain ⟨A1,cc,rfl,_,_⟩:=own_slice o1
   clear ho hz hc
   go_wp2_with fail
   go_ret2
   exact ⟨A1,cc,rfl,o1,b1⟩
  ·have hh':s.has n=false:=by simpa using hh
   have eB:s.readB n=[]:=by unfold PS.readB;rw [if_neg hd,if_neg hh]
   have eE:s.readE n=41:=by unfold PS.readE;rw [if_neg hd,if_neg hh]
   rw [eB,eE]
   have HC:Hid (Calls Tryz.prog 54 #[.pointer (some ⟨db,0,none⟩),.int .i64 n] w fun e w'=>e = .returned (.bool false)∧w=w'):=hh' ▸ has_any w db s n c0
   clear h eB eE hd hd' hh hh'
   go_enter Tryz.func149,Tryz.ntmps149
   go_wp2_with fail
   refine HC.out.mono ?_
   rintro e w' ⟨rfl,rfl⟩
   go_wp2_with fail
   go_ret2
   exact ⟨none,0,rfl,own_nil _ _,Below.refl _ _⟩
end
end Go.Proofs.YtccphijgcapeoaaGreat
/-
  What the disk's Write comes to.
-/
namespace Go.Proofs.YtccphijgcapeoaaGreat
open Go.RowKit Go.Maps
section
variable {F:Nat→Prop} {db bl bw:Nat} {gL gW:Ghost} {s:PS}
theorem DiskAt.laid {w w2 w3:World} {n:Int} {v:Value} {l:List UInt8} (h:DiskAt w F (fun _=>False) db bl bw gL gW s) (hn:0≤n∧n<(s.size:Int)) (hl:l.length≤1024)
 (hb:Below w.heap.size w w2) (ho:Own w2 w.heap.size v l) (hm:MapAt w3 bw (upd (vals gW) n (some v))) (hg:w2.grownBy w3 (some bw)) :
 DiskAt w3 (fun k=>F k∨(w.heap.size≤k∧k<w2.heap.size)) (fun _=>False) db bl bw gL (updG gW n (some (v,l))) (s.lay n l):=by
 have h2:DiskAt w2 (fun k=>F k∨(w.heap.size≤k∧k<w2.heap.size)) (fun _=>False) db bl bw gL gW s :=
  (h.same (fun k hk=>hb.block k (h.lt k hk)) hb.size).more (fun k hk=>Or.inl hk) (fun k hk=>by
    rcases hk with hk | hk
    ·exact Nat.lt_of_lt_of_le (h.lt k hk) hb.size
    ·exact hk.2)
 refine h2.putW hg (by rw [vals_updG];exact hm) ?_ ?_ ?_ ?_
 ·intro i u m hi
  rcases updG_some hi with ⟨rfl,e⟩ | ⟨_,e⟩
  ·injection e with e
   injection e with e1 e2
   subst e1
   subst e2
   exact ⟨own_base ho,hl,fun k hk=>Or.inr (ho.lt k hk),hn⟩
  ·exact h2.oW i u m e
 ·intro i j v1 l1 u m k h1 h2 h3 h4
  rcases updG_some h1 with ⟨e0,e⟩ | ⟨n1,e1⟩
  ·rcases updG_some h2 with ⟨e0',_⟩ | ⟨n2,e2⟩
   ·exact e0.trans e0'.symm
   ·injection e with e
    injection e with e3 e4
    subst e3
    have:=h.lt k ((h.oW j u m e2).2.2.1 k h4)
    have:=(ho.lt k h3).1
    omega
  ·rcases updG_some h2 with ⟨e0',e⟩ | ⟨_,e2⟩
   ·injection e with e
    injection e with e3 e4
    subst e3
    have:=h.lt k ((h.oW i v1 l1 e1).2.2.1 k h3)
    have:=(ho.lt k h4).1
    omega
   ·exact h.aW i j v1 l1 u m k e1 e2 h3 h4
 ·intro i j v1 l1 u m k h1 h2 h3 h4
  rcases updG_some h2 with ⟨e0,e⟩ | ⟨n1,e1⟩
  ·injection e with e
   injection e with e3 e4
   subst e3
   have:=h.lt k ((h.oL i v1 l1 h1).2.2.2.1 k h3)
   have:=(ho.lt k h4).1
   omega
  ·exact h.aX i j v1 l1 u m k h1 e1 h3 h4
 ·intro i
  unfold updG
  by_cases e:i=n
  ·rw [if_pos e,if_pos e]
   rfl
  ·rw [if_neg e,if_neg e]
   exact h.sW i
theorem undrew {w w':World} (h:Below w.drew.heap.size w.drew w'):Below w.heap.size w w':=⟨h.os,h.tape,h.output,h.size,h.block⟩
theorem PS.acted_size (s:PS):s.acted.size=s.size:=by
 unfold PS.acted
 split
 ·split<;>rfl
 ·rfl
theorem PS.has_iff {s:PS} {n:Int}:s.has n=true ↔ 0≤n∧n<(s.size:Int):=by unfold PS.has;exact decide_eq_true_iff
theorem write_any (w:World) (n:Int) (h1 : -9223372036854775808≤n) (h2:n≤9223372036854775807) (A:Option Addr) (m c:Nat) (l:List UInt8) (hl:l.length=m) (hx:Out w F A l) (hz:A=none→m=0∧c=0) (h:Dk w F db s) :
 Calls Tryz.prog 70 #[.pointer (some ⟨db,0,none⟩),.int .i64 n,.slice A m c] w (Goes w F db (s.written n l) (.int .i64 (s.writeE n l))):=by
 have h0:=h
 obtain ⟨bl,bw,gL,gW,h⟩:=h
 have c0:=h.cell 0 (v := .int .i64 s.size) rfl
 have c3:=h.cell 3 (v := .bool s.down) rfl
 have HD:=Lib.hid h
 have HZ:=Lib.hid hz
 have HX:=Lib.hid hx
 have HL:=Lib.hid hl
 have H0:=Lib.hid h0
 clear hz hx h0
 by_cases hd:s.down=true
 ·rw [hd] at c3
  have eB:s.written n l=s:=by unfold PS.written;rw [if_pos hd]
  have eE:s.writeE n l=40:=by unfold PS.writeE;rw [if_pos hd]
  rw [eB,eE]
  clear h eB eE hd c0 hl
  go_enter Tryz.func70,Tryz.ntmps70
  go_wp2_with fail
  go_ret
  exact ⟨rfl,F,H0.out,fun k hk=>Or.inl hk,Kept.refl _ _⟩
 ·have hd':s.down=false:=by simpa using hd
  rw [hd'] at c3
  by_cases hb:s.bad n l=true
  ·have eB:s.written n l=s:=by unfold PS.written;rw [if_neg hd,if_pos hb]
   have eE:s.writeE n l=41:=by unfold PS.writeE;rw [if_neg hd,if_pos hb]
   rw [eB,eE]
   unfold PS.bad at hb
   by_cases hh:s.has n=true
   ·have HC:Hid (Calls Tryz.prog 54 #[.pointer (some ⟨db,0,none⟩),.int .i64 n] w fun e w'=>e = .returned (.bool true)∧w=w'):=hh ▸ has_any w db s n c0
    have hm:1024<m:=by rw [hh] at hb;simp at hb;omega
    clear h eB eE hd hd' hh hb hl
    go_enter Tryz.func70,Tryz.ntmps70
    go_wp2_with fail
    refine HC.out.mono ?_
    rintro e w' ⟨rfl,rfl⟩
    go_wp2_with fail
    go_ret
    exact ⟨rfl,F,H0.out,fun k hk=>Or.inl hk,Kept.refl _ _⟩
   ·have hh':s.has n=false:=by simpa using hh
    have HC:Hid (Calls Tryz.prog 54 #[.pointer (some ⟨db,0,none⟩),.int .i64 n] w fun e w'=>e = .returned (.bool false)∧w=w'):=hh' ▸ has_any w db s n c0
    clear h eB eE hd hd' hh hh' hb hl
    go_enter Tryz.func70,Tryz.ntmps70
    go_wp2_with fail
    refine HC.out.mono ?_
    rintro e w' ⟨rfl,rfl⟩
    go_wp2_with fail
    go_ret
    exact ⟨rfl,F,H0.out,fun k hk=>Or.inl hk,Kept.refl _ _⟩
  ·have hb':=hb
   unfold PS.bad at hb'
   have hh:s.has n=true:=by
    cases e:s.has n with
    | true=>rfl
    | false=>rw [e] at hb';simp at hb'
   have hm:m≤1024:=by rw [hh] at hb';simp at hb';omega
   have hn:=PS.has_iff.1 hh
   have hs4:=h.s4
   have HC:Hid (Calls Tryz.prog 54 #[.pointer (some ⟨db,0,none⟩),.int .i64 n] w fun e w'=>e = .returned (.bool true)∧w=w'):=hh ▸ has_any w db s n c0
   by_cases hmay:s.may=true
   ·have eB:s.written n l=s.acted.lay n l:=by unfold PS.written;rw [if_neg hd,if_neg hb,if_pos hmay]
    have eE:s.writeE n l=0:=by unfold PS.writeE;rw [if_neg hd,if_neg hb,if_pos hmay]
    rw [eB,eE]
    have HA:Hid (Calls Tryz.prog 71 #[.pointer (some ⟨db,0,none⟩)] w fun e w'=>e = .returned (.bool true)∧DiskAt w' F (fun _=>False) db bl bw gL gW s.acted∧Kept F w w'):=hmay ▸ act_any w h
    have HN:Hid (0≤n∧n<(s.acted.size:Int)):=by rw [PS.acted_size];exact hn
    clear h eB eE hd hd' hh hb hb' hmay
    go_enter Tryz.func70,Tryz.ntmps70
    go_wp2_with fail
    refine HC.out.mono ?_
    rintro e w' ⟨rfl,rfl⟩
    go_wp2_with fail
    refine HA.out.mono ?_
    rintro e w1 ⟨rfl,hd1,hk1⟩
    have c2:=hd1.cell 2 (v := .map (some bw)) rfl
    have HD1:=Lib.hid hd1
    have HK1:=Lib.hid hk1
    have HX1:=Lib.hid (HX.out.kept hk1).bys
    clear hd1 hk1 c0 c3 HC HA HX hl
    go_wp2_with fail
    have K0:w1.drew.cell? ⟨db,2,none⟩=some (.map (some bw)):=c2
    go_region_held3 (fun w'=>w'.cell? ⟨db,2,none⟩=some (.map (some bw)))
     (first | exact K2 | exact K1 | exact K0)
     (first
       | (go_at_call 105;refine (clone_all A m c _ l w1.drew HX1.out HL.out (by omega) HZ.out).mono ?_;rintro e w2 ⟨v,rfl,ho,hbl⟩;have K1:w2.cell? ⟨db,2,none⟩=some (.map (some bw)):=(hbl.cell (World.block_lt_of_cell? _ _ K0)).trans K0;obtain ⟨w3,hrun,hm3,hg3⟩:=(HD1.out.mW.block (hbl.block _ (HD1.out.lt _ HD1.out.fw))).put (i:=n) (by omega) (by omega) v;have K2:w3.cell? ⟨db,2,none⟩=some (.map (some bw)):=(World.cell?_of_block (w:=w2) (hg3.block db (World.block_lt_of_cell? _ _ K1) (fun e=>HD1.out.db_ne.2 (Option.some.inj e).symm))).trans K1))
    go_wp2_with fail
    go_ret
    have hbu:=undrew hbl
    have hou:Own w2 w1.heap.size v l:=ho
    refine ⟨rfl,_,⟨_,_,_,_,HD1.out.laid HN.out (by rw [HL.out];omega) hbu hou hm3 hg3⟩,fun k hk=>?_,HK1.out.next ((Kept.below (w:=w1) hbu F).next (Kept.grown hg3 HD1.out.fw))⟩
    rcases hk with hk | hk
    ·exact Or.inl hk
    ·exact Or.inr (Nat.le_trans HK1.out.size hk.1)
   ·have hmay':s.may=false:=by simpa using hmay
    have eB:s.written n l=s.acted:=by unfold PS.written;rw [if_neg hd,if_neg hb,if_neg hmay]
    have eE:s.writeE n l=40:=by unfold PS.writeE;rw [if_neg hd,if_neg hb,if_neg hmay]
    rw [eB,eE]
    have HA:Hid (Calls Tryz.prog 71 #[.pointer (some ⟨db,0,none⟩)] w fun e w'=>e = .returned (.bool false)∧DiskAt w' F (fun _=>False) db bl bw gL gW s.acted∧Kept F w w'):=hmay' ▸ act_any w h
    clear h eB eE hd hd' hh hb hb' hmay hmay' hl
    go_enter Tryz.func70,Tryz.ntmps70
    go_wp2_with fail
    refine HC.out.mono ?_
    rintro e w' ⟨rfl,rfl⟩
    go_wp2_with fail
    refine HA.out.mono ?_
    rintro e w1 ⟨rfl,hd1,hk1⟩
    go_wp2_with fail
    go_ret
    exact ⟨rfl,F,⟨bl,bw,gL,gW,hd1⟩,fun k hk=>Or.inl hk,hk1⟩
end
end Go.Proofs.YtccphijgcapeoaaGreat
/-
  What the disk's Flush comes to.
-/
namespace Go.Proofs.YtccphijgcapeoaaGreat
open Go.RowKit Go.Maps
section
variable {F:Nat→Prop} {db bl bw:Nat} {gL gW:Ghost} {s:PS}
def FlushL (s:PS) (left:Lit→Bool):Int→List UInt8:=fun i=>if left (.int .i64 i) then s.L i else s.held i
theorem flush_step {s:PS} {left:Lit→Bool} {x:Int} {l:List UInt8} (hx:s.W x=some l) :
 ({s with L:=FlushL s left }).settled x={ s with L:=FlushL s (fun z=>left z && !z.sameKey (.int .i64 x)) }:=by
 unfold PS.settled
 congr 1
 funext j
 show (if j=x then ({ s with L:=FlushL s left }:PS).held x else FlushL s left j)=FlushL s (fun z=>left z && !z.sameKey (.int .i64 x)) j
 by_cases e:j=x
 ·subst e
  rw [if_pos rfl]
  unfold FlushL PS.held
  simp [WideAt.sameKey_self (litKey j),hx]
 ·rw [if_neg e]
  unfold FlushL
  simp [Maps.sameKey_ne (a:=Lit.int .i64 j) (b:=Lit.int .i64 x) (fun e'=>e (by injection e'))]
theorem flush_start {w:World} {es:List (Lit×DataW Value)} (h:DiskAt w F (fun _=>False) db bl bw gL gW s) (hf:∀ i v,vals gW i=some v ↔ (Lit.int .i64 i,DataW.held v)∈es) :
 {s with L:=FlushL s (Maps.has (DataW.map es)) }=s:=by
 have:FlushL s (Maps.has (DataW.map es))=s.L:=by
  funext i
  unfold FlushL
  cases hh:Maps.has (DataW.map es) (.int .i64 i) with
  | true=>rfl
  | false =>
    have hn:gW i=none:=by
     cases hg:gW i with
     | none=>rfl
     | some p =>
       have:(Lit.int .i64 i,DataW.held p.1)∈es:=(hf i p.1).1 (by unfold vals;rw [hg];rfl)
       rw [has_mem (litKey i) this] at hh
       cases hh
    simp only [Bool.false_eq_true,if_false]
    unfold PS.held
    rw [h.sW,hn]
    rfl
 rw [this]
theorem flush_end {s:PS} {left:Lit→Bool} (hl:∀ kl,left kl=false):({ ({ s with L:=FlushL s left }:PS) with W:=fun _=>none }:PS)=s.all:=by
 have:FlushL s left=s.held:=by
  funext i
  unfold FlushL
  rw [hl]
  rfl
 show ({ s with L:=FlushL s left,W:=fun _=>none }:PS)=_
 rw [this]
 rfl
theorem DiskAt.cleared {w w':World} {S:Int→Prop} (h:DiskAt w F S db bl bw gL gW s) (hm:MapAt w' bw (fun _=>none)) (hg:w.grownBy w' (some bw)):DiskAt w' F (fun _=>False) db bl bw gL (fun _=>none) { s with W:=fun _=>none } :=
 h.putW hg hm (fun i v l hi=>by cases hi) (fun i j v l u m k hi=>by cases hi) (fun i j v l u m k _ hi=>by cases hi) (fun i=>rfl)
def FlushRel (w:World) (F:Nat→Prop) (db bl bw:Nat) (gW:Ghost) (s:PS) (r n:Nat) (es:List (Lit×DataW Value)) (wr:World):Prop :=
 ∃ left cnt gL' S,wr.ranges Tryz.prog 3 heldR bw r n (.map es) left cnt∧DiskAt wr F S db bl bw gL' gW { s with L:=FlushL s left }∧Kept F w wr∧(∀ kl,left kl=true→∃ i v,kl = .int .i64 i∧gW i=some v)
theorem flush_any (w:World) (h:Dk w F db s) :
 Calls Tryz.prog 42 #[.pointer (some ⟨db,0,none⟩)] w (Goes w F db s.flushed (.int .i64 s.flushE)):=by
 have H0:=Lib.hid h
 obtain ⟨bl,bw,gL,gW,h⟩:=h
 have c3:=h.cell 3 (v := .bool s.down) rfl
 by_cases hd:s.down=true
 ·rw [hd] at c3
  have eB:s.flushed=s:=by unfold PS.flushed;rw [if_pos hd]
  have eE:s.flushE=40:=by unfold PS.flushE;rw [if_pos hd]
  rw [eB,eE]
  clear h eB eE hd
  go_enter Tryz.func42,Tryz.ntmps42
  go_wp2_with fail
  go_ret
  exact ⟨rfl,F,H0.out,fun k hk=>Or.inl hk,Kept.refl _ _⟩
 ·have hd':s.down=false:=by simpa using hd
  rw [hd'] at c3
  by_cases hmay:s.may=true
  ·have eB:s.flushed=s.acted.all:=by unfold PS.flushed;rw [if_neg hd,if_pos hmay]
   have eE:s.flushE=0:=by unfold PS.flushE;rw [if_neg hd,if_pos hmay]
   rw [eB,eE]
   have HA:Hid (Calls Tryz.prog 71 #[.pointer (some ⟨db,0,none⟩)] w fun e w'=>e = .returned (.bool true)∧DiskAt w' F (fun _=>False) db bl bw gL gW s.acted∧Kept F w w'):=hmay ▸ act_any w h
   clear h eB eE hd hd' hmay H0
   generalize s.acted=s1 at *
   go_enter Tryz.func42,Tryz.ntmps42
   go_wp2_with fail
   refine HA.out.mono ?_
   rintro e w1 ⟨rfl,hd1,hk1⟩
   have c2:=hd1.cell 2 (v := .map (some bw)) rfl
   have HD1:=Lib.hid hd1
   have HK1:=Lib.hid hk1
   obtain ⟨n,es,ho,hk,hf⟩:=hd1.mW
   have HF:=Lib.hid hf
   have HKY:=Lib.hid hk
   have HO:=Lib.hid ho
   clear hd1 hk1 c3 HA hk hf ho
   go_wp2_with (at_range;refine wpList_range_own _ rfl _ 119 rfl 3 115 keyLaw Tryz.underlying119 _ bw n _ rfl HO.out ?_;intro w0 hrg0 hg0 hs0)
   go_frame
   go_loopw [3] (fun _ wr=>FlushRel w1 F db bl bw gW s1 w1.heap.size n es wr) (fun _ wr=>wr.rangeLeft bw w1.heap.size)
   case atStart =>
    have hd0:=HD1.out.same (w':=w0) (fun k hk=>hg0.block k (HD1.out.lt k hk) (by simp)) hg0.size
    refine ⟨_,_,gL,fun _=>False,hrg0,?_,⟨hg0.os,hg0.tape,hg0.output,hg0.size,fun k hk _=>hg0.block k hk (by simp)⟩,fun kl hkl=>?_⟩
    ·rw [flush_start HD1.out HF.out]
     exact hd0
    ·obtain ⟨d,hm⟩:=mem_has hkl
     obtain ⟨i,v,e,_⟩:=HKY.out _ hm
     injection e with e1 e2
     subst e1
     subst e2
     have:=(HF.out i v).2 hm
     unfold vals at this
     obtain ⟨p,hp,_⟩:=Option.map_eq_some_iff.1 this
     exact ⟨i,p,rfl,hp⟩
   case round =>
    obtain ⟨left,cnt,gL',S,hrg,hd2,hk2,hlk0⟩:=hrel
    have c2r:=hd2.cell 2 (v := .map (some bw)) rfl
    have HD2:=Lib.hid hd2
    have HK2:=Lib.hid hk2
    have HLK:=Lib.hid hlk0
    clear hd2 hk2 hlk0 hrg0 hs0 hg0 c2
    go_wp2_with (at_next;refine wpList_next_ranges _ rfl _ rfl 3 keyLaw heldR encZ id (fun key kl hk=>by obtain ⟨x,hx,_⟩:=Maps.keyOf_i64 Tryz.underlying3 hk;exact ⟨x,hx⟩) (fun v _ _=>⟨v,rfl⟩) bw w1.heap.size n _ _ _ rfl hrg ?_ ?_)
    ·intro hc0 hl0
     go_wp2_with (refine wpList_clear_at _ rfl (.tmp 32) rfl bw _ rfl HD2.out.mW ?_;intro w4 hm4 hg4)
     go_ret
     have hd4:=HD2.out.cleared hm4 hg4
     rw [flush_end hl0] at hd4
     exact ⟨rfl,F,hd4.rest,fun k hk=>Or.inl hk,HK1.out.next (HK2.out.next (Kept.grown hg4 HD1.out.fw))⟩
    ·intro x c kl yd yp w2 cnt2 hkey hlk hv hat hrg2 hlt hg2 hs2 hen
     obtain ⟨x',ex,rfl,_⟩:=Maps.keyOf_i64 Tryz.underlying3 hkey
     obtain rfl:x=x':=encZ_inj ex
     obtain ⟨i,p,ei,hp⟩:=HLK.out _ hlk
     obtain rfl:x=i:=by injection ei
     have hd3:=HD2.out.same (w':=w2) (fun k hk=>hg2.block k (HD2.out.lt k hk) (fun e=>by have:=HD1.out.lt k hk;injection e with e;omega)) hg2.size
     obtain ⟨_,_,_,hb1,hb2⟩:=hd3.oW x p.1 p.2 hp
     have hs4:(s1.size:Int)≤4096:=by have:=HD1.out.s4;omega
     have hb3:x<(s1.size:Int):=hb2
     have HD3:=Lib.hid hd3
     have HK3:Hid (Kept F w1 w2):=HK2.out.trans (Kept.grown (F:=(·=w1.heap.size)) hg2 rfl) (fun k e=>Or.inr (by omega))
     clear hs2 hd3 hb2 hkey ei
     go_wp2_with fail
     refine (settle_any w2 x (by omega) (by omega) HD3.out).mono ?_
     rintro e w3 ⟨rfl,gL3,hd4,row,hg3,hrow⟩
     have hne1:some bw≠row:=fun e=>HD1.out.ne (hrow _ e.symm).symm
     have hne2:some w1.heap.size≠row:=fun e=>by have:=hrow _ e.symm;have:=HD1.out.lt _ HD1.out.fl;omega
     have hrg3:=hrg2.kept hg3 hne1 hne2
     have HD4:=Lib.hid hd4
     have HG3:=Lib.hid hg3
     have HRW:=Lib.hid hrow
     clear hd4 hg3 hrow hne1 hne2
     go_wp2_with fail
     go_roundw
     case rel =>
      have hW:s1.W x=some p.2:=by
       have h5:=HD1.out.sW x
       rw [h5,hp]
       rfl
      have h6:=HD4.out
      rw [flush_step hW] at h6
      refine ⟨_,cnt2,gL3,_,hrg3,h6,?_,?_⟩
      ·exact HK3.out.next ⟨HG3.out.os,HG3.out.tape,HG3.out.output,HG3.out.size,fun k hk hn=>HG3.out.block k hk (fun e=>hn (by rw [HRW.out k e.symm];exact HD1.out.fl))⟩
      ·intro kl hkl
       exact HLK.out kl (by simp only [Bool.and_eq_true] at hkl;exact hkl.1)
     case measure=>rw [hrg3.left_eq,hrg.left_eq];exact hlt
  ·have hmay':s.may=false:=by simpa using hmay
   have eB:s.flushed=s.acted:=by unfold PS.flushed;rw [if_neg hd,if_neg hmay]
   have eE:s.flushE=40:=by unfold PS.flushE;rw [if_neg hd,if_neg hmay]
   rw [eB,eE]
   have HA:Hid (Calls Tryz.prog 71 #[.pointer (some ⟨db,0,none⟩)] w fun e w'=>e = .returned (.bool false)∧DiskAt w' F (fun _=>False) db bl bw gL gW s.acted∧Kept F w w'):=hmay' ▸ act_any w h
   clear h eB eE hd hd' hmay hmay' H0
   go_enter Tryz.func42,Tryz.ntmps42
   go_wp2_with fail
   refine HA.out.mono ?_
   rintro e w1 ⟨rfl,hd1,hk1⟩
   go_wp2_with fail
   go_ret
   exact ⟨rfl,F,⟨bl,bw,gL,gW,hd1⟩,fun k hk=>Or.inl hk,hk1⟩
end
end Go.Proofs.YtccphijgcapeoaaGreat
/-
  Numbers in memory, outside of a disk.
-/
namespace Go.Proofs.YtccphijgcapeoaaGreat
open Go.RowKit
def OutN (w:World) (F:Nat→Prop) (A:Option Addr) (l:List Int):Prop :=
 l=[]∨∃ b off,A=some ⟨b,off,none⟩∧¬ F b∧∀ i z,l[i]?=some z→w.cell? ⟨b,off+i,none⟩=some (.int .i64 z) ∧ -9223372036854775808≤z∧z≤9223372036854775807
section
variable {w w':World} {F F':Nat→Prop} {A:Option Addr} {l:List Int}
theorem OutN.at_ (h:OutN w F A l) {k:Nat} (hk:k<l.length) :
 ∃ b off z,A=some ⟨b,off,none⟩∧l[k]?=some z∧w.cell? ⟨b,off+k,none⟩=some (.int .i64 z) ∧ -9223372036854775808≤z∧z≤9223372036854775807:=by
 rcases h with rfl | ⟨b,off,rfl,hb,hc⟩
 ·exact absurd hk (by simp)
 ·obtain ⟨h1,h2⟩:=hc k _ (List.getElem?_eq_getElem hk)
  exact ⟨b,off,l[k],rfl,List.getElem?_eq_getElem hk,h1,h2⟩
end
end Go.Proofs.YtccphijgcapeoaaGreat
/-
  A disk in the midst of a law: what lies outside of it stays.
-/
namespace Go.Proofs.YtccphijgcapeoaaGreat
open Go.RowKit Go.Maps
structure Live (W:World) (F:Nat→Prop) (w:World) (db:Nat) (s:PS):Prop where
 dk:Dk w F db s
 base:∀ k,F k→W.heap.size≤k
 below:Below W.heap.size W w
structure Moves (w:World) (F:Nat→Prop) (w':World) (F':Nat→Prop):Prop where
 kept:Kept F w w'
 news:∀ k,F' k→F k∨w.heap.size≤k
section
variable {W w w' w2:World} {F F' F2:Nat→Prop} {db:Nat} {s s':PS}
theorem Dk.lt (h:Dk w F db s):∀ k,F k→k<w.heap.size:=by
 obtain ⟨bl,bw,gL,gW,h⟩:=h
 exact h.lt
theorem Dk.ok (h:Dk w F db s):s.Ok:=by
 obtain ⟨bl,bw,gL,gW,h⟩:=h
 exact h.ok
theorem Dk.s4 (h:Dk w F db s):s.size≤4096:=by
 obtain ⟨bl,bw,gL,gW,h⟩:=h
 exact h.s4
theorem Moves.trans (h:Moves w F w' F') (k:Moves w' F' w2 F2):Moves w F w2 F2 :=
 ⟨h.kept.trans k.kept h.news,fun j hj=>by
  rcases k.news j hj with h1 | h1
  ·exact h.news j h1
  ·exact Or.inr (Nat.le_trans h.kept.size h1)⟩
theorem Moves.of_below (h:Below w.heap.size w w'):Moves w F w' F:=⟨Kept.below h F,fun _ hk=>Or.inl hk⟩
theorem Moves.out {A:Option Addr} {l:List UInt8} (h:Moves w F w' F') (o:Out w F A l):Out w' F' A l:=by
 rcases l with _ | ⟨y,l⟩
 ·exact Or.inl rfl
 ·rcases o with o | ⟨b,off,e,hb,hc⟩
  ·cases o
  ·have hlt:b<w.heap.size:=World.block_lt_of_cell? _ _ (hc 0 y rfl)
   refine Or.inr ⟨b,off,e,fun h'=>?_,fun i z hz=>(World.cell?_of_block (w:=w) (h.kept.block b hlt hb)).trans (hc i z hz)⟩
   rcases h.news b h' with h' | h'
   ·exact hb h'
   ·omega
theorem Moves.block (h:Moves w F w' F') {b:Nat} (hb:b<w.heap.size) (hF:¬ F b):w'.heap[b]?=w.heap[b]?∧¬ F' b :=
 ⟨h.kept.block b hb hF,fun h'=>by
  rcases h.news b h' with h' | h'
  ·exact hF h'
  ·omega⟩
theorem Live.le (h:Live W F w db s):W.heap.size≤w.heap.size:=h.below.size
end
section
variable {W:World} {F:Nat→Prop} {db:Nat} {s:PS}
def LMade (W w:World) (n:Nat) (e:Ending) (w':World):Prop :=
 ∃ db F,e = .returned (.tuple #[.pointer (some ⟨db,0,none⟩),.int .i64 0])∧Live W F w' db (PS.new n)∧Below w.heap.size w w'∧∀ k,F k→w.heap.size≤k
theorem new_live (w:World) (n:Nat) (h2:2≤n) (h4:n≤4096) (hb:Below W.heap.size W w):Calls Tryz.prog 32 #[.int .i64 n] w (LMade W w n) :=
 (new_good w n h2 h4).mono fun _ _ ⟨db,F,he,hd,hF,hb'⟩=>⟨db,F,he,⟨hd,fun k hk=>Nat.le_trans hb.size (hF k hk),hb.trans (hb'.mono hb.size)⟩,hb',hF⟩
end
theorem PS.written_size (s:PS) (n:Int) (l:List UInt8):(s.written n l).size=s.size:=by
 unfold PS.written
 split
 ·rfl
 ·split
  ·rfl
  ·split
   ·exact PS.acted_size s
   ·exact PS.acted_size s
theorem PS.flushed_size (s:PS):s.flushed.size=s.size:=by
 unfold PS.flushed
 split
 ·rfl
 ·split
  ·exact PS.acted_size s
  ·exact PS.acted_size s
end Go.Proofs.YtccphijgcapeoaaGreat
/-
  What is meant by a list of ints in memory, and by one of one's own.
-/
namespace Go.Proofs.YtccphijgcapeoaaGreat
open Go.RowKit
theorem intInfo:(Tryz.prog.info? 3).map (fun i=>(i.zero,i.size,i.bytes))=some (some (.int .i64 0),1,8):=by kernel_rfl
def Ints (w:World) (A:Option Addr) (zs:List Int):Prop :=
 zs=[]∨∃ b off,A=some ⟨b,off,none⟩∧∀ i z,zs[i]?=some z→w.cell? ⟨b,off+i,none⟩=some (.int .i64 z)
theorem Ints.below {w w':World} {A:Option Addr} {zs:List Int} (h:Ints w A zs) (hb:Below w.heap.size w w'):Ints w' A zs:=by
 rcases h with rfl | ⟨b,off,rfl,hc⟩
 ·exact Or.inl rfl
 ·refine Or.inr ⟨b,off,rfl,fun i z hz=>?_⟩
  have h0:=hc i z hz
  have hlt:b<w.heap.size:=World.block_lt_of_cell? _ _ h0
  exact (hb.cell (p:=⟨b,_,none⟩) hlt).trans h0
theorem Ints.at_ {w:World} {A:Option Addr} {zs:List Int} (h:Ints w A zs) {k:Nat} (hk:k<zs.length) :
 ∃ b off z,A=some ⟨b,off,none⟩∧zs[k]?=some z∧w.cell? ⟨b,off+k,none⟩=some (.int .i64 z):=by
 rcases h with rfl | ⟨b,off,rfl,hc⟩
 ·exact absurd hk (by simp)
 ·exact ⟨b,off,zs[k],rfl,List.getElem?_eq_getElem hk,hc k _ (List.getElem?_eq_getElem hk)⟩
def intVals (zs:List Int):List Value:=zs.map (Value.int .i64)
end Go.Proofs.YtccphijgcapeoaaGreat
/-
  The plain clock: what each call answers, and how it stands behind it. Nothing here names the program.
-/
namespace Go.Proofs.YtccphijgcapeoaaGreat
structure CS where
 n:Nat
 p:Nat→Nat
 u:Nat→Bool
 h:Nat
namespace CS
def new (n:Nat):CS:=⟨n,fun _=>0,fun _=>false,0⟩
def has (s:CS) (i:Int):Bool:=decide (0≤i∧i<(s.n:Int))
def setU (s:CS) (i:Nat) (b:Bool):CS:={ s with u:=fun j=>if j=i then b else s.u j }
def setP (s:CS) (i k:Nat):CS:={ s with p:=fun j=>if j=i then k else s.p j }
def useE (s:CS) (i:Int):Int:=if s.has i then 0 else 1
def useS (s:CS) (i:Int):CS:=if s.has i then s.setU i.toNat true else s
def pinS (s:CS) (i:Int):CS:=if s.has i then s.setP i.toNat (s.p i.toNat+1) else s
def un (s:CS) (i:Int):Bool:=s.has i && s.p i.toNat != 0
def next (s:CS):CS:={ s with h:=(s.h+1) % s.n }
def go:Nat→CS→Option (Nat×CS)
 | 0,_=>none
 | k+1,s=>if s.p s.h=0 then (if s.u s.h then go k (s.setU s.h false).next else some (s.h,s.next)) else go k s.next
def free (s:CS):Bool:=(List.range s.n).any fun j=>s.p j==0
def way (s:CS):Option (Nat×CS):=if s.free then go (2*s.n) s else none
def vicI (s:CS):Int:=match s.way with | some r=>r.1 | none=>0
def vicE (s:CS):Int:=match s.way with | some _=>0 | none=>60
def vicS (s:CS):CS:=match s.way with | some r=>r.2 | none=>s
def pinsL (s:CS):List Int:=(List.range s.n).map fun j=>(s.p j:Int)
def usedL (s:CS):List Bool:=(List.range s.n).map s.u
theorem free_iff (s:CS):s.free=true ↔ ∃ j,j<s.n∧s.p j=0:=by
 unfold free
 rw [List.any_eq_true]
 constructor
 ·rintro ⟨j,hj,h⟩
  exact ⟨j,List.mem_range.1 hj,by simpa using h⟩
 ·rintro ⟨j,hj,h⟩
  exact ⟨j,List.mem_range.2 hj,by simpa using h⟩
theorem mod_next {h n:Nat} (hh:h<n):(h+1) % n=if h+1=n then 0 else h+1:=by
 split
 ·rename_i e
  rw [e,Nat.mod_self]
 ·exact Nat.mod_eq_of_lt (by omega)
def at_ (s:CS) (d:Nat):Nat:=if s.h+d<s.n then s.h+d else s.h+d - s.n
theorem next_h {s:CS} (hh:s.h<s.n):s.next.h=if s.h+1=s.n then 0 else s.h+1:=mod_next hh
theorem next_lt {s:CS} (hh:s.h<s.n):s.next.h<s.next.n:=Nat.mod_lt _ (by show 0<s.n;omega)
theorem next_at {s:CS} (hh:s.h<s.n) {d:Nat} (hd:d+1<s.n):s.next.at_ d=s.at_ (d+1):=by
 unfold at_
 rw [next_h hh]
 show (if (if s.h+1=s.n then 0 else s.h+1)+d<s.n then _ else _)=_
 by_cases e:s.h+1=s.n
 ·rw [if_pos e,if_pos (by omega),if_neg (by omega)]
  omega
 ·rw [if_neg e]
  by_cases h2:s.h+1+d<s.n
  ·rw [if_pos h2,if_pos (by omega)]
   omega
  ·rw [if_neg h2,if_neg (by omega)]
   show s.h+1+d - s.n=_
   omega
theorem at_zero {s:CS} (hh:s.h<s.n):s.at_ 0=s.h:=by
 unfold at_
 rw [if_pos (by omega)]
 omega
theorem at_ne {s:CS} {d:Nat} (h0:0<d) (hd:d<s.n):s.at_ d≠s.h:=by
 unfold at_
 split<;>omega
theorem go_more:∀ (k:Nat) (s:CS) (r:Nat×CS),go k s=some r→go (k+1) s=some r
 | 0,_,_,h=>by cases h
 | k+1,s,r,h=>by
   rw [go] at h ⊢
   split
   ·rename_i h1
    rw [if_pos h1] at h
    split
    ·rename_i h2
     rw [if_pos h2] at h
     exact go_more k _ r h
    ·rename_i h2
     rw [if_neg h2] at h
     exact h
   ·rename_i h1
    rw [if_neg h1] at h
    exact go_more k _ r h
theorem go_le {k m:Nat} {s:CS} {r:Nat×CS} (h:go k s=some r) (hm:k≤m):go m s=some r:=by
 obtain ⟨d,rfl⟩:∃ d,m=k+d:=⟨m - k,by omega⟩
 induction d with
 | zero=>exact h
 | succ d ih=>exact go_more _ _ _ (ih (by omega))
theorem go_fresh:∀ (d:Nat) (s:CS),s.h<s.n→d<s.n→s.p (s.at_ d)=0→s.u (s.at_ d)=false→∃ r,go (d+1) s=some r
 | 0,s,hh,_,h1,h2=>by
   rw [at_zero hh] at h1 h2
   rw [go,if_pos h1,if_neg (by rw [h2];decide)]
   exact ⟨_,rfl⟩
 | d+1,s,hh,hd,h1,h2=>by
   rw [go]
   split
   ·split
    ·refine go_fresh d (s.setU s.h false).next (next_lt (s:=s.setU s.h false) hh) (by show d<s.n;omega) ?_ ?_
     ·rw [next_at (s:=s.setU s.h false) hh (by show d+1<s.n;omega)]
      exact h1
     ·rw [next_at (s:=s.setU s.h false) hh (by show d+1<s.n;omega)]
      show (if s.at_ (d+1)=s.h then false else s.u (s.at_ (d+1)))=false
      rw [if_neg (at_ne (by omega) hd)]
      exact h2
    ·exact ⟨_,rfl⟩
   ·refine go_fresh d s.next (next_lt hh) (by show d<s.n;omega) ?_ ?_
    ·rw [next_at hh (by omega)]
     exact h1
    ·rw [next_at hh (by omega)]
     exact h2
theorem at_last {s:CS} (hh:s.h<s.n):s.next.at_ (s.n - 1)=s.h:=by
 unfold at_
 rw [next_h hh]
 show (if (if s.h+1=s.n then 0 else s.h+1)+(s.n - 1)<s.n then _ else (if s.h+1=s.n then 0 else s.h+1)+(s.n - 1) - s.n)=_
 by_cases e:s.h+1=s.n
 ·rw [if_pos e,if_pos (by omega)]
  omega
 ·rw [if_neg e,if_neg (by omega)]
  omega
theorem go_free:∀ (d:Nat) (s:CS),s.h<s.n→d<s.n→s.p (s.at_ d)=0→∃ r,go (d+1+s.n) s=some r
 | 0,s,hh,_,h1=>by
   have h0:=at_zero hh
   rw [h0] at h1
   rw [Nat.add_right_comm,go,if_pos h1]
   split
   ·have:=go_fresh (s.n - 1) (s.setU s.h false).next (next_lt (s:=s.setU s.h false) hh) (by show s.n - 1<s.n;omega) (by
     rw [show (s.setU s.h false).next.at_ (s.n - 1)=s.h from at_last (s:=s.setU s.h false) hh]
     exact h1) (by
     rw [show (s.setU s.h false).next.at_ (s.n - 1)=s.h from at_last (s:=s.setU s.h false) hh]
     show (if s.h=s.h then false else _)=false
     rw [if_pos rfl])
    rw [show s.n - 1+1=0+s.n by omega] at this
    exact this
   ·exact ⟨_,rfl⟩
 | d+1,s,hh,hd,h1=>by
   rw [show d+1+1+s.n=(d+1+s.n)+1 by omega,go]
   split
   ·split
    ·refine go_free d (s.setU s.h false).next (next_lt (s:=s.setU s.h false) hh) (by show d<s.n;omega) ?_
     rw [next_at (s:=s.setU s.h false) hh (by show d+1<s.n;omega)]
     exact h1
    ·exact ⟨_,rfl⟩
   ·refine go_free d s.next (next_lt hh) (by show d<s.n;omega) ?_
    rw [next_at hh (by omega)]
    exact h1
theorem at_of {s:CS} (hh:s.h<s.n) {j:Nat} (hj:j<s.n):∃ d,d<s.n∧s.at_ d=j:=by
 by_cases h:s.h≤j
 ·refine ⟨j - s.h,by omega,?_⟩
  unfold at_
  rw [if_pos (by omega)]
  omega
 ·refine ⟨j+s.n - s.h,by omega,?_⟩
  unfold at_
  rw [if_neg (by omega)]
  omega
theorem go_ends {s:CS} (hh:s.h<s.n) (hf:s.free=true):∃ r,go (2*s.n) s=some r:=by
 obtain ⟨j,hj,h0⟩:=(free_iff s).1 hf
 obtain ⟨d,hd,rfl⟩:=at_of hh hj
 obtain ⟨r,hr⟩:=go_free d s hh hd h0
 exact ⟨r,go_le hr (by omega)⟩
structure Went (s:CS) (r:Nat×CS):Prop where
 lt:r.1<s.n
 p0:s.p r.1=0
 n_:r.2.n=s.n
 p_:r.2.p=s.p
 h_:r.2.h=(r.1+1) % s.n
 u_:∀ j,r.2.u j=true→s.u j=true
theorem go_went:∀ (k:Nat) (s:CS) (r:Nat×CS),s.h<s.n→go k s=some r→Went s r
 | 0,_,_,_,h=>by cases h
 | k+1,s,r,hh,h=>by
   rw [go] at h
   split at h
   ·rename_i h1
    split at h
    ·have g:=go_went k _ r (next_lt (s:=s.setU s.h false) hh) h
     refine ⟨g.lt,g.p0,g.n_,g.p_,g.h_,fun j hj=>?_⟩
     have:=g.u_ j hj
     have h2:(if j=s.h then false else s.u j)=true:=this
     split at h2
     ·cases h2
     ·exact h2
    ·obtain rfl:=Option.some.inj h
     exact ⟨hh,h1,rfl,rfl,rfl,fun _ hj=>hj⟩
   ·have g:=go_went k _ r (next_lt hh) h
    exact ⟨g.lt,g.p0,g.n_,g.p_,g.h_,g.u_⟩
theorem way_of {s:CS} (hh:s.h<s.n) (hf:s.free=true):∃ r,s.way=some r∧go (2*s.n) s=some r∧Went s r:=by
 obtain ⟨r,hr⟩:=go_ends hh hf
 refine ⟨r,?_,hr,go_went _ _ _ hh hr⟩
 unfold way
 rw [if_pos hf]
 exact hr
theorem way_no {s:CS} (hf:s.free=false):s.way=none:=by
 unfold way
 rw [if_neg (by rw [hf];decide)]
theorem vic_of {s:CS} {r:Nat×CS} (h:s.way=some r):s.vicI=r.1∧s.vicE=0∧s.vicS=r.2:=by
 unfold vicI vicE vicS
 rw [h]
 exact ⟨rfl,rfl,rfl⟩
theorem vic_no {s:CS} (h:s.free=false):s.vicI=0∧s.vicE=60∧s.vicS=s:=by
 unfold vicI vicE vicS
 rw [way_no h]
 exact ⟨rfl,rfl,rfl⟩
theorem useS_n (s:CS) (i:Int):(s.useS i).n=s.n:=by unfold useS;split<;>rfl
theorem vicS_n {s:CS} (hh:s.h<s.n):s.vicS.n=s.n:=by
 cases hf:s.free with
 | false=>rw [(vic_no hf).2.2]
 | true =>
   obtain ⟨r,hw,_,g⟩:=way_of hh hf
   rw [(vic_of hw).2.2,g.n_]
end CS
end Go.Proofs.YtccphijgcapeoaaGreat
/-
  What is meant by a clock in memory.
-/
namespace Go.Proofs.YtccphijgcapeoaaGreat
open Go.RowKit
def plc (s:CS) (k:Nat):Value:=if k % 2=0 then .int .i64 (s.p (k / 2)) else .bool (s.u (k / 2))
theorem plc_p (s:CS) (i:Nat):plc s (i*2) = .int .i64 (s.p i):=by
 unfold plc
 rw [if_pos (by omega),show i*2 / 2=i by omega]
theorem plc_u (s:CS) (i:Nat):plc s (i*2+1) = .bool (s.u i):=by
 unfold plc
 rw [if_neg (by omega),show (i*2+1) / 2=i by omega]
theorem plc_setU (s:CS) (i:Nat) (b:Bool) (k:Nat):(if k=i*2+1 then Value.bool b else plc s k)=plc (s.setU i b) k:=by
 unfold plc CS.setU
 by_cases e:k=i*2+1
 ·subst e
  rw [if_pos rfl,if_neg (by omega)]
  show _=Value.bool (if (i*2+1) / 2=i then b else _)
  rw [if_pos (by omega)]
 ·rw [if_neg e]
  by_cases h:k % 2=0
  ·rw [if_pos h,if_pos h]
  ·rw [if_neg h,if_neg h]
   show _=Value.bool (if k / 2=i then b else _)
   rw [if_neg (by omega)]
theorem plc_setP (s:CS) (i m:Nat) (k:Nat):(if k=i*2 then Value.int .i64 m else plc s k)=plc (s.setP i m) k:=by
 unfold plc CS.setP
 by_cases e:k=i*2
 ·subst e
  rw [if_pos rfl,if_pos (by omega)]
  show _=Value.int .i64 ((if i*2 / 2=i then m else _:Nat):Int)
  rw [if_pos (by omega)]
 ·rw [if_neg e]
  by_cases h:k % 2=0
  ·rw [if_pos h,if_pos h]
   show _=Value.int .i64 ((if k / 2=i then m else _:Nat):Int)
   rw [if_neg (by omega)]
  ·rw [if_neg h,if_neg h]
structure ClkAt (w:World) (db pb:Nat) (s:CS):Prop where
 str:w.heap[db]?=some (.cells #[.slice (some ⟨pb,0,none⟩) s.n s.n,.int .i64 s.h] 150 (0,0))
 row:w.rowIs pb 249 (s.n*2) (plc s)
 n1:1≤s.n
 n2:s.n≤1000
 hn:s.h<s.n
 top:∀ j,s.p j≤9223372036854775807
def Two (db pb:Nat) (k:Nat):Prop:=k=db∨k=pb
section
variable {w w':World} {db pb:Nat} {s:CS}
theorem place_clock:(249:TypeId)≠150:=by decide
theorem ClkAt.ne (h:ClkAt w db pb s):pb≠db:=by
 intro e
 subst e
 obtain ⟨c,hb,_⟩:=h.row
 have:=h.str
 rw [hb] at this
 injection this with this
 injection this with _ this
 exact place_clock this
theorem ClkAt.lt (h:ClkAt w db pb s):db<w.heap.size∧pb<w.heap.size:=by
 refine ⟨?_,h.row.lt⟩
 obtain ⟨hlt,_⟩:=Array.getElem?_eq_some_iff.1 h.str
 exact hlt
theorem ClkAt.c0 (h:ClkAt w db pb s):w.cell? ⟨db,0,none⟩=some (.slice (some ⟨pb,0,none⟩) s.n s.n):=(cell_of_row w db 0 _ _ _ h.str).trans rfl
theorem ClkAt.c1 (h:ClkAt w db pb s):w.cell? ⟨db,1,none⟩=some (.int .i64 s.h):=(cell_of_row w db 1 _ _ _ h.str).trans rfl
theorem ClkAt.f (h:ClkAt w db pb s) (j:Nat):w.frozen? ⟨db,j,none⟩=false:=frozen_of_row w db j _ _ h.str
theorem ClkAt.cp (h:ClkAt w db pb s) {i:Nat} (hi:i<s.n):w.cell? ⟨pb,i*2,none⟩=some (.int .i64 (s.p i)):=by
 rw [h.row.cell (by omega),plc_p]
theorem ClkAt.cu (h:ClkAt w db pb s) {i:Nat} (hi:i<s.n):w.cell? ⟨pb,i*2+1,none⟩=some (.bool (s.u i)):=by
 rw [h.row.cell (by omega),plc_u]
theorem ClkAt.same (h:ClkAt w db pb s) (e1:w'.heap[db]?=w.heap[db]?) (e2:w'.heap[pb]?=w.heap[pb]?):ClkAt w' db pb s :=
 ⟨e1.trans h.str,h.row.of_block e2,h.n1,h.n2,h.hn,h.top⟩
theorem ClkAt.below (h:ClkAt w db pb s) (hb:Below w.heap.size w w'):ClkAt w' db pb s:=h.same (hb.block _ h.lt.1) (hb.block _ h.lt.2)
theorem ClkAt.kept {G:Nat→Prop} (h:ClkAt w db pb s) (hk:Kept G w w') (h1:¬ G db) (h2:¬ G pb):ClkAt w' db pb s :=
 h.same (hk.block _ h.lt.1 h1) (hk.block _ h.lt.2 h2)
theorem ClkAt.setU (h:ClkAt w db pb s) {i:Nat} (b:Bool):ClkAt (w.setCell ⟨pb,i*2+1,none⟩ (.bool b)) db pb (s.setU i b) :=
 ⟨(Below.heap_setCell _ _ _ _ h.ne.symm).trans h.str,(h.row.set (i*2+1) (.bool b)).congr (fun k _=>plc_setU s i b k),h.n1,h.n2,h.hn,h.top⟩
theorem ClkAt.setP (h:ClkAt w db pb s) {i m:Nat} (hm:m≤9223372036854775807):ClkAt (w.setCell ⟨pb,i*2,none⟩ (.int .i64 (m:Int))) db pb (s.setP i m) :=
 ⟨(Below.heap_setCell _ _ _ _ h.ne.symm).trans h.str,(h.row.set (i*2) (.int .i64 (m:Int))).congr (fun k _=>plc_setP s i m k),h.n1,h.n2,h.hn,fun j=>by
   show (if j=i then m else s.p j)≤_
   have:=h.top j
   split<;>omega⟩
theorem ClkAt.setH (h:ClkAt w db pb s) {m:Nat} (hm:m<s.n):ClkAt (w.setCell ⟨db,1,none⟩ (.int .i64 (m:Int))) db pb { s with h:=m } :=
 ⟨by rw [Joins.block_setCell h.str];rfl,h.row.setOther h.ne _,h.n1,h.n2,hm,h.top⟩
theorem Kept.two_db (w:World) {j:Nat} (v:Value):Kept (Two db pb) w (w.setCell ⟨db,j,none⟩ v):=Kept.setCell w (a:=⟨db,j,none⟩) (Or.inl rfl) v
theorem Kept.two_pb (w:World) {j:Nat} (v:Value):Kept (Two db pb) w (w.setCell ⟨pb,j,none⟩ v):=Kept.setCell w (a:=⟨pb,j,none⟩) (Or.inr rfl) v
end
def CGoes (w:World) (db pb:Nat) (s':CS) (v:Value) (e:Ending) (w':World):Prop :=
 e = .returned v∧ClkAt w' db pb s'∧Kept (Two db pb) w w'
end Go.Proofs.YtccphijgcapeoaaGreat
/-
  What the clock's calls come to: at, Use, Pin, Unpin, Hand.
-/
namespace Go.Proofs.YtccphijgcapeoaaGreat
open Go.RowKit
section
variable {db pb:Nat} {s:CS}
theorem at_yes (w:World) (k:Nat) (hk:k<s.n) (h:ClkAt w db pb s) :
 Calls Tryz.prog 182 #[.pointer (some ⟨db,0,none⟩),.int .i64 k] w fun e w'=>e = .returned (.pointer (some ⟨pb,k*2,none⟩))∧w=w':=by
 have c0:=h.c0
 have hn:=h.n2
 clear h
 go_enter Tryz.func182,Tryz.ntmps182
 go_wp2_with fail
 go_ret
 exact ⟨rfl,rfl⟩
theorem at_no (w:World) (i:Int) (hi:s.has i=false) (h:ClkAt w db pb s) :
 Calls Tryz.prog 182 #[.pointer (some ⟨db,0,none⟩),.int .i64 i] w fun e w'=>e = .returned (.pointer none)∧w=w':=by
 have c0:=h.c0
 have hn:=h.n2
 clear h
 unfold CS.has at hi
 rw [decide_eq_false_iff_not] at hi
 by_cases h0:i<0
 ·clear hi
  go_enter Tryz.func182,Tryz.ntmps182
  go_wp2_with fail
  go_ret
  exact ⟨rfl,rfl⟩
 ·have h1:(s.n:Int)≤i:=by omega
  clear hi
  go_enter Tryz.func182,Tryz.ntmps182
  go_wp2_with fail
  go_ret
  exact ⟨rfl,rfl⟩
theorem CS.has_nat {i:Int} (h:s.has i=true):∃ k:Nat,i=k∧k<s.n:=by
 unfold CS.has at h
 have:=of_decide_eq_true h
 exact ⟨i.toNat,by omega,by omega⟩
theorem use_any (w:World) (i:Int) (h:ClkAt w db pb s) :
 Calls Tryz.prog 148 #[.pointer (some ⟨db,0,none⟩),.int .i64 i] w (CGoes w db pb (s.useS i) (.int .i64 (s.useE i))):=by
 have H:=Lib.hid h
 clear h
 cases hh:s.has i with
 | true =>
   obtain ⟨k,rfl,hk⟩:=CS.has_nat hh
   have HK:=Lib.hid hk
   have f:=(H.out.row).frozen (k*2+1)
   have c:=H.out.cu hk
   rw [show s.useS (k:Int)=s.setU k true by unfold CS.useS;rw [if_pos hh];rfl,show s.useE (k:Int)=0 by unfold CS.useE;rw [if_pos hh]]
   clear hh hk
   go_enter Tryz.func148,Tryz.ntmps148
   go_wp2_with fail
   refine (at_yes _ k HK.out H.out).mono ?_
   rintro e w' ⟨rfl,rfl⟩
   go_wp2_with fail
   go_ret
   exact ⟨rfl,H.out.setU true,Kept.two_pb _ _⟩
 | false =>
   rw [show s.useS i=s by unfold CS.useS;rw [if_neg (by rw [hh];decide)],show s.useE i=1 by unfold CS.useE;rw [if_neg (by rw [hh];decide)]]
   have HH:=Lib.hid hh
   clear hh
   go_enter Tryz.func148,Tryz.ntmps148
   go_wp2_with fail
   refine (at_no _ i HH.out H.out).mono ?_
   rintro e w' ⟨rfl,rfl⟩
   go_wp2_with fail
   go_ret
   exact ⟨rfl,H.out,Kept.refl _ _⟩
theorem pinned_any (w:World) (n:Nat) (b:Bool) :
 Calls Tryz.prog 202 #[.agg #[.int .i64 n,.bool b]] w fun e w'=>e = .returned (.bool (n != 0))∧Below w.heap.size w w':=by
 rcases Nat.eq_zero_or_pos n with h0 | h0
 ·subst h0
  go_enter Tryz.func202,Tryz.ntmps202
  go_wp2_with fail
  go_ret
  exact ⟨rfl,below_one _ _⟩
 ·have hb:(n != 0)=true:=by rw [bne_iff_ne];omega
  rw [hb]
  clear hb
  go_enter Tryz.func202,Tryz.ntmps202
  go_wp2_with fail
  go_ret
  exact ⟨rfl,below_one _ _⟩
theorem hand_any (w:World) (h:ClkAt w db pb s) :
 Calls Tryz.prog 199 #[.pointer (some ⟨db,0,none⟩)] w fun e w'=>e = .returned (.int .i64 s.h)∧w=w':=by
 have c:=h.c1
 clear h
 go_enter Tryz.func199,Tryz.ntmps199
 go_wp2_with fail
 go_ret
 exact ⟨rfl,rfl⟩
end
end Go.Proofs.YtccphijgcapeoaaGreat
