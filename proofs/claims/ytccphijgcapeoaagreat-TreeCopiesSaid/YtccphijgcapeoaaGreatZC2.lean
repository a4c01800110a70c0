/-
  A part of the proof: what its texts say stands at the head of each. Conditions: none.
-/
import Derived.Test.YtccphijgcapeoaaGreatZC1

set_option maxRecDepth 20000
set_option maxHeartbeats 12800000
/-
  The plain lists of pages: what each call answers, and what becomes of them. Nothing here names the program.
-/
namespace Go.Proofs.YtccphijgcapeoaaGreat
structure SS where
 hi:Int
 fr:List Int
 pe:List (Int×Int)
namespace SS
def none:SS:=⟨0,[],[]⟩
def may (s:SS) (p:Int):Bool:=decide (2≤p∧p<s.hi)
def known (s:SS) (p:Int):Bool:=decide (p∈s.fr) || decide (p∈s.pe.map (·.2))
def last (s:SS):Int:=(s.pe.getLast?.map (·.1)).getD 0
structure Fine (s:SS) (top:Int):Prop where
 lo:2≤s.hi
 hi:s.hi≤top
 up:s.fr.Pairwise (·<·)
 inF:∀ p∈s.fr,2≤p∧p<s.hi
 ups:s.pe.Pairwise (fun x y=>x.1≤y.1)
 pos:∀ x∈s.pe,0≤x.1
 inP:∀ x∈s.pe,2≤x.2∧x.2<s.hi
 out:∀ x∈s.pe,x.2 ∉ s.fr
 once:(s.pe.map (·.2)).Nodup
open Classical in
noncomputable def check (s:SS) (top:Int):Int:=if Fine s top then 0 else 80
def ins (p:Int):List Int→List Int
 | []=>[p]
 | x::l=>if x<p then x::ins p l else p::x::l
def take (s:SS) (top:Int):Int×Int×SS :=
 match s.fr with
 | p::l=>(0,p,{ s with fr:=l })
 | []=>if s.hi<top then (0,s.hi,{ s with hi:=s.hi+1 }) else (81,0,none)
def giveBad (s:SS) (e p:Int):Bool := !s.may p || s.known p || decide (e<0) || decide (e<s.last)
def give (s:SS) (e p:Int):Int×SS:=if s.giveBad e p then (1,none) else (0,{ s with pe:=s.pe++[(e,p)] })
def backBad (s:SS) (p:Int):Bool := !s.may p || s.known p
def back (s:SS) (p:Int):Int×SS:=if s.backBad p then (1,none) else (0,{ s with fr:=ins p s.fr })
def count (e:Int):Nat→List (Int×Int)→Nat
 | 0,_=>0
 | _+1,[]=>0
 | b+1,x::l=>if x.1≤e then count e b l+1 else 0
def cut (m:Nat):Nat→List Int→List (List Int)
 | 0,_=>[]
 | g+1,l=>if l=[] then [] else l.take m::cut m g (l.drop m)
theorem ins_mem (p q:Int):∀ l,q∈ins p l ↔ q=p∨q∈l
 | []=>by simp [ins]
 | x::l=>by
   unfold ins
   split
   ·rw [List.mem_cons,ins_mem p q l,List.mem_cons]
    constructor
    ·rintro (h | h | h)
     ·exact Or.inr (Or.inl h)
     ·exact Or.inl h
     ·exact Or.inr (Or.inr h)
    ·rintro (h | h | h)
     ·exact Or.inr (Or.inl h)
     ·exact Or.inl h
     ·exact Or.inr (Or.inr h)
   ·rw [List.mem_cons]
theorem ins_length (p:Int):∀ l,(ins p l).length=l.length+1
 | []=>rfl
 | x::l=>by
   unfold ins
   split
   ·rw [List.length_cons,ins_length p l,List.length_cons]
   ·rfl
theorem ins_up (p:Int):∀ l,l.Pairwise (·<·)→p ∉ l→(ins p l).Pairwise (·<·)
 | [],_,_=>by simp [ins]
 | x::l,h,hp=>by
   obtain ⟨h1,h2⟩:=List.pairwise_cons.1 h
   have hx:p≠x:=fun e=>hp (by simp [e])
   have hl:p ∉ l:=fun e=>hp (by simp [e])
   unfold ins
   split
   ·rename_i hlt
    refine List.pairwise_cons.2 ⟨fun y hy=>?_,ins_up p l h2 hl⟩
    rcases (ins_mem p y l).1 hy with e | e
    ·omega
    ·exact h1 y e
   ·rename_i hlt
    refine List.pairwise_cons.2 ⟨fun y hy=>?_,h⟩
    rcases List.mem_cons.1 hy with e | e
    ·omega
    ·have:=h1 y e
     omega
theorem known_iff (s:SS) (p:Int):s.known p=true ↔ p∈s.fr∨p∈s.pe.map (·.2):=by
 unfold known
 simp
theorem known_no {s:SS} {p:Int} (h:s.known p=false):p ∉ s.fr∧p ∉ s.pe.map (·.2):=by
 refine ⟨fun e=>?_,fun e=>?_⟩
 ·rw [(s.known_iff p).2 (Or.inl e)] at h
  cases h
 ·rw [(s.known_iff p).2 (Or.inr e)] at h
  cases h
section
variable {s:SS} {top:Int}
theorem check_ok (h:Fine s top):s.check top=0:=by unfold check;rw [if_pos h]
theorem check_bad (h:¬ Fine s top):s.check top=80:=by unfold check;rw [if_neg h]
theorem Fine.take (h:Fine s top) (he:(s.take top).1=0) :
 Fine (s.take top).2.2 top∧(s.take top).2.2.known (s.take top).2.1=false∧2≤(s.take top).2.1∧(s.take top).2.1<(s.take top).2.2.hi ∧
 ((s.take top).2.2.hi=s.hi∧(s.take top).2.2.fr.length+1=s.fr.length∨(s.take top).2.2.hi=s.hi+1∧s.fr=[]∧(s.take top).2.2.fr=[])∧(s.take top).2.2.pe=s.pe:=by
 unfold SS.take at he ⊢
 cases hf:s.fr with
 | cons p l =>
   have h1:=h.up
   have h2:=h.inF
   have h3:=h.out
   rw [hf] at h1 h2 h3
   obtain ⟨u1,u2⟩:=List.pairwise_cons.1 h1
   simp only
   refine ⟨⟨h.lo,h.hi,u2,fun q hq=>h2 q (by simp [hq]),h.ups,h.pos,h.inP,fun x hx e=>h3 x hx (by simp [e]),h.once⟩,?_,(h2 p (by simp)).1,(h2 p (by simp)).2,Or.inl ⟨trivial,by simp⟩,trivial⟩
   cases hk:SS.known { s with fr:=l } p with
   | false=>rfl
   | true =>
     rcases (SS.known_iff _ p).1 hk with e | e
     ·have:=u1 p e
      omega
     ·obtain ⟨x,hx,hxp⟩:=List.mem_map.1 e
      exact absurd (show x.2∈p::l by rw [hxp];simp) (h3 x hx)
 | nil =>
   rw [hf] at he
   simp only at he ⊢
   by_cases hlt:s.hi<top
   ·have hlo:=h.lo
    rw [if_pos hlt]
    refine ⟨⟨by show 2≤s.hi+1;omega,by show s.hi+1≤top;omega,List.Pairwise.nil,fun q hq=>(by cases hq),h.ups,h.pos,fun x hx=>?_,fun x _ hq=>(by cases hq),h.once⟩,?_,hlo,by show s.hi<s.hi+1;omega,Or.inr ⟨rfl,trivial,rfl⟩,rfl⟩
    ·have:=h.inP x hx
     show 2≤x.2∧x.2<s.hi+1
     omega
    ·show SS.known ⟨s.hi+1,[],s.pe⟩ s.hi=false
     cases hk:SS.known ⟨s.hi+1,[],s.pe⟩ s.hi with
     | false=>rfl
     | true =>
       rcases (SS.known_iff _ s.hi).1 hk with e | e
       ·cases e
       ·obtain ⟨x,hx,hxp⟩:=List.mem_map.1 e
        have:=h.inP x hx
        omega
   ·rw [if_neg hlt] at he
    cases he
theorem Fine.give (h:Fine s top) {e p:Int} (hb:s.giveBad e p=false):Fine { s with pe:=s.pe++[(e,p)] } top:=by
 unfold giveBad at hb
 simp only [Bool.or_eq_false_iff,Bool.not_eq_false',decide_eq_false_iff_not] at hb
 obtain ⟨⟨⟨b1,b2⟩,b3⟩,b4⟩:=hb
 obtain ⟨k1,k2⟩:=known_no b2
 have b1':2≤p∧p<s.hi:=of_decide_eq_true b1
 have hl:∀ x∈s.pe,x.1≤e:=fun x hx=>by
  unfold SS.last at b4
  have hne:s.pe≠[]:=List.ne_nil_of_mem hx
  rw [List.getLast?_eq_some_getLast hne] at b4
  simp only [Option.map_some,Option.getD_some] at b4
  have:x.1≤(s.pe.getLast hne).1:=by
   obtain ⟨i,hi,rfl⟩:=List.mem_iff_getElem.1 hx
   rw [List.getLast_eq_getElem]
   by_cases e1:i=s.pe.length - 1
   ·subst e1
    exact Int.le_refl _
   ·exact List.pairwise_iff_getElem.1 h.ups i (s.pe.length - 1) hi (by omega) (by omega)
  omega
 refine ⟨h.lo,h.hi,h.up,h.inF,?_,fun x hx=>?_,fun x hx=>?_,fun x hx=>?_,?_⟩
 ·refine List.pairwise_append.2 ⟨h.ups,by simp,fun x hx y hy=>?_⟩
  obtain rfl:y=(e,p):=by simpa using hy
  exact hl x hx
 ·rcases List.mem_append.1 hx with e1 | e1
  ·exact h.pos x e1
  ·obtain rfl:x=(e,p):=by simpa using e1
   show 0≤e
   omega
 ·rcases List.mem_append.1 hx with e1 | e1
  ·exact h.inP x e1
  ·obtain rfl:x=(e,p):=by simpa using e1
   exact b1'
 ·rcases List.mem_append.1 hx with e1 | e1
  ·exact h.out x e1
  ·obtain rfl:x=(e,p):=by simpa using e1
   exact k1
 ·rw [List.map_append]
  refine List.nodup_append.2 ⟨h.once,by simp,fun x hx y hy=>?_⟩
  obtain rfl:y=p:=by simpa using hy
  exact fun e1=>k2 (by rw [← e1];exact hx)
theorem Fine.back (h:Fine s top) {p:Int} (hb:s.backBad p=false):Fine { s with fr:=ins p s.fr } top:=by
 unfold backBad at hb
 simp only [Bool.or_eq_false_iff,Bool.not_eq_false'] at hb
 obtain ⟨k1,k2⟩:=known_no hb.2
 have b1:2≤p∧p<s.hi:=of_decide_eq_true hb.1
 refine ⟨h.lo,h.hi,ins_up p _ h.up k1,fun q hq=>?_,h.ups,h.pos,h.inP,fun x hx e=>?_,h.once⟩
 ·rcases (ins_mem p q _).1 hq with e | e
  ·rw [e]
   exact b1
  ·exact h.inF q e
 ·rcases (ins_mem p x.2 _).1 e with e1 | e1
  ·exact k2 (List.mem_map.2 ⟨x,hx,e1⟩)
  ·exact h.out x hx e1
end
end SS
end Go.Proofs.YtccphijgcapeoaaGreat
/-
  The plain tree: what each of its calls answers, and what it leaves. Nothing here names the program.
-/
namespace Go.Proofs.YtccphijgcapeoaaGreat
def ND.sameB (a b:ND):Bool:=a.leaf==b.leaf && (a.keys==b.keys && (a.vals==b.vals && a.kids==b.kids))
theorem ND.sameB_iff (a b:ND):a.sameB b=true ↔ a=b:=by
 obtain ⟨l,k,v,c⟩:=a
 obtain ⟨l',k',v',c'⟩:=b
 simp [ND.sameB]
theorem ND.sameB_no {a b:ND} (h:a≠b):a.sameB b=false:=by
 cases hb:a.sameB b with
 | false=>rfl
 | true=>exact absurd ((ND.sameB_iff a b).1 hb) h
structure TS where
 rt:Int
 ht:Nat
 ct:Int
 sp:SS
 ep:Int
 fr:Int→Bool
 lost:Int
 nd:Int→Option ND
 z:Nat
namespace TS
structure St where
 pg:Int
 nd:ND
 kid:Nat
def St.at_ (s:St):Int×ND:=(s.pg,s.nd)
def setB (f:Int→Bool) (p:Int) (b:Bool):Int→Bool:=fun q=>if q=p then b else f q
def setN (f:Int→Option ND) (p:Int) (n:ND):Int→Option ND:=fun q=>if q=p then some n else f q
def nodeAt (nd:Int→Option ND) (p:Int) (leaf:Bool):Option ND:=match nd p with
 | some n=>if n.leaf=leaf then some n else none
 | none=>none
def wayL (nd:Int→Option ND) (key:List UInt8):Nat→Int→Option (List St)
 | 0,_=>some []
 | 1,p=>match nodeAt nd p true with
   | none=>none
   | some n=>some [⟨p,n,0⟩]
 | h+2,p=>match nodeAt nd p false with
   | none=>none
   | some n=>(wayL nd key (h+1) (n.kids.getD (ND.kidN key n.keys) 0)).map (⟨p,n,ND.kidN key n.keys⟩::·)
def empty:ND:=⟨true,[],[],[]⟩
def way (t:TS) (key:List UInt8):Option (List St):=if t.ht=0 then some [⟨0,empty,0⟩] else wayL t.nd key t.ht t.rt
def tk (t:TS):Int×Int×TS :=
 if (t.sp.take t.z).1=0 then (0,(t.sp.take t.z).2.1,{ t with sp:=(t.sp.take t.z).2.2,fr:=setB t.fr (t.sp.take t.z).2.1 true }) else ((t.sp.take t.z).1,0,t)
def gone (t:TS) (p:Int):Int×SS:=if t.fr p then t.sp.back p else t.sp.give t.ep p
def rel (t:TS) (p:Int):Int×TS:=if (t.gone p).1=0 then (0,{ t with sp:=(t.gone p).2,fr:=setB t.fr p false }) else ((t.gone p).1,t)
def renew (t:TS) (p:Int):Int×Int×TS :=
 if t.fr p then (0,p,t) else if p=0 then t.tk else if (t.rel p).1=0 then (t.rel p).2.tk else ((t.rel p).1,0,(t.rel p).2)
def wr (t:TS) (was:Int×ND) (n:ND):Int×Int×TS :=
 if was.2.sameB n then (0,was.1,t) else if (t.renew was.1).1=0 then
  (if n.encE=0 then (0,(t.renew was.1).2.1,{ (t.renew was.1).2.2 with nd:=setN (t.renew was.1).2.2.nd (t.renew was.1).2.1 n }) else (121,0,(t.renew was.1).2.2))
 else ((t.renew was.1).1,0,(t.renew was.1).2.2)
def relAll (t:TS):List (Int×ND)→Int×TS
 | []=>(0,t)
 | l::r=>if (t.rel l.1).1=0 then relAll (t.rel l.1).2 r else t.rel l.1
def first (old:List (Int×ND)):Int×ND:=old.headD (0,ND.zero)
def wrAll (t:TS) (old:List (Int×ND)):List ND→Int×List Int×TS
 | []=>(0,[],t)
 | n::ns =>
   if (t.wr (first old) n).1=0 then
    (if (wrAll (t.wr (first old) n).2.2 old.tail ns).1=0 then (0,(t.wr (first old) n).2.1::(wrAll (t.wr (first old) n).2.2 old.tail ns).2.1,(wrAll (t.wr (first old) n).2.2 old.tail ns).2.2)
    else ((wrAll (t.wr (first old) n).2.2 old.tail ns).1,[],(wrAll (t.wr (first old) n).2.2 old.tail ns).2.2))
   else ((t.wr (first old) n).1,[],(t.wr (first old) n).2.2)
def lay (t:TS) (old:List (Int×ND)) (ns:List ND):Int×List Int×TS :=
 if (t.relAll (old.drop ns.length)).1=0 then (t.relAll (old.drop ns.length)).2.wrAll old ns else ((t.relAll (old.drop ns.length)).1,[],(t.relAll (old.drop ns.length)).2)
def partsN (n:ND):List ND:=if n.size≤1000 then [n] else [n.splitL,n.splitR]
def partsK (n:ND):List (List UInt8):=if n.size≤1000 then [] else [n.splitK]
def fin (t:TS) (up:ND) (from_:Nat) (old:List (Int×ND)) (n:ND):Int×ND×TS :=
 if (t.lay old (partsN n)).1=0 then (0,up.replace from_ (from_+old.length:Nat) (t.lay old (partsN n)).2.1 (partsK n),(t.lay old (partsN n)).2.2) else ((t.lay old (partsN n)).1,ND.zero,(t.lay old (partsN n)).2.2)
def kidOf (t:TS) (up:ND) (i:Nat):ND:=(t.nd (up.kids.getD i 0)).getD ND.zero
def settle (t:TS) (up:ND) (i:Nat) (was:Int×ND) (n:ND):Int×ND×TS :=
 if n.size<300 then
  (if i<up.keys.length then t.fin up i [was,(up.kids.getD (i+1) 0,t.kidOf up (i+1))] (n.join (up.keys.getD i []) (t.kidOf up (i+1)))
  else t.fin up (i - 1) [(up.kids.getD (i - 1) 0,t.kidOf up (i - 1)),was] ((t.kidOf up (i - 1)).join (up.keys.getD (i - 1) []) n))
 else t.fin up i [was] n
def above (t:TS) (n:ND) (pages:List Int) (h:Nat):Int×TS :=
 if 1<pages.length then
  (if (t.lay [] [⟨false,partsK n,[],pages⟩]).1=0 then (0,{ (t.lay [] [⟨false,partsK n,[],pages⟩]).2.2 with rt:=(t.lay [] [⟨false,partsK n,[],pages⟩]).2.1.getD 0 0,ht:=h+1 })
  else ((t.lay [] [⟨false,partsK n,[],pages⟩]).1,(t.lay [] [⟨false,partsK n,[],pages⟩]).2.2))
 else (0,{ t with rt:=pages.getD 0 0,ht:=h })
def plant (t:TS) (was:Int×ND) (n:ND) (h:Nat):Int×TS :=
 if n.keys.length=0 then { t with rt:=if n.leaf then 0 else n.kids.getD 0 0,ht:=h - 1 }.rel was.1
 else if (t.lay [was] (partsN n)).1=0 then (t.lay [was] (partsN n)).2.2.above n (t.lay [was] (partsN n)).2.1 h
 else ((t.lay [was] (partsN n)).1,(t.lay [was] (partsN n)).2.2)
def climb (t:TS) (h:Nat):List St→ND→Int×TS
 | [],_=>(0,t)
 | [s],n=>if s.nd.sameB n then (0,t) else t.plant s.at_ n h
 | s::u::r,n=>if s.nd.sameB n then (0,t) else
   if (t.settle u.nd u.kid s.at_ n).1=0 then climb (t.settle u.nd u.kid s.at_ n).2.2 h (u::r) (t.settle u.nd u.kid s.at_ n).2.1
   else ((t.settle u.nd u.kid s.at_ n).1,(t.settle u.nd u.kid s.at_ n).2.2)
def last (l:List St):ND:=(l.getLast?.map St.nd).getD empty
def change (t:TS) (key:List UInt8) (f:ND→ND):Int×TS:=match t.way key with
 | none=>(121,t)
 | some l=>t.climb l.length l.reverse (f (last l))
def told (t:TS) (e:Int):TS:={ t with lost:=e }
def get (t:TS) (key:List UInt8):List UInt8×Bool×Int×TS :=
 if t.lost≠0 then ([],false,t.lost,t) else match t.way key with
 | none=>([],false,121,t.told 121)
 | some l=>if ND.isAt key (last l).keys then ((last l).vals.getD (ND.findN key (last l).keys) [],true,0,t) else ([],false,0,t)
def badE (key val:List UInt8):Bool:=decide (key.length<1) || (decide (120<key.length) || decide (100<val.length))
def hasK (t:TS) (key:List UInt8):Bool:=match t.way key with
 | none=>false
 | some l=>ND.isAt key (last l).keys
def put (t:TS) (key val:List UInt8):Int×TS :=
 if t.lost≠0 then (t.lost,t) else if badE key val then (120,t) else
 if (t.change key (fun n=>n.put key val)).1=0 then (0,{ (t.change key (fun n=>n.put key val)).2 with ct:=if t.hasK key then (t.change key (fun n=>n.put key val)).2.ct else (t.change key (fun n=>n.put key val)).2.ct+1 })
 else ((t.change key (fun n=>n.put key val)).1,(t.change key (fun n=>n.put key val)).2.told (t.change key (fun n=>n.put key val)).1)
def del (t:TS) (key:List UInt8):Bool×Int×TS :=
 if t.lost≠0 then (false,t.lost,t) else
 if (t.change key (fun n=>n.remove key)).1=0 then (t.hasK key,0,{ (t.change key (fun n=>n.remove key)).2 with ct:=if t.hasK key then (t.change key (fun n=>n.remove key)).2.ct - 1 else (t.change key (fun n=>n.remove key)).2.ct })
 else (false,(t.change key (fun n=>n.remove key)).1,(t.change key (fun n=>n.remove key)).2.told (t.change key (fun n=>n.remove key)).1)
end TS
end Go.Proofs.YtccphijgcapeoaaGreat
/-
  The plain tree's pages: each has one use, whatever is taken, given and written. Nothing here names the program.
-/
namespace Go.Proofs.YtccphijgcapeoaaGreat
namespace TS
structure Acc (O:List Int) (nd0:Int→Option ND) (t:TS) (L:List Int):Prop where
 fine:SS.Fine t.sp t.z
 once:L.Nodup
 inL:∀ p∈L,2≤p∧p<t.sp.hi∧p ∉ t.sp.fr∧p ∉ t.sp.pe.map (·.2)
 all:(L.length:Int)+t.sp.fr.length+t.sp.pe.length+2=t.sp.hi
 late:∀ x∈t.sp.pe,x.1≤t.ep
 ep0:0≤t.ep
 own:∀ p∈L,t.fr p=true∨p∈O
 pend:∀ x∈t.sp.pe,x.2∈O
 old:∀ p∈O,t.fr p=false∧(p∈L∨p∈t.sp.pe.map (·.2))∧t.nd p=nd0 p
 fresh:∀ p,t.fr p=true→2≤p∧p<t.z
def used (t:TS) (L:List Int):Nat:=L.length+t.sp.pe.length
section
variable {O:List Int} {nd0:Int→Option ND} {t:TS} {L L':List Int} {p:Int}
theorem Acc.perm (h:Acc O nd0 t L) (hp:L.Perm L'):Acc O nd0 t L' :=
 ⟨h.fine,hp.nodup_iff.1 h.once,fun q hq=>h.inL q (hp.mem_iff.2 hq),by rw [← hp.length_eq];exact h.all,h.late,h.ep0,fun q hq=>h.own q (hp.mem_iff.2 hq),h.pend,fun q hq=>by
  obtain ⟨a,b,c⟩:=h.old q hq
  exact ⟨a,b.imp (fun e=>hp.mem_iff.1 e) id,c⟩,h.fresh⟩
theorem Acc.top (h:Acc O nd0 t L) (hp:p∈L):2≤p∧p<t.z:=by
 have:=h.inL p hp
 have:=h.fine.hi
 omega
theorem last_le {s:SS} {e:Int} (h0:0≤e) (h:∀ x∈s.pe,x.1≤e):s.last≤e:=by
 unfold SS.last
 cases hl:s.pe.getLast? with
 | none=>simpa using h0
 | some x =>
   have:=h x (List.mem_of_getLast? hl)
   simpa using this
theorem may_of {s:SS} (h:2≤p∧p<s.hi):s.may p=true:=decide_eq_true h
theorem known_of {s:SS} (h1:p ∉ s.fr) (h2:p ∉ s.pe.map (·.2)):s.known p=false:=by
 unfold SS.known
 rw [decide_eq_false h1,decide_eq_false h2]
 rfl
theorem take_nil {s:SS} {top:Int} (h:s.fr=[]):s.take top=if s.hi<top then (0,s.hi,{ s with hi:=s.hi+1 }) else (81,0,SS.none):=by
 obtain ⟨hi,fr,pe⟩:=s
 dsimp only at h
 subst h
 rfl
theorem Acc.tk (h:Acc O nd0 t L):(t.tk=(81,0,t)∧t.z≤t.used L+2) ∨
 ∃ q s',t.tk=(0,q,{ t with sp:=s',fr:=setB t.fr q true })∧Acc O nd0 { t with sp:=s',fr:=setB t.fr q true } (q::L)∧s'.pe=t.sp.pe:=by
 have ht:=h.fine.take
 unfold TS.tk
 rcases hf:t.sp.fr with _ | ⟨q,l⟩
 ·by_cases hlt:t.sp.hi<t.z
  ·have e1:t.sp.take t.z=(0,t.sp.hi,{ t.sp with hi:=t.sp.hi+1 }):=by
    rw [take_nil hf,if_pos hlt]
   rw [e1] at ht ⊢
   obtain ⟨g1,g2,g3,g4,g5,g6⟩:=ht rfl
   refine Or.inr ⟨t.sp.hi,_,rfl,?_,rfl⟩
   have hn:t.sp.hi ∉ L:=fun e=>by have:=h.inL _ e;omega
   refine ⟨g1,List.nodup_cons.2 ⟨hn,h.once⟩,fun x hx=>?_,?_,h.late,h.ep0,fun x hx=>?_,h.pend,fun x hx=>?_,fun x hx=>?_⟩
   ·rcases List.mem_cons.1 hx with rfl | hx
    ·refine ⟨g3,g4,?_,?_⟩
     ·show t.sp.hi ∉ t.sp.fr
      rw [hf]
      simp
     ·exact (SS.known_no g2).2
    ·have:=h.inL x hx
     exact ⟨this.1,by show x<t.sp.hi+1;omega,this.2.2⟩
   ·have:=h.all
    show ((t.sp.hi::L).length:Int)+t.sp.fr.length+t.sp.pe.length+2=t.sp.hi+1
    rw [List.length_cons]
    omega
   ·rcases List.mem_cons.1 hx with rfl | hx
    ·left
     exact if_pos rfl
    ·rcases h.own x hx with e | e
     ·left
      show (if x=t.sp.hi then true else t.fr x)=true
      rw [e]
      split<;>rfl
     ·exact Or.inr e
   ·obtain ⟨a,b,c⟩:=h.old x hx
    have hne:x≠t.sp.hi:=fun e=>by
     subst e
     rcases b with b | b
     ·exact hn b
     ·exact (SS.known_no g2).2 b
    exact ⟨(if_neg hne).trans a,b.imp (fun e=>List.mem_cons_of_mem _ e) id,c⟩
   ·change (if x=t.sp.hi then true else t.fr x)=true at hx
    by_cases hne:x=t.sp.hi
    ·subst hne
     exact ⟨g3,hlt⟩
    ·rw [if_neg hne] at hx
     exact h.fresh x hx
  ·left
   have e1:t.sp.take t.z=(81,0,SS.none):=by
    rw [take_nil hf,if_neg hlt]
   rw [e1]
   refine ⟨rfl,?_⟩
   have:=h.all
   rw [hf] at this
   unfold used
   simp only [List.length_nil] at this
   omega
 ·have e1:t.sp.take t.z=(0,q,{ t.sp with fr:=l }):=by
   unfold SS.take
   rw [hf]
  rw [e1] at ht ⊢
  obtain ⟨g1,g2,g3,g4,g5,g6⟩:=ht rfl
  refine Or.inr ⟨q,_,rfl,?_,rfl⟩
  have hq:q∈t.sp.fr:=by rw [hf];simp
  have hn:q ∉ L:=fun e=>(h.inL _ e).2.2.1 hq
  refine ⟨g1,List.nodup_cons.2 ⟨hn,h.once⟩,fun x hx=>?_,?_,h.late,h.ep0,fun x hx=>?_,h.pend,fun x hx=>?_,fun x hx=>?_⟩
  ·rcases List.mem_cons.1 hx with rfl | hx
   ·exact ⟨g3,g4,(SS.known_no g2).1,(SS.known_no g2).2⟩
   ·have:=h.inL x hx
    refine ⟨this.1,this.2.1,fun e=>this.2.2.1 ?_,this.2.2.2⟩
    rw [hf]
    exact List.mem_cons_of_mem _ e
  ·have:=h.all
   rw [hf] at this
   show ((q::L).length:Int)+l.length+t.sp.pe.length+2=t.sp.hi
   rw [List.length_cons] at this ⊢
   omega
  ·rcases List.mem_cons.1 hx with rfl | hx
   ·left
    exact if_pos rfl
   ·rcases h.own x hx with e | e
    ·left
     show (if x=q then true else t.fr x)=true
     rw [e]
     split<;>rfl
    ·exact Or.inr e
  ·obtain ⟨a,b,c⟩:=h.old x hx
   have hne:x≠q:=fun e=>by
    subst e
    rcases b with b | b
    ·exact hn b
    ·exact (SS.known_no g2).2 b
   exact ⟨(if_neg hne).trans a,b.imp (fun e=>List.mem_cons_of_mem _ e) id,c⟩
  ·change (if x=q then true else t.fr x)=true at hx
   by_cases hne:x=q
   ·subst hne
    have h1:=h.fine.inF x hq
    have h2:=h.fine.hi
    exact ⟨h1.1,by show x<(t.z:Int);omega⟩
   ·rw [if_neg hne] at hx
    exact h.fresh x hx
theorem Acc.rel (h:Acc O nd0 t (p::L)):∃ s',t.rel p=(0,{ t with sp:=s',fr:=setB t.fr p false })∧Acc O nd0 { t with sp:=s',fr:=setB t.fr p false } L∧L.length+s'.pe.length≤t.used (p::L):=by
 obtain ⟨n1,n2⟩:=List.nodup_cons.1 h.once
 obtain ⟨i1,i2,i3,i4⟩:=h.inL p (by simp)
 have hm:=may_of (s:=t.sp) ⟨i1,i2⟩
 have hk:=known_of (s:=t.sp) i3 i4
 have hall:=h.all
 rw [List.length_cons] at hall
 unfold TS.rel gone used
 have hset:∀ x,x≠p→setB t.fr p false x=t.fr x:=fun x hx=>if_neg hx
 have hfr:∀ x,setB t.fr p false x=true→t.fr x=true:=fun x hx=>by
  by_cases e:x=p
  ·subst e
   have:setB t.fr x false x=false:=if_pos rfl
   rw [this] at hx
   cases hx
  ·rw [hset x e] at hx
   exact hx
 cases hp:t.fr p with
 | true =>
   have hb:t.sp.backBad p=false:=by unfold SS.backBad;rw [hm,hk];rfl
   have e1:t.sp.back p=(0,{ t.sp with fr:=SS.ins p t.sp.fr }):=by
    unfold SS.back
    rw [hb]
    rfl
   rw [if_pos rfl,e1]
   refine ⟨_,rfl,?_,by simp⟩
   refine ⟨h.fine.back hb,n2,fun x hx=>?_,?_,h.late,h.ep0,fun x hx=>?_,h.pend,fun x hx=>?_,fun x hx=>h.fresh x (hfr x hx)⟩
   ·obtain ⟨a,b,c,d⟩:=h.inL x (by simp [hx])
    refine ⟨a,b,fun e=>?_,d⟩
    rcases (SS.ins_mem p x _).1 e with e | e
    ·subst e
     exact n1 hx
    ·exact c e
   ·show (L.length:Int)+(SS.ins p t.sp.fr).length+t.sp.pe.length+2=t.sp.hi
    rw [SS.ins_length]
    omega
   ·have hne:x≠p:=fun e=>n1 (e ▸ hx)
    have:=h.own x (by simp [hx])
    rcases this with e | e
    ·exact Or.inl ((hset x hne).trans e)
    ·exact Or.inr e
   ·obtain ⟨a,b,c⟩:=h.old x hx
    have hne:x≠p:=fun e=>by rw [e,hp] at a;cases a
    refine ⟨(hset x hne).trans a,?_,c⟩
    rcases b with b | b
    ·rcases List.mem_cons.1 b with b | b
     ·exact absurd b hne
     ·exact Or.inl b
    ·exact Or.inr b
 | false =>
   have hO:p∈O:=by
    rcases h.own p (by simp) with e | e
    ·rw [hp] at e
     cases e
    ·exact e
   have hl:=last_le h.ep0 h.late
   have hb:t.sp.giveBad t.ep p=false:=by
    unfold SS.giveBad
    rw [hm,hk,decide_eq_false (by have:=h.ep0;omega),decide_eq_false (by omega)]
    rfl
   have e1:t.sp.give t.ep p=(0,{ t.sp with pe:=t.sp.pe++[(t.ep,p)] }):=by
    unfold SS.give
    rw [hb]
    rfl
   rw [if_neg (show ¬ (false=true) by decide),e1]
   refine ⟨_,rfl,?_,by have e:(t.sp.pe++[(t.ep,p)]).length=t.sp.pe.length+1:=by simp
                       show L.length+(t.sp.pe++[(t.ep,p)]).length≤(p::L).length+t.sp.pe.length
                       rw [e,List.length_cons]
                       omega⟩
   refine ⟨h.fine.give hb,n2,fun x hx=>?_,?_,fun x hx=>?_,h.ep0,fun x hx=>?_,fun x hx=>?_,fun x hx=>?_,fun x hx=>h.fresh x (hfr x hx)⟩
   ·obtain ⟨a,b,c,d⟩:=h.inL x (by simp [hx])
    refine ⟨a,b,c,fun e=>?_⟩
    change x∈(t.sp.pe++[(t.ep,p)]).map (·.2) at e
    rw [List.map_append,List.mem_append] at e
    rcases e with e | e
    ·exact d e
    ·have:x=p:=by simpa using e
     exact n1 (this ▸ hx)
   ·show (L.length:Int)+t.sp.fr.length+(t.sp.pe++[(t.ep,p)]).length+2=t.sp.hi
    rw [List.length_append]
    simp only [List.length_cons,List.length_nil]
    omega
   ·rcases List.mem_append.1 hx with e | e
    ·exact h.late x e
    ·have:x=(t.ep,p):=by simpa using e
     rw [this]
     exact Int.le_refl _
   ·have hne:x≠p:=fun e=>n1 (e ▸ hx)
    have:=h.own x (by simp [hx])
    rcases this with e | e
    ·exact Or.inl ((hset x hne).trans e)
    ·exact Or.inr e
   ·rcases List.mem_append.1 hx with e | e
    ·exact h.pend x e
    ·have:x=(t.ep,p):=by simpa using e
     rw [this]
     exact hO
   ·obtain ⟨a,b,c⟩:=h.old x hx
    refine ⟨?_,?_,c⟩
    ·show (if x=p then false else t.fr x)=false
     rw [a]
     split<;>rfl
    ·rcases b with b | b
     ·rcases List.mem_cons.1 b with b | b
      ·subst b
       right
       show x∈(t.sp.pe++[(t.ep,x)]).map (·.2)
       simp
      ·exact Or.inl b
     ·right
      show x∈(t.sp.pe++[(t.ep,p)]).map (·.2)
      rw [List.map_append]
      exact List.mem_append.2 (Or.inl b)
structure Did (O:List Int) (nd0:Int→Option ND) (t:TS) (L:List Int) (k:Nat) (t':TS) (L':List Int):Prop where
 acc:Acc O nd0 t' L'
 used:t'.used L'≤t.used L+k
 z_:t'.z=t.z
 ep_:t'.ep=t.ep
 ct_:t'.ct=t.ct
 lost_:t'.lost=t.lost
 rt_:t'.rt=t.rt
 ht_:t'.ht=t.ht
def Full (t:TS) (L:List Int) (k:Nat) (e:Int):Prop:=e=81∧t.z≤t.used L+2+k
theorem Full.up {k k':Nat} {e:Int} (h:Full t L k e) (hk:k≤k'):Full t L k' e:=⟨h.1,by have:=h.2;omega⟩
theorem Did.up {k k':Nat} {t':TS} (h:Did O nd0 t L k t' L') (hk:k≤k'):Did O nd0 t L k' t' L':=⟨h.acc,by have:=h.used;omega,h.z_,h.ep_,h.ct_,h.lost_,h.rt_,h.ht_⟩
theorem Did.full {k k':Nat} {t':TS} {e:Int} (h:Did O nd0 t L k t' L') (f:Full t' L' k' e):Full t L (k+k') e:=⟨f.1,by
 have:=h.used
 have:=f.2
 have:=h.z_
 omega⟩
theorem Did.trans {k k':Nat} {t' t'':TS} {L'':List Int} (h:Did O nd0 t L k t' L') (g:Did O nd0 t' L' k' t'' L''):Did O nd0 t L (k+k') t'' L'' :=
 ⟨g.acc,by have:=h.used;have:=g.used;omega,g.z_.trans h.z_,g.ep_.trans h.ep_,g.ct_.trans h.ct_,g.lost_.trans h.lost_,g.rt_.trans h.rt_,g.ht_.trans h.ht_⟩
theorem Did.perm {k:Nat} {t':TS} {M M':List Int} (h:Did O nd0 t L k t' L') (hp:L.Perm M) (hq:L'.Perm M'):Did O nd0 t M k t' M' :=
 ⟨h.acc.perm hq,by have:=h.used;unfold TS.used at *;rw [← hp.length_eq,← hq.length_eq];exact this,h.z_,h.ep_,h.ct_,h.lost_,h.rt_,h.ht_⟩
theorem Full.perm {k:Nat} {e:Int} {M:List Int} (h:Full t L k e) (hp:L.Perm M):Full t M k e:=⟨h.1,by have:=h.2;unfold TS.used at *;rw [← hp.length_eq];exact this⟩
theorem Did.refl (h:Acc O nd0 t L):Did O nd0 t L 0 t L:=⟨h,Nat.le_refl _,rfl,rfl,rfl,rfl,rfl,rfl⟩
theorem Acc.take_did (h:Acc O nd0 t L):(t.tk=(81,0,t)∧Full t L 0 81)∨∃ q t',t.tk=(0,q,t')∧Did O nd0 t L 1 t' (q::L)∧t'.nd=t.nd∧t'.fr q=true:=by
 rcases h.tk with ⟨e,h1⟩ | ⟨q,s',e,h1,h2⟩
 ·exact Or.inl ⟨e,rfl,h1⟩
 ·refine Or.inr ⟨q,_,e,⟨h1,?_,rfl,rfl,rfl,rfl,rfl,rfl⟩,rfl,if_pos rfl⟩
  unfold TS.used
  rw [show ({ t with sp:=s',fr:=setB t.fr q true }:TS).sp.pe=t.sp.pe from h2,List.length_cons]
  omega
theorem Acc.rel_did (h:Acc O nd0 t (p::L)):∃ t',t.rel p=(0,t')∧Did O nd0 t (p::L) 0 t' L∧t'.nd=t.nd:=by
 obtain ⟨s',e,h1,h2⟩:=h.rel
 exact ⟨_,e,⟨h1,h2,rfl,rfl,rfl,rfl,rfl,rfl⟩,rfl⟩
theorem Acc.renew (h:Acc O nd0 t (p::L)):(∃ t',t.renew p=(81,0,t')∧Full t (p::L) 0 81)∨∃ q t',t.renew p=(0,q,t')∧Did O nd0 t (p::L) 1 t' (q::L)∧t'.nd=t.nd∧t'.fr q=true:=by
 unfold TS.renew
 cases hp:t.fr p with
 | true=>exact Or.inr ⟨p,t,if_pos rfl,(Did.refl h).up (by omega),rfl,hp⟩
 | false =>
   have h0:p≠0:=by have:=h.inL p (by simp);omega
   rw [if_neg (by decide),if_neg h0]
   obtain ⟨t1,e1,d1,n1⟩:=h.rel_did
   rw [e1,if_pos rfl]
   rcases d1.acc.take_did with ⟨e2,f⟩ | ⟨q,t2,e2,d2,n2,f2⟩
   ·exact Or.inl ⟨t1,e2,d1.full f⟩
   ·exact Or.inr ⟨q,t2,e2,d1.trans d2,n2.trans n1,f2⟩
theorem Acc.renew0 (h:Acc O nd0 t L):(∃ t',t.renew 0=(81,0,t')∧Full t L 0 81)∨∃ q t',t.renew 0=(0,q,t')∧Did O nd0 t L 1 t' (q::L)∧t'.nd=t.nd∧t'.fr q=true:=by
 have h0:t.fr 0=false:=by
  cases hf:t.fr 0 with
  | false=>rfl
  | true=>have:=h.fresh 0 hf;omega
 unfold TS.renew
 rw [h0,if_neg (by decide),if_pos rfl]
 rcases h.take_did with ⟨e2,f⟩ | ⟨q,t2,e2,d2,n2,f2⟩
 ·exact Or.inl ⟨t,e2,f⟩
 ·exact Or.inr ⟨q,t2,e2,d2,n2,f2⟩
theorem Acc.write (h:Acc O nd0 t (p::L)) (hf:t.fr p=true) (n:ND):Acc O nd0 { t with nd:=setN t.nd p n } (p::L) :=
 ⟨h.fine,h.once,h.inL,h.all,h.late,h.ep0,h.own,h.pend,fun q hq=>by
  obtain ⟨a,b,c⟩:=h.old q hq
  have hne:q≠p:=fun e=>by rw [e,hf] at a;cases a
  exact ⟨a,b,(if_neg hne).trans c⟩,h.fresh⟩
structure Wrote (O:List Int) (nd0:Int→Option ND) (t:TS) (M L:List Int) (n:ND) (q:Int) (t':TS):Prop where
 did:Did O nd0 t M 1 t' (q::L)
 here:t'.nd q=some n
 else_:∀ x,x≠q→t'.nd x=t.nd x
theorem Acc.wr (h:Acc O nd0 t (p::L)) {o n:ND} (ho:t.nd p=some o) (hn:n.encE=0):(∃ t',t.wr (p,o) n=(81,0,t')∧Full t (p::L) 0 81)∨∃ q t',t.wr (p,o) n=(0,q,t')∧Wrote O nd0 t (p::L) L n q t':=by
 unfold TS.wr
 by_cases hs:o.sameB n=true
 ·have:=(ND.sameB_iff o n).1 hs
  subst this
  exact Or.inr ⟨p,t,if_pos hs,(Did.refl h).up (by omega),ho,fun _ _=>rfl⟩
 ·rw [if_neg hs]
  rcases h.renew with ⟨t',e,f⟩ | ⟨q,t',e,d,e1,e2⟩
  ·left
   rw [show t.renew (p,o).1=_ from e]
   exact ⟨t',rfl,f⟩
  ·right
   rw [show t.renew (p,o).1=_ from e,if_pos rfl,if_pos hn]
   refine ⟨q,_,rfl,⟨d.acc.write e2 n,d.used,d.z_,d.ep_,d.ct_,d.lost_,d.rt_,d.ht_⟩,if_pos rfl,fun x hx=>?_⟩
   show setN t'.nd q n x=_
   rw [show setN t'.nd q n x=t'.nd x from if_neg hx,e1]
theorem Acc.wr0 (h:Acc O nd0 t L) {o n:ND} (hs:o.sameB n=false) (hn:n.encE=0):(∃ t',t.wr (0,o) n=(81,0,t')∧Full t L 0 81)∨∃ q t',t.wr (0,o) n=(0,q,t')∧Wrote O nd0 t L L n q t':=by
 unfold TS.wr
 rw [if_neg (by rw [hs];decide)]
 rcases h.renew0 with ⟨t',e,f⟩ | ⟨q,t',e,d,e1,e2⟩
 ·left
  rw [show t.renew (0,o).1=_ from e]
  exact ⟨t',rfl,f⟩
 ·right
  rw [show t.renew (0,o).1=_ from e,if_pos rfl,if_pos hn]
  refine ⟨q,_,rfl,⟨d.acc.write e2 n,d.used,d.z_,d.ep_,d.ct_,d.lost_,d.rt_,d.ht_⟩,if_pos rfl,fun x hx=>?_⟩
  show setN t'.nd q n x=_
  rw [show setN t'.nd q n x=t'.nd x from if_neg hx,e1]
end
end TS
end Go.Proofs.YtccphijgcapeoaaGreat
/-
  The plain tree's nodes laid in the place of old ones: in which pages, and what else lies there. Nothing here names the program.
-/
namespace Go.Proofs.YtccphijgcapeoaaGreat
namespace TS
structure Laid (O:List Int) (nd0:Int→Option ND) (t:TS) (M L:List Int) (ns:List ND) (qs:List Int) (t':TS):Prop where
 did:Did O nd0 t M ns.length t' (qs++L)
 len:qs.length=ns.length
 here:∀ (i:Nat) n,ns[i]?=some n→∃ q,qs[i]?=some q∧t'.nd q=some n
 else_:∀ x,x ∉ qs→t'.nd x=t.nd x
section
variable {O:List Int} {nd0:Int→Option ND} {t:TS} {L:List Int}
theorem Acc.relAll:∀ {old:List (Int×ND)} {t:TS},Acc O nd0 t (old.map Prod.fst++L)→∃ t',t.relAll old=(0,t')∧Did O nd0 t (old.map Prod.fst++L) 0 t' L∧t'.nd=t.nd
 | [],t,h=>⟨t,rfl,Did.refl h,rfl⟩
 | l::r,t,h=>by
   obtain ⟨t1,e1,d1,n1⟩:=Acc.rel_did (p:=l.1) (L:=r.map Prod.fst++L) h
   obtain ⟨t2,e2,d2,n2⟩:=Acc.relAll (old:=r) d1.acc
   refine ⟨t2,?_,d1.trans d2,n2.trans n1⟩
   unfold TS.relAll
   rw [e1,if_pos rfl]
   exact e2
theorem Laid.step {t' t'':TS} {M L':List Int} {n:ND} {ns:List ND} {q:Int} {qs:List Int} {N:List Int} (w:Wrote O nd0 t M L' n q t') (hp:(q::L').Perm N) (d:Laid O nd0 t' N (q::L) ns qs t''):Laid O nd0 t M L (n::ns) (q::qs) t'':=by
 have hperm:(qs++q::L).Perm (q::qs++L):=List.perm_middle
 have hn:=(d.did.acc.perm hperm).once
 have hq:q ∉ qs:=fun e=>(List.nodup_cons.1 hn).1 (by simp [e])
 refine ⟨(w.did.perm (List.Perm.refl _) hp).trans (d.did.perm (List.Perm.refl _) hperm) |>.up (by simp;omega),by rw [List.length_cons,List.length_cons,d.len],fun i m hm=>?_,fun x hx=>?_⟩
 ·cases i with
  | zero =>
    obtain rfl:n=m:=by simpa using hm
    exact ⟨q,rfl,(d.else_ q hq).trans w.here⟩
  | succ i=>exact d.here i m (by simpa using hm)
 ·rw [d.else_ x (fun e=>hx (by simp [e])),w.else_ x (fun e=>hx (by simp [e]))]
theorem Acc.wrAll:∀ {ns:List ND} {old:List (Int×ND)} {t:TS} {L:List Int},Acc O nd0 t (old.map Prod.fst++L)→old.length≤ns.length→(∀ x∈old,t.nd x.1=some x.2)→(∀ n∈ns,n.encE=0∧ND.zero.sameB n=false) →
 (∃ t',t.wrAll old ns=(81,[],t')∧Full t (old.map Prod.fst++L) ns.length 81)∨∃ qs t',t.wrAll old ns=(0,qs,t')∧Laid O nd0 t (old.map Prod.fst++L) L ns qs t'
 | [],old,t,L,h,hl,_,_=>by
   obtain rfl:old=[]:=List.eq_nil_of_length_eq_zero (by simpa using hl)
   exact Or.inr ⟨[],t,rfl,Did.refl h,rfl,fun i m hm=>by simp at hm,fun _ _=>rfl⟩
 | n::ns,old,t,L,h,hl,ho,hn=>by
   obtain ⟨hn1,hn2⟩:=hn n (by simp)
   -- the first one, in whatever place
   have one:((∃ t',t.wr (first old) n=(81,0,t')∧Full t (old.map Prod.fst++L) 0 81)∨∃ q t',t.wr (first old) n=(0,q,t')∧Wrote O nd0 t (old.map Prod.fst++L) (old.tail.map Prod.fst++L) n q t'):=by
    cases old with
    | nil=>exact h.wr0 hn2 hn1
    | cons x r=>exact Acc.wr (p:=x.1) (o:=x.2) h (ho x (by simp)) hn1
   unfold TS.wrAll
   rcases one with ⟨t1,e1,f⟩ | ⟨q,t1,e1,w⟩
   ·left
    rw [e1,if_neg (show ¬ (81:Int)=0 by decide)]
    exact ⟨t1,rfl,f.up (by omega)⟩
   ·rw [e1,if_pos rfl]
    have hp:(q::(old.tail.map Prod.fst++L)).Perm (old.tail.map Prod.fst++q::L):=List.perm_middle.symm
    have ha:=w.did.acc.perm hp
    have hq:∀ x∈old.tail,x.1≠q:=fun x hx e=>(List.nodup_cons.1 w.did.acc.once).1 (by rw [← e];exact List.mem_append.2 (Or.inl (List.mem_map_of_mem hx)))
    rcases Acc.wrAll (ns:=ns) (old:=old.tail) ha (by rw [List.length_tail];simp at hl;omega) (fun x hx=>by
     rw [w.else_ _ (hq x hx)]
     exact ho x (List.mem_of_mem_tail hx)) (fun m hm=>hn m (by simp [hm])) with ⟨t2,e2,f⟩ | ⟨qs,t2,e2,d⟩
    ·left
     dsimp only
     rw [e2,if_neg (show ¬ (81:Int)=0 by decide)]
     exact ⟨t2,rfl,((w.did.perm (List.Perm.refl _) hp).full f).up (by simp;omega)⟩
    ·right
     dsimp only
     rw [e2,if_pos rfl]
     exact ⟨q::qs,t2,rfl,Laid.step w hp d⟩
theorem Acc.lay {ns:List ND} {old:List (Int×ND)} (h:Acc O nd0 t (old.map Prod.fst++L)) (ho:∀ x∈old,t.nd x.1=some x.2) (hn:∀ n∈ns,n.encE=0∧ND.zero.sameB n=false) :
 (∃ t',t.lay old ns=(81,[],t')∧Full t (old.map Prod.fst++L) ns.length 81)∨∃ qs t',t.lay old ns=(0,qs,t')∧Laid O nd0 t (old.map Prod.fst++L) L ns qs t':=by
 have hp:(old.map Prod.fst++L).Perm ((old.drop ns.length).map Prod.fst++((old.take ns.length).map Prod.fst++L)):=by
  conv=>lhs;rw [← List.take_append_drop ns.length old]
  rw [List.map_append,List.append_assoc]
  rw [← List.append_assoc,← List.append_assoc]
  exact List.Perm.append_right _ List.perm_append_comm
 obtain ⟨t1,e1,d1,n1⟩:=Acc.relAll (old:=old.drop ns.length) (h.perm hp)
 have hfirst:∀ (t:TS) (ns:List ND) (old:List (Int×ND)),t.wrAll old ns=t.wrAll (old.take ns.length) ns:=by
  intro t ns
  induction ns generalizing t with
  | nil=>intro old;rfl
  | cons n ns ih =>
    intro old
    have ef:first (old.take (ns.length+1))=first old:=by cases old<;>rfl
    have et:(old.take (ns.length+1)).tail=old.tail.take ns.length:=by cases old<;>simp
    unfold TS.wrAll
    rw [List.length_cons,ef,et,ih _ old.tail]
 unfold TS.lay
 rw [e1,if_pos rfl,hfirst]
 dsimp only
 have d2:=d1.perm hp.symm (List.Perm.refl _)
 rcases Acc.wrAll (ns:=ns) (old:=old.take ns.length) (L:=L) d1.acc (by rw [List.length_take];omega) (fun x hx=>by
  rw [n1]
  exact ho x (List.mem_of_mem_take hx)) hn with ⟨t2,e2,f⟩ | ⟨qs,t2,e2,d⟩
 ·left
  exact ⟨t2,e2,(d2.full f).up (by omega)⟩
 ·right
  refine ⟨qs,t2,e2,(d2.trans d.did).up (by omega),d.len,d.here,fun x hx=>?_⟩
  rw [d.else_ x hx,n1]
end
end TS
end Go.Proofs.YtccphijgcapeoaaGreat
/-
  What lies around a sub-tree: the nodes above it, their other kids. Nothing here names the program.
-/
namespace Go.Proofs.YtccphijgcapeoaaGreat
namespace TT
open ND TS
section
variable {S:R}
theorem runL_end:∀ {ks:List K} {cs:List Int} {lo l:K} {es:List E} {qs:List Int},RunL S lo ks cs l es qs→(ks=[]∧l=lo)∨∃ ks',ks=ks'++[l]
 | [],[],lo,l,es,qs,h=>Or.inl ⟨rfl,h.1⟩
 | k::ks,c::cs,lo,l,es,qs,h=>by
   obtain ⟨e1,q1,e2,q2,_,_,_,h4⟩:=h
   rcases runL_end h4 with ⟨rfl,rfl⟩ | ⟨ks',rfl⟩
   ·exact Or.inr ⟨[],rfl⟩
   ·exact Or.inr ⟨k::ks',rfl⟩
 | [],_::_,_,_,_,_,h=>h.elim
 | _::_,[],_,_,_,_,h=>h.elim
theorem runR_head:∀ {ks:List K} {cs:List Int} {h hi:K} {es:List E} {qs:List Int},RunR S h hi ks cs es qs→(ks=[]∧h=hi)∨∃ ks',ks=h::ks'
 | [],[],h,hi,es,qs,r=>Or.inl ⟨rfl,r.1⟩
 | k::ks,c::cs,h,hi,es,qs,r=>Or.inr ⟨ks,by rw [r.1]⟩
 | [],_::_,_,_,_,_,h=>h.elim
 | _::_,[],_,_,_,_,h=>h.elim
theorem run_strict (g:Good S) {k:K} {ks:List K} {cs:List Int} {lo hi:K} {es:List E} {qs:List Int} (hk:k≠[]) (r:Run S lo hi (k::ks) cs es qs):Op.bytesLess lo k=true:=by
 cases cs with
 | nil=>exact r.elim
 | cons c cs =>
   obtain ⟨e1,q1,e2,q2,_,_,h3,_⟩:=r
   obtain ⟨a,_,b⟩:=g _ _ _ _ _ h3
   cases e1 with
   | nil=>simp at b
   | cons x l =>
     have:=a x (by simp)
     rcases this.2 with e | e
     ·exact absurd e hk
     ·exact nlt_lt this.1 e
end
theorem VN.join {S:R} (g:Good S) {h:Nat} {a b:ND} {lo k hi:K} {e1 e2:List E} {q1 q2:List Int} (v:VN S h a lo k e1 q1) (w:VN S h b k hi e2 q2) (hk:btw lo hi k) (hk1:k≠[]) (hk2:k.length≤120) :
 VN S h (a.join k b) lo hi (e1++e2) (q1++q2):=by
 have va:=v.keys
 have wb:=w.keys
 have ra:=rise_nil.1 v.rise
 have rb:=rise_nil.1 w.rise
 have h1:1≤k.length:=by
  cases k with
  | nil=>exact absurd rfl hk1
  | cons x l=>simp
 cases h with
 | zero =>
   obtain ⟨⟨l1,l2,l3,l4,l5,l6,rfl⟩,rfl⟩:=v
   obtain ⟨⟨m1,m2,m3,m4,m5,m6,rfl⟩,rfl⟩:=w
   unfold ND.join
   rw [l1,if_pos rfl,List.append_nil]
   refine ⟨⟨rfl,?_,?_,?_,?_,?_,?_⟩,rfl⟩
   ·rw [rise_nil]
    refine ⟨fun t ht=>?_,?_⟩
    ·rcases List.mem_append.1 ht with e | e
     ·exact ra.1 t e
     ·exact rb.1 t e
    ·rw [List.pairwise_append]
     exact ⟨ra.2,rb.2,fun x hx y hy=>btw_less hk1 (va x hx) (wb y hy)⟩
   ·dsimp only
    rw [List.length_append,List.length_append,l3,m3]
   ·dsimp only
    rw [List.all_append,l4,m4]
    rfl
   ·dsimp only
    rw [l5,m5]
    rfl
   ·intro x hx
    rcases List.mem_append.1 hx with e | e
    ·exact btw_hi hk hk1 (va x e)
    ·exact btw_lo hk (wb x e)
   ·dsimp only
    rw [List.zip_append l3.symm]
 | succ h =>
   obtain ⟨l1,l2,l3,l4,l5,l6⟩:=v
   obtain ⟨m1,m2,m3,m4,m5,m6⟩:=w
   unfold ND.join
   rw [l1,if_neg (show ¬ (false=true) by decide),List.append_assoc,List.singleton_append]
   have hlt:∀ y∈b.keys,Op.bytesLess k y=true:=by
    intro y hy
    cases hb:b.keys with
    | nil=>rw [hb] at hy;cases hy
    | cons z r =>
      rw [hb] at hy m6
      have hz:z≠[]:=rise_ne m2 z (by rw [hb];simp)
      have s1:=run_strict g hz m6
      rcases List.mem_cons.1 hy with rfl | hy
      ·exact s1
      ·have:=rb.2
       rw [hb,List.pairwise_cons] at this
       exact less_trans _ _ _ s1 (this.1 y hy)
   refine ⟨rfl,?_,?_,?_,?_,run_app l6 m6⟩
   ·rw [rise_nil]
    refine ⟨fun t ht=>?_,?_⟩
    ·rcases List.mem_append.1 ht with e | e
     ·exact ra.1 t e
     ·rcases List.mem_cons.1 e with rfl | e
      ·exact ⟨h1,hk2⟩
      ·exact rb.1 t e
    ·rw [List.pairwise_append,List.pairwise_cons]
     refine ⟨ra.2,⟨hlt,rb.2⟩,fun x hx y hy=>?_⟩
     have hxk:Op.bytesLess x k=true:=by
      rcases (va x hx).2 with e | e
      ·exact absurd e hk1
      ·exact e
     rcases List.mem_cons.1 hy with rfl | hy
     ·exact hxk
     ·exact less_trans _ _ _ hxk (hlt y hy)
   ·dsimp only
    rw [l3,m3]
    rfl
   ·dsimp only
    rw [List.all_append,l4,m4]
    rfl
   ·intro x hx
    rcases List.mem_append.1 hx with e | e
    ·exact btw_hi hk hk1 (va x e)
    ·rcases List.mem_cons.1 e with rfl | e
     ·exact hk
     ·exact btw_lo hk (wb x e)
theorem tsz_append (a b:List K):tsz (a++b)=tsz a+tsz b:=by
 unfold tsz
 rw [tsl_append,List.length_append]
 omega
theorem join_size {a b:ND} {k:K}:(a.join k b).size+2≤a.size+b.size+(if a.leaf then 0 else 1+k.length):=by
 unfold ND.join ND.size
 dsimp only
 rw [tsz_append,tsz_append,tsz_append,List.length_append]
 cases a.leaf with
 | true=>simp [tsz,tsl];omega
 | false=>simp [tsz,tsl];omega
theorem rep_mid {α:Type} (A X B o:List α):rep (A++(X++B)) A.length (A.length+X.length) o=A++o++B:=by
 unfold rep
 rw [List.take_left' rfl,← List.append_assoc,List.drop_left' (by rw [List.length_append])]
structure Mid (S:R) (u:ND) (LO HI l h:K) (A X B:List K) (CA CX CB:List Int) (e1 e3:List E) (q1 q3:List Int):Prop where
 keys:u.keys=A++(X++B)
 kids:u.kids=CA++(CX++CB)
 leaf:u.leaf=false
 rise:ND.rise [] u.keys=true
 vals:u.vals=[]
 kidb:u.kids.all kidB=true
 btw_:∀ k∈u.keys,btw LO HI k
 len:CX.length=X.length+1
 left:RunL S LO A CA l e1 q1
 right:RunR S h HI B CB e3 q3
def KeyIn (lo hi k:K):Prop:=btw lo hi k∧Op.bytesLess lo k=true∧k≠[]∧k.length≤120
theorem Mid.put {S S':R} {u:ND} {LO HI l h:K} {A X B:List K} {CA CX CB:List Int} {e1 e2 e3:List E} {q1 q2 q3:List Int} (m:Mid S u LO HI l h A X B CA CX CB e1 e3 q1 q3) {ks:List K} {cs:List Int}
 (hS:∀ c lo hi e q,(∀ x∈q,x∈q1∨x∈q3)→S c lo hi e q→S' c lo hi e q) (r:Run S' l h ks cs e2 q2) (hk:∀ k∈ks,KeyIn l h k) (h1:ks.length≤1) (hc:cs.all kidB=true) :
 VI S' (u.replace (A.length:Nat) ((A.length+CX.length:Nat):Int) cs ks) LO HI (e1++(e2++e3)) (q1++(q2++q3))∧(u.replace (A.length:Nat) ((A.length+CX.length:Nat):Int) cs ks).keys=A++ks++B ∧
  (u.replace (A.length:Nat) ((A.length+CX.length:Nat):Int) cs ks).size+tsz X≤u.size+tsz ks+4*ks.length:=by
 obtain ⟨k1,k2,k3,k4,k5,k6,k7,k8,k9,k10⟩:=m
 have hcs:=run_len r
 have hA:=runL_len k9
 have hB:=runR_len k10
 have hmay:u.mayR (A.length:Nat) ((A.length+CX.length:Nat):Int) cs ks=true:=by
  unfold mayR
  rw [k2,List.length_append,List.length_append,decide_eq_true (by omega),decide_eq_true (by omega),decide_eq_true (by omega),decide_eq_true (by omega)]
  rfl
 have hrep:u.replace (A.length:Nat) ((A.length+CX.length:Nat):Int) cs ks=⟨false,A++ks++B,[],CA++cs++CB⟩:=by
  unfold ND.replace
  rw [if_pos hmay,k3,k5,k1,k2]
  have a1:((A.length:Nat):Int).toNat=A.length:=Int.toNat_natCast _
  have a2:((A.length+CX.length:Nat):Int).toNat=A.length+CX.length:=Int.toNat_natCast _
  rw [a1,a2,show A.length+CX.length - 1=A.length+X.length by omega,rep_mid,← hA,rep_mid]
 rw [hrep]
 have hp:=rise_nil.1 k4
 rw [k1] at hp
 obtain ⟨hp1,hp2⟩:=hp
 rw [List.pairwise_append,List.pairwise_append] at hp2
 obtain ⟨pA,⟨pX,pB,pXB⟩,pAXB⟩:=hp2
 have hAk:∀ a∈A,∀ k∈ks,Op.bytesLess a k=true:=by
  intro a ha k hk'
  rcases runL_end k9 with ⟨e,_⟩ | ⟨A',e⟩
  ·rw [e] at ha;cases ha
  ·rw [e] at ha pA
   rw [List.pairwise_append] at pA
   rcases List.mem_append.1 ha with e1 | e1
   ·exact less_trans _ _ _ (pA.2.2 a e1 l (by simp)) (hk k hk').2.1
   ·rw [List.mem_singleton.1 e1]
    exact (hk k hk').2.1
 have hkB:∀ k∈ks,∀ b∈B,Op.bytesLess k b=true:=by
  intro k hk' b hb
  rcases runR_head k10 with ⟨e,_⟩ | ⟨B',e⟩
  ·rw [e] at hb;cases hb
  ·have hh:h≠[]:=by
    have:=(hp1 h (by rw [e];simp)).1
    intro e2
    rw [e2] at this
    simp at this
   have h2:Op.bytesLess k h=true:=by
    rcases (hk k hk').1.2 with e2 | e2
    ·exact absurd e2 hh
    ·exact e2
   rw [e] at hb pB
   rcases List.mem_cons.1 hb with rfl | hb
   ·exact h2
   ·exact less_trans _ _ _ h2 ((List.pairwise_cons.1 pB).1 b hb)
 have hks:ks.Pairwise (fun a b=>Op.bytesLess a b=true):=by
  match ks,h1 with
  | [],_=>exact List.Pairwise.nil
  | [k],_=>simp
 have hlo:∀ q,btw l h q→btw LO HI q:=by
  intro q hq
  have a1:Op.bytesLess q LO=false:=by
   rcases runL_end k9 with ⟨_,e⟩ | ⟨A',e⟩
   ·rw [← e];exact hq.1
   ·have:=(k7 l (by rw [k1,e];simp)).1
    exact nlt_trans this hq.1
  refine ⟨a1,?_⟩
  rcases runR_head k10 with ⟨_,e⟩ | ⟨B',e⟩
  ·rw [← e];exact hq.2
  ·have hb:=k7 h (by rw [k1,e];simp)
   have hh:h≠[]:=by
    have:=(hp1 h (by rw [e];simp)).1
    intro e2
    rw [e2] at this
    simp at this
   rcases hq.2 with e2 | e2
   ·exact absurd e2 hh
   ·rcases hb.2 with e3 | e3
    ·exact Or.inl e3
    ·exact Or.inr (less_trans _ _ _ e2 e3)
 refine ⟨⟨rfl,?_,rfl,?_,?_,?_⟩,rfl,?_⟩
 ·rw [rise_nil]
  refine ⟨fun t ht=>?_,?_⟩
  ·rcases List.mem_append.1 ht with e | e
   ·rcases List.mem_append.1 e with e | e
    ·exact hp1 t (by simp [e])
    ·obtain ⟨_,_,x3,x4⟩:=hk t e
     refine ⟨?_,x4⟩
     cases t with
     | nil=>exact absurd rfl x3
     | cons x l=>simp
   ·exact hp1 t (by simp [e])
  ·dsimp only
   rw [List.pairwise_append,List.pairwise_append]
   refine ⟨⟨pA,hks,hAk⟩,pB,fun x hx y hy=>?_⟩
   rcases List.mem_append.1 hx with e | e
   ·exact pAXB x e y (by simp [hy])
   ·exact hkB x e y hy
 ·dsimp only
  rw [k2] at k6
  simp only [List.all_append,Bool.and_eq_true] at k6 ⊢
  exact ⟨⟨k6.1,hc⟩,k6.2.2⟩
 ·intro q hq
  rcases List.mem_append.1 hq with e | e
  ·rcases List.mem_append.1 e with e | e
   ·exact k7 q (by rw [k1];simp [e])
   ·exact hlo q (hk q e).1
  ·exact k7 q (by rw [k1];simp [e])
 ·have a1:=runL_mono k9 (fun c lo hi e q hq=>hS c lo hi e q (fun x hx=>Or.inl (hq x hx)))
  have a2:=runR_mono k10 (fun c lo hi e q hq=>hS c lo hi e q (fun x hx=>Or.inr (hq x hx)))
  have:=run_left a1 (run_right r a2)
  simpa [List.append_assoc] using this
 ·unfold ND.size
  dsimp only
  rw [k1,k2,k5,tsz_append,tsz_append,tsz_append,tsz_append]
  simp only [List.length_append]
  have:tsz ([]:List K)=0:=rfl
  omega
structure UpS (nd:Int→Option ND) (s:St) (h:Nat) (root:Bool) (p:Int) (LO HI lo hi:K) (e1 e3:List E) (q1 q3:List Int):Prop where
 here:nd s.pg=some s.nd
 fits:s.nd.size≤1000
 room:root=false→250<s.nd.size
 keyed:0<s.nd.keys.length
 leaf:s.nd.leaf=false
 rise:ND.rise [] s.nd.keys=true
 vals:s.nd.vals=[]
 kids:s.nd.kids.all kidB=true
 len:s.nd.kids.length=s.nd.keys.length+1
 kid:s.nd.kids[s.kid]?=some p
 keys:∀ k∈s.nd.keys,btw LO HI k
 left:RunL (Sub nd h) LO (s.nd.keys.take s.kid) (s.nd.kids.take s.kid) lo e1 q1
 right:RunR (Sub nd h) hi HI (s.nd.keys.drop s.kid) (s.nd.kids.drop (s.kid+1)) e3 q3
def Up (nd:Int→Option ND):List St→Nat→Int→K→K→List E→List E→List Int→Prop
 | [],_,_,lo,hi,pre,post,qs=>lo=[]∧hi=[]∧pre=[]∧post=[]∧qs=[]
 | s::r,h,p,lo,hi,pre,post,qs=>∃ LO HI e1 e3 q1 q3 pre' post' qs',UpS nd s (h+1) r.isEmpty p LO HI lo hi e1 e3 q1 q3∧Up nd r (h+1) s.pg LO HI pre' post' qs' ∧
    pre=pre'++e1∧post=e3++post'∧qs=q1++(q3++(s.pg::qs'))
section
variable {nd nd':Int→Option ND}
theorem UpS.frame {s:St} {h:Nat} {root:Bool} {p:Int} {LO HI lo hi:K} {e1 e3:List E} {q1 q3:List Int} (u:UpS nd s h root p LO HI lo hi e1 e3 q1 q3) (f:∀ x∈q1++(q3++[s.pg]),nd' x=nd x):UpS nd' s h root p LO HI lo hi e1 e3 q1 q3 :=
 ⟨(f _ (by simp)).trans u.here,u.fits,u.room,u.keyed,u.leaf,u.rise,u.vals,u.kids,u.len,u.kid,u.keys,
   runL_mono u.left (fun _ _ _ _ _ hq hs=>hs.frame (fun x hx=>f x (by simp [hq x hx]))),
   runR_mono u.right (fun _ _ _ _ _ hq hs=>hs.frame (fun x hx=>f x (by simp [hq x hx])))⟩
theorem Up.frame:∀ {r:List St} {h:Nat} {p:Int} {lo hi:K} {pre post:List E} {qs:List Int},Up nd r h p lo hi pre post qs→(∀ x∈qs,nd' x=nd x)→Up nd' r h p lo hi pre post qs
 | [],_,_,_,_,_,_,_,u,_=>u
 | s::r,h,p,lo,hi,pre,post,qs,⟨LO,HI,e1,e3,q1,q3,pre',post',qs',u,v,a,b,c⟩,f=>by
   subst c
   refine ⟨LO,HI,e1,e3,q1,q3,pre',post',qs',u.frame (fun x hx=>f x ?_),v.frame (fun x hx=>f x (by simp [hx])),a,b,rfl⟩
   rcases List.mem_append.1 hx with e | e
   ·simp [e]
   ·rcases List.mem_append.1 e with e | e
    ·simp [e]
    ·simp [List.mem_singleton.1 e]
theorem UpS.mid {s:St} {h:Nat} {root:Bool} {p:Int} {LO HI lo hi:K} {e1 e3:List E} {q1 q3:List Int} (u:UpS nd s h root p LO HI lo hi e1 e3 q1 q3) :
 Mid (Sub nd h) s.nd LO HI lo hi (s.nd.keys.take s.kid) [] (s.nd.keys.drop s.kid) (s.nd.kids.take s.kid) [p] (s.nd.kids.drop (s.kid+1)) e1 e3 q1 q3∧(s.nd.keys.take s.kid).length=s.kid:=by
 obtain ⟨h1,h2⟩:=List.getElem?_eq_some_iff.1 u.kid
 have hl:=u.len
 refine ⟨⟨by simp,?_,u.leaf,u.rise,u.vals,u.kids,u.keys,rfl,u.left,u.right⟩,by rw [List.length_take];omega⟩
 conv=>lhs;rw [← List.take_append_drop s.kid s.nd.kids]
 rw [List.drop_eq_getElem_cons h1,h2]
 rfl
def rootPg (p:Int) (r:List St):Int:=(r.getLast?.map St.pg).getD p
theorem rootPg_cons (p:Int) (s:St) (r:List St):rootPg p (s::r)=rootPg s.pg r:=by
 unfold rootPg
 cases r with
 | nil=>rfl
 | cons x r =>
   rw [List.getLast?_cons_cons]
   cases hl:(x::r).getLast? with
   | none=>simp at hl
   | some y=>rfl
theorem Up.close:∀ {r:List St} {h:Nat} {p:Int} {n:ND} {lo hi:K} {pre es post:List E} {ps qs:List Int},Up nd r h p lo hi pre post qs→nd p=some n→n.size≤1000→(r≠[]→250<n.size)→0<n.keys.length→VN (Sub nd h) h n lo hi es ps →
 ∃ m ms,nd (rootPg p r)=some m∧m.size≤1000∧0<m.keys.length∧VN (Sub nd (h+r.length)) (h+r.length) m [] [] (pre++(es++post)) ms∧(p::(ps++qs)).Perm (rootPg p r::ms)
 | [],h,p,n,lo,hi,pre,es,post,ps,qs,u,a,b,_,c,v=>by
   obtain ⟨rfl,rfl,rfl,rfl,rfl⟩:=u
   refine ⟨n,ps,a,b,c,?_,?_⟩
   ·simpa using v
   ·rw [List.append_nil]
    exact List.Perm.refl _
 | s::r,h,p,n,lo,hi,pre,es,post,ps,qs,⟨LO,HI,e1,e3,q1,q3,pre',post',qs',u,w,a1,a2,a3⟩,a,b,b2,c,v=>by
   subst a1 a2 a3
   obtain ⟨m,hm⟩:=u.mid
   have hs:Sub nd (h+1) p lo hi es (p::ps):=⟨n,ps,rfl,a,b,b2 (by simp),v⟩
   have hv:VN (Sub nd (h+1)) (h+1) s.nd LO HI (e1++(es++e3)) (q1++((p::ps)++q3)):=by
    have hr:Run (Sub nd (h+1)) lo hi [] [p] es (p::ps):=hs
    have:=run_left m.left (run_right hr m.right)
    have e1':s.nd.keys.take s.kid++([]++s.nd.keys.drop s.kid)=s.nd.keys:=m.keys.symm
    have e2':s.nd.kids.take s.kid++([p]++s.nd.kids.drop (s.kid+1))=s.nd.kids:=m.kids.symm
    rw [e1',e2'] at this
    exact ⟨u.leaf,u.rise,u.vals,u.kids,u.keys,this⟩
   obtain ⟨m',ms,g1,g2,g3,g4,g5⟩:=w.close u.here u.fits (fun hr=>u.room (by cases r with
    | nil=>exact absurd rfl hr
    | cons x l=>rfl)) u.keyed hv
   refine ⟨m',ms,by rw [rootPg_cons];exact g1,g2,g3,?_,?_⟩
   ·have e:h+(s::r).length=h+1+r.length:=by rw [List.length_cons];omega
    rw [e]
    simpa [List.append_assoc] using g4
   ·rw [rootPg_cons]
    refine List.Perm.trans ?_ g5
    have:(p::(ps++(q1++(q3++s.pg::qs')))).Perm (s.pg::((p::ps)++(q1++(q3++qs')))):=by
     have h1:(p::(ps++(q1++(q3++s.pg::qs'))))=(p::ps++q1++q3)++s.pg::qs':=by simp
     rw [h1]
     refine List.perm_middle.trans ?_
     simp
    refine this.trans (List.Perm.cons _ ?_)
    have h2:(((p::ps)++q1)++(q3++qs')).Perm ((q1++(p::ps))++(q3++qs')):=List.Perm.append_right _ List.perm_append_comm
    rw [List.append_assoc,List.append_assoc] at h2
    simpa only [List.append_assoc] using h2
end
end TT
end Go.Proofs.YtccphijgcapeoaaGreat
/-
  The plain tree from a leaf up: what a node's parts, a kid's settling and the root's planting come to. Nothing here names the program.
-/
namespace Go.Proofs.YtccphijgcapeoaaGreat
namespace TT
open ND TS
section
variable {O:List Int} {nd0:Int→Option ND} {t:TS}
theorem zero_same {n:ND} (h:0<n.keys.length):ND.zero.sameB n=false:=by
 refine ND.sameB_no (fun e=>?_)
 rw [← e] at h
 simp [ND.zero] at h
theorem encE_of {S:R} {h:Nat} {n:ND} {lo hi:K} {es:List E} {qs:List Int} (v:VN S h n lo hi es qs) (h1:250<n.size) (h2:n.size≤1000):n.encE=0∧ND.zero.sameB n=false∧n.ok=true :=
 ⟨encE_fits (v.ok (Or.inr (v.keyed h1))) h2,zero_same (v.keyed h1),v.ok (Or.inr (v.keyed h1))⟩
structure LaidP (O:List Int) (nd0:Int→Option ND) (t:TS) (M0 M:List Int) (h:Nat) (n:ND) (lo hi:K) (es:List E) (qs:List Int) (t':TS) (ps':List Int):Prop where
 did:Did O nd0 t M0 2 t' (ps'++M)
 run:Run (Sub t'.nd (h+1)) lo hi (partsK n) qs es ps'
 keys:∀ k∈partsK n,KeyIn lo hi k
 one:(partsK n).length≤1
 kids:qs.all kidB=true
 else_:∀ x∈M,t'.nd x=t.nd x
theorem kids_of {t':TS} {L qs:List Int} (hz:t'.z≤2147483647) (a:Acc O nd0 t' L) (h:∀ q∈qs,q∈L):qs.all kidB=true:=by
 rw [List.all_eq_true]
 intro q hq
 have:=a.top (h q hq)
 unfold kidB
 rw [decide_eq_true this.1,decide_eq_true (by omega)]
 rfl
theorem lay_parts {old:List (Int×ND)} {h:Nat} {n:ND} {lo hi:K} {es:List E} {ps M:List Int} (hz:t.z≤2147483647) (acc:Acc O nd0 t (old.map Prod.fst++(ps++M))) (ho:∀ x∈old,t.nd x.1=some x.2)
 (v:VN (Sub t.nd h) h n lo hi es ps) (h1:250<n.size) (h2:Most n) :
 (∃ t',t.lay old (partsN n)=(81,[],t')∧Full t (old.map Prod.fst++(ps++M)) 2 81)∨∃ qs t' ps',t.lay old (partsN n)=(0,qs,t')∧LaidP O nd0 t (old.map Prod.fst++(ps++M)) M h n lo hi es qs t' ps':=by
 by_cases hs:n.size≤1000
 ·have ep:partsN n=[n]:=if_pos hs
  have ek:partsK n=[]:=if_pos hs
  obtain ⟨c1,c2,_⟩:=encE_of v h1 hs
  rw [ep]
  rcases acc.lay (ns:=[n]) ho (by
   intro m hm
   rw [List.mem_singleton.1 hm]
   exact ⟨c1,c2⟩) with ⟨t',e,f⟩ | ⟨qs,t',e,d⟩
  ·exact Or.inl ⟨t',e,f.up (by simp)⟩
  ·right
   obtain ⟨q,hq,hn⟩:=d.here 0 n rfl
   obtain rfl:qs=[q]:=by
    have hl:=d.len
    match qs,hl with
    | [x],_=>simpa using hq
   have hnod:=d.did.acc.once
   have hout:∀ x∈ps++M,t'.nd x=t.nd x:=fun x hx=>d.else_ x (fun e=>by
    rw [List.mem_singleton.1 e] at hx
    exact (List.nodup_cons.1 hnod).1 hx)
   refine ⟨[q],t',q::ps,e,d.did.up (by simp),?_,by rw [ek];simp,by rw [ek];simp,?_,fun x hx=>hout x (by simp [hx])⟩
   ·rw [ek]
    exact ⟨n,ps,rfl,hn,hs,h1,v.frame (fun x hx=>hout x (by simp [hx]))⟩
   ·exact kids_of (by rw [d.did.z_];exact hz) d.did.acc (fun x hx=>by
     rw [List.mem_singleton.1 hx]
     simp)
 ·have ep:partsN n=[n.splitL,n.splitR]:=if_neg hs
  have ek:partsK n=[n.splitK]:=if_neg hs
  obtain ⟨⟨k1,k2,k3,k4⟩,hv,e1,q1,e2,q2,rfl,rfl,vl,vr⟩:=v.parts (by omega) h2
  obtain ⟨c1,c2,_⟩:=encE_of vl hv.l1 hv.l2
  obtain ⟨c3,c4,_⟩:=encE_of vr hv.r1 hv.r2
  rw [ep]
  rcases acc.lay (ns:=[n.splitL,n.splitR]) ho (by
   intro m hm
   rcases List.mem_cons.1 hm with rfl | hm
   ·exact ⟨c1,c2⟩
   ·rw [List.mem_singleton.1 hm]
    exact ⟨c3,c4⟩) with ⟨t',e,f⟩ | ⟨qs,t',e,d⟩
  ·exact Or.inl ⟨t',e,f.up (by simp)⟩
  ·right
   obtain ⟨a,ha,hna⟩:=d.here 0 _ rfl
   obtain ⟨b,hb,hnb⟩:=d.here 1 _ rfl
   obtain rfl:qs=[a,b]:=by
    have hl:=d.len
    match qs,hl with
    | [x,y],_ =>
      have e1:x=a:=by simpa using ha
      have e2:y=b:=by simpa using hb
      rw [e1,e2]
   have hnod:=d.did.acc.once
   have hout:∀ x∈(q1++q2)++M,t'.nd x=t.nd x:=fun x hx=>d.else_ x (fun e=>by
    rw [List.nodup_append] at hnod
    exact hnod.2.2 x e x hx rfl)
   have hp:([a,b]++((q1++q2)++M)).Perm (((a::q1)++(b::q2))++M):=by
    rw [← List.append_assoc]
    refine List.Perm.append_right _ ?_
    simp only [List.cons_append,List.nil_append]
    exact List.Perm.cons _ List.perm_middle.symm
   refine ⟨[a,b],t',(a::q1)++(b::q2),e,(d.did.perm (List.Perm.refl _) hp).up (by simp),?_,?_,by rw [ek];simp,?_,fun x hx=>hout x (by simp [hx])⟩
   ·rw [ek]
    refine ⟨e1,a::q1,e2,b::q2,rfl,rfl,?_,?_⟩
    ·exact ⟨n.splitL,q1,rfl,hna,hv.l2,hv.l1,vl.frame (fun x hx=>hout x (by simp [hx]))⟩
    ·exact ⟨n.splitR,q2,rfl,hnb,hv.r2,hv.r1,vr.frame (fun x hx=>hout x (by simp [hx]))⟩
   ·rw [ek]
    intro k hk
    rw [List.mem_singleton.1 hk]
    exact ⟨k1,k4,k2,k3⟩
   ·exact kids_of (by rw [d.did.z_];exact hz) d.did.acc (fun x hx=>by
     rcases List.mem_cons.1 hx with rfl | hx
     ·simp
     ·rw [List.mem_singleton.1 hx]
      simp)
structure Settled (O:List Int) (nd0:Int→Option ND) (t:TS) (M0 M:List Int) (h:Nat) (u:ND) (LO HI:K) (es:List E) (n':ND) (t':TS) (ps':List Int):Prop where
 did:Did O nd0 t M0 2 t' (ps'++M)
 vn:VN (Sub t'.nd (h+1)) (h+1) n' LO HI es ps'
 size:n'.size≤u.size+125
 keyed:u.keys.length≤n'.keys.length+1
 else_:∀ x∈M,t'.nd x=t.nd x
theorem tsz_one (k:K):tsz [k]=1+k.length:=by simp [tsz,tsl]
theorem Mid.fin {u:ND} {LO HI l g:K} {A X B:List K} {CA CX CB:List Int} {e1 e3 es:List E} {q1 q3 ps M:List Int} {h:Nat} {n:ND} {old:List (Int×ND)} (hz:t.z≤2147483647)
 (m:Mid (Sub t.nd (h+1)) u LO HI l g A X B CA CX CB e1 e3 q1 q3) (hX:X.length≤1) (hold:old.length=CX.length) (acc:Acc O nd0 t (old.map Prod.fst++(ps++((q1++q3)++M)))) (ho:∀ x∈old,t.nd x.1=some x.2)
 (v:VN (Sub t.nd h) h n l g es ps) (h1:250<n.size) (h2:Most n) :
 (∃ t',t.fin u A.length old n=(81,ND.zero,t')∧Full t (old.map Prod.fst++(ps++((q1++q3)++M))) 2 81) ∨
   ∃ n' t' ps',t.fin u A.length old n=(0,n',t')∧Settled O nd0 t (old.map Prod.fst++(ps++((q1++q3)++M))) M h u LO HI (e1++(es++e3)) n' t' ps':=by
 unfold TS.fin
 rcases lay_parts hz acc ho v h1 h2 with ⟨t',e,f⟩ | ⟨qs,t',ps',e,d⟩
 ·left
  rw [e,if_neg (show ¬ (81:Int)=0 by decide)]
  exact ⟨t',rfl,f⟩
 ·right
  rw [e,if_pos rfl,hold]
  have hel:=d.else_
  obtain ⟨g1,g2,g3⟩:=m.put (S':=Sub t'.nd (h+1)) (fun c lo hi e q hq hs=>hs.frame (fun x hx=>hel x (by
   rcases hq x hx with e | e
   ·simp [e]
   ·simp [e]))) d.run d.keys d.one d.kids
  refine ⟨u.replace (A.length:Nat) ((A.length+CX.length:Nat):Int) qs (partsK n),t',q1++(ps'++q3),rfl,d.did.perm (List.Perm.refl _) ?_,g1,?_,?_,fun x hx=>hel x (by simp [hx])⟩
  ·have h3:((ps'++q1)++(q3++M)).Perm ((q1++ps')++(q3++M)):=List.Perm.append_right _ List.perm_append_comm
   simpa only [List.append_assoc] using h3
  ·have:tsz (partsK n)+4*(partsK n).length≤125:=by
    have hk:=d.keys
    have ho:=d.one
    match hp:partsK n,ho with
    | [],_=>simp [tsz,tsl]
    | [k],_ =>
      rw [hp] at hk
      have:=(hk k (by simp)).2.2.2
      rw [tsz_one]
      simp
      omega
   omega
  ·rw [g2,m.keys]
   simp only [List.length_append]
   omega
theorem UpS.settle {s:St} {h:Nat} {root:Bool} {p:Int} {o n:ND} {LO HI lo hi:K} {e1 e3 es:List E} {q1 q3 ps M:List Int} (hz:t.z≤2147483647) (u:UpS t.nd s (h+1) root p LO HI lo hi e1 e3 q1 q3)
 (acc:Acc O nd0 t (p::(ps++((q1++q3)++M)))) (hp:t.nd p=some o) (v:VN (Sub t.nd h) h n lo hi es ps) (hm:n.size≤if n.leaf then 1222 else 1125) :
 (∃ t',t.settle s.nd s.kid (p,o) n=(81,ND.zero,t')∧Full t (p::(ps++((q1++q3)++M))) 2 81) ∨
   ∃ n' t' ps',t.settle s.nd s.kid (p,o) n=(0,n',t')∧Settled O nd0 t (p::(ps++((q1++q3)++M))) M h s.nd LO HI (e1++(es++e3)) n' t' ps':=by
 obtain ⟨hkl,hkc⟩:=List.getElem?_eq_some_iff.1 u.kid
 have hlen:=u.len
 have hrise:=u.rise
 have hkeys:=rise_nil.1 hrise
 unfold TS.settle
 by_cases hlow:n.size<300
 ·rw [if_pos hlow]
  by_cases hi1:s.kid<s.nd.keys.length
  ·-- the next one
   rw [if_pos hi1]
   have ek:s.nd.keys.drop s.kid=s.nd.keys[s.kid]::s.nd.keys.drop (s.kid+1):=List.drop_eq_getElem_cons hi1
   have ec:s.nd.kids.drop (s.kid+1)=s.nd.kids[s.kid+1]::s.nd.kids.drop (s.kid+1+1):=List.drop_eq_getElem_cons (by omega)
   have hr:=u.right
   rw [ek,ec] at hr
   have gk:s.nd.keys.getD s.kid []=s.nd.keys[s.kid]:=by rw [List.getD_eq_getElem?_getD,List.getElem?_eq_getElem hi1];rfl
   have gc:s.nd.kids.getD (s.kid+1) 0=s.nd.kids[s.kid+1]:=by rw [List.getD_eq_getElem?_getD,List.getElem?_eq_getElem (show s.kid+1<s.nd.kids.length by omega)];rfl
   rw [gk,gc]
   have hkm:s.nd.keys[s.kid]∈s.nd.keys:=List.getElem_mem hi1
   generalize hkk:s.nd.keys[s.kid]=k at *
   generalize hcc:s.nd.kids[s.kid+1]=c at *
   obtain ⟨rfl,g,a1,b1,a2,b2,rfl,rfl,hs,hr2⟩:=hr
   obtain ⟨m,qm,rfl,m1,m2,m3,m4⟩:=hs
   have hk1:hi≠[]:=by
    have:=(hkeys.1 hi hkm).1
    intro e
    rw [e] at this
    simp at this
   have ekid:t.kidOf s.nd (s.kid+1)=m:=by
    unfold TS.kidOf
    rw [gc,m1]
    rfl
   rw [ekid]
   have hbk:btw lo g hi:=by
    constructor
    ·rcases runL_end u.left with ⟨_,e⟩ | ⟨A',e⟩
     ·rw [e]
      exact (u.keys hi hkm).1
     ·have hx:s.nd.keys=(A'++[lo])++s.nd.keys.drop s.kid:=by rw [← e,List.take_append_drop]
      have hp2:=hkeys.2
      rw [hx,List.pairwise_append] at hp2
      exact less_asymm _ _ (hp2.2.2 lo (by simp) hi (by rw [ek];simp))
    ·rcases runR_head hr2 with ⟨_,e⟩ | ⟨B',e⟩
     ·rw [e]
      exact (u.keys hi hkm).2
     ·right
      have hp2:=hkeys.2
      have hx:s.nd.keys=s.nd.keys.take s.kid++(hi::g::B'):=by rw [← e,← ek,List.take_append_drop]
      rw [hx,List.pairwise_append] at hp2
      exact (List.pairwise_cons.1 hp2.2.1).1 g (by simp)
   have vj:=v.join (Sub.good t.nd h) m4 hbk hk1 (hkeys.1 hi hkm).2
   have hjs:=join_size (a:=n) (b:=m) (k:=hi)
   have hk120:=(hkeys.1 hi hkm).2
   have hleaf:(n.join hi m).leaf=n.leaf:=rfl
   have mid:Mid (Sub t.nd (h+1)) s.nd LO HI lo g (s.nd.keys.take s.kid) [hi] (s.nd.keys.drop (s.kid+1)) (s.nd.kids.take s.kid) [p,c] (s.nd.kids.drop (s.kid+1+1)) e1 a2 q1 b2:=by
    refine ⟨?_,?_,u.leaf,u.rise,u.vals,u.kids,u.keys,rfl,u.left,hr2⟩
    ·rw [List.singleton_append,← ek,List.take_append_drop]
    ·have h3:s.nd.kids.drop s.kid=p::s.nd.kids.drop (s.kid+1):=by rw [List.drop_eq_getElem_cons hkl,hkc]
     rw [show [p,c]++s.nd.kids.drop (s.kid+1+1)=p::(c::s.nd.kids.drop (s.kid+1+1)) from rfl,← ec,← h3,List.take_append_drop]
   have hA:(s.nd.keys.take s.kid).length=s.kid:=by rw [List.length_take];omega
   have hperm:(p::(ps++((q1++(c::qm++b2))++M))).Perm (p::(c::((ps++qm)++((q1++b2)++M)))):=by
    refine List.Perm.cons _ ?_
    have h4:(ps++((q1++(c::qm++b2))++M))=(ps++q1)++c::(qm++b2++M):=by simp
    rw [h4]
    refine List.perm_middle.trans (List.Perm.cons _ ?_)
    have h5:(ps++(q1++qm)++(b2++M)).Perm (ps++(qm++q1)++(b2++M)):=List.Perm.append_right _ (List.Perm.append_left _ List.perm_append_comm)
    simpa only [List.append_assoc] using h5
   have hfin:=mid.fin (O:=O) (nd0:=nd0) (ps:=ps++qm) (M:=M) (es:=es++a1) (old:=[(p,o),(c,m)]) hz (by simp) rfl (acc.perm hperm) (by
    intro x hx
    rcases List.mem_cons.1 hx with rfl | hx
    ·exact hp
    ·rw [List.mem_singleton.1 hx]
     exact m1) vj (by
      cases hl:n.leaf with
      | true => 
        have:m.leaf=true:=by rw [m4.leaf,← v.leaf];exact hl
        unfold ND.join ND.size
        dsimp only
        rw [tsz_append,tsz_append,tsz_append,List.length_append]
        unfold ND.size at m3
        omega
      | false =>
        unfold ND.join ND.size
        dsimp only
        rw [tsz_append,tsz_append,tsz_append,List.length_append]
        unfold ND.size at m3
        omega) (by
      unfold Most
      rw [hleaf]
      cases hl:n.leaf with
      | true=>rw [hl] at hjs;simp at hjs ⊢;omega
      | false=>rw [hl] at hjs;simp at hjs ⊢;omega)
   rw [hA] at hfin
   rcases hfin with ⟨t',e,f⟩ | ⟨n',t',ps',e,d⟩
   ·exact Or.inl ⟨t',e,f.perm hperm.symm⟩
   ·refine Or.inr ⟨n',t',ps',e,d.did.perm hperm.symm (List.Perm.refl _),?_,d.size,d.keyed,d.else_⟩
    simpa [List.append_assoc] using d.vn
  ·-- the last kid has its neighbour ahead
   rw [if_neg hi1]
   have hkid:s.kid=s.nd.keys.length:=by omega
   have hpos:=u.keyed
   obtain ⟨A,k,ek⟩:∃ A k,s.nd.keys=A++[k]:=⟨s.nd.keys.dropLast,s.nd.keys.getLast (by intro e;rw [e] at hpos;simp at hpos),(List.dropLast_concat_getLast _).symm⟩
   have hAl:A.length+1=s.nd.keys.length:=by rw [ek];simp
   have hC:∃ CA c,s.nd.kids.take s.kid=CA++[c]∧CA.length=A.length:=by
    have hl:(s.nd.kids.take s.kid).length=A.length+1:=by rw [List.length_take];omega
    have hne:s.nd.kids.take s.kid≠[]:=by intro e;rw [e] at hl;simp at hl
    exact ⟨_,_,(List.dropLast_concat_getLast hne).symm,by rw [List.length_dropLast];omega⟩
   obtain ⟨CA,c,ec,hCA⟩:=hC
   have hleft:=u.left
   rw [ec,show s.nd.keys.take s.kid=A++[k] by rw [hkid,List.take_length,ek]] at hleft
   obtain ⟨rfl,g,a1,b1,a2,b2,rfl,rfl,hl1,hs,hg⟩:=runL_last hCA hleft
   have hright:=u.right
   have ed:s.nd.keys.drop s.kid=[]:=by rw [hkid,List.drop_length]
   have edc:s.nd.kids.drop (s.kid+1)=[]:=List.drop_of_length_le (by omega)
   rw [ed,edc] at hright
   obtain ⟨rfl,rfl,rfl⟩:=hright
   obtain ⟨m,qm,rfl,m1,m2,m3,m4⟩:=hs
   have hkm:lo∈s.nd.keys:=by rw [ek];simp
   have hkid1:s.kid - 1=A.length:=by omega
   have gk:s.nd.keys.getD (s.kid - 1) []=lo:=by
    rw [hkid1,ek,List.getD_eq_getElem?_getD,List.getElem?_append_right (Nat.le_refl _),Nat.sub_self]
    rfl
   have ekids:s.nd.kids=(CA++[c])++[p]:=by
    have h3:s.nd.kids.drop s.kid=p::s.nd.kids.drop (s.kid+1):=by rw [List.drop_eq_getElem_cons hkl,hkc]
    rw [edc] at h3
    rw [← ec,← h3,List.take_append_drop]
   have gc:s.nd.kids.getD (s.kid - 1) 0=c:=by
    rw [hkid1,ekids,← hCA,List.append_assoc,List.getD_eq_getElem?_getD,List.getElem?_append_right (Nat.le_refl _),Nat.sub_self]
    rfl
   have ekid:t.kidOf s.nd (s.kid - 1)=m:=by
    unfold TS.kidOf
    rw [gc,m1]
    rfl
   rw [gk,gc,ekid]
   have hk1:lo≠[]:=by
    have:=(hkeys.1 lo hkm).1
    intro e
    rw [e] at this
    simp at this
   have hbk:btw g hi lo:=by
    refine ⟨?_,(u.keys lo hkm).2⟩
    rcases runL_end hl1 with ⟨_,e⟩ | ⟨A',e⟩
    ·rw [e]
     exact (u.keys lo hkm).1
    ·have hp2:=hkeys.2
     rw [ek,e,List.pairwise_append] at hp2
     exact less_asymm _ _ (hp2.2.2 g (by simp) lo (by simp))
   have vj:=m4.join (Sub.good t.nd h) v hbk hk1 (hkeys.1 lo hkm).2
   have hjs:=join_size (a:=m) (b:=n) (k:=lo)
   have hk120:=(hkeys.1 lo hkm).2
   have hleaf:(m.join lo n).leaf=m.leaf:=rfl
   have mid:Mid (Sub t.nd (h+1)) s.nd LO hi g hi A [lo] [] CA [c,p] [] a1 [] b1 []:=by
    refine ⟨?_,?_,u.leaf,u.rise,u.vals,u.kids,u.keys,rfl,hl1,⟨rfl,rfl,rfl⟩⟩
    ·rw [ek]
     simp
    ·rw [ekids]
     simp
   have hperm:(p::(ps++(((b1++(c::qm))++[])++M))).Perm (c::(p::((qm++ps)++((b1++[])++M)))):=by
    have h4:(p::(ps++(((b1++(c::qm))++[])++M)))=(p::(ps++b1))++c::(qm++M):=by simp
    rw [h4]
    refine List.perm_middle.trans (List.Perm.cons _ ?_)
    show (p::(ps++b1++(qm++M))).Perm _
    refine List.Perm.cons _ ?_
    have h5:((ps++b1)++qm++M).Perm (qm++(ps++b1)++M):=List.Perm.append_right _ List.perm_append_comm
    simpa only [List.append_assoc,List.append_nil,List.nil_append] using h5
   have hfin:=mid.fin (O:=O) (nd0:=nd0) (ps:=qm++ps) (M:=M) (es:=a2++es) (old:=[(c,m),(p,o)]) hz (by simp) rfl (acc.perm hperm) (by
    intro x hx
    rcases List.mem_cons.1 hx with rfl | hx
    ·exact m1
    ·rw [List.mem_singleton.1 hx]
     exact hp) vj (by
      unfold ND.join ND.size
      dsimp only
      rw [tsz_append,tsz_append,tsz_append,List.length_append]
      unfold ND.size at m3
      omega) (by
      unfold Most
      rw [hleaf]
      cases hl:m.leaf with
      | true=>rw [hl] at hjs;simp at hjs ⊢;omega
      | false=>rw [hl] at hjs;simp at hjs ⊢;omega)
   rw [← hkid1] at hfin
   rcases hfin with ⟨t',e,f⟩ | ⟨n',t',ps',e,d⟩
   ·exact Or.inl ⟨t',e,f.perm hperm.symm⟩
   ·refine Or.inr ⟨n',t',ps',e,d.did.perm hperm.symm (List.Perm.refl _),?_,d.size,d.keyed,d.else_⟩
    simpa [List.append_assoc] using d.vn
 ·rw [if_neg hlow]
  obtain ⟨mid,hA⟩:=u.mid
  have hfin:=mid.fin (O:=O) (nd0:=nd0) (ps:=ps) (M:=M) (old:=[(p,o)]) hz (by simp) rfl acc (by
   intro x hx
   rw [List.mem_singleton.1 hx]
   exact hp) v (by omega) (by
    unfold Most
    cases hl:n.leaf with
    | true=>rw [hl] at hm;simp at hm ⊢;omega
    | false=>rw [hl] at hm;simp at hm ⊢;omega)
  rw [hA] at hfin
  exact hfin
end
end TT
end Go.Proofs.YtccphijgcapeoaaGreat
/-
  The plain tree from a leaf up to the root, and from the root down to a leaf. Nothing here names the program.
-/
namespace Go.Proofs.YtccphijgcapeoaaGreat
namespace TT
open ND TS
def Root (nd:Int→Option ND) (ht:Nat) (rt:Int) (es:List E) (L:List Int):Prop :=
 (ht=0∧rt=0∧es=[]∧L=[])∨∃ h n qs,ht=h+1∧L=rt::qs∧nd rt=some n∧n.size≤1000∧0<n.keys.length∧VN (Sub nd h) h n [] [] es qs
structure Done (O:List Int) (nd0:Int→Option ND) (t:TS) (M:List Int) (k:Nat) (t':TS) (L':List Int):Prop where
 acc:Acc O nd0 t' L'
 used:t'.used L'≤t.used M+k
 z_:t'.z=t.z
 ep_:t'.ep=t.ep
 ct_:t'.ct=t.ct
 lost_:t'.lost=t.lost
section
variable {O:List Int} {nd0:Int→Option ND} {t:TS}
theorem acc_at {L:List Int} (h:Acc O nd0 t L) (a:Int) (b:Nat):Acc O nd0 { t with rt:=a,ht:=b } L:=⟨h.fine,h.once,h.inL,h.all,h.late,h.ep0,h.own,h.pend,h.old,h.fresh⟩
theorem did_at {M L:List Int} {k:Nat} {t':TS} (d:Did O nd0 t M k t' L) (a:Int) (b:Nat):Done O nd0 t M k { t' with rt:=a,ht:=b } L:=⟨acc_at d.acc a b,d.used,d.z_,d.ep_,d.ct_,d.lost_⟩
theorem did_then {M L L':List Int} {k k':Nat} {t' t'':TS} (d:Did O nd0 t M k t' L) (e:Done O nd0 t' L k' t'' L'):Done O nd0 t M (k+k') t'' L' :=
 ⟨e.acc,by have:=d.used;have:=e.used;omega,e.z_.trans d.z_,e.ep_.trans d.ep_,e.ct_.trans d.ct_,e.lost_.trans d.lost_⟩
theorem Done.up {M L:List Int} {k k':Nat} {t':TS} (d:Done O nd0 t M k t' L) (h:k≤k'):Done O nd0 t M k' t' L:=⟨d.acc,by have:=d.used;omega,d.z_,d.ep_,d.ct_,d.lost_⟩
theorem Done.perm {M M' L:List Int} {k:Nat} {t':TS} (d:Done O nd0 t M k t' L) (h:M.Perm M'):Done O nd0 t M' k t' L :=
 ⟨d.acc,by have:=d.used;unfold TS.used at *;rw [← h.length_eq];exact this,d.z_,d.ep_,d.ct_,d.lost_⟩
theorem plant_one {L:List Int} {p:Int} {o n:ND} {h:Nat} {es:List E} {ps:List Int} {H:Nat}
 (hlay:(∃ t',t.lay [(p,o)] [n]=(81,[],t')∧Full t L 1 81)∨∃ qs t',t.lay [(p,o)] [n]=(0,qs,t')∧Laid O nd0 t L ps [n] qs t')
 (v:VN (Sub t.nd h) h n [] [] es ps) (hk:0<n.keys.length) (hs:n.size≤1000) (hH:H=h+1) :
 (∃ t',t.plant (p,o) n H=(81,t')∧Full t L 3 81)∨∃ t' L',t.plant (p,o) n H=(0,t')∧Done O nd0 t L 3 t' L'∧Root t'.nd t'.ht t'.rt es L':=by
 have ep:partsN n=[n]:=if_pos hs
 unfold TS.plant
 rw [if_neg (by omega),ep]
 rcases hlay with ⟨t',e,f⟩ | ⟨qs,t',e,d⟩
 ·left
  rw [e,if_neg (show ¬ (81:Int)=0 by decide)]
  exact ⟨t',rfl,f.up (by omega)⟩
 ·right
  rw [e,if_pos rfl]
  obtain ⟨q,hq,hn⟩:=d.here 0 n rfl
  obtain rfl:qs=[q]:=by
   have hl:=d.len
   match qs,hl with
   | [x],_=>simpa using hq
  have hnod:=d.did.acc.once
  have hout:∀ x∈ps,t'.nd x=t.nd x:=fun x hx=>d.else_ x (fun e=>by
   rw [List.mem_singleton.1 e] at hx
   exact (List.nodup_cons.1 hnod).1 hx)
  refine ⟨{ t' with rt:=q,ht:=H },q::ps,?_,(did_at d.did q H).up (by simp),Or.inr ⟨h,n,ps,hH,rfl,hn,hs,hk,v.frame hout⟩⟩
  unfold TS.above
  rfl
theorem plant_ok {p:Int} {o n:ND} {h:Nat} {es:List E} {ps:List Int} {H:Nat} (hz:t.z≤2147483647) (acc:Acc O nd0 t (p::ps)) (hp:t.nd p=some o)
 (v:VN (Sub t.nd h) h n [] [] es ps) (hm:Most n) (hH:H=h+1) :
 (∃ t',t.plant (p,o) n H=(81,t')∧Full t (p::ps) 3 81)∨∃ t' L',t.plant (p,o) n H=(0,t')∧Done O nd0 t (p::ps) 3 t' L'∧Root t'.nd t'.ht t'.rt es L':=by
 by_cases hk:n.keys.length=0
 ·right
  have hk0:n.keys=[]:=List.eq_nil_of_length_eq_zero hk
  unfold TS.plant
  rw [if_pos hk]
  cases h with
  | zero =>
    obtain ⟨v,rfl⟩:=v
    obtain ⟨t',e,d,hn⟩:=(acc_at acc (if n.leaf then 0 else n.kids.getD 0 0) (H - 1)).rel_did
    refine ⟨t',[],e,⟨d.acc,Nat.le_trans d.used (Nat.le_add_right _ 3),d.z_,d.ep_,d.ct_,d.lost_⟩,Or.inl ⟨?_,?_,?_,rfl⟩⟩
    ·rw [d.ht_,hH]
    ·rw [d.rt_,v.leaf]
     rfl
    ·rw [v.ents,hk0]
     rfl
  | succ h =>
    have hr:=VI.run v
    have hl:=run_len hr
    rw [hk0] at hr hl
    obtain ⟨c,hc⟩:∃ c,n.kids=[c]:=by
     match hn:n.kids with
     | [c]=>exact ⟨c,rfl⟩
     | []=>rw [hn] at hl;simp at hl
     | _::_::_=>rw [hn] at hl;simp at hl
    rw [hc] at hr
    obtain ⟨m,qm,rfl,m1,m2,m3,m4⟩:Sub t.nd (h+1) c [] [] es ps:=hr
    obtain ⟨t',e,d,hn⟩:=(acc_at acc (if n.leaf then 0 else n.kids.getD 0 0) (H - 1)).rel_did
    have hnd:t'.nd=t.nd:=hn
    refine ⟨t',c::qm,e,⟨d.acc,Nat.le_trans d.used (Nat.le_add_right _ 3),d.z_,d.ep_,d.ct_,d.lost_⟩,Or.inr ⟨h,m,qm,?_,?_,?_,m2,m4.keyed m3,?_⟩⟩
    ·rw [d.ht_,hH]
     rfl
    ·rw [d.rt_,VI.leaf v,hc]
     rfl
    ·rw [d.rt_,VI.leaf v,hc,hnd]
     exact m1
    ·rw [hnd]
     exact m4
 ·have hk1:0<n.keys.length:=by omega
  by_cases hs:n.size≤1000
  ·exact plant_one (acc.lay (old:=[(p,o)]) (ns:=[n]) (by
    intro x hx
    rw [List.mem_singleton.1 hx]
    exact hp) (by
    intro m hm
    rw [List.mem_singleton.1 hm]
    exact ⟨encE_fits (v.ok (Or.inr hk1)) hs,zero_same hk1⟩)) v hk1 hs hH
  ·unfold TS.plant
   rw [if_neg hk]
   have acc2:Acc O nd0 t ([(p,o)].map Prod.fst++(ps++[])):=by rw [List.append_nil];exact acc
   rcases lay_parts (M:=[]) hz acc2 (by
    intro x hx
    rw [List.mem_singleton.1 hx]
    exact hp) v (by omega) hm with ⟨t',e,f⟩ | ⟨qs,t',ps',e,d⟩
   ·left
    rw [e,if_neg (show ¬ (81:Int)=0 by decide)]
    rw [List.append_nil] at f
    exact ⟨t',rfl,f.up (by omega)⟩
   ·rw [e,if_pos rfl]
    have ek:partsK n=[n.splitK]:=if_neg hs
    have hrun:=d.run
    have hkey:=d.keys
    rw [ek] at hrun hkey
    have hlen:=run_len hrun
    obtain ⟨b1,b2,b3,b4⟩:=hkey n.splitK (by simp)
    have hl1:1≤n.splitK.length:=by
     cases hc:n.splitK with
     | nil=>exact absurd hc b3
     | cons x l=>simp
    have d1:=d.did
    rw [List.append_nil,List.append_nil] at d1
    have d1':Did O nd0 t (p::ps) 2 t' ps':=d1
    unfold TS.above
    dsimp only
    rw [if_pos (by simp at hlen;omega),ek]
    have vm:VN (Sub t'.nd (h+1)) (h+1) ⟨false,[n.splitK],[],qs⟩ [] [] es ps':=⟨rfl,by rw [rise_nil];simp;omega,rfl,d.kids,fun k hk=>by rw [List.mem_singleton.1 hk];exact b1,hrun⟩
    have hms:ND.size ⟨false,[n.splitK],[],qs⟩≤1000:=by
     unfold ND.size
     dsimp only
     rw [tsz_one]
     simp at hlen
     have:tsz ([]:List K)=0:=rfl
     omega
    have hmk:0<(ND.mk false [n.splitK] [] qs).keys.length:=by simp
    have acc3:Acc O nd0 t' (([]:List (Int×ND)).map Prod.fst++ps'):=d1'.acc
    rcases acc3.lay (ns:=[⟨false,[n.splitK],[],qs⟩]) (by intro x hx;cases hx) (by
     intro m hm
     rw [List.mem_singleton.1 hm]
     exact ⟨encE_fits (vm.ok (Or.inr hmk)) hms,zero_same hmk⟩) with ⟨t2,e2,f⟩ | ⟨rs,t2,e2,d2⟩
    ·left
     rw [e2,if_neg (show ¬ (81:Int)=0 by decide)]
     exact ⟨t2,rfl,d1'.full f⟩
    ·right
     rw [e2,if_pos rfl]
     obtain ⟨q,hq,hn⟩:=d2.here 0 _ rfl
     obtain rfl:rs=[q]:=by
      have hl:=d2.len
      match rs,hl with
      | [x],_=>simpa using hq
     have hnod:=d2.did.acc.once
     have hout:∀ x∈ps',t2.nd x=t'.nd x:=fun x hx=>d2.else_ x (fun e=>by
      rw [List.mem_singleton.1 e] at hx
      exact (List.nodup_cons.1 hnod).1 hx)
     refine ⟨{ t2 with rt:=q,ht:=H+1 },q::ps',rfl,did_then d1' (did_at d2.did q (H+1)),Or.inr ⟨h+1,_,ps',by rw [hH],rfl,hn,hms,hmk,vm.frame hout⟩⟩
theorem climb_ok (H:Nat):∀ (r:List St) (s:St) (t:TS) (h:Nat) (n:ND) (lo hi:K) (es:List E) (ps:List Int) (pre post:List E) (qs:List Int),
 t.z≤2147483647→Acc O nd0 t (s.pg::(ps++qs))→t.nd s.pg=some s.nd→s.nd.size≤1000→(r≠[]→250<s.nd.size)→0<s.nd.keys.length →
 VN (Sub t.nd h) h n lo hi es ps→(n.size≤if n.leaf then 1222 else 1125)→Up t.nd r h s.pg lo hi pre post qs→t.rt=rootPg s.pg r→t.ht=H→H=h+1+r.length →
 (∃ t',t.climb H (s::r) n=(81,t')∧Full t (s.pg::(ps++qs)) (2*r.length+3) 81) ∨
   ∃ t' L',t.climb H (s::r) n=(0,t')∧Done O nd0 t (s.pg::(ps++qs)) (2*r.length+3) t' L'∧Root t'.nd t'.ht t'.rt (pre++(es++post)) L':=by
 intro r
 induction r with
 | nil =>
   intro s t h n lo hi es ps pre post qs hz acc hp h1 h2 h3 v hm u hrt hht hH
   by_cases hs:s.nd.sameB n=true
   ·right
    have:=(ND.sameB_iff _ _).1 hs
    subst this
    obtain ⟨m,ms,g1,g2,g3,g4,g5⟩:=u.close hp h1 h2 h3 v
    rw [← hrt] at g1 g5
    refine ⟨t,t.rt::ms,by unfold TS.climb;rw [if_pos hs],⟨acc.perm g5,?_,rfl,rfl,rfl,rfl⟩,Or.inr ⟨h,m,ms,?_,rfl,g1,g2,g3,g4⟩⟩
    ·unfold TS.used
     rw [← g5.length_eq]
     omega
    ·rw [hht,hH]
     rfl
   ·unfold TS.climb
    rw [if_neg hs]
    obtain ⟨rfl,rfl,rfl,rfl,rfl⟩:=u
    rw [List.append_nil] at acc ⊢
    rw [List.nil_append,List.append_nil]
    exact plant_ok hz acc hp v (by
     unfold Most
     cases hl:n.leaf with
     | true=>rw [hl] at hm;simp at hm ⊢;omega
     | false=>rw [hl] at hm;simp at hm ⊢;omega) hH
 | cons x r ih =>
   intro s t h n lo hi es ps pre post qs hz acc hp h1 h2 h3 v hm u hrt hht hH
   by_cases hs:s.nd.sameB n=true
   ·right
    have:=(ND.sameB_iff _ _).1 hs
    subst this
    obtain ⟨m,ms,g1,g2,g3,g4,g5⟩:=u.close hp h1 h2 h3 v
    rw [← hrt] at g1 g5
    refine ⟨t,t.rt::ms,by unfold TS.climb;rw [if_pos hs],⟨acc.perm g5,?_,rfl,rfl,rfl,rfl⟩,Or.inr ⟨h+(x::r).length,m,ms,?_,rfl,g1,g2,g3,g4⟩⟩
    ·unfold TS.used
     rw [← g5.length_eq]
     omega
    ·rw [hht,hH]
     omega
   ·unfold TS.climb
    rw [if_neg hs]
    obtain ⟨LO,HI,e1,e3,q1,q3,pre',post',qs',us,ur,rfl,rfl,rfl⟩:=u
    have acc':Acc O nd0 t (s.pg::(ps++((q1++q3)++(x.pg::qs')))):=by rw [List.append_assoc q1 q3];exact acc
    have hle:s.pg::(ps++((q1++q3)++(x.pg::qs')))=s.pg::(ps++(q1++(q3++(x.pg::qs')))):=by rw [List.append_assoc q1 q3]
    rcases us.settle hz acc' hp v hm with ⟨t',e,f⟩ | ⟨n',t',ps',e,d⟩
    ·left
     rw [show t.settle x.nd x.kid s.at_ n=_ from e,if_neg (show ¬ (81:Int)=0 by decide)]
     rw [hle] at f
     exact ⟨t',rfl,f.up (by omega)⟩
    ·rw [show t.settle x.nd x.kid s.at_ n=_ from e,if_pos rfl]
     have hnl:n'.leaf=false:=d.vn.leaf
     have hd:=d.did
     have hpm:(ps'++(x.pg::qs')).Perm (x.pg::(ps'++qs')):=List.perm_middle
     have hd2:=hd.perm (List.Perm.refl _) hpm
     have hsz:=d.size
     have hfit:=us.fits
     rcases ih x t' (h+1) n' LO HI _ ps' pre' post' qs' (by rw [hd.z_];exact hz) hd2.acc ((d.else_ x.pg (by simp)).trans us.here) us.fits (fun hr=>us.room (by
      cases r with
      | nil=>exact absurd rfl hr
      | cons y l=>rfl)) us.keyed d.vn (by rw [hnl];simp;omega) (ur.frame (fun y hy=>d.else_ y (by simp [hy]))) (by rw [hd.rt_,hrt,rootPg_cons]) (by rw [hd.ht_];exact hht) (by rw [hH,List.length_cons];omega) with ⟨t2,e2,f⟩ | ⟨t2,L2,e2,d2,rt2⟩
     ·left
      refine ⟨t2,e2,?_⟩
      have:=hd2.full f
      rw [hle] at this
      exact this.up (by rw [List.length_cons];omega)
     ·right
      refine ⟨t2,L2,e2,?_,?_⟩
      ·have:=did_then hd2 d2
       rw [hle] at this
       exact this.up (by rw [List.length_cons];omega)
      ·simpa [List.append_assoc] using rt2
end
theorem runL_run {S:R}:∀ {ks:List K} {cs:List Int} {lo l:K} {es:List E} {qs:List Int},RunL S lo (ks++[l]) cs l es qs→Run S lo l ks cs es qs
 | [],[c],lo,l,es,qs,h=>by
   obtain ⟨e1,q1,e2,q2,rfl,rfl,h3,_,rfl,rfl⟩:=h
   rw [List.append_nil,List.append_nil]
   exact h3
 | k::ks,c::cs,lo,l,es,qs,h=>by
   obtain ⟨e1,q1,e2,q2,rfl,rfl,h3,h4⟩:=h
   exact ⟨e1,q1,e2,q2,rfl,rfl,h3,runL_run h4⟩
 | [],[],_,_,_,_,h=>h.elim
 | [],c::d::cs,lo,l,es,qs,h=>by
   obtain ⟨e1,q1,e2,q2,_,_,_,h4⟩:=h
   exact h4.elim
 | _::_,[],_,_,_,_,h=>h.elim
theorem runR_run {S:R}:∀ {ks:List K} {cs:List Int} {h hi:K} {es:List E} {qs:List Int},RunR S h hi (h::ks) cs es qs→Run S h hi ks cs es qs
 | [],[c],h,hi,es,qs,r=>by
   obtain ⟨_,g,e1,q1,e2,q2,rfl,rfl,h3,rfl,rfl,rfl⟩:=r
   rw [List.append_nil,List.append_nil]
   exact h3
 | k::ks,c::cs,h,hi,es,qs,r=>by
   obtain ⟨_,g,e1,q1,e2,q2,rfl,rfl,h3,h4⟩:=r
   rcases runR_head h4 with ⟨e,_⟩ | ⟨ks',e⟩
   ·cases e
   ·injection e with e1' e2'
    subst e1'
    exact ⟨e1,q1,e2,q2,rfl,rfl,h3,runR_run h4⟩
 | [],[],_,_,_,_,h=>h.elim
 | [],c::d::cs,h,hi,es,qs,r=>by
   obtain ⟨_,g,e1,q1,e2,q2,_,_,_,h4⟩:=r
   exact h4.elim
 | _::_,[],_,_,_,_,h=>h.elim
theorem Mid.wide {S:R} {u:ND} {LO HI l h:K} {A X B:List K} {CA CX CB:List Int} {e1 e3:List E} {q1 q3:List Int} (m:Mid S u LO HI l h A X B CA CX CB e1 e3 q1 q3) {q:K} (hq:btw l h q):btw LO HI q:=by
 have hp:=rise_nil.1 m.rise
 have k1:=m.keys
 have a1:Op.bytesLess q LO=false:=by
  rcases runL_end m.left with ⟨_,e⟩ | ⟨A',e⟩
  ·rw [← e];exact hq.1
  ·have:=(m.btw_ l (by rw [k1,e];simp)).1
   exact nlt_trans this hq.1
 refine ⟨a1,?_⟩
 rcases runR_head m.right with ⟨_,e⟩ | ⟨B',e⟩
 ·rw [← e];exact hq.2
 ·have hm:h∈u.keys:=by rw [k1,e];simp
  have hb:=m.btw_ h hm
  have hh:=rise_ne m.rise h hm
  rcases hq.2 with e2 | e2
  ·exact absurd e2 hh
  ·rcases hb.2 with e3 | e3
   ·exact Or.inl e3
   ·exact Or.inr (less_trans _ _ _ e2 e3)
theorem sub_pair {l l':List K} (h:ND.rise [] l=true) (hs:List.Sublist l' l):l'.Pairwise (fun a b=>Op.bytesLess a b=true):=(rise_nil.1 h).2.sublist hs
theorem Up.sides {nd:Int→Option ND} {key:K}:∀ {r:List St} {h:Nat} {p:Int} {lo hi:K} {pre post:List E} {qs:List Int},Up nd r h p lo hi pre post qs→btw lo hi key →
 (∀ x∈pre,Op.bytesLess x.1 key=true)∧(∀ x∈post,Op.bytesLess key x.1=true)∧btw [] [] key
 | [],_,_,lo,hi,pre,post,qs,⟨a,b,c,d,_⟩,hb=>by
   subst a b c d
   exact ⟨fun x hx=>(by cases hx),fun x hx=>(by cases hx),hb⟩
 | s::r,h,p,lo,hi,pre,post,qs,⟨LO,HI,e1,e3,q1,q3,pre',post',qs',u,v,a1,a2,a3⟩,hb=>by
   subst a1 a2 a3
   obtain ⟨m,_⟩:=u.mid
   obtain ⟨i1,i2,i3⟩:=v.sides (m.wide hb)
   have g:=Sub.good nd (h+1)
   have hkb:=u.keys
   refine ⟨fun x hx=>?_,fun x hx=>?_,i3⟩
   ·rcases List.mem_append.1 hx with e | e
    ·exact i1 x e
    ·have hl:=m.left
     rcases runL_end hl with ⟨e0,_⟩ | ⟨A',e0⟩
     ·rw [e0] at hl
      have hc:=runL_len hl
      have:s.nd.kids.take s.kid=[]:=List.eq_nil_of_length_eq_zero hc
      rw [this] at hl
      rw [hl.2.1] at e
      cases e
     ·rw [e0] at hl
      have hsub:List.Sublist (A'++[lo]) s.nd.keys:=by rw [← e0];exact List.take_sublist _ _
      have hlo:lo≠[]:=rise_ne u.rise lo (hsub.subset (by simp))
      have hpw:=sub_pair u.rise hsub
      rw [List.pairwise_append] at hpw
      obtain ⟨b1,_,_⟩:=run_good g (runL_run hl) (fun k hk=>⟨⟨(hkb k (hsub.subset (by simp [hk]))).1,Or.inr (hpw.2.2 k hk lo (by simp))⟩,rise_ne u.rise k (hsub.subset (by simp [hk]))⟩) hpw.1
      rcases (b1 x e).2 with e9 | e9
      ·exact absurd e9 hlo
      ·exact lt_nlt e9 hb.1
   ·rcases List.mem_append.1 hx with e | e
    ·have hl:=m.right
     rcases runR_head hl with ⟨e0,_⟩ | ⟨B',e0⟩
     ·rw [e0] at hl
      have hc:=runR_len hl
      have:s.nd.kids.drop (s.kid+1)=[]:=List.eq_nil_of_length_eq_zero hc
      rw [this] at hl
      rw [hl.2.1] at e
      cases e
     ·rw [e0] at hl
      have hsub:List.Sublist (hi::B') s.nd.keys:=by rw [← e0];exact List.drop_sublist _ _
      have hhi:hi≠[]:=rise_ne u.rise hi (hsub.subset (by simp))
      have hpw:=sub_pair u.rise hsub
      rw [List.pairwise_cons] at hpw
      obtain ⟨b1,_,_⟩:=run_good g (runR_run hl) (fun k hk=>⟨⟨less_asymm _ _ (hpw.1 k hk),(hkb k (hsub.subset (by simp [hk]))).2⟩,rise_ne u.rise k (hsub.subset (by simp [hk]))⟩) hpw.2
      rcases hb.2 with e9 | e9
      ·exact absurd e9 hhi
      ·exact lt_nlt e9 (b1 x e).1
    ·exact i2 x e
structure Leafed (nd:Int→Option ND) (key:K) (l:List St) (r:List St) (all:List E) (M:List Int) (root:Int) (s:St) (r':List St) (lo hi:K) (es pre post:List E) (qs:List Int):Prop where
 path:l.reverse++r=s::r'
 last:TS.last l=s.nd
 here:nd s.pg=some s.nd
 fits:s.nd.size≤1000
 room:r'≠[]→250<s.nd.size
 keyed:0<s.nd.keys.length
 vn:VN (Sub nd 0) 0 s.nd lo hi es []
 btw_:btw lo hi key
 up:Up nd r' 0 s.pg lo hi pre post qs
 ents:pre++(es++post)=all
 pages:M.Perm (s.pg::([]++qs))
 root_:rootPg s.pg r'=root
theorem last_cons (s:St) {l:List St} (h:l≠[]):TS.last (s::l)=TS.last l:=by
 unfold TS.last
 cases l with
 | nil=>exact absurd rfl h
 | cons x l=>rw [List.getLast?_cons_cons]
theorem way_down {nd:Int→Option ND} {key:K}:∀ (h:Nat) (p:Int) (n:ND) (lo hi:K) (es:List E) (ps:List Int) (r:List St) (pre post:List E) (qs:List Int),
 nd p=some n→n.size≤1000→(r≠[]→250<n.size)→0<n.keys.length→VN (Sub nd h) h n lo hi es ps→btw lo hi key→Up nd r h p lo hi pre post qs →
 ∃ l,wayL nd key (h+1) p=some l∧l.length=h+1∧∃ s r' lo' hi' es' pre' post' qs',Leafed nd key l r (pre++(es++post)) (p::(ps++qs)) (rootPg p r) s r' lo' hi' es' pre' post' qs'
 | 0,p,n,lo,hi,es,ps,r,pre,post,qs,a,b,c,d,v,hb,u=>by
   have hl:n.leaf=true:=v.leaf
   obtain rfl:ps=[]:=v.2
   refine ⟨[⟨p,n,0⟩],?_,rfl,⟨p,n,0⟩,r,lo,hi,es,pre,post,qs,rfl,rfl,a,b,c,d,v,hb,u,rfl,List.Perm.refl _,rfl⟩
   unfold wayL nodeAt
   rw [a]
   dsimp only
   rw [if_pos hl]
 | h+1,p,n,lo,hi,es,ps,r,pre,post,qs,a,b,c,d,v,hb,u=>by
   have hl:n.leaf=false:=v.leaf
   have hrun:=VI.run v
   have hlen:=run_len hrun
   have hkn:=kidN_le key n.keys
   obtain ⟨l,g,k,e1,q1,e2,q2,e3,q3,r1,rfl,rfl,r2,r3,r4,r5,r6⟩:=run_at (kidN key n.keys) hrun (by omega)
   obtain ⟨m,qm,rfl,m1,m2,m3,m4⟩:=r3
   have hgd:n.kids.getD (kidN key n.keys) 0=k:=by rw [List.getD_eq_getElem?_getD,r1];rfl
   have hbk:btw l g key:=by
    constructor
    ·rcases runL_end r2 with ⟨_,e⟩ | ⟨A',e⟩
     ·rw [e];exact hb.1
     ·have hA:A'.length+1=(n.keys.take (kidN key n.keys)).length:=by rw [e];simp
      rw [List.length_take] at hA
      have hx:(n.keys.take (kidN key n.keys))[A'.length]?=some l:=by rw [e];simp
      rw [List.getElem?_take] at hx
      split at hx
      ·exact kidN_before (by assumption) hx
      ·cases hx
    ·rcases runR_head r4 with ⟨_,e⟩ | ⟨B',e⟩
     ·rw [e];exact hb.2
     ·right
      have hx:(n.keys.drop (kidN key n.keys))[0]?=some g:=by rw [e];rfl
      rw [List.getElem?_drop,Nat.add_zero] at hx
      exact kidN_behind hx
   have hup:Up nd (⟨p,n,kidN key n.keys⟩::r) h k l g (pre++e1) (e3++post) (q1++(q3++(p::qs))) :=
    ⟨lo,hi,e1,e3,q1,q3,pre,post,qs,⟨a,b,fun hr=>c (by intro e;subst e;cases hr),d,hl,v.rise,VI.vals v,VI.kids v,hlen,r1,v.keys,r2,r4⟩,u,rfl,rfl,rfl⟩
   obtain ⟨l2,w1,w2,s,r',lo',hi',es',pre',post',qs',w⟩:=way_down h k m l g e2 qm _ _ _ _ m1 m2 (fun _=>m3) (m4.keyed m3) m4 hbk hup
   have hl2:l2≠[]:=by intro e;rw [e] at w2;cases w2
   refine ⟨⟨p,n,kidN key n.keys⟩::l2,?_,by rw [List.length_cons,w2],s,r',lo',hi',es',pre',post',qs',?_⟩
   ·unfold wayL nodeAt
    rw [a]
    dsimp only
    rw [if_pos hl]
    dsimp only
    rw [hgd,w1]
    rfl
   ·refine ⟨?_,(last_cons _ hl2).trans w.last,w.here,w.fits,w.room,w.keyed,w.vn,w.btw_,w.up,?_,?_,by rw [w.root_,rootPg_cons]⟩
    ·rw [List.reverse_cons,List.append_assoc]
     exact w.path
    ·rw [w.ents]
     simp
    ·refine List.Perm.trans ?_ w.pages
     have h1:(p::((q1++(k::qm++q3))++qs)).Perm (k::(qm++(q1++(q3++(p::qs))))):=by
      have h2:(k::(qm++(q1++(q3++(p::qs)))))=(k::(qm++(q1++q3)))++p::qs:=by simp
      rw [h2]
      refine List.Perm.trans ?_ List.perm_middle.symm
      refine List.Perm.cons _ ?_
      refine List.Perm.append_right _ ?_
      have h3:(q1++(k::qm++q3))=(q1++(k::qm))++q3:=by simp
      have h4:(k::(qm++(q1++q3)))=((k::qm)++q1)++q3:=by simp
      rw [h3,h4]
      exact List.Perm.append_right _ List.perm_append_comm
     exact h1
end TT
end Go.Proofs.YtccphijgcapeoaaGreat
