/-
  A part of the proof. Conditions: none.
-/
import Derived.Test.YtfiflinbicbedaaGreatZR3

set_option maxRecDepth 20000
set_option maxHeartbeats 12800000
namespace Go.Proofs.YtfiflinbicbedaaGreat
section
namespace TT
open ND TS
section
variable {S:R}
theorem runL_end:∀ {ks:List K} {cs:List Int} {lo l:K} {es:List E} {qs:List Int},RunL S lo ks cs l es qs->(ks=[]/\l=lo)\/∃ ks',ks=ks'++[l]
 | [],[],lo,l,es,qs,h=>Or.inl ⟨rfl,h.1⟩
 | k::ks,c::cs,lo,l,es,qs,h=>by
   obtain ⟨e1,q1,e2,q2,_,_,_,h4⟩:=h;rcases runL_end h4 with ⟨rfl,rfl⟩ | ⟨ks',rfl⟩
   ·exact Or.inr ⟨[],rfl⟩
   ·exact Or.inr ⟨k::ks',rfl⟩
 | [],_::_,_,_,_,_,h=>h.elim
 | _::_,[],_,_,_,_,h=>h.elim
theorem runR_head:∀ {ks:List K} {cs:List Int} {h hi:K} {es:List E} {qs:List Int},RunR S h hi ks cs es qs->(ks=[]/\h=hi)\/∃ ks',ks=h::ks'
 | [],[],h,hi,es,qs,r=>Or.inl ⟨rfl,r.1⟩
 | k::ks,c::cs,h,hi,es,qs,r=>Or.inr ⟨ks,by rw [r.1]⟩
 | [],_::_,_,_,_,_,h=>h.elim
 | _::_,[],_,_,_,_,h=>h.elim
theorem run_strict (g:GoodR S) {k:K} {ks:List K} {cs:List Int} {lo hi:K} {es:List E} {qs:List Int} (hk:k≠[]) (r:Run S lo hi (k::ks) cs es qs):Op.bytesLess lo k=true:=by
 cases cs with
 | nil=>exact r.elim
 | cons c cs =>
   obtain ⟨e1,q1,e2,q2,_,_,h3,_⟩:=r;obtain ⟨a,_,b⟩:=g _ _ _ _ _ h3;cases e1 with
   | nil=>simp at b
   | cons x l =>
     have:=a x (by simp);rcases this.2 with e | e
     ·exact absurd e hk
     ·exact nlt_lt this.1 e
end
theorem VN.join {S:R} (g:GoodR S) {h:Nat} {a b:ND} {lo k hi:K} {e1 e2:List E} {q1 q2:List Int} (v:VN S h a lo k e1 q1) (w:VN S h b k hi e2 q2) (hk:btw lo hi k) (hk1:k≠[]) (hk2:k.length<=120) :
 VN S h (a.join k b) lo hi (e1++e2) (q1++q2):=by
 have va:=v.keys;have wb:=w.keys;have ra:=rise_nil.1 v.rise;have rb:=rise_nil.1 w.rise;have h1:1<=k.length:=by
  cases k with
  | nil=>exact absurd rfl hk1
  | cons x l=>simp
 cases h with
 | zero =>
   obtain ⟨⟨l1,l2,l3,l4,l5,l6,rfl⟩,rfl⟩:=v;obtain ⟨⟨m1,m2,m3,m4,m5,m6,rfl⟩,rfl⟩:=w;unfold ND.join;rw [l1,if_pos rfl,wc5];refine ⟨⟨rfl,?_,?_,?_,?_,?_,?_⟩,rfl⟩
   ·rw [rise_nil]
    refine ⟨fun t ht=>?_,?_⟩
    ·rcases wb0.1 ht with e | e
     ·exact ra.1 t e
     ·exact rb.1 t e
    ·rw [wc3]
     exact ⟨ra.2,rb.2,fun x hx y hy=>btw_less hk1 (va x hx) (wb y hy)⟩
   ·dsimp only
    rw [wa6,wa6,l3,m3]
   ·dsimp only
    rw [List.all_append,l4,m4];rfl
   ·dsimp only
    rw [l5,m5];rfl
   ·intro x hx
    rcases wb0.1 hx with e | e
    ·exact btw_hi hk hk1 (va x e)
    ·exact btw_lo hk (wb x e)
   ·dsimp only
    rw [List.zip_append l3.symm]
 | succ h =>
   obtain ⟨l1,l2,l3,l4,l5,l6⟩:=v;obtain ⟨m1,m2,m3,m4,m5,m6⟩:=w;unfold ND.join;rw [l1,if_neg (show ¬ (false=true) by decide),wb9,List.singleton_append];have hlt:∀ y∈b.keys,Op.bytesLess k y=true:=by
    intro y hy;cases hb:b.keys with
    | nil=>rw [hb] at hy;cases hy
    | cons z r =>
      rw [hb] at hy m6;have hz:z≠[]:=rise_ne m2 z (by rw [hb];simp);have s1:=run_strict g hz m6;rcases wb6.1 hy with rfl | hy
      ·exact s1
      ·have:=rb.2
       rw [hb,wd1] at this;exact Qq _ _ _ s1 (this.1 y hy)
   refine ⟨rfl,?_,?_,?_,?_,run_app l6 m6⟩
   ·rw [rise_nil]
    refine ⟨fun t ht=>?_,?_⟩
    ·rcases wb0.1 ht with e | e
     ·exact ra.1 t e
     ·rcases wb6.1 e with rfl | e
      ·exact ⟨h1,hk2⟩
      ·exact rb.1 t e
    ·rw [wc3,wd1]
     refine ⟨ra.2,⟨hlt,rb.2⟩,fun x hx y hy=>?_⟩;have hxk:Op.bytesLess x k=true:=by
      rcases (va x hx).2 with e | e
      ·exact absurd e hk1
      ·exact e
     rcases wb6.1 hy with rfl | hy
     ·exact hxk
     ·exact Qq _ _ _ hxk (hlt y hy)
   ·dsimp only
    rw [l3,m3];rfl
   ·dsimp only
    rw [List.all_append,l4,m4];rfl
   ·intro x hx
    rcases wb0.1 hx with e | e
    ·exact btw_hi hk hk1 (va x e)
    ·rcases wb6.1 e with rfl | e
     ·exact hk
     ·exact btw_lo hk (wb x e)
theorem tsz_append (a b:List K):tsz (a++b)=tsz a+tsz b:=by
 unfold tsz;rw [tsl_append,wa6];omega
theorem join_size {a b:ND} {k:K}:(a.join k b).size+2<=a.size+b.size+(if a.leaf then 0 else 1+k.length):=by
 unfold ND.join ND.size;dsimp only;rw [tsz_append,tsz_append,tsz_append,wa6];cases a.leaf with
 | true=>simp [tsz,tsl];omega
 | false=>simp [tsz,tsl];omega
theorem rep_mid {α:Type} (A X B o:List α):rep (A++(X++B)) A.length (A.length+X.length) o=A++o++B:=by
 unfold rep;rw [List.take_left' rfl,<- wb9,List.drop_left' (by rw [wa6])]
structure Mid (S:R) (u:ND) (LO HI l h:K) (A X B:List K) (CA CX CB:List Int) (e1 e3:List E) (q1 q3:List Int):Prop where
 keys:u.keys=A++(X++B)
 kids:u.kids=CA++(CX++CB)
 leaf:u.leaf=false
 rise:ND.rise [] u.keys=true
 vals:u.vals=[]
 kidb:u.kids.all kidB=true
 btw_:∀ k∈u.keys,btw LO HI k
 len:CX.length=X.length+1
 left:RunL S LO A CA l e1 q1
 right:RunR S h HI B CB e3 q3
def KeyIn (lo hi k:K):Prop:=btw lo hi k/\Op.bytesLess lo k=true/\k≠[]/\k.length<=120
theorem Mid.put {S S':R} {u:ND} {LO HI l h:K} {A X B:List K} {CA CX CB:List Int} {e1 e2 e3:List E} {q1 q2 q3:List Int} (m:Mid S u LO HI l h A X B CA CX CB e1 e3 q1 q3) {ks:List K} {cs:List Int}
 (hS:∀ c lo hi e q,(∀ x∈q,x∈q1\/x∈q3)->S c lo hi e q->S' c lo hi e q) (r:Run S' l h ks cs e2 q2) (hk:∀ k∈ks,KeyIn l h k) (h1:ks.length<=1) (hc:cs.all kidB=true) :
 VI S' (u.replace (A.length:Nat) ((A.length+CX.length:Nat):Int) cs ks) LO HI (e1++(e2++e3)) (q1++(q2++q3))/\(u.replace (A.length:Nat) ((A.length+CX.length:Nat):Int) cs ks).keys=A++ks++B /\
  (u.replace (A.length:Nat) ((A.length+CX.length:Nat):Int) cs ks).size+tsz X<=u.size+tsz ks+4*ks.length:=by
 obtain ⟨k1,k2,k3,k4,k5,k6,k7,k8,k9,k10⟩:=m;have hcs:=run_len r;have hA:=runL_len k9;have hB:=runR_len k10;have hmay:u.mayR (A.length:Nat) ((A.length+CX.length:Nat):Int) cs ks=true:=by
  unfold mayR;rw [k2,wa6,wa6,decide_eq_true (by omega),decide_eq_true (by omega),decide_eq_true (by omega),decide_eq_true (by omega)];rfl
 have hrep:u.replace (A.length:Nat) ((A.length+CX.length:Nat):Int) cs ks=⟨false,A++ks++B,[],CA++cs++CB⟩:=by
  unfold ND.replace;rw [if_pos hmay,k3,k5,k1,k2];have a1:((A.length:Nat):Int).toNat=A.length:=Int.toNat_natCast _;have a2:((A.length+CX.length:Nat):Int).toNat=A.length+CX.length:=Int.toNat_natCast _;rw [a1,a2,show A.length+CX.length - 1=A.length+X.length by omega,rep_mid,<- hA,rep_mid]
 rw [hrep];have hp:=rise_nil.1 k4;rw [k1] at hp;obtain ⟨hp1,hp2⟩:=hp;rw [wc3,wc3] at hp2;obtain ⟨pA,⟨pX,pB,pXB⟩,pAXB⟩:=hp2;have hAk:∀ a∈A,∀ k∈ks,Op.bytesLess a k=true:=by
  intro a ha k hk';rcases runL_end k9 with ⟨e,_⟩ | ⟨A',e⟩
  ·rw [e] at ha;cases ha
  ·rw [e] at ha pA
   rw [wc3] at pA;rcases wb0.1 ha with e1 | e1
   ·exact Qq _ _ _ (pA.2.2 a e1 l (by simp)) (hk k hk').2.1
   ·rw [wa4.1 e1]
    exact (hk k hk').2.1
 have hkB:∀ k∈ks,∀ b∈B,Op.bytesLess k b=true:=by
  intro k hk' b hb;rcases runR_head k10 with ⟨e,_⟩ | ⟨B',e⟩
  ·rw [e] at hb;cases hb
  ·have hh:h≠[]:=by
    have:=(hp1 h (by rw [e];simp)).1;intro e2;rw [e2] at this;simp at this
   have h2:Op.bytesLess k h=true:=by
    rcases (hk k hk').1.2 with e2 | e2
    ·exact absurd e2 hh
    ·exact e2
   rw [e] at hb pB;rcases wb6.1 hb with rfl | hb
   ·exact h2
   ·exact Qq _ _ _ h2 ((wd1.1 pB).1 b hb)
 have hks:ks.Pairwise (fun a b=>Op.bytesLess a b=true):=by
  match ks,h1 with
  | [],_=>exact List.Pairwise.nil
  | [k],_=>simp
 have hlo:∀ q,btw l h q->btw LO HI q:=by
  intro q hq;have a1:Op.bytesLess q LO=false:=by
   rcases runL_end k9 with ⟨_,e⟩ | ⟨A',e⟩
   ·rw [<- e];exact hq.1
   ·have:=(k7 l (by rw [k1,e];simp)).1
    exact nlt_trans this hq.1
  refine ⟨a1,?_⟩;rcases runR_head k10 with ⟨_,e⟩ | ⟨B',e⟩
  ·rw [<- e];exact hq.2
  ·have hb:=k7 h (by rw [k1,e];simp)
   have hh:h≠[]:=by
    have:=(hp1 h (by rw [e];simp)).1;intro e2;rw [e2] at this;simp at this
   rcases hq.2 with e2 | e2
   ·exact absurd e2 hh
   ·rcases hb.2 with e3 | e3
    ·exact Or.inl e3
    ·exact Or.inr (Qq _ _ _ e2 e3)
 refine ⟨⟨rfl,?_,rfl,?_,?_,?_⟩,rfl,?_⟩
 ·rw [rise_nil]
  refine ⟨fun t ht=>?_,?_⟩
  ·rcases wb0.1 ht with e | e
   ·rcases wb0.1 e with e | e
    ·exact hp1 t (by simp [e])
    ·obtain ⟨_,_,x3,x4⟩:=hk t e
     refine ⟨?_,x4⟩;cases t with
     | nil=>exact absurd rfl x3
     | cons x l=>simp
   ·exact hp1 t (by simp [e])
  ·dsimp only
   rw [wc3,wc3];refine ⟨⟨pA,hks,hAk⟩,pB,fun x hx y hy=>?_⟩;rcases wb0.1 hx with e | e
   ·exact pAXB x e y (by simp [hy])
   ·exact hkB x e y hy
 ·dsimp only
  rw [k2] at k6;simp only [List.all_append,Bool.and_eq_true] at k6 ⊢;exact ⟨⟨k6.1,hc⟩,k6.2.2⟩
 ·intro q hq
  rcases wb0.1 hq with e | e
  ·rcases wb0.1 e with e | e
   ·exact k7 q (by rw [k1];simp [e])
   ·exact hlo q (hk q e).1
  ·exact k7 q (by rw [k1];simp [e])
 ·have a1:=runL_mono k9 (fun c lo hi e q hq=>hS c lo hi e q (fun x hx=>Or.inl (hq x hx)))
  have a2:=runR_mono k10 (fun c lo hi e q hq=>hS c lo hi e q (fun x hx=>Or.inr (hq x hx)));have:=run_left a1 (run_right r a2);simpa [List.append_assoc] using this
 ·unfold ND.size
  dsimp only;rw [k1,k2,k5,tsz_append,tsz_append,tsz_append,tsz_append];simp only [List.length_append];have:tsz ([]:List K)=0:=rfl;omega
structure UpS (nd:Int->Option ND) (s:St) (h:Nat) (root:Bool) (p:Int) (LO HI lo hi:K) (e1 e3:List E) (q1 q3:List Int):Prop where
 here:nd s.pg=some s.nd
 fits:s.nd.size<=1000
 room:root=false->250<s.nd.size
 keyed:0<s.nd.keys.length
 leaf:s.nd.leaf=false
 rise:ND.rise [] s.nd.keys=true
 vals:s.nd.vals=[]
 kids:s.nd.kids.all kidB=true
 len:s.nd.kids.length=s.nd.keys.length+1
 kid:s.nd.kids[s.kid]?=some p
 keys:∀ k∈s.nd.keys,btw LO HI k
 left:RunL (Sub nd h) LO (s.nd.keys.take s.kid) (s.nd.kids.take s.kid) lo e1 q1
 right:RunR (Sub nd h) hi HI (s.nd.keys.drop s.kid) (s.nd.kids.drop (s.kid+1)) e3 q3
def Up (nd:Int->Option ND):List St->Nat->Int->K->K->List E->List E->List Int->Prop
 | [],_,_,lo,hi,pre,post,qs=>lo=[]/\hi=[]/\pre=[]/\post=[]/\qs=[]
 | s::r,h,p,lo,hi,pre,post,qs=>∃ LO HI e1 e3 q1 q3 pre' post' YR,UpS nd s (h+1) r.isEmpty p LO HI lo hi e1 e3 q1 q3/\Up nd r (h+1) s.pg LO HI pre' post' YR /\
    pre=pre'++e1/\post=e3++post'/\qs=q1++(q3++(s.pg::YR))
section
variable {nd nd':Int->Option ND}
theorem UpS.frame {s:St} {h:Nat} {root:Bool} {p:Int} {LO HI lo hi:K} {e1 e3:List E} {q1 q3:List Int} (u:UpS nd s h root p LO HI lo hi e1 e3 q1 q3) (f:∀ x∈q1++(q3++[s.pg]),nd' x=nd x):UpS nd' s h root p LO HI lo hi e1 e3 q1 q3 :=
 ⟨(f _ (by simp)).trans u.here,u.fits,u.room,u.keyed,u.leaf,u.rise,u.vals,u.kids,u.len,u.kid,u.keys,
   runL_mono u.left (fun _ _ _ _ _ hq hs=>hs.frame (fun x hx=>f x (by simp [hq x hx]))),
   runR_mono u.right (fun _ _ _ _ _ hq hs=>hs.frame (fun x hx=>f x (by simp [hq x hx])))⟩
theorem Up.frame:∀ {r:List St} {h:Nat} {p:Int} {lo hi:K} {pre post:List E} {qs:List Int},Up nd r h p lo hi pre post qs->(∀ x∈qs,nd' x=nd x)->Up nd' r h p lo hi pre post qs
 | [],_,_,_,_,_,_,_,u,_=>u
 | s::r,h,p,lo,hi,pre,post,qs,⟨LO,HI,e1,e3,q1,q3,pre',post',YR,u,v,a,b,c⟩,f=>by
   subst c;refine ⟨LO,HI,e1,e3,q1,q3,pre',post',YR,u.frame (fun x hx=>f x ?_),v.frame (fun x hx=>f x (by simp [hx])),a,b,rfl⟩;rcases wb0.1 hx with e | e
   ·simp [e]
   ·rcases wb0.1 e with e | e
    ·simp [e]
    ·simp [List.mem_singleton.1 e]
theorem UpS.mid {s:St} {h:Nat} {root:Bool} {p:Int} {LO HI lo hi:K} {e1 e3:List E} {q1 q3:List Int} (u:UpS nd s h root p LO HI lo hi e1 e3 q1 q3) :
 Mid (Sub nd h) s.nd LO HI lo hi (s.nd.keys.take s.kid) [] (s.nd.keys.drop s.kid) (s.nd.kids.take s.kid) [p] (s.nd.kids.drop (s.kid+1)) e1 e3 q1 q3/\(s.nd.keys.take s.kid).length=s.kid:=by
 obtain ⟨h1,h2⟩:=wa8.1 u.kid;have hl:=u.len;refine ⟨⟨by simp,?_,u.leaf,u.rise,u.vals,u.kids,u.keys,rfl,u.left,u.right⟩,by rw [wb8];omega⟩
 conv=>lhs;rw [<- wb7 s.kid s.nd.kids]
 rw [wc4 h1,h2];rfl
def rootPg (p:Int) (r:List St):Int:=(r.getLast?.map St.pg).getD p
theorem rootPg_cons (p:Int) (s:St) (r:List St):rootPg p (s::r)=rootPg s.pg r:=by
 unfold rootPg;cases r with
 | nil=>rfl
 | cons x r =>
   rw [List.getLast?_cons_cons];cases hl:(x::r).getLast? with
   | none=>simp at hl
   | some y=>rfl
theorem Up.close:∀ {r:List St} {h:Nat} {p:Int} {n:ND} {lo hi:K} {pre es post:List E} {ps qs:List Int},Up nd r h p lo hi pre post qs->nd p=some n->n.size<=1000->(r≠[]->250<n.size)->0<n.keys.length->VN (Sub nd h) h n lo hi es ps ->
 ∃ m ms,nd (rootPg p r)=some m/\m.size<=1000/\0<m.keys.length/\VN (Sub nd (h+r.length)) (h+r.length) m [] [] (pre++(es++post)) ms/\(p::(ps++qs)).Perm (rootPg p r::ms)
 | [],h,p,n,lo,hi,pre,es,post,ps,qs,u,a,b,_,c,v=>by
   obtain ⟨rfl,rfl,rfl,rfl,rfl⟩:=u;refine ⟨n,ps,a,b,c,?_,?_⟩
   ·simpa using v
   ·rw [wc5]
    exact List.Perm.refl _
 | s::r,h,p,n,lo,hi,pre,es,post,ps,qs,⟨LO,HI,e1,e3,q1,q3,pre',post',YR,u,w,a1,a2,a3⟩,a,b,b2,c,v=>by
   subst a1 a2 a3;obtain ⟨m,hm⟩:=u.mid;have hs:Sub nd (h+1) p lo hi es (p::ps):=⟨n,ps,rfl,a,b,b2 (by simp),v⟩;have hv:VN (Sub nd (h+1)) (h+1) s.nd LO HI (e1++(es++e3)) (q1++((p::ps)++q3)):=by
    have hr:Run (Sub nd (h+1)) lo hi [] [p] es (p::ps):=hs;have:=run_left m.left (run_right hr m.right);have e1':s.nd.keys.take s.kid++([]++s.nd.keys.drop s.kid)=s.nd.keys:=m.keys.symm;have e2':s.nd.kids.take s.kid++([p]++s.nd.kids.drop (s.kid+1))=s.nd.kids:=m.kids.symm;rw [e1',e2'] at this;exact ⟨u.leaf,u.rise,u.vals,u.kids,u.keys,this⟩
   obtain ⟨m',ms,g1,g2,g3,g4,g5⟩:=w.close u.here u.fits (fun hr=>u.room (by cases r with
    | nil=>exact absurd rfl hr
    | cons x l=>rfl)) u.keyed hv
   refine ⟨m',ms,by rw [rootPg_cons];exact g1,g2,g3,?_,?_⟩
   ·have e:h+(s::r).length=h+1+r.length:=by rw [wb4];omega
    rw [e];simpa [List.append_assoc] using g4
   ·rw [rootPg_cons]
    refine List.Perm.trans ?_ g5;have:(p::(ps++(q1++(q3++s.pg::YR)))).Perm (s.pg::((p::ps)++(q1++(q3++YR)))):=by
     have h1:(p::(ps++(q1++(q3++s.pg::YR))))=(p::ps++q1++q3)++s.pg::YR:=(by simp);rw [h1];refine wf3.trans ?_;simp
    refine this.trans (List.Perm.cons _ ?_);have h2:(((p::ps)++q1)++(q3++YR)).Perm ((q1++(p::ps))++(q3++YR)):=List.Perm.append_right _ wg2;rw [wb9,wb9] at h2;simpa only [List.append_assoc] using h2
end
end TT
namespace TT
open ND TS
section
variable {O:List Int} {nd0:Int->Option ND} {t:TS}
theorem zero_same {n:ND} (h:0<n.keys.length):ND.zero.sameB n=false:=by
 refine ND.sameB_no (fun e=>?_);rw [<- e] at h;simp [ND.zero] at h
theorem encE_of {S:R} {h:Nat} {n:ND} {lo hi:K} {es:List E} {qs:List Int} (v:VN S h n lo hi es qs) (h1:250<n.size) (h2:n.size<=1000):n.encE=0/\ND.zero.sameB n=false/\n.ok=true :=
 ⟨encE_fits (v.ok (Or.inr (v.keyed h1))) h2,zero_same (v.keyed h1),v.ok (Or.inr (v.keyed h1))⟩
structure LaidP (O:List Int) (nd0:Int->Option ND) (t:TS) (M0 M:List Int) (h:Nat) (n:ND) (lo hi:K) (es:List E) (qs:List Int) (t':TS) (ps':List Int):Prop where
 did:Did O nd0 t M0 2 t' (ps'++M)
 run:Run (Sub t'.nd (h+1)) lo hi (partsK n) qs es ps'
 keys:∀ k∈partsK n,KeyIn lo hi k
 one:(partsK n).length<=1
 kids:qs.all kidB=true
 else_:∀ x∈M,t'.nd x=t.nd x
theorem kids_of {t':TS} {L qs:List Int} (hz:t'.z<=2147483647) (a:Acc O nd0 t' L) (h:∀ q∈qs,q∈L):qs.all kidB=true:=by
 rw [wd4];intro q hq;have:=a.top (h q hq);unfold kidB;rw [decide_eq_true this.1,decide_eq_true (by omega)];rfl
theorem lay_parts {old:List (Int×ND)} {h:Nat} {n:ND} {lo hi:K} {es:List E} {ps M:List Int} (hz:t.z<=2147483647) (acc:Acc O nd0 t (old.map Prod.fst++(ps++M))) (ho:∀ x∈old,t.nd x.1=some x.2)
 (v:VN (Sub t.nd h) h n lo hi es ps) (h1:250<n.size) (h2:Most n) :
 (∃ t',t.lay old (partsN n)=(81,[],t')/\Full t (old.map Prod.fst++(ps++M)) 2 81)\/∃ qs t' ps',t.lay old (partsN n)=(0,qs,t')/\LaidP O nd0 t (old.map Prod.fst++(ps++M)) M h n lo hi es qs t' ps':=by
 by_cases hs:n.size<=1000
 ·have ep:partsN n=[n]:=if_pos hs
  have ek:partsK n=[]:=if_pos hs;obtain ⟨c1,c2,_⟩:=encE_of v h1 hs;rw [ep];rcases acc.lay (ns:=[n]) ho (by
   intro m hm;rw [wa4.1 hm];exact ⟨c1,c2⟩) with ⟨t',e,f⟩ | ⟨qs,t',e,d⟩
  ·exact Or.inl ⟨t',e,f.up (by simp)⟩
  ·right
   obtain ⟨q,hq,hn⟩:=d.here 0 n rfl;obtain rfl:qs=[q]:=by
    have hl:=d.len
    match qs,hl with
    | [x],_=>simpa using hq
   have qk2:=d.did.acc.once;have hout:∀ x∈ps++M,t'.nd x=t.nd x:=fun x hx=>d.else_ x (fun e=>by
    rw [wa4.1 e] at hx;exact (we3.1 qk2).1 hx)
   refine ⟨[q],t',q::ps,e,d.did.up (by simp),?_,by rw [ek];simp,by rw [ek];simp,?_,fun x hx=>hout x (by simp [hx])⟩
   ·rw [ek]
    exact ⟨n,ps,rfl,hn,hs,h1,v.frame (fun x hx=>hout x (by simp [hx]))⟩
   ·exact kids_of (by rw [d.did.z_];exact hz) d.did.acc (fun x hx=>by
     rw [wa4.1 hx];simp)
 ·have ep:partsN n=[n.splitL,n.splitR]:=if_neg hs
  have ek:partsK n=[n.splitK]:=if_neg hs;obtain ⟨⟨k1,k2,k3,k4⟩,hv,e1,q1,e2,q2,rfl,rfl,vl,vr⟩:=v.parts (by omega) h2;obtain ⟨c1,c2,_⟩:=encE_of vl hv.l1 hv.l2;obtain ⟨c3,c4,_⟩:=encE_of vr hv.r1 hv.r2;rw [ep];rcases acc.lay (ns:=[n.splitL,n.splitR]) ho (by
   intro m hm;rcases wb6.1 hm with rfl | hm
   ·exact ⟨c1,c2⟩
   ·rw [wa4.1 hm]
    exact ⟨c3,c4⟩) with ⟨t',e,f⟩ | ⟨qs,t',e,d⟩
  ·exact Or.inl ⟨t',e,f.up (by simp)⟩
  ·right
   obtain ⟨a,ha,hna⟩:=d.here 0 _ rfl;obtain ⟨b,hb,hnb⟩:=d.here 1 _ rfl;obtain rfl:qs=[a,b]:=by
    have hl:=d.len
    match qs,hl with
    | [x,y],_ =>
      have e1:x=a:=(by simpa using ha);have e2:y=b:=(by simpa using hb);rw [e1,e2]
   have qk2:=d.did.acc.once;have hout:∀ x∈(q1++q2)++M,t'.nd x=t.nd x:=fun x hx=>d.else_ x (fun e=>by
    rw [List.nodup_append] at qk2;exact qk2.2.2 x e x hx rfl)
   have hp:([a,b]++((q1++q2)++M)).Perm (((a::q1)++(b::q2))++M):=by
    rw [<- wb9];refine List.Perm.append_right _ ?_;simp only [List.cons_append,List.nil_append];exact List.Perm.cons _ wf3.symm
   refine ⟨[a,b],t',(a::q1)++(b::q2),e,(d.did.perm (List.Perm.refl _) hp).up (by simp),?_,?_,by rw [ek];simp,?_,fun x hx=>hout x (by simp [hx])⟩
   ·rw [ek]
    refine ⟨e1,a::q1,e2,b::q2,rfl,rfl,?_,?_⟩
    ·exact ⟨n.splitL,q1,rfl,hna,hv.l2,hv.l1,vl.frame (fun x hx=>hout x (by simp [hx]))⟩
    ·exact ⟨n.splitR,q2,rfl,hnb,hv.r2,hv.r1,vr.frame (fun x hx=>hout x (by simp [hx]))⟩
   ·rw [ek]
    intro k hk;rw [wa4.1 hk];exact ⟨k1,k4,k2,k3⟩
   ·exact kids_of (by rw [d.did.z_];exact hz) d.did.acc (fun x hx=>by
     rcases wb6.1 hx with rfl | hx
     ·simp
     ·rw [wa4.1 hx]
      simp)
structure Settled (O:List Int) (nd0:Int->Option ND) (t:TS) (M0 M:List Int) (h:Nat) (u:ND) (LO HI:K) (es:List E) (n':ND) (t':TS) (ps':List Int):Prop where
 did:Did O nd0 t M0 2 t' (ps'++M)
 vn:VN (Sub t'.nd (h+1)) (h+1) n' LO HI es ps'
 size:n'.size<=u.size+125
 keyed:u.keys.length<=n'.keys.length+1
 else_:∀ x∈M,t'.nd x=t.nd x
theorem tsz_one (k:K):tsz [k]=1+k.length:=by simp [tsz,tsl]
theorem Mid.fin {u:ND} {LO HI l g:K} {A X B:List K} {CA CX CB:List Int} {e1 e3 es:List E} {q1 q3 ps M:List Int} {h:Nat} {n:ND} {old:List (Int×ND)} (hz:t.z<=2147483647)
 (m:Mid (Sub t.nd (h+1)) u LO HI l g A X B CA CX CB e1 e3 q1 q3) (hX:X.length<=1) (hold:old.length=CX.length) (acc:Acc O nd0 t (old.map Prod.fst++(ps++((q1++q3)++M)))) (ho:∀ x∈old,t.nd x.1=some x.2)
 (v:VN (Sub t.nd h) h n l g es ps) (h1:250<n.size) (h2:Most n) :
 (∃ t',t.fin u A.length old n=(81,ND.zero,t')/\Full t (old.map Prod.fst++(ps++((q1++q3)++M))) 2 81) \/
   ∃ n' t' ps',t.fin u A.length old n=(0,n',t')/\Settled O nd0 t (old.map Prod.fst++(ps++((q1++q3)++M))) M h u LO HI (e1++(es++e3)) n' t' ps':=by
 unfold TS.fin;rcases lay_parts hz acc ho v h1 h2 with ⟨t',e,f⟩ | ⟨qs,t',ps',e,d⟩
 ·left
  rw [e,if_neg (show ¬ (81:Int)=0 by decide)];exact ⟨t',rfl,f⟩
 ·right
  rw [e,if_pos rfl,hold];have hel:=d.else_;obtain ⟨g1,g2,g3⟩:=m.put (S':=Sub t'.nd (h+1)) (fun c lo hi e q hq hs=>hs.frame (fun x hx=>hel x (by
   rcases hq x hx with e | e
   ·simp [e]
   ·simp [e]))) d.run d.keys d.one d.kids
  refine ⟨u.replace (A.length:Nat) ((A.length+CX.length:Nat):Int) qs (partsK n),t',q1++(ps'++q3),rfl,d.did.perm (List.Perm.refl _) ?_,g1,?_,?_,fun x hx=>hel x (by simp [hx])⟩
  ·have h3:((ps'++q1)++(q3++M)).Perm ((q1++ps')++(q3++M)):=List.Perm.append_right _ wg2
   simpa only [List.append_assoc] using h3
  ·have:tsz (partsK n)+4*(partsK n).length<=125:=by
    have hk:=d.keys;have ho:=d.one
    match hp:partsK n,ho with
    | [],_=>simp [tsz,tsl]
    | [k],_ =>
      rw [hp] at hk;have:=(hk k (by simp)).2.2.2;rw [tsz_one];simp;omega
   omega
  ·rw [g2,m.keys]
   simp only [List.length_append];omega
theorem UpS.settle {s:St} {h:Nat} {root:Bool} {p:Int} {o n:ND} {LO HI lo hi:K} {e1 e3 es:List E} {q1 q3 ps M:List Int} (hz:t.z<=2147483647) (u:UpS t.nd s (h+1) root p LO HI lo hi e1 e3 q1 q3)
 (acc:Acc O nd0 t (p::(ps++((q1++q3)++M)))) (hp:t.nd p=some o) (v:VN (Sub t.nd h) h n lo hi es ps) (hm:n.size<=if n.leaf then 1222 else 1125) :
 (∃ t',t.settle s.nd s.kid (p,o) n=(81,ND.zero,t')/\Full t (p::(ps++((q1++q3)++M))) 2 81) \/
   ∃ n' t' ps',t.settle s.nd s.kid (p,o) n=(0,n',t')/\Settled O nd0 t (p::(ps++((q1++q3)++M))) M h s.nd LO HI (e1++(es++e3)) n' t' ps':=by
 obtain ⟨hkl,hkc⟩:=wa8.1 u.kid;have hlen:=u.len;have hrise:=u.rise;have hkeys:=rise_nil.1 hrise;unfold TS.settle;by_cases hlow:n.size<300
 ·rw [if_pos hlow]
  by_cases hi1:s.kid<s.nd.keys.length
  ·-- the next one
   rw [if_pos hi1];have ek:s.nd.keys.drop s.kid=s.nd.keys[s.kid]::s.nd.keys.drop (s.kid+1):=wc4 hi1;have ec:s.nd.kids.drop (s.kid+1)=s.nd.kids[s.kid+1]::s.nd.kids.drop (s.kid+1+1):=wc4 (by omega);have hr:=u.right;rw [ek,ec] at hr;have gk:s.nd.keys.getD s.kid []=s.nd.keys[s.kid]:=by rw [wa7,wb1 hi1];rfl
   have gc:s.nd.kids.getD (s.kid+1) 0=s.nd.kids[s.kid+1]:=by rw [wa7,wb1 (show s.kid+1<s.nd.kids.length by omega)];rfl
   rw [gk,gc];have JV:s.nd.keys[s.kid]∈s.nd.keys:=List.getElem_mem hi1;generalize hkk:s.nd.keys[s.kid]=k at *;generalize hcc:s.nd.kids[s.kid+1]=c at *;obtain ⟨rfl,g,a1,b1,a2,b2,rfl,rfl,hs,hr2⟩:=hr;obtain ⟨m,qm,rfl,m1,m2,m3,m4⟩:=hs;have hk1:hi≠[]:=by
    have:=(hkeys.1 hi JV).1;intro e;rw [e] at this;simp at this
   have qt3:t.kidOf s.nd (s.kid+1)=m:=by
    unfold TS.kidOf;rw [gc,m1];rfl
   rw [qt3];have hbk:btw lo g hi:=by
    constructor
    ·rcases runL_end u.left with ⟨_,e⟩ | ⟨A',e⟩
     ·rw [e]
      exact (u.keys hi JV).1
     ·have hx:s.nd.keys=(A'++[lo])++s.nd.keys.drop s.kid:=by rw [<- e,wb7]
      have hp2:=hkeys.2;rw [hx,wc3] at hp2;exact Xi _ _ (hp2.2.2 lo (by simp) hi (by rw [ek];simp))
    ·rcases runR_head hr2 with ⟨_,e⟩ | ⟨B',e⟩
     ·rw [e]
      exact (u.keys hi JV).2
     ·right
      have hp2:=hkeys.2;have hx:s.nd.keys=s.nd.keys.take s.kid++(hi::g::B'):=(by rw [<- e,<- ek,wb7]);rw [hx,wc3] at hp2;exact (wd1.1 hp2.2.1).1 g (by simp)
   have vj:=v.join (Sub.good t.nd h) m4 hbk hk1 (hkeys.1 hi JV).2;have hjs:=join_size (a:=n) (b:=m) (k:=hi);have qS2:=(hkeys.1 hi JV).2;have Gy:(n.join hi m).leaf=n.leaf:=rfl;have mid:Mid (Sub t.nd (h+1)) s.nd LO HI lo g (s.nd.keys.take s.kid) [hi] (s.nd.keys.drop (s.kid+1)) (s.nd.kids.take s.kid) [p,c] (s.nd.kids.drop (s.kid+1+1)) e1 a2 q1 b2:=by
    refine ⟨?_,?_,u.leaf,u.rise,u.vals,u.kids,u.keys,rfl,u.left,hr2⟩
    ·rw [List.singleton_append,<- ek,wb7]
    ·have h3:s.nd.kids.drop s.kid=p::s.nd.kids.drop (s.kid+1):=by rw [wc4 hkl,hkc]
     rw [show [p,c]++s.nd.kids.drop (s.kid+1+1)=p::(c::s.nd.kids.drop (s.kid+1+1)) from rfl,<- ec,<- h3,wb7]
   have hA:(s.nd.keys.take s.kid).length=s.kid:=by rw [wb8];omega
   have hperm:(p::(ps++((q1++(c::qm++b2))++M))).Perm (p::(c::((ps++qm)++((q1++b2)++M)))):=by
    refine List.Perm.cons _ ?_;have h4:(ps++((q1++(c::qm++b2))++M))=(ps++q1)++c::(qm++b2++M):=(by simp);rw [h4];refine wf3.trans (List.Perm.cons _ ?_);have h5:(ps++(q1++qm)++(b2++M)).Perm (ps++(qm++q1)++(b2++M)):=List.Perm.append_right _ (List.Perm.append_left _ wg2);simpa only [List.append_assoc] using h5
   have hfin:=mid.fin (O:=O) (nd0:=nd0) (ps:=ps++qm) (M:=M) (es:=es++a1) (old:=[(p,o),(c,m)]) hz (by simp) rfl (acc.perm hperm) (by
    intro x hx;rcases wb6.1 hx with rfl | hx
    ·exact hp
    ·rw [wa4.1 hx]
     exact m1) vj (by
      cases hl:n.leaf with
      | true => 
        have:m.leaf=true:=by rw [m4.leaf,<- v.leaf];exact hl
        unfold ND.join ND.size;dsimp only;rw [tsz_append,tsz_append,tsz_append,wa6];unfold ND.size at m3;omega
      | false =>
        unfold ND.join ND.size;dsimp only;rw [tsz_append,tsz_append,tsz_append,wa6];unfold ND.size at m3;omega) (by
      unfold Most;rw [Gy];cases hl:n.leaf with
      | true=>rw [hl] at hjs;simp at hjs ⊢;omega
      | false=>rw [hl] at hjs;simp at hjs ⊢;omega)
   rw [hA] at hfin;rcases hfin with ⟨t',e,f⟩ | ⟨n',t',ps',e,d⟩
   ·exact Or.inl ⟨t',e,f.perm hperm.symm⟩
   ·refine Or.inr ⟨n',t',ps',e,d.did.perm hperm.symm (List.Perm.refl _),?_,d.size,d.keyed,d.else_⟩
    simpa [List.append_assoc] using d.vn
  ·-- the last kid has its neighbour ahead
   rw [if_neg hi1];have qS1:s.kid=s.nd.keys.length:=by omega
   have hpos:=u.keyed;obtain ⟨A,k,ek⟩:∃ A k,s.nd.keys=A++[k]:=⟨s.nd.keys.dropLast,s.nd.keys.getLast (by intro e;rw [e] at hpos;simp at hpos),(List.dropLast_concat_getLast _).symm⟩;have hAl:A.length+1=s.nd.keys.length:=by rw [ek];simp
   have hC:∃ CA c,s.nd.kids.take s.kid=CA++[c]/\CA.length=A.length:=by
    have hl:(s.nd.kids.take s.kid).length=A.length+1:=by rw [wb8];omega
    have hne:s.nd.kids.take s.kid≠[]:=by intro e;rw [e] at hl;simp at hl
    exact ⟨_,_,(List.dropLast_concat_getLast hne).symm,by rw [List.length_dropLast];omega⟩
   obtain ⟨CA,c,ec,hCA⟩:=hC;have hleft:=u.left;rw [ec,show s.nd.keys.take s.kid=A++[k] by rw [qS1,wf2,ek]] at hleft;obtain ⟨rfl,g,a1,b1,a2,b2,rfl,rfl,hl1,hs,hg⟩:=runL_last hCA hleft;have hright:=u.right;have ed:s.nd.keys.drop s.kid=[]:=by rw [qS1,List.drop_length]
   have edc:s.nd.kids.drop (s.kid+1)=[]:=wc6 (by omega);rw [ed,edc] at hright;obtain ⟨rfl,rfl,rfl⟩:=hright;obtain ⟨m,qm,rfl,m1,m2,m3,m4⟩:=hs;have JV:lo∈s.nd.keys:=by rw [ek];simp
   have BZ:s.kid - 1=A.length:=by omega
   have gk:s.nd.keys.getD (s.kid - 1) []=lo:=by
    rw [BZ,ek,wa7,wd8 (wa2 _),wf1];rfl
   have qy7:s.nd.kids=(CA++[c])++[p]:=by
    have h3:s.nd.kids.drop s.kid=p::s.nd.kids.drop (s.kid+1):=(by rw [wc4 hkl,hkc]);rw [edc] at h3;rw [<- ec,<- h3,wb7]
   have gc:s.nd.kids.getD (s.kid - 1) 0=c:=by
    rw [BZ,qy7,<- hCA,wb9,wa7,wd8 (wa2 _),wf1];rfl
   have qt3:t.kidOf s.nd (s.kid - 1)=m:=by
    unfold TS.kidOf;rw [gc,m1];rfl
   rw [gk,gc,qt3];have hk1:lo≠[]:=by
    have:=(hkeys.1 lo JV).1;intro e;rw [e] at this;simp at this
   have hbk:btw g hi lo:=by
    refine ⟨?_,(u.keys lo JV).2⟩;rcases runL_end hl1 with ⟨_,e⟩ | ⟨A',e⟩
    ·rw [e]
     exact (u.keys lo JV).1
    ·have hp2:=hkeys.2
     rw [ek,e,wc3] at hp2;exact Xi _ _ (hp2.2.2 g (by simp) lo (by simp))
   have vj:=m4.join (Sub.good t.nd h) v hbk hk1 (hkeys.1 lo JV).2;have hjs:=join_size (a:=m) (b:=n) (k:=lo);have qS2:=(hkeys.1 lo JV).2;have Gy:(m.join lo n).leaf=m.leaf:=rfl;have mid:Mid (Sub t.nd (h+1)) s.nd LO hi g hi A [lo] [] CA [c,p] [] a1 [] b1 []:=by
    refine ⟨?_,?_,u.leaf,u.rise,u.vals,u.kids,u.keys,rfl,hl1,⟨rfl,rfl,rfl⟩⟩
    ·rw [ek]
     simp
    ·rw [qy7]
     simp
   have hperm:(p::(ps++(((b1++(c::qm))++[])++M))).Perm (c::(p::((qm++ps)++((b1++[])++M)))):=by
    have h4:(p::(ps++(((b1++(c::qm))++[])++M)))=(p::(ps++b1))++c::(qm++M):=(by simp);rw [h4];refine wf3.trans (List.Perm.cons _ ?_);show (p::(ps++b1++(qm++M))).Perm _;refine List.Perm.cons _ ?_;have h5:((ps++b1)++qm++M).Perm (qm++(ps++b1)++M):=List.Perm.append_right _ wg2;simpa only [List.append_assoc,List.append_nil,List.nil_append] using h5
   have hfin:=mid.fin (O:=O) (nd0:=nd0) (ps:=qm++ps) (M:=M) (es:=a2++es) (old:=[(c,m),(p,o)]) hz (by simp) rfl (acc.perm hperm) (by
    intro x hx;rcases wb6.1 hx with rfl | hx
    ·exact m1
    ·rw [wa4.1 hx]
     exact hp) vj (by
      unfold ND.join ND.size;dsimp only;rw [tsz_append,tsz_append,tsz_append,wa6];unfold ND.size at m3;omega) (by
      unfold Most;rw [Gy];cases hl:m.leaf with
      | true=>rw [hl] at hjs;simp at hjs ⊢;omega
      | false=>rw [hl] at hjs;simp at hjs ⊢;omega)
   rw [<- BZ] at hfin;rcases hfin with ⟨t',e,f⟩ | ⟨n',t',ps',e,d⟩
   ·exact Or.inl ⟨t',e,f.perm hperm.symm⟩
   ·refine Or.inr ⟨n',t',ps',e,d.did.perm hperm.symm (List.Perm.refl _),?_,d.size,d.keyed,d.else_⟩
    simpa [List.append_assoc] using d.vn
 ·rw [if_neg hlow]
  obtain ⟨mid,hA⟩:=u.mid;have hfin:=mid.fin (O:=O) (nd0:=nd0) (ps:=ps) (M:=M) (old:=[(p,o)]) hz (by simp) rfl acc (by
   intro x hx;rw [wa4.1 hx];exact hp) v (by omega) (by
    unfold Most;cases hl:n.leaf with
    | true=>rw [hl] at hm;simp at hm ⊢;omega
    | false=>rw [hl] at hm;simp at hm ⊢;omega)
  rw [hA] at hfin;exact hfin
end
end TT
namespace TT
open ND TS
def Root (nd:Int->Option ND) (ht:Nat) (rt:Int) (es:List E) (L:List Int):Prop :=
 (ht=0/\rt=0/\es=[]/\L=[])\/∃ h n qs,ht=h+1/\L=rt::qs/\nd rt=some n/\n.size<=1000/\0<n.keys.length/\VN (Sub nd h) h n [] [] es qs
structure Done (O:List Int) (nd0:Int->Option ND) (t:TS) (M:List Int) (k:Nat) (t':TS) (L':List Int):Prop where
 acc:Acc O nd0 t' L'
 used:t'.used L'<=t.used M+k
 z_:t'.z=t.z
 ep_:t'.ep=t.ep
 ct_:t'.ct=t.ct
 lost_:t'.lost=t.lost
section
variable {O:List Int} {nd0:Int->Option ND} {t:TS}
theorem acc_at {L:List Int} (h:Acc O nd0 t L) (a:Int) (b:Nat):Acc O nd0 { t with rt:=a,ht:=b } L:=⟨h.fine,h.once,h.inL,h.all,h.late,h.ep0,h.own,h.pend,h.old,h.fresh⟩
theorem did_at {M L:List Int} {k:Nat} {t':TS} (d:Did O nd0 t M k t' L) (a:Int) (b:Nat):Done O nd0 t M k { t' with rt:=a,ht:=b } L:=⟨acc_at d.acc a b,d.used,d.z_,d.ep_,d.ct_,d.lost_⟩
theorem did_then {M L L':List Int} {k k':Nat} {t' t'':TS} (d:Did O nd0 t M k t' L) (e:Done O nd0 t' L k' t'' L'):Done O nd0 t M (k+k') t'' L' :=
 ⟨e.acc,by have:=d.used;have:=e.used;omega,e.z_.trans d.z_,e.ep_.trans d.ep_,e.ct_.trans d.ct_,e.lost_.trans d.lost_⟩
theorem Done.up {M L:List Int} {k k':Nat} {t':TS} (d:Done O nd0 t M k t' L) (h:k<=k'):Done O nd0 t M k' t' L:=⟨d.acc,by have:=d.used;omega,d.z_,d.ep_,d.ct_,d.lost_⟩
theorem Done.perm {M M' L:List Int} {k:Nat} {t':TS} (d:Done O nd0 t M k t' L) (h:M.Perm M'):Done O nd0 t M' k t' L :=
 ⟨d.acc,by have:=d.used;unfold TS.used at *;rw [<- h.length_eq];exact this,d.z_,d.ep_,d.ct_,d.lost_⟩
theorem plant_one {L:List Int} {p:Int} {o n:ND} {h:Nat} {es:List E} {ps:List Int} {H:Nat}
 (zl4:(∃ t',t.lay [(p,o)] [n]=(81,[],t')/\Full t L 1 81)\/∃ qs t',t.lay [(p,o)] [n]=(0,qs,t')/\Laid O nd0 t L ps [n] qs t')
 (v:VN (Sub t.nd h) h n [] [] es ps) (hk:0<n.keys.length) (hs:n.size<=1000) (hH:H=h+1) :
 (∃ t',t.plant (p,o) n H=(81,t')/\Full t L 3 81)\/∃ t' L',t.plant (p,o) n H=(0,t')/\Done O nd0 t L 3 t' L'/\Root t'.nd t'.ht t'.rt es L':=by
 have ep:partsN n=[n]:=if_pos hs;unfold TS.plant;rw [if_neg (by omega),ep];rcases zl4 with ⟨t',e,f⟩ | ⟨qs,t',e,d⟩
 ·left
  rw [e,if_neg (show ¬ (81:Int)=0 by decide)];exact ⟨t',rfl,f.up (by omega)⟩
 ·right
  rw [e,if_pos rfl];obtain ⟨q,hq,hn⟩:=d.here 0 n rfl;obtain rfl:qs=[q]:=by
   have hl:=d.len
   match qs,hl with
   | [x],_=>simpa using hq
  have qk2:=d.did.acc.once;have hout:∀ x∈ps,t'.nd x=t.nd x:=fun x hx=>d.else_ x (fun e=>by
   rw [wa4.1 e] at hx;exact (we3.1 qk2).1 hx)
  refine ⟨{ t' with rt:=q,ht:=H },q::ps,?_,(did_at d.did q H).up (by simp),Or.inr ⟨h,n,ps,hH,rfl,hn,hs,hk,v.frame hout⟩⟩
  unfold TS.above;rfl
theorem plant_ok {p:Int} {o n:ND} {h:Nat} {es:List E} {ps:List Int} {H:Nat} (hz:t.z<=2147483647) (acc:Acc O nd0 t (p::ps)) (hp:t.nd p=some o)
 (v:VN (Sub t.nd h) h n [] [] es ps) (hm:Most n) (hH:H=h+1) :
 (∃ t',t.plant (p,o) n H=(81,t')/\Full t (p::ps) 3 81)\/∃ t' L',t.plant (p,o) n H=(0,t')/\Done O nd0 t (p::ps) 3 t' L'/\Root t'.nd t'.ht t'.rt es L':=by
 by_cases hk:n.keys.length=0
 ·right
  have hk0:n.keys=[]:=wb2 hk;unfold TS.plant;rw [if_pos hk];cases h with
  | zero =>
    obtain ⟨v,rfl⟩:=v;obtain ⟨t',e,d,hn⟩:=(acc_at acc (if n.leaf then 0 else n.kids.getD 0 0) (H - 1)).rel_did
    refine ⟨t',[],e,⟨d.acc,wa9 d.used (wd9 _ 3),d.z_,d.ep_,d.ct_,d.lost_⟩,Or.inl ⟨?_,?_,?_,rfl⟩⟩
    ·rw [d.ht_,hH]
    ·rw [d.rt_,v.leaf]
     rfl
    ·rw [v.ents,hk0]
     rfl
  | succ h =>
    have hr:=VI.run v;have hl:=run_len hr;rw [hk0] at hr hl;obtain ⟨c,hc⟩:∃ c,n.kids=[c]:=by
     match hn:n.kids with
     | [c]=>exact ⟨c,rfl⟩
     | []=>rw [hn] at hl;simp at hl
     | _::_::_=>rw [hn] at hl;simp at hl
    rw [hc] at hr;obtain ⟨m,qm,rfl,m1,m2,m3,m4⟩:Sub t.nd (h+1) c [] [] es ps:=hr;obtain ⟨t',e,d,hn⟩:=(acc_at acc (if n.leaf then 0 else n.kids.getD 0 0) (H - 1)).rel_did
    have hnd:t'.nd=t.nd:=hn;refine ⟨t',c::qm,e,⟨d.acc,wa9 d.used (wd9 _ 3),d.z_,d.ep_,d.ct_,d.lost_⟩,Or.inr ⟨h,m,qm,?_,?_,?_,m2,m4.keyed m3,?_⟩⟩
    ·rw [d.ht_,hH]
     rfl
    ·rw [d.rt_,VI.leaf v,hc]
     rfl
    ·rw [d.rt_,VI.leaf v,hc,hnd]
     exact m1
    ·rw [hnd]
     exact m4
 ·have hk1:0<n.keys.length:=by omega
  by_cases hs:n.size<=1000
  ·exact plant_one (acc.lay (old:=[(p,o)]) (ns:=[n]) (by
    intro x hx;rw [wa4.1 hx];exact hp) (by
    intro m hm;rw [wa4.1 hm];exact ⟨encE_fits (v.ok (Or.inr hk1)) hs,zero_same hk1⟩)) v hk1 hs hH
  ·unfold TS.plant
   rw [if_neg hk];have acc2:Acc O nd0 t ([(p,o)].map Prod.fst++(ps++[])):=by rw [wc5];exact acc
   rcases lay_parts (M:=[]) hz acc2 (by
    intro x hx;rw [wa4.1 hx];exact hp) v (by omega) hm with ⟨t',e,f⟩ | ⟨qs,t',ps',e,d⟩
   ·left
    rw [e,if_neg (show ¬ (81:Int)=0 by decide)];rw [wc5] at f;exact ⟨t',rfl,f.up (by omega)⟩
   ·rw [e,if_pos rfl]
    have ek:partsK n=[n.splitK]:=if_neg hs;have hrun:=d.run;have hkey:=d.keys;rw [ek] at hrun hkey;have hlen:=run_len hrun;obtain ⟨b1,b2,b3,b4⟩:=hkey n.splitK (by simp);have hl1:1<=n.splitK.length:=by
     cases hc:n.splitK with
     | nil=>exact absurd hc b3
     | cons x l=>simp
    have d1:=d.did;rw [wc5,wc5] at d1;have d1':Did O nd0 t (p::ps) 2 t' ps':=d1;unfold TS.above;dsimp only;rw [if_pos (by simp at hlen;omega),ek];have vm:VN (Sub t'.nd (h+1)) (h+1) ⟨false,[n.splitK],[],qs⟩ [] [] es ps':=⟨rfl,by rw [rise_nil];simp;omega,rfl,d.kids,fun k hk=>by rw [wa4.1 hk];exact b1,hrun⟩;have hms:ND.size ⟨false,[n.splitK],[],qs⟩<=1000:=by
     unfold ND.size;dsimp only;rw [tsz_one];simp at hlen;have:tsz ([]:List K)=0:=rfl;omega
    have hmk:0<(ND.mk false [n.splitK] [] qs).keys.length:=(by simp);have acc3:Acc O nd0 t' (([]:List (Int×ND)).map Prod.fst++ps'):=d1'.acc;rcases acc3.lay (ns:=[⟨false,[n.splitK],[],qs⟩]) (by intro x hx;cases hx) (by
     intro m hm;rw [wa4.1 hm];exact ⟨encE_fits (vm.ok (Or.inr hmk)) hms,zero_same hmk⟩) with ⟨t2,e2,f⟩ | ⟨rs,t2,e2,d2⟩
    ·left
     rw [e2,if_neg (show ¬ (81:Int)=0 by decide)];exact ⟨t2,rfl,d1'.full f⟩
    ·right
     rw [e2,if_pos rfl];obtain ⟨q,hq,hn⟩:=d2.here 0 _ rfl;obtain rfl:rs=[q]:=by
      have hl:=d2.len
      match rs,hl with
      | [x],_=>simpa using hq
     have qk2:=d2.did.acc.once;have hout:∀ x∈ps',t2.nd x=t'.nd x:=fun x hx=>d2.else_ x (fun e=>by
      rw [wa4.1 e] at hx;exact (we3.1 qk2).1 hx)
     refine ⟨{ t2 with rt:=q,ht:=H+1 },q::ps',rfl,did_then d1' (did_at d2.did q (H+1)),Or.inr ⟨h+1,_,ps',by rw [hH],rfl,hn,hms,hmk,vm.frame hout⟩⟩
theorem climb_ok (H:Nat):∀ (r:List St) (s:St) (t:TS) (h:Nat) (n:ND) (lo hi:K) (es:List E) (ps:List Int) (pre post:List E) (qs:List Int),
 t.z<=2147483647->Acc O nd0 t (s.pg::(ps++qs))->t.nd s.pg=some s.nd->s.nd.size<=1000->(r≠[]->250<s.nd.size)->0<s.nd.keys.length ->
 VN (Sub t.nd h) h n lo hi es ps->(n.size<=if n.leaf then 1222 else 1125)->Up t.nd r h s.pg lo hi pre post qs->t.rt=rootPg s.pg r->t.ht=H->H=h+1+r.length ->
 (∃ t',t.climb H (s::r) n=(81,t')/\Full t (s.pg::(ps++qs)) (2*r.length+3) 81) \/
   ∃ t' L',t.climb H (s::r) n=(0,t')/\Done O nd0 t (s.pg::(ps++qs)) (2*r.length+3) t' L'/\Root t'.nd t'.ht t'.rt (pre++(es++post)) L':=by
 intro r
 induction r with
 | nil =>
   intro s t h n lo hi es ps pre post qs hz acc hp h1 h2 h3 v hm u hrt hht hH;by_cases hs:s.nd.sameB n=true
   ·right
    have:=(ND.sameB_iff _ _).1 hs;subst this;obtain ⟨m,ms,g1,g2,g3,g4,g5⟩:=u.close hp h1 h2 h3 v;rw [<- hrt] at g1 g5;refine ⟨t,t.rt::ms,by unfold TS.climb;rw [if_pos hs],⟨acc.perm g5,?_,rfl,rfl,rfl,rfl⟩,Or.inr ⟨h,m,ms,?_,rfl,g1,g2,g3,g4⟩⟩
    ·unfold TS.used
     rw [<- g5.length_eq];omega
    ·rw [hht,hH]
     rfl
   ·unfold TS.climb
    rw [if_neg hs];obtain ⟨rfl,rfl,rfl,rfl,rfl⟩:=u;rw [wc5] at acc ⊢;rw [we0,wc5];exact plant_ok hz acc hp v (by
     unfold Most;cases hl:n.leaf with
     | true=>rw [hl] at hm;simp at hm ⊢;omega
     | false=>rw [hl] at hm;simp at hm ⊢;omega) hH
 | cons x r ih =>
   intro s t h n lo hi es ps pre post qs hz acc hp h1 h2 h3 v hm u hrt hht hH;by_cases hs:s.nd.sameB n=true
   ·right
    have:=(ND.sameB_iff _ _).1 hs;subst this;obtain ⟨m,ms,g1,g2,g3,g4,g5⟩:=u.close hp h1 h2 h3 v;rw [<- hrt] at g1 g5;refine ⟨t,t.rt::ms,by unfold TS.climb;rw [if_pos hs],⟨acc.perm g5,?_,rfl,rfl,rfl,rfl⟩,Or.inr ⟨h+(x::r).length,m,ms,?_,rfl,g1,g2,g3,g4⟩⟩
    ·unfold TS.used
     rw [<- g5.length_eq];omega
    ·rw [hht,hH]
     omega
   ·unfold TS.climb
    rw [if_neg hs];obtain ⟨LO,HI,e1,e3,q1,q3,pre',post',YR,us,ur,rfl,rfl,rfl⟩:=u;have acc':Acc O nd0 t (s.pg::(ps++((q1++q3)++(x.pg::YR)))):=by rw [wb9 q1 q3];exact acc
    have hle:s.pg::(ps++((q1++q3)++(x.pg::YR)))=s.pg::(ps++(q1++(q3++(x.pg::YR)))):=(by rw [wb9 q1 q3]);rcases us.settle hz acc' hp v hm with ⟨t',e,f⟩ | ⟨n',t',ps',e,d⟩
    ·left
     rw [show t.settle x.nd x.kid s.at_ n=_ from e,if_neg (show ¬ (81:Int)=0 by decide)];rw [hle] at f;exact ⟨t',rfl,f.up (by omega)⟩
    ·rw [show t.settle x.nd x.kid s.at_ n=_ from e,if_pos rfl]
     have hnl:n'.leaf=false:=d.vn.leaf;have hd:=d.did;have hpm:(ps'++(x.pg::YR)).Perm (x.pg::(ps'++YR)):=wf3;have hd2:=hd.perm (List.Perm.refl _) hpm;have hsz:=d.size;have hfit:=us.fits;rcases ih x t' (h+1) n' LO HI _ ps' pre' post' YR (by rw [hd.z_];exact hz) hd2.acc ((d.else_ x.pg (by simp)).trans us.here) us.fits (fun hr=>us.room (by
      cases r with
      | nil=>exact absurd rfl hr
      | cons y l=>rfl)) us.keyed d.vn (by rw [hnl];simp;omega) (ur.frame (fun y hy=>d.else_ y (by simp [hy]))) (by rw [hd.rt_,hrt,rootPg_cons]) (by rw [hd.ht_];exact hht) (by rw [hH,wb4];omega) with ⟨t2,e2,f⟩ | ⟨t2,L2,e2,d2,rt2⟩
     ·left
      refine ⟨t2,e2,?_⟩;have:=hd2.full f;rw [hle] at this;exact this.up (by rw [wb4];omega)
     ·right
      refine ⟨t2,L2,e2,?_,?_⟩
      ·have:=did_then hd2 d2
       rw [hle] at this;exact this.up (by rw [wb4];omega)
      ·simpa [List.append_assoc] using rt2
end
theorem runL_run {S:R}:∀ {ks:List K} {cs:List Int} {lo l:K} {es:List E} {qs:List Int},RunL S lo (ks++[l]) cs l es qs->Run S lo l ks cs es qs
 | [],[c],lo,l,es,qs,h=>by
   obtain ⟨e1,q1,e2,q2,rfl,rfl,h3,_,rfl,rfl⟩:=h;rw [wc5,wc5];exact h3
 | k::ks,c::cs,lo,l,es,qs,h=>by
   obtain ⟨e1,q1,e2,q2,rfl,rfl,h3,h4⟩:=h;exact ⟨e1,q1,e2,q2,rfl,rfl,h3,runL_run h4⟩
 | [],[],_,_,_,_,h=>h.elim
 | [],c::d::cs,lo,l,es,qs,h=>by
   obtain ⟨e1,q1,e2,q2,_,_,_,h4⟩:=h;exact h4.elim
 | _::_,[],_,_,_,_,h=>h.elim
theorem runR_run {S:R}:∀ {ks:List K} {cs:List Int} {h hi:K} {es:List E} {qs:List Int},RunR S h hi (h::ks) cs es qs->Run S h hi ks cs es qs
 | [],[c],h,hi,es,qs,r=>by
   obtain ⟨_,g,e1,q1,e2,q2,rfl,rfl,h3,rfl,rfl,rfl⟩:=r;rw [wc5,wc5];exact h3
 | k::ks,c::cs,h,hi,es,qs,r=>by
   obtain ⟨_,g,e1,q1,e2,q2,rfl,rfl,h3,h4⟩:=r;rcases runR_head h4 with ⟨e,_⟩ | ⟨ks',e⟩
   ·cases e
   ·injection e with e1' e2'
    subst e1';exact ⟨e1,q1,e2,q2,rfl,rfl,h3,runR_run h4⟩
 | [],[],_,_,_,_,h=>h.elim
 | [],c::d::cs,h,hi,es,qs,r=>by
   obtain ⟨_,g,e1,q1,e2,q2,_,_,_,h4⟩:=r;exact h4.elim
 | _::_,[],_,_,_,_,h=>h.elim
theorem Mid.wide {S:R} {u:ND} {LO HI l h:K} {A X B:List K} {CA CX CB:List Int} {e1 e3:List E} {q1 q3:List Int} (m:Mid S u LO HI l h A X B CA CX CB e1 e3 q1 q3) {q:K} (hq:btw l h q):btw LO HI q:=by
 have hp:=rise_nil.1 m.rise;have k1:=m.keys;have a1:Op.bytesLess q LO=false:=by
  rcases runL_end m.left with ⟨_,e⟩ | ⟨A',e⟩
  ·rw [<- e];exact hq.1
  ·have:=(m.btw_ l (by rw [k1,e];simp)).1
   exact nlt_trans this hq.1
 refine ⟨a1,?_⟩;rcases runR_head m.right with ⟨_,e⟩ | ⟨B',e⟩
 ·rw [<- e];exact hq.2
 ·have hm:h∈u.keys:=by rw [k1,e];simp
  have hb:=m.btw_ h hm;have hh:=rise_ne m.rise h hm;rcases hq.2 with e2 | e2
  ·exact absurd e2 hh
  ·rcases hb.2 with e3 | e3
   ·exact Or.inl e3
   ·exact Or.inr (Qq _ _ _ e2 e3)
theorem sub_pair {l l':List K} (h:ND.rise [] l=true) (hs:List.Sublist l' l):l'.Pairwise (fun a b=>Op.bytesLess a b=true):=(rise_nil.1 h).2.sublist hs
theorem Up.sides {nd:Int->Option ND} {key:K}:∀ {r:List St} {h:Nat} {p:Int} {lo hi:K} {pre post:List E} {qs:List Int},Up nd r h p lo hi pre post qs->btw lo hi key ->
 (∀ x∈pre,Op.bytesLess x.1 key=true)/\(∀ x∈post,Op.bytesLess key x.1=true)/\btw [] [] key
 | [],_,_,lo,hi,pre,post,qs,⟨a,b,c,d,_⟩,hb=>by
   subst a b c d;exact ⟨fun x hx=>(by cases hx),fun x hx=>(by cases hx),hb⟩
 | s::r,h,p,lo,hi,pre,post,qs,⟨LO,HI,e1,e3,q1,q3,pre',post',YR,u,v,a1,a2,a3⟩,hb=>by
   subst a1 a2 a3;obtain ⟨m,_⟩:=u.mid;obtain ⟨i1,i2,i3⟩:=v.sides (m.wide hb);have g:=Sub.good nd (h+1);have hkb:=u.keys;refine ⟨fun x hx=>?_,fun x hx=>?_,i3⟩
   ·rcases wb0.1 hx with e | e
    ·exact i1 x e
    ·have hl:=m.left
     rcases runL_end hl with ⟨e0,_⟩ | ⟨A',e0⟩
     ·rw [e0] at hl
      have hc:=runL_len hl;have:s.nd.kids.take s.kid=[]:=wb2 hc;rw [this] at hl;rw [hl.2.1] at e;cases e
     ·rw [e0] at hl
      have hsub:List.Sublist (A'++[lo]) s.nd.keys:=by rw [<- e0];exact wf6 _ _
      have hlo:lo≠[]:=rise_ne u.rise lo (hsub.subset (by simp));have hpw:=sub_pair u.rise hsub;rw [wc3] at hpw;obtain ⟨b1,_,_⟩:=run_good g (runL_run hl) (fun k hk=>⟨⟨(hkb k (hsub.subset (by simp [hk]))).1,Or.inr (hpw.2.2 k hk lo (by simp))⟩,rise_ne u.rise k (hsub.subset (by simp [hk]))⟩) hpw.1;rcases (b1 x e).2 with e9 | e9
      ·exact absurd e9 hlo
      ·exact lt_nlt e9 hb.1
   ·rcases wb0.1 hx with e | e
    ·have hl:=m.right
     rcases runR_head hl with ⟨e0,_⟩ | ⟨B',e0⟩
     ·rw [e0] at hl
      have hc:=runR_len hl;have:s.nd.kids.drop (s.kid+1)=[]:=wb2 hc;rw [this] at hl;rw [hl.2.1] at e;cases e
     ·rw [e0] at hl
      have hsub:List.Sublist (hi::B') s.nd.keys:=by rw [<- e0];exact we5 _ _
      have hhi:hi≠[]:=rise_ne u.rise hi (hsub.subset (by simp));have hpw:=sub_pair u.rise hsub;rw [wd1] at hpw;obtain ⟨b1,_,_⟩:=run_good g (runR_run hl) (fun k hk=>⟨⟨Xi _ _ (hpw.1 k hk),(hkb k (hsub.subset (by simp [hk]))).2⟩,rise_ne u.rise k (hsub.subset (by simp [hk]))⟩) hpw.2;rcases hb.2 with e9 | e9
      ·exact absurd e9 hhi
      ·exact lt_nlt e9 (b1 x e).1
    ·exact i2 x e
structure Leafed (nd:Int->Option ND) (key:K) (l:List St) (r:List St) (all:List E) (M:List Int) (root:Int) (s:St) (r':List St) (lo hi:K) (es pre post:List E) (qs:List Int):Prop where
 path:l.reverse++r=s::r'
 last:TS.last l=s.nd
 here:nd s.pg=some s.nd
 fits:s.nd.size<=1000
 room:r'≠[]->250<s.nd.size
 keyed:0<s.nd.keys.length
 vn:VN (Sub nd 0) 0 s.nd lo hi es []
 btw_:btw lo hi key
 up:Up nd r' 0 s.pg lo hi pre post qs
 ents:pre++(es++post)=all
 pages:M.Perm (s.pg::([]++qs))
 root_:rootPg s.pg r'=root
theorem last_cons (s:St) {l:List St} (h:l≠[]):TS.last (s::l)=TS.last l:=by
 unfold TS.last;cases l with
 | nil=>exact absurd rfl h
 | cons x l=>rw [List.getLast?_cons_cons]
theorem way_down {nd:Int->Option ND} {key:K}:∀ (h:Nat) (p:Int) (n:ND) (lo hi:K) (es:List E) (ps:List Int) (r:List St) (pre post:List E) (qs:List Int),
 nd p=some n->n.size<=1000->(r≠[]->250<n.size)->0<n.keys.length->VN (Sub nd h) h n lo hi es ps->btw lo hi key->Up nd r h p lo hi pre post qs ->
 ∃ l,wayL nd key (h+1) p=some l/\l.length=h+1/\∃ s r' lo' hi' es' pre' post' YR,Leafed nd key l r (pre++(es++post)) (p::(ps++qs)) (rootPg p r) s r' lo' hi' es' pre' post' YR
 | 0,p,n,lo,hi,es,ps,r,pre,post,qs,a,b,c,d,v,hb,u=>by
   have hl:n.leaf=true:=v.leaf;obtain rfl:ps=[]:=v.2;refine ⟨[⟨p,n,0⟩],?_,rfl,⟨p,n,0⟩,r,lo,hi,es,pre,post,qs,rfl,rfl,a,b,c,d,v,hb,u,rfl,List.Perm.refl _,rfl⟩;unfold wayL nodeAt;rw [a];dsimp only;rw [if_pos hl]
 | h+1,p,n,lo,hi,es,ps,r,pre,post,qs,a,b,c,d,v,hb,u=>by
   have hl:n.leaf=false:=v.leaf;have hrun:=VI.run v;have hlen:=run_len hrun;have hkn:=kidN_le key n.keys;obtain ⟨l,g,k,e1,q1,e2,q2,e3,q3,r1,rfl,rfl,r2,r3,r4,r5,r6⟩:=run_at (kidN key n.keys) hrun (by omega);obtain ⟨m,qm,rfl,m1,m2,m3,m4⟩:=r3;have hgd:n.kids.getD (kidN key n.keys) 0=k:=by rw [wa7,r1];rfl
   have hbk:btw l g key:=by
    constructor
    ·rcases runL_end r2 with ⟨_,e⟩ | ⟨A',e⟩
     ·rw [e];exact hb.1
     ·have hA:A'.length+1=(n.keys.take (kidN key n.keys)).length:=by rw [e];simp
      rw [wb8] at hA;have hx:(n.keys.take (kidN key n.keys))[A'.length]?=some l:=by rw [e];simp
      rw [List.getElem?_take] at hx;split at hx
      ·exact kidN_before (by assumption) hx
      ·cases hx
    ·rcases runR_head r4 with ⟨_,e⟩ | ⟨B',e⟩
     ·rw [e];exact hb.2
     ·right
      have hx:(n.keys.drop (kidN key n.keys))[0]?=some g:=by rw [e];rfl
      rw [we8,wg1] at hx;exact kidN_behind hx
   have hup:Up nd (⟨p,n,kidN key n.keys⟩::r) h k l g (pre++e1) (e3++post) (q1++(q3++(p::qs))) :=
    ⟨lo,hi,e1,e3,q1,q3,pre,post,qs,⟨a,b,fun hr=>c (by intro e;subst e;cases hr),d,hl,v.rise,VI.vals v,VI.kids v,hlen,r1,v.keys,r2,r4⟩,u,rfl,rfl,rfl⟩
   obtain ⟨l2,w1,w2,s,r',lo',hi',es',pre',post',YR,w⟩:=way_down h k m l g e2 qm _ _ _ _ m1 m2 (fun _=>m3) (m4.keyed m3) m4 hbk hup;have hl2:l2≠[]:=by intro e;rw [e] at w2;cases w2
   refine ⟨⟨p,n,kidN key n.keys⟩::l2,?_,by rw [wb4,w2],s,r',lo',hi',es',pre',post',YR,?_⟩
   ·unfold wayL nodeAt
    rw [a];dsimp only;rw [if_pos hl];dsimp only;rw [hgd,w1];rfl
   ·refine ⟨?_,(last_cons _ hl2).trans w.last,w.here,w.fits,w.room,w.keyed,w.vn,w.btw_,w.up,?_,?_,by rw [w.root_,rootPg_cons]⟩
    ·rw [List.reverse_cons,wb9]
     exact w.path
    ·rw [w.ents]
     simp
    ·refine List.Perm.trans ?_ w.pages
     have h1:(p::((q1++(k::qm++q3))++qs)).Perm (k::(qm++(q1++(q3++(p::qs))))):=by
      have h2:(k::(qm++(q1++(q3++(p::qs)))))=(k::(qm++(q1++q3)))++p::qs:=(by simp);rw [h2];refine List.Perm.trans ?_ wf3.symm;refine List.Perm.cons _ ?_;refine List.Perm.append_right _ ?_;have h3:(q1++(k::qm++q3))=(q1++(k::qm))++q3:=(by simp);have h4:(k::(qm++(q1++q3)))=((k::qm)++q1)++q3:=(by simp);rw [h3,h4];exact List.Perm.append_right _ wg2
     exact h1
end TT
namespace TT
open ND TS
def keysE (es:List E):List K:=es.map (·.1)
def placeE (key:K) (es:List E):Nat:=findN key (keysE es)
def isE (key:K) (es:List E):Bool:=isAt key (keysE es)
def getE (key:K) (es:List E):K:=if isE key es then (es.getD (placeE key es) ([],[])).2 else []
def putE (key val:K) (es:List E):List E:=rep es (placeE key es) (if isE key es then placeE key es+1 else placeE key es) [(key,val)]
def delE (key:K) (es:List E):List E:=if isE key es then rep es (placeE key es) (placeE key es+1) [] else es
theorem findN_nil (k:K):findN k []=0:=rfl
theorem findN_lt {k a:K} {l:List K} (h:Op.bytesLess a k=true):findN k (a::l)=findN k l+1:=by
 unfold findN;rw [wg7,if_pos h];rfl
theorem findN_ge {k a:K} {l:List K} (h:Op.bytesLess a k=false):findN k (a::l)=0:=by
 unfold findN;rw [wg7,if_neg (by rw [h];decide)];rfl
theorem findN_pre {k:K}:∀ {a:List K} (b:List K),(∀ x∈a,Op.bytesLess x k=true)->findN k (a++b)=a.length+findN k b
 | [],b,_=>by simp
 | x::a,b,h=>by
   rw [we7,findN_lt (h x (by simp)),findN_pre b (fun y hy=>h y (by simp [hy])),wb4];omega
theorem findN_post {k:K} {b:List K} (h:∀ x∈b,Op.bytesLess k x=true):∀ (a:List K),findN k (a++b)=findN k a
 | []=>by
   cases b with
   | nil=>rfl
   | cons x b=>rw [we0,findN_ge (Xi _ _ (h x (by simp))),findN_nil]
 | x::a=>by
   cases hx:Op.bytesLess x k with
   | true=>rw [we7,findN_lt hx,findN_lt hx,findN_post h a]
   | false=>rw [we7,findN_ge hx,findN_ge hx]
section
variable {key val:K} {pre es post:List E}
theorem place_mid (h1:∀ x∈pre,Op.bytesLess x.1 key=true) (h2:∀ x∈post,Op.bytesLess key x.1=true):placeE key (pre++(es++post))=pre.length+placeE key es:=by
 unfold placeE keysE;rw [wc8,wc8,findN_pre _ (fun x hx=>by
  obtain ⟨y,hy,rfl⟩:=wd7.1 hx;exact h1 y hy),findN_post (fun x hx=>by
  obtain ⟨y,hy,rfl⟩:=wd7.1 hx;exact h2 y hy),wd2]
theorem place_le:placeE key es<=es.length:=by
 have:=findN_le key (keysE es);unfold placeE;unfold keysE at this ⊢;rwa [wd2] at this
theorem isE_iff:isE key es=true ↔ ∃ v,es[placeE key es]?=some (key,v):=by
 unfold isE;rw [isAt_iff];unfold placeE keysE;rw [wc7];cases es[findN key (es.map (·.1))]? with
 | none=>simp
 | some x =>
   obtain ⟨a,b⟩:=x;simp
theorem isE_lt (h:isE key es=true):placeE key es<es.length:=by
 obtain ⟨v,hv⟩:=isE_iff.1 h;exact (wa8.1 hv).1
theorem is_mid (h1:∀ x∈pre,Op.bytesLess x.1 key=true) (h2:∀ x∈post,Op.bytesLess key x.1=true):isE key (pre++(es++post))=isE key es:=by
 have hp:=place_mid (es:=es) h1 h2;have hle:=place_le (key:=key) (es:=es);have qx8:isE key (pre++(es++post))=true ↔ isE key es=true:=by
  rw [isE_iff,isE_iff,hp,wd8 (by omega),show pre.length+placeE key es - pre.length=placeE key es by omega];by_cases hlt:placeE key es<es.length
  ·rw [List.getElem?_append_left hlt]
  ·rw [wd8 (by omega),List.getElem?_eq_none (l:=es) (by omega),show placeE key es - es.length=0 by omega]
   constructor
   ·rintro ⟨v,hv⟩
    have:=h2 _ (wb5 hv);rw [Yh] at this;cases this
   ·rintro ⟨v,hv⟩
    cases hv
 cases ha:isE key es with
 | true=>exact qx8.2 ha
 | false =>
   cases hb:isE key (pre++(es++post)) with
   | false=>rfl
   | true=>rw [qx8.1 hb] at ha;cases ha
theorem rep_in {α:Type} (a c:List α) {b:List α} {f t:Nat} (o:List α) (h:f<=b.length) (ht:t<=b.length):rep (a++(b++c)) (a.length+f) (a.length+t) o=a++(rep b f t o++c):=by
 unfold rep;rw [List.take_append,List.drop_append,wa5 (by omega),wc6 (by omega),show a.length+f - a.length=f by omega,show a.length+t - a.length=t by omega,
  List.take_append_of_le_length h,List.drop_append_of_le_length ht]
 simp
theorem put_mid (h1:∀ x∈pre,Op.bytesLess x.1 key=true) (h2:∀ x∈post,Op.bytesLess key x.1=true):putE key val (pre++(es++post))=pre++(putE key val es++post):=by
 have hle:=place_le (key:=key) (es:=es);unfold putE;rw [is_mid h1 h2,place_mid h1 h2];cases ha:isE key es with
 | true =>
   have:=isE_lt ha;rw [if_pos rfl,if_pos rfl,wd5,rep_in _ _ _ hle (by omega)]
 | false=>rw [if_neg (by decide),if_neg (by decide),rep_in _ _ _ hle hle]
theorem del_mid (h1:∀ x∈pre,Op.bytesLess x.1 key=true) (h2:∀ x∈post,Op.bytesLess key x.1=true):delE key (pre++(es++post))=pre++(delE key es++post):=by
 have hle:=place_le (key:=key) (es:=es);unfold delE;rw [is_mid h1 h2,place_mid h1 h2];cases ha:isE key es with
 | true =>
   have:=isE_lt ha;rw [if_pos rfl,if_pos rfl,wd5,rep_in _ _ _ hle (by omega)]
 | false=>rw [if_neg (by decide),if_neg (by decide)]
theorem put_len:(putE key val es).length=if isE key es then es.length else es.length+1:=by
 have hle:=place_le (key:=key) (es:=es);unfold putE;cases ha:isE key es with
 | true =>
   have:=isE_lt ha;have:=rep_length (l:=es) (o:=[(key,val)]) (show placeE key es<=placeE key es+1 by omega) (show placeE key es+1<=es.length by omega);simp only [if_pos,List.length_cons,List.length_nil] at this ⊢;omega
 | false =>
   have:=rep_length (l:=es) (o:=[(key,val)]) (wa2 (placeE key es)) hle;simp only [List.length_cons,List.length_nil,Bool.false_eq_true,if_false] at this ⊢;omega
theorem del_len:(delE key es).length=if isE key es then es.length - 1 else es.length:=by
 unfold delE;cases ha:isE key es with
 | true =>
   have:=isE_lt ha;have:=rep_length (l:=es) (o:=[]) (show placeE key es<=placeE key es+1 by omega) (show placeE key es+1<=es.length by omega);simp only [if_pos,List.length_nil] at this ⊢;omega
 | false=>rfl
end
theorem zip_rep {a v:List K} {f b:Nat} {o u:List K} (h:v.length=a.length) (hou:u.length=o.length):(rep a f b o).zip (rep v f b u)=rep (a.zip v) f b (o.zip u):=by
 unfold rep;rw [List.zip_append (by rw [wa6,wa6,wb8,wb8,h,hou]),List.zip_append (by rw [wb8,wb8,h])];simp only [List.zip,List.take_zipWith,List.drop_zipWith]
theorem keysE_zip {ks vs:List K} (h:vs.length=ks.length):keysE (ks.zip vs)=ks:=zip_keys h
theorem VL.put {n:ND} {lo hi:K} {es:List E} {key val:K} (v:VL n lo hi es) (hb:btw lo hi key) (h1:1<=key.length) (h2:key.length<=120) (h3:val.length<=100):VL (n.put key val) lo hi (putE key val es)/\(n.put key val).size<=n.size+222/\0<(n.put key val).keys.length:=by
 have vn:VN (fun _ _ _ _ _=>False) 0 n lo hi es []:=⟨v,rfl⟩;have ho:=vn.ok (Or.inl rfl);obtain ⟨l1,l2,l3,l4,l5,l6,rfl⟩:=v;have hp:=put_ok (k:=key) (v:=val) ho l1 h1 h2 h3;obtain ⟨p1,p2,p3⟩:=ok_leaf hp rfl;have hke:=keysE_zip l3;have hle:=findN_le key n.keys;refine ⟨⟨rfl,ok_rise hp,p1,p2,p3,fun k hk=>?_,?_⟩,put_size ho l1 h2 h3,?_⟩
 ·rw [put_eq] at hk
  unfold rep at hk;rcases wb0.1 hk with e | e
  ·rcases wb0.1 e with e | e
   ·exact l6 k (wf0 e)
   ·rw [wa4.1 e]
    exact hb
  ·exact l6 k (wf5 e)
 ·rw [put_eq]
  dsimp only;rw [zip_rep l3 (by rfl)];unfold putE placeE isE putB;rw [hke];rfl
 ·rw [put_eq]
  unfold rep;simp;omega
theorem VL.remove {n:ND} {lo hi:K} {es:List E} {key:K} (v:VL n lo hi es):VL (n.remove key) lo hi (delE key es)/\(n.remove key).size<=n.size:=by
 have vn:VN (fun _ _ _ _ _=>False) 0 n lo hi es []:=⟨v,rfl⟩;have ho:=vn.ok (Or.inl rfl);have hv:=v;obtain ⟨l1,l2,l3,l4,l5,l6,rfl⟩:=v;have hke:=keysE_zip l3;have hle:=findN_le key n.keys;cases ha:isAt key n.keys with
 | true =>
   have hp:=removed_ok (k:=key) ho l1 ha;obtain ⟨p1,p2,p3⟩:=ok_leaf hp rfl;rw [remove_old ha];refine ⟨⟨rfl,ok_rise hp,p1,p2,p3,fun k hk=>l6 k (removed_only hk),?_⟩,?_⟩
   ·unfold removed
    dsimp only;rw [zip_rep l3 (by rfl)];unfold delE placeE isE;rw [hke,ha];rfl
   ·have hlt:=isAt_lt ha
    unfold removed ND.size;dsimp only;have h1:∀ l:List K,tsz (rep l (findN key n.keys) (findN key n.keys+1) [])<=tsz l:=by
     intro l;have e:=tsz_append (l.take (findN key n.keys)) (l.drop (findN key n.keys));rw [wb7] at e;unfold rep;rw [wc5,tsz_append,e];have h2:tsz (l.drop (findN key n.keys+1))<=tsz (l.drop (findN key n.keys)):=by
      rw [<- List.drop_drop];have e3:=tsz_append ((l.drop (findN key n.keys)).take 1) ((l.drop (findN key n.keys)).drop 1);rw [wb7] at e3;omega
     omega
    have a:=h1 n.keys;have b:=h1 n.vals;have c:n.kids.length=0:=by rw [l5];rfl
    simp only [List.length_nil];omega
 | false =>
   rw [remove_new ha];have:delE key (n.keys.zip n.vals)=n.keys.zip n.vals:=by
    unfold delE isE;rw [hke,ha];rfl
   rw [this];exact ⟨hv,wa2 _⟩
theorem VL.look {n:ND} {lo hi:K} {es:List E} {key:K} (v:VL n lo hi es):isAt key n.keys=isE key es/\(isE key es=true->n.vals.getD (findN key n.keys) []=getE key es):=by
 obtain ⟨l1,l2,l3,l4,l5,l6,rfl⟩:=v;have hke:=keysE_zip l3;have e1:isE key (n.keys.zip n.vals)=isAt key n.keys:=by unfold isE;rw [hke]
 refine ⟨e1.symm,fun h=>?_⟩;unfold getE;rw [if_pos h];have e2:placeE key (n.keys.zip n.vals)=findN key n.keys:=by unfold placeE;rw [hke]
 have hlt:findN key n.keys<n.keys.length:=isAt_lt (by rw [<- e1];exact h);have hv:findN key n.keys<n.vals.length:=by omega
 have ez:(n.keys.zip n.vals)[findN key n.keys]?=some (n.keys[findN key n.keys],n.vals[findN key n.keys]):=List.getElem?_zip_eq_some.2 ⟨wb1 hlt,wb1 hv⟩;rw [e2,wa7,wa7,ez,wb1 hv];rfl
structure Tr (O:List Int) (nd0:Int->Option ND) (t:TS) (es:List E) (L:List Int):Prop where
 acc:Acc O nd0 t L
 root:Root t.nd t.ht t.rt es L
 ct:t.ct=es.length
 lost:t.lost=0
 z_:t.z<=2147483647
section
variable {O:List Int} {nd0:Int->Option ND} {t:TS} {es:List E} {L:List Int}
theorem Root.way {nd:Int->Option ND} {ht:Nat} {rt:Int} (h:Root nd ht rt es L) (key:K):(ht=0/\rt=0/\es=[]/\L=[]) \/
 (ht≠0/\∃ l,wayL nd key ht rt=some l/\l.length=ht/\∃ s r' lo' hi' es' pre' post' YR,Leafed nd key l [] es L rt s r' lo' hi' es' pre' post' YR):=by
 rcases h with h | ⟨h,n,qs,rfl,rfl,a,b,c,v⟩
 ·exact Or.inl h
 ·right
  refine ⟨by omega,?_⟩;have:=way_down (key:=key) h rt n [] [] es qs [] [] [] [] a b (fun e=>absurd rfl e) c v (btw_all key) ⟨rfl,rfl,rfl,rfl,rfl⟩;simpa [rootPg] using this
theorem Root.sorted {nd:Int->Option ND} {ht:Nat} {rt:Int} (h:Root nd ht rt es L):TT.sorted es:=by
 rcases h with ⟨_,_,rfl,_⟩ | ⟨h,n,qs,_,_,_,_,_,v⟩
 ·exact List.Pairwise.nil
 ·exact (v.good (Sub.good nd h)).2.1
theorem Root.count {nd:Int->Option ND} {ht:Nat} {rt:Int} (h:Root nd ht rt es L):L.length<=2*es.length/\(ht=0\/2 ^ (ht - 1)<=es.length):=by
 rcases h with ⟨rfl,_,rfl,rfl⟩ | ⟨h,n,qs,rfl,rfl,_,_,c,v⟩
 ·exact ⟨wa2 _,Or.inl rfl⟩
 ·obtain ⟨a,b⟩:=v.count (Sub.count nd h) c
  refine ⟨by rw [wb4];omega,Or.inr ?_⟩;have e:h+1 - 1=h:=by omega
  rw [e];cases h with
  | zero =>
    have:=(v.good (Sub.good nd 0)).2.2.1 c;rw [Nat.pow_zero];omega
  | succ h =>
    have:=b (by omega);have e:h+1 - 1=h:=(by omega);rw [e] at this;rw [Nat.pow_succ];omega
theorem Tr.has (h:Tr O nd0 t es L) (key:K):t.hasK key=isE key es:=by
 unfold TS.hasK TS.way;rcases h.root.way key with ⟨h1,h2,rfl,_⟩ | ⟨h1,l,w1,w2,s,r',lo,hi,es',pre,post,qs,w⟩
 ·rw [if_pos h1]
  rfl
 ·rw [if_neg h1,w1]
  dsimp only;obtain ⟨s1,s2,_⟩:=w.up.sides w.btw_;obtain ⟨k1,_⟩:=VL.look (key:=key) w.vn.1;rw [w.last,k1,<- w.ents,is_mid s1 s2]
theorem Tr.change (h:Tr O nd0 t es L) (key:K) (f:ND->ND) (g:List E->List E)
 (hf:∀ n lo hi e,VL n lo hi e->btw lo hi key->n.size<=1000->VL (f n) lo hi (g e)/\(f n).size<=1222)
 (hg:∀ pre e post,(∀ x∈pre,Op.bytesLess x.1 key=true)->(∀ x∈post,Op.bytesLess key x.1=true)->g (pre++(e++post))=pre++(g e++post))
 (h0:f empty=empty\/0<(f empty).keys.length) (h9:(f empty).size<=1000) :
 (∃ t',t.change key f=(81,t')/\Full t L (2*t.ht+3) 81)\/∃ t' L',t.change key f=(0,t')/\Done O nd0 t L (2*t.ht+3) t' L'/\Root t'.nd t'.ht t'.rt (g es) L':=by
 unfold TS.change TS.way;rcases h.root.way key with ⟨h1,h2,rfl,rfl⟩ | ⟨h1,l,w1,w2,s,r',lo,hi,es',pre,post,qs,w⟩
 ·rw [if_pos h1]
  dsimp only;have ve:VL empty [] [] []:=⟨rfl,rfl,rfl,rfl,rfl,fun k hk=>(by cases hk),rfl⟩;obtain ⟨v,hsz⟩:=hf empty [] [] [] ve (btw_all key) (by decide);show (∃ t',t.climb 1 [⟨0,empty,0⟩] (f empty)=_/\_)\/∃ t' L',t.climb 1 [⟨0,empty,0⟩] (f empty)=_/\_;unfold TS.climb;by_cases hs:empty.sameB (f empty)=true
  ·right
   rw [if_pos hs];have e:=(ND.sameB_iff _ _).1 hs;rw [<- e] at v;refine ⟨t,[],rfl,⟨h.acc,wd9 _ _,rfl,rfl,rfl,rfl⟩,Or.inl ⟨h1,h2,v.ents,rfl⟩⟩
  ·rw [if_neg hs]
   have hk:0<(f empty).keys.length:=by
    rcases h0 with e | e
    ·rw [e] at hs
     exact absurd ((ND.sameB_iff empty empty).2 rfl) hs
    ·exact e
   have hs':empty.sameB (f empty)=false:=by
    cases hb:empty.sameB (f empty) with
    | false=>rfl
    | true=>exact absurd hb hs
   have vn:VN (Sub t.nd 0) 0 (f empty) [] [] (g []) []:=⟨v,rfl⟩;have hz:=h9;have zl4:(∃ t',t.lay [(0,empty)] [f empty]=(81,[],t')/\Full t [] 1 81)\/∃ qs t',t.lay [(0,empty)] [f empty]=(0,qs,t')/\Laid O nd0 t [] [] [f empty] qs t':=by
    have e1:∀ o,(first o=(0,empty)\/True)->t.lay [(0,empty)] [f empty]=(if (t.wr (0,empty) (f empty)).1=0 then (0,[(t.wr (0,empty) (f empty)).2.1],(t.wr (0,empty) (f empty)).2.2) else ((t.wr (0,empty) (f empty)).1,[],(t.wr (0,empty) (f empty)).2.2)):=fun _ _=>rfl
    rw [e1 [] (Or.inr trivial)];rcases h.acc.wr0 hs' (encE_fits (vn.ok (Or.inl rfl)) hz) with ⟨t',e,f⟩ | ⟨q,t',e,w⟩
    ·left
     rw [e,if_neg (show ¬ (81:Int)=0 by decide)];exact ⟨t',rfl,f.up (by omega)⟩
    ·right
     rw [e,if_pos rfl];refine ⟨[q],t',rfl,w.did,rfl,fun i m hm=>?_,fun x hx=>w.else_ x (fun e=>hx (by simp [e]))⟩;cases i with
     | zero =>
       have e:f empty=m:=(by simpa using hm);rw [<- e];exact ⟨q,rfl,w.here⟩
     | succ i=>simp at hm
   rcases plant_one (H:=1) zl4 vn hk hz rfl with ⟨t',e,f⟩ | ⟨t',L',e,d,r⟩
   ·exact Or.inl ⟨t',e,f.up (by omega)⟩
   ·exact Or.inr ⟨t',L',e,d.up (by omega),r⟩
 ·rw [if_neg h1,w1]
  dsimp only;obtain ⟨s1,s2,_⟩:=w.up.sides w.btw_;obtain ⟨v,hsz⟩:=hf s.nd lo hi es' w.vn.1 w.btw_ w.fits;have hp:=w.path;rw [wc5] at hp;have hrl:r'.length+1=t.ht:=by
   have:=congrArg List.length hp;rw [List.length_reverse,wb4] at this;omega
  rw [hp,w.last,w2];have vn:VN (Sub t.nd 0) 0 (f s.nd) lo hi (g es') []:=⟨v,rfl⟩;rcases climb_ok (O:=O) (nd0:=nd0) t.ht r' s t 0 (f s.nd) lo hi (g es') [] pre post qs h.z_ (h.acc.perm w.pages) w.here w.fits w.room w.keyed vn (by rw [v.leaf];simpa using hsz) w.up w.root_.symm rfl (by omega) with ⟨t',e,f⟩ | ⟨t',L',e,d,r⟩
  ·left
   exact ⟨t',e,(f.perm w.pages.symm).up (by omega)⟩
  ·right
   refine ⟨t',L',e,(d.perm w.pages.symm).up (by omega),?_⟩;rw [<- w.ents,hg _ _ _ s1 s2];exact r
end
end TT
end
section
open Go.RowKit
structure Ln (w:World) (sz:Nat) (A:Option Addr) (n c:Nat) (cs:List Value):Prop where
 len:cs.length=n*sz
 le:n<=c
 lies:ML w A n c cs
def Zi:List (Int×Int)->List Value
 | []=>[]
 | p::ps => .int .i64 p.1 :: .int .i64 p.2::Zi ps
theorem Ui:∀ ps,(Zi ps).length=ps.length*2
 | []=>rfl
 | p::ps=>by simp only [Zi,List.length_cons,Ui ps];omega
theorem ZV:∀ ps qs,Zi (ps++qs)=Zi ps++Zi qs
 | [],_=>rfl
 | p::ps,qs=>by simp only [List.cons_append,Zi,ZV ps qs]
theorem DY:∀ (ps:List (Int×Int)) (i:Nat) (p:Int×Int),ps[i]?=some p->(Zi ps)[i*2]?=some (.int .i64 p.1)/\(Zi ps)[i*2+1]?=some (.int .i64 p.2)
 | [],i,p,h=>by simp at h
 | x::ps,0,p,h=>by
   obtain rfl:x=p:=by simpa using h
   exact ⟨rfl,rfl⟩
 | x::ps,i+1,p,h=>by
   have:=DY ps i p (by simpa using h);have e:(i+1)*2=i*2+1+1:=by omega
   rw [e];simpa [Zi] using this
theorem Yu (ps:List (Int×Int)):∀ u∈Zi ps,u.oneCell'=true:=by
 induction ps with
 | nil=>intro u hu;simp [Zi] at hu
 | cons p ps ih =>
   intro u hu;unfold Zi at hu;rcases wb6.1 hu with rfl | hu
   ·rfl
   ·rcases wb6.1 hu with rfl | hu
    ·rfl
    ·exact ih u hu
theorem Qr (zs:List Int):∀ u∈Qc zs,u.oneCell'=true:=by
 intro u hu;obtain ⟨b,_,rfl⟩:=wd7.1 hu;rfl
theorem Vu (zs:List Int):(Qc zs).length=zs.length:=wd2 _
theorem Yy (a b:List Int):Qc (a++b)=Qc a++Qc b:=wc8
section
variable {w w':World} {sz:Nat} {A:Option Addr} {n c:Nat} {cs:List Value}
theorem Ln.kept (h:Ln w sz A n c cs) (hb:Below w.heap.size w w'):Ln w' sz A n c cs:=⟨h.len,h.le,h.lies.kept hb⟩
theorem Ln.none_ (w:World) (sz:Nat):Ln w sz none 0 0 []:=⟨by simp,wa2 _,fun _=>⟨rfl,rfl⟩,fun ad e=>(by cases e)⟩
theorem Ln.empty (w:World) (sz:Nat) (ad:Addr) (c:Nat):Ln w sz (some ad) 0 c []:=⟨by simp,wb3 _,fun e=>(by cases e),fun ad _ j u hu=>by simp at hu⟩
theorem Ln.oo {base:Nat} {e:TypeId} {v:Value} (h:w.ownsRow base e sz v n cs):∃ A c,v = .slice A n c/\c<=maxLen/\Ln w sz A n c cs:=by
 have h1:=h.1;rcases h.2 with ⟨rfl,h0⟩ | ⟨g,cap,cur,rfl,hb,hh,hnc,hm,_⟩
 ·subst h0
  obtain rfl:cs=[]:=wb2 (by omega);exact ⟨none,0,rfl,wb3 _,Ln.none_ w sz⟩
 ·refine ⟨_,_,rfl,hm,h1,hnc,fun e=>(by cases e),fun ad e j u hu=>?_⟩
  obtain rfl:=wa0 e;exact h.cells (g:=g) rfl j u hu
theorem Ln.spot (h:Ln w sz A n c cs) (hn:0<cs.length):∃ b off,A=some ⟨b,off,none⟩/\b<w.heap.size:=by
 rcases A with _ | ⟨b,off,sp⟩
 ·obtain ⟨rfl,rfl⟩:=h.lies.1 rfl
  have:=h.len;omega
 ·have h0:=h.lies.2 _ rfl 0 cs[0] (by simp [hn])
  have hs:sp=none:=by simpa [Addr.add] using World.cell?_spot h0
  subst hs;rw [Zn] at h0;exact ⟨b,off,rfl,World.block_lt_of_cell? _ _ h0⟩
theorem Ln.cell {b off:Nat} (h:Ln w sz (some ⟨b,off,none⟩) n c cs) {j:Nat} {u:Value} (hu:cs[j]?=some u):w.cell? ⟨b,off+j,none⟩=some u:=by
 have:=h.lies.2 _ rfl j u hu;rw [Zn] at this;exact this
theorem Ln.ints {zs:List Int} (h:Ln w 1 A n c (Qc zs)):FX w A zs:=by
 rcases zs with _ | ⟨z,zs⟩
 ·exact Or.inl rfl
 ·obtain ⟨b,off,rfl,_⟩:=h.spot (by simp [Qc])
  exact Or.inr ⟨b,off,rfl,fun i z hz=>h.cell (by rw [Qc,wc7,hz];rfl)⟩
theorem Ln.intN {zs:List Int} (h:Ln w 1 A n c (Qc zs)):zs.length=n:=by
 have:=h.len;rw [Vu] at this;omega
theorem Ln.prN {ps:List (Int×Int)} (h:Ln w 2 A n c (Zi ps)):ps.length=n:=by
 have:=h.len;rw [Ui] at this;omega
theorem Ln.iA {zs:List Int} (h:Ln w 1 A n c (Qc zs)) {k:Nat} (hk:k<n) :
 ∃ b off z,A=some ⟨b,off,none⟩/\zs[k]?=some z/\w.cell? ⟨b,off+k,none⟩=some (.int .i64 z):=h.ints.at_ (by rw [h.intN];exact hk)
theorem Ln.prAt {ps:List (Int×Int)} (h:Ln w 2 A n c (Zi ps)) {k:Nat} (hk:k<n) :
 ∃ b off x y,A=some ⟨b,off,none⟩/\ps[k]?=some (x,y)/\w.cell? ⟨b,off+k*2,none⟩=some (.int .i64 x)/\w.cell? ⟨b,off+k*2+1,none⟩=some (.int .i64 y):=by
 have hl:=h.prN;obtain ⟨b,off,rfl,_⟩:=h.spot (by rw [Ui];omega);have hp:ps[k]?=some ps[k]:=wb1 (by omega);obtain ⟨h1,h2⟩:=DY ps k _ hp;exact ⟨b,off,(ps[k]).1,(ps[k]).2,rfl,hp,h.cell h1,h.cell h2⟩
theorem Ln.take (h:Ln w sz A n c cs) {k:Nat} (hk:k<=n):Ln w sz A k c (cs.take (k*sz)):=by
 have hle:=h.le;have hm:k*sz<=n*sz:=Nat.mul_le_mul_right _ hk;refine ⟨by rw [wb8,h.len];omega,by omega,fun e=>?_,fun ad e j u hu=>h.lies.2 ad e j u ?_⟩
 ·obtain ⟨h1,h2⟩:=h.lies.1 e
  omega
 ·rw [List.getElem?_take] at hu
  split at hu
  ·exact hu
  ·cases hu
theorem Ln.drop {b off:Nat} (h:Ln w sz (some ⟨b,off,none⟩) n c cs) {k:Nat} (hk:k<=n):Ln w sz (some ⟨b,off+k*sz,none⟩) (n - k) (c - k) (cs.drop (k*sz)):=by
 have hle:=h.le;refine ⟨by rw [wc9,h.len,Nat.sub_mul],by omega,fun e=>(by cases e),fun ad e j u hu=>?_⟩;obtain rfl:=wa0 e;rw [we8] at hu;rw [Zn,show off+k*sz+j=off+(k*sz+j) by omega];exact h.cell hu
theorem Ln.intTake {zs:List Int} (h:Ln w 1 A n c (Qc zs)) {k:Nat} (hk:k<=n):Ln w 1 A k c (Qc (zs.take k)):=by
 have:=h.take hk;rw [wg0,Qc,<- List.map_take] at this;exact this
theorem Ln.intDrop {b off:Nat} {zs:List Int} (h:Ln w 1 (some ⟨b,off,none⟩) n c (Qc zs)) {k:Nat} (hk:k<=n):Ln w 1 (some ⟨b,off+k,none⟩) (n - k) (c - k) (Qc (zs.drop k)):=by
 have:=h.drop hk;rw [wg0,Qc,<- wg4] at this;exact this
end
structure Pc where
 A:Option Addr
 n:Nat
 c:Nat
 cs:List Value
def Xn (ps:List Pc):Nat:=(ps.map Pc.n).sum
def QT (ps:List Pc):List Value:=ps.flatMap Pc.cs
theorem Yx {ps:List Pc} {k:Nat} {p:Pc} (h:ps[k]?=some p):Xn (ps.take (k+1))=Xn (ps.take k)+p.n:=by
 unfold Xn;rw [wc2,h,wd0,wc8,wf7];simp
theorem YM {ps:List Pc} {k:Nat} {p:Pc} (h:ps[k]?=some p):QT (ps.take (k+1))=QT (ps.take k)++p.cs:=by
 unfold QT;rw [wc2,h,wd0,wf9];simp
theorem JS (ps:List Pc) (k:Nat):Xn (ps.take k)<=Xn ps:=by
 conv=>rhs;rw [<- wb7 k ps]
 unfold Xn;rw [wc8,wf7];omega
def YU (w:World) (sz:Nat) (A:Option Addr) (ps:List Pc):Prop :=
 ps=[]\/∃ b off,A=some ⟨b,off,none⟩/\∀ i p,ps[i]?=some p->w.cell? ⟨b,off+i,none⟩=some (.slice p.A p.n p.c)/\Ln w sz p.A p.n p.c p.cs/\∀ u∈p.cs,u.oneCell'=true
section
variable {w w':World} {sz:Nat} {A:Option Addr}
theorem YU.kept {ps:List Pc} (h:YU w sz A ps) (hb:Below w.heap.size w w'):YU w' sz A ps:=by
 rcases h with rfl | ⟨b,off,rfl,hc⟩
 ·exact Or.inl rfl
 ·refine Or.inr ⟨b,off,rfl,fun i p hp=>?_⟩
  obtain ⟨h1,h2,h3⟩:=hc i p hp;exact ⟨(hb.cell (p:=⟨b,_,none⟩) (World.block_lt_of_cell? _ _ h1)).trans h1,h2.kept hb,h3⟩
theorem YU.at_ {ps:List Pc} (h:YU w sz A ps) {k:Nat} (hk:k<ps.length) :
 ∃ b off p,A=some ⟨b,off,none⟩/\ps[k]?=some p/\w.cell? ⟨b,off+k,none⟩=some (.slice p.A p.n p.c)/\Ln w sz p.A p.n p.c p.cs/\∀ u∈p.cs,u.oneCell'=true:=by
 rcases h with rfl | ⟨b,off,rfl,hc⟩
 ·exact absurd hk (by simp)
 ·exact ⟨b,off,ps[k],rfl,wb1 hk,hc k _ (wb1 hk)⟩
theorem Za {B:Option Addr} {n c:Nat} {cs:List Value} (h:Ln w sz B n c cs) (h1:∀ u∈cs,u.oneCell'=true) (t:TypeId):YU (w.alloc (.cells #[.slice B n c] t)) sz (some ⟨w.heap.size,0,none⟩) [⟨B,n,c,cs⟩]:=by
 refine Or.inr ⟨_,_,rfl,fun i p hp=>?_⟩
 match i,hp with
 | 0,hp =>
   obtain rfl:=wa0 hp;exact ⟨by simp,h.kept (Qa _ _),h1⟩
theorem Ut {B C:Option Addr} {n c m d:Nat} {cs ds:List Value} (h:Ln w sz B n c cs) (h1:∀ u∈cs,u.oneCell'=true) (g:Ln w sz C m d ds) (g1:∀ u∈ds,u.oneCell'=true) (t:TypeId) :
 YU (w.alloc (.cells #[.slice B n c,.slice C m d] t)) sz (some ⟨w.heap.size,0,none⟩) [⟨B,n,c,cs⟩,⟨C,m,d,ds⟩]:=by
 refine Or.inr ⟨_,_,rfl,fun i p hp=>?_⟩
 match i,hp with
 | 0,hp =>
   obtain rfl:=wa0 hp;exact ⟨by simp,h.kept (Qa _ _),h1⟩
 | 1,hp =>
   obtain rfl:=wa0 hp;exact ⟨by simp,g.kept (Qa _ _),g1⟩
theorem Gt {B C D:Option Addr} {n c m d k e:Nat} {cs ds es:List Value} (h:Ln w sz B n c cs) (h1:∀ u∈cs,u.oneCell'=true) (g:Ln w sz C m d ds) (g1:∀ u∈ds,u.oneCell'=true) (f:Ln w sz D k e es) (f1:∀ u∈es,u.oneCell'=true) (t:TypeId) :
 YU (w.alloc (.cells #[.slice B n c,.slice C m d,.slice D k e] t)) sz (some ⟨w.heap.size,0,none⟩) [⟨B,n,c,cs⟩,⟨C,m,d,ds⟩,⟨D,k,e,es⟩]:=by
 refine Or.inr ⟨_,_,rfl,fun i p hp=>?_⟩
 match i,hp with
 | 0,hp =>
   obtain rfl:=wa0 hp;exact ⟨by simp,h.kept (Qa _ _),h1⟩
 | 1,hp =>
   obtain rfl:=wa0 hp;exact ⟨by simp,g.kept (Qa _ _),g1⟩
 | 2,hp =>
   obtain rfl:=wa0 hp;exact ⟨by simp,f.kept (Qa _ _),f1⟩
end
theorem qr4 (w:World) (a:Int) (t:TypeId):Ln (w.alloc (.cells #[.int .i64 a] t)) 1 (some ⟨w.heap.size,0,none⟩) 1 1 (Qc [a]) :=
 ⟨rfl,wa2 _,fun e=>(by cases e),fun ad e j u hu=>by
  obtain rfl:=wa0 e;rw [Zn]
  match j,hu with
  | 0,hu =>
    obtain rfl:=wa0 hu;simp⟩
theorem zb6 (w:World) (a b:Int) (t:TypeId):Ln (w.alloc (.cells #[.int .i64 a,.int .i64 b] t)) 2 (some ⟨w.heap.size,0,none⟩) 1 1 (Zi [(a,b)]) :=
 ⟨rfl,wa2 _,fun e=>(by cases e),fun ad e j u hu=>by
  obtain rfl:=wa0 e;exact qd6 w _ _ t j u hu⟩
def Vl (w:World) (t:TypeId) (sz N:Nat) (cs:List Value) (e:Ending) (w':World):Prop :=
 ∃ v,e = .returned v/\w'.ownsRow w.heap.size t sz v N cs/\Below w.heap.size w w'
structure Sp (w:World) (A:Option Addr) (n c:Nat) (B:Option Addr) (m d:Nat) (s:SS):Prop where
 fr:Ln w 1 A n c (Qc s.fr)
 pe:Ln w 2 B m d (Zi s.pe)
theorem Sp.kept {w w':World} {A B:Option Addr} {n c m d:Nat} {s:SS} (h:Sp w A n c B m d s) (hb:Below w.heap.size w w'):Sp w' A n c B m d s:=⟨h.fr.kept hb,h.pe.kept hb⟩
theorem Sp.fl {w:World} {A B:Option Addr} {n c m d:Nat} {s:SS} (h:Sp w A n c B m d s):s.fr.length=n:=h.fr.intN
theorem Sp.pl {w:World} {A B:Option Addr} {n c m d:Nat} {s:SS} (h:Sp w A n c B m d s):s.pe.length=m:=h.pe.prN
theorem Sp.zero (w:World):Sp w none 0 0 none 0 0 SS.none:=⟨Ln.none_ w 1,Ln.none_ w 2⟩
def Gz (w:World) (g:Nat) (x y z:Value):Prop:=w.heap[g]?=some (.cells #[x,y,z] 45 (0,0))
section
variable {w w':World} {g:Nat} {x y z:Value}
theorem Gz.lt (h:Gz w g x y z):g<w.heap.size:=(wa1.1 h).1
theorem Gz.kept (h:Gz w g x y z) (hb:Below w.heap.size w w'):Gz w' g x y z:=(hb.block g h.lt).trans h
theorem Gz.cells (h:Gz w g x y z):w.cell? ⟨g,0,none⟩=some x/\w.cell? ⟨g,1,none⟩=some y/\w.cell? ⟨g,2,none⟩=some z :=
 ⟨(cell_of_row w g 0 _ _ _ h).trans rfl,(cell_of_row w g 1 _ _ _ h).trans rfl,(cell_of_row w g 2 _ _ _ h).trans rfl⟩
theorem Gz.free (h:Gz w g x y z):w.frozen? ⟨g,0,none⟩=false/\w.frozen? ⟨g,1,none⟩=false/\w.frozen? ⟨g,2,none⟩=false :=
 ⟨frozen_of_row w g 0 _ _ h,frozen_of_row w g 1 _ _ h,frozen_of_row w g 2 _ _ h⟩
end
theorem Yi (w:World) (x y z:Value):Gz (w.alloc (.cells #[x,y,z] 45)) w.heap.size x y z:=heap_alloc_new w _
/-- The argument's block, and the answer's. -/
theorem Vm (w:World) (x y z x' y' z':Value):Gz ((w.alloc (.cells #[x,y,z] 45)).alloc (.cells #[x',y',z'] 45)) w.heap.size x y z /\
 Gz ((w.alloc (.cells #[x,y,z] 45)).alloc (.cells #[x',y',z'] 45)) (w.heap.size+1) x' y' z'/\Below w.heap.size w ((w.alloc (.cells #[x,y,z] 45)).alloc (.cells #[x',y',z'] 45)):=by
 refine ⟨(Yi w x y z).kept (Qa _ _),?_,Zp _ _ _⟩;have h:=Yi (w.alloc (.cells #[x,y,z] 45)) x' y' z';rw [show (w.alloc (.cells #[x,y,z] 45)).heap.size=w.heap.size+1 by simp] at h;exact h
end
section
open Go.RowKit Go.Maps
theorem Kz (A:Option Addr) (n c:Nat) (cs:List Value):QT [⟨A,n,c,cs⟩]=cs:=by simp [QT]
section
variable {w w':World} {g r:Nat} {x y z:Value}
theorem Gz.set0 (h:Gz w g x y z) (u:Value):Gz (w.setCell ⟨g,0,none⟩ u) g u y z:=by
 unfold Gz at h ⊢;rw [Joins.block_setCell h];rfl
theorem Gz.set1 (h:Gz w g x y z) (u:Value):Gz (w.setCell ⟨g,1,none⟩ u) g x u z:=by
 unfold Gz at h ⊢;rw [Joins.block_setCell h];rfl
theorem Gz.set2 (h:Gz w g x y z) (u:Value):Gz (w.setCell ⟨g,2,none⟩ u) g x y u:=by
 unfold Gz at h ⊢;rw [Joins.block_setCell h];rfl
theorem Gz.put (h:Gz w g x y z) (x' y' z':Value):Gz (((w.setCell ⟨g,0,none⟩ x').setCell ⟨g,1,none⟩ y').setCell ⟨g,2,none⟩ z') g x' y' z':=((h.set0 x').set1 y').set2 z'
def JU (r:Nat) (w w':World):Prop:=w.heap.size=w'.heap.size/\∀ k,k≠r->w'.heap[k]?=w.heap[k]?
theorem JU.refl (r:Nat) (w:World):JU r w w:=⟨rfl,fun _ _=>rfl⟩
theorem JU.set {w w':World} (h:JU r w w') (j:Nat) (u:Value):JU r w (w'.setCell ⟨r,j,none⟩ u):=⟨h.1.trans (by simp [World.setCell]),fun k hk=>(Below.heap_setCell _ _ _ _ hk).trans (h.2 k hk)⟩
theorem JU.put (w:World) (r:Nat) (x y z:Value):JU r w (((w.setCell ⟨r,0,none⟩ x).setCell ⟨r,1,none⟩ y).setCell ⟨r,2,none⟩ z):=(((JU.refl r w).set 0 x).set 1 y).set 2 z
theorem JU.cell (hb:JU r w w') {k:Nat} (hne:k≠r) (j:Nat):w'.cell? ⟨k,j,none⟩=w.cell? ⟨k,j,none⟩:=World.cell?_of_block (w:=w) (hb.2 k hne)
theorem Jf {B:Nat} {a w:World} (h:Below B a w) (hr:B<=r) (x y z:Value):Below B a (((w.setCell ⟨r,0,none⟩ x).setCell ⟨r,1,none⟩ y).setCell ⟨r,2,none⟩ z):=((h.setCell hr _).setCell hr _).setCell hr _
end
def Hi (base:Nat) (A:Option Addr):Prop:=∀ ad,A=some ad->base<=ad.block
theorem Hi.low {base base':Nat} {A:Option Addr} (h:Hi base A) (hb:base'<=base):Hi base' A:=fun ad e=>wa9 hb (h ad e)
theorem Hi.none_ (base:Nat):Hi base none:=fun _ e=>by cases e
theorem Hi.oo {w:World} {base sz n c:Nat} {e:TypeId} {A:Option Addr} {cs:List Value} (h:w.ownsRow base e sz (.slice A n c) n cs):Hi base A:=by
 intro ad e;subst e;exact (h.lt ad.block rfl).1
theorem Ln.but {w w':World} {sz r n c:Nat} {A:Option Addr} {cs:List Value} (h:Ln w sz A n c cs) (hb:JU r w w') (hA:Hi (r+1) A):Ln w' sz A n c cs :=
 ⟨h.len,h.le,h.lies.1,fun ad e j u hu=>by
  have h0:=h.lies.2 ad e j u hu;have hlt:=hA ad e;have hblk:(ad.add j).block=ad.block:=by unfold Addr.add;split<;>rfl
  rw [World.cell?_of_block (w:=w) (hb.2 (ad.add j).block (by omega))];exact h0⟩
theorem Sp.but {w w':World} {r n c m d:Nat} {A B:Option Addr} {s:SS} (h:Sp w A n c B m d s) (hb:JU r w w') (hA:Hi (r+1) A) (hB:Hi (r+1) B):Sp w' A n c B m d s:=⟨h.fr.but hb hA,h.pe.but hb hB⟩
def qu9 (w':World) (base:Nat) (v:Value) (s:SS):Prop:=∃ A n c B m d,v = .agg #[.int .i64 s.hi,.slice A n c,.slice B m d]/\Sp w' A n c B m d s/\Hi base A/\Hi base B
theorem qu9.kept {w w':World} {base:Nat} {v:Value} {s:SS} (h:qu9 w base v s) (hb:Below w.heap.size w w'):qu9 w' base v s:=by
 obtain ⟨A,n,c,B,m,d,rfl,h,hi⟩:=h;exact ⟨A,n,c,B,m,d,rfl,h.kept hb,hi⟩
def VP (w:World) (r:Int) (s:SS) (e:Ending) (w':World):Prop:=∃ v,e = .returned (.tuple #[v,.int .i64 r])/\qu9 w' w.heap.size v s/\Below w.heap.size w w'
def XL (w:World) (r:Int×Int×SS) (e:Ending) (w':World):Prop:=∃ v,e = .returned (.tuple #[v,.int .i64 r.2.1,.int .i64 r.1])/\qu9 w' w.heap.size v r.2.2/\Below w.heap.size w w'
theorem Yn {w w2:World} {r n c m d:Nat} {h:Int} {A B:Option Addr} {s:SS} (hb:Below w.heap.size w w2) (hr:w.heap.size<=r) (hs:Sp w2 A n c B m d s) (hA:Hi (r+1) A) (hB:Hi (r+1) B) (hh:s.hi=h) (x y z:Value) :
 qu9 (((w2.setCell ⟨r,0,none⟩ x).setCell ⟨r,1,none⟩ y).setCell ⟨r,2,none⟩ z) w.heap.size (.agg #[.int .i64 h,.slice A n c,.slice B m d]) s/\Below w.heap.size w (((w2.setCell ⟨r,0,none⟩ x).setCell ⟨r,1,none⟩ y).setCell ⟨r,2,none⟩ z) :=
 ⟨⟨A,n,c,B,m,d,by rw [hh],hs.but (JU.put w2 r x y z) hA hB,hA.low (by omega),hB.low (by omega)⟩,Jf hb hr x y z⟩
end
section
open Go.RowKit
def tb (t:List UInt8):ByteArray:=⟨t.toArray⟩
theorem GY (t:List UInt8):(tb t).toList=t:=by rw [Yb];rfl
theorem Zx (s:ByteArray):tb s.toList=s:=VT (GY _)
def Qd (l:List (List UInt8)):List Value:=l.map (fun t=>Value.string (tb t))
theorem Vq (l:List (List UInt8)):(Qd l).length=l.length:=wd2 _
theorem Zw (a b:List (List UInt8)):Qd (a++b)=Qd a++Qd b:=wc8
theorem Qm (l:List (List UInt8)):∀ u∈Qd l,u.oneCell'=true:=by
 intro u hu;obtain ⟨b,_,rfl⟩:=wd7.1 hu;rfl
theorem ZL {l:List (List UInt8)} {k:Nat} {t:List UInt8} (h:l[k]?=some t):(Qd l)[k]?=some (.string (tb t)):=by
 rw [Qd,wc7,h];rfl
section
variable {w w':World} {A:Option Addr} {n c:Nat}
theorem Ln.strN {l:List (List UInt8)} (h:Ln w 1 A n c (Qd l)):l.length=n:=by
 have:=h.len;rw [Vq] at this;omega
theorem Ln.sA {l:List (List UInt8)} (h:Ln w 1 A n c (Qd l)) {k:Nat} (hk:k<n) :
 ∃ b off s,A=some ⟨b,off,none⟩/\l[k]?=some (ByteArray.toList s)/\w.cell? ⟨b,off+k,none⟩=some (.string s):=by
 have hl:=h.strN;obtain ⟨b,off,rfl,_⟩:=h.spot (by rw [Vq];omega);have hp:l[k]?=some l[k]:=wb1 (by omega);exact ⟨b,off,tb l[k],rfl,by rw [GY];exact hp,h.cell (ZL hp)⟩
theorem Ln.strTake {l:List (List UInt8)} (h:Ln w 1 A n c (Qd l)) {k:Nat} (hk:k<=n):Ln w 1 A k c (Qd (l.take k)):=by
 have:=h.take hk;rw [wg0,Qd,<- List.map_take] at this;exact this
end
theorem Ln.same {w w':World} {sz n c:Nat} {A:Option Addr} {cs:List Value} (h:Ln w sz A n c cs) (e:w'.heap=w.heap):Ln w' sz A n c cs :=
 ⟨h.len,h.le,h.lies.1,fun ad ea j u hu=>(World.cell?_of_block (w:=w) (by rw [e])).trans (h.lies.2 ad ea j u hu)⟩
def Yp (base:Nat) (A:Option Addr):Prop:=∀ ad,A=some ad->base<=ad.block
theorem Yp.low {base base':Nat} {A:Option Addr} (h:Yp base A) (hb:base'<=base):Yp base' A:=fun ad e=>wa9 hb (h ad e)
theorem Yp.none_ (base:Nat):Yp base none:=fun _ e=>by cases e
theorem Yp.oo {w:World} {base sz n c:Nat} {e:TypeId} {A:Option Addr} {cs:List Value} (h:w.ownsRow base e sz (.slice A n c) n cs):Yp base A:=by
 intro ad e;subst e;exact (h.lt ad.block rfl).1
def Qs (w:World) (g:Nat) (x y z p:Value):Prop:=w.heap[g]?=some (.cells #[x,y,z,p] 75 (0,0))
section
variable {w w':World} {g r:Nat} {x y z p:Value}
theorem Qs.lt (h:Qs w g x y z p):g<w.heap.size:=(wa1.1 h).1
theorem Qs.kept (h:Qs w g x y z p) (hb:Below w.heap.size w w'):Qs w' g x y z p:=(hb.block g h.lt).trans h
theorem Qs.block (h:Qs w g x y z p) (e:w'.heap[g]?=w.heap[g]?):Qs w' g x y z p:=Eq.trans e h
theorem Qs.cells (h:Qs w g x y z p):w.cell? ⟨g,0,none⟩=some x/\w.cell? ⟨g,1,none⟩=some y/\w.cell? ⟨g,2,none⟩=some z/\w.cell? ⟨g,3,none⟩=some p :=
 ⟨(cell_of_row w g 0 _ _ _ h).trans rfl,(cell_of_row w g 1 _ _ _ h).trans rfl,(cell_of_row w g 2 _ _ _ h).trans rfl,(cell_of_row w g 3 _ _ _ h).trans rfl⟩
theorem Qs.free (h:Qs w g x y z p):w.frozen? ⟨g,0,none⟩=false/\w.frozen? ⟨g,1,none⟩=false/\w.frozen? ⟨g,2,none⟩=false/\w.frozen? ⟨g,3,none⟩=false :=
 ⟨frozen_of_row w g 0 _ _ h,frozen_of_row w g 1 _ _ h,frozen_of_row w g 2 _ _ h,frozen_of_row w g 3 _ _ h⟩
theorem Qs.set0 (h:Qs w g x y z p) (u:Value):Qs (w.setCell ⟨g,0,none⟩ u) g u y z p:=by
 unfold Qs at h ⊢;rw [Joins.block_setCell h];rfl
theorem Qs.set1 (h:Qs w g x y z p) (u:Value):Qs (w.setCell ⟨g,1,none⟩ u) g x u z p:=by
 unfold Qs at h ⊢;rw [Joins.block_setCell h];rfl
theorem Qs.set2 (h:Qs w g x y z p) (u:Value):Qs (w.setCell ⟨g,2,none⟩ u) g x y u p:=by
 unfold Qs at h ⊢;rw [Joins.block_setCell h];rfl
theorem Qs.set3 (h:Qs w g x y z p) (u:Value):Qs (w.setCell ⟨g,3,none⟩ u) g x y z u:=by
 unfold Qs at h ⊢;rw [Joins.block_setCell h];rfl
theorem Qs.put (h:Qs w g x y z p) (x' y' z' p':Value):Qs ((((w.setCell ⟨g,0,none⟩ x').setCell ⟨g,1,none⟩ y').setCell ⟨g,2,none⟩ z').setCell ⟨g,3,none⟩ p') g x' y' z' p':=(((h.set0 x').set1 y').set2 z').set3 p'
def Yq (r:Nat) (w w':World):Prop:=w.heap.size=w'.heap.size/\∀ k,k≠r->w'.heap[k]?=w.heap[k]?
theorem Yq.refl (r:Nat) (w:World):Yq r w w:=⟨rfl,fun _ _=>rfl⟩
theorem Yq.set {w w':World} (h:Yq r w w') (j:Nat) (u:Value):Yq r w (w'.setCell ⟨r,j,none⟩ u):=⟨h.1.trans (by simp [World.setCell]),fun k hk=>(Below.heap_setCell _ _ _ _ hk).trans (h.2 k hk)⟩
theorem Yq.put (w:World) (r:Nat) (x y z p:Value):Yq r w ((((w.setCell ⟨r,0,none⟩ x).setCell ⟨r,1,none⟩ y).setCell ⟨r,2,none⟩ z).setCell ⟨r,3,none⟩ p):=((((Yq.refl r w).set 0 x).set 1 y).set 2 z).set 3 p
theorem Qs.but (h:Qs w g x y z p) (hb:Yq r w w') (hne:g≠r):Qs w' g x y z p:=(hb.2 g hne).trans h
theorem Jv {B:Nat} {a w:World} (h:Below B a w) (hr:B<=r) (x y z p:Value):Below B a ((((w.setCell ⟨r,0,none⟩ x).setCell ⟨r,1,none⟩ y).setCell ⟨r,2,none⟩ z).setCell ⟨r,3,none⟩ p):=(((h.setCell hr _).setCell hr _).setCell hr _).setCell hr _
theorem Ln.nbut {sz n c:Nat} {A:Option Addr} {cs:List Value} (h:Ln w sz A n c cs) (hb:Yq r w w') (hA:Yp (r+1) A):Ln w' sz A n c cs :=
 ⟨h.len,h.le,h.lies.1,fun ad e j u hu=>by
  have h0:=h.lies.2 ad e j u hu;have hlt:=hA ad e;have hblk:(ad.add j).block=ad.block:=by unfold Addr.add;split<;>rfl
  rw [World.cell?_of_block (w:=w) (hb.2 (ad.add j).block (by omega))];exact h0⟩
end
theorem Qp (w:World) (x y z p:Value):Qs (w.alloc (.cells #[x,y,z,p] 75)) w.heap.size x y z p:=heap_alloc_new w _
structure Nd (w:World) (A:Option Addr) (n c:Nat) (B:Option Addr) (m d:Nat) (C:Option Addr) (k e:Nat) (s:ND):Prop where
 ke:Ln w 1 A n c (Qd s.keys)
 va:Ln w 1 B m d (Qd s.vals)
 ki:Ln w 1 C k e (Qc s.kids)
section
variable {w w':World} {A B C:Option Addr} {n c m d k e:Nat} {s:ND}
theorem Nd.kept (h:Nd w A n c B m d C k e s) (hb:Below w.heap.size w w'):Nd w' A n c B m d C k e s:=⟨h.ke.kept hb,h.va.kept hb,h.ki.kept hb⟩
theorem Nd.kn (h:Nd w A n c B m d C k e s):s.keys.length=n:=h.ke.strN
theorem Nd.vn (h:Nd w A n c B m d C k e s):s.vals.length=m:=h.va.strN
theorem Nd.cn (h:Nd w A n c B m d C k e s):s.kids.length=k:=h.ki.intN
end
def Ha (w:World) (base:Nat) (v:Value) (s:ND):Prop:=∃ A n c B m d C k e,v = .agg #[.bool s.leaf,.slice A n c,.slice B m d,.slice C k e]/\Nd w A n c B m d C k e s/\Yp base A/\Yp base B/\Yp base C
theorem Ha.kept {w w':World} {base:Nat} {v:Value} {s:ND} (h:Ha w base v s) (hb:Below w.heap.size w w'):Ha w' base v s:=by
 obtain ⟨A,n,c,B,m,d,C,k,e,rfl,h,hi⟩:=h;exact ⟨A,n,c,B,m,d,C,k,e,rfl,h.kept hb,hi⟩
theorem Ha.low {w:World} {base base':Nat} {v:Value} {s:ND} (h:Ha w base v s) (hb:base'<=base):Ha w base' v s:=by
 obtain ⟨A,n,c,B,m,d,C,k,e,rfl,h,h1,h2,h3⟩:=h;exact ⟨A,n,c,B,m,d,C,k,e,rfl,h,h1.low hb,h2.low hb,h3.low hb⟩
theorem Ht (w:World) (base:Nat):Ha w base (.agg #[.bool false,.slice none 0 0,.slice none 0 0,.slice none 0 0]) ND.zero :=
 ⟨none,0,0,none,0,0,none,0,0,rfl,⟨Ln.none_ w 1,Ln.none_ w 1,Ln.none_ w 1⟩,Yp.none_ _,Yp.none_ _,Yp.none_ _⟩
theorem qx6 {w:World} {base r:Nat} {v:Value} {s:ND} (h:Ha w (r+1) v s) (hr:base<=r) (x y z p:Value):Ha ((((w.setCell ⟨r,0,none⟩ x).setCell ⟨r,1,none⟩ y).setCell ⟨r,2,none⟩ z).setCell ⟨r,3,none⟩ p) base v s:=by
 obtain ⟨A,n,c,B,m,d,C,k,e,rfl,h,h1,h2,h3⟩:=h;have hb:=Yq.put w r x y z p;exact ⟨A,n,c,B,m,d,C,k,e,rfl,⟨h.ke.nbut hb h1,h.va.nbut hb h2,h.ki.nbut hb h3⟩,h1.low (by omega),h2.low (by omega),h3.low (by omega)⟩
def zn8 (w:World) (r:Int) (s:ND) (e:Ending) (w':World):Prop:=∃ v,e = .returned (.tuple #[v,.int .i64 r])/\Ha w' w.heap.size v s/\Below w.heap.size w w'
def wdC (x:Nat):Nat->Array Value
 | 0=>#[.int .u8 0,.int .u8 0,.int .u8 0,.int .u8 0]
 | 1=>#[.int .u8 0,.int .u8 0,.int .u8 0,.int .u8 ((x:Int) % 256)]
 | 2=>#[.int .u8 0,.int .u8 0,.int .u8 ((x:Int) / 256 % 256),.int .u8 ((x:Int) % 256)]
 | 3=>#[.int .u8 0,.int .u8 ((x:Int) / 256 / 256 % 256),.int .u8 ((x:Int) / 256 % 256),.int .u8 ((x:Int) % 256)]
 | _=>#[.int .u8 ((x:Int) / 256 / 256 / 256),.int .u8 ((x:Int) / 256 / 256 % 256),.int .u8 ((x:Int) / 256 % 256),.int .u8 ((x:Int) % 256)]
def lft (x:Nat):Nat->Int
 | 0=>x
 | 1=>(x:Int) / 256
 | 2=>(x:Int) / 256 / 256
 | 3=>(x:Int) / 256 / 256 / 256
 | _=>(x:Int) / 256 / 256 / 256 / 256
theorem zp4 {x:Nat} (hx:x<4294967296) {d:Nat}:(wdC x 4).toList.drop (4 - d)=bv (be d x):=by
 unfold be bv;rw [wg4];congr 1;show [Value.int .u8 ((x:Int) / 256 / 256 / 256),.int .u8 ((x:Int) / 256 / 256 % 256),.int .u8 ((x:Int) / 256 % 256),.int .u8 ((x:Int) % 256)] =
  [Value.int .u8 ((UInt8.ofNat (x / 16777216)).toNat:Int),.int .u8 ((UInt8.ofNat (x / 65536)).toNat:Int),.int .u8 ((UInt8.ofNat (x / 256)).toNat:Int),.int .u8 ((UInt8.ofNat x).toNat:Int)]
 rw [Qx,Qx,Qx,Qx];simp only [List.cons.injEq,Value.int.injEq,and_true,true_and];omega
theorem qR2 (w:World) {x:Nat} (hx:x<4294967296) {d:Nat} (t:TypeId):∀ j u,(bv (be d x))[j]?=some u->(w.alloc (.cells (wdC x 4) t)).drew.cell? ((⟨w.heap.size,4 - d,none⟩:Addr).add j)=some u:=by
 intro j u h;rw [<- zp4 hx,we8] at h;have e:(w.alloc (.cells (wdC x 4) t)).drew.heap[w.heap.size]?=some (.cells (wdC x 4) t):=heap_alloc_new w _;rw [Zn,cell_of_row _ w.heap.size (4 - d+j) _ t (0,0) e];simpa using h
structure Jk (w:World) (B fb pb base:Nat) (l:List UInt8):Prop where
 bf:B<=fb
 bp:B<=pb
 fl:fb<base
 pl:pb<base
 ne:fb≠pb
 sz:base<=w.heap.size
 cp:w.cell? ⟨pb,0,none⟩=some (.pointer (some ⟨fb,0,none⟩))
 ff:w.frozen? ⟨fb,0,none⟩=false
 cf:∃ v,w.cell? ⟨fb,0,none⟩=some v/\Xr w base v l
theorem ZT {w w':World} {base:Nat} {v:Value} {l:List UInt8} (h:Xr w base v l) (hk:∀ k,v.ownBlock=some k->w'.heap[k]?=w.heap[k]?):Xr w' base v l:=by
 obtain ⟨h1,h2⟩:=h;refine ⟨h1,?_⟩;rcases h2 with h2 | ⟨g,cap,cur,hv,hg,hh,r⟩
 ·exact Or.inl h2
 ·exact Or.inr ⟨g,cap,cur,hv,hg,by rw [hk g (by rw [hv];rfl)];exact hh,r⟩
section
variable {w w':World} {B fb pb base:Nat} {l m:List UInt8}
theorem Jk.below (h:Jk w B fb pb base l) (hb:Below w.heap.size w w'):Jk w' B fb pb base l:=by
 obtain ⟨v,h1,h2⟩:=h.cf;have:=h.fl;have:=h.pl;have:=h.sz;exact ⟨h.bf,h.bp,h.fl,h.pl,h.ne,wa9 h.sz hb.size,(hb.cell (p:=⟨pb,0,none⟩) (by simp only;omega)).trans h.cp,(hb.frozen (p:=⟨fb,0,none⟩) (by simp only;omega)).trans h.ff,
  v,(hb.cell (p:=⟨fb,0,none⟩) (by simp only;omega)).trans h1,qD2 h2 hb⟩
theorem Jk.put (h:Jk w B fb pb base l) {w1:World} {row:Option Nat} {v1:Value} (hg:w.grownBy w1 row) (hr:∀ k,row=some k->base<=k) (ho:Xr w1 base v1 m):Jk (w1.setCell ⟨fb,0,none⟩ v1) B fb pb base m:=by
 have hf:=h.fl;have hp:=h.pl;have hs:=h.sz;have hs1:=hg.size;have e1:w1.heap[fb]?=w.heap[fb]?:=hg.block fb (by omega) (fun e=>by have:=hr fb e.symm;omega);have e2:w1.heap[pb]?=w.heap[pb]?:=hg.block pb (by omega) (fun e=>by have:=hr pb e.symm;omega);obtain ⟨v,c1,_⟩:=h.cf;have c2:w1.cell? ⟨fb,0,none⟩=some v:=(World.cell?_of_block (a:=⟨fb,0,none⟩) e1).trans c1;have f2:w1.frozen? ⟨fb,0,none⟩=false:=(World.frozen?_of_block (a:=⟨fb,0,none⟩) e1).trans h.ff;have c3:w1.cell? ⟨pb,0,none⟩=some (.pointer (some ⟨fb,0,none⟩)):=(World.cell?_of_block (a:=⟨pb,0,none⟩) e2).trans h.cp;refine ⟨h.bf,h.bp,hf,hp,h.ne,?_,?_,?_,v1,?_,?_⟩
 ·simp [World.setCell];omega
 ·rw [World.cell?_setCell_other _ _ _ _ (fun e=>h.ne (congrArg Addr.block e))];exact c3
 ·simpa using f2
 ·exact World.cell?_setCell_same _ _ _ c2
 ·exact ZT ho (fun k hk=>Below.heap_setCell _ _ _ _ (fun e=>by have:=(ho.lt k hk).1;simp only at e;omega))
theorem NZ {w2:World} {C:Array Value} {t:TypeId} {v v2:Value} {d x:Nat} (h:Jk w B fb pb base l) (hd:d<=4) (hgrow:(w.alloc (.cells C t)).drew.grownBy w2 v.ownBlock) (o1:(w.alloc (.cells C t)).ownsRow base 5 1 v l.length (bv l))
 (hown2:w2.ownsRow base 5 1 v2 (l.length+d) (bv l++bv (be d x))):Jk (w2.setCell ⟨fb,0,none⟩ v2) B fb pb base (l++be d x)/\Below B w (w2.setCell ⟨fb,0,none⟩ v2):=by
 have hB:B<=w.heap.size:=by have:=h.bf;have:=h.fl;have:=h.sz;omega
 have hg:(w.alloc (.cells C t)).grownBy w2 v.ownBlock:=⟨hgrow.os,hgrow.tape,hgrow.output,hgrow.size,hgrow.block⟩;refine ⟨(h.below (Qa w _)).put hg (fun k hk=>(o1.lt k hk).1) ?_,?_⟩
 ·unfold Xr
  rw [QD,wa6,Zq x hd];exact hown2
 ·refine Below.setCell (((Below.refl _ _).alloc hB _).grown hg (by simp;omega) (fun g hg=>?_)) (p:=⟨fb,0,none⟩) h.bf _
  have:=(o1.lt g hg).1;have:=h.bf;have:=h.fl;omega
end
theorem qd0 (x:Nat) (hx:x<4294967296) (d:Nat) (hd:d=1\/d=2\/d=4) (w:World) (B fb pb base:Nat) (l:List UInt8) (h:Jk w B fb pb base l) (hl:l.length<=1000000) :
 Calls Tryz.prog 206 #[.int .u32 (x:Int),.int .i64 d,.pointer (some ⟨pb,0,none⟩)] w fun e w'=>e = .returned (.tuple #[])/\Jk w' B fb pb base (l++be d x)/\Below B w w':=by
 obtain ⟨i0,hi,hz0,hz1,hz2⟩:=info_parts QX;go_enter Tryz.func206,Tryz.ntmps206;go_wp2_with fail;go_loopw [0,6] (fun v i wr=>∃ j:Nat,j<=4/\i = .int .i64 (3 - (j:Int))/\v = .int .u32 (lft x j)/\wr=w.alloc (.cells (wdC x j) 280)) (fun _ i _=>(RowKit.intOf i+1).toNat)
 case atStart=>exact ⟨0,by omega,rfl,rfl,rfl⟩
 case round =>
  obtain ⟨j,hj,rfl,rfl,rfl⟩:=hrel;by_cases hlt:j<4
  ·rcases (show j=0\/j=1\/j=2\/j=3 by omega) with rfl | rfl | rfl | rfl
   ·rw [show lft x 0=(x:Int) from rfl,show wdC x 0=#[.int .u8 0,.int .u8 0,.int .u8 0,.int .u8 0] from rfl]
    go_wp2_with fail;exact ⟨⟨1,by omega,rfl,rfl,rfl⟩,by decide⟩
   ·rw [show lft x 1=(x:Int) / 256 from rfl,show wdC x 1=#[.int .u8 0,.int .u8 0,.int .u8 0,.int .u8 ((x:Int) % 256)] from rfl]
    go_wp2_with fail;exact ⟨⟨2,by omega,rfl,rfl,rfl⟩,by decide⟩
   ·rw [show lft x 2=(x:Int) / 256 / 256 from rfl,show wdC x 2=#[.int .u8 0,.int .u8 0,.int .u8 ((x:Int) / 256 % 256),.int .u8 ((x:Int) % 256)] from rfl]
    go_wp2_with fail;exact ⟨⟨3,by omega,rfl,rfl,rfl⟩,by decide⟩
   ·rw [show lft x 3=(x:Int) / 256 / 256 / 256 from rfl,show wdC x 3=#[.int .u8 0,.int .u8 ((x:Int) / 256 / 256 % 256),.int .u8 ((x:Int) / 256 % 256),.int .u8 ((x:Int) % 256)] from rfl]
    go_wp2_with fail;exact ⟨⟨4,by omega,rfl,rfl,rfl⟩,by decide⟩
  ·obtain rfl:j=4:=by omega
   have hN:=fun d=>qR2 w hx (d:=d) 280;have HN:=iQ hN;have h1:=h.below (Qa w (.cells (wdC x 4) 280));have hsz:=h.sz;have hff:=h.ff;have H0:=iQ h;obtain ⟨v,c1,o1⟩:=h1.cf;have c2:=h1.cp;have f1:=h1.ff;have hfl:=h.fl;have hpl:=h.pl;have hgf:fb<(w.alloc (.cells (wdC x 4) 280)).drew.heap.size:=by have:=h1.fl;have:=h1.sz;simp at *;omega
   have hgp:pb<(w.alloc (.cells (wdC x 4) 280)).drew.heap.size:=by have:=h1.pl;have:=h1.sz;simp at *;omega
   generalize wdC x 4=C at *;generalize lft x 4=y at *;clear hN h h1;unfold Xr at o1;have nf:v.ownBlock≠some fb:=fun e=>by have:=(o1.lt _ e).1;omega
   have np:v.ownBlock≠some pb:=fun e=>by have:=(o1.lt _ e).1;omega
   have k3:IntKind.i64.wrap 3=3:=rfl;have k2:IntKind.i64.wrap 2=2:=rfl;have k0:IntKind.i64.wrap 0=0:=rfl;rcases hd with rfl | rfl | rfl
   ·go_wp2_with fail
    go_region_law
     ((refine step_append_lies _ (by rfl) _ _ _ (by rfl) base 5 i0 _ 1 1 Tryz.underlying109 hi hz0 hz1 hz2 rfl (by omega) v l.length (bv l) (by rfl) o1.drew
        ⟨w.heap.size,3,none⟩ 1 1 (bv (be 1 x)) (by rfl) (by rfl) (HN.out 1) (MK _)
        (by omega) (by unfold maxLen;omega) (by omega) (by simp;omega) (w.heap.size+1) (by simp) ?_;intro gg cap w2 hown2 hgrow hat hlt2;have T0:w2.cell? ⟨pb,0,none⟩=some (.pointer (some ⟨fb,0,none⟩)):=(hgrow.cell_far _ hgp np.symm).trans c2;have T1:w2.cell? ⟨fb,0,none⟩=some v:=(hgrow.cell_far _ hgf nf.symm).trans c1;have T2:w2.frozen? ⟨fb,0,none⟩=false:=(World.frozen?_of_block (a:=⟨fb,0,none⟩) (hgrow.block fb hgf nf.symm)).trans f1))
    all_goals (go_end0;exact ⟨rfl,NZ H0.out (by omega) hgrow o1 hown2⟩)
   ·go_wp2_with fail
    go_region_law
     ((refine step_append_lies _ (by rfl) _ _ _ (by rfl) base 5 i0 _ 1 1 Tryz.underlying109 hi hz0 hz1 hz2 rfl (by omega) v l.length (bv l) (by rfl) o1.drew
        ⟨w.heap.size,2,none⟩ 2 2 (bv (be 2 x)) (by rfl) (by rfl) (HN.out 2) (MK _)
        (by omega) (by unfold maxLen;omega) (by omega) (by simp;omega) (w.heap.size+1) (by simp) ?_;intro gg cap w2 hown2 hgrow hat hlt2;have T0:w2.cell? ⟨pb,0,none⟩=some (.pointer (some ⟨fb,0,none⟩)):=(hgrow.cell_far _ hgp np.symm).trans c2;have T1:w2.cell? ⟨fb,0,none⟩=some v:=(hgrow.cell_far _ hgf nf.symm).trans c1;have T2:w2.frozen? ⟨fb,0,none⟩=false:=(World.frozen?_of_block (a:=⟨fb,0,none⟩) (hgrow.block fb hgf nf.symm)).trans f1))
    all_goals (go_end0;exact ⟨rfl,NZ H0.out (by omega) hgrow o1 hown2⟩)
   ·go_wp2_with fail
    go_region_law
     ((refine step_append_lies _ (by rfl) _ _ _ (by rfl) base 5 i0 _ 1 1 Tryz.underlying109 hi hz0 hz1 hz2 rfl (by omega) v l.length (bv l) (by rfl) o1.drew
        ⟨w.heap.size,0,none⟩ 4 4 (bv (be 4 x)) (by rfl) (by rfl) (HN.out 4) (MK _)
        (by omega) (by unfold maxLen;omega) (by omega) (by simp;omega) (w.heap.size+1) (by simp) ?_;intro gg cap w2 hown2 hgrow hat hlt2;have T0:w2.cell? ⟨pb,0,none⟩=some (.pointer (some ⟨fb,0,none⟩)):=(hgrow.cell_far _ hgp np.symm).trans c2;have T1:w2.cell? ⟨fb,0,none⟩=some v:=(hgrow.cell_far _ hgf nf.symm).trans c1;have T2:w2.frozen? ⟨fb,0,none⟩=false:=(World.frozen?_of_block (a:=⟨fb,0,none⟩) (hgrow.block fb hgf nf.symm)).trans f1))
    all_goals (go_end0;exact ⟨rfl,NZ H0.out (by omega) hgrow o1 hown2⟩)
theorem qE1 (fb:Nat) (w:World) :
 Calls Tryz.prog 192 #[.pointer (some ⟨fb,0,none⟩)] w fun e w'=>e = .returned (.func (.func 206) #[] #[.pointer (some ⟨w.heap.size,0,none⟩)])/\w'=w.alloc (.cells #[.pointer (some ⟨fb,0,none⟩)] 271):=by
 have hmf:∀ (fn:Fn) (first cap:Array Value) (w:World),(Instr.makeFunc fn first cap).run Tryz.prog w = .ok (.func fn first cap) w:=fun _ _ _ _=>rfl
 go_enter Tryz.func192,Tryz.ntmps192;go_wp2_with fail;go_ret;exact ⟨rfl,rfl⟩
theorem qE2 (w:World) (t u:TypeId):Jk ((w.alloc (.cells #[.slice none 0 0] t)).alloc (.cells #[.pointer (some ⟨w.heap.size,0,none⟩)] u)) w.heap.size w.heap.size (w.heap.size+1) (w.heap.size+2) []:=by
 have hs:(w.alloc (.cells #[.slice none 0 0] t)).heap.size=w.heap.size+1:=by simp
 have e1:((w.alloc (.cells #[.slice none 0 0] t)).alloc (.cells #[.pointer (some ⟨w.heap.size,0,none⟩)] u)).heap[w.heap.size+1]?=some (.cells #[.pointer (some ⟨w.heap.size,0,none⟩)] u):=by
  have:=heap_alloc_new (w.alloc (.cells #[.slice none 0 0] t)) (.cells #[.pointer (some ⟨w.heap.size,0,none⟩)] u);rwa [hs] at this
 have e0:((w.alloc (.cells #[.slice none 0 0] t)).alloc (.cells #[.pointer (some ⟨w.heap.size,0,none⟩)] u)).heap[w.heap.size]?=some (.cells #[.slice none 0 0] t):=by
  rw [heap_alloc_old _ _ (by rw [hs];omega)];exact heap_alloc_new w _
 refine ⟨wa2 _,by omega,by omega,by omega,by omega,by simp,?_,?_,.slice none 0 0,?_,Xp _ _⟩
 ·rw [cell_of_row _ _ 0 _ u (0,0) e1];rfl
 ·simp
 ·rw [cell_of_row _ _ 0 _ t (0,0) e0];rfl
theorem qx4 {w:World} {base base':Nat} {v:Value} {l:List UInt8} (h:Xr w base v l) (hb:base'<=base):Xr w base' v l:=by
 unfold Xr at h ⊢;refine ⟨h.1,?_⟩;rcases h.2 with h2 | ⟨g,cap,cur,h2,h3,h4⟩
 ·exact Or.inl h2
 ·exact Or.inr ⟨g,cap,cur,h2,by omega,h4⟩
theorem lay1 (x:Nat) (hx:x<4294967296) (w:World) (B fb pb base:Nat) (l:List UInt8) (h:Jk w B fb pb base l) (hl:l.length<=1000000) :
 Calls Tryz.prog 206 #[.int .u32 (x:Int),.int .i64 1,.pointer (some ⟨pb,0,none⟩)] w fun e w'=>e = .returned (.tuple #[])/\Jk w' B fb pb base (l++be 1 x)/\Below B w w' :=
 qd0 x hx 1 (Or.inl rfl) w B fb pb base l h hl
theorem lay2 (x:Nat) (hx:x<4294967296) (w:World) (B fb pb base:Nat) (l:List UInt8) (h:Jk w B fb pb base l) (hl:l.length<=1000000) :
 Calls Tryz.prog 206 #[.int .u32 (x:Int),.int .i64 2,.pointer (some ⟨pb,0,none⟩)] w fun e w'=>e = .returned (.tuple #[])/\Jk w' B fb pb base (l++be 2 x)/\Below B w w' :=
 qd0 x hx 2 (Or.inr (Or.inl rfl)) w B fb pb base l h hl
theorem lay4 (x:Nat) (hx:x<4294967296) (w:World) (B fb pb base:Nat) (l:List UInt8) (h:Jk w B fb pb base l) (hl:l.length<=1000000) :
 Calls Tryz.prog 206 #[.int .u32 (x:Int),.int .i64 4,.pointer (some ⟨pb,0,none⟩)] w fun e w'=>e = .returned (.tuple #[])/\Jk w' B fb pb base (l++be 4 x)/\Below B w w' :=
 qd0 x hx 4 (Or.inr (Or.inr rfl)) w B fb pb base l h hl
/-- What append leaves, of two lists. -/
theorem qD1 {w:World} {base n m:Nat} {v:Value} {a b:List UInt8} (h:w.ownsRow base 5 1 v (n+m) (bv a++bv b)) :
 ∃ A c,v = .slice A (n+m) c/\Xr w base (.slice A (n+m) c) (a++b)/\Xc w w.heap.size A (a++b):=by
 rw [<- QD] at h;obtain ⟨A,c,rfl,hl,_,_,r⟩:=Xc.oo h;refine ⟨A,c,rfl,?_,r⟩;unfold Xr;rw [hl];exact h
/-- The cells at which bytes grow. -/
theorem Jk.look {w:World} {B fb pb base:Nat} {l:List UInt8} (h:Jk w B fb pb base l) {n:Nat} (hl:l.length=n) :
 ∃ v,w.cell? ⟨fb,0,none⟩=some v/\w.frozen? ⟨fb,0,none⟩=false/\w.ownsRow base 5 1 v n (bv l)/\v.ownBlock≠some fb/\fb<w.heap.size/\base<=w.heap.size:=by
 obtain ⟨v,h1,h2⟩:=h.cf;have:=h.fl;refine ⟨v,h1,h.ff,by rw [<- hl];exact h2,fun e=>?_,World.block_lt_of_cell? _ _ h1,h.sz⟩;have:=(h2.lt _ e).1;omega
theorem ze9 (w:Nat) (h:w<4294967296):bits .and .u32 (w:Int) 1=((w % 2:Nat):Int):=by
 have:=u32_and_nat w 1 h (by omega);rw [nat_mask1] at this;exact this
theorem qL3 {y:Nat} (h:y<4294967296) (ho:y % 2=1):bits .xor .u32 ((y:Int) / 2) 3988292384=((Vr y:Nat):Int):=by
 have:=u32_xor_nat (y / 2) 3988292384 (by omega) (by omega);unfold Vr;rw [if_pos ho];exact this
theorem qB6 {y:Nat} (ho:¬ y % 2=1):(y:Int) / 2=((Vr y:Nat):Int):=by
 unfold Vr;rw [if_neg ho,Nat.xor_zero];rfl
theorem qL5 (x:Nat) (hx:x<4294967296) (w:World) :
 Calls Tryz.prog 222 #[.int .u32 (x:Int)] w fun e w'=>e = .returned (.int .u32 ((Vr x:Nat):Int))/\w=w':=by
 have ha:=ze9 x hx;by_cases ho:x % 2=1
 ·have hb:(bits .and .u32 (x:Int) 1==1)=true:=by rw [ha,ho];rfl
  have HO:=iQ (qL3 hx ho);clear ha;go_enter Tryz.func222,Tryz.ntmps222;go_wp2_with fail;go_ret;exact ⟨qb7 HO.out,rfl⟩
 ·have hb:(bits .and .u32 (x:Int) 1==1)=false:=by rw [ha];simp;omega
  have HO:=iQ (qB6 ho);clear ha;go_enter Tryz.func222,Tryz.ntmps222;go_wp2_with fail;go_ret;exact ⟨qb7 HO.out,rfl⟩
theorem qT9 (k tb:Nat) (hk:k<256) (v0:Value) (w:World) (hc:w.cell? ⟨tb,k,none⟩=some v0) (hf:w.frozen? ⟨tb,k,none⟩=false) :
 Calls Tryz.prog 221 #[.int .i64 k,.pointer (some ⟨tb,0,none⟩)] w fun e w'=>e = .returned (.tuple #[])/\w'=w.setCell ⟨tb,k,none⟩ (.int .u32 ((Xu k:Nat):Int)):=by
 go_enter Tryz.func221,Tryz.ntmps221;go_wp2_with fail;go_loopw [3,6] (fun v i wr=>∃ j:Nat,j<=8/\i = .int .i64 j/\v = .int .u32 ((Ur j k:Nat):Int)/\wr=w) (fun _ i _=>8 - (RowKit.intOf i).toNat)
 case atStart=>exact ⟨0,by omega,rfl,rfl,rfl⟩
 case round =>
  obtain ⟨j,hj,rfl,rfl,rfl⟩:=hrel;by_cases hlt:j<8
  ·have hn:Ur j k<4294967296:=SX j (by omega)
   have HS:=iQ (show Ur (j+1) k=Vr (Ur j k) from rfl);generalize Ur j k=y at *;go_wp2_with fail;refine (qL5 y hn _).mono ?_;rintro e w1 ⟨rfl,rfl⟩;go_wp2_with fail;refine ⟨⟨j+1,by omega,by go_num,?_,trivial⟩,by simp [RowKit.intOf];omega⟩;rw [HS.out]
  ·obtain rfl:j=8:=by omega
   go_wp2_with fail;go_end0;exact ⟨rfl,rfl⟩
end
end Go.Proofs.YtfiflinbicbedaaGreat
