/-
  A part of the proof. Conditions: none.
-/
import Derived.Test.YtfiflinbicbedaaGreatZR2

set_option maxRecDepth 20000
set_option maxHeartbeats 12800000
namespace Go.Proofs.YtfiflinbicbedaaGreat
section
structure ND where
 leaf:Bool
 keys:List (List UInt8)
 vals:List (List UInt8)
 kids:List Int
namespace ND
def rise:List UInt8->List (List UInt8)->Bool
 | _,[]=>true
 | p,k::r=>(Op.bytesLess p k && decide (k.length<=120)) && rise k r
def valB (v:List UInt8):Bool:=decide (v.length<=100)
def kidB (k:Int):Bool:=decide (2<=k) && decide (k<=2147483647)
def leafB (s:ND):Bool:=decide (s.vals.length=s.keys.length) && (s.vals.all valB && decide (s.kids.length=0))
def innerB (s:ND):Bool:=decide (0<s.keys.length) && (decide (s.kids.length=s.keys.length+1) && (s.kids.all kidB && decide (s.vals.length=0)))
def ok (s:ND):Bool:=rise [] s.keys && (if s.leaf then s.leafB else s.innerB)
def checkE (s:ND):Int:=if s.ok then 0 else 100
theorem rise_cons (p k:List UInt8) (r:List (List UInt8)):rise p (k::r)=((Op.bytesLess p k && decide (k.length<=120)) && rise k r):=rfl
theorem less_nil (k:List UInt8):Op.bytesLess [] k=decide (1<=k.length):=by
 cases k with
 | nil=>rfl
 | cons x l=>simp [Op.bytesLess]
theorem rise_le:∀ (p:List UInt8) (l:List (List UInt8)),rise p l=true->∀ k∈l,k.length<=120
 | _,[],_,k,hk=>by simp at hk
 | p,x::l,h,k,hk=>by
   rw [rise_cons,wc1,wc1,decide_eq_true_eq] at h;rcases wb6.1 hk with rfl | hk
   ·exact h.1.2
   ·exact rise_le x l h.2 k hk
theorem rise_snoc:∀ (p:List UInt8) (l:List (List UInt8)) (k:List UInt8),rise p (l++[k])=(rise p l && (Op.bytesLess (l.getLastD p) k && decide (k.length<=120)))
 | p,[],k=>by
   show (_ && rise k [])=_;simp [rise]
 | p,x::l,k=>by
   have e:(x::l).getLastD p=l.getLastD x:=by cases l<;>rfl
   rw [we7,rise_cons,rise_cons,rise_snoc x l k,e];exact (Bool.and_assoc _ _ _).symm
def tsl:List (List UInt8)->Nat
 | []=>0
 | t::r=>t.length+tsl r
def tsz (l:List (List UInt8)):Nat:=l.length+tsl l
def size (s:ND):Nat:=2+tsz s.keys+tsz s.vals+4*s.kids.length
theorem tsl_cons (t:List UInt8) (r:List (List UInt8)):tsl (t::r)=t.length+tsl r:=rfl
theorem tsz_cons (t:List UInt8) (r:List (List UInt8)):tsz (t::r)=1+t.length+tsz r:=by
 unfold tsz;rw [tsl_cons,wb4];omega
theorem tsl_append:∀ a b:List (List UInt8),tsl (a++b)=tsl a+tsl b
 | [],b=>by simp [tsl]
 | t::a,b=>by
   rw [we7,tsl_cons,tsl_cons,tsl_append a b];omega
def tx (t:List UInt8):List UInt8:=UInt8.ofNat t.length::t
def kd (c:Int):List UInt8:=be4 (Yk c)
def encL:List (List UInt8)->List (List UInt8)->List UInt8
 | k::ks,v::vs=>tx k++(tx v++encL ks vs)
 | _,_=>[]
def encI:List (List UInt8)->List Int->List UInt8
 | k::ks,c::cs=>tx k++(kd c++encI ks cs)
 | _,_=>[]
def body (s:ND):List UInt8:=if s.leaf then encL s.keys s.vals else (match s.kids with
 | []=>[]
 | c::cs=>kd c++encI s.keys cs)
def enc (s:ND):List UInt8:=be 2 s.keys.length++s.body
def fits (s:ND):Bool:=s.ok && decide (s.size<=1000)
def encE (s:ND):Int:=if s.ok then (if s.size<=1000 then 0 else 101) else 100
def encK (s:ND):Int:=if s.fits then (if s.leaf then 2 else 3) else 0
def encB (s:ND):List UInt8:=if s.fits then s.enc else []
theorem encL_cons (k v:List UInt8) (ks vs:List (List UInt8)):encL (k::ks) (v::vs)=tx k++(tx v++encL ks vs):=rfl
theorem encI_cons (k:List UInt8) (ks:List (List UInt8)) (c:Int) (cs:List Int):encI (k::ks) (c::cs)=tx k++(kd c++encI ks cs):=rfl
theorem tx_length (t:List UInt8):(tx t).length=1+t.length:=by simp [tx];omega
theorem kd_length (c:Int):(kd c).length=4:=rfl
theorem encL_length:∀ ks vs:List (List UInt8),vs.length=ks.length->(encL ks vs).length=tsz ks+tsz vs
 | [],[],_=>rfl
 | k::ks,v::vs,h=>by
   rw [encL_cons,wa6,wa6,tx_length,tx_length,encL_length ks vs (by simpa using h),tsz_cons,tsz_cons];omega
 | [],_::_,h=>by simp at h
 | _::_,[],h=>by simp at h
theorem encI_length:∀ (ks:List (List UInt8)) (cs:List Int),cs.length=ks.length->(encI ks cs).length=tsz ks+4*cs.length
 | [],[],_=>rfl
 | k::ks,c::cs,h=>by
   rw [encI_cons,wa6,wa6,tx_length,kd_length,encI_length ks cs (by simpa using h),tsz_cons,wb4];omega
 | [],_::_,h=>by simp at h
 | _::_,[],h=>by simp at h
theorem ok_rise {s:ND} (h:s.ok=true):rise [] s.keys=true:=by
 unfold ok at h;rw [wc1] at h;exact h.1
theorem ok_leaf {s:ND} (h:s.ok=true) (hl:s.leaf=true):s.vals.length=s.keys.length/\s.vals.all valB=true/\s.kids=[]:=by
 unfold ok at h;rw [wc1,if_pos hl] at h;have h2:=h.2;unfold leafB at h2;rw [wc1,wc1,decide_eq_true_eq,decide_eq_true_eq] at h2;exact ⟨h2.1,h2.2.1,wb2 h2.2.2⟩
theorem ok_inner {s:ND} (h:s.ok=true) (hl:s.leaf=false):0<s.keys.length/\s.kids.length=s.keys.length+1/\s.kids.all kidB=true/\s.vals=[]:=by
 unfold ok at h;rw [wc1,if_neg (by rw [hl];decide)] at h;have h2:=h.2;unfold innerB at h2;rw [wc1,wc1,wc1,decide_eq_true_eq,decide_eq_true_eq,decide_eq_true_eq] at h2;exact ⟨h2.1,h2.2.1,h2.2.2.1,wb2 h2.2.2.2⟩
theorem ok_keys {s:ND} (h:s.ok=true):∀ k∈s.keys,k.length<=120:=rise_le _ _ (ok_rise h)
theorem ok_vals {s:ND} (h:s.ok=true):∀ v∈s.vals,v.length<=100:=by
 intro v hv;cases hl:s.leaf with
 | true =>
   have:=wd4.1 (ok_leaf h hl).2.1 v hv;unfold valB at this;exact of_decide_eq_true this
 | false =>
   rw [(ok_inner h hl).2.2.2] at hv;simp at hv
theorem ok_kids {s:ND} (h:s.ok=true):∀ c∈s.kids,2<=c/\c<=2147483647:=by
 intro c hc;cases hl:s.leaf with
 | true =>
   rw [(ok_leaf h hl).2.2] at hc;simp at hc
 | false =>
   have:=wd4.1 (ok_inner h hl).2.2.1 c hc;unfold kidB at this;rw [wc1,decide_eq_true_eq,decide_eq_true_eq] at this;exact this
theorem enc_length {s:ND} (h:s.ok=true):s.enc.length=s.size:=by
 unfold enc size body;rw [wa6,Zq _ (by omega)];cases hl:s.leaf with
 | true =>
   obtain ⟨h1,_,h3⟩:=ok_leaf h hl;rw [if_pos rfl,encL_length _ _ h1,h3];simp;omega
 | false =>
   obtain ⟨_,h2,_,h4⟩:=ok_inner h hl;rw [if_neg (by decide),h4];cases hk:s.kids with
   | nil=>rw [hk] at h2;simp at h2
   | cons c cs =>
     rw [hk] at h2;simp only [List.length_cons] at h2;show 2+(kd c++encI s.keys cs).length=_;rw [wa6,kd_length,encI_length _ _ (by omega),wb4];simp [tsz,tsl];omega
theorem fits_of {s:ND} (h:s.encE=0):s.fits=true/\s.ok=true/\s.size<=1000:=by
 unfold encE at h;split at h
 ·rename_i ho
  split at h
  ·rename_i hz
   refine ⟨?_,ho,hz⟩;unfold fits;rw [ho,decide_eq_true hz];rfl
  ·omega
 ·omega
theorem encE_fits {s:ND} (ho:s.ok=true) (hz:s.size<=1000):s.encE=0:=by
 unfold encE;rw [if_pos ho,if_pos hz]
theorem encB_of {s:ND} (h:s.encE=0):s.encB=s.enc:=if_pos (fits_of h).1
theorem encK_of {s:ND} (h:s.encE=0):s.encK=if s.leaf then 2 else 3:=if_pos (fits_of h).1
def cutT:List UInt8->Option (List UInt8×List UInt8)
 | []=>none
 | c::r=>if c.toNat<=r.length then some (r.take c.toNat,r.drop c.toNat) else none
def kidT:List UInt8->Option (Int×List UInt8)
 | a::b::c::d::r=>some (((VQ a b c d:Nat):Int),r)
 | _=>none
def prsL:Nat->List UInt8->Option (List (List UInt8)×List (List UInt8))
 | 0,b=>if b.length=0 then some ([],[]) else none
 | n+1,b=>match cutT b with
   | none=>none
   | some (k,r)=>match cutT r with
     | none=>none
     | some (v,r')=>(prsL n r').map (fun p=>(k::p.1,v::p.2))
def prsI:Nat->List UInt8->Option (List (List UInt8)×List Int)
 | 0,b=>if b.length=0 then some ([],[]) else none
 | n+1,b=>match cutT b with
   | none=>none
   | some (k,r)=>match kidT r with
     | none=>none
     | some (v,r')=>(prsI n r').map (fun p=>(k::p.1,v::p.2))
def prs (leaf:Bool):List UInt8->Option ND
 | x::y::r=>if leaf then (prsL (x.toNat*256+y.toNat) r).map (fun p=>⟨true,p.1,p.2,[]⟩)
   else match kidT r with
    | none=>none
    | some (c,r')=>(prsI (x.toNat*256+y.toNat) r').map (fun p=>⟨false,p.1,[],c::p.2⟩)
 | _=>none
def zero:ND:=⟨false,[],[],[]⟩
def isKind (k:Int):Bool:=decide (k=2) || decide (k=3)
def dec (k:Int) (b:List UInt8):Option ND:=if isKind k && decide (b.length<=1000) then (prs (decide (k=2)) b).bind (fun s=>if s.ok then some s else none) else none
def decE (k:Int) (b:List UInt8):Int:=if (dec k b).isSome then 0 else 100
def decS (k:Int) (b:List UInt8):ND:=(dec k b).getD zero
theorem dec_none {k:Int} {b:List UInt8} (h:dec k b=none):decE k b=100/\decS k b=zero:=by
 unfold decE decS;rw [h];exact ⟨rfl,rfl⟩
theorem dec_some {k:Int} {b:List UInt8} {s:ND} (h:dec k b=some s):decE k b=0/\decS k b=s:=by
 unfold decE decS;rw [h];exact ⟨rfl,rfl⟩
theorem cutT_tx {t:List UInt8} (h:t.length<256) (r:List UInt8):cutT (tx t++r)=some (t,r):=by
 unfold tx;rw [we7];show (if (UInt8.ofNat t.length).toNat<=(t++r).length then some ((t++r).take (UInt8.ofNat t.length).toNat,(t++r).drop (UInt8.ofNat t.length).toNat) else none)=_
 rw [Qx,Nat.mod_eq_of_lt h,if_pos (by rw [wa6];omega),List.take_left' rfl,List.drop_left' rfl]
theorem cutT_back {b k r:List UInt8} (h:cutT b=some (k,r)):b=tx k++r:=by
 cases b with
 | nil=>cases h
 | cons c b =>
   change (if c.toNat<=b.length then some (b.take c.toNat,b.drop c.toNat) else none)=_ at h
   split at h
   ·rename_i hc
    have e:=wa0 h;injection e with e1 e2
    subst e1;subst e2;unfold tx;rw [wb8,Nat.min_eq_left hc,we7,wb7];congr 1;apply UInt8.toNat_inj.1;rw [Qx];have:=Zh c;omega
   ·cases h
theorem kidT_kd {c:Int} (h:2<=c/\c<=2147483647) (r:List UInt8):kidT (kd c++r)=some (c,r):=by
 unfold kd be4;simp only [List.cons_append,List.nil_append];show some (((VQ _ _ _ _:Nat):Int),r)=_;rw [qP0 (qQ3 c)];have e:((Yk c:Nat):Int)=c:=by rw [qr3];omega
 rw [e]
theorem kidT_back {b r:List UInt8} {c:Int} (h:kidT b=some (c,r)):b=kd c++r:=by
 match b,h with
 | x::y::z::u::b,h =>
   have e:=wa0 h;injection e with e1 e2
   subst e1;subst e2;unfold kd;have hlt:=za9 x y z u;rw [show Yk ((VQ x y z u:Nat):Int)=VQ x y z u by unfold Yk;omega,qV5];rfl
theorem prsL_succ (n:Nat) (b:List UInt8):prsL (n+1) b=match cutT b with
 | none=>none
 | some (k,r)=>match cutT r with
   | none=>none
   | some (v,r')=>(prsL n r').map (fun p=>(k::p.1,v::p.2)):=rfl
theorem prsI_succ (n:Nat) (b:List UInt8):prsI (n+1) b=match cutT b with
 | none=>none
 | some (k,r)=>match kidT r with
   | none=>none
   | some (v,r')=>(prsI n r').map (fun p=>(k::p.1,v::p.2)):=rfl
theorem prsL_enc:∀ ks vs:List (List UInt8),vs.length=ks.length->(∀ k∈ks,k.length<=120)->(∀ v∈vs,v.length<=100)->prsL ks.length (encL ks vs)=some (ks,vs)
 | [],[],_,_,_=>rfl
 | k::ks,v::vs,h,hk,hv=>by
   have h1:=hk k (by simp);have h2:=hv v (by simp);rw [encL_cons,wb4,prsL_succ,cutT_tx (by omega)];dsimp only;rw [cutT_tx (by omega)];dsimp only;rw [prsL_enc ks vs (by simpa using h) (fun x hx=>hk x (by simp [hx])) (fun x hx=>hv x (by simp [hx]))];rfl
 | [],_::_,h,_,_=>by simp at h
 | _::_,[],h,_,_=>by simp at h
theorem prsI_enc:∀ (ks:List (List UInt8)) (cs:List Int),cs.length=ks.length->(∀ k∈ks,k.length<=120)->(∀ c∈cs,2<=c/\c<=2147483647)->prsI ks.length (encI ks cs)=some (ks,cs)
 | [],[],_,_,_=>rfl
 | k::ks,c::cs,h,hk,hc=>by
   have h1:=hk k (by simp);rw [encI_cons,wb4,prsI_succ,cutT_tx (by omega)];dsimp only;rw [kidT_kd (hc c (by simp))];dsimp only;rw [prsI_enc ks cs (by simpa using h) (fun x hx=>hk x (by simp [hx])) (fun x hx=>hc x (by simp [hx]))];rfl
 | [],_::_,h,_,_=>by simp at h
 | _::_,[],h,_,_=>by simp at h
theorem prsL_back:∀ (n:Nat) (b:List UInt8) (ks vs:List (List UInt8)),prsL n b=some (ks,vs)->ks.length=n/\vs.length=n/\encL ks vs=b
 | 0,b,ks,vs,h=>by
   change (if b.length=0 then some ([],[]) else none)=some (ks,vs) at h
   split at h
   ·rename_i hb
    have e:=wa0 h;injection e with e1 e2
    subst e1;subst e2;exact ⟨rfl,rfl,(wb2 hb).symm⟩
   ·cases h
 | n+1,b,ks,vs,h=>by
   rw [prsL_succ] at h;cases hc:cutT b with
   | none=>rw [hc] at h;cases h
   | some p =>
     obtain ⟨k,r⟩:=p;rw [hc] at h;dsimp only at h;cases hd:cutT r with
     | none=>rw [hd] at h;cases h
     | some q =>
       obtain ⟨v,r'⟩:=q;rw [hd] at h;dsimp only at h;obtain ⟨⟨ks',vs'⟩,h1,h2⟩:=we2.1 h;injection h2 with e1 e2
       subst e1;subst e2;obtain ⟨g1,g2,g3⟩:=prsL_back n r' ks' vs' h1;refine ⟨by rw [wb4,g1],by rw [wb4,g2],?_⟩;rw [encL_cons,g3,<- cutT_back hd,<- cutT_back hc]
theorem prsI_back:∀ (n:Nat) (b:List UInt8) (ks:List (List UInt8)) (cs:List Int),prsI n b=some (ks,cs)->ks.length=n/\cs.length=n/\encI ks cs=b
 | 0,b,ks,vs,h=>by
   change (if b.length=0 then some ([],[]) else none)=some (ks,vs) at h
   split at h
   ·rename_i hb
    have e:=wa0 h;injection e with e1 e2
    subst e1;subst e2;exact ⟨rfl,rfl,(wb2 hb).symm⟩
   ·cases h
 | n+1,b,ks,vs,h=>by
   rw [prsI_succ] at h;cases hc:cutT b with
   | none=>rw [hc] at h;cases h
   | some p =>
     obtain ⟨k,r⟩:=p;rw [hc] at h;dsimp only at h;cases hd:kidT r with
     | none=>rw [hd] at h;cases h
     | some q =>
       obtain ⟨v,r'⟩:=q;rw [hd] at h;dsimp only at h;obtain ⟨⟨ks',vs'⟩,h1,h2⟩:=we2.1 h;injection h2 with e1 e2
       subst e1;subst e2;obtain ⟨g1,g2,g3⟩:=prsI_back n r' ks' vs' h1;refine ⟨by rw [wb4,g1],by rw [wb4,g2],?_⟩;rw [encI_cons,g3,<- kidT_back hd,<- cutT_back hc]
theorem prs_leaf (x y:UInt8) (r:List UInt8):prs true (x::y::r)=(prsL (x.toNat*256+y.toNat) r).map (fun p=>⟨true,p.1,p.2,[]⟩):=rfl
theorem prs_inner (x y:UInt8) (r:List UInt8):prs false (x::y::r)=match kidT r with
 | none=>none
 | some (c,r')=>(prsI (x.toNat*256+y.toNat) r').map (fun p=>⟨false,p.1,[],c::p.2⟩):=rfl
theorem prs_enc {s:ND} (h:s.ok=true) (hz:s.keys.length<65536):prs s.leaf s.enc=some s:=by
 unfold enc body;rw [qV3];simp only [List.cons_append,List.nil_append];have hn:(UInt8.ofNat (s.keys.length / 256)).toNat*256+(UInt8.ofNat s.keys.length).toNat=s.keys.length:=by
  rw [Qx,Qx];omega
 obtain ⟨leaf,keys,vals,kids⟩:=s;cases leaf with
 | true =>
   obtain ⟨h1,_,h3⟩:=ok_leaf h rfl;dsimp only at h1 h3 hn ⊢;subst h3;rw [if_pos rfl,prs_leaf,hn,prsL_enc keys vals h1 (ok_keys h) (ok_vals h)];rfl
 | false =>
   obtain ⟨_,h2,_,h4⟩:=ok_inner h rfl;dsimp only at h2 h4 hn ⊢;subst h4;have hk:=ok_kids h;dsimp only at hk;cases kids with
   | nil=>simp at h2
   | cons c cs =>
     rw [if_neg (by decide),prs_inner,hn];dsimp only;rw [kidT_kd (hk c (by simp))];dsimp only;rw [prsI_enc keys cs (by simpa using h2) (ok_keys h) (fun x hx=>hk x (by simp [hx]))];rfl
theorem prs_back {leaf:Bool} {b:List UInt8} {s:ND} (h:prs leaf b=some s):s.leaf=leaf/\s.enc=b:=by
 match b,h with
 | x::y::r,h =>
   have hx:=Zh x;have hy:=Zh y;have two:∀ n,n=x.toNat*256+y.toNat->be 2 n=[x,y]:=by
    intro n hn;rw [qV3,QL (a:=x) (by omega),QL (a:=y) (by omega)]
   cases leaf with
   | true =>
     rw [prs_leaf] at h;obtain ⟨⟨ks,vs⟩,h1,rfl⟩:=we2.1 h;obtain ⟨g1,g2,g3⟩:=prsL_back _ _ _ _ h1;refine ⟨rfl,?_⟩;unfold enc body;dsimp only;rw [if_pos rfl,two _ g1,g3];rfl
   | false =>
     rw [prs_inner] at h;cases hk:kidT r with
     | none=>rw [hk] at h;cases h
     | some q =>
       obtain ⟨c,r'⟩:=q;rw [hk] at h;dsimp only at h;obtain ⟨⟨ks,cs⟩,h1,rfl⟩:=we2.1 h;obtain ⟨g1,g2,g3⟩:=prsI_back _ _ _ _ h1;refine ⟨rfl,?_⟩;unfold enc body;dsimp only;rw [if_neg (by decide),two _ g1,g3,<- kidT_back hk];rfl
theorem few_keys {s:ND} (h:s.size<=1000):s.keys.length<=1000:=by
 unfold size tsz at h;omega
theorem dec_enc {s:ND} (h:s.encE=0):dec s.encK s.encB=some s:=by
 obtain ⟨hf,ho,hz⟩:=fits_of h;have hk:=few_keys hz;unfold dec;rw [encB_of h,encK_of h,enc_length ho,decide_eq_true hz];have hp:=prs_enc ho (by omega);cases hl:s.leaf with
 | true =>
   rw [hl] at hp;show (prs true s.enc).bind _=_;rw [hp];show (if s.ok=true then some s else none)=_
   rw [if_pos ho]
 | false =>
   rw [hl] at hp;show (prs false s.enc).bind _=_;rw [hp];show (if s.ok=true then some s else none)=_
   rw [if_pos ho]
theorem dec_ok {k:Int} {b:List UInt8} {s:ND} (h:dec k b=some s):(k=2\/k=3)/\b.length<=1000/\prs (decide (k=2)) b=some s/\s.ok=true:=by
 unfold dec at h;split at h
 ·rename_i hk
  unfold isKind at hk;rw [wc1,Bool.or_eq_true,decide_eq_true_eq,decide_eq_true_eq,decide_eq_true_eq] at hk;obtain ⟨t,h1,h2⟩:=Option.bind_eq_some_iff.1 h;split at h2
  ·rename_i ho
   obtain rfl:=wa0 h2;exact ⟨hk.1,hk.2,h1,ho⟩
  ·cases h2
 ·cases h
theorem dec_back {k:Int} {b:List UInt8} {s:ND} (h:dec k b=some s):s.encE=0/\s.encK=k/\s.encB=b:=by
 obtain ⟨hk,hb,hp,ho⟩:=dec_ok h;obtain ⟨g1,g2⟩:=prs_back hp;have hz:s.size<=1000:=by rw [<- enc_length ho,g2];exact hb
 have he:=encE_fits ho hz;refine ⟨he,?_,?_⟩
 ·rw [encK_of he,g1]
  rcases hk with rfl | rfl<;>rfl
 ·rw [encB_of he,g2]
end ND
theorem qa8 {α:Type} {p:α->Bool}:∀ (l:List α) (i:Nat) (t:α),i<(l.takeWhile p).length->l[i]?=some t->p t=true
 | [],i,t,h,_=>by simp at h
 | x::l,i,t,h,ht=>by
   rw [wg7] at h;cases hx:p x with
   | false=>rw [hx] at h;simp at h
   | true =>
     rw [hx] at h;cases i with
     | zero =>
       obtain rfl:x=t:=(by simpa using ht);exact hx
     | succ i=>exact qa8 l i t (by simpa using h) (by simpa using ht)
theorem GZ {α:Type} {p:α->Bool}:∀ (l:List α) (t:α),l[(l.takeWhile p).length]?=some t->p t=false
 | [],t,h=>by simp at h
 | x::l,t,h=>by
   rw [wg7] at h;cases hx:p x with
   | false =>
     rw [hx] at h;obtain rfl:x=t:=(by simpa using h);exact hx
   | true =>
     rw [hx] at h;exact GZ l t (by simpa using h)
theorem qI9 {α:Type} (p:α->Bool) (l:List α):(l.takeWhile p).length<=l.length:=(List.takeWhile_sublist p).length_le
theorem qw1 {α:Type} {p:α->Bool}:∀ (l:List α) (r:Nat),r<=l.length->(∀ i t,i<r->l[i]?=some t->p t=true)->(∀ t,l[r]?=some t->p t=false)->r=(l.takeWhile p).length
 | [],r,h,_,_=>by simp at h;simp [h]
 | x::l,r,h,h1,h2=>by
   rw [wg7];cases r with
   | zero =>
     rw [h2 x (by simp)];rfl
   | succ r =>
     rw [h1 0 x (by omega) (by simp)];have:=qw1 l r (by simpa using h) (fun i t hi ht=>h1 (i+1) t (by omega) (by simpa using ht)) (fun t ht=>h2 t (by simpa using ht));simp [<- this]
namespace ND
def findN (k:List UInt8) (l:List (List UInt8)):Nat:=(l.takeWhile (fun t=>Op.bytesLess t k)).length
def isAt (k:List UInt8) (l:List (List UInt8)):Bool:=decide (l[findN k l]?=some k)
def kidN (k:List UInt8) (l:List (List UInt8)):Nat:=(l.takeWhile (fun t => !Op.bytesLess k t)).length
theorem findN_le (k:List UInt8) (l:List (List UInt8)):findN k l<=l.length:=qI9 _ _
theorem kidN_le (k:List UInt8) (l:List (List UInt8)):kidN k l<=l.length:=qI9 _ _
theorem isAt_iff {k:List UInt8} {l:List (List UInt8)}:isAt k l=true ↔ l[findN k l]?=some k:=by unfold isAt;rw [decide_eq_true_eq]
theorem isAt_lt {k:List UInt8} {l:List (List UInt8)} (h:isAt k l=true):findN k l<l.length:=(wa8.1 (isAt_iff.1 h)).1
theorem isAt_end {k:List UInt8} {l:List (List UInt8)} (h:¬ findN k l<l.length):isAt k l=false:=by
 cases hc:isAt k l with
 | false=>rfl
 | true=>exact absurd (isAt_lt hc) h
theorem rise_head:∀ (p:List UInt8) (l:List (List UInt8)),rise p l=true->∀ t∈l,Op.bytesLess p t=true
 | _,[],_,t,h=>by simp at h
 | p,x::l,h,t,ht=>by
   rw [rise_cons,wc1,wc1] at h;rcases wb6.1 ht with rfl | ht
   ·exact h.1.1
   ·exact Qq p x t h.1.1 (rise_head x l h.2 t ht)
theorem rise_pair:∀ (p:List UInt8) (l:List (List UInt8)),rise p l=true->∀ (i j:Nat) (s t:List UInt8),i<j->l[i]?=some s->l[j]?=some t->Op.bytesLess s t=true
 | _,[],_,i,j,s,t,_,hs,_=>by simp at hs
 | p,x::l,h,i,j,s,t,hij,hs,ht=>by
   rw [rise_cons,wc1,wc1] at h;cases j with
   | zero=>omega
   | succ j =>
     cases i with
     | zero =>
       obtain rfl:x=s:=(by simpa using hs);exact rise_head x l h.2 t (wb5 (by simpa using ht))
     | succ i=>exact rise_pair x l h.2 i j s t (by omega) (by simpa using hs) (by simpa using ht)
theorem findN_of {k:List UInt8} {l:List (List UInt8)} {r:Nat} (h:r<=l.length) (h1:∀ i t,i<r->l[i]?=some t->Op.bytesLess t k=true) (h2:∀ t,l[r]?=some t->Op.bytesLess t k=false):r=findN k l:=qw1 l r h h1 h2
theorem kidN_of {k:List UInt8} {l:List (List UInt8)} {r:Nat} (h:r<=l.length) (h1:∀ i t,i<r->l[i]?=some t->Op.bytesLess k t=false) (h2:∀ t,l[r]?=some t->Op.bytesLess k t=true):r=kidN k l :=
 qw1 l r h (fun i t hi ht=>by simp [h1 i t hi ht]) (fun t ht=>by simp [h2 t ht])
theorem findN_before {k t:List UInt8} {l:List (List UInt8)} {i:Nat} (hi:i<findN k l) (h:l[i]?=some t):Op.bytesLess t k=true:=qa8 l i t hi h
theorem findN_not {k t:List UInt8} {l:List (List UInt8)} (h:l[findN k l]?=some t):Op.bytesLess t k=false:=GZ l t h
theorem kidN_before {k t:List UInt8} {l:List (List UInt8)} {i:Nat} (hi:i<kidN k l) (h:l[i]?=some t):Op.bytesLess k t=false:=by
 have:=qa8 (p:=fun t => !Op.bytesLess k t) l i t hi h;simpa using this
theorem kidN_behind {k t:List UInt8} {l:List (List UInt8)} (h:l[kidN k l]?=some t):Op.bytesLess k t=true:=by
 have:=GZ (p:=fun t => !Op.bytesLess k t) l t h;simpa using this
def rep {α:Type} (l:List α) (f t:Nat) (o:List α):List α:=l.take f++o++l.drop t
theorem rep_length {α:Type} {l o:List α} {f t:Nat} (h:f<=t) (ht:t<=l.length):(rep l f t o).length+(t - f)=l.length+o.length:=by
 unfold rep;rw [wa6,wa6,wb8,wc9];omega
def put (s:ND) (k v:List UInt8):ND :=
 let b:=if isAt k s.keys then findN k s.keys+1 else findN k s.keys
 ⟨true,rep s.keys (findN k s.keys) b [k],rep s.vals (findN k s.keys) b [v],[]⟩
def removed (s:ND) (k:List UInt8):ND:=⟨true,rep s.keys (findN k s.keys) (findN k s.keys+1) [],rep s.vals (findN k s.keys) (findN k s.keys+1) [],[]⟩
def remove (s:ND) (k:List UInt8):ND:=if isAt k s.keys then s.removed k else s
theorem put_new {s:ND} {k:List UInt8} (v:List UInt8) (h:isAt k s.keys=false):s.put k v=⟨true,rep s.keys (findN k s.keys) (findN k s.keys) [k],rep s.vals (findN k s.keys) (findN k s.keys) [v],[]⟩:=by
 unfold put;rw [h];rfl
theorem put_old {s:ND} {k:List UInt8} (v:List UInt8) (h:isAt k s.keys=true):s.put k v=⟨true,rep s.keys (findN k s.keys) (findN k s.keys+1) [k],rep s.vals (findN k s.keys) (findN k s.keys+1) [v],[]⟩:=by
 unfold put;rw [h];rfl
theorem remove_old {s:ND} {k:List UInt8} (h:isAt k s.keys=true):s.remove k=s.removed k:=by unfold remove;rw [h];rfl
theorem remove_new {s:ND} {k:List UInt8} (h:isAt k s.keys=false):s.remove k=s:=by unfold remove;rw [h];rfl
def ents (s:ND):List Nat:=if s.leaf then List.zipWith (fun k v=>2+k.length+v.length) s.keys s.vals else s.keys.map (fun k=>5+k.length)
def hN (es:List Nat):Nat:=((List.range es.length).takeWhile (fun c=>decide (2*(es.take c).sum<es.sum))).length
theorem hN_le (es:List Nat):hN es<=es.length:=by
 have:=qI9 (fun c=>decide (2*(es.take c).sum<es.sum)) (List.range es.length);simpa [hN] using this
theorem hN_of {es:List Nat} {r:Nat} (h:r<=es.length) (h1:∀ c,c<r->2*(es.take c).sum<es.sum) (h2:r<es.length->¬ 2*(es.take r).sum<es.sum):r=hN es:=by
 refine qw1 (List.range es.length) r (by simpa using h) (fun i t hi ht=>?_) (fun t ht=>?_)
 ·obtain ⟨_,e⟩:=wa8.1 ht
  obtain rfl:i=t:=by simpa using e
  exact decide_eq_true (h1 i hi)
 ·obtain ⟨hlt,e⟩:=wa8.1 ht
  obtain rfl:r=t:=by simpa using e
  exact decide_eq_false (h2 (by simpa using hlt))
theorem hN_before {es:List Nat} {c:Nat} (h:c<hN es):2*(es.take c).sum<es.sum:=by
 have hl:c<es.length:=wa3 h (hN_le es);have:=qa8 (p:=fun c=>decide (2*(es.take c).sum<es.sum)) (List.range es.length) c c h (by simp [hl]);exact of_decide_eq_true this
theorem hN_at {es:List Nat}:¬ 2*(es.take (hN es)).sum<es.sum:=by
 by_cases hl:hN es<es.length
 ·have:=GZ (p:=fun c=>decide (2*(es.take c).sum<es.sum)) (List.range es.length) (hN es) (by show (List.range es.length)[hN es]?=_;simp [hl])
  exact of_decide_eq_false this
 ·rw [wa5 (by omega)]
  omega
theorem ents_leaf {s:ND} (h:s.leaf=true):s.ents=List.zipWith (fun k v=>2+k.length+v.length) s.keys s.vals:=by unfold ents;rw [h];rfl
theorem ents_inner {s:ND} (h:s.leaf=false):s.ents=s.keys.map (fun k=>5+k.length):=by unfold ents;rw [h];rfl
theorem ents_length {s:ND} (h:s.ok=true):s.ents.length=s.keys.length:=by
 cases hl:s.leaf with
 | true =>
   rw [ents_leaf hl,List.length_zipWith,(ok_leaf h hl).1];omega
 | false=>rw [ents_inner hl,wd2]
def gone (s:ND):Nat:=if s.leaf then 0 else 1
def splitE (s:ND):Int:=if s.keys.length<2+s.gone then 100 else 0
def splitAt (s:ND):Nat:=min (hN s.ents) (s.keys.length - s.gone - 1)
def splitL (s:ND):ND:=if s.keys.length<2+s.gone then zero else ⟨s.leaf,s.keys.take s.splitAt,s.vals.take s.splitAt,s.kids.take (s.splitAt+1)⟩
def splitR (s:ND):ND:=if s.keys.length<2+s.gone then zero else ⟨s.leaf,s.keys.drop (s.splitAt+s.gone),s.vals.drop s.splitAt,s.kids.drop (s.splitAt+1)⟩
def splitK (s:ND):List UInt8:=if s.keys.length<2+s.gone then [] else s.keys.getD s.splitAt []
theorem split_no {s:ND} (h:s.keys.length<2+s.gone):s.splitE=100/\s.splitL=zero/\s.splitR=zero/\s.splitK=[]:=by
 unfold splitE splitL splitR splitK;rw [if_pos h,if_pos h,if_pos h,if_pos h];exact ⟨rfl,rfl,rfl,rfl⟩
theorem split_yes {s:ND} (h:¬ s.keys.length<2+s.gone):s.splitE=0/\s.splitL=⟨s.leaf,s.keys.take s.splitAt,s.vals.take s.splitAt,s.kids.take (s.splitAt+1)⟩ /\
 s.splitR=⟨s.leaf,s.keys.drop (s.splitAt+s.gone),s.vals.drop s.splitAt,s.kids.drop (s.splitAt+1)⟩/\s.splitK=s.keys.getD s.splitAt []:=by
 unfold splitE splitL splitR splitK;rw [if_neg h,if_neg h,if_neg h,if_neg h];exact ⟨rfl,rfl,rfl,rfl⟩
theorem splitAt_lt {s:ND} (h:¬ s.keys.length<2+s.gone):s.splitAt+s.gone<s.keys.length:=by
 unfold splitAt;omega
def join (l:ND) (k:List UInt8) (r:ND):ND:=⟨l.leaf,l.keys++(if l.leaf then [] else [k])++r.keys,l.vals++r.vals,l.kids++r.kids⟩
def mayR (s:ND) (f t:Int) (kids:List Int) (keys:List (List UInt8)):Bool:=decide (0<=f) && (decide (f<t) && (decide (t<=s.kids.length) && decide (keys.length+1=kids.length)))
def replace (s:ND) (f t:Int) (kids:List Int) (keys:List (List UInt8)):ND :=
 if s.mayR f t kids keys then ⟨s.leaf,rep s.keys f.toNat (t.toNat - 1) keys,s.vals,rep s.kids f.toNat t.toNat kids⟩ else s
end ND
namespace ND
theorem rise_iff:∀ (p:List UInt8) (l:List (List UInt8)),rise p l=true ↔ (∀ t∈l,Op.bytesLess p t=true/\t.length<=120)/\l.Pairwise (fun a b=>Op.bytesLess a b=true)
 | p,[]=>by simp [rise]
 | p,x::l=>by
   rw [rise_cons,wc1,wc1,decide_eq_true_eq,wd1,rise_iff x l];constructor
   ·rintro ⟨⟨h1,h2⟩,h3,h4⟩
    refine ⟨fun t ht=>?_,fun t ht=>(h3 t ht).1,h4⟩;rcases wb6.1 ht with rfl | ht
    ·exact ⟨h1,h2⟩
    ·exact ⟨Qq p x t h1 (h3 t ht).1,(h3 t ht).2⟩
   ·rintro ⟨h1,h2,h3⟩
    exact ⟨h1 x (by simp),fun t ht=>⟨h2 t ht,(h1 t (by simp [ht])).2⟩,h3⟩
theorem rise_nil {l:List (List UInt8)}:rise [] l=true ↔ (∀ t∈l,1<=t.length/\t.length<=120)/\l.Pairwise (fun a b=>Op.bytesLess a b=true):=by
 rw [rise_iff];constructor
 ·rintro ⟨h1,h2⟩
  refine ⟨fun t ht=>⟨?_,(h1 t ht).2⟩,h2⟩;have:=(h1 t ht).1;rw [less_nil] at this;exact of_decide_eq_true this
 ·rintro ⟨h1,h2⟩
  refine ⟨fun t ht=>⟨?_,(h1 t ht).2⟩,h2⟩;rw [less_nil];exact decide_eq_true (h1 t ht).1
theorem rise_sub {l l':List (List UInt8)} (h:rise [] l=true) (hs:List.Sublist l' l):rise [] l'=true:=by
 rw [rise_nil] at h ⊢;exact ⟨fun t ht=>h.1 t (hs.subset ht),h.2.sublist hs⟩
theorem all_sub {α:Type} {p:α->Bool} {l l':List α} (h:l.all p=true) (hs:List.Sublist l' l):l'.all p=true:=by
 rw [wd4] at h ⊢;exact fun x hx=>h x (hs.subset hx)
theorem ok_mk_leaf {keys vals:List (List UInt8)} (h1:rise [] keys=true) (h2:vals.length=keys.length) (h3:vals.all valB=true):ok ⟨true,keys,vals,[]⟩=true:=by
 unfold ok leafB;simp [h1,h2,h3]
theorem ok_mk_inner {keys:List (List UInt8)} {kids:List Int} (h1:rise [] keys=true) (h2:0<keys.length) (h3:kids.length=keys.length+1) (h4:kids.all kidB=true):ok ⟨false,keys,[],kids⟩=true:=by
 unfold ok innerB;simp [h1,h2,h3,h4]
theorem ents_pos {s:ND} (h:s.ok=true) (hk:0<s.keys.length):0<s.ents.sum:=by
 have hlen:=ents_length h;cases he:s.ents with
 | nil=>rw [he] at hlen;simp at hlen;omega
 | cons x l =>
   have:2<=x:=by
    have hx:s.ents[0]?=some x:=by rw [he];rfl
    cases hl:s.leaf with
    | true =>
      rw [ents_leaf hl,List.getElem?_zipWith] at hx;cases h1:s.keys[0]? with
      | none=>rw [h1] at hx;simp at hx
      | some t =>
        cases h2:s.vals[0]? with
        | none=>rw [h1,h2] at hx;simp at hx
        | some v =>
          rw [h1,h2] at hx;have:=wa0 hx;omega
    | false =>
      rw [ents_inner hl,wc7] at hx;cases h1:s.keys[0]? with
      | none=>rw [h1] at hx;simp at hx
      | some t =>
        rw [h1] at hx;have:=wa0 hx;dsimp only at this;omega
   rw [List.sum_cons];omega
theorem hN_pos {s:ND} (h:s.ok=true) (hk:0<s.keys.length):0<hN s.ents:=by
 apply Classical.byContradiction;intro hn;have h0:hN s.ents=0:=by omega
 have:=hN_at (es:=s.ents);rw [h0] at this;have hp:=ents_pos h hk;simp at this;omega
theorem splitAt_pos {s:ND} (h:s.ok=true) (hs:¬ s.keys.length<2+s.gone):0<s.splitAt:=by
 have:=hN_pos h (by omega);unfold splitAt;omega
theorem getD_some {l:List (List UInt8)} {i:Nat} (h:i<l.length):l[i]?=some (l.getD i []):=by
 rw [wa7,wb1 h];rfl
theorem split_okL {s:ND} (h:s.ok=true) (hs:¬ s.keys.length<2+s.gone):s.splitL.ok=true:=by
 obtain ⟨_,e1,_,_⟩:=split_yes hs;have hlt:=splitAt_lt hs;have hp:=splitAt_pos h hs;rw [e1];have hr:=rise_sub (ok_rise h) (wf6 s.splitAt s.keys);cases hl:s.leaf with
 | true =>
   obtain ⟨h1,h2,h3⟩:=ok_leaf h hl;rw [h3,List.take_nil];exact ok_mk_leaf hr (by rw [wb8,wb8,h1]) (all_sub h2 (wf6 _ _))
 | false =>
   obtain ⟨h0,h1,h2,h3⟩:=ok_inner h hl;rw [h3,List.take_nil];refine ok_mk_inner hr (by rw [wb8];omega) (by rw [wb8,wb8];omega) (all_sub h2 (wf6 _ _))
theorem split_okR {s:ND} (h:s.ok=true) (hs:¬ s.keys.length<2+s.gone):s.splitR.ok=true:=by
 obtain ⟨_,_,e2,_⟩:=split_yes hs;have hlt:=splitAt_lt hs;rw [e2];have hr:=rise_sub (ok_rise h) (we5 (s.splitAt+s.gone) s.keys);cases hl:s.leaf with
 | true =>
   obtain ⟨h1,h2,h3⟩:=ok_leaf h hl;have hg:s.gone=0:=by unfold gone;rw [hl];rfl
   rw [hg] at hr hlt ⊢;rw [h3,List.drop_nil];exact ok_mk_leaf hr (by rw [wc9,wc9,h1];rfl) (all_sub h2 (we5 _ _))
 | false =>
   obtain ⟨h0,h1,h2,h3⟩:=ok_inner h hl;have hg:s.gone=1:=by unfold gone;rw [hl];rfl
   rw [hg] at hr hlt ⊢;rw [h3,List.drop_nil];refine ok_mk_inner hr (by rw [wc9];omega) (by rw [wc9,wc9];omega) (all_sub h2 (we5 _ _))
theorem split_leafs {s:ND} (hs:¬ s.keys.length<2+s.gone):s.splitL.leaf=s.leaf/\s.splitR.leaf=s.leaf:=by
 obtain ⟨_,e1,e2,_⟩:=split_yes hs;rw [e1,e2];exact ⟨rfl,rfl⟩
theorem behind_new {k:List UInt8} {l:List (List UInt8)} (h:rise [] l=true) (hn:isAt k l=false):∀ t∈l.drop (findN k l),Op.bytesLess k t=true:=by
 intro t ht;obtain ⟨j,hj⟩:=List.mem_iff_getElem?.1 ht;rw [we8] at hj;have hlt:findN k l<l.length:=by have:=(wa8.1 hj).1;omega
 have h0:=getD_some hlt;have h1:=findN_not h0;have h2:¬ l.getD (findN k l) []=k:=by
  intro e;rw [e] at h0;rw [isAt_iff.2 h0] at hn;cases hn
 have h3:Op.bytesLess k (l.getD (findN k l) [])=true:=by
  rcases Yv (l.getD (findN k l) []) k with e | e | e
  ·rw [h1] at e;cases e
  ·exact absurd e h2
  ·exact e
 rcases Nat.eq_zero_or_pos j with rfl | hj0
 ·rw [wg1,h0] at hj
  obtain rfl:=wa0 hj;exact h3
 ·exact Qq _ _ _ h3 (rise_pair [] l h (findN k l) (findN k l+j) _ _ (by omega) h0 hj)
theorem behind_old {k:List UInt8} {l:List (List UInt8)} (h:rise [] l=true) (ha:isAt k l=true):∀ t∈l.drop (findN k l+1),Op.bytesLess k t=true:=by
 intro t ht;obtain ⟨j,hj⟩:=List.mem_iff_getElem?.1 ht;rw [we8] at hj;exact rise_pair [] l h (findN k l) (findN k l+1+j) _ _ (by omega) (isAt_iff.1 ha) hj
theorem ahead_of {k:List UInt8} {l:List (List UInt8)}:∀ t∈l.take (findN k l),Op.bytesLess t k=true:=by
 intro t ht;obtain ⟨j,hj⟩:=List.mem_iff_getElem?.1 ht;rw [List.getElem?_take] at hj;split at hj
 ·rename_i hlt
  exact findN_before hlt hj
 ·cases hj
theorem rise_rep {k:List UInt8} {l:List (List UInt8)} {b:Nat} (h:rise [] l=true) (h1:1<=k.length) (h2:k.length<=120) (hb:findN k l<=b) (hd:∀ t∈l.drop b,Op.bytesLess k t=true):rise [] (rep l (findN k l) b [k])=true:=by
 rw [rise_nil] at h ⊢;have hsub:List.Sublist (l.take (findN k l)++l.drop b) l:=by
  have h3:List.Sublist (l.take (findN k l)++l.drop b) (l.take (findN k l)++l.drop (findN k l)):=List.Sublist.append (List.Sublist.refl _) (by
   rw [show b=findN k l+(b - findN k l) by omega,<- List.drop_drop];exact we5 _ _)
  rw [wb7] at h3;exact h3
 have hp:=h.2.sublist hsub;rw [wc3] at hp;obtain ⟨p1,p2,p3⟩:=hp;constructor
 ·intro t ht
  unfold rep at ht;rcases wb0.1 ht with ht | ht
  ·rcases wb0.1 ht with ht | ht
   ·exact h.1 t (wf0 ht)
   ·rw [wa4.1 ht]
    exact ⟨h1,h2⟩
  ·exact h.1 t (wf5 ht)
 ·unfold rep
  rw [wb9,wc3];refine ⟨p1,?_,?_⟩
  ·rw [List.singleton_append,wd1]
   exact ⟨hd,p2⟩
  ·intro a ha c hc
   rw [List.singleton_append] at hc;rcases wb6.1 hc with rfl | hc
   ·exact ahead_of a ha
   ·exact p3 a ha c hc
theorem valB_all_rep {l:List (List UInt8)} {v:List UInt8} {f b:Nat} (h:l.all valB=true) (hv:v.length<=100):(rep l f b [v]).all valB=true:=by
 unfold rep;rw [List.all_append,List.all_append,all_sub h (wf6 _ _),all_sub h (we5 _ _)];simp [valB,hv]
theorem put_ok {s:ND} {k v:List UInt8} (h:s.ok=true) (hl:s.leaf=true) (h1:1<=k.length) (h2:k.length<=120) (hv:v.length<=100):(s.put k v).ok=true:=by
 obtain ⟨g1,g2,g3⟩:=ok_leaf h hl;have hr:=ok_rise h;have hle:=findN_le k s.keys;cases ha:isAt k s.keys with
 | true =>
   rw [put_old v ha];have hlt:=isAt_lt ha;have e1:=rep_length (o:=[k]) (wd3 (findN k s.keys)) (show findN k s.keys+1<=s.keys.length from hlt);have e2:=rep_length (o:=[v]) (wd3 (findN k s.keys)) (show findN k s.keys+1<=s.vals.length by omega);simp at e1 e2;exact ok_mk_leaf (rise_rep hr h1 h2 (wd3 _) (behind_old hr ha)) (by omega) (valB_all_rep g2 hv)
 | false =>
   rw [put_new v ha];have e1:=rep_length (o:=[k]) (wa2 (findN k s.keys)) hle;have e2:=rep_length (o:=[v]) (wa2 (findN k s.keys)) (show findN k s.keys<=s.vals.length by omega);simp at e1 e2;exact ok_mk_leaf (rise_rep hr h1 h2 (wa2 _) (behind_new hr ha)) (by omega) (valB_all_rep g2 hv)
def putB (s:ND) (k:List UInt8):Nat:=if isAt k s.keys then findN k s.keys+1 else findN k s.keys
theorem put_eq (s:ND) (k v:List UInt8):s.put k v=⟨true,rep s.keys (findN k s.keys) (putB s k) [k],rep s.vals (findN k s.keys) (putB s k) [v],[]⟩:=rfl
theorem putB_le {s:ND} {k:List UInt8}:findN k s.keys<=putB s k/\putB s k<=findN k s.keys+1:=by
 unfold putB;split<;>omega
theorem removed_ok {s:ND} {k:List UInt8} (h:s.ok=true) (hl:s.leaf=true) (ha:isAt k s.keys=true):(s.removed k).ok=true:=by
 obtain ⟨g1,g2,g3⟩:=ok_leaf h hl;have hlt:=isAt_lt ha;have e1:=rep_length (o:=([]:List (List UInt8))) (wd3 (findN k s.keys)) (show findN k s.keys+1<=s.keys.length from hlt);have e2:=rep_length (o:=([]:List (List UInt8))) (wd3 (findN k s.keys)) (show findN k s.keys+1<=s.vals.length by omega);simp at e1 e2;have sub:∀ l:List (List UInt8),List.Sublist (rep l (findN k s.keys) (findN k s.keys+1) []) l:=by
  intro l;unfold rep;rw [wc5];have h3:List.Sublist (l.take (findN k s.keys)++l.drop (findN k s.keys+1)) (l.take (findN k s.keys)++l.drop (findN k s.keys)):=List.Sublist.append (List.Sublist.refl _) (by
   rw [<- List.drop_drop];exact we5 _ _)
  rw [wb7] at h3;exact h3
 exact ok_mk_leaf (rise_sub (ok_rise h) (sub _)) (by omega) (all_sub g2 (sub _))
theorem removed_only {s:ND} {k o:List UInt8} (hm:o∈(s.removed k).keys):o∈s.keys:=by
 unfold removed rep at hm;dsimp only at hm;rw [wc5] at hm;rcases wb0.1 hm with hm | hm
 ·exact wf0 hm
 ·exact wf5 hm
theorem zip_sum:∀ ks vs:List (List UInt8),vs.length=ks.length->(List.zipWith (fun k v=>2+k.length+v.length) ks vs).sum=tsz ks+tsz vs
 | [],[],_=>rfl
 | k::ks,v::vs,h=>by
   rw [List.zipWith_cons_cons,List.sum_cons,zip_sum ks vs (by simpa using h),tsz_cons,tsz_cons];omega
 | [],_::_,h=>by simp at h
 | _::_,[],h=>by simp at h
theorem ents_sum {s:ND} (h:s.ok=true) (hl:s.leaf=true):s.size=2+s.ents.sum:=by
 obtain ⟨h1,_,h3⟩:=ok_leaf h hl;rw [ents_leaf hl,zip_sum _ _ h1];unfold size;rw [h3];simp;omega
theorem ents_splitL {s:ND} (hl:s.leaf=true) (hs:¬ s.keys.length<2+s.gone):s.splitL.ents=s.ents.take s.splitAt:=by
 obtain ⟨_,e1,_,_⟩:=split_yes hs;rw [e1,ents_leaf (by exact hl),ents_leaf hl,List.take_zipWith]
theorem ents_splitR {s:ND} (hl:s.leaf=true) (hs:¬ s.keys.length<2+s.gone):s.splitR.ents=s.ents.drop s.splitAt:=by
 obtain ⟨_,_,e2,_⟩:=split_yes hs;have hg:s.gone=0:=by unfold gone;rw [hl];rfl
 rw [e2,ents_leaf (by exact hl),ents_leaf hl,List.drop_zipWith,hg,wg1]
theorem ents_at_le {s:ND} (h:s.ok=true) (hl:s.leaf=true) {i:Nat}:s.ents.getD i 0<=222:=by
 rw [wa7,ents_leaf hl,List.getElem?_zipWith];cases h1:s.keys[i]? with
 | none=>simp
 | some t =>
   cases h2:s.vals[i]? with
   | none=>simp
   | some v =>
     have g1:=ok_keys h t (wb5 h1);have g2:=(ok_leaf h hl).2.1;rw [wd4] at g2;have g3:=g2 v (wb5 h2);unfold valB at g3;have g4:=of_decide_eq_true g3;simp;omega
theorem tsl_rep (l o:List (List UInt8)) (f t:Nat):tsl (rep l f t o)=tsl (l.take f)+tsl o+tsl (l.drop t):=by
 unfold rep;rw [tsl_append,tsl_append]
theorem tsl_cut (l:List (List UInt8)) (f:Nat):tsl l=tsl (l.take f)+tsl (l.drop f):=by
 conv=>lhs;rw [<- wb7 f l]
 exact tsl_append _ _
theorem tsl_drop_le (l:List (List UInt8)) (f:Nat):tsl (l.drop (f+1))<=tsl (l.drop f):=by
 rw [<- List.drop_drop];have:=tsl_cut (l.drop f) 1;omega
theorem tsz_rep_le {l:List (List UInt8)} {f b:Nat} {x:List UInt8} (hf:f<=b) (hb:b<=l.length) (hb1:b<=f+1):tsz (rep l f b [x])<=tsz l+1+x.length:=by
 unfold tsz;have h1:=rep_length (o:=[x]) hf hb;have h2:=tsl_rep l [x] f b;have h3:=tsl_cut l f;have h4:tsl (l.drop b)<=tsl (l.drop f):=by
  rcases Nat.eq_or_lt_of_le hf with e | e
  ·rw [e];exact wa2 _
  ·rw [show b=f+1 by omega];exact tsl_drop_le l f
 have h5:tsl [x]=x.length:=by rw [tsl_cons];simp [tsl]
 simp at h1;omega
theorem put_size {s:ND} {k v:List UInt8} (h:s.ok=true) (hl:s.leaf=true) (h2:k.length<=120) (hv:v.length<=100):(s.put k v).size<=s.size+222:=by
 obtain ⟨g1,_,g3⟩:=ok_leaf h hl;have hle:=findN_le k s.keys;have hb:=putB_le (s:=s) (k:=k);have hbl:putB s k<=s.keys.length:=by
  unfold putB;split
  ·rename_i ha
   exact isAt_lt ha
  ·exact hle
 have a1:=tsz_rep_le (l:=s.keys) (x:=k) hb.1 hbl hb.2;have a2:=tsz_rep_le (l:=s.vals) (x:=v) hb.1 (by omega) hb.2;rw [put_eq];unfold size;simp;omega
end ND
namespace TT
open ND
abbrev K:=List UInt8
abbrev E:=K×K
theorem nlt_trans {a b c:K} (h1:Op.bytesLess b a=false) (h2:Op.bytesLess c b=false):Op.bytesLess c a=false:=by
 cases h:Op.bytesLess c a with
 | false=>rfl
 | true =>
   rcases Yv a b with e | e | e
   ·have:=Qq c a b h e
    rw [h2] at this;cases this
   ·subst e
    rw [h2] at h;cases h
   ·rw [h1] at e
    cases e
theorem nlt_lt {a b c:K} (h1:Op.bytesLess b a=false) (h2:Op.bytesLess b c=true):Op.bytesLess a c=true:=by
 rcases Yv a b with e | e | e
 ·exact Qq a b c e h2
 ·subst e
  exact h2
 ·rw [h1] at e
  cases e
theorem lt_nlt {a b c:K} (h1:Op.bytesLess a b=true) (h2:Op.bytesLess c b=false):Op.bytesLess a c=true:=by
 rcases Yv b c with e | e | e
 ·exact Qq a b c h1 e
 ·subst e
  exact h1
 ·rw [h2] at e
  cases e
theorem nil_low (k:K):Op.bytesLess k []=false:=by cases k<;>rfl
def btw (lo hi k:K):Prop:=Op.bytesLess k lo=false/\(hi=[]\/Op.bytesLess k hi=true)
theorem btw_all (k:K):btw [] [] k:=⟨nil_low k,Or.inl rfl⟩
theorem btw_lo {lo hi k q:K} (h:btw lo hi k) (g:btw k hi q):btw lo hi q:=⟨nlt_trans h.1 g.1,g.2⟩
theorem btw_hi {lo hi k q:K} (h:btw lo hi k) (hk:k≠[]) (g:btw lo k q):btw lo hi q:=by
 refine ⟨g.1,?_⟩;rcases h.2 with e | e
 ·exact Or.inl e
 ·rcases g.2 with e2 | e2
  ·exact absurd e2 hk
  ·exact Or.inr (Qq q k hi e2 e)
theorem btw_less {lo hi k a b:K} (hk:k≠[]) (ha:btw lo k a) (hb:btw k hi b):Op.bytesLess a b=true:=by
 rcases ha.2 with e | e
 ·exact absurd e hk
 ·exact lt_nlt e hb.1
def sorted (es:List E):Prop:=es.Pairwise (fun a b=>Op.bytesLess a.1 b.1=true)
abbrev R:=Int->K->K->List E->List Int->Prop
def Run (S:R):K->K->List K->List Int->List E->List Int->Prop
 | lo,hi,[],[c],es,qs=>S c lo hi es qs
 | lo,hi,k::ks,c::cs,es,qs=>∃ e1 q1 e2 q2,es=e1++e2/\qs=q1++q2/\S c lo k e1 q1/\Run S k hi ks cs e2 q2
 | _,_,[],[],_,_=>False
 | _,_,[],_::_::_,_,_=>False
 | _,_,_::_,[],_,_=>False
def RunL (S:R):K->List K->List Int->K->List E->List Int->Prop
 | lo,[],[],l,es,qs=>l=lo/\es=[]/\qs=[]
 | lo,k::ks,c::cs,l,es,qs=>∃ e1 q1 e2 q2,es=e1++e2/\qs=q1++q2/\S c lo k e1 q1/\RunL S k ks cs l e2 q2
 | _,[],_::_,_,_,_=>False
 | _,_::_,[],_,_,_=>False
def RunR (S:R):K->K->List K->List Int->List E->List Int->Prop
 | h,hi,[],[],es,qs=>h=hi/\es=[]/\qs=[]
 | h,hi,k::ks,c::cs,es,qs=>h=k/\∃ g e1 q1 e2 q2,es=e1++e2/\qs=q1++q2/\S c k g e1 q1/\RunR S g hi ks cs e2 q2
 | _,_,[],_::_,_,_=>False
 | _,_,_::_,[],_,_=>False
section
variable {S:R}
theorem run_len:∀ {ks:List K} {cs:List Int} {lo hi:K} {es:List E} {qs:List Int},Run S lo hi ks cs es qs->cs.length=ks.length+1
 | [],[c],_,_,_,_,_=>rfl
 | k::ks,c::cs,lo,hi,es,qs,h=>by
   obtain ⟨e1,q1,e2,q2,_,_,_,h4⟩:=h;have:=run_len h4;simp only [List.length_cons];omega
 | [],[],_,_,_,_,h=>h.elim
 | [],_::_::_,_,_,_,_,h=>h.elim
 | _::_,[],_,_,_,_,h=>h.elim
theorem runL_len:∀ {ks:List K} {cs:List Int} {lo l:K} {es:List E} {qs:List Int},RunL S lo ks cs l es qs->cs.length=ks.length
 | [],[],_,_,_,_,_=>rfl
 | k::ks,c::cs,lo,hi,es,qs,h=>by
   obtain ⟨e1,q1,e2,q2,_,_,_,h4⟩:=h;have:=runL_len h4;simp only [List.length_cons];omega
 | [],_::_,_,_,_,_,h=>h.elim
 | _::_,[],_,_,_,_,h=>h.elim
theorem runR_len:∀ {ks:List K} {cs:List Int} {lo l:K} {es:List E} {qs:List Int},RunR S lo l ks cs es qs->cs.length=ks.length
 | [],[],_,_,_,_,_=>rfl
 | k::ks,c::cs,lo,hi,es,qs,h=>by
   obtain ⟨_,g,e1,q1,e2,q2,_,_,_,h4⟩:=h;have:=runR_len h4;simp only [List.length_cons];omega
 | [],_::_,_,_,_,_,h=>h.elim
 | _::_,[],_,_,_,_,h=>h.elim
theorem run_mono {S':R}:∀ {ks:List K} {cs:List Int} {lo hi:K} {es:List E} {qs:List Int},Run S lo hi ks cs es qs ->
 (∀ c lo hi e q,(∀ x∈q,x∈qs)->S c lo hi e q->S' c lo hi e q)->Run S' lo hi ks cs es qs
 | [],[c],_,_,_,_,h,f=>f _ _ _ _ _ (fun _ hx=>hx) h
 | k::ks,c::cs,lo,hi,es,qs,h,f=>by
   obtain ⟨e1,q1,e2,q2,rfl,rfl,h3,h4⟩:=h;exact ⟨e1,q1,e2,q2,rfl,rfl,f _ _ _ _ _ (fun x hx=>wb0.2 (Or.inl hx)) h3,
    run_mono h4 (fun c lo hi e q hq=>f c lo hi e q (fun x hx=>wb0.2 (Or.inr (hq x hx))))⟩
 | [],[],_,_,_,_,h,_=>h.elim
 | [],_::_::_,_,_,_,_,h,_=>h.elim
 | _::_,[],_,_,_,_,h,_=>h.elim
theorem runL_mono {S':R}:∀ {ks:List K} {cs:List Int} {lo l:K} {es:List E} {qs:List Int},RunL S lo ks cs l es qs ->
 (∀ c lo hi e q,(∀ x∈q,x∈qs)->S c lo hi e q->S' c lo hi e q)->RunL S' lo ks cs l es qs
 | [],[],_,_,_,_,h,_=>h
 | k::ks,c::cs,lo,hi,es,qs,h,f=>by
   obtain ⟨e1,q1,e2,q2,rfl,rfl,h3,h4⟩:=h;exact ⟨e1,q1,e2,q2,rfl,rfl,f _ _ _ _ _ (fun x hx=>wb0.2 (Or.inl hx)) h3,
    runL_mono h4 (fun c lo hi e q hq=>f c lo hi e q (fun x hx=>wb0.2 (Or.inr (hq x hx))))⟩
 | [],_::_,_,_,_,_,h,_=>h.elim
 | _::_,[],_,_,_,_,h,_=>h.elim
theorem runR_mono {S':R}:∀ {ks:List K} {cs:List Int} {h hi:K} {es:List E} {qs:List Int},RunR S h hi ks cs es qs ->
 (∀ c lo hi e q,(∀ x∈q,x∈qs)->S c lo hi e q->S' c lo hi e q)->RunR S' h hi ks cs es qs
 | [],[],_,_,_,_,h,_=>h
 | k::ks,c::cs,lo,hi,es,qs,h,f=>by
   obtain ⟨h0,g,e1,q1,e2,q2,rfl,rfl,h3,h4⟩:=h;exact ⟨h0,g,e1,q1,e2,q2,rfl,rfl,f _ _ _ _ _ (fun x hx=>wb0.2 (Or.inl hx)) h3,
    runR_mono h4 (fun c lo hi e q hq=>f c lo hi e q (fun x hx=>wb0.2 (Or.inr (hq x hx))))⟩
 | [],_::_,_,_,_,_,h,_=>h.elim
 | _::_,[],_,_,_,_,h,_=>h.elim
theorem run_app:∀ {ks:List K} {cs:List Int} {lo k hi:K} {ks':List K} {cs':List Int} {e1 e2:List E} {q1 q2:List Int},
 Run S lo k ks cs e1 q1->Run S k hi ks' cs' e2 q2->Run S lo hi (ks++k::ks') (cs++cs') (e1++e2) (q1++q2)
 | [],[c],lo,k,hi,ks',cs',e1,e2,q1,q2,h,g=>⟨e1,q1,e2,q2,rfl,rfl,h,g⟩
 | x::ks,c::cs,lo,k,hi,ks',cs',e1,e2,q1,q2,h,g=>by
   obtain ⟨a1,b1,a2,b2,rfl,rfl,h3,h4⟩:=h;exact ⟨a1,b1,a2++e2,b2++q2,wb9 _ _ _,wb9 _ _ _,h3,run_app h4 g⟩
 | [],[],_,_,_,_,_,_,_,_,_,h,_=>h.elim
 | [],_::_::_,_,_,_,_,_,_,_,_,_,h,_=>h.elim
 | _::_,[],_,_,_,_,_,_,_,_,_,h,_=>h.elim
theorem run_cut:∀ {ks:List K} {cs:List Int} {lo k hi:K} {ks':List K} {cs':List Int} {es:List E} {qs:List Int},cs.length=ks.length+1 ->
 Run S lo hi (ks++k::ks') (cs++cs') es qs->∃ e1 q1 e2 q2,es=e1++e2/\qs=q1++q2/\Run S lo k ks cs e1 q1/\Run S k hi ks' cs' e2 q2
 | [],[c],lo,k,hi,ks',cs',es,qs,_,h=>h
 | x::ks,c::cs,lo,k,hi,ks',cs',es,qs,hl,h=>by
   obtain ⟨a1,b1,a2,b2,rfl,rfl,h3,h4⟩:=h;obtain ⟨c1,d1,c2,d2,rfl,rfl,g1,g2⟩:=run_cut (ks:=ks) (cs:=cs) (by simpa using hl) h4;exact ⟨a1++c1,b1++d1,c2,d2,(wb9 _ _ _).symm,(wb9 _ _ _).symm,⟨a1,b1,c1,d1,rfl,rfl,h3,g1⟩,g2⟩
 | [],[],_,_,_,_,_,_,_,hl,_=>by simp at hl
 | [],_::_::_,_,_,_,_,_,_,_,hl,_=>by simp at hl
 | _::_,[],_,_,_,_,_,_,_,hl,_=>by simp at hl
theorem run_left:∀ {ks:List K} {cs:List Int} {lo l hi:K} {ks':List K} {cs':List Int} {e1 e2:List E} {q1 q2:List Int},
 RunL S lo ks cs l e1 q1->Run S l hi ks' cs' e2 q2->Run S lo hi (ks++ks') (cs++cs') (e1++e2) (q1++q2)
 | [],[],lo,l,hi,ks',cs',e1,e2,q1,q2,h,g=>by
   obtain ⟨rfl,rfl,rfl⟩:=h;exact g
 | x::ks,c::cs,lo,k,hi,ks',cs',e1,e2,q1,q2,h,g=>by
   obtain ⟨a1,b1,a2,b2,rfl,rfl,h3,h4⟩:=h;exact ⟨a1,b1,a2++e2,b2++q2,wb9 _ _ _,wb9 _ _ _,h3,run_left h4 g⟩
 | [],_::_,_,_,_,_,_,_,_,_,_,h,_=>h.elim
 | _::_,[],_,_,_,_,_,_,_,_,_,h,_=>h.elim
theorem run_right:∀ {ks':List K} {cs':List Int} {lo h hi:K} {ks:List K} {cs:List Int} {e1 e2:List E} {q1 q2:List Int},
 Run S lo h ks cs e1 q1->RunR S h hi ks' cs' e2 q2->Run S lo hi (ks++ks') (cs++cs') (e1++e2) (q1++q2)
 | [],[],lo,h,hi,ks,cs,e1,e2,q1,q2,g,r=>by
   obtain ⟨rfl,rfl,rfl⟩:=r;simpa using g
 | k::ks',c::cs',lo,h,hi,ks,cs,e1,e2,q1,q2,g,r=>by
   obtain ⟨rfl,x,a1,b1,a2,b2,rfl,rfl,h3,h4⟩:=r;have h5:Run S h x [] [c] a1 b1:=h3;have:=run_right (run_app g h5) h4;simpa [List.append_assoc] using this
 | [],_::_,_,_,_,_,_,_,_,_,_,_,h=>h.elim
 | _::_,[],_,_,_,_,_,_,_,_,_,_,h=>h.elim
theorem run_at:∀ {ks:List K} {cs:List Int} {lo hi:K} {es:List E} {qs:List Int} (i:Nat),Run S lo hi ks cs es qs->i<cs.length ->
 ∃ l h c e1 q1 e2 q2 e3 q3,cs[i]?=some c/\es=e1++(e2++e3)/\qs=q1++(q2++q3)/\RunL S lo (ks.take i) (cs.take i) l e1 q1/\S c l h e2 q2/\RunR S h hi (ks.drop i) (cs.drop (i+1)) e3 q3 /\
   (l=lo\/l∈ks.take i)/\(h=hi\/h∈ks.drop i)
 | [],[c],lo,hi,es,qs,i,h,hi'=>by
   obtain rfl:i=0:=by simpa using hi'
   exact ⟨lo,hi,c,[],[],es,qs,[],[],rfl,by simp,by simp,⟨rfl,rfl,rfl⟩,h,⟨rfl,rfl,rfl⟩,Or.inl rfl,Or.inl rfl⟩
 | k::ks,c::cs,lo,hi,es,qs,0,h,_=>by
   obtain ⟨a1,b1,a2,b2,rfl,rfl,h3,h4⟩:=h;refine ⟨lo,k,c,[],[],a1,b1,a2,b2,rfl,rfl,rfl,⟨rfl,rfl,rfl⟩,h3,?_,Or.inl rfl,Or.inr (by simp)⟩;exact FD h4
 | k::ks,c::cs,lo,hi,es,qs,i+1,h,hi'=>by
   obtain ⟨a1,b1,a2,b2,rfl,rfl,h3,h4⟩:=h;obtain ⟨l,g,d,e1,q1,e2,q2,e3,q3,g1,rfl,rfl,g2,g3,g4,g5,g6⟩:=run_at i h4 (by simpa using hi');refine ⟨l,g,d,a1++e1,b1++q1,e2,q2,e3,q3,by simpa using g1,by simp [List.append_assoc],by simp [List.append_assoc],⟨a1,b1,e1,q1,rfl,rfl,h3,g2⟩,g3,g4,Or.inr ?_,g6⟩;rw [we4];rcases g5 with e | e
   ·rw [e]
    simp
   ·simp [e]
 | [],[],_,_,_,_,_,h,_=>h.elim
 | [],_::_::_,_,_,_,_,_,h,_=>h.elim
 | _::_,[],_,_,_,_,_,h,_=>h.elim
where
 FD:∀ {ks:List K} {cs:List Int} {k hi:K} {es:List E} {qs:List Int},Run S k hi ks cs es qs->RunR S k hi (k::ks) cs es qs
 | [],[c],k,hi,es,qs,h=>⟨rfl,hi,es,qs,[],[],by simp,by simp,h,rfl,rfl,rfl⟩
 | x::ks,c::cs,k,hi,es,qs,h=>by
   obtain ⟨a1,b1,a2,b2,rfl,rfl,h3,h4⟩:=h;exact ⟨rfl,x,a1,b1,a2,b2,rfl,rfl,h3,FD h4⟩
 | [],[],_,_,_,_,h=>h.elim
 | [],_::_::_,_,_,_,_,h=>h.elim
 | _::_,[],_,_,_,_,h=>h.elim
theorem runL_last:∀ {ks:List K} {cs:List Int} {lo l k:K} {c:Int} {es:List E} {qs:List Int},cs.length=ks.length->RunL S lo (ks++[k]) (cs++[c]) l es qs ->
 l=k/\∃ m e1 q1 e2 q2,es=e1++e2/\qs=q1++q2/\RunL S lo ks cs m e1 q1/\S c m k e2 q2/\(m=lo\/m∈ks)
 | [],[],lo,l,k,c,es,qs,_,h=>by
   obtain ⟨a1,b1,a2,b2,rfl,rfl,h3,rfl,rfl,rfl⟩:=h;exact ⟨rfl,lo,[],[],a1,b1,by simp,by simp,⟨rfl,rfl,rfl⟩,h3,Or.inl rfl⟩
 | x::ks,y::cs,lo,l,k,c,es,qs,hl,h=>by
   obtain ⟨a1,b1,a2,b2,rfl,rfl,h3,h4⟩:=h;obtain ⟨rfl,m,c1,d1,c2,d2,rfl,rfl,g1,g2,g3⟩:=runL_last (by simpa using hl) h4;refine ⟨rfl,m,a1++c1,b1++d1,c2,d2,(wb9 _ _ _).symm,(wb9 _ _ _).symm,⟨a1,b1,c1,d1,rfl,rfl,h3,g1⟩,g2,Or.inr ?_⟩;rcases g3 with e | e
   ·rw [e]
    simp
   ·simp [e]
 | [],_::_,_,_,_,_,_,_,hl,_=>by simp at hl
 | _::_,[],_,_,_,_,_,_,hl,_=>by simp at hl
end
structure VL (n:ND) (lo hi:K) (es:List E):Prop where
 leaf:n.leaf=true
 rise:ND.rise [] n.keys=true
 nv:n.vals.length=n.keys.length
 vals:n.vals.all valB=true
 kids:n.kids=[]
 keys:∀ k∈n.keys,btw lo hi k
 ents:es=n.keys.zip n.vals
structure VI (S:R) (n:ND) (lo hi:K) (es:List E) (qs:List Int):Prop where
 leaf:n.leaf=false
 rise:ND.rise [] n.keys=true
 vals:n.vals=[]
 kids:n.kids.all kidB=true
 keys:∀ k∈n.keys,btw lo hi k
 run:Run S lo hi n.keys n.kids es qs
def VN (S:R):Nat->ND->K->K->List E->List Int->Prop
 | 0,n,lo,hi,es,qs=>VL n lo hi es/\qs=[]
 | _+1,n,lo,hi,es,qs=>VI S n lo hi es qs
def Sub (nd:Int->Option ND):Nat->R
 | 0=>fun _ _ _ _ _=>False
 | h+1=>fun p lo hi es ps=>∃ n qs,ps=p::qs/\nd p=some n/\n.size<=1000/\250<n.size/\VN (Sub nd h) h n lo hi es qs
theorem VN.leaf {S:R} {h:Nat} {n:ND} {lo hi:K} {es:List E} {qs:List Int} (v:VN S h n lo hi es qs):n.leaf=decide (h=0):=by
 cases h with
 | zero=>exact v.1.leaf
 | succ h=>exact VI.leaf v
theorem VN.rise {S:R} {h:Nat} {n:ND} {lo hi:K} {es:List E} {qs:List Int} (v:VN S h n lo hi es qs):ND.rise [] n.keys=true:=by
 cases h with
 | zero=>exact v.1.rise
 | succ h=>exact VI.rise v
theorem VN.keys {S:R} {h:Nat} {n:ND} {lo hi:K} {es:List E} {qs:List Int} (v:VN S h n lo hi es qs):∀ k∈n.keys,btw lo hi k:=by
 cases h with
 | zero=>exact v.1.keys
 | succ h=>exact VI.keys v
theorem VN.ok {S:R} {h:Nat} {n:ND} {lo hi:K} {es:List E} {qs:List Int} (v:VN S h n lo hi es qs) (hk:h=0\/0<n.keys.length):n.ok=true:=by
 cases h with
 | zero =>
   obtain ⟨⟨h1,h2,h3,h4,h5,_,_⟩,_⟩:=v;unfold ND.ok leafB;simp [h1,h2,h3,h4,h5]
 | succ h =>
   obtain ⟨h1,h2,h3,h4,h5,h6⟩:=v;have:=run_len h6;unfold ND.ok innerB;simp [h1,h2,h3,h4,this];omega
theorem VN.mono {S S':R} {h:Nat} {n:ND} {lo hi:K} {es:List E} {qs:List Int} (v:VN S h n lo hi es qs)
 (f:∀ c lo hi e q,(∀ x∈q,x∈qs)->S c lo hi e q->S' c lo hi e q):VN S' h n lo hi es qs:=by
 cases h with
 | zero=>exact v
 | succ h =>
   obtain ⟨h1,h2,h3,h4,h5,h6⟩:=v;exact ⟨h1,h2,h3,h4,h5,run_mono h6 f⟩
theorem Sub.frame {nd nd':Int->Option ND}:∀ {h:Nat} {p:Int} {lo hi:K} {es:List E} {ps:List Int},Sub nd h p lo hi es ps->(∀ q∈ps,nd' q=nd q)->Sub nd' h p lo hi es ps
 | 0,_,_,_,_,_,h,_=>h.elim
 | h+1,p,lo,hi,es,ps,⟨n,qs,e1,e2,e3,e4,e5⟩,f=>by
   subst e1;exact ⟨n,qs,rfl,(f p (by simp)).trans e2,e3,e4,e5.mono (fun c lo hi e q hq hs=>hs.frame (fun x hx=>f x (by simp [hq x hx])))⟩
theorem VN.frame {nd nd':Int->Option ND} {h:Nat} {n:ND} {lo hi:K} {es:List E} {qs:List Int} (v:VN (Sub nd h) h n lo hi es qs) (f:∀ q∈qs,nd' q=nd q):VN (Sub nd' h) h n lo hi es qs :=
 v.mono (fun _ _ _ _ _ hq hs=>hs.frame (fun x hx=>f x (hq x hx)))
theorem Sub.head {nd:Int->Option ND} {h:Nat} {p:Int} {lo hi:K} {es:List E} {ps:List Int} (s:Sub nd h p lo hi es ps):p∈ps:=by
 cases h with
 | zero=>exact s.elim
 | succ h =>
   obtain ⟨n,qs,rfl,_⟩:=s;simp
def GoodR (S:R):Prop:=∀ c lo hi e q,S c lo hi e q->(∀ x∈e,btw lo hi x.1)/\sorted e/\0<e.length
theorem run_good {S:R} (g:GoodR S):∀ {ks:List K} {cs:List Int} {lo hi:K} {es:List E} {qs:List Int},Run S lo hi ks cs es qs->(∀ k∈ks,btw lo hi k/\k≠[])->ks.Pairwise (fun a b=>Op.bytesLess a b=true) ->
 (∀ x∈es,btw lo hi x.1)/\sorted es/\cs.length<=es.length
 | [],[c],lo,hi,es,qs,h,_,_=>by
   obtain ⟨h1,h2,h3⟩:=g _ _ _ _ _ h;exact ⟨h1,h2,h3⟩
 | k::ks,c::cs,lo,hi,es,qs,h,hk,hp=>by
   obtain ⟨e1,q1,e2,q2,rfl,rfl,h3,h4⟩:=h;obtain ⟨k1,k2⟩:=hk k (by simp);obtain ⟨p1,p2⟩:=wd1.1 hp;obtain ⟨a1,a2,a3⟩:=g _ _ _ _ _ h3;obtain ⟨b1,b2,b3⟩:=run_good g h4 (fun x hx=>by
    obtain ⟨y1,y2⟩:=hk x (by simp [hx]);exact ⟨⟨Xi _ _ (p1 x hx),y1.2⟩,y2⟩) p2
   refine ⟨fun x hx=>?_,?_,by rw [wb4,wa6];omega⟩
   ·rcases wb0.1 hx with hx | hx
    ·exact btw_hi k1 k2 (a1 x hx)
    ·exact btw_lo k1 (b1 x hx)
   ·unfold sorted
    rw [wc3];exact ⟨a2,b2,fun x hx y hy=>btw_less k2 (a1 x hx) (b1 y hy)⟩
 | [],[],_,_,_,_,h,_,_=>h.elim
 | [],_::_::_,_,_,_,_,h,_,_=>h.elim
 | _::_,[],_,_,_,_,h,_,_=>h.elim
theorem rise_ne {l:List K} (h:ND.rise [] l=true):∀ k∈l,k≠[]:=by
 intro k hk e;have:=((rise_nil.1 h).1 k hk).1;subst e;simp at this
theorem zip_keys {ks vs:List K} (h:vs.length=ks.length):(ks.zip vs).map (·.1)=ks:=List.map_fst_zip (by omega)
theorem sorted_iff {es:List E}:sorted es ↔ (es.map (·.1)).Pairwise (fun a b=>Op.bytesLess a b=true):=by
 unfold sorted;rw [List.pairwise_map]
theorem VN.good {S:R} (g:GoodR S) {h:Nat} {n:ND} {lo hi:K} {es:List E} {qs:List Int} (v:VN S h n lo hi es qs):(∀ x∈es,btw lo hi x.1)/\sorted es/\(0<n.keys.length->0<es.length)/\(h≠0->n.kids.length<=es.length):=by
 cases h with
 | zero =>
   obtain ⟨⟨h1,h2,h3,h4,h5,h6,rfl⟩,_⟩:=v;have hz:=zip_keys h3;refine ⟨fun x hx=>h6 x.1 (by rw [<- hz];exact wg8 hx),?_,fun hk=>?_,fun e=>absurd rfl e⟩
   ·rw [sorted_iff,hz]
    exact (rise_nil.1 h2).2
   ·have:=congrArg List.length hz
    rw [wd2] at this;omega
 | succ h =>
   obtain ⟨h1,h2,h3,h4,h5,h6⟩:=v;obtain ⟨a,b,c⟩:=run_good g h6 (fun k hk=>⟨h5 k hk,rise_ne h2 k hk⟩) (rise_nil.1 h2).2;have:=run_len h6;exact ⟨a,b,fun _=>by omega,fun _=>c⟩
theorem VN.keyed {S:R} {h:Nat} {n:ND} {lo hi:K} {es:List E} {qs:List Int} (v:VN S h n lo hi es qs) (hz:250<n.size):0<n.keys.length:=by
 cases h with
 | zero =>
   have h3:=v.1.nv;have h5:=v.1.kids;unfold ND.size tsz at hz;apply Classical.byContradiction;intro hn;have e1:n.keys=[]:=wb2 (by omega);have e2:n.vals=[]:=wb2 (by omega);rw [e1,e2,h5] at hz;simp [tsl] at hz
 | succ h =>
   have h3:=VI.vals v;have h6:=run_len (VI.run v);unfold ND.size tsz at hz;apply Classical.byContradiction;intro hn;have e1:n.keys=[]:=wb2 (by omega);rw [e1] at h6;rw [e1,h3,h6] at hz;simp [tsl] at hz
theorem Sub.good (nd:Int->Option ND):∀ h,GoodR (Sub nd h)
 | 0=>fun _ _ _ _ _ h=>h.elim
 | h+1=>by
   rintro p lo hi es ps ⟨n,qs,rfl,e2,e3,e4,e5⟩;obtain ⟨a,b,c,_⟩:=e5.good (Sub.good nd h);exact ⟨a,b,c (e5.keyed e4)⟩
theorem run_count {S:R} {m:Nat} (g:∀ c lo hi e q,S c lo hi e q->q.length+1<=2*e.length/\m<=e.length):∀ {ks:List K} {cs:List Int} {lo hi:K} {es:List E} {qs:List Int},Run S lo hi ks cs es qs ->
 qs.length+cs.length<=2*es.length/\cs.length*m<=es.length
 | [],[c],lo,hi,es,qs,h=>by
   obtain ⟨h1,h2⟩:=g _ _ _ _ _ h;simp only [List.length_cons,List.length_nil];omega
 | k::ks,c::cs,lo,hi,es,qs,h=>by
   obtain ⟨e1,q1,e2,q2,rfl,rfl,h3,h4⟩:=h;obtain ⟨a1,a2⟩:=g _ _ _ _ _ h3;obtain ⟨b1,b2⟩:=run_count g h4;simp only [List.length_cons,List.length_append,Nat.succ_mul];omega
 | [],[],_,_,_,_,h=>h.elim
 | [],_::_::_,_,_,_,_,h=>h.elim
 | _::_,[],_,_,_,_,h=>h.elim
theorem VN.count {S:R} {m h:Nat} (g:∀ c lo hi e q,S c lo hi e q->q.length+1<=2*e.length/\m<=e.length) {n:ND} {lo hi:K} {es:List E} {qs:List Int} (v:VN S h n lo hi es qs) (hk:0<n.keys.length):qs.length+2<=2*es.length/\(h≠0->2*m<=es.length):=by
 cases h with
 | zero =>
   obtain ⟨⟨h1,h2,h3,h4,h5,h6,rfl⟩,rfl⟩:=v;refine ⟨?_,fun e=>absurd rfl e⟩;rw [List.length_zip];simp only [List.length_nil];omega
 | succ h =>
   have h6:=VI.run v;have h7:=run_len h6;obtain ⟨a,b⟩:=run_count g h6;refine ⟨by omega,fun _=>?_⟩;have:2*m<=n.kids.length*m:=Nat.mul_le_mul_right m (by omega);omega
theorem Sub.count (nd:Int->Option ND):∀ h p lo hi es ps,Sub nd h p lo hi es ps->ps.length+1<=2*es.length/\2 ^ (h - 1)<=es.length
 | 0,_,_,_,_,_,h=>h.elim
 | h+1,p,lo,hi,es,ps,⟨n,qs,e1,e2,e3,e4,e5⟩=>by
   subst e1;have hk:=e5.keyed e4;obtain ⟨a,b⟩:=e5.count (Sub.count nd h) hk;refine ⟨by rw [wb4];omega,?_⟩;cases h with
   | zero =>
     show 2 ^ 0<=_;have:=(e5.good (Sub.good nd 0)).2.2.1 hk;rw [Nat.pow_zero];omega
   | succ h =>
     have:=b (by omega);show 2 ^ (h+1)<=_;have e:h+1 - 1=h:=(by omega);rw [e] at this;rw [Nat.pow_succ];omega
end TT
namespace ND
theorem sum_inner:∀ l:List (List UInt8),(l.map (fun k=>5+k.length)).sum=5*l.length+tsl l
 | []=>rfl
 | x::l=>by
   rw [List.map_cons,List.sum_cons,sum_inner l,tsl_cons,wb4];omega
theorem inner_size {s:ND} (hl:s.leaf=false) (hv:s.vals=[]) (hk:s.kids.length=s.keys.length+1):s.size=6+s.ents.sum:=by
 rw [ents_inner hl,sum_inner];unfold size tsz;rw [hv,hk];simp [tsl];omega
theorem ents_le {s:ND} (h:s.ok=true) {i:Nat}:s.ents.getD i 0<=if s.leaf then 222 else 125:=by
 cases hl:s.leaf with
 | true=>exact ents_at_le h hl
 | false =>
   rw [wa7,ents_inner hl,wc7];cases h1:s.keys[i]? with
   | none=>simp
   | some t =>
     have g1:=ok_keys h t (wb5 h1);simp;omega
theorem take_step {es:List Nat} {m:Nat} (h:∀ i,es.getD i 0<=m) (c:Nat):(es.take (c+1)).sum<=(es.take c).sum+m:=by
 rw [wc2,wf7];have:=h c;rw [wa7] at this;cases hc:es[c]? with
 | none=>simp
 | some x=>rw [hc] at this;simp at this ⊢;exact this
theorem take_drop_sum (es:List Nat) (c:Nat):(es.take c).sum+(es.drop c).sum=es.sum:=by
 conv=>rhs;rw [<- wb7 c es]
 rw [wf7]
def Most (s:ND):Prop:=s.size<=if s.leaf then 1350 else 1420
structure Halves2 (s:ND):Prop where
 many:¬ s.keys.length<2+s.gone
 l1:250<s.splitL.size
 l2:s.splitL.size<=1000
 r1:250<s.splitR.size
 r2:s.splitR.size<=1000
theorem halves_leaf {s:ND} (h:s.ok=true) (hl:s.leaf=true) (h1:1000<s.size) (h2:s.size<=1350):Halves2 s:=by
 have hsum:=ents_sum h hl;have hlen:=ents_length h;have hg:s.gone=0:=by unfold gone;rw [hl];rfl
 have hle:∀ i,s.ents.getD i 0<=222:=fun i=>ents_at_le h hl;have QY:¬ s.keys.length<2+s.gone:=by
  intro hf;rw [hg] at hf;have hs:∀ es:List Nat,es.length<2->(∀ i,es.getD i 0<=222)->es.sum<=222:=by
   intro es he hi
   match es,he with
   | [],_=>simp
   | [x],_=>simpa using hi 0
  have:=hs s.ents (by omega) hle;omega
 have hp:=splitAt_pos h QY;obtain ⟨_,e1,e2,_⟩:=split_yes QY;obtain ⟨l1,l2⟩:=split_leafs QY;have sL:=ents_sum (split_okL h QY) (l1.trans hl);have sR:=ents_sum (split_okR h QY) (l2.trans hl);rw [ents_splitL hl QY] at sL;rw [ents_splitR hl QY] at sR;have hcut:=take_drop_sum s.ents s.splitAt;have hh:=hN_pos h (by omega);have hb:=hN_before (es:=s.ents) (c:=hN s.ents - 1) (by omega);have ha:=hN_at (es:=s.ents);have hs1:=take_step hle (hN s.ents - 1);rw [show hN s.ents - 1+1=hN s.ents by omega] at hs1;have hlt:hN s.ents<s.ents.length:=by
  apply Classical.byContradiction;intro hn;have:(s.ents.take (hN s.ents)).sum=s.ents.sum:=by rw [wa5 (by omega)]
  omega
 have hat:s.splitAt=hN s.ents:=by unfold splitAt;rw [hg];omega
 rw [hat] at sL sR hcut;exact ⟨QY,by omega,by omega,by omega,by omega⟩
theorem halves_inner {s:ND} (h:s.ok=true) (hl:s.leaf=false) (h1:1000<s.size) (h2:s.size<=1420):Halves2 s:=by
 obtain ⟨g0,g1,g2,g3⟩:=ok_inner h hl;have hsum:=inner_size hl g3 g1;have hlen:=ents_length h;have hg:s.gone=1:=by unfold gone;rw [hl];rfl
 have hle:∀ i,s.ents.getD i 0<=125:=fun i=>by
  have:=ents_le h (i:=i);rw [hl] at this;simpa using this
 have hpart:∀ c,s.ents.sum<=(s.ents.take c).sum+(s.ents.length - c)*125:=by
  intro c;have e:=take_drop_sum s.ents c;have:∀ es:List Nat,(∀ i,es.getD i 0<=125)->es.sum<=es.length*125:=by
   intro es
   induction es with
   | nil=>intro _;simp
   | cons x l ih =>
     intro hi;have a:=hi 0;have b:=ih (fun i=>by simpa using hi (i+1));simp at a;rw [List.sum_cons,wb4,Nat.succ_mul];omega
  have:=this (s.ents.drop c) (fun i=>by
   rw [wa7,we8,<- wa7];exact hle _)
  rw [wc9] at this;omega
 have h5:4<=s.ents.length:=by
  have:=hpart 0;simp at this;omega
 have QY:¬ s.keys.length<2+s.gone:=by omega
 obtain ⟨_,e1,e2,_⟩:=split_yes QY;have hh:=hN_pos h (by omega);have hb:=hN_before (es:=s.ents) (c:=hN s.ents - 1) (by omega);have ha:=hN_at (es:=s.ents);have hs1:=take_step hle (hN s.ents - 1);rw [show hN s.ents - 1+1=hN s.ents by omega] at hs1;have hs2:=take_step hle (hN s.ents);have hlt:hN s.ents+2<=s.ents.length:=by
  apply Classical.byContradiction;intro hn;have:=hpart (hN s.ents - 1);omega
 have hat:s.splitAt=hN s.ents:=by unfold splitAt;rw [hg];omega
 have hcut:=take_drop_sum s.ents (hN s.ents+1);have hcut2:=take_drop_sum s.ents (hN s.ents);have hup:(s.ents.take (hN s.ents)).sum<=(s.ents.take (hN s.ents+1)).sum:=by
  rw [wc2,wf7];exact wd9 _ _
 have sL:s.splitL.size=6+(s.ents.take (hN s.ents)).sum:=by
  rw [e1,inner_size (by exact hl) (by dsimp only;rw [g3,List.take_nil]) (by dsimp only;rw [wb8,wb8];omega),ents_inner (by exact hl),ents_inner hl,<- List.map_take,hat,ents_inner hl]
 have sR:s.splitR.size=6+(s.ents.drop (hN s.ents+1)).sum:=by
  rw [e2,inner_size (by exact hl) (by dsimp only;rw [g3,List.drop_nil]) (by dsimp only;rw [wc9,wc9,hg];omega),ents_inner (by exact hl),ents_inner hl,<- wg4,hat,hg,ents_inner hl]
 exact ⟨QY,by omega,by omega,by omega,by omega⟩
theorem halves2 {s:ND} (h:s.ok=true) (h1:1000<s.size) (h2:Most s):Halves2 s:=by
 unfold Most at h2;cases hl:s.leaf with
 | true =>
   rw [hl] at h2;exact halves_leaf h hl h1 (by simpa using h2)
 | false =>
   rw [hl] at h2;exact halves_inner h hl h1 (by simpa using h2)
end ND
namespace TT
open ND
theorem zip_cut (a b:List K) (n:Nat):a.zip b=(a.take n).zip (b.take n)++(a.drop n).zip (b.drop n):=by
 have e1:(a.take n).zip (b.take n)=(a.zip b).take n:=by simp only [List.zip,List.take_zipWith]
 have e2:(a.drop n).zip (b.drop n)=(a.zip b).drop n:=by simp only [List.zip,List.drop_zipWith]
 rw [e1,e2,wb7]
structure Parts (S:R) (h:Nat) (n:ND) (lo hi:K) (es:List E) (qs:List Int):Prop where
 key:btw lo hi n.splitK/\n.splitK≠[]/\n.splitK.length<=120/\Op.bytesLess lo n.splitK=true
 halves:Halves2 n
 cut:∃ e1 q1 e2 q2,es=e1++e2/\qs=q1++q2/\VN S h n.splitL lo n.splitK e1 q1/\VN S h n.splitR n.splitK hi e2 q2
theorem VN.parts {S:R} {h:Nat} {n:ND} {lo hi:K} {es:List E} {qs:List Int} (v:VN S h n lo hi es qs) (h1:1000<n.size) (h2:Most n):Parts S h n lo hi es qs:=by
 have hk:=v.keyed (by omega);have ho:=v.ok (Or.inr hk);have hv:=halves2 ho h1 h2;obtain ⟨_,e1,e2,e3⟩:=split_yes hv.many;have hlt:=splitAt_lt hv.many;have hke:n.keys[n.splitAt]?=some n.splitK:=by rw [e3];exact getD_some (by omega)
 have hmem:=wb5 hke;have hb:=v.keys _ hmem;have hr:=v.rise;have hlen:=(rise_nil.1 hr).1 _ hmem;have hne:n.splitK≠[]:=rise_ne hr _ hmem;have hrL:=rise_sub hr (wf6 n.splitAt n.keys);have hrR:=rise_sub hr (we5 (n.splitAt+n.gone) n.keys);have hkL:∀ k∈n.keys.take n.splitAt,btw lo n.splitK k:=fun k hk'=>by
  refine ⟨(v.keys k (wf0 hk')).1,Or.inr ?_⟩;obtain ⟨j,hj⟩:=List.mem_iff_getElem?.1 hk';rw [List.getElem?_take] at hj;split at hj
  ·exact rise_pair [] n.keys hr j n.splitAt _ _ (by assumption) hj hke
  ·cases hj
 have hkR:∀ k∈n.keys.drop (n.splitAt+n.gone),btw n.splitK hi k:=fun k hk'=>by
  refine ⟨?_,(v.keys k (wf5 hk')).2⟩;obtain ⟨j,hj⟩:=List.mem_iff_getElem?.1 hk';rw [we8] at hj;rcases Nat.eq_zero_or_pos (n.gone+j) with e | e
  ·rw [show n.splitAt+n.gone+j=n.splitAt by omega,hke] at hj
   obtain rfl:=wa0 hj;exact Yh _
  ·exact Xi _ _ (rise_pair [] n.keys hr n.splitAt (n.splitAt+n.gone+j) _ _ (by omega) hke hj)
 have hstrict:Op.bytesLess lo n.splitK=true:=by
  have hp:=splitAt_pos ho hv.many;have h0:n.keys[0]?=some n.keys[0]:=wb1 hk;exact nlt_lt (v.keys _ (wb5 h0)).1 (rise_pair [] n.keys hr 0 n.splitAt _ _ hp h0 hke)
 refine ⟨⟨hb,hne,hlen.2,hstrict⟩,hv,?_⟩;cases h with
 | zero =>
   obtain ⟨⟨l1,l2,l3,l4,l5,l6,rfl⟩,rfl⟩:=v;have hg:n.gone=0:=by unfold gone;rw [l1];rfl
   rw [hg,wg1] at hrR hkR;refine ⟨_,[],_,[],zip_cut n.keys n.vals n.splitAt,rfl,⟨?_,rfl⟩,⟨?_,rfl⟩⟩
   ·rw [e1]
    exact ⟨l1,hrL,by dsimp only;rw [wb8,wb8,l3],all_sub l4 (wf6 _ _),by dsimp only;rw [l5,List.take_nil],hkL,rfl⟩
   ·rw [e2,hg,wg1]
    exact ⟨l1,hrR,by dsimp only;rw [wc9,wc9,l3],all_sub l4 (we5 _ _),by dsimp only;rw [l5,List.drop_nil],hkR,rfl⟩
 | succ h =>
   obtain ⟨l1,l2,l3,l4,l5,l6⟩:=v;have hg:n.gone=1:=by unfold gone;rw [l1];rfl
   rw [hg] at hrR hkR hlt;have hlen2:=run_len l6;have ek:n.keys=n.keys.take n.splitAt++n.splitK::n.keys.drop (n.splitAt+1):=by
    obtain ⟨h3,h4⟩:=wa8.1 hke
    conv=>lhs;rw [<- wb7 n.splitAt n.keys]
    rw [wc4 h3,h4]
   have ec:n.kids=n.kids.take (n.splitAt+1)++n.kids.drop (n.splitAt+1):=(wb7 _ _).symm;have l7:=l6;rw [ek,ec] at l7;obtain ⟨a1,b1,a2,b2,rfl,rfl,r1,r2⟩:=run_cut (by rw [wb8,wb8];omega) l7;refine ⟨a1,b1,a2,b2,rfl,rfl,?_,?_⟩
   ·rw [e1]
    exact ⟨l1,hrL,by dsimp only;rw [l3,List.take_nil],all_sub l4 (wf6 _ _),hkL,r1⟩
   ·rw [e2,hg]
    exact ⟨l1,hrR,by dsimp only;rw [l3,List.drop_nil],all_sub l4 (we5 _ _),hkR,r2⟩
end TT
structure SS where
 hi:Int
 fr:List Int
 pe:List (Int×Int)
namespace SS
def none:SS:=⟨0,[],[]⟩
def may (s:SS) (p:Int):Bool:=decide (2<=p/\p<s.hi)
def known (s:SS) (p:Int):Bool:=decide (p∈s.fr) || decide (p∈s.pe.map (·.2))
def last (s:SS):Int:=(s.pe.getLast?.map (·.1)).getD 0
structure Fine (s:SS) (top:Int):Prop where
 lo:2<=s.hi
 hi:s.hi<=top
 up:s.fr.Pairwise (·<·)
 inF:∀ p∈s.fr,2<=p/\p<s.hi
 ups:s.pe.Pairwise (fun x y=>x.1<=y.1)
 pos:∀ x∈s.pe,0<=x.1
 inP:∀ x∈s.pe,2<=x.2/\x.2<s.hi
 out:∀ x∈s.pe,x.2 ∉ s.fr
 once:(s.pe.map (·.2)).Nodup
open Classical in
noncomputable def check (s:SS) (top:Int):Int:=if Fine s top then 0 else 80
def ins (p:Int):List Int->List Int
 | []=>[p]
 | x::l=>if x<p then x::ins p l else p::x::l
def take (s:SS) (top:Int):Int×Int×SS :=
 match s.fr with
 | p::l=>(0,p,{ s with fr:=l })
 | []=>if s.hi<top then (0,s.hi,{ s with hi:=s.hi+1 }) else (81,0,none)
def giveBad (s:SS) (e p:Int):Bool := !s.may p || s.known p || decide (e<0) || decide (e<s.last)
def give (s:SS) (e p:Int):Int×SS:=if s.giveBad e p then (1,none) else (0,{ s with pe:=s.pe++[(e,p)] })
def backBad (s:SS) (p:Int):Bool := !s.may p || s.known p
def back (s:SS) (p:Int):Int×SS:=if s.backBad p then (1,none) else (0,{ s with fr:=ins p s.fr })
def count (e:Int):Nat->List (Int×Int)->Nat
 | 0,_=>0
 | _+1,[]=>0
 | b+1,x::l=>if x.1<=e then count e b l+1 else 0
def cut (m:Nat):Nat->List Int->List (List Int)
 | 0,_=>[]
 | g+1,l=>if l=[] then [] else l.take m::cut m g (l.drop m)
theorem ins_mem (p q:Int):∀ l,q∈ins p l ↔ q=p\/q∈l
 | []=>by simp [ins]
 | x::l=>by
   unfold ins;split
   ·rw [wb6,ins_mem p q l,wb6]
    constructor
    ·rintro (h | h | h)
     ·exact Or.inr (Or.inl h)
     ·exact Or.inl h
     ·exact Or.inr (Or.inr h)
    ·rintro (h | h | h)
     ·exact Or.inr (Or.inl h)
     ·exact Or.inl h
     ·exact Or.inr (Or.inr h)
   ·rw [wb6]
theorem ins_length (p:Int):∀ l,(ins p l).length=l.length+1
 | []=>rfl
 | x::l=>by
   unfold ins;split
   ·rw [wb4,ins_length p l,wb4]
   ·rfl
theorem ins_up (p:Int):∀ l,l.Pairwise (·<·)->p ∉ l->(ins p l).Pairwise (·<·)
 | [],_,_=>by simp [ins]
 | x::l,h,hp=>by
   obtain ⟨h1,h2⟩:=wd1.1 h;have hx:p≠x:=fun e=>hp (by simp [e]);have hl:p ∉ l:=fun e=>hp (by simp [e]);unfold ins;split
   ·rename_i hlt
    refine wd1.2 ⟨fun y hy=>?_,ins_up p l h2 hl⟩;rcases (ins_mem p y l).1 hy with e | e
    ·omega
    ·exact h1 y e
   ·rename_i hlt
    refine wd1.2 ⟨fun y hy=>?_,h⟩;rcases wb6.1 hy with e | e
    ·omega
    ·have:=h1 y e
     omega
theorem known_iff (s:SS) (p:Int):s.known p=true ↔ p∈s.fr\/p∈s.pe.map (·.2):=by
 unfold known;simp
theorem known_no {s:SS} {p:Int} (h:s.known p=false):p ∉ s.fr/\p ∉ s.pe.map (·.2):=by
 refine ⟨fun e=>?_,fun e=>?_⟩
 ·rw [(s.known_iff p).2 (Or.inl e)] at h
  cases h
 ·rw [(s.known_iff p).2 (Or.inr e)] at h
  cases h
section
variable {s:SS} {top:Int}
theorem check_ok (h:Fine s top):s.check top=0:=by unfold check;rw [if_pos h]
theorem check_bad (h:¬ Fine s top):s.check top=80:=by unfold check;rw [if_neg h]
theorem Fine.take (h:Fine s top) (he:(s.take top).1=0) :
 Fine (s.take top).2.2 top/\(s.take top).2.2.known (s.take top).2.1=false/\2<=(s.take top).2.1/\(s.take top).2.1<(s.take top).2.2.hi /\
 ((s.take top).2.2.hi=s.hi/\(s.take top).2.2.fr.length+1=s.fr.length\/(s.take top).2.2.hi=s.hi+1/\s.fr=[]/\(s.take top).2.2.fr=[])/\(s.take top).2.2.pe=s.pe:=by
 unfold SS.take at he ⊢;cases hf:s.fr with
 | cons p l =>
   have h1:=h.up;have h2:=h.inF;have h3:=h.out;rw [hf] at h1 h2 h3;obtain ⟨u1,u2⟩:=wd1.1 h1;simp only;refine ⟨⟨h.lo,h.hi,u2,fun q hq=>h2 q (by simp [hq]),h.ups,h.pos,h.inP,fun x hx e=>h3 x hx (by simp [e]),h.once⟩,?_,(h2 p (by simp)).1,(h2 p (by simp)).2,Or.inl ⟨trivial,by simp⟩,trivial⟩;cases hk:SS.known { s with fr:=l } p with
   | false=>rfl
   | true =>
     rcases (SS.known_iff _ p).1 hk with e | e
     ·have:=u1 p e
      omega
     ·obtain ⟨x,hx,hxp⟩:=wd7.1 e
      exact absurd (show x.2∈p::l by rw [hxp];simp) (h3 x hx)
 | nil =>
   rw [hf] at he;simp only at he ⊢;by_cases hlt:s.hi<top
   ·have hlo:=h.lo
    rw [if_pos hlt];refine ⟨⟨by show 2<=s.hi+1;omega,by show s.hi+1<=top;omega,List.Pairwise.nil,fun q hq=>(by cases hq),h.ups,h.pos,fun x hx=>?_,fun x _ hq=>(by cases hq),h.once⟩,?_,hlo,by show s.hi<s.hi+1;omega,Or.inr ⟨rfl,trivial,rfl⟩,rfl⟩
    ·have:=h.inP x hx
     show 2<=x.2/\x.2<s.hi+1;omega
    ·show SS.known ⟨s.hi+1,[],s.pe⟩ s.hi=false
     cases hk:SS.known ⟨s.hi+1,[],s.pe⟩ s.hi with
     | false=>rfl
     | true =>
       rcases (SS.known_iff _ s.hi).1 hk with e | e
       ·cases e
       ·obtain ⟨x,hx,hxp⟩:=wd7.1 e
        have:=h.inP x hx;omega
   ·rw [if_neg hlt] at he
    cases he
theorem Fine.give (h:Fine s top) {e p:Int} (hb:s.giveBad e p=false):Fine { s with pe:=s.pe++[(e,p)] } top:=by
 unfold giveBad at hb;simp only [Bool.or_eq_false_iff,Bool.not_eq_false',decide_eq_false_iff_not] at hb;obtain ⟨⟨⟨b1,b2⟩,b3⟩,b4⟩:=hb;obtain ⟨k1,k2⟩:=known_no b2;have b1':2<=p/\p<s.hi:=of_decide_eq_true b1;have hl:∀ x∈s.pe,x.1<=e:=fun x hx=>by
  unfold SS.last at b4;have hne:s.pe≠[]:=List.ne_nil_of_mem hx;rw [List.getLast?_eq_some_getLast hne] at b4;simp only [Option.map_some,Option.getD_some] at b4;have:x.1<=(s.pe.getLast hne).1:=by
   obtain ⟨i,hi,rfl⟩:=List.mem_iff_getElem.1 hx;rw [List.getLast_eq_getElem];by_cases e1:i=s.pe.length - 1
   ·subst e1
    exact Int.le_refl _
   ·exact List.pairwise_iff_getElem.1 h.ups i (s.pe.length - 1) hi (by omega) (by omega)
  omega
 refine ⟨h.lo,h.hi,h.up,h.inF,?_,fun x hx=>?_,fun x hx=>?_,fun x hx=>?_,?_⟩
 ·refine wc3.2 ⟨h.ups,by simp,fun x hx y hy=>?_⟩
  obtain rfl:y=(e,p):=by simpa using hy
  exact hl x hx
 ·rcases wb0.1 hx with e1 | e1
  ·exact h.pos x e1
  ·obtain rfl:x=(e,p):=by simpa using e1
   show 0<=e;omega
 ·rcases wb0.1 hx with e1 | e1
  ·exact h.inP x e1
  ·obtain rfl:x=(e,p):=by simpa using e1
   exact b1'
 ·rcases wb0.1 hx with e1 | e1
  ·exact h.out x e1
  ·obtain rfl:x=(e,p):=by simpa using e1
   exact k1
 ·rw [wc8]
  refine List.nodup_append.2 ⟨h.once,by simp,fun x hx y hy=>?_⟩;obtain rfl:y=p:=by simpa using hy
  exact fun e1=>k2 (by rw [<- e1];exact hx)
theorem Fine.back (h:Fine s top) {p:Int} (hb:s.backBad p=false):Fine { s with fr:=ins p s.fr } top:=by
 unfold backBad at hb;simp only [Bool.or_eq_false_iff,Bool.not_eq_false'] at hb;obtain ⟨k1,k2⟩:=known_no hb.2;have b1:2<=p/\p<s.hi:=of_decide_eq_true hb.1;refine ⟨h.lo,h.hi,ins_up p _ h.up k1,fun q hq=>?_,h.ups,h.pos,h.inP,fun x hx e=>?_,h.once⟩
 ·rcases (ins_mem p q _).1 hq with e | e
  ·rw [e]
   exact b1
  ·exact h.inF q e
 ·rcases (ins_mem p x.2 _).1 e with e1 | e1
  ·exact k2 (wd7.2 ⟨x,hx,e1⟩)
  ·exact h.out x hx e1
end
end SS
def ND.sameB (a b:ND):Bool:=a.leaf==b.leaf && (a.keys==b.keys && (a.vals==b.vals && a.kids==b.kids))
theorem ND.sameB_iff (a b:ND):a.sameB b=true ↔ a=b:=by
 obtain ⟨l,k,v,c⟩:=a;obtain ⟨l',k',v',c'⟩:=b;simp [ND.sameB]
theorem ND.sameB_no {a b:ND} (h:a≠b):a.sameB b=false:=by
 cases hb:a.sameB b with
 | false=>rfl
 | true=>exact absurd ((ND.sameB_iff a b).1 hb) h
structure TS where
 rt:Int
 ht:Nat
 ct:Int
 sp:SS
 ep:Int
 fr:Int->Bool
 lost:Int
 nd:Int->Option ND
 z:Nat
namespace TS
structure St where
 pg:Int
 nd:ND
 kid:Nat
def St.at_ (s:St):Int×ND:=(s.pg,s.nd)
def setB (f:Int->Bool) (p:Int) (b:Bool):Int->Bool:=fun q=>if q=p then b else f q
def setN (f:Int->Option ND) (p:Int) (n:ND):Int->Option ND:=fun q=>if q=p then some n else f q
def nodeAt (nd:Int->Option ND) (p:Int) (leaf:Bool):Option ND:=match nd p with
 | some n=>if n.leaf=leaf then some n else none
 | none=>none
def wayL (nd:Int->Option ND) (key:List UInt8):Nat->Int->Option (List St)
 | 0,_=>some []
 | 1,p=>match nodeAt nd p true with
   | none=>none
   | some n=>some [⟨p,n,0⟩]
 | h+2,p=>match nodeAt nd p false with
   | none=>none
   | some n=>(wayL nd key (h+1) (n.kids.getD (ND.kidN key n.keys) 0)).map (⟨p,n,ND.kidN key n.keys⟩::·)
def empty:ND:=⟨true,[],[],[]⟩
def way (t:TS) (key:List UInt8):Option (List St):=if t.ht=0 then some [⟨0,empty,0⟩] else wayL t.nd key t.ht t.rt
def tk (t:TS):Int×Int×TS :=
 if (t.sp.take t.z).1=0 then (0,(t.sp.take t.z).2.1,{ t with sp:=(t.sp.take t.z).2.2,fr:=setB t.fr (t.sp.take t.z).2.1 true }) else ((t.sp.take t.z).1,0,t)
def gone (t:TS) (p:Int):Int×SS:=if t.fr p then t.sp.back p else t.sp.give t.ep p
def rel (t:TS) (p:Int):Int×TS:=if (t.gone p).1=0 then (0,{ t with sp:=(t.gone p).2,fr:=setB t.fr p false }) else ((t.gone p).1,t)
def renew (t:TS) (p:Int):Int×Int×TS :=
 if t.fr p then (0,p,t) else if p=0 then t.tk else if (t.rel p).1=0 then (t.rel p).2.tk else ((t.rel p).1,0,(t.rel p).2)
def wr (t:TS) (was:Int×ND) (n:ND):Int×Int×TS :=
 if was.2.sameB n then (0,was.1,t) else if (t.renew was.1).1=0 then
  (if n.encE=0 then (0,(t.renew was.1).2.1,{ (t.renew was.1).2.2 with nd:=setN (t.renew was.1).2.2.nd (t.renew was.1).2.1 n }) else (121,0,(t.renew was.1).2.2))
 else ((t.renew was.1).1,0,(t.renew was.1).2.2)
def relAll (t:TS):List (Int×ND)->Int×TS
 | []=>(0,t)
 | l::r=>if (t.rel l.1).1=0 then relAll (t.rel l.1).2 r else t.rel l.1
def first (old:List (Int×ND)):Int×ND:=old.headD (0,ND.zero)
def wrAll (t:TS) (old:List (Int×ND)):List ND->Int×List Int×TS
 | []=>(0,[],t)
 | n::ns =>
   if (t.wr (first old) n).1=0 then
    (if (wrAll (t.wr (first old) n).2.2 old.tail ns).1=0 then (0,(t.wr (first old) n).2.1::(wrAll (t.wr (first old) n).2.2 old.tail ns).2.1,(wrAll (t.wr (first old) n).2.2 old.tail ns).2.2)
    else ((wrAll (t.wr (first old) n).2.2 old.tail ns).1,[],(wrAll (t.wr (first old) n).2.2 old.tail ns).2.2))
   else ((t.wr (first old) n).1,[],(t.wr (first old) n).2.2)
def lay (t:TS) (old:List (Int×ND)) (ns:List ND):Int×List Int×TS :=
 if (t.relAll (old.drop ns.length)).1=0 then (t.relAll (old.drop ns.length)).2.wrAll old ns else ((t.relAll (old.drop ns.length)).1,[],(t.relAll (old.drop ns.length)).2)
def partsN (n:ND):List ND:=if n.size<=1000 then [n] else [n.splitL,n.splitR]
def partsK (n:ND):List (List UInt8):=if n.size<=1000 then [] else [n.splitK]
def fin (t:TS) (up:ND) (from_:Nat) (old:List (Int×ND)) (n:ND):Int×ND×TS :=
 if (t.lay old (partsN n)).1=0 then (0,up.replace from_ (from_+old.length:Nat) (t.lay old (partsN n)).2.1 (partsK n),(t.lay old (partsN n)).2.2) else ((t.lay old (partsN n)).1,ND.zero,(t.lay old (partsN n)).2.2)
def kidOf (t:TS) (up:ND) (i:Nat):ND:=(t.nd (up.kids.getD i 0)).getD ND.zero
def settle (t:TS) (up:ND) (i:Nat) (was:Int×ND) (n:ND):Int×ND×TS :=
 if n.size<300 then
  (if i<up.keys.length then t.fin up i [was,(up.kids.getD (i+1) 0,t.kidOf up (i+1))] (n.join (up.keys.getD i []) (t.kidOf up (i+1)))
  else t.fin up (i - 1) [(up.kids.getD (i - 1) 0,t.kidOf up (i - 1)),was] ((t.kidOf up (i - 1)).join (up.keys.getD (i - 1) []) n))
 else t.fin up i [was] n
def above (t:TS) (n:ND) (pages:List Int) (h:Nat):Int×TS :=
 if 1<pages.length then
  (if (t.lay [] [⟨false,partsK n,[],pages⟩]).1=0 then (0,{ (t.lay [] [⟨false,partsK n,[],pages⟩]).2.2 with rt:=(t.lay [] [⟨false,partsK n,[],pages⟩]).2.1.getD 0 0,ht:=h+1 })
  else ((t.lay [] [⟨false,partsK n,[],pages⟩]).1,(t.lay [] [⟨false,partsK n,[],pages⟩]).2.2))
 else (0,{ t with rt:=pages.getD 0 0,ht:=h })
def plant (t:TS) (was:Int×ND) (n:ND) (h:Nat):Int×TS :=
 if n.keys.length=0 then { t with rt:=if n.leaf then 0 else n.kids.getD 0 0,ht:=h - 1 }.rel was.1
 else if (t.lay [was] (partsN n)).1=0 then (t.lay [was] (partsN n)).2.2.above n (t.lay [was] (partsN n)).2.1 h
 else ((t.lay [was] (partsN n)).1,(t.lay [was] (partsN n)).2.2)
def climb (t:TS) (h:Nat):List St->ND->Int×TS
 | [],_=>(0,t)
 | [s],n=>if s.nd.sameB n then (0,t) else t.plant s.at_ n h
 | s::u::r,n=>if s.nd.sameB n then (0,t) else
   if (t.settle u.nd u.kid s.at_ n).1=0 then climb (t.settle u.nd u.kid s.at_ n).2.2 h (u::r) (t.settle u.nd u.kid s.at_ n).2.1
   else ((t.settle u.nd u.kid s.at_ n).1,(t.settle u.nd u.kid s.at_ n).2.2)
def last (l:List St):ND:=(l.getLast?.map St.nd).getD empty
def change (t:TS) (key:List UInt8) (f:ND->ND):Int×TS:=match t.way key with
 | none=>(121,t)
 | some l=>t.climb l.length l.reverse (f (last l))
def told (t:TS) (e:Int):TS:={ t with lost:=e }
def get (t:TS) (key:List UInt8):List UInt8×Bool×Int×TS :=
 if t.lost≠0 then ([],false,t.lost,t) else match t.way key with
 | none=>([],false,121,t.told 121)
 | some l=>if ND.isAt key (last l).keys then ((last l).vals.getD (ND.findN key (last l).keys) [],true,0,t) else ([],false,0,t)
def badE (key val:List UInt8):Bool:=decide (key.length<1) || (decide (120<key.length) || decide (100<val.length))
def hasK (t:TS) (key:List UInt8):Bool:=match t.way key with
 | none=>false
 | some l=>ND.isAt key (last l).keys
def put (t:TS) (key val:List UInt8):Int×TS :=
 if t.lost≠0 then (t.lost,t) else if badE key val then (120,t) else
 if (t.change key (fun n=>n.put key val)).1=0 then (0,{ (t.change key (fun n=>n.put key val)).2 with ct:=if t.hasK key then (t.change key (fun n=>n.put key val)).2.ct else (t.change key (fun n=>n.put key val)).2.ct+1 })
 else ((t.change key (fun n=>n.put key val)).1,(t.change key (fun n=>n.put key val)).2.told (t.change key (fun n=>n.put key val)).1)
def del (t:TS) (key:List UInt8):Bool×Int×TS :=
 if t.lost≠0 then (false,t.lost,t) else
 if (t.change key (fun n=>n.remove key)).1=0 then (t.hasK key,0,{ (t.change key (fun n=>n.remove key)).2 with ct:=if t.hasK key then (t.change key (fun n=>n.remove key)).2.ct - 1 else (t.change key (fun n=>n.remove key)).2.ct })
 else (false,(t.change key (fun n=>n.remove key)).1,(t.change key (fun n=>n.remove key)).2.told (t.change key (fun n=>n.remove key)).1)
end TS
namespace TS
structure Acc (O:List Int) (nd0:Int->Option ND) (t:TS) (L:List Int):Prop where
 fine:SS.Fine t.sp t.z
 once:L.Nodup
 inL:∀ p∈L,2<=p/\p<t.sp.hi/\p ∉ t.sp.fr/\p ∉ t.sp.pe.map (·.2)
 all:(L.length:Int)+t.sp.fr.length+t.sp.pe.length+2=t.sp.hi
 late:∀ x∈t.sp.pe,x.1<=t.ep
 ep0:0<=t.ep
 own:∀ p∈L,t.fr p=true\/p∈O
 pend:∀ x∈t.sp.pe,x.2∈O
 old:∀ p∈O,t.fr p=false/\(p∈L\/p∈t.sp.pe.map (·.2))/\t.nd p=nd0 p
 fresh:∀ p,t.fr p=true->2<=p/\p<t.z
def used (t:TS) (L:List Int):Nat:=L.length+t.sp.pe.length
section
variable {O:List Int} {nd0:Int->Option ND} {t:TS} {L L':List Int} {p:Int}
theorem Acc.perm (h:Acc O nd0 t L) (hp:L.Perm L'):Acc O nd0 t L' :=
 ⟨h.fine,hp.nodup_iff.1 h.once,fun q hq=>h.inL q (hp.mem_iff.2 hq),by rw [<- hp.length_eq];exact h.all,h.late,h.ep0,fun q hq=>h.own q (hp.mem_iff.2 hq),h.pend,fun q hq=>by
  obtain ⟨a,b,c⟩:=h.old q hq;exact ⟨a,b.imp (fun e=>hp.mem_iff.1 e) id,c⟩,h.fresh⟩
theorem Acc.top (h:Acc O nd0 t L) (hp:p∈L):2<=p/\p<t.z:=by
 have:=h.inL p hp;have:=h.fine.hi;omega
theorem last_le {s:SS} {e:Int} (h0:0<=e) (h:∀ x∈s.pe,x.1<=e):s.last<=e:=by
 unfold SS.last;cases hl:s.pe.getLast? with
 | none=>simpa using h0
 | some x =>
   have:=h x (List.mem_of_getLast? hl);simpa using this
theorem may_of {s:SS} (h:2<=p/\p<s.hi):s.may p=true:=decide_eq_true h
theorem known_of {s:SS} (h1:p ∉ s.fr) (h2:p ∉ s.pe.map (·.2)):s.known p=false:=by
 unfold SS.known;rw [decide_eq_false h1,decide_eq_false h2];rfl
theorem take_nil {s:SS} {top:Int} (h:s.fr=[]):s.take top=if s.hi<top then (0,s.hi,{ s with hi:=s.hi+1 }) else (81,0,SS.none):=by
 obtain ⟨hi,fr,pe⟩:=s;dsimp only at h;subst h;rfl
theorem Acc.tk (h:Acc O nd0 t L):(t.tk=(81,0,t)/\t.z<=t.used L+2) \/
 ∃ q s',t.tk=(0,q,{ t with sp:=s',fr:=setB t.fr q true })/\Acc O nd0 { t with sp:=s',fr:=setB t.fr q true } (q::L)/\s'.pe=t.sp.pe:=by
 have ht:=h.fine.take;unfold TS.tk;rcases hf:t.sp.fr with _ | ⟨q,l⟩
 ·by_cases hlt:t.sp.hi<t.z
  ·have e1:t.sp.take t.z=(0,t.sp.hi,{ t.sp with hi:=t.sp.hi+1 }):=by
    rw [take_nil hf,if_pos hlt]
   rw [e1] at ht ⊢;obtain ⟨g1,g2,g3,g4,g5,g6⟩:=ht rfl;refine Or.inr ⟨t.sp.hi,_,rfl,?_,rfl⟩;have hn:t.sp.hi ∉ L:=fun e=>by have:=h.inL _ e;omega
   refine ⟨g1,we3.2 ⟨hn,h.once⟩,fun x hx=>?_,?_,h.late,h.ep0,fun x hx=>?_,h.pend,fun x hx=>?_,fun x hx=>?_⟩
   ·rcases wb6.1 hx with rfl | hx
    ·refine ⟨g3,g4,?_,?_⟩
     ·show t.sp.hi ∉ t.sp.fr
      rw [hf];simp
     ·exact (SS.known_no g2).2
    ·have:=h.inL x hx
     exact ⟨this.1,by show x<t.sp.hi+1;omega,this.2.2⟩
   ·have:=h.all
    show ((t.sp.hi::L).length:Int)+t.sp.fr.length+t.sp.pe.length+2=t.sp.hi+1;rw [wb4];omega
   ·rcases wb6.1 hx with rfl | hx
    ·left
     exact if_pos rfl
    ·rcases h.own x hx with e | e
     ·left
      show (if x=t.sp.hi then true else t.fr x)=true
      rw [e];split<;>rfl
     ·exact Or.inr e
   ·obtain ⟨a,b,c⟩:=h.old x hx
    have hne:x≠t.sp.hi:=fun e=>by
     subst e;rcases b with b | b
     ·exact hn b
     ·exact (SS.known_no g2).2 b
    exact ⟨(if_neg hne).trans a,b.imp (fun e=>wg5 _ e) id,c⟩
   ·change (if x=t.sp.hi then true else t.fr x)=true at hx
    by_cases hne:x=t.sp.hi
    ·subst hne
     exact ⟨g3,hlt⟩
    ·rw [if_neg hne] at hx
     exact h.fresh x hx
  ·left
   have e1:t.sp.take t.z=(81,0,SS.none):=by
    rw [take_nil hf,if_neg hlt]
   rw [e1];refine ⟨rfl,?_⟩;have:=h.all;rw [hf] at this;unfold used;simp only [List.length_nil] at this;omega
 ·have e1:t.sp.take t.z=(0,q,{ t.sp with fr:=l }):=by
   unfold SS.take;rw [hf]
  rw [e1] at ht ⊢;obtain ⟨g1,g2,g3,g4,g5,g6⟩:=ht rfl;refine Or.inr ⟨q,_,rfl,?_,rfl⟩;have hq:q∈t.sp.fr:=by rw [hf];simp
  have hn:q ∉ L:=fun e=>(h.inL _ e).2.2.1 hq;refine ⟨g1,we3.2 ⟨hn,h.once⟩,fun x hx=>?_,?_,h.late,h.ep0,fun x hx=>?_,h.pend,fun x hx=>?_,fun x hx=>?_⟩
  ·rcases wb6.1 hx with rfl | hx
   ·exact ⟨g3,g4,(SS.known_no g2).1,(SS.known_no g2).2⟩
   ·have:=h.inL x hx
    refine ⟨this.1,this.2.1,fun e=>this.2.2.1 ?_,this.2.2.2⟩;rw [hf];exact wg5 _ e
  ·have:=h.all
   rw [hf] at this;show ((q::L).length:Int)+l.length+t.sp.pe.length+2=t.sp.hi;rw [wb4] at this ⊢;omega
  ·rcases wb6.1 hx with rfl | hx
   ·left
    exact if_pos rfl
   ·rcases h.own x hx with e | e
    ·left
     show (if x=q then true else t.fr x)=true
     rw [e];split<;>rfl
    ·exact Or.inr e
  ·obtain ⟨a,b,c⟩:=h.old x hx
   have hne:x≠q:=fun e=>by
    subst e;rcases b with b | b
    ·exact hn b
    ·exact (SS.known_no g2).2 b
   exact ⟨(if_neg hne).trans a,b.imp (fun e=>wg5 _ e) id,c⟩
  ·change (if x=q then true else t.fr x)=true at hx
   by_cases hne:x=q
   ·subst hne
    have h1:=h.fine.inF x hq;have h2:=h.fine.hi;exact ⟨h1.1,by show x<(t.z:Int);omega⟩
   ·rw [if_neg hne] at hx
    exact h.fresh x hx
theorem Acc.rel (h:Acc O nd0 t (p::L)):∃ s',t.rel p=(0,{ t with sp:=s',fr:=setB t.fr p false })/\Acc O nd0 { t with sp:=s',fr:=setB t.fr p false } L/\L.length+s'.pe.length<=t.used (p::L):=by
 obtain ⟨n1,n2⟩:=we3.1 h.once;obtain ⟨i1,i2,i3,i4⟩:=h.inL p (by simp);have hm:=may_of (s:=t.sp) ⟨i1,i2⟩;have hk:=known_of (s:=t.sp) i3 i4;have hall:=h.all;rw [wb4] at hall;unfold TS.rel gone used;have hset:∀ x,x≠p->setB t.fr p false x=t.fr x:=fun x hx=>if_neg hx;have hfr:∀ x,setB t.fr p false x=true->t.fr x=true:=fun x hx=>by
  by_cases e:x=p
  ·subst e
   have:setB t.fr x false x=false:=if_pos rfl;rw [this] at hx;cases hx
  ·rw [hset x e] at hx
   exact hx
 cases hp:t.fr p with
 | true =>
   have hb:t.sp.backBad p=false:=by unfold SS.backBad;rw [hm,hk];rfl
   have e1:t.sp.back p=(0,{ t.sp with fr:=SS.ins p t.sp.fr }):=by
    unfold SS.back;rw [hb];rfl
   rw [if_pos rfl,e1];refine ⟨_,rfl,?_,by simp⟩;refine ⟨h.fine.back hb,n2,fun x hx=>?_,?_,h.late,h.ep0,fun x hx=>?_,h.pend,fun x hx=>?_,fun x hx=>h.fresh x (hfr x hx)⟩
   ·obtain ⟨a,b,c,d⟩:=h.inL x (by simp [hx])
    refine ⟨a,b,fun e=>?_,d⟩;rcases (SS.ins_mem p x _).1 e with e | e
    ·subst e
     exact n1 hx
    ·exact c e
   ·show (L.length:Int)+(SS.ins p t.sp.fr).length+t.sp.pe.length+2=t.sp.hi
    rw [SS.ins_length];omega
   ·have hne:x≠p:=fun e=>n1 (e ▸ hx)
    have:=h.own x (by simp [hx]);rcases this with e | e
    ·exact Or.inl ((hset x hne).trans e)
    ·exact Or.inr e
   ·obtain ⟨a,b,c⟩:=h.old x hx
    have hne:x≠p:=fun e=>by rw [e,hp] at a;cases a
    refine ⟨(hset x hne).trans a,?_,c⟩;rcases b with b | b
    ·rcases wb6.1 b with b | b
     ·exact absurd b hne
     ·exact Or.inl b
    ·exact Or.inr b
 | false =>
   have hO:p∈O:=by
    rcases h.own p (by simp) with e | e
    ·rw [hp] at e
     cases e
    ·exact e
   have hl:=last_le h.ep0 h.late;have hb:t.sp.giveBad t.ep p=false:=by
    unfold SS.giveBad;rw [hm,hk,decide_eq_false (by have:=h.ep0;omega),decide_eq_false (by omega)];rfl
   have e1:t.sp.give t.ep p=(0,{ t.sp with pe:=t.sp.pe++[(t.ep,p)] }):=by
    unfold SS.give;rw [hb];rfl
   rw [if_neg (show ¬ (false=true) by decide),e1]
   refine ⟨_,rfl,?_,by have e:(t.sp.pe++[(t.ep,p)]).length=t.sp.pe.length+1:=by simp
                       show L.length+(t.sp.pe++[(t.ep,p)]).length<=(p::L).length+t.sp.pe.length;rw [e,wb4];omega⟩
   refine ⟨h.fine.give hb,n2,fun x hx=>?_,?_,fun x hx=>?_,h.ep0,fun x hx=>?_,fun x hx=>?_,fun x hx=>?_,fun x hx=>h.fresh x (hfr x hx)⟩
   ·obtain ⟨a,b,c,d⟩:=h.inL x (by simp [hx])
    refine ⟨a,b,c,fun e=>?_⟩;change x∈(t.sp.pe++[(t.ep,p)]).map (·.2) at e;rw [wc8,wb0] at e;rcases e with e | e
    ·exact d e
    ·have:x=p:=by simpa using e
     exact n1 (this ▸ hx)
   ·show (L.length:Int)+t.sp.fr.length+(t.sp.pe++[(t.ep,p)]).length+2=t.sp.hi
    rw [wa6];simp only [List.length_cons,List.length_nil];omega
   ·rcases wb0.1 hx with e | e
    ·exact h.late x e
    ·have:x=(t.ep,p):=by simpa using e
     rw [this];exact Int.le_refl _
   ·have hne:x≠p:=fun e=>n1 (e ▸ hx)
    have:=h.own x (by simp [hx]);rcases this with e | e
    ·exact Or.inl ((hset x hne).trans e)
    ·exact Or.inr e
   ·rcases wb0.1 hx with e | e
    ·exact h.pend x e
    ·have:x=(t.ep,p):=by simpa using e
     rw [this];exact hO
   ·obtain ⟨a,b,c⟩:=h.old x hx
    refine ⟨?_,?_,c⟩
    ·show (if x=p then false else t.fr x)=false
     rw [a];split<;>rfl
    ·rcases b with b | b
     ·rcases wb6.1 b with b | b
      ·subst b
       right;show x∈(t.sp.pe++[(t.ep,x)]).map (·.2);simp
      ·exact Or.inl b
     ·right
      show x∈(t.sp.pe++[(t.ep,p)]).map (·.2);rw [wc8];exact wb0.2 (Or.inl b)
structure Did (O:List Int) (nd0:Int->Option ND) (t:TS) (L:List Int) (k:Nat) (t':TS) (L':List Int):Prop where
 acc:Acc O nd0 t' L'
 used:t'.used L'<=t.used L+k
 z_:t'.z=t.z
 ep_:t'.ep=t.ep
 ct_:t'.ct=t.ct
 lost_:t'.lost=t.lost
 rt_:t'.rt=t.rt
 ht_:t'.ht=t.ht
def Full (t:TS) (L:List Int) (k:Nat) (e:Int):Prop:=e=81/\t.z<=t.used L+2+k
theorem Full.up {k k':Nat} {e:Int} (h:Full t L k e) (hk:k<=k'):Full t L k' e:=⟨h.1,by have:=h.2;omega⟩
theorem Did.up {k k':Nat} {t':TS} (h:Did O nd0 t L k t' L') (hk:k<=k'):Did O nd0 t L k' t' L':=⟨h.acc,by have:=h.used;omega,h.z_,h.ep_,h.ct_,h.lost_,h.rt_,h.ht_⟩
theorem Did.full {k k':Nat} {t':TS} {e:Int} (h:Did O nd0 t L k t' L') (f:Full t' L' k' e):Full t L (k+k') e:=⟨f.1,by
 have:=h.used;have:=f.2;have:=h.z_;omega⟩
theorem Did.trans {k k':Nat} {t' t'':TS} {L'':List Int} (h:Did O nd0 t L k t' L') (g:Did O nd0 t' L' k' t'' L''):Did O nd0 t L (k+k') t'' L'' :=
 ⟨g.acc,by have:=h.used;have:=g.used;omega,g.z_.trans h.z_,g.ep_.trans h.ep_,g.ct_.trans h.ct_,g.lost_.trans h.lost_,g.rt_.trans h.rt_,g.ht_.trans h.ht_⟩
theorem Did.perm {k:Nat} {t':TS} {M M':List Int} (h:Did O nd0 t L k t' L') (hp:L.Perm M) (hq:L'.Perm M'):Did O nd0 t M k t' M' :=
 ⟨h.acc.perm hq,by have:=h.used;unfold TS.used at *;rw [<- hp.length_eq,<- hq.length_eq];exact this,h.z_,h.ep_,h.ct_,h.lost_,h.rt_,h.ht_⟩
theorem Full.perm {k:Nat} {e:Int} {M:List Int} (h:Full t L k e) (hp:L.Perm M):Full t M k e:=⟨h.1,by have:=h.2;unfold TS.used at *;rw [<- hp.length_eq];exact this⟩
theorem Did.refl (h:Acc O nd0 t L):Did O nd0 t L 0 t L:=⟨h,wa2 _,rfl,rfl,rfl,rfl,rfl,rfl⟩
theorem Acc.take_did (h:Acc O nd0 t L):(t.tk=(81,0,t)/\Full t L 0 81)\/∃ q t',t.tk=(0,q,t')/\Did O nd0 t L 1 t' (q::L)/\t'.nd=t.nd/\t'.fr q=true:=by
 rcases h.tk with ⟨e,h1⟩ | ⟨q,s',e,h1,h2⟩
 ·exact Or.inl ⟨e,rfl,h1⟩
 ·refine Or.inr ⟨q,_,e,⟨h1,?_,rfl,rfl,rfl,rfl,rfl,rfl⟩,rfl,if_pos rfl⟩
  unfold TS.used;rw [show ({ t with sp:=s',fr:=setB t.fr q true }:TS).sp.pe=t.sp.pe from h2,wb4]
  omega
theorem Acc.rel_did (h:Acc O nd0 t (p::L)):∃ t',t.rel p=(0,t')/\Did O nd0 t (p::L) 0 t' L/\t'.nd=t.nd:=by
 obtain ⟨s',e,h1,h2⟩:=h.rel;exact ⟨_,e,⟨h1,h2,rfl,rfl,rfl,rfl,rfl,rfl⟩,rfl⟩
theorem Acc.renew (h:Acc O nd0 t (p::L)):(∃ t',t.renew p=(81,0,t')/\Full t (p::L) 0 81)\/∃ q t',t.renew p=(0,q,t')/\Did O nd0 t (p::L) 1 t' (q::L)/\t'.nd=t.nd/\t'.fr q=true:=by
 unfold TS.renew;cases hp:t.fr p with
 | true=>exact Or.inr ⟨p,t,if_pos rfl,(Did.refl h).up (by omega),rfl,hp⟩
 | false =>
   have h0:p≠0:=by have:=h.inL p (by simp);omega
   rw [if_neg (by decide),if_neg h0];obtain ⟨t1,e1,d1,n1⟩:=h.rel_did;rw [e1,if_pos rfl];rcases d1.acc.take_did with ⟨e2,f⟩ | ⟨q,t2,e2,d2,n2,f2⟩
   ·exact Or.inl ⟨t1,e2,d1.full f⟩
   ·exact Or.inr ⟨q,t2,e2,d1.trans d2,n2.trans n1,f2⟩
theorem Acc.renew0 (h:Acc O nd0 t L):(∃ t',t.renew 0=(81,0,t')/\Full t L 0 81)\/∃ q t',t.renew 0=(0,q,t')/\Did O nd0 t L 1 t' (q::L)/\t'.nd=t.nd/\t'.fr q=true:=by
 have h0:t.fr 0=false:=by
  cases hf:t.fr 0 with
  | false=>rfl
  | true=>have:=h.fresh 0 hf;omega
 unfold TS.renew;rw [h0,if_neg (by decide),if_pos rfl];rcases h.take_did with ⟨e2,f⟩ | ⟨q,t2,e2,d2,n2,f2⟩
 ·exact Or.inl ⟨t,e2,f⟩
 ·exact Or.inr ⟨q,t2,e2,d2,n2,f2⟩
theorem Acc.write (h:Acc O nd0 t (p::L)) (hf:t.fr p=true) (n:ND):Acc O nd0 { t with nd:=setN t.nd p n } (p::L) :=
 ⟨h.fine,h.once,h.inL,h.all,h.late,h.ep0,h.own,h.pend,fun q hq=>by
  obtain ⟨a,b,c⟩:=h.old q hq;have hne:q≠p:=fun e=>by rw [e,hf] at a;cases a
  exact ⟨a,b,(if_neg hne).trans c⟩,h.fresh⟩
structure Wrote (O:List Int) (nd0:Int->Option ND) (t:TS) (M L:List Int) (n:ND) (q:Int) (t':TS):Prop where
 did:Did O nd0 t M 1 t' (q::L)
 here:t'.nd q=some n
 else_:∀ x,x≠q->t'.nd x=t.nd x
theorem Acc.wr (h:Acc O nd0 t (p::L)) {o n:ND} (ho:t.nd p=some o) (hn:n.encE=0):(∃ t',t.wr (p,o) n=(81,0,t')/\Full t (p::L) 0 81)\/∃ q t',t.wr (p,o) n=(0,q,t')/\Wrote O nd0 t (p::L) L n q t':=by
 unfold TS.wr;by_cases hs:o.sameB n=true
 ·have:=(ND.sameB_iff o n).1 hs
  subst this;exact Or.inr ⟨p,t,if_pos hs,(Did.refl h).up (by omega),ho,fun _ _=>rfl⟩
 ·rw [if_neg hs]
  rcases h.renew with ⟨t',e,f⟩ | ⟨q,t',e,d,e1,e2⟩
  ·left
   rw [show t.renew (p,o).1=_ from e];exact ⟨t',rfl,f⟩
  ·right
   rw [show t.renew (p,o).1=_ from e,if_pos rfl,if_pos hn];refine ⟨q,_,rfl,⟨d.acc.write e2 n,d.used,d.z_,d.ep_,d.ct_,d.lost_,d.rt_,d.ht_⟩,if_pos rfl,fun x hx=>?_⟩;show setN t'.nd q n x=_;rw [show setN t'.nd q n x=t'.nd x from if_neg hx,e1]
theorem Acc.wr0 (h:Acc O nd0 t L) {o n:ND} (hs:o.sameB n=false) (hn:n.encE=0):(∃ t',t.wr (0,o) n=(81,0,t')/\Full t L 0 81)\/∃ q t',t.wr (0,o) n=(0,q,t')/\Wrote O nd0 t L L n q t':=by
 unfold TS.wr;rw [if_neg (by rw [hs];decide)];rcases h.renew0 with ⟨t',e,f⟩ | ⟨q,t',e,d,e1,e2⟩
 ·left
  rw [show t.renew (0,o).1=_ from e];exact ⟨t',rfl,f⟩
 ·right
  rw [show t.renew (0,o).1=_ from e,if_pos rfl,if_pos hn];refine ⟨q,_,rfl,⟨d.acc.write e2 n,d.used,d.z_,d.ep_,d.ct_,d.lost_,d.rt_,d.ht_⟩,if_pos rfl,fun x hx=>?_⟩;show setN t'.nd q n x=_;rw [show setN t'.nd q n x=t'.nd x from if_neg hx,e1]
end
end TS
namespace TS
structure Laid (O:List Int) (nd0:Int->Option ND) (t:TS) (M L:List Int) (ns:List ND) (qs:List Int) (t':TS):Prop where
 did:Did O nd0 t M ns.length t' (qs++L)
 len:qs.length=ns.length
 here:∀ (i:Nat) n,ns[i]?=some n->∃ q,qs[i]?=some q/\t'.nd q=some n
 else_:∀ x,x ∉ qs->t'.nd x=t.nd x
section
variable {O:List Int} {nd0:Int->Option ND} {t:TS} {L:List Int}
theorem Acc.relAll:∀ {old:List (Int×ND)} {t:TS},Acc O nd0 t (old.map Prod.fst++L)->∃ t',t.relAll old=(0,t')/\Did O nd0 t (old.map Prod.fst++L) 0 t' L/\t'.nd=t.nd
 | [],t,h=>⟨t,rfl,Did.refl h,rfl⟩
 | l::r,t,h=>by
   obtain ⟨t1,e1,d1,n1⟩:=Acc.rel_did (p:=l.1) (L:=r.map Prod.fst++L) h;obtain ⟨t2,e2,d2,n2⟩:=Acc.relAll (old:=r) d1.acc;refine ⟨t2,?_,d1.trans d2,n2.trans n1⟩;unfold TS.relAll;rw [e1,if_pos rfl];exact e2
theorem Laid.step {t' t'':TS} {M L':List Int} {n:ND} {ns:List ND} {q:Int} {qs:List Int} {N:List Int} (w:Wrote O nd0 t M L' n q t') (hp:(q::L').Perm N) (d:Laid O nd0 t' N (q::L) ns qs t''):Laid O nd0 t M L (n::ns) (q::qs) t'':=by
 have hperm:(qs++q::L).Perm (q::qs++L):=wf3;have hn:=(d.did.acc.perm hperm).once;have hq:q ∉ qs:=fun e=>(we3.1 hn).1 (by simp [e]);refine ⟨(w.did.perm (List.Perm.refl _) hp).trans (d.did.perm (List.Perm.refl _) hperm) |>.up (by simp;omega),by rw [wb4,wb4,d.len],fun i m hm=>?_,fun x hx=>?_⟩
 ·cases i with
  | zero =>
    obtain rfl:n=m:=(by simpa using hm);exact ⟨q,rfl,(d.else_ q hq).trans w.here⟩
  | succ i=>exact d.here i m (by simpa using hm)
 ·rw [d.else_ x (fun e=>hx (by simp [e])),w.else_ x (fun e=>hx (by simp [e]))]
theorem Acc.wrAll:∀ {ns:List ND} {old:List (Int×ND)} {t:TS} {L:List Int},Acc O nd0 t (old.map Prod.fst++L)->old.length<=ns.length->(∀ x∈old,t.nd x.1=some x.2)->(∀ n∈ns,n.encE=0/\ND.zero.sameB n=false) ->
 (∃ t',t.wrAll old ns=(81,[],t')/\Full t (old.map Prod.fst++L) ns.length 81)\/∃ qs t',t.wrAll old ns=(0,qs,t')/\Laid O nd0 t (old.map Prod.fst++L) L ns qs t'
 | [],old,t,L,h,hl,_,_=>by
   obtain rfl:old=[]:=wb2 (by simpa using hl);exact Or.inr ⟨[],t,rfl,Did.refl h,rfl,fun i m hm=>by simp at hm,fun _ _=>rfl⟩
 | n::ns,old,t,L,h,hl,ho,hn=>by
   obtain ⟨hn1,hn2⟩:=hn n (by simp)
   -- the first one, in whatever place
   have one:((∃ t',t.wr (first old) n=(81,0,t')/\Full t (old.map Prod.fst++L) 0 81)\/∃ q t',t.wr (first old) n=(0,q,t')/\Wrote O nd0 t (old.map Prod.fst++L) (old.tail.map Prod.fst++L) n q t'):=by
    cases old with
    | nil=>exact h.wr0 hn2 hn1
    | cons x r=>exact Acc.wr (p:=x.1) (o:=x.2) h (ho x (by simp)) hn1
   unfold TS.wrAll;rcases one with ⟨t1,e1,f⟩ | ⟨q,t1,e1,w⟩
   ·left
    rw [e1,if_neg (show ¬ (81:Int)=0 by decide)];exact ⟨t1,rfl,f.up (by omega)⟩
   ·rw [e1,if_pos rfl]
    have hp:(q::(old.tail.map Prod.fst++L)).Perm (old.tail.map Prod.fst++q::L):=wf3.symm;have ha:=w.did.acc.perm hp;have hq:∀ x∈old.tail,x.1≠q:=fun x hx e=>(we3.1 w.did.acc.once).1 (by rw [<- e];exact wb0.2 (Or.inl (wg8 hx)));rcases Acc.wrAll (ns:=ns) (old:=old.tail) ha (by rw [List.length_tail];simp at hl;omega) (fun x hx=>by
     rw [w.else_ _ (hq x hx)];exact ho x (List.mem_of_mem_tail hx)) (fun m hm=>hn m (by simp [hm])) with ⟨t2,e2,f⟩ | ⟨qs,t2,e2,d⟩
    ·left
     dsimp only;rw [e2,if_neg (show ¬ (81:Int)=0 by decide)];exact ⟨t2,rfl,((w.did.perm (List.Perm.refl _) hp).full f).up (by simp;omega)⟩
    ·right
     dsimp only;rw [e2,if_pos rfl];exact ⟨q::qs,t2,rfl,Laid.step w hp d⟩
theorem Acc.lay {ns:List ND} {old:List (Int×ND)} (h:Acc O nd0 t (old.map Prod.fst++L)) (ho:∀ x∈old,t.nd x.1=some x.2) (hn:∀ n∈ns,n.encE=0/\ND.zero.sameB n=false) :
 (∃ t',t.lay old ns=(81,[],t')/\Full t (old.map Prod.fst++L) ns.length 81)\/∃ qs t',t.lay old ns=(0,qs,t')/\Laid O nd0 t (old.map Prod.fst++L) L ns qs t':=by
 have hp:(old.map Prod.fst++L).Perm ((old.drop ns.length).map Prod.fst++((old.take ns.length).map Prod.fst++L)):=by
  conv=>lhs;rw [<- wb7 ns.length old]
  rw [wc8,wb9];rw [<- wb9,<- wb9];exact List.Perm.append_right _ wg2
 obtain ⟨t1,e1,d1,n1⟩:=Acc.relAll (old:=old.drop ns.length) (h.perm hp);have hfirst:∀ (t:TS) (ns:List ND) (old:List (Int×ND)),t.wrAll old ns=t.wrAll (old.take ns.length) ns:=by
  intro t ns
  induction ns generalizing t with
  | nil=>intro old;rfl
  | cons n ns ih =>
    intro old;have ef:first (old.take (ns.length+1))=first old:=by cases old<;>rfl
    have et:(old.take (ns.length+1)).tail=old.tail.take ns.length:=by cases old<;>simp
    unfold TS.wrAll;rw [wb4,ef,et,ih _ old.tail]
 unfold TS.lay;rw [e1,if_pos rfl,hfirst];dsimp only;have d2:=d1.perm hp.symm (List.Perm.refl _);rcases Acc.wrAll (ns:=ns) (old:=old.take ns.length) (L:=L) d1.acc (by rw [wb8];omega) (fun x hx=>by
  rw [n1];exact ho x (wf0 hx)) hn with ⟨t2,e2,f⟩ | ⟨qs,t2,e2,d⟩
 ·left
  exact ⟨t2,e2,(d2.full f).up (by omega)⟩
 ·right
  refine ⟨qs,t2,e2,(d2.trans d.did).up (by omega),d.len,d.here,fun x hx=>?_⟩;rw [d.else_ x hx,n1]
end
end TS
end
end Go.Proofs.YtfiflinbicbedaaGreat
