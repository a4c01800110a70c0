/-
  A part of the proof. Conditions: none.
-/
import Derived.Lib.LazyBuf
import Derived.Test.YtfiflinbicbedaaGreatZR1

set_option maxRecDepth 20000
set_option maxHeartbeats 12800000
namespace Go.Proofs.YtfiflinbicbedaaGreat
open Go.RowKit
def ZH (g:Nat->Value) (S:Nat->Int) (U T:Nat->Bool) (k:Nat):Value :=
 if k % 4=0 then g (k / 4) else if k % 4=1 then .int .i64 (S (k / 4)) else if k % 4=2 then .bool (U (k / 4)) else .bool (T (k / 4))
def QC {α:Type} (f:Nat->α) (i:Nat) (v:α):Nat->α:=fun j=>if j=i then v else f j
theorem Gf {α:Type} (f:Nat->α) (i:Nat) (v:α):QC f i v i=v:=if_pos rfl
theorem Gg {α:Type} (f:Nat->α) {i j:Nat} (v:α) (h:j≠i):QC f i v j=f j:=if_neg h
section
variable (g:Nat->Value) (S:Nat->Int) (U T:Nat->Bool) (i:Nat)
theorem qT7:ZH g S U T (i*4)=g i:=by
 unfold ZH;rw [if_pos (by omega),show i*4 / 4=i by omega]
theorem zi4:ZH g S U T (i*4+1) = .int .i64 (S i):=by
 unfold ZH;rw [if_neg (by omega),if_pos (by omega),show (i*4+1) / 4=i by omega]
theorem zi3:ZH g S U T (i*4+2) = .bool (U i):=by
 unfold ZH;rw [if_neg (by omega),if_neg (by omega),if_pos (by omega),show (i*4+2) / 4=i by omega]
theorem zi2:ZH g S U T (i*4+3) = .bool (T i):=by
 unfold ZH;rw [if_neg (by omega),if_neg (by omega),if_neg (by omega),show (i*4+3) / 4=i by omega]
theorem qk9 (v:Value) (k:Nat):(if k=i*4 then v else ZH g S U T k)=ZH (QC g i v) S U T k:=by
 by_cases e:k=i*4
 ·rw [if_pos e,e,qT7,Gf]
 ·rw [if_neg e]
  unfold ZH;by_cases h:k % 4=0
  ·rw [if_pos h,if_pos h,Gg _ _ (by omega)]
  ·rw [if_neg h,if_neg h]
theorem NS (v:Int) (k:Nat):(if k=i*4+1 then Value.int .i64 v else ZH g S U T k)=ZH g (QC S i v) U T k:=by
 by_cases e:k=i*4+1
 ·rw [if_pos e,e,zi4,Gf]
 ·rw [if_neg e]
  unfold ZH;by_cases h:k % 4=1
  ·rw [if_neg (by omega),if_pos h,if_neg (by omega),if_pos h,Gg _ _ (by omega)]
  ·rw [if_neg h,if_neg h]
theorem NT (v:Bool) (k:Nat):(if k=i*4+2 then Value.bool v else ZH g S U T k)=ZH g S (QC U i v) T k:=by
 by_cases e:k=i*4+2
 ·rw [if_pos e,e,zi3,Gf]
 ·rw [if_neg e]
  unfold ZH;by_cases h:k % 4=2
  ·rw [if_neg (by omega),if_neg (by omega),if_pos h,if_neg (by omega),if_neg (by omega),if_pos h,Gg _ _ (by omega)]
  ·rw [if_neg h,if_neg h]
theorem NH (v:Bool) (k:Nat):(if k=i*4+3 then Value.bool v else ZH g S U T k)=ZH g S U (QC T i v) k:=by
 by_cases e:k=i*4+3
 ·rw [if_pos e,e,zi2,Gf]
 ·rw [if_neg e]
  unfold ZH;by_cases h:k % 4=3
  ·rw [if_neg (by omega),if_neg (by omega),if_neg (by omega),if_neg (by omega),if_neg (by omega),if_neg (by omega),Gg _ _ (by omega)]
  ·by_cases h0:k % 4=0
   ·rw [if_pos h0,if_pos h0]
   ·by_cases h1:k % 4=1
    ·rw [if_neg h0,if_pos h1,if_neg h0,if_pos h1]
    ·have h2:k % 4=2:=by omega
     rw [if_neg h0,if_neg h1,if_pos h2,if_neg h0,if_neg h1,if_pos h2]
end
def PP.sec (s:PP) (i:Nat):Int:=if s.at_ i = -1 then 0 else s.at_ i
def PP.ful (s:PP) (i:Nat):Bool := !(s.at_ i == -1)
structure Yl (w:World) (F D:Nat->Prop) (pb fb cb rb db m:Nat) (c:CS) (k:PS):Prop where
 str:w.heap[pb]?=some (.cells #[.pointer (some ⟨db,0,none⟩),.slice (some ⟨fb,0,none⟩) m m,.pointer (some ⟨cb,0,none⟩)] 106 (0,0))
 fty:∃ cur,w.heap[fb]?=some (.cells cur 155 (0,0))
 clk:Qw w cb rb c
 cm:c.n=m
 dk:Dk w D db k
 fp:F pb
 ff:F fb
 fc:F cb
 fr:F rb
 fd:∀ k,D k->F k
 dp:¬ D pb
 df:¬ D fb
 dc:¬ D cb
 dr:¬ D rb
 lt:∀ k,F k->k<w.heap.size
def qv1 (w:World) (F D:Nat->Prop) (g:Nat->Value) (m:Nat) (b:Nat->List UInt8):Prop :=
 ∀ i,i<m->Xr w 0 (g i) (b i)/\(b i).length<=1024/\∀ k,(g i).ownBlock=some k->F k/\¬ D k
structure Fit (s:PP):Prop where
 vd:∀ i,i<s.m->s.at_ i = -1->s.d i=false
 rng:∀ i,i<s.m->s.at_ i = -1\/s.k.has (s.at_ i)=true
structure Qk (w:World) (F D:Nat->Prop) (pb fb cb rb db:Nat) (g:Nat->Value) (s:PP):Prop where
 core:Yl w F D pb fb cb rb db s.m s.c s.k
 row:w.rowIs fb 155 (s.m*4) (ZH g s.sec s.ful s.d)
 own:qv1 w F D g s.m s.b
 fit:Fit s
section
variable {w w':World} {F F' D D':Nat->Prop} {pb fb cb rb db m:Nat} {c:CS} {k:PS}
theorem ZC:((106:TypeId)≠155/\(106:TypeId)≠163/\(106:TypeId)≠287) /\
 ((155:TypeId)≠163/\(155:TypeId)≠287) /\
 ((5:TypeId)≠106/\(5:TypeId)≠155/\(5:TypeId)≠163/\(5:TypeId)≠287):=by decide
theorem Xx {w:World} {a b:Nat} {x y:Array Value} {t u:TypeId} {p q:Nat×Nat} (h:w.heap[a]?=some (.cells x t p)) (k:w.heap[b]?=some (.cells y u q)) (ht:t≠u):a≠b:=by
 intro e;rw [e,k] at h;injection h with h
 injection h with _ h
 exact ht h.symm
theorem Yl.ne (h:Yl w F D pb fb cb rb db m c k):(pb≠fb/\pb≠cb/\pb≠rb)/\(fb≠cb/\fb≠rb):=by
 obtain ⟨⟨t1,t2,t3⟩,⟨t4,t5⟩,_⟩:=ZC;obtain ⟨cur,hf⟩:=h.fty;obtain ⟨cr,hr,_⟩:=h.clk.row;exact ⟨⟨Xx h.str hf t1,Xx h.str h.clk.str t2,Xx h.str hr t3⟩,Xx hf h.clk.str t4,Xx hf hr t5⟩
theorem Yl.own_ne (h:Yl w F D pb fb cb rb db m c k) {base:Nat} {v:Value} {l:List UInt8} {q:Nat} (o:Xr w base v l) (e:v.ownBlock=some q):q≠pb/\q≠fb/\q≠cb/\q≠rb:=by
 obtain ⟨_,_,⟨t1,t2,t3,t4⟩⟩:=ZC;obtain ⟨cur,hc⟩:=DF o e;obtain ⟨cur2,hf⟩:=h.fty;obtain ⟨cr,hr,_⟩:=h.clk.row;exact ⟨Xx hc h.str t1,Xx hc hf t2,Xx hc h.clk.str t3,Xx hc hr t4⟩
theorem Yl.c0 (h:Yl w F D pb fb cb rb db m c k):w.cell? ⟨pb,0,none⟩=some (.pointer (some ⟨db,0,none⟩)):=(cell_of_row w pb 0 _ _ _ h.str).trans rfl
theorem Yl.c1 (h:Yl w F D pb fb cb rb db m c k):w.cell? ⟨pb,1,none⟩=some (.slice (some ⟨fb,0,none⟩) m m):=(cell_of_row w pb 1 _ _ _ h.str).trans rfl
theorem Yl.c2 (h:Yl w F D pb fb cb rb db m c k):w.cell? ⟨pb,2,none⟩=some (.pointer (some ⟨cb,0,none⟩)):=(cell_of_row w pb 2 _ _ _ h.str).trans rfl
theorem Yl.m1 (h:Yl w F D pb fb cb rb db m c k):1<=m/\m<=1000:=by
 have h1:=h.clk.n1;have h2:=h.clk.n2;have h3:=h.cm;omega
theorem Yl.same (h:Yl w F D pb fb cb rb db m c k) (e:∀ k,F k->w'.heap[k]?=w.heap[k]?) (hs:w.heap.size<=w'.heap.size):Yl w' F D pb fb cb rb db m c k :=
 {h with
  str:=(e pb h.fp).trans h.str
  fty:=by
   obtain ⟨cur,hf⟩:=h.fty;exact ⟨cur,(e fb h.ff).trans hf⟩
  clk:=h.clk.same (e cb h.fc) (e rb h.fr)
  dk:=by
   obtain ⟨bl,bw,gL,gW,h0⟩:=h.dk;exact ⟨bl,bw,gL,gW,h0.same (fun k hk=>e k (h.fd k hk)) hs⟩
  lt:=fun k hk=>wa3 (h.lt k hk) hs }
theorem Yl.more (h:Yl w F D pb fb cb rb db m c k) (hF:∀ k,F k->F' k) (hl:∀ k,F' k->k<w.heap.size):Yl w F' D pb fb cb rb db m c k :=
 {h with
  fp:=hF _ h.fp
  ff:=hF _ h.ff
  fc:=hF _ h.fc
  fr:=hF _ h.fr
  fd:=fun k hk=>hF k (h.fd k hk)
  lt:=hl }
/-- The frames alone were written. -/
theorem Yl.frame (h:Yl w F D pb fb cb rb db m c k) (hf:∃ cur,w'.heap[fb]?=some (.cells cur 155 (0,0))) (hk:Qj (·=fb) w w'):Yl w' F D pb fb cb rb db m c k:=by
 obtain ⟨⟨n1,n2,n3⟩,n4,n5⟩:=h.ne;exact { h with
  str:=(hk.block _ (h.lt _ h.fp) n1).trans h.str
  fty:=hf
  clk:=h.clk.kept hk (fun e=>n4 e.symm) (fun e=>n5 e.symm)
  dk:=h.dk.kept hk (fun k hD e=>h.df (by rw [<- e];exact hD))
  lt:=fun k hk'=>wa3 (h.lt k hk') hk.size }
theorem Yl.clock (h:Yl w F D pb fb cb rb db m c k) {c':CS} (hn:c'.n=m) (hc:Qw w' cb rb c') (hk:Qj (Two cb rb) w w'):Yl w' F D pb fb cb rb db m c' k:=by
 obtain ⟨⟨n1,n2,n3⟩,n4,n5⟩:=h.ne;exact { h with
  str:=(hk.block _ (h.lt _ h.fp) (by rintro (e | e);exact n2 e;exact n3 e)).trans h.str
  fty:=by
   obtain ⟨cur,hf⟩:=h.fty;exact ⟨cur,(hk.block _ (h.lt _ h.ff) (by rintro (e | e);exact n4 e;exact n5 e)).trans hf⟩
  clk:=hc
  cm:=hn
  dk:=h.dk.kept hk (fun k hD e=>by rcases e with e | e;exact h.dc (by rw [<- e];exact hD);exact h.dr (by rw [<- e];exact hD))
  lt:=fun k hk'=>wa3 (h.lt k hk') hk.size }
theorem Yl.disk (h:Yl w F D pb fb cb rb db m c k) {k':PS} (hd:Dk w' D' db k') (hN:∀ k,D' k->D k\/w.heap.size<=k) (hk:Qj D w w') :
 Yl w' (fun k=>F k\/w.heap.size<=k/\k<w'.heap.size) D' pb fb cb rb db m c k':=by
 have no:∀ b,F b->¬ D b->¬ D' b:=fun b hF hD h'=>by
  rcases hN b h' with e | e
  ·exact hD e
  ·have:=h.lt b hF
   omega
 exact
  {str:=(hk.block _ (h.lt _ h.fp) h.dp).trans h.str
   fty:=by
    obtain ⟨cur,hf⟩:=h.fty;exact ⟨cur,(hk.block _ (h.lt _ h.ff) h.df).trans hf⟩
   clk:=h.clk.kept hk h.dc h.dr
   cm:=h.cm
   dk:=hd
   fp:=Or.inl h.fp
   ff:=Or.inl h.ff
   fc:=Or.inl h.fc
   fr:=Or.inl h.fr
   fd:=fun b hb=>by
    rcases hN b hb with e | e
    ·exact Or.inl (h.fd b e)
    ·exact Or.inr ⟨e,hd.lt b hb⟩
   dp:=no _ h.fp h.dp
   df:=no _ h.ff h.df
   dc:=no _ h.fc h.dc
   dr:=no _ h.fr h.dr
   lt:=fun b hb=>by
    rcases hb with e | e
    ·exact wa3 (h.lt b e) hk.size
    ·exact e.2 }
end
section
variable {w w' w2:World} {F F' D D':Nat->Prop} {pb fb cb rb db:Nat} {g:Nat->Value} {s s':PP}
theorem qv1.same {m:Nat} {b:Nat->List UInt8} (h:qv1 w F D g m b) (e:∀ i q,i<m->(g i).ownBlock=some q->w'.heap[q]?=w.heap[q]?):qv1 w' F D g m b:=fun i hi=>by
 obtain ⟨h1,h2,h3⟩:=h i hi;exact ⟨Zu h1 (fun q hq=>e i q hi hq),h2,h3⟩
theorem qv1.sets {m:Nat} {b:Nat->List UInt8} (h:qv1 w F D g m b) (hF:∀ k,F k->F' k) (hD:∀ k,F k->¬ D k->¬ D' k):qv1 w F' D' g m b:=fun i hi=>by
 obtain ⟨h1,h2,h3⟩:=h i hi;exact ⟨h1,h2,fun q hq=>⟨hF q (h3 q hq).1,hD q (h3 q hq).1 (h3 q hq).2⟩⟩
theorem Qk.s0 (h:Qk w F D pb fb cb rb db g s) {i:Nat} (hi:i<s.m):w.cell? ⟨fb,i*4,none⟩=some (g i):=by
 rw [h.row.cell (by omega),qT7]
theorem Qk.s1 (h:Qk w F D pb fb cb rb db g s) {i:Nat} (hi:i<s.m):w.cell? ⟨fb,i*4+1,none⟩=some (.int .i64 (s.sec i)):=by
 rw [h.row.cell (by omega),zi4]
theorem Qk.s2 (h:Qk w F D pb fb cb rb db g s) {i:Nat} (hi:i<s.m):w.cell? ⟨fb,i*4+2,none⟩=some (.bool (s.ful i)):=by
 rw [h.row.cell (by omega),zi3]
theorem Qk.s3 (h:Qk w F D pb fb cb rb db g s) {i:Nat} (hi:i<s.m):w.cell? ⟨fb,i*4+3,none⟩=some (.bool (s.d i)):=by
 rw [h.row.cell (by omega),zi2]
theorem Qk.sf (h:Qk w F D pb fb cb rb db g s) (j:Nat):w.frozen? ⟨fb,j,none⟩=false:=h.row.frozen j
theorem Qk.same (h:Qk w F D pb fb cb rb db g s) (e:∀ k,F k->w'.heap[k]?=w.heap[k]?) (hs:w.heap.size<=w'.heap.size):Qk w' F D pb fb cb rb db g s :=
 ⟨h.core.same e hs,h.row.of_block (e fb h.core.ff),h.own.same (fun i q hi hq=>e q ((h.own i hi).2.2 q hq).1),h.fit⟩
theorem Qk.below (h:Qk w F D pb fb cb rb db g s) (hb:Below w.heap.size w w'):Qk w' F D pb fb cb rb db g s:=h.same (fun k hF=>hb.block k (h.core.lt k hF)) hb.size
theorem Qk.drewN (h:Qk w F D pb fb cb rb db g s) (n:Nat):Qk (w.drewN n) F D pb fb cb rb db g s:=h.same (fun _ _=>rfl) (wa2 _)
theorem Qk.kept {G:Nat->Prop} (h:Qk w F D pb fb cb rb db g s) (hk:Qj G w w') (hd:∀ k,F k->¬ G k):Qk w' F D pb fb cb rb db g s :=
 h.same (fun k hF=>hk.block k (h.core.lt k hF) (hd k hF)) hk.size
theorem Qk.clock (h:Qk w F D pb fb cb rb db g s) {c':CS} (hn:c'.n=s.c.n) (hc:Qw w' cb rb c') (hk:Qj (Two cb rb) w w'):Qk w' F D pb fb cb rb db g { s with c:=c' }:=by
 obtain ⟨⟨n1,n2,n3⟩,n4,n5⟩:=h.core.ne;exact ⟨h.core.clock (hn.trans h.core.cm) hc hk,h.row.of_block (hk.block _ (h.core.lt _ h.core.ff) (by rintro (e | e);exact n4 e;exact n5 e)),h.own.same (fun i q hi hq=>by
  obtain ⟨o1,o2,o3⟩:=h.own i hi;obtain ⟨_,_,q3,q4⟩:=h.core.own_ne o1 hq;exact hk.block q (h.core.lt _ (o3 q hq).1) (by rintro (e | e);exact q3 e;exact q4 e)),⟨h.fit.vd,h.fit.rng⟩⟩
theorem Qk.disk (h:Qk w F D pb fb cb rb db g s) {k':PS} (hz:k'.size=s.k.size) (hd:Dk w' D' db k') (hN:∀ k,D' k->D k\/w.heap.size<=k) (hk:Qj D w w') :
 Qk w' (fun k=>F k\/w.heap.size<=k/\k<w'.heap.size) D' pb fb cb rb db g { s with k:=k' }:=by
 refine ⟨h.core.disk hd hN hk,h.row.of_block (hk.block _ (h.core.lt _ h.core.ff) h.core.df),(h.own.same (fun i q hi hq=>by
  obtain ⟨o1,o2,o3⟩:=h.own i hi;exact hk.block q (h.core.lt _ (o3 q hq).1) (o3 q hq).2)).sets (fun _ hF=>Or.inl hF) (fun q hF hD h'=>?_),⟨h.fit.vd,fun i hi=>?_⟩⟩
 ·rcases hN q h' with e | e
  ·exact hD e
  ·have:=h.core.lt q hF
   omega
 ·show s.at_ i = -1\/k'.has _=true
  rw [PS.has_at,hz,<- PS.has_at];exact h.fit.rng i hi
theorem Qk.setD (h:Qk w F D pb fb cb rb db g s) (i:Nat) (v:Bool) (hv:v=true->s.at_ i ≠ -1):Qk (w.setCell ⟨fb,i*4+3,none⟩ (.bool v)) F D pb fb cb rb db g { s with d:=fun j=>if j=i then v else s.d j }:=by
 have hk:Qj (·=fb) w (w.setCell ⟨fb,i*4+3,none⟩ (.bool v)):=Qj.setCell (F:=(·=fb)) w (a:=⟨fb,i*4+3,none⟩) rfl _;have hr:=(h.row.set (i*4+3) (.bool v)).congr (fun k _=>NH g s.sec s.ful s.d i v k);obtain ⟨cur,hc,_⟩:=hr;refine ⟨h.core.frame ⟨cur,hc⟩ hk,(h.row.set (i*4+3) (.bool v)).congr (fun k _=>NH g s.sec s.ful s.d i v k),h.own.same (fun j q hj hq=>?_),⟨fun j hj hat=>?_,h.fit.rng⟩⟩
 ·obtain ⟨o1,o2,o3⟩:=h.own j hj
  exact hk.block q (h.core.lt _ (o3 q hq).1) (h.core.own_ne o1 hq).2.1
 ·show (if j=i then v else s.d j)=false
  split
  ·rename_i e
   cases hv':v with
   | false=>rfl
   | true=>exact absurd (by rw [<- e];exact hat) (hv hv')
  ·exact h.fit.vd j hj hat
/-- A frame comes to hold something. -/
theorem Qk.laid (h:Qk w F D pb fb cb rb db g s) {i:Nat} {n:Int} (hn:s.k.has n=true) {v:Value} {l:List UInt8} (hl:l.length<=1024) (hk:Qj (·=fb) w w') (ho:Xr w' w.heap.size v l)
 (hr:w'.rowIs fb 155 (s.m*4) (ZH (QC g i v) (QC s.sec i n) (QC s.ful i true) s.d)) :
 Qk w' (fun k=>F k\/w.heap.size<=k/\k<w'.heap.size) D pb fb cb rb db (QC g i v) (s.lay i n l (s.d i)):=by
 have hne:n ≠ -1:=by
  have:=(s.k.has_at n).1 hn;omega
 have hc:=hr;obtain ⟨cur,hc,_⟩:=hc;have e1:∀ j,(s.lay i n l (s.d i)).sec j=QC s.sec i n j:=fun j=>by
  unfold PP.sec QC PP.lay;show (if (if j=i then n else s.at_ j) = -1 then (0:Int) else (if j=i then n else s.at_ j))=_
  by_cases e:j=i
  ·rw [if_pos e,if_neg hne,if_pos e]
  ·rw [if_neg e,if_neg e]
 have e2:∀ j,(s.lay i n l (s.d i)).ful j=QC s.ful i true j:=fun j=>by
  unfold PP.ful QC PP.lay;show (!((if j=i then n else s.at_ j) == -1))=_
  by_cases e:j=i
  ·rw [if_pos e,if_pos e]
   simp [hne]
  ·rw [if_neg e,if_neg e]
 have e3:∀ j,(s.lay i n l (s.d i)).d j=s.d j:=fun j=>by
  unfold PP.lay;show (if j=i then s.d i else s.d j)=_
  split
  ·rename_i e
   rw [e]
  ·rfl
 refine ⟨(h.core.frame ⟨cur,hc⟩ hk).more (fun _ hF=>Or.inl hF) (fun b hb=>?_),hr.congr (fun j _=>?_),fun j hj=>?_,⟨fun j hj hat=>?_,fun j hj=>?_⟩⟩
 ·rcases hb with e | e
  ·exact wa3 (h.core.lt b e) hk.size
  ·exact e.2
 ·rw [show (s.lay i n l (s.d i)).sec=QC s.sec i n from funext e1,show (s.lay i n l (s.d i)).ful=QC s.ful i true from funext e2,show (s.lay i n l (s.d i)).d=s.d from funext e3]
 ·by_cases e:j=i
  ·rw [e,Gf]
   show Xr w' 0 v (if i=i then l else s.b i)/\(if i=i then l else s.b i).length<=1024/\_
   rw [if_pos rfl];refine ⟨qi2 ho,hl,fun q hq=>?_⟩;obtain ⟨q1,q2⟩:=ho.lt q hq;refine ⟨Or.inr ⟨q1,q2⟩,fun hD=>?_⟩;have:=h.core.lt q (h.core.fd q hD);omega
  ·rw [Gg _ _ e]
   show Xr w' 0 (g j) (if j=i then l else s.b j)/\(if j=i then l else s.b j).length<=1024/\_
   rw [if_neg e];obtain ⟨o1,o2,o3⟩:=h.own j hj;exact ⟨Zu o1 (fun q hq=>hk.block q (h.core.lt _ (o3 q hq).1) (h.core.own_ne o1 hq).2.1),o2,fun q hq=>⟨Or.inl (o3 q hq).1,(o3 q hq).2⟩⟩
 ·rw [e3]
  have hat':(if j=i then n else s.at_ j) = -1:=hat
  by_cases e:j=i
  ·rw [if_pos e] at hat'
   exact absurd hat' hne
  ·rw [if_neg e] at hat'
   exact h.fit.vd j hj hat'
 ·show (if j=i then n else s.at_ j) = -1\/s.k.has (if j=i then n else s.at_ j)=true
  by_cases e:j=i
  ·rw [if_pos e]
   exact Or.inr hn
  ·rw [if_neg e]
   exact h.fit.rng j hj
/-- A frame is zr8. -/
theorem Qk.void (h:Qk w F D pb fb cb rb db g s) {i:Nat} (hk:Qj (·=fb) w w')
 (hr:w'.rowIs fb 155 (s.m*4) (ZH (QC g i (.slice none 0 0)) (QC s.sec i 0) (QC s.ful i false) (QC s.d i false))) :
 Qk w' F D pb fb cb rb db (QC g i (.slice none 0 0)) (s.lay i (-1) [] false):=by
 have hc:=hr;obtain ⟨cur,hc,_⟩:=hc;have e1:∀ j,(s.lay i (-1) [] false).sec j=QC s.sec i 0 j:=fun j=>by
  unfold PP.sec QC PP.lay;show (if (if j=i then (-1:Int) else s.at_ j) = -1 then (0:Int) else (if j=i then (-1:Int) else s.at_ j))=_
  by_cases e:j=i
  ·rw [if_pos e,if_pos rfl,if_pos e]
  ·rw [if_neg e,if_neg e]
 have e2:∀ j,(s.lay i (-1) [] false).ful j=QC s.ful i false j:=fun j=>by
  unfold PP.ful QC PP.lay;show (!((if j=i then (-1:Int) else s.at_ j) == -1))=_
  by_cases e:j=i
  ·rw [if_pos e,if_pos e]
   rfl
  ·rw [if_neg e,if_neg e]
 refine ⟨h.core.frame ⟨cur,hc⟩ hk,hr.congr (fun j _=>?_),fun j hj=>?_,⟨fun j hj hat=>?_,fun j hj=>?_⟩⟩
 ·rw [show (s.lay i (-1) [] false).sec=QC s.sec i 0 from funext e1,show (s.lay i (-1) [] false).ful=QC s.ful i false from funext e2]
  rfl
 ·show Xr w' 0 _ (if j=i then [] else s.b j)/\(if j=i then [] else s.b j).length<=1024/\_
  by_cases e:j=i
  ·rw [if_pos e,e,Gf]
   exact ⟨Xp _ _,wb3 _,fun q hq=>by cases hq⟩
  ·rw [Gg _ _ e,if_neg e]
   obtain ⟨o1,o2,o3⟩:=h.own j hj;exact ⟨Zu o1 (fun q hq=>hk.block q (h.core.lt _ (o3 q hq).1) (h.core.own_ne o1 hq).2.1),o2,o3⟩
 ·show (if j=i then false else s.d j)=false
  have hat':(if j=i then (-1:Int) else s.at_ j) = -1:=hat
  split
  ·rfl
  ·rename_i e
   rw [if_neg e] at hat';exact h.fit.vd j hj hat'
 ·show (if j=i then (-1:Int) else s.at_ j) = -1\/s.k.has (if j=i then (-1:Int) else s.at_ j)=true
  by_cases e:j=i
  ·rw [if_pos e]
   exact Or.inl rfl
  ·rw [if_neg e]
   exact h.fit.rng j hj
end
def qG9 (w:World) (F:Nat->Prop) (pb fb cb rb db:Nat) (s':PP) (v:Value) (e:Ending) (w':World):Prop :=
 e = .returned v/\∃ F' D' g',Qk w' F' D' pb fb cb rb db g' s'/\Qb w F w' F'
theorem Qb.new {w w':World} {F:Nat->Prop} (h:Qj F w w'):Qb w F w' (fun k=>F k\/w.heap.size<=k/\k<w'.heap.size) :=
 ⟨h,fun _ hk=>by rcases hk with e | e;exact Or.inl e;exact Or.inr e.1⟩
theorem Qb.refl (w:World) (F:Nat->Prop):Qb w F w F:=⟨Qj.refl _ _,fun _ hk=>Or.inl hk⟩
end Go.Proofs.YtfiflinbicbedaaGreat
namespace Go.Proofs.YtfiflinbicbedaaGreat
open Go.RowKit
theorem XQ (w:World) (pb db:Nat) (c0:w.cell? ⟨pb,0,none⟩=some (.pointer (some ⟨db,0,none⟩))) :
 Calls Tryz.prog 45 #[.pointer (some ⟨pb,0,none⟩)] w fun e w'=>e = .returned (.bool true)/\w=w':=by
 go_enter Tryz.func45,Tryz.ntmps45;go_wp2_with fail;go_ret;exact ⟨rfl,rfl⟩
theorem qJ4 (A:Option Addr) (n c R:Nat) (l:List UInt8) (w:World) (hx:Xc w R A l) (e:l.length=n) (hn:n<=1000000) (hz:A=none->n=0/\c=0) :
 Calls Tryz.prog 182 #[.slice A n c] w (XB w.heap.size w l):=by
 have HC:=iQ (Uy A n c R l w hx e hn hz);clear hx e hn hz;go_enter Tryz.func182,Tryz.ntmps182;go_wp2_with fail;refine HC.out.mono ?_;rintro e w1 ⟨v1,rfl,o1,b1⟩;have HO:=iQ o1;have HB:=iQ b1;clear o1 b1;go_wp2_with fail;go_ret;exact ⟨v1,rfl,HO.out,HB.out⟩
def zn9 (w:World) (fb o:Nat) (l:List UInt8) (e:Ending) (w':World):Prop :=
 ∃ v w1,e = .returned (.tuple #[])/\Xr w1 w.heap.size v l/\Below w.heap.size w w1/\w'=w1.setCell ⟨fb,o,none⟩ v
theorem qO0 (fb o:Nat) (A:Option Addr) (n c R:Nat) (l:List UInt8) (u:Value) (w:World) (hx:Xc w R A l) (e:l.length=n) (hn:n<=1000000) (hz:A=none->n=0/\c=0)
 (cc:w.cell? ⟨fb,o,none⟩=some u) (cf:w.frozen? ⟨fb,o,none⟩=false) :
 Calls Tryz.prog 210 #[.pointer (some ⟨fb,o,none⟩),.slice A n c] w (zn9 w fb o l):=by
 have HC:=iQ (Uy A n c R l w hx e hn hz);have lt:fb<w.heap.size:=World.block_lt_of_cell? _ _ cc;clear hx e hn hz;go_enter Tryz.func210,Tryz.ntmps210;go_wp2_with fail;refine HC.out.mono ?_;rintro e w1 ⟨v1,rfl,o1,b1⟩;have d1:=(b1.cell (p:=⟨fb,o,none⟩) lt).trans cc;have d2:=(b1.frozen (p:=⟨fb,o,none⟩) lt).trans cf;obtain ⟨A1,c1,rfl,-,-⟩:=Je o1;have HO:=iQ o1;have HB:=iQ b1;clear o1 b1 cc cf;go_wp2_with fail;go_end0;exact ⟨_,w1,rfl,HO.out,HB.out,rfl⟩
section
variable {F D:Nat->Prop} {pb fb cb rb db:Nat} {g:Nat->Value} {s:PP}
def qy5 (o:Option Nat):Value := .tuple #[.int .i64 ((o.getD 0:Nat):Int),.bool o.isSome]
theorem qF3 {s:PP} {n:Int} {k:Nat} (hf:Fit s) (hk:k<s.m) (hu:s.ful k=true) (hs:s.sec k=n) (hp:∀ j,j<k->¬ (s.ful j=true/\s.sec j=n)):s.find n=some k:=by
 have hat:∀ j,s.ful j=true->s.at_ j ≠ -1/\s.sec j=s.at_ j:=fun j hj=>by
  have h1:s.at_ j ≠ -1:=by
   unfold PP.ful at hj;simpa using hj
  exact ⟨h1,by unfold PP.sec;rw [if_neg h1]⟩
 have h1:=hat k hu;have hn:0<=n:=by
  rcases hf.rng k hk with e | e
  ·exact absurd e h1.1
  ·have:=(s.k.has_at _).1 e
   omega
 unfold PP.find PP.first
 rw [if_neg (by omega),List.find?_range_eq_some];refine ⟨by rw [<- hs,h1.2];simp,wd6.2 hk,fun j hj=>?_⟩;have h2:=hp j hj;by_cases e:s.at_ j=n
 ·refine absurd ⟨?_,?_⟩ h2
  ·unfold PP.ful
   simp [e];omega
  ·unfold PP.sec
   rw [if_neg (by omega),e]
 ·simpa using e
theorem qd4 {s:PP} {n:Int} (hp:∀ j,j<s.m->¬ (s.ful j=true/\s.sec j=n)):s.find n=none:=by
 unfold PP.find PP.first
 split
 ·rfl
 ·rw [List.find?_eq_none]
  intro j hj h;have e:s.at_ j=n:=by simpa using h
  refine hp j (wd6.1 hj) ⟨?_,?_⟩
  ·unfold PP.ful
   simp [e];omega
  ·unfold PP.sec
   rw [if_neg (by omega),e]
theorem DJ (w:World) (n:Int) (h:Qk w F D pb fb cb rb db g s) :
 Calls Tryz.prog 194 #[.pointer (some ⟨pb,0,none⟩),.int .i64 n] w fun e w'=>e = .returned (qy5 (s.find n))/\w=w':=by
 have hm:=h.core.m1.2;have c1:=h.core.c1;have H:=iQ h;clear h;go_enter Tryz.func194,Tryz.ntmps194;go_wp2_with fail;go_loopw [13] (fun i wr=>∃ k:Nat,k<=s.m/\i = .int .i64 k/\Hid (∀ j,j<k->¬ (s.ful j=true/\s.sec j=n))/\w=wr) (fun i _=>s.m - (RowKit.intOf i).toNat)
 case atStart=>exact ⟨0,wb3 _,rfl,iQ (fun j hj=>by omega),rfl⟩
 case round =>
  obtain ⟨k,hk,rfl,hpre,rfl⟩:=hrel;by_cases hlt:k<s.m
  ·have d1:=H.out.s1 hlt
   have d2:=H.out.s2 hlt;by_cases hu:s.ful k=true
   ·rw [hu] at d2
    by_cases hs:s.sec k=n
    ·rw [hs] at d1
     have HE:=iQ (qF3 H.out.fit hlt hu hs hpre.out);clear hu hs;go_wp2_with fail;go_ret2;refine ⟨?_,rfl⟩;rw [HE.out];rfl
    ·have HP:Hid (∀ j,j<k+1->¬ (s.ful j=true/\s.sec j=n)):=fun j hj=>by
      rcases we1 j k with e | e
      ·exact hpre.out j e
      ·obtain rfl:j=k:=by omega
       exact fun h2=>hs h2.2
     have hs':(s.sec k==n)=false:=(by simpa using hs);clear hs hu hpre;go_wp2_with fail;go_roundw;case rel=>exact ⟨k+1,by omega,by go_num,HP,trivial⟩
     case measure=>simp [RowKit.intOf];omega
   ·have hu':s.ful k=false:=by simpa using hu
    rw [hu'] at d2;have HP:Hid (∀ j,j<k+1->¬ (s.ful j=true/\s.sec j=n)):=fun j hj=>by
     rcases we1 j k with e | e
     ·exact hpre.out j e
     ·obtain rfl:j=k:=by omega
      exact fun h2=>hu h2.1
    clear hu hu' hpre;go_wp2_with fail;go_roundw;case rel=>exact ⟨k+1,by omega,by go_num,HP,trivial⟩
    case measure=>simp [RowKit.intOf];omega
  ·obtain rfl:k=s.m:=by omega
   have HE:=iQ (qd4 hpre.out);clear hpre;go_wp2_with fail;go_ret2;refine ⟨?_,rfl⟩;rw [HE.out];rfl
end
end Go.Proofs.YtfiflinbicbedaaGreat
namespace Go.Proofs.YtfiflinbicbedaaGreat
open Go.RowKit
section
variable {F D:Nat->Prop} {pb fb cb rb db:Nat} {g:Nat->Value} {s:PP}
theorem qY6 (c:CS) (i:Int):(c.useS i).n=c.n:=by
 unfold CS.useS CS.setU;split<;>rfl
theorem Qk.use {w w':World} (h:Qk w F D pb fb cb rb db g s) (i:Nat) {v:Value} {e:Ending} (hg:qn2 w cb rb (s.c.useS i) v e w'):e = .returned v/\Qk w' F D pb fb cb rb db g (s.used i)/\Qb w F w' F:=by
 obtain ⟨he,hc,hk⟩:=hg;exact ⟨he,h.clock (qY6 _ _) hc hk,hk.more (by rintro k (rfl | rfl);exact h.core.fc;exact h.core.fr),fun _ hF=>Or.inl hF⟩
theorem qE8 {w w2 w3:World} (h:Qk w F D pb fb cb rb db g s) {i:Nat} {n:Int} (hn:s.k.has n=true) {v:Value} {l:List UInt8} (hl:l.length<=1024)
 (e2:w2=(w.setCell ⟨fb,i*4+1,none⟩ (.int .i64 n)).setCell ⟨fb,i*4+2,none⟩ (.bool true)) (ho:Xr w3 w2.heap.size v l) (hb:Below w2.heap.size w2 w3) :
 Qk (w3.setCell ⟨fb,i*4,none⟩ v) (fun k=>F k\/w.heap.size<=k/\k<(w3.setCell ⟨fb,i*4,none⟩ v).heap.size) D pb fb cb rb db (QC g i v) (s.lay i n l (s.d i))/\Qj (·=fb) w (w3.setCell ⟨fb,i*4,none⟩ v):=by
 have k2:Qj (·=fb) w w2:=by
  rw [e2];exact (Qj.setCell (F:=(·=fb)) w (a:=⟨fb,i*4+1,none⟩) rfl _).next (Qj.setCell (F:=(·=fb)) _ (a:=⟨fb,i*4+2,none⟩) rfl _)
 have r2:w2.rowIs fb 155 (s.m*4) (ZH g (QC s.sec i n) (QC s.ful i true) s.d):=by
  rw [e2];have r1:=(h.row.set (i*4+1) (.int .i64 n)).congr (fun k _=>NS g s.sec s.ful s.d i n k);exact (r1.set (i*4+2) (.bool true)).congr (fun k _=>NT g _ s.ful s.d i true k)
 have r3:=r2.of_block (hb.block _ r2.lt);have r4:=(r3.set (i*4) v).congr (fun k _=>qk9 g (QC s.sec i n) (QC s.ful i true) s.d i v k);have k3:Qj (·=fb) w (w3.setCell ⟨fb,i*4,none⟩ v):=(k2.next (Qj.below hb _)).next (Qj.setCell (F:=(·=fb)) _ (a:=⟨fb,i*4,none⟩) rfl _)
 have hs:w2.heap.size=w.heap.size:=by rw [e2];simp [World.setCell]
 refine ⟨h.laid hn hl k3 ?_ r4,k3⟩;rw [hs] at ho;refine Zu ho (fun q hq=>Below.heap_setCell _ _ _ _ (fun e=>?_));have h1:=(ho.lt q hq).1;have h2:=h.core.lt fb h.core.ff;have h3:q=fb:=e;omega
theorem NK (w:World) (i:Nat) (hi:i<s.m) (n:Int) (hn:s.k.has n=true) (A:Option Addr) (m c:Nat) (l:List UInt8) (hl:l.length=m) (h24:m<=1024) (hx:Out w F A l) (hz:A=none->m=0/\c=0) (h:Qk w F D pb fb cb rb db g s) :
 Calls Tryz.prog 196 #[.pointer (some ⟨pb,0,none⟩),.int .i64 i,.int .i64 n,.slice A m c] w (qG9 w F pb fb cb rb db ((s.lay i n l (s.d i)).used i) (.tuple #[])):=by
 have hm:=h.core.m1.2;have c1:=h.core.c1;have d1:=h.s1 hi;have d2:=h.s2 hi;have f1:=h.sf (i*4+1);have f2:=h.sf (i*4+2);have H:=iQ h;have HL:=iQ (show l.length<=1024 by omega);have HN:=iQ hn;have HX:Hid (Out ((w.setCell ⟨fb,i*4+1,none⟩ (.int .i64 n)).setCell ⟨fb,i*4+2,none⟩ (.bool true)) F A l) :=
  hx.kept ((Qj.setCell (F:=F) w (a:=⟨fb,i*4+1,none⟩) h.core.ff _).next (Qj.setCell (F:=F) _ (a:=⟨fb,i*4+2,none⟩) h.core.ff _))
 have HI:=iQ hi;have HE:=iQ hl;have HZ:=iQ hz;clear h hn hx hl hz;go_enter Tryz.func196,Tryz.ntmps196;go_wp2_with fail;have HR:Hid (((w.setCell ⟨fb,i*4+1,none⟩ (.int .i64 n)).setCell ⟨fb,i*4+2,none⟩ (.bool true)).rowIs fb 155 (s.m*4) (ZH g (QC s.sec i n) (QC s.ful i true) s.d)) :=
  ((((H.out.row.set (i*4+1) (.int .i64 n)).congr (fun k _=>NS g s.sec s.ful s.d i n k)).set (i*4+2) (.bool true)).congr (fun k _=>NT g _ s.ful s.d i true k))
 refine (qO0 fb (i*4) A m c _ l (g i) _ HX.out.bys HE.out (by omega) HZ.out ((HR.out.cell (by have:=HI.out;omega)).trans (by rw [qT7])) (HR.out.frozen _)).mono ?_;rintro e w4 ⟨v,w3,rfl,ho,hb,rfl⟩;obtain ⟨p4,k4⟩:=qE8 H.out HN.out HL.out rfl ho hb;have c2:=p4.core.c2;have P4:=iQ p4;have K4:=iQ k4;clear p4 k4 ho hb c1 d1 d2 f1 f2 HR HX;go_wp2_with fail;refine (qw0 _ (i:Int) P4.out.core.clk).mono ?_;rintro e w5 hu;obtain ⟨rfl,p5,m5⟩:=P4.out.use i hu;have P5:=iQ p5;have M5:=iQ m5;clear p5 m5 hu c2;go_wp2_with fail;go_end0;exact ⟨rfl,_,D,_,P5.out,(Qb.new (K4.out.more (by rintro k rfl;exact H.out.core.ff))).trans M5.out⟩
end
end Go.Proofs.YtfiflinbicbedaaGreat
namespace Go.Proofs.YtfiflinbicbedaaGreat
open Go.RowKit
def Yw (c:CS) (k:Nat) (sec:Int) (ok:Bool):Prop :=
 (∀ d,d<k->c.p (c.at_ d)≠0\/c.u (c.at_ d)=true) /\
 ((ok=false/\∀ d,d<k->c.p (c.at_ d)≠0)\/(ok=true/\∃ d0,d0<k/\c.p (c.at_ d0)=0/\(∀ d,d<d0->c.p (c.at_ d)≠0)/\sec=(c.at_ d0:Nat)))
theorem Yw.pinned {c:CS} {k:Nat} {sec:Int} {ok:Bool} (h:Yw c k sec ok) (hp:c.p (c.at_ k)≠0):Yw c (k+1) sec ok:=by
 refine ⟨fun d hd=>?_,?_⟩
 ·rcases we1 d k with e | e
  ·exact h.1 d e
  ·obtain rfl:d=k:=by omega
   exact Or.inl hp
 ·rcases h.2 with ⟨h1,h2⟩ | ⟨h1,d0,h2,h3⟩
  ·refine Or.inl ⟨h1,fun d hd=>?_⟩
   rcases we1 d k with e | e
   ·exact h2 d e
   ·obtain rfl:d=k:=by omega
    exact hp
  ·exact Or.inr ⟨h1,d0,by omega,h3⟩
theorem Yw.used {c:CS} {k:Nat} {sec:Int} (h:Yw c k sec true) (hu:c.u (c.at_ k)=true):Yw c (k+1) sec true:=by
 refine ⟨fun d hd=>?_,?_⟩
 ·rcases we1 d k with e | e
  ·exact h.1 d e
  ·obtain rfl:d=k:=by omega
   exact Or.inr hu
 ·rcases h.2 with ⟨h1,h2⟩ | ⟨h1,d0,h2,h3⟩
  ·cases h1
  ·exact Or.inr ⟨h1,d0,by omega,h3⟩
theorem Yw.first {c:CS} {k:Nat} {sec:Int} (h:Yw c k sec false) (hp:c.p (c.at_ k)=0) (hu:c.u (c.at_ k)=true):Yw c (k+1) ((c.at_ k:Nat):Int) true:=by
 refine ⟨fun d hd=>?_,?_⟩
 ·rcases we1 d k with e | e
  ·exact h.1 d e
  ·obtain rfl:d=k:=by omega
   exact Or.inr hu
 ·rcases h.2 with ⟨h1,h2⟩ | ⟨h1,_⟩
  ·exact Or.inr ⟨rfl,k,by omega,hp,h2,rfl⟩
  ·cases h1
def zg7 (w:World) (c:CS) (e:Ending) (w':World):Prop :=
 ∃ (i:Int) (b:Bool),e = .returned (.tuple #[.int .i64 i,.bool b])/\b=c.free/\(b=true->i=c.vicI)/\Below w.heap.size w w'
theorem Yw.fresh {c:CS} {k:Nat} {sec:Int} {ok:Bool} (h:Yw c k sec ok) (hh:c.h<c.n) (hk:k<c.n) (hp:c.p (c.at_ k)=0) (hu:c.u (c.at_ k)=false):true=c.free/\(true=true->((c.at_ k:Nat):Int)=c.vicI) :=
 ⟨(CS.free_at hh hk hp).symm,fun _=>(CS.vic_first hh hk h.1 hp hu).symm⟩
theorem Yw.done {c:CS} {sec:Int} {ok:Bool} (h:Yw c c.n sec ok) (hh:c.h<c.n):ok=c.free/\(ok=true->sec=c.vicI):=by
 rcases h.2 with ⟨h1,h2⟩ | ⟨h1,d0,h2,h3,h4,h5⟩
 ·subst h1
  exact ⟨(CS.not_free hh h2).symm,fun e=>by cases e⟩
 ·subst h1
  exact ⟨(CS.free_at hh h2 h3).symm,fun _=>h5.trans (CS.vic_second hh h2 h.1 h4 h3).symm⟩
section
variable {F D:Nat->Prop} {pb fb cb rb db:Nat} {g:Nat->Value} {s:PP}
theorem qZ0 {c:CS} (hh:c.h<c.n) {k:Nat} (hk:k<c.n):Int.tmod ((c.h:Int)+(k:Int)) (c.n:Int)=((c.at_ k:Nat):Int):=by
 rw [CS.at_mod hh hk,<- Int.natCast_add,Int.ofNat_tmod]
theorem qP4 (w:World) (h:Qk w F D pb fb cb rb db g s) :
 Calls Tryz.prog 208 #[.pointer (some ⟨pb,0,none⟩)] w (zg7 w s.c):=by
 have hm:=h.core.m1;have hcm:=h.core.cm;have c2:=h.core.c2;have UC:=iQ (h.core.lt _ h.core.fp);have HC:=iQ (h.drewN 1).core.clk;have HP:=iQ h.core;have hh:=h.core.clk.hn;clear h;go_enter Tryz.func208,Tryz.ntmps208;go_wp2_with fail;have K0:w.drew.cell? ⟨pb,2,none⟩=some (.pointer (some ⟨cb,0,none⟩)):=c2;go_region_held3 (fun w'=>w'.cell? ⟨pb,2,none⟩=some (.pointer (some ⟨cb,0,none⟩)))
  (first | exact K2 | exact K1 | exact K0)
  (first
    | (go_at_call 215;refine (qO1 w.drew HC.out).mono ?_;rintro e w1 ⟨rfl,hi1,hb1⟩;have K1:w1.cell? ⟨pb,2,none⟩=some (.pointer (some ⟨cb,0,none⟩)):=(hb1.cell UC.out).trans K0)
    | (go_at_call 216;refine (qI1 w1 (HC.out.below hb1)).mono ?_;rintro e w2 ⟨rfl,hu2,hb2⟩;have K2:w2.cell? ⟨pb,2,none⟩=some (.pointer (some ⟨cb,0,none⟩)):=(hb2.cell (wa3 UC.out hb1.size)).trans K1)
    | (go_at_call 217;refine (qS7 w2 ((HC.out.below hb1).below hb2)).mono ?_;rintro e w3 ⟨rfl,rfl⟩))
 have HB:Hid (Below w.heap.size w w2):=by
  have b1:Below w.heap.size w w1:=qI8 hb1;exact b1.trans (hb2.mono b1.size)
 have c1:w2.cell? ⟨pb,1,none⟩=some (.slice (some ⟨fb,0,none⟩) s.m s.m):=(HB.out.cell UC.out).trans HP.out.c1;have hi2:=hi1.below hb2;have HH:=iQ hh;have HI:=iQ hi2;have HU:=iQ hu2;have HCM:=iQ hcm;have hcn:s.c.h<s.m:=by omega
 clear hi1 hu2 hb1 hb2 hi2 K0 K1 K2 hh c2 hcm HC;go_wp2_with fail;go_loopw [7,8,31] (fun a o i wr=>∃ (k:Nat) (sec:Int) (ok:Bool),k<=s.m/\i = .int .i64 k/\a = .int .i64 sec/\o = .bool ok/\Hid (Yw s.c k sec ok)/\w2=wr) (fun _ _ i _=>s.m - (RowKit.intOf i).toNat)
 case atStart=>exact ⟨0,0,false,wb3 _,rfl,rfl,rfl,iQ ⟨fun d hd=>absurd hd (by omega),Or.inl ⟨rfl,fun d hd=>absurd hd (by omega)⟩⟩,rfl⟩
 case round =>
  obtain ⟨k,sec,ok,hk,rfl,rfl,rfl,hr,rfl⟩:=hrel;by_cases hlt:k<s.m
  ·have hkc:k<s.c.n:=by rw [HCM.out];exact hlt
   have HK:=iQ hkc;have ht:=qZ0 HH.out hkc;rw [HCM.out] at ht;have hj:=CS.at_lt HH.out hkc;obtain ⟨b1,o1,z1,e1,hz1,p1⟩:=HI.out.at_ (k:=s.c.at_ k) (by rw [DX];exact hj);obtain ⟨b2,o2,z2,e2,hz2,p2⟩:=HU.out.at_ (k:=s.c.at_ k) (by rw [FH];exact hj);rw [qh9 s.c hj] at hz1;rw [qf1 s.c hj] at hz2;obtain rfl:=wa0 hz1;obtain rfl:=wa0 hz2;injection e1 with e1
   injection e2 with e2
   injection e1 with e1 e1'
   injection e2 with e2 e2'
   subst e1 e1' e2 e2';rw [we6] at p1 p2;rw [HCM.out] at hj;generalize hJ:s.c.at_ k=j at *;have HJ:=iQ hJ;have q1:w2.cell? ⟨w.heap.size,j,none⟩=some (.int .i64 (s.c.p j:Int)):=p1;clear p1;by_cases hp:s.c.p j=0
   ·rw [hp] at q1
    cases hu:s.c.u j with
    | false =>
      rw [hu] at p2;have HE:=iQ (hr.out.fresh HH.out hkc (by rw [hJ];exact hp) (by rw [hJ];exact hu));clear hp hu hkc hJ hz1 hz2;go_wp2_with fail;go_ret2;exact ⟨_,true,rfl,HE.out.1,fun _=>by rw [<- HJ.out];exact HE.out.2 trivial,HB.out⟩
    | true =>
      rw [hu] at p2;cases ok with
      | true =>
        have HN:=iQ (hr.out.used (by rw [hJ];exact hu));clear hp hu hkc hJ hr hz1 hz2;go_wp2_with fail;go_roundw;case rel=>exact ⟨k+1,sec,true,by omega,by go_num,rfl,rfl,HN,trivial⟩
        case measure=>simp [RowKit.intOf];omega
      | false =>
        have HN:=iQ (hr.out.first (by rw [hJ];exact hp) (by rw [hJ];exact hu))
        rw [hJ] at HN;clear hp hu hkc hJ hr hz1 hz2;go_wp2_with fail;go_roundw;case rel=>exact ⟨k+1,_,true,by omega,by go_num,rfl,rfl,HN,trivial⟩
        case measure=>simp [RowKit.intOf];omega
   ·have HN:=iQ (hr.out.pinned (by rw [hJ];exact hp))
    have hp':(0:Int)<(s.c.p j:Int):=(by omega);clear hp hkc hJ hr hz1 hz2 p2;go_wp2_with fail;go_roundw;case rel=>exact ⟨k+1,sec,ok,by omega,by go_num,rfl,rfl,HN,trivial⟩
    case measure=>simp [RowKit.intOf];omega
  ·obtain rfl:k=s.m:=by omega
   have HN:=iQ ((show Yw s.c s.c.n sec ok by rw [HCM.out];exact hr.out).done HH.out);clear hr;go_wp2_with fail;go_ret2;exact ⟨_,ok,rfl,HN.out.1,HN.out.2,HB.out⟩
end
end Go.Proofs.YtfiflinbicbedaaGreat
namespace Go.Proofs.YtfiflinbicbedaaGreat
open Go.RowKit
theorem PQ {w:World} {D:Nat->Prop} {base:Nat} {A:Option Addr} {n c:Nat} {l:List UInt8} (o:Xr w base (.slice A n c) l) (h:∀ q,(Value.slice A n c).ownBlock=some q->¬ D q):Out w D A l:=by
 rcases GK o with hb | ⟨b,off,e,_,hc⟩
 ·exact Or.inl hb
 ·exact Or.inr ⟨b,off,e,h b (by rw [e];rfl),hc⟩
theorem Qj.cellAt {F:Nat->Prop} {w w':World} (h:Qj F w w') {b j:Nat} (hb:b<w.heap.size) (hn:¬ F b):w'.cell? ⟨b,j,none⟩=w.cell? ⟨b,j,none⟩:=World.cell?_of_block (w:=w) (h.block b hb hn)
theorem Qb.setCell (w:World) {F:Nat->Prop} {a:Addr} (ha:F a.block) (v:Value):Qb w F (w.setCell a v) F:=⟨Qj.setCell w ha v,fun _ h=>Or.inl h⟩
def PP.wA (s:PP) (i:Nat):Int×PP :=
 if s.d i then (if s.k.writeE (s.at_ i) (s.b i)=0 then (0,s.washed i) else (s.k.writeE (s.at_ i) (s.b i),s.wrote i)) else (0,s)
section
variable {F D:Nat->Prop} {pb fb cb rb db:Nat} {g:Nat->Value} {s:PP}
theorem Fit.sec {s:PP} (_:Fit s) {i:Nat} (hne:s.at_ i ≠ -1):s.sec i=s.at_ i:=by
 unfold PP.sec;rw [if_neg hne]
theorem Fit.has {s:PP} (h:Fit s) {i:Nat} (hi:i<s.m) (hne:s.at_ i ≠ -1):s.k.has (s.at_ i)=true:=(h.rng i hi).resolve_left hne
theorem Qk.wrote {w w':World} (h:Qk w F D pb fb cb rb db g s) (i:Nat) {v:Value} {e:Ending} (hg:Goes w D db (s.k.written (s.at_ i) (s.b i)) v e w') :
 e = .returned v/\∃ F' D',Qk w' F' D' pb fb cb rb db g (s.wrote i)/\Qb w F w' F'/\Qj D w w':=by
 obtain ⟨he,D',hd,hN,hk⟩:=hg;exact ⟨he,_,D',h.disk (PS.written_size _ _ _) hd hN hk,Qb.new (hk.more (fun k hD=>h.core.fd k hD)),hk⟩
theorem qq3 (w:World) (i:Nat) (hi:i<s.m) (hne:s.at_ i ≠ -1) (h:Qk w F D pb fb cb rb db g s) :
 Calls Tryz.prog 47 #[.pointer (some ⟨pb,0,none⟩),.pointer (some ⟨fb,i*4,none⟩)] w (qG9 w F pb fb cb rb db (s.wA i).2 (.int .i64 (s.wA i).1)):=by
 have hm:=h.core.m1.2;have d3:=h.s3 hi;cases hd:s.d i with
 | false =>
   have e0:s.wA i=(0,s):=by unfold PP.wA;rw [if_neg (by rw [hd];decide)]
   rw [e0];rw [hd] at d3;have H:=iQ h;clear h hd e0 hne;go_enter Tryz.func47,Tryz.ntmps47;go_wp2_with fail;go_ret;exact ⟨rfl,F,D,g,H.out,Qb.refl _ _⟩
 | true =>
   rw [hd] at d3;have c0:=h.core.c0;have d1:=h.s1 hi;rw [h.fit.sec hne] at d1;obtain ⟨o1,o2,o3⟩:=h.own i hi;obtain ⟨A,c,hv,hc,hz⟩:=Je o1;have d0:=h.s0 hi;rw [hv] at d0 o1 o3;have hx:=PQ o1 (fun q hq=>(o3 q hq).2);have hh:=(s.k.has_at _).1 (h.fit.has hi hne);have h4:=h.core.dk.s4;have HX:=iQ hx;have HZ:=iQ hz;have H:=iQ h;have HI:=iQ hi;have HD:=iQ hd;have MF:=iQ hne;generalize hA:s.at_ i=n at *;generalize hB:s.b i=l at *;have UC:=iQ (show pb<w.drew.heap.size/\fb<w.drew.heap.size from ⟨h.core.lt _ h.core.fp,h.core.lt _ h.core.ff⟩);obtain ⟨M,hM⟩:∃ M,l.length=M:=⟨_,rfl⟩;rw [hM] at d0 hc o2;rw [hM] at HZ;have HM:=iQ hM;have EA:=iQ hA;have EB:=iQ hB;clear h hx hd hz o1 o3 hv hA hB hne hM;have HW:Hid (Calls Tryz.prog 86 #[.pointer (some ⟨db,0,none⟩),.int .i64 n,.slice A M c] w.drew (Goes w.drew D db (s.k.written n l) (.int .i64 (s.k.writeE n l)))) :=
    qz9 w.drew n (by omega) (by omega) A M c l HM.out HX.out HZ.out (H.out.drewN 1).core.dk
   go_enter Tryz.func47,Tryz.ntmps47;go_wp2_with fail;have K0:w.drew.cell? ⟨pb,0,none⟩=some (.pointer (some ⟨db,0,none⟩))/\w.drew.cell? ⟨fb,i*4+1,none⟩=some (.int .i64 n)/\w.drew.cell? ⟨fb,i*4,none⟩=some (.slice A M c):=⟨c0,d1,d0⟩;go_region_held3 (fun w'=>w'.cell? ⟨pb,0,none⟩=some (.pointer (some ⟨db,0,none⟩))/\w'.cell? ⟨fb,i*4+1,none⟩=some (.int .i64 n)/\w'.cell? ⟨fb,i*4,none⟩=some (.slice A M c))
    (first | exact K1 | exact K0)
    (first
      | (go_at_call 86;refine HW.out.mono ?_;intro e w2 hg2;obtain ⟨rfl,D2,hd2,hN2,hk2⟩:=hg2;have K1:=And.intro ((hk2.cellAt UC.out.1 H.out.core.dp).trans K0.1) (And.intro ((hk2.cellAt UC.out.2 H.out.core.df).trans K0.2.1) ((hk2.cellAt UC.out.2 H.out.core.df).trans K0.2.2))))
   have hp2:∃ F' D',Qk w2 F' D' pb fb cb rb db g (s.wrote i)/\Qb w F w2 F':=by
    obtain ⟨-,F',D',p2,m2,-⟩:=(H.out.drewN 1).wrote i (v := .int .i64 (s.k.writeE n l)) (e := .returned (.int .i64 (s.k.writeE n l))) (w':=w2) ⟨rfl,D2,by rw [EA.out,EB.out];exact hd2,hN2,hk2⟩;exact ⟨F',D',p2,⟨m2.kept.os,m2.kept.tape,m2.kept.output,m2.kept.size,m2.kept.block⟩,m2.news⟩
   obtain ⟨F',D',p2,m2⟩:=hp2;have P2:=iQ p2;have M2:=iQ m2;have eW:s.wA i=if s.k.writeE n l=0 then (0,s.washed i) else (s.k.writeE n l,s.wrote i):=by
    unfold PP.wA;rw [if_pos HD.out,EA.out,EB.out]
   have EW:=iQ eW;have f3:=p2.sf (i*4+3);have d3':=p2.s3 (i:=i) HI.out;clear p2 m2 hd2 hN2 hk2 K0 K1 c0 d0 d1 d3 eW HW HX;by_cases hE:s.k.writeE n l=0
   ·rw [hE]
    have EE:Hid (s.wA i=(0,s.washed i)):=EW.out.trans (if_pos hE);clear hE EW;go_wp2_with fail;go_ret;rw [EE.out];exact ⟨rfl,F',D',g,P2.out.setD i false (fun e=>by cases e),M2.out.trans (Qb.setCell _ (a:=⟨fb,i*4+3,none⟩) P2.out.core.ff _)⟩
   ·have EE:Hid (s.wA i=(s.k.writeE n l,s.wrote i)):=EW.out.trans (if_neg hE)
    have hb:(s.k.writeE n l != 0)=true:=by rw [bne_iff_ne];exact hE
    clear hE EW;go_wp2_with fail;go_ret;rw [EE.out];exact ⟨rfl,F',D',g,P2.out,M2.out⟩
end
end Go.Proofs.YtfiflinbicbedaaGreat
namespace Go.Proofs.YtfiflinbicbedaaGreat
open Go.RowKit
def PP.roomV (r:Option Nat×Int×PP):Value := .tuple #[.int .i64 ((r.1.getD 0:Nat):Int),.int .i64 r.2.1]
theorem zc4 (s:PP) (i:Nat):s.ful i=true ↔ s.at_ i ≠ -1:=by
 unfold PP.ful;simp
theorem qT3 {s:PP} {k:Nat} (hk:k<s.m) (hu:s.ful k=false) (hp:∀ j,j<k->s.ful j=true):s.gap=some k:=by
 unfold PP.gap PP.first
 rw [List.find?_range_eq_some];refine ⟨?_,wd6.2 hk,fun j hj=>?_⟩
 ·unfold PP.ful at hu
  simpa using hu
 ·have:=hp j hj
  unfold PP.ful at this;exact this
theorem qk8 {s:PP} (hp:∀ j,j<s.m->s.ful j=true):s.gap=none:=by
 unfold PP.gap PP.first
 rw [List.find?_eq_none];intro j hj h;have:=(zc4 s j).1 (hp j (wd6.1 hj));exact this (by simpa using h)
section
variable {F D:Nat->Prop} {pb fb cb rb db:Nat} {g:Nat->Value} {s:PP}
theorem BN:(Tryz.prog.info? 155).map (fun i=>(i.zero,i.size,i.bytes))=some (some (.agg #[.slice none 0 0,.int .i64 0,.bool false,.bool false]),4,40):=by kernel_rfl
def Zy:Array Value:=#[.slice none 0 0,.int .i64 0,.bool false,.bool false]
theorem Qk.voided {w:World} (h:Qk w F D pb fb cb rb db g s) (i:Nat) :
 ∃ g',Qk (w.setCells fb (i*4) Zy.toList) F D pb fb cb rb db g' (s.lay i (-1) [] false)/\Qj (·=fb) w (w.setCells fb (i*4) Zy.toList):=by
 have k1:∀ (w:World) (j:Nat) (v:Value),Qj (·=fb) w (w.setCell ⟨fb,j,none⟩ v):=fun w j v=>Qj.setCell (F:=(·=fb)) w (a:=⟨fb,j,none⟩) rfl _;have r0:=(h.row.set (i*4) (.slice none 0 0)).congr (fun k _=>qk9 g s.sec s.ful s.d i (.slice none 0 0) k);have r1:=(r0.set (i*4+1) (.int .i64 0)).congr (fun k _=>NS _ s.sec s.ful s.d i 0 k);have r2:=(r1.set (i*4+2) (.bool false)).congr (fun k _=>NT _ _ s.ful s.d i false k);have r3:=(r2.set (i*4+3) (.bool false)).congr (fun k _=>NH _ _ _ s.d i false k);have hk:Qj (·=fb) w (w.setCells fb (i*4) Zy.toList):=(((k1 _ _ _).next (k1 _ _ _)).next (k1 _ _ _)).next (k1 _ _ _)
 exact ⟨_,h.void hk r3,hk⟩
theorem qC5 {c:CS} (hf:c.free=false):c.vicI=0/\c.vicE=60/\c.vicS=c:=by
 have hw:c.way=none:=by
  unfold CS.way;rw [if_neg (by rw [hf];decide)]
 unfold CS.vicI CS.vicE CS.vicS;rw [hw];exact ⟨rfl,rfl,rfl⟩
theorem FC {s t:PP} {v:Nat} (hg:s.gap=none) (hf:s.c.free=true) (hv:s.c.vicI=v) (ht:(s.wA v).1=0) (e:t=(s.wA v).2):s.room=(some v,0,PP.lay { t with c:=t.c.vicS } v (-1) [] false)/\t.c=s.c/\t.m=s.m:=by
 subst e;unfold PP.room;rw [hg];simp only [hf,if_true,hv,Int.toNat_natCast];unfold PP.wA at ht ⊢;cases hd:s.d v with
 | false =>
   simp only [Bool.false_eq_true,if_false];exact ⟨trivial,trivial,trivial⟩
 | true =>
   rw [hd] at ht;simp only [if_true] at ht ⊢;by_cases hE:s.k.writeE (s.at_ v) (s.b v)=0
   ·simp only [if_pos hE]
    refine ⟨?_,rfl,rfl⟩;refine congrArg (fun x=>(some v,(0:Int),x)) ?_;unfold PP.lay PP.washed PP.wrote;congr 1;funext j;show (if j=v then false else s.d j)=(if j=v then false else if j=v then false else s.d j)
    by_cases ej:j=v
    ·rw [if_pos ej,if_pos ej]
    ·rw [if_neg ej,if_neg ej]
   ·simp only [if_neg hE] at ht
    exact absurd ht hE
theorem qg7 {s:PP} {v:Nat} (hg:s.gap=none) (hf:s.c.free=true) (hv:s.c.vicI=v) (ht:(s.wA v).1≠0):s.room=(none,(s.wA v).1,(s.wA v).2):=by
 unfold PP.room;rw [hg];simp only [hf,if_true,hv,Int.toNat_natCast];unfold PP.wA at ht ⊢;cases hd:s.d v with
 | false =>
   rw [hd] at ht;exact absurd rfl ht
 | true =>
   rw [hd] at ht;simp only [if_true] at ht ⊢;by_cases hE:s.k.writeE (s.at_ v) (s.b v)=0
   ·rw [if_pos hE] at ht
    exact absurd rfl ht
   ·rw [if_neg hE,if_neg hE]
theorem RY {s:PP} (hg:s.gap=none) (hf:s.c.free=false):s.room=(none,60,s):=by
 unfold PP.room;rw [hg];simp only [hf];rfl
theorem qg8 (w:World) (h:Qk w F D pb fb cb rb db g s) :
 Calls Tryz.prog 195 #[.pointer (some ⟨pb,0,none⟩)] w (qG9 w F pb fb cb rb db s.room.2.2 (PP.roomV s.room)):=by
 have hm:=h.core.m1.2;have c1:=h.core.c1;have H:=iQ h;clear h;go_enter Tryz.func195,Tryz.ntmps195;go_wp2_with fail;go_loopw [15] (fun i wr=>∃ k:Nat,k<=s.m/\i = .int .i64 k/\Hid (∀ j,j<k->s.ful j=true)/\w=wr) (fun i _=>s.m - (RowKit.intOf i).toNat)
 case atStart=>exact ⟨0,wb3 _,rfl,iQ (fun j hj=>by omega),rfl⟩
 case round =>
  obtain ⟨k,hk,rfl,hpre,rfl⟩:=hrel;by_cases hlt:k<s.m
  ·have d2:=H.out.s2 hlt
   cases hu:s.ful k with
   | true =>
     rw [hu] at d2;have HP:Hid (∀ j,j<k+1->s.ful j=true):=fun j hj=>by
      rcases we1 j k with e | e
      ·exact hpre.out j e
      ·obtain rfl:j=k:=by omega
       exact hu
     clear hu hpre;go_wp2_with fail;go_roundw;case rel=>exact ⟨k+1,by omega,by go_num,HP,trivial⟩
     case measure=>simp [RowKit.intOf];omega
   | false =>
     rw [hu] at d2;have HE:Hid (s.room=(some k,0,s)):=iQ (by unfold PP.room;rw [qT3 hlt hu hpre.out]);clear hu hpre;go_wp2_with fail;go_ret2;rw [HE.out];exact ⟨rfl,F,D,g,H.out,Qb.refl _ _⟩
  ·obtain rfl:k=s.m:=by omega
   have HG:=iQ (qk8 hpre.out);clear hpre;go_wp2_with fail;refine (qP4 _ H.out).mono ?_;rintro e w1 ⟨i,b,rfl,hb,hi,hbw⟩;have p1:=H.out.below hbw;have P1:=iQ p1;have B1:=iQ hbw;have d1:=p1.core.c1;have d2:=p1.core.c2;clear c1 p1 hbw;cases hf:s.c.free with
   | false =>
     rw [hf] at hb;subst hb;obtain ⟨v1,v2,v3⟩:=qC5 hf;have HV:=iQ (TM w1 P1.out.core.clk);rw [v1,v2,v3] at HV;have HE:=iQ (RY HG.out hf);clear v1 v2 v3 hf hi;go_wp2_with fail;refine HV.out.mono ?_;rintro e w2 ⟨rfl,hc2,hk2⟩;have P2:=iQ (P1.out.clock rfl hc2 hk2);have K2:=iQ hk2;clear hc2 hk2 d1 d2;go_wp2_with fail;go_ret2;rw [HE.out];exact ⟨rfl,F,D,g,P2.out,(Qb.ob B1.out).trans ⟨K2.out.more (by rintro k (rfl | rfl);exact P1.out.core.fc;exact P1.out.core.fr),fun _ hk=>Or.inl hk⟩⟩
   | true =>
     rw [hf] at hb;subst hb;obtain ⟨r,hw,_,gr⟩:=CS.way_of P1.out.core.clk.hn hf;obtain ⟨v1,v2,v3⟩:=CS.vic_of hw;obtain rfl:=hi rfl;have hvm:r.1<s.m:=by
      have:=gr.lt;rw [P1.out.core.cm] at this;exact this
     have HV1:=iQ v1;have TJ:=iQ v2;have HF:=iQ hf;have HVM:=iQ hvm;rw [v1];generalize hR:r.1=v at *;have hW:=qq3 w1 v hvm (PP.gap_none HG.out v hvm) P1.out;have HW:=iQ hW;clear hW hf hi v1 v2 v3 gr hw hR;go_wp2_with fail;refine HW.out.mono ?_;rintro e w2 ⟨rfl,F2,D2,g2,p2,m2⟩;have HM2:=iQ m2;clear m2;by_cases hE:(s.wA v).1=0
     ·obtain ⟨r1,r2,r3⟩:=FC HG.out HF.out HV1.out hE rfl
      have HE:=iQ r1;rw [hE];generalize (s.wA v).2=t at *;have HV:=iQ (TM w2 p2.core.clk);rw [r2,HV1.out,TJ.out] at HV;have P2:=iQ p2;have HTC:=iQ r2;have HTM:=iQ r3;have d3:=p2.core.c2;clear p2 r1 r2 r3 hE d1 d2;go_wp2_with fail;refine HV.out.mono ?_;rintro e w3 ⟨rfl,hc3,hk3⟩;rw [<- HTC.out] at hc3;have p3:=P2.out.clock (CS.vicS_n P2.out.core.clk.hn) hc3 hk3;have P3:=iQ p3;have K3:=iQ hk3;have d4:=p3.core.c1;have hvt:v<({ t with c:=t.c.vicS }:PP).m:=by
       show v<t.m;rw [HTM.out];exact HVM.out
      have q0:=p3.s0 hvt;have q1:=p3.s1 hvt;have q2:=p3.s2 hvt;have q3:=p3.s3 hvt;have y0:=p3.sf (v*4);have y1:=p3.sf (v*4+1);have y2:=p3.sf (v*4+2);have y3:=p3.sf (v*4+3);obtain ⟨g4,p4,k4⟩:=p3.voided v;have P4:=iQ p4;have K4:=iQ k4;have d5:w3.cell? ⟨pb,1,none⟩=some (.slice (some ⟨fb,0,none⟩) s.m s.m):=by
       rw [<- HTM.out];exact d4
      clear p3 hc3 hk3 d3 d4 p4 k4 hvt;go_wp2_with fail;go_ret2;rw [HE.out];exact ⟨rfl,F2,D2,g4,P4.out,(((Qb.ob B1.out).trans HM2.out).trans ⟨K3.out.more (by rintro k (rfl | rfl);exact P2.out.core.fc;exact P2.out.core.fr),fun _ hk=>Or.inl hk⟩).trans ⟨K4.out.more (by rintro k rfl;exact P2.out.core.ff),fun _ hk=>Or.inl hk⟩⟩
     ·have HE:=iQ (qg7 HG.out HF.out HV1.out hE)
      have P2:=iQ p2;have hb:((s.wA v).1 != 0)=true:=by rw [bne_iff_ne];exact hE
      generalize (s.wA v).1=E at *;clear p2 hE d1 d2;go_wp2_with fail;go_ret2;rw [HE.out];exact ⟨rfl,F2,D2,g2,P2.out,(Qb.ob B1.out).trans HM2.out⟩
end
end Go.Proofs.YtfiflinbicbedaaGreat
namespace Go.Proofs.YtfiflinbicbedaaGreat
open Go.RowKit
def PP.fetch (s:PP) (n:Int):Option Nat×Int×PP :=
 match s.find n with
 | some i=>(some i,0,s.used i)
 | none =>
   if s.k.readE n=0 then
    match s.room with
    | (some i,_,t)=>(some i,0,(t.lay i n (s.k.readB n) false).used i)
    | (none,e,t)=>(none,e,t)
   else (none,s.k.readE n,s)
def PP.gotA:Option Nat×Int×PP->Int×List UInt8×PP
 | (some i,_,t)=>(0,t.b i,t)
 | (none,e,t)=>(e,[],t)
theorem PP.get_fetch (s:PP) (n:Int):s.get n=PP.gotA (s.fetch n):=by
 unfold PP.get PP.fetch PP.gotA;cases hf:s.find n with
 | some i=>rfl
 | none =>
   by_cases hr:s.k.readE n=0
   ·simp only [if_pos hr]
    rcases hq:s.room with ⟨_ | i,e,t⟩
    ·rfl
    ·show _=(0,(if i=i then s.k.readB n else t.b i),_)
     rw [if_pos rfl]
   ·simp only [if_neg hr]
theorem qA0 (s:PP) (v:Nat):(s.wA v).2.at_=s.at_/\(s.wA v).2.m=s.m/\(s.wA v).2.k.size=s.k.size:=by
 unfold PP.wA;split
 ·split
  ·exact ⟨rfl,rfl,PS.written_size _ _ _⟩
  ·exact ⟨rfl,rfl,PS.written_size _ _ _⟩
 ·exact ⟨rfl,rfl,rfl⟩
theorem ZF {s t:PP} {o:Option Nat} {e:Int} (hh:s.c.h<s.c.n) (hn:s.c.n=s.m) (h:s.room=(o,e,t)) :
 t.m=s.m/\t.k.size=s.k.size/\(∀ i,o=some i->i<s.m/\t.at_ i = -1/\e=0)/\(o=none->e≠0):=by
 cases hg:s.gap with
 | some i =>
   have h1:s.room=(some i,0,s):=by unfold PP.room;rw [hg]
   rw [h1] at h;injection h with h2 h3
   injection h3 with h3 h4
   subst h2 h3 h4;exact ⟨rfl,rfl,fun j hj=>by
    obtain rfl:=wa0 hj;exact ⟨(PP.gap_some hg).1,(PP.gap_some hg).2,rfl⟩,fun e=>by cases e⟩
 | none =>
   cases hf:s.c.free with
   | false =>
     rw [RY hg hf] at h;injection h with h2 h3
     injection h3 with h3 h4
     subst h2 h3 h4;exact ⟨rfl,rfl,fun j hj=>(by cases hj),fun _=>(by omega)⟩
   | true =>
     obtain ⟨r,hw,_,gr⟩:=CS.way_of hh hf;obtain ⟨v1,_,_⟩:=CS.vic_of hw;have hlt:=gr.lt;rw [hn] at hlt;obtain ⟨a1,a2,a3⟩:=qA0 s r.1;by_cases hE:(s.wA r.1).1=0
     ·obtain ⟨r1,r2,r3⟩:=FC hg hf v1 hE rfl
      rw [r1] at h;injection h with h2 h3
      injection h3 with h3 h4
      subst h2 h3 h4;refine ⟨r3,a3,fun j hj=>?_,fun e=>by cases e⟩;obtain rfl:=wa0 hj;exact ⟨hlt,if_pos rfl,rfl⟩
     ·rw [qg7 hg hf v1 hE] at h
      injection h with h2 h3
      injection h3 with h3 h4
      subst h2 h3 h4;exact ⟨a2,a3,fun j hj=>(by cases hj),fun _=>hE⟩
section
variable {F D:Nat->Prop} {pb fb cb rb db:Nat} {g:Nat->Value} {s:PP}
theorem qN1 {k:PS} (h:k.Ok) (n:Int):(k.readB n).length<=1024:=by
 unfold PS.readB;split
 ·simp
 ·split
  ·exact PS.held_le h n
  ·simp
theorem qC4 {k:PS} {n:Int} (h:k.readE n=0):k.has n=true:=by
 unfold PS.readE at h;split at h
 ·cases h
 ·split at h
  ·assumption
  ·cases h
theorem qF4 (w:World) (n:Int) (h1 : -9223372036854775808<=n) (h2:n<=9223372036854775807) (h:Qk w F D pb fb cb rb db g s) :
 Calls Tryz.prog 181 #[.pointer (some ⟨pb,0,none⟩),.int .i64 n] w (qG9 w F pb fb cb rb db (s.fetch n).2.2 (PP.roomV (s.fetch n))):=by
 have c0:=h.core.c0;have c2:=h.core.c2;have H:=iQ h;have HM:=iQ (XQ w pb db c0);have HF:=iQ (DJ w n h);have HR:=iQ (qN0 w n h1 h2 h.core.dk);clear h h1 h2;go_enter Tryz.func181,Tryz.ntmps181;go_wp2_with fail;refine HM.out.mono ?_;rintro e w' ⟨rfl,rfl⟩;clear HM;go_wp2_with fail;refine HF.out.mono ?_;rintro e w' ⟨rfl,rfl⟩;clear HF;cases hf:s.find n with
 | some i =>
   have HE:Hid (s.fetch n=(some i,0,s.used i)):=iQ (by unfold PP.fetch;rw [hf]);clear hf HR;unfold qy5;go_wp2_with fail;refine (qw0 _ (i:Int) H.out.core.clk).mono ?_;rintro e w1 hu;obtain ⟨rfl,p1,m1⟩:=H.out.use i hu;have P1:=iQ p1;have M1:=iQ m1;clear p1 m1 hu c0 c2;go_wp2_with fail;go_ret2;rw [HE.out];exact ⟨rfl,F,D,g,P1.out,M1.out⟩
 | none =>
   unfold qy5;have HFN:=iQ hf;clear hf;go_wp2_with fail;refine HR.out.mono ?_;rintro e w1 ⟨A,c,rfl,ho,hb⟩;have P1:=iQ (H.out.below hb);have HX:Hid (Out w1 F A (s.k.readB n)):=PQ ho (fun q hq hF=>by
    have:=(ho.lt q hq).1;have:=H.out.core.lt q hF;omega)
   obtain ⟨_,_,e1,_,hz⟩:=Je ho;injection e1 with e1 e2 e3
   subst e1 e3;have HZ:=iQ hz;have HB:=iQ hb;have hl:=qN1 H.out.core.dk.ok n;obtain ⟨M,hM⟩:∃ M,(s.k.readB n).length=M:=⟨_,rfl⟩;rw [hM] at hl;rw [hM];rw [hM] at HZ;have HL:=iQ hM;clear hb ho hz e2 hM HR c0 c2;by_cases hr:s.k.readE n=0
   ·have HE:Hid (s.fetch n=match s.room with
     | (some i,_,t)=>(some i,0,(t.lay i n (s.k.readB n) false).used i)
     | (none,e,t)=>(none,e,t)):=iQ (by unfold PP.fetch;rw [HFN.out];simp only [if_pos hr])
    have HH:=iQ (qC4 hr);have UA:=iQ hl;rw [hr];clear hr;go_wp2_with fail;refine (qg8 _ P1.out).mono ?_;rintro e w2 ⟨rfl,F2,D2,g2,p2,m2⟩;have HMM:=iQ m2;rcases hq:s.room with ⟨o,er,t⟩
    rw [hq] at p2;obtain ⟨t1,t2,t3,t4⟩:=ZF P1.out.core.clk.hn P1.out.core.cm hq;have T1:=iQ t1;have T2:=iQ t2;have P2:=iQ p2;cases o with
    | none =>
      have hb:(er != 0)=true:=by rw [bne_iff_ne];exact t4 rfl
      have HE2:Hid (s.fetch n=(none,er,t)):=iQ (by rw [HE.out,hq]);clear p2 m2 hq t1 t2 t3 t4 HE HX hl;unfold PP.roomV;go_wp2_with fail;go_ret2;rw [HE2.out];exact ⟨rfl,F2,D2,g2,P2.out,(Qb.ob HB.out).trans HMM.out⟩
    | some i =>
      obtain ⟨i1,i2,rfl⟩:=t3 i rfl;have JK:=iQ (HMM.out.out HX.out);have hit:i<t.m:=by rw [t1];exact i1
      have hd:t.d i=false:=p2.fit.vd i hit i2;have hkn:t.k.has n=true:=by
       rw [t.k.has_at,t2,<- s.k.has_at];exact HH.out
      have HE2:Hid (s.fetch n=(some i,0,(t.lay i n (s.k.readB n) (t.d i)).used i)):=iQ (by rw [HE.out,hq,hd]);have HO:=iQ (NK w2 i hit n hkn A M c (s.k.readB n) HL.out UA.out JK.out HZ.out p2);clear p2 m2 hq t1 t2 t3 t4 HE HX JK i1 i2 hd hkn hit hl;unfold PP.roomV;go_wp2_with fail;refine HO.out.mono ?_;rintro e w3 ⟨rfl,F3,D3,g3,p3,m3⟩;have P3:=iQ p3;have M3:=iQ m3;clear p3 m3 HO;go_wp2_with fail;go_ret2;rw [HE2.out];exact ⟨rfl,F3,D3,g3,P3.out,((Qb.ob HB.out).trans HMM.out).trans M3.out⟩
   ·have HE:Hid (s.fetch n=(none,s.k.readE n,s)):=iQ (by unfold PP.fetch;rw [HFN.out];simp only [if_neg hr])
    have hb:(s.k.readE n != 0)=true:=by rw [bne_iff_ne];exact hr
    clear hr hl;go_wp2_with fail;go_ret2;rw [HE.out];exact ⟨rfl,F,D,g,P1.out,Qb.ob HB.out⟩
end
end Go.Proofs.YtfiflinbicbedaaGreat
namespace Go.Proofs.YtfiflinbicbedaaGreat
open Go.RowKit
theorem qz8 (m:Nat):(Builtin.zeroCells Zy m).size=m*4:=by
 simp [Builtin.zeroCells,Zy]
theorem qv5 (m j:Nat) (h:j<m*4):(Builtin.zeroCells Zy m).toList[j]?=some (ZH (fun _ => .slice none 0 0) (fun _=>0) (fun _=>false) (fun _=>false) j):=by
 rw [Array.getElem?_toList];unfold Builtin.zeroCells;rw [Array.getElem?_map,Array.getElem?_range];rw [if_pos (by show j<m*4;exact h)];simp only [Option.map_some,Option.some.injEq];show Zy[j % 4]! = _;unfold ZH;rcases (show j % 4=0\/j % 4=1\/j % 4=2\/j % 4=3 by omega) with e | e | e | e
 ·rw [e,if_pos rfl]
  rfl
 ·rw [e,if_neg (by omega),if_pos rfl]
  rfl
 ·rw [e,if_neg (by omega),if_neg (by omega),if_pos rfl]
  rfl
 ·rw [e,if_neg (by omega),if_neg (by omega),if_neg (by omega)]
  rfl
theorem ZU {F:Nat->Prop} {b:Nat} (hb:F b):∀ (vs:List Value) (o:Nat) (w:World),Qj F w (w.setCells b o vs)
 | [],_,w=>Qj.refl F w
 | v::r,o,w=>(Qj.setCell (F:=F) w (a:=⟨b,o,none⟩) hb v).next (ZU hb r (o+1) _)
def YB:Nat->Value:=ZH (fun _ => .slice none 0 0) (fun _=>0) (fun _=>false) (fun _=>false)
section
variable {w:World} {fb m:Nat} {f:Nat->Value}
theorem qG0 (hm:1<=m) (h:w.rowIs fb 155 (m*4) f) (ty:TypeId) :
 (Builtin.clear_ #[103] ty #[.slice (some ⟨fb,0,none⟩) m m]).run Tryz.prog w = .ok (.tuple #[]) (w.setCells fb 0 (Builtin.zeroCells Zy m).toList) /\
 (w.setCells fb 0 (Builtin.zeroCells Zy m).toList).rowIs fb 155 (m*4) YB/\Qj (·=fb) w (w.setCells fb 0 (Builtin.zeroCells Zy m).toList):=by
 obtain ⟨i,hi,hzz⟩:=we2.1 BN;simp only [Prod.mk.injEq] at hzz;obtain ⟨hz,_,_⟩:=hzz;have hs:=qz8 m;refine ⟨?_,?_,ZU (F:=(·=fb)) rfl _ _ _⟩
 ·have hrun:=run_storeCells_cells (P:=Tryz.prog) fb 0 (Builtin.zeroCells Zy m).toList 0 w (fun j hj=>by
   have hj':j<m*4:=by rw [<- hs];simpa using hj
   simp only [Nat.zero_add];rw [h.cell hj'];rfl) (fun j _=>h.frozen _) (fun v hv=>by
   obtain ⟨j,hj⟩:=List.getElem?_of_mem hv;have hj':j<m*4:=by
    have:=(wa8.1 hj).1;rw [<- hs];simpa using this
   rw [qv5 m j hj'] at hj;obtain rfl:=wa0 hj;unfold ZH;split
   ·rfl
   ·split
    ·rfl
    ·split<;>rfl)
  obtain ⟨k,rfl⟩:∃ k,m=k+1:=⟨m - 1,by omega⟩;have hzv:(zeroValue 155).run Tryz.prog w = .ok (.agg Zy) w:=by
   simp [zeroValue,typeInfo,hi,hz,Sem.run_bind,Result.andThen];rfl
  simp only [Nat.add_zero] at hrun;simp [Builtin.clear_,run_underlying Tryz.underlying103,hzv,Result.andThen,Value.cells,hrun]
 ·have:=Go.rowIs_setCells (Builtin.zeroCells Zy m).toList 0 w f h
  refine this.congr (fun j hj=>?_);have hl:(Builtin.zeroCells Zy m).toList.length=m*4:=by rw [Array.length_toList,hs]
  rw [if_pos (by rw [hl];omega),Nat.sub_zero,qv5 m j hj];rfl
end
section
variable {ops:Array Oper} {rest:List Oper} {o:Oper} {a:Act} {w:World} {Q:Exit->Act->World->Prop}
theorem JH (hg:o.guard=none) (x:Operand) (hop:o.op=Op.call { callee:=Callee.builtin Builtin.clear,args:=#[x],argTypes:=#[103] })
 {fb m:Nat} {f:Nat->Value} (hx:a.eval x = .slice (some ⟨fb,0,none⟩) m m) (hm:1<=m) (h:w.rowIs fb 155 (m*4) f)
 (hK:∀ w',w'.rowIs fb 155 (m*4) YB->Qj (·=fb) w w'->wpList Tryz.prog ops Q rest (a.put o.dst (.tuple #[])) w') :
 wpList Tryz.prog ops Q (o::rest) a w:=by
 refine wpList_plain hg fun K' hK'=>?_;obtain ⟨hrun,r1,r2⟩:=qG0 hm h o.type;unfold Oper.wp;simp [execOp,hop,resolve,invoke,builtin,hx,hrun,Result.andThen];exact hK' _ _ (hK _ r1 r2)
end
def qW4 (w:World) (pb fb db m:Nat) (e:Ending) (w':World):Prop :=
 ∃ cb rb,e = .returned (.tuple #[])/\w'.heap[pb]?=some (.cells #[.pointer (some ⟨db,0,none⟩),.slice (some ⟨fb,0,none⟩) m m,.pointer (some ⟨cb,0,none⟩)] 106 (0,0)) /\
   w'.rowIs fb 155 (m*4) YB/\Qw w' cb rb (CS.new m)/\w.heap.size<=cb/\w.heap.size<=rb/\Qj (fun k=>k=pb\/k=fb) w w'
theorem qU3 (w:World) (pb fb db m:Nat) (u:Value) (f:Nat->Value) (hm1:1<=m) (hm2:m<=1000)
 (hs:w.heap[pb]?=some (.cells #[.pointer (some ⟨db,0,none⟩),.slice (some ⟨fb,0,none⟩) m m,u] 106 (0,0))) (hr:w.rowIs fb 155 (m*4) f) :
 Calls Tryz.prog 23 #[.pointer (some ⟨pb,0,none⟩)] w (qW4 w pb fb db m):=by
 have c0:w.cell? ⟨pb,0,none⟩=some (.pointer (some ⟨db,0,none⟩)):=(cell_of_row w pb 0 _ _ _ hs).trans rfl;have c1:w.cell? ⟨pb,1,none⟩=some (.slice (some ⟨fb,0,none⟩) m m):=(cell_of_row w pb 1 _ _ _ hs).trans rfl;have HM:=iQ (XQ w pb db c0);have HS:=iQ hs;have HR:=iQ hr;have hlp:pb<w.heap.size:=World.block_lt_of_cell? _ _ c0;have hne:pb≠fb:=by
  obtain ⟨cur,hc,_⟩:=hr;exact Xx hs hc ZC.1.1
 clear hs hr;go_enter Tryz.func23,Tryz.ntmps23;go_wp2_with fail;refine HM.out.mono ?_;rintro e w' ⟨rfl,rfl⟩;clear HM;go_wp2_with (refine JH rfl (.tmp 8) rfl rfl hm1 HR.out ?_;intro w1 hr1 hk1;have hs1:=(hk1.block pb hlp hne).trans HS.out;have d1:w1.cell? ⟨pb,1,none⟩=some (.slice (some ⟨fb,0,none⟩) m m):=(cell_of_row w1 pb 1 _ _ _ hs1).trans rfl);have hlp1:pb<w1.heap.size:=World.block_lt_of_cell? _ _ d1;have HR1:=iQ hr1;have LZ:=iQ hk1;have Xl:=iQ hs1;have HC:=iQ (qF0 w1 m hm1 hm2);clear hr1 hk1 hs1 c0 c1 HR HS;refine HC.out.mono ?_;rintro e w2 ⟨cb,rb,rfl,hc2,hb1,hb2,hb⟩;have hs2:=(hb.block pb hlp1).trans Xl.out;have d2:w2.cell? ⟨pb,2,none⟩=some u:=(cell_of_row w2 pb 2 _ _ _ hs2).trans rfl;have f2:w2.frozen? ⟨pb,2,none⟩=false:=frozen_of_row w2 pb 2 _ _ hs2;have HS2:=iQ hs2;have HC2:=iQ hc2;have HB:=iQ hb;have HB1:=iQ hb1;have HB2:=iQ hb2;clear hs2 hc2 hb hb1 hb2 d1 HC;go_wp2_with fail;go_end0;have hnb:cb≠pb/\rb≠pb:=by
  have:=HB1.out;have:=HB2.out;omega
 refine ⟨cb,rb,rfl,by rw [Joins.block_setCell HS2.out];rfl,?_,?_,wa9 LZ.out.size HB1.out,wa9 LZ.out.size HB2.out,?_⟩
 ·exact (HR1.out.of_block (HB.out.block _ HR1.out.lt)).setOther (fun e=>hne e.symm) _
 ·exact HC2.out.same (Below.heap_setCell _ _ _ _ hnb.1) (Below.heap_setCell _ _ _ _ hnb.2)
 ·exact ((LZ.out.more (fun k e=>Or.inr e)).next (Qj.below HB.out _)).next (Qj.setCell (F:=fun k=>k=pb\/k=fb) _ (a:=⟨pb,2,none⟩) (Or.inl rfl) _)
section
variable {F D:Nat->Prop} {pb fb cb rb db:Nat} {g:Nat->Value} {s:PP}
theorem qt6 (s:PP):ZH (fun _ => .slice none 0 0) s.drop.sec s.drop.ful s.drop.d=YB:=by
 have e1:s.drop.sec=fun _=>0:=funext fun _=>rfl;have e2:s.drop.ful=fun _=>false:=funext fun _=>rfl;have e3:s.drop.d=fun _=>false:=rfl;rw [e1,e2,e3];rfl
/-- A pool that was made anew: its struct, its frames, its clock; a disk that was not touched. -/
theorem qN3 {w w':World} {m:Nat} {k:PS} {cb rb:Nat} (s:PP) (hsm:s.m=m) (hk:s.k=k) (hs:w'.heap[pb]?=some (.cells #[.pointer (some ⟨db,0,none⟩),.slice (some ⟨fb,0,none⟩) m m,.pointer (some ⟨cb,0,none⟩)] 106 (0,0)))
 (hr:w'.rowIs fb 155 (m*4) YB) (hc:Qw w' cb rb (CS.new m)) (hd:Dk w' D db k) (dp:¬ D pb) (df:¬ D fb) (dc:¬ D cb) (dr:¬ D rb)
 (hp:F pb) (hf:F fb) (hD:∀ k,D k->F k) (hl:∀ k,F k->k<w.heap.size) (h1:w.heap.size<=cb) (h2:w.heap.size<=rb) (hz:w.heap.size<=w'.heap.size) :
 Qk w' (fun k=>F k\/w.heap.size<=k/\k<w'.heap.size) D pb fb cb rb db (fun _ => .slice none 0 0) s.drop:=by
 subst hsm hk;obtain ⟨cur,hcur,_⟩:=id hr;refine ⟨⟨hs,⟨cur,hcur⟩,hc,rfl,hd,Or.inl hp,Or.inl hf,Or.inr ⟨h1,hc.lt.1⟩,Or.inr ⟨h2,hc.lt.2⟩,fun k hk=>Or.inl (hD k hk),dp,df,dc,dr,fun k hk=>?_⟩,?_,fun i _=>⟨Xp _ _,wb3 _,fun q hq=>by cases hq⟩,⟨fun _ _ _=>rfl,fun _ _=>Or.inl rfl⟩⟩
 ·rcases hk with e | e
  ·exact wa3 (hl k e) hz
  ·exact e.2
 ·show w'.rowIs fb _ (s.m*4) (ZH (fun _ => .slice none 0 0) s.drop.sec s.drop.ful s.drop.d)
  rw [qt6];exact hr
def frC (n:Nat):Array Value:=madeCells Zy (n*4)
theorem ql1 (n:Nat):(frC n).size=n*4:=size_madeCells _ _
theorem zm1 (n i:Nat) (h:i<n*4):(frC n)[i]?=some (YB i):=by
 unfold frC madeCells YB ZH;rcases (show i % 4=0\/i % 4=1\/i % 4=2\/i % 4=3 by omega) with e | e | e | e
 ·rw [if_pos e]
  simp [e,h,Zy]
 ·rw [if_neg (by omega),if_pos e]
  simp [e,h,Zy]
 ·rw [if_neg (by omega),if_neg (by omega),if_pos e]
  simp [e,h,Zy]
 ·rw [if_neg (by omega),if_neg (by omega),if_neg (by omega)]
  simp [e,h,Zy]
theorem qj0 (w:World) (n:Nat) (hn:n<=1000):(Instr.makeSlice 103 (.int .i64 (n:Int)) (.int .i64 (n:Int))).run Tryz.prog w = .ok (.slice (some ⟨w.heap.size,0,none⟩) n n) (w.alloc (.cells (frC n) 155)):=by
 obtain ⟨i,hi,hzz⟩:=we2.1 BN;simp only [Prod.mk.injEq] at hzz;obtain ⟨hz,hs,hb⟩:=hzz;have hr:=run_make (P:=Tryz.prog) w 103 155 i _ Tryz.underlying103 hi hz .i64 .i64 (n:Int) (n:Int) (by omega) (Int.le_refl _) (by rw [hb];omega) (by omega);simp only [Int.toNat_natCast,hs] at hr;exact hr
def zr0 (w:World) (D:Nat->Prop) (db:Nat) (k:PS) (n:Nat) (e:Ending) (w':World):Prop :=
 ∃ pb fb cb rb g F,e = .returned (.tuple #[.pointer (some ⟨pb,0,none⟩),.int .i64 0])/\Qk w' F D pb fb cb rb db g (PP.new k n)/\Qb w D w' F/\Below w.heap.size w w'
theorem qN7 (w:World) (n:Nat) (k:PS) (h1:1<=n) (h2:n<=1000) (hd:Dk w D db k) :
 Calls Tryz.prog 53 #[.pointer (some ⟨db,0,none⟩),.int .i64 n] w (zr0 w D db k n):=by
 have hm:=qj0 w n h2;have HD:=iQ hd;have HRAW:Hid (Calls Tryz.prog 23 #[.pointer (some ⟨w.heap.size+1,0,none⟩)] ((w.alloc (.cells (frC n) 155)).alloc (.cells #[.pointer (some ⟨db,0,none⟩),.slice (some ⟨w.heap.size,0,none⟩) n n,.pointer none] 106)) (qW4 ((w.alloc (.cells (frC n) 155)).alloc (.cells #[.pointer (some ⟨db,0,none⟩),.slice (some ⟨w.heap.size,0,none⟩) n n,.pointer none] 106)) (w.heap.size+1) w.heap.size db n)):=by
  refine iQ (qU3 _ _ _ _ _ (.pointer none) YB h1 h2 ?_ ?_)
  ·have:=heap_alloc_new (w.alloc (.cells (frC n) 155)) (.cells #[.pointer (some ⟨db,0,none⟩),.slice (some ⟨w.heap.size,0,none⟩) n n,.pointer none] 106)
   rw [show (w.alloc (.cells (frC n) 155)).heap.size=w.heap.size+1 by simp] at this;exact this
  ·have:=World.rowIs_alloc w (frC n) 155 YB (fun i hi=>zm1 n i (by rw [ql1] at hi;exact hi))
   rw [ql1] at this;exact this.alloc _
 clear hd;go_enter Tryz.func53,Tryz.ntmps53;go_wp2_with fail;refine HRAW.out.mono ?_;rintro e w' ⟨cb,rb,rfl,hs,hr,hc,b1,b2,hk⟩;have HS:=iQ hs;have HR:=iQ hr;have HC:=iQ hc;have HB1:=iQ b1;have HB2:=iQ b2;have HK:=iQ hk;clear hs hr hc b1 b2 hk HRAW hm;go_wp2_with fail;go_ret2;generalize hw0:(w.alloc (.cells (frC n) 155)).alloc (.cells #[.pointer (some ⟨db,0,none⟩),.slice (some ⟨w.heap.size,0,none⟩) n n,.pointer none] 106)=w0 at *;have hz0:w0.heap.size=w.heap.size+2:=by rw [<- hw0];simp
 have hb0:Below w.heap.size w w0:=by rw [<- hw0];exact Zp _ _ _
 have hlt:=HD.out.lt;have hbw:Below w.heap.size w w':=hb0.trans (HK.out.toBelow (by rintro k (rfl | rfl)<;>omega) hb0.size)
 have hd':Dk w' D db k:=HD.out.below hbw;have no:∀ b,w.heap.size<=b->¬ D b:=fun b hb hD=>by
  have:=hlt b hD;omega
 have hb1:=HB1.out;have hb2:=HB2.out;have hP:=qN3 (F:=fun k=>D k\/w.heap.size<=k/\k<w0.heap.size) (w:=w0) (PP.new k n) rfl rfl HS.out HR.out HC.out hd' (no _ (by omega)) (no _ (by omega)) (no _ (by omega)) (no _ (by omega)) (Or.inr (by omega)) (Or.inr (by omega)) (fun _ h=>Or.inl h)
  (fun b hb=>by
    rcases hb with e | e
    ·have:=hlt b e
     omega
    ·exact e.2) hb1 hb2 HK.out.size
 refine ⟨_,_,cb,rb,_,_,rfl,hP,⟨Qj.below hbw _,fun b hb=>?_⟩,hbw⟩;rcases hb with (e | e) | e
 ·exact Or.inl e
 ·exact Or.inr e.1
 ·exact Or.inr (by omega)
end
end Go.Proofs.YtfiflinbicbedaaGreat
namespace Go.Proofs.YtfiflinbicbedaaGreat
open Go.RowKit
theorem za7 {w:World} {base zi6:Nat} {v:Value} {l:List UInt8} (h:Xr w base v l) (hb:zi6<=base):Xr w zi6 v l:=by
 obtain ⟨h1,h2⟩:=h;refine ⟨h1,?_⟩;rcases h2 with h2 | ⟨g,cap,cur,hv,hg,r⟩
 ·exact Or.inl h2
 ·exact Or.inr ⟨g,cap,cur,hv,wa9 hb hg,r⟩
def zp0 (w:World) (F:Nat->Prop) (pb fb cb rb db:Nat) (s':PP) (err:Int) (l:List UInt8) (e:Ending) (w':World):Prop :=
 ∃ A c F' D' g',e = .returned (.tuple #[.slice A l.length c,.int .i64 err])/\Qk w' F' D' pb fb cb rb db g' s'/\Qb w F w' F'/\Xr w' w.heap.size (.slice A l.length c) l/\Out w' F' A l/\l.length<=1024
section
variable {F D:Nat->Prop} {pb fb cb rb db:Nat} {g:Nat->Value} {s:PP}
theorem ql5 {t:PP} {o:Option Nat} {e n:Int} (hh:s.c.h<s.c.n) (hn:s.c.n=s.m) (h:s.fetch n=(o,e,t)) :
 t.m=s.m/\(∀ i,o=some i->i<s.m/\t.at_ i=n/\e=0)/\(o=none->e≠0):=by
 unfold PP.fetch at h;cases hf:s.find n with
 | some i =>
   rw [hf] at h;injection h with h2 h3
   injection h3 with h3 h4
   subst h2 h3 h4;obtain ⟨f1,f2,_⟩:=PP.find_some hf;exact ⟨rfl,fun j hj=>by
    obtain rfl:=wa0 hj;exact ⟨f1,f2,rfl⟩,fun e=>by cases e⟩
 | none =>
   rw [hf] at h;by_cases hr:s.k.readE n=0
   ·simp only [if_pos hr] at h
    rcases hq:s.room with ⟨q,er,u⟩
    rw [hq] at h;obtain ⟨t1,t2,t3,t4⟩:=ZF hh hn hq;cases q with
    | some i =>
      injection h with h2 h3
      injection h3 with h3 h4
      subst h2 h3 h4;exact ⟨t1,fun j hj=>by
       obtain rfl:=wa0 hj;exact ⟨(t3 i rfl).1,if_pos rfl,rfl⟩,fun e=>by cases e⟩
    | none =>
      injection h with h2 h3
      injection h3 with h3 h4
      subst h2 h3 h4;exact ⟨t1,fun j hj=>(by cases hj),fun _=>t4 rfl⟩
   ·simp only [if_neg hr] at h
    injection h with h2 h3
    injection h3 with h3 h4
    subst h2 h3 h4;exact ⟨rfl,fun j hj=>(by cases hj),fun _=>hr⟩
theorem zc3 (w:World) (n:Int) (h1 : -9223372036854775808<=n) (h2:n<=9223372036854775807) (h:Qk w F D pb fb cb rb db g s) :
 Calls Tryz.prog 165 #[.pointer (some ⟨pb,0,none⟩),.int .i64 n] w (zp0 w F pb fb cb rb db (s.get n).2.2 (s.get n).1 (s.get n).2.1):=by
 have HF:=iQ (qF4 w n h1 h2 h);have hq0:∃ o er t,s.fetch n=(o,er,t):=⟨_,_,_,rfl⟩;obtain ⟨o,er,t,hq⟩:=hq0;obtain ⟨t1,t2,t3⟩:=ql5 h.core.clk.hn h.core.cm hq;have HG:Hid (s.get n=PP.gotA (o,er,t)):=iQ (by rw [PP.get_fetch,hq]);rw [hq] at HF;have HW:=iQ h.core.lt;clear h hq h1 h2;go_enter Tryz.func165,Tryz.ntmps165;go_wp2_with fail;refine HF.out.mono ?_;rintro e w1 ⟨rfl,F1,D1,g1,p1,m1⟩;have P1:=iQ p1;have M1:=iQ m1;unfold PP.roomV;cases o with
 | none =>
   have hb:(er != 0)=true:=by rw [bne_iff_ne];exact t3 rfl
   clear p1 m1 t1 t2 t3 HF;go_wp2_with fail;go_ret2;rw [HG.out];exact ⟨none,0,F1,D1,g1,rfl,P1.out,M1.out,Xp _ _,Or.inl rfl,wb3 _⟩
 | some i =>
   obtain ⟨i1,i2,rfl⟩:=t2 i rfl;have hit:i<t.m:=by rw [t1];exact i1
   obtain ⟨o1,o2,o3⟩:=p1.own i hit;have d0:=p1.s0 hit;have c1:=p1.core.c1;have hm:=p1.core.m1.2;obtain ⟨A,c,hv,hc,hz⟩:=Je o1;rw [hv] at d0 o1;obtain ⟨M,hM⟩:∃ M,(t.b i).length=M:=⟨_,rfl⟩;rw [hM] at d0 o2 hz o1;have HT:=iQ (qJ4 A M c _ (t.b i) w1 (GK o1) hM (by omega) hz);have HL:=iQ (show (t.b i).length<=1024 by omega);have HG2:Hid (s.get n=(0,t.b i,t)):=HG.out;clear p1 m1 t1 t2 t3 HF HG hv hM o1 o3 hz hc i2 i1;go_wp2_with fail;refine HT.out.mono ?_;rintro e w2 ⟨v2,rfl,o2,b2⟩;obtain ⟨A2,c2,rfl,_,_⟩:=Je o2;have O2:=iQ o2;have B2:=iQ b2;clear o2 b2 HT d0 c1;go_wp2_with fail;go_ret2;rw [HG2.out];refine ⟨A2,c2,F1,D1,g1,rfl,P1.out.below B2.out,M1.out.trans (Qb.ob B2.out),?_,?_,HL.out⟩
   ·exact za7 O2.out M1.out.kept.size
   ·exact PQ O2.out (fun q hq hF=>by
     have:=(O2.out.lt q hq).1;have:=P1.out.core.lt q hF;omega)
end
end Go.Proofs.YtfiflinbicbedaaGreat
namespace Go.Proofs.YtfiflinbicbedaaGreat
open Go.RowKit Go.Maps
section
variable {F:Nat->Prop} {db:Nat} {s:PS}
theorem SH (w:World) (h:Dk w F db s):Calls Tryz.prog 41 #[.pointer (some ⟨db,0,none⟩)] w fun e w'=>e = .returned (.int .i64 s.size)/\w=w':=by
 obtain ⟨bl,bw,gL,gW,h⟩:=h;have c0:=h.cell 0 (v := .int .i64 s.size) rfl;clear h;go_enter Tryz.func41,Tryz.ntmps41;go_wp2_with fail;go_ret;exact ⟨rfl,rfl⟩
end
end Go.Proofs.YtfiflinbicbedaaGreat
namespace Go.Proofs.YtfiflinbicbedaaGreat
open Go.RowKit
def PP.pinA:Option Nat×Int×PP->Int×PP
 | (some i,_,t)=>(0,{ t with c:=t.c.pinS i })
 | (none,e,t)=>(e,t)
section
variable {F D:Nat->Prop} {pb fb cb rb db:Nat} {g:Nat->Value} {s:PP}
def PP.putAt (t:PP) (i:Nat) (n:Int) (l:List UInt8):PP:=(t.lay i n l true).used i
theorem qN6 (t:PP) (i:Nat) (n:Int) (l:List UInt8):({ (t.lay i n l (t.d i)).used i with d:=fun j=>if j=i then true else ((t.lay i n l (t.d i)).used i).d j }:PP)=t.putAt i n l:=by
 have e:(fun j=>if j=i then true else (if j=i then t.d i else t.d j))=(fun j=>if j=i then true else t.d j):=by
  funext j;by_cases e:j=i
  ·rw [if_pos e,if_pos e]
  ·rw [if_neg e,if_neg e,if_neg e]
 exact congrArg (fun d=>(⟨t.m,fun j=>if j=i then n else t.at_ j,fun j=>if j=i then l else t.b j,d,t.c.useS i,t.k⟩:PP)) e
theorem Qk.putEnd {w3:World} {t:PP} {i:Nat} {n:Int} {l:List UInt8} (hn:n ≠ -1) (h:Qk w3 F D pb fb cb rb db g ((t.lay i n l (t.d i)).used i)) :
 Qk (w3.setCell ⟨fb,i*4+3,none⟩ (.bool true)) F D pb fb cb rb db g (t.putAt i n l):=by
 have:=h.setD i true (fun _=>by
  show (if i=i then n else t.at_ i) ≠ -1
  rw [if_pos rfl];exact hn)
 rwa [qN6] at this
theorem za4 {s:PP} {n:Int} {l:List UInt8} (hb:s.k.bad n l=false):s.put n l=match s.find n with
 | some i=>(0,s.putAt i n l)
 | none=>match s.room with
   | (some i,_,t)=>(0,t.putAt i n l)
   | (none,e,t)=>(e,t):=by
 unfold PP.put;rw [hb];rfl
theorem za3 (w:World) (n:Int) (h1 : -9223372036854775808<=n) (h2:n<=9223372036854775807) (A:Option Addr) (m c:Nat) (l:List UInt8) (hl:l.length=m) (hx:Out w F A l) (hz:A=none->m=0/\c=0) (h:Qk w F D pb fb cb rb db g s) :
 Calls Tryz.prog 179 #[.pointer (some ⟨pb,0,none⟩),.int .i64 n,.slice A m c] w (qG9 w F pb fb cb rb db (s.put n l).2 (.int .i64 (s.put n l).1)):=by
 have H:=iQ h;have HM:=iQ (XQ w pb db h.core.c0);have HF:=iQ (DJ w n h);have HS:=iQ (SH w h.core.dk);have c0:=h.core.c0;have c1:=h.core.c1;have h4:=h.core.dk.s4;have HX:=iQ hx;have HZ:=iQ hz;have HL:=iQ hl;clear h hx hz;by_cases hb:s.k.bad n l=true
 ·have HE:Hid (s.put n l=(41,s)):=iQ (by unfold PP.put;rw [if_pos hb])
  have hb':n<0\/(s.k.size:Int)<=n\/(1024:Nat)<m:=by
   unfold PS.bad PS.has at hb;simp at hb;omega
  clear hb hl;by_cases hn:n<0
  ·clear hb'
   go_enter Tryz.func179,Tryz.ntmps179;go_wp2_with fail;refine HM.out.mono ?_;rintro e w' ⟨rfl,rfl⟩;clear HM;go_wp2_with (refine HS.out.mono ?_;rintro e w' ⟨rfl,rfl⟩);go_ret;rw [HE.out];exact ⟨rfl,F,D,g,H.out,Qb.refl _ _⟩
  ·by_cases hn2:n<(s.k.size:Int)
   ·have hm:1024<m:=by omega
    have hn3:0<=n:=(by omega);clear hb' hn;go_enter Tryz.func179,Tryz.ntmps179;go_wp2_with fail;refine HM.out.mono ?_;rintro e w' ⟨rfl,rfl⟩;clear HM;go_wp2_with (refine HS.out.mono ?_;rintro e w' ⟨rfl,rfl⟩);go_ret;rw [HE.out];exact ⟨rfl,F,D,g,H.out,Qb.refl _ _⟩
   ·have hn3:0<=n:=by omega
    have hn4:(s.k.size:Int)<=n:=(by omega);clear hb' hn hn2;go_enter Tryz.func179,Tryz.ntmps179;go_wp2_with fail;refine HM.out.mono ?_;rintro e w' ⟨rfl,rfl⟩;clear HM;go_wp2_with (refine HS.out.mono ?_;rintro e w' ⟨rfl,rfl⟩);go_ret;rw [HE.out];exact ⟨rfl,F,D,g,H.out,Qb.refl _ _⟩
 ·have hb0:s.k.bad n l=false:=by simpa using hb
  have hh:s.k.has n=true/\m<=1024:=by
   unfold PS.bad at hb0;simp at hb0;exact ⟨hb0.1,by omega⟩
  have hr:=(s.k.has_at n).1 hh.1;have HE:=iQ (za4 hb0);have HH:=iQ hh.1;have hm:=hh.2;have hr1:=hr.1;have hr2:=hr.2;clear hb hb0 hh hl hr;go_enter Tryz.func179,Tryz.ntmps179;go_wp2_with fail;refine HM.out.mono ?_;rintro e w' ⟨rfl,rfl⟩;clear HM;go_wp2_with (refine HS.out.mono ?_;rintro e w' ⟨rfl,rfl⟩);refine HF.out.mono ?_;rintro e w' ⟨rfl,rfl⟩;unfold qy5;clear HF HS;cases hf:s.find n with
  | some i =>
    rw [hf] at HE;obtain ⟨f1,f2,_⟩:=PP.find_some hf;have HO:=iQ (NK w i f1 n HH.out A m c l HL.out hm HX.out HZ.out H.out);have HI:=iQ f1;clear hf f1 f2 c0 c1;go_wp2_with fail;refine HO.out.mono ?_;rintro e w1 ⟨rfl,F1,D1,g1,p1,m1⟩;have P1:=iQ (p1.putEnd (w3:=w1) (by omega));have M1:=iQ (m1.trans (Qb.setCell w1 (a:=⟨fb,i*4+3,none⟩) p1.core.ff (.bool true)));have c1:=p1.core.c1;have d3:=p1.s3 (i:=i) HI.out;have f3:=p1.sf (i*4+3);have hi:i<s.m:=HI.out;have hm2:s.m<=1000:=H.out.core.m1.2;have c1':w1.cell? ⟨pb,1,none⟩=some (.slice (some ⟨fb,0,none⟩) s.m s.m):=c1;clear p1 m1 HO c1;go_wp2_with fail;go_ret;rw [HE.out];exact ⟨rfl,F1,D1,g1,P1.out,M1.out⟩
  | none =>
    rw [hf] at HE;have HR:=iQ (qg8 w H.out);obtain ⟨o,er,t,hq⟩:∃ o er t,s.room=(o,er,t):=⟨_,_,_,rfl⟩;obtain ⟨t1,t2,t3,t4⟩:=ZF H.out.core.clk.hn H.out.core.cm hq;rw [hq] at HR HE;clear hf hq c0 c1;go_wp2_with fail;refine HR.out.mono ?_;rintro e w1 ⟨rfl,F1,D1,g1,p1,m1⟩;have UD:=iQ (m1.out HX.out);have M1:=iQ m1;unfold PP.roomV;cases o with
    | none =>
      have HE2:Hid (s.put n l=(er,t)):=HE.out;have P1:=iQ p1;have hb:(er != 0)=true:=by rw [bne_iff_ne];exact t4 rfl
      clear p1 m1 t1 t2 t3 t4 HR HE;go_wp2_with fail;go_ret;rw [HE2.out];exact ⟨rfl,F1,D1,g1,P1.out,M1.out⟩
    | some i =>
      have HE2:Hid (s.put n l=(0,t.putAt i n l)):=HE.out;obtain ⟨i1,i2,rfl⟩:=t3 i rfl;have hit:i<t.m:=by rw [t1];exact i1
      have hkn:t.k.has n=true:=by
       rw [t.k.has_at,t2,<- s.k.has_at];exact HH.out
      have HO:=iQ (NK w1 i hit n hkn A m c l HL.out hm UD.out HZ.out p1);have HI:=iQ hit;have HM2:=iQ p1.core.m1.2;clear p1 m1 t1 t2 t3 t4 HR HE i1 i2 hit hkn;go_wp2_with fail;refine HO.out.mono ?_;rintro e w2 ⟨rfl,F2,D2,g2,p2,m2⟩;have P2:=iQ (p2.putEnd (w3:=w2) (by omega));have M2:=iQ (M1.out.trans (m2.trans (Qb.setCell w2 (a:=⟨fb,i*4+3,none⟩) p2.core.ff (.bool true))));have c1:w2.cell? ⟨pb,1,none⟩=some (.slice (some ⟨fb,0,none⟩) t.m t.m):=p2.core.c1;have d3:=p2.s3 (i:=i) HI.out;have f3:=p2.sf (i*4+3);have hi:i<t.m:=HI.out;have hm2:t.m<=1000:=HM2.out;clear p2 m2 HO;go_wp2_with fail;go_ret;rw [HE2.out];exact ⟨rfl,F2,D2,g2,P2.out,M2.out⟩
end
end Go.Proofs.YtfiflinbicbedaaGreat
namespace Go.Proofs.YtfiflinbicbedaaGreat.PP
structure Holds (s:PP) (f:Int->List UInt8):Prop where
 well:s.k.Well
 cn:s.c.n=s.m
 ch:s.c.h<s.c.n
 rng:∀ i,i<s.m->s.at_ i = -1\/s.k.has (s.at_ i)=true
 inj:∀ i j,i<s.m->j<s.m->s.at_ i=s.at_ j->s.at_ i ≠ -1->i=j
 hand:∀ i,i<s.m->s.at_ i ≠ -1->s.b i=f (s.at_ i)
 clean:∀ i,i<s.m->s.at_ i ≠ -1->s.d i=false->s.k.held (s.at_ i)=f (s.at_ i)
 out:∀ n,s.k.has n=true->(∀ i,i<s.m->s.at_ i≠n)->s.k.held n=f n
 len:∀ n,(f n).length<=1024
theorem has_ne {k:PS} {n:Int} (h:k.has n=true):n ≠ -1:=by
 have:=(k.has_at n).1 h;omega
theorem Holds.new {k:PS} (hk:k.Well) (ho:k.Ok) {m:Nat} (hm:1<=m):Holds (PP.new k m) k.held :=
 ⟨hk,rfl,by show 0<m;omega,fun _ _=>Or.inl rfl,fun i j _ _ _ h=>absurd rfl h,fun i _ h=>absurd rfl h,fun i _ h=>absurd rfl h,fun _ _ _=>rfl,fun n=>by
  unfold PS.held;cases hw:k.W n with
  | none=>exact ho.ll n
  | some l=>exact ho.wl n l hw⟩
theorem Holds.clock {s:PP} {f:Int->List UInt8} (h:Holds s f) {c:CS} (hn:c.n=s.m) (hh:c.h<c.n):Holds { s with c:=c } f :=
 {h with
  cn:=hn
  ch:=hh }
theorem useS_h (c:CS) (i:Int):(c.useS i).h=c.h:=by unfold CS.useS;split<;>rfl
theorem useS_p (c:CS) (i:Int):(c.useS i).p=c.p:=by unfold CS.useS;split<;>rfl
theorem Holds.used {s:PP} {f:Int->List UInt8} (h:Holds s f) (i:Nat):Holds (s.used i) f :=
 h.clock ((CS.useS_n _ _).trans h.cn) (by rw [useS_h,CS.useS_n];exact h.ch)
theorem Holds.void {s:PP} {f:Int->List UInt8} (h:Holds s f) {i:Nat} (hc:s.at_ i ≠ -1->s.k.held (s.at_ i)=f (s.at_ i)):Holds (s.lay i (-1) [] false) f:=by
 have ea:∀ j,(s.lay i (-1) [] false).at_ j=if j=i then -1 else s.at_ j:=fun _=>rfl
 have eb:∀ j,(s.lay i (-1) [] false).b j=if j=i then [] else s.b j:=fun _=>rfl
 have ed:∀ j,(s.lay i (-1) [] false).d j=if j=i then false else s.d j:=fun _=>rfl
 refine ⟨h.well,h.cn,h.ch,fun j hj=>?_,fun j l hj hl e hne=>?_,fun j hj hne=>?_,fun j hj hne hd=>?_,fun n hn ho=>?_,h.len⟩
 ·rw [ea]
  split
  ·exact Or.inl rfl
  ·exact h.rng j hj
 ·rw [ea] at hne
  rw [ea,ea] at e;by_cases e1:j=i
  ·rw [if_pos e1] at hne
   exact absurd rfl hne
  ·rw [if_neg e1] at hne e
   by_cases e2:l=i
   ·rw [if_pos e2] at e
    exact absurd e hne
   ·rw [if_neg e2] at e
    exact h.inj j l hj hl e hne
 ·rw [ea] at hne ⊢
  rw [eb];by_cases e1:j=i
  ·rw [if_pos e1] at hne
   exact absurd rfl hne
  ·rw [if_neg e1] at hne
   rw [if_neg e1,if_neg e1];exact h.hand j hj hne
 ·rw [ea] at hne ⊢
  rw [ed] at hd;by_cases e1:j=i
  ·rw [if_pos e1] at hne
   exact absurd rfl hne
  ·rw [if_neg e1] at hne hd
   rw [if_neg e1];exact h.clean j hj hne hd
 ·by_cases e:s.at_ i=n
  ·have hne:s.at_ i ≠ -1:=by rw [e];exact has_ne hn
   have:=hc hne;rw [e] at this;exact this
  ·refine h.out n hn (fun j hj=>?_)
   by_cases e1:j=i
   ·rw [e1]
    exact e
   ·have:=ho j hj
    rw [ea,if_neg e1] at this;exact this
theorem Holds.wrote {s:PP} {f:Int->List UInt8} (h:Holds s f) {i:Nat} (hi:i<s.m) (hne:s.at_ i ≠ -1):s.k.writeE (s.at_ i) (s.b i)=0/\Holds (s.wrote i) f/\(s.wrote i).k=s.k.lay (s.at_ i) (s.b i)/\(s.wrote i).k.held (s.at_ i)=f (s.at_ i):=by
 have hh:s.k.has (s.at_ i)=true:=(h.rng i hi).resolve_left hne;have hb:=h.hand i hi hne;obtain ⟨w1,w2⟩:=h.well.write hh (l:=s.b i) (by rw [hb];exact h.len _);have ek:(s.wrote i).k=s.k.lay (s.at_ i) (s.b i):=w2;have hl:∀ n,(s.wrote i).k.held n=if n=s.at_ i then f (s.at_ i) else s.k.held n:=fun n=>by rw [ek,PS.lay_held,hb]
 refine ⟨w1,⟨by rw [ek];exact h.well.lay _ _,h.cn,h.ch,fun j hj=>?_,h.inj,h.hand,fun j hj hn hd=>?_,fun n hn ho=>?_,h.len⟩,ek,by rw [hl,if_pos rfl]⟩
 ·rw [ek]
  exact h.rng j hj
 ·show (s.wrote i).k.held (s.at_ j)=_
  show _=f (s.at_ j);rw [hl];split
  ·rename_i e
   rw [e]
  ·exact h.clean j hj hn hd
 ·rw [ek] at hn
  rw [hl];split
  ·rename_i e
   rw [e]
  ·exact h.out n hn ho
theorem Holds.fill {s:PP} {f:Int->List UInt8} (h:Holds s f) {i:Nat} (he:s.at_ i = -1) {n:Int} (hn:s.k.has n=true) (hno:∀ j,j<s.m->s.at_ j≠n):Holds (s.lay i n (f n) false) f:=by
 have ea:∀ j,(s.lay i n (f n) false).at_ j=if j=i then n else s.at_ j:=fun _=>rfl
 have eb:∀ j,(s.lay i n (f n) false).b j=if j=i then f n else s.b j:=fun _=>rfl
 have ed:∀ j,(s.lay i n (f n) false).d j=if j=i then false else s.d j:=fun _=>rfl
 refine ⟨h.well,h.cn,h.ch,fun j hj=>?_,fun j l hj hl e hne=>?_,fun j hj hne=>?_,fun j hj hne hd=>?_,fun q hq ho=>?_,h.len⟩
 ·rw [ea]
  split
  ·exact Or.inr hn
  ·exact h.rng j hj
 ·rw [ea] at hne
  rw [ea,ea] at e;by_cases e1:j=i
  ·by_cases e2:l=i
   ·rw [e1,e2]
   ·rw [if_pos e1,if_neg e2] at e
    exact absurd e.symm (hno l hl)
  ·rw [if_neg e1] at hne e
   by_cases e2:l=i
   ·rw [if_pos e2] at e
    exact absurd e (hno j hj)
   ·rw [if_neg e2] at e
    exact h.inj j l hj hl e hne
 ·rw [ea] at hne ⊢
  rw [eb];by_cases e1:j=i
  ·rw [if_pos e1,if_pos e1]
  ·rw [if_neg e1] at hne
   rw [if_neg e1,if_neg e1];exact h.hand j hj hne
 ·rw [ea] at hne ⊢
  rw [ed] at hd;by_cases e1:j=i
  ·rw [if_pos e1]
   exact h.out n hn hno
  ·rw [if_neg e1] at hne hd
   rw [if_neg e1];exact h.clean j hj hne hd
 ·refine h.out q hq (fun j hj=>?_)
  by_cases e1:j=i
  ·rw [e1,he]
   exact (has_ne hq).symm
  ·have:=ho j hj
   rw [ea,if_neg e1] at this;exact this
def upd (f:Int->List UInt8) (n:Int) (l:List UInt8):Int->List UInt8:=fun j=>if j=n then l else f j
theorem Holds.putAt {s:PP} {f:Int->List UInt8} (h:Holds s f) {i:Nat} (hi:i<s.m) {n:Int} (hn:s.k.has n=true) (he:s.at_ i=n\/(s.at_ i = -1/\∀ j,j<s.m->s.at_ j≠n)) {l:List UInt8} (hl:l.length<=1024):Holds (s.lay i n l true) (upd f n l):=by
 have ea:∀ j,(s.lay i n l true).at_ j=if j=i then n else s.at_ j:=fun _=>rfl
 have eb:∀ j,(s.lay i n l true).b j=if j=i then l else s.b j:=fun _=>rfl
 have ed:∀ j,(s.lay i n l true).d j=if j=i then true else s.d j:=fun _=>rfl
 have hno:∀ j,j<s.m->j≠i->s.at_ j≠n:=by
  intro j hj hji e;rcases he with he | ⟨_,he⟩
  ·exact hji (h.inj j i hj hi (e.trans he.symm) (by rw [e];exact has_ne hn))
  ·exact he j hj e
 have hu:∀ q,q≠n->upd f n l q=f q:=fun q hq=>by unfold upd;rw [if_neg hq]
 refine ⟨h.well,h.cn,h.ch,fun j hj=>?_,fun j q hj hq e hne=>?_,fun j hj hne=>?_,fun j hj hne hd=>?_,fun q hq ho=>?_,fun q=>?_⟩
 ·rw [ea]
  split
  ·exact Or.inr hn
  ·exact h.rng j hj
 ·rw [ea] at hne
  rw [ea,ea] at e;by_cases e1:j=i
  ·by_cases e2:q=i
   ·rw [e1,e2]
   ·rw [if_pos e1,if_neg e2] at e
    exact absurd e.symm (hno q hq e2)
  ·rw [if_neg e1] at hne e
   by_cases e2:q=i
   ·rw [if_pos e2] at e
    exact absurd e (hno j hj e1)
   ·rw [if_neg e2] at e
    exact h.inj j q hj hq e hne
 ·rw [ea] at hne ⊢
  rw [eb];by_cases e1:j=i
  ·rw [if_pos e1,if_pos e1]
   unfold upd;rw [if_pos rfl]
  ·rw [if_neg e1] at hne
   rw [if_neg e1,if_neg e1,hu _ (hno j hj e1)];exact h.hand j hj hne
 ·rw [ea] at hne ⊢
  rw [ed] at hd;by_cases e1:j=i
  ·rw [if_pos e1] at hd
   cases hd
  ·rw [if_neg e1] at hne hd
   rw [if_neg e1,hu _ (hno j hj e1)];exact h.clean j hj hne hd
 ·have hqn:q≠n:=by
   have:=ho i hi;rw [ea,if_pos rfl] at this;exact this.symm
  rw [hu q hqn];refine h.out q hq (fun j hj=>?_);by_cases e1:j=i
  ·rw [e1]
   rcases he with he | ⟨he,_⟩
   ·rw [he]
    exact hqn.symm
   ·rw [he]
    exact (has_ne hq).symm
  ·have:=ho j hj
   rw [ea,if_neg e1] at this;exact this
 ·unfold upd
  split
  ·exact hl
  ·exact h.len q
structure Roomed (s:PP) (f:Int->List UInt8) (i:Nat) (t:PP):Prop where
 eq:s.room=(some i,0,t)
 lt:i<s.m
 void:t.at_ i = -1
 m_:t.m=s.m
 holds:Holds t f
 size:t.k.size=s.k.size
 held:∀ n,s.k.has n=true->(∀ j,j<s.m->s.at_ j≠n)->(∀ j,j<t.m->t.at_ j≠n)
 p_:t.c.p=s.c.p
 go_:(s.gap=some i/\t=s)\/s.c.p i=0
 at_:∀ j,j≠i->t.at_ j=s.at_ j
theorem Holds.room {s:PP} {f:Int->List UInt8} (h:Holds s f) (hf:s.gap=none->s.c.free=true):∃ i t,Roomed s f i t:=by
 cases hg:s.gap with
 | some i =>
   obtain ⟨h1,h2⟩:=gap_some hg;refine ⟨i,s,?_,h1,h2,rfl,h,rfl,fun _ _ ho=>ho,rfl,Or.inl ⟨hg,rfl⟩,fun _ _=>rfl⟩;unfold PP.room;rw [hg]
 | none =>
   have hfr:=hf hg;obtain ⟨r,hw,_,g⟩:=CS.way_of h.ch hfr;obtain ⟨v1,v2,v3⟩:=CS.vic_of hw;have hi:r.1<s.m:=by
    have:=g.lt;rw [h.cn] at this;exact this
   have hne:=gap_none hg r.1 hi;have e1:s.c.vicI.toNat=r.1:=by rw [v1];rfl
   have hc:Holds { s with c:=s.c.vicS } f:=h.clock ((CS.vicS_n h.ch).trans h.cn) (by
    rw [v3,g.h_,g.n_];exact Nat.mod_lt _ (by have:=h.ch;omega))
   have hp:s.c.vicS.p=s.c.p:=by rw [v3];exact g.p_
   cases hd:s.d r.1 with
   | true =>
     obtain ⟨w1,w2,w3,w4⟩:=hc.wrote hi hne;have hv:=w2.void (fun _=>w4);refine ⟨r.1,(PP.wrote { s with c:=s.c.vicS } r.1).lay r.1 (-1) [] false,?_,hi,?_,rfl,hv,?_,fun n hn ho j hj=>?_,hp,Or.inr g.p0,fun j hj=>?_⟩
     ·unfold PP.room
      rw [hg];simp only [hfr,if_true,e1,hd];rw [if_pos w1];rfl
     ·show (if r.1=r.1 then (-1:Int) else _) = -1
      rw [if_pos rfl]
     ·show (PP.wrote { s with c:=s.c.vicS } r.1).k.size=_
      rw [w3];rfl
     ·show (if j=r.1 then (-1:Int) else s.at_ j)≠n
      split
      ·exact (has_ne hn).symm
      ·exact ho j hj
     ·show (if j=r.1 then (-1:Int) else s.at_ j)=_
      rw [if_neg hj]
   | false =>
     have hv:=hc.void (fun _=>h.clean r.1 hi hne hd);refine ⟨r.1,PP.lay { s with c:=s.c.vicS } r.1 (-1) [] false,?_,hi,?_,rfl,hv,rfl,fun n hn ho j hj=>?_,hp,Or.inr g.p0,fun j hj=>?_⟩
     ·unfold PP.room
      rw [hg];simp only [hfr,if_true,e1,hd];rfl
     ·show (if r.1=r.1 then (-1:Int) else _) = -1
      rw [if_pos rfl]
     ·show (if j=r.1 then (-1:Int) else s.at_ j)≠n
      split
      ·exact (has_ne hn).symm
      ·exact ho j hj
     ·show (if j=r.1 then (-1:Int) else s.at_ j)=_
      rw [if_neg hj]
structure Got (s:PP) (f:Int->List UInt8) (n:Int) (i:Nat) (t:PP):Prop where
 eq:s.get n=(0,f n,t)
 holds:Holds t f
 m_:t.m=s.m
 size:t.k.size=s.k.size
 p_:t.c.p=s.c.p
 lt:i<s.m
 here:t.at_ i=n
 at_:∀ j,j≠i->t.at_ j=s.at_ j
 from_:(s.at_ i=n/\s.find n=some i)\/(s.find n=none/\(s.gap=some i\/s.c.p i=0))
theorem Holds.get {s:PP} {f:Int->List UInt8} (h:Holds s f) {n:Int} (hn:s.k.has n=true) (hf:s.find n=none->s.gap=none->s.c.free=true):∃ i t,Got s f n i t:=by
 cases hs:s.find n with
 | some i =>
   obtain ⟨h1,h2,h3⟩:=find_some hs;refine ⟨i,s.used i,?_,h.used i,rfl,rfl,useS_p _ _,h1,h2,fun _ _=>rfl,Or.inl ⟨h2,hs⟩⟩;unfold PP.get;rw [hs];show (0,s.b i,s.used i)=_;rw [h.hand i h1 (by rw [h2];exact has_ne hn),h2]
 | none =>
   have h0:=(s.k.has_at n).1 hn;have hno:=find_none hs h0.1;obtain ⟨r1,r2⟩:=h.well.read hn;obtain ⟨i,t,r⟩:=h.room (hf hs);have ho:=h.out n hn hno;have hk:t.k.has n=true:=by
    rw [t.k.has_at,r.size];exact h0
   have hl:=r.holds.fill (n:=n) r.void hk (r.held n hn hno);refine ⟨i,(t.lay i n (f n) false).used i,?_,hl.used i,r.m_,r.size,(useS_p _ _).trans r.p_,r.lt,?_,fun j hj=>?_,Or.inr ⟨hs,?_⟩⟩
   ·unfold PP.get
    rw [hs,r.eq];simp only [r1,if_true,r2,ho]
   ·show (if i=i then n else _)=n
    rw [if_pos rfl]
   ·show (if j=i then n else t.at_ j)=_
    rw [if_neg hj,r.at_ j hj]
   ·rcases r.go_ with g | g
    ·exact Or.inl g.1
    ·exact Or.inr g
theorem Holds.put {s:PP} {f:Int->List UInt8} (h:Holds s f) {n:Int} (hn:s.k.has n=true) {l:List UInt8} (hl:l.length<=1024) (hf:s.find n=none->s.gap=none->s.c.free=true) :
 ∃ t,s.put n l=(0,t)/\Holds t (upd f n l)/\t.m=s.m/\t.k.size=s.k.size/\t.c.p=s.c.p:=by
 have hb:s.k.bad n l=false:=by
  unfold PS.bad;rw [hn];simp;omega
 cases hs:s.find n with
 | some i =>
   obtain ⟨h1,h2,h3⟩:=find_some hs;refine ⟨(s.lay i n l true).used i,?_,(h.putAt h1 hn (Or.inl h2) hl).used i,rfl,rfl,useS_p _ _⟩;unfold PP.put;rw [hs,hb];rfl
 | none =>
   have h0:=(s.k.has_at n).1 hn;have hno:=find_none hs h0.1;obtain ⟨i,t,r⟩:=h.room (hf hs);have hk:t.k.has n=true:=by
    rw [t.k.has_at,r.size];exact h0
   refine ⟨(t.lay i n l true).used i,?_,(r.holds.putAt (by rw [r.m_];exact r.lt) hk (Or.inr ⟨r.void,r.held n hn hno⟩) hl).used i,r.m_,r.size,(useS_p _ _).trans r.p_⟩;unfold PP.put;rw [hs,hb,r.eq];rfl
theorem Holds.loose {s:PP} {f:Int->List UInt8} (h:Holds s f) (hp:∀ j,s.c.p j=0):s.c.free=true:=by
 rw [CS.free_iff];exact ⟨s.c.h,h.ch,hp _⟩
end Go.Proofs.YtfiflinbicbedaaGreat.PP
namespace Go.Proofs.YtfiflinbicbedaaGreat.PP
end Go.Proofs.YtfiflinbicbedaaGreat.PP
namespace Go.Proofs.YtfiflinbicbedaaGreat
open Go.RowKit Go.Maps
def NP (f:Int->Bool):Int->Option Value:=fun p=>if f p then some (.agg #[]) else none
theorem qy3 (f:Int->Bool) (p:Int):upd (NP f) p (some (.agg #[]))=NP (fun q=>if q=p then true else f q):=by
 funext q;unfold upd NP;by_cases h:q=p
 ·simp [h]
 ·simp [h]
theorem qy4 (f:Int->Bool) (p:Int):upd (NP f) p none=NP (fun q=>if q=p then false else f q):=by
 funext q;unfold upd NP;by_cases h:q=p
 ·simp [h]
 ·simp [h]
section
variable {w w':World} {b:Nat} {f:Int->Option Value}
theorem qH3 (w:World):(zeroValue 184).run Tryz.prog w = .ok (.agg #[]) w:=by kernel_rfl
/-- v, ok := m[i] -/
theorem Zl.lookU (h:Zl w b f) {i:Int} (h1 : -9223372036854775808<=i) (h2:i<=9223372036854775807) :
 (Instr.lookup 89 (.map (some b)) (.int .i64 i) true).run Tryz.prog w = .ok (.tuple #[(f i).getD (.agg #[]),.bool (f i).isSome]) w:=by
 obtain ⟨n,es,ho,hk,hf⟩:=h;obtain ⟨v,ps,hrun,hv⟩:=ho.look_ok Vt Tryz.underlying89 (qH3 w) (zd := .held (.agg #[])) (zp:=[]) rfl (BQ h1 h2);obtain ⟨es',e',hp,_⟩:=ho.entries Vt;injection e' with e'
 subst e';rw [hrun];have hv':DataW.held v=(DataW.map es).atKey (.int .i64 i) (.held (.agg #[])):=by
  unfold BU at hv;injection hv with hv
  injection hv
 cases hfi:f i with
 | some u =>
   have hm:=(hf i u).1 hfi;rw [qu8 hp (Hy i) hm] at hv';injection hv' with hv'
   rw [qy0 (Hy i) hm,hv'];rfl
 | none =>
   have hn:Maps.has (DataW.map es) (.int .i64 i)=false:=by
    cases hh:Maps.has (DataW.map es) (.int .i64 i) with
    | false=>rfl
    | true =>
      obtain ⟨d,hd⟩:=qc8 hh;obtain ⟨j,u,e1,_⟩:=hk _ hd;injection e1 with e2 e3
      subst e3;rw [(hf i u).2 hd] at hfi;cases hfi
   rw [Maps.atKey_of_not_has hn] at hv';injection hv' with hv'
   rw [hn,hv'];rfl
/-- m[i] = v -/
theorem Zl.putU (h:Zl w b f) {i:Int} (h1:0<=i) (h2:i<4096) (v:Value) :
 ∃ w',(Instr.mapUpdate 89 (.map (some b)) (.int .i64 i) v).run Tryz.prog w = .ok () w'/\Zl w' b (upd f i (some v))/\w.grownBy w' (some b):=by
 obtain ⟨n,es,ho,hk,hf⟩:=h;obtain ⟨es',e',hp,_⟩:=ho.entries Vt;injection e' with e'
 subst e';have hl:=qU0 hp hk;obtain ⟨w',hrun,ho',hg⟩:=(zh2 ho).update Vt Tryz.underlying89 (by unfold maxLen;omega) (BQ (i:=i) (by omega) (by omega)) (val:=v) (d := .held v) (ps:=[]) rfl;refine ⟨w',hrun,⟨_,DataW.insert (.int .i64 i,.held v) (es.filter fun p => !p.1.sameKey (.int .i64 i)),ho',?_,?_⟩,hg⟩
 ·intro p hm
  rcases Gu.1 hm with rfl | hm
  ·exact ⟨i,v,rfl,h1,h2⟩
  ·exact hk p (wf8.1 hm).1
 ·intro j u
  rw [Gu,wf8];unfold upd;by_cases hj:j=i
  ·subst hj
   rw [if_pos rfl,WideAt.sameKey_self (Hy j)];constructor
   ·intro e
    injection e with e
    subst e;exact Or.inl rfl
   ·rintro (e | ⟨_,e⟩)
    ·obtain rfl:u=v:=DataW.held.inj (congrArg Prod.snd e)
     rfl
    ·cases e
  ·rw [if_neg hj,hf,Maps.sameKey_ne (a:=Lit.int .i64 j) (b:=Lit.int .i64 i) (fun e=>hj (by injection e))]
   constructor
   ·intro e
    exact Or.inr ⟨e,rfl⟩
   ·rintro (e | ⟨e,_⟩)
    ·injection e with e
     injection e with _ e
     exact absurd e hj
    ·exact e
/-- delete(m, i) -/
theorem Zl.delU (h:Zl w b f) {i:Int} (h1 : -9223372036854775808<=i) (h2:i<=9223372036854775807) (ty:TypeId) :
 ∃ w',(Builtin.delete_ #[89,3] ty #[.map (some b),.int .i64 i]).run Tryz.prog w = .ok (.tuple #[]) w'/\Zl w' b (upd f i none)/\w.grownBy w' (some b):=by
 obtain ⟨n,es,ho,hk,hf⟩:=h;obtain ⟨w',hrun,ho',hg⟩:=ho.drop Vt Tryz.underlying89 (BQ h1 h2) ty;refine ⟨w',hrun,⟨_,es.filter fun p => !p.1.sameKey (.int .i64 i),ho',?_,?_⟩,hg.grown⟩
 ·intro p hm
  exact hk p (wf8.1 hm).1
 ·intro j u
  rw [wf8];unfold upd;by_cases hj:j=i
  ·subst hj
   rw [if_pos rfl,WideAt.sameKey_self (Hy j)];simp
  ·rw [if_neg hj,hf,Maps.sameKey_ne (a:=Lit.int .i64 j) (b:=Lit.int .i64 i) (fun e=>hj (by injection e))]
   simp
end
end Go.Proofs.YtfiflinbicbedaaGreat
namespace Go.Proofs.YtfiflinbicbedaaGreat
theorem Yb (a:ByteArray):a.toList=a.data.toList:=by
 obtain ⟨⟨l⟩⟩:=a;exact ByteArray.toList_mk l
theorem VT {a b:ByteArray} (h:a.toList=b.toList):a=b:=by
 obtain ⟨⟨l⟩⟩:=a;obtain ⟨⟨m⟩⟩:=b;have h1:l=m:=(ByteArray.toList_mk l).symm.trans (h.trans (ByteArray.toList_mk m));rw [h1]
theorem Qn (a:ByteArray):a.toList.length=a.size:=by
 rw [Yb];rfl
theorem Yh (a:List UInt8):Op.bytesLess a a=false:=by
 induction a with
 | nil=>rfl
 | cons x l ih=>simp [Op.bytesLess,ih]
theorem Qq:∀ a b c:List UInt8,Op.bytesLess a b=true->Op.bytesLess b c=true->Op.bytesLess a c=true
 | a,[],c,h,_=>by cases a<;>simp [Op.bytesLess] at h
 | a,y::b,[],_,h=>by simp [Op.bytesLess] at h
 | [],y::b,z::c,_,_=>by simp [Op.bytesLess]
 | x::a,y::b,z::c,h,k=>by
   simp only [Op.bytesLess,Bool.or_eq_true,Bool.and_eq_true,decide_eq_true_eq,beq_iff_eq] at h k ⊢;rcases h with h | ⟨rfl,h⟩
   ·rcases k with k | ⟨rfl,k⟩
    ·exact Or.inl (UInt8.lt_trans h k)
    ·exact Or.inl h
   ·rcases k with k | ⟨rfl,k⟩
    ·exact Or.inl k
    ·exact Or.inr ⟨rfl,Qq a b c h k⟩
theorem Yv:∀ a b:List UInt8,Op.bytesLess a b=true\/a=b\/Op.bytesLess b a=true
 | [],[]=>Or.inr (Or.inl rfl)
 | [],_::_=>Or.inl rfl
 | _::_,[]=>Or.inr (Or.inr rfl)
 | x::a,y::b=>by
   simp only [Op.bytesLess,Bool.or_eq_true,Bool.and_eq_true,decide_eq_true_eq,beq_iff_eq,List.cons.injEq];have tri:x=y\/x<y\/y<x:=by
    by_cases e:x=y
    ·exact Or.inl e
    ·exact Or.inr (UInt8.lt_or_lt_of_ne e)
   rcases tri with rfl | h | h
   ·rcases Yv a b with h | h | h
    ·exact Or.inl (Or.inr ⟨rfl,h⟩)
    ·exact Or.inr (Or.inl ⟨rfl,h⟩)
    ·exact Or.inr (Or.inr (Or.inr ⟨rfl,h⟩))
   ·exact Or.inl (Or.inl h)
   ·exact Or.inr (Or.inr (Or.inl h))
theorem Xi (a b:List UInt8) (h:Op.bytesLess a b=true):Op.bytesLess b a=false:=by
 cases k:Op.bytesLess b a with
 | false=>rfl
 | true =>
   have:=Qq a b a h k;rw [Yh] at this;cases this
end Go.Proofs.YtfiflinbicbedaaGreat
namespace Go.Proofs.YtfiflinbicbedaaGreat
def Vr (w:Nat):Nat:=w / 2 ^^^ (if w % 2=1 then 3988292384 else 0)
def Ur:Nat->Nat->Nat
 | 0,w=>w
 | k+1,w=>Vr (Ur k w)
def Xu (w:Nat):Nat:=Ur 8 w
def qu0 (w:Nat) (c:UInt8):Nat:=Xu (w ^^^ c.toNat)
def VH (w:Nat) (l:List UInt8):Nat:=l.foldl qu0 w
def inv (w:Nat):Nat:=w ^^^ 4294967295
def UM (s:Nat) (l:List UInt8):Nat:=inv (VH (inv s) l)
theorem qH4 (a b:Nat):(a ^^^ b) / 2=a / 2 ^^^ b / 2:=by
 have:=Nat.shiftRight_xor_distrib (a:=a) (b:=b) (i:=1);simpa [Nat.shiftRight_eq_div_pow] using this
theorem qX8 (a b:Nat):(a ^^^ b) % 2=(a % 2+b % 2) % 2:=by
 have h:(a ^^^ b) % 2=(a % 2 ^^^ b % 2) % 2:=by
  have:=Nat.xor_mod_two_pow (a:=a) (b:=b) (n:=1);rw [Nat.pow_one] at this;rw [this];have h1:a % 2=0\/a % 2=1:=by omega
  have h2:b % 2=0\/b % 2=1:=by omega
  rcases h1 with h1 | h1<;>rcases h2 with h2 | h2<;>rw [h1,h2]<;>rfl
 rw [h];have h1:a % 2=0\/a % 2=1:=by omega
 have h2:b % 2=0\/b % 2=1:=by omega
 rcases h1 with h1 | h1<;>rcases h2 with h2 | h2<;>rw [h1,h2]<;>rfl
theorem xor4 (a b c d:Nat):(a ^^^ b) ^^^ (c ^^^ d)=(a ^^^ c) ^^^ (b ^^^ d):=by
 rw [Nat.xor_assoc,<- Nat.xor_assoc b c d,Nat.xor_comm b c,Nat.xor_assoc c b d,<- Nat.xor_assoc]
theorem qB7 (a b:Nat):Vr (a ^^^ b)=Vr a ^^^ Vr b:=by
 unfold Vr;rw [qH4,qX8,xor4];congr 1;have h1:a % 2=0\/a % 2=1:=by omega
 have h2:b % 2=0\/b % 2=1:=by omega
 rcases h1 with h1 | h1<;>rcases h2 with h2 | h2<;>rw [h1,h2]<;>rfl
theorem FM:∀ (k a b:Nat),Ur k (a ^^^ b)=Ur k a ^^^ Ur k b
 | 0,_,_=>rfl
 | k+1,a,b=>by
   simp only [Ur];rw [FM k a b,qB7]
theorem qp0 (a b:Nat):Xu (a ^^^ b)=Xu a ^^^ Xu b:=FM 8 a b
theorem Xh (m:Nat):Vr (m*2)=m:=by
 unfold Vr;rw [if_neg (by omega),Nat.xor_zero];omega
theorem qg0 (m:Nat):Xu (m*256)=m:=by
 unfold Xu;simp only [Ur];rw [show m*256=m*128*2 from by omega,Xh,show m*128=m*64*2 from by omega,Xh,show m*64=m*32*2 from by omega,Xh,
  show m*32=m*16*2 from by omega,Xh,show m*16=m*8*2 from by omega,Xh,show m*8=m*4*2 from by omega,Xh,
  show m*4=m*2*2 from by omega,Xh,Xh]
theorem zj6 (w:Nat):w=(w % 256) ^^^ (w / 256*256):=by
 apply Nat.eq_of_testBit_eq;intro i;rw [Nat.testBit_xor,show (256:Nat)=2 ^ 8 from rfl,Nat.testBit_mod_two_pow,Nat.mul_comm,Nat.testBit_two_pow_mul];by_cases h:i<8
 ·have h':¬ i ≥ 8:=by omega
  simp only [h,h',decide_true,decide_false,Bool.false_and,Bool.true_and,Bool.xor_false]
 ·have h':i ≥ 8:=by omega
  have e:8+(i - 8)=i:=by omega
  simp only [h,h',decide_true,decide_false,Bool.false_and,Bool.true_and,Bool.false_xor];rw [<- Nat.shiftRight_eq_div_pow,Nat.testBit_shiftRight,e]
theorem qt8 (w:Nat) (c:UInt8):qu0 w c=Xu (w % 256 ^^^ c.toNat) ^^^ w / 256:=by
 unfold qu0;have e:w ^^^ c.toNat=(w % 256 ^^^ c.toNat) ^^^ (w / 256*256):=by
  have h:=zj6 w;generalize w % 256=lo at h ⊢;generalize w / 256*256=hi at h ⊢;rw [h,Nat.xor_assoc,Nat.xor_comm hi,<- Nat.xor_assoc]
 rw [e,qp0,qg0]
theorem TV {a b:Nat} (ha:a<4294967296) (hb:b<4294967296):a ^^^ b<4294967296:=Nat.xor_lt_two_pow (n:=32) ha hb
theorem qX9 {a b:Nat} (ha:a<256) (hb:b<256):a ^^^ b<256:=Nat.xor_lt_two_pow (n:=8) ha hb
theorem qL7 {w:Nat} (h:w<4294967296):Vr w<4294967296:=by
 unfold Vr;refine TV (by omega) ?_;split<;>omega
theorem SX:∀ (k:Nat) {w:Nat},w<4294967296->Ur k w<4294967296
 | 0,_,h=>h
 | k+1,_,h=>qL7 (SX k h)
theorem FN {w:Nat} (h:w<4294967296):Xu w<4294967296:=SX 8 h
theorem zd9 {w:Nat} (h:w<4294967296) (c:UInt8):qu0 w c<4294967296:=by
 have:=UInt8.toNat_lt c;exact FN (TV h (by omega))
theorem GL:∀ (l:List UInt8) {w:Nat},w<4294967296->VH w l<4294967296
 | [],_,h=>h
 | c::l,_,h=>GL l (zd9 h c)
theorem qr8 {w:Nat} (h:w<4294967296):inv w<4294967296:=TV h (by omega)
theorem zd8 {s:Nat} (h:s<4294967296) (l:List UInt8):UM s l<4294967296:=qr8 (GL l (qr8 h))
theorem ql8 (w:Nat) (a b:List UInt8):VH w (a++b)=VH (VH w a) b:=List.foldl_append
theorem qF8 (w:Nat) (a:List UInt8) (c:UInt8):VH w (a++[c])=qu0 (VH w a) c:=by
 rw [ql8];rfl
theorem qF7 {l:List UInt8} {k:Nat} {z:UInt8} (w:Nat) (h:l[k]?=some z):VH w (l.take (k+1))=qu0 (VH w (l.take k)) z:=by
 rw [wc2,h,wd0,qF8]
end Go.Proofs.YtfiflinbicbedaaGreat
namespace Go.Proofs.YtfiflinbicbedaaGreat
def be4 (x:Nat):List UInt8:=[UInt8.ofNat (x / 16777216),UInt8.ofNat (x / 65536),UInt8.ofNat (x / 256),UInt8.ofNat x]
def be (d x:Nat):List UInt8:=(be4 x).drop (4 - d)
theorem qu7 (x:Nat):(be4 x).length=4:=rfl
theorem Zq {d:Nat} (x:Nat) (h:d<=4):(be d x).length=d:=by
 unfold be;rw [wc9,qu7];omega
theorem ze6 (x:Nat):be 4 x=be4 x:=rfl
theorem qV4 (x:Nat):be 1 x=[UInt8.ofNat x]:=rfl
theorem qV3 (x:Nat):be 2 x=[UInt8.ofNat (x / 256),UInt8.ofNat x]:=rfl
def FOk (k p:Int) (n:Nat):Prop:=1<=k/\k<=4/\0<=p/\p<=2147483647/\n<=1000
instance (k p:Int) (n:Nat):Decidable (FOk k p n):=by unfold FOk;infer_instance
def bod (k p:Int) (l:List UInt8):List UInt8:=be 1 k.toNat++be 4 p.toNat++be 2 l.length++l
def frm (k p:Int) (l:List UInt8):List UInt8:=bod k p l++be 4 (UM 0 (bod k p l))
theorem YK (k p:Int) (l:List UInt8):(bod k p l).length=l.length+7:=by
 unfold bod;rw [wa6,wa6,wa6,Zq _ (by omega),Zq _ (by omega),Zq _ (by omega)];omega
theorem YV (k p:Int) (l:List UInt8):(frm k p l).length=l.length+11:=by
 unfold frm;rw [wa6,YK,Zq _ (by omega)]
def GH (b:List UInt8):Int:=((b.headD 0).toNat:Int)
def UX (b:List UInt8):List UInt8:=(b.take (b.length - 4)).drop 7
theorem qt7 (b:List UInt8):(UX b).length=b.length - 4 - 7:=by
 unfold UX;rw [wc9,wb8];omega
theorem zk7 {b:List UInt8} {z:UInt8} (h:b[0]?=some z):GH b=(z.toNat:Int):=by
 cases b with
 | nil=>simp at h
 | cons x b =>
   obtain rfl:x=z:=by simpa using h
   rfl
def IsF (p:Int) (b:List UInt8):Prop:=11<=b.length/\FOk (GH b) p (UX b).length/\frm (GH b) p (UX b)=b
instance (p:Int) (b:List UInt8):Decidable (IsF p b):=by unfold IsF;infer_instance
theorem qT4 (k p:Int) (l:List UInt8):frm k p l=UInt8.ofNat k.toNat::(be4 p.toNat++(be 2 l.length++(l++be4 (UM 0 (bod k p l))))):=by
 have e:bod k p l=UInt8.ofNat k.toNat::(be4 p.toNat++(be 2 l.length++l)):=by
  unfold bod;rw [qV4,ze6];simp
 have e2:frm k p l=bod k p l++be4 (UM 0 (bod k p l)):=rfl;generalize UM 0 (bod k p l)=x at *;rw [e2,e];simp
theorem qy2 {k p:Int} {l:List UInt8} (h0:0<=k) (h1:k<=255):GH (frm k p l)=k:=by
 rw [qT4];unfold GH;rw [List.headD_cons,Qx];omega
theorem qd3 (k p:Int) (l:List UInt8):UX (frm k p l)=l:=by
 unfold UX;rw [YV];unfold frm;rw [List.take_append_of_le_length (by rw [YK];omega),wa5 (by rw [YK];omega)];unfold bod;rw [List.drop_append_of_le_length (by simp [Zq]),wc6 (by simp [Zq]),we0]
theorem zb9 {k p:Int} {l:List UInt8} (h:FOk k p l.length):IsF p (frm k p l):=by
 have hk:GH (frm k p l)=k:=qy2 (by have:=h.1;omega) (by have:=h.2.1;omega);refine ⟨by rw [YV];omega,?_,?_⟩
 ·rw [hk,qd3]
  exact h
 ·rw [hk,qd3]
def Yk (z:Int):Nat:=(z % 4294967296).toNat
theorem qQ3 (z:Int):Yk z<4294967296:=by unfold Yk;omega
theorem qr3 (z:Int):((Yk z:Nat):Int)=z % 4294967296:=by unfold Yk;omega
def VQ (a b c d:UInt8):Nat:=((a.toNat*256+b.toNat)*256+c.toNat)*256+d.toNat
theorem za9 (a b c d:UInt8):VQ a b c d<4294967296:=by
 have:=Zh a;have:=Zh b;have:=Zh c;have:=Zh d;unfold VQ;omega
theorem QL {n:Nat} {a:UInt8} (h:n % 256=a.toNat):UInt8.ofNat n=a:=by
 apply UInt8.toNat_inj.1;rw [Qx];exact h
theorem qV5 (a b c d:UInt8):be4 (VQ a b c d)=[a,b,c,d]:=by
 have:=Zh a;have:=Zh b;have:=Zh c;have:=Zh d;unfold be4 VQ;rw [QL (a:=a) (by omega),QL (a:=b) (by omega),QL (a:=c) (by omega),QL (a:=d) (by omega)]
theorem qP0 {x:Nat} (h:x<4294967296):VQ (UInt8.ofNat (x / 16777216)) (UInt8.ofNat (x / 65536)) (UInt8.ofNat (x / 256)) (UInt8.ofNat x)=x:=by
 unfold VQ;rw [Qx,Qx,Qx,Qx];omega
end Go.Proofs.YtfiflinbicbedaaGreat
