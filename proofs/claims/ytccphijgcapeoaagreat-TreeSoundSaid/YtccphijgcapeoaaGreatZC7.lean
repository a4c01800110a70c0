/-
  A part of the proof: what its texts say stands at the head of each. Conditions: none.
-/
import Derived.Deep.QuietTactic
import Derived.BigQuiet
import Derived.Deep.Cut
import Derived.IntWalk
import Derived.Shelf.Abstract
import Derived.RegionTactic
import Derived.KernelRfl
import Derived.Test.YtccphijgcapeoaaGreatZC1
import Derived.Test.YtccphijgcapeoaaGreatZC5
import Derived.Test.YtccphijgcapeoaaGreatZC6

set_option maxRecDepth 20000
set_option maxHeartbeats 12800000
/-
  What node's Encode comes to.
-/
namespace Go.Proofs.YtccphijgcapeoaaGreat
open Go.RowKit
theorem encL_next:∀ {ks vs:List (List UInt8)} {k:Nat} {a b:List UInt8},ks[k]?=some a→vs[k]?=some b→ND.encL (ks.take (k+1)) (vs.take (k+1))=ND.encL (ks.take k) (vs.take k)++ND.tx a++ND.tx b
 | [],_,_,_,_,h,_=>by simp at h
 | _::_,[],_,_,_,_,h=>by simp at h
 | x::ks,y::vs,0,a,b,h,g=>by
   obtain rfl:x=a:=by simpa using h
   obtain rfl:y=b:=by simpa using g
   simp [ND.encL]
 | x::ks,y::vs,k+1,a,b,h,g=>by
   have:=encL_next (ks:=ks) (vs:=vs) (k:=k) (by simpa using h) (by simpa using g)
   rw [List.take_succ_cons,List.take_succ_cons,ND.encL_cons,this,List.take_succ_cons,List.take_succ_cons,ND.encL_cons]
   simp [List.append_assoc]
theorem encI_next:∀ {ks:List (List UInt8)} {cs:List Int} {k:Nat} {a:List UInt8} {b:Int},ks[k]?=some a→cs[k]?=some b→ND.encI (ks.take (k+1)) (cs.take (k+1))=ND.encI (ks.take k) (cs.take k)++ND.tx a++ND.kd b
 | [],_,_,_,_,h,_=>by simp at h
 | _::_,[],_,_,_,_,h=>by simp at h
 | x::ks,y::vs,0,a,b,h,g=>by
   obtain rfl:x=a:=by simpa using h
   obtain rfl:y=b:=by simpa using g
   simp [ND.encI]
 | x::ks,y::vs,k+1,a,b,h,g=>by
   have:=encI_next (ks:=ks) (cs:=vs) (k:=k) (by simpa using h) (by simpa using g)
   rw [List.take_succ_cons,List.take_succ_cons,ND.encI_cons,this,List.take_succ_cons,List.take_succ_cons,ND.encI_cons]
   simp [List.append_assoc]
theorem tsz_take_le (l:List (List UInt8)) (k:Nat):ND.tsz (l.take k)≤ND.tsz l:=by
 unfold ND.tsz
 have:=tsl_take_le l k
 rw [List.length_take]
 omega
def upL (s:ND) (k:Nat):List UInt8:=be 2 s.keys.length++ND.encL (s.keys.take k) (s.vals.take k)
def upI (s:ND) (k:Nat):List UInt8:=be 2 s.keys.length++ND.kd (s.kids.headD 0)++ND.encI (s.keys.take k) ((s.kids.drop 1).take k)
theorem upL_length {s:ND} (ho:s.ok=true) (hl:s.leaf=true) (k:Nat):(upL s k).length≤s.size:=by
 obtain ⟨h1,_,_⟩:=ND.ok_leaf ho hl
 have h2:=tsz_take_le s.keys k
 have h3:=tsz_take_le s.vals k
 unfold upL
 rw [List.length_append,be_length _ (by omega),ND.encL_length _ _ (by rw [List.length_take,List.length_take,h1])]
 unfold ND.size
 omega
theorem upI_length {s:ND} (ho:s.ok=true) (hl:s.leaf=false) (k:Nat):(upI s k).length≤s.size:=by
 obtain ⟨_,h1,_,_⟩:=ND.ok_inner ho hl
 have h2:=tsz_take_le s.keys k
 unfold upI
 rw [List.length_append,List.length_append,be_length _ (by omega),ND.kd_length,ND.encI_length _ _ (by rw [List.length_take,List.length_take,List.length_drop];omega),List.length_take,List.length_drop]
 unfold ND.size
 omega
theorem upL_zero (s:ND):upL s 0=be 2 s.keys.length:=by simp [upL,ND.encL]
theorem upI_zero {s:ND} {z:Int} (h:s.kids[0]?=some z):upI s 0=be 2 s.keys.length++ND.kd z:=by
 have:s.kids.headD 0=z:=by cases hs:s.kids with
  | nil=>rw [hs] at h;simp at h
  | cons x l=>rw [hs] at h;simpa using h
 unfold upI
 rw [this]
 simp [ND.encI]
theorem upL_next {s:ND} {k:Nat} {a b:List UInt8} (h:s.keys[k]?=some a) (g:s.vals[k]?=some b):upL s (k+1)=upL s k++ND.tx a++ND.tx b:=by
 unfold upL
 rw [encL_next h g]
 simp [List.append_assoc]
theorem upI_next {s:ND} {k:Nat} {a:List UInt8} {z:Int} (h:s.keys[k]?=some a) (g:s.kids[k+1]?=some z):upI s (k+1)=upI s k++ND.tx a++ND.kd z:=by
 have g':(s.kids.drop 1)[k]?=some z:=by rw [List.getElem?_drop,Nat.add_comm];exact g
 unfold upI
 rw [encI_next h g']
 simp [List.append_assoc]
theorem upL_all {s:ND} (ho:s.ok=true) (hl:s.leaf=true):upL s s.keys.length=s.enc:=by
 obtain ⟨h1,_,_⟩:=ND.ok_leaf ho hl
 unfold upL ND.enc ND.body
 rw [if_pos hl,List.take_length,← h1,List.take_length]
theorem upI_all {s:ND} (ho:s.ok=true) (hl:s.leaf=false):upI s s.keys.length=s.enc:=by
 obtain ⟨_,h1,_,_⟩:=ND.ok_inner ho hl
 unfold upI ND.enc ND.body
 rw [if_neg (by rw [hl];decide),List.take_length,List.append_assoc]
 cases hs:s.kids with
 | nil=>rw [hs] at h1;simp at h1
 | cons x l =>
   rw [hs] at h1
   dsimp only [List.headD,List.drop]
   rw [List.take_of_length_le (by simp at h1;omega)]
theorem nkey_small {s:ND} {k:Nat} {a:ByteArray} (ho:s.ok=true) (h:s.keys[k]?=some a.toList):a.size≤1000000:=by
 have:=ND.ok_keys ho _ (List.mem_of_getElem? h)
 rw [toList_length] at this
 omega
theorem nval_small {s:ND} {k:Nat} {a:ByteArray} (ho:s.ok=true) (h:s.vals[k]?=some a.toList):a.size≤1000000:=by
 have:=ND.ok_vals ho _ (List.mem_of_getElem? h)
 rw [toList_length] at this
 omega
theorem be2_mod {n:Nat} (h:n≤1000000):be 2 (mod32 (n:Int))=be 2 n:=by
 rw [show mod32 (n:Int)=n by unfold mod32;omega]
theorem nown_low {w:World} {base base':Nat} {v:Value} {l:List UInt8} (h:Own w base v l) (hb:base'≤base):Own w base' v l:=by
 unfold Own at h ⊢
 refine ⟨h.1,?_⟩
 rcases h.2 with ⟨h1,h2⟩ | ⟨g,cap,cur,h1,h2,h3⟩
 ·exact Or.inl ⟨h1,h2⟩
 ·exact Or.inr ⟨g,cap,cur,h1,by omega,h3⟩
theorem cell_on {a w:World} {p:Addr} {v:Value} (hb:Below a.heap.size a w) (h:a.cell? p=some v):w.cell? p=some v:=(hb.cell (World.block_lt_of_cell? _ _ h)).trans h
def NEncEnd (w:World) (s:ND) (e:Ending) (w':World):Prop :=
 ∃ v,e = .returned (.tuple #[.int .i64 s.encK,v,.int .i64 s.encE])∧Own w' w.heap.size v s.encB∧Below w.heap.size w w'
theorem nenc_bad {w w':World} {s:ND} (h:s.ok=false) (hb:Below w.heap.size w w'):NEncEnd w s (.returned (.tuple #[.int .i64 0,.slice none 0 0,.int .i64 100])) w':=by
 have e1:s.encE=100:=if_neg (by rw [h];decide)
 have hf:s.fits=false:=by unfold ND.fits;rw [h];rfl
 have e2:s.encK=0:=if_neg (by rw [hf];decide)
 have e3:s.encB=[]:=if_neg (by rw [hf];decide)
 exact ⟨_,by rw [e1,e2],by rw [e3];exact own_nil _ _,hb⟩
theorem nenc_big {w w':World} {s:ND} (h:s.ok=true) (hz:¬ s.size≤1000) (hb:Below w.heap.size w w'):NEncEnd w s (.returned (.tuple #[.int .i64 0,.slice none 0 0,.int .i64 101])) w':=by
 have e1:s.encE=101:=by unfold ND.encE;rw [if_pos h,if_neg hz]
 have hf:s.fits=false:=by unfold ND.fits;rw [h,decide_eq_false hz];rfl
 have e2:s.encK=0:=if_neg (by rw [hf];decide)
 have e3:s.encB=[]:=if_neg (by rw [hf];decide)
 exact ⟨_,by rw [e1,e2],by rw [e3];exact own_nil _ _,hb⟩
theorem nenc_good {w w':World} {s:ND} {v:Value} {base:Nat} (h:s.ok=true) (hz:s.size≤1000) (ho:Own w' base v s.enc) (hle:w.heap.size≤base) (hb:Below w.heap.size w w') :
 NEncEnd w s (.returned (.tuple #[.int .i64 (if s.leaf then 2 else 3),v,.int .i64 0])) w':=by
 have e1:=ND.encE_fits h hz
 exact ⟨v,by rw [e1,ND.encK_of e1],by rw [ND.encB_of e1];exact nown_low ho hle,hb⟩
theorem ncheck_good {s:ND} (h:s.ok=true):s.checkE=0:=if_pos h
theorem ncheck_bad {s:ND} (h:s.ok=false):s.checkE=100:=if_neg (by rw [h];decide)
theorem nencode_any (lf:Bool) (A:Option Addr) (n c:Nat) (B:Option Addr) (m d:Nat) (C:Option Addr) (k e:Nat) (s:ND) (w:World) (h:Nd w A n c B m d C k e s) (hl:s.leaf=lf) (hz:s.size≤1000000) :
 Calls Tryz.prog 179 #[.agg #[.bool lf,.slice A n c,.slice B m d,.slice C k e]] w (NEncEnd w s):=by
 have HB:=Lib.hid (nbox_new w (.bool lf) (.slice A n c) (.slice B m d) (.slice C k e))
 have b1:=below_one w (.cells #[.bool lf,.slice A n c,.slice B m d,.slice C k e] 68)
 have B1:=Lib.hid b1
 have H1:=Lib.hid (h.kept b1)
 have hn:n≤1000000:=by have:=h.kn;unfold ND.size ND.tsz at hz;omega
 have hm:m≤1000000:=by have:=h.vn;unfold ND.size ND.tsz at hz;omega
 have hk:k≤1000000:=by have:=h.cn;unfold ND.size ND.tsz at hz;omega
 have HKN:=Lib.hid h.kn
 have HVN:=Lib.hid h.vn
 have HCN:=Lib.hid h.cn
 have HL:=Lib.hid hl
 clear b1 h hl
 go_enter Tryz.func179,Tryz.ntmps179
 go_upto_region 1 with fail
 generalize w.alloc (.cells #[.bool lf,.slice A n c,.slice B m d,.slice C k e] 68)=w1 at *
 obtain ⟨c0,c1,c2,c3⟩:=HB.out.cells
 go_wp2_with fail
 refine (ncheck_any lf A n c B m d C k e s w1 H1.out HL.out (by omega) (by omega) (by omega)).mono ?_
 rintro e2 w2 ⟨rfl,b2⟩
 have B2:=Lib.hid (B1.out.trans (b2.mono B1.out.size))
 have HB2:=Lib.hid (HB.out.kept b2)
 have H2:=Lib.hid (H1.out.kept b2)
 clear b2 c0 c1 c2 c3 HB H1
 obtain ⟨c0,c1,c2,c3⟩:=HB2.out.cells
 cases hk:s.ok with
 | false =>
   rw [ncheck_bad hk]
   have HE:=Lib.hid (nenc_bad hk B2.out)
   clear hk
   go_wp2_with fail
   go_ret3
   exact HE.out
 | true =>
   rw [ncheck_good hk]
   have HO:=Lib.hid hk
   clear hk
   go_wp2_with fail
   refine (nsize_any lf A n c B m d C k e s w2 H2.out (by omega)).mono ?_
   rintro e3 w3 ⟨rfl,b3⟩
   have B3:=Lib.hid (B2.out.trans (b3.mono B2.out.size))
   have HB3:=Lib.hid (HB2.out.kept b3)
   have H3:=Lib.hid (H2.out.kept b3)
   clear b3 c0 c1 c2 c3 HB2 H2
   obtain ⟨c0,c1,c2,c3⟩:=HB3.out.cells
   by_cases hbig:s.size≤1000
   case neg =>
    have HE:=Lib.hid (nenc_big HO.out hbig B3.out)
    have hb:1000<s.size:=by omega
    go_wp2_with fail
    go_ret3
    exact HE.out
   have HBig:=Lib.hid hbig
   have Bs:=B3.out.size
   go_wp2_with fail
   refine (nappTwo w3.heap.size (.slice none 0 0) [] (n:Int) w3 (own_nil _ _) (Nat.le_refl _) (by simp)).mono ?_
   rintro e4 w4 ⟨v4,rfl,o4,b4⟩
   rw [List.nil_append,be2_mod hn,← HKN.out] at o4
   have O4:=Lib.hid o4
   have B4:=Lib.hid b4
   clear o4 b4 c0 c1 c2 c3
   obtain ⟨c0,c1,c2,c3⟩:=(HB3.out.kept B4.out).cells
   cases lf with
   | true =>
     have hu:=fun j=>upL_length HO.out HL.out j
     have HU:=Lib.hid hu
     have HA:=Lib.hid (upL_all HO.out HL.out)
     have hmn:m=n:=by have:=(ND.ok_leaf HO.out HL.out).1;rw [HVN.out,HKN.out] at this;exact this
     subst hmn
     clear hu
     go_wp2_with fail
     go_loopw [6,28] (fun v i wr=>∃ j:Nat,j≤m∧i = .int .i64 j∧Hid (Own wr w3.heap.size v (upL s j))∧Hid (Below w3.heap.size w3 wr)) (fun _ i _=>m - (RowKit.intOf i).toNat)
     case atStart=>exact ⟨0,Nat.zero_le _,rfl,Lib.hid (by rw [upL_zero];exact O4.out),B4⟩
     case round =>
      obtain ⟨j,hj,rfl,HOj,HBj⟩:=hrel
      clear c0 c1 c2 c3
      obtain ⟨c0,c1,c2,c3⟩:=(HB3.out.kept HBj.out).cells
      by_cases hlt:j<m
      ·obtain ⟨b,off,s1,rfl,hv,f3⟩:=H3.out.ke.strAt hlt
       obtain ⟨b',off',s2,rfl,hv',g3⟩:=H3.out.va.strAt hlt
       have HN:=Lib.hid (upL_next hv hv')
       have z1:=nkey_small HO.out hv
       have z2:=nval_small HO.out hv'
       have z3:=HU.out j
       have z4:s1.size≤120:=by have:=ND.ok_keys HO.out _ (List.mem_of_getElem? hv);rw [toList_length] at this;exact this
       have HG:=Lib.hid g3
       have f0:=cell_on HBj.out f3
       clear hv hv' f3 g3
       go_wp2_with fail
       refine (nappText w3.heap.size _ (upL s j) s1 _ HOj.out HBj.out.size (by omega) z1).mono ?_
       rintro e5 w5 ⟨v5,rfl,o5,b5⟩
       have O5:=Lib.hid o5
       have B5:=Lib.hid (HBj.out.trans b5)
       have hz5:(upL s j++ND.tx s1.toList).length≤1200:=by rw [List.length_append,ND.tx_length,toList_length];omega
       clear o5 b5 c0 c1 c2 c3 f0
       obtain ⟨c0,c1,c2,c3⟩:=(HB3.out.kept B5.out).cells
       have g0:=cell_on B5.out HG.out
       go_wp2_with fail
       refine (nappText w3.heap.size _ _ s2 _ O5.out B5.out.size (by omega) z2).mono ?_
       rintro e6 w6 ⟨v6,rfl,o6,b6⟩
       rw [← HN.out] at o6
       have O6:=Lib.hid o6
       have B6:=Lib.hid (B5.out.trans b6)
       clear o6 b6 c0 c1 c2 c3 g0
       go_wp2_with fail
       go_roundw
       case rel=>exact ⟨j+1,by omega,by go_num,O6,B6⟩
       case measure=>simp [RowKit.intOf];omega
      ·obtain rfl:m=j:=by omega
       have o5:=HOj.out
       rw [← HKN.out,HA.out] at o5
       have HE:=Lib.hid (nenc_good HO.out HBig.out o5 Bs (B3.out.trans (HBj.out.mono Bs)))
       rw [HL.out] at HE
       clear o5
       go_wp2_with fail
       go_ret3
       exact HE.out
   | false =>
     have hu:=fun j=>upI_length HO.out HL.out j
     have HU:=Lib.hid hu
     have HA:=Lib.hid (upI_all HO.out HL.out)
     have hkn:k=n+1:=by have:=(ND.ok_inner HO.out HL.out).2.1;rw [HKN.out,HCN.out] at this;exact this
     subst hkn
     clear hu
     obtain ⟨bk,ok,z,rfl,hv0,f3⟩:=H3.out.ki.intAt (k:=0) (by omega)
     rw [Nat.add_zero] at f3
     have HZ:=Lib.hid (upI_zero hv0)
     have q0:=cell_on B4.out f3
     clear hv0 f3
     go_wp2_with fail
     refine (nappFour w3.heap.size _ _ z _ O4.out B4.out.size (by rw [be_length _ (by omega)];omega)).mono ?_
     rintro e5 w5 ⟨v5,rfl,o5,b5⟩
     rw [← HZ.out] at o5
     have O5:=Lib.hid o5
     have B5:=Lib.hid (B4.out.trans b5)
     clear o5 b5 c0 c1 c2 c3 q0
     obtain ⟨c0,c1,c2,c3⟩:=(HB3.out.kept B5.out).cells
     go_wp2_with fail
     go_loopw [6,54] (fun v i wr=>∃ j:Nat,j≤n∧i = .int .i64 j∧Hid (Own wr w3.heap.size v (upI s j))∧Hid (Below w3.heap.size w3 wr)) (fun _ i _=>n - (RowKit.intOf i).toNat)
     case atStart=>exact ⟨0,Nat.zero_le _,rfl,O5,B5⟩
     case round =>
      obtain ⟨j,hj,rfl,HOj,HBj⟩:=hrel
      clear c0 c1 c2 c3
      obtain ⟨c0,c1,c2,c3⟩:=(HB3.out.kept HBj.out).cells
      by_cases hlt:j<n
      ·obtain ⟨b,off,s1,rfl,hv,f3⟩:=H3.out.ke.strAt hlt
       obtain ⟨b',off',z2,hA,hv',g3⟩:=H3.out.ki.intAt (k:=j+1) (by omega)
       obtain ⟨rfl,rfl⟩:bk=b'∧ok=off':=by
        have:=Option.some.inj hA
        injection this with h1 h2
        exact ⟨h1,h2⟩
       have HN:=Lib.hid (upI_next hv hv')
       have z1:=nkey_small HO.out hv
       have z3:=HU.out j
       have z4:s1.size≤120:=by have:=ND.ok_keys HO.out _ (List.mem_of_getElem? hv);rw [toList_length] at this;exact this
       have HG:=Lib.hid g3
       have f0:=cell_on HBj.out f3
       clear hv hv' f3 g3 hA
       go_wp2_with fail
       refine (nappText w3.heap.size _ (upI s j) s1 _ HOj.out HBj.out.size (by omega) z1).mono ?_
       rintro e6 w6 ⟨v6,rfl,o6,b6⟩
       have O6:=Lib.hid o6
       have B6:=Lib.hid (HBj.out.trans b6)
       have hz5:(upI s j++ND.tx s1.toList).length≤1200:=by rw [List.length_append,ND.tx_length,toList_length];omega
       clear o6 b6 c0 c1 c2 c3 f0
       obtain ⟨c0,c1,c2,c3⟩:=(HB3.out.kept B6.out).cells
       have g0:=cell_on B6.out HG.out
       go_wp2_with fail
       refine (nappFour w3.heap.size _ _ z2 _ O6.out B6.out.size (by omega)).mono ?_
       rintro e7 w7 ⟨v7,rfl,o7,b7⟩
       rw [← HN.out] at o7
       have O7:=Lib.hid o7
       have B7:=Lib.hid (B6.out.trans b7)
       clear o7 b7 c0 c1 c2 c3 g0
       go_wp2_with fail
       go_roundw
       case rel=>exact ⟨j+1,by omega,by go_num,O7,B7⟩
       case measure=>simp [RowKit.intOf];omega
      ·obtain rfl:n=j:=by omega
       have o5:=HOj.out
       rw [← HKN.out,HA.out] at o5
       have HE:=Lib.hid (nenc_good HO.out HBig.out o5 Bs (B3.out.trans (HBj.out.mono Bs)))
       rw [HL.out] at HE
       clear o5
       go_wp2_with fail
       go_ret3
       exact HE.out
end Go.Proofs.YtccphijgcapeoaaGreat
/-
  Chains of worlds; a block for an answer that is a node.
-/
namespace Go.Proofs.YtccphijgcapeoaaGreat
open Go.RowKit
theorem chainN {w1 wx w3:World} (b:Below wx.heap.size wx w3) (h:Below w1.heap.size w1 wx):Below w1.heap.size w1 w3:=h.trans (b.mono h.size)
end Go.Proofs.YtccphijgcapeoaaGreat
/-
  Small facts on rows of one's own, and on lists of lists.
-/
namespace Go.Proofs.YtccphijgcapeoaaGreat
open Go.RowKit
theorem row_base {w:World} {base base' sz n:Nat} {e:TypeId} {v:Value} {xs:List Value} (h:w.ownsRow base e sz v n xs) (hb:base'≤base):w.ownsRow base' e sz v n xs:=by
 refine ⟨h.1,?_⟩
 rcases h.2 with h0 | ⟨g,cap,cur,e1,e2,e3⟩
 ·exact Or.inl h0
 ·exact Or.inr ⟨g,cap,cur,e1,Nat.le_trans hb e2,e3⟩
theorem one_take {cs:List Value} (h:∀ u∈cs,u.oneCell'=true) (k:Nat):∀ u∈cs.take k,u.oneCell'=true:=fun u hu=>h u (List.mem_of_mem_take hu)
theorem one_drop {cs:List Value} (h:∀ u∈cs,u.oneCell'=true) (k:Nat):∀ u∈cs.drop k,u.oneCell'=true:=fun u hu=>h u (List.mem_of_mem_drop hu)
theorem epcs_one (p:Pc):pcs [p]=p.cs:=by simp [pcs]
theorem epcs_two (p q:Pc):pcs [p,q]=p.cs++q.cs:=by simp [pcs]
theorem epcs_three (p q r:Pc):pcs [p,q,r]=p.cs++q.cs++r.cs:=by simp [pcs]
def PartEnd (w:World) (t:TypeId) (n m:Nat) (cs ds:List Value) (e:Ending) (w':World):Prop :=
 ∃ v u,e = .returned (.tuple #[v,u])∧w'.ownsRow w.heap.size t 1 v n cs∧w'.ownsRow w.heap.size t 1 u m ds∧Below w.heap.size w w'
end Go.Proofs.YtccphijgcapeoaaGreat
/-
  What cell's Find and Kid come to.
-/
namespace Go.Proofs.YtccphijgcapeoaaGreat
open Go.RowKit
def KBox (w:World) (g:Nat) (s:ByteArray):Prop:=w.heap[g]?=some (.cells #[.string s] 9 (0,0))
theorem KBox.lt {w:World} {g:Nat} {s:ByteArray} (h:KBox w g s):g<w.heap.size:=(Array.getElem?_eq_some_iff.1 h).1
theorem KBox.kept {w w':World} {g:Nat} {s:ByteArray} (h:KBox w g s) (hb:Below w.heap.size w w'):KBox w' g s:=(hb.block g h.lt).trans h
theorem KBox.cell {w:World} {g:Nat} {s:ByteArray} (h:KBox w g s):w.cell? ⟨g,0,none⟩=some (.string s):=(cell_of_row w g 0 _ _ _ h).trans rfl
theorem gtr_less (a b:List UInt8):(!Op.bytesLess a b && !a==b)=Op.bytesLess b a:=by
 rcases less_total a b with h | h | h
 ·rw [h]
  cases hb:Op.bytesLess b a with
  | false=>rfl
  | true=>have:=less_trans a b a h hb;rw [less_irrefl] at this;cases this
 ·subst h
  rw [less_irrefl]
  simp
 ·rw [h]
  have h1:Op.bytesLess a b=false:=by
   cases hb:Op.bytesLess a b with
   | false=>rfl
   | true=>have:=less_trans a b a hb h;rw [less_irrefl] at this;cases this
  have h2:(a==b)=false:=by
   rw [beq_eq_false_iff_ne]
   rintro rfl
   rw [less_irrefl] at h
   cases h
  rw [h1,h2]
  rfl
theorem notBefore_any (g h:Nat) (A:Option Addr) (n c:Nat) (l:List (List UInt8)) (key:ByteArray) (i:Nat) (p:Bool) (w:World) (c1:w.cell? ⟨g,1,none⟩=some (.slice A n c)) (ck:w.cell? ⟨h,0,none⟩=some (.string key)) (hl:Ln w 1 A n c (strVals l)) (hi:i<n)
 (hp:∀ t,l[i]?=some t→p = !Op.bytesLess t key.toList) :
 Calls Tryz.prog 75 #[.int .i64 i,.pointer (some ⟨g,0,none⟩),.pointer (some ⟨h,0,none⟩)] w fun e w'=>e = .returned (.bool p)∧Below w.heap.size w w':=by
 obtain ⟨b,off,s,rfl,hv,c0⟩:=hl.strAt hi
 have HP:=Lib.hid (hp _ hv)
 clear hp hv hl
 go_enter Tryz.func75,Tryz.ntmps75
 go_wp2_with fail
 go_quiet (fail)
 go_wp2_with fail
 go_ret
 exact ⟨ret_bool HP.out.symm,belowN (Below.refl _ _) _⟩
theorem behind_any (g h:Nat) (A:Option Addr) (n c:Nat) (l:List (List UInt8)) (key:ByteArray) (i:Nat) (p:Bool) (w:World) (c1:w.cell? ⟨g,1,none⟩=some (.slice A n c)) (ck:w.cell? ⟨h,0,none⟩=some (.string key)) (hl:Ln w 1 A n c (strVals l)) (hi:i<n)
 (hp:∀ t,l[i]?=some t→p=Op.bytesLess key.toList t) :
 Calls Tryz.prog 116 #[.int .i64 i,.pointer (some ⟨g,0,none⟩),.pointer (some ⟨h,0,none⟩)] w fun e w'=>e = .returned (.bool p)∧Below w.heap.size w w':=by
 obtain ⟨b,off,s,rfl,hv,c0⟩:=hl.strAt hi
 have HP:=Lib.hid (hp _ hv)
 clear hp hv hl
 go_enter Tryz.func116,Tryz.ntmps116
 go_wp2_with fail
 go_quiet (fail)
 go_wp2_with fail
 go_ret
 exact ⟨ret_bool (by rw [HP.out];exact gtr_less _ _),belowN (Below.refl _ _) _⟩
def SeekEnd (w:World) (n:Nat) (p:Nat→Bool) (e:Ending) (w':World):Prop:=∃ r:Nat,e = .returned (.int .i64 r)∧r≤n∧(∀ i,i<r→p i=false)∧(∀ i,r≤i→i<n→p i=true)∧Below w.heap.size w w'
theorem search_any (f:Nat) (x y:Value) (n:Nat) (p:Nat→Bool) (w:World) (hn:n≤1000000)
 (hmono:∀ i j,i≤j→j<n→p i=true→p j=true)
 (eg:∀ args w,(callFunc f args).run Tryz.prog w = .ok (.enter f args) w)
 (hf:∀ (i:Nat) (wx:World),i<n→Below w.heap.size w wx→Calls Tryz.prog f #[.int .i64 i,x,y] wx fun e w'=>e = .returned (.bool (p i))∧Below wx.heap.size wx w') :
 Calls Tryz.prog 76 #[.int .i64 n,.func (.func f) #[] #[x,y]] w (SeekEnd w n p):=by
 have HM:=Lib.hid hmono
 have HF:=Lib.hid hf
 clear hmono hf
 go_enter Tryz.func76,Tryz.ntmps76
 go_wp2_with fail
 obtain ⟨wo,rfl⟩:∃ wo:World,wo=w:=⟨_,rfl⟩
 go_loopw [5,6] (fun s5 s6 wr=>∃ lo hi:Nat,lo≤hi∧hi≤n∧s5 = .int .i64 lo∧s6 = .int .i64 hi∧Hid (∀ i,i<lo→p i=false)∧Hid (∀ i,hi≤i→i<n→p i=true)∧Hid (Below wo.heap.size wo wr)) (fun s5 s6 _=>(RowKit.intOf s6).toNat - (RowKit.intOf s5).toNat)
 case atStart=>exact ⟨0,n,by omega,by omega,rfl,rfl,Lib.hid (fun i hi=>absurd hi (by omega)),Lib.hid (fun i h1 h2=>absurd h2 (by omega)),Lib.hid (Below.refl _ _)⟩
 case round =>
  obtain ⟨lo,hi,h1,h2,rfl,rfl,HA,HZ,HB⟩:=hrel
  by_cases hlt:lo<hi
  ·have hc:=HF.out ((lo+hi) / 2) wr (by omega) HB.out
   have em:(((lo+hi) / 2:Nat):Int)=((lo:Int)+(hi:Int)) / 2:=by omega
   rw [em] at hc
   have HC:=Lib.hid hc
   clear hc em
   go_wp2_with fail
   refine HC.out.mono ?_
   rintro e w1 ⟨rfl,b1⟩
   have B1:=Lib.hid (chainN b1 HB.out)
   clear b1 HC HB
   cases hp:p ((lo+hi) / 2) with
   | false =>
     have HP:=Lib.hid hp
     clear hp
     go_wp2_with fail
     go_roundw
     case rel=>exact ⟨(lo+hi) / 2+1,hi,by omega,h2,by first | go_num | (simp;omega),rfl,Lib.hid (fun i hj=>by
      cases hq:p i with
      | false=>rfl
      | true=>have:=HM.out i ((lo+hi) / 2) (by omega) (by omega) hq;rw [HP.out] at this;cases this),HZ,B1⟩
     case measure=>simp [RowKit.intOf];omega
   | true =>
     have HP:=Lib.hid hp
     clear hp
     go_wp2_with fail
     go_roundw
     case rel=>exact ⟨lo,(lo+hi) / 2,by omega,by omega,rfl,by first | go_num | (simp;omega),HA,Lib.hid (fun i h3 h4=>HM.out ((lo+hi) / 2) i h3 h4 HP.out),B1⟩
     case measure=>simp [RowKit.intOf];omega
  ·obtain rfl:lo=hi:=by omega
   go_wp2_with fail
   go_ret
   exact ⟨lo,rfl,h2,HA.out,HZ.out,HB.out⟩
theorem at_getD {l:List (List UInt8)} {i:Nat} {t:List UInt8} (h:l[i]?=some t):l.getD i []=t:=by
 rw [List.getD_eq_getElem?_getD,h]
 rfl
theorem getD_at {l:List (List UInt8)} {i:Nat} (h:i<l.length):l[i]?=some (l.getD i []):=by
 rw [List.getD_eq_getElem?_getD,List.getElem?_eq_getElem h]
 rfl
theorem mono_find {l:List (List UInt8)} {key:List UInt8} {n:Nat} (hl:l.length=n) (hr:ND.rise [] l=true) (i j:Nat) (hij:i≤j) (hj:j<n) (h:(!Op.bytesLess (l.getD i []) key)=true):(!Op.bytesLess (l.getD j []) key)=true:=by
 rcases Nat.lt_or_ge i j with h1 | h1
 ·cases hb:Op.bytesLess (l.getD j []) key with
  | false=>rfl
  | true =>
    have:=less_trans _ _ _ (ND.rise_pair [] l hr i j _ _ h1 (getD_at (by omega)) (getD_at (by omega))) hb
    rw [this] at h
    cases h
 ·obtain rfl:i=j:=by omega
  exact h
theorem mono_kid {l:List (List UInt8)} {key:List UInt8} {n:Nat} (hl:l.length=n) (hr:ND.rise [] l=true) (i j:Nat) (hij:i≤j) (hj:j<n) (h:Op.bytesLess key (l.getD i [])=true):Op.bytesLess key (l.getD j [])=true:=by
 rcases Nat.lt_or_ge i j with h1 | h1
 ·exact less_trans _ _ _ h (ND.rise_pair [] l hr i j _ _ h1 (getD_at (by omega)) (getD_at (by omega)))
 ·obtain rfl:i=j:=by omega
  exact h
/-- The argument's block, and the key's. -/
theorem nkbox (w:World) (x y z p:Value) (key:ByteArray):NBox ((w.alloc (.cells #[x,y,z,p] 68)).alloc (.cells #[.string key] 9)) w.heap.size x y z p ∧
 KBox ((w.alloc (.cells #[x,y,z,p] 68)).alloc (.cells #[.string key] 9)) (w.heap.size+1) key∧Below w.heap.size w ((w.alloc (.cells #[x,y,z,p] 68)).alloc (.cells #[.string key] 9)):=by
 refine ⟨(nbox_new w x y z p).kept (below_one _ _),?_,below_two _ _ _⟩
 have h:KBox ((w.alloc (.cells #[x,y,z,p] 68)).alloc (.cells #[.string key] 9)) (w.alloc (.cells #[x,y,z,p] 68)).heap.size key:=heap_alloc_new _ _
 rw [show (w.alloc (.cells #[x,y,z,p] 68)).heap.size=w.heap.size+1 by simp] at h
 exact h
def PlaceEnd (w:World) (r:Nat) (is:Bool) (e:Ending) (w':World):Prop:=e = .returned (.tuple #[.int .i64 r,.bool is])∧Below w.heap.size w w'
theorem find_any (lf:Bool) (A:Option Addr) (n c:Nat) (B:Option Addr) (m d:Nat) (C:Option Addr) (k e:Nat) (s:ND) (key:ByteArray) (w:World) (h:Nd w A n c B m d C k e s) (hr:ND.rise [] s.keys=true) (hn:n≤1000000) :
 Calls Tryz.prog 47 #[.agg #[.bool lf,.slice A n c,.slice B m d,.slice C k e],.string key] w (PlaceEnd w (ND.findN key.toList s.keys) (ND.isAt key.toList s.keys)):=by
 obtain ⟨tb1,tb2,tb3⟩:=nkbox w (.bool lf) (.slice A n c) (.slice B m d) (.slice C k e) key
 have HS:=Lib.hid (h.kept tb3)
 have HB:=Lib.hid tb1
 have HK:=Lib.hid tb2
 have B0:=Lib.hid tb3
 have HN:=Lib.hid h.kn
 have HR:=Lib.hid hr
 have eg:∀ args w,(callFunc 75 args).run Tryz.prog w = .ok (.enter 75 args) w:=enters_of Tryz.func75 (by kernel_rfl) rfl
 clear h hr tb1 tb2 tb3
 go_enter Tryz.func47,Tryz.ntmps47
 go_upto_region 1 with fail
 generalize (w.alloc (.cells #[.bool lf,.slice A n c,.slice B m d,.slice C k e] 68)).alloc (.cells #[.string key] 9)=w0 at *
 obtain ⟨c0,c1,c2,c3⟩:=HB.out.cells
 go_wp2_with fail
 refine (search_any 75 (.pointer (some ⟨w.heap.size,0,none⟩)) (.pointer (some ⟨w.heap.size+1,0,none⟩)) n (fun i => !Op.bytesLess (s.keys.getD i []) key.toList) w0 hn
  (fun i j h1 h2 h3=>mono_find HN.out HR.out i j h1 h2 h3) eg
  (fun i wx hi hb=>notBefore_any _ _ A n c s.keys key i _ wx (HB.out.kept hb).cells.2.1 (HK.out.kept hb).cell (HS.out.ke.kept hb) hi (fun t ht=>by simp only [at_getD ht]))).mono ?_
 rintro e1 w1 ⟨r,rfl,hrn,hr1,hr2,b1⟩
 have hE:r=ND.findN key.toList s.keys:=ND.findN_of (by rw [HN.out];exact hrn) (fun i t hi ht=>by have:=hr1 i hi;simp only [at_getD ht] at this;simpa using this)
  (fun t ht=>by have hlt:=(List.getElem?_eq_some_iff.1 ht).1;have:=hr2 r (Nat.le_refl _) (by rw [← HN.out];exact hlt);simp only [at_getD ht] at this;simpa using this)
 have HE:=Lib.hid hE
 have B1:=Lib.hid (chainN b1 B0.out)
 have HB1:=Lib.hid (HB.out.kept b1)
 have HK1:=Lib.hid (HK.out.kept b1)
 have HS1:=Lib.hid (HS.out.kept b1)
 clear hr1 hr2 b1 eg c0 c1 c2 c3 hE
 obtain ⟨c0,c1,c2,c3⟩:=HB1.out.cells
 have ck:=HK1.out.cell
 by_cases hlt:r<n
 ·obtain ⟨b,off,t,rfl,hv,f0⟩:=HS1.out.ke.strAt hlt
  have HV:=Lib.hid hv
  have hd:decide ((r:Int)<(n:Int))=true:=decide_eq_true (by omega)
  clear hv
  go_wp2_with fail
  go_quiet (fail)
  go_wp2_with fail
  go_ret2
  refine ⟨?_,belowN B1.out _⟩
  rw [← HE.out]
  have e1:ND.isAt key.toList s.keys=(t.toList==key.toList):=by
   unfold ND.isAt
   rw [← HE.out,HV.out]
   rw [Bool.eq_iff_iff]
   simp
  rw [e1]
  rfl
 ·have hd:decide ((r:Int)<(n:Int))=false:=decide_eq_false (by omega)
  have e1:Hid (ND.isAt key.toList s.keys=false):=Lib.hid (ND.isAt_end (by rw [← HE.out,HN.out];exact hlt))
  go_wp2_with fail
  go_quiet (fail)
  go_wp2_with fail
  go_ret2
  refine ⟨?_,belowN B1.out _⟩
  rw [← HE.out,e1.out]
  rfl
theorem kid_any (lf:Bool) (A:Option Addr) (n c:Nat) (B:Option Addr) (m d:Nat) (C:Option Addr) (k e:Nat) (s:ND) (key:ByteArray) (w:World) (h:Nd w A n c B m d C k e s) (hr:ND.rise [] s.keys=true) (hn:n≤1000000) :
 Calls Tryz.prog 83 #[.agg #[.bool lf,.slice A n c,.slice B m d,.slice C k e],.string key] w fun e w'=>e = .returned (.int .i64 ((ND.kidN key.toList s.keys:Nat):Int))∧Below w.heap.size w w':=by
 obtain ⟨tb1,tb2,tb3⟩:=nkbox w (.bool lf) (.slice A n c) (.slice B m d) (.slice C k e) key
 have HS:=Lib.hid (h.kept tb3)
 have HB:=Lib.hid tb1
 have HK:=Lib.hid tb2
 have B0:=Lib.hid tb3
 have HN:=Lib.hid h.kn
 have HR:=Lib.hid hr
 have eg:∀ args w,(callFunc 116 args).run Tryz.prog w = .ok (.enter 116 args) w:=enters_of Tryz.func116 (by kernel_rfl) rfl
 clear h hr tb1 tb2 tb3
 go_enter Tryz.func83,Tryz.ntmps83
 go_upto_region 1 with fail
 generalize (w.alloc (.cells #[.bool lf,.slice A n c,.slice B m d,.slice C k e] 68)).alloc (.cells #[.string key] 9)=w0 at *
 obtain ⟨c0,c1,c2,c3⟩:=HB.out.cells
 go_wp2_with fail
 refine (search_any 116 (.pointer (some ⟨w.heap.size,0,none⟩)) (.pointer (some ⟨w.heap.size+1,0,none⟩)) n (fun i=>Op.bytesLess key.toList (s.keys.getD i [])) w0 hn
  (fun i j h1 h2 h3=>mono_kid HN.out HR.out i j h1 h2 h3) eg
  (fun i wx hi hb=>behind_any _ _ A n c s.keys key i _ wx (HB.out.kept hb).cells.2.1 (HK.out.kept hb).cell (HS.out.ke.kept hb) hi (fun t ht=>by simp only [at_getD ht]))).mono ?_
 rintro e1 w1 ⟨r,rfl,hrn,hr1,hr2,b1⟩
 have HE:Hid (r=ND.kidN key.toList s.keys):=Lib.hid (ND.kidN_of (by rw [HN.out];exact hrn) (fun i t hi ht=>by have:=hr1 i hi;simp only [at_getD ht] at this;exact this)
  (fun t ht=>by have hlt:=(List.getElem?_eq_some_iff.1 ht).1;have:=hr2 r (Nat.le_refl _) (by rw [← HN.out];exact hlt);simp only [at_getD ht] at this;exact this))
 have B1:=Lib.hid (chainN b1 B0.out)
 clear hr1 hr2 b1 eg c0 c1 c2 c3
 go_wp2_with fail
 go_ret
 exact ⟨by rw [HE.out];rfl,B1.out⟩
theorem fits_any (lf:Bool) (A:Option Addr) (n c:Nat) (B:Option Addr) (m d:Nat) (C:Option Addr) (k e:Nat) (s:ND) (w:World) (h:Nd w A n c B m d C k e s) (hz:s.size≤1000000000) :
 Calls Tryz.prog 62 #[.agg #[.bool lf,.slice A n c,.slice B m d,.slice C k e]] w fun e w'=>e = .returned (.bool (decide (s.size≤1000)))∧Below w.heap.size w w':=by
 have HB:=Lib.hid (nbox_new w (.bool lf) (.slice A n c) (.slice B m d) (.slice C k e))
 have b1:=below_one w (.cells #[.bool lf,.slice A n c,.slice B m d,.slice C k e] 68)
 have B1:=Lib.hid b1
 have H1:=Lib.hid (h.kept b1)
 have HZ:=Lib.hid hz
 clear b1 h hz
 go_enter Tryz.func62,Tryz.ntmps62
 go_upto_region 1 with fail
 generalize w.alloc (.cells #[.bool lf,.slice A n c,.slice B m d,.slice C k e] 68)=w1 at *
 obtain ⟨c0,c1,c2,c3⟩:=HB.out.cells
 go_wp2_with fail
 refine (nsize_any lf A n c B m d C k e s w1 H1.out HZ.out).mono ?_
 rintro e1 w2 ⟨rfl,b2⟩
 have B2:=Lib.hid (chainN b2 B1.out)
 clear b2
 go_wp2_with fail
 go_ret
 exact ⟨ret_bool (by rw [Bool.eq_iff_iff];simp;omega),B2.out⟩
theorem low_any (lf:Bool) (A:Option Addr) (n c:Nat) (B:Option Addr) (m d:Nat) (C:Option Addr) (k e:Nat) (s:ND) (w:World) (h:Nd w A n c B m d C k e s) (hz:s.size≤1000000000) :
 Calls Tryz.prog 113 #[.agg #[.bool lf,.slice A n c,.slice B m d,.slice C k e]] w fun e w'=>e = .returned (.bool (decide (s.size<300)))∧Below w.heap.size w w':=by
 have HB:=Lib.hid (nbox_new w (.bool lf) (.slice A n c) (.slice B m d) (.slice C k e))
 have b1:=below_one w (.cells #[.bool lf,.slice A n c,.slice B m d,.slice C k e] 68)
 have B1:=Lib.hid b1
 have H1:=Lib.hid (h.kept b1)
 have HZ:=Lib.hid hz
 clear b1 h hz
 go_enter Tryz.func113,Tryz.ntmps113
 go_upto_region 1 with fail
 generalize w.alloc (.cells #[.bool lf,.slice A n c,.slice B m d,.slice C k e] 68)=w1 at *
 obtain ⟨c0,c1,c2,c3⟩:=HB.out.cells
 go_wp2_with fail
 refine (nsize_any lf A n c B m d C k e s w1 H1.out HZ.out).mono ?_
 rintro e1 w2 ⟨rfl,b2⟩
 have B2:=Lib.hid (chainN b2 B1.out)
 clear b2
 go_wp2_with fail
 go_ret
 exact ⟨ret_bool (by rw [Bool.eq_iff_iff];simp;omega),B2.out⟩
end Go.Proofs.YtccphijgcapeoaaGreat
/-
  A list from a place on, and up to a place: the address as one letter.
-/
namespace Go.Proofs.YtccphijgcapeoaaGreat
open Go.RowKit
def dropA (A:Option Addr) (c k:Nat):Option Addr:=if c=k then A else A.map (·.add k)
theorem ln_drop {w:World} {A:Option Addr} {n c:Nat} {cs:List Value} (h:Ln w 1 A n c cs) {k:Nat} (hk:k≤n):Ln w 1 (dropA A c k) (n - k) (c - k) (cs.drop k):=by
 have hle:=h.le
 have hlen:=h.len
 rcases A with _ | ad
 ·obtain ⟨rfl,rfl⟩:=h.lies.1 rfl
  obtain rfl:k=0:=by omega
  simpa [dropA] using h
 ·by_cases hn0:n=k
  ·subst hn0
   have e:cs.drop n=[]:=List.drop_of_length_le (by omega)
   rw [e,Nat.sub_self]
   refine ⟨by simp,Nat.zero_le _,fun e=>?_,fun ad _ j u hu=>by simp at hu⟩
   unfold dropA at e
   split at e<;>simp at e
  ·have hc:¬ c=k:=by omega
   obtain ⟨b,off,e,_⟩:=h.spot (by omega)
   obtain rfl:=Option.some.inj e
   have:=h.drop hk
   rw [Nat.mul_one] at this
   unfold dropA
   rw [if_neg hc,Option.map_some,addr_add]
   exact this
section
variable {P:Program} (t:TypeId) (ht:P.underlying t=some (.slice (P.elem t))) (hs:∀ w,(sizeOf (P.elem t)).run P w = .ok 1 w)
include ht hs
theorem sl_from {n c k:Nat} (A:Option Addr) (hk:k≤n) (w:World):(Instr.slice t (.slice A n c) (some (.int .i64 (k:Int))) none none).run P w = .ok (.slice (dropA A c k) (n - k) (c - k)) w:=by
 rw [run_slice_l (P:=P) (w:=w) t A n c ht .i64 (k:Int) (by omega) (by omega),hs]
 simp [Result.andThen,sliced,dropA]
theorem sl_upto {n c k:Nat} (A:Option Addr) (hk:k≤n) (hc:n≤c) (w:World):(Instr.slice t (.slice A n c) none (some (.int .i64 (k:Int))) none).run P w = .ok (.slice A k c) w:=by
 rw [run_slice_h (P:=P) (w:=w) t A n c ht .i64 (k:Int) (by omega) (by omega),hs]
 by_cases h0:c=0
 ·subst h0
  simp [Result.andThen,sliced]
 ·simp [Result.andThen,sliced,h0]
  cases A with
  | none=>rfl
  | some ad =>
    obtain ⟨b,off,sp⟩:=ad
    cases sp<;>simp [Addr.add]
end
theorem sz_S:∀ w,(sizeOf (Tryz.prog.elem 58)).run Tryz.prog w = .ok 1 w:=fun w=>by kernel_rfl
theorem sz_I:∀ w,(sizeOf (Tryz.prog.elem 36)).run Tryz.prog w = .ok 1 w:=fun w=>by kernel_rfl
theorem from_S {n c k:Nat} (A:Option Addr) (hk:k≤n) (w:World):(Instr.slice 58 (.slice A n c) (some (.int .i64 (k:Int))) none none).run Tryz.prog w = .ok (.slice (dropA A c k) (n - k) (c - k)) w:=sl_from _ Tryz.underlying58 sz_S A hk w
theorem from_S1 {n c k:Nat} (A:Option Addr) (hk:k+1≤n) (w:World):(Instr.slice 58 (.slice A n c) (some (.int .i64 ((k:Int)+1))) none none).run Tryz.prog w = .ok (.slice (dropA A c (k+1)) (n - (k+1)) (c - (k+1))) w:=from_S A hk w
theorem upto_S {n c k:Nat} (A:Option Addr) (hk:k≤n) (hc:n≤c) (w:World):(Instr.slice 58 (.slice A n c) none (some (.int .i64 (k:Int))) none).run Tryz.prog w = .ok (.slice A k c) w:=sl_upto _ Tryz.underlying58 sz_S A hk hc w
theorem from_I {n c k:Nat} (A:Option Addr) (hk:k≤n) (w:World):(Instr.slice 36 (.slice A n c) (some (.int .i64 (k:Int))) none none).run Tryz.prog w = .ok (.slice (dropA A c k) (n - k) (c - k)) w:=sl_from _ Tryz.underlying36 sz_I A hk w
theorem upto_I {n c k:Nat} (A:Option Addr) (hk:k≤n) (hc:n≤c) (w:World):(Instr.slice 36 (.slice A n c) none (some (.int .i64 (k:Int))) none).run Tryz.prog w = .ok (.slice A k c) w:=sl_upto _ Tryz.underlying36 sz_I A hk hc w
end Go.Proofs.YtccphijgcapeoaaGreat
/-
  What joined comes to at lists of texts.
-/
namespace Go.Proofs.YtccphijgcapeoaaGreat
open Go.RowKit
theorem eInfoS:(Tryz.prog.info? 9).map (fun i=>(i.zero,i.size,i.bytes))=some (some (.string ⟨#[]⟩),1,16):=by kernel_rfl
theorem ejoin_S (A:Option Addr) (n c N:Nat) (ps:List Pc) (w:World) (hp:Pile w 1 A ps) (hn:ps.length=n) (hN:tot ps=N) (hb:N≤1000000) (hm:n≤1000000) :
 Calls Tryz.prog 106 #[.slice A n c] w (JoinEnd w 9 1 N (pcs ps)):=by
 obtain ⟨i0,hi,hz0,hz1,hz2⟩:=info_parts eInfoS
 have HP:=Lib.hid hp
 have HL:=Lib.hid hn
 have HT:=Lib.hid hN
 clear hp hn hN
 go_enter Tryz.func106,Tryz.ntmps106
 go_wp2_with fail
 obtain ⟨wo,rfl⟩:∃ wo:World,wo=w:=⟨_,rfl⟩
 go_loopw [3,8] (fun v i wk=>∃ k:Nat,k≤n∧i = .int .i64 k∧Hid (wk.ownsRow wo.heap.size 9 1 v (tot (ps.take k)) (pcs (ps.take k)))∧Hid (Below wo.heap.size wo wk)) (fun _ i _=>n - (RowKit.intOf i).toNat)
 case atStart=>exact ⟨0,Nat.zero_le _,rfl,Lib.hid (World.ownsRow_nil _ _ _ _),Lib.hid (Below.refl _ _)⟩
 case round =>
  obtain ⟨k,hk,rfl,O1,B1⟩:=hrel
  by_cases hlt:k<n
  ·obtain ⟨b,off,p,rfl,hv,c0,hp1,hp2⟩:=(HP.out.kept B1.out).at_ (k:=k) (by rw [HL.out];exact hlt)
   have hle:=tot_le ps (k+1)
   rw [tot_take hv,HT.out] at hle
   have HV:=Lib.hid (tot_take hv)
   have HV2:=Lib.hid (pcs_take hv)
   have HP1:=Lib.hid hp1
   have HP2:=Lib.hid hp2
   clear hv hp1 hp2
   have bs:=B1.out.size
   have o1:=O1.out
   generalize tot (ps.take k)=t at *
   go_wp2_with (at_builtin;refine wpList_append_lay _ rfl (.tmp 12) (.tmp 13) 58 rfl wo.heap.size 9 i0 (.string ⟨#[]⟩) 1 16 Tryz.underlying58 hi hz0 hz1 hz2 rfl (by decide) _ _ _ rfl o1 p.A p.n p.c p.cs rfl HP1.out.len HP1.out.lies HP2.out (by unfold maxLen;omega) (by omega) bs ?_;intro v3 w3 hown3 hg3)
   have O3:Hid (w3.ownsRow wo.heap.size 9 1 v3 (tot (ps.take (k+1))) (pcs (ps.take (k+1)))):=by
    rw [HV.out,HV2.out]
    exact Lib.hid hown3
   have B3:Hid (Below wo.heap.size wo w3):=Lib.hid (B1.out.grown hg3 bs (fun g hg=>(o1.lt g hg).1))
   clear hown3 hg3 o1 O1 B1 HV HV2 HP1 HP2
   go_roundw
   case rel=>exact ⟨k+1,by omega,by go_num,O3,B3⟩
   case measure=>simp [RowKit.intOf];omega
  ·obtain rfl:n=k:=by omega
   have e1:tot (ps.take n)=N:=by rw [List.take_of_length_le (by rw [HL.out];omega),HT.out]
   have e2:ps.take n=ps:=List.take_of_length_le (by rw [HL.out];omega)
   rw [e1,e2] at O1
   clear e1 e2
   go_wp2_with fail
   go_ret
   exact ⟨_,rfl,O1.out,B1.out⟩
end Go.Proofs.YtccphijgcapeoaaGreat
/-
  What cut, parted and replaced come to at lists of texts.
-/
namespace Go.Proofs.YtccphijgcapeoaaGreat
open Go.RowKit
theorem ecut_S (A:Option Addr) (n c k m:Nat) (w:World) (hm:min k n=m) (hc:n≤c) :
 Calls Tryz.prog 108 #[.slice A n c,.int .i64 k] w fun e w'=>e = .returned (.tuple #[.slice A m c,.slice (dropA A c m) (n - m) (c - m)])∧Below w.heap.size w w':=by
 have hmn:m≤n:=by omega
 have HU:=Lib.hid (fun w=>upto_S (n:=n) (c:=c) (k:=m) A hmn hc w)
 have HD:=Lib.hid (fun w=>from_S (n:=n) (c:=c) (k:=m) A hmn w)
 rcases Nat.lt_or_ge n k with h1 | h1
 rotate_left
 ·obtain rfl:k=m:=by omega
  clear hm hmn
  go_enter Tryz.func108,Tryz.ntmps108
  go_wp2_with fail
  have e1:=HU.out
  have e2:=HD.out
  go_quiet (fail)
  go_wp2_with fail
  go_ret2
  exact ⟨rfl,belowN (Below.refl _ _) _⟩
 ·obtain rfl:n=m:=by omega
  clear hm hmn
  go_enter Tryz.func108,Tryz.ntmps108
  go_wp2_with fail
  have e1:=HU.out
  have e2:=HD.out
  go_quiet (fail)
  go_wp2_with fail
  go_ret2
  exact ⟨by rw [Nat.sub_self];rfl,belowN (Below.refl _ _) _⟩
theorem eparted_S (A:Option Addr) (n c k m:Nat) (cs:List Value) (w:World) (h:Ln w 1 A n c cs) (h1:∀ u∈cs,u.oneCell'=true) (hm:min k n=m) (hn:n≤1000000) :
 Calls Tryz.prog 176 #[.slice A n c,.int .i64 k] w (PartEnd w 9 m (n - m) (cs.take m) (cs.drop m)):=by
 have hc:=h.le
 have hmn:m≤n:=by omega
 have HL:=Lib.hid h
 have H1:=Lib.hid h1
 have HT:Hid (Ln w 1 A m c (cs.take m)):=Lib.hid (by have:=h.take hmn;rw [Nat.mul_one] at this;exact this)
 have HD:=Lib.hid (ln_drop h hmn)
 have HM:=Lib.hid hm
 clear h h1 hm
 go_enter Tryz.func176,Tryz.ntmps176
 go_wp2_with fail
 refine (ecut_S A n c k m w HM.out hc).mono ?_
 rintro e w1 ⟨rfl,b1⟩
 have B1:=Lib.hid b1
 clear b1
 go_wp2_with fail
 refine (ejoin_S _ 1 1 m _ _ (pile_one (HT.out.kept B1.out) (one_take H1.out m) 58) rfl (by simp [tot]) (by omega) (by decide)).mono ?_
 rintro e w2 ⟨v2,rfl,o2,b2⟩
 have B2:=Lib.hid (chainN (chainN b2 (below_one w1 _)) B1.out)
 rw [epcs_one] at o2
 have O2:=Lib.hid (row_base o2 (show w.heap.size≤_ by have:=B1.out.size;simp;omega))
 clear o2 b2
 go_wp2_with fail
 refine (ejoin_S _ 1 1 (n - m) _ _ (pile_one (HD.out.kept B2.out) (one_drop H1.out m) 58) rfl (by simp [tot]) (by omega) (by decide)).mono ?_
 rintro e w3 ⟨v3,rfl,o3,b3⟩
 have B3:=Lib.hid (chainN b3 (below_one w2 _))
 rw [epcs_one] at o3
 have O3:=Lib.hid (row_base o3 (show w.heap.size≤_ by have:=B2.out.size;simp;omega))
 have O2':=Lib.hid (row_below O2.out B3.out)
 clear o3 b3 O2
 go_wp2_with fail
 go_ret2
 exact ⟨_,_,rfl,O2'.out,O3.out,chainN B3.out B2.out⟩
theorem ereplaced_S (A:Option Addr) (n c:Nat) (cs:List Value) (f t:Nat) (B:Option Addr) (m d:Nat) (ds:List Value) (w:World) (h:Ln w 1 A n c cs) (h1:∀ u∈cs,u.oneCell'=true) (g:Ln w 1 B m d ds) (g1:∀ u∈ds,u.oneCell'=true)
 (hft:f≤t) (ht:t≤n) (hn:n≤300000) (hm:m≤300000) :
 Calls Tryz.prog 78 #[.slice A n c,.int .i64 f,.int .i64 t,.slice B m d] w (JoinEnd w 9 1 (f+m+(n - t)) (ND.rep cs f t ds)):=by
 have hc:=h.le
 have hf1:min f n=f:=by omega
 have ht1:min t n=t:=by omega
 have HL:=Lib.hid h
 have H1:=Lib.hid h1
 have HG:=Lib.hid g
 have G1:=Lib.hid g1
 have HT:Hid (Ln w 1 A f c (cs.take f)):=Lib.hid (by have:=h.take (k:=f) (by omega);rw [Nat.mul_one] at this;exact this)
 have HD:=Lib.hid (ln_drop h ht)
 have HF1:=Lib.hid hf1
 have HT1:=Lib.hid ht1
 clear h h1 g g1 hf1 ht1
 go_enter Tryz.func78,Tryz.ntmps78
 go_wp2_with fail
 refine (ecut_S A n c f f w HF1.out hc).mono ?_
 rintro e w1 ⟨rfl,b1⟩
 have B1:=Lib.hid b1
 clear b1
 go_wp2_with fail
 refine (ecut_S A n c t t w1 HT1.out hc).mono ?_
 rintro e w2 ⟨rfl,b2⟩
 have B2:=Lib.hid (chainN b2 B1.out)
 clear b2
 go_wp2_with fail
 refine (ejoin_S _ 3 3 (f+m+(n - t)) _ _ (pile_three (HT.out.kept B2.out) (one_take H1.out f) (HG.out.kept B2.out) G1.out (HD.out.kept B2.out) (one_drop H1.out t) 58) rfl (by simp [tot];omega) (by omega) (by decide)).mono ?_
 rintro e w3 ⟨v3,rfl,o3,b3⟩
 rw [epcs_three] at o3
 have O3:=Lib.hid (row_base o3 (show w.heap.size≤_ by have:=B2.out.size;simp;omega))
 have B3:=Lib.hid (chainN (chainN b3 (below_one w2 _)) B2.out)
 clear o3 b3
 go_wp2_with fail
 go_ret
 exact ⟨_,rfl,O3.out,B3.out⟩
end Go.Proofs.YtccphijgcapeoaaGreat
/-
  What joined comes to at lists of ints.
-/
namespace Go.Proofs.YtccphijgcapeoaaGreat
open Go.RowKit
theorem eInfoI:(Tryz.prog.info? 3).map (fun i=>(i.zero,i.size,i.bytes))=some (some (.int .i64 0),1,8):=by kernel_rfl
theorem ejoin_I (A:Option Addr) (n c N:Nat) (ps:List Pc) (w:World) (hp:Pile w 1 A ps) (hn:ps.length=n) (hN:tot ps=N) (hb:N≤1000000) (hm:n≤1000000) :
 Calls Tryz.prog 107 #[.slice A n c] w (JoinEnd w 3 1 N (pcs ps)):=by
 obtain ⟨i0,hi,hz0,hz1,hz2⟩:=info_parts eInfoI
 have HP:=Lib.hid hp
 have HL:=Lib.hid hn
 have HT:=Lib.hid hN
 clear hp hn hN
 go_enter Tryz.func107,Tryz.ntmps107
 go_wp2_with fail
 obtain ⟨wo,rfl⟩:∃ wo:World,wo=w:=⟨_,rfl⟩
 go_loopw [3,8] (fun v i wk=>∃ k:Nat,k≤n∧i = .int .i64 k∧Hid (wk.ownsRow wo.heap.size 3 1 v (tot (ps.take k)) (pcs (ps.take k)))∧Hid (Below wo.heap.size wo wk)) (fun _ i _=>n - (RowKit.intOf i).toNat)
 case atStart=>exact ⟨0,Nat.zero_le _,rfl,Lib.hid (World.ownsRow_nil _ _ _ _),Lib.hid (Below.refl _ _)⟩
 case round =>
  obtain ⟨k,hk,rfl,O1,B1⟩:=hrel
  by_cases hlt:k<n
  ·obtain ⟨b,off,p,rfl,hv,c0,hp1,hp2⟩:=(HP.out.kept B1.out).at_ (k:=k) (by rw [HL.out];exact hlt)
   have hle:=tot_le ps (k+1)
   rw [tot_take hv,HT.out] at hle
   have HV:=Lib.hid (tot_take hv)
   have HV2:=Lib.hid (pcs_take hv)
   have HP1:=Lib.hid hp1
   have HP2:=Lib.hid hp2
   clear hv hp1 hp2
   have bs:=B1.out.size
   have o1:=O1.out
   generalize tot (ps.take k)=t at *
   go_wp2_with (at_builtin;refine wpList_append_lay _ rfl (.tmp 12) (.tmp 13) 36 rfl wo.heap.size 3 i0 (.int .i64 0) 1 8 Tryz.underlying36 hi hz0 hz1 hz2 rfl (by decide) _ _ _ rfl o1 p.A p.n p.c p.cs rfl HP1.out.len HP1.out.lies HP2.out (by unfold maxLen;omega) (by omega) bs ?_;intro v3 w3 hown3 hg3)
   have O3:Hid (w3.ownsRow wo.heap.size 3 1 v3 (tot (ps.take (k+1))) (pcs (ps.take (k+1)))):=by
    rw [HV.out,HV2.out]
    exact Lib.hid hown3
   have B3:Hid (Below wo.heap.size wo w3):=Lib.hid (B1.out.grown hg3 bs (fun g hg=>(o1.lt g hg).1))
   clear hown3 hg3 o1 O1 B1 HV HV2 HP1 HP2
   go_roundw
   case rel=>exact ⟨k+1,by omega,by go_num,O3,B3⟩
   case measure=>simp [RowKit.intOf];omega
  ·obtain rfl:n=k:=by omega
   have e1:tot (ps.take n)=N:=by rw [List.take_of_length_le (by rw [HL.out];omega),HT.out]
   have e2:ps.take n=ps:=List.take_of_length_le (by rw [HL.out];omega)
   rw [e1,e2] at O1
   clear e1 e2
   go_wp2_with fail
   go_ret
   exact ⟨_,rfl,O1.out,B1.out⟩
end Go.Proofs.YtccphijgcapeoaaGreat
/-
  What cut, parted and replaced come to at lists of ints.
-/
namespace Go.Proofs.YtccphijgcapeoaaGreat
open Go.RowKit
theorem ecut_I (A:Option Addr) (n c k m:Nat) (w:World) (hm:min k n=m) (hc:n≤c) :
 Calls Tryz.prog 181 #[.slice A n c,.int .i64 k] w fun e w'=>e = .returned (.tuple #[.slice A m c,.slice (dropA A c m) (n - m) (c - m)])∧Below w.heap.size w w':=by
 have hmn:m≤n:=by omega
 have HU:=Lib.hid (fun w=>upto_I (n:=n) (c:=c) (k:=m) A hmn hc w)
 have HD:=Lib.hid (fun w=>from_I (n:=n) (c:=c) (k:=m) A hmn w)
 rcases Nat.lt_or_ge n k with h1 | h1
 rotate_left
 ·obtain rfl:k=m:=by omega
  clear hm hmn
  go_enter Tryz.func181,Tryz.ntmps181
  go_wp2_with fail
  have e1:=HU.out
  have e2:=HD.out
  go_quiet (fail)
  go_wp2_with fail
  go_ret2
  exact ⟨rfl,belowN (Below.refl _ _) _⟩
 ·obtain rfl:n=m:=by omega
  clear hm hmn
  go_enter Tryz.func181,Tryz.ntmps181
  go_wp2_with fail
  have e1:=HU.out
  have e2:=HD.out
  go_quiet (fail)
  go_wp2_with fail
  go_ret2
  exact ⟨by rw [Nat.sub_self];rfl,belowN (Below.refl _ _) _⟩
theorem eparted_I (A:Option Addr) (n c k m:Nat) (cs:List Value) (w:World) (h:Ln w 1 A n c cs) (h1:∀ u∈cs,u.oneCell'=true) (hm:min k n=m) (hn:n≤1000000) :
 Calls Tryz.prog 177 #[.slice A n c,.int .i64 k] w (PartEnd w 3 m (n - m) (cs.take m) (cs.drop m)):=by
 have hc:=h.le
 have hmn:m≤n:=by omega
 have HL:=Lib.hid h
 have H1:=Lib.hid h1
 have HT:Hid (Ln w 1 A m c (cs.take m)):=Lib.hid (by have:=h.take hmn;rw [Nat.mul_one] at this;exact this)
 have HD:=Lib.hid (ln_drop h hmn)
 have HM:=Lib.hid hm
 clear h h1 hm
 go_enter Tryz.func177,Tryz.ntmps177
 go_wp2_with fail
 refine (ecut_I A n c k m w HM.out hc).mono ?_
 rintro e w1 ⟨rfl,b1⟩
 have B1:=Lib.hid b1
 clear b1
 go_wp2_with fail
 refine (ejoin_I _ 1 1 m _ _ (pile_one (HT.out.kept B1.out) (one_take H1.out m) 36) rfl (by simp [tot]) (by omega) (by decide)).mono ?_
 rintro e w2 ⟨v2,rfl,o2,b2⟩
 have B2:=Lib.hid (chainN (chainN b2 (below_one w1 _)) B1.out)
 rw [epcs_one] at o2
 have O2:=Lib.hid (row_base o2 (show w.heap.size≤_ by have:=B1.out.size;simp;omega))
 clear o2 b2
 go_wp2_with fail
 refine (ejoin_I _ 1 1 (n - m) _ _ (pile_one (HD.out.kept B2.out) (one_drop H1.out m) 36) rfl (by simp [tot]) (by omega) (by decide)).mono ?_
 rintro e w3 ⟨v3,rfl,o3,b3⟩
 have B3:=Lib.hid (chainN b3 (below_one w2 _))
 rw [epcs_one] at o3
 have O3:=Lib.hid (row_base o3 (show w.heap.size≤_ by have:=B2.out.size;simp;omega))
 have O2':=Lib.hid (row_below O2.out B3.out)
 clear o3 b3 O2
 go_wp2_with fail
 go_ret2
 exact ⟨_,_,rfl,O2'.out,O3.out,chainN B3.out B2.out⟩
theorem ereplaced_I (A:Option Addr) (n c:Nat) (cs:List Value) (f t:Nat) (B:Option Addr) (m d:Nat) (ds:List Value) (w:World) (h:Ln w 1 A n c cs) (h1:∀ u∈cs,u.oneCell'=true) (g:Ln w 1 B m d ds) (g1:∀ u∈ds,u.oneCell'=true)
 (hft:f≤t) (ht:t≤n) (hn:n≤300000) (hm:m≤300000) :
 Calls Tryz.prog 146 #[.slice A n c,.int .i64 f,.int .i64 t,.slice B m d] w (JoinEnd w 3 1 (f+m+(n - t)) (ND.rep cs f t ds)):=by
 have hc:=h.le
 have hf1:min f n=f:=by omega
 have ht1:min t n=t:=by omega
 have HL:=Lib.hid h
 have H1:=Lib.hid h1
 have HG:=Lib.hid g
 have G1:=Lib.hid g1
 have HT:Hid (Ln w 1 A f c (cs.take f)):=Lib.hid (by have:=h.take (k:=f) (by omega);rw [Nat.mul_one] at this;exact this)
 have HD:=Lib.hid (ln_drop h ht)
 have HF1:=Lib.hid hf1
 have HT1:=Lib.hid ht1
 clear h h1 g g1 hf1 ht1
 go_enter Tryz.func146,Tryz.ntmps146
 go_wp2_with fail
 refine (ecut_I A n c f f w HF1.out hc).mono ?_
 rintro e w1 ⟨rfl,b1⟩
 have B1:=Lib.hid b1
 clear b1
 go_wp2_with fail
 refine (ecut_I A n c t t w1 HT1.out hc).mono ?_
 rintro e w2 ⟨rfl,b2⟩
 have B2:=Lib.hid (chainN b2 B1.out)
 clear b2
 go_wp2_with fail
 refine (ejoin_I _ 3 3 (f+m+(n - t)) _ _ (pile_three (HT.out.kept B2.out) (one_take H1.out f) (HG.out.kept B2.out) G1.out (HD.out.kept B2.out) (one_drop H1.out t) 36) rfl (by simp [tot];omega) (by omega) (by decide)).mono ?_
 rintro e w3 ⟨v3,rfl,o3,b3⟩
 rw [epcs_three] at o3
 have O3:=Lib.hid (row_base o3 (show w.heap.size≤_ by have:=B2.out.size;simp;omega))
 have B3:=Lib.hid (chainN (chainN b3 (below_one w2 _)) B2.out)
 clear o3 b3
 go_wp2_with fail
 go_ret
 exact ⟨_,rfl,O3.out,B3.out⟩
end Go.Proofs.YtccphijgcapeoaaGreat
/-
  A region that draws, by an invariant: whatever comes next keeps it, and where all is done it gives what is asked. For regions whose orders are too many to be walked one by one.
-/
namespace Go.Proofs.YtccphijgcapeoaaGreat
section
variable {P:Program} {ops:Array Oper} {Q:Exit→Act→World→Prop} {md:Region.Mode}
def lst (listed:Array Bool) (j:Nat):Bool:=listed.getD j false
theorem lst_set {listed:Array Bool} {i:Nat} (hi:i<listed.size) (j:Nat):lst (listed.setIfInBounds i true) j=(decide (j=i) || lst listed j):=by
 unfold lst
 by_cases h:i=j
 ·subst h
  simp [hi]
 ·rw [getD_set_ne false h]
  have:¬ j=i:=fun e=>h e.symm
  simp [this]
theorem filter_le {p q:Nat→Bool} (h:∀ j,q j=true→p j=true):∀ l:List Nat,(l.filter q).length≤(l.filter p).length
 | []=>Nat.le_refl _
 | x::l=>by
   have ih:=filter_le h l
   cases hq:q x with
   | true=>simp [hq,h x hq];exact ih
   | false =>
     cases hp:p x with
     | true=>simp [hq,hp];omega
     | false=>simp [hq,hp];exact ih
theorem filter_lt {p q:Nat→Bool} (h:∀ j,q j=true→p j=true) {i:Nat} (hp:p i=true) (hq:q i=false):∀ l:List Nat,i∈l→(l.filter q).length<(l.filter p).length
 | [],h=>by cases h
 | x::l,hm=>by
   rcases List.mem_cons.1 hm with e | hm
   ·subst e
    have:=filter_le h l
    simp [hp,hq]
    omega
   ·have ih:=filter_lt h hp hq l hm
    cases hq':q x with
    | true=>simp [hq',h x hq'];exact ih
    | false =>
      cases hp':p x with
      | true=>simp [hq',hp'];omega
      | false=>simp [hq',hp'];exact ih
theorem lst_none (n j:Nat):lst (Array.replicate n false) j=false:=by
 unfold lst
 by_cases h:j<n<;>simp [h]
end
end Go.Proofs.YtccphijgcapeoaaGreat
/-
  A region that draws, whose operations each leave a value of their own and change nothing that was there: by what each value is, whatever the order; what comes behind all of them (a store) is left to be walked.
-/
namespace Go.Proofs.YtccphijgcapeoaaGreat
open Go.RowKit
section
variable {P:Program} {ops:Array Oper} {Q:Exit→Act→World→Prop}
def apart (ops:Array Oper) (n:Nat):Bool :=
 ((List.range ops.size).all fun i=>match (ops[i]?).bind (·.dst) with
   | none=>true
   | some d=>decide (d<n)) &&
 ((List.range ops.size).all fun i=>(List.range ops.size).all fun j=>decide (i=j) || (match (ops[i]?).bind (·.dst),(ops[j]?).bind (·.dst) with
   | some d,some e=>decide (d≠e)
   | _,_=>true))
def closes (ops:Array Oper) (cut:Nat):Bool :=
 (List.range ops.size).all fun i=>decide (i<cut) || (List.range cut).all fun j=>((ops[i]?).map fun o=>o.after.any fun e=>decide (e.on=j) && Region.binds .any e).getD false
def spared (ops:Array Oper) (j:Nat):Bool:=(List.range ops.size).all fun i=>match (ops[i]?).bind (·.dst) with
 | none=>true
 | some d=>decide (d≠j)
def rising (ops:Array Oper):Bool:=(List.range ops.size).all fun j=>((ops[j]?).map fun o=>o.after.all fun e => !Region.binds .any e || decide (e.on<j)).getD true
theorem rising_spec (h:rising ops=true) {j:Nat} {o:Oper} (ho:ops[j]?=some o) {e:Edge} (he:e∈o.after) (hb:Region.binds .any e=true):e.on<j:=by
 have hlt:j<ops.size:=(Array.getElem?_eq_some_iff.1 ho).1
 have h1:=List.all_eq_true.1 h j (List.mem_range.2 hlt)
 rw [ho] at h1
 simp only [Option.map_some,Option.getD_some] at h1
 have h2:=Array.all_eq_true_iff_forall_mem.1 h1 e he
 rw [hb] at h2
 simpa using h2
theorem all_risen (hu:rising ops=true) {listed:Array Bool} (hl:listed.size=ops.size) (hr:Region.ready .any ops listed=[]):∀ j,j<ops.size→lst listed j=true:=by
 intro j
 induction j using Nat.strongRecOn with
 | ind j ih =>
   intro hj
   cases hc:lst listed j with
   | true=>rfl
   | false =>
     exfalso
     have ho:ops[j]?=some ops[j]:=Array.getElem?_eq_getElem hj
     have hm:j∈Region.ready .any ops listed:=by
      refine mem_ready.2 ⟨?_,ops[j],ho,fun e he hb=>?_⟩
      ·unfold lst at hc
       have hjl:j<listed.size:=by omega
       simp only [Array.getD_eq_getD_getElem?,Array.getElem?_eq_getElem hjl,Option.getD_some] at hc ⊢
       exact hc
      ·have:=rising_spec hu ho he hb
       exact ih e.on this (by omega)
     rw [hr] at hm
     cases hm
theorem apart_lt {n:Nat} (h:apart ops n=true) {i d:Nat} {o:Oper} (ho:ops[i]?=some o) (hd:o.dst=some d):d<n:=by
 unfold apart at h
 rw [Bool.and_eq_true] at h
 have hi:i<ops.size:=(Array.getElem?_eq_some_iff.1 ho).1
 have h1:=List.all_eq_true.1 h.1 i (List.mem_range.2 hi)
 rw [ho,Option.bind_some,hd] at h1
 simpa using h1
theorem apart_ne {n:Nat} (h:apart ops n=true) {i j d e:Nat} {o u:Oper} (ho:ops[i]?=some o) (hd:o.dst=some d) (hu:ops[j]?=some u) (he:u.dst=some e) (hne:i≠j):d≠e:=by
 unfold apart at h
 rw [Bool.and_eq_true] at h
 have hi:i<ops.size:=(Array.getElem?_eq_some_iff.1 ho).1
 have hj:j<ops.size:=(Array.getElem?_eq_some_iff.1 hu).1
 have h1:=List.all_eq_true.1 (List.all_eq_true.1 h.2 i (List.mem_range.2 hi)) j (List.mem_range.2 hj)
 rw [ho,hu,Option.bind_some,Option.bind_some,hd,he] at h1
 rcases (Bool.or_eq_true _ _).mp h1 with h1 | h1
 ·exact absurd (of_decide_eq_true h1) hne
 ·exact of_decide_eq_true h1
theorem spared_ne {j:Nat} (h:spared ops j=true) {i d:Nat} {o:Oper} (ho:ops[i]?=some o) (hd:o.dst=some d):d≠j:=by
 have hi:i<ops.size:=(Array.getElem?_eq_some_iff.1 ho).1
 have h1:=List.all_eq_true.1 h i (List.mem_range.2 hi)
 rw [ho,Option.bind_some,hd] at h1
 exact of_decide_eq_true h1
theorem closes_spec {cut:Nat} (h:closes ops cut=true) {i j:Nat} {o:Oper} (ho:ops[i]?=some o) (hc:¬ i<cut) (hj:j<cut):∃ e∈o.after,e.on=j∧Region.binds .any e=true:=by
 have hi:i<ops.size:=(Array.getElem?_eq_some_iff.1 ho).1
 have h1:=List.all_eq_true.1 h i (List.mem_range.2 hi)
 rw [decide_eq_false hc,Bool.false_or] at h1
 have h2:=List.all_eq_true.1 h1 j (List.mem_range.2 hj)
 rw [ho] at h2
 simp only [Option.map_some,Option.getD_some] at h2
 obtain ⟨e,he,hb⟩:=Array.any_eq_true'.1 h2
 rw [Bool.and_eq_true] at hb
 exact ⟨e,he,of_decide_eq_true hb.1,hb.2⟩
theorem put_eval_at {a:Act} {d:Nat} (v:Value) (h:d<a.tmps.size):(a.put (some d) v).eval (.tmp d)=v:=by
 unfold Act.put Act.eval
 simp [h]
theorem put_eval_ne {a:Act} {d j:Nat} (v:Value) (h:d≠j):(a.put (some d) v).eval (.tmp j)=a.eval (.tmp j):=by
 unfold Act.put Act.eval
 simp [Array.getElem?_setIfInBounds_ne h]
structure Flow (ops:Array Oper) (cut:Nat) (a0:Act) (w0:World) (F:Nat→Value→World→Prop) (L:Nat→Bool) (a:Act) (w:World):Prop where
 sz:a.tmps.size=a0.tmps.size
 df:a.defers=a0.defers
 old:∀ j,spared ops j=true→a.eval (.tmp j)=a0.eval (.tmp j)
 below:Below w0.heap.size w0 w
 got:∀ i o d,ops[i]?=some o→i<cut→L i=true→o.dst=some d→F i (a.eval (.tmp d)) w
 tail:∀ i,cut≤i→L i=false
theorem Flow.ext {cut:Nat} {a0 a:Act} {w0 w:World} {F:Nat→Value→World→Prop} {L L':Nat→Bool} (h:Flow ops cut a0 w0 F L a w) (e:∀ j,L j=L' j):Flow ops cut a0 w0 F L' a w :=
 ⟨h.sz,h.df,h.old,h.below,fun i o d ho hi hl hd=>h.got i o d ho hi (by rw [e];exact hl) hd,fun i hi=>by rw [← e];exact h.tail i hi⟩
theorem Flow.step {cut:Nat} {a0 a:Act} {w0 w w':World} {F:Nat→Value→World→Prop} {L:Nat→Bool} {i d:Nat} {o:Oper} {v:Value}
 (h:Flow ops cut a0 w0 F L a w) (hap:apart ops a0.tmps.size=true) (hF:∀ i v w w',F i v w→Below w.heap.size w w'→F i v w')
 (hi:i<cut) (ho:ops[i]?=some o) (hd:o.dst=some d) (hv:F i v w') (hb:Below w.heap.size w w') :
 Flow ops cut a0 w0 F (fun j=>decide (j=i) || L j) (a.put (some d) v) w':=by
 have hlt:d<a.tmps.size:=by rw [h.sz];exact apart_lt hap ho hd
 refine ⟨by rw [← h.sz];simp [Act.put],h.df,fun j hj=>?_,h.below.trans (hb.mono h.below.size),fun k u e hk hc hl he=>?_,fun j hj=>?_⟩
 ·rw [put_eval_ne v (spared_ne hj ho hd)]
  exact h.old j hj
 ·by_cases hki:k=i
  ·subst hki
   obtain rfl:o=u:=by rw [ho] at hk;exact Option.some.inj hk
   obtain rfl:d=e:=by rw [hd] at he;exact Option.some.inj he
   rw [put_eval_at v hlt]
   exact hv
  ·rw [put_eval_ne v (apart_ne hap ho hd hk he (fun x=>hki x.symm))]
   refine hF k _ w w' (h.got k u e hk hc ?_ he) hb
   simpa [hki] using hl
 ·rw [h.tail j hj]
  have:¬ j=i:=by omega
  simp [this]
def todoC (cut:Nat) (listed:Array Bool):Nat:=((List.range cut).filter fun j => !lst listed j).length
def firsts (n cut:Nat):Array Bool:=((List.range n).map fun i=>decide (i<cut)).toArray
theorem wpAny_flow {cut tl:Nat} {a0:Act} {w0:World} (F:Nat→Value→World→Prop) (hsz:ops.size=cut+tl) (hu:rising ops=true) (hap:apart ops a0.tmps.size=true) (hcl:closes ops cut=true)
 (hF:∀ i v w w',F i v w→Below w.heap.size w w'→F i v w')
 (hstep:∀ i o L a w,i<cut→ops[i]?=some o→Flow ops cut a0 w0 F L a w→(∀ e∈o.after,Region.binds .any e=true→L e.on=true) →
   wpOp P ops Q i (fun a' w'=>∃ v d,o.dst=some d∧a'=a.put (some d) v∧F i v w'∧Below w.heap.size w w') a w)
 (hend:∀ m L a w,Flow ops cut a0 w0 F L a w→(∀ i,i<cut→L i=true)→wpAny P .any ops Q (m+tl) (firsts ops.size cut) a w) :
 ∀ (fuel:Nat) (listed:Array Bool) (a:Act) (w:World),listed.size=ops.size→todoC cut listed≤fuel→Flow ops cut a0 w0 F (lst listed) a w→wpAny P .any ops Q (fuel+tl) listed a w:=by
 intro fuel
 have full:∀ (listed:Array Bool) (a:Act) (w:World),listed.size=ops.size→Flow ops cut a0 w0 F (lst listed) a w→(∀ i,i<cut→lst listed i=true)→listed=firsts ops.size cut:=by
  intro listed a w hl hI hall
  apply Array.ext
  ·simp [firsts,hl]
  ·intro i h1 h2
   have e:listed[i]=lst listed i:=by unfold lst;simp [h1]
   rw [e]
   have e2:(firsts ops.size cut)[i]=decide (i<cut):=by simp [firsts]
   rw [e2]
   by_cases hc:i<cut
   ·rw [hall i hc,decide_eq_true hc]
   ·rw [hI.tail i (by omega),decide_eq_false hc]
 induction fuel with
 | zero =>
   intro listed a w hl ht hI
   have hall:∀ j,j<cut→lst listed j=true:=by
    intro j hj
    cases hc:lst listed j with
    | true=>rfl
    | false =>
      exfalso
      have:j∈(List.range cut).filter fun j => !lst listed j:=List.mem_filter.2 ⟨List.mem_range.2 hj,by simp [hc]⟩
      have h0:(List.range cut).filter (fun j => !lst listed j)=[]:=List.eq_nil_of_length_eq_zero (Nat.le_zero.1 ht)
      rw [h0] at this
      cases this
   rw [full listed a w hl hI hall]
   exact hend 0 _ a w hI hall
 | succ fuel ih =>
   intro listed a w hl ht hI
   by_cases hall:∀ j,j<cut→lst listed j=true
   ·rw [full listed a w hl hI hall]
    exact hend (fuel+1) _ a w hI hall
   ·have hnall:∃ j,j<cut∧lst listed j=false:=by
     apply Classical.byContradiction
     intro hn
     refine hall (fun j hj=>?_)
     cases hc:lst listed j with
     | true=>rfl
     | false=>exact absurd ⟨j,hj,hc⟩ hn
    obtain ⟨j0,hj0,hf0⟩:=hnall
    rw [show fuel+1+tl=(fuel+tl)+1 by omega]
    refine ⟨fun hr=>?_,fun i hi=>?_⟩
    ·have:=all_risen hu hl hr j0 (by omega)
     rw [hf0] at this
     cases this
    ·obtain ⟨h0,o,ho,hd⟩:=mem_ready.1 hi
     have hlt:i<ops.size:=(Array.getElem?_eq_some_iff.1 ho).1
     have hil:i<listed.size:=by omega
     have h1:lst listed i=false:=by
      unfold lst
      simp only [Array.getD_eq_getD_getElem?,Array.getElem?_eq_getElem hil,Option.getD_some] at h0 ⊢
      exact h0
     have hic:i<cut:=by
      apply Classical.byContradiction
      intro hn
      obtain ⟨e,he,e1,e2⟩:=closes_spec hcl ho hn hj0
      have:=hd e he e2
      rw [e1] at this
      unfold lst at hf0
      rw [hf0] at this
      cases this
     refine wpOp_mono ?_ (hstep i o (lst listed) a w hic ho hI hd)
     rintro a' w' ⟨v,d,e1,rfl,hv,hb⟩
     refine ih _ _ w' (by simp [hl]) ?_ ((hI.step hap hF hic ho e1 hv hb).ext (fun j=>(lst_set hil j).symm))
     have hlt2:todoC cut (listed.setIfInBounds i true)<todoC cut listed:=by
      unfold todoC
      refine filter_lt (fun j hj=>?_) (i:=i) (by simp [h1]) (by simp [lst_set hil]) _ (List.mem_range.2 hic)
      rw [lst_set hil] at hj
      revert hj
      cases lst listed j<;>simp
     omega
theorem wp_region_flow {id:Nat} {a0:Act} {w0:World} (cut tl:Nat) (F:Nat→Value→World→Prop) (hm:P.follows .mixedOrders=true) (hsz:ops.size=cut+tl) (hu:rising ops=true) (hap:apart ops a0.tmps.size=true) (hcl:closes ops cut=true)
 (hF:∀ i v w w',F i v w→Below w.heap.size w w'→F i v w')
 (hstep:∀ i o L a w,i<cut→ops[i]?=some o→Flow ops cut a0 w0 F L a w→(∀ e∈o.after,Region.binds .any e=true→L e.on=true) →
   wpOp P ops Q i (fun a' w'=>∃ v d,o.dst=some d∧a'=a.put (some d) v∧F i v w'∧Below w.heap.size w w') a w)
 (hend:∀ m L a w,Flow ops cut a0 w0 F L a w→(∀ i,i<cut→L i=true)→wpAny P .any ops Q (m+tl) (firsts ops.size cut) a w) :
 (Code.region id ops true).wp P Q a0 w0:=by
 refine wp_region_any hm ?_
 conv=>arg 5;rw [hsz]
 refine wpAny_flow F hsz hu hap hcl hF hstep hend cut _ a0 _ (by simp) (Nat.le_trans (List.length_filter_le _ _) (by simp)) ?_
 exact ⟨rfl,rfl,fun _ _=>rfl,(Below.refl _ _).drew,(fun i o d _ _ hl _=>by rw [lst_none] at hl;cases hl),fun i _=>lst_none _ i⟩
theorem spreadN {a:Act} {N:Nat} (F:Nat→Value) (hs:a.tmps.size=N) (hF:∀ j,j<N→F j=a.eval (.tmp j)) (hd:a.defers=[]):a=⟨((List.range N).map F).toArray,[]⟩:=by
 obtain ⟨t,d⟩:=a
 obtain rfl:d=[]:=hd
 congr 1
 apply Array.ext
 ·simp [hs]
 ·intro i h1 h2
  have h3:i<N:=by simpa using h2
  have:=hF i h3
  simp [Act.eval,h1] at this
  simp [this]
theorem Flow.frame {cut:Nat} {a0 a:Act} {w0 w:World} {F:Nat→Value→World→Prop} {L:Nat→Bool} (h:Flow ops cut a0 w0 F L a w) (N:Nat) (p:Nat→Bool) (hN:a0.tmps.size=N) (hp:((List.range N).all fun j => !p j || spared ops j)=true) (hd:a0.defers=[]) :
 a=⟨((List.range N).map (fun j=>cond (p j) (a0.eval (.tmp j)) (a.eval (.tmp j)))).toArray,[]⟩:=by
 refine spreadN _ (h.sz.trans hN) (fun j hj=>?_) (h.df.trans hd)
 cases hc:p j with
 | false=>rfl
 | true =>
   have h1:=List.all_eq_true.1 hp j (List.mem_range.2 hj)
   rw [hc] at h1
   exact (h.old j (by simpa using h1)).symm
theorem got {a:Act} {j:Nat} {v:Value} (h:a.eval (.tmp j)=v):a.tmps[j]?.getD undef=v:=by
 rw [← h]
 simp [Act.eval]
end
end Go.Proofs.YtccphijgcapeoaaGreat
/-
  What an operation of a region leaves, as a property that stays where memory is made: the properties that nodes' calls need.
-/
namespace Go.Proofs.YtccphijgcapeoaaGreat
open Go.RowKit
structure SP where
 p:Value→World→Prop
 st:∀ v w w',p v w→Below w.heap.size w w'→p v w'
namespace SP
def any:SP:=⟨fun _ _=>True,fun _ _ _ _ _=>trivial⟩
def is (u:Value):SP:=⟨fun v _=>v=u,fun _ _ _ h _=>h⟩
def pile (n:Nat) (ps:List Pc):SP:=⟨fun v w=>∃ q,v = .slice (some q) n n∧Pile w 1 (some q) ps,fun _ _ _ h hb=>by obtain ⟨q,e,h⟩:=h;exact ⟨q,e,h.kept hb⟩⟩
def ln (base n:Nat) (cs:List Value):SP:=⟨fun v w=>∃ A c,v = .slice A n c∧Ln w 1 A n c cs∧NHi base A∧c≤maxLen,fun _ _ _ h hb=>by obtain ⟨A,c,e,h,h2⟩:=h;exact ⟨A,c,e,h.kept hb,h2⟩⟩
def nd (base:Nat) (s:ND):SP:=⟨fun v w=>NdV w base v s,fun _ _ _ h hb=>h.kept hb⟩
def at_ (l:List SP) (i:Nat):Value→World→Prop:=(l.getD i any).p
theorem at_st (l:List SP):∀ i v w w',at_ l i v w→Below w.heap.size w w'→at_ l i v w':=fun i=>(l.getD i any).st
end SP
def NdEnd (w:World) (s:ND) (e:Ending) (w':World):Prop:=∃ v,e = .returned v∧NdV w' w.heap.size v s∧Below w.heap.size w w'
def NdBEnd (w:World) (s:ND) (r:Bool) (e:Ending) (w':World):Prop:=∃ v,e = .returned (.tuple #[v,.bool r])∧NdV w' w.heap.size v s∧Below w.heap.size w w'
theorem ln_of_row {w0 w:World} {base base' n:Nat} {t:TypeId} {v:Value} {cs:List Value} (h:w.ownsRow base t 1 v n cs) (_:w0=w) (hb:base'≤base):(SP.ln base' n cs).p v w:=by
 obtain ⟨A,c,rfl,hc,hl⟩:=Ln.of_own h
 exact ⟨A,c,rfl,hl,(NHi.of_own h).low hb,hc⟩
/-- The argument's block, and the answer's. -/
theorem nbox_pair (w:World) (x y z p:Value):NBox ((w.alloc (.cells #[x,y,z,p] 68)).alloc (.cells #[.bool false,.slice none 0 0,.slice none 0 0,.slice none 0 0] 68)) w.heap.size x y z p ∧
 NBox ((w.alloc (.cells #[x,y,z,p] 68)).alloc (.cells #[.bool false,.slice none 0 0,.slice none 0 0,.slice none 0 0] 68)) (w.heap.size+1) (.bool false) (.slice none 0 0) (.slice none 0 0) (.slice none 0 0) ∧
 Below w.heap.size w ((w.alloc (.cells #[x,y,z,p] 68)).alloc (.cells #[.bool false,.slice none 0 0,.slice none 0 0,.slice none 0 0] 68)):=by
 refine ⟨(nbox_new w x y z p).kept (below_one _ _),?_,below_two _ _ _⟩
 have h:=nbox_new (w.alloc (.cells #[x,y,z,p] 68)) (.bool false) (.slice none 0 0) (.slice none 0 0) (.slice none 0 0)
 rw [show (w.alloc (.cells #[x,y,z,p] 68)).heap.size=w.heap.size+1 by simp] at h
 exact h
theorem nd_done {w wf:World} {r:Nat} {v:Value} {s:ND} (hb:Below w.heap.size w wf) (hr:w.heap.size≤r) (h:NdV wf (r+1) v s) (x y z p:Value) :
 NdV ((((wf.setCell ⟨r,0,none⟩ x).setCell ⟨r,1,none⟩ y).setCell ⟨r,2,none⟩ z).setCell ⟨r,3,none⟩ p) w.heap.size v s∧Below w.heap.size w ((((wf.setCell ⟨r,0,none⟩ x).setCell ⟨r,1,none⟩ y).setCell ⟨r,2,none⟩ z).setCell ⟨r,3,none⟩ p) :=
 ⟨ndv_put h hr x y z p,below_nput hb hr x y z p⟩
end Go.Proofs.YtccphijgcapeoaaGreat
/-
  What cell's copied comes to.
-/
namespace Go.Proofs.YtccphijgcapeoaaGreat
open Go.RowKit
def copF (g r:Nat) (lf:Bool) (A:Option Addr) (n c:Nat) (B:Option Addr) (m d:Nat) (C:Option Addr) (k e:Nat) (s:ND):List SP :=
 [.is (.pointer (some ⟨g,0,none⟩)),.is (.bool lf),.is (.pointer (some ⟨g,1,none⟩)),.is (.slice A n c),.pile 1 [⟨A,n,c,strVals s.keys⟩],.ln (r+1) n (strVals s.keys),
  .is (.pointer (some ⟨g,2,none⟩)),.is (.slice B m d),.pile 1 [⟨B,m,d,strVals s.vals⟩],.ln (r+1) m (strVals s.vals),
  .is (.pointer (some ⟨g,3,none⟩)),.is (.slice C k e),.pile 1 [⟨C,k,e,intVals s.kids⟩],.ln (r+1) k (intVals s.kids),.nd (r+1) s]
theorem copied_any (lf:Bool) (A:Option Addr) (n c:Nat) (B:Option Addr) (m d:Nat) (C:Option Addr) (k e:Nat) (s:ND) (w:World) (h:Nd w A n c B m d C k e s) (hl:s.leaf=lf) (hn:n≤1000000) (hm:m≤1000000) (hk:k≤1000000) :
 Calls Tryz.prog 77 #[.agg #[.bool lf,.slice A n c,.slice B m d,.slice C k e]] w (NdEnd w s):=by
 obtain ⟨tb1,tb2,tb3⟩:=nbox_pair w (.bool lf) (.slice A n c) (.slice B m d) (.slice C k e)
 have HS:=Lib.hid (h.kept tb3)
 have HB:=Lib.hid tb1
 have HR:=Lib.hid tb2
 have B0:=Lib.hid tb3
 have HL:=Lib.hid hl
 clear h hl tb1 tb2 tb3
 go_enter Tryz.func77,Tryz.ntmps77
 go_wp2_with fail
 generalize (w.alloc (.cells #[.bool lf,.slice A n c,.slice B m d,.slice C k e] 68)).alloc (.cells #[.bool false,.slice none 0 0,.slice none 0 0,.slice none 0 0] 68)=w0 at *
 have hg:=HB.out.lt
 have hr:=HR.out.lt
 rename_i KK HM
 refine wp_region_flow 15 1 (SP.at_ (copF w.heap.size (w.heap.size+1) lf A n c B m d C k e s)) (by kernel_rfl) rfl (by kernel_rfl) (by kernel_rfl) (by kernel_rfl) (SP.at_st _) ?_ ?_
 ·intro i o L a wx hi ho h hd
  have e1:a.eval (.tmp 1) = .pointer (some ⟨w.heap.size,0,none⟩):=(h.old 1 (by kernel_rfl)).trans rfl
  obtain ⟨c0,c1,c2,c3⟩:=(HB.out.kept h.below).cells
  match i,hi,ho,hd with
  | 0,_,ho,hd =>
    obtain rfl:=Option.some.inj ho
    refine wpOp_step rfl (fun K hK=>?_)
    refine (if_pos (by rfl)).mpr ?_
    have q0:=got e1
    go_simp
    exact hK _ _ ⟨_,_,rfl,rfl,rfl,Below.refl _ _⟩
  | 1,_,ho,hd =>
    obtain rfl:=Option.some.inj ho
    refine wpOp_step rfl (fun K hK=>?_)
    refine (if_pos (by rfl)).mpr ?_
    have q0:=got (h.got 0 _ _ rfl (by decide) (hd ⟨0,.data⟩ (by simp) rfl) rfl)
    go_simp
    exact hK _ _ ⟨_,_,rfl,rfl,rfl,Below.refl _ _⟩
  | 2,_,ho,hd =>
    obtain rfl:=Option.some.inj ho
    refine wpOp_step rfl (fun K hK=>?_)
    refine (if_pos (by rfl)).mpr ?_
    have q0:=got e1
    go_simp
    exact hK _ _ ⟨_,_,rfl,rfl,rfl,Below.refl _ _⟩
  | 3,_,ho,hd =>
    obtain rfl:=Option.some.inj ho
    refine wpOp_step rfl (fun K hK=>?_)
    refine (if_pos (by rfl)).mpr ?_
    have q0:=got (h.got 2 _ _ rfl (by decide) (hd ⟨2,.data⟩ (by simp) rfl) rfl)
    go_simp
    exact hK _ _ ⟨_,_,rfl,rfl,rfl,Below.refl _ _⟩
  | 4,_,ho,hd =>
    obtain rfl:=Option.some.inj ho
    refine wpOp_step rfl (fun K hK=>?_)
    refine (if_pos (by rfl)).mpr ?_
    have q3:=got (h.got 3 _ _ rfl (by decide) (hd ⟨3,.data⟩ (by simp) rfl) rfl)
    go_simp
    exact hK _ _ ⟨_,_,rfl,rfl,⟨_,rfl,pile_one (HS.out.ke.kept h.below) (strVals_one _) _⟩,below_one _ _⟩
  | 5,_,ho,hd =>
    obtain rfl:=Option.some.inj ho
    refine wpOp_step rfl (fun K hK=>?_)
    refine (if_pos (by rfl)).mpr ?_
    obtain ⟨p,ep,hp⟩:=(h.got 4 _ _ rfl (by decide) (hd ⟨4,.data⟩ (by simp) rfl) rfl)
    have q:=got ep
    have hbs:=h.below.size
    go_simp
    refine (ejoin_S _ 1 1 n _ wx hp rfl (by simp [tot]) (by omega) (by decide)).mono ?_
    rintro e w3 ⟨v3,rfl,o3,b3⟩
    rw [epcs_one] at o3
    exact hK _ _ ⟨v3,_,rfl,rfl,ln_of_row o3 rfl (by omega),b3⟩
  | 6,_,ho,hd =>
    obtain rfl:=Option.some.inj ho
    refine wpOp_step rfl (fun K hK=>?_)
    refine (if_pos (by rfl)).mpr ?_
    have q0:=got e1
    go_simp
    exact hK _ _ ⟨_,_,rfl,rfl,rfl,Below.refl _ _⟩
  | 7,_,ho,hd =>
    obtain rfl:=Option.some.inj ho
    refine wpOp_step rfl (fun K hK=>?_)
    refine (if_pos (by rfl)).mpr ?_
    have q0:=got (h.got 6 _ _ rfl (by decide) (hd ⟨6,.data⟩ (by simp) rfl) rfl)
    go_simp
    exact hK _ _ ⟨_,_,rfl,rfl,rfl,Below.refl _ _⟩
  | 8,_,ho,hd =>
    obtain rfl:=Option.some.inj ho
    refine wpOp_step rfl (fun K hK=>?_)
    refine (if_pos (by rfl)).mpr ?_
    have q7:=got (h.got 7 _ _ rfl (by decide) (hd ⟨7,.data⟩ (by simp) rfl) rfl)
    go_simp
    exact hK _ _ ⟨_,_,rfl,rfl,⟨_,rfl,pile_one (HS.out.va.kept h.below) (strVals_one _) _⟩,below_one _ _⟩
  | 9,_,ho,hd =>
    obtain rfl:=Option.some.inj ho
    refine wpOp_step rfl (fun K hK=>?_)
    refine (if_pos (by rfl)).mpr ?_
    obtain ⟨p,ep,hp⟩:=(h.got 8 _ _ rfl (by decide) (hd ⟨8,.data⟩ (by simp) rfl) rfl)
    have q:=got ep
    have hbs:=h.below.size
    go_simp
    refine (ejoin_S _ 1 1 m _ wx hp rfl (by simp [tot]) (by omega) (by decide)).mono ?_
    rintro e w3 ⟨v3,rfl,o3,b3⟩
    rw [epcs_one] at o3
    exact hK _ _ ⟨v3,_,rfl,rfl,ln_of_row o3 rfl (by omega),b3⟩
  | 10,_,ho,hd =>
    obtain rfl:=Option.some.inj ho
    refine wpOp_step rfl (fun K hK=>?_)
    refine (if_pos (by rfl)).mpr ?_
    have q0:=got e1
    go_simp
    exact hK _ _ ⟨_,_,rfl,rfl,rfl,Below.refl _ _⟩
  | 11,_,ho,hd =>
    obtain rfl:=Option.some.inj ho
    refine wpOp_step rfl (fun K hK=>?_)
    refine (if_pos (by rfl)).mpr ?_
    have q0:=got (h.got 10 _ _ rfl (by decide) (hd ⟨10,.data⟩ (by simp) rfl) rfl)
    go_simp
    exact hK _ _ ⟨_,_,rfl,rfl,rfl,Below.refl _ _⟩
  | 12,_,ho,hd =>
    obtain rfl:=Option.some.inj ho
    refine wpOp_step rfl (fun K hK=>?_)
    refine (if_pos (by rfl)).mpr ?_
    have q11:=got (h.got 11 _ _ rfl (by decide) (hd ⟨11,.data⟩ (by simp) rfl) rfl)
    go_simp
    exact hK _ _ ⟨_,_,rfl,rfl,⟨_,rfl,pile_one (HS.out.ki.kept h.below) (intVals_one _) _⟩,below_one _ _⟩
  | 13,_,ho,hd =>
    obtain rfl:=Option.some.inj ho
    refine wpOp_step rfl (fun K hK=>?_)
    refine (if_pos (by rfl)).mpr ?_
    obtain ⟨p,ep,hp⟩:=(h.got 12 _ _ rfl (by decide) (hd ⟨12,.data⟩ (by simp) rfl) rfl)
    have q:=got ep
    have hbs:=h.below.size
    go_simp
    refine (ejoin_I _ 1 1 k _ wx hp rfl (by simp [tot]) (by omega) (by decide)).mono ?_
    rintro e w3 ⟨v3,rfl,o3,b3⟩
    rw [epcs_one] at o3
    exact hK _ _ ⟨v3,_,rfl,rfl,ln_of_row o3 rfl (by omega),b3⟩
  | 14,_,ho,hd =>
    obtain rfl:=Option.some.inj ho
    refine wpOp_step rfl (fun K hK=>?_)
    refine (if_pos (by rfl)).mpr ?_
    have q1:=got (h.got 1 _ _ rfl (by decide) (hd ⟨1,.data⟩ (by simp) rfl) rfl)
    obtain ⟨A1,a1,z1,l1,i1,_⟩:=(h.got 5 _ _ rfl (by decide) (hd ⟨5,.data⟩ (by simp) rfl) rfl)
    obtain ⟨A2,a2,z2,l2,i2,_⟩:=(h.got 9 _ _ rfl (by decide) (hd ⟨9,.data⟩ (by simp) rfl) rfl)
    obtain ⟨A3,a3,z3,l3,i3,_⟩:=(h.got 13 _ _ rfl (by decide) (hd ⟨13,.data⟩ (by simp) rfl) rfl)
    have y1:=got z1
    have y2:=got z2
    have y3:=got z3
    go_simp
    exact hK _ _ ⟨_,_,rfl,rfl,⟨A1,n,a1,A2,m,a2,A3,k,a3,by rw [HL.out],⟨l1,l2,l3⟩,i1,i2,i3⟩,Below.refl _ _⟩
 ·intro mm L a wx h hd
  refine wpAny_ready (rs:=[15]) (by decide +kernel) (by simp) (AllReady.cons rfl (fun K hK=>?_) AllReady.nil)
  refine (if_pos (by rfl)).mpr ?_
  have hn4:=h.got 14 _ _ rfl (by decide) (hd 14 (by decide)) rfl
  obtain ⟨A',n',c',B',m',d',C',k',e',ev,_,_,_,_⟩:=id hn4
  have q:=got ev
  have q2:=got ((h.old 2 (by kernel_rfl)).trans rfl:a.eval (.tmp 2) = .pointer (some ⟨w.heap.size+1,0,none⟩))
  have HR2:=Lib.hid (HR.out.kept h.below)
  obtain ⟨x0,x1,x2,x3⟩:=HR2.out.cells
  obtain ⟨f0,f1,f2,f3⟩:=HR2.out.free
  go_simp
  refine hK _ _ ?_
  refine wpAny_done (by decide +kernel) ?_ _
  have HD:=Lib.hid (nd_done (chainN h.below B0.out) (Nat.le_succ _) hn4 (.bool s.leaf) (.slice A' n' c') (.slice B' m' d') (.slice C' k' e'))
  rw [ev] at HD
  obtain ⟨y0,y1,y2,y3⟩:=(HR2.out.put (.bool s.leaf) (.slice A' n' c') (.slice B' m' d') (.slice C' k' e')).cells
  refine HM _ _ ?_
  refine wp_ret ?_
  refine bodyPost_ret (v := .agg #[.bool s.leaf,.slice A' n' c',.slice B' m' d',.slice C' k' e']) (by simp [results,Tryz.results77,go_sem,q2,y0,y1,y2,y3]) (h.df.trans rfl) ?_
  exact ⟨_,rfl,HD.out.1,HD.out.2⟩
end Go.Proofs.YtccphijgcapeoaaGreat
/-
  What cell's Put comes to.
-/
namespace Go.Proofs.YtccphijgcapeoaaGreat
open Go.RowKit
def putF (g r:Nat) (A:Option Addr) (n c:Nat) (B:Option Addr) (m d:Nat) (f t:Nat) (x y:ByteArray) (u:ND):List SP :=
 [.is (.pointer (some ⟨g,1,none⟩)),.is (.slice A n c),.is (.int .i64 f),.is (.int .i64 t),.is (.string x),.ln 0 1 [.string x],.ln (r+1) (f+1+(n - t)) (strVals u.keys),
  .is (.pointer (some ⟨g,2,none⟩)),.is (.slice B m d),.is (.int .i64 f),.is (.int .i64 t),.is (.string y),.ln 0 1 [.string y],.ln (r+1) (f+1+(m - t)) (strVals u.vals),.nd (r+1) u]
theorem str_rep (l o:List (List UInt8)) (f t:Nat):ND.rep (strVals l) f t (strVals o)=strVals (ND.rep l f t o):=by
 unfold ND.rep strVals
 rw [List.map_append,List.map_append,List.map_take,List.map_drop]
theorem int_rep (l o:List Int) (f t:Nat):ND.rep (intVals l) f t (intVals o)=intVals (ND.rep l f t o):=by
 unfold ND.rep intVals
 rw [List.map_append,List.map_append,List.map_take,List.map_drop]
theorem str_one (x:ByteArray):[Value.string x]=strVals [x.toList]:=by
 unfold strVals
 simp [tb_back]
theorem ln_str (w:World) (x:ByteArray):(SP.ln 0 1 [.string x]).p (.slice (some ⟨w.heap.size,0,none⟩) 1 1) (w.alloc (.cells #[.string x] 9)) :=
 ⟨_,1,rfl,⟨rfl,Nat.le_refl _,fun e=>(by cases e),fun ad e j u hu=>by
  obtain rfl:=Option.some.inj e
  rw [addr_add]
  match j,hu with
  | 0,hu =>
    obtain rfl:=Option.some.inj hu
    simp⟩,fun _ _=>Nat.zero_le _,by unfold maxLen;omega⟩
theorem one_str (x:ByteArray):∀ u∈[Value.string x],u.oneCell'=true:=by
 intro u hu
 rw [List.mem_singleton.1 hu]
 rfl
theorem eput_any (lf:Bool) (A:Option Addr) (n c:Nat) (B:Option Addr) (m d:Nat) (C:Option Addr) (k e:Nat) (s:ND) (x y:ByteArray) (w:World) (h:Nd w A n c B m d C k e s) (hl:s.leaf=lf) (ho:s.ok=true) (hlf:lf=true) (hn:n≤300000) :
 Calls Tryz.prog 48 #[.agg #[.bool lf,.slice A n c,.slice B m d,.slice C k e],.string x,.string y] w (NdEnd w (s.put x.toList y.toList)):=by
 subst hlf
 obtain rfl:n=m:=by rw [← h.vn,← h.kn];exact (ND.ok_leaf ho hl).1.symm
 have HO:=Lib.hid ho
 clear ho
 obtain ⟨tb1,tb2,tb3⟩:=nbox_pair w (.bool true) (.slice A n c) (.slice B n d) (.slice C k e)
 have HS:=Lib.hid (h.kept tb3)
 have HB:=Lib.hid tb1
 have HR:=Lib.hid tb2
 have B0:=Lib.hid tb3
 have HL:=Lib.hid hl
 clear h hl tb1 tb2 tb3
 go_enter Tryz.func48,Tryz.ntmps48
 go_upto_region 1 with fail
 generalize (w.alloc (.cells #[.bool true,.slice A n c,.slice B n d,.slice C k e] 68)).alloc (.cells #[.bool false,.slice none 0 0,.slice none 0 0,.slice none 0 0] 68)=w0 at *
 obtain ⟨c0,c1,c2,c3⟩:=HB.out.cells
 go_wp2_with fail
 refine (find_any true A n c B n d C k e s x w0 HS.out (ND.ok_rise HO.out) (by omega)).mono ?_
 rintro e1 w1 ⟨rfl,b1⟩
 have B1:=Lib.hid (chainN b1 B0.out)
 have HB1:=Lib.hid (HB.out.kept b1)
 have HR1:=Lib.hid (HR.out.kept b1)
 have HS1:=Lib.hid (HS.out.kept b1)
 have hfn:=ND.findN_le x.toList s.keys
 rw [HS1.out.kn] at hfn
 clear b1 c0 c1 c2 c3 HB HR HS B0
 have hg:=HB1.out.lt
 have hr:=HR1.out.lt
 cases his:ND.isAt x.toList s.keys with
 | true =>
   have HP:=Lib.hid (ND.put_old y.toList his)
   have hfl:=ND.isAt_lt his
   rw [HS1.out.kn] at hfl
   clear his hfn
   generalize ND.findN x.toList s.keys=f at *
   go_upto_region 7 with fail
   rename_i KK HM
   refine wp_region_flow 15 1 (SP.at_ (putF w.heap.size (w.heap.size+1) A n c B n d f (f+1) x y ⟨true,ND.rep s.keys f (f+1) [x.toList],ND.rep s.vals f (f+1) [y.toList],[]⟩)) (by kernel_rfl) rfl (by kernel_rfl) (by kernel_rfl) (by kernel_rfl) (SP.at_st _) ?_ ?_
   ·intro i o L a wx hi ho h hd
    have e3:a.eval (.tmp 3) = .pointer (some ⟨w.heap.size,0,none⟩):=(h.old 3 (by kernel_rfl)).trans rfl
    have e7:a.eval (.tmp 7) = .int .i64 (f:Int):=(h.old 7 (by kernel_rfl)).trans rfl
    have e9:a.eval (.tmp 9) = .int .i64 ((f+1:Nat):Int):=(h.old 9 (by kernel_rfl)).trans rfl
    have ek:a.eval (.tmp 1) = .string x:=(h.old 1 (by kernel_rfl)).trans rfl
    have ey:a.eval (.tmp 2) = .string y:=(h.old 2 (by kernel_rfl)).trans rfl
    obtain ⟨c0,c1,c2,c3⟩:=(HB1.out.kept h.below).cells
    match i,hi,ho,hd with
    | 0,_,ho,hd =>
      obtain rfl:=Option.some.inj ho
      refine wpOp_step rfl (fun K hK=>?_)
      refine (if_pos (by rfl)).mpr ?_
      have q0:=got e3
      go_simp
      exact hK _ _ ⟨_,_,rfl,rfl,rfl,Below.refl _ _⟩
    | 1,_,ho,hd =>
      obtain rfl:=Option.some.inj ho
      refine wpOp_step rfl (fun K hK=>?_)
      refine (if_pos (by rfl)).mpr ?_
      have q0:=got (h.got 0 _ _ rfl (by decide) (hd ⟨0,.data⟩ (by simp) rfl) rfl)
      go_simp
      exact hK _ _ ⟨_,_,rfl,rfl,rfl,Below.refl _ _⟩
    | 2,_,ho,hd =>
      obtain rfl:=Option.some.inj ho
      refine wpOp_step rfl (fun K hK=>?_)
      refine (if_pos (by rfl)).mpr ?_
      have q0:=got e7
      go_simp
      exact hK _ _ ⟨_,_,rfl,rfl,rfl,Below.refl _ _⟩
    | 3,_,ho,hd =>
      obtain rfl:=Option.some.inj ho
      refine wpOp_step rfl (fun K hK=>?_)
      refine (if_pos (by rfl)).mpr ?_
      have q0:=got e9
      go_simp
      exact hK _ _ ⟨_,_,rfl,rfl,rfl,Below.refl _ _⟩
    | 4,_,ho,hd =>
      obtain rfl:=Option.some.inj ho
      refine wpOp_step rfl (fun K hK=>?_)
      refine (if_pos (by rfl)).mpr ?_
      have q0:=got ek
      go_simp
      exact hK _ _ ⟨_,_,rfl,rfl,rfl,Below.refl _ _⟩
    | 5,_,ho,hd =>
      obtain rfl:=Option.some.inj ho
      refine wpOp_step rfl (fun K hK=>?_)
      refine (if_pos (by rfl)).mpr ?_
      have q0:=got (h.got 4 _ _ rfl (by decide) (hd ⟨4,.data⟩ (by simp) rfl) rfl)
      go_simp
      exact hK _ _ ⟨_,_,rfl,rfl,ln_str wx x,below_one _ _⟩
    | 6,_,ho,hd =>
      obtain rfl:=Option.some.inj ho
      refine wpOp_step rfl (fun K hK=>?_)
      refine (if_pos (by rfl)).mpr ?_
      have q0:=got (h.got 1 _ _ rfl (by decide) (hd ⟨1,.data⟩ (by simp) rfl) rfl)
      have q1:=got (h.got 2 _ _ rfl (by decide) (hd ⟨2,.data⟩ (by simp) rfl) rfl)
      have q2:=got (h.got 3 _ _ rfl (by decide) (hd ⟨3,.data⟩ (by simp) rfl) rfl)
      obtain ⟨Z,z,ez,hz,_,_⟩:=(h.got 5 _ _ rfl (by decide) (hd ⟨5,.data⟩ (by simp) rfl) rfl)
      have q3:=got ez
      have hbs:=h.below.size
      go_simp
      refine (ereplaced_S A n c (strVals s.keys) f (f+1) Z 1 z _ wx (HS1.out.ke.kept h.below) (strVals_one _) hz (one_str _) (by omega) (by omega) hn (by omega)).mono ?_
      rintro e w3 ⟨v3,rfl,o3,b3⟩
      rw [str_one,str_rep] at o3
      exact hK _ _ ⟨v3,_,rfl,rfl,ln_of_row o3 rfl (by omega),b3⟩
    | 7,_,ho,hd =>
      obtain rfl:=Option.some.inj ho
      refine wpOp_step rfl (fun K hK=>?_)
      refine (if_pos (by rfl)).mpr ?_
      have q0:=got e3
      go_simp
      exact hK _ _ ⟨_,_,rfl,rfl,rfl,Below.refl _ _⟩
    | 8,_,ho,hd =>
      obtain rfl:=Option.some.inj ho
      refine wpOp_step rfl (fun K hK=>?_)
      refine (if_pos (by rfl)).mpr ?_
      have q0:=got (h.got 7 _ _ rfl (by decide) (hd ⟨7,.data⟩ (by simp) rfl) rfl)
      go_simp
      exact hK _ _ ⟨_,_,rfl,rfl,rfl,Below.refl _ _⟩
    | 9,_,ho,hd =>
      obtain rfl:=Option.some.inj ho
      refine wpOp_step rfl (fun K hK=>?_)
      refine (if_pos (by rfl)).mpr ?_
      have q0:=got e7
      go_simp
      exact hK _ _ ⟨_,_,rfl,rfl,rfl,Below.refl _ _⟩
    | 10,_,ho,hd =>
      obtain rfl:=Option.some.inj ho
      refine wpOp_step rfl (fun K hK=>?_)
      refine (if_pos (by rfl)).mpr ?_
      have q0:=got e9
      go_simp
      exact hK _ _ ⟨_,_,rfl,rfl,rfl,Below.refl _ _⟩
    | 11,_,ho,hd =>
      obtain rfl:=Option.some.inj ho
      refine wpOp_step rfl (fun K hK=>?_)
      refine (if_pos (by rfl)).mpr ?_
      have q0:=got ey
      go_simp
      exact hK _ _ ⟨_,_,rfl,rfl,rfl,Below.refl _ _⟩
    | 12,_,ho,hd =>
      obtain rfl:=Option.some.inj ho
      refine wpOp_step rfl (fun K hK=>?_)
      refine (if_pos (by rfl)).mpr ?_
      have q0:=got (h.got 11 _ _ rfl (by decide) (hd ⟨11,.data⟩ (by simp) rfl) rfl)
      go_simp
      exact hK _ _ ⟨_,_,rfl,rfl,ln_str wx y,below_one _ _⟩
    | 13,_,ho,hd =>
      obtain rfl:=Option.some.inj ho
      refine wpOp_step rfl (fun K hK=>?_)
      refine (if_pos (by rfl)).mpr ?_
      have q0:=got (h.got 8 _ _ rfl (by decide) (hd ⟨8,.data⟩ (by simp) rfl) rfl)
      have q1:=got (h.got 9 _ _ rfl (by decide) (hd ⟨9,.data⟩ (by simp) rfl) rfl)
      have q2:=got (h.got 10 _ _ rfl (by decide) (hd ⟨10,.data⟩ (by simp) rfl) rfl)
      obtain ⟨Z,z,ez,hz,_,_⟩:=(h.got 12 _ _ rfl (by decide) (hd ⟨12,.data⟩ (by simp) rfl) rfl)
      have q3:=got ez
      have hbs:=h.below.size
      go_simp
      refine (ereplaced_S B n d (strVals s.vals) f (f+1) Z 1 z _ wx (HS1.out.va.kept h.below) (strVals_one _) hz (one_str _) (by omega) (by omega) hn (by omega)).mono ?_
      rintro e w3 ⟨v3,rfl,o3,b3⟩
      rw [str_one,str_rep] at o3
      exact hK _ _ ⟨v3,_,rfl,rfl,ln_of_row o3 rfl (by omega),b3⟩
    | 14,_,ho,hd =>
      obtain rfl:=Option.some.inj ho
      refine wpOp_step rfl (fun K hK=>?_)
      refine (if_pos (by rfl)).mpr ?_
      obtain ⟨A1,a1,z1,l1,i1,_⟩:=(h.got 6 _ _ rfl (by decide) (hd ⟨6,.data⟩ (by simp) rfl) rfl)
      obtain ⟨A2,a2,z2,l2,i2,_⟩:=(h.got 13 _ _ rfl (by decide) (hd ⟨13,.data⟩ (by simp) rfl) rfl)
      have y1:=got z1
      have y2:=got z2
      go_simp
      exact hK _ _ ⟨_,_,rfl,rfl,⟨A1,_,a1,A2,_,a2,none,0,0,rfl,⟨l1,l2,Ln.none_ _ 1⟩,i1,i2,NHi.none_ _⟩,Below.refl _ _⟩
    | j+15,hi,_,_=>exact absurd hi (by omega)
   ·intro mm L a wx h hd
    refine wpAny_ready (rs:=[15]) (by decide +kernel) (by simp) (AllReady.cons rfl (fun K hK=>?_) AllReady.nil)
    refine (if_pos (by rfl)).mpr ?_
    have hn4:=h.got 14 _ _ rfl (by decide) (hd 14 (by decide)) rfl
    obtain ⟨A',n',c',B',m',d',C',k',e',ev,_,_,_,_⟩:=id hn4
    have q:=got ev
    have q2:=got ((h.old 6 (by kernel_rfl)).trans rfl:a.eval (.tmp 6) = .pointer (some ⟨w.heap.size+1,0,none⟩))
    have HR2:=Lib.hid (HR1.out.kept h.below)
    obtain ⟨x0,x1,x2,x3⟩:=HR2.out.cells
    obtain ⟨f0,f1,f2,f3⟩:=HR2.out.free
    go_simp
    refine hK _ _ ?_
    refine wpAny_done (by decide +kernel) ?_ _
    have HD:=Lib.hid (nd_done (chainN h.below B1.out) (Nat.le_succ _) hn4 (.bool (⟨true,ND.rep s.keys f (f+1) [x.toList],ND.rep s.vals f (f+1) [y.toList],[]⟩:ND).leaf) (.slice A' n' c') (.slice B' m' d') (.slice C' k' e'))
    rw [ev] at HD
    obtain ⟨y0,y1,y2,y3⟩:=(HR2.out.put (.bool (⟨true,ND.rep s.keys f (f+1) [x.toList],ND.rep s.vals f (f+1) [y.toList],[]⟩:ND).leaf) (.slice A' n' c') (.slice B' m' d') (.slice C' k' e')).cells
    refine HM _ _ ?_
    refine wp_ret ?_
    refine bodyPost_ret (v := .agg #[.bool (⟨true,ND.rep s.keys f (f+1) [x.toList],ND.rep s.vals f (f+1) [y.toList],[]⟩:ND).leaf,.slice A' n' c',.slice B' m' d',.slice C' k' e']) (by simp [results,Tryz.results48,go_sem,q2,y0,y1,y2,y3]) (h.df.trans rfl) ?_
    exact ⟨_,rfl,by rw [HP.out];exact HD.out.1,HD.out.2⟩
 | false =>
   have HP:=Lib.hid (ND.put_new y.toList his)
   clear his
   generalize ND.findN x.toList s.keys=f at *
   go_upto_region 7 with fail
   rename_i KK HM
   refine wp_region_flow 15 1 (SP.at_ (putF w.heap.size (w.heap.size+1) A n c B n d f (f) x y ⟨true,ND.rep s.keys f (f) [x.toList],ND.rep s.vals f (f) [y.toList],[]⟩)) (by kernel_rfl) rfl (by kernel_rfl) (by kernel_rfl) (by kernel_rfl) (SP.at_st _) ?_ ?_
   ·intro i o L a wx hi ho h hd
    have e3:a.eval (.tmp 3) = .pointer (some ⟨w.heap.size,0,none⟩):=(h.old 3 (by kernel_rfl)).trans rfl
    have e7:a.eval (.tmp 7) = .int .i64 (f:Int):=(h.old 7 (by kernel_rfl)).trans rfl
    have e9:a.eval (.tmp 9) = .int .i64 ((f:Nat):Int):=(h.old 9 (by kernel_rfl)).trans rfl
    have ek:a.eval (.tmp 1) = .string x:=(h.old 1 (by kernel_rfl)).trans rfl
    have ey:a.eval (.tmp 2) = .string y:=(h.old 2 (by kernel_rfl)).trans rfl
    obtain ⟨c0,c1,c2,c3⟩:=(HB1.out.kept h.below).cells
    match i,hi,ho,hd with
    | 0,_,ho,hd =>
      obtain rfl:=Option.some.inj ho
      refine wpOp_step rfl (fun K hK=>?_)
      refine (if_pos (by rfl)).mpr ?_
      have q0:=got e3
      go_simp
      exact hK _ _ ⟨_,_,rfl,rfl,rfl,Below.refl _ _⟩
    | 1,_,ho,hd =>
      obtain rfl:=Option.some.inj ho
      refine wpOp_step rfl (fun K hK=>?_)
      refine (if_pos (by rfl)).mpr ?_
      have q0:=got (h.got 0 _ _ rfl (by decide) (hd ⟨0,.data⟩ (by simp) rfl) rfl)
      go_simp
      exact hK _ _ ⟨_,_,rfl,rfl,rfl,Below.refl _ _⟩
    | 2,_,ho,hd =>
      obtain rfl:=Option.some.inj ho
      refine wpOp_step rfl (fun K hK=>?_)
      refine (if_pos (by rfl)).mpr ?_
      have q0:=got e7
      go_simp
      exact hK _ _ ⟨_,_,rfl,rfl,rfl,Below.refl _ _⟩
    | 3,_,ho,hd =>
      obtain rfl:=Option.some.inj ho
      refine wpOp_step rfl (fun K hK=>?_)
      refine (if_pos (by rfl)).mpr ?_
      have q0:=got e9
      go_simp
      exact hK _ _ ⟨_,_,rfl,rfl,rfl,Below.refl _ _⟩
    | 4,_,ho,hd =>
      obtain rfl:=Option.some.inj ho
      refine wpOp_step rfl (fun K hK=>?_)
      refine (if_pos (by rfl)).mpr ?_
      have q0:=got ek
      go_simp
      exact hK _ _ ⟨_,_,rfl,rfl,rfl,Below.refl _ _⟩
    | 5,_,ho,hd =>
      obtain rfl:=Option.some.inj ho
      refine wpOp_step rfl (fun K hK=>?_)
      refine (if_pos (by rfl)).mpr ?_
      have q0:=got (h.got 4 _ _ rfl (by decide) (hd ⟨4,.data⟩ (by simp) rfl) rfl)
      go_simp
      exact hK _ _ ⟨_,_,rfl,rfl,ln_str wx x,below_one _ _⟩
    | 6,_,ho,hd =>
      obtain rfl:=Option.some.inj ho
      refine wpOp_step rfl (fun K hK=>?_)
      refine (if_pos (by rfl)).mpr ?_
      have q0:=got (h.got 1 _ _ rfl (by decide) (hd ⟨1,.data⟩ (by simp) rfl) rfl)
      have q1:=got (h.got 2 _ _ rfl (by decide) (hd ⟨2,.data⟩ (by simp) rfl) rfl)
      have q2:=got (h.got 3 _ _ rfl (by decide) (hd ⟨3,.data⟩ (by simp) rfl) rfl)
      obtain ⟨Z,z,ez,hz,_,_⟩:=(h.got 5 _ _ rfl (by decide) (hd ⟨5,.data⟩ (by simp) rfl) rfl)
      have q3:=got ez
      have hbs:=h.below.size
      go_simp
      refine (ereplaced_S A n c (strVals s.keys) f (f) Z 1 z _ wx (HS1.out.ke.kept h.below) (strVals_one _) hz (one_str _) (by omega) (by omega) hn (by omega)).mono ?_
      rintro e w3 ⟨v3,rfl,o3,b3⟩
      rw [str_one,str_rep] at o3
      exact hK _ _ ⟨v3,_,rfl,rfl,ln_of_row o3 rfl (by omega),b3⟩
    | 7,_,ho,hd =>
      obtain rfl:=Option.some.inj ho
      refine wpOp_step rfl (fun K hK=>?_)
      refine (if_pos (by rfl)).mpr ?_
      have q0:=got e3
      go_simp
      exact hK _ _ ⟨_,_,rfl,rfl,rfl,Below.refl _ _⟩
    | 8,_,ho,hd =>
      obtain rfl:=Option.some.inj ho
      refine wpOp_step rfl (fun K hK=>?_)
      refine (if_pos (by rfl)).mpr ?_
      have q0:=got (h.got 7 _ _ rfl (by decide) (hd ⟨7,.data⟩ (by simp) rfl) rfl)
      go_simp
      exact hK _ _ ⟨_,_,rfl,rfl,rfl,Below.refl _ _⟩
    | 9,_,ho,hd =>
      obtain rfl:=Option.some.inj ho
      refine wpOp_step rfl (fun K hK=>?_)
      refine (if_pos (by rfl)).mpr ?_
      have q0:=got e7
      go_simp
      exact hK _ _ ⟨_,_,rfl,rfl,rfl,Below.refl _ _⟩
    | 10,_,ho,hd =>
      obtain rfl:=Option.some.inj ho
      refine wpOp_step rfl (fun K hK=>?_)
      refine (if_pos (by rfl)).mpr ?_
      have q0:=got e9
      go_simp
      exact hK _ _ ⟨_,_,rfl,rfl,rfl,Below.refl _ _⟩
    | 11,_,ho,hd =>
      obtain rfl:=Option.some.inj ho
      refine wpOp_step rfl (fun K hK=>?_)
      refine (if_pos (by rfl)).mpr ?_
      have q0:=got ey
      go_simp
      exact hK _ _ ⟨_,_,rfl,rfl,rfl,Below.refl _ _⟩
    | 12,_,ho,hd =>
      obtain rfl:=Option.some.inj ho
      refine wpOp_step rfl (fun K hK=>?_)
      refine (if_pos (by rfl)).mpr ?_
      have q0:=got (h.got 11 _ _ rfl (by decide) (hd ⟨11,.data⟩ (by simp) rfl) rfl)
      go_simp
      exact hK _ _ ⟨_,_,rfl,rfl,ln_str wx y,below_one _ _⟩
    | 13,_,ho,hd =>
      obtain rfl:=Option.some.inj ho
      refine wpOp_step rfl (fun K hK=>?_)
      refine (if_pos (by rfl)).mpr ?_
      have q0:=got (h.got 8 _ _ rfl (by decide) (hd ⟨8,.data⟩ (by simp) rfl) rfl)
      have q1:=got (h.got 9 _ _ rfl (by decide) (hd ⟨9,.data⟩ (by simp) rfl) rfl)
      have q2:=got (h.got 10 _ _ rfl (by decide) (hd ⟨10,.data⟩ (by simp) rfl) rfl)
      obtain ⟨Z,z,ez,hz,_,_⟩:=(h.got 12 _ _ rfl (by decide) (hd ⟨12,.data⟩ (by simp) rfl) rfl)
      have q3:=got ez
      have hbs:=h.below.size
      go_simp
      refine (ereplaced_S B n d (strVals s.vals) f (f) Z 1 z _ wx (HS1.out.va.kept h.below) (strVals_one _) hz (one_str _) (by omega) (by omega) hn (by omega)).mono ?_
      rintro e w3 ⟨v3,rfl,o3,b3⟩
      rw [str_one,str_rep] at o3
      exact hK _ _ ⟨v3,_,rfl,rfl,ln_of_row o3 rfl (by omega),b3⟩
    | 14,_,ho,hd =>
      obtain rfl:=Option.some.inj ho
      refine wpOp_step rfl (fun K hK=>?_)
      refine (if_pos (by rfl)).mpr ?_
      obtain ⟨A1,a1,z1,l1,i1,_⟩:=(h.got 6 _ _ rfl (by decide) (hd ⟨6,.data⟩ (by simp) rfl) rfl)
      obtain ⟨A2,a2,z2,l2,i2,_⟩:=(h.got 13 _ _ rfl (by decide) (hd ⟨13,.data⟩ (by simp) rfl) rfl)
      have y1:=got z1
      have y2:=got z2
      go_simp
      exact hK _ _ ⟨_,_,rfl,rfl,⟨A1,_,a1,A2,_,a2,none,0,0,rfl,⟨l1,l2,Ln.none_ _ 1⟩,i1,i2,NHi.none_ _⟩,Below.refl _ _⟩
    | j+15,hi,_,_=>exact absurd hi (by omega)
   ·intro mm L a wx h hd
    refine wpAny_ready (rs:=[15]) (by decide +kernel) (by simp) (AllReady.cons rfl (fun K hK=>?_) AllReady.nil)
    refine (if_pos (by rfl)).mpr ?_
    have hn4:=h.got 14 _ _ rfl (by decide) (hd 14 (by decide)) rfl
    obtain ⟨A',n',c',B',m',d',C',k',e',ev,_,_,_,_⟩:=id hn4
    have q:=got ev
    have q2:=got ((h.old 6 (by kernel_rfl)).trans rfl:a.eval (.tmp 6) = .pointer (some ⟨w.heap.size+1,0,none⟩))
    have HR2:=Lib.hid (HR1.out.kept h.below)
    obtain ⟨x0,x1,x2,x3⟩:=HR2.out.cells
    obtain ⟨f0,f1,f2,f3⟩:=HR2.out.free
    go_simp
    refine hK _ _ ?_
    refine wpAny_done (by decide +kernel) ?_ _
    have HD:=Lib.hid (nd_done (chainN h.below B1.out) (Nat.le_succ _) hn4 (.bool (⟨true,ND.rep s.keys f (f) [x.toList],ND.rep s.vals f (f) [y.toList],[]⟩:ND).leaf) (.slice A' n' c') (.slice B' m' d') (.slice C' k' e'))
    rw [ev] at HD
    obtain ⟨y0,y1,y2,y3⟩:=(HR2.out.put (.bool (⟨true,ND.rep s.keys f (f) [x.toList],ND.rep s.vals f (f) [y.toList],[]⟩:ND).leaf) (.slice A' n' c') (.slice B' m' d') (.slice C' k' e')).cells
    refine HM _ _ ?_
    refine wp_ret ?_
    refine bodyPost_ret (v := .agg #[.bool (⟨true,ND.rep s.keys f (f) [x.toList],ND.rep s.vals f (f) [y.toList],[]⟩:ND).leaf,.slice A' n' c',.slice B' m' d',.slice C' k' e']) (by simp [results,Tryz.results48,go_sem,q2,y0,y1,y2,y3]) (h.df.trans rfl) ?_
    exact ⟨_,rfl,by rw [HP.out];exact HD.out.1,HD.out.2⟩
end Go.Proofs.YtccphijgcapeoaaGreat
