/-
  A part of the proof: what its texts say stands at the head of each. Conditions: none.
-/
import Derived.Deep.Cut
import Derived.IntWalk
import Derived.Deep.DeepCutAuto
import Derived.RegionTactic
import Derived.Test.YtccphijgcapeoaaGreatZC6
import Derived.Test.YtccphijgcapeoaaGreatZC7

set_option maxRecDepth 20000
set_option maxHeartbeats 12800000
/-
  What cell's Join comes to.
-/
namespace Go.Proofs.YtccphijgcapeoaaGreat
open Go.RowKit
/-- The arguments' blocks, and the answer's. -/
theorem nbox_three (w:World) (x y z p x' y' z' p':Value):NBox (((w.alloc (.cells #[x,y,z,p] 68)).alloc (.cells #[x',y',z',p'] 68)).alloc (.cells #[.bool false,.slice none 0 0,.slice none 0 0,.slice none 0 0] 68)) w.heap.size x y z p ∧
 NBox (((w.alloc (.cells #[x,y,z,p] 68)).alloc (.cells #[x',y',z',p'] 68)).alloc (.cells #[.bool false,.slice none 0 0,.slice none 0 0,.slice none 0 0] 68)) (w.heap.size+1) x' y' z' p' ∧
 NBox (((w.alloc (.cells #[x,y,z,p] 68)).alloc (.cells #[x',y',z',p'] 68)).alloc (.cells #[.bool false,.slice none 0 0,.slice none 0 0,.slice none 0 0] 68)) (w.heap.size+1+1) (.bool false) (.slice none 0 0) (.slice none 0 0) (.slice none 0 0) ∧
 Below w.heap.size w (((w.alloc (.cells #[x,y,z,p] 68)).alloc (.cells #[x',y',z',p'] 68)).alloc (.cells #[.bool false,.slice none 0 0,.slice none 0 0,.slice none 0 0] 68)):=by
 have e:(w.alloc (.cells #[x,y,z,p] 68)).heap.size=w.heap.size+1:=by simp
 obtain ⟨h1,h2,h3⟩:=nbox_pair (w.alloc (.cells #[x,y,z,p] 68)) x' y' z' p'
 rw [e] at h1 h2
 exact ⟨((nbox_new w x y z p).kept (below_one _ _)).kept (below_one _ _),h1,h2,chainN h3 (below_one _ _)⟩
theorem int_app (a b:List Int):intVals a++intVals b=intVals (a++b):=(sIntVals_append a b).symm
def joinF (g r:Nat) (A:Option Addr) (n c:Nat) (B:Option Addr) (m d:Nat) (C:Option Addr) (k e:Nat) (s:ND) (A':Option Addr) (n' c':Nat) (B':Option Addr) (m' d':Nat) (C':Option Addr) (k' e':Nat) (t:ND) (lf:Bool) (K:Option Addr) (q:Nat) (bl:List (List UInt8)):List SP :=
 [.is (.pointer (some ⟨g,0,none⟩)),.is (.bool lf),.is (.pointer (some ⟨g,1,none⟩)),.is (.slice A n c),.is (.slice K q q),.is (.pointer (some ⟨g+1,1,none⟩)),.is (.slice A' n' c'),.pile 3 [⟨A,n,c,strVals s.keys⟩,⟨K,q,q,strVals bl⟩,⟨A',n',c',strVals t.keys⟩],.ln (r+1) (n+q+n') (strVals (s.keys++bl++t.keys)),
  .is (.pointer (some ⟨g,2,none⟩)),.is (.slice B m d),.is (.pointer (some ⟨g+1,2,none⟩)),.is (.slice B' m' d'),.pile 2 [⟨B,m,d,strVals s.vals⟩,⟨B',m',d',strVals t.vals⟩],.ln (r+1) (m+m') (strVals (s.vals++t.vals)),
  .is (.pointer (some ⟨g,3,none⟩)),.is (.slice C k e),.is (.pointer (some ⟨g+1,3,none⟩)),.is (.slice C' k' e'),.pile 2 [⟨C,k,e,intVals s.kids⟩,⟨C',k',e',intVals t.kids⟩],.ln (r+1) (k+k') (intVals (s.kids++t.kids)),
  .nd (r+1) ⟨lf,s.keys++bl++t.keys,s.vals++t.vals,s.kids++t.kids⟩]
theorem join_any (lf:Bool) (A:Option Addr) (n c:Nat) (B:Option Addr) (m d:Nat) (C:Option Addr) (k e:Nat) (s:ND) (lf':Bool) (A':Option Addr) (n' c':Nat) (B':Option Addr) (m' d':Nat) (C':Option Addr) (k' e':Nat) (t:ND) (x:ByteArray) (w:World)
 (h:Nd w A n c B m d C k e s) (g:Nd w A' n' c' B' m' d' C' k' e' t) (hl:s.leaf=lf) (hn:n≤300000) (hm:m≤300000) (hk:k≤300000) (hn':n'≤300000) (hm':m'≤300000) (hk':k'≤300000) :
 Calls Tryz.prog 145 #[.agg #[.bool lf,.slice A n c,.slice B m d,.slice C k e],.string x,.agg #[.bool lf',.slice A' n' c',.slice B' m' d',.slice C' k' e']] w (NdEnd w (s.join x.toList t)):=by
 obtain ⟨tb1,tb2,tb3,tb4⟩:=nbox_three w (.bool lf) (.slice A n c) (.slice B m d) (.slice C k e) (.bool lf') (.slice A' n' c') (.slice B' m' d') (.slice C' k' e')
 have HS:=Lib.hid (h.kept tb4)
 have GS:=Lib.hid (g.kept tb4)
 have HB:=Lib.hid tb1
 have GB:=Lib.hid tb2
 have HR:=Lib.hid tb3
 have B0:=Lib.hid tb4
 have HL:=Lib.hid hl
 clear h g hl tb1 tb2 tb3 tb4
 go_enter Tryz.func145,Tryz.ntmps145
 go_upto_region 1 with fail
 generalize ((w.alloc (.cells #[.bool lf,.slice A n c,.slice B m d,.slice C k e] 68)).alloc (.cells #[.bool lf',.slice A' n' c',.slice B' m' d',.slice C' k' e'] 68)).alloc (.cells #[.bool false,.slice none 0 0,.slice none 0 0,.slice none 0 0] 68)=w0 at *
 have b1:=below_one w0 (.cells #[.string x] 9)
 have B1:=Lib.hid (chainN b1 B0.out)
 have HB1:=Lib.hid (HB.out.kept b1)
 have GB1:=Lib.hid (GB.out.kept b1)
 have HR1:=Lib.hid (HR.out.kept b1)
 have HS1:=Lib.hid (HS.out.kept b1)
 have GS1:=Lib.hid (GS.out.kept b1)
 have LX:Hid (Ln (w0.alloc (.cells #[.string x] 9)) 1 (some ⟨w0.heap.size,0,none⟩) 1 1 (strVals [x.toList])):=Lib.hid (by
  obtain ⟨A9,c9,e9,l9,_⟩:=ln_str w0 x
  injection e9 with e9 _ e10
  subst e9
  subst e10
  rw [← str_one]
  exact l9)
 clear b1 HB GB HR HS GS B0
 go_upto_region 2 with fail
 generalize w0.alloc (.cells #[.string x] 9)=w1 at *
 generalize w0.heap.size=gx at *
 have hg:=HB1.out.lt
 have hg2:=GB1.out.lt
 have hr:=HR1.out.lt
 obtain ⟨c0,c1,c2,c3⟩:=HB1.out.cells
 cases lf with
 | true =>
   have LN:Hid (Ln w1 1 none 0 0 (strVals [])):=Lib.hid (Ln.none_ _ 1)
   have HJ:Hid (s.join x.toList t=⟨true,s.keys++[]++t.keys,s.vals++t.vals,s.kids++t.kids⟩):=Lib.hid (by unfold ND.join;rw [HL.out];rfl)
   go_upto_region 4 with fail
   clear c0 c1 c2 c3
   rename_i KK HM
   refine wp_region_flow 22 1 (SP.at_ (joinF w.heap.size (w.heap.size+1+1) A n c B m d C k e s A' n' c' B' m' d' C' k' e' t true none 0 [])) (by kernel_rfl) rfl (by kernel_rfl) (by kernel_rfl) (by kernel_rfl) (SP.at_st _) ?_ ?_
   ·intro i o L a wx hi ho h hd
    have e3:a.eval (.tmp 3) = .pointer (some ⟨w.heap.size,0,none⟩):=(h.old 3 (by kernel_rfl)).trans rfl
    have e5:a.eval (.tmp 5) = .pointer (some ⟨w.heap.size+1,0,none⟩):=(h.old 5 (by kernel_rfl)).trans rfl
    have e7:a.eval (.tmp 7) = .slice none 0 0:=(h.old 7 (by kernel_rfl)).trans rfl
    obtain ⟨c0,c1,c2,c3⟩:=(HB1.out.kept h.below).cells
    obtain ⟨d0,d1,d2,d3⟩:=(GB1.out.kept h.below).cells
    match i,hi,ho,hd with
    | 0,_,ho,hd =>
      obtain rfl:=Option.some.inj ho
      refine wpOp_step rfl (fun K hK=>?_)
      refine (if_pos (by rfl)).mpr ?_
      have q0:=got e3
      go_simp
      exact hK _ _ ⟨_,_,rfl,rfl,rfl,Below.refl _ _⟩
    | 1,_,ho,hd =>
      obtain rfl:=Option.some.inj ho
      refine wpOp_step rfl (fun K hK=>?_)
      refine (if_pos (by rfl)).mpr ?_
      have q0:=got (h.got 0 _ _ rfl (by decide) (hd ⟨0,.data⟩ (by simp) rfl) rfl)
      go_simp
      exact hK _ _ ⟨_,_,rfl,rfl,rfl,Below.refl _ _⟩
    | 2,_,ho,hd =>
      obtain rfl:=Option.some.inj ho
      refine wpOp_step rfl (fun K hK=>?_)
      refine (if_pos (by rfl)).mpr ?_
      have q0:=got e3
      go_simp
      exact hK _ _ ⟨_,_,rfl,rfl,rfl,Below.refl _ _⟩
    | 3,_,ho,hd =>
      obtain rfl:=Option.some.inj ho
      refine wpOp_step rfl (fun K hK=>?_)
      refine (if_pos (by rfl)).mpr ?_
      have q0:=got (h.got 2 _ _ rfl (by decide) (hd ⟨2,.data⟩ (by simp) rfl) rfl)
      go_simp
      exact hK _ _ ⟨_,_,rfl,rfl,rfl,Below.refl _ _⟩
    | 4,_,ho,hd =>
      obtain rfl:=Option.some.inj ho
      refine wpOp_step rfl (fun K hK=>?_)
      refine (if_pos (by rfl)).mpr ?_
      have q0:=got e7
      go_simp
      exact hK _ _ ⟨_,_,rfl,rfl,rfl,Below.refl _ _⟩
    | 5,_,ho,hd =>
      obtain rfl:=Option.some.inj ho
      refine wpOp_step rfl (fun K hK=>?_)
      refine (if_pos (by rfl)).mpr ?_
      have q0:=got e5
      go_simp
      exact hK _ _ ⟨_,_,rfl,rfl,rfl,Below.refl _ _⟩
    | 6,_,ho,hd =>
      obtain rfl:=Option.some.inj ho
      refine wpOp_step rfl (fun K hK=>?_)
      refine (if_pos (by rfl)).mpr ?_
      have q0:=got (h.got 5 _ _ rfl (by decide) (hd ⟨5,.data⟩ (by simp) rfl) rfl)
      go_simp
      exact hK _ _ ⟨_,_,rfl,rfl,rfl,Below.refl _ _⟩
    | 7,_,ho,hd =>
      obtain rfl:=Option.some.inj ho
      refine wpOp_step rfl (fun K hK=>?_)
      refine (if_pos (by rfl)).mpr ?_
      have q3:=got (h.got 3 _ _ rfl (by decide) (hd ⟨3,.data⟩ (by simp) rfl) rfl)
      have q4:=got (h.got 4 _ _ rfl (by decide) (hd ⟨4,.data⟩ (by simp) rfl) rfl)
      have q6:=got (h.got 6 _ _ rfl (by decide) (hd ⟨6,.data⟩ (by simp) rfl) rfl)
      go_simp
      exact hK _ _ ⟨_,_,rfl,rfl,⟨_,rfl,pile_three (HS1.out.ke.kept h.below) (strVals_one _) (LN.out.kept h.below) (strVals_one _) (GS1.out.ke.kept h.below) (strVals_one _) _⟩,below_one _ _⟩
    | 8,_,ho,hd =>
      obtain rfl:=Option.some.inj ho
      refine wpOp_step rfl (fun K hK=>?_)
      refine (if_pos (by rfl)).mpr ?_
      obtain ⟨p,ep,hp⟩:=(h.got 7 _ _ rfl (by decide) (hd ⟨7,.data⟩ (by simp) rfl) rfl)
      have q0:=got ep
      have hbs:=h.below.size
      go_simp
      refine (ejoin_S _ 3 3 (n+0+n') _ wx hp rfl (by simp [tot]<;>omega) (by omega) (by decide)).mono ?_
      rintro e w3 ⟨v3,rfl,o3,b3⟩
      rw [epcs_three] at o3
      dsimp only at o3
      rw [← strVals_append,← strVals_append] at o3
      exact hK _ _ ⟨v3,_,rfl,rfl,ln_of_row o3 rfl (by omega),b3⟩
    | 9,_,ho,hd =>
      obtain rfl:=Option.some.inj ho
      refine wpOp_step rfl (fun K hK=>?_)
      refine (if_pos (by rfl)).mpr ?_
      have q0:=got e3
      go_simp
      exact hK _ _ ⟨_,_,rfl,rfl,rfl,Below.refl _ _⟩
    | 10,_,ho,hd =>
      obtain rfl:=Option.some.inj ho
      refine wpOp_step rfl (fun K hK=>?_)
      refine (if_pos (by rfl)).mpr ?_
      have q0:=got (h.got 9 _ _ rfl (by decide) (hd ⟨9,.data⟩ (by simp) rfl) rfl)
      go_simp
      exact hK _ _ ⟨_,_,rfl,rfl,rfl,Below.refl _ _⟩
    | 11,_,ho,hd =>
      obtain rfl:=Option.some.inj ho
      refine wpOp_step rfl (fun K hK=>?_)
      refine (if_pos (by rfl)).mpr ?_
      have q0:=got e5
      go_simp
      exact hK _ _ ⟨_,_,rfl,rfl,rfl,Below.refl _ _⟩
    | 12,_,ho,hd =>
      obtain rfl:=Option.some.inj ho
      refine wpOp_step rfl (fun K hK=>?_)
      refine (if_pos (by rfl)).mpr ?_
      have q0:=got (h.got 11 _ _ rfl (by decide) (hd ⟨11,.data⟩ (by simp) rfl) rfl)
      go_simp
      exact hK _ _ ⟨_,_,rfl,rfl,rfl,Below.refl _ _⟩
    | 13,_,ho,hd =>
      obtain rfl:=Option.some.inj ho
      refine wpOp_step rfl (fun K hK=>?_)
      refine (if_pos (by rfl)).mpr ?_
      have q10:=got (h.got 10 _ _ rfl (by decide) (hd ⟨10,.data⟩ (by simp) rfl) rfl)
      have q12:=got (h.got 12 _ _ rfl (by decide) (hd ⟨12,.data⟩ (by simp) rfl) rfl)
      go_simp
      exact hK _ _ ⟨_,_,rfl,rfl,⟨_,rfl,pile_two (HS1.out.va.kept h.below) (strVals_one _) (GS1.out.va.kept h.below) (strVals_one _) _⟩,below_one _ _⟩
    | 14,_,ho,hd =>
      obtain rfl:=Option.some.inj ho
      refine wpOp_step rfl (fun K hK=>?_)
      refine (if_pos (by rfl)).mpr ?_
      obtain ⟨p,ep,hp⟩:=(h.got 13 _ _ rfl (by decide) (hd ⟨13,.data⟩ (by simp) rfl) rfl)
      have q0:=got ep
      have hbs:=h.below.size
      go_simp
      refine (ejoin_S _ 2 2 (m+m') _ wx hp rfl (by simp [tot]) (by omega) (by decide)).mono ?_
      rintro e w3 ⟨v3,rfl,o3,b3⟩
      rw [epcs_two] at o3
      dsimp only at o3
      rw [← strVals_append] at o3
      exact hK _ _ ⟨v3,_,rfl,rfl,ln_of_row o3 rfl (by omega),b3⟩
    | 15,_,ho,hd =>
      obtain rfl:=Option.some.inj ho
      refine wpOp_step rfl (fun K hK=>?_)
      refine (if_pos (by rfl)).mpr ?_
      have q0:=got e3
      go_simp
      exact hK _ _ ⟨_,_,rfl,rfl,rfl,Below.refl _ _⟩
    | 16,_,ho,hd =>
      obtain rfl:=Option.some.inj ho
      refine wpOp_step rfl (fun K hK=>?_)
      refine (if_pos (by rfl)).mpr ?_
      have q0:=got (h.got 15 _ _ rfl (by decide) (hd ⟨15,.data⟩ (by simp) rfl) rfl)
      go_simp
      exact hK _ _ ⟨_,_,rfl,rfl,rfl,Below.refl _ _⟩
    | 17,_,ho,hd =>
      obtain rfl:=Option.some.inj ho
      refine wpOp_step rfl (fun K hK=>?_)
      refine (if_pos (by rfl)).mpr ?_
      have q0:=got e5
      go_simp
      exact hK _ _ ⟨_,_,rfl,rfl,rfl,Below.refl _ _⟩
    | 18,_,ho,hd =>
      obtain rfl:=Option.some.inj ho
      refine wpOp_step rfl (fun K hK=>?_)
      refine (if_pos (by rfl)).mpr ?_
      have q0:=got (h.got 17 _ _ rfl (by decide) (hd ⟨17,.data⟩ (by simp) rfl) rfl)
      go_simp
      exact hK _ _ ⟨_,_,rfl,rfl,rfl,Below.refl _ _⟩
    | 19,_,ho,hd =>
      obtain rfl:=Option.some.inj ho
      refine wpOp_step rfl (fun K hK=>?_)
      refine (if_pos (by rfl)).mpr ?_
      have q16:=got (h.got 16 _ _ rfl (by decide) (hd ⟨16,.data⟩ (by simp) rfl) rfl)
      have q18:=got (h.got 18 _ _ rfl (by decide) (hd ⟨18,.data⟩ (by simp) rfl) rfl)
      go_simp
      exact hK _ _ ⟨_,_,rfl,rfl,⟨_,rfl,pile_two (HS1.out.ki.kept h.below) (intVals_one _) (GS1.out.ki.kept h.below) (intVals_one _) _⟩,below_one _ _⟩
    | 20,_,ho,hd =>
      obtain rfl:=Option.some.inj ho
      refine wpOp_step rfl (fun K hK=>?_)
      refine (if_pos (by rfl)).mpr ?_
      obtain ⟨p,ep,hp⟩:=(h.got 19 _ _ rfl (by decide) (hd ⟨19,.data⟩ (by simp) rfl) rfl)
      have q0:=got ep
      have hbs:=h.below.size
      go_simp
      refine (ejoin_I _ 2 2 (k+k') _ wx hp rfl (by simp [tot]) (by omega) (by decide)).mono ?_
      rintro e w3 ⟨v3,rfl,o3,b3⟩
      rw [epcs_two] at o3
      dsimp only at o3
      rw [int_app] at o3
      exact hK _ _ ⟨v3,_,rfl,rfl,ln_of_row o3 rfl (by omega),b3⟩
    | 21,_,ho,hd =>
      obtain rfl:=Option.some.inj ho
      refine wpOp_step rfl (fun K hK=>?_)
      refine (if_pos (by rfl)).mpr ?_
      have q1:=got (h.got 1 _ _ rfl (by decide) (hd ⟨1,.data⟩ (by simp) rfl) rfl)
      obtain ⟨A1,a1,z1,l1,i1,_⟩:=(h.got 8 _ _ rfl (by decide) (hd ⟨8,.data⟩ (by simp) rfl) rfl)
      obtain ⟨A2,a2,z2,l2,i2,_⟩:=(h.got 14 _ _ rfl (by decide) (hd ⟨14,.data⟩ (by simp) rfl) rfl)
      obtain ⟨A3,a3,z3,l3,i3,_⟩:=(h.got 20 _ _ rfl (by decide) (hd ⟨20,.data⟩ (by simp) rfl) rfl)
      have y1:=got z1
      have y2:=got z2
      have y3:=got z3
      go_simp
      exact hK _ _ ⟨_,_,rfl,rfl,⟨A1,_,a1,A2,_,a2,A3,_,a3,rfl,⟨l1,l2,l3⟩,i1,i2,i3⟩,Below.refl _ _⟩
    | j+22,hi,_,_=>exact absurd hi (by omega)
   ·intro mm L a wx h hd
    refine wpAny_ready (rs:=[22]) (by decide +kernel) (by simp) (AllReady.cons rfl (fun K hK=>?_) AllReady.nil)
    refine (if_pos (by rfl)).mpr ?_
    have hn4:=h.got 21 _ _ rfl (by decide) (hd 21 (by decide)) rfl
    obtain ⟨A6,n6,c6,B6,m6,d6,C6,k6,e6,ev,_,_,_,_⟩:=id hn4
    have q:=got ev
    have q2:=got ((h.old 6 (by kernel_rfl)).trans rfl:a.eval (.tmp 6) = .pointer (some ⟨w.heap.size+1+1,0,none⟩))
    have HR2:=Lib.hid (HR1.out.kept h.below)
    obtain ⟨x0,x1,x2,x3⟩:=HR2.out.cells
    obtain ⟨f0,f1,f2,f3⟩:=HR2.out.free
    go_simp
    refine hK _ _ ?_
    refine wpAny_done (by decide +kernel) ?_ _
    have HD:=Lib.hid (nd_done (chainN h.below B1.out) (by omega) hn4 (.bool (⟨true,s.keys++[]++t.keys,s.vals++t.vals,s.kids++t.kids⟩:ND).leaf) (.slice A6 n6 c6) (.slice B6 m6 d6) (.slice C6 k6 e6))
    rw [ev] at HD
    obtain ⟨y0,y1,y2,y3⟩:=(HR2.out.put (.bool (⟨true,s.keys++[]++t.keys,s.vals++t.vals,s.kids++t.kids⟩:ND).leaf) (.slice A6 n6 c6) (.slice B6 m6 d6) (.slice C6 k6 e6)).cells
    refine HM _ _ ?_
    refine wp_ret ?_
    refine bodyPost_ret (v := .agg #[.bool (⟨true,s.keys++[]++t.keys,s.vals++t.vals,s.kids++t.kids⟩:ND).leaf,.slice A6 n6 c6,.slice B6 m6 d6,.slice C6 k6 e6]) (by simp [results,Tryz.results145,go_sem,q2,y0,y1,y2,y3]) (h.df.trans rfl) ?_
    exact ⟨_,rfl,by rw [HJ.out];exact HD.out.1,HD.out.2⟩
 | false =>
   have LN:=LX
   have HJ:Hid (s.join x.toList t=⟨false,s.keys++[x.toList]++t.keys,s.vals++t.vals,s.kids++t.kids⟩):=Lib.hid (by unfold ND.join;rw [HL.out];rfl)
   go_upto_region 4 with fail
   clear c0 c1 c2 c3
   rename_i KK HM
   refine wp_region_flow 22 1 (SP.at_ (joinF w.heap.size (w.heap.size+1+1) A n c B m d C k e s A' n' c' B' m' d' C' k' e' t false (some ⟨gx,0,none⟩) 1 [x.toList])) (by kernel_rfl) rfl (by kernel_rfl) (by kernel_rfl) (by kernel_rfl) (SP.at_st _) ?_ ?_
   ·intro i o L a wx hi ho h hd
    have e3:a.eval (.tmp 3) = .pointer (some ⟨w.heap.size,0,none⟩):=(h.old 3 (by kernel_rfl)).trans rfl
    have e5:a.eval (.tmp 5) = .pointer (some ⟨w.heap.size+1,0,none⟩):=(h.old 5 (by kernel_rfl)).trans rfl
    have e7:a.eval (.tmp 7) = .slice (some ⟨gx,0,none⟩) 1 1:=(h.old 7 (by kernel_rfl)).trans rfl
    obtain ⟨c0,c1,c2,c3⟩:=(HB1.out.kept h.below).cells
    obtain ⟨d0,d1,d2,d3⟩:=(GB1.out.kept h.below).cells
    match i,hi,ho,hd with
    | 0,_,ho,hd =>
      obtain rfl:=Option.some.inj ho
      refine wpOp_step rfl (fun K hK=>?_)
      refine (if_pos (by rfl)).mpr ?_
      have q0:=got e3
      go_simp
      exact hK _ _ ⟨_,_,rfl,rfl,rfl,Below.refl _ _⟩
    | 1,_,ho,hd =>
      obtain rfl:=Option.some.inj ho
      refine wpOp_step rfl (fun K hK=>?_)
      refine (if_pos (by rfl)).mpr ?_
      have q0:=got (h.got 0 _ _ rfl (by decide) (hd ⟨0,.data⟩ (by simp) rfl) rfl)
      go_simp
      exact hK _ _ ⟨_,_,rfl,rfl,rfl,Below.refl _ _⟩
    | 2,_,ho,hd =>
      obtain rfl:=Option.some.inj ho
      refine wpOp_step rfl (fun K hK=>?_)
      refine (if_pos (by rfl)).mpr ?_
      have q0:=got e3
      go_simp
      exact hK _ _ ⟨_,_,rfl,rfl,rfl,Below.refl _ _⟩
    | 3,_,ho,hd =>
      obtain rfl:=Option.some.inj ho
      refine wpOp_step rfl (fun K hK=>?_)
      refine (if_pos (by rfl)).mpr ?_
      have q0:=got (h.got 2 _ _ rfl (by decide) (hd ⟨2,.data⟩ (by simp) rfl) rfl)
      go_simp
      exact hK _ _ ⟨_,_,rfl,rfl,rfl,Below.refl _ _⟩
    | 4,_,ho,hd =>
      obtain rfl:=Option.some.inj ho
      refine wpOp_step rfl (fun K hK=>?_)
      refine (if_pos (by rfl)).mpr ?_
      have q0:=got e7
      go_simp
      exact hK _ _ ⟨_,_,rfl,rfl,rfl,Below.refl _ _⟩
    | 5,_,ho,hd =>
      obtain rfl:=Option.some.inj ho
      refine wpOp_step rfl (fun K hK=>?_)
      refine (if_pos (by rfl)).mpr ?_
      have q0:=got e5
      go_simp
      exact hK _ _ ⟨_,_,rfl,rfl,rfl,Below.refl _ _⟩
    | 6,_,ho,hd =>
      obtain rfl:=Option.some.inj ho
      refine wpOp_step rfl (fun K hK=>?_)
      refine (if_pos (by rfl)).mpr ?_
      have q0:=got (h.got 5 _ _ rfl (by decide) (hd ⟨5,.data⟩ (by simp) rfl) rfl)
      go_simp
      exact hK _ _ ⟨_,_,rfl,rfl,rfl,Below.refl _ _⟩
    | 7,_,ho,hd =>
      obtain rfl:=Option.some.inj ho
      refine wpOp_step rfl (fun K hK=>?_)
      refine (if_pos (by rfl)).mpr ?_
      have q3:=got (h.got 3 _ _ rfl (by decide) (hd ⟨3,.data⟩ (by simp) rfl) rfl)
      have q4:=got (h.got 4 _ _ rfl (by decide) (hd ⟨4,.data⟩ (by simp) rfl) rfl)
      have q6:=got (h.got 6 _ _ rfl (by decide) (hd ⟨6,.data⟩ (by simp) rfl) rfl)
      go_simp
      exact hK _ _ ⟨_,_,rfl,rfl,⟨_,rfl,pile_three (HS1.out.ke.kept h.below) (strVals_one _) (LN.out.kept h.below) (strVals_one _) (GS1.out.ke.kept h.below) (strVals_one _) _⟩,below_one _ _⟩
    | 8,_,ho,hd =>
      obtain rfl:=Option.some.inj ho
      refine wpOp_step rfl (fun K hK=>?_)
      refine (if_pos (by rfl)).mpr ?_
      obtain ⟨p,ep,hp⟩:=(h.got 7 _ _ rfl (by decide) (hd ⟨7,.data⟩ (by simp) rfl) rfl)
      have q0:=got ep
      have hbs:=h.below.size
      go_simp
      refine (ejoin_S _ 3 3 (n+1+n') _ wx hp rfl (by simp [tot]<;>omega) (by omega) (by decide)).mono ?_
      rintro e w3 ⟨v3,rfl,o3,b3⟩
      rw [epcs_three] at o3
      dsimp only at o3
      rw [← strVals_append,← strVals_append] at o3
      exact hK _ _ ⟨v3,_,rfl,rfl,ln_of_row o3 rfl (by omega),b3⟩
    | 9,_,ho,hd =>
      obtain rfl:=Option.some.inj ho
      refine wpOp_step rfl (fun K hK=>?_)
      refine (if_pos (by rfl)).mpr ?_
      have q0:=got e3
      go_simp
      exact hK _ _ ⟨_,_,rfl,rfl,rfl,Below.refl _ _⟩
    | 10,_,ho,hd =>
      obtain rfl:=Option.some.inj ho
      refine wpOp_step rfl (fun K hK=>?_)
      refine (if_pos (by rfl)).mpr ?_
      have q0:=got (h.got 9 _ _ rfl (by decide) (hd ⟨9,.data⟩ (by simp) rfl) rfl)
      go_simp
      exact hK _ _ ⟨_,_,rfl,rfl,rfl,Below.refl _ _⟩
    | 11,_,ho,hd =>
      obtain rfl:=Option.some.inj ho
      refine wpOp_step rfl (fun K hK=>?_)
      refine (if_pos (by rfl)).mpr ?_
      have q0:=got e5
      go_simp
      exact hK _ _ ⟨_,_,rfl,rfl,rfl,Below.refl _ _⟩
    | 12,_,ho,hd =>
      obtain rfl:=Option.some.inj ho
      refine wpOp_step rfl (fun K hK=>?_)
      refine (if_pos (by rfl)).mpr ?_
      have q0:=got (h.got 11 _ _ rfl (by decide) (hd ⟨11,.data⟩ (by simp) rfl) rfl)
      go_simp
      exact hK _ _ ⟨_,_,rfl,rfl,rfl,Below.refl _ _⟩
    | 13,_,ho,hd =>
      obtain rfl:=Option.some.inj ho
      refine wpOp_step rfl (fun K hK=>?_)
      refine (if_pos (by rfl)).mpr ?_
      have q10:=got (h.got 10 _ _ rfl (by decide) (hd ⟨10,.data⟩ (by simp) rfl) rfl)
      have q12:=got (h.got 12 _ _ rfl (by decide) (hd ⟨12,.data⟩ (by simp) rfl) rfl)
      go_simp
      exact hK _ _ ⟨_,_,rfl,rfl,⟨_,rfl,pile_two (HS1.out.va.kept h.below) (strVals_one _) (GS1.out.va.kept h.below) (strVals_one _) _⟩,below_one _ _⟩
    | 14,_,ho,hd =>
      obtain rfl:=Option.some.inj ho
      refine wpOp_step rfl (fun K hK=>?_)
      refine (if_pos (by rfl)).mpr ?_
      obtain ⟨p,ep,hp⟩:=(h.got 13 _ _ rfl (by decide) (hd ⟨13,.data⟩ (by simp) rfl) rfl)
      have q0:=got ep
      have hbs:=h.below.size
      go_simp
      refine (ejoin_S _ 2 2 (m+m') _ wx hp rfl (by simp [tot]) (by omega) (by decide)).mono ?_
      rintro e w3 ⟨v3,rfl,o3,b3⟩
      rw [epcs_two] at o3
      dsimp only at o3
      rw [← strVals_append] at o3
      exact hK _ _ ⟨v3,_,rfl,rfl,ln_of_row o3 rfl (by omega),b3⟩
    | 15,_,ho,hd =>
      obtain rfl:=Option.some.inj ho
      refine wpOp_step rfl (fun K hK=>?_)
      refine (if_pos (by rfl)).mpr ?_
      have q0:=got e3
      go_simp
      exact hK _ _ ⟨_,_,rfl,rfl,rfl,Below.refl _ _⟩
    | 16,_,ho,hd =>
      obtain rfl:=Option.some.inj ho
      refine wpOp_step rfl (fun K hK=>?_)
      refine (if_pos (by rfl)).mpr ?_
      have q0:=got (h.got 15 _ _ rfl (by decide) (hd ⟨15,.data⟩ (by simp) rfl) rfl)
      go_simp
      exact hK _ _ ⟨_,_,rfl,rfl,rfl,Below.refl _ _⟩
    | 17,_,ho,hd =>
      obtain rfl:=Option.some.inj ho
      refine wpOp_step rfl (fun K hK=>?_)
      refine (if_pos (by rfl)).mpr ?_
      have q0:=got e5
      go_simp
      exact hK _ _ ⟨_,_,rfl,rfl,rfl,Below.refl _ _⟩
    | 18,_,ho,hd =>
      obtain rfl:=Option.some.inj ho
      refine wpOp_step rfl (fun K hK=>?_)
      refine (if_pos (by rfl)).mpr ?_
      have q0:=got (h.got 17 _ _ rfl (by decide) (hd ⟨17,.data⟩ (by simp) rfl) rfl)
      go_simp
      exact hK _ _ ⟨_,_,rfl,rfl,rfl,Below.refl _ _⟩
    | 19,_,ho,hd =>
      obtain rfl:=Option.some.inj ho
      refine wpOp_step rfl (fun K hK=>?_)
      refine (if_pos (by rfl)).mpr ?_
      have q16:=got (h.got 16 _ _ rfl (by decide) (hd ⟨16,.data⟩ (by simp) rfl) rfl)
      have q18:=got (h.got 18 _ _ rfl (by decide) (hd ⟨18,.data⟩ (by simp) rfl) rfl)
      go_simp
      exact hK _ _ ⟨_,_,rfl,rfl,⟨_,rfl,pile_two (HS1.out.ki.kept h.below) (intVals_one _) (GS1.out.ki.kept h.below) (intVals_one _) _⟩,below_one _ _⟩
    | 20,_,ho,hd =>
      obtain rfl:=Option.some.inj ho
      refine wpOp_step rfl (fun K hK=>?_)
      refine (if_pos (by rfl)).mpr ?_
      obtain ⟨p,ep,hp⟩:=(h.got 19 _ _ rfl (by decide) (hd ⟨19,.data⟩ (by simp) rfl) rfl)
      have q0:=got ep
      have hbs:=h.below.size
      go_simp
      refine (ejoin_I _ 2 2 (k+k') _ wx hp rfl (by simp [tot]) (by omega) (by decide)).mono ?_
      rintro e w3 ⟨v3,rfl,o3,b3⟩
      rw [epcs_two] at o3
      dsimp only at o3
      rw [int_app] at o3
      exact hK _ _ ⟨v3,_,rfl,rfl,ln_of_row o3 rfl (by omega),b3⟩
    | 21,_,ho,hd =>
      obtain rfl:=Option.some.inj ho
      refine wpOp_step rfl (fun K hK=>?_)
      refine (if_pos (by rfl)).mpr ?_
      have q1:=got (h.got 1 _ _ rfl (by decide) (hd ⟨1,.data⟩ (by simp) rfl) rfl)
      obtain ⟨A1,a1,z1,l1,i1,_⟩:=(h.got 8 _ _ rfl (by decide) (hd ⟨8,.data⟩ (by simp) rfl) rfl)
      obtain ⟨A2,a2,z2,l2,i2,_⟩:=(h.got 14 _ _ rfl (by decide) (hd ⟨14,.data⟩ (by simp) rfl) rfl)
      obtain ⟨A3,a3,z3,l3,i3,_⟩:=(h.got 20 _ _ rfl (by decide) (hd ⟨20,.data⟩ (by simp) rfl) rfl)
      have y1:=got z1
      have y2:=got z2
      have y3:=got z3
      go_simp
      exact hK _ _ ⟨_,_,rfl,rfl,⟨A1,_,a1,A2,_,a2,A3,_,a3,rfl,⟨l1,l2,l3⟩,i1,i2,i3⟩,Below.refl _ _⟩
    | j+22,hi,_,_=>exact absurd hi (by omega)
   ·intro mm L a wx h hd
    refine wpAny_ready (rs:=[22]) (by decide +kernel) (by simp) (AllReady.cons rfl (fun K hK=>?_) AllReady.nil)
    refine (if_pos (by rfl)).mpr ?_
    have hn4:=h.got 21 _ _ rfl (by decide) (hd 21 (by decide)) rfl
    obtain ⟨A6,n6,c6,B6,m6,d6,C6,k6,e6,ev,_,_,_,_⟩:=id hn4
    have q:=got ev
    have q2:=got ((h.old 6 (by kernel_rfl)).trans rfl:a.eval (.tmp 6) = .pointer (some ⟨w.heap.size+1+1,0,none⟩))
    have HR2:=Lib.hid (HR1.out.kept h.below)
    obtain ⟨x0,x1,x2,x3⟩:=HR2.out.cells
    obtain ⟨f0,f1,f2,f3⟩:=HR2.out.free
    go_simp
    refine hK _ _ ?_
    refine wpAny_done (by decide +kernel) ?_ _
    have HD:=Lib.hid (nd_done (chainN h.below B1.out) (by omega) hn4 (.bool (⟨false,s.keys++[x.toList]++t.keys,s.vals++t.vals,s.kids++t.kids⟩:ND).leaf) (.slice A6 n6 c6) (.slice B6 m6 d6) (.slice C6 k6 e6))
    rw [ev] at HD
    obtain ⟨y0,y1,y2,y3⟩:=(HR2.out.put (.bool (⟨false,s.keys++[x.toList]++t.keys,s.vals++t.vals,s.kids++t.kids⟩:ND).leaf) (.slice A6 n6 c6) (.slice B6 m6 d6) (.slice C6 k6 e6)).cells
    refine HM _ _ ?_
    refine wp_ret ?_
    refine bodyPost_ret (v := .agg #[.bool (⟨false,s.keys++[x.toList]++t.keys,s.vals++t.vals,s.kids++t.kids⟩:ND).leaf,.slice A6 n6 c6,.slice B6 m6 d6,.slice C6 k6 e6]) (by simp [results,Tryz.results145,go_sem,q2,y0,y1,y2,y3]) (h.df.trans rfl) ?_
    exact ⟨_,rfl,by rw [HJ.out];exact HD.out.1,HD.out.2⟩
end Go.Proofs.YtccphijgcapeoaaGreat
/-
  Lists stay where a node's block is written: no cell of theirs is a node's.
-/
namespace Go.Proofs.YtccphijgcapeoaaGreat
open Go.RowKit
section
variable {w w':World} {q:Nat} {b:Bool} {A1 A2 A3:Option Addr} {n1 n2 n3 c1 c2 c3:Nat}
theorem box_apart (h:NBox w q (.bool b) (.slice A1 n1 c1) (.slice A2 n2 c2) (.slice A3 n3 c3)) {ad:Addr} {u:Value} (hu:w.cell? ad=some u) (hk:(∃ s,u = .string s)∨∃ z,u = .int .i64 z):ad.block≠q:=by
 rintro rfl
 have hs:=World.cell?_spot hu
 obtain ⟨bl,off,sp⟩:=ad
 obtain rfl:sp=none:=hs
 have e:=cell_of_row w bl off _ _ _ h
 rw [hu] at e
 match off,e with
 | 0,e=>rcases hk with ⟨s,rfl⟩ | ⟨z,rfl⟩<;>cases e
 | 1,e=>rcases hk with ⟨s,rfl⟩ | ⟨z,rfl⟩<;>cases e
 | 2,e=>rcases hk with ⟨s,rfl⟩ | ⟨z,rfl⟩<;>cases e
 | 3,e=>rcases hk with ⟨s,rfl⟩ | ⟨z,rfl⟩<;>cases e
 | j+4,e=>simp at e
theorem Ln.apart {A:Option Addr} {n c:Nat} {cs:List Value} (g:Ln w 1 A n c cs) (hk:∀ u∈cs,(∃ s,u = .string s)∨∃ z,u = .int .i64 z) (h:NBox w q (.bool b) (.slice A1 n1 c1) (.slice A2 n2 c2) (.slice A3 n3 c3)) (hb:NBut q w w'):Ln w' 1 A n c cs :=
 ⟨g.len,g.le,g.lies.1,fun ad e j u hu=>by
  have h0:=g.lies.2 ad e j u hu
  have hne:=box_apart h h0 (hk u (List.mem_of_getElem? hu))
  rw [World.cell?_of_block (w:=w) (hb.2 _ hne)]
  exact h0⟩
theorem str_kind (l:List (List UInt8)):∀ u∈strVals l,(∃ s,u = .string s)∨∃ z,u = .int .i64 z:=by
 intro u hu
 obtain ⟨t,_,rfl⟩:=List.mem_map.1 hu
 exact Or.inl ⟨_,rfl⟩
theorem int_kind (l:List Int):∀ u∈intVals l,(∃ s,u = .string s)∨∃ z,u = .int .i64 z:=by
 intro u hu
 obtain ⟨t,_,rfl⟩:=List.mem_map.1 hu
 exact Or.inr ⟨_,rfl⟩
theorem Ln.strBut {A:Option Addr} {n c:Nat} {l:List (List UInt8)} (g:Ln w 1 A n c (strVals l)) (h:NBox w q (.bool b) (.slice A1 n1 c1) (.slice A2 n2 c2) (.slice A3 n3 c3)) (hb:NBut q w w'):Ln w' 1 A n c (strVals l):=g.apart (str_kind l) h hb
theorem Ln.intBut {A:Option Addr} {n c:Nat} {l:List Int} (g:Ln w 1 A n c (intVals l)) (h:NBox w q (.bool b) (.slice A1 n1 c1) (.slice A2 n2 c2) (.slice A3 n3 c3)) (hb:NBut q w w'):Ln w' 1 A n c (intVals l):=g.apart (int_kind l) h hb
theorem Nd.but {A B C:Option Addr} {n c m d k e:Nat} {s:ND} (g:Nd w A n c B m d C k e s) (h:NBox w q (.bool b) (.slice A1 n1 c1) (.slice A2 n2 c2) (.slice A3 n3 c3)) (hb:NBut q w w'):Nd w' A n c B m d C k e s :=
 ⟨g.ke.strBut h hb,g.va.strBut h hb,g.ki.intBut h hb⟩
end
def SP.box (base:Nat):SP:=⟨fun v w=>∃ q,v = .pointer (some ⟨q,0,none⟩)∧NBox w q (.bool false) (.slice none 0 0) (.slice none 0 0) (.slice none 0 0)∧base≤q,fun _ _ _ h hb=>by obtain ⟨q,e,h,h2⟩:=h;exact ⟨q,e,h.kept hb,h2⟩⟩
def SplitHi (w:World) (s:ND) (e:Ending) (w':World):Prop:=∃ v u,e = .returned (.tuple #[v,.string (tb s.splitK),u,.int .i64 s.splitE])∧NdV w' w.heap.size v s.splitL∧NdV w' w.heap.size u s.splitR∧Below w.heap.size w w'
structure Hi6 (base:Nat) (A B C A' B' C':Option Addr):Prop where
 a:NHi base A
 b:NHi base B
 c:NHi base C
 a':NHi base A'
 b':NHi base B'
 c':NHi base C'
theorem NdV.of_hi {w:World} {base:Nat} {A B C:Option Addr} {n c m d k e:Nat} {s:ND} (h:Nd w A n c B m d C k e s) {lf:Bool} (hl:lf=s.leaf) (a:NHi base A) (b:NHi base B) (g:NHi base C):NdV w base (.agg #[.bool lf,.slice A n c,.slice B m d,.slice C k e]) s:=by
 subst hl
 exact ⟨A,n,c,B,m,d,C,k,e,rfl,h,a,b,g⟩
end Go.Proofs.YtccphijgcapeoaaGreat
/-
  Two nodes that are made side by side, each in a block of its own.
-/
namespace Go.Proofs.YtccphijgcapeoaaGreat
open Go.RowKit
structure Halves (w1 w:World) (q1 q2:Nat) (lf:Bool) (A1:Option Addr) (n1 c1:Nat) (B1:Option Addr) (m1 d1:Nat) (C1:Option Addr) (k1 e1:Nat) (s1:ND) (A2:Option Addr) (n2 c2:Nat) (B2:Option Addr) (m2 d2:Nat) (C2:Option Addr) (k2 e2:Nat) (s2:ND):Prop where
 b1:NBox w q1 (.bool lf) (.slice A1 n1 c1) (.slice B1 m1 d1) (.slice C1 k1 e1)
 b2:NBox w q2 (.bool lf) (.slice A2 n2 c2) (.slice B2 m2 d2) (.slice C2 k2 e2)
 h1:Nd w A1 n1 c1 B1 m1 d1 C1 k1 e1 s1
 h2:Nd w A2 n2 c2 B2 m2 d2 C2 k2 e2 s2
 ne:q1≠q2
 l1:w1.heap.size≤q1
 l2:w1.heap.size≤q2
 bel:Below w1.heap.size w1 w
 hi:Hi6 w1.heap.size A1 B1 C1 A2 B2 C2
section
variable {w1 w w':World} {q1 q2:Nat} {lf:Bool} {A1 B1 C1 A2 B2 C2:Option Addr} {n1 c1 m1 d1 k1 e1 n2 c2 m2 d2 k2 e2:Nat} {s1 s2:ND}
theorem Halves.next (h:Halves w1 w q1 q2 lf A1 n1 c1 B1 m1 d1 C1 k1 e1 s1 A2 n2 c2 B2 m2 d2 C2 k2 e2 s2) (b:Below w.heap.size w w'):Halves w1 w' q1 q2 lf A1 n1 c1 B1 m1 d1 C1 k1 e1 s1 A2 n2 c2 B2 m2 d2 C2 k2 e2 s2 :=
 ⟨h.b1.kept b,h.b2.kept b,h.h1.kept b,h.h2.kept b,h.ne,h.l1,h.l2,chainN b h.bel,h.hi⟩
theorem Halves.vals {B1' B2':Option Addr} {m1' d1' m2' d2':Nat} {v1 v2:List (List UInt8)} (h:Halves w1 w q1 q2 lf A1 n1 c1 B1 m1 d1 C1 k1 e1 s1 A2 n2 c2 B2 m2 d2 C2 k2 e2 s2) (g1:Ln w 1 B1' m1' d1' (strVals v1)) (g2:Ln w 1 B2' m2' d2' (strVals v2)) (i1:NHi w1.heap.size B1') (i2:NHi w1.heap.size B2') :
 Halves w1 ((w.setCell ⟨q1,2,none⟩ (.slice B1' m1' d1')).setCell ⟨q2,2,none⟩ (.slice B2' m2' d2')) q1 q2 lf A1 n1 c1 B1' m1' d1' C1 k1 e1 ⟨s1.leaf,s1.keys,v1,s1.kids⟩ A2 n2 c2 B2' m2' d2' C2 k2 e2 ⟨s2.leaf,s2.keys,v2,s2.kids⟩:=by
 have n1:=(NBut.refl q1 w).set 2 (.slice B1' m1' d1')
 have f2:=h.b2.but n1 (fun e=>h.ne e.symm)
 have n2:=(NBut.refl q2 (w.setCell ⟨q1,2,none⟩ (.slice B1' m1' d1'))).set 2 (.slice B2' m2' d2')
 have f1:=(h.b1.set2 (.slice B1' m1' d1')).but n2 h.ne
 exact ⟨f1,f2.set2 _,⟨(h.h1.ke.strBut h.b1 n1).strBut f2 n2,(g1.strBut h.b1 n1).strBut f2 n2,(h.h1.ki.intBut h.b1 n1).intBut f2 n2⟩,
  ⟨(h.h2.ke.strBut h.b1 n1).strBut f2 n2,(g2.strBut h.b1 n1).strBut f2 n2,(h.h2.ki.intBut h.b1 n1).intBut f2 n2⟩,h.ne,h.l1,h.l2,(h.bel.setCell h.l1 _).setCell h.l2 _,⟨h.hi.a,i1,h.hi.c,h.hi.a',i2,h.hi.c'⟩⟩
theorem Halves.kids {C1' C2':Option Addr} {k1' e1' k2' e2':Nat} {v1 v2:List Int} (h:Halves w1 w q1 q2 lf A1 n1 c1 B1 m1 d1 C1 k1 e1 s1 A2 n2 c2 B2 m2 d2 C2 k2 e2 s2) (g1:Ln w 1 C1' k1' e1' (intVals v1)) (g2:Ln w 1 C2' k2' e2' (intVals v2)) (i1:NHi w1.heap.size C1') (i2:NHi w1.heap.size C2') :
 Halves w1 ((w.setCell ⟨q1,3,none⟩ (.slice C1' k1' e1')).setCell ⟨q2,3,none⟩ (.slice C2' k2' e2')) q1 q2 lf A1 n1 c1 B1 m1 d1 C1' k1' e1' ⟨s1.leaf,s1.keys,s1.vals,v1⟩ A2 n2 c2 B2 m2 d2 C2' k2' e2' ⟨s2.leaf,s2.keys,s2.vals,v2⟩:=by
 have n1:=(NBut.refl q1 w).set 3 (.slice C1' k1' e1')
 have f2:=h.b2.but n1 (fun e=>h.ne e.symm)
 have n2:=(NBut.refl q2 (w.setCell ⟨q1,3,none⟩ (.slice C1' k1' e1'))).set 3 (.slice C2' k2' e2')
 have f1:=(h.b1.set3 (.slice C1' k1' e1')).but n2 h.ne
 exact ⟨f1,f2.set3 _,⟨(h.h1.ke.strBut h.b1 n1).strBut f2 n2,(h.h1.va.strBut h.b1 n1).strBut f2 n2,(g1.intBut h.b1 n1).intBut f2 n2⟩,
  ⟨(h.h2.ke.strBut h.b1 n1).strBut f2 n2,(h.h2.va.strBut h.b1 n1).strBut f2 n2,(g2.intBut h.b1 n1).intBut f2 n2⟩,h.ne,h.l1,h.l2,(h.bel.setCell h.l1 _).setCell h.l2 _,⟨h.hi.a,h.hi.b,i1,h.hi.a',h.hi.b',i2⟩⟩
end
def Part (w1 w:World) (lf:Bool) (n:Nat) (l:List (List UInt8)) (u:Value):Prop :=
 ∃ q A c B d C e,u = .pointer (some ⟨q,0,none⟩)∧NBox w q (.bool lf) (.slice A n c) (.slice B 0 d) (.slice C 0 e)∧Nd w A n c B 0 d C 0 e ⟨lf,l,[],[]⟩∧w1.heap.size≤q∧q<w.heap.size∧Below w1.heap.size w1 w∧NHi w1.heap.size A∧NHi w1.heap.size B∧NHi w1.heap.size C
theorem part_done {w1 w:World} {lf:Bool} {n q c d e:Nat} {l:List (List UInt8)} {u:Value} {A B C:Option Addr} (hu:u = .pointer (some ⟨q,0,none⟩)) (hb:NBox w q (.bool false) (.slice none 0 0) (.slice none 0 0) (.slice none 0 0)) (h:Nd w A n c B 0 d C 0 e ⟨lf,l,[],[]⟩) (hq:w1.heap.size≤q) (b:Below w1.heap.size w1 w) (iA:NHi w1.heap.size A) (iB:NHi w1.heap.size B) (iC:NHi w1.heap.size C) :
 Part w1 ((((w.setCell ⟨q,0,none⟩ (.bool lf)).setCell ⟨q,1,none⟩ (.slice A n c)).setCell ⟨q,2,none⟩ (.slice B 0 d)).setCell ⟨q,3,none⟩ (.slice C 0 e)) lf n l u :=
 have hp:=hb.put (.bool lf) (.slice A n c) (.slice B 0 d) (.slice C 0 e)
 ⟨q,A,c,B,d,C,e,hu,hp,h.but hb (NBut.put w q _ _ _ _),hq,hp.lt,below_nput b hq _ _ _ _,iA,iB,iC⟩
theorem split_done {w wf:World} {base r1 r2:Nat} {v u:Value} {s1 s2:ND} (hb:Below w.heap.size w wf) (h1:w.heap.size≤r1) (h2:w.heap.size≤r2) (hne:r1≠r2)
 (b1:NBox wf r1 (.bool false) (.slice none 0 0) (.slice none 0 0) (.slice none 0 0)) (b2:NBox wf r2 (.bool false) (.slice none 0 0) (.slice none 0 0) (.slice none 0 0)) (hv:NdV wf base v s1) (hu:NdV wf base u s2) (x y z p x' y' z' p':Value) :
 NdV ((((((((wf.setCell ⟨r1,0,none⟩ x).setCell ⟨r1,1,none⟩ y).setCell ⟨r1,2,none⟩ z).setCell ⟨r1,3,none⟩ p).setCell ⟨r2,0,none⟩ x').setCell ⟨r2,1,none⟩ y').setCell ⟨r2,2,none⟩ z').setCell ⟨r2,3,none⟩ p') base v s1 ∧
 NdV ((((((((wf.setCell ⟨r1,0,none⟩ x).setCell ⟨r1,1,none⟩ y).setCell ⟨r1,2,none⟩ z).setCell ⟨r1,3,none⟩ p).setCell ⟨r2,0,none⟩ x').setCell ⟨r2,1,none⟩ y').setCell ⟨r2,2,none⟩ z').setCell ⟨r2,3,none⟩ p') base u s2 ∧
 Below w.heap.size w ((((((((wf.setCell ⟨r1,0,none⟩ x).setCell ⟨r1,1,none⟩ y).setCell ⟨r1,2,none⟩ z).setCell ⟨r1,3,none⟩ p).setCell ⟨r2,0,none⟩ x').setCell ⟨r2,1,none⟩ y').setCell ⟨r2,2,none⟩ z').setCell ⟨r2,3,none⟩ p'):=by
 have n1:=NBut.put wf r1 x y z p
 have f2:=b2.but n1 (fun e=>hne e.symm)
 have n2:=NBut.put ((((wf.setCell ⟨r1,0,none⟩ x).setCell ⟨r1,1,none⟩ y).setCell ⟨r1,2,none⟩ z).setCell ⟨r1,3,none⟩ p) r2 x' y' z' p'
 obtain ⟨A,n,c,B,m,d,C,k,e,rfl,h,hx⟩:=hv
 obtain ⟨A',n',c',B',m',d',C',k',e',rfl,h',hx'⟩:=hu
 exact ⟨⟨A,n,c,B,m,d,C,k,e,rfl,(h.but b1 n1).but f2 n2,hx⟩,
  ⟨A',n',c',B',m',d',C',k',e',rfl,(h'.but b1 n1).but f2 n2,hx'⟩,below_nput (below_nput hb h1 x y z p) h2 x' y' z' p'⟩
theorem split_cells {wf:World} {r1 r2:Nat} (hne:r1≠r2) {a b c d a' b' c' d':Value} (b1:NBox wf r1 a b c d) (b2:NBox wf r2 a' b' c' d') (x y z p x' y' z' p':Value) :
 NBox ((((((((wf.setCell ⟨r1,0,none⟩ x).setCell ⟨r1,1,none⟩ y).setCell ⟨r1,2,none⟩ z).setCell ⟨r1,3,none⟩ p).setCell ⟨r2,0,none⟩ x').setCell ⟨r2,1,none⟩ y').setCell ⟨r2,2,none⟩ z').setCell ⟨r2,3,none⟩ p') r1 x y z p ∧
 NBox ((((((((wf.setCell ⟨r1,0,none⟩ x).setCell ⟨r1,1,none⟩ y).setCell ⟨r1,2,none⟩ z).setCell ⟨r1,3,none⟩ p).setCell ⟨r2,0,none⟩ x').setCell ⟨r2,1,none⟩ y').setCell ⟨r2,2,none⟩ z').setCell ⟨r2,3,none⟩ p') r2 x' y' z' p' ∧
 NBox ((((wf.setCell ⟨r1,0,none⟩ x).setCell ⟨r1,1,none⟩ y).setCell ⟨r1,2,none⟩ z).setCell ⟨r1,3,none⟩ p) r2 a' b' c' d':=by
 have f2:=b2.but (NBut.put wf r1 x y z p) (fun e=>hne e.symm)
 exact ⟨(b1.put x y z p).but (NBut.put _ r2 x' y' z' p') hne,f2.put x' y' z' p',f2⟩
end Go.Proofs.YtccphijgcapeoaaGreat
/-
  What cell's entryBytes and half come to.
-/
namespace Go.Proofs.YtccphijgcapeoaaGreat
open Go.RowKit
theorem tsl_mem:∀ (l:List (List UInt8)) (t:List UInt8),t∈l→t.length≤ND.tsl l
 | [],t,h=>by simp at h
 | x::l,t,h=>by
   rw [ND.tsl_cons]
   rcases List.mem_cons.1 h with rfl | h
   ·omega
   ·have:=tsl_mem l t h
    omega
theorem tsl_at {l:List (List UInt8)} {i:Nat} {t:List UInt8} (h:l[i]?=some t):t.length≤ND.tsl l:=tsl_mem l t (List.mem_of_getElem? h)
theorem ents_at {s:ND} {i:Nat} {t v:List UInt8} (hl:s.leaf=true) (h:s.keys[i]?=some t) (g:s.vals[i]?=some v):s.ents.getD i 0=2+t.length+v.length:=by
 rw [ND.ents_leaf hl,List.getD_eq_getElem?_getD,List.getElem?_zipWith,h,g]
 rfl
theorem ents_in {s:ND} {i:Nat} {t:List UInt8} (hl:s.leaf=false) (h:s.keys[i]?=some t):s.ents.getD i 0=5+t.length:=by
 rw [ND.ents_inner hl,List.getD_eq_getElem?_getD,List.getElem?_map,h]
 rfl
theorem sum_next (l:List Nat) {c:Nat} (h:c<l.length):(l.take (c+1)).sum=(l.take c).sum+l.getD c 0:=by
 rw [List.take_add_one,List.getElem?_eq_getElem h,List.sum_append,List.getD_eq_getElem?_getD,List.getElem?_eq_getElem h]
 simp
theorem sum_take_le (l:List Nat) (c:Nat):(l.take c).sum≤l.sum:=by
 conv=>rhs;rw [← List.take_append_drop c l]
 rw [List.sum_append]
 omega
theorem entry_any (lf:Bool) (A:Option Addr) (n c:Nat) (B:Option Addr) (m d:Nat) (C:Option Addr) (k e:Nat) (s:ND) (i:Nat) (w:World) (h:Nd w A n c B m d C k e s) (hl:s.leaf=lf) (hi:i<n) (hm:lf=true→m=n) (hz:s.size≤1000000) :
 Calls Tryz.prog 194 #[.agg #[.bool lf,.slice A n c,.slice B m d,.slice C k e],.int .i64 i] w fun e w'=>e = .returned (.int .i64 ((s.ents.getD i 0:Nat):Int))∧Below w.heap.size w w':=by
 have HB:=Lib.hid (nbox_new w (.bool lf) (.slice A n c) (.slice B m d) (.slice C k e))
 have b1:=below_one w (.cells #[.bool lf,.slice A n c,.slice B m d,.slice C k e] 68)
 have B1:=Lib.hid b1
 have H1:=Lib.hid (h.kept b1)
 have HL:=Lib.hid hl
 have hs:ND.tsl s.keys≤1000000∧ND.tsl s.vals≤1000000:=by unfold ND.size ND.tsz at hz;omega
 obtain ⟨hs1,hs2⟩:=hs
 clear b1 h hl hz
 go_enter Tryz.func194,Tryz.ntmps194
 go_upto_region 1 with fail
 generalize w.alloc (.cells #[.bool lf,.slice A n c,.slice B m d,.slice C k e] 68)=w1 at *
 obtain ⟨c0,c1,c2,c3⟩:=HB.out.cells
 obtain ⟨b,off,t,rfl,hv,f0⟩:=H1.out.ke.strAt hi
 have hq:=tsl_at hv
 rw [toList_length] at hq
 have hq1:t.size≤1000000:=by omega
 have HV:=Lib.hid hv
 clear hq hv
 cases lf with
 | false =>
   clear hm
   go_wp2_with fail
   go_ret
   exact ⟨ret_int (by rw [ents_in HL.out HV.out,toList_length];omega),B1.out⟩
 | true =>
   obtain rfl:m=n:=hm rfl
   obtain ⟨b',off',v,rfl,hv',g0⟩:=H1.out.va.strAt hi
   have hq:=tsl_at hv'
   rw [toList_length] at hq
   have hq2:v.size≤1000000:=by omega
   have HV':=Lib.hid hv'
   clear hq hv' hm
   go_wp2_with fail
   go_ret
   exact ⟨ret_int (by rw [ents_at HL.out HV.out HV'.out,toList_length,toList_length];omega),B1.out⟩
theorem half_any (lf:Bool) (A:Option Addr) (n c:Nat) (B:Option Addr) (m d:Nat) (C:Option Addr) (k e:Nat) (s:ND) (w:World) (h:Nd w A n c B m d C k e s) (hl:s.leaf=lf) (ho:s.ok=true) (hz:s.size≤1000000) (hE:s.ents.sum≤100000000) :
 Calls Tryz.prog 175 #[.agg #[.bool lf,.slice A n c,.slice B m d,.slice C k e]] w fun e w'=>e = .returned (.int .i64 ((ND.hN s.ents:Nat):Int))∧Below w.heap.size w w':=by
 have HB:=Lib.hid (nbox_new w (.bool lf) (.slice A n c) (.slice B m d) (.slice C k e))
 have b1:=below_one w (.cells #[.bool lf,.slice A n c,.slice B m d,.slice C k e] 68)
 have B1:=Lib.hid b1
 have H1:=Lib.hid (h.kept b1)
 have HL:=Lib.hid hl
 have HN:Hid (s.ents.length=n):=Lib.hid (by rw [ND.ents_length ho,h.kn])
 have HM:Hid (lf=true→m=n):=Lib.hid (fun e=>by rw [← h.vn,← h.kn];exact (ND.ok_leaf ho (by rw [hl,e])).1)
 have HZ:=Lib.hid hz
 have hnn:n≤1000000:=by have:=h.kn;unfold ND.size ND.tsz at hz;omega
 have HSN:=fun c (hc:c<n)=>sum_next s.ents (c:=c) (by rw [HN.out];exact hc)
 have HST:=sum_take_le s.ents
 have HSA:s.ents.take n=s.ents:=List.take_of_length_le (by rw [HN.out];exact Nat.le_refl _)
 have HO:Hid (∀ r,r≤n→(∀ c,c<r→2*(s.ents.take c).sum<s.ents.sum)→(r<n→¬ 2*(s.ents.take r).sum<s.ents.sum)→r=ND.hN s.ents):=Lib.hid (fun r h1 h2 h3=>ND.hN_of (by rw [HN.out];exact h1) h2 (fun h4=>h3 (by rw [← HN.out];exact h4)))
 have HSN:=Lib.hid HSN
 have HST:=Lib.hid HST
 have HSA:=Lib.hid HSA
 obtain ⟨T,hT⟩:∃ T,s.ents.sum=T:=⟨_,rfl⟩
 rw [hT] at hE HO HST
 have HT:=Lib.hid hT
 clear b1 h hl ho hz hT
 go_enter Tryz.func175,Tryz.ntmps175
 go_upto_region 1 with fail
 generalize w.alloc (.cells #[.bool lf,.slice A n c,.slice B m d,.slice C k e] 68)=w1 at *
 obtain ⟨c0,c1,c2,c3⟩:=HB.out.cells
 go_wp2_with fail
 clear c0 c1 c2 c3
 go_loopw [3,10] (fun s3 i wr=>∃ j q:Nat,j≤n∧i = .int .i64 j∧s3 = .int .i64 q∧q≤T∧Hid (q=(s.ents.take j).sum)∧Hid (Below w1.heap.size w1 wr)) (fun _ i _=>n - (RowKit.intOf i).toNat)
 case atStart=>exact ⟨0,0,Nat.zero_le _,rfl,rfl,Nat.zero_le _,Lib.hid (by simp),Lib.hid (Below.refl _ _)⟩
 case round =>
  obtain ⟨j,q,hj,rfl,rfl,hqT,HQ,BR⟩:=hrel
  obtain ⟨c0,c1,c2,c3⟩:=(HB.out.kept BR.out).cells
  by_cases hlt:j<n
  ·have HX:=Lib.hid (HSN.out j hlt)
   have hle:=HST.out (j+1)
   rw [HX.out,← HQ.out] at hle
   rw [← HQ.out] at HX
   obtain ⟨x,hx⟩:∃ x,s.ents.getD j 0=x:=⟨_,rfl⟩
   rw [hx] at hle HX
   have HXX:=Lib.hid hx
   clear hx
   go_wp2_with fail
   refine (entry_any lf A n c B m d C k e s j wr (H1.out.kept BR.out) HL.out hlt HM.out HZ.out).mono ?_
   rintro e2 w2 ⟨rfl,b2⟩
   rw [HXX.out]
   have B2:=Lib.hid (chainN b2 BR.out)
   clear b2 c0 c1 c2 c3
   go_wp2_with fail
   go_roundw
   case rel=>exact ⟨j+1,q+x,by omega,by go_num,by go_num,hle,Lib.hid HX.out.symm,B2⟩
   case measure=>simp [RowKit.intOf];omega
  ·obtain rfl:n=j:=by omega
   have hqe:q=T:=by rw [HQ.out,HSA.out,HT.out]
   subst hqe
   clear HQ hqT
   obtain ⟨wv,hwv⟩:∃ wv:World,wv=wr:=⟨_,rfl⟩
   subst hwv
   go_wp2_with fail
   clear c0 c1 c2 c3
   go_loopw [5,6] (fun s5 s6 wk=>∃ j b:Nat,j≤n∧s5 = .int .i64 j∧s6 = .int .i64 b∧b≤q∧Hid (b=(s.ents.take j).sum)∧Hid (∀ c,c<j→2*(s.ents.take c).sum<q)∧Hid (Below w1.heap.size w1 wk)) (fun s5 _ _=>n - (RowKit.intOf s5).toNat)
   case atStart=>exact ⟨0,0,Nat.zero_le _,rfl,rfl,Nat.zero_le _,Lib.hid (by simp),Lib.hid (fun c hc=>absurd hc (by omega)),BR⟩
   case round =>
    obtain ⟨j,b,hj,rfl,rfl,hbT,HQ,HA,BK⟩:=hrel
    obtain ⟨c0,c1,c2,c3⟩:=(HB.out.kept BK.out).cells
    by_cases hlt:2*b<q
    ·have hjn:j<n:=by
      apply Classical.byContradiction
      intro hn
      obtain rfl:n=j:=by omega
      have h2:=HQ.out
      rw [HSA.out,HT.out] at h2
      omega
     have HX:=Lib.hid (HSN.out j hjn)
     have hle:=HST.out (j+1)
     rw [HX.out,← HQ.out] at hle
     rw [← HQ.out] at HX
     obtain ⟨x,hx⟩:∃ x,s.ents.getD j 0=x:=⟨_,rfl⟩
     rw [hx] at hle HX
     have HXX:=Lib.hid hx
     have HA2:Hid (∀ c,c<j+1→2*(s.ents.take c).sum<q):=Lib.hid (fun c hc=>by
      rcases Nat.lt_or_ge c j with h1 | h1
      ·exact HA.out c h1
      ·obtain rfl:c=j:=by omega
       rw [← HQ.out]
       exact hlt)
     clear hx
     go_wp2_with fail
     refine (entry_any lf A n c B m d C k e s j wr (H1.out.kept BK.out) HL.out hjn HM.out HZ.out).mono ?_
     rintro e2 w2 ⟨rfl,b2⟩
     rw [HXX.out]
     have B2:=Lib.hid (chainN b2 BK.out)
     clear b2 c0 c1 c2 c3
     go_wp2_with fail
     go_roundw
     case rel=>exact ⟨j+1,b+x,by omega,by go_num,by go_num,hle,Lib.hid HX.out.symm,HA2,B2⟩
     case measure=>simp [RowKit.intOf];omega
    ·have HE:=Lib.hid (HO.out j hj HA.out (fun _=>by rw [← HQ.out];exact hlt))
     have hlt2:q≤2*b:=by omega
     clear hlt
     go_wp2_with fail
     go_ret
     exact ⟨ret_int (by rw [← HE.out]),chainN BK.out B1.out⟩
end Go.Proofs.YtccphijgcapeoaaGreat
/-
  What the operations of cell's Split leave.
-/
namespace Go.Proofs.YtccphijgcapeoaaGreat
open Go.RowKit
def partF (w1:World) (g:Nat) (lf:Bool) (A:Option Addr) (n c p:Nat) (s:ND):List SP :=
 [.is (.pointer (some ⟨g,0,none⟩)),.is (.bool lf),.is (.pointer (some ⟨g,1,none⟩)),.is (.slice A n c),.is (.int .i64 p),.is (.slice A p c),.pile 1 [⟨A,p,c,strVals (s.keys.take p)⟩],.ln w1.heap.size p (strVals (s.keys.take p)),.nd w1.heap.size ⟨lf,s.keys.take p,[],[]⟩,.box w1.heap.size]
def restF (w1:World) (g:Nat) (lf:Bool) (A:Option Addr) (n c p y:Nat) (s:ND):List SP :=
 [.is (.pointer (some ⟨g,0,none⟩)),.is (.bool lf),.is (.pointer (some ⟨g,1,none⟩)),.is (.slice A n c),.is (.int .i64 p),.is (.int .i64 y),.is (.int .i64 ((p+y:Nat):Int)),.is (.slice (dropA A c (p+y)) (n - (p+y)) (c - (p+y))),.pile 1 [⟨dropA A c (p+y),n - (p+y),c - (p+y),strVals (s.keys.drop (p+y))⟩],.ln w1.heap.size (n - (p+y)) (strVals (s.keys.drop (p+y))),.nd w1.heap.size ⟨lf,s.keys.drop (p+y),[],[]⟩,.box w1.heap.size]
theorem ln_strTake {w:World} {A:Option Addr} {n c k:Nat} {l:List (List UInt8)} (h:Ln w 1 A n c (strVals l)) (hk:k≤n):Ln w 1 A k c (strVals (l.take k)):=h.strTake hk
theorem ln_strDrop {w:World} {A:Option Addr} {n c k:Nat} {l:List (List UInt8)} (h:Ln w 1 A n c (strVals l)) (hk:k≤n):Ln w 1 (dropA A c k) (n - k) (c - k) (strVals (l.drop k)):=by
 have:=ln_drop h hk
 rw [strVals,← List.map_drop] at this
 exact this
theorem take_mm {α:Type} {l:List α} {p m mm:Nat} (h:min p m=mm) (hm:l.length=m):l.take mm=l.take p∧l.drop mm=l.drop p:=by
 subst h
 subst hm
 rcases Nat.le_total p l.length with h | h
 ·rw [Nat.min_eq_left h]
  exact ⟨rfl,rfl⟩
 ·rw [Nat.min_eq_right h,List.take_of_length_le h,List.drop_of_length_le h,List.take_length,List.drop_length]
  exact ⟨rfl,rfl⟩
theorem str_take (l:List (List UInt8)) (k:Nat):(strVals l).take k=strVals (l.take k):=by unfold strVals;rw [List.map_take]
theorem str_drop (l:List (List UInt8)) (k:Nat):(strVals l).drop k=strVals (l.drop k):=by unfold strVals;rw [List.map_drop]
theorem int_take (l:List Int) (k:Nat):(intVals l).take k=intVals (l.take k):=by unfold intVals;rw [List.map_take]
theorem int_drop (l:List Int) (k:Nat):(intVals l).drop k=intVals (l.drop k):=by unfold intVals;rw [List.map_drop]
end Go.Proofs.YtccphijgcapeoaaGreat
/-
  What cell's Split comes to, of leaves.
-/
namespace Go.Proofs.YtccphijgcapeoaaGreat
open Go.RowKit
theorem split_leaf (A:Option Addr) (n c:Nat) (B:Option Addr) (m d:Nat) (C:Option Addr) (k e:Nat) (s:ND) (w:World) (h:Nd w A n c B m d C k e s) (hl:s.leaf=true) (ho:s.ok=true) (hz:s.size≤1000000) (hE:s.ents.sum≤100000000) :
 Calls Tryz.prog 143 #[.agg #[.bool true,.slice A n c,.slice B m d,.slice C k e]] w (SplitHi w s):=by
 obtain ⟨tb1,tb2,tb3,tb4⟩:=nbox_three w (.bool true) (.slice A n c) (.slice B m d) (.slice C k e) (.bool false) (.slice none 0 0) (.slice none 0 0) (.slice none 0 0)
 have HS:=Lib.hid (h.kept tb4)
 have HB:=Lib.hid tb1
 have HR:=Lib.hid tb2
 have HT:=Lib.hid tb3
 have B0:=Lib.hid tb4
 have HL:=Lib.hid hl
 have HO:=Lib.hid ho
 have HZ:=Lib.hid hz
 have HE:=Lib.hid hE
 have HN:=Lib.hid h.kn
 have HVN:=Lib.hid h.vn
 have HCN:=Lib.hid h.cn
 have hsz:n≤1000000∧m≤1000000∧k≤1000000:=by have h1:=h.kn;have h2:=h.vn;have h3:=h.cn;unfold ND.size ND.tsz at hz;omega
 obtain ⟨hn,hm,hk⟩:=hsz
 clear h hl ho hz hE tb1 tb2 tb3 tb4
 go_enter Tryz.func143,Tryz.ntmps143
 go_upto_region 1 with fail
 generalize ((w.alloc (.cells #[.bool true,.slice A n c,.slice B m d,.slice C k e] 68)).alloc (.cells #[.bool false,.slice none 0 0,.slice none 0 0,.slice none 0 0] 68)).alloc (.cells #[.bool false,.slice none 0 0,.slice none 0 0,.slice none 0 0] 68)=w0 at *
 have hg:=HB.out.lt
 have hr:=HR.out.lt
 have hr2:=HT.out.lt
 have gr1:w.heap.size≤w.heap.size+1:=Nat.le_succ _
 have gr2:w.heap.size≤w.heap.size+1+1:=by omega
 have hne:w.heap.size+1≠w.heap.size+1+1:=by omega
 have hx1:w.heap.size<w.heap.size+1:=by omega
 have hx2:w.heap.size<w.heap.size+1+1:=by omega
 generalize w.heap.size+1+1=r2 at *
 generalize w.heap.size+1=r1 at *
 have hne2:¬ r1=r2:=hne
 have hne3:¬ r2=r1:=fun e=>hne e.symm
 obtain ⟨c0,c1,c2,c3⟩:=HB.out.cells
 have HG:Hid (s.gone=0):=Lib.hid (by unfold ND.gone;rw [HL.out];rfl)
 by_cases hs:n<2+0
 case pos =>
  obtain ⟨x1,x2,x3,x4⟩:=ND.split_no (s:=s) (by rw [HN.out,HG.out];exact hs)
  have X1:=Lib.hid x1
  have X2:=Lib.hid x2
  have X3:=Lib.hid x3
  have X4:=Lib.hid x4
  obtain ⟨D1,D2,D3⟩:=split_done (v := .agg #[.bool false,.slice none 0 0,.slice none 0 0,.slice none 0 0]) (u := .agg #[.bool false,.slice none 0 0,.slice none 0 0,.slice none 0 0]) B0.out gr1 gr2 hne HR.out HT.out (ndv_zero w0 w.heap.size) (ndv_zero w0 w.heap.size) (.bool false) (.slice none 0 0) (.slice none 0 0) (.slice none 0 0) (.bool false) (.slice none 0 0) (.slice none 0 0) (.slice none 0 0)
  have HD1:=Lib.hid D1
  have HD2:=Lib.hid D2
  have HD3:=Lib.hid D3
  obtain ⟨S1,S2,S3⟩:=split_cells hne HR.out HT.out (.bool false) (.slice none 0 0) (.slice none 0 0) (.slice none 0 0) (.bool false) (.slice none 0 0) (.slice none 0 0) (.slice none 0 0)
  have HS1:=Lib.hid S1.cells
  have HS2:=Lib.hid S2.cells
  obtain ⟨f0,f1,f2,f3⟩:=HR.out.free
  obtain ⟨g0,g1,g2,g3⟩:=HT.out.free
  obtain ⟨t0,t1,t2,t3⟩:=HR.out.cells
  obtain ⟨u0,u1,u2,u3⟩:=HT.out.cells
  clear x1 x2 x3 x4 D1 D2 D3 S1 S2 S3 hne
  go_wp2_with fail
  obtain ⟨y0,y1,y2,y3⟩:=HS1.out
  obtain ⟨z0,z1,z2,z3⟩:=HS2.out
  refine bodyPost_ret (v := .tuple #[.agg #[.bool false,.slice none 0 0,.slice none 0 0,.slice none 0 0],.string ⟨#[]⟩,.agg #[.bool false,.slice none 0 0,.slice none 0 0,.slice none 0 0],.int .i64 100]) (by simp [results,Tryz.results143,go_sem,y0,y1,y2,y3,z0,z1,z2,z3]) rfl ?_
  exact ⟨_,_,by rw [X1.out,X4.out];rfl,by rw [X2.out];exact HD1.out,by rw [X3.out];exact HD2.out,HD3.out⟩
 case neg =>
  obtain ⟨x1,x2,x3,x4⟩:=ND.split_yes (s:=s) (by rw [HN.out,HG.out];exact hs)
  have hlt:=ND.splitAt_lt (s:=s) (by rw [HN.out,HG.out];exact hs)
  have hpd:s.splitAt=min (ND.hN s.ents) (n - 0 - 1):=by unfold ND.splitAt;rw [HN.out,HG.out]
  rw [HN.out,HG.out] at hlt
  rw [HG.out] at x3
  obtain ⟨p,hp⟩:∃ p,s.splitAt=p:=⟨_,rfl⟩
  rw [hp] at x2 x3 x4 hlt hpd
  have X1:=Lib.hid x1
  have X2:=Lib.hid x2
  have X3:=Lib.hid x3
  have X4:=Lib.hid x4
  have HP:=Lib.hid hpd
  have hn2:2+0≤n:=by omega
  clear x1 x2 x3 x4 hp hpd hs
  go_upto_region 7 with fail
  go_cut [8] (fun s8 wx=>s8 = .int .i64 (p:Int)∧Hid (Below w0.heap.size w0 wx))
  case first =>
   go_wp2_with fail
   refine (half_any true A n c B m d C k e s w0 HS.out HL.out HO.out HZ.out HE.out).mono ?_
   rintro e1 w1 ⟨rfl,b1⟩
   have B1:=Lib.hid b1
   have HP2:=HP.out
   clear b1 c0 c1 c2 c3
   generalize ND.hN s.ents=hh at *
   rcases Nat.lt_or_ge (n - 0 - 1) hh with h5 | h5
   ·have h6:p=n - 0 - 1:=by omega
    have HP6:=Lib.hid h6
    have h7:(n:Int) - 1<(hh:Int):=by omega
    clear HP2 h6
    go_wp2_with fail
    all_goals (
     go_meet
     exact ⟨by rw [HP6.out];congr 1;omega,B1⟩)
   ·have h6:hh=p:=by omega
    have h7:(hh:Int)≤(n:Int) - 1:=by omega
    clear HP2
    subst h6
    go_wp2_with fail
    all_goals (
     go_meet
     exact ⟨rfl,B1⟩)
  case rest =>
   obtain ⟨rfl,BC⟩:=hcut
   have BB:=Lib.hid (chainN BC.out B0.out)
   have HS1:=Lib.hid (HS.out.kept BC.out)
   have HB1:=Lib.hid (HB.out.kept BC.out)
   have HR1:=Lib.hid (HR.out.kept BC.out)
   have HT1:=Lib.hid (HT.out.kept BC.out)
   have hc:=HS1.out.ke.le
   have hg1:=HB1.out.lt
   clear BC c0 c1 c2 c3 HB HR HT HS hg hr hr2
   obtain ⟨w1,hw1⟩:∃ w1:World,w1=wc:=⟨_,rfl⟩
   subst hw1
   go_upto_region 8 with fail
   go_cut [9] (fun s9 wx=>Part w1 wx true p (s.keys.take p) s9)
   case first =>
    rename_i JJ KK HJ HM
    refine wp_region_flow 10 1 (SP.at_ (partF w1 w.heap.size true A n c p s)) (by kernel_rfl) rfl (by kernel_rfl) (by kernel_rfl) (by kernel_rfl) (SP.at_st _) ?_ ?_
    ·intro i o L a wx hi ho h hd
     have e1:a.eval (.tmp 1) = .pointer (some ⟨w.heap.size,0,none⟩):=(h.old 1 (by kernel_rfl)).trans rfl
     have e8:a.eval (.tmp 8) = .int .i64 (p:Int):=(h.old 8 (by kernel_rfl)).trans rfl
     obtain ⟨c0,c1,c2,c3⟩:=(HB1.out.kept h.below).cells
     match i,hi,ho,hd with
     | 0,_,ho,hd =>
       obtain rfl:=Option.some.inj ho
       refine wpOp_step rfl (fun K hK=>?_)
       refine (if_pos (by rfl)).mpr ?_
       have q0:=got e1
       go_simp
       exact hK _ _ ⟨_,_,rfl,rfl,rfl,Below.refl _ _⟩
     | 1,_,ho,hd =>
       obtain rfl:=Option.some.inj ho
       refine wpOp_step rfl (fun K hK=>?_)
       refine (if_pos (by rfl)).mpr ?_
       have q0:=got (h.got 0 _ _ rfl (by decide) (hd ⟨0,.data⟩ (by simp) rfl) rfl)
       go_simp
       exact hK _ _ ⟨_,_,rfl,rfl,rfl,Below.refl _ _⟩
     | 2,_,ho,hd =>
       obtain rfl:=Option.some.inj ho
       refine wpOp_step rfl (fun K hK=>?_)
       refine (if_pos (by rfl)).mpr ?_
       have q0:=got e1
       go_simp
       exact hK _ _ ⟨_,_,rfl,rfl,rfl,Below.refl _ _⟩
     | 3,_,ho,hd =>
       obtain rfl:=Option.some.inj ho
       refine wpOp_step rfl (fun K hK=>?_)
       refine (if_pos (by rfl)).mpr ?_
       have q0:=got (h.got 2 _ _ rfl (by decide) (hd ⟨2,.data⟩ (by simp) rfl) rfl)
       go_simp
       exact hK _ _ ⟨_,_,rfl,rfl,rfl,Below.refl _ _⟩
     | 4,_,ho,hd =>
       obtain rfl:=Option.some.inj ho
       refine wpOp_step rfl (fun K hK=>?_)
       refine (if_pos (by rfl)).mpr ?_
       have q0:=got e8
       go_simp
       exact hK _ _ ⟨_,_,rfl,rfl,rfl,Below.refl _ _⟩
     | 5,_,ho,hd =>
       obtain rfl:=Option.some.inj ho
       refine wpOp_step rfl (fun K hK=>?_)
       refine (if_pos (by rfl)).mpr ?_
       have q0:=got (h.got 3 _ _ rfl (by decide) (hd ⟨3,.data⟩ (by simp) rfl) rfl)
       have q1:=got (h.got 4 _ _ rfl (by decide) (hd ⟨4,.data⟩ (by simp) rfl) rfl)
       have hu:=upto_S (n:=n) (c:=c) (k:=p) A (by omega) hc wx
       go_simp
       exact hK _ _ ⟨_,_,rfl,rfl,rfl,Below.refl _ _⟩
     | 6,_,ho,hd =>
       obtain rfl:=Option.some.inj ho
       refine wpOp_step rfl (fun K hK=>?_)
       refine (if_pos (by rfl)).mpr ?_
       have q5:=got (h.got 5 _ _ rfl (by decide) (hd ⟨5,.data⟩ (by simp) rfl) rfl)
       go_simp
       exact hK _ _ ⟨_,_,rfl,rfl,⟨_,rfl,pile_one (ln_strTake (HS1.out.ke.kept h.below) (by omega)) (strVals_one _) _⟩,below_one _ _⟩
     | 7,_,ho,hd =>
       obtain rfl:=Option.some.inj ho
       refine wpOp_step rfl (fun K hK=>?_)
       refine (if_pos (by rfl)).mpr ?_
       obtain ⟨p9,ep,hp9⟩:=(h.got 6 _ _ rfl (by decide) (hd ⟨6,.data⟩ (by simp) rfl) rfl)
       have q0:=got ep
       have hbs:=h.below.size
       go_simp
       refine (ejoin_S _ 1 1 (p) _ wx hp9 rfl (by simp [tot]) (by omega) (by decide)).mono ?_
       rintro e w3 ⟨v3,rfl,o3,b3⟩
       rw [epcs_one] at o3
       exact hK _ _ ⟨v3,_,rfl,rfl,ln_of_row o3 rfl h.below.size,b3⟩
     | 8,_,ho,hd =>
       obtain rfl:=Option.some.inj ho
       refine wpOp_step rfl (fun K hK=>?_)
       refine (if_pos (by rfl)).mpr ?_
       have q1:=got (h.got 1 _ _ rfl (by decide) (hd ⟨1,.data⟩ (by simp) rfl) rfl)
       obtain ⟨A9,a9,z9,l9,i9,_⟩:=(h.got 7 _ _ rfl (by decide) (hd ⟨7,.data⟩ (by simp) rfl) rfl)
       have y9:=got z9
       go_simp
       exact hK _ _ ⟨_,_,rfl,rfl,⟨A9,_,a9,none,0,0,none,0,0,rfl,⟨l9,Ln.none_ _ 1,Ln.none_ _ 1⟩,i9,NHi.none_ _,NHi.none_ _⟩,Below.refl _ _⟩
     | 9,_,ho,hd =>
       obtain rfl:=Option.some.inj ho
       refine wpOp_step rfl (fun K hK=>?_)
       refine (if_pos (by rfl)).mpr ?_
       go_simp
       exact hK _ _ ⟨_,_,rfl,rfl,⟨_,rfl,nbox_new wx _ _ _ _,h.below.size⟩,below_one _ _⟩
     | j+10,hi,_,_=>exact absurd hi (by omega)
    ·intro mm L a wx h hd
     refine wpAny_ready (rs:=[10]) (by decide +kernel) (by simp) (AllReady.cons rfl (fun K hK=>?_) AllReady.nil)
     refine (if_pos (by rfl)).mpr ?_
     obtain ⟨A',n',c',B',m',d',C',k',e',ev,hN,iA,iB,iC⟩:=h.got 8 _ _ rfl (by decide) (hd 8 (by decide)) rfl
     obtain ⟨q,eq9,hq,hq2⟩:=h.got 9 _ _ rfl (by decide) (hd 9 (by decide)) rfl
     obtain rfl:p=n':=by have:=hN.kn;simp only [List.length_take] at this;rw [HN.out] at this;omega
     obtain rfl:m'=0:=hN.vn.symm
     obtain rfl:k'=0:=hN.cn.symm
     have q0:=got ev
     have q2:=got eq9
     obtain ⟨x0,x1,x2,x3⟩:=hq.cells
     obtain ⟨f0,f1,f2,f3⟩:=hq.free
     go_simp
     refine hK _ _ ?_
     refine wpAny_done (by decide +kernel) ?_ _
     have E:=h.frame 73 (fun j=>Nat.blt j 9 || (Nat.blt 9 j && Nat.blt j 27) || Nat.blt 35 j) rfl (by kernel_rfl) rfl
     refine HM _ _ (Met.intro (HJ _ _ ?_))
     (repeat apply Exists.intro)
     refine ⟨?rel,?fr⟩
     case fr=>exact E
     case rel=>exact part_done eq9 hq hN hq2 h.below iA iB iC
   case rest =>
    obtain ⟨q1,A1,c1,B1,d1,C1,e1,rfl,hb1,hl1,hq1,hq1b,be1,iA1,iB1,iC1⟩:=hcut
    have NB1:=Lib.hid hb1
    have LN1:=Lib.hid hl1
    have BE1:=Lib.hid be1
    have I1:=Lib.hid (And.intro iA1 (And.intro iB1 iC1))
    clear hb1 hl1 be1 iA1 iB1 iC1
    obtain ⟨w2,hw2⟩:∃ w2:World,w2=wc:=⟨_,rfl⟩
    subst hw2
    go_upto_region 9 with fail
    go_cut [10] (fun s10 wx=>Part w2 wx true (n - p) (s.keys.drop p) s10)
    case first =>
     rename_i JJ KK HJ HM
     have HS2:=Lib.hid (HS1.out.kept BE1.out)
     have HB2:=Lib.hid (HB1.out.kept BE1.out)
     have HW:Hid (IntKind.i64.wrap ((p:Int))=(p:Int)):=Lib.hid (IntWalk.i64_in _ (by omega))
     refine wp_region_flow 12 1 (SP.at_ (restF w2 w.heap.size true A n c p 0 s)) (by kernel_rfl) rfl (by kernel_rfl) (by kernel_rfl) (by kernel_rfl) (SP.at_st _) ?_ ?_
     ·intro i o L a wx hi ho h hd
      have e1:a.eval (.tmp 1) = .pointer (some ⟨w.heap.size,0,none⟩):=(h.old 1 (by kernel_rfl)).trans rfl
      have e8:a.eval (.tmp 8) = .int .i64 (p:Int):=(h.old 8 (by kernel_rfl)).trans rfl
      have e6:a.eval (.tmp 6) = .int .i64 ((0:Nat):Int):=(h.old 6 (by kernel_rfl)).trans rfl
      obtain ⟨c0,c1,c2,c3⟩:=(HB2.out.kept h.below).cells
      match i,hi,ho,hd with
      | 0,_,ho,hd =>
        obtain rfl:=Option.some.inj ho
        refine wpOp_step rfl (fun K hK=>?_)
        refine (if_pos (by rfl)).mpr ?_
        have q0:=got e1
        go_simp
        exact hK _ _ ⟨_,_,rfl,rfl,rfl,Below.refl _ _⟩
      | 1,_,ho,hd =>
        obtain rfl:=Option.some.inj ho
        refine wpOp_step rfl (fun K hK=>?_)
        refine (if_pos (by rfl)).mpr ?_
        have q0:=got (h.got 0 _ _ rfl (by decide) (hd ⟨0,.data⟩ (by simp) rfl) rfl)
        go_simp
        exact hK _ _ ⟨_,_,rfl,rfl,rfl,Below.refl _ _⟩
      | 2,_,ho,hd =>
        obtain rfl:=Option.some.inj ho
        refine wpOp_step rfl (fun K hK=>?_)
        refine (if_pos (by rfl)).mpr ?_
        have q0:=got e1
        go_simp
        exact hK _ _ ⟨_,_,rfl,rfl,rfl,Below.refl _ _⟩
      | 3,_,ho,hd =>
        obtain rfl:=Option.some.inj ho
        refine wpOp_step rfl (fun K hK=>?_)
        refine (if_pos (by rfl)).mpr ?_
        have q0:=got (h.got 2 _ _ rfl (by decide) (hd ⟨2,.data⟩ (by simp) rfl) rfl)
        go_simp
        exact hK _ _ ⟨_,_,rfl,rfl,rfl,Below.refl _ _⟩
      | 4,_,ho,hd =>
        obtain rfl:=Option.some.inj ho
        refine wpOp_step rfl (fun K hK=>?_)
        refine (if_pos (by rfl)).mpr ?_
        have q0:=got e8
        go_simp
        exact hK _ _ ⟨_,_,rfl,rfl,rfl,Below.refl _ _⟩
      | 5,_,ho,hd =>
        obtain rfl:=Option.some.inj ho
        refine wpOp_step rfl (fun K hK=>?_)
        refine (if_pos (by rfl)).mpr ?_
        have q0:=got e6
        go_simp
        exact hK _ _ ⟨_,_,rfl,rfl,rfl,Below.refl _ _⟩
      | 6,_,ho,hd =>
        obtain rfl:=Option.some.inj ho
        refine wpOp_step rfl (fun K hK=>?_)
        refine (if_pos (by rfl)).mpr ?_
        have q0:=got (h.got 4 _ _ rfl (by decide) (hd ⟨4,.data⟩ (by simp) rfl) rfl)
        have q1:=got (h.got 5 _ _ rfl (by decide) (hd ⟨5,.data⟩ (by simp) rfl) rfl)
        have hw:=HW.out
        go_simp
        exact hK _ _ ⟨_,_,rfl,rfl,rfl,Below.refl _ _⟩
      | 7,_,ho,hd =>
        obtain rfl:=Option.some.inj ho
        refine wpOp_step rfl (fun K hK=>?_)
        refine (if_pos (by rfl)).mpr ?_
        have q0:=got (h.got 3 _ _ rfl (by decide) (hd ⟨3,.data⟩ (by simp) rfl) rfl)
        have q1:=got (h.got 6 _ _ rfl (by decide) (hd ⟨6,.data⟩ (by simp) rfl) rfl)
        have hu:=from_S (n:=n) (c:=c) (k:=p) A (by omega) wx
        go_simp
        exact hK _ _ ⟨_,_,rfl,rfl,rfl,Below.refl _ _⟩
      | 8,_,ho,hd =>
        obtain rfl:=Option.some.inj ho
        refine wpOp_step rfl (fun K hK=>?_)
        refine (if_pos (by rfl)).mpr ?_
        have q7:=got (h.got 7 _ _ rfl (by decide) (hd ⟨7,.data⟩ (by simp) rfl) rfl)
        go_simp
        exact hK _ _ ⟨_,_,rfl,rfl,⟨_,rfl,pile_one (ln_strDrop (HS2.out.ke.kept h.below) (by omega)) (strVals_one _) _⟩,below_one _ _⟩
      | 9,_,ho,hd =>
        obtain rfl:=Option.some.inj ho
        refine wpOp_step rfl (fun K hK=>?_)
        refine (if_pos (by rfl)).mpr ?_
        obtain ⟨p9,ep,hp9⟩:=(h.got 8 _ _ rfl (by decide) (hd ⟨8,.data⟩ (by simp) rfl) rfl)
        have q0:=got ep
        have hbs:=h.below.size
        go_simp
        refine (ejoin_S _ 1 1 (n - p) _ wx hp9 rfl (by simp [tot]) (by omega) (by decide)).mono ?_
        rintro e w3 ⟨v3,rfl,o3,b3⟩
        rw [epcs_one] at o3
        exact hK _ _ ⟨v3,_,rfl,rfl,ln_of_row o3 rfl h.below.size,b3⟩
      | 10,_,ho,hd =>
        obtain rfl:=Option.some.inj ho
        refine wpOp_step rfl (fun K hK=>?_)
        refine (if_pos (by rfl)).mpr ?_
        have q1:=got (h.got 1 _ _ rfl (by decide) (hd ⟨1,.data⟩ (by simp) rfl) rfl)
        obtain ⟨A9,a9,z9,l9,i9,_⟩:=(h.got 9 _ _ rfl (by decide) (hd ⟨9,.data⟩ (by simp) rfl) rfl)
        have y9:=got z9
        go_simp
        exact hK _ _ ⟨_,_,rfl,rfl,⟨A9,_,a9,none,0,0,none,0,0,rfl,⟨l9,Ln.none_ _ 1,Ln.none_ _ 1⟩,i9,NHi.none_ _,NHi.none_ _⟩,Below.refl _ _⟩
      | 11,_,ho,hd =>
        obtain rfl:=Option.some.inj ho
        refine wpOp_step rfl (fun K hK=>?_)
        refine (if_pos (by rfl)).mpr ?_
        go_simp
        exact hK _ _ ⟨_,_,rfl,rfl,⟨_,rfl,nbox_new wx _ _ _ _,h.below.size⟩,below_one _ _⟩
      | j+12,hi,_,_=>exact absurd hi (by omega)
     ·intro mm L a wx h hd
      refine wpAny_ready (rs:=[12]) (by decide +kernel) (by simp) (AllReady.cons rfl (fun K hK=>?_) AllReady.nil)
      refine (if_pos (by rfl)).mpr ?_
      obtain ⟨A',n',c',B',m',d',C',k',e',ev,hN,iA,iB,iC⟩:=h.got 10 _ _ rfl (by decide) (hd 10 (by decide)) rfl
      obtain ⟨q,eq9,hq,hq2⟩:=h.got 11 _ _ rfl (by decide) (hd 11 (by decide)) rfl
      obtain rfl:n - p=n':=by have:=hN.kn;simp only [List.length_drop] at this;rw [HN.out] at this;omega
      obtain rfl:m'=0:=hN.vn.symm
      obtain rfl:k'=0:=hN.cn.symm
      have q0:=got ev
      have q2:=got eq9
      obtain ⟨x0,x1,x2,x3⟩:=hq.cells
      obtain ⟨f0,f1,f2,f3⟩:=hq.free
      go_simp
      refine hK _ _ ?_
      refine wpAny_done (by decide +kernel) ?_ _
      have E:=h.frame 73 (fun j=>Nat.blt j 10 || (Nat.blt 10 j && Nat.blt j 36) || Nat.blt 46 j) rfl (by kernel_rfl) rfl
      refine HM _ _ (Met.intro (HJ _ _ ?_))
      (repeat apply Exists.intro)
      refine ⟨?rel,?fr⟩
      case fr=>exact E
      case rel=>exact part_done eq9 hq hN hq2 h.below iA iB iC
    case rest =>
     obtain ⟨q2,A2,c2,B2,d2,C2,e2,rfl,hb2,hl2,hq2,hq2b,be2,iA2,iB2,iC2⟩:=hcut
     have H0:Hid (Halves w1 wc q1 q2 true A1 p c1 B1 0 d1 C1 0 e1 ⟨true,s.keys.take p,[],[]⟩ A2 (n - p) c2 B2 0 d2 C2 0 e2 ⟨true,s.keys.drop p,[],[]⟩):=Lib.hid ⟨NB1.out.kept be2,hb2,LN1.out.kept be2,hl2,by omega,hq1,Nat.le_trans BE1.out.size hq2,chainN be2 BE1.out,⟨I1.out.1,I1.out.2.1,I1.out.2.2,iA2.low BE1.out.size,iB2.low BE1.out.size,iC2.low BE1.out.size⟩⟩
     have hqq:¬ q1=q2:=by omega
     have hqq2:¬ q2=q1:=by omega
     clear hb2 hl2 be2 iA2 iB2 iC2 I1 NB1 LN1 BE1 hq1b hq2b hq2 hq1
     obtain ⟨w3,hw3⟩:∃ w3:World,w3=wc:=⟨_,rfl⟩
     subst hw3
     obtain ⟨mm,hmm⟩:∃ mm,min p m=mm:=⟨_,rfl⟩
     obtain ⟨kk,hkk⟩:∃ kk,min (p+1) k=kk:=⟨_,rfl⟩
     have HM1:=Lib.hid hmm
     have HK1:=Lib.hid hkk
     clear hmm hkk
     obtain ⟨c0,c1',c2',c3'⟩:=(HB1.out.kept H0.out.bel).cells
     have LV:=Lib.hid (HS1.out.va.kept H0.out.bel)
     go_upto_region 10 with fail
     go_wp2_with fail
     refine (eparted_S B m d p mm (strVals s.vals) w3 LV.out (strVals_one _) HM1.out hm).mono ?_
     rintro e9 w4 ⟨v1,v2,rfl,o1,o2,b4⟩
     obtain ⟨B1',d1',rfl,_,lv1⟩:=Ln.of_own o1
     obtain ⟨B2',d2',rfl,_,lv2⟩:=Ln.of_own o2
     rw [str_take] at lv1
     rw [str_drop] at lv2
     have H1:=Lib.hid (H0.out.next b4)
     have H2:=Lib.hid (H1.out.vals lv1 lv2 ((NHi.of_own o1).low H0.out.bel.size) ((NHi.of_own o2).low H0.out.bel.size))
     obtain ⟨x0,x1,x2,x3⟩:=H1.out.b1.cells
     obtain ⟨y0,y1,y2,y3⟩:=H1.out.b2.cells
     obtain ⟨f0,f1,f2,f3⟩:=H1.out.b1.free
     obtain ⟨g0,g1,g2,g3⟩:=H1.out.b2.free
     clear o1 o2 lv1 lv2 b4 c0 c1' c2' c3' LV H0
     go_upto_region 11 with fail
     clear x0 x1 x2 x3 y0 y1 y2 y3 f0 f1 f2 f3 g0 g1 g2 g3 H1
     generalize (w4.setCell ⟨q1,2,none⟩ (.slice B1' mm d1')).setCell ⟨q2,2,none⟩ (.slice B2' (m - mm) d2')=w5 at *
     have LK:=Lib.hid (HS1.out.ki.kept H2.out.bel)
     obtain ⟨c0,c1',c2',c3'⟩:=(HB1.out.kept H2.out.bel).cells
     have hcall:=eparted_I C k e (p+1) kk (intVals s.kids) w5 LK.out (intVals_one _) HK1.out hk
     rw [show ((p+1:Nat):Int)=(p:Int)+1 by omega] at hcall
     have HCL:=Lib.hid hcall
     clear hcall
     go_wp2_with fail
     refine HCL.out.mono ?_
     rintro e9 w6 ⟨v1,v2,rfl,o1,o2,b4⟩
     obtain ⟨C1',e1',rfl,_,lv1⟩:=Ln.of_own o1
     obtain ⟨C2',e2',rfl,_,lv2⟩:=Ln.of_own o2
     rw [int_take] at lv1
     rw [int_drop] at lv2
     have H3:=Lib.hid (H2.out.next b4)
     have H4:=Lib.hid (H3.out.kids lv1 lv2 ((NHi.of_own o1).low H2.out.bel.size) ((NHi.of_own o2).low H2.out.bel.size))
     obtain ⟨x0,x1,x2,x3⟩:=H3.out.b1.cells
     obtain ⟨y0,y1,y2,y3⟩:=H3.out.b2.cells
     obtain ⟨f0,f1,f2,f3⟩:=H3.out.b1.free
     obtain ⟨g0,g1,g2,g3⟩:=H3.out.b2.free
     clear o1 o2 lv1 lv2 b4 c0 c1' c2' c3' LK H2 HCL
     go_upto_region 12 with fail
     clear x0 x1 x2 x3 y0 y1 y2 y3 f0 f1 f2 f3 g0 g1 g2 g3 H3
     generalize (w6.setCell ⟨q1,3,none⟩ (.slice C1' kk e1')).setCell ⟨q2,3,none⟩ (.slice C2' (k - kk) e2')=w7 at *
     obtain ⟨b,off,t,rfl,hv,ct⟩:=(HS1.out.ke.kept H4.out.bel).strAt (show p<n by omega)
     have HV:=Lib.hid hv
     have HR7:=Lib.hid (HR1.out.kept H4.out.bel)
     have HT7:=Lib.hid (HT1.out.kept H4.out.bel)
     have CT:=Lib.hid ct
     clear hv ct
     have HD:=Lib.hid (split_done (chainN H4.out.bel BB.out) gr1 gr2 hne HR7.out HT7.out (NdV.of_hi H4.out.h1 rfl (H4.out.hi.a.low BB.out.size) (H4.out.hi.b.low BB.out.size) (H4.out.hi.c.low BB.out.size)) (NdV.of_hi H4.out.h2 rfl (H4.out.hi.a'.low BB.out.size) (H4.out.hi.b'.low BB.out.size) (H4.out.hi.c'.low BB.out.size)) (.bool true) (.slice A1 p c1) (.slice B1' mm d1') (.slice C1' kk e1') (.bool true) (.slice A2 (n - p) c2) (.slice B2' (m - mm) d2') (.slice C2' (k - kk) e2'))
     have HE2:=Lib.hid (split_cells hne HR7.out HT7.out (.bool true) (.slice A1 p c1) (.slice B1' mm d1') (.slice C1' kk e1') (.bool true) (.slice A2 (n - p) c2) (.slice B2' (m - mm) d2') (.slice C2' (k - kk) e2'))
     have a1:¬ q1=r1:=by have:=H4.out.l1;have:=HR1.out.lt;have:=HT1.out.lt;omega
     have a2:¬ q1=r2:=by have:=H4.out.l1;have:=HR1.out.lt;have:=HT1.out.lt;omega
     have a3:¬ q2=r1:=by have:=H4.out.l2;have:=HR1.out.lt;have:=HT1.out.lt;omega
     have a4:¬ q2=r2:=by have:=H4.out.l2;have:=HR1.out.lt;have:=HT1.out.lt;omega
     have a5:¬ w.heap.size=r1:=by omega
     have a6:¬ w.heap.size=r2:=by omega
     have a7:¬ b=r1:=box_apart HR7.out CT.out (Or.inl ⟨_,rfl⟩)
     have a8:¬ b=r2:=box_apart HT7.out CT.out (Or.inl ⟨_,rfl⟩)
     have i1:(0:Int)≤(p:Int):=by omega
     have i2:(p:Int)<(n:Int):=by omega
     obtain ⟨x0,x1,x2,x3⟩:=H4.out.b1.cells
     obtain ⟨y0,y1,y2,y3⟩:=H4.out.b2.cells
     obtain ⟨c0,c1x,c2x,c3x⟩:=(HB1.out.kept H4.out.bel).cells
     obtain ⟨t0,t1,t2,t3⟩:=HR7.out.cells
     obtain ⟨f0,f1,f2,f3⟩:=HR7.out.free
     obtain ⟨u0,u1,u2,u3⟩:=HT7.out.cells
     obtain ⟨g0,g1,g2,g3⟩:=HT7.out.free
     have ct:=CT.out
     go_region
     all_goals (
      clear x0 x1 x2 x3 y0 y1 y2 y3 c0 c1x c2x c3x t0 t1 t2 t3 f0 f1 f2 f3 u0 u1 u2 u3 g0 g1 g2 g3 ct a1 a2 a3 a4 a5 a6 a7 a8
      go_wp2_with fail
      obtain ⟨S1,S2,_⟩:=HE2.out
      obtain ⟨y0,y1,y2,y3⟩:=S1.cells
      obtain ⟨u0,u1,u2,u3⟩:=S2.cells
      clear S1 S2 HE2
      generalize ((((((((w7.setCell ⟨r1,0,none⟩ (.bool true)).setCell ⟨r1,1,none⟩ (.slice A1 p c1)).setCell ⟨r1,2,none⟩ (.slice B1' mm d1')).setCell ⟨r1,3,none⟩ (.slice C1' kk e1')).setCell ⟨r2,0,none⟩ (.bool true)).setCell ⟨r2,1,none⟩ (.slice A2 (n - p) c2)).setCell ⟨r2,2,none⟩ (.slice B2' (m - mm) d2')).setCell ⟨r2,3,none⟩ (.slice C2' (k - kk) e2'))=w9 at *
      have bd:=(Below.refl w9.heap.size w9).drew
      refine bodyPost_ret (v := .tuple #[.agg #[.bool true,.slice A1 p c1,.slice B1' mm d1',.slice C1' kk e1'],.string t,.agg #[.bool true,.slice A2 (n - p) c2,.slice B2' (m - mm) d2',.slice C2' (k - kk) e2'],.int .i64 0]) (by simp [results,Tryz.results143,go_sem,y0,y1,y2,y3,u0,u1,u2,u3]) rfl ?_
      refine ⟨.agg #[.bool true,.slice A1 p c1,.slice B1' mm d1',.slice C1' kk e1'],.agg #[.bool true,.slice A2 (n - p) c2,.slice B2' (m - mm) d2',.slice C2' (k - kk) e2'],?_,?_,?_,HD.out.2.2.drew⟩
      ·rw [X1.out,X4.out,at_getD HV.out,tb_back]
      ·rw [X2.out,HL.out,← (take_mm HM1.out HVN.out).1,← (take_mm HK1.out HCN.out).1];exact HD.out.1.kept bd
      ·rw [X3.out,HL.out,← (take_mm HM1.out HVN.out).2,← (take_mm HK1.out HCN.out).2];exact HD.out.2.1.kept bd)
end Go.Proofs.YtccphijgcapeoaaGreat
/-
  What cell's Split comes to, of inner nodes.
-/
namespace Go.Proofs.YtccphijgcapeoaaGreat
open Go.RowKit
theorem split_inner (A:Option Addr) (n c:Nat) (B:Option Addr) (m d:Nat) (C:Option Addr) (k e:Nat) (s:ND) (w:World) (h:Nd w A n c B m d C k e s) (hl:s.leaf=false) (ho:s.ok=true) (hz:s.size≤1000000) (hE:s.ents.sum≤100000000) :
 Calls Tryz.prog 143 #[.agg #[.bool false,.slice A n c,.slice B m d,.slice C k e]] w (SplitHi w s):=by
 obtain ⟨tb1,tb2,tb3,tb4⟩:=nbox_three w (.bool false) (.slice A n c) (.slice B m d) (.slice C k e) (.bool false) (.slice none 0 0) (.slice none 0 0) (.slice none 0 0)
 have HS:=Lib.hid (h.kept tb4)
 have HB:=Lib.hid tb1
 have HR:=Lib.hid tb2
 have HT:=Lib.hid tb3
 have B0:=Lib.hid tb4
 have HL:=Lib.hid hl
 have HO:=Lib.hid ho
 have HZ:=Lib.hid hz
 have HE:=Lib.hid hE
 have HN:=Lib.hid h.kn
 have HVN:=Lib.hid h.vn
 have HCN:=Lib.hid h.cn
 have hsz:n≤1000000∧m≤1000000∧k≤1000000:=by have h1:=h.kn;have h2:=h.vn;have h3:=h.cn;unfold ND.size ND.tsz at hz;omega
 obtain ⟨hn,hm,hk⟩:=hsz
 clear h hl ho hz hE tb1 tb2 tb3 tb4
 go_enter Tryz.func143,Tryz.ntmps143
 go_upto_region 1 with fail
 generalize ((w.alloc (.cells #[.bool false,.slice A n c,.slice B m d,.slice C k e] 68)).alloc (.cells #[.bool false,.slice none 0 0,.slice none 0 0,.slice none 0 0] 68)).alloc (.cells #[.bool false,.slice none 0 0,.slice none 0 0,.slice none 0 0] 68)=w0 at *
 have hg:=HB.out.lt
 have hr:=HR.out.lt
 have hr2:=HT.out.lt
 have gr1:w.heap.size≤w.heap.size+1:=Nat.le_succ _
 have gr2:w.heap.size≤w.heap.size+1+1:=by omega
 have hne:w.heap.size+1≠w.heap.size+1+1:=by omega
 have hx1:w.heap.size<w.heap.size+1:=by omega
 have hx2:w.heap.size<w.heap.size+1+1:=by omega
 generalize w.heap.size+1+1=r2 at *
 generalize w.heap.size+1=r1 at *
 have hne2:¬ r1=r2:=hne
 have hne3:¬ r2=r1:=fun e=>hne e.symm
 obtain ⟨c0,c1,c2,c3⟩:=HB.out.cells
 have HG:Hid (s.gone=1):=Lib.hid (by unfold ND.gone;rw [HL.out];rfl)
 by_cases hs:n<2+1
 case pos =>
  obtain ⟨x1,x2,x3,x4⟩:=ND.split_no (s:=s) (by rw [HN.out,HG.out];exact hs)
  have X1:=Lib.hid x1
  have X2:=Lib.hid x2
  have X3:=Lib.hid x3
  have X4:=Lib.hid x4
  obtain ⟨D1,D2,D3⟩:=split_done (v := .agg #[.bool false,.slice none 0 0,.slice none 0 0,.slice none 0 0]) (u := .agg #[.bool false,.slice none 0 0,.slice none 0 0,.slice none 0 0]) B0.out gr1 gr2 hne HR.out HT.out (ndv_zero w0 w.heap.size) (ndv_zero w0 w.heap.size) (.bool false) (.slice none 0 0) (.slice none 0 0) (.slice none 0 0) (.bool false) (.slice none 0 0) (.slice none 0 0) (.slice none 0 0)
  have HD1:=Lib.hid D1
  have HD2:=Lib.hid D2
  have HD3:=Lib.hid D3
  obtain ⟨S1,S2,S3⟩:=split_cells hne HR.out HT.out (.bool false) (.slice none 0 0) (.slice none 0 0) (.slice none 0 0) (.bool false) (.slice none 0 0) (.slice none 0 0) (.slice none 0 0)
  have HS1:=Lib.hid S1.cells
  have HS2:=Lib.hid S2.cells
  obtain ⟨f0,f1,f2,f3⟩:=HR.out.free
  obtain ⟨g0,g1,g2,g3⟩:=HT.out.free
  obtain ⟨t0,t1,t2,t3⟩:=HR.out.cells
  obtain ⟨u0,u1,u2,u3⟩:=HT.out.cells
  clear x1 x2 x3 x4 D1 D2 D3 S1 S2 S3 hne
  go_wp2_with fail
  obtain ⟨y0,y1,y2,y3⟩:=HS1.out
  obtain ⟨z0,z1,z2,z3⟩:=HS2.out
  refine bodyPost_ret (v := .tuple #[.agg #[.bool false,.slice none 0 0,.slice none 0 0,.slice none 0 0],.string ⟨#[]⟩,.agg #[.bool false,.slice none 0 0,.slice none 0 0,.slice none 0 0],.int .i64 100]) (by simp [results,Tryz.results143,go_sem,y0,y1,y2,y3,z0,z1,z2,z3]) rfl ?_
  exact ⟨_,_,by rw [X1.out,X4.out];rfl,by rw [X2.out];exact HD1.out,by rw [X3.out];exact HD2.out,HD3.out⟩
 case neg =>
  obtain ⟨x1,x2,x3,x4⟩:=ND.split_yes (s:=s) (by rw [HN.out,HG.out];exact hs)
  have hlt:=ND.splitAt_lt (s:=s) (by rw [HN.out,HG.out];exact hs)
  have hpd:s.splitAt=min (ND.hN s.ents) (n - 1 - 1):=by unfold ND.splitAt;rw [HN.out,HG.out]
  rw [HN.out,HG.out] at hlt
  rw [HG.out] at x3
  obtain ⟨p,hp⟩:∃ p,s.splitAt=p:=⟨_,rfl⟩
  rw [hp] at x2 x3 x4 hlt hpd
  have X1:=Lib.hid x1
  have X2:=Lib.hid x2
  have X3:=Lib.hid x3
  have X4:=Lib.hid x4
  have HP:=Lib.hid hpd
  have hn2:2+1≤n:=by omega
  clear x1 x2 x3 x4 hp hpd hs
  go_upto_region 7 with fail
  go_cut [8] (fun s8 wx=>s8 = .int .i64 (p:Int)∧Hid (Below w0.heap.size w0 wx))
  case first =>
   go_wp2_with fail
   refine (half_any false A n c B m d C k e s w0 HS.out HL.out HO.out HZ.out HE.out).mono ?_
   rintro e1 w1 ⟨rfl,b1⟩
   have B1:=Lib.hid b1
   have HP2:=HP.out
   clear b1 c0 c1 c2 c3
   generalize ND.hN s.ents=hh at *
   rcases Nat.lt_or_ge (n - 1 - 1) hh with h5 | h5
   ·have h6:p=n - 1 - 1:=by omega
    have HP6:=Lib.hid h6
    have h7:(n:Int) - 2<(hh:Int):=by omega
    clear HP2 h6
    go_wp2_with fail
    all_goals (
     go_meet
     exact ⟨by rw [HP6.out];congr 1;omega,B1⟩)
   ·have h6:hh=p:=by omega
    have h7:(hh:Int)≤(n:Int) - 2:=by omega
    clear HP2
    subst h6
    go_wp2_with fail
    all_goals (
     go_meet
     exact ⟨rfl,B1⟩)
  case rest =>
   obtain ⟨rfl,BC⟩:=hcut
   have BB:=Lib.hid (chainN BC.out B0.out)
   have HS1:=Lib.hid (HS.out.kept BC.out)
   have HB1:=Lib.hid (HB.out.kept BC.out)
   have HR1:=Lib.hid (HR.out.kept BC.out)
   have HT1:=Lib.hid (HT.out.kept BC.out)
   have hc:=HS1.out.ke.le
   have hg1:=HB1.out.lt
   clear BC c0 c1 c2 c3 HB HR HT HS hg hr hr2
   obtain ⟨w1,hw1⟩:∃ w1:World,w1=wc:=⟨_,rfl⟩
   subst hw1
   go_upto_region 8 with fail
   go_cut [9] (fun s9 wx=>Part w1 wx false p (s.keys.take p) s9)
   case first =>
    rename_i JJ KK HJ HM
    refine wp_region_flow 10 1 (SP.at_ (partF w1 w.heap.size false A n c p s)) (by kernel_rfl) rfl (by kernel_rfl) (by kernel_rfl) (by kernel_rfl) (SP.at_st _) ?_ ?_
    ·intro i o L a wx hi ho h hd
     have e1:a.eval (.tmp 1) = .pointer (some ⟨w.heap.size,0,none⟩):=(h.old 1 (by kernel_rfl)).trans rfl
     have e8:a.eval (.tmp 8) = .int .i64 (p:Int):=(h.old 8 (by kernel_rfl)).trans rfl
     obtain ⟨c0,c1,c2,c3⟩:=(HB1.out.kept h.below).cells
     match i,hi,ho,hd with
     | 0,_,ho,hd =>
       obtain rfl:=Option.some.inj ho
       refine wpOp_step rfl (fun K hK=>?_)
       refine (if_pos (by rfl)).mpr ?_
       have q0:=got e1
       go_simp
       exact hK _ _ ⟨_,_,rfl,rfl,rfl,Below.refl _ _⟩
     | 1,_,ho,hd =>
       obtain rfl:=Option.some.inj ho
       refine wpOp_step rfl (fun K hK=>?_)
       refine (if_pos (by rfl)).mpr ?_
       have q0:=got (h.got 0 _ _ rfl (by decide) (hd ⟨0,.data⟩ (by simp) rfl) rfl)
       go_simp
       exact hK _ _ ⟨_,_,rfl,rfl,rfl,Below.refl _ _⟩
     | 2,_,ho,hd =>
       obtain rfl:=Option.some.inj ho
       refine wpOp_step rfl (fun K hK=>?_)
       refine (if_pos (by rfl)).mpr ?_
       have q0:=got e1
       go_simp
       exact hK _ _ ⟨_,_,rfl,rfl,rfl,Below.refl _ _⟩
     | 3,_,ho,hd =>
       obtain rfl:=Option.some.inj ho
       refine wpOp_step rfl (fun K hK=>?_)
       refine (if_pos (by rfl)).mpr ?_
       have q0:=got (h.got 2 _ _ rfl (by decide) (hd ⟨2,.data⟩ (by simp) rfl) rfl)
       go_simp
       exact hK _ _ ⟨_,_,rfl,rfl,rfl,Below.refl _ _⟩
     | 4,_,ho,hd =>
       obtain rfl:=Option.some.inj ho
       refine wpOp_step rfl (fun K hK=>?_)
       refine (if_pos (by rfl)).mpr ?_
       have q0:=got e8
       go_simp
       exact hK _ _ ⟨_,_,rfl,rfl,rfl,Below.refl _ _⟩
     | 5,_,ho,hd =>
       obtain rfl:=Option.some.inj ho
       refine wpOp_step rfl (fun K hK=>?_)
       refine (if_pos (by rfl)).mpr ?_
       have q0:=got (h.got 3 _ _ rfl (by decide) (hd ⟨3,.data⟩ (by simp) rfl) rfl)
       have q1:=got (h.got 4 _ _ rfl (by decide) (hd ⟨4,.data⟩ (by simp) rfl) rfl)
       have hu:=upto_S (n:=n) (c:=c) (k:=p) A (by omega) hc wx
       go_simp
       exact hK _ _ ⟨_,_,rfl,rfl,rfl,Below.refl _ _⟩
     | 6,_,ho,hd =>
       obtain rfl:=Option.some.inj ho
       refine wpOp_step rfl (fun K hK=>?_)
       refine (if_pos (by rfl)).mpr ?_
       have q5:=got (h.got 5 _ _ rfl (by decide) (hd ⟨5,.data⟩ (by simp) rfl) rfl)
       go_simp
       exact hK _ _ ⟨_,_,rfl,rfl,⟨_,rfl,pile_one (ln_strTake (HS1.out.ke.kept h.below) (by omega)) (strVals_one _) _⟩,below_one _ _⟩
     | 7,_,ho,hd =>
       obtain rfl:=Option.some.inj ho
       refine wpOp_step rfl (fun K hK=>?_)
       refine (if_pos (by rfl)).mpr ?_
       obtain ⟨p9,ep,hp9⟩:=(h.got 6 _ _ rfl (by decide) (hd ⟨6,.data⟩ (by simp) rfl) rfl)
       have q0:=got ep
       have hbs:=h.below.size
       go_simp
       refine (ejoin_S _ 1 1 (p) _ wx hp9 rfl (by simp [tot]) (by omega) (by decide)).mono ?_
       rintro e w3 ⟨v3,rfl,o3,b3⟩
       rw [epcs_one] at o3
       exact hK _ _ ⟨v3,_,rfl,rfl,ln_of_row o3 rfl h.below.size,b3⟩
     | 8,_,ho,hd =>
       obtain rfl:=Option.some.inj ho
       refine wpOp_step rfl (fun K hK=>?_)
       refine (if_pos (by rfl)).mpr ?_
       have q1:=got (h.got 1 _ _ rfl (by decide) (hd ⟨1,.data⟩ (by simp) rfl) rfl)
       obtain ⟨A9,a9,z9,l9,i9,_⟩:=(h.got 7 _ _ rfl (by decide) (hd ⟨7,.data⟩ (by simp) rfl) rfl)
       have y9:=got z9
       go_simp
       exact hK _ _ ⟨_,_,rfl,rfl,⟨A9,_,a9,none,0,0,none,0,0,rfl,⟨l9,Ln.none_ _ 1,Ln.none_ _ 1⟩,i9,NHi.none_ _,NHi.none_ _⟩,Below.refl _ _⟩
     | 9,_,ho,hd =>
       obtain rfl:=Option.some.inj ho
       refine wpOp_step rfl (fun K hK=>?_)
       refine (if_pos (by rfl)).mpr ?_
       go_simp
       exact hK _ _ ⟨_,_,rfl,rfl,⟨_,rfl,nbox_new wx _ _ _ _,h.below.size⟩,below_one _ _⟩
     | j+10,hi,_,_=>exact absurd hi (by omega)
    ·intro mm L a wx h hd
     refine wpAny_ready (rs:=[10]) (by decide +kernel) (by simp) (AllReady.cons rfl (fun K hK=>?_) AllReady.nil)
     refine (if_pos (by rfl)).mpr ?_
     obtain ⟨A',n',c',B',m',d',C',k',e',ev,hN,iA,iB,iC⟩:=h.got 8 _ _ rfl (by decide) (hd 8 (by decide)) rfl
     obtain ⟨q,eq9,hq,hq2⟩:=h.got 9 _ _ rfl (by decide) (hd 9 (by decide)) rfl
     obtain rfl:p=n':=by have:=hN.kn;simp only [List.length_take] at this;rw [HN.out] at this;omega
     obtain rfl:m'=0:=hN.vn.symm
     obtain rfl:k'=0:=hN.cn.symm
     have q0:=got ev
     have q2:=got eq9
     obtain ⟨x0,x1,x2,x3⟩:=hq.cells
     obtain ⟨f0,f1,f2,f3⟩:=hq.free
     go_simp
     refine hK _ _ ?_
     refine wpAny_done (by decide +kernel) ?_ _
     have E:=h.frame 73 (fun j=>Nat.blt j 9 || (Nat.blt 9 j && Nat.blt j 27) || Nat.blt 35 j) rfl (by kernel_rfl) rfl
     refine HM _ _ (Met.intro (HJ _ _ ?_))
     (repeat apply Exists.intro)
     refine ⟨?rel,?fr⟩
     case fr=>exact E
     case rel=>exact part_done eq9 hq hN hq2 h.below iA iB iC
   case rest =>
    obtain ⟨q1,A1,c1,B1,d1,C1,e1,rfl,hb1,hl1,hq1,hq1b,be1,iA1,iB1,iC1⟩:=hcut
    have NB1:=Lib.hid hb1
    have LN1:=Lib.hid hl1
    have BE1:=Lib.hid be1
    have I1:=Lib.hid (And.intro iA1 (And.intro iB1 iC1))
    clear hb1 hl1 be1 iA1 iB1 iC1
    obtain ⟨w2,hw2⟩:∃ w2:World,w2=wc:=⟨_,rfl⟩
    subst hw2
    go_upto_region 9 with fail
    go_cut [10] (fun s10 wx=>Part w2 wx false (n - (p+1)) (s.keys.drop (p+1)) s10)
    case first =>
     rename_i JJ KK HJ HM
     have HS2:=Lib.hid (HS1.out.kept BE1.out)
     have HB2:=Lib.hid (HB1.out.kept BE1.out)
     have HW:Hid (IntKind.i64.wrap ((p:Int)+1)=(p:Int)+1):=Lib.hid (IntWalk.i64_in _ (by omega))
     refine wp_region_flow 12 1 (SP.at_ (restF w2 w.heap.size false A n c p 1 s)) (by kernel_rfl) rfl (by kernel_rfl) (by kernel_rfl) (by kernel_rfl) (SP.at_st _) ?_ ?_
     ·intro i o L a wx hi ho h hd
      have e1:a.eval (.tmp 1) = .pointer (some ⟨w.heap.size,0,none⟩):=(h.old 1 (by kernel_rfl)).trans rfl
      have e8:a.eval (.tmp 8) = .int .i64 (p:Int):=(h.old 8 (by kernel_rfl)).trans rfl
      have e6:a.eval (.tmp 6) = .int .i64 ((1:Nat):Int):=(h.old 6 (by kernel_rfl)).trans rfl
      obtain ⟨c0,c1,c2,c3⟩:=(HB2.out.kept h.below).cells
      match i,hi,ho,hd with
      | 0,_,ho,hd =>
        obtain rfl:=Option.some.inj ho
        refine wpOp_step rfl (fun K hK=>?_)
        refine (if_pos (by rfl)).mpr ?_
        have q0:=got e1
        go_simp
        exact hK _ _ ⟨_,_,rfl,rfl,rfl,Below.refl _ _⟩
      | 1,_,ho,hd =>
        obtain rfl:=Option.some.inj ho
        refine wpOp_step rfl (fun K hK=>?_)
        refine (if_pos (by rfl)).mpr ?_
        have q0:=got (h.got 0 _ _ rfl (by decide) (hd ⟨0,.data⟩ (by simp) rfl) rfl)
        go_simp
        exact hK _ _ ⟨_,_,rfl,rfl,rfl,Below.refl _ _⟩
      | 2,_,ho,hd =>
        obtain rfl:=Option.some.inj ho
        refine wpOp_step rfl (fun K hK=>?_)
        refine (if_pos (by rfl)).mpr ?_
        have q0:=got e1
        go_simp
        exact hK _ _ ⟨_,_,rfl,rfl,rfl,Below.refl _ _⟩
      | 3,_,ho,hd =>
        obtain rfl:=Option.some.inj ho
        refine wpOp_step rfl (fun K hK=>?_)
        refine (if_pos (by rfl)).mpr ?_
        have q0:=got (h.got 2 _ _ rfl (by decide) (hd ⟨2,.data⟩ (by simp) rfl) rfl)
        go_simp
        exact hK _ _ ⟨_,_,rfl,rfl,rfl,Below.refl _ _⟩
      | 4,_,ho,hd =>
        obtain rfl:=Option.some.inj ho
        refine wpOp_step rfl (fun K hK=>?_)
        refine (if_pos (by rfl)).mpr ?_
        have q0:=got e8
        go_simp
        exact hK _ _ ⟨_,_,rfl,rfl,rfl,Below.refl _ _⟩
      | 5,_,ho,hd =>
        obtain rfl:=Option.some.inj ho
        refine wpOp_step rfl (fun K hK=>?_)
        refine (if_pos (by rfl)).mpr ?_
        have q0:=got e6
        go_simp
        exact hK _ _ ⟨_,_,rfl,rfl,rfl,Below.refl _ _⟩
      | 6,_,ho,hd =>
        obtain rfl:=Option.some.inj ho
        refine wpOp_step rfl (fun K hK=>?_)
        refine (if_pos (by rfl)).mpr ?_
        have q0:=got (h.got 4 _ _ rfl (by decide) (hd ⟨4,.data⟩ (by simp) rfl) rfl)
        have q1:=got (h.got 5 _ _ rfl (by decide) (hd ⟨5,.data⟩ (by simp) rfl) rfl)
        have hw:=HW.out
        go_simp
        exact hK _ _ ⟨_,_,rfl,rfl,rfl,Below.refl _ _⟩
      | 7,_,ho,hd =>
        obtain rfl:=Option.some.inj ho
        refine wpOp_step rfl (fun K hK=>?_)
        refine (if_pos (by rfl)).mpr ?_
        have q0:=got (h.got 3 _ _ rfl (by decide) (hd ⟨3,.data⟩ (by simp) rfl) rfl)
        have q1:=got (h.got 6 _ _ rfl (by decide) (hd ⟨6,.data⟩ (by simp) rfl) rfl)
        have hu:=from_S1 (n:=n) (c:=c) (k:=p) A (by omega) wx
        go_simp
        exact hK _ _ ⟨_,_,rfl,rfl,rfl,Below.refl _ _⟩
      | 8,_,ho,hd =>
        obtain rfl:=Option.some.inj ho
        refine wpOp_step rfl (fun K hK=>?_)
        refine (if_pos (by rfl)).mpr ?_
        have q7:=got (h.got 7 _ _ rfl (by decide) (hd ⟨7,.data⟩ (by simp) rfl) rfl)
        go_simp
        exact hK _ _ ⟨_,_,rfl,rfl,⟨_,rfl,pile_one (ln_strDrop (HS2.out.ke.kept h.below) (by omega)) (strVals_one _) _⟩,below_one _ _⟩
      | 9,_,ho,hd =>
        obtain rfl:=Option.some.inj ho
        refine wpOp_step rfl (fun K hK=>?_)
        refine (if_pos (by rfl)).mpr ?_
        obtain ⟨p9,ep,hp9⟩:=(h.got 8 _ _ rfl (by decide) (hd ⟨8,.data⟩ (by simp) rfl) rfl)
        have q0:=got ep
        have hbs:=h.below.size
        go_simp
        refine (ejoin_S _ 1 1 (n - (p+1)) _ wx hp9 rfl (by simp [tot]) (by omega) (by decide)).mono ?_
        rintro e w3 ⟨v3,rfl,o3,b3⟩
        rw [epcs_one] at o3
        exact hK _ _ ⟨v3,_,rfl,rfl,ln_of_row o3 rfl h.below.size,b3⟩
      | 10,_,ho,hd =>
        obtain rfl:=Option.some.inj ho
        refine wpOp_step rfl (fun K hK=>?_)
        refine (if_pos (by rfl)).mpr ?_
        have q1:=got (h.got 1 _ _ rfl (by decide) (hd ⟨1,.data⟩ (by simp) rfl) rfl)
        obtain ⟨A9,a9,z9,l9,i9,_⟩:=(h.got 9 _ _ rfl (by decide) (hd ⟨9,.data⟩ (by simp) rfl) rfl)
        have y9:=got z9
        go_simp
        exact hK _ _ ⟨_,_,rfl,rfl,⟨A9,_,a9,none,0,0,none,0,0,rfl,⟨l9,Ln.none_ _ 1,Ln.none_ _ 1⟩,i9,NHi.none_ _,NHi.none_ _⟩,Below.refl _ _⟩
      | 11,_,ho,hd =>
        obtain rfl:=Option.some.inj ho
        refine wpOp_step rfl (fun K hK=>?_)
        refine (if_pos (by rfl)).mpr ?_
        go_simp
        exact hK _ _ ⟨_,_,rfl,rfl,⟨_,rfl,nbox_new wx _ _ _ _,h.below.size⟩,below_one _ _⟩
      | j+12,hi,_,_=>exact absurd hi (by omega)
     ·intro mm L a wx h hd
      refine wpAny_ready (rs:=[12]) (by decide +kernel) (by simp) (AllReady.cons rfl (fun K hK=>?_) AllReady.nil)
      refine (if_pos (by rfl)).mpr ?_
      obtain ⟨A',n',c',B',m',d',C',k',e',ev,hN,iA,iB,iC⟩:=h.got 10 _ _ rfl (by decide) (hd 10 (by decide)) rfl
      obtain ⟨q,eq9,hq,hq2⟩:=h.got 11 _ _ rfl (by decide) (hd 11 (by decide)) rfl
      obtain rfl:n - (p+1)=n':=by have:=hN.kn;simp only [List.length_drop] at this;rw [HN.out] at this;omega
      obtain rfl:m'=0:=hN.vn.symm
      obtain rfl:k'=0:=hN.cn.symm
      have q0:=got ev
      have q2:=got eq9
      obtain ⟨x0,x1,x2,x3⟩:=hq.cells
      obtain ⟨f0,f1,f2,f3⟩:=hq.free
      go_simp
      refine hK _ _ ?_
      refine wpAny_done (by decide +kernel) ?_ _
      have E:=h.frame 73 (fun j=>Nat.blt j 10 || (Nat.blt 10 j && Nat.blt j 36) || Nat.blt 46 j) rfl (by kernel_rfl) rfl
      refine HM _ _ (Met.intro (HJ _ _ ?_))
      (repeat apply Exists.intro)
      refine ⟨?rel,?fr⟩
      case fr=>exact E
      case rel=>exact part_done eq9 hq hN hq2 h.below iA iB iC
    case rest =>
     obtain ⟨q2,A2,c2,B2,d2,C2,e2,rfl,hb2,hl2,hq2,hq2b,be2,iA2,iB2,iC2⟩:=hcut
     have H0:Hid (Halves w1 wc q1 q2 false A1 p c1 B1 0 d1 C1 0 e1 ⟨false,s.keys.take p,[],[]⟩ A2 (n - (p+1)) c2 B2 0 d2 C2 0 e2 ⟨false,s.keys.drop (p+1),[],[]⟩):=Lib.hid ⟨NB1.out.kept be2,hb2,LN1.out.kept be2,hl2,by omega,hq1,Nat.le_trans BE1.out.size hq2,chainN be2 BE1.out,⟨I1.out.1,I1.out.2.1,I1.out.2.2,iA2.low BE1.out.size,iB2.low BE1.out.size,iC2.low BE1.out.size⟩⟩
     have hqq:¬ q1=q2:=by omega
     have hqq2:¬ q2=q1:=by omega
     clear hb2 hl2 be2 iA2 iB2 iC2 I1 NB1 LN1 BE1 hq1b hq2b hq2 hq1
     obtain ⟨w3,hw3⟩:∃ w3:World,w3=wc:=⟨_,rfl⟩
     subst hw3
     obtain ⟨mm,hmm⟩:∃ mm,min p m=mm:=⟨_,rfl⟩
     obtain ⟨kk,hkk⟩:∃ kk,min (p+1) k=kk:=⟨_,rfl⟩
     have HM1:=Lib.hid hmm
     have HK1:=Lib.hid hkk
     clear hmm hkk
     obtain ⟨c0,c1',c2',c3'⟩:=(HB1.out.kept H0.out.bel).cells
     have LV:=Lib.hid (HS1.out.va.kept H0.out.bel)
     go_upto_region 10 with fail
     go_wp2_with fail
     refine (eparted_S B m d p mm (strVals s.vals) w3 LV.out (strVals_one _) HM1.out hm).mono ?_
     rintro e9 w4 ⟨v1,v2,rfl,o1,o2,b4⟩
     obtain ⟨B1',d1',rfl,_,lv1⟩:=Ln.of_own o1
     obtain ⟨B2',d2',rfl,_,lv2⟩:=Ln.of_own o2
     rw [str_take] at lv1
     rw [str_drop] at lv2
     have H1:=Lib.hid (H0.out.next b4)
     have H2:=Lib.hid (H1.out.vals lv1 lv2 ((NHi.of_own o1).low H0.out.bel.size) ((NHi.of_own o2).low H0.out.bel.size))
     obtain ⟨x0,x1,x2,x3⟩:=H1.out.b1.cells
     obtain ⟨y0,y1,y2,y3⟩:=H1.out.b2.cells
     obtain ⟨f0,f1,f2,f3⟩:=H1.out.b1.free
     obtain ⟨g0,g1,g2,g3⟩:=H1.out.b2.free
     clear o1 o2 lv1 lv2 b4 c0 c1' c2' c3' LV H0
     go_upto_region 11 with fail
     clear x0 x1 x2 x3 y0 y1 y2 y3 f0 f1 f2 f3 g0 g1 g2 g3 H1
     generalize (w4.setCell ⟨q1,2,none⟩ (.slice B1' mm d1')).setCell ⟨q2,2,none⟩ (.slice B2' (m - mm) d2')=w5 at *
     have LK:=Lib.hid (HS1.out.ki.kept H2.out.bel)
     obtain ⟨c0,c1',c2',c3'⟩:=(HB1.out.kept H2.out.bel).cells
     have hcall:=eparted_I C k e (p+1) kk (intVals s.kids) w5 LK.out (intVals_one _) HK1.out hk
     rw [show ((p+1:Nat):Int)=(p:Int)+1 by omega] at hcall
     have HCL:=Lib.hid hcall
     clear hcall
     go_wp2_with fail
     refine HCL.out.mono ?_
     rintro e9 w6 ⟨v1,v2,rfl,o1,o2,b4⟩
     obtain ⟨C1',e1',rfl,_,lv1⟩:=Ln.of_own o1
     obtain ⟨C2',e2',rfl,_,lv2⟩:=Ln.of_own o2
     rw [int_take] at lv1
     rw [int_drop] at lv2
     have H3:=Lib.hid (H2.out.next b4)
     have H4:=Lib.hid (H3.out.kids lv1 lv2 ((NHi.of_own o1).low H2.out.bel.size) ((NHi.of_own o2).low H2.out.bel.size))
     obtain ⟨x0,x1,x2,x3⟩:=H3.out.b1.cells
     obtain ⟨y0,y1,y2,y3⟩:=H3.out.b2.cells
     obtain ⟨f0,f1,f2,f3⟩:=H3.out.b1.free
     obtain ⟨g0,g1,g2,g3⟩:=H3.out.b2.free
     clear o1 o2 lv1 lv2 b4 c0 c1' c2' c3' LK H2 HCL
     go_upto_region 12 with fail
     clear x0 x1 x2 x3 y0 y1 y2 y3 f0 f1 f2 f3 g0 g1 g2 g3 H3
     generalize (w6.setCell ⟨q1,3,none⟩ (.slice C1' kk e1')).setCell ⟨q2,3,none⟩ (.slice C2' (k - kk) e2')=w7 at *
     obtain ⟨b,off,t,rfl,hv,ct⟩:=(HS1.out.ke.kept H4.out.bel).strAt (show p<n by omega)
     have HV:=Lib.hid hv
     have HR7:=Lib.hid (HR1.out.kept H4.out.bel)
     have HT7:=Lib.hid (HT1.out.kept H4.out.bel)
     have CT:=Lib.hid ct
     clear hv ct
     have HD:=Lib.hid (split_done (chainN H4.out.bel BB.out) gr1 gr2 hne HR7.out HT7.out (NdV.of_hi H4.out.h1 rfl (H4.out.hi.a.low BB.out.size) (H4.out.hi.b.low BB.out.size) (H4.out.hi.c.low BB.out.size)) (NdV.of_hi H4.out.h2 rfl (H4.out.hi.a'.low BB.out.size) (H4.out.hi.b'.low BB.out.size) (H4.out.hi.c'.low BB.out.size)) (.bool false) (.slice A1 p c1) (.slice B1' mm d1') (.slice C1' kk e1') (.bool false) (.slice A2 (n - (p+1)) c2) (.slice B2' (m - mm) d2') (.slice C2' (k - kk) e2'))
     have HE2:=Lib.hid (split_cells hne HR7.out HT7.out (.bool false) (.slice A1 p c1) (.slice B1' mm d1') (.slice C1' kk e1') (.bool false) (.slice A2 (n - (p+1)) c2) (.slice B2' (m - mm) d2') (.slice C2' (k - kk) e2'))
     have a1:¬ q1=r1:=by have:=H4.out.l1;have:=HR1.out.lt;have:=HT1.out.lt;omega
     have a2:¬ q1=r2:=by have:=H4.out.l1;have:=HR1.out.lt;have:=HT1.out.lt;omega
     have a3:¬ q2=r1:=by have:=H4.out.l2;have:=HR1.out.lt;have:=HT1.out.lt;omega
     have a4:¬ q2=r2:=by have:=H4.out.l2;have:=HR1.out.lt;have:=HT1.out.lt;omega
     have a5:¬ w.heap.size=r1:=by omega
     have a6:¬ w.heap.size=r2:=by omega
     have a7:¬ b=r1:=box_apart HR7.out CT.out (Or.inl ⟨_,rfl⟩)
     have a8:¬ b=r2:=box_apart HT7.out CT.out (Or.inl ⟨_,rfl⟩)
     have i1:(0:Int)≤(p:Int):=by omega
     have i2:(p:Int)<(n:Int):=by omega
     obtain ⟨x0,x1,x2,x3⟩:=H4.out.b1.cells
     obtain ⟨y0,y1,y2,y3⟩:=H4.out.b2.cells
     obtain ⟨c0,c1x,c2x,c3x⟩:=(HB1.out.kept H4.out.bel).cells
     obtain ⟨t0,t1,t2,t3⟩:=HR7.out.cells
     obtain ⟨f0,f1,f2,f3⟩:=HR7.out.free
     obtain ⟨u0,u1,u2,u3⟩:=HT7.out.cells
     obtain ⟨g0,g1,g2,g3⟩:=HT7.out.free
     have ct:=CT.out
     go_region
     all_goals (
      clear x0 x1 x2 x3 y0 y1 y2 y3 c0 c1x c2x c3x t0 t1 t2 t3 f0 f1 f2 f3 u0 u1 u2 u3 g0 g1 g2 g3 ct a1 a2 a3 a4 a5 a6 a7 a8
      go_wp2_with fail
      obtain ⟨S1,S2,_⟩:=HE2.out
      obtain ⟨y0,y1,y2,y3⟩:=S1.cells
      obtain ⟨u0,u1,u2,u3⟩:=S2.cells
      clear S1 S2 HE2
      generalize ((((((((w7.setCell ⟨r1,0,none⟩ (.bool false)).setCell ⟨r1,1,none⟩ (.slice A1 p c1)).setCell ⟨r1,2,none⟩ (.slice B1' mm d1')).setCell ⟨r1,3,none⟩ (.slice C1' kk e1')).setCell ⟨r2,0,none⟩ (.bool false)).setCell ⟨r2,1,none⟩ (.slice A2 (n - (p+1)) c2)).setCell ⟨r2,2,none⟩ (.slice B2' (m - mm) d2')).setCell ⟨r2,3,none⟩ (.slice C2' (k - kk) e2'))=w9 at *
      have bd:=(Below.refl w9.heap.size w9).drew
      refine bodyPost_ret (v := .tuple #[.agg #[.bool false,.slice A1 p c1,.slice B1' mm d1',.slice C1' kk e1'],.string t,.agg #[.bool false,.slice A2 (n - (p+1)) c2,.slice B2' (m - mm) d2',.slice C2' (k - kk) e2'],.int .i64 0]) (by simp [results,Tryz.results143,go_sem,y0,y1,y2,y3,u0,u1,u2,u3]) rfl ?_
      refine ⟨.agg #[.bool false,.slice A1 p c1,.slice B1' mm d1',.slice C1' kk e1'],.agg #[.bool false,.slice A2 (n - (p+1)) c2,.slice B2' (m - mm) d2',.slice C2' (k - kk) e2'],?_,?_,?_,HD.out.2.2.drew⟩
      ·rw [X1.out,X4.out,at_getD HV.out,tb_back]
      ·rw [X2.out,HL.out,← (take_mm HM1.out HVN.out).1,← (take_mm HK1.out HCN.out).1];exact HD.out.1.kept bd
      ·rw [X3.out,HL.out,← (take_mm HM1.out HVN.out).2,← (take_mm HK1.out HCN.out).2];exact HD.out.2.1.kept bd)
end Go.Proofs.YtccphijgcapeoaaGreat
/-
  What cell's Split comes to.
-/
namespace Go.Proofs.YtccphijgcapeoaaGreat
open Go.RowKit
theorem split_hi (lf:Bool) (A:Option Addr) (n c:Nat) (B:Option Addr) (m d:Nat) (C:Option Addr) (k e:Nat) (s:ND) (w:World) (h:Nd w A n c B m d C k e s) (hl:s.leaf=lf) (ho:s.ok=true) (hz:s.size≤1000000) (hE:s.ents.sum≤100000000) :
 Calls Tryz.prog 143 #[.agg #[.bool lf,.slice A n c,.slice B m d,.slice C k e]] w (SplitHi w s):=by
 cases lf with
 | true=>exact split_leaf A n c B m d C k e s w h hl ho hz hE
 | false=>exact split_inner A n c B m d C k e s w h hl ho hz hE
end Go.Proofs.YtccphijgcapeoaaGreat
