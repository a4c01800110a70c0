/-
  A part of the proof: what its texts say stands at the head of each. Conditions: none.
-/
import Derived.Deep.Cut
import Derived.IntWalk
import Derived.Deep.QuietTactic
import Derived.BigQuiet
import Derived.ProofKit
import Derived.OpenShut
import Derived.ChangeOld
import Derived.Lib.SmallJoins
import Derived.Deep.Slices
import Derived.Deep.Fields
import Derived.Carry
import Derived.Laws.BitsAll
import Derived.Test.YtccphijgcapeoaaGreatZC1
import Derived.Test.YtccphijgcapeoaaGreatZC3
import Derived.Test.YtccphijgcapeoaaGreatZC5
import Derived.Test.YtccphijgcapeoaaGreatZC6
import Derived.Test.YtccphijgcapeoaaGreatZC7
import Derived.Test.YtccphijgcapeoaaGreatZC8
import Derived.Test.YtccphijgcapeoaaGreatZC9

set_option maxRecDepth 20000
set_option maxHeartbeats 12800000
/-
  What cell's Replace comes to.
-/
namespace Go.Proofs.YtccphijgcapeoaaGreat
open Go.RowKit
def replF (g r:Nat) (A:Option Addr) (n c:Nat) (B:Option Addr) (m d:Nat) (C:Option Addr) (k e:Nat) (s:ND) (f t:Nat) (D:Option Addr) (q dq:Nat) (E:Option Addr) (p ep:Nat) (u:ND):List SP :=
 [.is (.pointer (some ⟨g,0,none⟩)),.is (.bool false),.is (.pointer (some ⟨g,1,none⟩)),.is (.slice A n c),.is (.int .i64 f),.is (.int .i64 ((t+1:Nat):Int)),.is (.int .i64 t),.is (.slice E p ep),.ln (r+1) (f+p+(n - t)) (strVals u.keys),
  .is (.pointer (some ⟨g,2,none⟩)),.is (.slice B m d),.pile 1 [⟨B,m,d,strVals s.vals⟩],.ln (r+1) m (strVals s.vals),
  .is (.pointer (some ⟨g,3,none⟩)),.is (.slice C k e),.is (.int .i64 f),.is (.int .i64 ((t+1:Nat):Int)),.is (.slice D q dq),.ln (r+1) (f+q+(k - (t+1))) (intVals u.kids),.nd (r+1) u]
theorem mayR_iff {s:ND} {f t:Int} {ks:List Int} {zs:List (List UInt8)}:s.mayR f t ks zs=true ↔ 0≤f∧f<t∧t≤s.kids.length∧zs.length+1=ks.length:=by
 unfold ND.mayR
 rw [Bool.and_eq_true,Bool.and_eq_true,Bool.and_eq_true,decide_eq_true_eq,decide_eq_true_eq,decide_eq_true_eq,decide_eq_true_eq]
theorem replace_no {s:ND} {f t:Int} {ks:List Int} {zs:List (List UInt8)} (h:¬ (0≤f∧f<t∧t≤s.kids.length∧zs.length+1=ks.length)):s.replace f t ks zs=s:=by
 unfold ND.replace
 rw [if_neg (fun e=>h (mayR_iff.1 e))]
theorem replace_yes {s:ND} {f t:Nat} {ks:List Int} {zs:List (List UInt8)} (h1:f≤t) (h2:t+1≤s.kids.length) (h3:zs.length+1=ks.length):s.replace (f:Int) ((t+1:Nat):Int) ks zs=⟨s.leaf,ND.rep s.keys f t zs,s.vals,ND.rep s.kids f (t+1) ks⟩:=by
 unfold ND.replace
 rw [if_pos (mayR_iff.2 ⟨by omega,by omega,by omega,h3⟩)]
 rfl
theorem replace_any (A:Option Addr) (n c:Nat) (B:Option Addr) (m d:Nat) (C:Option Addr) (k e:Nat) (s:ND) (f t:Int) (D:Option Addr) (q dq:Nat) (ks:List Int) (E:Option Addr) (p ep:Nat) (zs:List (List UInt8)) (w:World)
 (h:Nd w A n c B m d C k e s) (g1:Ln w 1 D q dq (intVals ks)) (g2:Ln w 1 E p ep (strVals zs)) (hl:s.leaf=false) (ho:s.ok=true) (hn:n≤300000) (hq:q≤10) (hp:p≤10) (hm:m≤300000) (hk:k≤300000) :
 Calls Tryz.prog 115 #[.agg #[.bool false,.slice A n c,.slice B m d,.slice C k e],.int .i64 f,.int .i64 t,.slice D q dq,.slice E p ep] w (NdEnd w (s.replace f t ks zs)):=by
 have hkn:k=n+1:=by rw [← h.cn,← h.kn];exact (ND.ok_inner ho hl).2.1
 have HKN:k≤n+1∧n+1≤k:=by omega
 have HQ:=Lib.hid g1.intN
 have HPn:=Lib.hid g2.strN
 have HC:=Lib.hid h.cn
 have G10:=Lib.hid g1
 have G20:=Lib.hid g2
 clear ho hkn g1 g2
 obtain ⟨tb1,tb2,tb3⟩:=nbox_pair w (.bool false) (.slice A n c) (.slice B m d) (.slice C k e)
 have HS:=Lib.hid (h.kept tb3)
 have HB:=Lib.hid tb1
 have HR:=Lib.hid tb2
 have B0:=Lib.hid tb3
 have HL:=Lib.hid hl
 clear h hl tb1 tb2 tb3
 have G1:=Lib.hid (G10.out.kept B0.out)
 have G2:=Lib.hid (G20.out.kept B0.out)
 clear G10 G20
 go_enter Tryz.func115,Tryz.ntmps115
 go_upto_region 1 with fail
 generalize (w.alloc (.cells #[.bool false,.slice A n c,.slice B m d,.slice C k e] 68)).alloc (.cells #[.bool false,.slice none 0 0,.slice none 0 0,.slice none 0 0] 68)=w0 at *
 obtain ⟨c0,c1,c2,c3⟩:=HB.out.cells
 have hg:=HB.out.lt
 have hr:=HR.out.lt
 by_cases h1:0≤f
 case neg =>
  have h1':f<0:=by omega
  have z1:decide (0≤f)=false:=decide_eq_false h1
  clear h1
  have HP:=Lib.hid (replace_no (s:=s) (f:=f) (t:=t) (ks:=ks) (zs:=zs) (by rw [HC.out,HPn.out,HQ.out];omega))
  go_wp2_with fail
  refine (copied_any false A n c B m d C k e s w0 HS.out HL.out (by omega) (by omega) (by omega)).mono ?_
  rintro e2 w2 ⟨v2,rfl,n2,b2⟩
  have N2:=Lib.hid n2
  obtain ⟨A',n',c',B',m',d',C',k',e',rfl,_,_,_,_⟩:=n2
  have HR2:=Lib.hid (HR.out.kept b2)
  have HD:=Lib.hid (nd_pass B0.out (Nat.le_succ _) HR.out.lt N2.out b2 (.bool s.leaf) (.slice A' n' c') (.slice B' m' d') (.slice C' k' e'))
  obtain ⟨y0,y1,y2,y3⟩:=(HR2.out.put (.bool s.leaf) (.slice A' n' c') (.slice B' m' d') (.slice C' k' e')).cells
  obtain ⟨f0,f1,f2,f3⟩:=HR2.out.free
  obtain ⟨x0,x1,x2,x3⟩:=HR2.out.cells
  clear b2 c0 c1 c2 c3
  go_wp2_with fail
  refine bodyPost_ret (v := .agg #[.bool s.leaf,.slice A' n' c',.slice B' m' d',.slice C' k' e']) (by simp [results,Tryz.results115,go_sem,y0,y1,y2,y3]) rfl ?_
  exact ⟨_,rfl,by rw [HP.out];exact HD.out.1,HD.out.2⟩
 by_cases h2:f<t
 case neg =>
  have h2':t≤f:=by omega
  have z1:decide (0≤f)=true:=decide_eq_true h1
  have z2:decide (f<t)=false:=decide_eq_false h2
  clear h2
  have HP:=Lib.hid (replace_no (s:=s) (f:=f) (t:=t) (ks:=ks) (zs:=zs) (by rw [HC.out,HPn.out,HQ.out];omega))
  go_wp2_with fail
  refine (copied_any false A n c B m d C k e s w0 HS.out HL.out (by omega) (by omega) (by omega)).mono ?_
  rintro e2 w2 ⟨v2,rfl,n2,b2⟩
  have N2:=Lib.hid n2
  obtain ⟨A',n',c',B',m',d',C',k',e',rfl,_,_,_,_⟩:=n2
  have HR2:=Lib.hid (HR.out.kept b2)
  have HD:=Lib.hid (nd_pass B0.out (Nat.le_succ _) HR.out.lt N2.out b2 (.bool s.leaf) (.slice A' n' c') (.slice B' m' d') (.slice C' k' e'))
  obtain ⟨y0,y1,y2,y3⟩:=(HR2.out.put (.bool s.leaf) (.slice A' n' c') (.slice B' m' d') (.slice C' k' e')).cells
  obtain ⟨f0,f1,f2,f3⟩:=HR2.out.free
  obtain ⟨x0,x1,x2,x3⟩:=HR2.out.cells
  clear b2 c0 c1 c2 c3
  go_wp2_with fail
  refine bodyPost_ret (v := .agg #[.bool s.leaf,.slice A' n' c',.slice B' m' d',.slice C' k' e']) (by simp [results,Tryz.results115,go_sem,y0,y1,y2,y3]) rfl ?_
  exact ⟨_,rfl,by rw [HP.out];exact HD.out.1,HD.out.2⟩
 by_cases h3:t≤(k:Int)
 case neg =>
  have h3':(k:Int)<t:=by omega
  have z1:decide (0≤f)=true:=decide_eq_true h1
  have z2:decide (f<t)=true:=decide_eq_true h2
  have z3:decide (t≤(k:Int))=false:=decide_eq_false h3
  clear h3
  have HP:=Lib.hid (replace_no (s:=s) (f:=f) (t:=t) (ks:=ks) (zs:=zs) (by rw [HC.out,HPn.out,HQ.out];omega))
  go_wp2_with fail
  refine (copied_any false A n c B m d C k e s w0 HS.out HL.out (by omega) (by omega) (by omega)).mono ?_
  rintro e2 w2 ⟨v2,rfl,n2,b2⟩
  have N2:=Lib.hid n2
  obtain ⟨A',n',c',B',m',d',C',k',e',rfl,_,_,_,_⟩:=n2
  have HR2:=Lib.hid (HR.out.kept b2)
  have HD:=Lib.hid (nd_pass B0.out (Nat.le_succ _) HR.out.lt N2.out b2 (.bool s.leaf) (.slice A' n' c') (.slice B' m' d') (.slice C' k' e'))
  obtain ⟨y0,y1,y2,y3⟩:=(HR2.out.put (.bool s.leaf) (.slice A' n' c') (.slice B' m' d') (.slice C' k' e')).cells
  obtain ⟨f0,f1,f2,f3⟩:=HR2.out.free
  obtain ⟨x0,x1,x2,x3⟩:=HR2.out.cells
  clear b2 c0 c1 c2 c3
  go_wp2_with fail
  refine bodyPost_ret (v := .agg #[.bool s.leaf,.slice A' n' c',.slice B' m' d',.slice C' k' e']) (by simp [results,Tryz.results115,go_sem,y0,y1,y2,y3]) rfl ?_
  exact ⟨_,rfl,by rw [HP.out];exact HD.out.1,HD.out.2⟩
 by_cases h4:p+1=q
 case neg =>
  have z1:decide (0≤f)=true:=decide_eq_true h1
  have z2:decide (f<t)=true:=decide_eq_true h2
  have z3:decide (t≤(k:Int))=true:=decide_eq_true h3
  have z4:((p:Int) != (q:Int) - 1)=true:=by rw [bne_iff_ne];omega
  have z5:¬ (p:Int)=(q:Int) - 1:=by omega
  have h4':p+1<q∨q<p+1:=by omega
  clear h4
  have HP:=Lib.hid (replace_no (s:=s) (f:=f) (t:=t) (ks:=ks) (zs:=zs) (by rw [HC.out,HPn.out,HQ.out];omega))
  go_wp2_with fail
  refine (copied_any false A n c B m d C k e s w0 HS.out HL.out (by omega) (by omega) (by omega)).mono ?_
  rintro e2 w2 ⟨v2,rfl,n2,b2⟩
  have N2:=Lib.hid n2
  obtain ⟨A',n',c',B',m',d',C',k',e',rfl,_,_,_,_⟩:=n2
  have HR2:=Lib.hid (HR.out.kept b2)
  have HD:=Lib.hid (nd_pass B0.out (Nat.le_succ _) HR.out.lt N2.out b2 (.bool s.leaf) (.slice A' n' c') (.slice B' m' d') (.slice C' k' e'))
  obtain ⟨y0,y1,y2,y3⟩:=(HR2.out.put (.bool s.leaf) (.slice A' n' c') (.slice B' m' d') (.slice C' k' e')).cells
  obtain ⟨f0,f1,f2,f3⟩:=HR2.out.free
  obtain ⟨x0,x1,x2,x3⟩:=HR2.out.cells
  clear b2 c0 c1 c2 c3
  go_wp2_with fail
  refine bodyPost_ret (v := .agg #[.bool s.leaf,.slice A' n' c',.slice B' m' d',.slice C' k' e']) (by simp [results,Tryz.results115,go_sem,y0,y1,y2,y3]) rfl ?_
  exact ⟨_,rfl,by rw [HP.out];exact HD.out.1,HD.out.2⟩
 obtain ⟨f,rfl⟩:∃ f':Nat,f=(f':Int):=⟨f.toNat,by omega⟩
 obtain ⟨t,rfl⟩:∃ t':Nat,t=((t'+1:Nat):Int):=⟨t.toNat - 1,by omega⟩
 have HP:=Lib.hid (replace_yes (s:=s) (f:=f) (t:=t) (ks:=ks) (zs:=zs) (by omega) (by rw [HC.out];omega) (by rw [HPn.out,HQ.out];exact h4))
 have z1:decide (0≤(f:Int))=true:=decide_eq_true h1
 have z2:decide ((f:Int)<((t+1:Nat):Int))=true:=decide_eq_true h2
 have z3:decide (((t+1:Nat):Int)≤(k:Int))=true:=decide_eq_true h3
 have z4:((p:Int) != (q:Int) - 1)=false:=by rw [bne_eq_false_iff_eq];omega
 have hft:f≤t:=by omega
 have htk:t+1≤k:=by omega
 have hw1:IntKind.i64.wrap (t:Int)=(t:Int):=IntWalk.i64_in _ (by omega)
 have HW1:=Lib.hid hw1
 clear hw1 h1 h2 h3 h4
 generalize hT:((t+1:Nat):Int)=T at *
 have HT:=Lib.hid hT
 clear hT
 go_upto_region 4 with fail
 clear c0 c1 c2 c3 z1 z2 z3 z4
 rename_i KK HM
 refine wp_region_flow 20 1 (SP.at_ (replF w.heap.size (w.heap.size+1) A n c B m d C k e s f t D q dq E p ep ⟨s.leaf,ND.rep s.keys f t zs,s.vals,ND.rep s.kids f (t+1) ks⟩)) (by kernel_rfl) rfl (by kernel_rfl) (by kernel_rfl) (by kernel_rfl) (SP.at_st _) ?_ ?_
 ·intro i o L a wx hi ho h hd
  have e5:a.eval (.tmp 5) = .pointer (some ⟨w.heap.size,0,none⟩):=(h.old 5 (by kernel_rfl)).trans rfl
  have e1:a.eval (.tmp 1) = .int .i64 (f:Int):=(h.old 1 (by kernel_rfl)).trans rfl
  have e2:a.eval (.tmp 2) = .int .i64 ((t+1:Nat):Int):=(h.old 2 (by kernel_rfl)).trans (by rw [HT.out];rfl)
  have e3:a.eval (.tmp 3) = .slice D q dq:=(h.old 3 (by kernel_rfl)).trans rfl
  have e4:a.eval (.tmp 4) = .slice E p ep:=(h.old 4 (by kernel_rfl)).trans rfl
  obtain ⟨c0,c1,c2,c3⟩:=(HB.out.kept h.below).cells
  match i,hi,ho,hd with
  | 0,_,ho,hd =>
    obtain rfl:=Option.some.inj ho
    refine wpOp_step rfl (fun K hK=>?_)
    refine (if_pos (by rfl)).mpr ?_
    have q0:=got e5
    go_simp
    exact hK _ _ ⟨_,_,rfl,rfl,rfl,Below.refl _ _⟩
  | 1,_,ho,hd =>
    obtain rfl:=Option.some.inj ho
    refine wpOp_step rfl (fun K hK=>?_)
    refine (if_pos (by rfl)).mpr ?_
    have q0:=got (h.got 0 _ _ rfl (by decide) (hd ⟨0,.data⟩ (by simp) rfl) rfl)
    go_simp
    exact hK _ _ ⟨_,_,rfl,rfl,rfl,Below.refl _ _⟩
  | 2,_,ho,hd =>
    obtain rfl:=Option.some.inj ho
    refine wpOp_step rfl (fun K hK=>?_)
    refine (if_pos (by rfl)).mpr ?_
    have q0:=got e5
    go_simp
    exact hK _ _ ⟨_,_,rfl,rfl,rfl,Below.refl _ _⟩
  | 3,_,ho,hd =>
    obtain rfl:=Option.some.inj ho
    refine wpOp_step rfl (fun K hK=>?_)
    refine (if_pos (by rfl)).mpr ?_
    have q0:=got (h.got 2 _ _ rfl (by decide) (hd ⟨2,.data⟩ (by simp) rfl) rfl)
    go_simp
    exact hK _ _ ⟨_,_,rfl,rfl,rfl,Below.refl _ _⟩
  | 4,_,ho,hd =>
    obtain rfl:=Option.some.inj ho
    refine wpOp_step rfl (fun K hK=>?_)
    refine (if_pos (by rfl)).mpr ?_
    have q0:=got e1
    go_simp
    exact hK _ _ ⟨_,_,rfl,rfl,rfl,Below.refl _ _⟩
  | 5,_,ho,hd =>
    obtain rfl:=Option.some.inj ho
    refine wpOp_step rfl (fun K hK=>?_)
    refine (if_pos (by rfl)).mpr ?_
    have q0:=got e2
    go_simp
    exact hK _ _ ⟨_,_,rfl,rfl,rfl,Below.refl _ _⟩
  | 6,_,ho,hd =>
    obtain rfl:=Option.some.inj ho
    refine wpOp_step rfl (fun K hK=>?_)
    refine (if_pos (by rfl)).mpr ?_
    have q0:=got (h.got 5 _ _ rfl (by decide) (hd ⟨5,.data⟩ (by simp) rfl) rfl)
    have hw:=HW1.out
    go_simp
    exact hK _ _ ⟨_,_,rfl,rfl,rfl,Below.refl _ _⟩
  | 7,_,ho,hd =>
    obtain rfl:=Option.some.inj ho
    refine wpOp_step rfl (fun K hK=>?_)
    refine (if_pos (by rfl)).mpr ?_
    have q0:=got e4
    go_simp
    exact hK _ _ ⟨_,_,rfl,rfl,rfl,Below.refl _ _⟩
  | 8,_,ho,hd =>
    obtain rfl:=Option.some.inj ho
    refine wpOp_step rfl (fun K hK=>?_)
    refine (if_pos (by rfl)).mpr ?_
    have q0:=got (h.got 3 _ _ rfl (by decide) (hd ⟨3,.data⟩ (by simp) rfl) rfl)
    have q1:=got (h.got 4 _ _ rfl (by decide) (hd ⟨4,.data⟩ (by simp) rfl) rfl)
    have q2:=got (h.got 6 _ _ rfl (by decide) (hd ⟨6,.data⟩ (by simp) rfl) rfl)
    have q3:=got (h.got 7 _ _ rfl (by decide) (hd ⟨7,.data⟩ (by simp) rfl) rfl)
    have hbs:=h.below.size
    go_simp
    refine (ereplaced_S A n c (strVals s.keys) f t E p ep (strVals zs) wx (HS.out.ke.kept h.below) (strVals_one _) (G2.out.kept h.below) (strVals_one _) (by omega) (by omega) hn (by omega)).mono ?_
    rintro e w3 ⟨v3,rfl,o3,b3⟩
    rw [str_rep] at o3
    exact hK _ _ ⟨v3,_,rfl,rfl,ln_of_row o3 rfl (by omega),b3⟩
  | 9,_,ho,hd =>
    obtain rfl:=Option.some.inj ho
    refine wpOp_step rfl (fun K hK=>?_)
    refine (if_pos (by rfl)).mpr ?_
    have q0:=got e5
    go_simp
    exact hK _ _ ⟨_,_,rfl,rfl,rfl,Below.refl _ _⟩
  | 10,_,ho,hd =>
    obtain rfl:=Option.some.inj ho
    refine wpOp_step rfl (fun K hK=>?_)
    refine (if_pos (by rfl)).mpr ?_
    have q0:=got (h.got 9 _ _ rfl (by decide) (hd ⟨9,.data⟩ (by simp) rfl) rfl)
    go_simp
    exact hK _ _ ⟨_,_,rfl,rfl,rfl,Below.refl _ _⟩
  | 11,_,ho,hd =>
    obtain rfl:=Option.some.inj ho
    refine wpOp_step rfl (fun K hK=>?_)
    refine (if_pos (by rfl)).mpr ?_
    have q10:=got (h.got 10 _ _ rfl (by decide) (hd ⟨10,.data⟩ (by simp) rfl) rfl)
    go_simp
    exact hK _ _ ⟨_,_,rfl,rfl,⟨_,rfl,pile_one (HS.out.va.kept h.below) (strVals_one _) _⟩,below_one _ _⟩
  | 12,_,ho,hd =>
    obtain rfl:=Option.some.inj ho
    refine wpOp_step rfl (fun K hK=>?_)
    refine (if_pos (by rfl)).mpr ?_
    obtain ⟨p9,ep9,hp9⟩:=(h.got 11 _ _ rfl (by decide) (hd ⟨11,.data⟩ (by simp) rfl) rfl)
    have q0:=got ep9
    have hbs:=h.below.size
    go_simp
    refine (ejoin_S _ 1 1 m _ wx hp9 rfl (by simp [tot]) (by omega) (by decide)).mono ?_
    rintro e w3 ⟨v3,rfl,o3,b3⟩
    rw [epcs_one] at o3
    exact hK _ _ ⟨v3,_,rfl,rfl,ln_of_row o3 rfl (by omega),b3⟩
  | 13,_,ho,hd =>
    obtain rfl:=Option.some.inj ho
    refine wpOp_step rfl (fun K hK=>?_)
    refine (if_pos (by rfl)).mpr ?_
    have q0:=got e5
    go_simp
    exact hK _ _ ⟨_,_,rfl,rfl,rfl,Below.refl _ _⟩
  | 14,_,ho,hd =>
    obtain rfl:=Option.some.inj ho
    refine wpOp_step rfl (fun K hK=>?_)
    refine (if_pos (by rfl)).mpr ?_
    have q0:=got (h.got 13 _ _ rfl (by decide) (hd ⟨13,.data⟩ (by simp) rfl) rfl)
    go_simp
    exact hK _ _ ⟨_,_,rfl,rfl,rfl,Below.refl _ _⟩
  | 15,_,ho,hd =>
    obtain rfl:=Option.some.inj ho
    refine wpOp_step rfl (fun K hK=>?_)
    refine (if_pos (by rfl)).mpr ?_
    have q0:=got e1
    go_simp
    exact hK _ _ ⟨_,_,rfl,rfl,rfl,Below.refl _ _⟩
  | 16,_,ho,hd =>
    obtain rfl:=Option.some.inj ho
    refine wpOp_step rfl (fun K hK=>?_)
    refine (if_pos (by rfl)).mpr ?_
    have q0:=got e2
    go_simp
    exact hK _ _ ⟨_,_,rfl,rfl,rfl,Below.refl _ _⟩
  | 17,_,ho,hd =>
    obtain rfl:=Option.some.inj ho
    refine wpOp_step rfl (fun K hK=>?_)
    refine (if_pos (by rfl)).mpr ?_
    have q0:=got e3
    go_simp
    exact hK _ _ ⟨_,_,rfl,rfl,rfl,Below.refl _ _⟩
  | 18,_,ho,hd =>
    obtain rfl:=Option.some.inj ho
    refine wpOp_step rfl (fun K hK=>?_)
    refine (if_pos (by rfl)).mpr ?_
    have q0:=got (h.got 14 _ _ rfl (by decide) (hd ⟨14,.data⟩ (by simp) rfl) rfl)
    have q1:=got (h.got 15 _ _ rfl (by decide) (hd ⟨15,.data⟩ (by simp) rfl) rfl)
    have q2:=got (h.got 16 _ _ rfl (by decide) (hd ⟨16,.data⟩ (by simp) rfl) rfl)
    have q3:=got (h.got 17 _ _ rfl (by decide) (hd ⟨17,.data⟩ (by simp) rfl) rfl)
    have hbs:=h.below.size
    go_simp
    refine (ereplaced_I C k e (intVals s.kids) f (t+1) D q dq (intVals ks) wx (HS.out.ki.kept h.below) (intVals_one _) (G1.out.kept h.below) (intVals_one _) (by omega) (by omega) hk (by omega)).mono ?_
    rintro e w3 ⟨v3,rfl,o3,b3⟩
    rw [int_rep] at o3
    exact hK _ _ ⟨v3,_,rfl,rfl,ln_of_row o3 rfl (by omega),b3⟩
  | 19,_,ho,hd =>
    obtain rfl:=Option.some.inj ho
    refine wpOp_step rfl (fun K hK=>?_)
    refine (if_pos (by rfl)).mpr ?_
    have q1:=got (h.got 1 _ _ rfl (by decide) (hd ⟨1,.data⟩ (by simp) rfl) rfl)
    obtain ⟨A1,a1,z1,l1,i1,_⟩:=(h.got 8 _ _ rfl (by decide) (hd ⟨8,.data⟩ (by simp) rfl) rfl)
    obtain ⟨A2,a2,z2,l2,i2,_⟩:=(h.got 12 _ _ rfl (by decide) (hd ⟨12,.data⟩ (by simp) rfl) rfl)
    obtain ⟨A3,a3,z3,l3,i3,_⟩:=(h.got 18 _ _ rfl (by decide) (hd ⟨18,.data⟩ (by simp) rfl) rfl)
    have y1:=got z1
    have y2:=got z2
    have y3:=got z3
    go_simp
    exact hK _ _ ⟨_,_,rfl,rfl,⟨A1,_,a1,A2,_,a2,A3,_,a3,by rw [HL.out],⟨l1,l2,l3⟩,i1,i2,i3⟩,Below.refl _ _⟩
  | j+20,hi,_,_=>exact absurd hi (by omega)
 ·intro mm L a wx h hd
  refine wpAny_ready (rs:=[20]) (by decide +kernel) (by simp) (AllReady.cons rfl (fun K hK=>?_) AllReady.nil)
  refine (if_pos (by rfl)).mpr ?_
  have hn4:=h.got 19 _ _ rfl (by decide) (hd 19 (by decide)) rfl
  obtain ⟨A',n',c',B',m',d',C',k',e',ev,_,_,_,_⟩:=id hn4
  have q:=got ev
  have q2:=got ((h.old 10 (by kernel_rfl)).trans rfl:a.eval (.tmp 10) = .pointer (some ⟨w.heap.size+1,0,none⟩))
  have HR2:=Lib.hid (HR.out.kept h.below)
  obtain ⟨x0,x1,x2,x3⟩:=HR2.out.cells
  obtain ⟨f0,f1,f2,f3⟩:=HR2.out.free
  go_simp
  refine hK _ _ ?_
  refine wpAny_done (by decide +kernel) ?_ _
  have HD:=Lib.hid (nd_done (chainN h.below B0.out) (Nat.le_succ _) hn4 (.bool (⟨s.leaf,ND.rep s.keys f t zs,s.vals,ND.rep s.kids f (t+1) ks⟩:ND).leaf) (.slice A' n' c') (.slice B' m' d') (.slice C' k' e'))
  rw [ev] at HD
  obtain ⟨y0,y1,y2,y3⟩:=(HR2.out.put (.bool (⟨s.leaf,ND.rep s.keys f t zs,s.vals,ND.rep s.kids f (t+1) ks⟩:ND).leaf) (.slice A' n' c') (.slice B' m' d') (.slice C' k' e')).cells
  refine HM _ _ ?_
  refine wp_ret ?_
  refine bodyPost_ret (v := .agg #[.bool (⟨s.leaf,ND.rep s.keys f t zs,s.vals,ND.rep s.kids f (t+1) ks⟩:ND).leaf,.slice A' n' c',.slice B' m' d',.slice C' k' e']) (by simp [results,Tryz.results115,go_sem,q2,y0,y1,y2,y3]) (h.df.trans rfl) ?_
  exact ⟨_,rfl,by rw [HP.out];exact HD.out.1,HD.out.2⟩
end Go.Proofs.YtccphijgcapeoaaGreat
/-
  The document's entries in order (package tailraceref12) in memory; what place and Get come to. Conditions: none.
-/
namespace Go.Proofs.YtccphijgcapeoaaGreat
open Go.RowKit
def entVals:List TT.E→List Value
 | []=>[]
 | x::l => .string (tb x.1) :: .string (tb x.2)::entVals l
theorem entVals_length:∀ l,(entVals l).length=l.length*2
 | []=>rfl
 | p::ps=>by simp only [entVals,List.length_cons,entVals_length ps];omega
theorem entVals_append:∀ ps qs,entVals (ps++qs)=entVals ps++entVals qs
 | [],_=>rfl
 | p::ps,qs=>by simp only [List.cons_append,entVals,entVals_append ps qs]
theorem entVals_at:∀ (ps:List TT.E) (i:Nat) (p:TT.E),ps[i]?=some p→(entVals ps)[i*2]?=some (.string (tb p.1))∧(entVals ps)[i*2+1]?=some (.string (tb p.2))
 | [],i,p,h=>by simp at h
 | x::ps,0,p,h=>by
   obtain rfl:x=p:=by simpa using h
   exact ⟨rfl,rfl⟩
 | x::ps,i+1,p,h=>by
   have:=entVals_at ps i p (by simpa using h)
   have e:(i+1)*2=i*2+1+1:=by omega
   rw [e]
   simpa [entVals] using this
theorem entVals_take:∀ (ps:List TT.E) (k:Nat),(entVals ps).take (k*2)=entVals (ps.take k)
 | [],k=>by simp [entVals]
 | x::ps,0=>by simp [entVals]
 | x::ps,k+1=>by
   rw [show (k+1)*2=k*2+1+1 by omega]
   simp only [entVals,List.take_succ_cons,entVals_take ps k]
theorem entVals_drop:∀ (ps:List TT.E) (k:Nat),(entVals ps).drop (k*2)=entVals (ps.drop k)
 | [],k=>by simp [entVals]
 | x::ps,0=>by simp [entVals]
 | x::ps,k+1=>by
   rw [show (k+1)*2=k*2+1+1 by omega]
   simp only [entVals,List.drop_succ_cons,entVals_drop ps k]
theorem entVals_one (ps:List TT.E):∀ u∈entVals ps,u.oneCell'=true:=by
 induction ps with
 | nil=>intro u hu;simp [entVals] at hu
 | cons p ps ih =>
   intro u hu
   unfold entVals at hu
   rcases List.mem_cons.1 hu with rfl | hu
   ·rfl
   ·rcases List.mem_cons.1 hu with rfl | hu
    ·rfl
    ·exact ih u hu
section
variable {w w':World} {A:Option Addr} {n c:Nat} {es:List TT.E}
theorem Ln.entN (h:Ln w 2 A n c (entVals es)):es.length=n:=by
 have:=h.len
 rw [entVals_length] at this
 omega
theorem Ln.entAt (h:Ln w 2 A n c (entVals es)) {k:Nat} (hk:k<n) :
 ∃ b off x y,A=some ⟨b,off,none⟩∧es[k]?=some (x.toList,y.toList)∧w.cell? ⟨b,off+k*2,none⟩=some (.string x)∧w.cell? ⟨b,off+k*2+1,none⟩=some (.string y):=by
 have hl:=h.entN
 obtain ⟨b,off,rfl,_⟩:=h.spot (by rw [entVals_length];omega)
 have hp:es[k]?=some es[k]:=List.getElem?_eq_getElem (by omega)
 obtain ⟨h1,h2⟩:=entVals_at es k _ hp
 refine ⟨b,off,tb (es[k]).1,tb (es[k]).2,rfl,?_,h.cell h1,h.cell h2⟩
 rw [hp,tb_list,tb_list]
end
def MBox (w:World) (g:Nat) (A:Option Addr) (n c:Nat):Prop:=w.heap[g]?=some (.cells #[.slice A n c] 31 (0,0))
section
variable {w w':World} {A:Option Addr} {g n c:Nat} {es:List TT.E}
theorem MBox.lt (h:MBox w g A n c):g<w.heap.size:=(Array.getElem?_eq_some_iff.1 h).1
theorem MBox.kept (h:MBox w g A n c) (hb:Below w.heap.size w w'):MBox w' g A n c:=(hb.block g h.lt).trans h
theorem MBox.cell (h:MBox w g A n c):w.cell? ⟨g,0,none⟩=some (.slice A n c):=(cell_of_row w g 0 _ _ _ h).trans rfl
theorem MBox.free (h:MBox w g A n c):w.frozen? ⟨g,0,none⟩=false:=frozen_of_row w g 0 _ _ h
theorem mplace_any (w:World) (key:ByteArray) (hb:MBox w g A n c) (h:Ln w 2 A n c (entVals es)) (hn:n≤1000000) :
 Calls Tryz.prog 51 #[.pointer (some ⟨g,0,none⟩),.string key] w (PlaceEnd w (TT.placeE key.toList es) (TT.isE key.toList es)):=by
 have c0:=hb.cell
 have H1:=Lib.hid h
 have HN:=Lib.hid h.entN
 have HKN:Hid ((TT.keysE es).length=n):=Lib.hid (by unfold TT.keysE;rw [List.length_map];exact h.entN)
 have HK:Hid (∀ (k:Nat) (x y:ByteArray),es[k]?=some (x.toList,y.toList)→(TT.keysE es)[k]?=some x.toList):=Lib.hid (fun k x y hk=>by unfold TT.keysE;rw [List.getElem?_map,hk];rfl)
 clear h hb
 unfold TT.placeE TT.isE
 generalize TT.keysE es=ks at *
 go_enter Tryz.func51,Tryz.ntmps51
 go_wp2_with fail
 go_loop [6] (fun i=>∃ j:Nat,j≤n∧i = .int .i64 j∧Hid (∀ i t,i<j→ks[i]?=some t→Op.bytesLess t key.toList=true)) (fun i=>n - (RowKit.intOf i).toNat)
 case atStart=>exact ⟨0,Nat.zero_le _,rfl,Lib.hid (fun i t hi=>absurd hi (by omega))⟩
 case round =>
  obtain ⟨j,hj,rfl,HA⟩:=hrel
  by_cases hlt:j<n
  ·obtain ⟨b,off,t,y,rfl,hv',f0,f1⟩:=H1.out.entAt hlt
   have hv:=HK.out j t y hv'
   clear hv' f1
   cases hb:Op.bytesLess t.toList key.toList with
   | true =>
     have HX:Hid (∀ i t,i<j+1→ks[i]?=some t→Op.bytesLess t key.toList=true):=Lib.hid (fun i u hi hu=>by
      rcases Nat.lt_or_ge i j with h1 | h1
      ·exact HA.out i u h1 hu
      ·obtain rfl:i=j:=by omega
       rw [hv] at hu
       obtain rfl:=Option.some.inj hu
       exact hb)
     clear hv
     go_wp2_with fail
     go_round
     case rel=>exact ⟨j+1,by omega,by go_num,HX⟩
     case measure=>simp [RowKit.intOf];omega
   | false =>
     have HE:Hid (j=ND.findN key.toList ks):=Lib.hid (ND.findN_of (by rw [HKN.out];exact hj) HA.out (fun u hu=>by
      rw [hv] at hu
      obtain rfl:=Option.some.inj hu
      exact hb))
     have HV:=Lib.hid hv
     have hd:decide ((j:Int)<(n:Int))=true:=decide_eq_true (by omega)
     clear hv
     go_wp2_with fail
     go_quiet (fail)
     go_wp2_with fail
     go_ret2
     refine ⟨?_,belowN (Below.refl _ _) _⟩
     rw [← HE.out]
     have e1:ND.isAt key.toList ks=(t.toList==key.toList):=by
      unfold ND.isAt
      rw [← HE.out,HV.out]
      rw [Bool.eq_iff_iff]
      simp
     rw [e1]
     rfl
  ·obtain rfl:n=j:=by omega
   have HE:Hid (n=ND.findN key.toList ks):=Lib.hid (ND.findN_of (by rw [HKN.out];exact Nat.le_refl _) HA.out (fun u hu=>by
    have:=(List.getElem?_eq_some_iff.1 hu).1
    rw [HKN.out] at this
    omega))
   have e1:Hid (ND.isAt key.toList ks=false):=Lib.hid (ND.isAt_end (by rw [← HE.out,HKN.out];omega))
   have hd:decide ((n:Int)<(n:Int))=false:=decide_eq_false (by omega)
   go_wp2_with fail
   go_quiet (fail)
   go_wp2_with fail
   go_ret2
   refine ⟨?_,belowN (Below.refl _ _) _⟩
   rw [← HE.out,e1.out]
   rfl
def MGot (w:World) (v:List UInt8) (is:Bool) (e:Ending) (w':World):Prop:=e = .returned (.tuple #[.string (tb v),.bool is])∧Below w.heap.size w w'
theorem mget_any (w:World) (key:ByteArray) (hb:MBox w g A n c) (h:Ln w 2 A n c (entVals es)) (hn:n≤1000000) :
 Calls Tryz.prog 27 #[.pointer (some ⟨g,0,none⟩),.string key] w (MGot w (TT.getE key.toList es) (TT.isE key.toList es)):=by
 have HB:=Lib.hid hb
 have H1:=Lib.hid h
 clear h hb
 go_enter Tryz.func27,Tryz.ntmps27
 go_wp2_with fail
 refine (mplace_any w key HB.out H1.out hn).mono ?_
 rintro e w1 ⟨rfl,b1⟩
 have HB1:=Lib.hid (HB.out.kept b1)
 have H2:=Lib.hid (H1.out.kept b1)
 have B1:=Lib.hid b1
 clear b1
 cases his:TT.isE key.toList es with
 | false =>
   have HV:Hid (MGot w (TT.getE key.toList es) false (.returned (.tuple #[.string (tb []),.bool false])) w1):=Lib.hid (by
    unfold TT.getE
    rw [his]
    exact ⟨rfl,B1.out⟩)
   have HI:=Lib.hid his
   clear his
   go_wp2_with fail
   refine bodyPost_ret (v := .tuple #[.string (tb []),.bool false]) (by simp [results,Tryz.results27,go_sem];rfl) rfl ?_
   rw [HI.out]
   exact HV.out
 | true =>
   have hlt:=TT.isE_lt his
   rw [H2.out.entN] at hlt
   obtain ⟨b,off,x,y,rfl,hv,f0,f1⟩:=H2.out.entAt hlt
   have c0:=HB1.out.cell
   have HV:Hid (MGot w (TT.getE key.toList es) true (.returned (.tuple #[.string y,.bool true])) w1):=Lib.hid (by
    unfold TT.getE
    rw [his,if_pos rfl,List.getD_eq_getElem?_getD,hv]
    refine ⟨?_,B1.out⟩
    simp [tb_back])
   have HI:=Lib.hid his
   clear his hv f0
   generalize TT.placeE key.toList es=k at *
   go_wp2_with fail
   refine bodyPost_ret (v := .tuple #[.string y,.bool true]) (by simp [results,Tryz.results27,go_sem]) rfl ?_
   rw [HI.out]
   exact HV.out
end
end Go.Proofs.YtccphijgcapeoaaGreat
/-
  The frame of every law's proof: how a walk that answers true and only makes memory becomes the given statement.
-/
namespace Go.Proofs.YtccphijgcapeoaaGreat
open Go.ChangeShapes Go.WideShapes Go.ChangeAt Go.RowKit Go.Joins Go.Deep
theorem ownKnobs:ownKnob Tryz.prog.godebug=none:=by kernel_rfl
theorem laidOut:laidOutB Tryz.prog=true:=by kernel_rfl
section
variable {H:Type} {enc:TypeId×Value→H}
theorem all_again {P:Program} (hl:laidOutB P=true) {W W':World} (hb:Below W.heap.size W W') :
 ∀ (ts:List TypeId) (vs:List Value) (ds:List (DataW H)) (ps:List MemPlace),(∀ t∈ts,P.readableRec t=true∧t<P.types.size) →
   DataW.TrodAll enc P W 0 (fun _=>true) true ts vs ds ps→DataW.TrodAll enc P W' 0 (fun b=>decide (b<W.heap.size)) true ts vs ds ps
 | [],_,_,_,_,h=>by
   obtain ⟨rfl,rfl,rfl⟩:=trodAll_nil h
   exact trodAll_mk0
 | t::ts,_,_,_,hr,h=>by
   obtain ⟨v,vs,d,ds,p,q,rfl,rfl,rfl,h0,h1⟩:=trodAll_cons h
   have lt0:∀ x∈p,x.block<W.heap.size:=by
    obtain ⟨m,hm⟩:=h0
    exact DataW.trod_lt m _ _ _ hm
   exact trodAll_cons_mk (Below.trod hl (hr t (by simp)).1 (hr t (by simp)).2 h0 hb lt0) (all_again hl hb ts vs ds q (fun u hu=>hr u (by simp [hu])) h1)
theorem lift_law {C:Checked} {os:Os} {F:FuncId} {fn:Func} {s:ChangeSpec} {conds:List PathCond} {tb:TypeId}
 (own:ownKnob C.prog.godebug=none) (started:os.Started) (noInit:C.prog.inits.idxOf? F=none) (hfn:C.prog.funcs[F]?=some fn)
 (witness:∃ (w:World) (tape:Tape) (i:Input),w.os=os∧(w.forCall tape i).Shaped C.prog∧i.vars=[]∧Input.okWide C.prog (w.forCall tape i) .any w.heap.size F i ∧
   s.pre6 enc C.prog fn conds false (w.forCall tape i).memory i.args∧({}:Assume).holds C.prog (lone (Frame.enter C.prog F i.args .normal) [] (w.forCall tape i)))
 (hl:laidOutB C.prog=true) (hread:∀ t∈fn.params.toList,C.prog.readableRec t=true∧t<C.prog.types.size) (hvars:s.vars=[])
 (hres:fn.resultTypes=#[tb]) (hb:C.prog.underlying tb=some .bool)
 (hspec:∀ (vs:List Value) (ds:List (DataW H)) (W:World) (p:List MemPlace),DataW.TrodAll enc C.prog W 0 (fun _=>true) true fn.params.toList vs ds p →
   s.fn H ds={ results:=[.lit (.bool true)],args:=ds })
 (walk:∀ (W:World) (base:Nat) (args:Array Value) (ds:List (DataW H)) (p:List MemPlace),
   (∀ (j:Nat) t v,fn.params[j]?=some t→args[j]?=some v→Value.okWide C.prog W .any base t v) →
   DataW.TrodAll enc C.prog W 0 (fun _=>true) true fn.params.toList args.toList ds p →
   Calls C.prog F args W fun e W'=>e = .returned (.bool true)∧Below W.heap.size W W') :
 ReturnsInHanded {} C os F .any (s.pre6 enc C.prog fn conds false) (s.post enc C.prog fn false true false false):=by
 refine returnsInHanded_of_change own started noInit hfn witness ?_
 intro W base args ds gs before hval hW _ _
 have hW':=hW
 obtain ⟨p,q,hA,hV,rfl,_,_⟩:=hW
 rw [hvars] at hV
 obtain ⟨rfl,rfl⟩:=trodVars_none hV
 refine (walk W base args ds p hval hA).mono fun e W' ⟨he,bel⟩=>?_
 subst he
 have hs:=hspec _ _ _ _ hA
 refine ⟨_,rfl,ds,[],_,[],p,[],hW',?_,?_,?_,bel.frame _,fun h=>by cases h⟩
 ·rw [List.append_nil,hs,hres]
  exact trodAll_mk1 (shut_bool hb _)
 ·rw [List.append_nil,hs]
  exact all_again hl bel _ _ _ _ hread hA
 ·rw [List.append_nil,hs,hvars]
  rfl
end
theorem add_at (b off:Nat) (n:Nat):(⟨b,off,none⟩:Addr).add n=⟨b,off+n,none⟩:=by
 unfold Addr.add
 split
 ·rename_i h
  have:n=0:=by simpa using h
  subst this
  rfl
 ·rfl
theorem pick_each {α β:Type} (R:Nat→α→Prop) (g:α→β):∀ (n:Nat),(∀ i,i<n→∃ a,R i a)→∃ l:List α,l.length=n∧∀ i a,l[i]?=some a→R i a
 | 0,_=>⟨[],rfl,fun i a h=>by simp at h⟩
 | n+1,h=>by
   obtain ⟨l,hl,hr⟩:=pick_each R g n (fun i hi=>h i (by omega))
   obtain ⟨a,ha⟩:=h n (by omega)
   refine ⟨l++[a],by simp [hl],fun i x hx=>?_⟩
   by_cases hi:i<l.length
   ·rw [List.getElem?_append_left hi] at hx
    exact hr i x hx
   ·rw [List.getElem?_append_right (by omega)] at hx
    have h0:i - l.length=0:=by
     rcases Nat.eq_zero_or_pos (i - l.length) with e | e
     ·exact e
     ·have e2:i - l.length=(i - l.length - 1)+1:=by omega
      rw [e2] at hx
      simp at hx
    rw [h0] at hx
    have e1:i=n:=by omega
    subst e1
    obtain rfl:a=x:=by simpa using hx
    exact ha
end Go.Proofs.YtccphijgcapeoaaGreat
/-
  A number that comes in.
-/
namespace Go.Proofs.YtccphijgcapeoaaGreat
open Go.ChangeShapes Go.WideShapes Go.ChangeAt Go.RowKit Go.Joins Go.Deep
section
variable {H:Type} {enc:TypeId×Value→H} {w:World} {base:Nat} {spare:Nat→Bool} {held:Bool}
/-- A number that comes in. -/
theorem open_i64 {v:Value} {d:DataW H} {p:List MemPlace} {r:Reach} {b0:Nat} (hv:Value.okWide Tryz.prog w r b0 3 v) (h:DataW.Trod enc Tryz.prog w base spare held 3 v d p) :
 ∃ z:Int,v = .int .i64 z ∧ -9223372036854775808≤z∧z≤9223372036854775807:=by
 obtain ⟨n,rfl⟩:=okWide_int Tryz.underlying3 hv
 obtain ⟨fuel,hf⟩:=h
 obtain ⟨m,hm,_,hwf⟩:=DataW.trod_int Tryz.underlying3 hf
 simp [Value.cells] at hm
 subst hm
 simp only [Lit.wf,Bool.and_eq_true,decide_eq_true_eq] at hwf
 have h1:IntKind.i64.min = -9223372036854775808:=rfl
 have h2:IntKind.i64.max=9223372036854775807:=rfl
 exact ⟨n,rfl,by omega,by omega⟩
end
end Go.Proofs.YtccphijgcapeoaaGreat
/-
  A list of bytes that comes in.
-/
namespace Go.Proofs.YtccphijgcapeoaaGreat
open Go.ChangeShapes Go.WideShapes Go.ChangeAt Go.RowKit Go.Joins Go.Deep
section
variable {H:Type} {enc:TypeId×Value→H} {w:World} {base:Nat} {spare:Nat→Bool} {held:Bool}
end
end Go.Proofs.YtccphijgcapeoaaGreat
/-
  Numbers, and bytes, that come in, as a part of something.
-/
namespace Go.Proofs.YtccphijgcapeoaaGreat
open Go.ChangeShapes Go.WideShapes Go.ChangeAt Go.RowKit Go.Joins Go.Deep
def In64 (z:Int):Prop := -9223372036854775808≤z∧z≤9223372036854775807
section
variable {w w':World} {R:Nat} {A:Option Addr}
end
section
variable {H:Type} {enc:TypeId×Value→H} {w:World} {base:Nat} {spare:Nat→Bool} {held:Bool}
theorem in64_of {z:Int} (h:(Lit.int .i64 z).wf=true):In64 z:=by
 simp only [Lit.wf,Bool.and_eq_true,decide_eq_true_eq] at h
 have h1:IntKind.i64.min = -9223372036854775808:=rfl
 have h2:IntKind.i64.max=9223372036854775807:=rfl
 exact ⟨by omega,by omega⟩
theorem numCells1:Tryz.prog.cellsOf 3=1:=by kernel_rfl
end
end Go.Proofs.YtccphijgcapeoaaGreat
/-
  A script of a tree's calls that comes in, texts that come in; what the statements' own Small comes to. Conditions: none.
-/
namespace Go.Proofs.YtccphijgcapeoaaGreat
open Go.ChangeShapes Go.WideShapes Go.ChangeAt Go.RowKit Go.Joins Go.Deep
structure TCl where
 kind:Int
 key:ByteArray
 val:ByteArray
def TCl.vals (c:TCl):List Value:=[.int .i64 c.kind,.string c.key,.string c.val]
def TCl.agg (c:TCl):Value := .agg #[.int .i64 c.kind,.string c.key,.string c.val]
def TScript (w:World) (R:Nat) (A:Option Addr) (l:List TCl):Prop :=
 l=[]∨∃ b off,A=some ⟨b,off,none⟩∧b<R∧∀ i c,l[i]?=some c→In64 c.kind∧∀ j,j<3→w.cell? ⟨b,off+i*3+j,none⟩=c.vals[j]?
section
variable {w w':World} {R:Nat} {A:Option Addr}
theorem TScript.below {l:List TCl} (h:TScript w R A l) (hb:Below R w w'):TScript w' R A l:=by
 rcases h with rfl | ⟨b,off,rfl,hR,hc⟩
 ·exact Or.inl rfl
 ·refine Or.inr ⟨b,off,rfl,hR,fun i c e=>⟨(hc i c e).1,fun j hj=>?_⟩⟩
  rw [← (hc i c e).2 j hj]
  exact hb.cell (p:=⟨b,off+i*3+j,none⟩) hR
theorem TScript.at_ {l:List TCl} (h:TScript w R A l) {k:Nat} (hk:k<l.length) :
 ∃ b off c,A=some ⟨b,off,none⟩∧b<R∧l[k]?=some c∧In64 c.kind∧w.cell? ⟨b,off+k*3,none⟩=some (.int .i64 c.kind)∧w.cell? ⟨b,off+k*3+1,none⟩=some (.string c.key)∧w.cell? ⟨b,off+k*3+2,none⟩=some (.string c.val):=by
 rcases h with rfl | ⟨b,off,rfl,hR,hc⟩
 ·exact absurd hk (by simp)
 ·obtain ⟨h1,h2⟩:=hc k _ (List.getElem?_eq_getElem hk)
  exact ⟨b,off,l[k],rfl,hR,List.getElem?_eq_getElem hk,h1,h2 0 (by omega),h2 1 (by omega),h2 2 (by omega)⟩
end
section
variable {H:Type} {enc:TypeId×Value→H} {w:World} {base:Nat} {spare:Nat→Bool} {held:Bool}
theorem tcallCells3:Tryz.prog.cellsOf 34=3:=by kernel_rfl
theorem ttextCells1:Tryz.prog.cellsOf 9=1:=by kernel_rfl
theorem tthree {α:Type} {l:List α} (h:l.length=3):∃ a b c,l=[a,b,c]:=by
 match l,h with
 | [a,b,c],_=>exact ⟨a,b,c,rfl⟩
theorem tcall_of {fuel:Nat} {cs:List Value} {x:DataW H×List MemPlace} (h:DataW.trod enc Tryz.prog w base spare held fuel 34 cs=some x) :
 ∃ c:TCl,cs=c.vals∧In64 c.kind:=by
 obtain ⟨ys,n,_,_,hlen,hys,hf⟩:=DataW.trod_struct Tryz.underlying34 h
 obtain ⟨a,b,c,rfl⟩:=tthree (hlen.trans tcallCells3)
 obtain ⟨y0,y1,y2,rfl⟩:=tthree hys
 have h0:DataW.trod enc Tryz.prog w base spare held n 3 ([a,b,c].take (Tryz.prog.cellsOf 3))=some y0:=hf 0 _ rfl
 have h1:DataW.trod enc Tryz.prog w base spare held n 9 ([b,c].take (Tryz.prog.cellsOf 9))=some y1:=hf 1 _ rfl
 have h2:DataW.trod enc Tryz.prog w base spare held n 9 ([c].take (Tryz.prog.cellsOf 9))=some y2:=hf 2 _ rfl
 rw [numCells1] at h0
 rw [ttextCells1] at h1 h2
 obtain ⟨k,e0,_,w0⟩:=DataW.trod_int Tryz.underlying3 h0
 obtain ⟨m,e1,_,_⟩:=DataW.trod_string Tryz.underlying9 h1
 obtain ⟨s,e2,_,_⟩:=DataW.trod_string Tryz.underlying9 h2
 simp only [List.take_succ_cons,List.take_zero,List.cons.injEq,and_true] at e0 e1 e2
 exact ⟨⟨k,m,s⟩,by rw [e0,e1,e2];rfl,in64_of w0⟩
/-- A script that comes in. -/
theorem open_tcalls {v:Value} {d:DataW H} {p:List MemPlace} {r:Reach} {b0:Nat} (hv:Value.okWide Tryz.prog w r b0 23 v) (h:DataW.Trod enc Tryz.prog w base spare held 23 v d p) :
 ∃ (A:Option Addr) (n c:Nat) (l:List TCl),v = .slice A n c∧l.length=n∧TScript w w.heap.size A l∧n≤maxLen:=by
 obtain ⟨A,n,c,rfl⟩:=okWide_slice Tryz.underlying23 hv
 obtain ⟨fuel,hf⟩:=h
 rcases open_slice Tryz.underlying23 hf with ⟨hcs,_⟩ | ⟨a,len,cap,m,f,D,Pl,hcs,_,hl,hcm,hm,_,hi⟩
 ·simp [Value.cells] at hcs
  obtain ⟨rfl,rfl,rfl⟩:=hcs
  exact ⟨none,0,0,[],rfl,rfl,Or.inl rfl,Nat.zero_le _⟩
 ·simp [Value.cells] at hcs
  obtain ⟨rfl,rfl,rfl⟩:=hcs
  have hlm:n≤m:=by rw [hm];split<;>omega
  have each:∀ i,i<n→∃ c:TCl,In64 c.kind∧∀ j,j<3→w.cell? ((a.add (i*3)).add j)=c.vals[j]?:=by
   intro i hin
   obtain ⟨cs',hc,ht⟩:=hi i (by omega)
   rw [tcallCells3] at hc
   obtain ⟨c,rfl,hca⟩:=tcall_of ht
   obtain ⟨_,_,hat⟩:=World.cells?_some hc
   exact ⟨c,hca,fun j hj=>hat j hj⟩
  obtain ⟨xs,hlen,hx⟩:=pick_each (fun i (c:TCl)=>In64 c.kind∧∀ j,j<3→w.cell? ((a.add (i*3)).add j)=c.vals[j]?) (fun v=>v) n each
  refine ⟨_,_,_,xs,rfl,hlen,?_,Nat.le_trans hl hcm⟩
  by_cases hx0:xs=[]
  ·exact Or.inl hx0
  ·right
   obtain ⟨b,off,spot⟩:=a
   have hpos:0<xs.length:=by
    rcases xs with _ | ⟨y,ys⟩
    ·exact absurd rfl hx0
    ·simp
   have h00:=(hx 0 _ (List.getElem?_eq_getElem hpos)).2 0 (by omega)
   have h01:w.cell? (((⟨b,off,spot⟩:Addr).add (0*3)).add 0)=some (.int .i64 xs[0].kind):=h00
   have hs:spot=none:=by
    simpa [Addr.add] using World.cell?_spot h01
   subst hs
   refine ⟨b,off,rfl,?_,fun i c hc=>?_⟩
   ·rw [add_at,add_at] at h01
    exact World.block_lt_of_cell? _ _ h01
   ·obtain ⟨h0,h1⟩:=hx i c hc
    refine ⟨h0,fun j hj=>?_⟩
    have g0:=h1 j hj
    rw [add_at,add_at] at g0
    exact g0
end
def TCl.small (c:TCl):Bool:=decide (c.key.size≤200) && decide (c.val.size≤200)
theorem tsmall_any (c:TCl) (w:World):Calls Tryz.prog 12 #[c.agg] w fun e w'=>e = .returned (.bool c.small)∧Below w.heap.size w w':=by
 obtain ⟨k,x,y⟩:=c
 have HB:=Lib.hid (below_one w (.cells #[.int .i64 k,.string x,.string y] 34))
 unfold TCl.agg TCl.small
 dsimp only
 by_cases h1:x.size≤200
 ·by_cases h2:y.size≤200
  ·rw [decide_eq_true h1,decide_eq_true h2]
   go_enter Tryz.func12,Tryz.ntmps12
   go_wp2_with fail
   go_ret
   exact ⟨ret_bool (by show decide (((y.size:Nat):Int)≤200)=_;rw [decide_eq_true (show ((y.size:Nat):Int)≤200 by omega)];rfl),HB.out⟩
  ·have h3:200<y.size:=by omega
   rw [decide_eq_true h1,decide_eq_false h2]
   go_enter Tryz.func12,Tryz.ntmps12
   go_wp2_with fail
   go_ret
   exact ⟨ret_bool (by show decide (((y.size:Nat):Int)≤200)=_;rw [decide_eq_false (show ¬ ((y.size:Nat):Int)≤200 by omega)];rfl),HB.out⟩
 ·have h3:200<x.size:=by omega
  rw [decide_eq_false h1]
  go_enter Tryz.func12,Tryz.ntmps12
  go_wp2_with fail
  go_ret
  exact ⟨rfl,HB.out⟩
end Go.Proofs.YtccphijgcapeoaaGreat
/-
  What the document's own Known comes to. Conditions: none.
-/
namespace Go.Proofs.YtccphijgcapeoaaGreat
open Go.RowKit
def NoF (s:SS) (k:Nat) (p:Int):Prop:=p ∉ s.fr.take k
def NoP (s:SS) (k:Nat) (p:Int):Prop:=p ∉ (s.pe.take k).map (·.2)
theorem NoF.more {s:SS} {k:Nat} {p x:Int} (h:NoF s k p) (hv:s.fr[k]?=some x) (hx:¬ x=p):NoF s (k+1) p:=by
 unfold NoF
 rw [List.take_add_one,hv,Option.toList_some,List.mem_append]
 rintro (h1 | h1)
 ·exact h h1
 ·have e:p=x:=by simpa using h1
  exact hx e.symm
theorem NoP.more {s:SS} {k:Nat} {p x y:Int} (h:NoP s k p) (hv:s.pe[k]?=some (x,y)) (hx:¬ y=p):NoP s (k+1) p:=by
 unfold NoP
 rw [List.take_add_one,hv,Option.toList_some,List.map_append,List.mem_append]
 rintro (h1 | h1)
 ·exact h h1
 ·have e:p=y:=by simpa using h1
  exact hx e.symm
theorem known_none {s:SS} {p:Int} {n m:Nat} (h1:NoF s n p) (h2:NoP s m p) (hn:s.fr.length≤n) (hm:s.pe.length≤m):s.known p=false:=by
 unfold NoF at h1
 unfold NoP at h2
 rw [List.take_of_length_le hn] at h1
 rw [List.take_of_length_le hm] at h2
 unfold SS.known
 rw [decide_eq_false h1,decide_eq_false h2]
 rfl
theorem refKnown_any (s:SS) (h p:Int) (A B:Option Addr) (n c m d:Nat) (w:World) (hs:Sp w A n c B m d s) (hn:n≤400000) (hm:m≤400000) :
 Calls Tryz.prog 38 #[.agg #[.int .i64 h,.slice A n c,.slice B m d],.int .i64 p] w fun e w'=>e = .returned (.bool (s.known p))∧Below w.heap.size w w':=by
 have HS:=Lib.hid (hs.kept (below_one w (.cells #[.int .i64 h,.slice A n c,.slice B m d] 49)))
 have HB:=Lib.hid (box_new w (.int .i64 h) (.slice A n c) (.slice B m d))
 have B0:=Lib.hid (below_one w (.cells #[.int .i64 h,.slice A n c,.slice B m d] 49))
 have HFL:=Lib.hid hs.fl
 have HPL:=Lib.hid hs.pl
 clear hs
 go_enter Tryz.func38,Tryz.ntmps38
 go_wp2_with fail
 generalize w.alloc (.cells #[.int .i64 h,.slice A n c,.slice B m d] 49)=w0 at *
 obtain ⟨a0,a1,a2⟩:=HB.out.cells
 go_loopw [5] (fun i wk=>∃ k:Nat,k≤n∧i = .int .i64 k∧Hid (NoF s k p)∧wk=w0) (fun i _=>n - (RowKit.intOf i).toNat)
 case atStart=>exact ⟨0,Nat.zero_le _,rfl,Lib.hid (by simp [NoF]),rfl⟩
 case round =>
  obtain ⟨k,hk,rfl,HL,hw⟩:=hrel
  have hw':=hw.symm
  subst hw'
  clear hw
  by_cases hlt:k<n
  ·obtain ⟨b,off,x,rfl,hv,c0⟩:=HS.out.fr.intAt hlt
   by_cases hx:x=p
   ·have HM:Hid (s.known p=true):=Lib.hid ((SS.known_iff s p).2 (Or.inl (by rw [← hx];exact List.mem_of_getElem? hv)))
    subst hx
    clear hv HL
    go_wp2_with fail
    go_ret
    exact ⟨ret_bool HM.out.symm,B0.out⟩
   ·have HM:=Lib.hid (HL.out.more hv hx)
    have hb:(x==p)=false:=by simpa using hx
    clear hv HL hx
    go_wp2_with fail
    go_roundw
    case rel=>exact ⟨k+1,by omega,by go_num,HM,trivial⟩
    case measure=>simp [RowKit.intOf];omega
  ·obtain rfl:n=k:=by omega
   go_wp2_with fail
   go_loopw [6] (fun i wk=>∃ k:Nat,k≤m∧i = .int .i64 k∧Hid (NoP s k p)∧wk=w0) (fun i _=>m - (RowKit.intOf i).toNat)
   case atStart=>exact ⟨0,Nat.zero_le _,rfl,Lib.hid (by simp [NoP]),rfl⟩
   case round =>
    obtain ⟨k,hk,rfl,HL2,hw⟩:=hrel
    have hw':=hw.symm
    subst hw'
    clear hw
    by_cases hlt:k<m
    ·obtain ⟨b,off,x,y,rfl,hv,c0,c1⟩:=HS.out.pe.prAt hlt
     by_cases hx:y=p
     ·have HM:Hid (s.known p=true):=Lib.hid ((SS.known_iff s p).2 (Or.inr (List.mem_map.2 ⟨_,List.mem_of_getElem? hv,hx⟩)))
      subst hx
      clear hv HL2
      go_wp2_with fail
      go_ret
      exact ⟨ret_bool HM.out.symm,B0.out⟩
     ·have HM:=Lib.hid (HL2.out.more hv hx)
      have hb:(y==p)=false:=by simpa using hx
      clear hv HL2 hx
      go_wp2_with fail
      go_roundw
      case rel=>exact ⟨k+1,by omega,by go_num,HM,trivial⟩
      case measure=>simp [RowKit.intOf];omega
    ·obtain rfl:m=k:=by omega
     have HM:=Lib.hid (known_none HL.out HL2.out (by rw [HFL.out];exact Nat.le_refl _) (by rw [HPL.out];exact Nat.le_refl _))
     go_wp2_with fail
     go_ret
     exact ⟨ret_bool HM.out.symm,B0.out⟩
end Go.Proofs.YtccphijgcapeoaaGreat
/-
  What rises, agesStand and lastEpoch come to.
-/
namespace Go.Proofs.YtccphijgcapeoaaGreat
open Go.RowKit
theorem rises_more {zs:List Int} {k:Nat} {x y:Int} (h:(zs.take (k+1)).Pairwise (·<·)) (hx:zs[k]?=some x) (hy:zs[k+1]?=some y) (hlt:x<y):(zs.take (k+2)).Pairwise (·<·):=by
 rw [List.take_add_one,hy,Option.toList_some]
 refine List.pairwise_append.2 ⟨h,by simp,fun a ha b hb=>?_⟩
 obtain rfl:b=y:=by simpa using hb
 rw [List.take_add_one,hx,Option.toList_some] at ha h
 rcases List.mem_append.1 ha with h1 | h1
 ·have:=(List.pairwise_append.1 h).2.2 a h1 x (by simp)
  omega
 ·obtain rfl:a=x:=by simpa using h1
  exact hlt
theorem rises_not {zs:List Int} {k:Nat} {x y:Int} (hx:zs[k]?=some x) (hy:zs[k+1]?=some y) (hge:¬ x<y):SS.rises zs=false:=by
 refine decide_eq_false (fun h=>hge ?_)
 obtain ⟨h1,rfl⟩:=List.getElem?_eq_some_iff.1 hx
 obtain ⟨h2,rfl⟩:=List.getElem?_eq_some_iff.1 hy
 exact List.pairwise_iff_getElem.1 h k (k+1) h1 h2 (by omega)
theorem rises_all {zs:List Int} {n:Nat} (hn:zs.length≤n) (h:(zs.take n).Pairwise (·<·)):SS.rises zs=true:=by
 rw [List.take_of_length_le hn] at h
 exact decide_eq_true h
theorem rises_any (A:Option Addr) (n c:Nat) (zs:List Int) (w:World) (hz:Ln w 1 A n c (intVals zs)) (hn:n≤1000000) :
 Calls Tryz.prog 64 #[.slice A n c] w fun e w'=>e = .returned (.bool (SS.rises zs))∧Below w.heap.size w w':=by
 have HZ:=Lib.hid hz
 have HN:=Lib.hid hz.intN
 clear hz
 go_enter Tryz.func64,Tryz.ntmps64
 go_wp2_with fail
 go_loopw [3] (fun i wk=>∃ k:Nat,(k=0∨k+1≤n)∧i = .int .i64 ((k:Int)+1)∧Hid ((zs.take (k+1)).Pairwise (·<·))∧Hid (Below w.heap.size w wk)) (fun i _=>n - (RowKit.intOf i).toNat)
 case atStart =>
  refine ⟨0,Or.inl rfl,rfl,Lib.hid ?_,Lib.hid (Below.refl _ _)⟩
  match zs with
  | []=>simp
  | z::zs=>simp
 case round =>
  obtain ⟨k,hk,rfl,HR,B1⟩:=hrel
  by_cases hlt:k+1<n
  ·obtain ⟨b,off,x,rfl,hx,c0⟩:=(HZ.out.kept B1.out).intAt (k:=k) (by omega)
   obtain ⟨b',off',y,e0,hy,c1⟩:=(HZ.out.kept B1.out).intAt (k:=k+1) hlt
   have e1:=Option.some.inj e0
   injection e1 with e1 e2
   subst e1
   subst e2
   clear e0
   have i0:(k:Int)+1<(n:Int):=by omega
   have i1:(0:Int)≤(k:Int):=by omega
   have i2:(0:Int)≤(k:Int)+1:=by omega
   have i3:(k:Int)<(n:Int):=by omega
   have i4:IntKind.i64.wrap ((k:Int)+1 - 1)=(k:Int):=by
    rw [Int.add_sub_cancel]
    exact IntWalk.i64_in _ (by omega)
   by_cases hxy:x<y
   ·have hM:=Lib.hid (rises_more HR.out hx hy hxy)
    have hb:(decide (x ≥ y))=false:=decide_eq_false (by omega)
    clear hx hy HR
    go_wp2_with fail
    go_quiet (fail)
    go_wp2_with fail
    go_roundw
    case rel=>exact ⟨k+1,Or.inr (by omega),by go_num,hM,Lib.hid (belowN B1.out _)⟩
    case measure=>simp [RowKit.intOf];omega
   ·have hM:=Lib.hid (rises_not hx hy hxy)
    have hb:(decide (x ≥ y))=true:=decide_eq_true (by omega)
    clear hx hy HR
    go_wp2_with fail
    go_quiet (fail)
    go_wp2_with fail
    go_ret
    exact ⟨ret_bool hM.out.symm,belowN B1.out _⟩
  ·have hM:=Lib.hid (rises_all (n:=k+1) (by rw [HN.out];omega) HR.out)
   have i0:¬ (k:Int)+1<(n:Int):=by omega
   go_wp2_with fail
   go_ret
   exact ⟨ret_bool hM.out.symm,B1.out⟩
end Go.Proofs.YtccphijgcapeoaaGreat
/-
  What agesStand and lastEpoch come to.
-/
namespace Go.Proofs.YtccphijgcapeoaaGreat
open Go.RowKit
def AgesTo (ps:List (Int×Int)) (k:Nat) (z:Int):Prop :=
 0≤z∧(ps.take k).Pairwise (fun x y=>x.1≤y.1)∧(∀ x∈ps.take k,0≤x.1∧x.1≤z)∧(z=0∨∃ x∈ps.take k,x.1=z)
theorem AgesTo.start (ps:List (Int×Int)):AgesTo ps 0 0:=⟨by omega,by simp,by simp,Or.inl rfl⟩
theorem AgesTo.more {ps:List (Int×Int)} {k:Nat} {z x y:Int} (h:AgesTo ps k z) (hv:ps[k]?=some (x,y)) (hx:¬ x<z):AgesTo ps (k+1) x:=by
 obtain ⟨h1,h2,h3,_⟩:=h
 unfold AgesTo
 rw [List.take_add_one,hv,Option.toList_some]
 refine ⟨by omega,List.pairwise_append.2 ⟨h2,by simp,fun a ha b hb=>?_⟩,fun a ha=>?_,Or.inr ⟨(x,y),by simp,rfl⟩⟩
 ·obtain rfl:b=(x,y):=by simpa using hb
  have:=h3 a ha
  show a.1≤x
  omega
 ·rcases List.mem_append.1 ha with ha | ha
  ·have:=h3 a ha
   omega
  ·obtain rfl:a=(x,y):=by simpa using ha
   show 0≤x∧x≤x
   omega
theorem AgesTo.bad {ps:List (Int×Int)} {k:Nat} {z x y:Int} (h:AgesTo ps k z) (hv:ps[k]?=some (x,y)) (hx:x<z):SS.agesB ps=false:=by
 obtain ⟨h1,h2,h3,h4⟩:=h
 cases hb:SS.agesB ps with
 | false=>rfl
 | true =>
   unfold SS.agesB at hb
   rw [Bool.and_eq_true] at hb
   have hp:ps.Pairwise (fun x y=>x.1≤y.1):=of_decide_eq_true hb.1
   have hm:(x,y)∈ps:=List.mem_of_getElem? hv
   have h0:0≤x:=of_decide_eq_true (List.all_eq_true.1 hb.2 _ hm)
   rcases h4 with h4 | ⟨a,ha,h4⟩
   ·omega
   ·rw [← List.take_append_drop k ps] at hp
    have hd:(x,y)∈ps.drop k:=by
     obtain ⟨hk,e⟩:=List.getElem?_eq_some_iff.1 hv
     rw [List.drop_eq_getElem_cons hk,e]
     simp
    have:=(List.pairwise_append.1 hp).2.2 a ha _ hd
    have:a.1≤x:=this
    omega
theorem AgesTo.all {ps:List (Int×Int)} {k:Nat} {z:Int} (h:AgesTo ps k z) (hk:ps.length≤k):SS.agesB ps=true:=by
 obtain ⟨_,h2,h3,_⟩:=h
 rw [List.take_of_length_le hk] at h2 h3
 unfold SS.agesB
 rw [Bool.and_eq_true]
 exact ⟨decide_eq_true h2,List.all_eq_true.2 (fun x hx=>decide_eq_true (h3 x hx).1)⟩
theorem ages_any (A:Option Addr) (n c:Nat) (ps:List (Int×Int)) (w:World) (hp:Ln w 2 A n c (prVals ps)) (hn:n≤1000000) :
 Calls Tryz.prog 65 #[.slice A n c] w fun e w'=>e = .returned (.bool (SS.agesB ps))∧Below w.heap.size w w':=by
 have HP:=Lib.hid hp
 have HN:=Lib.hid hp.prN
 clear hp
 go_enter Tryz.func65,Tryz.ntmps65
 go_wp2_with fail
 go_loopw [3,8] (fun v i wk=>∃ (k:Nat) (z:Int),k≤n∧i = .int .i64 k∧v = .int .i64 z∧Hid (AgesTo ps k z)∧Hid (Below w.heap.size w wk)) (fun _ i _=>n - (RowKit.intOf i).toNat)
 case atStart=>exact ⟨0,0,Nat.zero_le _,rfl,rfl,Lib.hid (AgesTo.start ps),Lib.hid (Below.refl _ _)⟩
 case round =>
  obtain ⟨k,z,hk,rfl,rfl,HA,B1⟩:=hrel
  by_cases hlt:k<n
  ·obtain ⟨b,off,x,y,rfl,hv,c0,c1⟩:=(HP.out.kept B1.out).prAt hlt
   have bs:=B1.out.size
   have B2:Hid (Below w.heap.size w (wr.alloc (.cells #[.int .i64 x,.int .i64 y] 129))):=Lib.hid (B1.out.alloc bs _)
   by_cases hx:x<z
   ·have HM:=Lib.hid (HA.out.bad hv hx)
    clear hv HA
    go_wp2_with fail
    go_ret
    exact ⟨ret_bool HM.out.symm,B2.out⟩
   ·have HM:=Lib.hid (HA.out.more hv hx)
    clear hv HA
    go_wp2_with fail
    go_roundw
    case rel=>exact ⟨k+1,x,by omega,by go_num,rfl,HM,B2⟩
    case measure=>simp [RowKit.intOf];omega
  ·obtain rfl:n=k:=by omega
   have HM:=Lib.hid (HA.out.all (by rw [HN.out];exact Nat.le_refl _))
   go_wp2_with fail
   go_ret
   exact ⟨ret_bool HM.out.symm,B1.out⟩
end Go.Proofs.YtccphijgcapeoaaGreat
/-
  What the disk's Turn comes to.
-/
namespace Go.Proofs.YtccphijgcapeoaaGreat
open Go.RowKit Go.Maps
section
variable {F:Nat→Prop} {db bl bw:Nat} {gL gW:Ghost} {s:PS}
end
end Go.Proofs.YtccphijgcapeoaaGreat
