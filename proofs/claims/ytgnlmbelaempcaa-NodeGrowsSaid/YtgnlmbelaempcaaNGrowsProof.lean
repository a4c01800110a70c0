/-
  NodeGrows answers true, whatever node, key and value: a leaf with one entry more, behind all, is a node again, with as many bytes more as the entry and two. Conditions: none.
-/
import Derived.Test.YtgnlmbelaempcaaRows
import Derived.Test.YtgnlmbelaempcaaNAwake
import Derived.Test.YtgnlmbelaempcaaNFew
import Derived.Test.YtgnlmbelaempcaaNLaw
import Derived.Test.YtgnlmbelaempcaaNGrowInv
import Derived.Deep.DeepCutAuto
import Derived.Deep.RegionHeld3
import Derived.RegionTactic
import Derived.IntWalk
namespace Go.Proofs.Ytgnlmbelaempcaa.nodeGrows
open Go.ChangeShapes Go.WideShapes Go.ChangeAt Go.RowKit

/-- What stays: the argument's block. -/
structure Mid (W w : World) (s : ND) (A : Option Addr) (n c : Nat) (B : Option Addr) (m d : Nat) (C : Option Addr) (k e : Nat) : Prop where
  box : NBox w W.heap.size (.bool s.leaf) (.slice A n c) (.slice B m d) (.slice C k e)
  nd : Nd w A n c B m d C k e s
  below : Below W.heap.size W w
theorem Mid.next {W w w' : World} {s : ND} {A B C : Option Addr} {n c m d k e : Nat} (h : Mid W w s A n c B m d C k e) (b : Below w.heap.size w w') : Mid W w' s A n c B m d C k e :=
  ⟨h.box.kept b, h.nd.kept b, chainN b h.below⟩

/-- What the region leaves. -/
def GD (w0 w : World) (u : Value) (n m : Nat) (K V : List Value) (x y : ByteArray) : Prop :=
  ∃ g k v, u = .pointer (some ⟨g, 0, none⟩) ∧ w0.heap.size ≤ g ∧ NBox w g (.bool true) k v (.slice none 0 0) ∧
      w.ownsRow w0.heap.size 9 1 k (n + 1) (K ++ [.string x]) ∧ w.ownsRow w0.heap.size 9 1 v (m + 1) (V ++ [.string y]) ∧
      Below w0.heap.size w0 w

theorem wp_region_from {P : Program} {ops : Array Oper} {Q : Exit → Act → World → Prop} {id : Nat} {a : Act} {w : World} (hm : P.follows .mixedOrders = true) (Inv : Act → (Nat → Bool) → Act → World → Prop) (hu : upward ops = true)
    (hext : ∀ L L' b w, (∀ j, L j = L' j) → Inv a L b w → Inv a L' b w)
    (hstep : ∀ L b w i o, Inv a L b w → ops[i]? = some o → L i = false → (∀ e ∈ o.after, Region.binds .any e = true → L e.on = true) → wpOp P ops Q i (Inv a (nxt L i)) b w)
    (hend : ∀ L b w, Inv a L b w → (∀ j, j < ops.size → L j = true) → Q .normal b w)
    (h0 : Inv a (fun _ => false) a { w with drawn := w.drawn + 1 }) : (Code.region id ops true).wp P Q a w :=
  wp_region_inv hm (Inv a) hu hext hstep hend h0

theorem got {a : Act} {j : Nat} {v : Value} (h : a.eval (.tmp j) = v) : a.tmps[j]?.getD undef = v := by
  rw [← h]
  simp [Act.eval]

/-- A frame, written out. -/
theorem spread {a : Act} (F : Nat → Value) (hs : a.tmps.size = 103) (hF : ∀ j, j < 103 → F j = a.eval (.tmp j)) (hd : a.defers = []) : a = ⟨((List.range 103).map F).toArray, []⟩ := by
  obtain ⟨t, d⟩ := a
  obtain rfl : d = [] := hd
  congr 1
  apply Array.ext
  · simp [hs]
  · intro i h1 h2
    have h3 : i < 103 := by simpa using h2
    have := hF i h3
    simp [Act.eval, h1] at this
    simp [this]

/-- A row of one text lies where it lies. -/
theorem row_one {w : World} {base : Nat} {v u : Value} (h : w.ownsRow base 9 1 v 1 [u]) : ∃ g cp, v = .slice (some ⟨g, 0, none⟩) 1 cp ∧ Lies w (some ⟨g, 0, none⟩) 1 cp [u] := by
  obtain ⟨g, cp, rfl, _, _⟩ := h.form (by omega)
  refine ⟨g, cp, rfl, (fun e => by cases e), fun ad e j u hu => ?_⟩
  cases e
  exact h.cells rfl j u hu
theorem blies3 {w w' : World} {A : Option Addr} {n c : Nat} {cs : List Value} (hb : Below w.heap.size w w') (h : Ln w 1 A n c cs) : Lies w' A n c cs := (h.kept hb).lies

/-- append at an operation: a source that may be nil. -/
theorem wp_append_at {P : Program} {w : World} {o : Oper} {a : Act} {K : Act → World → Prop} {Q : Exit → Act → World → Prop} (s x : Operand) (t : TypeId)
    (ho : o.op = .call { callee := .builtin .append, args := #[s, x], argTypes := #[t, t] })
    (base : Nat) (e : TypeId) (i : TypeInfo) (z : Value) (size bytes : Nat) (ht : P.underlying t = some (.slice e)) (hi : P.info? e = some i) (hz : i.zero = some z)
    (hsize : i.size = size) (hby : i.bytes = bytes) (hzs : z.cells.size = size) (hsz : 0 < size)
    (n : Nat) (xs : List Value) (hown : w.ownsRow base e size (a.eval s) n xs)
    (A : Option Addr) (m c : Nat) (news : List Value) (hx : a.eval x = .slice A m c) (hl : news.length = m * size) (hnews : Lies w A m c news) (h1 : ∀ u ∈ news, u.oneCell' = true)
    (h63 : n + m ≤ maxLen) (hbytes : (n + m) * bytes ≤ 140737488355328) (hbase : base ≤ w.heap.size)
    (h : ∀ v' w', w'.ownsRow base e size v' (n + m) (xs ++ news) → w.grownBy w' (a.eval s).ownBlock → (v'.ownBlock = (a.eval s).ownBlock ∨ v'.ownBlock = some w.heap.size) → K (a.put o.dst v') w') : o.wp P a w K Q := by
  rcases A with _ | ad
  · obtain ⟨rfl, rfl⟩ := hnews.1 rfl
    obtain rfl : news = [] := List.eq_nil_of_length_eq_zero (by omega)
    have hr := run_append_owned_none (P := P) (w := w) base t o.type e i size ht hi _ n xs hown
    unfold Oper.wp execOp
    simp only [ho, resolve, invoke, builtin, Sem.run_bind, Sem.run_pure, Result.andThen_ok, List.map_toArray, List.map_cons, List.map_nil, hx, hr]
    exact h _ w (by simpa using hown) (World.grownBy.refl _ _) (Or.inl rfl)
  · obtain ⟨v', w', hr, h2, h3, _, h5⟩ := run_append_own_at (P := P) w base t o.type e i z size bytes ht hi hz hsize hby hzs hsz _ n xs hown ad m c news hl (hnews.2 ad rfl) h1 h63 hbytes hbase
    unfold Oper.wp execOp
    simp only [ho, resolve, invoke, builtin, Sem.run_bind, Sem.run_pure, Result.andThen_ok, List.map_toArray, List.map_cons, List.map_nil, hx, hr]
    exact h v' w' h2 h3 h5

/-- A leaf with one entry more, behind all. -/
theorem grow_ok {s : ND} (h : s.ok = true) (hl : s.leaf = true) (t u : List UInt8) :
    (ND.mk true (s.keys ++ [t]) (s.vals ++ [u]) []).ok = ((Op.bytesLess (s.keys.getLastD []) t && decide (t.length ≤ 120)) && decide (u.length ≤ 100)) := by
  obtain ⟨h1, h2, h3⟩ := ND.ok_leaf h hl
  unfold ND.ok
  rw [if_pos rfl]
  show (ND.rise [] (s.keys ++ [t]) && ND.leafB ⟨true, s.keys ++ [t], s.vals ++ [u], []⟩) = _
  rw [ND.rise_snoc, ND.ok_rise h, Bool.true_and]
  congr 1
  unfold ND.leafB
  have h4 : s.vals.all ND.valB = true := h2
  rw [List.all_append, h4]
  simp [h1, ND.valB]
theorem grow_size {s : ND} (h : s.ok = true) (hl : s.leaf = true) (t u : List UInt8) : (ND.mk true (s.keys ++ [t]) (s.vals ++ [u]) []).size = s.size + 2 + t.length + u.length := by
  obtain ⟨_, _, h3⟩ := ND.ok_leaf h hl
  unfold ND.size
  rw [ND.tsz_snoc, ND.tsz_snoc, h3]
  simp
  omega
theorem grown_ln {w : World} {base g n c : Nat} {l : List (List UInt8)} {x : ByteArray} (h : w.ownsRow base 9 1 (.slice (some ⟨g, 0, none⟩) (n + 1) c) (n + 1) (strVals l ++ [.string x])) : Ln w 1 (some ⟨g, 0, none⟩) (n + 1) c (strVals (l ++ [x.toList])) := by
  obtain ⟨A, c', e, _, hl⟩ := Ln.of_own h
  injection e with e1 _ e3
  subst e1 e3
  have e : strVals (l ++ [x.toList]) = strVals l ++ [.string x] := by
    rw [strVals_append]
    show _ ++ [Value.string (tb x.toList)] = _
    rw [tb_back]
  rw [e]
  exact hl
theorem last_of {l : List (List UInt8)} {n : Nat} {t : List UInt8} (hn : l.length = n) (hp : 0 < n) (h : l[n - 1]? = some t) : l.getLastD [] = t := by
  have := (rise_next h).2
  rw [List.take_of_length_le (by omega)] at this
  exact this

set_option maxRecDepth 20000 in
theorem strInfo : (Try.prog.info? 9).map (fun i => (i.zero, i.size, i.bytes)) = some (some (.string ⟨#[]⟩), 1, 16) := by kernel_rfl

set_option maxRecDepth 20000 in
set_option maxHeartbeats 25600000 in
theorem walk {W : World} (s : ND) (A : Option Addr) (n c : Nat) (B : Option Addr) (m d : Nat) (C : Option Addr) (k ec : Nat) (hs : Nd W A n c B m d C k ec s) (x y : ByteArray) :
    Calls Try.prog 7 #[.agg #[.bool s.leaf, .slice A n c, .slice B m d, .slice C k ec], .string x, .string y] W fun e w' => e = .returned (.bool true) ∧ Below W.heap.size W w' := by
  have b0 := below_one W (.cells #[.bool s.leaf, .slice A n c, .slice B m d, .slice C k ec] 26)
  have M0 : Hid (Mid W (W.alloc (.cells #[.bool s.leaf, .slice A n c, .slice B m d, .slice C k ec] 26)) s A n c B m d C k ec) := Lib.hid ⟨nbox_new W _ _ _ _, hs.kept b0, b0⟩
  clear hs b0
  go_enter Try.func7, Try.ntmps7
  go_upto_region 1 with fail
  generalize W.alloc (.cells #[.bool s.leaf, .slice A n c, .slice B m d, .slice C k ec] 26) = w0 at *
  go_wp2_with fail
  refine (awake_any _).mono ?_
  rintro e w1 ⟨rfl, b1⟩
  have M1 := Lib.hid (M0.out.next b1)
  obtain ⟨c0, c1, c2, c3⟩ := M1.out.box.cells
  clear b1 M0
  go_wp2_with fail
  refine (nfew_any _ A n c B m d C k ec s w1 M1.out.nd).mono ?_
  rintro e w2 ⟨r, rfl, hr, b2⟩
  have M2 := Lib.hid (M1.out.next b2)
  clear b2 M1 c0 c1 c2 c3
  obtain ⟨c0, c1, c2, c3⟩ := M2.out.box.cells
  cases r with
  | false =>
    clear hr
    go_wp2_with fail
    go_ret
    exact ⟨rfl, M2.out.below⟩
  | true =>
    have hS := hr rfl
    have HSm := Lib.hid hS
    clear hr hS
    have hn : n ≤ 300 := by have := HSm.out.1; rw [M2.out.nd.kn] at this; exact this
    have hmm : m ≤ 300 := by have := HSm.out.2.1; rw [M2.out.nd.vn] at this; exact this
    have hkk : k ≤ 300 := by have := HSm.out.2.2.1; rw [M2.out.nd.cn] at this; exact this
    have HZZ : Hid (s.size ≤ 200000) := Lib.hid HSm.out.size
    cases hlf : s.leaf with
    | false =>
      rw [hlf] at c0
      go_wp2_with fail
      go_ret
      exact ⟨rfl, M2.out.below⟩
    | true =>
      rw [hlf] at c0
      have HLF := Lib.hid hlf
      clear hlf
      by_cases hx : x.size ≤ 300
      case neg =>
        have hx2 : 300 < x.size := by omega
        clear hx
        go_wp2_with fail
        go_ret
        exact ⟨rfl, M2.out.below⟩
      by_cases hy : y.size ≤ 300
      case neg =>
        have hy2 : 300 < y.size := by omega
        clear hy
        go_wp2_with fail
        go_ret
        exact ⟨rfl, M2.out.below⟩
      go_wp2_with fail
      refine (ncheck_any true A n c B m d C k ec s w2 M2.out.nd HLF.out (by omega) (by omega) (by omega)).mono ?_
      rintro e w3 ⟨rfl, b3⟩
      have M3 := Lib.hid (M2.out.next b3)
      clear b3 M2 c0 c1 c2 c3
      obtain ⟨c0, c1, c2, c3⟩ := M3.out.box.cells
      rw [HLF.out] at c0
      cases hok : s.ok with
      | false =>
        rw [ncheck_bad hok]
        clear hok
        go_wp2_with fail
        go_ret
        exact ⟨rfl, M3.out.below⟩
      | true =>
        rw [ncheck_good hok]
        have HO := Lib.hid hok
        clear hok
        go_wp2_with fail
        have hlk : (strVals s.keys).length = n * 1 := by rw [strVals_length, M3.out.nd.kn]; omega
        have hlv : (strVals s.vals).length = m * 1 := by rw [strVals_length, M3.out.nd.vn]; omega
        have HLK := Lib.hid hlk
        have HLV := Lib.hid hlv
        clear hlk hlv
        go_cut [8] (fun s8 wx => Hid (GD w3 wx s8 n m (strVals s.keys) (strVals s.vals) x y))
        case first =>
          rename_i JJ KK HJ HM
          have hlk := HLK.out
          have hlv := HLV.out
          obtain ⟨i0, hi0, hz0, hz1, hz2⟩ := info_parts strInfo
          refine wp_region_from (by kernel_rfl) (fun a0 L a w => ∃ p, GI w3 a0 W.heap.size A B n c m d (strVals s.keys) (strVals s.vals) x y p L a w) (by kernel_rfl) ?_ ?_ ?_ ?_
          · rintro L L' a w e ⟨p, h⟩
            exact ⟨p, h.ext e⟩
          · clear HJ HM
            intro L a w i o h ho h0 hd
            obtain ⟨p, h⟩ := h
            have hi : i < 17 := (Array.getElem?_eq_some_iff.1 ho).1
            have e3 : a.eval (.tmp 3) = .pointer (some ⟨W.heap.size, 0, none⟩) := (h.ev 3 (by omega) (by omega)).trans rfl
            have e1 : a.eval (.tmp 1) = .string x := (h.ev 1 (by omega) (by omega)).trans rfl
            have e2 : a.eval (.tmp 2) = .string y := (h.ev 2 (by omega) (by omega)).trans rfl
            match i, hi, ho, h0, hd with
            | 0, _, ho, h0, hd =>
              obtain rfl := Option.some.inj ho
              refine wpOp_step rfl (fun K hK => ?_)
              refine (if_pos (by rfl)).mpr ?_
              go_simp
              exact hK _ _ ⟨_, h.step0 h0⟩
            | 1, _, ho, h0, hd =>
              obtain rfl := Option.some.inj ho
              refine wpOp_step rfl (fun K hK => ?_)
              refine (if_pos (by rfl)).mpr ?_
              have q3 := got e3
              go_simp
              exact hK _ _ ⟨_, h.step1⟩
            | 2, _, ho, h0, hd =>
              obtain rfl := Option.some.inj ho
              refine wpOp_step rfl (fun K hK => ?_)
              refine (if_pos (by rfl)).mpr ?_
              have d1 : L 1 = true := hd ⟨1, .data⟩ (by simp) rfl
              have q := got (h.t1 d1)
              have r := (h.below.cell (World.block_lt_of_cell? _ _ c1)).trans c1
              clear c0 c1 c2 c3
              go_simp
              exact hK _ _ ⟨_, h.step2⟩
            | 3, _, ho, h0, hd =>
              obtain rfl := Option.some.inj ho
              refine wpOp_step rfl (fun K hK => ?_)
              refine (if_pos (by rfl)).mpr ?_
              have d0 : L 0 = true := hd ⟨0, .data⟩ (by simp) rfl
              have d2 : L 2 = true := hd ⟨2, .data⟩ (by simp) rfl
              refine wp_append_at (.tmp 35) (.tmp 37) 23 rfl w3.heap.size 9 i0 _ 1 16 Try.underlying23 hi0 hz0 hz1 hz2 rfl (by decide) 0 [] (h.rw_.row _ _ _ _ (h.k0 d0 h0)) A n c (strVals s.keys) (h.t2 d2) hlk (blies3 h.below M3.out.nd.ke) (strVals_one _) (by unfold maxLen; omega) (by omega) h.below.size (fun v1 w1 o1 g1 t1 => ?_)
              refine hK _ _ ⟨_, h.step3 d0 h0 (by simpa using o1) g1 t1⟩
            | 4, _, ho, h0, hd =>
              obtain rfl := Option.some.inj ho
              refine wpOp_step rfl (fun K hK => ?_)
              refine (if_pos (by rfl)).mpr ?_
              have q := got e1
              go_simp
              exact hK _ _ ⟨_, h.step4⟩
            | 5, _, ho, h0, hd =>
              obtain rfl := Option.some.inj ho
              refine wpOp_step rfl (fun K hK => ?_)
              refine (if_pos (by rfl)).mpr ?_
              have d4 : L 4 = true := hd ⟨4, .data⟩ (by simp) rfl
              have q := got (h.t4 d4)
              go_simp
              exact hK _ _ ⟨_, h.step5⟩
            | 6, _, ho, h0, hd =>
              obtain rfl := Option.some.inj ho
              refine wpOp_step rfl (fun K hK => ?_)
              refine (if_pos (by rfl)).mpr ?_
              have d3 : L 3 = true := hd ⟨3, .data⟩ (by simp) rfl
              have d5 : L 5 = true := hd ⟨5, .data⟩ (by simp) rfl
              obtain ⟨g5, cp5, e5, l5⟩ := row_one (h.rw_.row _ _ _ _ (h.s5 d5))
              refine wp_append_at (.tmp 38) (.tmp 40) 23 rfl w3.heap.size 9 i0 _ 1 16 Try.underlying23 hi0 hz0 hz1 hz2 rfl (by decide) n (strVals s.keys) (h.rw_.row _ _ _ _ (h.k3 d3 h0)) (some ⟨g5, 0, none⟩) 1 cp5 [.string x] e5 rfl l5 (by simp [Value.oneCell']) (by unfold maxLen; omega) (by omega) h.below.size (fun v1 w1 o1 g1 t1 => ?_)
              refine hK _ _ ⟨_, h.step6 d3 h0 o1 g1 t1⟩
            | 7, _, ho, h0, hd =>
              obtain rfl := Option.some.inj ho
              refine wpOp_step rfl (fun K hK => ?_)
              refine (if_pos (by rfl)).mpr ?_
              go_simp
              exact hK _ _ ⟨_, h.step7 h0⟩
            | 8, _, ho, h0, hd =>
              obtain rfl := Option.some.inj ho
              refine wpOp_step rfl (fun K hK => ?_)
              refine (if_pos (by rfl)).mpr ?_
              have q3 := got e3
              go_simp
              exact hK _ _ ⟨_, h.step8⟩
            | 9, _, ho, h0, hd =>
              obtain rfl := Option.some.inj ho
              refine wpOp_step rfl (fun K hK => ?_)
              refine (if_pos (by rfl)).mpr ?_
              have d8 : L 8 = true := hd ⟨8, .data⟩ (by simp) rfl
              have q := got (h.t8 d8)
              have r := (h.below.cell (World.block_lt_of_cell? _ _ c2)).trans c2
              clear c0 c1 c2 c3
              go_simp
              exact hK _ _ ⟨_, h.step9⟩
            | 10, _, ho, h0, hd =>
              obtain rfl := Option.some.inj ho
              refine wpOp_step rfl (fun K hK => ?_)
              refine (if_pos (by rfl)).mpr ?_
              have d7 : L 7 = true := hd ⟨7, .data⟩ (by simp) rfl
              have d9 : L 9 = true := hd ⟨9, .data⟩ (by simp) rfl
              refine wp_append_at (.tmp 42) (.tmp 44) 23 rfl w3.heap.size 9 i0 _ 1 16 Try.underlying23 hi0 hz0 hz1 hz2 rfl (by decide) 0 [] (h.rw_.row _ _ _ _ (h.k7 d7 h0)) B m d (strVals s.vals) (h.t9 d9) hlv (blies3 h.below M3.out.nd.va) (strVals_one _) (by unfold maxLen; omega) (by omega) h.below.size (fun v1 w1 o1 g1 t1 => ?_)
              refine hK _ _ ⟨_, h.step10 d7 h0 (by simpa using o1) g1 t1⟩
            | 11, _, ho, h0, hd =>
              obtain rfl := Option.some.inj ho
              refine wpOp_step rfl (fun K hK => ?_)
              refine (if_pos (by rfl)).mpr ?_
              have q := got e2
              go_simp
              exact hK _ _ ⟨_, h.step11⟩
            | 12, _, ho, h0, hd =>
              obtain rfl := Option.some.inj ho
              refine wpOp_step rfl (fun K hK => ?_)
              refine (if_pos (by rfl)).mpr ?_
              have d11 : L 11 = true := hd ⟨11, .data⟩ (by simp) rfl
              have q := got (h.t11 d11)
              go_simp
              exact hK _ _ ⟨_, h.step12⟩
            | 13, _, ho, h0, hd =>
              obtain rfl := Option.some.inj ho
              refine wpOp_step rfl (fun K hK => ?_)
              refine (if_pos (by rfl)).mpr ?_
              have d10 : L 10 = true := hd ⟨10, .data⟩ (by simp) rfl
              have d12 : L 12 = true := hd ⟨12, .data⟩ (by simp) rfl
              obtain ⟨g5, cp5, e5, l5⟩ := row_one (h.rw_.row _ _ _ _ (h.s12 d12))
              refine wp_append_at (.tmp 45) (.tmp 47) 23 rfl w3.heap.size 9 i0 _ 1 16 Try.underlying23 hi0 hz0 hz1 hz2 rfl (by decide) m (strVals s.vals) (h.rw_.row _ _ _ _ (h.k10 d10 h0)) (some ⟨g5, 0, none⟩) 1 cp5 [.string y] e5 rfl l5 (by simp [Value.oneCell']) (by unfold maxLen; omega) (by omega) h.below.size (fun v1 w1 o1 g1 t1 => ?_)
              refine hK _ _ ⟨_, h.step13 d10 h0 o1 g1 t1⟩
            | 14, _, ho, h0, hd =>
              obtain rfl := Option.some.inj ho
              refine wpOp_step rfl (fun K hK => ?_)
              refine (if_pos (by rfl)).mpr ?_
              have d6 : L 6 = true := hd ⟨6, .data⟩ (by simp) rfl
              have d13 : L 13 = true := hd ⟨13, .data⟩ (by simp) rfl
              have H14 := h.step14 d6 d13 h0
              obtain ⟨g41, c41, z41, _, _⟩ := (h.rw_.row _ _ _ _ (h.k6 d6)).form (by omega)
              obtain ⟨g48, c48, z48, _, _⟩ := (h.rw_.row _ _ _ _ (h.k13 d13)).form (by omega)
              rw [z41, z48] at H14
              have q41 := got z41
              have q48 := got z48
              clear z41 z48
              go_simp
              exact hK _ _ ⟨_, H14⟩
            | 15, _, ho, h0, hd =>
              obtain rfl := Option.some.inj ho
              refine wpOp_step rfl (fun K hK => ?_)
              refine (if_pos (by rfl)).mpr ?_
              go_simp
              exact hK _ _ ⟨_, h.step15 h0⟩
            | 16, _, ho, h0, hd =>
              obtain rfl := Option.some.inj ho
              refine wpOp_step rfl (fun K hK => ?_)
              refine (if_pos (by rfl)).mpr ?_
              have d15 : L 15 = true := hd ⟨15, .data⟩ (by simp) rfl
              have d14 : L 14 = true := hd ⟨14, .data⟩ (by simp) rfl
              obtain ⟨g, z8, hb, _⟩ := h.b15 d15 h0
              have z49 := h.b14 d14
              have H16 := h.step16 d14 d15 h0 z8 undef
              obtain ⟨d6, d13⟩ := h.o14 d14
              obtain ⟨g41, c41, z41, _, _⟩ := (h.rw_.row _ _ _ _ (h.k6 d6)).form (by omega)
              obtain ⟨g48, c48, z48, _, _⟩ := (h.rw_.row _ _ _ _ (h.k13 d13)).form (by omega)
              rw [z41, z48] at H16 z49
              have q8 := got z8
              have q49 := got z49
              obtain ⟨x0, x1, x2, x3⟩ := hb.cells
              obtain ⟨f0, f1, f2, f3⟩ := hb.free
              clear z41 z48 z49 z8 hb c0 c1 c2 c3
              go_simp
              exact hK _ _ ⟨_, H16⟩
          · rintro L a w ⟨p, h⟩ hl
            obtain ⟨g, k, v, d1, d2, d3, d4, d5, d6, sz, df, ev⟩ := h.done hl
            have E := spread (a := a) (fun j => cond (Nat.blt j 8 || Nat.beq j 9) (Act.eval _ (.tmp j)) (a.eval (.tmp j))) sz (fun j hj => by
              cases hc : (Nat.blt j 8 || Nat.beq j 9) with
              | true =>
                have : j < 8 ∨ j = 9 := by
                  rcases (Bool.or_eq_true _ _).mp hc with h | h
                  · have h2 : j ≤ 7 := (by simpa [Nat.blt] using h)
                    exact Or.inl (by omega)
                  · exact Or.inr (Nat.eq_of_beq_eq_true h)
                exact (ev j (by omega) (by omega)).symm
              | false => rfl) df
            show KK a w
            refine HM _ _ (Met.intro (HJ _ _ ?_))
            (repeat apply Exists.intro)
            refine ⟨?rel, ?fr⟩
            case fr => exact E
            case rel => exact Lib.hid ⟨g, k, v, d1, d2, d3, d4, d5, d6⟩
          · exact ⟨_, GI.begin_ rfl (Below.refl _ _).drew⟩
        case rest =>
          clear c0 c1 c2 c3
          obtain ⟨g, kv, vv, rfl, hg, hb, ok, ov, bb⟩ := hcut.out
          clear hcut
          obtain ⟨gk, ck, rfl, hgk, _⟩ := ok.form (by omega)
          obtain ⟨gv, cv, rfl, hgv, _⟩ := ov.form (by omega)
          have M4 := Lib.hid (M3.out.next bb)
          have HB := Lib.hid hb
          have HG := Lib.hid hg
          obtain ⟨c0, c1, c2, c3⟩ := M4.out.box.cells
          rw [HLF.out] at c0
          have HK := Lib.hid ok
          have HV := Lib.hid ov
          clear bb hb hg ok ov hgk hgv M3
          obtain ⟨s1, hs1⟩ : ∃ s1, s1 = ND.mk true (s.keys ++ [x.toList]) (s.vals ++ [y.toList]) [] := ⟨_, rfl⟩
          obtain ⟨q, hq⟩ : ∃ q, s1.ok = q := ⟨_, rfl⟩
          have HF : Hid (q = ((Op.bytesLess (s.keys.getLastD []) x.toList && decide (x.size ≤ 120)) && decide (y.size ≤ 100))) := Lib.hid (by rw [← hq, hs1, grow_ok HO.out HLF.out, toList_length, toList_length])
          have HQ := Lib.hid hq
          have HS1 := Lib.hid hs1
          clear hq hs1
          go_upto_region 5 with fail
          go_cut [9] (fun s9 wx => s9 = .bool q ∧ wc = wx)
          case first =>
            clear HS1 HQ
            by_cases hx1 : 1 ≤ x.size
            case neg =>
              have HW : Hid (q = false) := Lib.hid (by
                rw [HF.out]
                cases hb : Op.bytesLess (s.keys.getLastD []) x.toList with
                | false => rfl
                | true =>
                  exfalso
                  have := ND.less_len hb
                  rw [toList_length] at this
                  omega)
              have hx1' : x.size < 1 := by omega
              clear hx1
              clear HF
              go_wp2_with fail
              all_goals (
                go_meet
                exact ⟨by rw [HW.out], rfl⟩)
            by_cases hx2 : x.size ≤ 120
            case neg =>
              have HW : Hid (q = false) := Lib.hid (by rw [HF.out, decide_eq_false hx2]; simp)
              have hx2' : 120 < x.size := by omega
              clear hx2
              clear HF
              go_wp2_with fail
              all_goals (
                go_meet
                exact ⟨by rw [HW.out], rfl⟩)
            by_cases hy1 : y.size ≤ 100
            case neg =>
              have HW : Hid (q = false) := Lib.hid (by rw [HF.out, decide_eq_false hy1]; simp)
              have hy1' : 100 < y.size := by omega
              clear hy1
              clear HF
              go_wp2_with fail
              all_goals (
                go_meet
                exact ⟨by rw [HW.out], rfl⟩)
            by_cases hn0 : n = 0
            case pos =>
              have HW : Hid (q = true) := Lib.hid (by
                have e : s.keys = [] := List.eq_nil_of_length_eq_zero (by rw [M4.out.nd.kn]; exact hn0)
                rw [HF.out, e]
                simp [ND.less_nil, toList_length, hx1, hx2, hy1])
              subst hn0
              clear HF
              go_wp2_with fail
              all_goals (
                go_meet
                exact ⟨by rw [HW.out], rfl⟩)
            case neg =>
              have hnp : 0 < n := by omega
              have hnb : ((n : Int) == 0) = false := by simpa using hn0
              obtain ⟨b, off, p, rfl, hv, cc⟩ := M4.out.nd.ke.strAt (k := n - 1) (by omega)
              have HG2 : Hid (q = Op.bytesLess p.toList x.toList) := Lib.hid (by
                rw [HF.out, last_of M4.out.nd.kn hnp hv, decide_eq_true hx2, decide_eq_true hy1]; simp)
              clear hv
              have i1 : (0 : Int) ≤ (n : Int) - 1 := by omega
              have i2 : ((n : Int) - 1).toNat = n - 1 := by omega
              have i3 : (n : Int) - 1 < n := by omega
              have i4 : n - 1 < n := by omega
              clear hn0
              cases hl : Op.bytesLess p.toList x.toList with
              | false =>
                have HW : Hid (q = false) := Lib.hid (by rw [HG2.out, hl])
                clear HG2
                clear HF
                go_wp2_with fail
                all_goals (
                  go_meet
                  exact ⟨by rw [HW.out], rfl⟩)
              | true =>
                have HW : Hid (q = true) := Lib.hid (by rw [HG2.out, hl])
                clear HG2
                clear HF
                go_wp2_with fail
                all_goals (
                  go_meet
                  exact ⟨by rw [HW.out], rfl⟩)
          case rest =>
            obtain ⟨rfl, rfl⟩ := hcut
            clear HF
            have NM : Nd wc (some ⟨gk, 0, none⟩) (n + 1) ck (some ⟨gv, 0, none⟩) (m + 1) cv none 0 0 s1 := by
              rw [HS1.out]
              exact ⟨grown_ln HK.out, grown_ln HV.out, Ln.none_ _ 1⟩
            have hl1 : s1.leaf = true := by rw [HS1.out]
            have HL1 := Lib.hid hl1
            obtain ⟨Z, hZ⟩ : ∃ Z, s.size = Z := ⟨_, rfl⟩
            obtain ⟨Y, hY⟩ : ∃ Y, s1.size = Y := ⟨_, rfl⟩
            have hYZ : Y = Z + 2 + x.size + y.size := by rw [← hY, ← hZ, HS1.out, grow_size HO.out HLF.out, toList_length, toList_length]
            have hZ2 : Z ≤ 200000 := by rw [← hZ]; exact HZZ.out
            have HZ := Lib.hid hZ
            have HY := Lib.hid hY
            have PZ : Hid (s.size ≤ 1000000000) := Lib.hid (by rw [hZ]; omega)
            have PY : Hid (s1.size ≤ 1000000000) := Lib.hid (by rw [hY]; omega)
            have a1 : IntKind.i64.wrap ((Z : Int) + 2) = (Z : Int) + 2 := IntWalk.i64_in _ (by omega)
            have a2 : IntKind.i64.wrap ((Z : Int) + 2 + (x.size : Int)) = (Z : Int) + 2 + (x.size : Int) := IntWalk.i64_in _ (by omega)
            have a3 : IntKind.i64.wrap ((Z : Int) + 2 + (x.size : Int) + (y.size : Int)) = (Z : Int) + 2 + (x.size : Int) + (y.size : Int) := IntWalk.i64_in _ (by omega)
            have a4 : ((Y : Int) == (Z : Int) + 2 + (x.size : Int) + (y.size : Int)) = true := by rw [beq_iff_eq]; omega
            have n1 : n + 1 ≤ 1000000000 := by omega
            have m1 : m + 1 ≤ 1000000000 := by omega
            have k1 : 0 ≤ 1000000000 := by omega
            clear hYZ hZ hY hl1 hZ2
            have KL : Hid (∀ X : World, Below wc.heap.size wc X → Nd X A n c B m d C k ec s) := Lib.hid (fun X hb => M4.out.nd.kept hb)
            have KM : Hid (∀ X : World, Below wc.heap.size wc X → Nd X (some ⟨gk, 0, none⟩) (n + 1) ck (some ⟨gv, 0, none⟩) (m + 1) cv none 0 0 s1) := Lib.hid (fun X hb => NM.kept hb)
            have KK : Hid (∀ X : World, Below wc.heap.size wc X → X.cell? ⟨W.heap.size, 0, none⟩ = some (.bool true) ∧ X.cell? ⟨W.heap.size, 1, none⟩ = some (.slice A n c) ∧ X.cell? ⟨W.heap.size, 2, none⟩ = some (.slice B m d) ∧ X.cell? ⟨W.heap.size, 3, none⟩ = some (.slice C k ec) ∧ X.cell? ⟨g, 0, none⟩ = some (.bool true) ∧ X.cell? ⟨g, 1, none⟩ = some (.slice (some ⟨gk, 0, none⟩) (n + 1) ck) ∧ X.cell? ⟨g, 2, none⟩ = some (.slice (some ⟨gv, 0, none⟩) (m + 1) cv) ∧ X.cell? ⟨g, 3, none⟩ = some (.slice none 0 0)) := Lib.hid (fun X hb => by
              obtain ⟨h0, h1, h2, h3⟩ := (M4.out.box.kept hb).cells
              obtain ⟨j0, j1, j2, j3⟩ := (HB.out.kept hb).cells
              rw [HLF.out] at h0
              exact ⟨h0, h1, h2, h3, j0, j1, j2, j3⟩)
            have BD := Lib.hid ((Below.refl wc.heap.size wc).drew)
            have K0 := KK.out _ BD.out
            have BW := Lib.hid M4.out.below
            clear M4 HK HV HB HG c0 c1 c2 c3 NM HS1
            cases q with
            | false =>
              have HC : Hid (s1.checkE = 100) := Lib.hid (ncheck_bad HQ.out)
              clear HQ
              go_wp2_with fail
              go_region_held3 (fun X => X.cell? ⟨W.heap.size, 0, none⟩ = some (.bool true) ∧ X.cell? ⟨W.heap.size, 1, none⟩ = some (.slice A n c) ∧ X.cell? ⟨W.heap.size, 2, none⟩ = some (.slice B m d) ∧ X.cell? ⟨W.heap.size, 3, none⟩ = some (.slice C k ec) ∧ X.cell? ⟨g, 0, none⟩ = some (.bool true) ∧ X.cell? ⟨g, 1, none⟩ = some (.slice (some ⟨gk, 0, none⟩) (n + 1) ck) ∧ X.cell? ⟨g, 2, none⟩ = some (.slice (some ⟨gv, 0, none⟩) (m + 1) cv) ∧ X.cell? ⟨g, 3, none⟩ = some (.slice none 0 0))
                (first | exact K3 | exact K2 | exact K1 | exact K0)
                (first
                  | (go_at_call 13; (with_reducible refine (ncheck_any true _ (n + 1) _ _ (m + 1) _ _ 0 _ s1 _ (KM.out _ (by first | exact Bb.out | exact Ba.out | exact BD.out)) HL1.out n1 m1 k1).mono ?_); rintro e1 wa ⟨rfl, ba⟩; rw [HC.out]; first | (have Bc := Lib.hid (chainN ba Bb.out); have K3 := KK.out _ Bc.out) | (have Bb := Lib.hid (chainN ba Ba.out); have K2 := KK.out _ Bb.out) | (have Ba := Lib.hid (chainN ba BD.out); have K1 := KK.out _ Ba.out))
                  | (go_at_call 15; (with_reducible refine (nsize_any true _ _ _ _ _ _ _ _ _ s1 _ (KM.out _ (by first | exact Bb.out | exact Ba.out | exact BD.out)) PY.out).mono ?_); rintro e1 wa ⟨rfl, ba⟩; rw [HY.out]; first | (have Bc := Lib.hid (chainN ba Bb.out); have K3 := KK.out _ Bc.out) | (have Bb := Lib.hid (chainN ba Ba.out); have K2 := KK.out _ Bb.out) | (have Ba := Lib.hid (chainN ba BD.out); have K1 := KK.out _ Ba.out))
                  | (go_at_call 15; (with_reducible refine (nsize_any true _ _ _ _ _ _ _ _ _ s _ (KL.out _ (by first | exact Bb.out | exact Ba.out | exact BD.out)) PZ.out).mono ?_); rintro e1 wa ⟨rfl, ba⟩; rw [HZ.out]; first | (have Bc := Lib.hid (chainN ba Bb.out); have K3 := KK.out _ Bc.out) | (have Bb := Lib.hid (chainN ba Ba.out); have K2 := KK.out _ Bb.out) | (have Ba := Lib.hid (chainN ba BD.out); have K1 := KK.out _ Ba.out))
                  | fail)
              all_goals (
                have BE := Lib.hid (chainN Bc.out BW.out)
                clear K0 K1 K2 K3
                go_wp2_with fail
                go_ret
                exact ⟨rfl, BE.out⟩)
            | true =>
              have HC : Hid (s1.checkE = 0) := Lib.hid (ncheck_good HQ.out)
              clear HQ
              go_wp2_with fail
              go_region_held3 (fun X => X.cell? ⟨W.heap.size, 0, none⟩ = some (.bool true) ∧ X.cell? ⟨W.heap.size, 1, none⟩ = some (.slice A n c) ∧ X.cell? ⟨W.heap.size, 2, none⟩ = some (.slice B m d) ∧ X.cell? ⟨W.heap.size, 3, none⟩ = some (.slice C k ec) ∧ X.cell? ⟨g, 0, none⟩ = some (.bool true) ∧ X.cell? ⟨g, 1, none⟩ = some (.slice (some ⟨gk, 0, none⟩) (n + 1) ck) ∧ X.cell? ⟨g, 2, none⟩ = some (.slice (some ⟨gv, 0, none⟩) (m + 1) cv) ∧ X.cell? ⟨g, 3, none⟩ = some (.slice none 0 0))
                (first | exact K3 | exact K2 | exact K1 | exact K0)
                (first
                  | (go_at_call 13; (with_reducible refine (ncheck_any true _ (n + 1) _ _ (m + 1) _ _ 0 _ s1 _ (KM.out _ (by first | exact Bb.out | exact Ba.out | exact BD.out)) HL1.out n1 m1 k1).mono ?_); rintro e1 wa ⟨rfl, ba⟩; rw [HC.out]; first | (have Bc := Lib.hid (chainN ba Bb.out); have K3 := KK.out _ Bc.out) | (have Bb := Lib.hid (chainN ba Ba.out); have K2 := KK.out _ Bb.out) | (have Ba := Lib.hid (chainN ba BD.out); have K1 := KK.out _ Ba.out))
                  | (go_at_call 15; (with_reducible refine (nsize_any true _ _ _ _ _ _ _ _ _ s1 _ (KM.out _ (by first | exact Bb.out | exact Ba.out | exact BD.out)) PY.out).mono ?_); rintro e1 wa ⟨rfl, ba⟩; rw [HY.out]; first | (have Bc := Lib.hid (chainN ba Bb.out); have K3 := KK.out _ Bc.out) | (have Bb := Lib.hid (chainN ba Ba.out); have K2 := KK.out _ Bb.out) | (have Ba := Lib.hid (chainN ba BD.out); have K1 := KK.out _ Ba.out))
                  | (go_at_call 15; (with_reducible refine (nsize_any true _ _ _ _ _ _ _ _ _ s _ (KL.out _ (by first | exact Bb.out | exact Ba.out | exact BD.out)) PZ.out).mono ?_); rintro e1 wa ⟨rfl, ba⟩; rw [HZ.out]; first | (have Bc := Lib.hid (chainN ba Bb.out); have K3 := KK.out _ Bc.out) | (have Bb := Lib.hid (chainN ba Ba.out); have K2 := KK.out _ Bb.out) | (have Ba := Lib.hid (chainN ba BD.out); have K1 := KK.out _ Ba.out))
                  | fail)
              all_goals (
                have BE := Lib.hid (chainN Bc.out BW.out)
                clear K0 K1 K2 K3
                go_wp2_with fail
                go_ret
                exact ⟨rfl, BE.out⟩)

set_option maxRecDepth 100000 in
theorem lifted (os : Os) (started : os.Started) (H : Type) (enc : TypeId × Value → H) :
    ReturnsInHanded {} Try.checked os 7 .any (Rows.nodeGrowsSpec.pre6 enc Try.prog Try.f7 Rows.nodeGrowsRow.domain false)
      (Rows.nodeGrowsSpec.post enc Try.prog Try.f7 false true false false) := by
  refine lift_law (C := Try.checked) (tb := 4) ownKnobs started (by kernel_rfl) Try.func7
    (ChangeSpec.witness6 (enc := enc) (C := Try.checked) false ⟨#[], #[.agg #[.bool false, .slice none 0 0, .slice none 0 0, .slice none 0 0], .string ⟨#[]⟩, .string ⟨#[]⟩], []⟩ 8 (by kernel_rfl) (by kernel_rfl) (by kernel_rfl) (by kernel_rfl))
    laidOut ?_ rfl rfl Try.underlying4 ?_ ?_
  · intro t ht
    rw [Try.params7] at ht
    simp only [List.mem_cons, List.not_mem_nil, or_false] at ht
    rcases ht with rfl | rfl | rfl <;> exact ⟨by kernel_rfl, of_decide_eq_true (by kernel_rfl)⟩
  · intro vs ds W p hA
    rw [Try.params7] at hA
    obtain ⟨v0, vs0, d0, ds0, p0, q0, ha, rfl, rfl, h0, r0⟩ := trodAll_cons hA
    obtain ⟨v1, vs1, d1, ds1, p1, q1, rfl, rfl, rfl, h1, r1⟩ := trodAll_cons r0
    obtain ⟨v2, vs2, d2, ds2, p2, q2, rfl, rfl, rfl, h2, r2⟩ := trodAll_cons r1
    obtain ⟨rfl, rfl, rfl⟩ := trodAll_nil r2
    rfl
  · intro W base args ds p hval hA
    rw [Try.params7] at hA hval
    obtain ⟨v0, vs0, d0, ds0, p0, q0, ha, rfl, rfl, h0, r0⟩ := trodAll_cons hA
    obtain ⟨v1, vs1, d1, ds1, p1, q1, rfl, rfl, rfl, h1, r1⟩ := trodAll_cons r0
    obtain ⟨v2, vs2, d2, ds2, p2, q2, rfl, rfl, rfl, h2, r2⟩ := trodAll_cons r1
    obtain ⟨rfl, rfl, rfl⟩ := trodAll_nil r2
    obtain rfl : args = #[v0, v1, v2] := by cases args; simp_all
    obtain ⟨s0, A0, n0, c0, B0, m0, d0, C0, k0, e0, rfl, hs0, _⟩ := open_node (hval 0 _ v0 rfl rfl) h0
    obtain ⟨t1, rfl⟩ := open_text (hval 1 _ v1 rfl rfl) h1
    obtain ⟨t2, rfl⟩ := open_text (hval 2 _ v2 rfl rfl) h2
    exact walk s0 A0 n0 c0 B0 m0 d0 C0 k0 e0 hs0 t1 t2

/-- The statement. -/
theorem proved : Rows.NodeGrowsSaid :=
  OpenClaim.holds_of_wide 7 Try.f7 rfl rfl rfl rfl rfl rfl rfl ⟨rfl, rfl, rfl, rfl, rfl⟩ rfl rfl rfl rfl rfl (by kernel_rfl) Try.func7 (by kernel_rfl)
    (of_decide_eq_true (by kernel_rfl)) (by unfold Func.isWrapper; first | (rw [if_pos (by decide +kernel)]; kernel_rfl) | (rw [if_neg (by decide +kernel)]; exact ⟨rfl, rfl⟩))
    (fun os started H enc _ => lifted os started H enc)
#print axioms proved
end Go.Proofs.Ytgnlmbelaempcaa.nodeGrows
