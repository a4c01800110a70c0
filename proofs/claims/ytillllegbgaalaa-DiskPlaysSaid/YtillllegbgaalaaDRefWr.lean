/-
  What the document's own Write and Turn come to.
-/
import Derived.Test.YtillllegbgaalaaDRefFl
import Derived.Test.YtillllegbgaalaaDTurn
import Derived.Deep.RegionHeld3
import Derived.Deep.AppendLies
namespace Go.Proofs.Ytillllegbgaalaa
open Go.RowKit Go.Maps

theorem row_shape {w : World} {base : Nat} {e : TypeId} {sz : Nat} {v : Value} {n : Nat} {xs : List Value} (h : w.ownsRow base e sz v n xs) : ∃ A c, v = .slice A n c := by
  rcases h.2 with ⟨rfl, h0⟩ | ⟨g, cap, cur, rfl, _⟩
  · exact ⟨none, 0, by rw [h0]⟩
  · exact ⟨_, _, rfl⟩

/-- append, as one step of a drawn region. -/
theorem step_append_lay {P : Program} (w : World) {ops : Array Oper} {o : Oper} {a : Act} {K : Act → World → Prop} {Q : Exit → Act → World → Prop} {E : Prop} (hgd : o.guard = none) (s x : Operand) (t : TypeId)
    (ho : o.op = .call { callee := .builtin .append, args := #[s, x], argTypes := #[t, t] })
    (base : Nat) (e : TypeId) (i : TypeInfo) (z : Value) (size bytes : Nat) (ht : P.underlying t = some (.slice e)) (hi : P.info? e = some i) (hz : i.zero = some z)
    (hsize : i.size = size) (hby : i.bytes = bytes) (hzs : z.cells.size = size) (hsz : 0 < size)
    (v : Value) (n : Nat) (xs : List Value) (hs : a.eval s = v) (hown : w.ownsRow base e size v n xs)
    (A : Option Addr) (m c : Nat) (news : List Value) (hx : a.eval x = .slice A m c) (hl : news.length = m * size) (hnews : Lies w A m c news) (h1 : ∀ u ∈ news, u.oneCell' = true)
    (h63 : n + m ≤ maxLen) (hbytes : (n + m) * bytes ≤ 140737488355328) (hbase : base ≤ w.heap.size)
    (h : ∀ A' c' w', w'.ownsRow base e size (.slice A' (n + m) c') (n + m) (xs ++ news) → w.grownBy w' v.ownBlock → K (a.put o.dst (.slice A' (n + m) c')) w') :
    if Region.wanted o (yielded ops a.tmps) = true then Oper.wp P o a w K Q else E := by
  have hw : Region.wanted o (yielded ops a.tmps) = true := by simp [Region.wanted, hgd]
  rw [if_pos hw]
  rcases A with _ | ad
  · obtain ⟨rfl, rfl⟩ := hnews.1 rfl
    obtain rfl : news = [] := List.eq_nil_of_length_eq_zero (by omega)
    have hrun := run_append_owned_none (P := P) (w := w) base t o.type e i size ht hi v n xs hown
    obtain ⟨A', c', rfl⟩ := row_shape hown
    unfold Oper.wp
    simp [execOp, ho, resolve, invoke, builtin, hs, hx, hrun, Result.andThen]
    exact h A' c' w (by simpa using hown) (World.grownBy.refl _ _)
  · refine wp_append_own w s x t ho base e i z size bytes ht hi hz hsize hby hzs hsz v n xs hs hown ad m c news hx hl (hnews.2 ad rfl) h1 h63 hbytes hbase (fun v' w' h2 h3 _ => ?_)
    obtain ⟨A', c', rfl⟩ := row_shape h2
    exact h A' c' w' h2 h3

section
variable {G : Nat → Prop} {rb lb wb ib : Nat} {left : Int} {rL rW : Rw} {rI : List Bool} {s : PS}

theorem RefAt.bigger {w w4 : World} (h : RefAt w G rb lb wb ib left rL rW rI s) (hb : Below w.heap.size w w4) : RefAt w4 (fun k => G k ∨ (w.heap.size ≤ k ∧ k < w4.heap.size)) rb lb wb ib left rL rW rI s :=
  (h.same (fun k hk => hb.block k (h.lt k hk)) hb.size).more (fun k hk => Or.inl hk) (fun k hk => by
    rcases hk with hk | hk
    · exact Nat.lt_of_lt_of_le (h.lt k hk) hb.size
    · exact hk.2)

theorem RefAt.laid {w w4 : World} {i : Nat} {v : Value} {l : List UInt8} (h : RefAt w G rb lb wb ib left rL rW rI s) (hi : i < s.size) (hl : l.length ≤ 1024) (hb : Below w.heap.size w w4) (ho : Own w4 w.heap.size v l) :
    ∃ rW' rI', RefAt ((w4.setCell ⟨wb, i, none⟩ v).setCell ⟨ib, i, none⟩ (.bool true)) (fun k => G k ∨ (w.heap.size ≤ k ∧ k < w4.heap.size)) rb lb wb ib left rL rW' rI' (s.lay i l) := by
  have h4 := h.bigger hb
  obtain ⟨p, q, bb, e1, e2, e3, -⟩ := h4.at_ hi
  have h5 := h4.putW (i := i) (p := (v, l)) (W' := fun j => if j = (i : Int) then (if bb then some l else none) else s.W j) ⟨own_base ho, hl, fun k hk => Or.inr (ho.lt k hk)⟩ (by
    intro j b hb'
    by_cases e : j = i
    · subst e
      rw [e3] at hb'
      obtain rfl : bb = b := by simpa using hb'
      rw [if_pos rfl, if_pos rfl]
    · rw [if_neg e, if_neg (by omega)]
      have hj : j < s.size := by have := (List.getElem?_eq_some_iff.1 hb').1; rw [h4.nI] at this; exact this
      have hq := List.getElem?_eq_getElem (l := rW) (i := j) (by rw [h4.nW]; exact hj)
      have := h4.sW j _ b hq hb'
      cases b with
      | false => rw [this]; rfl
      | true => rfl)
  have h6 := h5.putI (i := i) (b := true) (W' := fun j => if j = (i : Int) then some l else s.W j) (by
    intro j q' c hq' hc
    have hj : j < s.size := by have := (List.getElem?_eq_some_iff.1 hq').1; rw [h5.nW] at this; exact this
    rw [List.getElem?_set] at hq' hc
    by_cases e : i = j
    · subst e
      rw [if_pos rfl, if_pos (by rw [h4.nI]; exact hj)] at hc
      rw [if_pos rfl, if_pos (by rw [h4.nW]; exact hj)] at hq'
      obtain rfl : true = c := by simpa using hc
      obtain rfl : (v, l) = q' := by simpa using hq'
      rw [if_pos rfl]
      rfl
    · rw [if_neg e] at hc hq'
      rw [if_neg (by omega)]
      exact h4.sW j q' c hq' hc)
  exact ⟨_, _, h6⟩

theorem app_below {w w4 : World} {t : TypeId} {n c : Nat} (hg : (w.alloc (.cells #[] t)).drew.grownBy w4 (Value.slice (some ⟨w.heap.size, 0, none⟩) n c).ownBlock) : Below w.heap.size w w4 :=
  ((below_one w _).drew).grown hg (by simp) (fun k hk => by
    have e := Option.some.inj hk
    rw [← e]
    exact Nat.le_refl _)

set_option maxRecDepth 20000 in
set_option maxHeartbeats 3200000 in
theorem refWrite_any (w : World) (n : Int) (A : Option Addr) (m c : Nat) (l : List UInt8) (hl : l.length = m) (hx : Out w G A l) (hz : A = none → m = 0 ∧ c = 0) (h : Rk w G rb s) :
    Calls Try.prog 27 #[.pointer (some ⟨rb, 0, none⟩), .int .i64 n, .slice A m c] w (RGoes w G rb (s.written n l) (.int .i64 (s.writeE n l))) := by
  have H0 := Lib.hid h
  obtain ⟨i0, hi, hz0, hz1, hz2⟩ := info_parts byteInfo
  obtain ⟨lb, wb, ib, left, rL, rW, rI, h⟩ := h
  have c0 := h.cell 0 (v := .slice (some ⟨lb, 0, none⟩) s.size s.size) rfl
  have c3 := h.cell 3 (v := .bool s.down) rfl
  have HD := Lib.hid h
  have HZ := Lib.hid hz
  have HX := Lib.hid hx
  have HL := Lib.hid hl
  clear hz hx
  by_cases hd : s.down = true
  · rw [hd] at c3
    have eB : s.written n l = s := by unfold PS.written; rw [if_pos hd]
    have eE : s.writeE n l = 40 := by unfold PS.writeE; rw [if_pos hd]
    rw [eB, eE]
    clear h eB eE hd c0 hl
    go_enter Try.func27, Try.ntmps27
    go_wp2_with fail
    go_ret
    exact ⟨rfl, G, H0.out, fun k hk => Or.inl hk, Kept.refl _ _⟩
  · have hd' : s.down = false := by simpa using hd
    rw [hd'] at c3
    have HC0 := Lib.hid (refIs_any (s := s) w n _ c0)
    by_cases hb : s.bad n l = true
    · have eB : s.written n l = s := by unfold PS.written; rw [if_neg hd, if_pos hb]
      have eE : s.writeE n l = 41 := by unfold PS.writeE; rw [if_neg hd, if_pos hb]
      rw [eB, eE]
      unfold PS.bad at hb
      by_cases hh : s.has n = true
      · rw [hh] at HC0
        have hm : 1024 < m := by rw [hh] at hb; simp at hb; omega
        clear h eB eE hd hd' hh hb hl
        go_enter Try.func27, Try.ntmps27
        go_wp2_with fail
        refine HC0.out.mono ?_
        rintro e w' ⟨rfl, rfl⟩
        go_wp2_with fail
        go_ret
        exact ⟨rfl, G, H0.out, fun k hk => Or.inl hk, Kept.refl _ _⟩
      · have hh' : s.has n = false := by simpa using hh
        rw [hh'] at HC0
        clear h eB eE hd hd' hh hh' hb hl
        go_enter Try.func27, Try.ntmps27
        go_wp2_with fail
        refine HC0.out.mono ?_
        rintro e w' ⟨rfl, rfl⟩
        go_wp2_with fail
        go_ret
        exact ⟨rfl, G, H0.out, fun k hk => Or.inl hk, Kept.refl _ _⟩
    · have hb' := hb
      unfold PS.bad at hb'
      have hh : s.has n = true := by
        cases e : s.has n with
        | true => rfl
        | false => rw [e] at hb'; simp at hb'
      have hm : m ≤ 1024 := by rw [hh] at hb'; simp at hb'; omega
      obtain ⟨hn0, hn1⟩ := PS.has_iff.1 hh
      obtain ⟨i, rfl⟩ : ∃ i : Nat, n = (i : Int) := ⟨n.toNat, by omega⟩
      have his : i < s.size := by omega
      have hs4 := h.s4
      rw [hh] at HC0
      by_cases hmay : s.may = true
      · have eB : s.written (i : Int) l = s.acted.lay i l := by unfold PS.written; rw [if_neg hd, if_neg hb, if_pos hmay]
        have eE : s.writeE (i : Int) l = 0 := by unfold PS.writeE; rw [if_neg hd, if_neg hb, if_pos hmay]
        rw [eB, eE]
        have HA : Hid (Calls Try.prog 43 #[.pointer (some ⟨rb, 0, none⟩)] w fun e w' => e = .returned (.bool true) ∧ (∃ left', RefAt w' G rb lb wb ib left' rL rW rI s.acted) ∧ Kept G w w') := hmay ▸ refAct_any w h
        have hsz : s.acted.size = s.size := PS.acted_size s
        have his1 : i < s.acted.size := by rw [hsz]; exact his
        have hs41 : s.acted.size ≤ 4096 := by rw [hsz]; exact hs4
        clear h eB eE hd hd' hh hb hb' hmay H0 hsz
        generalize s.acted = s1 at *
        go_enter Try.func27, Try.ntmps27
        go_wp2_with fail
        refine HC0.out.mono ?_
        rintro e w' ⟨rfl, rfl⟩
        go_wp2_with fail
        refine HA.out.mono ?_
        rintro e w1 ⟨rfl, ⟨left1, hr1⟩, hk1⟩
        have d1 := hr1.cell 1 (v := .slice (some ⟨wb, 0, none⟩) s1.size s1.size) rfl
        obtain ⟨p, q, bb, -, e2, -, -, k2, -, -, f2, -⟩ := hr1.at_ his1
        obtain ⟨qA, qc, hqv, -, -⟩ := own_slice (hr1.oW i q e2).1
        rw [hqv] at k2
        have HR1 := Lib.hid hr1
        have HK1 := Lib.hid hk1
        have HX1 := Lib.hid (HX.out.kept hk1).bys
        have hn5 := hr1.nes.2.2.2.2
        have hn2 := hr1.nes.2.1
        have hgr := World.block_lt_of_cell? _ _ d1
        have hgw := World.block_lt_of_cell? _ _ k2
        clear hr1 hk1 c0 c3 HC0 HA hl e2 hqv HX
        go_wp2_with fail
        go_region_held3 (fun w' => w'.cell? ⟨rb, 1, none⟩ = some (.slice (some ⟨wb, 0, none⟩) s1.size s1.size))
          (first | exact K1 | exact (World.cell?_setCell_other _ _ _ _ (fun e => hn2 (congrArg Addr.block e).symm)).trans K1 | exact (World.cell?_setCell_other _ _ _ _ (fun e => hn2 (congrArg Addr.block e))).trans K1 | go_keep)
          ((refine step_append_lay _ (by rfl) _ _ _ (by rfl) w1.heap.size 5 i0 _ 1 1 Try.underlying32 hi hz0 hz1 hz2 rfl (by omega) (.slice (some ⟨w1.heap.size, 0, none⟩) 0 0) 0 [] (by rfl) (own_made w1).drew A m c (bv l) (by rfl) (by rw [bv_length, HL.out]; omega) (show Lies (w1.alloc (.cells #[] 5)).drew A m c (bv l) from Lies.bys (HX1.out.alloc _) HZ.out) (bv_one _) (by unfold maxLen; omega) (by omega) (by simp) ?_; intro A4 c4 w4 hown4 hg4; have B4 := app_below hg4; have K1 : w4.cell? ⟨rb, 1, none⟩ = some (.slice (some ⟨wb, 0, none⟩) s1.size s1.size) := (B4.cell (p := ⟨rb, 1, none⟩) hgr).trans d1; have T1 := (B4.cell (p := ⟨wb, i, none⟩) hgw).trans k2; have T2 := (B4.frozen (p := ⟨wb, i, none⟩) hgw).trans f2))
        rename_i hHeld
        clear hHeld K1 T1 T2 d1 k2 f2
        have ho4 : Own w4 w1.heap.size (.slice A4 m c4) l := by
          have := bytes_one HL.out hown4
          rw [Nat.zero_add] at this
          exact this
        obtain ⟨rW', rI', h6⟩ := HR1.out.laid his1 (by rw [HL.out]; exact hm) B4 ho4
        have h4 := HR1.out.bigger B4
        have d2 := h4.cell 2 (v := .slice (some ⟨ib, 0, none⟩) s1.size s1.size) rfl
        obtain ⟨_, _, b4, -, -, -, -, -, k3, -, -, f3⟩ := h4.at_ his1
        have H6 := Lib.hid h6
        have HK6 : Hid (Kept G w ((w4.setCell ⟨wb, i, none⟩ (.slice A4 m c4)).setCell ⟨ib, i, none⟩ (.bool true))) := HK1.out.next ((Kept.below B4 G).next ((Kept.setCell w4 HR1.out.gw _).next (Kept.setCell _ HR1.out.gi _)))
        have HSZ := Lib.hid HK1.out.size
        have hm5 := hn5.symm
        have hm2 := hn2.symm
        clear h6 h4 ho4 hown4 hg4 B4 HR1 HK1 HX1
        go_wp2_with fail
        go_ret
        refine ⟨rfl, _, H6.out.rk, fun k hk => ?_, HK6.out⟩
        rcases hk with hk | hk
        · exact Or.inl hk
        · exact Or.inr (Nat.le_trans HSZ.out hk.1)
      · have hmay' : s.may = false := by simpa using hmay
        have eB : s.written (i : Int) l = s.acted := by unfold PS.written; rw [if_neg hd, if_neg hb, if_neg hmay]
        have eE : s.writeE (i : Int) l = 40 := by unfold PS.writeE; rw [if_neg hd, if_neg hb, if_neg hmay]
        rw [eB, eE]
        have HA : Hid (Calls Try.prog 43 #[.pointer (some ⟨rb, 0, none⟩)] w fun e w' => e = .returned (.bool false) ∧ (∃ left', RefAt w' G rb lb wb ib left' rL rW rI s.acted) ∧ Kept G w w') := hmay' ▸ refAct_any w h
        clear h eB eE hd hd' hh hb hb' hmay hmay' hl H0
        go_enter Try.func27, Try.ntmps27
        go_wp2_with fail
        refine HC0.out.mono ?_
        rintro e w' ⟨rfl, rfl⟩
        go_wp2_with fail
        refine HA.out.mono ?_
        rintro e w1 ⟨rfl, ⟨left1, hr1⟩, hk1⟩
        go_wp2_with fail
        go_ret
        exact ⟨rfl, G, hr1.rk, fun k hk => Or.inl hk, hk1⟩
end
end Go.Proofs.Ytillllegbgaalaa
