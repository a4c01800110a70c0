/-
  What the document's own Decode comes to (package tailraceref02).
-/
import Derived.Test.YtcjcahgeaffjmaaKRefNext
import Derived.Test.YtcjcahgeaffjmaaKDec
namespace Go.Proofs.Ytcjcahgeaffjmaa
open Go.RowKit

theorem nv_any (A : Option Addr) (c R : Nat) (l : List UInt8) (w : World) (hx : Bys w R A l) (hl : l.length ≤ 1000000) :
    Calls Try.prog 27 #[.slice A l.length c] w (NextV w l) := by
  rcases l with _ | ⟨z, t⟩
  · exact nv_nil A c w
  · rw [List.length_cons] at hl ⊢
    by_cases h1 : z = 1
    · subst h1
      by_cases h8 : 8 ≤ t.length
      · exact nv_num A c R t w hx h8 (by omega)
      · exact nv_other A c R 1 t w hx (Or.inr ⟨rfl, by omega⟩) (by omega)
    · by_cases h2 : z = 2
      · subst h2
        exact nv_text A c R t w hx (by omega)
      · exact nv_other A c R z t w hx (Or.inl ⟨h1, h2⟩) (by omega)

theorem valD_drop {b : List UInt8} {v : Val} {r : List UInt8} (h : valD b = some (v, r)) : b.drop (b.length - r.length) = r := by
  have e := valB_valD h
  have hl : b.length - r.length = (valB v).length := by rw [e, List.length_append]; omega
  rw [hl]
  conv => lhs; rw [e]
  exact List.drop_left

/-- What the loop of Decode holds. -/
structure RefMem (w0 w : World) (l : List UInt8) (A : Option Addr) (c : Nat) (out : Value) (ys : List Val) (rest : List UInt8) : Prop where
  byt : Bys w w0.heap.size A rest
  cap : rest.length ≤ c
  own : w.ownsRow w0.heap.size 38 3 out ys.length (rowVals ys)
  mid : Decs l ys rest
  len : ys.length + rest.length ≤ l.length
  bel : Below w0.heap.size w0 w

theorem RefMem.next {w0 w w2 w4 : World} {l : List UInt8} {A A' : Option Addr} {c c' : Nat} {out out' : Value} {ys : List Val} {rest r : List UInt8} {v : Val} {o : Obj} (M : RefMem w0 w l A c out ys rest)
    (hv : valD rest = some (v, r)) (hk : chkV v = 0) (b2 : Below w.heap.size w w2) (own2 : w2.ownsRow w0.heap.size 38 3 out ys.length (rowVals ys)) (h4 : w4.ownsRow w0.heap.size 38 3 out' (ys.length + 1) (rowVals ys ++ rowVals [v])) (g4 : (w2.alloc o).grownBy w4 out.ownBlock)
    (hA : Bys w w0.heap.size A' r) (hc : r.length ≤ c') : RefMem w0 w4 l A' c' out' (ys ++ [v]) r := by
  have hs := M.bel.size
  have hs2 := b2.size
  have hb2 : Below w0.heap.size w w2 := b2.mono hs
  have b4 : Below w0.heap.size w w4 := (hb2.alloc (by omega) _).grown g4 (by simp; omega) (fun k hk => (own2.lt k hk).1)
  have hlr := valD_length hv
  refine ⟨hA.below b4, hc, ?_, M.mid.step hv hk, ?_, M.bel.trans b4⟩
  · rw [rowVals_append, List.length_append]
    exact h4
  · rw [List.length_append, List.length_singleton]
    have := M.len
    omega

theorem rows_kept {w w' : World} {base n : Nat} {v : Value} {xs : List Value} (h : w.ownsRow base 38 3 v n xs) (hb : Below w.heap.size w w') : w'.ownsRow base 38 3 v n xs := by
  have hg : w.grownBy w' none := ⟨hb.os, hb.tape, hb.output, hb.size, fun k hk _ => hb.block k hk⟩
  refine h.kept hg ?_
  cases e : v.ownBlock with
  | none => exact Or.inl rfl
  | some g => exact Or.inr (by simp)

theorem boxed_kept {w w3 : World} {t : TypeId} {k n : Int} {s : ByteArray} (b3 : Below (w.alloc (.cells #[.int .i64 k, .int .i64 n, .string s] t)).heap.size (w.alloc (.cells #[.int .i64 k, .int .i64 n, .string s] t)) w3) :
    w3.cell? ⟨w.heap.size, 0, none⟩ = some (.int .i64 k) ∧ w3.cell? ⟨w.heap.size, 1, none⟩ = some (.int .i64 n) ∧ w3.cell? ⟨w.heap.size, 2, none⟩ = some (.string s) := by
  have V := (Val3.new w t k n s).below b3 (by simp)
  exact ⟨V.1, V.2.1, V.2.2.1⟩

set_option maxHeartbeats 3200000 in
theorem refDec_any (A : Option Addr) (c : Nat) (l : List UInt8) (w : World) (hx : Bys w w.heap.size A l) (hc : l.length ≤ c) (hn : l.length ≤ 1000000) :
    Calls Try.prog 13 #[.slice A l.length c] w (DecEnd w l) := by
  obtain ⟨i0, hi, hz0, hz1, hz2⟩ := info_parts valInfo
  go_enter Try.func13, Try.ntmps13
  go_wp2_with fail
  go_loopg [0, 4] l.length (fun g bs out wr => ∃ A1 c1 ys rest, g = rest.length ∧ bs = .slice A1 rest.length c1 ∧ RefMem w wr l A1 c1 out ys rest)
  case atStart => exact ⟨A, c, [], l, rfl, rfl, hx, hc, World.ownsRow_nil _ _ _ _, Decs.start l, by simp, Below.refl _ _⟩
  case round =>
    obtain ⟨A1, c1, ys, rest, hg, rfl, M⟩ := hrel
    have HG := Lib.hid hg
    clear hg
    have hlen := M.len
    have hcap := M.cap
    rcases rest with _ | ⟨z, t⟩
    · obtain ⟨A2, c2, e2, hr2⟩ := row_of_own M.own
      subst e2
      have HD := Lib.hid M.mid.done
      rw [List.length_nil]
      go_wp2_with fail
      go_ret2
      refine ⟨A2, c2, ?_, ?_, M.bel⟩
      · unfold errB
        rw [HD.out]
        rfl
      · rw [HD.out]
        exact hr2
    · generalize hrest : z :: t = rest at *
      have hpos : 0 < rest.length := by rw [← hrest]; simp
      clear hrest z t
      go_wp2_with fail
      refine (nv_any A1 c1 w.heap.size rest _ M.byt (by omega)).mono ?_
      rintro e w2 (⟨v, r, hv, rfl, b2⟩ | ⟨hv, rfl, b2⟩)
      · have hlr := valD_length hv
        have hdr := valD_drop hv
        obtain ⟨q, hq⟩ : ∃ q, q = rest.length - r.length := ⟨_, rfl⟩
        rw [← hq] at hdr ⊢
        have hq0 : 0 < q := by omega
        have hq1 : q ≤ rest.length := by omega
        have hqr : rest.length - q = r.length := by omega
        have HDR := Lib.hid hdr
        have HQR := Lib.hid hqr
        have HV := Lib.hid hv
        clear hq hdr hqr
        have kq : ((q : Int) == 0) = false := by rw [beq_eq_false_iff_ne]; omega
        have hs2 := b2.size
        have hs := M.bel.size
        go_wp2_with fail
        refine (refCheck_any v.k v.n v.s _).mono ?_
        rintro e w3 ⟨rfl, b3⟩
        have bw3 : Below wr.heap.size wr w3 := (b2.alloc hs2 _).trans (b3.mono (by simp; omega))
        have own3 := rows_kept M.own bw3
        have hs3 := bw3.size
        have hs3' : w2.heap.size < w3.heap.size := by have := b3.size; simp at this; omega
        obtain ⟨d0, d1, d2⟩ := boxed_kept b3
        by_cases hk : chkV v = 0
        · have HK := Lib.hid hk
          have k1 : (chk v.k v.n v.s.toList != 0) = false := by unfold chkV at hk; simp [hk]
          clear hk hv
          by_cases hcq : c1 = q
          · have hr0 : r = [] := by rw [← HDR.out]; exact List.drop_of_length_le (by omega)
            subst hcq
            go_wp2_with (at_builtin; refine wpList_append_own _ rfl (.tmp 22) (.tmp 24) 23 rfl w.heap.size 38 i0 _ 3 32 Try.underlying23 hi hz0 hz1 hz2 rfl (by decide) _ _ _ rfl (own3.alloc _) ⟨w3.heap.size, 0, none⟩ 1 1 (rowVals [v]) rfl rfl (Row.cells (row_one _ _ v)) (rowVals_one _) (by unfold maxLen; omega) (by omega) (by simp; omega) ?_; intro v5 w5 o5 g5 _)
            have HM := Lib.hid (M.next (A' := A1) (c' := 0) HV.out HK.out bw3 own3 o5 g5 (by rw [hr0]; exact Bys.nil _ _ _) (by rw [hr0]; exact Nat.le_refl _))
            clear o5 g5 own3
            go_roundg 0
            case measure => rw [HG.out]; omega
            case rel => exact ⟨A1, 0, ys ++ [v], r, by rw [hr0]; rfl, by rw [hr0]; rfl, HM.out⟩
          · obtain ⟨b, off, rfl, hbR, _⟩ := M.byt.pos (fun e => by rw [e] at hpos; simp at hpos)
            have hd := M.byt.drop q
            rw [HDR.out] at hd
            have HD := Lib.hid hd
            clear hd
            go_wp2_with (at_builtin; refine wpList_append_own _ rfl (.tmp 22) (.tmp 24) 23 rfl w.heap.size 38 i0 _ 3 32 Try.underlying23 hi hz0 hz1 hz2 rfl (by decide) _ _ _ rfl (own3.alloc _) ⟨w3.heap.size, 0, none⟩ 1 1 (rowVals [v]) rfl rfl (Row.cells (row_one _ _ v)) (rowVals_one _) (by unfold maxLen; omega) (by omega) (by simp; omega) ?_; intro v5 w5 o5 g5 _)
            have HM := Lib.hid (M.next (A' := some ⟨b, off + q, none⟩) (c' := c1 - q) HV.out HK.out bw3 own3 o5 g5 HD.out (by have := HQR.out; omega))
            clear o5 g5 own3
            go_roundg r.length
            case measure => rw [HG.out]; have := HQR.out; omega
            case rel => exact ⟨some ⟨b, off + q, none⟩, c1 - q, ys ++ [v], r, rfl, by rw [← HQR.out], HM.out⟩
        · have k1 : (chk v.k v.n v.s.toList != 0) = true := by unfold chkV at hk; simp [hk]
          have HN := Lib.hid (M.mid.bad HV.out hk)
          have bw : Below w.heap.size w w3 := M.bel.trans (bw3.mono hs)
          clear hk hv
          go_wp2_with fail
          go_ret2
          refine ⟨none, 0, ?_, ?_, bw⟩
          · unfold errB
            rw [HN.out]
            rfl
          · rw [HN.out]
            exact Or.inl rfl
      · have HN := Lib.hid (M.mid.none_ (fun e => by rw [e] at hpos; simp at hpos) hv)
        have bw : Below w.heap.size w w2 := M.bel.trans (b2.mono M.bel.size)
        clear hv
        go_wp2_with fail
        go_ret2
        refine ⟨none, 0, ?_, ?_, bw.alloc bw.size _⟩
        · unfold errB
          rw [HN.out]
          rfl
        · rw [HN.out]
          exact Or.inl rfl
end Go.Proofs.Ytcjcahgeaffjmaa
