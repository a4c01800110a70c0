/-
  What Pin comes to, out of fetch; what the first calls of the laws come to. Nothing here walks.
-/
import Derived.Test.YtgkdlbcpckdmkaaPLive
namespace Go.Proofs.Ytgkdlbcpckdmkaa
open Go.RowKit

namespace PP
theorem Holds.fetch {s : PP} {f : Int → List UInt8} (h : Holds s f) {n : Int} {i : Nat} {t : PP} (g : Got s f n i t) : ∃ j, s.fetch n = (some j, 0, t) ∧ j < s.m ∧ t.at_ j = n := by
  obtain ⟨o, e, u, hq⟩ : ∃ o e u, s.fetch n = (o, e, u) := ⟨_, _, _, rfl⟩
  obtain ⟨t1, t2, t3⟩ := fetch_tells h.ch h.cn hq
  have hg := g.eq
  rw [PP.get_fetch, hq] at hg
  cases o with
  | none =>
    have : e = 0 := congrArg Prod.fst hg
    exact absurd this (t3 rfl)
  | some j =>
    obtain ⟨j1, j2, rfl⟩ := t2 j rfl
    have : u = t := congrArg (fun x => x.2.2) hg
    subst this
    exact ⟨j, hq, j1, j2⟩

theorem Holds.pin_fetch {s : PP} {f : Int → List UInt8} (h : Holds s f) {n : Int} (hn : s.k.has n = true) (hf : s.find n = none → s.gap = none → s.c.free = true) : PP.pinA (s.fetch n) = s.pin n := by
  obtain ⟨i, t, g⟩ := h.get hn hf
  obtain ⟨j, hq, j1, j2⟩ := h.fetch g
  have h0 := (s.k.has_at n).1 hn
  have hfi := g.holds.find_uniq h0.1 (by rw [g.m_]; exact j1) j2
  unfold PP.pin
  rw [hq, g.eq]
  show ((0 : Int), _) = _
  simp only [if_true]
  unfold PP.pinAt
  rw [hfi]

theorem Holds.fetch_p {s : PP} {f : Int → List UInt8} (h : Holds s f) {n : Int} (hn : s.k.has n = true) (hf : s.find n = none → s.gap = none → s.c.free = true) : (s.fetch n).2.2.c.p = s.c.p := by
  obtain ⟨i, t, g⟩ := h.get hn hf
  obtain ⟨j, hq, _, _⟩ := h.fetch g
  rw [hq]
  exact g.p_

theorem Holds.unpin {s : PP} {f : Int → List UInt8} (h : Holds s f) (n : Int) : Holds (s.unpin n).2 f ∧ (s.unpin n).2.m = s.m := by
  unfold PP.unpin
  cases hs : s.find n with
  | some i => exact ⟨h.clock ((CS.unS_n _ _).trans h.cn) (by rw [unS_h, CS.unS_n]; exact h.ch), rfl⟩
  | none => exact ⟨h, rfl⟩

/-- With nothing dirty none is to be written. -/
theorem js_none {s : PP} {js : List Nat} (h : Js s js) (hc : ∀ j, j < s.m → s.d j = false) : js = [] := by
  have e : (List.range s.m).filter s.d = [] := by
    rw [List.filter_eq_nil_iff]
    intro j hj
    rw [hc j (List.mem_range.1 hj)]
    decide
  have := h.perm
  rw [e] at this
  exact this.eq_nil
end PP

/-- With no fuse and nothing pinned. -/
structure Free (s : PP) (f : Int → List UInt8) (m z : Nat) : Prop where
  holds : PP.Holds s f
  p_ : ∀ j, s.c.p j = 0
  m_ : s.m = m
  size : s.k.size = z

theorem free_new {k : PS} (hk : k.Well) (ho : k.Ok) {m z : Nat} (hm : 1 ≤ m) (hz : k.size = z) : Free (PP.new k m) k.held m z := ⟨PP.Holds.new hk ho hm, fun _ => rfl, rfl, hz⟩
theorem Free.put {s : PP} {f : Int → List UInt8} {m z : Nat} (h : Free s f m z) {n : Int} (h0 : 0 ≤ n) (h1 : n < z) {l : List UInt8} (hl : l.length ≤ 1024) : (s.put n l).1 = 0 ∧ Free (s.put n l).2 (PP.upd f n l) m z := by
  obtain ⟨t, e, h2, h3, h4, h5⟩ := h.holds.put ((s.k.has_at n).2 ⟨h0, by rw [h.size]; exact h1⟩) hl (fun _ _ => h.holds.loose h.p_)
  rw [e]
  exact ⟨rfl, h2, fun j => by rw [h5]; exact h.p_ j, h3.trans h.m_, h4.trans h.size⟩
theorem Free.get {s : PP} {f : Int → List UInt8} {m z : Nat} (h : Free s f m z) {n : Int} (h0 : 0 ≤ n) (h1 : n < z) : (s.get n).1 = 0 ∧ (s.get n).2.1 = f n ∧ Free (s.get n).2.2 f m z := by
  obtain ⟨i, t, g⟩ := h.holds.get ((s.k.has_at n).2 ⟨h0, by rw [h.size]; exact h1⟩) (fun _ _ => h.holds.loose h.p_)
  rw [g.eq]
  exact ⟨rfl, rfl, g.holds, fun j => by rw [g.p_]; exact h.p_ j, g.m_.trans h.m_, g.size.trans h.size⟩
theorem Free.flush {s : PP} {f : Int → List UInt8} {m z : Nat} (h : Free s f m z) (hv : Fit s) {js : List Nat} (hj : Js s js) : (s.flushA js).1 = 0 ∧ Free (s.flushA js).2 f m z ∧ PP.FlushedA s f (s.flushA js).2 := by
  obtain ⟨e, k⟩ := h.holds.flushA hv.vd hj
  exact ⟨e, ⟨k.holds, fun j => by rw [k.c_]; exact h.p_ j, k.m_.trans h.m_, k.size.trans h.size⟩, k⟩

theorem new_well (n : Nat) : (PS.new n).Well := ⟨rfl, rfl⟩
theorem new_ok (n : Nat) : (PS.new n).Ok := ⟨fun _ h => absurd rfl h, fun _ h => absurd rfl h, fun _ => by show (0 : Nat) ≤ 1024; omega, fun _ _ h => by cases h⟩
end Go.Proofs.Ytgkdlbcpckdmkaa
