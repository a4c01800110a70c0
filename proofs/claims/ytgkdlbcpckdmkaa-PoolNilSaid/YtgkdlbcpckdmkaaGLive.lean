/-
  A clock in the midst of a law: what lies below the law's first world stays.
-/
import Derived.Test.YtgkdlbcpckdmkaaGVic
import Derived.Test.YtgkdlbcpckdmkaaGEach
import Derived.Test.YtgkdlbcpckdmkaaGNew
namespace Go.Proofs.Ytgkdlbcpckdmkaa
open Go.RowKit

theorem CS.new_max (n : Nat) : (CS.new n).Max 0 := fun _ => Nat.zero_le _

/-- A clock that was made since the world W. -/
structure CLive (W w : World) (db pb : Nat) (s : CS) : Prop where
  ck : ClkAt w db pb s
  b1 : W.heap.size ≤ db
  b2 : W.heap.size ≤ pb
  below : Below W.heap.size W w

def CLGoes (W : World) (db pb : Nat) (s' : CS) (v : Value) (e : Ending) (w' : World) : Prop := e = .returned v ∧ CLive W w' db pb s'

section
variable {W w w' : World} {db pb : Nat} {s s' : CS}

theorem CLive.le (h : CLive W w db pb s) : W.heap.size ≤ w.heap.size := h.below.size
theorem CLive.next (h : CLive W w db pb s) (hb : Below w.heap.size w w') : CLive W w' db pb s :=
  ⟨h.ck.below hb, h.b1, h.b2, h.below.trans (hb.mono h.le)⟩
theorem CLive.alloc (h : CLive W w db pb s) (o : Obj) : CLive W (w.alloc o) db pb s := h.next (below_one w o)
theorem CLive.drew (h : CLive W w db pb s) : CLive W w.drew db pb s := ⟨h.ck.same rfl rfl, h.b1, h.b2, h.below.drew⟩
theorem CLive.goes {v : Value} {e : Ending} (h : CLive W w db pb s) (g : CGoes w db pb s' v e w') : CLGoes W db pb s' v e w' := by
  obtain ⟨he, hc, hk⟩ := g
  refine ⟨he, hc, h.b1, h.b2, h.below.trans (hk.toBelow ?_ h.le)⟩
  rintro k (rfl | rfl)
  · exact h.b1
  · exact h.b2

set_option maxRecDepth 20000 in
theorem use_live (w : World) (i : Int) (h : CLive W w db pb s) :
    Calls Try.prog 45 #[.pointer (some ⟨db, 0, none⟩), .int .i64 i] w (CLGoes W db pb (s.useS i) (.int .i64 (s.useE i))) := (use_any w i h.ck).mono fun _ _ g => h.goes g
set_option maxRecDepth 20000 in
theorem pin_live (w : World) (i : Int) (hm : s.Max 9223372036854775806) (h : CLive W w db pb s) :
    Calls Try.prog 38 #[.pointer (some ⟨db, 0, none⟩), .int .i64 i] w (CLGoes W db pb (s.pinS i) (.int .i64 (s.useE i))) := (pin_any w i hm h.ck).mono fun _ _ g => h.goes g
set_option maxRecDepth 20000 in
theorem unpin_live (w : World) (i : Int) (h : CLive W w db pb s) :
    Calls Try.prog 39 #[.pointer (some ⟨db, 0, none⟩), .int .i64 i] w (CLGoes W db pb (s.unS i) (.int .i64 (s.unE i))) := (unpin_any w i h.ck).mono fun _ _ g => h.goes g
set_option maxRecDepth 20000 in
theorem victim_live (w : World) (h : CLive W w db pb s) :
    Calls Try.prog 43 #[.pointer (some ⟨db, 0, none⟩)] w (CLGoes W db pb s.vicS (.tuple #[.int .i64 s.vicI, .int .i64 s.vicE])) := (victim_any w h.ck).mono fun _ _ g => h.goes g

def PinsEnd (W w : World) (db pb : Nat) (s : CS) (e : Ending) (w' : World) : Prop :=
  ∃ b, e = .returned (.slice (some ⟨b, 0, none⟩) s.n s.n) ∧ Ints w' (some ⟨b, 0, none⟩) s.pinsL ∧ W.heap.size ≤ b ∧ ¬ Two db pb b ∧ CLive W w' db pb s ∧ Below w.heap.size w w'
def UsedEnd (W w : World) (db pb : Nat) (s : CS) (e : Ending) (w' : World) : Prop :=
  ∃ b, e = .returned (.slice (some ⟨b, 0, none⟩) s.n s.n) ∧ Bls w' (some ⟨b, 0, none⟩) s.usedL ∧ W.heap.size ≤ b ∧ ¬ Two db pb b ∧ CLive W w' db pb s ∧ Below w.heap.size w w'

theorem CLive.apart (h : CLive W w db pb s) : ¬ Two db pb w.heap.size := by
  obtain ⟨l1, l2⟩ := h.ck.lt
  rintro (e | e) <;> omega

set_option maxRecDepth 20000 in
theorem pins_live (w : World) (h : CLive W w db pb s) :
    Calls Try.prog 56 #[.pointer (some ⟨db, 0, none⟩)] w (PinsEnd W w db pb s) :=
  (pins_any w h.ck).mono fun _ _ g => ⟨_, g.1, g.2.1, h.le, h.apart, h.next g.2.2, g.2.2⟩
set_option maxRecDepth 20000 in
theorem used_live (w : World) (h : CLive W w db pb s) :
    Calls Try.prog 57 #[.pointer (some ⟨db, 0, none⟩)] w (UsedEnd W w db pb s) :=
  (used_any w h.ck).mono fun _ _ g => ⟨_, g.1, g.2.1, h.le, h.apart, h.next g.2.2, g.2.2⟩

def NewEnd (W w : World) (n : Nat) (e : Ending) (w' : World) : Prop :=
  ∃ db pb, e = .returned (.tuple #[.pointer (some ⟨db, 0, none⟩), .int .i64 0]) ∧ CLive W w' db pb (CS.new n) ∧ w.heap.size ≤ db ∧ w.heap.size ≤ pb ∧ Below w.heap.size w w'
set_option maxRecDepth 20000 in
theorem gnew_live (w : World) (n : Nat) (h1 : 1 ≤ n) (h2 : n ≤ 1000) (hb : Below W.heap.size W w) :
    Calls Try.prog 41 #[.int .i64 n] w (NewEnd W w n) :=
  (gnew_good w n h1 h2).mono fun _ _ ⟨db, pb, e, hc, l1, l2, hb'⟩ => ⟨db, pb, e, ⟨hc, Nat.le_trans hb.size l1, Nat.le_trans hb.size l2, hb.trans (hb'.mono hb.size)⟩, l1, l2, hb'⟩
end
end Go.Proofs.Ytgkdlbcpckdmkaa
