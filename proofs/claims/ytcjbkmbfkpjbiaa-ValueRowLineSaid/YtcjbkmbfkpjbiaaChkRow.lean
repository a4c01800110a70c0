/-
  What CheckRow comes to, for every row and every list of kinds (each at most 2147483647 long).
-/
import Derived.Test.YtcjbkmbfkpjbiaaEq
namespace Go.Proofs.Ytcjbkmbfkpjbiaa
open Go.RowKit

def chkV (v : Val) : Int := chk v.k v.n v.s.toList
/-- What CheckRow answers. -/
def chkR (xs : List Val) (zs : List Int) : Int := if xs.all (fun v => chkV v == 0) then (if xs.map Val.k = zs then 0 else 11) else 10

theorem chkR_bad {xs : List Val} {k : Nat} {v : Val} (hv : xs[k]? = some v) (h : ¬ chkV v = 0) (zs : List Int) : chkR xs zs = chkV v := by
  have h1 : xs.all (fun v => chkV v == 0) = false := by
    rw [Bool.eq_false_iff]
    intro e
    rw [List.all_eq_true] at e
    exact h (by simpa using e v (List.mem_of_getElem? hv))
  have h2 : chkV v = 10 := by
    rcases chk_two v.k v.n v.s.toList with e | e
    · exact absurd e h
    · exact e
  rw [chkR, h1, h2]
  rfl

theorem all_more {xs : List Val} {k : Nat} {v : Val} (h : (xs.take k).all (fun v => chkV v == 0) = true) (hv : xs[k]? = some v) (h0 : chkV v = 0) : (xs.take (k + 1)).all (fun v => chkV v == 0) = true := by
  rw [List.take_add_one, hv, List.all_append, h]
  simp [h0]

theorem ints_of_row {w : World} {b t n : Nat} {xs : List Val} (h : w.rowIs b t n (kindAt xs)) (hn : n = xs.length) : Ints w (some ⟨b, 0, none⟩) (xs.map Val.k) := by
  refine Or.inr ⟨b, 0, rfl, fun i z hz => ?_⟩
  have hi : i < xs.length := by
    have := (List.getElem?_eq_some_iff.1 hz).1
    simpa using this
  have h0 := h.cell (i := i) (by omega)
  rw [Nat.zero_add, h0]
  unfold kindAt
  rw [List.getElem?_map] at hz
  rw [hz]
  rfl

set_option maxHeartbeats 800000 in
theorem checkRow_any (A B : Option Addr) (c d : Nat) (xs : List Val) (zs : List Int) (w : World) (hr : Row w A xs) (hz : Ints w B zs) (hn : xs.length ≤ 2147483647) :
    Calls Try.prog 17 #[.slice A xs.length c, .slice B zs.length d] w
      fun e w' => e = .returned (.int .i64 (chkR xs zs)) ∧ Below w.heap.size w w' := by
  go_enter Try.func17, Try.ntmps17
  go_wp2_with fail
  go_loopw [10] (fun i wr => ∃ k : Nat, k ≤ xs.length ∧ i = .int .i64 k ∧ Hid ((xs.take k).all (fun v => chkV v == 0) = true) ∧ Below w.heap.size w wr) (fun i _ => xs.length - (intOf i).toNat)
  case atStart => exact ⟨0, Nat.zero_le _, rfl, Lib.hid (by simp), Below.refl _ _⟩
  case round =>
    obtain ⟨k, hk, rfl, hall, hb⟩ := hrel
    by_cases hlt : k < xs.length
    · obtain ⟨b, off, v, rfl, hv, c0, c1, c2⟩ := (hr.below hb).at_ hlt
      have hV := Lib.hid hv
      clear hv
      go_wp2_with fail
      refine (check_any v.k v.n v.s _).mono ?_
      rintro e w1 ⟨rfl, hb1⟩
      have hb' : Below w.heap.size w w1 := (hb.alloc hb.size _).trans (hb1.mono (by have := hb.size; simp; omega))
      by_cases h0 : chkV v = 0
      · have H0 := Lib.hid h0
        have h1 : (chk v.k v.n v.s.toList != 0) = false := by unfold chkV at h0; simp [h0]
        clear h0
        go_wp2_with fail
        go_roundw
        case rel => exact ⟨k + 1, by omega, by go_num, Lib.hid (all_more hall.out hV.out H0.out), hb'⟩
        case measure => simp [intOf]; omega
      · have H0 := Lib.hid h0
        have h1 : (chk v.k v.n v.s.toList != 0) = true := by unfold chkV at h0; simp [h0]
        clear h0
        go_wp2_with fail
        go_ret
        exact ⟨ret_int (chkR_bad hV.out H0.out zs).symm, hb'⟩
    · obtain rfl : k = xs.length := by omega
      have hall' : xs.all (fun v => chkV v == 0) = true := by have := hall.out; rwa [List.take_length] at this
      have HALL := Lib.hid hall'
      clear hall'
      go_wp2_with fail
      refine (kinds_any A c xs _ (hr.below hb) hn).mono ?_
      rintro e w1 ⟨rfl, hrow, hb1⟩
      have hi := ints_of_row hrow rfl
      have hb' : Below w.heap.size w w1 := hb.trans (hb1.mono hb.size)
      have hlen : (xs.map Val.k).length = xs.length := List.length_map _
      go_wp2_with fail
      rw [← hlen]
      refine (equal_any _ B _ d (xs.map Val.k) zs _ hi (hz.below hb') (by rw [hlen]; exact hn)).mono ?_
      rintro e w2 ⟨rfl, hb2⟩
      have hb'' : Below w.heap.size w w2 := hb'.trans (hb2.mono hb'.size)
      have HL := Lib.hid hlen
      clear hlen
      by_cases he : xs.map Val.k = zs
      · have h1 : decide (xs.map Val.k = zs) = true := decide_eq_true he
        have HE := Lib.hid he
        clear he
        go_wp2_with fail
        go_ret
        exact ⟨ret_int (by rw [chkR, HALL.out, if_pos rfl, if_pos HE.out]), hb''⟩
      · have h1 : decide (xs.map Val.k = zs) = false := decide_eq_false he
        have HE := Lib.hid he
        clear he
        go_wp2_with fail
        go_ret
        exact ⟨ret_int (by rw [chkR, HALL.out, if_pos rfl, if_neg HE.out]), hb''⟩
end Go.Proofs.Ytcjbkmbfkpjbiaa
