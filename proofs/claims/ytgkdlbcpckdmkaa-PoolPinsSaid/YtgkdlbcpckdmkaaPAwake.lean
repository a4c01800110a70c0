/-
  The head of all laws of layer 7, awake, answers true.
-/
import Derived.Test.YtgkdlbcpckdmkaaPFacts
import Derived.LaidEqlPtr
namespace Go.Proofs.Ytgkdlbcpckdmkaa
open Go.RowKit

def b0 : PP := PP.new (PS.new 8) 2
def b1 : PP := (b0.put 1 [7]).2
def b2 : PP := (b1.put 2 [8]).2
def b3 : PP := (b2.put 3 [9]).2
def b4 : PP := (b3.get 1).2.2
def b5 : PP := (PP.pinA (b4.fetch 1)).2
def b6 : PP := (b5.unpin 5).2

theorem bf0 : Free b0 (PS.new 8).held 2 8 := free_new (new_well 8) (new_ok 8) (by omega) rfl
theorem bf1 : (b0.put 1 [7]).1 = 0 ∧ Free b1 (PP.upd (PS.new 8).held 1 [7]) 2 8 := bf0.put (by omega) (by omega) (by decide)
theorem bf2 : (b1.put 2 [8]).1 = 0 ∧ Free b2 (PP.upd (PP.upd (PS.new 8).held 1 [7]) 2 [8]) 2 8 := bf1.2.put (by omega) (by omega) (by decide)
theorem bf3 : (b2.put 3 [9]).1 = 0 ∧ Free b3 (PP.upd (PP.upd (PP.upd (PS.new 8).held 1 [7]) 2 [8]) 3 [9]) 2 8 := bf2.2.put (by omega) (by omega) (by decide)
theorem bf4 : (b3.get 1).1 = 0 ∧ (b3.get 1).2.1 = [7] ∧ Free b4 (PP.upd (PP.upd (PP.upd (PS.new 8).held 1 [7]) 2 [8]) 3 [9]) 2 8 := by
  obtain ⟨h1, h2, h3⟩ := bf3.2.get (n := 1) (by omega) (by omega)
  exact ⟨h1, h2.trans rfl, h3⟩
theorem bh1 : b4.k.has 1 = true := (b4.k.has_at 1).2 ⟨by omega, by rw [bf4.2.2.size]; omega⟩
theorem bf5 : (PP.pinA (b4.fetch 1)).1 = 0 ∧ PP.Holds b5 (PP.upd (PP.upd (PP.upd (PS.new 8).held 1 [7]) 2 [8]) 3 [9]) ∧ b5.m = 2 := by
  have hf := bf4.2.2
  obtain ⟨i, t, g⟩ := hf.holds.pin bh1 (fun _ _ => hf.holds.loose hf.p_)
  have e := hf.holds.pin_fetch bh1 (fun _ _ => hf.holds.loose hf.p_)
  unfold b5
  rw [e, g.eq]
  exact ⟨rfl, g.holds, g.m_.trans hf.m_⟩
theorem bm5 : (b4.fetch 1).2.2.c.Max 9223372036854775806 := fun j => by
  have hf := bf4.2.2
  rw [hf.holds.fetch_p bh1 (fun _ _ => hf.holds.loose hf.p_), hf.p_]
  omega
theorem bf6 : (b5.unpin 5).1 = 1 := by decide
theorem bh6 : PP.Holds b6 (PP.upd (PP.upd (PP.upd (PS.new 8).held 1 [7]) 2 [8]) 3 [9]) ∧ b6.m = 2 := by
  obtain ⟨h1, h2⟩ := bf5.2.1.unpin 5
  exact ⟨h1, h2.trans bf5.2.2⟩

/-- Bytes just laid lie outside. -/
theorem PLive.out_new {W w : World} {F : Nat → Prop} {pb db : Nat} {s : PP} (h : PLive W F w pb db s) (l : List UInt8) (t : TypeId) : Out (w.alloc (.cells (bv l).toArray t)) F (some ⟨w.heap.size, 0, none⟩) l := by
  rcases bys_new w l t with e | ⟨b, off, e, _, hc⟩
  · exact Or.inl e
  · refine Or.inr ⟨b, off, e, fun hb => ?_, hc⟩
    have := h.lt b hb
    injection e with e
    injection e with e1 e2
    omega

set_option maxRecDepth 20000 in
theorem diskInfo : (Try.prog.info? 56).isSome = true := by kernel_rfl

theorem eql_disk (a : Addr) (w : World) : (binOp .eql 25 (.pointer (some a)) (.pointer (some a))).run Try.prog w = .ok (.bool true) w := by
  obtain ⟨j, hj⟩ := Option.isSome_iff_exists.1 diskInfo
  exact run_eql_ptr_same w a Try.underlying25 hj

set_option maxRecDepth 20000 in
set_option maxHeartbeats 1600000 in
theorem awake_any (w : World) :
    Calls Try.prog 7 #[] w fun e w' => e = .returned (.bool true) ∧ Below w.heap.size w w' := by
  go_enter Try.func7, Try.ntmps7
  go_wp2_with fail
  refine (new_live (W := w) w 8 (by omega) (by omega) (Below.refl _ _)).mono ?_
  rintro e w1 ⟨db, D1, rfl, hv1, -, -⟩
  have HV1 := Lib.hid hv1
  clear hv1
  go_wp2_with fail
  refine (pnew_live (W := w) w1 2 (by omega) (by omega) HV1.out).mono ?_
  rintro e w2 ⟨pb, F2, rfl, hv2, -, -⟩
  have HV2 : Hid (PLive w F2 w2 pb db b0) := hv2
  clear hv2 HV1
  go_wp2_with fail
  refine (put_live (W := w) _ 1 (by omega) (by omega) _ 1 1 [7] rfl (HV2.out.out_new [7] 5) (fun h => by cases h) (HV2.out.alloc _)).mono ?_
  rintro e w3 ⟨rfl, F3, hv3, -⟩
  have HV3 : Hid (PLive w F3 w3 pb db b1) := hv3
  rw [bf1.1]
  clear hv3 HV2
  go_wp2_with fail
  refine (put_live (W := w) _ 2 (by omega) (by omega) _ 1 1 [8] rfl (HV3.out.out_new [8] 5) (fun h => by cases h) (HV3.out.alloc _)).mono ?_
  rintro e w4 ⟨rfl, F4, hv4, -⟩
  have HV4 : Hid (PLive w F4 w4 pb db b2) := hv4
  rw [bf2.1]
  clear hv4 HV3
  go_wp2_with fail
  refine (put_live (W := w) _ 3 (by omega) (by omega) _ 1 1 [9] rfl (HV4.out.out_new [9] 5) (fun h => by cases h) (HV4.out.alloc _)).mono ?_
  rintro e w5 ⟨rfl, F5, hv5, -⟩
  have HV5 : Hid (PLive w F5 w5 pb db b3) := hv5
  rw [bf3.1]
  clear hv5 HV4
  go_wp2_with fail
  refine (get_live (W := w) _ 1 (by omega) (by omega) HV5.out).mono ?_
  rintro e w6 ⟨A6, c6, F6, rfl, ho6, -, hv6, -, -⟩
  have HV6 : Hid (PLive w F6 w6 pb db b4) := hv6
  rw [bf4.1, show ((b3.get 1).2.1).length = 1 from by rw [bf4.2.1]; rfl]
  rw [bf4.2.1] at ho6
  have HO6 := Lib.hid ho6
  clear hv6 ho6 HV5
  go_wp2_with fail
  refine (ppin_live (W := w) _ 1 (by omega) (by omega) bm5 HV6.out).mono ?_
  rintro e w7 ⟨rfl, F7, hv7, hm7⟩
  have HV7 : Hid (PLive w F7 w7 pb db b5) := hv7
  have HO7 := Lib.hid (hm7.out HO6.out)
  rw [bf5.1]
  clear hv7 hm7 HV6 HO6
  go_wp2_with fail
  refine (punpin_live (W := w) _ 5 HV7.out).mono ?_
  rintro e w8 ⟨rfl, F8, hv8, hm8⟩
  have HV8 : Hid (PLive w F8 w8 pb db b6) := hv8
  have HO8 := Lib.hid (hm8.out HO7.out)
  rw [bf6]
  clear hv8 hm8 HV7 HO7
  go_wp2_with fail
  refine (pflush_live (W := w) _ (by rw [bh6.2]; omega) HV8.out).mono ?_
  rintro e w9 ⟨js, hj, rfl, F9, hv9, hm9⟩
  obtain ⟨j1, j2⟩ := bh6.1.flushA HV8.out.fit.vd hj
  rw [j1]
  have hm2 := j2.m_.trans bh6.2
  have hcl := j2.clean
  rw [bh6.2] at hcl
  generalize (b6.flushA js).2 = b7 at *
  have HV9 := Lib.hid hv9
  have HM := Lib.hid hm2
  have HCL := Lib.hid hcl
  obtain ⟨b, o, rfl, k9⟩ := (hm9.out HO8.out).first
  have heq := eql_disk ⟨db, 0, none⟩
  have HP := Lib.hid (pages_live (W := w) w9 HV9.out)
  have HK := Lib.hid k9
  clear hv9 hm9 HV8 HO8 hj j1 j2 hm2 hcl k9
  go_wp2_with (first
    | (refine HP.out.mono ?_; rintro e w10 ⟨rfl, -, hb10⟩; rw [HM.out]; have HV10 := Lib.hid (HV9.out.next hb10); have HK10 := Lib.hid ((hb10.cell (World.block_lt_of_cell? _ _ HK.out)).trans HK.out))
    | (refine (dirty_live (W := w) w10 (by rw [HM.out]; omega) HV10.out).mono ?_; rintro e w11 ⟨A11, c11, js2, rfl, -, hj2, hb11⟩; obtain rfl := PP.js_none hj2 (by rw [HM.out]; exact HCL.out); have HV11 := Lib.hid (HV10.out.next hb11); have k11 := (hb11.cell (World.block_lt_of_cell? _ _ HK10.out)).trans HK10.out)
    | (refine (pdisk_live (W := w) w11 HV11.out).mono ?_; rintro e w' ⟨rfl, rfl⟩))
  go_ret
  exact ⟨rfl, HV11.out.below⟩
end Go.Proofs.Ytgkdlbcpckdmkaa
