/-
  Plain facts on bytes as numbers; nothing here names the program.
-/
namespace Go.Proofs.Ytcdfjaldnelfjaa

theorem byte_lt (c : UInt8) : c.toNat < 256 := UInt8.toNat_lt c
theorem ofNat_toNat (n : Nat) : (UInt8.ofNat n).toNat = n % 256 := by simp

end Go.Proofs.Ytcdfjaldnelfjaa
