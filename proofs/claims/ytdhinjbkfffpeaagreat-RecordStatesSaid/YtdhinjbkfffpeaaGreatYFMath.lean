
/- Plain mathematics of frames: a number in four bytes. -/
section
namespace Fr
def u8 (n : Nat) : UInt8 := UInt8.ofNat n
theorem u8_nat {n : Nat} (h : n < 256) : (u8 n).toNat = n := by unfold u8; rw [UInt8.toNat_ofNat']; omega
end Fr
end
