/- Plain mathematics of numbers as bytes of seven bits. -/
import Derived.Test.YtldfemohnommoaaFMath
namespace Pk
open Fr
/-- A number, seven bits a byte, the low ones first. -/
def numT (n : Nat) : List UInt8 := if n < 128 then [u8 n] else u8 (128 + n % 128) :: numT (n / 128)
termination_by n
decreasing_by omega
theorem num_small {n : Nat} (h : n < 128) : numT n = [u8 n] := by rw [numT, if_pos h]
theorem num_great {n : Nat} (h : ¬ n < 128) : numT n = u8 (128 + n % 128) :: numT (n / 128) := by rw [numT, if_neg h]
theorem num_len (k : Nat) : ∀ n, n < 128 ^ (k + 1) → (numT n).length ≤ k + 1 := by
  induction k with
  | zero => intro n h; rw [num_small (by simpa using h)]; simp
  | succ k ih =>
    intro n h
    by_cases h1 : n < 128
    · rw [num_small h1]; simp
    · rw [num_great h1]
      have := ih (n / 128) (by rw [Nat.pow_succ] at h; exact Nat.div_lt_of_lt_mul (by rw [Nat.mul_comm]; exact h))
      simp; omega
theorem num_len10 {n : Nat} (h : n < 18446744073709551616) : (numT n).length ≤ 10 := num_len 9 n (Nat.lt_of_lt_of_le h (by decide))
/-- A signed number, as one without a sign. -/
def zig (n : Int) : Nat := if 0 ≤ n then 2 * n.toNat else 2 * (-(n + 1)).toNat + 1
def textT (l : List UInt8) : List UInt8 := numT l.length ++ l
def flagT (b : Bool) : List UInt8 := if b then [1] else [0]
end Pk
