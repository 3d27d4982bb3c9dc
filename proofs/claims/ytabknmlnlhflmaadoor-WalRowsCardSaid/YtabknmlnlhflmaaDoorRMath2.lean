/- Plain mathematics of sums by a table: k bits at once. -/
import Derived.Test.YtabknmlnlhflmaaDoorRMath
namespace Rc
theorem stps_up (k q : Nat) : stps k (2 ^ k * q) = q := by
  induction k with
  | zero => simp [stps]
  | succ k ih =>
    rw [stps, show 2 ^ (k + 1) * q = 2 * (2 ^ k * q) by rw [Nat.pow_succ, Nat.mul_comm (2 ^ k) 2, Nat.mul_assoc], stp_even, ih]
theorem split_at (k v : Nat) : v = (v % 2 ^ k) ^^^ (2 ^ k * (v / 2 ^ k)) := by
  apply Nat.eq_of_testBit_eq
  intro i
  rw [Nat.testBit_xor, Nat.testBit_mod_two_pow, Nat.testBit_two_pow_mul, Nat.testBit_div_two_pow]
  by_cases h : i < k
  · have : ¬ k ≤ i := by omega
    simp [h, this]
  · have hk : k ≤ i := by omega
    simp [h, hk, show i - k + k = i by omega]
/-- k steps at once: what goes, by a table; what stays, shifted. -/
theorem stps_table (k v : Nat) : stps k v = stps k (v % 2 ^ k) ^^^ (v / 2 ^ k) := by
  have h := split_at k v
  have : stps k v = stps k ((v % 2 ^ k) ^^^ (2 ^ k * (v / 2 ^ k))) := by rw [← h]
  rw [this, stps_xor, stps_up]
theorem byt_half (r c : Nat) : byt r c = stps 4 ((stps 4 ((r ^^^ c) % 16) ^^^ ((r ^^^ c) / 16)) % 16) ^^^ ((stps 4 ((r ^^^ c) % 16) ^^^ ((r ^^^ c) / 16)) / 16) := by
  unfold byt
  rw [show (8 : Nat) = 4 + 4 from rfl, stps_add, stps_table 4 (stps 4 (r ^^^ c)), stps_table 4 (r ^^^ c)]
theorem byt_whole (r c : Nat) : byt r c = stps 8 ((r ^^^ c) % 256) ^^^ ((r ^^^ c) / 256) := stps_table 8 _
end Rc
