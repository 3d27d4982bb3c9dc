/- Plain mathematics of numbers as bytes of seven bits: there and back, one way alone. -/
import Derived.Test.YtldfemohnommoaaPMath
namespace Pk
open Fr
theorem u8_toNat (b : UInt8) : u8 b.toNat = b := by unfold u8; exact UInt8.ofNat_toNat
/-- What seven bits a byte make, the low ones first. -/
def valT : List UInt8 → Nat
  | [] => 0
  | b :: l => b.toNat % 128 + 128 * valT l
@[simp] theorem valT_nil : valT [] = 0 := rfl
@[simp] theorem valT_cons (b : UInt8) (l : List UInt8) : valT (b :: l) = b.toNat % 128 + 128 * valT l := rfl
theorem valT_append (a b : List UInt8) : valT (a ++ b) = valT a + 128 ^ a.length * valT b := by
  induction a with
  | nil => simp
  | cons x a ih =>
    simp only [List.cons_append, valT_cons, List.length_cons, ih, Nat.pow_succ, Nat.mul_add]
    rw [Nat.add_assoc, Nat.mul_comm (128 ^ a.length) 128, Nat.mul_assoc]
theorem valT_lt (l : List UInt8) : valT l < 128 ^ l.length := by
  induction l with
  | nil => simp
  | cons x l ih => simp only [valT_cons, List.length_cons, Nat.pow_succ]; have := Nat.mod_lt x.toNat (show 0 < 128 by omega); omega
theorem num_ne (n : Nat) : numT n ≠ [] := by
  by_cases h : n < 128
  · rw [num_small h]; simp
  · rw [num_great h]; simp
theorem val_num (n : Nat) : valT (numT n) = n := by
  induction n using Nat.strongRecOn with
  | _ n ih =>
    by_cases h : n < 128
    · rw [num_small h]; simp [u8_nat (show n < 256 by omega)]; omega
    · rw [num_great h, valT_cons, ih (n / 128) (by omega), u8_nat (by omega)]; omega
/-- The bytes of a number: all but the last one above 127, the last one below 128, and 0 only alone. -/
def numB : List UInt8 → Bool
  | [] => false
  | [b] => decide (b.toNat < 128)
  | b :: c :: l => decide (128 ≤ b.toNat) && numB (c :: l) && !(l.isEmpty && decide (c.toNat = 0))
theorem numB_num (n : Nat) : numB (numT n) = true := by
  induction n using Nat.strongRecOn with
  | _ n ih =>
    by_cases h : n < 128
    · rw [num_small h]; simp [numB, u8_nat (show n < 256 by omega), h]
    · have := ih (n / 128) (by omega)
      rw [num_great h]
      by_cases h2 : n / 128 < 128
      · rw [num_small h2] at this ⊢
        have h3 : n / 128 ≠ 0 := by omega
        simp [numB, u8_nat (show n / 128 < 256 by omega), u8_nat (show 128 + n % 128 < 256 by omega), h2, h3]
      · rw [num_great h2] at this ⊢
        have hne := num_ne (n / 128 / 128)
        obtain ⟨x, y, hxy⟩ : ∃ x y, numT (n / 128 / 128) = x :: y := by
          cases hc : numT (n / 128 / 128) with
          | nil => exact absurd hc hne
          | cons x y => exact ⟨x, y, rfl⟩
        rw [hxy] at this ⊢
        simp only [numB] at this ⊢
        simp_all [u8_nat (show 128 + n % 128 < 256 by omega)]
theorem numB_val : ∀ l : List UInt8, numB l = true → numT (valT l) = l
  | [], h => by simp [numB] at h
  | [b], h => by
      have hb : b.toNat < 128 := by simpa [numB] using h
      simp only [valT_cons, valT_nil]
      rw [num_small (by omega)]
      congr 1
      rw [show b.toNat % 128 + 128 * 0 = b.toNat by omega]; exact u8_toNat b
  | b :: c :: l, h => by
      simp only [numB, Bool.and_eq_true, decide_eq_true_eq] at h
      have ih := numB_val (c :: l) h.1.2
      have hb := b.toNat_lt
      have h0 : valT (c :: l) ≠ 0 := by
        intro h0
        have : numT 0 = c :: l := by rw [← h0]; exact ih
        rw [num_small (by omega)] at this
        injection this with h3 h4
        subst h4
        subst h3
        simp [u8_nat (show 0 < 256 by omega)] at h
      have h1 : ¬ valT (b :: c :: l) < 128 := by rw [valT_cons]; omega
      rw [num_great h1]
      congr 1
      · rw [valT_cons, show 128 + (b.toNat % 128 + 128 * valT (c :: l)) % 128 = b.toNat by omega]; exact u8_toNat b
      · rw [valT_cons, show (b.toNat % 128 + 128 * valT (c :: l)) / 128 = valT (c :: l) by omega]; exact ih
/-- How many bytes a number has tells how great it is. -/
theorem num_lt (n : Nat) : n < 128 ^ (numT n).length := by have := valT_lt (numT n); rwa [val_num] at this
theorem num_ge (n : Nat) : 1 < (numT n).length → 128 ^ ((numT n).length - 1) ≤ n := by
  induction n using Nat.strongRecOn with
  | _ n ih =>
    intro h1
    by_cases h : n < 128
    · rw [num_small h] at h1; simp at h1
    · rw [num_great h] at h1 ⊢
      have hne := num_ne (n / 128)
      have hp : 0 < (numT (n / 128)).length := List.length_pos_iff.2 hne
      by_cases h2 : 1 < (numT (n / 128)).length
      · have := ih (n / 128) (by omega) h2
        simp only [List.length_cons, Nat.add_sub_cancel]
        have e : (numT (n / 128)).length = (numT (n / 128)).length - 1 + 1 := by omega
        rw [e, Nat.pow_succ]
        exact Nat.le_trans (Nat.mul_le_mul_right 128 this) (by omega)
      · have e : (numT (n / 128)).length = 1 := by omega
        simp only [List.length_cons, Nat.add_sub_cancel, e]; omega
theorem num_len_mono {a b : Nat} (h : (numT a).length < (numT b).length) : a < b :=
  have hp : 0 < (numT a).length := List.length_pos_iff.2 (num_ne a)
  Nat.lt_of_lt_of_le (num_lt a) (Nat.le_trans (Nat.pow_le_pow_right (by omega) (by omega)) (num_ge b (by omega)))
/-- Numbers are told from what stands behind them. -/
theorem num_app : ∀ (n m : Nat) (r s : List UInt8), numT n ++ r = numT m ++ s → n = m ∧ r = s := by
  intro n
  induction n using Nat.strongRecOn with
  | _ n ih =>
    intro m r s h
    by_cases h1 : n < 128 <;> by_cases h2 : m < 128
    · rw [num_small h1, num_small h2] at h
      injection h with a b
      have := congrArg UInt8.toNat a
      rw [u8_nat (by omega), u8_nat (by omega)] at this
      exact ⟨this, b⟩
    · rw [num_small h1, num_great h2] at h
      injection h with a b
      have := congrArg UInt8.toNat a
      rw [u8_nat (by omega), u8_nat (by omega)] at this
      omega
    · rw [num_great h1, num_small h2] at h
      injection h with a b
      have := congrArg UInt8.toNat a
      rw [u8_nat (by omega), u8_nat (by omega)] at this
      omega
    · rw [num_great h1, num_great h2] at h
      injection h with a b
      have := congrArg UInt8.toNat a
      rw [u8_nat (by omega), u8_nat (by omega)] at this
      have := ih (n / 128) (by omega) (m / 128) r s b
      exact ⟨by omega, this.2⟩
theorem text_app {a b r s : List UInt8} (h : textT a ++ r = textT b ++ s) : a = b ∧ r = s := by
  unfold textT at h
  rw [List.append_assoc, List.append_assoc] at h
  obtain ⟨e, h⟩ := num_app _ _ _ _ h
  exact List.append_inj h e
theorem flag_num (b : Bool) : flagT b = numT (if b then 1 else 0) := by cases b <;> (rw [num_small (by simp)]; rfl)
/-- A signed number of one without a sign. -/
def zag (n : Nat) : Int := if n % 2 = 1 then -((n / 2 : Nat) : Int) - 1 else (n / 2 : Nat)
theorem zag_zig (n : Int) : zag (zig n) = n := by unfold zag zig; split <;> split <;> omega
theorem zig_zag (n : Nat) : zig (zag n) = n := by unfold zag zig; split <;> split <;> omega
end Pk
