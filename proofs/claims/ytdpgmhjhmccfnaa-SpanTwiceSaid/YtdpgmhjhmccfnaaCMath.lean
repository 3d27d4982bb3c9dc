/- Plain mathematics of texts of times. -/
import Derived.Test.YtdpgmhjhmccfnaaZMath
namespace Ck
open Zn (first first_le first_no first_yes first_eq)

def dig (d : Int) : UInt8 := UInt8.ofNat (48 + d).toNat
theorem dig_nat {d : Int} (h0 : 0 ≤ d) (h : d ≤ 9) : ((dig d).toNat : Int) = 48 + d := by
  unfold dig
  rw [UInt8.toNat_ofNat']
  omega
/-- The i lowest digits of a number, the highest first. -/
def low (n : Int) : Nat → List UInt8
  | 0 => []
  | i + 1 => dig (n / 10 ^ i % 10) :: low n i
theorem low_len (n : Int) (i : Nat) : (low n i).length = i := by
  induction i with
  | zero => rfl
  | succ i ih => simp [low, ih]
theorem div_step (n : Int) (i : Nat) : n / 10 ^ i / 10 = n / 10 ^ (i + 1) := by
  rw [Int.pow_succ, Int.ediv_ediv_of_nonneg (by exact Int.le_of_lt (Int.pow_pos (by omega)))]
theorem div_nn {n : Int} (h : 0 ≤ n) (i : Nat) : 0 ≤ n / 10 ^ i := Int.ediv_nonneg h (Int.le_of_lt (Int.pow_pos (by omega)))
theorem div_le {n : Int} (h : 0 ≤ n) (i : Nat) : n / 10 ^ i ≤ n := Int.ediv_le_self _ h

/-- A minute of the day as a text. -/
def minT (n : Int) : List UInt8 := low (n / 60) 2 ++ [58] ++ low (n % 60) 2
theorem minT_len (n : Int) : (minT n).length = 5 := by unfold minT; simp [low_len]
/-- Which minute of the day has this text; -1, if none. -/
def readM (l : List UInt8) : Int := if first (fun n => decide (minT n = l)) 1441 < 1441 then first (fun n => decide (minT n = l)) 1441 else -1
theorem readM_at {l : List UInt8} {k : Nat} (h0 : ∀ j : Nat, j < k → minT j ≠ l) (hk : k < 1441) (h : minT k = l) : readM l = k := by
  have e : first (fun n => decide (minT n = l)) 1441 = k := first_eq (Nat.le_of_lt hk) (fun i hi => by simp [h0 i hi]) (fun _ => by simp [h])
  unfold readM; rw [e, if_pos hk]
theorem readM_none {l : List UInt8} (h0 : ∀ j : Nat, j < 1441 → minT j ≠ l) : readM l = -1 := by
  have e : first (fun n => decide (minT n = l)) 1441 = 1441 := first_eq (Nat.le_refl _) (fun i hi => by simp [h0 i hi]) (fun h => absurd h (Nat.lt_irrefl _))
  unfold readM; rw [e, if_neg (Nat.lt_irrefl _)]
theorem readM_bd (l : List UInt8) : -1 ≤ readM l ∧ readM l ≤ 1440 := by unfold readM; split <;> omega

/-- The value of digits, from n on; -1. -/
def valFrom (n : Int) : List UInt8 → Int
  | [] => n
  | c :: r => if 48 ≤ c.toNat ∧ c.toNat ≤ 57 then valFrom (10 * n + c.toNat - 48) r else -1
def valI (l : List UInt8) : Int := valFrom 0 l
theorem pow4 {k : Nat} (h : k ≤ 4) : (10 : Int) ^ k ≤ 10000 := by
  have : k = 0 ∨ k = 1 ∨ k = 2 ∨ k = 3 ∨ k = 4 := by omega
  rcases this with rfl | rfl | rfl | rfl | rfl <;> decide
theorem valFrom_bd (n : Int) (k : Nat) (l : List UInt8) (h0 : 0 ≤ n) (h1 : n < 10 ^ k) : -1 ≤ valFrom n l ∧ valFrom n l < 10 ^ (k + l.length) := by
  induction l generalizing n k with
  | nil => exact ⟨by show -1 ≤ n; omega, by simpa [valFrom] using h1⟩
  | cons c r ih =>
    unfold valFrom
    have hp : (0 : Int) < 10 ^ (k + (c :: r).length) := Int.pow_pos (by omega)
    split
    · rename_i h
      have := ih (10 * n + c.toNat - 48) (k + 1) (by omega) (by rw [Int.pow_succ]; omega)
      rwa [show k + 1 + r.length = k + (c :: r).length by simp; omega] at this
    · exact ⟨by omega, by omega⟩
theorem valI_bd (l : List UInt8) (h : l.length ≤ 4) : -1 ≤ valI l ∧ valI l < 10000 := by
  have a := valFrom_bd 0 0 l (by omega) (by simp)
  have b := pow4 (k := 0 + l.length) (by omega)
  exact ⟨a.1, Int.lt_of_lt_of_le a.2 b⟩
def dayI (n : Int) : Int := if n / 1440 = 109938 then 109937 else n / 1440
def minuteI (n : Int) : Int := if n / 1440 = 109938 then 1440 else n % 1440
theorem day_bd {n : Int} (h0 : 0 ≤ n) (h1 : n ≤ 158310720) : 0 ≤ dayI n ∧ dayI n ≤ 109937 ∧ 0 ≤ minuteI n ∧ minuteI n ≤ 1440 := by
  unfold dayI minuteI; split <;> omega
end Ck
