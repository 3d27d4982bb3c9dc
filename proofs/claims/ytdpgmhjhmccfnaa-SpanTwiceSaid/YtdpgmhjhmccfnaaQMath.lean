/- Plain mathematics of rules: what may be; their texts. -/
import Derived.Test.YtdpgmhjhmccfnaaCMath

namespace Qr
open Ck
/-- A rule. -/
structure R where
  freq : Int
  iv : Int
  count : Int
  until_ : Int
  bm : List Int
  bd : List Int
  bw : List (Int × Int)
  bs : List Int
  start : Int
/-- May a number stand in a row, behind another one? -/
def okN (most : Int) (below : Bool) (l : List Int) (i : Nat) : Prop :=
  l.getD i 0 ≤ most ∧ -most ≤ l.getD i 0 ∧ l.getD i 0 ≠ 0 ∧ (below = true ∨ 0 ≤ l.getD i 0) ∧ (i = 0 ∨ l.getD (i - 1) 0 < l.getD i 0)
instance (most : Int) (below : Bool) (l : List Int) (i : Nat) : Decidable (okN most below l i) := by unfold okN; infer_instance
def rowB (most : Int) (below : Bool) (l : List Int) : Bool := (List.range l.length).all fun i => decide (okN most below l i)
theorem rowB_iff {most : Int} {below : Bool} {l : List Int} : rowB most below l = true ↔ ∀ i, i < l.length → okN most below l i := by
  unfold rowB; rw [List.all_eq_true]; simp
theorem rowB_no {most : Int} {below : Bool} {l : List Int} {i : Nat} (hi : i < l.length) (h : ¬ okN most below l i) : rowB most below l = false := by
  cases e : rowB most below l with
  | false => rfl
  | true => exact absurd (rowB_iff.1 e i hi) h
/-- May a day stand in a row? -/
def okD (freq : Int) (months : Bool) (l : List (Int × Int)) (i : Nat) : Prop :=
  let d := l.getD i (0, 0)
  0 ≤ d.2 ∧ d.2 ≤ 6 ∧ -5 ≤ d.1 ∧ d.1 ≤ 5 ∧ (d.1 = 0 ∨ (3 ≤ freq ∧ (freq ≠ 4 ∨ months = true))) ∧ (i = 0 ∨ (l.getD (i - 1) (0, 0)).1 < d.1 ∨ ((l.getD (i - 1) (0, 0)).1 = d.1 ∧ (l.getD (i - 1) (0, 0)).2 < d.2))
instance (freq : Int) (months : Bool) (l : List (Int × Int)) (i : Nat) : Decidable (okD freq months l i) := by unfold okD; infer_instance
def daysB (r : R) : Bool := (List.range r.bw.length).all fun i => decide (okD r.freq (!r.bm.isEmpty) r.bw i)
theorem daysB_iff {r : R} : daysB r = true ↔ ∀ i, i < r.bw.length → okD r.freq (!r.bm.isEmpty) r.bw i := by
  unfold daysB; rw [List.all_eq_true]; simp
theorem daysB_no {r : R} {i : Nat} (hi : i < r.bw.length) (h : ¬ okD r.freq (!r.bm.isEmpty) r.bw i) : daysB r = false := by
  cases e : daysB r with
  | false => rfl
  | true => exact absurd (daysB_iff.1 e i hi) h
/-- May a rule be? -/
def mayP (r : R) : Prop :=
  (1 ≤ r.freq ∧ r.freq ≤ 4 ∧ 1 ≤ r.iv ∧ r.iv ≤ 999 ∧ 0 ≤ r.count ∧ r.count ≤ 5000 ∧ 0 ≤ r.start ∧ r.start ≤ 6) ∧
  (r.until_ = -1 ∨ (0 ≤ r.until_ ∧ r.until_ < 158310720 ∧ r.count ≤ 0)) ∧
  (rowB 12 false r.bm = true ∧ rowB 31 true r.bd = true ∧ rowB 366 true r.bs = true ∧ daysB r = true) ∧
  (r.freq ≠ 2 ∨ r.bd = []) ∧
  (r.bs = [] ∨ r.bm ≠ [] ∨ r.bd ≠ [] ∨ r.bw ≠ [])
instance (r : R) : Decidable (mayP r) := by unfold mayP; infer_instance
def mayB (r : R) : Bool := decide (mayP r)
/-- A number in decimal. -/
def dec (n : Nat) : List UInt8 := if n < 10 then low n 1 else dec (n / 10) ++ low ((n % 10 : Nat) : Int) 1
termination_by n
decreasing_by omega
def decI (n : Int) : List UInt8 := if n < 0 then 45 :: dec (-n).toNat else dec n.toNat
theorem dec_small {n : Nat} (h : n < 10) : dec n = low n 1 := by rw [dec, if_pos h]
theorem dec_great {n : Nat} (h : ¬ n < 10) : dec n = dec (n / 10) ++ low ((n % 10 : Nat) : Int) 1 := by rw [dec, if_neg h]
theorem dec_len {n : Nat} : ∀ k : Nat, 1 ≤ k → n < 10 ^ k → (dec n).length ≤ k := by
  induction n using Nat.strongRecOn with
  | _ n ih =>
    intro k hk hn
    by_cases h : n < 10
    · rw [dec_small h, low_len]; exact hk
    · rw [dec_great h, List.length_append, low_len]
      match k, hk with
      | 1, _ => omega
      | k + 2, _ =>
        have := ih (n / 10) (by omega) (k + 1) (by omega) (by rw [Nat.pow_succ] at hn; omega)
        omega
/-- A part's row. -/
def tail_ (l : List Int) : List UInt8 := l.flatMap fun x => 44 :: decI x
def nums (l : List Int) : List UInt8 := match l with | [] => [] | x :: r => decI x ++ tail_ r
def prt (name : List UInt8) (l : List Int) : List UInt8 := if l = [] then [] else 59 :: name ++ 61 :: nums l
end Qr
