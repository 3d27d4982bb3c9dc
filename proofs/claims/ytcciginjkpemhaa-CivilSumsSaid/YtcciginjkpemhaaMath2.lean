/- The n-th such weekday of a month, in plain numbers. -/
import Derived.Test.YtcciginjkpemhaaMath
namespace Go.Proofs.Ytcciginjkpemhaa.Cal

/-- The day that the program reckons: f the number of the month's first day, l the month's length. -/
def nthI (f l wd n : Int) : Int := if n < 0 then l - (f + l - 1 - wd) % 7 + 7 * (n + 1) else 1 + (wd - f) % 7 + 7 * (n - 1)
def nthP (f l wd n : Int) : Prop := n ≠ 0 ∧ 1 ≤ nthI f l wd n ∧ nthI f l wd n ≤ l
instance (f l wd n : Int) : Decidable (nthP f l wd n) := by unfold nthP; infer_instance

/-- The days of a month that are such a weekday, up to day k. -/
def days (f wd : Int) : Nat → List Int
  | 0 => []
  | k + 1 => if (f + k) % 7 = wd then days f wd k ++ [(k : Int) + 1] else days f wd k

theorem days_len (f wd : Int) (k : Nat) : (days f wd k).length ≤ k := by
  induction k with
  | zero => simp [days]
  | succ k ih => unfold days; split <;> (try simp only [List.length_append, List.length_singleton]) <;> omega

theorem days_mod (f wd : Int) (k : Nat) : days f wd k = days (f % 7) wd k := by
  induction k with
  | zero => rfl
  | succ k ih =>
    unfold days
    rw [ih]
    have : ((f + (k : Int)) % 7 = wd) ↔ ((f % 7 + (k : Int)) % 7 = wd) := by omega
    simp only [this]

def okAt (f wd l n : Int) : Bool :=
  let d := days f wd l.toNat
  if 1 ≤ n ∧ n ≤ d.length then decide (nthP f l wd n) && decide (d[(n - 1).toNat]? = some (nthI f l wd n))
  else if n ≤ -1 ∧ -(d.length : Int) ≤ n then decide (nthP f l wd n) && decide (d[(d.length + n).toNat]? = some (nthI f l wd n))
  else decide (¬ nthP f l wd n)

theorem ok_all : ∀ f : Fin 7, ∀ wd : Fin 7, ∀ l : Fin 4, ∀ n : Fin 13, okAt f.val wd.val (28 + l.val) ((n.val : Int) - 6) = true := by decide +kernel

theorem len_all : ∀ f : Fin 7, ∀ wd : Fin 7, ∀ l : Fin 4, (days f.val wd.val (28 + l.val)).length ≤ 5 := by decide +kernel

theorem nth_mod (f l wd n : Int) : nthI f l wd n = nthI (f % 7) l wd n := by unfold nthI; split <;> omega

theorem days_len5 (f wd l : Int) (h1 : 0 ≤ wd) (h2 : wd ≤ 6) (h3 : 28 ≤ l) (h4 : l ≤ 31) : (days f wd l.toNat).length ≤ 5 := by
  rw [days_mod]
  have := len_all ⟨(f % 7).toNat, by omega⟩ ⟨wd.toNat, by omega⟩ ⟨(l - 28).toNat, by omega⟩
  simp only at this
  rw [show ((f % 7).toNat : Int) = f % 7 from by omega, show (wd.toNat : Int) = wd from by omega, show 28 + (l - 28).toNat = l.toNat from by omega] at this
  exact this

theorem okAt_all (f wd l n : Int) (h1 : 0 ≤ wd) (h2 : wd ≤ 6) (h3 : 28 ≤ l) (h4 : l ≤ 31) (h5 : -6 ≤ n) (h6 : n ≤ 6) : okAt (f % 7) wd l n = true := by
  have := ok_all ⟨(f % 7).toNat, by omega⟩ ⟨wd.toNat, by omega⟩ ⟨(l - 28).toNat, by omega⟩ ⟨(n + 6).toNat, by omega⟩
  simp only at this
  rw [show ((f % 7).toNat : Int) = f % 7 from by omega, show (wd.toNat : Int) = wd from by omega, show (28 : Int) + ((l - 28).toNat : Int) = l from by omega, show ((n + 6).toNat : Int) - 6 = n from by omega] at this
  exact this

/-- The program's day is the document's. -/
theorem nth_days (f wd l n : Int) (h1 : 0 ≤ wd) (h2 : wd ≤ 6) (h3 : 28 ≤ l) (h4 : l ≤ 31) :
    (1 ≤ n → n ≤ (days f wd l.toNat).length → -5 ≤ n ∧ n ≤ 5 ∧ nthP f l wd n ∧ (days f wd l.toNat)[(n - 1).toNat]? = some (nthI f l wd n)) ∧
    (n ≤ -1 → -((days f wd l.toNat).length : Int) ≤ n → -5 ≤ n ∧ n ≤ 5 ∧ nthP f l wd n ∧ (days f wd l.toNat)[((days f wd l.toNat).length + n).toNat]? = some (nthI f l wd n)) ∧
    ((n < 1 ∨ ((days f wd l.toNat).length : Int) < n) → (-1 < n ∨ n < -((days f wd l.toNat).length : Int)) → ¬ (-5 ≤ n ∧ n ≤ 5 ∧ nthP f l wd n)) := by
  have hlen := days_len5 f wd l h1 h2 h3 h4
  have hp : nthP f l wd n ↔ nthP (f % 7) l wd n := by unfold nthP; rw [nth_mod f]
  rw [nth_mod f, hp]
  rw [days_mod f] at *
  refine ⟨fun a b => ?_, fun a b => ?_, fun a b c => ?_⟩
  · have := okAt_all f wd l n h1 h2 h3 h4 (by omega) (by omega)
    unfold okAt at this
    simp only at this
    rw [if_pos ⟨a, b⟩] at this
    simp only [Bool.and_eq_true, decide_eq_true_eq] at this
    exact ⟨by omega, by omega, this.1, this.2⟩
  · have := okAt_all f wd l n h1 h2 h3 h4 (by omega) (by omega)
    unfold okAt at this
    simp only at this
    rw [if_neg (by omega), if_pos ⟨a, b⟩] at this
    simp only [Bool.and_eq_true, decide_eq_true_eq] at this
    exact ⟨by omega, by omega, this.1, this.2⟩
  · have := okAt_all f wd l n h1 h2 h3 h4 (by omega) (by omega)
    unfold okAt at this
    simp only at this
    rw [if_neg (by omega), if_neg (by omega)] at this
    simp only [decide_eq_true_eq] at this
    exact this c.2.2
end Go.Proofs.Ytcciginjkpemhaa.Cal
