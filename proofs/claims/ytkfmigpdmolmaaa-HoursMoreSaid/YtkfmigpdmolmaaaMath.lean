/- The calendar in plain numbers: leap years, months' lengths, a date's number. No text of the program is read here. -/
import Derived.WalkKit
namespace Go.Proofs.Ytkfmigpdmolmaaa.Cal

theorem tmod_zero (y k : Int) : y.tmod k = 0 ↔ y % k = 0 := by
  rw [← Int.dvd_iff_tmod_eq_zero, ← Int.dvd_iff_emod_eq_zero]

/-- 1 in leap years, else 0. -/
def lp (y : Int) : Int := if y % 4 = 0 ∧ (y % 100 ≠ 0 ∨ y % 400 = 0) then 1 else 0
theorem lp01 (y : Int) : 0 ≤ lp y ∧ lp y ≤ 1 := by unfold lp; split <;> omega
def leapB (y : Int) : Bool := decide (lp y = 1)

def lenI (y m : Int) : Int :=
  if m = 1 ∨ m = 3 ∨ m = 5 ∨ m = 7 ∨ m = 8 ∨ m = 10 ∨ m = 12 then 31
  else if m = 4 ∨ m = 6 ∨ m = 9 ∨ m = 11 then 30
  else if m = 2 then 28 + lp y else 0

/-- days ahead of a month, in its year. -/
def cumI (y m : Int) : Int :=
  if m ≤ 1 then 0 else if m = 2 then 31 else
  (if m = 3 then 59 else if m = 4 then 90 else if m = 5 then 120 else if m = 6 then 151 else if m = 7 then 181
   else if m = 8 then 212 else if m = 9 then 243 else if m = 10 then 273 else if m = 11 then 304 else if m = 12 then 334 else 365) + lp y

theorem len_bd (y m : Int) : 0 ≤ lenI y m ∧ lenI y m ≤ 31 := by
  have := lp01 y; unfold lenI; repeat' split
  all_goals omega
theorem len_pos (y m : Int) (h1 : 1 ≤ m) (h2 : m ≤ 12) : 28 ≤ lenI y m := by
  have := lp01 y; unfold lenI; repeat' split
  all_goals omega
theorem len_no (y m : Int) (h : m < 1 ∨ 12 < m) : lenI y m = 0 := by
  unfold lenI; repeat' split
  all_goals omega
theorem cum_succ (y m : Int) (h1 : 1 ≤ m) (h2 : m ≤ 12) : cumI y (m + 1) = cumI y m + lenI y m := by
  have h : m = 1 ∨ m = 2 ∨ m = 3 ∨ m = 4 ∨ m = 5 ∨ m = 6 ∨ m = 7 ∨ m = 8 ∨ m = 9 ∨ m = 10 ∨ m = 11 ∨ m = 12 := by omega
  rcases h with h | h | h | h | h | h | h | h | h | h | h | h <;> subst h <;> simp [cumI, lenI] <;> omega
theorem cum_bd (y m : Int) : 0 ≤ cumI y m ∧ cumI y m ≤ 366 := by
  have := lp01 y; unfold cumI; repeat' split
  all_goals omega
theorem cum_one (y : Int) : cumI y 1 = 0 := by simp [cumI]
theorem cum_13 (y : Int) : cumI y 13 = 365 + lp y := by simp [cumI]

def lt (y : Int) : Int := y / 4 - y / 100 + y / 400
/-- the number of the first of January. -/
def ys (y : Int) : Int := (y - 1900) * 365 + lt (y - 1) - 460

theorem ys_succ (y : Int) : ys (y + 1) = ys y + 365 + lp y := by
  unfold ys lt lp; split <;> omega
theorem ys_1900 : ys 1900 = 0 := by decide
theorem ys_2201 : ys 2201 = 109938 := by decide
theorem ys_mono (a b : Int) (h : a ≤ b) : ys a ≤ ys b := by unfold ys lt; omega
theorem ys_bd (y : Int) (h1 : 1900 ≤ y) (h2 : y ≤ 2201) : 0 ≤ ys y ∧ ys y ≤ 109938 := by
  unfold ys lt; omega
theorem ys_guess (n : Int) (h : 0 ≤ n) : ys (1900 + n / 366) ≤ n := by unfold ys lt; omega

def mayP (y m d : Int) : Prop := 1900 ≤ y ∧ y ≤ 2200 ∧ 1 ≤ d ∧ d ≤ lenI y m
instance (y m d : Int) : Decidable (mayP y m d) := by unfold mayP; infer_instance
def mayB (y m d : Int) : Bool := decide (mayP y m d)
def numI (y m d : Int) : Int := ys y + cumI y m + d - 1

theorem may_iff {y m d : Int} : mayB y m d = true ↔ mayP y m d := by simp [mayB]
theorem may_no {y m d : Int} : mayB y m d = false ↔ ¬ mayP y m d := by simp [mayB]
theorem may_month {y m d : Int} (h : mayP y m d) : 1 ≤ m ∧ m ≤ 12 := by
  unfold mayP at h
  by_cases g : m < 1 ∨ 12 < m
  · rw [len_no y m g] at h; omega
  · omega
theorem cum_le (y m : Int) (h1 : 1 ≤ m) (h2 : m ≤ 12) : cumI y m + lenI y m ≤ 365 + lp y := by
  have h : m = 1 ∨ m = 2 ∨ m = 3 ∨ m = 4 ∨ m = 5 ∨ m = 6 ∨ m = 7 ∨ m = 8 ∨ m = 9 ∨ m = 10 ∨ m = 11 ∨ m = 12 := by omega
  have := lp01 y
  rcases h with h | h | h | h | h | h | h | h | h | h | h | h <;> subst h <;> simp [cumI, lenI] <;> omega
theorem cum_mono (y a b : Int) (h1 : 1 ≤ a) (h : a < b) (h2 : b ≤ 12) : cumI y a + lenI y a ≤ cumI y b := by
  rw [← cum_succ y a h1 (by omega)]
  have := lp01 y
  unfold cumI; repeat' split
  all_goals omega
theorem num_bd {y m d : Int} (h : mayP y m d) : 0 ≤ numI y m d ∧ numI y m d ≤ 109937 := by
  have hm := may_month h
  obtain ⟨a, b, c, e⟩ := h
  have h1 := ys_mono (y + 1) 2201 (by omega)
  rw [ys_succ, ys_2201] at h1
  have h2 := ys_bd y a (by omega)
  have h3 := cum_le y m hm.1 hm.2
  have h4 := cum_bd y m
  unfold numI; omega
theorem num_inj {y m d y' m' d' : Int} (h : mayP y m d) (h' : mayP y' m' d') (e : numI y m d = numI y' m' d') : y = y' ∧ m = m' ∧ d = d' := by
  have hm := may_month h
  have hm' := may_month h'
  obtain ⟨a, b, c, f⟩ := h
  obtain ⟨a', b', c', f'⟩ := h'
  unfold numI at e
  have k := cum_le y m hm.1 hm.2
  have k' := cum_le y' m' hm'.1 hm'.2
  have g := cum_bd y m
  have g' := cum_bd y' m'
  have s := ys_succ y
  have s' := ys_succ y'
  have hy : y = y' := by
    rcases Int.lt_trichotomy y y' with l | l | l
    · have := ys_mono (y + 1) y' (by omega); omega
    · exact l
    · have := ys_mono (y' + 1) y (by omega); omega
  subst hy
  have hmm : m = m' := by
    rcases Int.lt_trichotomy m m' with l | l | l
    · have := cum_mono y m m' hm.1 l hm'.2; omega
    · exact l
    · have := cum_mono y m' m hm'.1 l hm.2; omega
  subst hmm
  exact ⟨rfl, rfl, by omega⟩

theorem date_ex (k : Nat) : k ≤ 109937 → ∃ y m d : Int, mayP y m d ∧ numI y m d = k := by
  induction k with
  | zero => intro _; exact ⟨1900, 1, 1, by decide, by decide⟩
  | succ k ih =>
    intro hk
    obtain ⟨y, m, d, h, hn⟩ := ih (by omega)
    have hm := may_month h
    have hb := num_bd h
    obtain ⟨a, b, c, e⟩ := h
    by_cases h1 : d < lenI y m
    · exact ⟨y, m, d + 1, ⟨a, b, by omega, by omega⟩, by unfold numI at *; omega⟩
    by_cases h2 : m < 12
    · refine ⟨y, m + 1, 1, ⟨a, b, by omega, ?_⟩, ?_⟩
      · have := len_pos y (m + 1) (by omega) (by omega); omega
      · have := cum_succ y m hm.1 hm.2
        unfold numI at *; omega
    · obtain rfl : m = 12 := by omega
      have h13 := cum_13 y
      have hs := cum_succ y 12 (by omega) (by omega)
      have hys := ys_succ y
      have hy : y < 2200 := by
        apply Decidable.byContradiction; intro hc
        obtain rfl : y = 2200 := by omega
        have h0 := ys_2201
        unfold numI at hn
        simp only [show (2200 : Int) + 1 = 2201 from rfl] at hys
        simp only [show (12 : Int) + 1 = 13 from rfl] at hs
        omega
      refine ⟨y + 1, 1, 1, ⟨by omega, by omega, by omega, ?_⟩, ?_⟩
      · have := len_pos (y + 1) 1 (by omega) (by omega); omega
      · have := cum_one (y + 1)
        simp only [show (12 : Int) + 1 = 13 from rfl] at hs
        unfold numI at *; omega

/-- The date of a number. -/
noncomputable def dateOf (n : Int) : Int × Int × Int := Classical.epsilon fun p => mayP p.1 p.2.1 p.2.2 ∧ numI p.1 p.2.1 p.2.2 = n
noncomputable def yOf (n : Int) : Int := (dateOf n).1
noncomputable def mOf (n : Int) : Int := (dateOf n).2.1
noncomputable def dOf (n : Int) : Int := (dateOf n).2.2
theorem dateOf_spec (n : Int) (h1 : 0 ≤ n) (h2 : n ≤ 109937) : mayP (yOf n) (mOf n) (dOf n) ∧ numI (yOf n) (mOf n) (dOf n) = n := by
  obtain ⟨y, m, d, h, hn⟩ := date_ex n.toNat (by omega)
  have : ∃ p : Int × Int × Int, mayP p.1 p.2.1 p.2.2 ∧ numI p.1 p.2.1 p.2.2 = n := ⟨(y, m, d), h, by rw [hn]; omega⟩
  exact Classical.epsilon_spec this
theorem dateOf_eq {y m d n : Int} (h : mayP y m d) (hn : numI y m d = n) : yOf n = y ∧ mOf n = m ∧ dOf n = d := by
  have hb := num_bd h
  obtain ⟨a, b⟩ := dateOf_spec n (by omega) (by omega)
  exact num_inj a h (by rw [b, hn])
/-- Where the days ahead of a month, and a day in it, are found, the date is found. -/
theorem date_at {y m n : Int} (h1 : 1900 ≤ y) (h2 : y ≤ 2200) (h3 : 0 ≤ n - ys y - cumI y m) (h4 : n - ys y - cumI y m < lenI y m) :
    yOf n = y ∧ mOf n = m ∧ dOf n = n - ys y - cumI y m + 1 :=
  dateOf_eq (y := y) (m := m) (d := n - ys y - cumI y m + 1) ⟨h1, h2, by omega, by omega⟩ (by unfold numI; omega)
/-- In the last month there is room for what is left of a year. -/
theorem last_month (y n : Int) (h : n < ys (y + 1)) : n - ys y - cumI y 12 < lenI y 12 := by
  have a := ys_succ y
  have b := cum_succ y 12 (by omega) (by omega)
  have c := cum_13 y
  simp only [show (12 : Int) + 1 = 13 from rfl] at b
  omega
theorem year_room (y n : Int) (h : ys (y + 1) ≤ n) (hn : n ≤ 109937) : y + 1 ≤ 2200 := by
  apply Decidable.byContradiction; intro hc
  have := ys_mono 2201 (y + 1) (by omega)
  rw [ys_2201] at this
  omega
end Go.Proofs.Ytkfmigpdmolmaaa.Cal
