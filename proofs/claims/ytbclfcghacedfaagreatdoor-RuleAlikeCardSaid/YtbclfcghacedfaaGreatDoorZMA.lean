import Derived.WalkKit
import Derived.Lib.ItoaNum
import Derived.Lib.Repeat
import Derived.Lib.IndexMore
import Derived.Lib.AtoiAll
import Derived.Lib.Split
import Derived.Lib.ReplaceLaws
import Derived.Lib.Replace
/- Plain mathematics of zones: what is added at a minute, the next turn, and of which minutes a local time comes. -/
section
namespace Zn

/-- A zone as plain data: what is added at first, how many turns, when each is, and what is added from it on. -/
structure Z where
  base : Int
  n : Nat
  t : Nat → Int
  o : Nat → Int

def okT (z : Z) (i : Nat) : Prop := -900 ≤ z.o i ∧ z.o i ≤ 900 ∧ 0 ≤ z.t i ∧ z.t i ≤ 158310720 ∧ (0 < i → 2880 ≤ z.t i - z.t (i - 1))
instance (z : Z) (i : Nat) : Decidable (okT z i) := by unfold okT; infer_instance
def mayP (z : Z) : Prop := -900 ≤ z.base ∧ z.base ≤ 900 ∧ z.n ≤ 700 ∧ ∀ i, i < z.n → okT z i
instance (z : Z) : Decidable (mayP z) := by unfold mayP; infer_instance
def mayB (z : Z) : Bool := decide (mayP z)
theorem may_iff {z : Z} : mayB z = true ↔ mayP z := by unfold mayB; exact decide_eq_true_iff
theorem may_no {z : Z} : mayB z = false ↔ ¬ mayP z := by unfold mayB; exact decide_eq_false_iff_not

/-- What is added ahead of the turn at a place. -/
def ah (z : Z) : Nat → Int
  | 0 => z.base
  | p + 1 => z.o p
/-- What is added at a minute, over the first k turns. -/
def offTo (z : Z) (u : Int) : Nat → Int
  | 0 => z.base
  | k + 1 => if z.t k ≤ u then z.o k else offTo z u k
def off (z : Z) (u : Int) : Int := offTo z u z.n

/-- The first place below n at which p says yes; n, if there is none. -/
def first (p : Nat → Bool) : Nat → Nat
  | 0 => 0
  | n + 1 => if first p n < n then first p n else if p n = true then n else n + 1
theorem first_le (p : Nat → Bool) (n : Nat) : first p n ≤ n := by
  induction n with
  | zero => exact Nat.le_refl _
  | succ n ih => unfold first; split <;> (try split) <;> omega
theorem first_no (p : Nat → Bool) (n : Nat) : ∀ i, i < first p n → p i = false := by
  induction n with
  | zero => intro i h; exact absurd h (Nat.not_lt_zero _)
  | succ n ih =>
    intro i h
    have hl := first_le p n
    unfold first at h
    split at h
    · exact ih i h
    · split at h
      · exact ih i (by omega)
      · rename_i h1 h2
        by_cases e : i = n
        · subst e; simpa using h2
        · exact ih i (by omega)
theorem first_yes (p : Nat → Bool) (n : Nat) : first p n < n → p (first p n) = true := by
  induction n with
  | zero => intro h; exact absurd h (Nat.not_lt_zero _)
  | succ n ih =>
    intro h
    have e : first p (n + 1) = if first p n < n then first p n else if p n = true then n else n + 1 := rfl
    rw [e] at h ⊢
    split
    · exact ih (by assumption)
    · rename_i h1
      rw [if_neg h1] at h
      split
      · assumption
      · rename_i h2; rw [if_neg h2] at h; omega
theorem first_eq {p : Nat → Bool} {n q : Nat} (hq : q ≤ n) (h0 : ∀ i, i < q → p i = false) (h1 : q < n → p q = true) : first p n = q := by
  have hl := first_le p n
  rcases Nat.lt_trichotomy (first p n) q with h | h | h
  · have a := first_yes p n (by omega); rw [h0 _ h] at a; cases a
  · exact h
  · have a := first_no p n q h; rw [h1 (by omega)] at a; cases a

def fb (z : Z) (u : Int) : Nat := first (fun i => decide (u < z.t i)) z.n
theorem fb_le (z : Z) (u : Int) : fb z u ≤ z.n := first_le _ _
theorem fb_no {z : Z} {u : Int} {i : Nat} (h : i < fb z u) : z.t i ≤ u := by have := first_no _ _ i h; simpa using this
theorem fb_yes {z : Z} {u : Int} (h : fb z u < z.n) : u < z.t (fb z u) := of_decide_eq_true (first_yes _ _ h)
theorem fb_eq {z : Z} {u : Int} {q : Nat} (hq : q ≤ z.n) (h0 : ∀ i, i < q → z.t i ≤ u) (h1 : q < z.n → u < z.t q) : fb z u = q :=
  first_eq hq (fun i h => by have := h0 i h; simp; omega) (fun h => by have := h1 h; simpa using this)

theorem gap {z : Z} (hz : mayP z) {i : Nat} (d : Nat) (h : i + d + 1 < z.n) : 2880 ≤ z.t (i + d + 1) - z.t i := by
  induction d with
  | zero => have := (hz.2.2.2 (i + 1) (by omega)).2.2.2.2 (by omega); simpa using this
  | succ d ih =>
    have a := ih (by omega)
    have b := (hz.2.2.2 (i + (d + 1) + 1) (by omega)).2.2.2.2 (by omega)
    have e : i + (d + 1) + 1 - 1 = i + d + 1 := by omega
    rw [e] at b
    omega
theorem gap' {z : Z} (hz : mayP z) {i j : Nat} (h : i < j) (hj : j < z.n) : 2880 ≤ z.t j - z.t i := by
  have a := gap hz (i := i) (j - i - 1) (by omega)
  have e : i + (j - i - 1) + 1 = j := by omega
  rwa [e] at a
theorem fb_all {z : Z} (hz : mayP z) {u : Int} {i : Nat} (h : fb z u ≤ i) (hi : i < z.n) : u < z.t i := by
  have a := fb_yes (z := z) (u := u) (by omega)
  by_cases e : fb z u = i
  · rw [e] at a; exact a
  · have := gap' hz (i := fb z u) (j := i) (by omega) hi; omega

theorem ah_bd {z : Z} (hz : mayP z) (p : Nat) (hp : p ≤ z.n) : -900 ≤ ah z p ∧ ah z p ≤ 900 := by
  cases p with
  | zero => exact ⟨hz.1, hz.2.1⟩
  | succ p => have := hz.2.2.2 p (by omega); exact ⟨this.1, this.2.1⟩
theorem o_bd {z : Z} (hz : mayP z) {p : Nat} (hp : p < z.n) : -900 ≤ z.o p ∧ z.o p ≤ 900 := by
  have := hz.2.2.2 p hp; exact ⟨this.1, this.2.1⟩
theorem t_bd {z : Z} (hz : mayP z) {p : Nat} (hp : p < z.n) : 0 ≤ z.t p ∧ z.t p ≤ 158310720 := by
  have := hz.2.2.2 p hp; exact ⟨this.2.2.1, this.2.2.2.1⟩

theorem offTo_eq {z : Z} {u : Int} (q : Nat) (h0 : ∀ i, i < q → z.t i ≤ u) : ∀ k, q ≤ k → (∀ i, q ≤ i → i < k → u < z.t i) → offTo z u k = ah z q := by
  intro k
  induction k with
  | zero =>
    intro hq _
    obtain rfl : q = 0 := by omega
    rfl
  | succ k ih =>
    intro hq h1
    unfold offTo
    by_cases e : q = k + 1
    · subst e
      rw [if_pos (h0 k (by omega))]; rfl
    · have a := h1 k (by omega) (by omega)
      rw [if_neg (by omega)]
      exact ih (by omega) (fun i a b => h1 i a (by omega))
theorem off_eq {z : Z} (hz : mayP z) (u : Int) : off z u = ah z (fb z u) :=
  offTo_eq (fb z u) (fun _ h => fb_no h) z.n (fb_le z u) (fun _ a b => fb_all hz a b)
theorem off_bd {z : Z} (hz : mayP z) (u : Int) : -900 ≤ off z u ∧ off z u ≤ 900 := by
  rw [off_eq hz]; exact ah_bd hz _ (fb_le z u)

/-- Whether a local time isn't behind the turn at a place by both clocks. -/
def npB (z : Z) (l : Int) (i : Nat) : Bool := decide (l < z.t i + ah z i) || decide (l < z.t i + z.o i)
def np (z : Z) (l : Int) : Nat := first (npB z l) z.n
theorem np_le (z : Z) (l : Int) : np z l ≤ z.n := first_le _ _
theorem np_no {z : Z} {l : Int} {i : Nat} (h : i < np z l) : z.t i + ah z i ≤ l ∧ z.t i + z.o i ≤ l := by
  have := first_no _ _ i h; unfold npB at this; simp at this; omega
theorem np_yes {z : Z} {l : Int} (h : np z l < z.n) : l < z.t (np z l) + ah z (np z l) ∨ l < z.t (np z l) + z.o (np z l) := by
  have a : npB z l (np z l) = true := first_yes (npB z l) _ h
  unfold npB at a
  simpa using a
theorem np_all {z : Z} (hz : mayP z) {l : Int} {i : Nat} (h : np z l ≤ i) (hi : i < z.n) : npB z l i = true := by
  have a := np_yes (z := z) (l := l) (by omega)
  unfold npB
  by_cases e : np z l = i
  · rw [e] at a; simpa using a
  · have g := gap' hz (i := np z l) (j := i) (by omega) hi
    have b := ah_bd hz (np z l) (by omega)
    have c := o_bd hz (p := np z l) (by omega)
    have d := o_bd hz hi
    simp; omega
theorem np_none {z : Z} {l : Int} {i : Nat} (h : i < np z l) : npB z l i = false := first_no _ _ i h

/-- OF WHICH MINUTES A LOCAL TIME COMES. -/
theorem comes {z : Z} (hz : mayP z) (l u : Int) :
    u + off z u = l ↔ (u = l - ah z (np z l) ∧ (np z l = z.n ∨ l < z.t (np z l) + ah z (np z l))) ∨ (np z l < z.n ∧ u = l - z.o (np z l) ∧ z.t (np z l) + z.o (np z l) ≤ l) := by
  rw [off_eq hz]
  have hp := np_le z l
  have hy := np_yes (z := z) (l := l)
  have hn := fun i (h : i < np z l) => np_no h
  generalize np z l = p at *
  constructor
  · intro h
    have hq := fb_le z u
    have q1 := fb_yes (z := z) (u := u)
    have q0 := fun i (h : i < fb z u) => fb_no h
    have qb := ah_bd hz _ hq
    generalize fb z u = q at *
    rcases Nat.lt_trichotomy q p with e | e | e
    · have a := hn q e
      have b := q1 (by omega)
      omega
    · subst e
      left
      refine ⟨by omega, ?_⟩
      by_cases e : q = z.n
      · exact .inl e
      · have := q1 (by omega); right; omega
    · by_cases e2 : q = p + 1
      · subst e2
        right
        have a := q0 p (by omega)
        have e3 : ah z (p + 1) = z.o p := rfl
        rw [e3] at h
        exact ⟨by omega, by omega, by omega⟩
      · have a := q0 (p + 1) (by omega)
        have g := gap' hz (i := p) (j := p + 1) (by omega) (by omega)
        have b := ah_bd hz p (by omega)
        have c := o_bd hz (p := p) (by omega)
        have := hy (by omega)
        omega
  · rintro (⟨h1, h2⟩ | ⟨h1, h2, h3⟩)
    · have e : fb z u = p := by
        refine fb_eq hp (fun i hi => ?_) (fun h => by omega)
        have hpp : p = (p - 1) + 1 := by omega
        have e3 : ah z p = z.o (p - 1) := by rw [hpp]; rfl
        have a := hn (p - 1) (by omega)
        by_cases e : i = p - 1
        · subst e; omega
        · have := gap' hz (i := i) (j := p - 1) (by omega) (by omega); omega
      rw [e]; omega
    · have e : fb z u = p + 1 := by
        refine fb_eq (by omega) (fun i hi => ?_) (fun h => ?_)
        · by_cases e : i = p
          · subst e; omega
          · have := gap' hz (i := i) (j := p) (by omega) (by omega); omega
        · have g := gap' hz (i := p) (j := p + 1) (by omega) h
          have b := ah_bd hz p (by omega)
          have c := o_bd hz (p := p) (by omega)
          have := hy (by omega)
          omega
      rw [e]
      have e3 : ah z (p + 1) = z.o p := rfl
      rw [e3]; omega

/-- How a local time stands at its place. -/
def kindI (z : Z) (l : Int) (p : Nat) : Int := if p = z.n then 0 else if z.t p + ah z p ≤ l then 1 else if z.t p + z.o p ≤ l then 2 else 0
def atI (z : Z) (l : Int) : Int := l - ah z (np z l)
def hasP (z : Z) (l : Int) : Prop := -900 ≤ l ∧ l ≤ 158311620 ∧ mayP z ∧ 0 ≤ atI z l ∧ atI z l ≤ 158310720
instance (z : Z) (l : Int) : Decidable (hasP z l) := by unfold hasP; infer_instance
end Zn
end

/- Plain mathematics of texts of times. -/
section
namespace Ck
open Zn (first first_le first_no first_yes first_eq)

def dig (d : Int) : UInt8 := UInt8.ofNat (48 + d).toNat
theorem dig_nat {d : Int} (h0 : 0 ≤ d) (h : d ≤ 9) : ((dig d).toNat : Int) = 48 + d := by
  unfold dig
  rw [UInt8.toNat_ofNat']
  omega
/-- The i lowest digits of a number, the highest first. -/
def low (n : Int) : Nat → List UInt8
  | 0 => []
  | i + 1 => dig (n / 10 ^ i % 10) :: low n i
theorem low_len (n : Int) (i : Nat) : (low n i).length = i := by
  induction i with
  | zero => rfl
  | succ i ih => simp [low, ih]
theorem div_step (n : Int) (i : Nat) : n / 10 ^ i / 10 = n / 10 ^ (i + 1) := by
  rw [Int.pow_succ, Int.ediv_ediv_of_nonneg (by exact Int.le_of_lt (Int.pow_pos (by omega)))]
theorem div_nn {n : Int} (h : 0 ≤ n) (i : Nat) : 0 ≤ n / 10 ^ i := Int.ediv_nonneg h (Int.le_of_lt (Int.pow_pos (by omega)))
theorem div_le {n : Int} (h : 0 ≤ n) (i : Nat) : n / 10 ^ i ≤ n := Int.ediv_le_self _ h

/-- A minute of the day as a text. -/
def minT (n : Int) : List UInt8 := low (n / 60) 2 ++ [58] ++ low (n % 60) 2
theorem minT_len (n : Int) : (minT n).length = 5 := by unfold minT; simp [low_len]
/-- Which minute of the day has this text; -1, if none. -/
def readM (l : List UInt8) : Int := if first (fun n => decide (minT n = l)) 1441 < 1441 then first (fun n => decide (minT n = l)) 1441 else -1
theorem readM_at {l : List UInt8} {k : Nat} (h0 : ∀ j : Nat, j < k → minT j ≠ l) (hk : k < 1441) (h : minT k = l) : readM l = k := by
  have e : first (fun n => decide (minT n = l)) 1441 = k := first_eq (Nat.le_of_lt hk) (fun i hi => by simp [h0 i hi]) (fun _ => by simp [h])
  unfold readM; rw [e, if_pos hk]
theorem readM_none {l : List UInt8} (h0 : ∀ j : Nat, j < 1441 → minT j ≠ l) : readM l = -1 := by
  have e : first (fun n => decide (minT n = l)) 1441 = 1441 := first_eq (Nat.le_refl _) (fun i hi => by simp [h0 i hi]) (fun h => absurd h (Nat.lt_irrefl _))
  unfold readM; rw [e, if_neg (Nat.lt_irrefl _)]
theorem readM_bd (l : List UInt8) : -1 ≤ readM l ∧ readM l ≤ 1440 := by unfold readM; split <;> omega

/-- The value of digits, from n on; -1. -/
def valFrom (n : Int) : List UInt8 → Int
  | [] => n
  | c :: r => if 48 ≤ c.toNat ∧ c.toNat ≤ 57 then valFrom (10 * n + c.toNat - 48) r else -1
def valI (l : List UInt8) : Int := valFrom 0 l
theorem pow4 {k : Nat} (h : k ≤ 4) : (10 : Int) ^ k ≤ 10000 := by
  have : k = 0 ∨ k = 1 ∨ k = 2 ∨ k = 3 ∨ k = 4 := by omega
  rcases this with rfl | rfl | rfl | rfl | rfl <;> decide
theorem valFrom_bd (n : Int) (k : Nat) (l : List UInt8) (h0 : 0 ≤ n) (h1 : n < 10 ^ k) : -1 ≤ valFrom n l ∧ valFrom n l < 10 ^ (k + l.length) := by
  induction l generalizing n k with
  | nil => exact ⟨by show -1 ≤ n; omega, by simpa [valFrom] using h1⟩
  | cons c r ih =>
    unfold valFrom
    have hp : (0 : Int) < 10 ^ (k + (c :: r).length) := Int.pow_pos (by omega)
    split
    · rename_i h
      have := ih (10 * n + c.toNat - 48) (k + 1) (by omega) (by rw [Int.pow_succ]; omega)
      rwa [show k + 1 + r.length = k + (c :: r).length by simp; omega] at this
    · exact ⟨by omega, by omega⟩
theorem valI_bd (l : List UInt8) (h : l.length ≤ 4) : -1 ≤ valI l ∧ valI l < 10000 := by
  have a := valFrom_bd 0 0 l (by omega) (by simp)
  have b := pow4 (k := 0 + l.length) (by omega)
  exact ⟨a.1, Int.lt_of_lt_of_le a.2 b⟩
def dayI (n : Int) : Int := if n / 1440 = 109938 then 109937 else n / 1440
def minuteI (n : Int) : Int := if n / 1440 = 109938 then 1440 else n % 1440
theorem day_bd {n : Int} (h0 : 0 ≤ n) (h1 : n ≤ 158310720) : 0 ≤ dayI n ∧ dayI n ≤ 109937 ∧ 0 ≤ minuteI n ∧ minuteI n ≤ 1440 := by
  unfold dayI minuteI; split <;> omega
end Ck
end

/- Plain mathematics of rules: what may be; their texts. -/
section
namespace Qr
open Ck
/-- A rule. -/
structure R where
  freq : Int
  iv : Int
  count : Int
  until_ : Int
  bm : List Int
  bd : List Int
  bw : List (Int × Int)
  bs : List Int
  start : Int
/-- May a number stand in a row, behind another one? -/
def okN (most : Int) (below : Bool) (l : List Int) (i : Nat) : Prop :=
  l.getD i 0 ≤ most ∧ -most ≤ l.getD i 0 ∧ l.getD i 0 ≠ 0 ∧ (below = true ∨ 0 ≤ l.getD i 0) ∧ (i = 0 ∨ l.getD (i - 1) 0 < l.getD i 0)
instance (most : Int) (below : Bool) (l : List Int) (i : Nat) : Decidable (okN most below l i) := by unfold okN; infer_instance
def rowB (most : Int) (below : Bool) (l : List Int) : Bool := (List.range l.length).all fun i => decide (okN most below l i)
theorem rowB_iff {most : Int} {below : Bool} {l : List Int} : rowB most below l = true ↔ ∀ i, i < l.length → okN most below l i := by
  unfold rowB; rw [List.all_eq_true]; simp
theorem rowB_no {most : Int} {below : Bool} {l : List Int} {i : Nat} (hi : i < l.length) (h : ¬ okN most below l i) : rowB most below l = false := by
  cases e : rowB most below l with
  | false => rfl
  | true => exact absurd (rowB_iff.1 e i hi) h
/-- May a day stand in a row? -/
def okD (freq : Int) (months : Bool) (l : List (Int × Int)) (i : Nat) : Prop :=
  let d := l.getD i (0, 0)
  0 ≤ d.2 ∧ d.2 ≤ 6 ∧ -5 ≤ d.1 ∧ d.1 ≤ 5 ∧ (d.1 = 0 ∨ (3 ≤ freq ∧ (freq ≠ 4 ∨ months = true))) ∧ (i = 0 ∨ (l.getD (i - 1) (0, 0)).1 < d.1 ∨ ((l.getD (i - 1) (0, 0)).1 = d.1 ∧ (l.getD (i - 1) (0, 0)).2 < d.2))
instance (freq : Int) (months : Bool) (l : List (Int × Int)) (i : Nat) : Decidable (okD freq months l i) := by unfold okD; infer_instance
def daysB (r : R) : Bool := (List.range r.bw.length).all fun i => decide (okD r.freq (!r.bm.isEmpty) r.bw i)
theorem daysB_iff {r : R} : daysB r = true ↔ ∀ i, i < r.bw.length → okD r.freq (!r.bm.isEmpty) r.bw i := by
  unfold daysB; rw [List.all_eq_true]; simp
theorem daysB_no {r : R} {i : Nat} (hi : i < r.bw.length) (h : ¬ okD r.freq (!r.bm.isEmpty) r.bw i) : daysB r = false := by
  cases e : daysB r with
  | false => rfl
  | true => exact absurd (daysB_iff.1 e i hi) h
/-- May a rule be? -/
def mayP (r : R) : Prop :=
  (1 ≤ r.freq ∧ r.freq ≤ 4 ∧ 1 ≤ r.iv ∧ r.iv ≤ 999 ∧ 0 ≤ r.count ∧ r.count ≤ 5000 ∧ 0 ≤ r.start ∧ r.start ≤ 6) ∧
  (r.until_ = -1 ∨ (0 ≤ r.until_ ∧ r.until_ < 158310720 ∧ r.count ≤ 0)) ∧
  (rowB 12 false r.bm = true ∧ rowB 31 true r.bd = true ∧ rowB 366 true r.bs = true ∧ daysB r = true) ∧
  (r.freq ≠ 2 ∨ r.bd = []) ∧
  (r.bs = [] ∨ r.bm ≠ [] ∨ r.bd ≠ [] ∨ r.bw ≠ [])
instance (r : R) : Decidable (mayP r) := by unfold mayP; infer_instance
def mayB (r : R) : Bool := decide (mayP r)
/-- A number in decimal. -/
def dec (n : Nat) : List UInt8 := if n < 10 then low n 1 else dec (n / 10) ++ low ((n % 10 : Nat) : Int) 1
termination_by n
decreasing_by omega
def decI (n : Int) : List UInt8 := if n < 0 then 45 :: dec (-n).toNat else dec n.toNat
theorem dec_small {n : Nat} (h : n < 10) : dec n = low n 1 := by rw [dec, if_pos h]
theorem dec_great {n : Nat} (h : ¬ n < 10) : dec n = dec (n / 10) ++ low ((n % 10 : Nat) : Int) 1 := by rw [dec, if_neg h]
theorem dec_len {n : Nat} : ∀ k : Nat, 1 ≤ k → n < 10 ^ k → (dec n).length ≤ k := by
  induction n using Nat.strongRecOn with
  | _ n ih =>
    intro k hk hn
    by_cases h : n < 10
    · rw [dec_small h, low_len]; exact hk
    · rw [dec_great h, List.length_append, low_len]
      match k, hk with
      | 1, _ => omega
      | k + 2, _ =>
        have := ih (n / 10) (by omega) (k + 1) (by omega) (by rw [Nat.pow_succ] at hn; omega)
        omega
/-- A part's row. -/
def tail_ (l : List Int) : List UInt8 := l.flatMap fun x => 44 :: decI x
def nums (l : List Int) : List UInt8 := match l with | [] => [] | x :: r => decI x ++ tail_ r
def prt (name : List UInt8) (l : List Int) : List UInt8 := if l = [] then [] else 59 :: name ++ 61 :: nums l
end Qr
end

/- The calendar in plain numbers: leap years, months' lengths, a date's number. No text of the program is read here. -/
section
namespace Go.Proofs.YtbclfcghacedfaaGreatDoor.Cal

theorem tmod_zero (y k : Int) : y.tmod k = 0 ↔ y % k = 0 := by
  rw [← Int.dvd_iff_tmod_eq_zero, ← Int.dvd_iff_emod_eq_zero]

/-- 1 in leap years, else 0. -/
def lp (y : Int) : Int := if y % 4 = 0 ∧ (y % 100 ≠ 0 ∨ y % 400 = 0) then 1 else 0
theorem lp01 (y : Int) : 0 ≤ lp y ∧ lp y ≤ 1 := by unfold lp; split <;> omega
def leapB (y : Int) : Bool := decide (lp y = 1)

def lenI (y m : Int) : Int :=
  if m = 1 ∨ m = 3 ∨ m = 5 ∨ m = 7 ∨ m = 8 ∨ m = 10 ∨ m = 12 then 31
  else if m = 4 ∨ m = 6 ∨ m = 9 ∨ m = 11 then 30
  else if m = 2 then 28 + lp y else 0

/-- days ahead of a month, in its year. -/
def cumI (y m : Int) : Int :=
  if m ≤ 1 then 0 else if m = 2 then 31 else
  (if m = 3 then 59 else if m = 4 then 90 else if m = 5 then 120 else if m = 6 then 151 else if m = 7 then 181
   else if m = 8 then 212 else if m = 9 then 243 else if m = 10 then 273 else if m = 11 then 304 else if m = 12 then 334 else 365) + lp y

theorem len_bd (y m : Int) : 0 ≤ lenI y m ∧ lenI y m ≤ 31 := by
  have := lp01 y; unfold lenI; repeat' split
  all_goals omega
theorem len_pos (y m : Int) (h1 : 1 ≤ m) (h2 : m ≤ 12) : 28 ≤ lenI y m := by
  have := lp01 y; unfold lenI; repeat' split
  all_goals omega
theorem len_no (y m : Int) (h : m < 1 ∨ 12 < m) : lenI y m = 0 := by
  unfold lenI; repeat' split
  all_goals omega
theorem cum_succ (y m : Int) (h1 : 1 ≤ m) (h2 : m ≤ 12) : cumI y (m + 1) = cumI y m + lenI y m := by
  have h : m = 1 ∨ m = 2 ∨ m = 3 ∨ m = 4 ∨ m = 5 ∨ m = 6 ∨ m = 7 ∨ m = 8 ∨ m = 9 ∨ m = 10 ∨ m = 11 ∨ m = 12 := by omega
  rcases h with h | h | h | h | h | h | h | h | h | h | h | h <;> subst h <;> simp [cumI, lenI] <;> omega
theorem cum_bd (y m : Int) : 0 ≤ cumI y m ∧ cumI y m ≤ 366 := by
  have := lp01 y; unfold cumI; repeat' split
  all_goals omega
theorem cum_one (y : Int) : cumI y 1 = 0 := by simp [cumI]
theorem cum_13 (y : Int) : cumI y 13 = 365 + lp y := by simp [cumI]

def lt (y : Int) : Int := y / 4 - y / 100 + y / 400
/-- the number of the first of January. -/
def ys (y : Int) : Int := (y - 1900) * 365 + lt (y - 1) - 460

theorem ys_succ (y : Int) : ys (y + 1) = ys y + 365 + lp y := by
  unfold ys lt lp; split <;> omega
theorem ys_1900 : ys 1900 = 0 := by decide
theorem ys_2201 : ys 2201 = 109938 := by decide
theorem ys_mono (a b : Int) (h : a ≤ b) : ys a ≤ ys b := by unfold ys lt; omega
theorem ys_bd (y : Int) (h1 : 1900 ≤ y) (h2 : y ≤ 2201) : 0 ≤ ys y ∧ ys y ≤ 109938 := by
  unfold ys lt; omega
theorem ys_guess (n : Int) (h : 0 ≤ n) : ys (1900 + n / 366) ≤ n := by unfold ys lt; omega

def mayP (y m d : Int) : Prop := 1900 ≤ y ∧ y ≤ 2200 ∧ 1 ≤ d ∧ d ≤ lenI y m
instance (y m d : Int) : Decidable (mayP y m d) := by unfold mayP; infer_instance
def mayB (y m d : Int) : Bool := decide (mayP y m d)
def numI (y m d : Int) : Int := ys y + cumI y m + d - 1

theorem may_iff {y m d : Int} : mayB y m d = true ↔ mayP y m d := by simp [mayB]
theorem may_no {y m d : Int} : mayB y m d = false ↔ ¬ mayP y m d := by simp [mayB]
theorem may_month {y m d : Int} (h : mayP y m d) : 1 ≤ m ∧ m ≤ 12 := by
  unfold mayP at h
  by_cases g : m < 1 ∨ 12 < m
  · rw [len_no y m g] at h; omega
  · omega
theorem cum_le (y m : Int) (h1 : 1 ≤ m) (h2 : m ≤ 12) : cumI y m + lenI y m ≤ 365 + lp y := by
  have h : m = 1 ∨ m = 2 ∨ m = 3 ∨ m = 4 ∨ m = 5 ∨ m = 6 ∨ m = 7 ∨ m = 8 ∨ m = 9 ∨ m = 10 ∨ m = 11 ∨ m = 12 := by omega
  have := lp01 y
  rcases h with h | h | h | h | h | h | h | h | h | h | h | h <;> subst h <;> simp [cumI, lenI] <;> omega
theorem cum_mono (y a b : Int) (h1 : 1 ≤ a) (h : a < b) (h2 : b ≤ 12) : cumI y a + lenI y a ≤ cumI y b := by
  rw [← cum_succ y a h1 (by omega)]
  have := lp01 y
  unfold cumI; repeat' split
  all_goals omega
theorem num_bd {y m d : Int} (h : mayP y m d) : 0 ≤ numI y m d ∧ numI y m d ≤ 109937 := by
  have hm := may_month h
  obtain ⟨a, b, c, e⟩ := h
  have h1 := ys_mono (y + 1) 2201 (by omega)
  rw [ys_succ, ys_2201] at h1
  have h2 := ys_bd y a (by omega)
  have h3 := cum_le y m hm.1 hm.2
  have h4 := cum_bd y m
  unfold numI; omega
theorem num_inj {y m d y' m' d' : Int} (h : mayP y m d) (h' : mayP y' m' d') (e : numI y m d = numI y' m' d') : y = y' ∧ m = m' ∧ d = d' := by
  have hm := may_month h
  have hm' := may_month h'
  obtain ⟨a, b, c, f⟩ := h
  obtain ⟨a', b', c', f'⟩ := h'
  unfold numI at e
  have k := cum_le y m hm.1 hm.2
  have k' := cum_le y' m' hm'.1 hm'.2
  have g := cum_bd y m
  have g' := cum_bd y' m'
  have s := ys_succ y
  have s' := ys_succ y'
  have hy : y = y' := by
    rcases Int.lt_trichotomy y y' with l | l | l
    · have := ys_mono (y + 1) y' (by omega); omega
    · exact l
    · have := ys_mono (y' + 1) y (by omega); omega
  subst hy
  have hmm : m = m' := by
    rcases Int.lt_trichotomy m m' with l | l | l
    · have := cum_mono y m m' hm.1 l hm'.2; omega
    · exact l
    · have := cum_mono y m' m hm'.1 l hm.2; omega
  subst hmm
  exact ⟨rfl, rfl, by omega⟩

theorem date_ex (k : Nat) : k ≤ 109937 → ∃ y m d : Int, mayP y m d ∧ numI y m d = k := by
  induction k with
  | zero => intro _; exact ⟨1900, 1, 1, by decide, by decide⟩
  | succ k ih =>
    intro hk
    obtain ⟨y, m, d, h, hn⟩ := ih (by omega)
    have hm := may_month h
    have hb := num_bd h
    obtain ⟨a, b, c, e⟩ := h
    by_cases h1 : d < lenI y m
    · exact ⟨y, m, d + 1, ⟨a, b, by omega, by omega⟩, by unfold numI at *; omega⟩
    by_cases h2 : m < 12
    · refine ⟨y, m + 1, 1, ⟨a, b, by omega, ?_⟩, ?_⟩
      · have := len_pos y (m + 1) (by omega) (by omega); omega
      · have := cum_succ y m hm.1 hm.2
        unfold numI at *; omega
    · obtain rfl : m = 12 := by omega
      have h13 := cum_13 y
      have hs := cum_succ y 12 (by omega) (by omega)
      have hys := ys_succ y
      have hy : y < 2200 := by
        apply Decidable.byContradiction; intro hc
        obtain rfl : y = 2200 := by omega
        have h0 := ys_2201
        unfold numI at hn
        simp only [show (2200 : Int) + 1 = 2201 from rfl] at hys
        simp only [show (12 : Int) + 1 = 13 from rfl] at hs
        omega
      refine ⟨y + 1, 1, 1, ⟨by omega, by omega, by omega, ?_⟩, ?_⟩
      · have := len_pos (y + 1) 1 (by omega) (by omega); omega
      · have := cum_one (y + 1)
        simp only [show (12 : Int) + 1 = 13 from rfl] at hs
        unfold numI at *; omega

/-- The date of a number. -/
noncomputable def dateOf (n : Int) : Int × Int × Int := Classical.epsilon fun p => mayP p.1 p.2.1 p.2.2 ∧ numI p.1 p.2.1 p.2.2 = n
noncomputable def yOf (n : Int) : Int := (dateOf n).1
noncomputable def mOf (n : Int) : Int := (dateOf n).2.1
noncomputable def dOf (n : Int) : Int := (dateOf n).2.2
theorem dateOf_spec (n : Int) (h1 : 0 ≤ n) (h2 : n ≤ 109937) : mayP (yOf n) (mOf n) (dOf n) ∧ numI (yOf n) (mOf n) (dOf n) = n := by
  obtain ⟨y, m, d, h, hn⟩ := date_ex n.toNat (by omega)
  have : ∃ p : Int × Int × Int, mayP p.1 p.2.1 p.2.2 ∧ numI p.1 p.2.1 p.2.2 = n := ⟨(y, m, d), h, by rw [hn]; omega⟩
  exact Classical.epsilon_spec this
theorem dateOf_eq {y m d n : Int} (h : mayP y m d) (hn : numI y m d = n) : yOf n = y ∧ mOf n = m ∧ dOf n = d := by
  have hb := num_bd h
  obtain ⟨a, b⟩ := dateOf_spec n (by omega) (by omega)
  exact num_inj a h (by rw [b, hn])
/-- Where the days ahead of a month, and a day in it, are found, the date is found. -/
theorem date_at {y m n : Int} (h1 : 1900 ≤ y) (h2 : y ≤ 2200) (h3 : 0 ≤ n - ys y - cumI y m) (h4 : n - ys y - cumI y m < lenI y m) :
    yOf n = y ∧ mOf n = m ∧ dOf n = n - ys y - cumI y m + 1 :=
  dateOf_eq (y := y) (m := m) (d := n - ys y - cumI y m + 1) ⟨h1, h2, by omega, by omega⟩ (by unfold numI; omega)
/-- In the last month there is room for what is left of a year. -/
theorem last_month (y n : Int) (h : n < ys (y + 1)) : n - ys y - cumI y 12 < lenI y 12 := by
  have a := ys_succ y
  have b := cum_succ y 12 (by omega) (by omega)
  have c := cum_13 y
  simp only [show (12 : Int) + 1 = 13 from rfl] at b
  omega
theorem year_room (y n : Int) (h : ys (y + 1) ≤ n) (hn : n ≤ 109937) : y + 1 ≤ 2200 := by
  apply Decidable.byContradiction; intro hc
  have := ys_mono 2201 (y + 1) (by omega)
  rw [ys_2201] at this
  omega
end Go.Proofs.YtbclfcghacedfaaGreatDoor.Cal
end

/- Plain mathematics of stamps' texts. -/
section
namespace Ck
open Go.Proofs.YtbclfcghacedfaaGreatDoor.Cal (yOf mOf dOf mayB numI)

def stT (y m d mi : Int) : List UInt8 := low y 4 ++ [45] ++ low m 2 ++ [45] ++ low d 2 ++ [84] ++ minT mi
theorem stT_len (y m d mi : Int) : (stT y m d mi).length = 16 := by unfold stT; simp [low_len, minT_len]
noncomputable def stampT (n : Int) : List UInt8 := stT (yOf (dayI n)) (mOf (dayI n)) (dOf (dayI n)) (minuteI n)
theorem stampT_len (n : Int) : (stampT n).length = 16 := stT_len _ _ _ _
/-- Which stamp is read of a text; -1, if none. -/
noncomputable def readS (l : List UInt8) : Int :=
  if l.length = 16 ∧ 0 ≤ readM (l.drop 11) ∧ mayB (valI (l.take 4)) (valI ((l.drop 5).take 2)) (valI ((l.drop 8).take 2)) = true ∧
    stampT (numI (valI (l.take 4)) (valI ((l.drop 5).take 2)) (valI ((l.drop 8).take 2)) * 1440 + readM (l.drop 11)) = l
  then numI (valI (l.take 4)) (valI ((l.drop 5).take 2)) (valI ((l.drop 8).take 2)) * 1440 + readM (l.drop 11) else -1
theorem ext_list (s : ByteArray) (a b : Nat) : (s.extract a b).data.toList = (s.data.toList.drop a).take (b - a) := by
  rw [ByteArray.data_extract, Array.toList_extract, List.extract_eq_take_drop]
end Ck
end

/- Plain mathematics of rules: their texts. -/
section
namespace Qr
open Ck
def dayName (k : Nat) : List UInt8 := match k with | 0 => [77, 79] | 1 => [84, 85] | 2 => [87, 69] | 3 => [84, 72] | 4 => [70, 82] | 5 => [83, 65] | 6 => [83, 85] | _ => []
def freqName (k : Nat) : List UInt8 := match k with | 1 => [68, 65, 73, 76, 89] | 2 => [87, 69, 69, 75, 76, 89] | 3 => [77, 79, 78, 84, 72, 76, 89] | 4 => [89, 69, 65, 82, 76, 89] | _ => []
theorem dayName_len (k : Nat) : (dayName k).length ≤ 2 := by unfold dayName; split <;> simp
theorem freqName_len (k : Nat) : (freqName k).length ≤ 7 := by unfold freqName; split <;> simp
noncomputable def untilT (u : Int) : List UInt8 := [59, 85, 78, 84, 73, 76, 61] ++ (stampT u).take 4 ++ ((stampT u).drop 5).take 2 ++ ((stampT u).drop 8).take 5 ++ (stampT u).drop 14
def ivT (r : R) : List UInt8 := if 1 < r.iv then [59, 73, 78, 84, 69, 82, 86, 65, 76, 61] ++ decI r.iv else []
def ctT (r : R) : List UInt8 := if 0 < r.count then [59, 67, 79, 85, 78, 84, 61] ++ decI r.count else []
noncomputable def unT (r : R) : List UInt8 := if 0 ≤ r.until_ then untilT r.until_ else []
noncomputable def preT (r : R) : List UInt8 := [70, 82, 69, 81, 61] ++ freqName r.freq.toNat ++ ivT r ++ ctT r ++ unT r
def oneD (d : Int × Int) : List UInt8 := (if d.1 = 0 then [] else decI d.1) ++ dayName d.2.toNat
def tailD (l : List (Int × Int)) : List UInt8 := l.flatMap fun d => 44 :: oneD d
def daysT (l : List (Int × Int)) : List UInt8 := match l with | [] => [] | d :: r => [59, 66, 89, 68, 65, 89, 61] ++ oneD d ++ tailD r
def wkT (r : R) : List UInt8 := if 0 < r.start then [59, 87, 75, 83, 84, 61] ++ dayName r.start.toNat else []
def midT (r : R) : List UInt8 := prt [66, 89, 77, 79, 78, 84, 72] r.bm ++ prt [66, 89, 77, 79, 78, 84, 72, 68, 65, 89] r.bd
noncomputable def textT (r : R) : List UInt8 := preT r ++ midT r ++ daysT r.bw ++ prt [66, 89, 83, 69, 84, 80, 79, 83] r.bs ++ wkT r
theorem tailD_cons (d : Int × Int) (l : List (Int × Int)) : tailD (d :: l) = 44 :: oneD d ++ tailD l := by simp [tailD]
/-- What is still to come of the days. -/
def rstD (l : List (Int × Int)) (i : Nat) : List UInt8 := if i = 0 then daysT l else tailD (l.drop i)
theorem rstD_end (l : List (Int × Int)) : rstD l l.length = [] := by
  unfold rstD
  split
  · rename_i h; rw [List.eq_nil_of_length_eq_zero h]; rfl
  · rw [List.drop_of_length_le (Nat.le_refl _)]; rfl
theorem rstD_first {l : List (Int × Int)} (h : 0 < l.length) : rstD l 0 = ([59, 66, 89, 68, 65, 89, 61] : List UInt8) ++ oneD l[0] ++ rstD l 1 := by
  match l, h with
  | x :: r, _ => rfl
theorem rstD_next {l : List (Int × Int)} {i : Nat} (h0 : 0 < i) (h : i < l.length) : rstD l i = (44 : UInt8) :: oneD l[i] ++ rstD l (i + 1) := by
  unfold rstD; rw [if_neg (by omega), if_neg (by omega), List.drop_eq_getElem_cons h, tailD_cons]
end Qr
end

/- Plain mathematics: numerals with noughts ahead, digits read, texts cut. -/
section
namespace Ck
open Go

theorem low_snoc (n : Int) (i : Nat) : low n (i + 1) = low (n / 10) i ++ [dig (n % 10)] := by
  induction i with
  | zero => simp [low]
  | succ i ih =>
    rw [show low n (i + 1 + 1) = dig (n / 10 ^ (i + 1) % 10) :: low n (i + 1) from rfl, ih]
    rw [show low (n / 10) (i + 1) = dig (n / 10 / 10 ^ i % 10) :: low (n / 10) i from rfl]
    rw [Int.ediv_ediv_of_nonneg (by omega), show (10 : Int) * 10 ^ i = 10 ^ (i + 1) by rw [Int.pow_succ, Int.mul_comm]]
    rfl
theorem low_zero (i : Nat) : low 0 i = Lib.repeatL [48] i := by
  induction i with
  | zero => rfl
  | succ i ih => rw [show low 0 (i + 1) = dig (0 / 10 ^ i % 10) :: low 0 i from rfl, ih, Int.zero_ediv]; rfl
theorem dig_ofNat (k : Nat) : UInt8.ofNat (48 + k) = dig (k : Int) := by
  unfold dig; congr 1
theorem low_dec (i : Nat) : ∀ u : Nat, u < 10 ^ (i + 1) → (Lib.decDigits u).length ≤ i + 1 ∧ Lib.repeatL [48] (i + 1 - (Lib.decDigits u).length) ++ Lib.decDigits u = low u (i + 1) := by
  induction i with
  | zero =>
    intro u hu
    have h : u < 10 := by simpa using hu
    rw [Lib.decDigits_one h, dig_ofNat]
    refine ⟨by simp, ?_⟩
    show [dig (u : Int)] = [dig ((u : Int) / 10 ^ 0 % 10)]
    congr 2; omega
  | succ i ih =>
    intro u hu
    rw [low_snoc]
    by_cases h : u < 10
    · rw [Lib.decDigits_one h, dig_ofNat]
      refine ⟨by simp, ?_⟩
      rw [show ((u : Int) / 10) = 0 by omega, low_zero, show (u : Int) % 10 = u by omega]
      rfl
    · have := ih (u / 10) (by rw [Nat.pow_succ] at hu; omega)
      obtain ⟨h1, h2⟩ := this
      rw [Lib.decDigits, dif_neg h]
      refine ⟨by simp; omega, ?_⟩
      rw [← List.append_assoc, List.length_append, show i + 1 + 1 - ((Lib.decDigits (u / 10)).length + [UInt8.ofNat (48 + u % 10)].length) = i + 1 - (Lib.decDigits (u / 10)).length by simp, h2, dig_ofNat]
      congr 2
theorem itoa_low {n : Int} {w : Nat} (h0 : 0 ≤ n) (hw : 1 ≤ w) (h : n < 10 ^ w) : (Lib.itoa n).length ≤ w ∧ Lib.repeatL [48] (w - (Lib.itoa n).length) ++ Lib.itoa n = low n w := by
  obtain ⟨u, rfl⟩ : ∃ u : Nat, n = u := ⟨n.toNat, by omega⟩
  obtain ⟨i, rfl⟩ : ∃ i, w = i + 1 := ⟨w - 1, by omega⟩
  have e : Lib.itoa (u : Int) = Lib.decDigits u := by unfold Lib.itoa; rw [if_neg (by omega)]; simp
  rw [e]
  exact low_dec i u (by exact_mod_cast h)

/-- Is a byte a digit? -/
def dgt (c : UInt8) : Bool := decide (48 ≤ c.toNat) && decide (c.toNat ≤ 57)
/-- The number of just so many digits. -/
def rd (l : List UInt8) (w : Nat) : Option Int := if l.length = w ∧ l.all dgt = true then some (valI l) else none
theorem dgt_iff {c : UInt8} : dgt c = true ↔ 48 ≤ c.toNat ∧ c.toNat ≤ 57 := by unfold dgt; simp
theorem dig_dgt {d : Int} (h0 : 0 ≤ d) (h : d ≤ 9) : dgt (dig d) = true := by
  have := dig_nat h0 h
  rw [dgt_iff]; omega
theorem dig_of_dgt {c : UInt8} (h : dgt c = true) : dig ((c.toNat : Int) - 48) = c := by
  have h := dgt_iff.1 h
  have := dig_nat (d := (c.toNat : Int) - 48) (by omega) (by omega)
  apply UInt8.toNat_inj.1
  omega
theorem valFrom_add (l : List UInt8) (n : Int) (hl : l.all dgt = true) : valFrom n l = n * 10 ^ l.length + valI l := by
  induction l generalizing n with
  | nil => simp [valFrom, valI]
  | cons c r ih =>
    simp only [List.all_cons, Bool.and_eq_true] at hl
    have hc := dgt_iff.1 hl.1
    unfold valI valFrom
    rw [if_pos hc, if_pos hc, ih _ hl.2, ih (10 * 0 + (c.toNat : Int) - 48) hl.2, List.length_cons, Int.pow_succ]
    generalize (10 : Int) ^ r.length = q
    rw [show n * (q * 10) = (10 * n) * q by rw [Int.mul_comm q 10, ← Int.mul_assoc, Int.mul_comm n 10], ← Int.add_assoc, ← Int.add_mul]
    congr 2
    omega
theorem valI_cons (c : UInt8) (r : List UInt8) (hc : dgt c = true) (hr : r.all dgt = true) : valI (c :: r) = ((c.toNat : Int) - 48) * 10 ^ r.length + valI r := by
  have h := dgt_iff.1 hc
  show valFrom 0 (c :: r) = _
  unfold valFrom
  rw [if_pos h, valFrom_add _ _ hr]
  congr 2
  omega
theorem valI_nn (l : List UInt8) (hl : l.all dgt = true) : 0 ≤ valI l ∧ valI l < 10 ^ l.length := by
  induction l with
  | nil => exact ⟨by decide, by decide⟩
  | cons c r ih =>
    simp only [List.all_cons, Bool.and_eq_true] at hl
    have h := dgt_iff.1 hl.1
    obtain ⟨a, b⟩ := ih hl.2
    rw [valI_cons c r hl.1 hl.2, List.length_cons, Int.pow_succ]
    have hp : (0 : Int) < 10 ^ r.length := Int.pow_pos (by omega)
    generalize (10 : Int) ^ r.length = q at *
    have h1 : ((c.toNat : Int) - 48) * q ≤ 9 * q := Int.mul_le_mul_of_nonneg_right (by omega) (by omega)
    have h2 : 0 ≤ ((c.toNat : Int) - 48) * q := Int.mul_nonneg (by omega) (by omega)
    omega
theorem valI_neg (l : List UInt8) : ∀ n, l.all dgt = false → valFrom n l = -1 := by
  induction l with
  | nil => intro n h; simp at h
  | cons c r ih =>
    intro n h
    unfold valFrom
    split
    · rename_i hc
      refine ih _ ?_
      rw [List.all_cons, dgt_iff.2 hc] at h
      simpa using h
    · rfl
theorem low_val (l : List UInt8) (hl : l.all dgt = true) : low (valI l) l.length = l := by
  induction l with
  | nil => rfl
  | cons c r ih =>
    simp only [List.all_cons, Bool.and_eq_true] at hl
    have h := dgt_iff.1 hl.1
    obtain ⟨a, b⟩ := valI_nn r hl.2
    rw [List.length_cons]
    show dig (valI (c :: r) / 10 ^ r.length % 10) :: low (valI (c :: r)) r.length = _
    have hp : (0 : Int) < 10 ^ r.length := Int.pow_pos (by omega)
    have e : valI (c :: r) / 10 ^ r.length = (c.toNat : Int) - 48 := by
      rw [valI_cons c r hl.1 hl.2, Int.add_comm, Int.add_mul_ediv_right _ _ (by omega), Int.ediv_eq_zero_of_lt a b, Int.zero_add]
    have e2 : low (valI (c :: r)) r.length = low (valI r) r.length := by
      rw [valI_cons c r hl.1 hl.2]
      exact low_add _ _ _ (Nat.le_refl _)
    rw [e, e2, ih hl.2, Int.emod_eq_of_lt (by omega) (by omega), dig_of_dgt hl.1]
where
  low_add (x n : Int) (k : Nat) : ∀ {i : Nat}, i ≤ k → low (x * 10 ^ k + n) i = low n i := by
    intro i
    induction i with
    | zero => intro _; rfl
    | succ i ih =>
      intro hi
      show dig ((x * 10 ^ k + n) / 10 ^ i % 10) :: low (x * 10 ^ k + n) i = dig (n / 10 ^ i % 10) :: low n i
      rw [ih (by omega)]
      congr 2
      obtain ⟨j, rfl⟩ : ∃ j, k = i + 1 + j := ⟨k - (i + 1), by omega⟩
      have hp : (10 : Int) ^ i ≠ 0 := by have : (0 : Int) < 10 ^ i := Int.pow_pos (by omega); omega
      rw [show (10 : Int) ^ (i + 1 + j) = 10 * 10 ^ j * 10 ^ i by rw [Int.pow_add, Int.pow_succ]; ac_rfl, ← Int.mul_assoc, Int.add_comm, Int.add_mul_ediv_right _ _ hp]
      rw [show x * (10 * 10 ^ j) = 10 * (x * 10 ^ j) by ac_rfl]
      generalize x * 10 ^ j = y
      omega
theorem low_dgt (n : Int) (i : Nat) : (low n i).all dgt = true := by
  induction i with
  | zero => rfl
  | succ i ih =>
    show (dig (n / 10 ^ i % 10) :: low n i).all dgt = true
    rw [List.all_cons, ih, dig_dgt (by omega) (by omega)]; rfl
theorem val_low {n : Int} {i : Nat} (h0 : 0 ≤ n) (h : n < 10 ^ i) : valI (low n i) = n := ih_any i n h0 h
where
  ih_any : ∀ (i : Nat) (n : Int), 0 ≤ n → n < 10 ^ i → valI (low n i) = n := by
    intro i
    induction i with
    | zero => intro n h0 h; simp at h; show valFrom 0 [] = n; unfold valFrom; omega
    | succ i ih =>
      intro n h0 h
      rw [show low n (i + 1) = dig (n / 10 ^ i % 10) :: low n i from rfl, valI_cons _ _ (dig_dgt (by omega) (by omega)) (low_dgt n i), low_len]
      have hp : (0 : Int) < 10 ^ i := Int.pow_pos (by omega)
      have hd : n / 10 ^ i < 10 := Int.ediv_lt_of_lt_mul hp (by rw [Int.pow_succ] at h; rw [Int.mul_comm]; exact h)
      have hd0 : 0 ≤ n / 10 ^ i := Int.ediv_nonneg h0 (by omega)
      rw [dig_nat (by omega) (by omega), Int.emod_eq_of_lt hd0 hd]
      have e := Int.mul_ediv_add_emod n (10 ^ i)
      have e2 : low n i = low (n % 10 ^ i) i := by
        have := low_val.low_add (n / 10 ^ i) (n % 10 ^ i) i (Nat.le_refl i)
        rw [Int.mul_comm, e] at this
        exact this
      rw [e2, ih _ (Int.emod_nonneg n (by omega)) (Int.emod_lt_of_pos n hp), show ∀ d : Int, 48 + d - 48 = d from fun d => by omega, Int.mul_comm]
      exact e
theorem rd_low {n : Int} {i : Nat} (h0 : 0 ≤ n) (h : n < 10 ^ i) : rd (low n i) i = some n := by
  unfold rd
  rw [if_pos ⟨low_len n i, low_dgt n i⟩, val_low h0 h]
theorem rd_some {l : List UInt8} {w : Nat} {n : Int} (h : rd l w = some n) : l = low n w ∧ 0 ≤ n ∧ n < 10 ^ w := by
  unfold rd at h
  split at h
  · rename_i hc
    obtain rfl := Option.some.inj h
    obtain ⟨rfl, hd⟩ := hc
    exact ⟨(low_val l hd).symm, valI_nn l hd⟩
  · cases h

theorem all_iff (l : List UInt8) : l.all dgt = true ↔ 0 ≤ valI l := by
  cases h : l.all dgt with
  | true => simp [(valI_nn l h).1]
  | false => simp [valI, valI_neg l 0 h]
def rdN (l : List UInt8) (w : Nat) : Int := (rd l w).getD 0
def rdB (l : List UInt8) (w : Nat) : Bool := (rd l w).isSome
theorem rd_yes {l : List UInt8} {w : Nat} (h : l.length = w) (hv : 0 ≤ valI l) : rdN l w = valI l ∧ rdB l w = true := by
  unfold rdN rdB rd; rw [if_pos ⟨h, (all_iff l).2 hv⟩]; exact ⟨rfl, rfl⟩
theorem rd_short {l : List UInt8} {w : Nat} (h : l.length ≠ w) : rdN l w = 0 ∧ rdB l w = false := by
  unfold rdN rdB rd; rw [if_neg (fun c => h c.1)]; exact ⟨rfl, rfl⟩
theorem rd_no {l : List UInt8} {w : Nat} (hv : valI l = -1) : rdN l w = 0 ∧ rdB l w = false := by
  unfold rdN rdB rd; rw [if_neg (fun c => by have := (all_iff l).1 c.2; omega)]; exact ⟨rfl, rfl⟩
theorem rd_bd {l : List UInt8} {w : Nat} (h : w ≤ 4) : 0 ≤ rdN l w ∧ rdN l w ≤ 9999 := by
  by_cases hl : l.length = w
  · rcases Int.lt_or_le (valI l) 0 with hv | hv
    · have := valI_bd l (by omega)
      rw [(rd_no (w := w) (show valI l = -1 by omega)).1]; omega
    · have := valI_bd l (by omega)
      rw [(rd_yes hl hv).1]; omega
  · rw [(rd_short hl).1]; omega
theorem rd_bd2 {l : List UInt8} : 0 ≤ rdN l 2 ∧ rdN l 2 ≤ 99 := by
  cases h : rd l 2 with
  | none => unfold rdN; rw [h]; decide
  | some n => have := rd_some h; unfold rdN; rw [h]; simp only [Option.getD_some]; omega
theorem not_mem_low {c : UInt8} (hc : dgt c = false) (n : Int) (i : Nat) : c ∉ low n i := by
  intro h
  have := List.all_eq_true.1 (low_dgt n i) c h
  rw [hc] at this; cases this
theorem index_none {c : UInt8} {s : List UInt8} (h : c ∉ s) : Lib.index s [c] = -1 := by
  induction s with
  | nil => rfl
  | cons b r ih =>
    simp only [List.mem_cons, not_or] at h
    have hb : (c == b) = false := by simpa using h.1
    unfold Lib.index
    rw [ih h.2]
    simp [List.isPrefixOf, hb]
theorem index_at {c : UInt8} (x y : List UInt8) (h : c ∉ x) : Lib.index (x ++ c :: y) [c] = x.length := by
  induction x with
  | nil => simp [Lib.index, List.isPrefixOf]
  | cons b r ih =>
    simp only [List.mem_cons, not_or] at h
    have hb : (c == b) = false := by simpa using h.1
    show Lib.index (b :: (r ++ c :: y)) [c] = _
    unfold Lib.index
    rw [ih h.2]
    have : ((r.length : Int) == -1) = false := by simp
    simp [List.isPrefixOf, hb, this]
theorem cut_at {c : UInt8} (x y : List UInt8) (h : c ∉ x) : Lib.cut (x ++ c :: y) [c] = (x, y, true) := by
  unfold Lib.cut
  rw [index_at x y h, if_pos (by omega)]
  simp
theorem cut_none {c : UInt8} {s : List UInt8} (h : c ∉ s) : Lib.cut s [c] = (s, [], false) := by
  unfold Lib.cut
  rw [index_none h, if_neg (by omega)]
theorem cut_ways (c : UInt8) (s : List UInt8) : (c ∉ s ∧ Lib.cut s [c] = (s, [], false)) ∨ ∃ x y, s = x ++ c :: y ∧ c ∉ x ∧ Lib.cut s [c] = (x, y, true) := by
  by_cases h : c ∈ s
  · obtain ⟨x, y, rfl, hx⟩ := List.append_of_mem_first h
    exact .inr ⟨x, y, rfl, hx, cut_at x y hx⟩
  · exact .inl ⟨h, cut_none h⟩
where
  List.append_of_mem_first {c : UInt8} {s : List UInt8} (h : c ∈ s) : ∃ x y, s = x ++ c :: y ∧ c ∉ x := by
    induction s with
    | nil => simp at h
    | cons b r ih =>
      by_cases e : b = c
      · subst e; exact ⟨[], r, rfl, by simp⟩
      · have : c ∈ r := by simpa [Ne.symm e] using h
        obtain ⟨x, y, rfl, hx⟩ := ih this
        exact ⟨b :: x, y, rfl, by simp [Ne.symm e, hx]⟩
theorem cut_len (c : UInt8) (s : List UInt8) : (Lib.cut s [c]).1.length ≤ s.length ∧ (Lib.cut s [c]).2.1.length ≤ s.length := by
  rcases cut_ways c s with ⟨_, h⟩ | ⟨x, y, rfl, _, h⟩ <;> rw [h] <;> simp <;> omega
end Ck
end

/- Plain mathematics: minutes and stamps read the program's way are the document's. -/
section
namespace Ck
open Go
open Go.Proofs.YtbclfcghacedfaaGreatDoor.Cal (yOf mOf dOf mayB mayP numI may_iff num_bd dateOf_spec dateOf_eq may_month len_bd)

def posN (z : Int) : Int := if 0 ≤ z then z else 0
def posB (z : Int) : Bool := decide (0 ≤ z)

/-- A minute, read by cutting. -/
def rmV (l : List UInt8) : Int × Bool :=
  if rdB (Lib.cut l [58]).1 2 = true ∧ rdB (Lib.cut l [58]).2.1 2 = true ∧ rdN (Lib.cut l [58]).2.1 2 < 60 ∧ rdN (Lib.cut l [58]).1 2 * 60 + rdN (Lib.cut l [58]).2.1 2 ≤ 1440
  then (rdN (Lib.cut l [58]).1 2 * 60 + rdN (Lib.cut l [58]).2.1 2, true) else (0, false)
theorem rdNB {n : Int} {i : Nat} (h0 : 0 ≤ n) (h : n < 10 ^ i) : rdN (low n i) i = n ∧ rdB (low n i) i = true := by
  unfold rdN rdB; rw [rd_low h0 h]; exact ⟨rfl, rfl⟩
theorem rdB_some {l : List UInt8} {w : Nat} (h : rdB l w = true) : l = low (rdN l w) w ∧ 0 ≤ rdN l w ∧ rdN l w < 10 ^ w := by
  unfold rdB at h
  cases e : rd l w with
  | none => rw [e] at h; cases h
  | some n =>
    have := rd_some e
    unfold rdN; rw [e]; exact this
theorem rdB_nil (w : Nat) (h : 0 < w) : rdB [] w = false := (rd_short (by simp; omega)).2
theorem minT_cut (n : Int) : Lib.cut (minT n) [58] = (low (n / 60) 2, low (n % 60) 2, true) := by
  unfold minT
  rw [List.append_assoc]
  exact cut_at _ _ (not_mem_low (by decide) _ _)
theorem rm_min {n : Int} (h0 : 0 ≤ n) (h : n ≤ 1440) : rmV (minT n) = (n, true) := by
  have a := rdNB (n := n / 60) (i := 2) (by omega) (by omega)
  have b := rdNB (n := n % 60) (i := 2) (by omega) (by omega)
  unfold rmV
  rw [minT_cut]
  simp only [a.1, a.2, b.1, b.2]
  rw [if_pos ⟨trivial, trivial, by omega, by omega⟩]
  congr 1; omega
theorem rm_some {l : List UInt8} {n : Int} (h : rmV l = (n, true)) : minT n = l ∧ 0 ≤ n ∧ n ≤ 1440 := by
  unfold rmV at h
  split at h
  · rename_i hc
    obtain ⟨h1, h2, h3, h4⟩ := hc
    have a := rdB_some h1
    have b := rdB_some h2
    have e : n = rdN (Lib.cut l [58]).1 2 * 60 + rdN (Lib.cut l [58]).2.1 2 := by simpa using (congrArg Prod.fst h).symm
    refine ⟨?_, by omega, by omega⟩
    rcases cut_ways 58 l with ⟨_, hc⟩ | ⟨x, y, rfl, _, hc⟩
    · rw [hc] at h2; rw [rdB_nil 2 (by omega)] at h2; cases h2
    · rw [hc] at a b e h3
      simp only at a b e h3
      unfold minT
      rw [show n / 60 = rdN x 2 by omega, show n % 60 = rdN y 2 by omega, ← a.1, ← b.1, List.append_assoc]
      rfl
  · cases h
theorem minT_inj {a b : Int} (h0 : 0 ≤ a) (h1 : a ≤ 1440) (h2 : 0 ≤ b) (h3 : b ≤ 1440) (e : minT a = minT b) : a = b := by
  have := rm_min h0 h1
  rw [e, rm_min h2 h3] at this
  exact (congrArg Prod.fst this).symm
theorem readM_min {n : Int} (h0 : 0 ≤ n) (h : n ≤ 1440) : readM (minT n) = n := by
  obtain ⟨k, rfl⟩ : ∃ k : Nat, n = k := ⟨n.toNat, by omega⟩
  exact readM_at (fun j hj e => by have := minT_inj (a := j) (b := k) (by omega) (by omega) (by omega) (by omega) e; omega) (by omega) rfl
theorem readM_some {l : List UInt8} (h : 0 ≤ readM l) : minT (readM l) = l ∧ readM l ≤ 1440 := by
  unfold readM at *
  split at h
  · rename_i hc
    have := Zn.first_yes _ _ hc
    rw [if_pos hc]
    exact ⟨of_decide_eq_true this, by omega⟩
  · omega
theorem rm_eq (l : List UInt8) : rmV l = (posN (readM l), posB (readM l)) := by
  by_cases h : 0 ≤ readM l
  · have a := readM_some h
    have b := rm_min h a.2
    rw [a.1] at b
    rw [b]; unfold posN posB; rw [if_pos h, decide_eq_true h]
  · unfold posN posB
    rw [if_neg h, decide_eq_false h]
    rcases hv : rmV l with ⟨n, _ | _⟩
    · unfold rmV at hv
      split at hv
      · cases hv
      · rw [← hv]
    · have c := rm_some hv
      rw [← c.1, readM_min c.2.1 c.2.2] at h
      exact absurd c.2.1 h

/-- A date, read by cutting. -/
noncomputable def rdayV (l : List UInt8) : Int × Bool :=
  if rdB (Lib.cut l [45]).1 4 = true ∧ rdB (Lib.cut (Lib.cut l [45]).2.1 [45]).1 2 = true ∧ rdB (Lib.cut (Lib.cut l [45]).2.1 [45]).2.1 2 = true ∧
    mayB (rdN (Lib.cut l [45]).1 4) (rdN (Lib.cut (Lib.cut l [45]).2.1 [45]).1 2) (rdN (Lib.cut (Lib.cut l [45]).2.1 [45]).2.1 2) = true
  then (numI (rdN (Lib.cut l [45]).1 4) (rdN (Lib.cut (Lib.cut l [45]).2.1 [45]).1 2) (rdN (Lib.cut (Lib.cut l [45]).2.1 [45]).2.1 2), true) else (0, false)
def dayT (y m d : Int) : List UInt8 := low y 4 ++ 45 :: (low m 2 ++ 45 :: low d 2)
theorem dayT_cut (y m d : Int) : Lib.cut (dayT y m d) [45] = (low y 4, low m 2 ++ 45 :: low d 2, true) := cut_at _ _ (not_mem_low (by decide) _ _)
theorem rday_day {y m d : Int} (h : mayP y m d) : rdayV (dayT y m d) = (numI y m d, true) := by
  have hm := may_month h
  have hl := len_bd y m
  have hb := may_iff.2 h
  unfold mayP at h
  have a := rdNB (n := y) (i := 4) (by omega) (by omega)
  have b := rdNB (n := m) (i := 2) (by omega) (by omega)
  have c := rdNB (n := d) (i := 2) (by omega) (by omega)
  unfold rdayV
  rw [dayT_cut]
  simp only
  rw [cut_at (low m 2) (low d 2) (not_mem_low (by decide) _ _)]
  simp only [a.1, a.2, b.1, b.2, c.1, c.2, hb, and_self, if_true]
theorem rday_some {l : List UInt8} {n : Int} (h : rdayV l = (n, true)) : ∃ y m d, l = dayT y m d ∧ mayP y m d ∧ n = numI y m d := by
  unfold rdayV at h
  split at h
  · rename_i hc
    obtain ⟨h1, h2, h3, h4⟩ := hc
    have a := rdB_some h1
    have b := rdB_some h2
    have c := rdB_some h3
    refine ⟨_, _, _, ?_, may_iff.1 h4, (by simpa using (congrArg Prod.fst h).symm)⟩
    rcases cut_ways 45 l with ⟨_, hc⟩ | ⟨x, y, rfl, _, hc⟩
    · rw [hc] at h2
      simp only at h2
      rw [show Lib.cut [] [45] = ([], [], false) from rfl, rdB_nil 2 (by omega)] at h2; cases h2
    · rw [hc] at a b c h3 ⊢
      simp only at a b c h3 ⊢
      rcases cut_ways 45 y with ⟨_, hd⟩ | ⟨u, v, rfl, _, hd⟩
      · rw [hd] at h3; rw [rdB_nil 2 (by omega)] at h3; cases h3
      · rw [hd] at b c ⊢
        simp only at b c ⊢
        unfold dayT
        rw [← a.1, ← b.1, ← c.1]
  · cases h
theorem rday_bd {l : List UInt8} : 0 ≤ (rdayV l).1 ∧ (rdayV l).1 ≤ 109937 := by
  rcases h : rdayV l with ⟨n, _ | _⟩
  · unfold rdayV at h
    split at h
    · cases h
    · have := congrArg Prod.fst h; simp at this; simp; omega
  · obtain ⟨y, m, d, _, hm, rfl⟩ := rday_some h
    exact num_bd hm

/-- A stamp, read by cutting. -/
noncomputable def rsV (l : List UInt8) : Int × Bool :=
  if (rdayV (Lib.cut l [84]).1).2 = true ∧ (rmV (Lib.cut l [84]).2.1).2 = true ∧ ¬ ((rmV (Lib.cut l [84]).2.1).1 = 1440 ∧ (rdayV (Lib.cut l [84]).1).1 ≠ 109937)
  then ((rdayV (Lib.cut l [84]).1).1 * 1440 + (rmV (Lib.cut l [84]).2.1).1, true) else (0, false)
theorem stT_day (y m d mi : Int) : stT y m d mi = dayT y m d ++ 84 :: minT mi := by
  unfold stT dayT; simp [List.append_assoc]
theorem day_no84 (y m d : Int) : (84 : UInt8) ∉ dayT y m d := by
  have n84 : dgt 84 = false := by decide
  unfold dayT
  simp only [List.mem_append, List.mem_cons, not_or]
  exact ⟨not_mem_low n84 _ _, by decide, not_mem_low n84 _ _, by decide, not_mem_low n84 _ _⟩
theorem st_cut (y m d mi : Int) : Lib.cut (stT y m d mi) [84] = (dayT y m d, minT mi, true) := by
  rw [stT_day]; exact cut_at _ _ (day_no84 y m d)
theorem rs_st {n : Int} (h0 : 0 ≤ n) (h : n ≤ 158310720) : rsV (stampT n) = (n, true) := by
  have hb := day_bd h0 h
  have hs := dateOf_spec (dayI n) hb.1 hb.2.1
  have a := rday_day hs.1
  have b := rm_min hb.2.2.1 hb.2.2.2
  unfold rsV stampT
  rw [st_cut]
  simp only [a, b, hs.2]
  have e : dayI n * 1440 + minuteI n = n ∧ ¬ (minuteI n = 1440 ∧ dayI n ≠ 109937) := by unfold dayI minuteI; split <;> omega
  rw [if_pos ⟨trivial, trivial, e.2⟩, e.1]
theorem rs_some {l : List UInt8} {n : Int} (h : rsV l = (n, true)) : stampT n = l ∧ 0 ≤ n ∧ n ≤ 158310720 := by
  unfold rsV at h
  split at h
  · rename_i hc
    obtain ⟨h1, h2, h3⟩ := hc
    have e : n = (rdayV (Lib.cut l [84]).1).1 * 1440 + (rmV (Lib.cut l [84]).2.1).1 := by simpa using (congrArg Prod.fst h).symm
    obtain ⟨y, m, d, hd, hm, hn⟩ := rday_some (l := (Lib.cut l [84]).1) (n := (rdayV (Lib.cut l [84]).1).1) (by rw [← h1])
    obtain ⟨hmi, b1, b2⟩ := rm_some (l := (Lib.cut l [84]).2.1) (n := (rmV (Lib.cut l [84]).2.1).1) (by rw [← h2])
    have hb := num_bd hm
    rw [← hn] at hb
    generalize (rdayV (Lib.cut l [84]).1).1 = dd at *
    generalize (rmV (Lib.cut l [84]).2.1).1 = mm at *
    refine ⟨?_, by omega, by omega⟩
    have ed : dayI n = dd ∧ minuteI n = mm := by unfold dayI minuteI; split <;> omega
    have hy := dateOf_eq hm hn.symm
    unfold stampT
    rw [ed.1, ed.2, hy.1, hy.2.1, hy.2.2, stT_day]
    rcases cut_ways 84 l with ⟨_, hc⟩ | ⟨x, y', rfl, _, hc⟩
    · rw [hc] at h2
      simp only at h2
      rw [show rmV [] = (0, false) from by unfold rmV; rw [show Lib.cut [] [58] = ([], [], false) from rfl]; simp [rdB_nil]] at h2
      cases h2
    · rw [hc] at hd hmi
      simp only at hd hmi
      rw [hd, hmi]
  · cases h
theorem readS_st {n : Int} (h0 : 0 ≤ n) (h : n ≤ 158310720) : readS (stampT n) = n := by
  have hb := day_bd h0 h
  have hs := dateOf_spec (dayI n) hb.1 hb.2.1
  have hm := may_month hs.1
  have hl := len_bd (yOf (dayI n)) (mOf (dayI n))
  have hp := hs.1
  unfold mayP at hp
  have e : dayI n * 1440 + minuteI n = n := by unfold dayI minuteI; split <;> omega
  have v1 : valI ((stampT n).take 4) = yOf (dayI n) := by
    rw [show (stampT n).take 4 = low (yOf (dayI n)) 4 by
      unfold stampT stT
      simp only [List.append_assoc]
      rw [List.take_append_of_le_length (by rw [low_len]; exact Nat.le_refl _), List.take_of_length_le (by rw [low_len]; exact Nat.le_refl _)]]
    exact val_low (by omega) (by omega)
  have d5 : (stampT n).drop 5 = low (mOf (dayI n)) 2 ++ ([45] ++ (low (dOf (dayI n)) 2 ++ ([84] ++ minT (minuteI n)))) := by
    unfold stampT stT
    rw [show low (yOf (dayI n)) 4 ++ [45] ++ low (mOf (dayI n)) 2 ++ [45] ++ low (dOf (dayI n)) 2 ++ [84] ++ minT (minuteI n) = (low (yOf (dayI n)) 4 ++ [45]) ++ (low (mOf (dayI n)) 2 ++ ([45] ++ (low (dOf (dayI n)) 2 ++ ([84] ++ minT (minuteI n))))) by simp only [List.append_assoc]]
    rw [List.drop_append_of_le_length (by simp [low_len]), List.drop_of_length_le (by simp [low_len]), List.nil_append]
  have v2 : valI (((stampT n).drop 5).take 2) = mOf (dayI n) := by
    rw [d5, List.take_append_of_le_length (by rw [low_len]; exact Nat.le_refl _), List.take_of_length_le (by rw [low_len]; exact Nat.le_refl _)]
    exact val_low (by omega) (by omega)
  have d8 : (stampT n).drop 8 = low (dOf (dayI n)) 2 ++ ([84] ++ minT (minuteI n)) := by
    rw [show (stampT n).drop 8 = ((stampT n).drop 5).drop 3 by rw [List.drop_drop], d5]
    rw [show low (mOf (dayI n)) 2 ++ ([45] ++ (low (dOf (dayI n)) 2 ++ ([84] ++ minT (minuteI n)))) = (low (mOf (dayI n)) 2 ++ [45]) ++ (low (dOf (dayI n)) 2 ++ ([84] ++ minT (minuteI n))) by simp only [List.append_assoc]]
    rw [List.drop_append_of_le_length (by simp [low_len]), List.drop_of_length_le (by simp [low_len]), List.nil_append]
  have v3 : valI (((stampT n).drop 8).take 2) = dOf (dayI n) := by
    rw [d8, List.take_append_of_le_length (by rw [low_len]; exact Nat.le_refl _), List.take_of_length_le (by rw [low_len]; exact Nat.le_refl _)]
    exact val_low (by omega) (by omega)
  have v4 : readM ((stampT n).drop 11) = minuteI n := by
    rw [show (stampT n).drop 11 = ((stampT n).drop 8).drop 3 by rw [List.drop_drop], d8, ← List.append_assoc]
    rw [List.drop_append_of_le_length (by simp [low_len]), List.drop_of_length_le (by simp [low_len]), List.nil_append]
    exact readM_min hb.2.2.1 hb.2.2.2
  unfold readS
  rw [v1, v2, v3, v4, hs.2, e, if_pos ⟨stampT_len n, hb.2.2.1, may_iff.2 hs.1, rfl⟩]
theorem readS_some {l : List UInt8} (h : 0 ≤ readS l) : stampT (readS l) = l ∧ readS l ≤ 158310720 := by
  unfold readS at *
  split at h
  · rename_i hc
    rw [if_pos hc]
    obtain ⟨_, h1, h2, h3⟩ := hc
    have := num_bd (may_iff.1 h2)
    have := readM_bd (l.drop 11)
    exact ⟨h3, by omega⟩
  · omega
theorem rs_eq (l : List UInt8) : rsV l = (posN (readS l), posB (readS l)) := by
  by_cases h : 0 ≤ readS l
  · have a := readS_some h
    have b := rs_st h a.2
    rw [a.1] at b
    rw [b]; unfold posN posB; rw [if_pos h, decide_eq_true h]
  · unfold posN posB
    rw [if_neg h, decide_eq_false h]
    rcases hv : rsV l with ⟨n, _ | _⟩
    · unfold rsV at hv
      split at hv
      · cases hv
      · rw [← hv]
    · have c := rs_some hv
      rw [← c.1, readS_st c.2.1 c.2.2] at h
      exact absurd c.2.1 h
theorem posN_bd {z : Int} (h : z ≤ 158310720) : 0 ≤ posN z ∧ posN z ≤ 158310720 := by unfold posN; split <;> omega
end Ck
end

/- Plain mathematics of rules: pieces of a text, numbers read back. -/
section
namespace Qr
open Ck Go

/-- The pieces of a text between bytes c. -/
def pcs (c : UInt8) (l : List UInt8) : List (List UInt8) := Lib.splitK [c] 0 (Lib.count l [c]) l
theorem pcs_last {c : UInt8} {l : List UInt8} (h : c ∉ l) : pcs c l = [l] := by
  unfold pcs; rw [Lib.count_miss (index_none h)]; rfl
theorem pcs_first {c : UInt8} (x y : List UInt8) (h : c ∉ x) : pcs c (x ++ c :: y) = x :: pcs c y := by
  have hi := index_at x y h
  unfold pcs
  have h2 : ∀ (k : Nat) (s : List UInt8), Lib.splitK [c] 0 (k + 1) s = if (Lib.index s [c] == -1) = true then [s] else s.take ((Lib.index s [c]).toNat + 0) :: Lib.splitK [c] 0 k (s.drop ((Lib.index s [c]).toNat + [c].length)) := fun k s => rfl
  rw [Lib.count_hit (by simp) hi, Nat.add_comm 1, h2]
  have hm : ¬ (Lib.index (x ++ c :: y) [c] == -1) = true := fun e => by have := beq_iff_eq.1 e; omega
  rw [if_neg hm, hi]
  simp
theorem pcs_glue {c : UInt8} (r : List (List UInt8)) : ∀ p : List UInt8, c ∉ p → (∀ q ∈ r, c ∉ q) → pcs c (p ++ r.flatMap fun q => c :: q) = p :: r := by
  induction r with
  | nil => intro p hp _; simpa using pcs_last hp
  | cons q r ih =>
    intro p hp hr
    rw [List.flatMap_cons, List.cons_append, pcs_first p _ hp, ih q (hr q (by simp)) (fun z hz => hr z (by simp [hz]))]
theorem pcs_ne (c : UInt8) (l : List UInt8) : pcs c l ≠ [] := by
  unfold pcs
  cases Lib.count l [c] with
  | zero => simp [Lib.splitK]
  | succ k => unfold Lib.splitK; split <;> simp
theorem pcs_lenF {c : UInt8} (n : Nat) : ∀ l : List UInt8, l.length ≤ n → (pcs c l).length ≤ l.length + 1 := by
  induction n with
  | zero => intro l h; have := List.eq_nil_of_length_eq_zero (Nat.le_zero.1 h); subst this; rw [pcs_last (by simp)]; simp
  | succ n ih =>
    intro l h
    rcases cut_ways c l with ⟨h1, _⟩ | ⟨x, y, rfl, hx, _⟩
    · rw [pcs_last h1]; simp
    · rw [pcs_first x y hx]
      have := ih y (by simp at h; omega)
      simp; omega
theorem pcs_len (c : UInt8) (l : List UInt8) : (pcs c l).length ≤ l.length + 1 := pcs_lenF l.length l (Nat.le_refl _)
theorem pcs_mem {c : UInt8} (n : Nat) : ∀ l : List UInt8, l.length ≤ n → ∀ p ∈ pcs c l, p.length ≤ l.length := by
  induction n with
  | zero => intro l h p hp; have := List.eq_nil_of_length_eq_zero (Nat.le_zero.1 h); subst this; rw [pcs_last (by simp)] at hp; simp at hp; subst hp; simp
  | succ n ih =>
    intro l h p hp
    rcases cut_ways c l with ⟨h1, _⟩ | ⟨x, y, rfl, hx, _⟩
    · rw [pcs_last h1] at hp; simp at hp; subst hp; exact Nat.le_refl _
    · rw [pcs_first x y hx] at hp
      rcases List.mem_cons.1 hp with rfl | hp
      · simp
      · have := ih y (by simp at h; omega) p hp
        simp; omega

/-- A text without bytes c. -/
def less (c : UInt8) (l : List UInt8) : List UInt8 := Lib.replaceAll l [c] []
theorem less_def (c : UInt8) (l : List UInt8) : less c l = Lib.replaceK [c] [] (Lib.count l [c]) l := by
  unfold less Lib.replaceAll Lib.replace
  have : ([c] == ([] : List UInt8)) = false := rfl
  rw [this]
  simp only [Bool.false_eq_true, ↓reduceIte]
  unfold Lib.replaceNum
  rw [if_pos (.inl (by omega))]
theorem less_none {c : UInt8} {l : List UInt8} (h : c ∉ l) : less c l = l := by
  rw [less_def, Lib.count_miss (index_none h)]; rfl
theorem less_first {c : UInt8} (x y : List UInt8) (h : c ∉ x) : less c (x ++ c :: y) = x ++ less c y := by
  have hi := index_at x y h
  rw [less_def, less_def, Lib.count_hit (by simp) hi, Nat.add_comm 1, Lib.replaceK_hit _ _ _ _ _ hi]
  simp

/-- What bytes a number's text has. -/
theorem dec_dgt (n : Nat) : ∀ c ∈ dec n, dgt c = true := by
  induction n using Nat.strongRecOn with
  | _ n ih =>
    intro c hc
    by_cases h : n < 10
    · rw [dec_small h] at hc; exact List.all_eq_true.1 (low_dgt _ _) c hc
    · rw [dec_great h, List.mem_append] at hc
      rcases hc with hc | hc
      · exact ih (n / 10) (by omega) c hc
      · exact List.all_eq_true.1 (low_dgt _ _) c hc
theorem dec_ne (n : Nat) : dec n ≠ [] := by
  by_cases h : n < 10
  · rw [dec_small h]; simp [low]
  · rw [dec_great h]; simp [low]
theorem decI_bytes {n : Int} {c : UInt8} (h : c ∈ decI n) : c = 45 ∨ dgt c = true := by
  unfold decI at h
  split at h
  · rcases List.mem_cons.1 h with rfl | h
    · exact .inl rfl
    · exact .inr (dec_dgt _ c h)
  · exact .inr (dec_dgt _ c h)
theorem decI_no {c : UInt8} (h1 : c ≠ 45) (h2 : dgt c = false) (n : Int) : c ∉ decI n := fun h => by
  rcases decI_bytes h with h | h
  · exact h1 h
  · rw [h2] at h; cases h
theorem decI_ne (n : Int) : decI n ≠ [] := by
  unfold decI; split
  · simp
  · exact dec_ne _
/-- The program's numerals are the document's. -/
theorem decDigits_dec (n : Nat) : Lib.decDigits n = dec n := by
  induction n using Nat.strongRecOn with
  | _ n ih =>
    by_cases h : n < 10
    · rw [Lib.decDigits_one h, dec_small h, dig_ofNat]
      show [dig (n : Int)] = [dig ((n : Int) / 10 ^ 0 % 10)]
      congr 2; omega
    · rw [Lib.decDigits, dif_neg h, dec_great h, ih (n / 10) (by omega), dig_ofNat]
      show _ = dec (n / 10) ++ [dig (((n % 10 : Nat) : Int) / 10 ^ 0 % 10)]
      congr 3; omega
theorem itoa_decI (n : Int) : Lib.itoa n = decI n := by
  unfold Lib.itoa decI
  split
  · simp [decDigits_dec]; congr 1; omega
  · rw [decDigits_dec]

/-- A number is read back. -/
theorem parse_app (a : List UInt8) : ∀ (acc : Nat) (b : List UInt8), Lib.parseUint10 acc (a ++ b) = match Lib.parseUint10 acc a with | .ok v => Lib.parseUint10 v b | e => e := by
  induction a with
  | nil => intro acc b; rfl
  | cons c r ih =>
    intro acc b
    simp only [List.cons_append, Lib.parseUint10]
    split
    · split
      · rfl
      · split
        · rfl
        · exact ih _ b
    · rfl
theorem parse_dec (n : Nat) (h : n < 1000000000000000000) : Lib.parseUint10 0 (dec n) = .ok n := by
  induction n using Nat.strongRecOn with
  | _ n ih =>
    have h9 : ∀ d : Nat, d < 10 → (dig (d : Int)).toNat = 48 + d := fun d hd => by have := dig_nat (d := (d : Int)) (by omega) (by omega); omega
    by_cases hn : n < 10
    · rw [dec_small hn]
      show Lib.parseUint10 0 [dig ((n : Int) / 10 ^ 0 % 10)] = _
      have e : dig ((n : Int) / 10 ^ 0 % 10) = dig (n : Int) := by congr 1; omega
      rw [e]
      simp only [Lib.parseUint10, h9 n hn]
      rw [if_pos (by omega), if_neg (by omega), if_neg (by omega)]
      congr 1; omega
    · rw [dec_great hn, parse_app, ih (n / 10) (by omega) (by omega)]
      show Lib.parseUint10 (n / 10) [dig (((n % 10 : Nat) : Int) / 10 ^ 0 % 10)] = _
      have e : dig (((n % 10 : Nat) : Int) / 10 ^ 0 % 10) = dig ((n % 10 : Nat) : Int) := by congr 1; omega
      rw [e]
      simp only [Lib.parseUint10, h9 (n % 10) (by omega)]
      rw [if_pos (by omega), if_neg (by omega), if_neg (by omega)]
      congr 1; omega
/-- A number as the program reads it. -/
def rdIntV (l : List UInt8) : Int × Bool := match Lib.atoiAll l with | .ok v => (v, true) | _ => (0, false)
theorem rdIntV_decI (n : Int) (h : -1000000 ≤ n ∧ n ≤ 1000000) : rdIntV (decI n) = (n, true) := by
  have hdig : ∀ m : Nat, ∃ c r, dec m = c :: r ∧ 48 ≤ c.toNat ∧ c.toNat ≤ 57 := fun m => by
    cases e : dec m with
    | nil => exact absurd e (dec_ne m)
    | cons c r => exact ⟨c, r, rfl, (dgt_iff.1 (dec_dgt m c (by rw [e]; simp)))⟩
  have hmag : ∀ m : Nat, m < 1000000000000000000 → Lib.parseMag (dec m) = .ok m := fun m hm => by
    unfold Lib.parseMag; rw [if_neg (dec_ne m)]; exact parse_dec m hm
  have key : Lib.atoiAll (decI n) = .ok n := by
    unfold decI
    by_cases hn : n < 0
    · rw [if_pos hn]
      unfold Lib.atoiAll
      have h45 : (45 : UInt8).toNat = 45 := rfl
      simp only [h45]
      rw [if_pos (.inr trivial), hmag _ (by omega)]
      simp only [not_true_eq_false, false_and, ↓reduceIte, true_and]
      rw [if_neg (by omega)]
      congr 1; omega
    · rw [if_neg hn]
      obtain ⟨c, r, e, h1, h2⟩ := hdig n.toNat
      have hm := hmag n.toNat (by omega)
      rw [e] at hm ⊢
      unfold Lib.atoiAll
      simp only
      rw [if_neg (by omega), hm]
      simp only
      rw [if_neg (by omega), if_neg (by omega), if_neg (by omega)]
      congr 1; omega
  unfold rdIntV; rw [key]
end Qr
end

/- Plain mathematics of rules: what is read of a text; there and back. -/
section
namespace Qr
open Ck Go

/-- The readers: what is read, and whether. -/
def freqFrom (l : List UInt8) : Nat → Option Nat
  | 0 => none
  | n + 1 => if freqName (5 - (n + 1)) = l then some (5 - (n + 1)) else freqFrom l n
def ov (o : Option Nat) : Int × Bool := match o with | some k => ((k : Int), true) | none => (0, false)
def rdFreqV (l : List UInt8) : Int × Bool := ov (freqFrom l 4)
def wkFrom (l : List UInt8) : Nat → Option Nat
  | 0 => none
  | n + 1 => if dayName (7 - (n + 1)) = l then some (7 - (n + 1)) else wkFrom l n
def rdWkV (l : List UInt8) : Int × Bool := ov (wkFrom l 7)
def rdDayV (l : List UInt8) : (Int × Int) × Bool :=
  if l.length ≤ 2 then ((0, (rdWkV l).1), (rdWkV l).2)
  else (((rdIntV (l.take (l.length - 2))).1, (rdWkV (l.drop (l.length - 2))).1), (rdWkV (l.drop (l.length - 2))).2 && (rdIntV (l.take (l.length - 2))).2)
noncomputable def rdUntilV (l : List UInt8) : Int × Bool :=
  if l.length = 13 then rsV (l.take 4 ++ [45] ++ (l.drop 4).take 2 ++ [45] ++ (l.drop 6).take 5 ++ [58] ++ l.drop 11) else (0, false)
/-- A row of what is read one by one; the first that isn't ends it. -/
def allV {α : Type} (rd : List UInt8 → α × Bool) : List (List UInt8) → Option (List α)
  | [] => some []
  | p :: r => if (rd p).2 = true then (allV rd r).map ((rd p).1 :: ·) else none
def rdRow {α : Type} (rd : List UInt8 → α × Bool) (l : List UInt8) : Option (List α) := allV rd (pcs 44 l)

def kFREQ : List UInt8 := [70, 82, 69, 81]
def kINTERVAL : List UInt8 := [73, 78, 84, 69, 82, 86, 65, 76]
def kCOUNT : List UInt8 := [67, 79, 85, 78, 84]
def kUNTIL : List UInt8 := [85, 78, 84, 73, 76]
def kBYMONTH : List UInt8 := [66, 89, 77, 79, 78, 84, 72]
def kBYMONTHDAY : List UInt8 := [66, 89, 77, 79, 78, 84, 72, 68, 65, 89]
def kBYDAY : List UInt8 := [66, 89, 68, 65, 89]
def kBYSETPOS : List UInt8 := [66, 89, 83, 69, 84, 80, 79, 83]
def kWKST : List UInt8 := [87, 75, 83, 84]
/-- A value is put into a rule; none, if it isn't read. -/
def setV {α : Type} (v : α × Bool) (f : α → R) : Option R := if v.2 = true then some (f v.1) else none
noncomputable def putN (r : R) (nm v : List UInt8) : Option R :=
  if nm = kFREQ then setV (rdFreqV v) fun x => { r with freq := x }
  else if nm = kINTERVAL then setV (rdIntV v) fun x => { r with iv := x }
  else if nm = kCOUNT then setV (rdIntV v) fun x => { r with count := x }
  else if nm = kUNTIL then setV (rdUntilV v) fun x => { r with until_ := x }
  else if nm = kBYMONTH then (rdRow rdIntV v).map fun x => { r with bm := x }
  else if nm = kBYMONTHDAY then (rdRow rdIntV v).map fun x => { r with bd := x }
  else if nm = kBYDAY then (rdRow rdDayV v).map fun x => { r with bw := x }
  else if nm = kBYSETPOS then (rdRow rdIntV v).map fun x => { r with bs := x }
  else if nm = kWKST then setV (rdWkV v) fun x => { r with start := x }
  else none
noncomputable def putP (r : R) (p : List UInt8) : Option R := putN r (Lib.cut p [61]).1 (Lib.cut p [61]).2.1
noncomputable def foldP : List (List UInt8) → R → Option R
  | [], r => some r
  | p :: ps, r => (putP r p).bind (foldP ps)
def r0 : R := ⟨0, 1, 0, -1, [], [], [], [], 0⟩
noncomputable def readF (s : List UInt8) : Option R := (foldP (pcs 59 s) r0).bind fun r => if mayP r ∧ textT r = s then some r else none
theorem readF_some {s : List UInt8} {r : R} (h : readF s = some r) : mayP r ∧ textT r = s := by
  unfold readF at h
  cases e : foldP (pcs 59 s) r0 with
  | none => rw [e] at h; cases h
  | some q =>
    rw [e] at h
    simp only [Option.bind_some] at h
    split at h
    · rename_i hq; cases h; exact hq
    · cases h
theorem foldP_app (a : List (List UInt8)) : ∀ (b : List (List UInt8)) (r : R), foldP (a ++ b) r = (foldP a r).bind (foldP b) := by
  induction a with
  | nil => intro b r; rfl
  | cons p a ih =>
    intro b r
    show (putP r p).bind (foldP (a ++ b)) = ((putP r p).bind (foldP a)).bind (foldP b)
    cases putP r p with
    | none => rfl
    | some q => exact ih b q

/-- There and back, reader by reader. -/
theorem rdFreq_back {k : Nat} (h1 : 1 ≤ k) (h4 : k ≤ 4) : rdFreqV (freqName k) = ((k : Int), true) := by
  have : k = 1 ∨ k = 2 ∨ k = 3 ∨ k = 4 := by omega
  rcases this with rfl | rfl | rfl | rfl <;> decide
theorem rdWk_back {k : Nat} (h : k < 7) : rdWkV (dayName k) = ((k : Int), true) := by
  have : k = 0 ∨ k = 1 ∨ k = 2 ∨ k = 3 ∨ k = 4 ∨ k = 5 ∨ k = 6 := by omega
  rcases this with rfl | rfl | rfl | rfl | rfl | rfl | rfl <;> decide
theorem dayName_two {k : Nat} (h : k < 7) : (dayName k).length = 2 := by
  have : k = 0 ∨ k = 1 ∨ k = 2 ∨ k = 3 ∨ k = 4 ∨ k = 5 ∨ k = 6 := by omega
  rcases this with rfl | rfl | rfl | rfl | rfl | rfl | rfl <;> rfl
theorem rdDay_back {d : Int × Int} (h : 0 ≤ d.2 ∧ d.2 ≤ 6 ∧ -5 ≤ d.1 ∧ d.1 ≤ 5) : rdDayV (oneD d) = (d, true) := by
  obtain ⟨n, k⟩ := d
  obtain ⟨h1, h2, h3, h4⟩ := h
  simp only at h1 h2 h3 h4
  obtain ⟨j, rfl⟩ : ∃ j : Nat, k = j := ⟨k.toNat, by omega⟩
  have hl := dayName_two (k := j) (by omega)
  have hb := rdWk_back (k := j) (by omega)
  unfold rdDayV oneD
  simp only [Int.toNat_natCast]
  by_cases hn : n = 0
  · subst hn
    simp only [↓reduceIte, List.nil_append]
    rw [if_pos (by omega), hb]
  · rw [if_neg hn, if_neg (by have := decI_ne n; have h5 : 0 < (decI n).length := List.length_pos_iff.2 this; rw [List.length_append]; omega), List.length_append, hl, Nat.add_sub_cancel]
    rw [List.take_left, List.drop_left, hb, rdIntV_decI n (by omega)]
    rfl
theorem allV_back {α : Type} {rd : List UInt8 → α × Bool} {f : α → List UInt8} (l : List α) (h : ∀ x ∈ l, rd (f x) = (x, true)) : allV rd (l.map f) = some l := by
  induction l with
  | nil => rfl
  | cons x r ih =>
    have hx := h x (by simp)
    show (if (rd (f x)).2 = true then (allV rd (r.map f)).map ((rd (f x)).1 :: ·) else none) = _
    rw [ih (fun y hy => h y (by simp [hy])), hx]
    rfl
theorem rdRow_back {α : Type} {rd : List UInt8 → α × Bool} {f : α → List UInt8} (x : α) (r : List α) (h : ∀ y ∈ x :: r, rd (f y) = (y, true)) (h2 : ∀ y ∈ x :: r, (44 : UInt8) ∉ f y) : rdRow rd (f x ++ r.flatMap fun y => 44 :: f y) = some (x :: r) := by
  unfold rdRow
  have e : (r.flatMap fun y => (44 : UInt8) :: f y) = (r.map f).flatMap fun q => 44 :: q := by rw [List.flatMap_map]
  rw [e, pcs_glue (r.map f) (f x) (h2 x (by simp)) (fun q hq => by obtain ⟨y, hy, rfl⟩ := List.mem_map.1 hq; exact h2 y (by simp [hy]))]
  exact allV_back (x :: r) h
theorem nums_back (x : Int) (r : List Int) (h : ∀ y ∈ x :: r, -1000000 ≤ y ∧ y ≤ 1000000) : rdRow rdIntV (nums (x :: r)) = some (x :: r) :=
  rdRow_back x r (fun y hy => rdIntV_decI y (h y hy)) (fun y _ => decI_no (by decide) (by decide) y)
theorem dayName_no {c : UInt8} (hc : c.toNat < 65) (k : Nat) : c ∉ dayName k := by
  intro h
  unfold dayName at h
  split at h <;> simp at h <;> (try rcases h with rfl | rfl) <;> (revert hc; decide)
theorem oneD_no {c : UInt8} (h1 : c ≠ 45) (h2 : dgt c = false) (hc : c.toNat < 65) (d : Int × Int) : c ∉ oneD d := by
  unfold oneD
  split
  · simpa using dayName_no hc _
  · rw [List.mem_append, not_or]; exact ⟨decI_no h1 h2 _, dayName_no hc _⟩
def daysL (l : List (Int × Int)) : List UInt8 := match l with | [] => [] | d :: r => oneD d ++ tailD r
theorem days_back (x : Int × Int) (r : List (Int × Int)) (h : ∀ d ∈ x :: r, 0 ≤ d.2 ∧ d.2 ≤ 6 ∧ -5 ≤ d.1 ∧ d.1 ≤ 5) : rdRow rdDayV (daysL (x :: r)) = some (x :: r) :=
  rdRow_back x r (fun y hy => rdDay_back (h y hy)) (fun y _ => oneD_no (by decide) (by decide) (by decide) y)

/-- A part in its two pieces. -/
theorem putP_part {r : R} {nm v : List UInt8} (h : (61 : UInt8) ∉ nm) : putP r (nm ++ 61 :: v) = putN r nm v := by
  unfold putP; rw [cut_at nm v h]

/-- An optional part. -/
def opt (b : Bool) (nm v : List UInt8) : List (List UInt8) := if b = true then [nm ++ 61 :: v] else []
def fm (l : List (List UInt8)) : List UInt8 := l.flatMap fun q => 59 :: q
theorem fm_app (a b : List (List UInt8)) : fm (a ++ b) = fm a ++ fm b := by simp [fm]
theorem fold_opt {r r' : R} {b : Bool} {nm v : List UInt8} (h : (61 : UInt8) ∉ nm) (h1 : b = true → putN r nm v = some r') (h0 : b = false → r = r') : foldP (opt b nm v) r = some r' := by
  cases b with
  | true =>
    show (putP r (nm ++ 61 :: v)).bind (foldP []) = some r'
    rw [putP_part h, h1 rfl]; rfl
  | false => rw [h0 rfl]; rfl
/-- What stands behind 'UNTIL='. -/
noncomputable def untilL (u : Int) : List UInt8 := (stampT u).take 4 ++ ((stampT u).drop 5).take 2 ++ ((stampT u).drop 8).take 5 ++ (stampT u).drop 14
theorem stamp_form (u : Int) : ∃ a b c d e : List UInt8, stampT u = a ++ [45] ++ b ++ [45] ++ c ++ [84] ++ (d ++ [58] ++ e) ∧ a.length = 4 ∧ b.length = 2 ∧ c.length = 2 ∧ d.length = 2 ∧ e.length = 2 ∧
    (∀ x ∈ a ++ b ++ c ++ d ++ e, dgt x = true) := by
  refine ⟨_, _, _, _, _, rfl, low_len _ _, low_len _ _, low_len _ _, low_len _ _, low_len _ _, fun x hx => ?_⟩
  simp only [List.mem_append] at hx
  rcases hx with (((h | h) | h) | h) | h <;> exact List.all_eq_true.1 (low_dgt _ _) x h
theorem untilL_form {u : Int} {a b c d e : List UInt8} (h : stampT u = a ++ [45] ++ b ++ [45] ++ c ++ [84] ++ (d ++ [58] ++ e)) (ha : a.length = 4) (hb : b.length = 2) (hc : c.length = 2) (hd : d.length = 2) :
    untilL u = a ++ b ++ (c ++ [84] ++ d) ++ e := by
  unfold untilL
  rw [h]
  have e1 : (a ++ [45] ++ b ++ [45] ++ c ++ [84] ++ (d ++ [58] ++ e)).take 4 = a := by
    rw [show a ++ [45] ++ b ++ [45] ++ c ++ [84] ++ (d ++ [58] ++ e) = a ++ ([45] ++ b ++ [45] ++ c ++ [84] ++ (d ++ [58] ++ e)) by simp, List.take_left' ha]
  have e2 : (a ++ [45] ++ b ++ [45] ++ c ++ [84] ++ (d ++ [58] ++ e)).drop 5 = b ++ ([45] ++ c ++ [84] ++ (d ++ [58] ++ e)) := by
    rw [show a ++ [45] ++ b ++ [45] ++ c ++ [84] ++ (d ++ [58] ++ e) = (a ++ [45]) ++ (b ++ ([45] ++ c ++ [84] ++ (d ++ [58] ++ e))) by simp, List.drop_left' (by simp; omega)]
  have e3 : (a ++ [45] ++ b ++ [45] ++ c ++ [84] ++ (d ++ [58] ++ e)).drop 8 = (c ++ [84] ++ d) ++ ([58] ++ e) := by
    rw [show a ++ [45] ++ b ++ [45] ++ c ++ [84] ++ (d ++ [58] ++ e) = (a ++ [45] ++ b ++ [45]) ++ ((c ++ [84] ++ d) ++ ([58] ++ e)) by simp, List.drop_left' (by simp; omega)]
  have e4 : (a ++ [45] ++ b ++ [45] ++ c ++ [84] ++ (d ++ [58] ++ e)).drop 14 = e := by
    rw [show a ++ [45] ++ b ++ [45] ++ c ++ [84] ++ (d ++ [58] ++ e) = (a ++ [45] ++ b ++ [45] ++ c ++ [84] ++ d ++ [58]) ++ e by simp, List.drop_left' (by simp; omega)]
  rw [e1, e2, e3, e4, List.take_left' hb, List.take_left' (by simp; omega)]
theorem untilL_len (u : Int) : (untilL u).length = 13 := by
  obtain ⟨a, b, c, d, e, h, ha, hb, hc, hd, he, _⟩ := stamp_form u
  rw [untilL_form h ha hb hc hd]; simp; omega
theorem until_back {u : Int} (h0 : 0 ≤ u) (h1 : u ≤ 158310720) : rdUntilV (untilL u) = (u, true) := by
  unfold rdUntilV
  rw [if_pos (untilL_len u)]
  obtain ⟨a, b, c, d, e, h, ha, hb, hc, hd, he, _⟩ := stamp_form u
  rw [untilL_form h ha hb hc hd]
  have e1 : (a ++ b ++ (c ++ [84] ++ d) ++ e).take 4 = a := by rw [show a ++ b ++ (c ++ [84] ++ d) ++ e = a ++ (b ++ (c ++ [84] ++ d) ++ e) by simp, List.take_left' ha]
  have e2 : (a ++ b ++ (c ++ [84] ++ d) ++ e).drop 4 = b ++ ((c ++ [84] ++ d) ++ e) := by rw [show a ++ b ++ (c ++ [84] ++ d) ++ e = a ++ (b ++ ((c ++ [84] ++ d) ++ e)) by simp, List.drop_left' ha]
  have e3 : (a ++ b ++ (c ++ [84] ++ d) ++ e).drop 6 = (c ++ [84] ++ d) ++ e := by rw [show a ++ b ++ (c ++ [84] ++ d) ++ e = (a ++ b) ++ ((c ++ [84] ++ d) ++ e) by simp, List.drop_left' (by simp; omega)]
  have e4 : (a ++ b ++ (c ++ [84] ++ d) ++ e).drop 11 = e := by rw [show a ++ b ++ (c ++ [84] ++ d) ++ e = (a ++ b ++ (c ++ [84] ++ d)) ++ e by simp, List.drop_left' (by simp; omega)]
  rw [e1, e2, e3, e4, List.take_left' hb, List.take_left' (by simp; omega)]
  rw [show a ++ [45] ++ b ++ [45] ++ (c ++ [84] ++ d) ++ [58] ++ e = stampT u by rw [h]; simp]
  exact rs_st h0 h1
/-- What the program writes of an end. -/
theorem less_until (u : Int) : less 58 (less 45 (stampT u)) = untilL u := by
  obtain ⟨a, b, c, d, e, h, ha, hb, hc, hd, he, hg⟩ := stamp_form u
  have n45 : ∀ l : List UInt8, (∀ x ∈ l, dgt x = true) → (45 : UInt8) ∉ l := fun l hl hm => by have := hl _ hm; revert this; decide
  have n58 : ∀ l : List UInt8, (∀ x ∈ l, dgt x = true) → (58 : UInt8) ∉ l := fun l hl hm => by have := hl _ hm; revert this; decide
  simp only [List.mem_append] at hg
  have ga : ∀ x ∈ a, dgt x = true := fun x hx => hg x (by simp [hx])
  have gb : ∀ x ∈ b, dgt x = true := fun x hx => hg x (by simp [hx])
  have gc : ∀ x ∈ c, dgt x = true := fun x hx => hg x (by simp [hx])
  have gd : ∀ x ∈ d, dgt x = true := fun x hx => hg x (by simp [hx])
  have ge : ∀ x ∈ e, dgt x = true := fun x hx => hg x (by simp [hx])
  rw [untilL_form h ha hb hc hd, h]
  rw [show a ++ [45] ++ b ++ [45] ++ c ++ [84] ++ (d ++ [58] ++ e) = a ++ 45 :: (b ++ 45 :: (c ++ 84 :: (d ++ 58 :: e))) by simp]
  have hl : less 45 (c ++ 84 :: (d ++ 58 :: e)) = c ++ 84 :: (d ++ 58 :: e) := less_none (by
    simp only [List.mem_append, List.mem_cons, not_or]
    exact ⟨n45 c gc, by decide, n45 d gd, by decide, n45 e ge⟩)
  rw [less_first a _ (n45 a ga), less_first b _ (n45 b gb), hl]
  rw [show a ++ (b ++ (c ++ 84 :: (d ++ 58 :: e))) = (a ++ b ++ c ++ 84 :: d) ++ 58 :: e by simp]
  rw [less_first _ e (by
    simp only [List.mem_append, List.mem_cons, not_or]
    exact ⟨⟨⟨n58 a ga, n58 b gb⟩, n58 c gc⟩, by decide, n58 d gd⟩), less_none (n58 e ge)]
  simp
end Qr
end

/- Plain mathematics of rules: a text is read as the rule that has it; how long rows and texts are. -/
section
namespace Qr
open Ck Go

theorem putN_freq (r : R) (v : List UInt8) : putN r kFREQ v = setV (rdFreqV v) fun x => { r with freq := x } := by unfold putN; rw [if_pos rfl]
theorem putN_iv (r : R) (v : List UInt8) : putN r kINTERVAL v = setV (rdIntV v) fun x => { r with iv := x } := by unfold putN; rw [if_neg (by decide), if_pos rfl]
theorem putN_count (r : R) (v : List UInt8) : putN r kCOUNT v = setV (rdIntV v) fun x => { r with count := x } := by unfold putN; rw [if_neg (by decide), if_neg (by decide), if_pos rfl]
theorem putN_until (r : R) (v : List UInt8) : putN r kUNTIL v = setV (rdUntilV v) fun x => { r with until_ := x } := by unfold putN; rw [if_neg (by decide), if_neg (by decide), if_neg (by decide), if_pos rfl]
theorem putN_bm (r : R) (v : List UInt8) : putN r kBYMONTH v = (rdRow rdIntV v).map fun x => { r with bm := x } := by unfold putN; rw [if_neg (by decide), if_neg (by decide), if_neg (by decide), if_neg (by decide), if_pos rfl]
theorem putN_bd (r : R) (v : List UInt8) : putN r kBYMONTHDAY v = (rdRow rdIntV v).map fun x => { r with bd := x } := by unfold putN; rw [if_neg (by decide), if_neg (by decide), if_neg (by decide), if_neg (by decide), if_neg (by decide), if_pos rfl]
theorem putN_bw (r : R) (v : List UInt8) : putN r kBYDAY v = (rdRow rdDayV v).map fun x => { r with bw := x } := by unfold putN; rw [if_neg (by decide), if_neg (by decide), if_neg (by decide), if_neg (by decide), if_neg (by decide), if_neg (by decide), if_pos rfl]
theorem putN_bs (r : R) (v : List UInt8) : putN r kBYSETPOS v = (rdRow rdIntV v).map fun x => { r with bs := x } := by unfold putN; rw [if_neg (by decide), if_neg (by decide), if_neg (by decide), if_neg (by decide), if_neg (by decide), if_neg (by decide), if_neg (by decide), if_pos rfl]
theorem putN_wk (r : R) (v : List UInt8) : putN r kWKST v = setV (rdWkV v) fun x => { r with start := x } := by unfold putN; rw [if_neg (by decide), if_neg (by decide), if_neg (by decide), if_neg (by decide), if_neg (by decide), if_neg (by decide), if_neg (by decide), if_neg (by decide), if_pos rfl]
theorem putN_no (r : R) (nm v : List UInt8) (h : nm ≠ kFREQ ∧ nm ≠ kINTERVAL ∧ nm ≠ kCOUNT ∧ nm ≠ kUNTIL ∧ nm ≠ kBYMONTH ∧ nm ≠ kBYMONTHDAY ∧ nm ≠ kBYDAY ∧ nm ≠ kBYSETPOS ∧ nm ≠ kWKST) : putN r nm v = none := by
  unfold putN
  rw [if_neg h.1, if_neg h.2.1, if_neg h.2.2.1, if_neg h.2.2.2.1, if_neg h.2.2.2.2.1, if_neg h.2.2.2.2.2.1, if_neg h.2.2.2.2.2.2.1, if_neg h.2.2.2.2.2.2.2.1, if_neg h.2.2.2.2.2.2.2.2]

/-- How a rule's text is made of parts. -/
noncomputable def optsT (r : R) : List (List UInt8) :=
  opt (decide (1 < r.iv)) kINTERVAL (decI r.iv) ++ opt (decide (0 < r.count)) kCOUNT (decI r.count) ++ opt (decide (0 ≤ r.until_)) kUNTIL (untilL r.until_) ++
  opt (!r.bm.isEmpty) kBYMONTH (nums r.bm) ++ opt (!r.bd.isEmpty) kBYMONTHDAY (nums r.bd) ++ opt (!r.bw.isEmpty) kBYDAY (daysL r.bw) ++ opt (!r.bs.isEmpty) kBYSETPOS (nums r.bs) ++
  opt (decide (0 < r.start)) kWKST (dayName r.start.toNat)
theorem fm_opt (b : Bool) (nm v : List UInt8) : fm (opt b nm v) = if b = true then 59 :: nm ++ 61 :: v else [] := by
  cases b <;> simp [opt, fm]
theorem ivT_fm (r : R) : ivT r = fm (opt (decide (1 < r.iv)) kINTERVAL (decI r.iv)) := by
  rw [fm_opt]; unfold ivT
  by_cases h : 1 < r.iv
  · rw [if_pos h, if_pos (decide_eq_true h)]; rfl
  · rw [if_neg h, if_neg (by simpa using h)]
theorem ctT_fm (r : R) : ctT r = fm (opt (decide (0 < r.count)) kCOUNT (decI r.count)) := by
  rw [fm_opt]; unfold ctT
  by_cases h : 0 < r.count
  · rw [if_pos h, if_pos (decide_eq_true h)]; rfl
  · rw [if_neg h, if_neg (by simpa using h)]
theorem unT_fm (r : R) : unT r = fm (opt (decide (0 ≤ r.until_)) kUNTIL (untilL r.until_)) := by
  rw [fm_opt]; unfold unT
  by_cases h : 0 ≤ r.until_
  · rw [if_pos h, if_pos (decide_eq_true h)]; unfold untilT untilL kUNTIL; simp
  · rw [if_neg h, if_neg (by simpa using h)]
theorem prt_fm (nm : List UInt8) (l : List Int) : prt nm l = fm (opt (!l.isEmpty) nm (nums l)) := by
  rw [fm_opt]; unfold prt
  cases l with
  | nil => rfl
  | cons x r => rw [if_neg (by simp), if_pos (by simp)]
theorem daysT_fm (l : List (Int × Int)) : daysT l = fm (opt (!l.isEmpty) kBYDAY (daysL l)) := by
  rw [fm_opt]
  cases l with
  | nil => rfl
  | cons x r => rw [if_pos (by simp)]; rfl
theorem wkT_fm (r : R) : wkT r = fm (opt (decide (0 < r.start)) kWKST (dayName r.start.toNat)) := by
  rw [fm_opt]; unfold wkT
  by_cases h : 0 < r.start
  · rw [if_pos h, if_pos (decide_eq_true h)]; rfl
  · rw [if_neg h, if_neg (by simpa using h)]
theorem textT_parts (r : R) : textT r = (kFREQ ++ 61 :: freqName r.freq.toNat) ++ fm (optsT r) := by
  unfold textT preT midT optsT
  rw [ivT_fm, ctT_fm, unT_fm, prt_fm, prt_fm, prt_fm, daysT_fm, wkT_fm]
  simp only [fm_app, List.append_assoc]
  rfl

/-- Semicolons stand between parts alone. -/
theorem nums_no {c : UInt8} (h1 : c ≠ 45) (h2 : dgt c = false) (h3 : c ≠ 44) (l : List Int) : c ∉ nums l := by
  cases l with
  | nil => simp [nums]
  | cons x r =>
    simp only [nums, List.mem_append, tail_, List.mem_flatMap, List.mem_cons, not_or, not_exists, not_and]
    exact ⟨decI_no h1 h2 x, fun y _ => ⟨h3, decI_no h1 h2 y⟩⟩
theorem daysL_no {c : UInt8} (h1 : c ≠ 45) (h2 : dgt c = false) (h3 : c ≠ 44) (h4 : c.toNat < 65) (l : List (Int × Int)) : c ∉ daysL l := by
  cases l with
  | nil => simp [daysL]
  | cons x r =>
    simp only [daysL, List.mem_append, tailD, List.mem_flatMap, List.mem_cons, not_or, not_exists, not_and]
    exact ⟨oneD_no h1 h2 h4 x, fun y _ => ⟨h3, oneD_no h1 h2 h4 y⟩⟩
theorem untilL_no (u : Int) : (59 : UInt8) ∉ untilL u := by
  obtain ⟨a, b, c, d, e, h, ha, hb, hc, hd, he, hg⟩ := stamp_form u
  rw [untilL_form h ha hb hc hd]
  simp only [List.mem_append] at hg
  simp only [List.mem_append, List.mem_cons, List.not_mem_nil, or_false]
  intro hm
  rcases hm with ((hm | hm) | ((hm | hm) | hm)) | hm
  · have := hg 59 (by simp [hm]); revert this; decide
  · have := hg 59 (by simp [hm]); revert this; decide
  · have := hg 59 (by simp [hm]); revert this; decide
  · revert hm; decide
  · have := hg 59 (by simp [hm]); revert this; decide
  · have := hg 59 (by simp [hm]); revert this; decide
theorem opt_no {c : UInt8} {b : Bool} {nm v : List UInt8} (h1 : c ∉ nm) (h2 : c ≠ 61) (h3 : c ∉ v) : ∀ q ∈ opt b nm v, c ∉ q := by
  intro q hq
  cases b with
  | false => simp [opt] at hq
  | true => simp only [opt, ↓reduceIte, List.mem_singleton] at hq; subst hq; simp only [List.mem_append, List.mem_cons, not_or]; exact ⟨h1, h2, h3⟩
theorem optsT_no (r : R) : ∀ q ∈ optsT r, (59 : UInt8) ∉ q := by
  intro q hq
  unfold optsT at hq
  simp only [List.mem_append] at hq
  rcases hq with ((((((hq | hq) | hq) | hq) | hq) | hq) | hq) | hq
  · exact opt_no (by decide) (by decide) (decI_no (by decide) (by decide) _) q hq
  · exact opt_no (by decide) (by decide) (decI_no (by decide) (by decide) _) q hq
  · exact opt_no (by decide) (by decide) (untilL_no _) q hq
  · exact opt_no (by decide) (by decide) (nums_no (by decide) (by decide) (by decide) _) q hq
  · exact opt_no (by decide) (by decide) (nums_no (by decide) (by decide) (by decide) _) q hq
  · exact opt_no (by decide) (by decide) (daysL_no (by decide) (by decide) (by decide) (by decide) _) q hq
  · exact opt_no (by decide) (by decide) (nums_no (by decide) (by decide) (by decide) _) q hq
  · exact opt_no (by decide) (by decide) (dayName_no (by decide) _) q hq
theorem freq_no {k : Nat} : (59 : UInt8) ∉ kFREQ ++ 61 :: freqName k := by
  simp only [List.mem_append, List.mem_cons, not_or]
  refine ⟨by decide, by decide, ?_⟩
  intro h; unfold freqName at h; split at h <;> (revert h; decide)

theorem rowB_bd {most : Int} {below : Bool} {l : List Int} (h : rowB most below l = true) (hm : 0 ≤ most ∧ most ≤ 1000) (x : Int) (hx : x ∈ l) : -1000000 ≤ x ∧ x ≤ 1000000 := by
  obtain ⟨i, hi, rfl⟩ := List.getElem_of_mem hx
  have := rowB_iff.1 h i hi
  unfold okN at this
  rw [List.getD_eq_getElem?_getD, List.getElem?_eq_getElem hi, Option.getD_some] at this
  omega
theorem daysB_bd {r : R} (h : daysB r = true) (d : Int × Int) (hd : d ∈ r.bw) : 0 ≤ d.2 ∧ d.2 ≤ 6 ∧ -5 ≤ d.1 ∧ d.1 ≤ 5 := by
  obtain ⟨i, hi, rfl⟩ := List.getElem_of_mem hd
  have := daysB_iff.1 h i hi
  unfold okD at this
  simp only [List.getD_eq_getElem?_getD, List.getElem?_eq_getElem hi, Option.getD_some] at this
  omega

/-- There and back. -/
theorem readF_text {r : R} (h : mayP r) : readF (textT r) = some r := by
  have hp : pcs 59 (textT r) = (kFREQ ++ 61 :: freqName r.freq.toNat) :: optsT r := by
    rw [textT_parts]; exact pcs_glue (optsT r) _ freq_no (optsT_no r)
  have key : foldP (pcs 59 (textT r)) r0 = some r := by
    rw [hp]
    obtain ⟨⟨f1, f2, i1, i2, c1, c2, s1, s2⟩, hu, ⟨hbm, hbd, hbs, hbw⟩, _, _⟩ := h
    have bbm := rowB_bd hbm (by omega)
    have bbd := rowB_bd hbd (by omega)
    have bbs := rowB_bd hbs (by omega)
    have bbw := daysB_bd hbw
    obtain ⟨fq, iv, ct, un, bm, bd, bw, bs, st⟩ := r
    simp only at *
    show (putP r0 (kFREQ ++ 61 :: freqName fq.toNat)).bind (foldP _) = _
    have e0 : putP r0 (kFREQ ++ 61 :: freqName fq.toNat) = some ⟨fq, 1, 0, -1, [], [], [], [], 0⟩ := by
      rw [putP_part (by decide), putN_freq, rdFreq_back (k := fq.toNat) (by omega) (by omega)]
      show some (R.mk _ _ _ _ _ _ _ _ _) = _
      rw [Int.toNat_of_nonneg (by omega)]; rfl
    rw [e0]
    show foldP (optsT _) _ = _
    unfold optsT
    simp only [foldP_app]
    have e1 : foldP (opt (decide (1 < iv)) kINTERVAL (decI iv)) ⟨fq, 1, 0, -1, [], [], [], [], 0⟩ = some ⟨fq, iv, 0, -1, [], [], [], [], 0⟩ := by
      refine fold_opt (by decide) (fun hb => ?_) (fun hb => ?_)
      · rw [putN_iv, rdIntV_decI iv (by omega)]; rfl
      · have : ¬ 1 < iv := by simpa using hb
        rw [show iv = 1 by omega]
    have e2 : foldP (opt (decide (0 < ct)) kCOUNT (decI ct)) ⟨fq, iv, 0, -1, [], [], [], [], 0⟩ = some ⟨fq, iv, ct, -1, [], [], [], [], 0⟩ := by
      refine fold_opt (by decide) (fun hb => ?_) (fun hb => ?_)
      · rw [putN_count, rdIntV_decI ct (by omega)]; rfl
      · have : ¬ 0 < ct := by simpa using hb
        rw [show ct = 0 by omega]
    have e3 : foldP (opt (decide (0 ≤ un)) kUNTIL (untilL un)) ⟨fq, iv, ct, -1, [], [], [], [], 0⟩ = some ⟨fq, iv, ct, un, [], [], [], [], 0⟩ := by
      refine fold_opt (by decide) (fun hb => ?_) (fun hb => ?_)
      · have : 0 ≤ un := by simpa using hb
        rw [putN_until, until_back (by omega) (by omega)]; rfl
      · have : ¬ 0 ≤ un := by simpa using hb
        rw [show un = -1 by omega]
    have e4 : foldP (opt (!bm.isEmpty) kBYMONTH (nums bm)) ⟨fq, iv, ct, un, [], [], [], [], 0⟩ = some ⟨fq, iv, ct, un, bm, [], [], [], 0⟩ := by
      refine fold_opt (by decide) (fun hb => ?_) (fun hb => ?_)
      · cases bm with
        | nil => simp at hb
        | cons x t => rw [putN_bm, nums_back x t bbm]; rfl
      · rw [show bm = [] by simpa using hb]
    have e5 : foldP (opt (!bd.isEmpty) kBYMONTHDAY (nums bd)) ⟨fq, iv, ct, un, bm, [], [], [], 0⟩ = some ⟨fq, iv, ct, un, bm, bd, [], [], 0⟩ := by
      refine fold_opt (by decide) (fun hb => ?_) (fun hb => ?_)
      · cases bd with
        | nil => simp at hb
        | cons x t => rw [putN_bd, nums_back x t bbd]; rfl
      · rw [show bd = [] by simpa using hb]
    have e6 : foldP (opt (!bw.isEmpty) kBYDAY (daysL bw)) ⟨fq, iv, ct, un, bm, bd, [], [], 0⟩ = some ⟨fq, iv, ct, un, bm, bd, bw, [], 0⟩ := by
      refine fold_opt (by decide) (fun hb => ?_) (fun hb => ?_)
      · cases bw with
        | nil => simp at hb
        | cons x t => rw [putN_bw, days_back x t bbw]; rfl
      · rw [show bw = [] by simpa using hb]
    have e7 : foldP (opt (!bs.isEmpty) kBYSETPOS (nums bs)) ⟨fq, iv, ct, un, bm, bd, bw, [], 0⟩ = some ⟨fq, iv, ct, un, bm, bd, bw, bs, 0⟩ := by
      refine fold_opt (by decide) (fun hb => ?_) (fun hb => ?_)
      · cases bs with
        | nil => simp at hb
        | cons x t => rw [putN_bs, nums_back x t bbs]; rfl
      · rw [show bs = [] by simpa using hb]
    have e8 : foldP (opt (decide (0 < st)) kWKST (dayName st.toNat)) ⟨fq, iv, ct, un, bm, bd, bw, bs, 0⟩ = some ⟨fq, iv, ct, un, bm, bd, bw, bs, st⟩ := by
      refine fold_opt (by decide) (fun hb => ?_) (fun hb => ?_)
      · rw [putN_wk, rdWk_back (k := st.toNat) (by omega)]
        show some (R.mk _ _ _ _ _ _ _ _ _) = _
        rw [Int.toNat_of_nonneg (by omega)]
      · have : ¬ 0 < st := by simpa using hb
        rw [show st = 0 by omega]
    rw [e1, Option.bind_some, e2, Option.bind_some, e3, Option.bind_some, e4, Option.bind_some, e5, Option.bind_some, e6, Option.bind_some, e7, Option.bind_some, e8]
  unfold readF
  rw [key]
  simp only [Option.bind_some]
  exact if_pos ⟨h, trivial⟩
theorem textT_inj {a b : R} (ha : mayP a) (hb : mayP b) (h : textT a = textT b) : a = b := by
  have e1 := readF_text ha
  rw [h, readF_text hb] at e1
  exact (Option.some.inj e1).symm

/-- How long rows may be. -/
theorem up_len {n : Nat} {f : Nat → Int} (h : ∀ i, i + 1 < n → f i < f (i + 1)) {lo hi : Int} (h0 : 0 < n → lo ≤ f 0) (h1 : 0 < n → f (n - 1) ≤ hi) : n = 0 ∨ (n : Int) ≤ hi - lo + 1 := by
  have step : ∀ i, i < n → f 0 + i ≤ f i := by
    intro i
    induction i with
    | zero => intro _; simp
    | succ i ih => intro hi; have := ih (by omega); have := h i (by omega); omega
  by_cases hn : n = 0
  · exact .inl hn
  · right
    have := step (n - 1) (by omega)
    have := h0 (by omega)
    have := h1 (by omega)
    omega
theorem rowB_len {most : Int} {below : Bool} {l : List Int} (h : rowB most below l = true) : l.length = 0 ∨ (l.length : Int) ≤ 2 * most + 1 := by
  have hok := rowB_iff.1 h
  have := up_len (n := l.length) (f := fun i => l.getD i 0) (lo := -most) (hi := most) (fun i hi => by
    have := (hok (i + 1) hi).2.2.2.2
    rcases this with h | h
    · omega
    · simpa using h) (fun h0 => (hok 0 h0).2.1) (fun h0 => (hok (l.length - 1) (by omega)).1)
  omega
theorem daysB_len {r : R} (h : daysB r = true) : r.bw.length ≤ 77 := by
  have hok := daysB_iff.1 h
  have := up_len (n := r.bw.length) (f := fun i => 7 * (r.bw.getD i (0, 0)).1 + (r.bw.getD i (0, 0)).2) (lo := -35) (hi := 41) (fun i hi => by
    have a := hok i (by omega)
    have b := hok (i + 1) hi
    unfold okD at a b
    simp only [Nat.add_sub_cancel] at a b
    omega) (fun h0 => by have a := hok 0 h0; unfold okD at a; simp only at a ⊢; omega) (fun h0 => by have a := hok (r.bw.length - 1) (by omega); unfold okD at a; simp only at a ⊢; omega)
  omega
theorem may_lens {r : R} (h : mayP r) : r.bm.length ≤ 25 ∧ r.bd.length ≤ 63 ∧ r.bw.length ≤ 77 ∧ r.bs.length ≤ 733 := by
  obtain ⟨_, _, ⟨h1, h2, h3, h4⟩, _, _⟩ := h
  have a := rowB_len h1
  have b := rowB_len h2
  have c := rowB_len h3
  have d := daysB_len h4
  omega

/-- One without rows, one without an end. -/
def lessR (r : R) : R := { r with bd := [], bw := [], bs := [] }
def openR (r : R) : R := { r with count := 0, until_ := -1 }
theorem may_less {r : R} (h : mayP r) : mayP (lessR r) := by
  obtain ⟨h1, h2, ⟨h3, _, _, _⟩, _, _⟩ := h
  exact ⟨h1, h2, ⟨h3, rfl, rfl, rfl⟩, .inr rfl, .inl rfl⟩
theorem may_open {r : R} (h : mayP r) : mayP (openR r) := by
  obtain ⟨⟨a1, a2, a3, a4, _, _, a7, a8⟩, _, h3, h4, h5⟩ := h
  exact ⟨⟨a1, a2, a3, a4, show (0 : Int) ≤ 0 by decide, show (0 : Int) ≤ 5000 by decide, a7, a8⟩, .inl rfl, h3, h4, h5⟩
theorem textT_lens (r : R) : (textT r).length = 5 + (freqName r.freq.toNat).length + (ivT r).length + (ctT r).length + (unT r).length + (prt [66, 89, 77, 79, 78, 84, 72] r.bm).length + (prt [66, 89, 77, 79, 78, 84, 72, 68, 65, 89] r.bd).length + (daysT r.bw).length + (prt [66, 89, 83, 69, 84, 80, 79, 83] r.bs).length + (wkT r).length := by
  unfold textT preT midT; simp; omega
theorem prt_zero {nm : List UInt8} {l : List Int} : (prt nm l).length = 0 ↔ l = [] := by
  unfold prt; split <;> simp_all
theorem daysT_zero {l : List (Int × Int)} : (daysT l).length = 0 ↔ l = [] := by
  cases l <;> simp [daysT]
theorem less_len {r : R} : (textT (lessR r)).length ≤ (textT r).length ∧ ((textT (lessR r)).length < (textT r).length ↔ lessR r ≠ r) := by
  have e : lessR r = r ↔ r.bd = [] ∧ r.bw = [] ∧ r.bs = [] := by
    obtain ⟨fq, iv, ct, un, bm, bd, bw, bs, st⟩ := r
    unfold lessR; simp only [R.mk.injEq, true_and, and_true]
    constructor
    · rintro ⟨h1, h2, h3⟩; exact ⟨h1.symm, h2.symm, h3.symm⟩
    · rintro ⟨h1, h2, h3⟩; exact ⟨h1.symm, h2.symm, h3.symm⟩
  have a := textT_lens r
  have b := textT_lens (lessR r)
  have z1 : (prt [66, 89, 77, 79, 78, 84, 72, 68, 65, 89] (lessR r).bd).length = 0 := rfl
  have z2 : (daysT (lessR r).bw).length = 0 := rfl
  have z3 : (prt [66, 89, 83, 69, 84, 80, 79, 83] (lessR r).bs).length = 0 := rfl
  have y1 := prt_zero (nm := [66, 89, 77, 79, 78, 84, 72, 68, 65, 89]) (l := r.bd)
  have y2 := daysT_zero (l := r.bw)
  have y3 := prt_zero (nm := [66, 89, 83, 69, 84, 80, 79, 83]) (l := r.bs)
  rw [z1, z2, z3] at b
  have c : (textT (lessR r)).length = 5 + (freqName r.freq.toNat).length + (ivT r).length + (ctT r).length + (unT r).length + (prt [66, 89, 77, 79, 78, 84, 72] r.bm).length + 0 + 0 + 0 + (wkT r).length := b
  rw [Ne, e, ← y1, ← y2, ← y3]
  omega
theorem open_len {r : R} (h : mayP r) : (textT (openR r)).length ≤ (textT r).length ∧ ((textT (openR r)).length < (textT r).length ↔ openR r ≠ r) := by
  obtain ⟨⟨_, _, _, _, c0, _, _, _⟩, hu, _, _, _⟩ := h
  have e : openR r = r ↔ r.count = 0 ∧ r.until_ = -1 := by
    obtain ⟨fq, iv, ct, un, bm, bd, bw, bs, st⟩ := r
    unfold openR; simp only [R.mk.injEq, true_and, and_true]
    constructor
    · rintro ⟨h1, h2⟩; exact ⟨h1.symm, h2.symm⟩
    · rintro ⟨h1, h2⟩; exact ⟨h1.symm, h2.symm⟩
  have a := textT_lens r
  have b := textT_lens (openR r)
  have c : (textT (openR r)).length = 5 + (freqName r.freq.toNat).length + (ivT r).length + 0 + 0 + (prt [66, 89, 77, 79, 78, 84, 72] r.bm).length + (prt [66, 89, 77, 79, 78, 84, 72, 68, 65, 89] r.bd).length + (daysT r.bw).length + (prt [66, 89, 83, 69, 84, 80, 79, 83] r.bs).length + (wkT r).length := b
  have y1 : (ctT r).length = 0 ↔ r.count = 0 := by
    unfold ctT; split
    · simp; omega
    · simp; omega
  have y2 : (unT r).length = 0 ↔ r.until_ = -1 := by
    unfold unT; split
    · unfold untilT; simp; omega
    · simp; omega
  rw [Ne, e, ← y1, ← y2]
  omega
end Qr
end

/- Plain mathematics of weekdays' texts. -/
section
namespace Ck
def nm : Nat → List UInt8
  | 0 => [109, 111]
  | 1 => [116, 117]
  | 2 => [119, 101]
  | 3 => [116, 104]
  | 4 => [102, 114]
  | 5 => [115, 97]
  | _ => [115, 117]
theorem nm_len (i : Nat) : (nm i).length = 2 := by unfold nm; split <;> rfl
/-- The names of those in a set, up to the i-th day, with commas. -/
def wdI (set : Int) : Nat → List UInt8
  | 0 => []
  | i + 1 => if set / 2 ^ i % 2 = 1 then (if wdI set i = [] then nm i else wdI set i ++ [44] ++ nm i) else wdI set i
theorem wd_len (set : Int) (i : Nat) : (wdI set i).length ≤ 3 * i := by
  induction i with
  | zero => exact Nat.le_refl _
  | succ i ih =>
    unfold wdI
    have := nm_len i
    split
    · split
      · omega
      · simp; omega
    · omega
def wdT (set : Int) : List UInt8 := if wdI set 7 = [] then [45] else wdI set 7
theorem div2_step (n : Int) (i : Nat) : n / 2 ^ i / 2 = n / 2 ^ (i + 1) := by
  rw [Int.pow_succ, Int.ediv_ediv_of_nonneg (by exact Int.le_of_lt (Int.pow_pos (by omega)))]
theorem div2_nn {n : Int} (h : 0 ≤ n) (i : Nat) : 0 ≤ n / 2 ^ i := Int.ediv_nonneg h (Int.le_of_lt (Int.pow_pos (by omega)))
theorem div2_le {n : Int} (h : 0 ≤ n) (i : Nat) : n / 2 ^ i ≤ n := Int.ediv_le_self _ h
end Ck
end

/- Plain mathematics of rows of minutes: a row in its form is told by its minutes; the document's rows by their edges. -/
section
namespace Sp
abbrev Spn := Int × Int
/-- Is a minute in a row? -/
def has (l : List Spn) (m : Int) : Prop := ∃ s ∈ l, s.1 ≤ m ∧ m < s.2
/-- Is a row in its form, all of it from lo on (behind, if it isn't the first one)? -/
def formFrom (lo : Int) : List Spn → Prop
  | [] => True
  | s :: r => lo < s.1 ∧ s.1 < s.2 ∧ formFrom s.2 r
def form : List Spn → Prop
  | [] => True
  | s :: r => s.1 < s.2 ∧ formFrom s.2 r
theorem formFrom_form {lo : Int} {l : List Spn} (h : formFrom lo l) : form l := by
  cases l with
  | nil => trivial
  | cons s r => exact ⟨h.2.1, h.2.2⟩
theorem formFrom_mono {lo lo' : Int} {l : List Spn} (h : formFrom lo l) (hl : lo' ≤ lo) : formFrom lo' l := by
  cases l with
  | nil => trivial
  | cons s r => exact ⟨by have := h.1; omega, h.2⟩
theorem has_nil (m : Int) : ¬ has [] m := by rintro ⟨s, hs, _⟩; cases hs
theorem has_cons (s : Spn) (r : List Spn) (m : Int) : has (s :: r) m ↔ (s.1 ≤ m ∧ m < s.2) ∨ has r m := by
  constructor
  · rintro ⟨t, ht, h⟩
    rcases List.mem_cons.1 ht with rfl | ht
    · exact .inl h
    · exact .inr ⟨t, ht, h⟩
  · rintro (h | ⟨t, ht, h⟩)
    · exact ⟨s, List.mem_cons_self, h⟩
    · exact ⟨t, List.mem_cons_of_mem _ ht, h⟩
theorem has_append (a b : List Spn) (m : Int) : has (a ++ b) m ↔ has a m ∨ has b m := by
  induction a with
  | nil => simp [has_nil]
  | cons s r ih => rw [List.cons_append, has_cons, has_cons, ih, or_assoc]
theorem has_above {lo : Int} {l : List Spn} (h : formFrom lo l) {m : Int} (hm : has l m) : lo < m := by
  induction l generalizing lo with
  | nil => exact absurd hm (has_nil m)
  | cons s r ih =>
    rcases (has_cons s r m).1 hm with h1 | h1
    · have := h.1; omega
    · have := ih h.2.2 h1
      have := h.1
      have := h.2.1
      omega
/-- A row in its form is told by its minutes. -/
theorem form_unique : ∀ (a b : List Spn), form a → form b → (∀ m, has a m ↔ has b m) → a = b
  | [], [], _, _, _ => rfl
  | [], s :: r, _, hb, h => absurd ((h s.1).2 ((has_cons s r s.1).2 (.inl ⟨Int.le_refl _, hb.1⟩))) (has_nil _)
  | s :: r, [], ha, _, h => absurd ((h s.1).1 ((has_cons s r s.1).2 (.inl ⟨Int.le_refl _, ha.1⟩))) (has_nil _)
  | s :: r, t :: q, ha, hb, h => by
    have fs : s.1 ≤ t.1 := by
      have := (h t.1).2 ((has_cons t q t.1).2 (.inl ⟨Int.le_refl _, hb.1⟩))
      rcases (has_cons s r t.1).1 this with h1 | h1
      · exact h1.1
      · have := has_above ha.2 h1; have := ha.1; omega
    have ft : t.1 ≤ s.1 := by
      have := (h s.1).1 ((has_cons s r s.1).2 (.inl ⟨Int.le_refl _, ha.1⟩))
      rcases (has_cons t q s.1).1 this with h1 | h1
      · exact h1.1
      · have := has_above hb.2 h1; have := hb.1; omega
    have e1 : s.1 = t.1 := by omega
    have key : ∀ (s t : Spn) (r q : List Spn), s.1 < s.2 → formFrom s.2 r → t.1 < t.2 → formFrom t.2 q → s.1 = t.1 → (∀ m, has (s :: r) m → has (t :: q) m) → s.2 ≤ t.2 := by
      intro s t r q a1 a2 b1 b2 e hh
      rcases Int.lt_or_le t.2 s.2 with h1 | h1
      · have := hh t.2 ((has_cons s r t.2).2 (.inl ⟨by omega, h1⟩))
        rcases (has_cons t q t.2).1 this with h2 | h2
        · omega
        · have := has_above b2 h2; omega
      · exact h1
    have e2 : s.2 = t.2 := by
      have x := key s t r q ha.1 ha.2 hb.1 hb.2 e1 (fun m => (h m).1)
      have y := key t s q r hb.1 hb.2 ha.1 ha.2 e1.symm (fun m => (h m).2)
      omega
    have es : s = t := Prod.ext e1 e2
    subst es
    congr 1
    refine form_unique r q (formFrom_form ha.2) (formFrom_form hb.2) fun m => ?_
    constructor
    · intro hm
      have hl := has_above ha.2 hm
      rcases (has_cons s q m).1 ((h m).1 ((has_cons s r m).2 (.inr hm))) with h1 | h1
      · omega
      · exact h1
    · intro hm
      have hl := has_above hb.2 hm
      rcases (has_cons s r m).1 ((h m).2 ((has_cons s q m).2 (.inr hm))) with h1 | h1
      · omega
      · exact h1

/-- Rising, all behind lo. -/
def risesFrom (lo : Int) : List Int → Prop
  | [] => True
  | x :: r => lo < x ∧ risesFrom x r
def rises : List Int → Prop
  | [] => True
  | x :: r => risesFrom x r
/-- A row of those pieces between edges of which it is said. -/
def bld (p : Int → Bool) : List Int → List Spn
  | [] => []
  | [_] => []
  | x :: y :: r =>
    if p x then
      match bld p (y :: r) with
      | [] => [(x, y)]
      | s :: q => if s.1 = y then (x, s.2) :: q else (x, y) :: s :: q
    else bld p (y :: r)
theorem bld_start (p : Int → Bool) : ∀ (e : List Int) (x : Int), risesFrom x e → form (bld p (x :: e)) ∧ ∀ s ∈ (bld p (x :: e)).head?, x ≤ s.1
  | [], x, _ => ⟨trivial, by intro s hs; cases hs⟩
  | y :: r, x, h => by
    obtain ⟨ih1, ih2⟩ := bld_start p r y h.2
    have hxy := h.1
    rw [show bld p (x :: y :: r) = if p x then (match bld p (y :: r) with | [] => [(x, y)] | s :: q => if s.1 = y then (x, s.2) :: q else (x, y) :: s :: q) else bld p (y :: r) from rfl]
    by_cases hp : p x = true
    · rw [if_pos hp]
      cases hb : bld p (y :: r) with
      | nil => exact ⟨⟨hxy, trivial⟩, by intro s hs; simp at hs; subst hs; exact Int.le_refl _⟩
      | cons s q =>
        rw [hb] at ih1 ih2
        have hs := ih2 s (by simp)
        simp only
        by_cases he : s.1 = y
        · rw [if_pos he]
          refine ⟨⟨by have := ih1.1; show x < s.2; omega, ih1.2⟩, by intro t ht; simp at ht; subst ht; exact Int.le_refl _⟩
        · rw [if_neg he]
          refine ⟨⟨hxy, ⟨by show y < s.1; omega, ih1.1, ih1.2⟩⟩, by intro t ht; simp at ht; subst ht; exact Int.le_refl _⟩
    · rw [if_neg hp]
      exact ⟨ih1, fun s hs => by have := ih2 s hs; omega⟩
theorem bld_has (p : Int → Bool) : ∀ (e : List Int) (x : Int), risesFrom x e → ∀ m, has (bld p (x :: e)) m ↔ ∃ a b, (∃ l r, x :: e = l ++ a :: b :: r) ∧ p a = true ∧ a ≤ m ∧ m < b
  | [], x, _, m => by
    constructor
    · intro h; exact absurd h (has_nil m)
    · rintro ⟨a, b, ⟨l, r, h⟩, _⟩
      have := congrArg List.length h
      simp at this
      omega
  | y :: r, x, h, m => by
    have ih := bld_has p r y h.2 m
    have hs := bld_start p r y h.2
    have split : (∃ a b, (∃ l q, x :: y :: r = l ++ a :: b :: q) ∧ p a = true ∧ a ≤ m ∧ m < b) ↔ (p x = true ∧ x ≤ m ∧ m < y) ∨ ∃ a b, (∃ l q, y :: r = l ++ a :: b :: q) ∧ p a = true ∧ a ≤ m ∧ m < b := by
      constructor
      · rintro ⟨a, b, ⟨l, q, e⟩, hp⟩
        cases l with
        | nil =>
          simp only [List.nil_append, List.cons.injEq] at e
          obtain ⟨rfl, rfl, _⟩ := e
          exact .inl hp
        | cons z l =>
          simp only [List.cons_append, List.cons.injEq] at e
          exact .inr ⟨a, b, ⟨l, q, e.2⟩, hp⟩
      · rintro (hp | ⟨a, b, ⟨l, q, e⟩, hp⟩)
        · exact ⟨x, y, ⟨[], r, rfl⟩, hp⟩
        · exact ⟨a, b, ⟨x :: l, q, by rw [e]; rfl⟩, hp⟩
    rw [split, ← ih]
    rw [show bld p (x :: y :: r) = if p x then (match bld p (y :: r) with | [] => [(x, y)] | s :: q => if s.1 = y then (x, s.2) :: q else (x, y) :: s :: q) else bld p (y :: r) from rfl]
    have hxy := h.1
    by_cases hp : p x = true
    · rw [if_pos hp]
      cases hb : bld p (y :: r) with
      | nil => simp [has_cons, has_nil, hp]
      | cons s q =>
        rw [hb] at hs
        simp only
        by_cases he : s.1 = y
        · rw [if_pos he, has_cons, has_cons]
          have := hs.1.1
          simp only [hp, true_and]
          constructor
          · rintro (h1 | h1)
            · by_cases h2 : m < y
              · exact .inl ⟨h1.1, h2⟩
              · exact .inr (.inl ⟨by omega, h1.2⟩)
            · exact .inr (.inr h1)
          · rintro (h1 | h1 | h1)
            · exact .inl ⟨h1.1, by omega⟩
            · exact .inl ⟨by omega, h1.2⟩
            · exact .inr h1
        · rw [if_neg he, has_cons]; simp [hp]
    · rw [if_neg hp]; simp [hp]
/-- Where the edges are all ends of a row, whether a minute is in it is told by the edge ahead of it. -/
theorem piece {s : Spn} {e l r : List Int} {x a b m : Int} (he : x :: e = l ++ a :: b :: r) (hr : risesFrom x e) (h1 : s.1 ∈ x :: e) (h2 : s.2 ∈ x :: e) (ha : a ≤ m) (hb : m < b) : (s.1 ≤ a ∧ a < s.2) ↔ (s.1 ≤ m ∧ m < s.2) := by
  have side : ∀ z, z ∈ x :: e → z ≤ a ∨ b ≤ z := by
    clear h1 h2 ha hb
    induction l generalizing x e with
    | nil =>
      intro z hz
      simp only [List.nil_append, List.cons.injEq] at he
      obtain ⟨rfl, rfl⟩ := he
      rcases List.mem_cons.1 hz with rfl | hz
      · exact .inl (Int.le_refl _)
      · right
        rcases List.mem_cons.1 hz with rfl | hz
        · exact Int.le_refl _
        · exact Int.le_of_lt (above hr.2 z hz)
    | cons y l ih =>
      intro z hz
      simp only [List.cons_append, List.cons.injEq] at he
      obtain ⟨rfl, he⟩ := he
      cases e with
      | nil => cases l <;> simp at he
      | cons y e =>
        rcases List.mem_cons.1 hz with rfl | hz
        · left
          have : a ∈ y :: e := by rw [he]; simp
          exact Int.le_of_lt (above hr a this)
        · exact ih he hr.2 z hz
  rcases side s.1 h1 with p | p <;> rcases side s.2 h2 with q | q <;> omega
where
  above {x : Int} {e : List Int} (h : risesFrom x e) : ∀ z ∈ e, x < z := by
    induction e generalizing x with
    | nil => intro z hz; cases hz
    | cons y e ih =>
      intro z hz
      rcases List.mem_cons.1 hz with rfl | hz
      · exact h.1
      · have := ih h.2 z hz; have := h.1; omega
end Sp
end

/- Plain mathematics of the document's rows: edges, pairs; how many minutes. -/
section
namespace Sp
def hasB (l : List Spn) (m : Int) : Bool := l.any fun s => decide (s.1 ≤ m) && decide (m < s.2)
theorem hasB_iff (l : List Spn) (m : Int) : hasB l m = true ↔ has l m := by
  unfold hasB has
  rw [List.any_eq_true]
  constructor
  · rintro ⟨s, hs, h⟩; exact ⟨s, hs, by simpa using h⟩
  · rintro ⟨s, hs, h⟩; exact ⟨s, hs, by simpa using h⟩
/-- A number among others, rising, each once. -/
def putI : List Int → Int → List Int
  | [], n => [n]
  | x :: r, n => if x < n then x :: putI r n else if x = n then x :: r else n :: x :: r
theorem put_mem (l : List Int) (n z : Int) : z ∈ putI l n ↔ z = n ∨ z ∈ l := by
  induction l with
  | nil => simp [putI]
  | cons x r ih =>
    unfold putI
    split
    · rw [List.mem_cons, ih, List.mem_cons]
      constructor
      · rintro (h | h | h)
        · exact .inr (.inl h)
        · exact .inl h
        · exact .inr (.inr h)
      · rintro (h | h | h)
        · exact .inr (.inl h)
        · exact .inl h
        · exact .inr (.inr h)
    · split
      · rename_i h; subst h; simp
      · simp
theorem put_from (l : List Int) (n lo : Int) (h : risesFrom lo l) (hn : lo < n) : risesFrom lo (putI l n) := by
  induction l generalizing lo with
  | nil => exact ⟨hn, trivial⟩
  | cons x r ih =>
    unfold putI
    split
    · rename_i hx; exact ⟨h.1, ih x h.2 hx⟩
    · split
      · exact h
      · exact ⟨hn, by omega, h.2⟩
theorem put_rises (l : List Int) (n : Int) (h : rises l) : rises (putI l n) := by
  cases l with
  | nil => exact trivial
  | cons x r =>
    unfold putI
    split
    · rename_i hx; exact put_from r n x h hx
    · split
      · exact h
      · exact ⟨by omega, h⟩
def edgS (l : List Int) (s : Spn) : List Int := putI (putI l s.1) s.2
def edg (l : List Int) (a : List Spn) : List Int := a.foldl edgS l
theorem edg_rises (a : List Spn) : ∀ l, rises l → rises (edg l a) := by
  induction a with
  | nil => intro l h; exact h
  | cons s a ih => intro l h; exact ih _ (put_rises _ _ (put_rises _ _ h))
theorem edg_mem (a : List Spn) : ∀ l z, z ∈ edg l a ↔ z ∈ l ∨ ∃ s ∈ a, z = s.1 ∨ z = s.2 := by
  induction a with
  | nil => intro l z; simp [edg]
  | cons s a ih =>
    intro l z
    rw [show edg l (s :: a) = edg (edgS l s) a from rfl, ih]
    unfold edgS
    rw [put_mem, put_mem]
    constructor
    · rintro ((h | h | h) | ⟨t, ht, h⟩)
      · exact .inr ⟨s, List.mem_cons_self, .inr h⟩
      · exact .inr ⟨s, List.mem_cons_self, .inl h⟩
      · exact .inl h
      · exact .inr ⟨t, List.mem_cons_of_mem _ ht, h⟩
    · rintro (h | ⟨t, ht, h⟩)
      · exact .inl (.inr (.inr h))
      · rcases List.mem_cons.1 ht with rfl | ht
        · rcases h with h | h
          · exact .inl (.inr (.inl h))
          · exact .inl (.inl h)
        · exact .inr ⟨t, ht, h⟩
/-- The edges of two rows. -/
def edges (a b : List Spn) : List Int := edg (edg [] a) b
theorem edges_rises (a b : List Spn) : rises (edges a b) := edg_rises b _ (edg_rises a [] trivial)
theorem edges_mem (a b : List Spn) (z : Int) : z ∈ edges a b ↔ ∃ s, (s ∈ a ∨ s ∈ b) ∧ (z = s.1 ∨ z = s.2) := by
  unfold edges
  rw [edg_mem, edg_mem]
  constructor
  · rintro ((h | ⟨s, hs, h⟩) | ⟨s, hs, h⟩)
    · cases h
    · exact ⟨s, .inl hs, h⟩
    · exact ⟨s, .inr hs, h⟩
  · rintro ⟨s, hs | hs, h⟩
    · exact .inl (.inr ⟨s, hs, h⟩)
    · exact .inr ⟨s, hs, h⟩
/-- Of two rows, by what is said of a minute in the one, and in the other. -/
def pair (c : Bool → Bool → Bool) (a b : List Spn) : List Spn := bld (fun z => c (hasB a z) (hasB b z)) (edges a b)
theorem pair_form (c : Bool → Bool → Bool) (a b : List Spn) : form (pair c a b) := by
  unfold pair
  have h := edges_rises a b
  cases he : edges a b with
  | nil => trivial
  | cons x e => rw [he] at h; exact (bld_start _ e x h).1
/-- Between two edges that follow each other lies every minute that has one at or ahead of it, and one behind it. -/
theorem bracket : ∀ (e : List Int) (x m q : Int), risesFrom x e → x ≤ m → q ∈ x :: e → m < q → ∃ a b, (∃ l r, x :: e = l ++ a :: b :: r) ∧ a ≤ m ∧ m < b
  | [], x, m, q, _, h1, hq, h2 => by
    rcases List.mem_cons.1 hq with rfl | hq
    · omega
    · cases hq
  | y :: r, x, m, q, h, h1, hq, h2 => by
    rcases Int.lt_or_le m y with hy | hy
    · exact ⟨x, y, ⟨[], r, rfl⟩, h1, hy⟩
    · have hq' : q ∈ y :: r := by
        rcases List.mem_cons.1 hq with rfl | hq
        · omega
        · exact hq
      obtain ⟨a, b, ⟨l, r', e⟩, h3⟩ := bracket r y m q h.2 hy hq' h2
      exact ⟨a, b, ⟨x :: l, r', by rw [e]; rfl⟩, h3⟩
theorem low_first {x p : Int} {e : List Int} (h : risesFrom x e) (hp : p ∈ x :: e) : x ≤ p := by
  rcases List.mem_cons.1 hp with rfl | hp
  · exact Int.le_refl _
  · exact Int.le_of_lt (piece.above (a := 0) (b := 0) (m := 0) h p hp)
theorem pair_has (c : Bool → Bool → Bool) (hc : c false false = false) (a b : List Spn) (m : Int) : has (pair c a b) m ↔ c (hasB a m) (hasB b m) = true := by
  have hr := edges_rises a b
  have hm := edges_mem a b
  unfold pair
  cases he : edges a b with
  | nil =>
    have no : ∀ l : List Spn, (∀ s ∈ l, s ∈ a ∨ s ∈ b) → hasB l m = false := by
      intro l hl
      cases h : hasB l m with
      | false => rfl
      | true =>
        obtain ⟨s, hs, _⟩ := (hasB_iff l m).1 h
        have := (hm s.1).2 ⟨s, hl s hs, .inl rfl⟩
        rw [he] at this; cases this
    rw [no a (fun s hs => .inl hs), no b (fun s hs => .inr hs), hc]
    simp [bld, has_nil]
  | cons x e =>
    rw [he] at hr hm
    rw [bld_has _ e x hr]
    have told : ∀ (l : List Spn), (∀ s ∈ l, s ∈ a ∨ s ∈ b) → ∀ (u v : Int), (∃ p q, x :: e = p ++ u :: v :: q) → u ≤ m → m < v → hasB l u = hasB l m := by
      rintro l hl u v ⟨p, q, hpq⟩ h1 h2
      rw [Bool.eq_iff_iff, hasB_iff, hasB_iff]
      constructor
      · rintro ⟨s, hs, h⟩
        exact ⟨s, hs, (piece hpq hr ((hm s.1).2 ⟨s, hl s hs, .inl rfl⟩) ((hm s.2).2 ⟨s, hl s hs, .inr rfl⟩) h1 h2).1 h⟩
      · rintro ⟨s, hs, h⟩
        exact ⟨s, hs, (piece hpq hr ((hm s.1).2 ⟨s, hl s hs, .inl rfl⟩) ((hm s.2).2 ⟨s, hl s hs, .inr rfl⟩) h1 h2).2 h⟩
    constructor
    · rintro ⟨u, v, hpq, hp, h1, h2⟩
      rw [← told a (fun s hs => .inl hs) u v hpq h1 h2, ← told b (fun s hs => .inr hs) u v hpq h1 h2]
      exact hp
    · intro h
      have any : ∃ s, (s ∈ a ∨ s ∈ b) ∧ s.1 ≤ m ∧ m < s.2 := by
        cases h1 : hasB a m with
        | true => obtain ⟨s, hs, h2⟩ := (hasB_iff a m).1 h1; exact ⟨s, .inl hs, h2⟩
        | false =>
          cases h3 : hasB b m with
          | true => obtain ⟨s, hs, h2⟩ := (hasB_iff b m).1 h3; exact ⟨s, .inr hs, h2⟩
          | false => rw [h1, h3, hc] at h; cases h
      obtain ⟨s, hs, h1, h2⟩ := any
      have m1 := (hm s.1).2 ⟨s, hs, .inl rfl⟩
      have m2 := (hm s.2).2 ⟨s, hs, .inr rfl⟩
      obtain ⟨u, v, hpq, h3, h4⟩ := bracket e x m s.2 hr (by have := low_first hr m1; omega) m2 h2
      refine ⟨u, v, hpq, ?_, h3, h4⟩
      rw [told a (fun s hs => .inl hs) u v hpq h3 h4, told b (fun s hs => .inr hs) u v hpq h3 h4]
      exact h

/-- How many minutes from lo on, of n, are such. -/
def cntN (p : Int → Bool) (lo : Int) : Nat → Nat
  | 0 => 0
  | n + 1 => cntN p lo n + (if p (lo + n) then 1 else 0)
theorem cnt_pt {p q r s : Int → Bool} (h : ∀ m, (if p m then 1 else 0) + (if q m then 1 else 0) = (if r m then 1 else 0) + (if s m then (1 : Nat) else 0)) (lo : Int) (n : Nat) : cntN p lo n + cntN q lo n = cntN r lo n + cntN s lo n := by
  induction n with
  | zero => rfl
  | succ n ih =>
    have := h (lo + n)
    unfold cntN
    omega
theorem cnt_congr {p q : Int → Bool} {lo : Int} {n : Nat} (h : ∀ m, lo ≤ m → m < lo + n → p m = q m) : cntN p lo n = cntN q lo n := by
  induction n with
  | zero => rfl
  | succ n ih =>
    unfold cntN
    rw [ih (fun m h1 h2 => h m h1 (by omega)), h (lo + n) (by omega) (by omega)]
theorem cnt_none {p : Int → Bool} {lo : Int} {n : Nat} (h : ∀ m, lo ≤ m → m < lo + n → p m = false) : cntN p lo n = 0 := by
  induction n with
  | zero => rfl
  | succ n ih => unfold cntN; rw [ih (fun m h1 h2 => h m h1 (by omega)), h (lo + n) (by omega) (by omega)]; rfl
theorem cnt_all {p : Int → Bool} {lo : Int} {n : Nat} (h : ∀ m, lo ≤ m → m < lo + n → p m = true) : cntN p lo n = n := by
  induction n with
  | zero => rfl
  | succ n ih => unfold cntN; rw [ih (fun m h1 h2 => h m h1 (by omega)), h (lo + n) (by omega) (by omega)]; rfl
theorem cnt_add (p : Int → Bool) (lo : Int) (a b : Nat) : cntN p lo (a + b) = cntN p lo a + cntN p (lo + a) b := by
  induction b with
  | zero => rfl
  | succ b ih =>
    rw [show cntN p lo (a + (b + 1)) = cntN p lo (a + b) + (if p (lo + ((a + b : Nat) : Int)) then 1 else 0) from rfl, show cntN p (lo + a) (b + 1) = cntN p (lo + a) b + (if p (lo + a + b) then 1 else 0) from rfl]
    rw [ih, show lo + (a : Int) + b = lo + ((a + b : Nat) : Int) by omega]
    omega
/-- The minutes of a row's spans. -/
def len : List Spn → Int
  | [] => 0
  | s :: r => (s.2 - s.1) + len r
theorem len_nn {l : List Spn} (h : form l) : 0 ≤ len l := by
  induction l with
  | nil => exact Int.le_refl _
  | cons s r ih =>
    have := ih (formFrom_form h.2)
    have := h.1
    unfold len; omega
/-- A row in its form has as many minutes as its spans have, in any window that holds it. -/
theorem len_cnt : ∀ (l : List Spn) (lo : Int) (n : Nat), form l → (∀ s ∈ l, lo ≤ s.1 ∧ s.2 ≤ lo + n) → len l = cntN (hasB l) lo n
  | [], lo, n, _, _ => by
    have : cntN (hasB []) lo n = 0 := cnt_none (fun m _ _ => rfl)
    rw [this]; rfl
  | s :: r, lo, n, h, hb => by
    have h1 := h.1
    have h0 := hb s List.mem_cons_self
    obtain ⟨a, ha⟩ : ∃ a : Nat, s.1 = lo + a := ⟨(s.1 - lo).toNat, by omega⟩
    obtain ⟨b, hbb⟩ : ∃ b : Nat, s.2 = s.1 + b := ⟨(s.2 - s.1).toNat, by omega⟩
    obtain ⟨c, hc⟩ : ∃ c : Nat, n = a + b + c := ⟨n - (a + b), by omega⟩
    have ih := len_cnt r s.2 c (formFrom_form h.2) (fun t ht => by
      have := hb t (List.mem_cons_of_mem _ ht)
      have h2 : s.2 ≤ t.1 := by
        have : has r t.1 := ⟨t, ht, Int.le_refl _, by
          have : ∀ (l : List Spn) (lo : Int), formFrom lo l → ∀ t ∈ l, t.1 < t.2 := by
            intro l
            induction l with
            | nil => intro lo _ t ht; cases ht
            | cons u l ih =>
              intro lo hf t ht
              rcases List.mem_cons.1 ht with rfl | ht
              · exact hf.2.1
              · exact ih u.2 hf.2.2 t ht
          exact this r s.2 h.2 t ht⟩
        exact Int.le_of_lt (has_above h.2 this)
      omega)
    subst hc
    rw [cnt_add, cnt_add]
    have e1 : cntN (hasB (s :: r)) lo a = 0 := cnt_none fun m h2 h3 => by
      cases hh : hasB (s :: r) m with
      | false => rfl
      | true =>
        rcases (has_cons s r m).1 ((hasB_iff _ _).1 hh) with h4 | h4
        · omega
        · have := has_above h.2 h4; omega
    have e2 : cntN (hasB (s :: r)) (lo + a) b = b := cnt_all fun m h2 h3 => (hasB_iff _ _).2 ((has_cons s r m).2 (.inl ⟨by omega, by omega⟩))
    have e3 : cntN (hasB (s :: r)) (lo + ((a + b : Nat) : Int)) c = cntN (hasB r) s.2 c := by
      rw [show lo + ((a + b : Nat) : Int) = s.2 by omega]
      refine cnt_congr fun m h2 h3 => ?_
      rw [Bool.eq_iff_iff, hasB_iff, hasB_iff, has_cons]
      constructor
      · rintro (h4 | h4)
        · omega
        · exact h4
      · exact .inr
    rw [e1, e2, e3]
    unfold len
    rw [ih]
    omega
end Sp
end
