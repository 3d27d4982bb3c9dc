/- Plain mathematics of zones: what is added at a minute, the next turn, and of which minutes a local time comes. -/
namespace Zn

/-- A zone as plain data: what is added at first, how many turns, when each is, and what is added from it on. -/
structure Z where
  base : Int
  n : Nat
  t : Nat → Int
  o : Nat → Int

def okT (z : Z) (i : Nat) : Prop := -900 ≤ z.o i ∧ z.o i ≤ 900 ∧ 0 ≤ z.t i ∧ z.t i ≤ 158310720 ∧ (0 < i → 2880 ≤ z.t i - z.t (i - 1))
instance (z : Z) (i : Nat) : Decidable (okT z i) := by unfold okT; infer_instance
def mayP (z : Z) : Prop := -900 ≤ z.base ∧ z.base ≤ 900 ∧ z.n ≤ 700 ∧ ∀ i, i < z.n → okT z i
instance (z : Z) : Decidable (mayP z) := by unfold mayP; infer_instance
def mayB (z : Z) : Bool := decide (mayP z)
theorem may_iff {z : Z} : mayB z = true ↔ mayP z := by unfold mayB; exact decide_eq_true_iff
theorem may_no {z : Z} : mayB z = false ↔ ¬ mayP z := by unfold mayB; exact decide_eq_false_iff_not

/-- What is added ahead of the turn at a place. -/
def ah (z : Z) : Nat → Int
  | 0 => z.base
  | p + 1 => z.o p
/-- What is added at a minute, over the first k turns. -/
def offTo (z : Z) (u : Int) : Nat → Int
  | 0 => z.base
  | k + 1 => if z.t k ≤ u then z.o k else offTo z u k
def off (z : Z) (u : Int) : Int := offTo z u z.n

/-- The first place below n at which p says yes; n, if there is none. -/
def first (p : Nat → Bool) : Nat → Nat
  | 0 => 0
  | n + 1 => if first p n < n then first p n else if p n = true then n else n + 1
theorem first_le (p : Nat → Bool) (n : Nat) : first p n ≤ n := by
  induction n with
  | zero => exact Nat.le_refl _
  | succ n ih => unfold first; split <;> (try split) <;> omega
theorem first_no (p : Nat → Bool) (n : Nat) : ∀ i, i < first p n → p i = false := by
  induction n with
  | zero => intro i h; exact absurd h (Nat.not_lt_zero _)
  | succ n ih =>
    intro i h
    have hl := first_le p n
    unfold first at h
    split at h
    · exact ih i h
    · split at h
      · exact ih i (by omega)
      · rename_i h1 h2
        by_cases e : i = n
        · subst e; simpa using h2
        · exact ih i (by omega)
theorem first_yes (p : Nat → Bool) (n : Nat) : first p n < n → p (first p n) = true := by
  induction n with
  | zero => intro h; exact absurd h (Nat.not_lt_zero _)
  | succ n ih =>
    intro h
    have e : first p (n + 1) = if first p n < n then first p n else if p n = true then n else n + 1 := rfl
    rw [e] at h ⊢
    split
    · exact ih (by assumption)
    · rename_i h1
      rw [if_neg h1] at h
      split
      · assumption
      · rename_i h2; rw [if_neg h2] at h; omega
theorem first_eq {p : Nat → Bool} {n q : Nat} (hq : q ≤ n) (h0 : ∀ i, i < q → p i = false) (h1 : q < n → p q = true) : first p n = q := by
  have hl := first_le p n
  rcases Nat.lt_trichotomy (first p n) q with h | h | h
  · have a := first_yes p n (by omega); rw [h0 _ h] at a; cases a
  · exact h
  · have a := first_no p n q h; rw [h1 (by omega)] at a; cases a

def fb (z : Z) (u : Int) : Nat := first (fun i => decide (u < z.t i)) z.n
theorem fb_le (z : Z) (u : Int) : fb z u ≤ z.n := first_le _ _
theorem fb_no {z : Z} {u : Int} {i : Nat} (h : i < fb z u) : z.t i ≤ u := by have := first_no _ _ i h; simpa using this
theorem fb_yes {z : Z} {u : Int} (h : fb z u < z.n) : u < z.t (fb z u) := of_decide_eq_true (first_yes _ _ h)
theorem fb_eq {z : Z} {u : Int} {q : Nat} (hq : q ≤ z.n) (h0 : ∀ i, i < q → z.t i ≤ u) (h1 : q < z.n → u < z.t q) : fb z u = q :=
  first_eq hq (fun i h => by have := h0 i h; simp; omega) (fun h => by have := h1 h; simpa using this)

theorem gap {z : Z} (hz : mayP z) {i : Nat} (d : Nat) (h : i + d + 1 < z.n) : 2880 ≤ z.t (i + d + 1) - z.t i := by
  induction d with
  | zero => have := (hz.2.2.2 (i + 1) (by omega)).2.2.2.2 (by omega); simpa using this
  | succ d ih =>
    have a := ih (by omega)
    have b := (hz.2.2.2 (i + (d + 1) + 1) (by omega)).2.2.2.2 (by omega)
    have e : i + (d + 1) + 1 - 1 = i + d + 1 := by omega
    rw [e] at b
    omega
theorem gap' {z : Z} (hz : mayP z) {i j : Nat} (h : i < j) (hj : j < z.n) : 2880 ≤ z.t j - z.t i := by
  have a := gap hz (i := i) (j - i - 1) (by omega)
  have e : i + (j - i - 1) + 1 = j := by omega
  rwa [e] at a
theorem fb_all {z : Z} (hz : mayP z) {u : Int} {i : Nat} (h : fb z u ≤ i) (hi : i < z.n) : u < z.t i := by
  have a := fb_yes (z := z) (u := u) (by omega)
  by_cases e : fb z u = i
  · rw [e] at a; exact a
  · have := gap' hz (i := fb z u) (j := i) (by omega) hi; omega

theorem ah_bd {z : Z} (hz : mayP z) (p : Nat) (hp : p ≤ z.n) : -900 ≤ ah z p ∧ ah z p ≤ 900 := by
  cases p with
  | zero => exact ⟨hz.1, hz.2.1⟩
  | succ p => have := hz.2.2.2 p (by omega); exact ⟨this.1, this.2.1⟩
theorem o_bd {z : Z} (hz : mayP z) {p : Nat} (hp : p < z.n) : -900 ≤ z.o p ∧ z.o p ≤ 900 := by
  have := hz.2.2.2 p hp; exact ⟨this.1, this.2.1⟩
theorem t_bd {z : Z} (hz : mayP z) {p : Nat} (hp : p < z.n) : 0 ≤ z.t p ∧ z.t p ≤ 158310720 := by
  have := hz.2.2.2 p hp; exact ⟨this.2.2.1, this.2.2.2.1⟩

theorem offTo_eq {z : Z} {u : Int} (q : Nat) (h0 : ∀ i, i < q → z.t i ≤ u) : ∀ k, q ≤ k → (∀ i, q ≤ i → i < k → u < z.t i) → offTo z u k = ah z q := by
  intro k
  induction k with
  | zero =>
    intro hq _
    obtain rfl : q = 0 := by omega
    rfl
  | succ k ih =>
    intro hq h1
    unfold offTo
    by_cases e : q = k + 1
    · subst e
      rw [if_pos (h0 k (by omega))]; rfl
    · have a := h1 k (by omega) (by omega)
      rw [if_neg (by omega)]
      exact ih (by omega) (fun i a b => h1 i a (by omega))
theorem off_eq {z : Z} (hz : mayP z) (u : Int) : off z u = ah z (fb z u) :=
  offTo_eq (fb z u) (fun _ h => fb_no h) z.n (fb_le z u) (fun _ a b => fb_all hz a b)
theorem off_bd {z : Z} (hz : mayP z) (u : Int) : -900 ≤ off z u ∧ off z u ≤ 900 := by
  rw [off_eq hz]; exact ah_bd hz _ (fb_le z u)

/-- Whether a local time isn't behind the turn at a place by both clocks. -/
def npB (z : Z) (l : Int) (i : Nat) : Bool := decide (l < z.t i + ah z i) || decide (l < z.t i + z.o i)
def np (z : Z) (l : Int) : Nat := first (npB z l) z.n
theorem np_le (z : Z) (l : Int) : np z l ≤ z.n := first_le _ _
theorem np_no {z : Z} {l : Int} {i : Nat} (h : i < np z l) : z.t i + ah z i ≤ l ∧ z.t i + z.o i ≤ l := by
  have := first_no _ _ i h; unfold npB at this; simp at this; omega
theorem np_yes {z : Z} {l : Int} (h : np z l < z.n) : l < z.t (np z l) + ah z (np z l) ∨ l < z.t (np z l) + z.o (np z l) := by
  have a : npB z l (np z l) = true := first_yes (npB z l) _ h
  unfold npB at a
  simpa using a
theorem np_all {z : Z} (hz : mayP z) {l : Int} {i : Nat} (h : np z l ≤ i) (hi : i < z.n) : npB z l i = true := by
  have a := np_yes (z := z) (l := l) (by omega)
  unfold npB
  by_cases e : np z l = i
  · rw [e] at a; simpa using a
  · have g := gap' hz (i := np z l) (j := i) (by omega) hi
    have b := ah_bd hz (np z l) (by omega)
    have c := o_bd hz (p := np z l) (by omega)
    have d := o_bd hz hi
    simp; omega
theorem np_none {z : Z} {l : Int} {i : Nat} (h : i < np z l) : npB z l i = false := first_no _ _ i h

/-- OF WHICH MINUTES A LOCAL TIME COMES. -/
theorem comes {z : Z} (hz : mayP z) (l u : Int) :
    u + off z u = l ↔ (u = l - ah z (np z l) ∧ (np z l = z.n ∨ l < z.t (np z l) + ah z (np z l))) ∨ (np z l < z.n ∧ u = l - z.o (np z l) ∧ z.t (np z l) + z.o (np z l) ≤ l) := by
  rw [off_eq hz]
  have hp := np_le z l
  have hy := np_yes (z := z) (l := l)
  have hn := fun i (h : i < np z l) => np_no h
  generalize np z l = p at *
  constructor
  · intro h
    have hq := fb_le z u
    have q1 := fb_yes (z := z) (u := u)
    have q0 := fun i (h : i < fb z u) => fb_no h
    have qb := ah_bd hz _ hq
    generalize fb z u = q at *
    rcases Nat.lt_trichotomy q p with e | e | e
    · have a := hn q e
      have b := q1 (by omega)
      omega
    · subst e
      left
      refine ⟨by omega, ?_⟩
      by_cases e : q = z.n
      · exact .inl e
      · have := q1 (by omega); right; omega
    · by_cases e2 : q = p + 1
      · subst e2
        right
        have a := q0 p (by omega)
        have e3 : ah z (p + 1) = z.o p := rfl
        rw [e3] at h
        exact ⟨by omega, by omega, by omega⟩
      · have a := q0 (p + 1) (by omega)
        have g := gap' hz (i := p) (j := p + 1) (by omega) (by omega)
        have b := ah_bd hz p (by omega)
        have c := o_bd hz (p := p) (by omega)
        have := hy (by omega)
        omega
  · rintro (⟨h1, h2⟩ | ⟨h1, h2, h3⟩)
    · have e : fb z u = p := by
        refine fb_eq hp (fun i hi => ?_) (fun h => by omega)
        have hpp : p = (p - 1) + 1 := by omega
        have e3 : ah z p = z.o (p - 1) := by rw [hpp]; rfl
        have a := hn (p - 1) (by omega)
        by_cases e : i = p - 1
        · subst e; omega
        · have := gap' hz (i := i) (j := p - 1) (by omega) (by omega); omega
      rw [e]; omega
    · have e : fb z u = p + 1 := by
        refine fb_eq (by omega) (fun i hi => ?_) (fun h => ?_)
        · by_cases e : i = p
          · subst e; omega
          · have := gap' hz (i := i) (j := p) (by omega) (by omega); omega
        · have g := gap' hz (i := p) (j := p + 1) (by omega) h
          have b := ah_bd hz p (by omega)
          have c := o_bd hz (p := p) (by omega)
          have := hy (by omega)
          omega
      rw [e]
      have e3 : ah z (p + 1) = z.o p := rfl
      rw [e3]; omega

/-- How a local time stands at its place. -/
def kindI (z : Z) (l : Int) (p : Nat) : Int := if p = z.n then 0 else if z.t p + ah z p ≤ l then 1 else if z.t p + z.o p ≤ l then 2 else 0
def atI (z : Z) (l : Int) : Int := l - ah z (np z l)
def hasP (z : Z) (l : Int) : Prop := -900 ≤ l ∧ l ≤ 158311620 ∧ mayP z ∧ 0 ≤ atI z l ∧ atI z l ≤ 158310720
instance (z : Z) (l : Int) : Decidable (hasP z l) := by unfold hasP; infer_instance
end Zn
