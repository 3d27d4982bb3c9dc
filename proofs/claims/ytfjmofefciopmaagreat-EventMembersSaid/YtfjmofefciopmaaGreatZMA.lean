import Derived.WalkKit
/- Plain mathematics of zones: what is added at a minute, the next turn, and of which minutes a local time comes. -/
section
namespace Zn
structure Z where
  base : Int
  n : Nat
  t : Nat → Int
  o : Nat → Int
def okT (z : Z) (i : Nat) : Prop := -900 ≤ z.o i ∧ z.o i ≤ 900 ∧ 0 ≤ z.t i ∧ z.t i ≤ 158310720 ∧ (0 < i → 2880 ≤ z.t i - z.t (i - 1))
instance (z : Z) (i : Nat) : Decidable (okT z i) := by unfold okT; infer_instance
def mayP (z : Z) : Prop := -900 ≤ z.base ∧ z.base ≤ 900 ∧ z.n ≤ 700 ∧ ∀ i, i < z.n → okT z i
instance (z : Z) : Decidable (mayP z) := by unfold mayP; infer_instance
def mayB (z : Z) : Bool := decide (mayP z)
theorem may_iff {z : Z} : mayB z = true ↔ mayP z := by unfold mayB; exact decide_eq_true_iff
theorem may_no {z : Z} : mayB z = false ↔ ¬ mayP z := by unfold mayB; exact decide_eq_false_iff_not
def ah (z : Z) : Nat → Int
  | 0 => z.base
  | p + 1 => z.o p
def offTo (z : Z) (u : Int) : Nat → Int
  | 0 => z.base
  | k + 1 => if z.t k ≤ u then z.o k else offTo z u k
def off (z : Z) (u : Int) : Int := offTo z u z.n
def first (p : Nat → Bool) : Nat → Nat
  | 0 => 0
  | n + 1 => if first p n < n then first p n else if p n = true then n else n + 1
theorem first_le (p : Nat → Bool) (n : Nat) : first p n ≤ n := by
  induction n with
  | zero => exact Nat.le_refl _
  | succ n ih => unfold first; split <;> (try split) <;> omega
theorem first_no (p : Nat → Bool) (n : Nat) : ∀ i, i < first p n → p i = false := by
  induction n with
  | zero => intro i h; exact absurd h (Nat.not_lt_zero _)
  | succ n ih =>
    intro i h
    have hl := first_le p n
    unfold first at h
    split at h
    · exact ih i h
    · split at h
      · exact ih i (by omega)
      · rename_i h1 h2
        by_cases e : i = n
        · subst e; simpa using h2
        · exact ih i (by omega)
theorem first_yes (p : Nat → Bool) (n : Nat) : first p n < n → p (first p n) = true := by
  induction n with
  | zero => intro h; exact absurd h (Nat.not_lt_zero _)
  | succ n ih =>
    intro h
    have e : first p (n + 1) = if first p n < n then first p n else if p n = true then n else n + 1 := rfl
    rw [e] at h ⊢
    split
    · exact ih (by assumption)
    · rename_i h1
      rw [if_neg h1] at h
      split
      · assumption
      · rename_i h2; rw [if_neg h2] at h; omega
theorem first_eq {p : Nat → Bool} {n q : Nat} (hq : q ≤ n) (h0 : ∀ i, i < q → p i = false) (h1 : q < n → p q = true) : first p n = q := by
  have hl := first_le p n
  rcases Nat.lt_trichotomy (first p n) q with h | h | h
  · have a := first_yes p n (by omega); rw [h0 _ h] at a; cases a
  · exact h
  · have a := first_no p n q h; rw [h1 (by omega)] at a; cases a
def fb (z : Z) (u : Int) : Nat := first (fun i => decide (u < z.t i)) z.n
theorem fb_le (z : Z) (u : Int) : fb z u ≤ z.n := first_le _ _
theorem fb_no {z : Z} {u : Int} {i : Nat} (h : i < fb z u) : z.t i ≤ u := by have := first_no _ _ i h; simpa using this
theorem fb_yes {z : Z} {u : Int} (h : fb z u < z.n) : u < z.t (fb z u) := of_decide_eq_true (first_yes _ _ h)
theorem fb_eq {z : Z} {u : Int} {q : Nat} (hq : q ≤ z.n) (h0 : ∀ i, i < q → z.t i ≤ u) (h1 : q < z.n → u < z.t q) : fb z u = q :=
  first_eq hq (fun i h => by have := h0 i h; simp; omega) (fun h => by have := h1 h; simpa using this)
theorem gap {z : Z} (hz : mayP z) {i : Nat} (d : Nat) (h : i + d + 1 < z.n) : 2880 ≤ z.t (i + d + 1) - z.t i := by
  induction d with
  | zero => have := (hz.2.2.2 (i + 1) (by omega)).2.2.2.2 (by omega); simpa using this
  | succ d ih =>
    have a := ih (by omega)
    have b := (hz.2.2.2 (i + (d + 1) + 1) (by omega)).2.2.2.2 (by omega)
    have e : i + (d + 1) + 1 - 1 = i + d + 1 := by omega
    rw [e] at b
    omega
theorem gap' {z : Z} (hz : mayP z) {i j : Nat} (h : i < j) (hj : j < z.n) : 2880 ≤ z.t j - z.t i := by
  have a := gap hz (i := i) (j - i - 1) (by omega)
  have e : i + (j - i - 1) + 1 = j := by omega
  rwa [e] at a
theorem fb_all {z : Z} (hz : mayP z) {u : Int} {i : Nat} (h : fb z u ≤ i) (hi : i < z.n) : u < z.t i := by
  have a := fb_yes (z := z) (u := u) (by omega)
  by_cases e : fb z u = i
  · rw [e] at a; exact a
  · have := gap' hz (i := fb z u) (j := i) (by omega) hi; omega
theorem ah_bd {z : Z} (hz : mayP z) (p : Nat) (hp : p ≤ z.n) : -900 ≤ ah z p ∧ ah z p ≤ 900 := by
  cases p with
  | zero => exact ⟨hz.1, hz.2.1⟩
  | succ p => have := hz.2.2.2 p (by omega); exact ⟨this.1, this.2.1⟩
theorem o_bd {z : Z} (hz : mayP z) {p : Nat} (hp : p < z.n) : -900 ≤ z.o p ∧ z.o p ≤ 900 := by
  have := hz.2.2.2 p hp; exact ⟨this.1, this.2.1⟩
theorem t_bd {z : Z} (hz : mayP z) {p : Nat} (hp : p < z.n) : 0 ≤ z.t p ∧ z.t p ≤ 158310720 := by
  have := hz.2.2.2 p hp; exact ⟨this.2.2.1, this.2.2.2.1⟩
theorem offTo_eq {z : Z} {u : Int} (q : Nat) (h0 : ∀ i, i < q → z.t i ≤ u) : ∀ k, q ≤ k → (∀ i, q ≤ i → i < k → u < z.t i) → offTo z u k = ah z q := by
  intro k
  induction k with
  | zero =>
    intro hq _
    obtain rfl : q = 0 := by omega
    rfl
  | succ k ih =>
    intro hq h1
    unfold offTo
    by_cases e : q = k + 1
    · subst e
      rw [if_pos (h0 k (by omega))]; rfl
    · have a := h1 k (by omega) (by omega)
      rw [if_neg (by omega)]
      exact ih (by omega) (fun i a b => h1 i a (by omega))
theorem off_eq {z : Z} (hz : mayP z) (u : Int) : off z u = ah z (fb z u) :=
  offTo_eq (fb z u) (fun _ h => fb_no h) z.n (fb_le z u) (fun _ a b => fb_all hz a b)
theorem off_bd {z : Z} (hz : mayP z) (u : Int) : -900 ≤ off z u ∧ off z u ≤ 900 := by
  rw [off_eq hz]; exact ah_bd hz _ (fb_le z u)
def npB (z : Z) (l : Int) (i : Nat) : Bool := decide (l < z.t i + ah z i) || decide (l < z.t i + z.o i)
def np (z : Z) (l : Int) : Nat := first (npB z l) z.n
theorem np_le (z : Z) (l : Int) : np z l ≤ z.n := first_le _ _
theorem np_no {z : Z} {l : Int} {i : Nat} (h : i < np z l) : z.t i + ah z i ≤ l ∧ z.t i + z.o i ≤ l := by
  have := first_no _ _ i h; unfold npB at this; simp at this; omega
theorem np_yes {z : Z} {l : Int} (h : np z l < z.n) : l < z.t (np z l) + ah z (np z l) ∨ l < z.t (np z l) + z.o (np z l) := by
  have a : npB z l (np z l) = true := first_yes (npB z l) _ h
  unfold npB at a
  simpa using a
theorem np_all {z : Z} (hz : mayP z) {l : Int} {i : Nat} (h : np z l ≤ i) (hi : i < z.n) : npB z l i = true := by
  have a := np_yes (z := z) (l := l) (by omega)
  unfold npB
  by_cases e : np z l = i
  · rw [e] at a; simpa using a
  · have g := gap' hz (i := np z l) (j := i) (by omega) hi
    have b := ah_bd hz (np z l) (by omega)
    have c := o_bd hz (p := np z l) (by omega)
    have d := o_bd hz hi
    simp; omega
theorem np_none {z : Z} {l : Int} {i : Nat} (h : i < np z l) : npB z l i = false := first_no _ _ i h
theorem comes {z : Z} (hz : mayP z) (l u : Int) :
    u + off z u = l ↔ (u = l - ah z (np z l) ∧ (np z l = z.n ∨ l < z.t (np z l) + ah z (np z l))) ∨ (np z l < z.n ∧ u = l - z.o (np z l) ∧ z.t (np z l) + z.o (np z l) ≤ l) := by
  rw [off_eq hz]
  have hp := np_le z l
  have hy := np_yes (z := z) (l := l)
  have hn := fun i (h : i < np z l) => np_no h
  generalize np z l = p at *
  constructor
  · intro h
    have hq := fb_le z u
    have q1 := fb_yes (z := z) (u := u)
    have q0 := fun i (h : i < fb z u) => fb_no h
    have qb := ah_bd hz _ hq
    generalize fb z u = q at *
    rcases Nat.lt_trichotomy q p with e | e | e
    · have a := hn q e
      have b := q1 (by omega)
      omega
    · subst e
      left
      refine ⟨by omega, ?_⟩
      by_cases e : q = z.n
      · exact .inl e
      · have := q1 (by omega); right; omega
    · by_cases e2 : q = p + 1
      · subst e2
        right
        have a := q0 p (by omega)
        have e3 : ah z (p + 1) = z.o p := rfl
        rw [e3] at h
        exact ⟨by omega, by omega, by omega⟩
      · have a := q0 (p + 1) (by omega)
        have g := gap' hz (i := p) (j := p + 1) (by omega) (by omega)
        have b := ah_bd hz p (by omega)
        have c := o_bd hz (p := p) (by omega)
        have := hy (by omega)
        omega
  · rintro (⟨h1, h2⟩ | ⟨h1, h2, h3⟩)
    · have e : fb z u = p := by
        refine fb_eq hp (fun i hi => ?_) (fun h => by omega)
        have hpp : p = (p - 1) + 1 := by omega
        have e3 : ah z p = z.o (p - 1) := by rw [hpp]; rfl
        have a := hn (p - 1) (by omega)
        by_cases e : i = p - 1
        · subst e; omega
        · have := gap' hz (i := i) (j := p - 1) (by omega) (by omega); omega
      rw [e]; omega
    · have e : fb z u = p + 1 := by
        refine fb_eq (by omega) (fun i hi => ?_) (fun h => ?_)
        · by_cases e : i = p
          · subst e; omega
          · have := gap' hz (i := i) (j := p) (by omega) (by omega); omega
        · have g := gap' hz (i := p) (j := p + 1) (by omega) h
          have b := ah_bd hz p (by omega)
          have c := o_bd hz (p := p) (by omega)
          have := hy (by omega)
          omega
      rw [e]
      have e3 : ah z (p + 1) = z.o p := rfl
      rw [e3]; omega
def kindI (z : Z) (l : Int) (p : Nat) : Int := if p = z.n then 0 else if z.t p + ah z p ≤ l then 1 else if z.t p + z.o p ≤ l then 2 else 0
def atI (z : Z) (l : Int) : Int := l - ah z (np z l)
def hasP (z : Z) (l : Int) : Prop := -900 ≤ l ∧ l ≤ 158311620 ∧ mayP z ∧ 0 ≤ atI z l ∧ atI z l ≤ 158310720
instance (z : Z) (l : Int) : Decidable (hasP z l) := by unfold hasP; infer_instance
end Zn
end
section
namespace Ck
open Zn (first first_le first_no first_yes first_eq)
end Ck
end
section
namespace Qr
open Ck
structure R where
  freq : Int
  iv : Int
  count : Int
  until_ : Int
  bm : List Int
  bd : List Int
  bw : List (Int × Int)
  bs : List Int
  start : Int
def okN (most : Int) (below : Bool) (l : List Int) (i : Nat) : Prop :=
  l.getD i 0 ≤ most ∧ -most ≤ l.getD i 0 ∧ l.getD i 0 ≠ 0 ∧ (below = true ∨ 0 ≤ l.getD i 0) ∧ (i = 0 ∨ l.getD (i - 1) 0 < l.getD i 0)
instance (most : Int) (below : Bool) (l : List Int) (i : Nat) : Decidable (okN most below l i) := by unfold okN; infer_instance
def rowB (most : Int) (below : Bool) (l : List Int) : Bool := (List.range l.length).all fun i => decide (okN most below l i)
theorem rowB_iff {most : Int} {below : Bool} {l : List Int} : rowB most below l = true ↔ ∀ i, i < l.length → okN most below l i := by
  unfold rowB; rw [List.all_eq_true]; simp
theorem rowB_no {most : Int} {below : Bool} {l : List Int} {i : Nat} (hi : i < l.length) (h : ¬ okN most below l i) : rowB most below l = false := by
  cases e : rowB most below l with
  | false => rfl
  | true => exact absurd (rowB_iff.1 e i hi) h
def okD (freq : Int) (months : Bool) (l : List (Int × Int)) (i : Nat) : Prop :=
  let d := l.getD i (0, 0)
  0 ≤ d.2 ∧ d.2 ≤ 6 ∧ -5 ≤ d.1 ∧ d.1 ≤ 5 ∧ (d.1 = 0 ∨ (3 ≤ freq ∧ (freq ≠ 4 ∨ months = true))) ∧ (i = 0 ∨ (l.getD (i - 1) (0, 0)).1 < d.1 ∨ ((l.getD (i - 1) (0, 0)).1 = d.1 ∧ (l.getD (i - 1) (0, 0)).2 < d.2))
instance (freq : Int) (months : Bool) (l : List (Int × Int)) (i : Nat) : Decidable (okD freq months l i) := by unfold okD; infer_instance
def daysB (r : R) : Bool := (List.range r.bw.length).all fun i => decide (okD r.freq (!r.bm.isEmpty) r.bw i)
theorem daysB_iff {r : R} : daysB r = true ↔ ∀ i, i < r.bw.length → okD r.freq (!r.bm.isEmpty) r.bw i := by
  unfold daysB; rw [List.all_eq_true]; simp
theorem daysB_no {r : R} {i : Nat} (hi : i < r.bw.length) (h : ¬ okD r.freq (!r.bm.isEmpty) r.bw i) : daysB r = false := by
  cases e : daysB r with
  | false => rfl
  | true => exact absurd (daysB_iff.1 e i hi) h
def mayP (r : R) : Prop :=
  (1 ≤ r.freq ∧ r.freq ≤ 4 ∧ 1 ≤ r.iv ∧ r.iv ≤ 999 ∧ 0 ≤ r.count ∧ r.count ≤ 5000 ∧ 0 ≤ r.start ∧ r.start ≤ 6) ∧
  (r.until_ = -1 ∨ (0 ≤ r.until_ ∧ r.until_ < 158310720 ∧ r.count ≤ 0)) ∧
  (rowB 12 false r.bm = true ∧ rowB 31 true r.bd = true ∧ rowB 366 true r.bs = true ∧ daysB r = true) ∧
  (r.freq ≠ 2 ∨ r.bd = []) ∧
  (r.bs = [] ∨ r.bm ≠ [] ∨ r.bd ≠ [] ∨ r.bw ≠ [])
instance (r : R) : Decidable (mayP r) := by unfold mayP; infer_instance
def mayB (r : R) : Bool := decide (mayP r)
end Qr
end
section
namespace Sp
abbrev Spn := Int × Int
def has (l : List Spn) (m : Int) : Prop := ∃ s ∈ l, s.1 ≤ m ∧ m < s.2
def risesFrom (lo : Int) : List Int → Prop
  | [] => True
  | x :: r => lo < x ∧ risesFrom x r
def rises : List Int → Prop
  | [] => True
  | x :: r => risesFrom x r
end Sp
end
section
namespace Sp
def len : List Spn → Int
  | [] => 0
  | s :: r => (s.2 - s.1) + len r
end Sp
end
section
namespace Hr
structure H where
  shifts : List (Int × Int × Int)
  off : List Int
def okS (s : Int × Int × Int) : Prop := 1 ≤ s.1 ∧ s.1 ≤ 127 ∧ 0 ≤ s.2.1 ∧ s.2.1 < s.2.2 ∧ s.2.2 ≤ 1440
instance (s : Int × Int × Int) : Decidable (okS s) := by unfold okS; infer_instance
def okO (l : List Int) (i : Nat) : Prop := 0 ≤ l.getD i 0 ∧ l.getD i 0 ≤ 109937 ∧ (0 < i → l.getD (i - 1) 0 < l.getD i 0)
instance (l : List Int) (i : Nat) : Decidable (okO l i) := by unfold okO; infer_instance
def mayH (h : H) : Prop := h.shifts.length ≤ 10 ∧ h.off.length ≤ 60 ∧ (∀ s ∈ h.shifts, okS s) ∧ ∀ i, i < h.off.length → okO h.off i
instance (h : H) : Decidable (mayH h) := by unfold mayH; infer_instance
def mayHB (h : H) : Bool := decide (mayH h)
theorem may_no {h : H} (n : ¬ mayH h) : mayHB h = false := decide_eq_false n
theorem may_yes {h : H} (n : mayH h) : mayHB h = true := decide_eq_true n
def bitB (n : Int) (k : Nat) : Bool := decide ((n / 2 ^ k) % 2 = 1)
def onB (day minute : Int) (s : Int × Int × Int) : Bool := bitB s.1 ((day + 7) % 7).toNat && decide (s.2.1 ≤ minute) && decide (minute < s.2.2)
end Hr
end
section
namespace Ev
open Sp
def stampB (n : Int) : Bool := decide (0 ≤ n) && decide (n < 158310720)
def okR (l : List Int) (i : Nat) : Prop := 0 ≤ l.getD i 0 ∧ l.getD i 0 < 158310720 ∧ (0 < i → l.getD (i - 1) 0 < l.getD i 0)
instance (l : List Int) (i : Nat) : Decidable (okR l i) := by unfold okR; infer_instance
def rowP (l : List Int) : Prop := (∀ i, i < l.length → okR l i) ∧ l.length ≤ 50
instance (l : List Int) : Decidable (rowP l) := by unfold rowP; infer_instance
def rowB (l : List Int) : Bool := decide (rowP l)
theorem row_no {l : List Int} (n : ¬ rowP l) : rowB l = false := decide_eq_false n
theorem row_yes {l : List Int} (n : rowP l) : rowB l = true := decide_eq_true n
def gtS (t s : Spn) : Prop := s.1 < t.1 ∨ t.1 = s.1 ∧ s.2 < t.2
instance (t s : Spn) : Decidable (gtS t s) := by unfold gtS; infer_instance
def pos (l : List Spn) (s : Spn) : Nat → Nat
  | 0 => 0
  | k + 1 => if gtS (l.getD k (0, 0)) s then pos l s k else k + 1
theorem pos_le (l : List Spn) (s : Spn) : ∀ k, pos l s k ≤ k
  | 0 => Nat.le_refl _
  | k + 1 => by
    unfold pos
    split
    · exact Nat.le_succ_of_le (pos_le l s k)
    · exact Nat.le_refl _
def putL (l : List Spn) (s : Spn) : List Spn := l.take (pos l s l.length) ++ [s] ++ l.drop (pos l s l.length)
theorem putL_len (l : List Spn) (s : Spn) : (putL l s).length = l.length + 1 := by
  have := pos_le l s l.length
  unfold putL; simp; omega
end Ev
end
section
namespace Ev
open Sp
def InO (l : List Spn) : Prop := l.Pairwise fun a b => ¬ gtS a b
def srt (l : List Spn) : List Spn := l.foldl putL []
theorem gt_tr {a b c : Spn} (h1 : ¬ gtS a b) (h2 : ¬ gtS b c) : ¬ gtS a c := by
  unfold gtS at *; omega
theorem gt_as {a b : Spn} (h1 : ¬ gtS a b) (h2 : ¬ gtS b a) : a = b := by
  unfold gtS at *
  exact Prod.ext (by omega) (by omega)
theorem gt_not {a b : Spn} (h : gtS a b) : ¬ gtS b a := by unfold gtS at *; omega
theorem pos_hi (l : List Spn) (s : Spn) : ∀ k i, pos l s k ≤ i → i < k → gtS (l.getD i (0, 0)) s
  | 0, i, _, h => absurd h (Nat.not_lt_zero _)
  | k + 1, i, h1, h2 => by
    unfold pos at h1
    split at h1
    · rename_i hg
      by_cases e : i = k
      · rw [e]; exact hg
      · exact pos_hi l s k i h1 (by omega)
    · omega
theorem pos_lo (l : List Spn) (s : Spn) : ∀ k, 0 < pos l s k → ¬ gtS (l.getD (pos l s k - 1) (0, 0)) s
  | 0, h => absurd h (Nat.lt_irrefl 0)
  | k + 1, h => by
    by_cases hg : gtS (l.getD k (0, 0)) s
    · have e : pos l s (k + 1) = pos l s k := by rw [pos, if_pos hg]
      rw [e] at h ⊢
      exact pos_lo l s k h
    · have e : pos l s (k + 1) = k + 1 := by rw [pos, if_neg hg]
      rw [e]; exact hg
theorem putL_perm (l : List Spn) (s : Spn) : (putL l s).Perm (s :: l) := by
  unfold putL
  have h : (l.take (pos l s l.length) ++ [s] ++ l.drop (pos l s l.length)).Perm (s :: (l.take (pos l s l.length) ++ l.drop (pos l s l.length))) := by
    rw [List.append_assoc]; exact List.perm_middle
  rwa [List.take_append_drop] at h
theorem putL_ino {l : List Spn} (s : Spn) (h : InO l) : InO (putL l s) := by
  have hle := pos_le l s l.length
  have hlo := pos_lo l s l.length
  have hhi := pos_hi l s l.length
  unfold putL InO
  generalize pos l s l.length = p at *
  have hget : ∀ i (hi : i < l.length), l.getD i (0, 0) = l[i] := fun i hi => by rw [List.getD_eq_getElem?_getD, List.getElem?_eq_getElem hi]; rfl
  have hpw := List.pairwise_iff_getElem.1 h
  have h1 : ∀ a ∈ l.take p, ¬ gtS a s := fun a ha => by
    obtain ⟨i, hi, rfl⟩ := List.mem_iff_getElem.1 ha
    rw [List.length_take] at hi
    rw [List.getElem_take]
    have h0 := hlo (by omega)
    rw [hget (p - 1) (by omega)] at h0
    by_cases e : i = p - 1
    · subst e; exact h0
    · exact gt_tr (hpw i (p - 1) (by omega) (by omega) (by omega)) h0
  have h2 : ∀ a ∈ l.drop p, ¬ gtS s a := fun a ha => by
    obtain ⟨i, hi, rfl⟩ := List.mem_iff_getElem.1 ha
    rw [List.length_drop] at hi
    rw [List.getElem_drop]
    have := hhi (p + i) (by omega) (by omega)
    rw [hget (p + i) (by omega)] at this
    exact gt_not this
  rw [List.append_assoc, List.pairwise_append]
  refine ⟨List.Pairwise.sublist (List.take_sublist _ _) h, ?_, fun a ha b hb => ?_⟩
  · exact List.pairwise_cons.2 ⟨h2, List.Pairwise.sublist (List.drop_sublist _ _) h⟩
  · rcases List.mem_cons.1 hb with rfl | hb
    · exact h1 a ha
    · exact gt_tr (h1 a ha) (h2 b hb)
theorem fold_perm : ∀ (l o : List Spn), (l.foldl putL o).Perm (l ++ o)
  | [], o => List.Perm.refl _
  | s :: l, o => by
    refine (fold_perm l (putL o s)).trans ?_
    refine ((putL_perm o s).append_left l).trans ?_
    exact List.perm_middle
theorem fold_ino : ∀ (l o : List Spn), InO o → InO (l.foldl putL o)
  | [], _, h => h
  | s :: l, o, h => fold_ino l (putL o s) (putL_ino s h)
theorem srt_perm (l : List Spn) : (srt l).Perm l := by have := fold_perm l []; rwa [List.append_nil] at this
theorem srt_ino (l : List Spn) : InO (srt l) := fold_ino l [] List.Pairwise.nil
theorem ino_eq : ∀ {a b : List Spn}, InO a → InO b → a.Perm b → a = b
  | [], b, _, _, h => (List.nil_perm.1 h).symm
  | x :: a, [], _, _, h => absurd (List.perm_nil.1 h) (by simp)
  | x :: a, y :: b, ha, hb, h => by
    have hx := List.pairwise_cons.1 ha
    have hy := List.pairwise_cons.1 hb
    have e : x = y := by
      have mx : x ∈ y :: b := h.mem_iff.1 (List.mem_cons_self ..)
      have my : y ∈ x :: a := h.mem_iff.2 (List.mem_cons_self ..)
      rcases List.mem_cons.1 mx with e | mx
      · exact e
      · rcases List.mem_cons.1 my with e | my
        · exact e.symm
        · exact gt_as (hx.1 _ my) (hy.1 _ mx)
    subst e
    rw [ino_eq hx.2 hy.2 ((List.perm_cons x).1 h)]
theorem srt_of_perm {a b : List Spn} (h : a.Perm b) : srt a = srt b := ino_eq (srt_ino a) (srt_ino b) (((srt_perm a).trans h).trans (srt_perm b).symm)
theorem srt_eq {a b : List Spn} (h : InO a) (hp : a.Perm b) : a = srt b := ino_eq h (srt_ino b) (hp.trans (srt_perm b).symm)
theorem srt_filter (p : Spn → Bool) (l : List Spn) : srt (l.filter p) = (srt l).filter p :=
  (srt_eq (List.Pairwise.sublist (List.filter_sublist ..) (srt_ino l)) ((srt_perm l).filter p)).symm
theorem srt_len (l : List Spn) : (srt l).length = l.length := (srt_perm l).length_eq
theorem srt_mem {l : List Spn} {s : Spn} : s ∈ srt l ↔ s ∈ l := (srt_perm l).mem_iff
theorem perm_choose {α β : Type} {f : α → Option β} : ∀ {a b : List α}, a.Nodup → b.Nodup → (∀ x, (f x).isSome = true → (x ∈ a ↔ x ∈ b)) → (a.filterMap f).Perm (b.filterMap f) := by
  intro a b ha hb h
  have hc : ∀ l : List α, l.filterMap f = (l.filter fun x => (f x).isSome).filterMap f := by
    intro l
    induction l with
    | nil => rfl
    | cons x l ih =>
      cases hx : f x with
      | none => rw [List.filterMap_cons_none hx, List.filter_cons_of_neg (by simp [hx])]; exact ih
      | some y => rw [List.filterMap_cons_some hx, List.filter_cons_of_pos (by simp [hx]), List.filterMap_cons_some hx, ih]
  rw [hc a, hc b]
  refine List.Perm.filterMap f ?_
  refine (List.perm_ext_iff_of_nodup (ha.sublist (List.filter_sublist ..)) (hb.sublist (List.filter_sublist ..))).2 fun x => ?_
  rw [List.mem_filter, List.mem_filter]
  exact ⟨fun q => ⟨(h x q.2).1 q.1, q.2⟩, fun q => ⟨(h x q.2).2 q.1, q.2⟩⟩
end Ev
end
section
namespace Sp
end Sp
end
section
namespace Go.Proofs.YtfjmofefciopmaaGreat.Cal
theorem tmod_zero (y k : Int) : y.tmod k = 0 ↔ y % k = 0 := by
  rw [← Int.dvd_iff_tmod_eq_zero, ← Int.dvd_iff_emod_eq_zero]
def lp (y : Int) : Int := if y % 4 = 0 ∧ (y % 100 ≠ 0 ∨ y % 400 = 0) then 1 else 0
theorem lp01 (y : Int) : 0 ≤ lp y ∧ lp y ≤ 1 := by unfold lp; split <;> omega
def leapB (y : Int) : Bool := decide (lp y = 1)
def lenI (y m : Int) : Int :=
  if m = 1 ∨ m = 3 ∨ m = 5 ∨ m = 7 ∨ m = 8 ∨ m = 10 ∨ m = 12 then 31
  else if m = 4 ∨ m = 6 ∨ m = 9 ∨ m = 11 then 30
  else if m = 2 then 28 + lp y else 0
def cumI (y m : Int) : Int :=
  if m ≤ 1 then 0 else if m = 2 then 31 else
  (if m = 3 then 59 else if m = 4 then 90 else if m = 5 then 120 else if m = 6 then 151 else if m = 7 then 181
   else if m = 8 then 212 else if m = 9 then 243 else if m = 10 then 273 else if m = 11 then 304 else if m = 12 then 334 else 365) + lp y
theorem len_bd (y m : Int) : 0 ≤ lenI y m ∧ lenI y m ≤ 31 := by
  have := lp01 y; unfold lenI; repeat' split
  all_goals omega
theorem len_pos (y m : Int) (h1 : 1 ≤ m) (h2 : m ≤ 12) : 28 ≤ lenI y m := by
  have := lp01 y; unfold lenI; repeat' split
  all_goals omega
theorem len_no (y m : Int) (h : m < 1 ∨ 12 < m) : lenI y m = 0 := by
  unfold lenI; repeat' split
  all_goals omega
theorem cum_succ (y m : Int) (h1 : 1 ≤ m) (h2 : m ≤ 12) : cumI y (m + 1) = cumI y m + lenI y m := by
  have h : m = 1 ∨ m = 2 ∨ m = 3 ∨ m = 4 ∨ m = 5 ∨ m = 6 ∨ m = 7 ∨ m = 8 ∨ m = 9 ∨ m = 10 ∨ m = 11 ∨ m = 12 := by omega
  rcases h with h | h | h | h | h | h | h | h | h | h | h | h <;> subst h <;> simp [cumI, lenI] <;> omega
theorem cum_bd (y m : Int) : 0 ≤ cumI y m ∧ cumI y m ≤ 366 := by
  have := lp01 y; unfold cumI; repeat' split
  all_goals omega
theorem cum_one (y : Int) : cumI y 1 = 0 := by simp [cumI]
theorem cum_13 (y : Int) : cumI y 13 = 365 + lp y := by simp [cumI]
def lt (y : Int) : Int := y / 4 - y / 100 + y / 400
def ys (y : Int) : Int := (y - 1900) * 365 + lt (y - 1) - 460
theorem ys_succ (y : Int) : ys (y + 1) = ys y + 365 + lp y := by
  unfold ys lt lp; split <;> omega
theorem ys_1900 : ys 1900 = 0 := by decide
theorem ys_2201 : ys 2201 = 109938 := by decide
theorem ys_mono (a b : Int) (h : a ≤ b) : ys a ≤ ys b := by unfold ys lt; omega
theorem ys_bd (y : Int) (h1 : 1900 ≤ y) (h2 : y ≤ 2201) : 0 ≤ ys y ∧ ys y ≤ 109938 := by
  unfold ys lt; omega
theorem ys_guess (n : Int) (h : 0 ≤ n) : ys (1900 + n / 366) ≤ n := by unfold ys lt; omega
def mayP (y m d : Int) : Prop := 1900 ≤ y ∧ y ≤ 2200 ∧ 1 ≤ d ∧ d ≤ lenI y m
instance (y m d : Int) : Decidable (mayP y m d) := by unfold mayP; infer_instance
def mayB (y m d : Int) : Bool := decide (mayP y m d)
def numI (y m d : Int) : Int := ys y + cumI y m + d - 1
theorem may_iff {y m d : Int} : mayB y m d = true ↔ mayP y m d := by simp [mayB]
theorem may_no {y m d : Int} : mayB y m d = false ↔ ¬ mayP y m d := by simp [mayB]
theorem may_month {y m d : Int} (h : mayP y m d) : 1 ≤ m ∧ m ≤ 12 := by
  unfold mayP at h
  by_cases g : m < 1 ∨ 12 < m
  · rw [len_no y m g] at h; omega
  · omega
theorem cum_le (y m : Int) (h1 : 1 ≤ m) (h2 : m ≤ 12) : cumI y m + lenI y m ≤ 365 + lp y := by
  have h : m = 1 ∨ m = 2 ∨ m = 3 ∨ m = 4 ∨ m = 5 ∨ m = 6 ∨ m = 7 ∨ m = 8 ∨ m = 9 ∨ m = 10 ∨ m = 11 ∨ m = 12 := by omega
  have := lp01 y
  rcases h with h | h | h | h | h | h | h | h | h | h | h | h <;> subst h <;> simp [cumI, lenI] <;> omega
theorem cum_mono (y a b : Int) (h1 : 1 ≤ a) (h : a < b) (h2 : b ≤ 12) : cumI y a + lenI y a ≤ cumI y b := by
  rw [← cum_succ y a h1 (by omega)]
  have := lp01 y
  unfold cumI; repeat' split
  all_goals omega
theorem num_bd {y m d : Int} (h : mayP y m d) : 0 ≤ numI y m d ∧ numI y m d ≤ 109937 := by
  have hm := may_month h
  obtain ⟨a, b, c, e⟩ := h
  have h1 := ys_mono (y + 1) 2201 (by omega)
  rw [ys_succ, ys_2201] at h1
  have h2 := ys_bd y a (by omega)
  have h3 := cum_le y m hm.1 hm.2
  have h4 := cum_bd y m
  unfold numI; omega
theorem num_inj {y m d y' m' d' : Int} (h : mayP y m d) (h' : mayP y' m' d') (e : numI y m d = numI y' m' d') : y = y' ∧ m = m' ∧ d = d' := by
  have hm := may_month h
  have hm' := may_month h'
  obtain ⟨a, b, c, f⟩ := h
  obtain ⟨a', b', c', f'⟩ := h'
  unfold numI at e
  have k := cum_le y m hm.1 hm.2
  have k' := cum_le y' m' hm'.1 hm'.2
  have g := cum_bd y m
  have g' := cum_bd y' m'
  have s := ys_succ y
  have s' := ys_succ y'
  have hy : y = y' := by
    rcases Int.lt_trichotomy y y' with l | l | l
    · have := ys_mono (y + 1) y' (by omega); omega
    · exact l
    · have := ys_mono (y' + 1) y (by omega); omega
  subst hy
  have hmm : m = m' := by
    rcases Int.lt_trichotomy m m' with l | l | l
    · have := cum_mono y m m' hm.1 l hm'.2; omega
    · exact l
    · have := cum_mono y m' m hm'.1 l hm.2; omega
  subst hmm
  exact ⟨rfl, rfl, by omega⟩
theorem date_ex (k : Nat) : k ≤ 109937 → ∃ y m d : Int, mayP y m d ∧ numI y m d = k := by
  induction k with
  | zero => intro _; exact ⟨1900, 1, 1, by decide, by decide⟩
  | succ k ih =>
    intro hk
    obtain ⟨y, m, d, h, hn⟩ := ih (by omega)
    have hm := may_month h
    have hb := num_bd h
    obtain ⟨a, b, c, e⟩ := h
    by_cases h1 : d < lenI y m
    · exact ⟨y, m, d + 1, ⟨a, b, by omega, by omega⟩, by unfold numI at *; omega⟩
    by_cases h2 : m < 12
    · refine ⟨y, m + 1, 1, ⟨a, b, by omega, ?_⟩, ?_⟩
      · have := len_pos y (m + 1) (by omega) (by omega); omega
      · have := cum_succ y m hm.1 hm.2
        unfold numI at *; omega
    · obtain rfl : m = 12 := by omega
      have h13 := cum_13 y
      have hs := cum_succ y 12 (by omega) (by omega)
      have hys := ys_succ y
      have hy : y < 2200 := by
        apply Decidable.byContradiction; intro hc
        obtain rfl : y = 2200 := by omega
        have h0 := ys_2201
        unfold numI at hn
        simp only [show (2200 : Int) + 1 = 2201 from rfl] at hys
        simp only [show (12 : Int) + 1 = 13 from rfl] at hs
        omega
      refine ⟨y + 1, 1, 1, ⟨by omega, by omega, by omega, ?_⟩, ?_⟩
      · have := len_pos (y + 1) 1 (by omega) (by omega); omega
      · have := cum_one (y + 1)
        simp only [show (12 : Int) + 1 = 13 from rfl] at hs
        unfold numI at *; omega
noncomputable def dateOf (n : Int) : Int × Int × Int := Classical.epsilon fun p => mayP p.1 p.2.1 p.2.2 ∧ numI p.1 p.2.1 p.2.2 = n
noncomputable def yOf (n : Int) : Int := (dateOf n).1
noncomputable def mOf (n : Int) : Int := (dateOf n).2.1
noncomputable def dOf (n : Int) : Int := (dateOf n).2.2
theorem dateOf_spec (n : Int) (h1 : 0 ≤ n) (h2 : n ≤ 109937) : mayP (yOf n) (mOf n) (dOf n) ∧ numI (yOf n) (mOf n) (dOf n) = n := by
  obtain ⟨y, m, d, h, hn⟩ := date_ex n.toNat (by omega)
  have : ∃ p : Int × Int × Int, mayP p.1 p.2.1 p.2.2 ∧ numI p.1 p.2.1 p.2.2 = n := ⟨(y, m, d), h, by rw [hn]; omega⟩
  exact Classical.epsilon_spec this
theorem dateOf_eq {y m d n : Int} (h : mayP y m d) (hn : numI y m d = n) : yOf n = y ∧ mOf n = m ∧ dOf n = d := by
  have hb := num_bd h
  obtain ⟨a, b⟩ := dateOf_spec n (by omega) (by omega)
  exact num_inj a h (by rw [b, hn])
theorem date_at {y m n : Int} (h1 : 1900 ≤ y) (h2 : y ≤ 2200) (h3 : 0 ≤ n - ys y - cumI y m) (h4 : n - ys y - cumI y m < lenI y m) :
    yOf n = y ∧ mOf n = m ∧ dOf n = n - ys y - cumI y m + 1 :=
  dateOf_eq (y := y) (m := m) (d := n - ys y - cumI y m + 1) ⟨h1, h2, by omega, by omega⟩ (by unfold numI; omega)
theorem last_month (y n : Int) (h : n < ys (y + 1)) : n - ys y - cumI y 12 < lenI y 12 := by
  have a := ys_succ y
  have b := cum_succ y 12 (by omega) (by omega)
  have c := cum_13 y
  simp only [show (12 : Int) + 1 = 13 from rfl] at b
  omega
theorem year_room (y n : Int) (h : ys (y + 1) ≤ n) (hn : n ≤ 109937) : y + 1 ≤ 2200 := by
  apply Decidable.byContradiction; intro hc
  have := ys_mono 2201 (y + 1) (by omega)
  rw [ys_2201] at this
  omega
end Go.Proofs.YtfjmofefciopmaaGreat.Cal
end
section
namespace Go.Proofs.YtfjmofefciopmaaGreat.Tm
open Go.Proofs.YtfjmofefciopmaaGreat.Cal Qr
structure Dt where
  n : Int
  y : Int
  m : Int
  d : Int
  w : Int
def nx (t : Dt) : Dt :=
  if lenI t.y t.m < t.d + 1 then (if 12 < t.m + 1 then ⟨t.n + 1, t.y + 1, 1, 1, (t.w + 1) % 7⟩ else ⟨t.n + 1, t.y, t.m + 1, 1, (t.w + 1) % 7⟩)
  else ⟨t.n + 1, t.y, t.m, t.d + 1, (t.w + 1) % 7⟩
noncomputable def dt (n : Nat) : Dt := if n ≤ 109937 then ⟨n, yOf n, mOf n, dOf n, (n : Int) % 7⟩ else ⟨n, 2201, 1, 1, (n : Int) % 7⟩
theorem dt_n (n : Nat) : (dt n).n = n := by unfold dt; split <;> rfl
theorem dt_w (n : Nat) : (dt n).w = (n : Int) % 7 := by unfold dt; split <;> rfl
theorem dt_in {n : Nat} (h : n ≤ 109937) : mayP (dt n).y (dt n).m (dt n).d ∧ numI (dt n).y (dt n).m (dt n).d = n := by
  unfold dt; rw [if_pos h]; exact dateOf_spec n (by omega) (by omega)
theorem dt_eq {n : Nat} {y m d : Int} (h : Cal.mayP y m d) (hn : numI y m d = n) : dt n = ⟨n, y, m, d, (n : Int) % 7⟩ := by
  have hb := num_bd h
  obtain ⟨e1, e2, e3⟩ := dateOf_eq h hn
  unfold dt; rw [if_pos (by omega), e1, e2, e3]
theorem nx_dt {n : Nat} (h : n ≤ 109937) : nx (dt n) = dt (n + 1) := by
  obtain ⟨h1, h2⟩ := dt_in h
  have hn := dt_n n
  have hw := dt_w n
  have hm := may_month h1
  have hw2 : ((dt n).w + 1) % 7 = ((n + 1 : Nat) : Int) % 7 := by rw [hw]; omega
  unfold nx
  rw [hn, hw2]
  generalize (dt n).y = y at *
  generalize (dt n).m = m at *
  generalize (dt n).d = d at *
  unfold numI at h2
  obtain ⟨a1, a2, a3, a4⟩ := h1
  have hc := cum_succ y m hm.1 hm.2
  split
  · split
    · have e12 : m = 12 := by omega
      have hy := ys_succ y
      have h13 := cum_13 y
      subst e12
      have e13 : cumI y (12 + 1) = 365 + lp y := h13
      by_cases hy2 : y + 1 ≤ 2200
      · rw [dt_eq (y := y + 1) (m := 1) (d := 1) ⟨by omega, hy2, by omega, by simp [lenI]⟩ (by unfold numI; rw [cum_one, hy]; omega)]
        simp
      · have : y = 2200 := by omega
        subst this
        have h01 := ys_2201
        simp only [show (2200 : Int) + 1 = 2201 from rfl] at hy
        unfold dt
        rw [if_neg (by omega)]
        simp
    · have hl := len_pos y (m + 1) (by omega) (by omega)
      rw [dt_eq (y := y) (m := m + 1) (d := 1) ⟨a1, a2, by omega, by omega⟩ (by unfold numI; rw [hc]; omega)]
      simp
  · rw [dt_eq (y := y) (m := m) (d := d + 1) ⟨a1, a2, by omega, by omega⟩ (by unfold numI; omega)]
    simp
theorem dt_bd {n : Nat} (h : n ≤ 109938) : 0 ≤ (dt n).n ∧ (dt n).n ≤ 109938 ∧ 1900 ≤ (dt n).y ∧ (dt n).y ≤ 2201 ∧ 1 ≤ (dt n).m ∧ (dt n).m ≤ 12 ∧ 1 ≤ (dt n).d ∧ (dt n).d ≤ 31 ∧ 0 ≤ (dt n).w ∧ (dt n).w ≤ 6 := by
  rw [dt_n, dt_w]
  by_cases h1 : n ≤ 109937
  · have h2 := (dt_in h1).1
    have h3 := may_month h2
    have h4 := len_bd (dt n).y (dt n).m
    obtain ⟨a1, a2, a3, a4⟩ := h2
    omega
  · unfold dt; rw [if_neg h1]; simp; omega
def memB (l : List Int) (x : Int) : Bool := l.any fun y => decide (y = x)
theorem memB_cons (y : Int) (l : List Int) (x : Int) : memB (y :: l) x = (decide (y = x) || memB l x) := by unfold memB; rw [List.any_cons]
theorem memB_iff {l : List Int} {x : Int} : memB l x = true ↔ x ∈ l := by
  unfold memB; rw [List.any_eq_true]
  constructor
  · rintro ⟨y, h1, h2⟩; rw [← of_decide_eq_true h2]; exact h1
  · intro h; exact ⟨x, h, by simp⟩
def nthOne (t : Dt) (x : Int × Int) : Bool := decide (x.2 = t.w) && (decide (x.1 = 0) || decide (x.1 = (t.d + 6) / 7) || decide (x.1 = -((lenI t.y t.m - t.d) / 7 + 1)))
def nthB (l : List (Int × Int)) (t : Dt) : Bool := l.any (nthOne t)
theorem nthB_cons (x : Int × Int) (l : List (Int × Int)) (t : Dt) : nthB (x :: l) t = (nthOne t x || nthB l t) := by unfold nthB; rw [List.any_cons]
def rightB (r : R) (s t : Dt) : Bool :=
  if r.bm ≠ [] ∧ memB r.bm t.m = false then false
  else if r.bd ≠ [] ∧ memB r.bd t.d = false ∧ memB r.bd (t.d - lenI t.y t.m - 1) = false then false
  else if r.bw ≠ [] then nthB r.bw t
  else if r.freq = 2 then decide (t.w = s.w)
  else if r.bd ≠ [] ∨ r.freq = 1 then true
  else if t.d ≠ s.d then false
  else decide (r.freq = 3 ∨ r.bm ≠ [] ∨ t.m = s.m)
def per (r : R) (s t : Dt) : Int :=
  if r.freq = 1 then t.n - s.n else if r.freq = 2 then (t.n - s.n + (s.w - r.start + 7) % 7) / 7
  else if r.freq = 3 then 12 * (t.y - s.y) + t.m - s.m else t.y - s.y
def okPos (r : R) (len i : Nat) : Bool := memB r.bs ((i : Int) + 1) || memB r.bs ((i : Int) - len)
def keptTo (r : R) (l : List Int) : Nat → List Int
  | 0 => []
  | i + 1 => keptTo r l i ++ (if okPos r l.length i then [l.getD i 0] else [])
def keptL (r : R) (l : List Int) : List Int := if r.bs = [] then l else keptTo r l l.length
def beg (r : R) (s : Dt) : Int :=
  if r.freq = 1 then s.n else if r.freq = 2 then max 0 (s.n - (s.w - r.start + 7) % 7) else if r.freq = 3 then s.n - s.d + 1 else numI s.y 1 1
def stampOf (start x : Int) : Int := x * 1440 + start % 1440
def skips (r : R) (s : Dt) (start below : Int) (out : List Int) (x : Int) : Prop :=
  x < s.n ∨ below ≤ x ∨ (0 ≤ r.until_ ∧ r.until_ < stampOf start x) ∨ (0 < r.count ∧ (out.length : Int) = r.count)
instance (r : R) (s : Dt) (start below : Int) (out : List Int) (x : Int) : Decidable (skips r s start below out x) := by unfold skips; infer_instance
def addOne (r : R) (s : Dt) (start below : Int) (out : List Int) (x : Int) : List Int := if skips r s start below out x then out else out ++ [stampOf start x]
def addAll (r : R) (s : Dt) (start below : Int) (out days : List Int) : List Int := days.foldl (addOne r s start below) out
noncomputable def flush (r : R) (s : Dt) (n : Nat) (last : Int) : Prop := (if n < 109938 then per r s (dt n) else 0) ≠ last ∨ n = 109938
noncomputable instance (r : R) (s : Dt) (n : Nat) (last : Int) : Decidable (flush r s n last) := by unfold flush; infer_instance
noncomputable def good (r : R) (s : Dt) (n : Nat) : Prop := n < 109938 ∧ per r s (dt n) % r.iv = 0 ∧ rightB r s (dt n) = true
noncomputable instance (r : R) (s : Dt) (n : Nat) : Decidable (good r s n) := by unfold good; infer_instance
noncomputable def run (r : R) (s : Dt) (start below : Int) : Nat → Nat → List Int → List Int → Int → List Int
  | 0, _, out, _, _ => out
  | f + 1, n, out, l, last =>
    if flush r s n last then
      (if below ≤ n then addAll r s start below out (keptL r l)
       else run r s start below f (n + 1) (addAll r s start below out (keptL r l)) (if good r s n then [(n : Int)] else []) (if n < 109938 then per r s (dt n) else 0))
    else run r s start below f (n + 1) out (if good r s n then l ++ [(n : Int)] else l) last
noncomputable def timesL (r : R) (start below : Int) : List Int :=
  if Qr.mayP r ∧ 0 ≤ start ∧ start < 158310720 then
    run r (dt (start / 1440).toNat) start below (109939 - (beg r (dt (start / 1440).toNat)).toNat) (beg r (dt (start / 1440).toNat)).toNat [] [] 0
  else []
end Go.Proofs.YtfjmofefciopmaaGreat.Tm
end
section
namespace Zn
def kI (z : Z) (l : Int) : Int := kindI z l (np z l)
def u2I (z : Z) (l : Int) : Int := l - z.o (np z l)
theorem kinds (z : Z) (l : Int) : kI z l = 0 ∨ kI z l = 1 ∨ kI z l = 2 := by
  unfold kI kindI; split <;> (try split) <;> (try split) <;> simp
theorem kind1 {z : Z} {l : Int} (h : kI z l = 1) : np z l < z.n ∧ z.t (np z l) + ah z (np z l) ≤ l ∧ l < z.t (np z l) + z.o (np z l) := by
  have hp := np_le z l
  have hy := np_yes (z := z) (l := l)
  unfold kI kindI at h
  split at h
  · omega
  · split at h
    · have := hy (by omega); omega
    · split at h <;> omega
theorem kind2 {z : Z} {l : Int} (h : kI z l = 2) : np z l < z.n ∧ l < z.t (np z l) + ah z (np z l) ∧ z.t (np z l) + z.o (np z l) ≤ l := by
  have hp := np_le z l
  unfold kI kindI at h
  split at h
  · omega
  · split at h
    · omega
    · split at h <;> omega
theorem kind0 {z : Z} {l : Int} (h : kI z l = 0) : np z l = z.n ∨ (l < z.t (np z l) + ah z (np z l) ∧ l < z.t (np z l) + z.o (np z l)) := by
  unfold kI kindI at h
  split at h
  · left; assumption
  · right
    split at h
    · omega
    · split at h <;> omega
theorem comes2 {z : Z} (hz : mayP z) (l u : Int) : u + off z u = l ↔ (kI z l ≠ 1 ∧ u = atI z l) ∨ (kI z l = 2 ∧ u = u2I z l) := by
  rw [comes hz]
  have hp := np_le z l
  have h1 := kind1 (z := z) (l := l)
  have h2 := kind2 (z := z) (l := l)
  have h0 := kind0 (z := z) (l := l)
  have hy := np_yes (z := z) (l := l)
  rcases kinds z l with h | h | h
  · have := h0 h; unfold atI u2I; omega
  · have := h1 h; unfold atI u2I; omega
  · have := h2 h; unfold atI u2I; omega
theorem kind_lt {z : Z} {l : Int} (h : kI z l = 2) : atI z l < u2I z l := by
  have := kind2 h; unfold atI u2I; omega
theorem at_bd {z : Z} (hz : mayP z) (l : Int) : l - 900 ≤ atI z l ∧ atI z l ≤ l + 900 := by
  have := ah_bd hz (np z l) (np_le z l); unfold atI; omega
theorem u2_bd {z : Z} (hz : mayP z) {l : Int} (h : kI z l = 2) : l - 900 ≤ u2I z l ∧ u2I z l ≤ l + 900 := by
  have := o_bd hz (kind2 h).1; unfold u2I; omega
def manyI (k u1 u2 u : Int) : Int := if k = 1 then 0 else (if u1 < u then 1 else 0) + (if k = 2 ∧ u2 < u then 1 else 0)
def fstI (k u1 u : Int) : Int := if k ≠ 1 ∧ u1 < u then u1 else 0
theorem many_bd (k u1 u2 u : Int) : 0 ≤ manyI k u1 u2 u ∧ manyI k u1 u2 u ≤ 2 := by
  unfold manyI; split <;> (try split) <;> (try split) <;> omega
theorem many_no {k u1 u2 u : Int} (h : ¬ ((k ≠ 1 ∧ u = u1) ∨ (k = 2 ∧ u = u2))) : manyI k u1 u2 (u + 1) = manyI k u1 u2 u ∧ fstI k u1 (u + 1) = fstI k u1 u := by
  have e1 : k ≠ 1 → (u1 < u + 1 ↔ u1 < u) := fun h1 => by constructor <;> intro _ <;> omega
  have e2 : k = 2 → (u2 < u + 1 ↔ u2 < u) := fun h1 => by constructor <;> intro _ <;> omega
  unfold manyI fstI
  by_cases hk : k = 1
  · simp [hk]
  · by_cases hk2 : k = 2
    · rw [if_neg hk, if_neg hk]; simp only [e1 hk, e2 hk2]; exact ⟨trivial, trivial⟩
    · rw [if_neg hk, if_neg hk]; simp only [e1 hk, hk2, false_and]; exact ⟨trivial, trivial⟩
theorem many_first {k u1 u2 u : Int} (hlt : k = 2 → u1 < u2) (h : (k ≠ 1 ∧ u = u1) ∨ (k = 2 ∧ u = u2)) (h0 : manyI k u1 u2 u = 0) : manyI k u1 u2 (u + 1) = 1 ∧ fstI k u1 (u + 1) = u := by
  unfold manyI at h0 ⊢
  unfold fstI
  by_cases hk : k = 1
  · omega
  · rw [if_neg hk] at h0 ⊢
    by_cases hk2 : k = 2
    · have := hlt hk2
      by_cases a : u1 < u
      · rw [if_pos a] at h0; split at h0 <;> omega
      · have e : u = u1 := by omega
        subst e
        rw [if_pos (by omega), if_neg (by omega), if_pos ⟨hk, by omega⟩]; exact ⟨rfl, rfl⟩
    · have e : u = u1 := by omega
      subst e
      rw [if_pos (by omega), if_neg (by omega), if_pos ⟨hk, by omega⟩]; exact ⟨rfl, rfl⟩
theorem many_more {k u1 u2 u : Int} (hlt : k = 2 → u1 < u2) (h : (k ≠ 1 ∧ u = u1) ∨ (k = 2 ∧ u = u2)) (h0 : manyI k u1 u2 u ≠ 0) : manyI k u1 u2 (u + 1) = manyI k u1 u2 u + 1 ∧ fstI k u1 (u + 1) = fstI k u1 u := by
  unfold manyI at h0 ⊢
  unfold fstI
  by_cases hk : k = 1
  · rw [if_pos hk] at h0; omega
  · rw [if_neg hk] at h0 ⊢
    rw [if_neg hk]
    by_cases hk2 : k = 2
    · have := hlt hk2
      by_cases a : u1 < u
      · have e : u = u2 := by omega
        subst e
        rw [if_pos (by omega), if_pos ⟨hk2, by omega⟩, if_pos a, if_neg (by omega), if_pos ⟨hk, by omega⟩, if_pos ⟨hk, a⟩]; exact ⟨by omega, rfl⟩
      · rw [if_neg a, if_neg (by omega)] at h0; omega
    · have e : u = u1 := by omega
      subst e
      rw [if_neg (by omega), if_neg (by omega)] at h0; omega
theorem many_start {k u1 u2 u : Int} (h1 : u ≤ u1) (h2 : k = 2 → u ≤ u2) : manyI k u1 u2 u = 0 ∧ fstI k u1 u = 0 := by
  unfold manyI fstI
  rw [if_neg (c := k ≠ 1 ∧ u1 < u) (by omega)]
  split
  · exact ⟨rfl, rfl⟩
  · rw [if_neg (by omega), if_neg (by omega)]; exact ⟨rfl, rfl⟩
theorem many_end {k u1 u2 u : Int} (h1 : u1 < u) (h2 : k = 2 → u2 < u) : manyI k u1 u2 u = (if k = 1 then 0 else if k = 2 then 2 else 1) ∧ fstI k u1 u = (if k = 1 then 0 else u1) := by
  unfold manyI fstI
  by_cases hk : k = 1
  · simp [hk]
  · have e1 : k ≠ 1 ∧ u1 < u := ⟨hk, h1⟩
    by_cases hk2 : k = 2
    · have e2 : k = 2 ∧ u2 < u := ⟨hk2, h2 hk2⟩
      simp [e1, e2, hk2, h1]
    · simp [e1, hk2, hk, h1]
def gapI (z : Z) (l : Int) (i : Nat) : Int := if kI z l = 1 then (if np z l < i then atI z l else 0) else atI z l
theorem gap_no {z : Z} (hz : mayP z) {l : Int} {i : Nat} (hi : i < z.n) (h : ¬ (z.t i + ah z i ≤ l ∧ l < z.t i + z.o i)) : gapI z l (i + 1) = gapI z l i := by
  unfold gapI
  by_cases hk : kI z l = 1
  · have h1 := kind1 hk
    have : i ≠ np z l := fun e => by subst e; exact h ⟨h1.2.1, h1.2.2⟩
    have e1 : (np z l < i + 1 ↔ np z l < i) := by omega
    simp only [e1]
  · rw [if_neg hk, if_neg hk]
theorem gap_yes {z : Z} (hz : mayP z) {l : Int} {i : Nat} (hi : i < z.n) (hk : kI z l = 1) (h : z.t i + ah z i ≤ l ∧ l < z.t i + z.o i) : gapI z l (i + 1) = l - ah z i := by
  have h1 := kind1 hk
  have e : i = np z l := by
    rcases Nat.lt_trichotomy i (np z l) with h2 | h2 | h2
    · have := np_no h2; omega
    · exact h2
    · have g := gap' hz h2 hi
      have a := ah_bd hz i (by omega)
      have b := o_bd hz h1.1
      omega
  unfold gapI atI
  rw [if_pos hk, if_pos (by omega), e]
theorem gap_ne {z : Z} {l : Int} {i : Nat} (h : kI z l ≠ 1) : gapI z l (i + 1) = gapI z l i := by unfold gapI; rw [if_neg h, if_neg h]
theorem gap_end {z : Z} {l : Int} : gapI z l z.n = atI z l := by
  unfold gapI
  by_cases hk : kI z l = 1
  · rw [if_pos hk, if_pos (kind1 hk).1]
  · rw [if_neg hk]
theorem gap_start {z : Z} {l : Int} : gapI z l 0 = (if kI z l = 1 then 0 else atI z l) := by
  unfold gapI
  rw [if_neg (Nat.not_lt_zero _)]
end Zn
end
