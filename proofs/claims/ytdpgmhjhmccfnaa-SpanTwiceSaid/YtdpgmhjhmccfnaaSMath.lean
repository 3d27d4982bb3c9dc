/- Plain mathematics of rows of minutes: a row in its form is told by its minutes; the document's rows by their edges. -/
namespace Sp
abbrev Spn := Int × Int
/-- Is a minute in a row? -/
def has (l : List Spn) (m : Int) : Prop := ∃ s ∈ l, s.1 ≤ m ∧ m < s.2
/-- Is a row in its form, all of it from lo on (behind, if it isn't the first one)? -/
def formFrom (lo : Int) : List Spn → Prop
  | [] => True
  | s :: r => lo < s.1 ∧ s.1 < s.2 ∧ formFrom s.2 r
def form : List Spn → Prop
  | [] => True
  | s :: r => s.1 < s.2 ∧ formFrom s.2 r
theorem formFrom_form {lo : Int} {l : List Spn} (h : formFrom lo l) : form l := by
  cases l with
  | nil => trivial
  | cons s r => exact ⟨h.2.1, h.2.2⟩
theorem formFrom_mono {lo lo' : Int} {l : List Spn} (h : formFrom lo l) (hl : lo' ≤ lo) : formFrom lo' l := by
  cases l with
  | nil => trivial
  | cons s r => exact ⟨by have := h.1; omega, h.2⟩
theorem has_nil (m : Int) : ¬ has [] m := by rintro ⟨s, hs, _⟩; cases hs
theorem has_cons (s : Spn) (r : List Spn) (m : Int) : has (s :: r) m ↔ (s.1 ≤ m ∧ m < s.2) ∨ has r m := by
  constructor
  · rintro ⟨t, ht, h⟩
    rcases List.mem_cons.1 ht with rfl | ht
    · exact .inl h
    · exact .inr ⟨t, ht, h⟩
  · rintro (h | ⟨t, ht, h⟩)
    · exact ⟨s, List.mem_cons_self, h⟩
    · exact ⟨t, List.mem_cons_of_mem _ ht, h⟩
theorem has_append (a b : List Spn) (m : Int) : has (a ++ b) m ↔ has a m ∨ has b m := by
  induction a with
  | nil => simp [has_nil]
  | cons s r ih => rw [List.cons_append, has_cons, has_cons, ih, or_assoc]
theorem has_above {lo : Int} {l : List Spn} (h : formFrom lo l) {m : Int} (hm : has l m) : lo < m := by
  induction l generalizing lo with
  | nil => exact absurd hm (has_nil m)
  | cons s r ih =>
    rcases (has_cons s r m).1 hm with h1 | h1
    · have := h.1; omega
    · have := ih h.2.2 h1
      have := h.1
      have := h.2.1
      omega
/-- A row in its form is told by its minutes. -/
theorem form_unique : ∀ (a b : List Spn), form a → form b → (∀ m, has a m ↔ has b m) → a = b
  | [], [], _, _, _ => rfl
  | [], s :: r, _, hb, h => absurd ((h s.1).2 ((has_cons s r s.1).2 (.inl ⟨Int.le_refl _, hb.1⟩))) (has_nil _)
  | s :: r, [], ha, _, h => absurd ((h s.1).1 ((has_cons s r s.1).2 (.inl ⟨Int.le_refl _, ha.1⟩))) (has_nil _)
  | s :: r, t :: q, ha, hb, h => by
    have fs : s.1 ≤ t.1 := by
      have := (h t.1).2 ((has_cons t q t.1).2 (.inl ⟨Int.le_refl _, hb.1⟩))
      rcases (has_cons s r t.1).1 this with h1 | h1
      · exact h1.1
      · have := has_above ha.2 h1; have := ha.1; omega
    have ft : t.1 ≤ s.1 := by
      have := (h s.1).1 ((has_cons s r s.1).2 (.inl ⟨Int.le_refl _, ha.1⟩))
      rcases (has_cons t q s.1).1 this with h1 | h1
      · exact h1.1
      · have := has_above hb.2 h1; have := hb.1; omega
    have e1 : s.1 = t.1 := by omega
    have key : ∀ (s t : Spn) (r q : List Spn), s.1 < s.2 → formFrom s.2 r → t.1 < t.2 → formFrom t.2 q → s.1 = t.1 → (∀ m, has (s :: r) m → has (t :: q) m) → s.2 ≤ t.2 := by
      intro s t r q a1 a2 b1 b2 e hh
      rcases Int.lt_or_le t.2 s.2 with h1 | h1
      · have := hh t.2 ((has_cons s r t.2).2 (.inl ⟨by omega, h1⟩))
        rcases (has_cons t q t.2).1 this with h2 | h2
        · omega
        · have := has_above b2 h2; omega
      · exact h1
    have e2 : s.2 = t.2 := by
      have x := key s t r q ha.1 ha.2 hb.1 hb.2 e1 (fun m => (h m).1)
      have y := key t s q r hb.1 hb.2 ha.1 ha.2 e1.symm (fun m => (h m).2)
      omega
    have es : s = t := Prod.ext e1 e2
    subst es
    congr 1
    refine form_unique r q (formFrom_form ha.2) (formFrom_form hb.2) fun m => ?_
    constructor
    · intro hm
      have hl := has_above ha.2 hm
      rcases (has_cons s q m).1 ((h m).1 ((has_cons s r m).2 (.inr hm))) with h1 | h1
      · omega
      · exact h1
    · intro hm
      have hl := has_above hb.2 hm
      rcases (has_cons s r m).1 ((h m).2 ((has_cons s q m).2 (.inr hm))) with h1 | h1
      · omega
      · exact h1

/-- Rising, all behind lo. -/
def risesFrom (lo : Int) : List Int → Prop
  | [] => True
  | x :: r => lo < x ∧ risesFrom x r
def rises : List Int → Prop
  | [] => True
  | x :: r => risesFrom x r
/-- A row of those pieces between edges of which it is said. -/
def bld (p : Int → Bool) : List Int → List Spn
  | [] => []
  | [_] => []
  | x :: y :: r =>
    if p x then
      match bld p (y :: r) with
      | [] => [(x, y)]
      | s :: q => if s.1 = y then (x, s.2) :: q else (x, y) :: s :: q
    else bld p (y :: r)
theorem bld_start (p : Int → Bool) : ∀ (e : List Int) (x : Int), risesFrom x e → form (bld p (x :: e)) ∧ ∀ s ∈ (bld p (x :: e)).head?, x ≤ s.1
  | [], x, _ => ⟨trivial, by intro s hs; cases hs⟩
  | y :: r, x, h => by
    obtain ⟨ih1, ih2⟩ := bld_start p r y h.2
    have hxy := h.1
    rw [show bld p (x :: y :: r) = if p x then (match bld p (y :: r) with | [] => [(x, y)] | s :: q => if s.1 = y then (x, s.2) :: q else (x, y) :: s :: q) else bld p (y :: r) from rfl]
    by_cases hp : p x = true
    · rw [if_pos hp]
      cases hb : bld p (y :: r) with
      | nil => exact ⟨⟨hxy, trivial⟩, by intro s hs; simp at hs; subst hs; exact Int.le_refl _⟩
      | cons s q =>
        rw [hb] at ih1 ih2
        have hs := ih2 s (by simp)
        simp only
        by_cases he : s.1 = y
        · rw [if_pos he]
          refine ⟨⟨by have := ih1.1; show x < s.2; omega, ih1.2⟩, by intro t ht; simp at ht; subst ht; exact Int.le_refl _⟩
        · rw [if_neg he]
          refine ⟨⟨hxy, ⟨by show y < s.1; omega, ih1.1, ih1.2⟩⟩, by intro t ht; simp at ht; subst ht; exact Int.le_refl _⟩
    · rw [if_neg hp]
      exact ⟨ih1, fun s hs => by have := ih2 s hs; omega⟩
theorem bld_has (p : Int → Bool) : ∀ (e : List Int) (x : Int), risesFrom x e → ∀ m, has (bld p (x :: e)) m ↔ ∃ a b, (∃ l r, x :: e = l ++ a :: b :: r) ∧ p a = true ∧ a ≤ m ∧ m < b
  | [], x, _, m => by
    constructor
    · intro h; exact absurd h (has_nil m)
    · rintro ⟨a, b, ⟨l, r, h⟩, _⟩
      have := congrArg List.length h
      simp at this
      omega
  | y :: r, x, h, m => by
    have ih := bld_has p r y h.2 m
    have hs := bld_start p r y h.2
    have split : (∃ a b, (∃ l q, x :: y :: r = l ++ a :: b :: q) ∧ p a = true ∧ a ≤ m ∧ m < b) ↔ (p x = true ∧ x ≤ m ∧ m < y) ∨ ∃ a b, (∃ l q, y :: r = l ++ a :: b :: q) ∧ p a = true ∧ a ≤ m ∧ m < b := by
      constructor
      · rintro ⟨a, b, ⟨l, q, e⟩, hp⟩
        cases l with
        | nil =>
          simp only [List.nil_append, List.cons.injEq] at e
          obtain ⟨rfl, rfl, _⟩ := e
          exact .inl hp
        | cons z l =>
          simp only [List.cons_append, List.cons.injEq] at e
          exact .inr ⟨a, b, ⟨l, q, e.2⟩, hp⟩
      · rintro (hp | ⟨a, b, ⟨l, q, e⟩, hp⟩)
        · exact ⟨x, y, ⟨[], r, rfl⟩, hp⟩
        · exact ⟨a, b, ⟨x :: l, q, by rw [e]; rfl⟩, hp⟩
    rw [split, ← ih]
    rw [show bld p (x :: y :: r) = if p x then (match bld p (y :: r) with | [] => [(x, y)] | s :: q => if s.1 = y then (x, s.2) :: q else (x, y) :: s :: q) else bld p (y :: r) from rfl]
    have hxy := h.1
    by_cases hp : p x = true
    · rw [if_pos hp]
      cases hb : bld p (y :: r) with
      | nil => simp [has_cons, has_nil, hp]
      | cons s q =>
        rw [hb] at hs
        simp only
        by_cases he : s.1 = y
        · rw [if_pos he, has_cons, has_cons]
          have := hs.1.1
          simp only [hp, true_and]
          constructor
          · rintro (h1 | h1)
            · by_cases h2 : m < y
              · exact .inl ⟨h1.1, h2⟩
              · exact .inr (.inl ⟨by omega, h1.2⟩)
            · exact .inr (.inr h1)
          · rintro (h1 | h1 | h1)
            · exact .inl ⟨h1.1, by omega⟩
            · exact .inl ⟨by omega, h1.2⟩
            · exact .inr h1
        · rw [if_neg he, has_cons]; simp [hp]
    · rw [if_neg hp]; simp [hp]
/-- Where the edges are all ends of a row, whether a minute is in it is told by the edge ahead of it. -/
theorem piece {s : Spn} {e l r : List Int} {x a b m : Int} (he : x :: e = l ++ a :: b :: r) (hr : risesFrom x e) (h1 : s.1 ∈ x :: e) (h2 : s.2 ∈ x :: e) (ha : a ≤ m) (hb : m < b) : (s.1 ≤ a ∧ a < s.2) ↔ (s.1 ≤ m ∧ m < s.2) := by
  have side : ∀ z, z ∈ x :: e → z ≤ a ∨ b ≤ z := by
    clear h1 h2 ha hb
    induction l generalizing x e with
    | nil =>
      intro z hz
      simp only [List.nil_append, List.cons.injEq] at he
      obtain ⟨rfl, rfl⟩ := he
      rcases List.mem_cons.1 hz with rfl | hz
      · exact .inl (Int.le_refl _)
      · right
        rcases List.mem_cons.1 hz with rfl | hz
        · exact Int.le_refl _
        · exact Int.le_of_lt (above hr.2 z hz)
    | cons y l ih =>
      intro z hz
      simp only [List.cons_append, List.cons.injEq] at he
      obtain ⟨rfl, he⟩ := he
      cases e with
      | nil => cases l <;> simp at he
      | cons y e =>
        rcases List.mem_cons.1 hz with rfl | hz
        · left
          have : a ∈ y :: e := by rw [he]; simp
          exact Int.le_of_lt (above hr a this)
        · exact ih he hr.2 z hz
  rcases side s.1 h1 with p | p <;> rcases side s.2 h2 with q | q <;> omega
where
  above {x : Int} {e : List Int} (h : risesFrom x e) : ∀ z ∈ e, x < z := by
    induction e generalizing x with
    | nil => intro z hz; cases hz
    | cons y e ih =>
      intro z hz
      rcases List.mem_cons.1 hz with rfl | hz
      · exact h.1
      · have := ih h.2 z hz; have := h.1; omega
end Sp
