
/- Plain mathematics of rows of minutes: a row in its form is told by its minutes; the document's rows by their edges. -/
section
namespace Sp
abbrev Spn := Int × Int
/-- Is a minute in a row? -/
def has (l : List Spn) (m : Int) : Prop := ∃ s ∈ l, s.1 ≤ m ∧ m < s.2
/-- Is a row in its form, all of it from lo on (behind, if it isn't the first one)? -/
def formFrom (lo : Int) : List Spn → Prop
  | [] => True
  | s :: r => lo < s.1 ∧ s.1 < s.2 ∧ formFrom s.2 r
def form : List Spn → Prop
  | [] => True
  | s :: r => s.1 < s.2 ∧ formFrom s.2 r
theorem formFrom_form {lo : Int} {l : List Spn} (h : formFrom lo l) : form l := by
  cases l with
  | nil => trivial
  | cons s r => exact ⟨h.2.1, h.2.2⟩
theorem has_nil (m : Int) : ¬ has [] m := by rintro ⟨s, hs, _⟩; cases hs
theorem has_cons (s : Spn) (r : List Spn) (m : Int) : has (s :: r) m ↔ (s.1 ≤ m ∧ m < s.2) ∨ has r m := by
  constructor
  · rintro ⟨t, ht, h⟩
    rcases List.mem_cons.1 ht with rfl | ht
    · exact .inl h
    · exact .inr ⟨t, ht, h⟩
  · rintro (h | ⟨t, ht, h⟩)
    · exact ⟨s, List.mem_cons_self, h⟩
    · exact ⟨t, List.mem_cons_of_mem _ ht, h⟩
theorem has_append (a b : List Spn) (m : Int) : has (a ++ b) m ↔ has a m ∨ has b m := by
  induction a with
  | nil => simp [has_nil]
  | cons s r ih => rw [List.cons_append, has_cons, has_cons, ih, or_assoc]
theorem has_above {lo : Int} {l : List Spn} (h : formFrom lo l) {m : Int} (hm : has l m) : lo < m := by
  induction l generalizing lo with
  | nil => exact absurd hm (has_nil m)
  | cons s r ih =>
    rcases (has_cons s r m).1 hm with h1 | h1
    · have := h.1; omega
    · have := ih h.2.2 h1
      have := h.1
      have := h.2.1
      omega
/-- A row in its form is told by its minutes. -/
theorem form_unique : ∀ (a b : List Spn), form a → form b → (∀ m, has a m ↔ has b m) → a = b
  | [], [], _, _, _ => rfl
  | [], s :: r, _, hb, h => absurd ((h s.1).2 ((has_cons s r s.1).2 (.inl ⟨Int.le_refl _, hb.1⟩))) (has_nil _)
  | s :: r, [], ha, _, h => absurd ((h s.1).1 ((has_cons s r s.1).2 (.inl ⟨Int.le_refl _, ha.1⟩))) (has_nil _)
  | s :: r, t :: q, ha, hb, h => by
    have fs : s.1 ≤ t.1 := by
      have := (h t.1).2 ((has_cons t q t.1).2 (.inl ⟨Int.le_refl _, hb.1⟩))
      rcases (has_cons s r t.1).1 this with h1 | h1
      · exact h1.1
      · have := has_above ha.2 h1; have := ha.1; omega
    have ft : t.1 ≤ s.1 := by
      have := (h s.1).1 ((has_cons s r s.1).2 (.inl ⟨Int.le_refl _, ha.1⟩))
      rcases (has_cons t q s.1).1 this with h1 | h1
      · exact h1.1
      · have := has_above hb.2 h1; have := hb.1; omega
    have e1 : s.1 = t.1 := by omega
    have key : ∀ (s t : Spn) (r q : List Spn), s.1 < s.2 → formFrom s.2 r → t.1 < t.2 → formFrom t.2 q → s.1 = t.1 → (∀ m, has (s :: r) m → has (t :: q) m) → s.2 ≤ t.2 := by
      intro s t r q a1 a2 b1 b2 e hh
      rcases Int.lt_or_le t.2 s.2 with h1 | h1
      · have := hh t.2 ((has_cons s r t.2).2 (.inl ⟨by omega, h1⟩))
        rcases (has_cons t q t.2).1 this with h2 | h2
        · omega
        · have := has_above b2 h2; omega
      · exact h1
    have e2 : s.2 = t.2 := by
      have x := key s t r q ha.1 ha.2 hb.1 hb.2 e1 (fun m => (h m).1)
      have y := key t s q r hb.1 hb.2 ha.1 ha.2 e1.symm (fun m => (h m).2)
      omega
    have es : s = t := Prod.ext e1 e2
    subst es
    congr 1
    refine form_unique r q (formFrom_form ha.2) (formFrom_form hb.2) fun m => ?_
    constructor
    · intro hm
      have hl := has_above ha.2 hm
      rcases (has_cons s q m).1 ((h m).1 ((has_cons s r m).2 (.inr hm))) with h1 | h1
      · omega
      · exact h1
    · intro hm
      have hl := has_above hb.2 hm
      rcases (has_cons s r m).1 ((h m).2 ((has_cons s q m).2 (.inr hm))) with h1 | h1
      · omega
      · exact h1
/-- Rising, all behind lo. -/
def risesFrom (lo : Int) : List Int → Prop
  | [] => True
  | x :: r => lo < x ∧ risesFrom x r
def rises : List Int → Prop
  | [] => True
  | x :: r => risesFrom x r
/-- A row of those pieces between edges of which it is said. -/
def bld (p : Int → Bool) : List Int → List Spn
  | [] => []
  | [_] => []
  | x :: y :: r =>
    if p x then
      match bld p (y :: r) with
      | [] => [(x, y)]
      | s :: q => if s.1 = y then (x, s.2) :: q else (x, y) :: s :: q
    else bld p (y :: r)
theorem bld_start (p : Int → Bool) : ∀ (e : List Int) (x : Int), risesFrom x e → form (bld p (x :: e)) ∧ ∀ s ∈ (bld p (x :: e)).head?, x ≤ s.1
  | [], x, _ => ⟨trivial, by intro s hs; cases hs⟩
  | y :: r, x, h => by
    obtain ⟨ih1, ih2⟩ := bld_start p r y h.2
    have hxy := h.1
    rw [show bld p (x :: y :: r) = if p x then (match bld p (y :: r) with | [] => [(x, y)] | s :: q => if s.1 = y then (x, s.2) :: q else (x, y) :: s :: q) else bld p (y :: r) from rfl]
    by_cases hp : p x = true
    · rw [if_pos hp]
      cases hb : bld p (y :: r) with
      | nil => exact ⟨⟨hxy, trivial⟩, by intro s hs; simp at hs; subst hs; exact Int.le_refl _⟩
      | cons s q =>
        rw [hb] at ih1 ih2
        have hs := ih2 s (by simp)
        simp only
        by_cases he : s.1 = y
        · rw [if_pos he]
          refine ⟨⟨by have := ih1.1; show x < s.2; omega, ih1.2⟩, by intro t ht; simp at ht; subst ht; exact Int.le_refl _⟩
        · rw [if_neg he]
          refine ⟨⟨hxy, ⟨by show y < s.1; omega, ih1.1, ih1.2⟩⟩, by intro t ht; simp at ht; subst ht; exact Int.le_refl _⟩
    · rw [if_neg hp]
      exact ⟨ih1, fun s hs => by have := ih2 s hs; omega⟩
theorem bld_has (p : Int → Bool) : ∀ (e : List Int) (x : Int), risesFrom x e → ∀ m, has (bld p (x :: e)) m ↔ ∃ a b, (∃ l r, x :: e = l ++ a :: b :: r) ∧ p a = true ∧ a ≤ m ∧ m < b
  | [], x, _, m => by
    constructor
    · intro h; exact absurd h (has_nil m)
    · rintro ⟨a, b, ⟨l, r, h⟩, _⟩
      have := congrArg List.length h
      simp at this
      omega
  | y :: r, x, h, m => by
    have ih := bld_has p r y h.2 m
    have hs := bld_start p r y h.2
    have split : (∃ a b, (∃ l q, x :: y :: r = l ++ a :: b :: q) ∧ p a = true ∧ a ≤ m ∧ m < b) ↔ (p x = true ∧ x ≤ m ∧ m < y) ∨ ∃ a b, (∃ l q, y :: r = l ++ a :: b :: q) ∧ p a = true ∧ a ≤ m ∧ m < b := by
      constructor
      · rintro ⟨a, b, ⟨l, q, e⟩, hp⟩
        cases l with
        | nil =>
          simp only [List.nil_append, List.cons.injEq] at e
          obtain ⟨rfl, rfl, _⟩ := e
          exact .inl hp
        | cons z l =>
          simp only [List.cons_append, List.cons.injEq] at e
          exact .inr ⟨a, b, ⟨l, q, e.2⟩, hp⟩
      · rintro (hp | ⟨a, b, ⟨l, q, e⟩, hp⟩)
        · exact ⟨x, y, ⟨[], r, rfl⟩, hp⟩
        · exact ⟨a, b, ⟨x :: l, q, by rw [e]; rfl⟩, hp⟩
    rw [split, ← ih]
    rw [show bld p (x :: y :: r) = if p x then (match bld p (y :: r) with | [] => [(x, y)] | s :: q => if s.1 = y then (x, s.2) :: q else (x, y) :: s :: q) else bld p (y :: r) from rfl]
    have hxy := h.1
    by_cases hp : p x = true
    · rw [if_pos hp]
      cases hb : bld p (y :: r) with
      | nil => simp [has_cons, has_nil, hp]
      | cons s q =>
        rw [hb] at hs
        simp only
        by_cases he : s.1 = y
        · rw [if_pos he, has_cons, has_cons]
          have := hs.1.1
          simp only [hp, true_and]
          constructor
          · rintro (h1 | h1)
            · by_cases h2 : m < y
              · exact .inl ⟨h1.1, h2⟩
              · exact .inr (.inl ⟨by omega, h1.2⟩)
            · exact .inr (.inr h1)
          · rintro (h1 | h1 | h1)
            · exact .inl ⟨h1.1, by omega⟩
            · exact .inl ⟨by omega, h1.2⟩
            · exact .inr h1
        · rw [if_neg he, has_cons]; simp [hp]
    · rw [if_neg hp]; simp [hp]
/-- Where the edges are all ends of a row, whether a minute is in it is told by the edge ahead of it. -/
theorem piece {s : Spn} {e l r : List Int} {x a b m : Int} (he : x :: e = l ++ a :: b :: r) (hr : risesFrom x e) (h1 : s.1 ∈ x :: e) (h2 : s.2 ∈ x :: e) (ha : a ≤ m) (hb : m < b) : (s.1 ≤ a ∧ a < s.2) ↔ (s.1 ≤ m ∧ m < s.2) := by
  have side : ∀ z, z ∈ x :: e → z ≤ a ∨ b ≤ z := by
    clear h1 h2 ha hb
    induction l generalizing x e with
    | nil =>
      intro z hz
      simp only [List.nil_append, List.cons.injEq] at he
      obtain ⟨rfl, rfl⟩ := he
      rcases List.mem_cons.1 hz with rfl | hz
      · exact .inl (Int.le_refl _)
      · right
        rcases List.mem_cons.1 hz with rfl | hz
        · exact Int.le_refl _
        · exact Int.le_of_lt (above hr.2 z hz)
    | cons y l ih =>
      intro z hz
      simp only [List.cons_append, List.cons.injEq] at he
      obtain ⟨rfl, he⟩ := he
      cases e with
      | nil => cases l <;> simp at he
      | cons y e =>
        rcases List.mem_cons.1 hz with rfl | hz
        · left
          have : a ∈ y :: e := by rw [he]; simp
          exact Int.le_of_lt (above hr a this)
        · exact ih he hr.2 z hz
  rcases side s.1 h1 with p | p <;> rcases side s.2 h2 with q | q <;> omega
where
  above {x : Int} {e : List Int} (h : risesFrom x e) : ∀ z ∈ e, x < z := by
    induction e generalizing x with
    | nil => intro z hz; cases hz
    | cons y e ih =>
      intro z hz
      rcases List.mem_cons.1 hz with rfl | hz
      · exact h.1
      · have := ih h.2 z hz; have := h.1; omega
end Sp
end
/- Plain mathematics of the document's rows: edges, pairs; how many minutes. -/
section
namespace Sp
def hasB (l : List Spn) (m : Int) : Bool := l.any fun s => decide (s.1 ≤ m) && decide (m < s.2)
theorem hasB_iff (l : List Spn) (m : Int) : hasB l m = true ↔ has l m := by
  unfold hasB has
  rw [List.any_eq_true]
  constructor
  · rintro ⟨s, hs, h⟩; exact ⟨s, hs, by simpa using h⟩
  · rintro ⟨s, hs, h⟩; exact ⟨s, hs, by simpa using h⟩
/-- A number among others, rising, each once. -/
def putI : List Int → Int → List Int
  | [], n => [n]
  | x :: r, n => if x < n then x :: putI r n else if x = n then x :: r else n :: x :: r
theorem put_mem (l : List Int) (n z : Int) : z ∈ putI l n ↔ z = n ∨ z ∈ l := by
  induction l with
  | nil => simp [putI]
  | cons x r ih =>
    unfold putI
    split
    · rw [List.mem_cons, ih, List.mem_cons]
      constructor
      · rintro (h | h | h)
        · exact .inr (.inl h)
        · exact .inl h
        · exact .inr (.inr h)
      · rintro (h | h | h)
        · exact .inr (.inl h)
        · exact .inl h
        · exact .inr (.inr h)
    · split
      · rename_i h; subst h; simp
      · simp
theorem put_from (l : List Int) (n lo : Int) (h : risesFrom lo l) (hn : lo < n) : risesFrom lo (putI l n) := by
  induction l generalizing lo with
  | nil => exact ⟨hn, trivial⟩
  | cons x r ih =>
    unfold putI
    split
    · rename_i hx; exact ⟨h.1, ih x h.2 hx⟩
    · split
      · exact h
      · exact ⟨hn, by omega, h.2⟩
theorem put_rises (l : List Int) (n : Int) (h : rises l) : rises (putI l n) := by
  cases l with
  | nil => exact trivial
  | cons x r =>
    unfold putI
    split
    · rename_i hx; exact put_from r n x h hx
    · split
      · exact h
      · exact ⟨by omega, h⟩
def edgS (l : List Int) (s : Spn) : List Int := putI (putI l s.1) s.2
def edg (l : List Int) (a : List Spn) : List Int := a.foldl edgS l
theorem edg_rises (a : List Spn) : ∀ l, rises l → rises (edg l a) := by
  induction a with
  | nil => intro l h; exact h
  | cons s a ih => intro l h; exact ih _ (put_rises _ _ (put_rises _ _ h))
theorem edg_mem (a : List Spn) : ∀ l z, z ∈ edg l a ↔ z ∈ l ∨ ∃ s ∈ a, z = s.1 ∨ z = s.2 := by
  induction a with
  | nil => intro l z; simp [edg]
  | cons s a ih =>
    intro l z
    rw [show edg l (s :: a) = edg (edgS l s) a from rfl, ih]
    unfold edgS
    rw [put_mem, put_mem]
    constructor
    · rintro ((h | h | h) | ⟨t, ht, h⟩)
      · exact .inr ⟨s, List.mem_cons_self, .inr h⟩
      · exact .inr ⟨s, List.mem_cons_self, .inl h⟩
      · exact .inl h
      · exact .inr ⟨t, List.mem_cons_of_mem _ ht, h⟩
    · rintro (h | ⟨t, ht, h⟩)
      · exact .inl (.inr (.inr h))
      · rcases List.mem_cons.1 ht with rfl | ht
        · rcases h with h | h
          · exact .inl (.inr (.inl h))
          · exact .inl (.inl h)
        · exact .inr ⟨t, ht, h⟩
/-- The edges of two rows. -/
def edges (a b : List Spn) : List Int := edg (edg [] a) b
theorem edges_rises (a b : List Spn) : rises (edges a b) := edg_rises b _ (edg_rises a [] trivial)
theorem edges_mem (a b : List Spn) (z : Int) : z ∈ edges a b ↔ ∃ s, (s ∈ a ∨ s ∈ b) ∧ (z = s.1 ∨ z = s.2) := by
  unfold edges
  rw [edg_mem, edg_mem]
  constructor
  · rintro ((h | ⟨s, hs, h⟩) | ⟨s, hs, h⟩)
    · cases h
    · exact ⟨s, .inl hs, h⟩
    · exact ⟨s, .inr hs, h⟩
  · rintro ⟨s, hs | hs, h⟩
    · exact .inl (.inr ⟨s, hs, h⟩)
    · exact .inr ⟨s, hs, h⟩
/-- Of two rows, by what is said of a minute in the one, and in the other. -/
def pair (c : Bool → Bool → Bool) (a b : List Spn) : List Spn := bld (fun z => c (hasB a z) (hasB b z)) (edges a b)
theorem pair_form (c : Bool → Bool → Bool) (a b : List Spn) : form (pair c a b) := by
  unfold pair
  have h := edges_rises a b
  cases he : edges a b with
  | nil => trivial
  | cons x e => rw [he] at h; exact (bld_start _ e x h).1
/-- Between two edges that follow each other lies every minute that has one at or ahead of it, and one behind it. -/
theorem bracket : ∀ (e : List Int) (x m q : Int), risesFrom x e → x ≤ m → q ∈ x :: e → m < q → ∃ a b, (∃ l r, x :: e = l ++ a :: b :: r) ∧ a ≤ m ∧ m < b
  | [], x, m, q, _, h1, hq, h2 => by
    rcases List.mem_cons.1 hq with rfl | hq
    · omega
    · cases hq
  | y :: r, x, m, q, h, h1, hq, h2 => by
    rcases Int.lt_or_le m y with hy | hy
    · exact ⟨x, y, ⟨[], r, rfl⟩, h1, hy⟩
    · have hq' : q ∈ y :: r := by
        rcases List.mem_cons.1 hq with rfl | hq
        · omega
        · exact hq
      obtain ⟨a, b, ⟨l, r', e⟩, h3⟩ := bracket r y m q h.2 hy hq' h2
      exact ⟨a, b, ⟨x :: l, r', by rw [e]; rfl⟩, h3⟩
theorem low_first {x p : Int} {e : List Int} (h : risesFrom x e) (hp : p ∈ x :: e) : x ≤ p := by
  rcases List.mem_cons.1 hp with rfl | hp
  · exact Int.le_refl _
  · exact Int.le_of_lt (piece.above (a := 0) (b := 0) (m := 0) h p hp)
theorem pair_has (c : Bool → Bool → Bool) (hc : c false false = false) (a b : List Spn) (m : Int) : has (pair c a b) m ↔ c (hasB a m) (hasB b m) = true := by
  have hr := edges_rises a b
  have hm := edges_mem a b
  unfold pair
  cases he : edges a b with
  | nil =>
    have no : ∀ l : List Spn, (∀ s ∈ l, s ∈ a ∨ s ∈ b) → hasB l m = false := by
      intro l hl
      cases h : hasB l m with
      | false => rfl
      | true =>
        obtain ⟨s, hs, _⟩ := (hasB_iff l m).1 h
        have := (hm s.1).2 ⟨s, hl s hs, .inl rfl⟩
        rw [he] at this; cases this
    rw [no a (fun s hs => .inl hs), no b (fun s hs => .inr hs), hc]
    simp [bld, has_nil]
  | cons x e =>
    rw [he] at hr hm
    rw [bld_has _ e x hr]
    have told : ∀ (l : List Spn), (∀ s ∈ l, s ∈ a ∨ s ∈ b) → ∀ (u v : Int), (∃ p q, x :: e = p ++ u :: v :: q) → u ≤ m → m < v → hasB l u = hasB l m := by
      rintro l hl u v ⟨p, q, hpq⟩ h1 h2
      rw [Bool.eq_iff_iff, hasB_iff, hasB_iff]
      constructor
      · rintro ⟨s, hs, h⟩
        exact ⟨s, hs, (piece hpq hr ((hm s.1).2 ⟨s, hl s hs, .inl rfl⟩) ((hm s.2).2 ⟨s, hl s hs, .inr rfl⟩) h1 h2).1 h⟩
      · rintro ⟨s, hs, h⟩
        exact ⟨s, hs, (piece hpq hr ((hm s.1).2 ⟨s, hl s hs, .inl rfl⟩) ((hm s.2).2 ⟨s, hl s hs, .inr rfl⟩) h1 h2).2 h⟩
    constructor
    · rintro ⟨u, v, hpq, hp, h1, h2⟩
      rw [← told a (fun s hs => .inl hs) u v hpq h1 h2, ← told b (fun s hs => .inr hs) u v hpq h1 h2]
      exact hp
    · intro h
      have any : ∃ s, (s ∈ a ∨ s ∈ b) ∧ s.1 ≤ m ∧ m < s.2 := by
        cases h1 : hasB a m with
        | true => obtain ⟨s, hs, h2⟩ := (hasB_iff a m).1 h1; exact ⟨s, .inl hs, h2⟩
        | false =>
          cases h3 : hasB b m with
          | true => obtain ⟨s, hs, h2⟩ := (hasB_iff b m).1 h3; exact ⟨s, .inr hs, h2⟩
          | false => rw [h1, h3, hc] at h; cases h
      obtain ⟨s, hs, h1, h2⟩ := any
      have m1 := (hm s.1).2 ⟨s, hs, .inl rfl⟩
      have m2 := (hm s.2).2 ⟨s, hs, .inr rfl⟩
      obtain ⟨u, v, hpq, h3, h4⟩ := bracket e x m s.2 hr (by have := low_first hr m1; omega) m2 h2
      refine ⟨u, v, hpq, ?_, h3, h4⟩
      rw [told a (fun s hs => .inl hs) u v hpq h3 h4, told b (fun s hs => .inr hs) u v hpq h3 h4]
      exact h
/-- The minutes of a row's spans. -/
def len : List Spn → Int
  | [] => 0
  | s :: r => (s.2 - s.1) + len r
end Sp
end
/- Plain mathematics of the document's rows: built piece by piece from the front. -/
section
namespace Sp
theorem bld_two (p : Int → Bool) (x y : Int) (r : List Int) : bld p (x :: y :: r) = if p x then (match bld p (y :: r) with | [] => [(x, y)] | s :: q => if s.1 = y then (x, s.2) :: q else (x, y) :: s :: q) else bld p (y :: r) := rfl
end Sp
end
/- Hours in plain numbers. No text of the program is read here. -/
section
namespace Hr
structure H where
  shifts : List (Int × Int × Int)
  off : List Int
def okS (s : Int × Int × Int) : Prop := 1 ≤ s.1 ∧ s.1 ≤ 127 ∧ 0 ≤ s.2.1 ∧ s.2.1 < s.2.2 ∧ s.2.2 ≤ 1440
instance (s : Int × Int × Int) : Decidable (okS s) := by unfold okS; infer_instance
def okO (l : List Int) (i : Nat) : Prop := 0 ≤ l.getD i 0 ∧ l.getD i 0 ≤ 109937 ∧ (0 < i → l.getD (i - 1) 0 < l.getD i 0)
instance (l : List Int) (i : Nat) : Decidable (okO l i) := by unfold okO; infer_instance
/-- May hours be? -/
def mayH (h : H) : Prop := h.shifts.length ≤ 10 ∧ h.off.length ≤ 60 ∧ (∀ s ∈ h.shifts, okS s) ∧ ∀ i, i < h.off.length → okO h.off i
instance (h : H) : Decidable (mayH h) := by unfold mayH; infer_instance
/-- Is a number's bit 1? -/
def bitB (n : Int) (k : Nat) : Bool := decide ((n / 2 ^ k) % 2 = 1)
def onB (day minute : Int) (s : Int × Int × Int) : Bool := bitB s.1 ((day + 7) % 7).toNat && decide (s.2.1 ≤ minute) && decide (minute < s.2.2)
end Hr
end
/- Plain mathematics of zones: what is added at a minute, the next turn, and of which minutes a local time comes. -/
section
namespace Zn
/-- A zone as plain data: what is added at first, how many turns, when each is, and what is added from it on. -/
structure Z where
  base : Int
  n : Nat
  t : Nat → Int
  o : Nat → Int
def okT (z : Z) (i : Nat) : Prop := -900 ≤ z.o i ∧ z.o i ≤ 900 ∧ 0 ≤ z.t i ∧ z.t i ≤ 158310720 ∧ (0 < i → 2880 ≤ z.t i - z.t (i - 1))
instance (z : Z) (i : Nat) : Decidable (okT z i) := by unfold okT; infer_instance
def mayP (z : Z) : Prop := -900 ≤ z.base ∧ z.base ≤ 900 ∧ z.n ≤ 700 ∧ ∀ i, i < z.n → okT z i
instance (z : Z) : Decidable (mayP z) := by unfold mayP; infer_instance
/-- What is added ahead of the turn at a place. -/
def ah (z : Z) : Nat → Int
  | 0 => z.base
  | p + 1 => z.o p
/-- What is added at a minute, over the first k turns. -/
def offTo (z : Z) (u : Int) : Nat → Int
  | 0 => z.base
  | k + 1 => if z.t k ≤ u then z.o k else offTo z u k
def off (z : Z) (u : Int) : Int := offTo z u z.n
/-- The first place below n at which p says yes; n, if there is none. -/
def first (p : Nat → Bool) : Nat → Nat
  | 0 => 0
  | n + 1 => if first p n < n then first p n else if p n = true then n else n + 1
theorem first_le (p : Nat → Bool) (n : Nat) : first p n ≤ n := by
  induction n with
  | zero => exact Nat.le_refl _
  | succ n ih => unfold first; split <;> (try split) <;> omega
theorem first_no (p : Nat → Bool) (n : Nat) : ∀ i, i < first p n → p i = false := by
  induction n with
  | zero => intro i h; exact absurd h (Nat.not_lt_zero _)
  | succ n ih =>
    intro i h
    have hl := first_le p n
    unfold first at h
    split at h
    · exact ih i h
    · split at h
      · exact ih i (by omega)
      · rename_i h1 h2
        by_cases e : i = n
        · subst e; simpa using h2
        · exact ih i (by omega)
theorem first_yes (p : Nat → Bool) (n : Nat) : first p n < n → p (first p n) = true := by
  induction n with
  | zero => intro h; exact absurd h (Nat.not_lt_zero _)
  | succ n ih =>
    intro h
    have e : first p (n + 1) = if first p n < n then first p n else if p n = true then n else n + 1 := rfl
    rw [e] at h ⊢
    split
    · exact ih (by assumption)
    · rename_i h1
      rw [if_neg h1] at h
      split
      · assumption
      · rename_i h2; rw [if_neg h2] at h; omega
theorem first_eq {p : Nat → Bool} {n q : Nat} (hq : q ≤ n) (h0 : ∀ i, i < q → p i = false) (h1 : q < n → p q = true) : first p n = q := by
  have hl := first_le p n
  rcases Nat.lt_trichotomy (first p n) q with h | h | h
  · have a := first_yes p n (by omega); rw [h0 _ h] at a; cases a
  · exact h
  · have a := first_no p n q h; rw [h1 (by omega)] at a; cases a
def fb (z : Z) (u : Int) : Nat := first (fun i => decide (u < z.t i)) z.n
theorem fb_le (z : Z) (u : Int) : fb z u ≤ z.n := first_le _ _
theorem fb_no {z : Z} {u : Int} {i : Nat} (h : i < fb z u) : z.t i ≤ u := by have := first_no _ _ i h; simpa using this
theorem fb_yes {z : Z} {u : Int} (h : fb z u < z.n) : u < z.t (fb z u) := of_decide_eq_true (first_yes _ _ h)
theorem fb_eq {z : Z} {u : Int} {q : Nat} (hq : q ≤ z.n) (h0 : ∀ i, i < q → z.t i ≤ u) (h1 : q < z.n → u < z.t q) : fb z u = q :=
  first_eq hq (fun i h => by have := h0 i h; simp; omega) (fun h => by have := h1 h; simpa using this)
theorem gap {z : Z} (hz : mayP z) {i : Nat} (d : Nat) (h : i + d + 1 < z.n) : 2880 ≤ z.t (i + d + 1) - z.t i := by
  induction d with
  | zero => have := (hz.2.2.2 (i + 1) (by omega)).2.2.2.2 (by omega); simpa using this
  | succ d ih =>
    have a := ih (by omega)
    have b := (hz.2.2.2 (i + (d + 1) + 1) (by omega)).2.2.2.2 (by omega)
    have e : i + (d + 1) + 1 - 1 = i + d + 1 := by omega
    rw [e] at b
    omega
theorem gap' {z : Z} (hz : mayP z) {i j : Nat} (h : i < j) (hj : j < z.n) : 2880 ≤ z.t j - z.t i := by
  have a := gap hz (i := i) (j - i - 1) (by omega)
  have e : i + (j - i - 1) + 1 = j := by omega
  rwa [e] at a
theorem fb_all {z : Z} (hz : mayP z) {u : Int} {i : Nat} (h : fb z u ≤ i) (hi : i < z.n) : u < z.t i := by
  have a := fb_yes (z := z) (u := u) (by omega)
  by_cases e : fb z u = i
  · rw [e] at a; exact a
  · have := gap' hz (i := fb z u) (j := i) (by omega) hi; omega
theorem ah_bd {z : Z} (hz : mayP z) (p : Nat) (hp : p ≤ z.n) : -900 ≤ ah z p ∧ ah z p ≤ 900 := by
  cases p with
  | zero => exact ⟨hz.1, hz.2.1⟩
  | succ p => have := hz.2.2.2 p (by omega); exact ⟨this.1, this.2.1⟩
theorem o_bd {z : Z} (hz : mayP z) {p : Nat} (hp : p < z.n) : -900 ≤ z.o p ∧ z.o p ≤ 900 := by
  have := hz.2.2.2 p hp; exact ⟨this.1, this.2.1⟩
theorem offTo_eq {z : Z} {u : Int} (q : Nat) (h0 : ∀ i, i < q → z.t i ≤ u) : ∀ k, q ≤ k → (∀ i, q ≤ i → i < k → u < z.t i) → offTo z u k = ah z q := by
  intro k
  induction k with
  | zero =>
    intro hq _
    obtain rfl : q = 0 := by omega
    rfl
  | succ k ih =>
    intro hq h1
    unfold offTo
    by_cases e : q = k + 1
    · subst e
      rw [if_pos (h0 k (by omega))]; rfl
    · have a := h1 k (by omega) (by omega)
      rw [if_neg (by omega)]
      exact ih (by omega) (fun i a b => h1 i a (by omega))
theorem off_eq {z : Z} (hz : mayP z) (u : Int) : off z u = ah z (fb z u) :=
  offTo_eq (fb z u) (fun _ h => fb_no h) z.n (fb_le z u) (fun _ a b => fb_all hz a b)
/-- Whether a local time isn't behind the turn at a place by both clocks. -/
def npB (z : Z) (l : Int) (i : Nat) : Bool := decide (l < z.t i + ah z i) || decide (l < z.t i + z.o i)
def np (z : Z) (l : Int) : Nat := first (npB z l) z.n
theorem np_le (z : Z) (l : Int) : np z l ≤ z.n := first_le _ _
theorem np_no {z : Z} {l : Int} {i : Nat} (h : i < np z l) : z.t i + ah z i ≤ l ∧ z.t i + z.o i ≤ l := by
  have := first_no _ _ i h; unfold npB at this; simp at this; omega
theorem np_yes {z : Z} {l : Int} (h : np z l < z.n) : l < z.t (np z l) + ah z (np z l) ∨ l < z.t (np z l) + z.o (np z l) := by
  have a : npB z l (np z l) = true := first_yes (npB z l) _ h
  unfold npB at a
  simpa using a
/-- OF WHICH MINUTES A LOCAL TIME COMES. -/
theorem comes {z : Z} (hz : mayP z) (l u : Int) :
    u + off z u = l ↔ (u = l - ah z (np z l) ∧ (np z l = z.n ∨ l < z.t (np z l) + ah z (np z l))) ∨ (np z l < z.n ∧ u = l - z.o (np z l) ∧ z.t (np z l) + z.o (np z l) ≤ l) := by
  rw [off_eq hz]
  have hp := np_le z l
  have hy := np_yes (z := z) (l := l)
  have hn := fun i (h : i < np z l) => np_no h
  generalize np z l = p at *
  constructor
  · intro h
    have hq := fb_le z u
    have q1 := fb_yes (z := z) (u := u)
    have q0 := fun i (h : i < fb z u) => fb_no h
    have qb := ah_bd hz _ hq
    generalize fb z u = q at *
    rcases Nat.lt_trichotomy q p with e | e | e
    · have a := hn q e
      have b := q1 (by omega)
      omega
    · subst e
      left
      refine ⟨by omega, ?_⟩
      by_cases e : q = z.n
      · exact .inl e
      · have := q1 (by omega); right; omega
    · by_cases e2 : q = p + 1
      · subst e2
        right
        have a := q0 p (by omega)
        have e3 : ah z (p + 1) = z.o p := rfl
        rw [e3] at h
        exact ⟨by omega, by omega, by omega⟩
      · have a := q0 (p + 1) (by omega)
        have g := gap' hz (i := p) (j := p + 1) (by omega) (by omega)
        have b := ah_bd hz p (by omega)
        have c := o_bd hz (p := p) (by omega)
        have := hy (by omega)
        omega
  · rintro (⟨h1, h2⟩ | ⟨h1, h2, h3⟩)
    · have e : fb z u = p := by
        refine fb_eq hp (fun i hi => ?_) (fun h => by omega)
        have hpp : p = (p - 1) + 1 := by omega
        have e3 : ah z p = z.o (p - 1) := by rw [hpp]; rfl
        have a := hn (p - 1) (by omega)
        by_cases e : i = p - 1
        · subst e; omega
        · have := gap' hz (i := i) (j := p - 1) (by omega) (by omega); omega
      rw [e]; omega
    · have e : fb z u = p + 1 := by
        refine fb_eq (by omega) (fun i hi => ?_) (fun h => ?_)
        · by_cases e : i = p
          · subst e; omega
          · have := gap' hz (i := i) (j := p) (by omega) (by omega); omega
        · have g := gap' hz (i := p) (j := p + 1) (by omega) h
          have b := ah_bd hz p (by omega)
          have c := o_bd hz (p := p) (by omega)
          have := hy (by omega)
          omega
      rw [e]
      have e3 : ah z (p + 1) = z.o p := rfl
      rw [e3]; omega
def atI (z : Z) (l : Int) : Int := l - ah z (np z l)
def hasP (z : Z) (l : Int) : Prop := -900 ≤ l ∧ l ≤ 158311620 ∧ mayP z ∧ 0 ≤ atI z l ∧ atI z l ≤ 158310720
instance (z : Z) (l : Int) : Decidable (hasP z l) := by unfold hasP; infer_instance
end Zn
end
/- Plain mathematics of texts of times. -/
section
namespace Ck
open Zn (first first_le first_no first_yes first_eq)
end Ck
end
/- Plain mathematics of rules: what may be; their texts. -/
section
namespace Qr
open Ck
/-- A rule. -/
structure R where
  freq : Int
  iv : Int
  count : Int
  until_ : Int
  bm : List Int
  bd : List Int
  bw : List (Int × Int)
  bs : List Int
  start : Int
/-- May a number stand in a row, behind another one? -/
def okN (most : Int) (below : Bool) (l : List Int) (i : Nat) : Prop :=
  l.getD i 0 ≤ most ∧ -most ≤ l.getD i 0 ∧ l.getD i 0 ≠ 0 ∧ (below = true ∨ 0 ≤ l.getD i 0) ∧ (i = 0 ∨ l.getD (i - 1) 0 < l.getD i 0)
instance (most : Int) (below : Bool) (l : List Int) (i : Nat) : Decidable (okN most below l i) := by unfold okN; infer_instance
def rowB (most : Int) (below : Bool) (l : List Int) : Bool := (List.range l.length).all fun i => decide (okN most below l i)
/-- May a day stand in a row? -/
def okD (freq : Int) (months : Bool) (l : List (Int × Int)) (i : Nat) : Prop :=
  let d := l.getD i (0, 0)
  0 ≤ d.2 ∧ d.2 ≤ 6 ∧ -5 ≤ d.1 ∧ d.1 ≤ 5 ∧ (d.1 = 0 ∨ (3 ≤ freq ∧ (freq ≠ 4 ∨ months = true))) ∧ (i = 0 ∨ (l.getD (i - 1) (0, 0)).1 < d.1 ∨ ((l.getD (i - 1) (0, 0)).1 = d.1 ∧ (l.getD (i - 1) (0, 0)).2 < d.2))
instance (freq : Int) (months : Bool) (l : List (Int × Int)) (i : Nat) : Decidable (okD freq months l i) := by unfold okD; infer_instance
def daysB (r : R) : Bool := (List.range r.bw.length).all fun i => decide (okD r.freq (!r.bm.isEmpty) r.bw i)
/-- May a rule be? -/
def mayP (r : R) : Prop :=
  (1 ≤ r.freq ∧ r.freq ≤ 4 ∧ 1 ≤ r.iv ∧ r.iv ≤ 999 ∧ 0 ≤ r.count ∧ r.count ≤ 5000 ∧ 0 ≤ r.start ∧ r.start ≤ 6) ∧
  (r.until_ = -1 ∨ (0 ≤ r.until_ ∧ r.until_ < 158310720 ∧ r.count ≤ 0)) ∧
  (rowB 12 false r.bm = true ∧ rowB 31 true r.bd = true ∧ rowB 366 true r.bs = true ∧ daysB r = true) ∧
  (r.freq ≠ 2 ∨ r.bd = []) ∧
  (r.bs = [] ∨ r.bm ≠ [] ∨ r.bd ≠ [] ∨ r.bw ≠ [])
instance (r : R) : Decidable (mayP r) := by unfold mayP; infer_instance
end Qr
end
