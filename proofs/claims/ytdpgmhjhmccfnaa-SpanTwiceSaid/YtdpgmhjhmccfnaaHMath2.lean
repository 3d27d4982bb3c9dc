/- A row found minute by minute. No text of the program is read here. -/
import Derived.Test.YtdpgmhjhmccfnaaSMath
namespace Sp
theorem formFrom_snoc : ∀ (l : List Spn) (lo : Int) (s : Spn), formFrom lo (l ++ [s]) ↔ formFrom lo l ∧ lo < s.1 ∧ (∀ t ∈ l, t.2 < s.1) ∧ s.1 < s.2
  | [], lo, s => by simp [formFrom]
  | x :: r, lo, s => by
    have ih := formFrom_snoc r x.2 s
    simp only [List.cons_append, formFrom, ih, List.forall_mem_cons]
    constructor
    · rintro ⟨h1, h2, h3, h4, h5, h6⟩
      exact ⟨⟨h1, h2, h3⟩, by omega, ⟨h4, h5⟩, h6⟩
    · rintro ⟨⟨h1, h2, h3⟩, h4, ⟨h5, h6⟩, h7⟩
      exact ⟨h1, h2, h3, h5, h6, h7⟩
theorem form_snoc (l : List Spn) (s : Spn) : form (l ++ [s]) ↔ form l ∧ (∀ t ∈ l, t.2 < s.1) ∧ s.1 < s.2 := by
  cases l with
  | nil => simp [form, formFrom]
  | cons x r =>
    have := formFrom_snoc r x.2 s
    simp only [List.cons_append, form, this, List.forall_mem_cons]
    constructor
    · rintro ⟨h1, h2, h3, h4, h5⟩
      exact ⟨⟨h1, h2⟩, ⟨h3, h4⟩, h5⟩
    · rintro ⟨⟨h1, h2⟩, ⟨h3, h4⟩, h5⟩
      exact ⟨h1, h2, h3, h4, h5⟩
theorem has_snoc (l : List Spn) (s : Spn) (x : Int) : has (l ++ [s]) x ↔ has l x ∨ (s.1 ≤ x ∧ x < s.2) := by
  rw [has_append, has_cons]
  constructor
  · rintro (h | h | h)
    · exact .inl h
    · exact .inr h
    · exact absurd h (has_nil x)
  · rintro (h | h)
    · exact .inl h
    · exact .inr (.inl h)
/-- What is found ahead of a minute, no span open. -/
structure ShutR (q : Int → Prop) (a m : Int) (l : List Spn) : Prop where
  form : form l
  ends : ∀ t ∈ l, t.2 < m
  has : ∀ x, has l x ↔ a ≤ x ∧ x < m ∧ q x
/-- .. a span open since a minute. -/
structure OpnR (q : Int → Prop) (a m f : Int) (l : List Spn) : Prop where
  form : form (l ++ [(f, m)])
  has : ∀ x, Sp.has (l ++ [(f, m)]) x ↔ a ≤ x ∧ x < m ∧ q x
theorem ShutR.start (q : Int → Prop) (a : Int) : ShutR q a a [] := ⟨trivial, (fun t h => by cases h), fun x => ⟨fun h => absurd h (has_nil x), fun h => by omega⟩⟩
theorem ShutR.opens {q : Int → Prop} {a m : Int} {l : List Spn} (h : ShutR q a m l) (ha : a ≤ m) (hm : q m) : OpnR q a (m + 1) m l := by
  refine ⟨(form_snoc _ _).2 ⟨h.form, h.ends, by show m < m + 1; omega⟩, fun x => ?_⟩
  rw [has_snoc, h.has]
  constructor
  · rintro (⟨h1, h2, h3⟩ | h1)
    · exact ⟨h1, by omega, h3⟩
    · have : x = m := by have h2 := h1.1; have h3 := h1.2; simp only at h2 h3; omega
      subst this; exact ⟨ha, by omega, hm⟩
  · rintro ⟨h1, h2, h3⟩
    by_cases e : x = m
    · exact .inr ⟨by simp only; omega, by simp only; omega⟩
    · exact .inl ⟨h1, by omega, h3⟩
theorem ShutR.stays {q : Int → Prop} {a m : Int} {l : List Spn} (h : ShutR q a m l) (hm : ¬ q m) : ShutR q a (m + 1) l := by
  refine ⟨h.form, fun t ht => by have := h.ends t ht; omega, fun x => ?_⟩
  rw [h.has]
  constructor
  · rintro ⟨h1, h2, h3⟩; exact ⟨h1, by omega, h3⟩
  · rintro ⟨h1, h2, h3⟩
    have : x ≠ m := fun e => hm (e ▸ h3)
    exact ⟨h1, by omega, h3⟩
theorem OpnR.lt {q : Int → Prop} {a m f : Int} {l : List Spn} (h : OpnR q a m f l) : f < m := ((form_snoc _ _).1 h.form).2.2
theorem OpnR.goes {q : Int → Prop} {a m f : Int} {l : List Spn} (h : OpnR q a m f l) (ha : a ≤ m) (hm : q m) : OpnR q a (m + 1) f l := by
  have h1 := (form_snoc _ _).1 h.form
  have hl := h.lt
  refine ⟨(form_snoc _ _).2 ⟨h1.1, h1.2.1, by show f < m + 1; omega⟩, fun x => ?_⟩
  have hx := h.has x
  rw [has_snoc] at hx ⊢
  simp only at hx ⊢
  constructor
  · rintro (k | k)
    · have := hx.1 (.inl k); exact ⟨this.1, by omega, this.2.2⟩
    · by_cases e : x = m
      · subst e; exact ⟨ha, by omega, hm⟩
      · have := hx.1 (.inr ⟨k.1, by omega⟩); exact ⟨this.1, by omega, this.2.2⟩
  · rintro ⟨k1, k2, k3⟩
    by_cases e : x = m
    · subst e; exact .inr ⟨by omega, by omega⟩
    · rcases hx.2 ⟨k1, by omega, k3⟩ with k | k
      · exact .inl k
      · exact .inr ⟨k.1, by omega⟩
theorem OpnR.shuts {q : Int → Prop} {a m f : Int} {l : List Spn} (h : OpnR q a m f l) (hm : ¬ q m) : ShutR q a (m + 1) (l ++ [(f, m)]) := by
  have h1 := (form_snoc _ _).1 h.form
  have hl := h.lt
  refine ⟨h.form, fun t ht => ?_, fun x => ?_⟩
  · rcases List.mem_append.1 ht with k | k
    · have := h1.2.1 t k; simp only at this; omega
    · obtain rfl : t = (f, m) := by simpa using k
      show m < m + 1; omega
  · rw [h.has]
    constructor
    · rintro ⟨h1, h2, h3⟩; exact ⟨h1, by omega, h3⟩
    · rintro ⟨h1, h2, h3⟩
      have : x ≠ m := fun e => hm (e ▸ h3)
      exact ⟨h1, by omega, h3⟩
end Sp
