import Derived.Test.YtibnbpiachdmdaaZNA
import Derived.Test.YtibnbpiachdmdaaZOW1
/- Starts on a grid, in plain numbers: the first ones of them; those that the document finds minute by minute. No text of the program is read here. -/
section
namespace Go.Proofs.Ytibnbpiachdmdaa
open Sp
/-- How many minutes, how wide a grid: a number within its bounds. -/
def kN (a : Int) : Int := min (max 1 a) 1099511627776
/-- Is a minute a start? -/
def Est (L : List Spn) (n g x : Int) : Prop := x % g = 0 ∧ ∀ y, x ≤ y → y < x + n → has L y
/-- The first ones of some numbers, rising, at most so many. -/
structure First (r : List Int) (E : Int → Prop) (k : Int) : Prop where
  up : r.Pairwise (· < ·)
  in_ : ∀ x ∈ r, E x
  le : (r.length : Int) ≤ max 0 k
  all : ∀ x, E x → x ∈ r ∨ ((r.length : Int) = max 0 k ∧ ∀ y ∈ r, y < x)
theorem First.is : ∀ {s r : List Int} {E : Int → Prop} {k : Int}, First r E k → s.Pairwise (· < ·) → (∀ x, x ∈ s ↔ E x) → r = s.take (max 0 k).toNat
  | [], r, E, k, h, _, hs => by
    cases r with
    | nil => simp
    | cons x t => have := (hs x).2 (h.in_ x (by simp)); cases this
  | a :: t, r, E, k, h, hp, hs => by
    obtain ⟨hp1, hp2⟩ := List.pairwise_cons.1 hp
    by_cases hk : k ≤ 0
    · have : r.length = 0 := by have := h.le; omega
      rw [List.eq_nil_of_length_eq_zero this, show (max 0 k).toNat = 0 by omega]; rfl
    · have ha : a ∈ r := by
        rcases h.all a ((hs a).1 (by simp)) with h1 | ⟨h1, h2⟩
        · exact h1
        · cases r with
          | nil => simp at h1; omega
          | cons y q =>
            have h3 := h2 y (by simp)
            have h4 := (hs y).2 (h.in_ y (by simp))
            rcases List.mem_cons.1 h4 with e | e
            · omega
            · have := hp1 y e; omega
      cases r with
      | nil => cases ha
      | cons y q =>
        obtain ⟨u1, u2⟩ := List.pairwise_cons.1 h.up
        have hy : y = a := by
          have h4 := (hs y).2 (h.in_ y (by simp))
          rcases List.mem_cons.1 h4 with e | e
          · exact e
          · have h5 := hp1 y e
            rcases List.mem_cons.1 ha with e2 | e2
            · omega
            · have := u1 a e2; omega
        subst hy
        have hq : First q (fun x => x ∈ t) (k - 1) := by
          refine ⟨u2, fun x hx => ?_, by have := h.le; simp at this; omega, fun x hx => ?_⟩
          · rcases List.mem_cons.1 ((hs x).2 (h.in_ x (by simp [hx]))) with e | e
            · have := u1 x hx; omega
            · exact e
          · have h6 := hp1 x hx
            rcases h.all x ((hs x).1 (by simp [hx])) with h7 | ⟨h7, h8⟩
            · rcases List.mem_cons.1 h7 with e | e
              · omega
              · exact .inl e
            · exact .inr ⟨by simp at h7; omega, fun z hz => h8 z (by simp [hz])⟩
        have ih := First.is hq hp2 fun x => Iff.rfl
        rw [show (max 0 k).toNat = (max 0 (k - 1)).toNat + 1 by omega, List.take_succ_cons, ← ih]
theorem inAll_iff (l : List Spn) (x : Int) (n : Nat) : inAll l x n = true ↔ ∀ y, x ≤ y → y < x + n → has l y := by
  unfold inAll
  rw [List.all_eq_true]
  constructor
  · intro h y h1 h2
    have := h (y - x).toNat (List.mem_range.2 (by omega))
    rw [hasB_iff, show x + ((y - x).toNat : Int) = y by omega] at this
    exact this
  · intro h j hj
    have := List.mem_range.1 hj
    rw [hasB_iff]
    exact h _ (by omega) (by omega)
theorem st15_ge (l : List Spn) (n : Nat) {g : Int} (hg : 1 ≤ g) : ∀ (f : Nat) (m : Int), ∀ x ∈ st15 l n g f m, m ≤ x
  | 0, _, x, h => by cases h
  | f + 1, m, x, h => by
    unfold st15 at h
    split at h
    · rcases List.mem_append.1 h with h | h
      · split at h
        · obtain rfl : x = m := by simpa using h
          omega
        · cases h
      · have := st15_ge l n hg f (m + g) x h; omega
    · cases h
theorem st15_pw (l : List Spn) (n : Nat) {g : Int} (hg : 1 ≤ g) : ∀ (f : Nat) (m : Int), (st15 l n g f m).Pairwise (· < ·)
  | 0, _ => List.Pairwise.nil
  | f + 1, m => by
    unfold st15
    split
    · rw [List.pairwise_append]
      refine ⟨by split <;> simp, st15_pw l n hg f (m + g), fun a ha b hb => ?_⟩
      have h1 := st15_ge l n hg f (m + g) b hb
      split at ha
      · obtain rfl : a = m := by simpa using ha
        omega
      · cases ha
    · exact List.Pairwise.nil
theorem st15_mem (l : List Spn) (n : Nat) {g : Int} (hg : 1 ≤ g) : ∀ (f : Nat) (m x : Int), 0 ≤ m → m % g = 0 → 2000 - m ≤ f → (x ∈ st15 l n g f m ↔ m ≤ x ∧ x < 2000 ∧ x % g = 0 ∧ inAll l x n = true)
  | 0, m, x, h0, _, hf => by
    constructor
    · intro h; cases h
    · rintro ⟨h1, h2, _⟩; omega
  | f + 1, m, x, h0, hm, hf => by
    by_cases hlt : m < 2000
    · have ih := st15_mem l n hg f (m + g) x (by omega) (by rw [Int.add_emod_right]; exact hm) (by omega)
      unfold st15
      rw [if_pos hlt, List.mem_append, ih]
      constructor
      · rintro (h | ⟨h1, h2, h3⟩)
        · split at h
          · obtain rfl : x = m := by simpa using h
            exact ⟨Int.le_refl _, hlt, hm, by assumption⟩
          · cases h
        · exact ⟨by omega, h2, h3⟩
      · rintro ⟨h1, h2, h3, h4⟩
        by_cases e : x = m
        · subst e
          exact .inl (by rw [if_pos h4]; simp)
        · refine .inr ⟨?_, h2, h3, h4⟩
          obtain ⟨q, hq⟩ := Int.dvd_of_emod_eq_zero hm
          obtain ⟨t, ht⟩ := Int.dvd_of_emod_eq_zero h3
          subst hq ht
          have : q < t := by
            apply Decidable.byContradiction
            intro hn
            have := Int.mul_le_mul_of_nonneg_left (show t ≤ q by omega) (show 0 ≤ g by omega)
            omega
          have := Int.mul_le_mul_of_nonneg_left (show q + 1 ≤ t by omega) (show 0 ≤ g by omega)
          rw [Int.mul_add, Int.mul_one] at this
          exact this
    · rw [st15_end l n g m hlt]
      constructor
      · intro h; cases h
      · rintro ⟨h1, h2, _⟩; omega
/-- Of rows between 0 and 2000 the document's starts are just the starts. -/
theorem st15_is {l : List Spn} (hl : ∀ s ∈ l, 0 ≤ s.1 ∧ s.2 ≤ 2000) {n : Nat} (hn : 1 ≤ n) {g : Int} (hg : 1 ≤ g) (x : Int) : x ∈ st15 l n g 2001 0 ↔ Est (formL l) n g x := by
  rw [st15_mem l n hg 2001 0 x (Int.le_refl _) (by simp) (by omega), inAll_iff]
  constructor
  · rintro ⟨_, _, h3, h4⟩
    exact ⟨h3, fun y h1 h2 => (formL_has l y).2 (h4 y h1 h2)⟩
  · rintro ⟨h3, h4⟩
    obtain ⟨s, hs, s1, s2⟩ := (formL_has l x).1 (h4 x (by omega) (by omega))
    have := hl s hs
    exact ⟨by omega, by omega, h3, fun y h1 h2 => (formL_has l y).1 (h4 y h1 h2)⟩
theorem st15_len (l : List Spn) (n : Nat) (g : Int) : ∀ (f : Nat) (m : Int), (st15 l n g f m).length ≤ f
  | 0, _ => Nat.le_refl _
  | f + 1, m => by
    have := st15_len l n g f (m + g)
    unfold st15
    split
    · rw [List.length_append]; split <;> simp <;> omega
    · simp
end Go.Proofs.Ytibnbpiachdmdaa
end
