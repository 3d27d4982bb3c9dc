/- Rows of minutes: what the statements of layer 13 ask: forms, counts, growing twice. No text of the program is read here. -/
import Derived.Test.YtdpgmhjhmccfnaaUMath
import Derived.Test.YtdpgmhjhmccfnaaHMath2
namespace Sp
theorem pairW_has (k : Int) (a b : List Spn) (m : Int) : has (pair (cW k) a b) m ↔ cW k (hasB a m) (hasB b m) = true := pair_has (cW k) (cW_ff k) a b m
theorem pairW_hasB (k : Int) (a b : List Spn) (m : Int) : hasB (pair (cW k) a b) m = cW k (hasB a m) (hasB b m) := by
  rw [Bool.eq_iff_iff, hasB_iff, pairW_has]
theorem formL_hasB (l : List Spn) (m : Int) : hasB (formL l) m = hasB l m := by
  unfold formL
  rw [pairW_hasB]
  unfold cW
  simp [hasB]
theorem formL_has (l : List Spn) (m : Int) : has (formL l) m ↔ has l m := by rw [← hasB_iff, ← hasB_iff, formL_hasB]
theorem formL_form (l : List Spn) : form (formL l) := pair_form _ _ _
theorem formL_id {l : List Spn} (h : form l) : formL l = l := form_unique _ _ (formL_form l) h (formL_has l)
theorem formL_iff (l : List Spn) : formL l = l ↔ form l := ⟨fun h => h ▸ formL_form l, formL_id⟩
theorem formL_twice (l : List Spn) : formL (formL l) = formL l := formL_id (formL_form l)
theorem from_above : ∀ {l : List Spn} {lo : Int}, formFrom lo l → ∀ t ∈ l, lo < t.1 ∧ t.1 < t.2
  | [], _, _, t, h => by cases h
  | x :: r, lo, hf, t, h => by
    rcases List.mem_cons.1 h with rfl | h
    · exact ⟨hf.1, hf.2.1⟩
    · have h1 := from_above hf.2.2 t h
      have h2 := hf.1
      have h3 := hf.2.1
      exact ⟨by omega, h1.2⟩
theorem from_apart : ∀ {l : List Spn} {lo : Int}, formFrom lo l → ∀ s ∈ l, ∀ t ∈ l, t = s ∨ t.2 < s.1 ∨ s.2 < t.1
  | [], _, _, s, h, _, _ => by cases h
  | x :: r, lo, hf, s, hs, t, ht => by
    rcases List.mem_cons.1 hs with h1 | h1
    · rcases List.mem_cons.1 ht with h2 | h2
      · exact .inl (h2.trans h1.symm)
      · rw [h1]; exact .inr (.inr (from_above hf.2.2 t h2).1)
    · rcases List.mem_cons.1 ht with h2 | h2
      · rw [h2]; exact .inr (.inl (from_above hf.2.2 s h1).1)
      · exact from_apart hf.2.2 s h1 t h2
theorem form_from {l : List Spn} (h : form l) : ∃ lo, formFrom lo l := by
  cases l with
  | nil => exact ⟨0, trivial⟩
  | cons x r => exact ⟨x.1 - 1, by omega, h⟩
theorem form_apart {l : List Spn} (h : form l) {s t : Spn} (hs : s ∈ l) (ht : t ∈ l) : t = s ∨ t.2 < s.1 ∨ s.2 < t.1 := by
  obtain ⟨lo, hf⟩ := form_from h
  exact from_apart hf s hs t ht
theorem form_pos {l : List Spn} (h : form l) {s : Spn} (hs : s ∈ l) : s.1 < s.2 := by
  obtain ⟨lo, hf⟩ := form_from h
  exact (from_above hf s hs).2
/-- Beside a span of a row in its form there is none. -/
theorem form_stop {l : List Spn} (h : form l) {s : Spn} (hs : s ∈ l) : ¬ has l s.2 ∧ ¬ has l (s.1 - 1) := by
  have h0 := form_pos h hs
  constructor
  · rintro ⟨t, ht, h1, h2⟩
    rcases form_apart h hs ht with rfl | q | q <;> omega
  · rintro ⟨t, ht, h1, h2⟩
    rcases form_apart h hs ht with rfl | q | q <;> omega
/-- Minutes one behind the other lie in one span. -/
theorem form_one {l : List Spn} (h : form l) {a b : Int} (hab : a < b) (hh : ∀ x, a ≤ x → x < b → has l x) : ∃ s ∈ l, s.1 ≤ a ∧ b ≤ s.2 := by
  obtain ⟨s, hs, h1, h2⟩ := hh a (Int.le_refl _) hab
  refine ⟨s, hs, h1, ?_⟩
  by_cases q : b ≤ s.2
  · exact q
  · exact absurd (hh s.2 (by omega) (by omega)) (form_stop h hs).1
theorem cnt_le13 (p : Int → Bool) (a : Int) (n : Nat) : cntN p a n ≤ n := by
  induction n with
  | zero => exact Nat.le_refl _
  | succ n ih => unfold cntN; split <;> omega
theorem in_bd {r : List Spn} {lo hi : Int} (hf : form r) (h : ∀ x, has r x → lo ≤ x ∧ x < hi) : ∀ s ∈ r, lo ≤ s.1 ∧ s.2 ≤ hi := fun s hs => by
  have h0 := form_pos hf hs
  have h1 := h s.1 ⟨s, hs, Int.le_refl _, h0⟩
  have h2 := h (s.2 - 1) ⟨s, hs, by omega, by omega⟩
  omega
theorem has_bd {l : List Spn} {lo hi : Int} (h : ∀ s ∈ l, lo ≤ s.1 ∧ s.2 ≤ hi) {x : Int} (hx : has l x) : lo ≤ x ∧ x < hi := by
  obtain ⟨s, hs, h1, h2⟩ := hx
  have := h s hs
  omega
/-- How many minutes are in a row, counted in a window that holds it. -/
theorem len_is {l : List Spn} {lo : Int} {n : Nat} (h : ∀ s ∈ l, lo ≤ s.1 ∧ s.2 ≤ lo + n) : len (formL l) = cntN (hasB l) lo n := by
  rw [len_cnt (formL l) lo n (formL_form l) (in_bd (formL_form l) fun x hx => has_bd h ((formL_has l x).1 hx))]
  congr 1
  exact cnt_congr fun m _ _ => formL_hasB l m
theorem len_pairW {a b : List Spn} {lo : Int} {n : Nat} (k : Int) (ha : ∀ s ∈ a, lo ≤ s.1 ∧ s.2 ≤ lo + n) (hb : ∀ s ∈ b, lo ≤ s.1 ∧ s.2 ≤ lo + n) : len (pair (cW k) a b) = cntN (fun m => cW k (hasB a m) (hasB b m)) lo n := by
  have hf := pair_form (cW k) a b
  have hbd : ∀ x, has (pair (cW k) a b) x → lo ≤ x ∧ x < lo + n := fun x hx => by
    rw [pairW_has] at hx
    by_cases q1 : hasB a x = true
    · exact has_bd ha ((hasB_iff a x).1 q1)
    · by_cases q2 : hasB b x = true
      · exact has_bd hb ((hasB_iff b x).1 q2)
      · rw [Bool.eq_false_iff.2 q1, Bool.eq_false_iff.2 q2, cW_ff] at hx; cases hx
  rw [len_cnt _ lo n hf (in_bd hf hbd)]
  congr 1
  exact cnt_congr fun m _ _ => pairW_hasB k a b m
/-- Of two rows the union, and what is in both, have as many minutes as both rows. -/
theorem len_two {a b : List Spn} {lo : Int} {n : Nat} (ha : ∀ s ∈ a, lo ≤ s.1 ∧ s.2 ≤ lo + n) (hb : ∀ s ∈ b, lo ≤ s.1 ∧ s.2 ≤ lo + n) :
    len (pair (cW 0) a b) + len (pair (cW 1) a b) = len (formL a) + len (formL b) ∧ len (pair (cW 1) a b) + len (pair (cW 2) a b) = len (formL a) := by
  rw [len_pairW 0 ha hb, len_pairW 1 ha hb, len_pairW 2 ha hb, len_is ha, len_is hb]
  have h1 := cnt_pt (p := fun m => cW 0 (hasB a m) (hasB b m)) (q := fun m => cW 1 (hasB a m) (hasB b m)) (r := hasB a) (s := hasB b) (fun m => by simp only [cW]; cases hasB a m <;> cases hasB b m <;> decide) lo n
  have h2 := cnt_pt (p := fun m => cW 1 (hasB a m) (hasB b m)) (q := fun m => cW 2 (hasB a m) (hasB b m)) (r := hasB a) (s := fun _ => false) (fun m => by simp only [cW]; cases hasB a m <;> cases hasB b m <;> decide) lo n
  have h3 : cntN (fun _ => false) lo n = 0 := cnt_none fun _ _ _ => rfl
  omega
/-- Which minutes are in a row that is grown, where no end is as far as there are minutes. -/
theorem grow_has {l : List Spn} {a b : Int} (ha : 0 ≤ a) (hb : 0 ≤ b) (hl : ∀ s ∈ formL l, -9223372036854775808 + a ≤ s.1 ∧ s.2 ≤ 9223372036854775807 - b) (x : Int) :
    has (growL l a b) x ↔ ∃ s ∈ formL l, s.1 - a ≤ x ∧ x < s.2 + b := by
  unfold growL
  rw [formL_has]
  have e : ∀ s ∈ formL l, lowI s.1 a = s.1 - a ∧ highI s.2 b = s.2 + b := fun s hs => by
    have := hl s hs
    unfold lowI highI
    constructor
    · split
      · rw [if_neg (by omega)]
      · omega
    · split
      · rw [if_neg (by omega)]
      · omega
  constructor
  · rintro ⟨t, ht, h1, h2⟩
    obtain ⟨s, hs, rfl⟩ := List.mem_map.1 ht
    obtain ⟨e1, e2⟩ := e s hs
    simp only [e1, e2] at h1 h2
    exact ⟨s, hs, h1, h2⟩
  · rintro ⟨s, hs, h1, h2⟩
    obtain ⟨e1, e2⟩ := e s hs
    exact ⟨_, List.mem_map.2 ⟨s, hs, rfl⟩, by simp only [e1]; exact h1, by simp only [e2]; exact h2⟩
theorem growL_form (l : List Spn) (a b : Int) : form (growL l a b) := formL_form _
theorem form_in {l : List Spn} {lo hi : Int} (h : ∀ s ∈ l, lo ≤ s.1 ∧ s.2 ≤ hi) : ∀ s ∈ formL l, lo ≤ s.1 ∧ s.2 ≤ hi :=
  in_bd (formL_form l) fun x hx => has_bd h ((formL_has l x).1 hx)
theorem grow_in {l : List Spn} {a b lo hi : Int} (ha : 0 ≤ a) (hb : 0 ≤ b) (hl : ∀ s ∈ l, lo ≤ s.1 ∧ s.2 ≤ hi) (h1 : -9223372036854775808 + a ≤ lo) (h2 : hi ≤ 9223372036854775807 - b) : ∀ s ∈ growL l a b, lo - a ≤ s.1 ∧ s.2 ≤ hi + b := by
  have hf := form_in hl
  refine in_bd (growL_form l a b) fun x hx => ?_
  obtain ⟨s, hs, q1, q2⟩ := (grow_has ha hb (fun s hs => by have := hf s hs; omega) x).1 hx
  have := hf s hs
  omega
/-- A row that is grown twice is grown by both together. -/
theorem grow_twice {l : List Spn} {a b c d lo hi : Int} (ha : 0 ≤ a) (hb : 0 ≤ b) (hc : 0 ≤ c) (hd : 0 ≤ d) (hl : ∀ s ∈ l, lo ≤ s.1 ∧ s.2 ≤ hi) (h1 : -9223372036854775808 + (a + c) ≤ lo) (h2 : hi ≤ 9223372036854775807 - (b + d)) :
    growL (growL l a b) c d = growL l (a + c) (b + d) := by
  have hf := form_in hl
  have hg := grow_in ha hb hl (by omega) (by omega)
  have hG := growL_form l a b
  have e1 := fun x => grow_has (l := l) ha hb (fun s hs => by have := hf s hs; omega) x
  refine form_unique _ _ (growL_form _ _ _) (growL_form _ _ _) fun x => ?_
  rw [grow_has (l := growL l a b) hc hd (fun s hs => by rw [formL_id hG] at hs; have := hg s hs; omega), grow_has (l := l) (by omega) (by omega) (fun s hs => by have := hf s hs; omega), formL_id hG]
  constructor
  · rintro ⟨s, hs, q1, q2⟩
    have h0 := form_pos hG hs
    obtain ⟨n1, n2⟩ := form_stop hG hs
    by_cases w1 : x < s.1
    · obtain ⟨t, ht, t1, t2⟩ := (e1 s.1).1 ⟨s, hs, Int.le_refl _, h0⟩
      have : ¬ t.1 - a ≤ s.1 - 1 := fun q => n2 ((e1 _).2 ⟨t, ht, q, by omega⟩)
      exact ⟨t, ht, by omega, by omega⟩
    · by_cases w2 : x < s.2
      · obtain ⟨t, ht, t1, t2⟩ := (e1 x).1 ⟨s, hs, by omega, w2⟩
        exact ⟨t, ht, by omega, by omega⟩
      · obtain ⟨t, ht, t1, t2⟩ := (e1 (s.2 - 1)).1 ⟨s, hs, by omega, by omega⟩
        have : ¬ s.2 < t.2 + b := fun q => n1 ((e1 _).2 ⟨t, ht, by omega, q⟩)
        exact ⟨t, ht, by omega, by omega⟩
  · rintro ⟨s, hs, q1, q2⟩
    have h0 := form_pos (formL_form l) hs
    obtain ⟨t, ht, t1, t2⟩ := form_one hG (a := s.1 - a) (b := s.2 + b) (by omega) (fun y y1 y2 => (e1 y).2 ⟨s, hs, y1, y2⟩)
    exact ⟨t, ht, by omega, by omega⟩
theorem grow_none {l : List Spn} {b : Int} (hb : b ≤ 0) : growL l 0 b = formL l := by
  unfold growL
  have e : ((formL l).map fun s => (lowI s.1 0, highI s.2 b)) = formL l := by
    conv => rhs; rw [← List.map_id (formL l)]
    refine List.map_congr_left fun s _ => ?_
    unfold lowI highI
    rw [if_neg (by omega), if_neg (by omega)]; rfl
  rw [e, formL_twice]
end Sp
