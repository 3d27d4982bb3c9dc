/- Rows of minutes: a row made from low to high: all below a point is done. No text of the program is read here. -/
import Derived.Test.YtdpgmhjhmccfnaaSMath5
namespace Sp
theorem from_pw : ∀ {l : List Spn} {lo : Int}, formFrom lo l → l.Pairwise fun a b => a.2 < b.1
  | [], _, _ => List.Pairwise.nil
  | s :: r, _, h => List.pairwise_cons.2 ⟨fun t ht => (from_above h.2.2 t ht).1, from_pw h.2.2⟩
theorem form_pw {l : List Spn} (h : form l) : l.Pairwise fun a b => a.2 < b.1 := (form_from h).elim fun _ => from_pw
theorem form_at {l : List Spn} (h : form l) {i j : Nat} {s t : Spn} (hs : l[i]? = some s) (ht : l[j]? = some t) (hij : i < j) : s.2 < t.1 := by
  obtain ⟨hi, rfl⟩ := List.getElem?_eq_some_iff.1 hs
  obtain ⟨hj, rfl⟩ := List.getElem?_eq_some_iff.1 ht
  exact List.pairwise_iff_getElem.1 (form_pw h) i j hi hj hij
theorem at_pos {l : List Spn} (h : form l) {i : Nat} {s : Spn} (hs : l[i]? = some s) : s.1 < s.2 := form_pos h (List.mem_of_getElem? hs)
/-- Behind all spans ahead of i, and ahead of that: in none. -/
theorem form_out {l : List Spn} (h : form l) {i : Nat} {x : Int} (hi : i ≤ l.length) (h1 : ∀ k t, k + 1 = i → l[k]? = some t → t.2 ≤ x) (h2 : ∀ t, l[i]? = some t → x < t.1) : ¬ has l x := by
  rintro ⟨s, hs, s1, s2⟩
  obtain ⟨k, hk⟩ := List.getElem?_of_mem hs
  rcases Nat.lt_trichotomy k i with q | q | q
  · by_cases e : k + 1 = i
    · have := h1 k s e hk; omega
    · obtain ⟨hk', _⟩ := List.getElem?_eq_some_iff.1 hk
      cases hm : l[i - 1]? with
      | none =>
        have := List.getElem?_eq_none_iff.1 hm
        omega
      | some t =>
        have p1 := form_at h hk hm (by omega)
        have p2 := h1 (i - 1) t (by omega) hm
        have p3 := at_pos h hm
        omega
  · subst q
    have := h2 s hk; omega
  · cases hm : l[i]? with
    | none =>
      have := List.getElem?_eq_none_iff.1 hm
      obtain ⟨hk', _⟩ := List.getElem?_eq_some_iff.1 hk
      omega
    | some t =>
      have p1 := form_at h hm hk q
      have p2 := h2 t hm
      have p3 := at_pos h hm
      omega
/-- Behind all spans ahead of i, ahead of all behind it: in it, or in none. -/
theorem form_is {l : List Spn} (h : form l) {i : Nat} {s : Spn} (hs : l[i]? = some s) {x : Int} (h1 : ∀ k t, k + 1 = i → l[k]? = some t → t.2 ≤ x) (h2 : ∀ t, l[i + 1]? = some t → x < t.1) : has l x ↔ s.1 ≤ x ∧ x < s.2 := by
  obtain ⟨hi, _⟩ := List.getElem?_eq_some_iff.1 hs
  constructor
  · intro hx
    by_cases c1 : x < s.1
    · exact absurd hx (form_out h (i := i) (by omega) h1 fun t ht => by rw [hs] at ht; cases ht; exact c1)
    · by_cases c2 : x < s.2
      · exact ⟨by omega, c2⟩
      · exact absurd hx (form_out h (i := i + 1) (by omega) (fun k t hk ht => by
          obtain rfl : k = i := by omega
          rw [hs] at ht; cases ht; omega) h2)
  · exact fun q => ⟨s, List.mem_of_getElem? hs, q⟩
theorem form_before {l : List Spn} (h : form l) {i : Nat} {s : Spn} (hs : l[i]? = some s) : ¬ has l (s.1 - 1) := (form_stop h (List.mem_of_getElem? hs)).2
theorem form_after {l : List Spn} (h : form l) {i : Nat} {s : Spn} (hs : l[i]? = some s) : ¬ has l s.2 := (form_stop h (List.mem_of_getElem? hs)).1
/-- A row of the minutes of p below y, in its form. -/
structure Swp (p : Int → Prop) (y : Int) (out : List Spn) : Prop where
  form : form out
  has : ∀ x, has out x ↔ p x ∧ x < y
namespace Swp
variable {p : Int → Prop} {y z : Int} {out : List Spn}
theorem start (h : ∀ x, p x → y ≤ x) : Swp p y [] := ⟨trivial, fun x => ⟨fun q => absurd q (has_nil x), fun q => by have := h x q.1; omega⟩⟩
theorem skip (w : Swp p y out) (h : y ≤ z) (hn : ∀ x, y ≤ x → x < z → ¬ p x) : Swp p z out := ⟨w.form, fun x => by
  rw [w.has]
  constructor
  · exact fun q => ⟨q.1, by omega⟩
  · intro q
    refine ⟨q.1, ?_⟩
    by_cases c : x < y
    · exact c
    · exact absurd q.1 (hn x (by omega) q.2)⟩
theorem ends (w : Swp p y out) {u : Spn} (hu : u ∈ out) : u.2 ≤ y := by
  have h0 := form_pos w.form hu
  have := ((w.has (u.2 - 1)).1 ⟨u, hu, by omega, by omega⟩).2
  omega
theorem put (w : Swp p y out) (h : y < z) (hp : ∀ x, y ≤ x → x < z → p x) (h0 : ¬ p (y - 1)) : Swp p z (out ++ [(y, z)]) := by
  refine ⟨(form_snoc _ _).2 ⟨w.form, fun u hu => ?_, h⟩, fun x => ?_⟩
  · have q := form_pos w.form hu
    have k := (w.has (u.2 - 1)).1 ⟨u, hu, by omega, by omega⟩
    have : u.2 - 1 ≠ y - 1 := fun e => h0 (e ▸ k.1)
    have := k.2
    dsimp only
    omega
  · rw [has_snoc, w.has]
    constructor
    · rintro (q | q)
      · exact ⟨q.1, by omega⟩
      · exact ⟨hp x q.1 q.2, q.2⟩
    · intro q
      by_cases c : x < y
      · exact .inl ⟨q.1, c⟩
      · exact .inr ⟨by dsimp only; omega, q.2⟩
theorem join (w : Swp p y out) (h : y < z) (hp : ∀ x, y ≤ x → x < z → p x) : Swp p z (jn out (y, z)) := by
  have J := jn_is (s := (y, z)) w.form (fun t ht => by have := w.ends ht; have := form_pos w.form ht; dsimp only; omega) h
  refine ⟨J.form, fun x => ?_⟩
  rw [J.has, w.has]
  constructor
  · rintro (q | q)
    · exact ⟨q.1, by omega⟩
    · exact ⟨hp x q.1 q.2, q.2⟩
  · intro q
    by_cases c : x < y
    · exact .inl ⟨q.1, c⟩
    · exact .inr ⟨by dsimp only; omega, q.2⟩
theorem whole (w : Swp p y out) (h : ∀ x, p x → x < y) (x : Int) : Sp.has out x ↔ p x := by
  rw [w.has]; exact ⟨fun q => q.1, fun q => ⟨q, h x q⟩⟩
theorem isPair {k : Int} {a b : List Spn} (w : Swp (fun x => Sp.has (pair (cW k) a b) x) y out) (h : ∀ x, Sp.has (pair (cW k) a b) x → x < y) : out = pair (cW k) a b := pair_of w.form (w.whole h)
theorem congr {q : Int → Prop} (w : Swp p y out) (h : ∀ x, p x ↔ q x) : Swp q y out := ⟨w.form, fun x => by rw [w.has, h]⟩
end Swp
end Sp
