/- Rows of minutes: two rows in their forms gone through together, by two places. No text of the program is read here. -/
import Derived.Test.YtdpgmhjhmccfnaaSMath6
namespace Sp
/-- All minutes that both rows have, below y, are out; the spans ahead of i, and of j, are passed. -/
structure Meets (a b : List Spn) (i j : Nat) (y : Int) (out : List Spn) : Prop where
  swp : Swp (fun x => has a x ∧ has b x) y out
  ia : i ≤ a.length
  jb : j ≤ b.length
  pa : ∀ k s, k + 1 = i → a[k]? = some s → s.2 ≤ y
  pb : ∀ k s, k + 1 = j → b[k]? = some s → s.2 ≤ y
  qa : ∀ s, a[i]? = some s → y ≤ s.2
  qb : ∀ s, b[j]? = some s → y ≤ s.2
  lo : ∀ s t, a[i]? = some s → b[j]? = some t → y < max s.1 t.1
namespace Meets
variable {a b : List Spn} {i j : Nat} {y : Int} {out : List Spn}
theorem swap (m : Meets a b i j y out) : Meets b a j i y out :=
  ⟨m.swp.congr fun _ => and_comm, m.jb, m.ia, m.pb, m.pa, m.qb, m.qa, fun s t hs ht => by have := m.lo t s ht hs; omega⟩
theorem start (ha : form a) (hb : form b) : ∃ y, Meets a b 0 0 y [] := by
  obtain ⟨u, hu⟩ := form_from ha
  obtain ⟨v, hv⟩ := form_from hb
  have fa := from_above hu
  have fb := from_above hv
  refine ⟨min u v, Swp.start fun x q => ?_, Nat.zero_le _, Nat.zero_le _, fun k s h => by omega, fun k s h => by omega, fun s h => ?_, fun s h => ?_, fun s t h _ => ?_⟩
  · obtain ⟨s, hs, s1, s2⟩ := q.1
    have := fa s hs; omega
  · have := fa s (List.mem_of_getElem? h); omega
  · have := fb s (List.mem_of_getElem? h); omega
  · have := fa s (List.mem_of_getElem? h); omega
/-- The first row's span ends first, or both end at once: it is passed. -/
theorem stepA (m : Meets a b i j y out) (ha : form a) (hb : form b) {s t : Spn} (hs : a[i]? = some s) (ht : b[j]? = some t) (h : s.2 ≤ t.2) :
    Meets a b (i + 1) j s.2 (if max s.1 t.1 < min s.2 t.2 then out ++ [(max s.1 t.1, min s.2 t.2)] else out) := by
  have e : min s.2 t.2 = s.2 := by omega
  rw [e]
  have hlo := m.lo s t hs ht
  have hy := m.qa s hs
  have hia := (List.getElem?_eq_some_iff.1 hs).1
  have A : ∀ x, y ≤ x → x < s.2 → (has a x ↔ s.1 ≤ x ∧ x < s.2) := fun x x1 x2 => form_is ha hs (fun k u hk hu => by have := m.pa k u hk hu; omega) fun u hu => by
    have := form_at ha hs hu (by omega); omega
  have B : ∀ x, y ≤ x → x < s.2 → (has b x ↔ t.1 ≤ x ∧ x < t.2) := fun x x1 x2 => form_is hb ht (fun k u hk hu => by have := m.pb k u hk hu; omega) fun u hu => by
    have := form_at hb ht hu (by omega); omega
  have S : Swp (fun x => has a x ∧ has b x) s.2 (if max s.1 t.1 < s.2 then out ++ [(max s.1 t.1, s.2)] else out) := by
    split
    · rename_i c
      refine (m.swp.skip (z := max s.1 t.1) (by omega) fun x x1 x2 q => ?_).put c (fun x x1 x2 => ⟨(A x (by omega) x2).2 (by omega), (B x (by omega) x2).2 (by omega)⟩) fun q => ?_
      · have k1 := (A x x1 (by omega)).1 q.1
        have k2 := (B x x1 (by omega)).1 q.2
        omega
      · by_cases c2 : t.1 ≤ s.1
        · exact form_before ha hs (by have := q.1; rwa [show max s.1 t.1 = s.1 by omega] at this)
        · exact form_before hb ht (by have := q.2; rwa [show max s.1 t.1 = t.1 by omega] at this)
    · rename_i c
      refine m.swp.skip hy fun x x1 x2 q => ?_
      have k1 := (A x x1 x2).1 q.1
      have k2 := (B x x1 x2).1 q.2
      omega
  refine ⟨S, hia, m.jb, fun k u hk hu => ?_, fun k u hk hu => Int.le_trans (m.pb k u hk hu) hy, fun u hu => ?_, fun u hu => ?_, fun u v hu hv => ?_⟩
  · obtain rfl : k = i := by omega
    rw [hs] at hu; cases hu; exact Int.le_refl _
  · have := form_at ha hs hu (by omega)
    have := at_pos ha hu
    omega
  · rw [ht] at hu; cases hu; exact h
  · have := form_at ha hs hu (by omega); omega
theorem stepB (m : Meets a b i j y out) (ha : form a) (hb : form b) {s t : Spn} (hs : a[i]? = some s) (ht : b[j]? = some t) (h : t.2 ≤ s.2) :
    Meets a b i (j + 1) t.2 (if max s.1 t.1 < min s.2 t.2 then out ++ [(max s.1 t.1, min s.2 t.2)] else out) := by
  have := (m.swap.stepA hb ha ht hs h).swap
  rwa [show max t.1 s.1 = max s.1 t.1 by omega, show min t.2 s.2 = min s.2 t.2 by omega] at this
/-- A span of the first row that ends where all is done is passed. -/
theorem passA (m : Meets a b i j y out) (ha : form a) {s : Spn} (hs : a[i]? = some s) (h : s.2 ≤ y) : Meets a b (i + 1) j y out := by
  have hia := (List.getElem?_eq_some_iff.1 hs).1
  refine ⟨m.swp, hia, m.jb, fun k u hk hu => ?_, m.pb, fun u hu => ?_, m.qb, fun u v hu hv => ?_⟩
  · obtain rfl : k = i := by omega
    rw [hs] at hu; cases hu; exact h
  · have := form_at ha hs hu (by omega)
    have := at_pos ha hu
    have := m.qa s hs
    omega
  · have := form_at ha hs hu (by omega)
    have := m.qa s hs
    omega
theorem passB (m : Meets a b i j y out) (hb : form b) {t : Spn} (ht : b[j]? = some t) (h : t.2 ≤ y) : Meets a b i (j + 1) y out := (m.swap.passA hb ht h).swap
theorem endA (m : Meets a b a.length j y out) (ha : form a) : out = pair (cW 1) a b :=
  pair_of m.swp.form fun x => by
    rw [and_has, m.swp.whole fun x q => ?_]
    refine Int.lt_of_not_ge fun c => form_out ha (Nat.le_refl _) (fun k t hk ht => Int.le_trans (m.pa k t hk ht) c) (fun t ht => ?_) q.1
    have := (List.getElem?_eq_some_iff.1 ht).1
    omega
theorem endB (m : Meets a b i b.length y out) (hb : form b) : out = pair (cW 1) a b := by
  rw [m.swap.endA hb]
  exact form_unique _ _ (pair_form _ _ _) (pair_form _ _ _) fun x => by rw [and_has, and_has, and_comm]
/-- One of the two is gone through. -/
theorem ends (m : Meets a b i j y out) (h : i = a.length ∨ j = b.length) (ha : form a) (hb : form b) : out = pair (cW 1) a b := by
  rcases h with rfl | rfl
  · exact m.endA ha
  · exact m.endB hb
end Meets
end Sp
