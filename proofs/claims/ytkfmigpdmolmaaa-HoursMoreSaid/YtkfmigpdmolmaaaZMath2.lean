/- Plain mathematics: going through all minutes about a local time. -/
import Derived.Test.YtkfmigpdmolmaaaZMath
namespace Zn

def kI (z : Z) (l : Int) : Int := kindI z l (np z l)
def u2I (z : Z) (l : Int) : Int := l - z.o (np z l)

theorem kinds (z : Z) (l : Int) : kI z l = 0 ∨ kI z l = 1 ∨ kI z l = 2 := by
  unfold kI kindI; split <;> (try split) <;> (try split) <;> simp
theorem kind1 {z : Z} {l : Int} (h : kI z l = 1) : np z l < z.n ∧ z.t (np z l) + ah z (np z l) ≤ l ∧ l < z.t (np z l) + z.o (np z l) := by
  have hp := np_le z l
  have hy := np_yes (z := z) (l := l)
  unfold kI kindI at h
  split at h
  · omega
  · split at h
    · have := hy (by omega); omega
    · split at h <;> omega
theorem kind2 {z : Z} {l : Int} (h : kI z l = 2) : np z l < z.n ∧ l < z.t (np z l) + ah z (np z l) ∧ z.t (np z l) + z.o (np z l) ≤ l := by
  have hp := np_le z l
  unfold kI kindI at h
  split at h
  · omega
  · split at h
    · omega
    · split at h <;> omega
theorem kind0 {z : Z} {l : Int} (h : kI z l = 0) : np z l = z.n ∨ (l < z.t (np z l) + ah z (np z l) ∧ l < z.t (np z l) + z.o (np z l)) := by
  unfold kI kindI at h
  split at h
  · left; assumption
  · right
    split at h
    · omega
    · split at h <;> omega
theorem comes2 {z : Z} (hz : mayP z) (l u : Int) : u + off z u = l ↔ (kI z l ≠ 1 ∧ u = atI z l) ∨ (kI z l = 2 ∧ u = u2I z l) := by
  rw [comes hz]
  have hp := np_le z l
  have h1 := kind1 (z := z) (l := l)
  have h2 := kind2 (z := z) (l := l)
  have h0 := kind0 (z := z) (l := l)
  have hy := np_yes (z := z) (l := l)
  rcases kinds z l with h | h | h
  · have := h0 h; unfold atI u2I; omega
  · have := h1 h; unfold atI u2I; omega
  · have := h2 h; unfold atI u2I; omega
theorem kind_lt {z : Z} {l : Int} (h : kI z l = 2) : atI z l < u2I z l := by
  have := kind2 h; unfold atI u2I; omega
theorem at_bd {z : Z} (hz : mayP z) (l : Int) : l - 900 ≤ atI z l ∧ atI z l ≤ l + 900 := by
  have := ah_bd hz (np z l) (np_le z l); unfold atI; omega
theorem u2_bd {z : Z} (hz : mayP z) {l : Int} (h : kI z l = 2) : l - 900 ≤ u2I z l ∧ u2I z l ≤ l + 900 := by
  have := o_bd hz (kind2 h).1; unfold u2I; omega

/-- How many minutes ahead of u a local time comes of. -/
def manyI (k u1 u2 u : Int) : Int := if k = 1 then 0 else (if u1 < u then 1 else 0) + (if k = 2 ∧ u2 < u then 1 else 0)
def fstI (k u1 u : Int) : Int := if k ≠ 1 ∧ u1 < u then u1 else 0
theorem many_bd (k u1 u2 u : Int) : 0 ≤ manyI k u1 u2 u ∧ manyI k u1 u2 u ≤ 2 := by
  unfold manyI; split <;> (try split) <;> (try split) <;> omega
theorem many_no {k u1 u2 u : Int} (h : ¬ ((k ≠ 1 ∧ u = u1) ∨ (k = 2 ∧ u = u2))) : manyI k u1 u2 (u + 1) = manyI k u1 u2 u ∧ fstI k u1 (u + 1) = fstI k u1 u := by
  have e1 : k ≠ 1 → (u1 < u + 1 ↔ u1 < u) := fun h1 => by constructor <;> intro _ <;> omega
  have e2 : k = 2 → (u2 < u + 1 ↔ u2 < u) := fun h1 => by constructor <;> intro _ <;> omega
  unfold manyI fstI
  by_cases hk : k = 1
  · simp [hk]
  · by_cases hk2 : k = 2
    · rw [if_neg hk, if_neg hk]; simp only [e1 hk, e2 hk2]; exact ⟨trivial, trivial⟩
    · rw [if_neg hk, if_neg hk]; simp only [e1 hk, hk2, false_and]; exact ⟨trivial, trivial⟩
theorem many_first {k u1 u2 u : Int} (hlt : k = 2 → u1 < u2) (h : (k ≠ 1 ∧ u = u1) ∨ (k = 2 ∧ u = u2)) (h0 : manyI k u1 u2 u = 0) : manyI k u1 u2 (u + 1) = 1 ∧ fstI k u1 (u + 1) = u := by
  unfold manyI at h0 ⊢
  unfold fstI
  by_cases hk : k = 1
  · omega
  · rw [if_neg hk] at h0 ⊢
    by_cases hk2 : k = 2
    · have := hlt hk2
      by_cases a : u1 < u
      · rw [if_pos a] at h0; split at h0 <;> omega
      · have e : u = u1 := by omega
        subst e
        rw [if_pos (by omega), if_neg (by omega), if_pos ⟨hk, by omega⟩]; exact ⟨rfl, rfl⟩
    · have e : u = u1 := by omega
      subst e
      rw [if_pos (by omega), if_neg (by omega), if_pos ⟨hk, by omega⟩]; exact ⟨rfl, rfl⟩
theorem many_more {k u1 u2 u : Int} (hlt : k = 2 → u1 < u2) (h : (k ≠ 1 ∧ u = u1) ∨ (k = 2 ∧ u = u2)) (h0 : manyI k u1 u2 u ≠ 0) : manyI k u1 u2 (u + 1) = manyI k u1 u2 u + 1 ∧ fstI k u1 (u + 1) = fstI k u1 u := by
  unfold manyI at h0 ⊢
  unfold fstI
  by_cases hk : k = 1
  · rw [if_pos hk] at h0; omega
  · rw [if_neg hk] at h0 ⊢
    rw [if_neg hk]
    by_cases hk2 : k = 2
    · have := hlt hk2
      by_cases a : u1 < u
      · have e : u = u2 := by omega
        subst e
        rw [if_pos (by omega), if_pos ⟨hk2, by omega⟩, if_pos a, if_neg (by omega), if_pos ⟨hk, by omega⟩, if_pos ⟨hk, a⟩]; exact ⟨by omega, rfl⟩
      · rw [if_neg a, if_neg (by omega)] at h0; omega
    · have e : u = u1 := by omega
      subst e
      rw [if_neg (by omega), if_neg (by omega)] at h0; omega
theorem many_start {k u1 u2 u : Int} (h1 : u ≤ u1) (h2 : k = 2 → u ≤ u2) : manyI k u1 u2 u = 0 ∧ fstI k u1 u = 0 := by
  unfold manyI fstI
  rw [if_neg (c := k ≠ 1 ∧ u1 < u) (by omega)]
  split
  · exact ⟨rfl, rfl⟩
  · rw [if_neg (by omega), if_neg (by omega)]; exact ⟨rfl, rfl⟩
theorem many_end {k u1 u2 u : Int} (h1 : u1 < u) (h2 : k = 2 → u2 < u) : manyI k u1 u2 u = (if k = 1 then 0 else if k = 2 then 2 else 1) ∧ fstI k u1 u = (if k = 1 then 0 else u1) := by
  unfold manyI fstI
  by_cases hk : k = 1
  · simp [hk]
  · have e1 : k ≠ 1 ∧ u1 < u := ⟨hk, h1⟩
    by_cases hk2 : k = 2
    · have e2 : k = 2 ∧ u2 < u := ⟨hk2, h2 hk2⟩
      simp [e1, e2]
    · simp [e1, hk2]

/-- What is found in gaps, over the first i turns. -/
def gapI (z : Z) (l : Int) (i : Nat) : Int := if kI z l = 1 then (if np z l < i then atI z l else 0) else atI z l
theorem gap_no {z : Z} (_hz : mayP z) {l : Int} {i : Nat} (hi : i < z.n) (h : ¬ (z.t i + ah z i ≤ l ∧ l < z.t i + z.o i)) : gapI z l (i + 1) = gapI z l i := by
  unfold gapI
  by_cases hk : kI z l = 1
  · have h1 := kind1 hk
    have : i ≠ np z l := fun e => by subst e; exact h ⟨h1.2.1, h1.2.2⟩
    have e1 : (np z l < i + 1 ↔ np z l < i) := by omega
    simp only [e1]
  · rw [if_neg hk, if_neg hk]
theorem gap_yes {z : Z} (hz : mayP z) {l : Int} {i : Nat} (hi : i < z.n) (hk : kI z l = 1) (h : z.t i + ah z i ≤ l ∧ l < z.t i + z.o i) : gapI z l (i + 1) = l - ah z i := by
  have h1 := kind1 hk
  have e : i = np z l := by
    rcases Nat.lt_trichotomy i (np z l) with h2 | h2 | h2
    · have := np_no h2; omega
    · exact h2
    · have g := gap' hz h2 hi
      have a := ah_bd hz i (by omega)
      have b := o_bd hz h1.1
      omega
  unfold gapI atI
  rw [if_pos hk, if_pos (by omega), e]
theorem gap_ne {z : Z} {l : Int} {i : Nat} (h : kI z l ≠ 1) : gapI z l (i + 1) = gapI z l i := by unfold gapI; rw [if_neg h, if_neg h]
theorem gap_end {z : Z} {l : Int} : gapI z l z.n = atI z l := by
  unfold gapI
  by_cases hk : kI z l = 1
  · rw [if_pos hk, if_pos (kind1 hk).1]
  · rw [if_neg hk]
theorem gap_start {z : Z} {l : Int} : gapI z l 0 = (if kI z l = 1 then 0 else atI z l) := by
  unfold gapI
  rw [if_neg (Nat.not_lt_zero _)]
end Zn
