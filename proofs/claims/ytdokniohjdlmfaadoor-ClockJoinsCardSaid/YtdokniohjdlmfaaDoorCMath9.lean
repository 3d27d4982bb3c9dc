/- Plain mathematics: labels, by their first and last bytes and letters. -/
import Derived.Test.YtdokniohjdlmfaaDoorCMath8
namespace Ck
open Go

theorem foldC_32 (k : Nat) : ∀ (c : Int) (r y : List UInt8), foldC k c (r ++ 32 :: y) = foldC k c r := by
  induction k with
  | zero => intro c r y; rfl
  | succ k ih =>
    intro c r y
    cases r with
    | nil => show foldC (k + 1) c (32 :: y) = none; exact foldC_none (by decide)
    | cons b r =>
      show foldC (k + 1) c (b :: (r ++ 32 :: y)) = foldC (k + 1) c (b :: r)
      unfold foldC
      split
      · exact ih _ _ _
      · rfl
theorem cont_32 (many : Nat) (least c : Int) (r y : List UInt8) : contT many least c (r ++ 32 :: y) = contT many least c r := by
  unfold contT; rw [foldC_32]
theorem oneT_32 (x y : List UInt8) (h : x ≠ []) : oneT (x ++ 32 :: y) = oneT x := by
  cases x with
  | nil => exact absurd rfl h
  | cons c r =>
    show oneT (c :: (r ++ 32 :: y)) = oneT (c :: r)
    simp only [oneT, cont_32]
theorem LT_32 (n : Nat) : ∀ (x y : List UInt8), x.length ≤ n → LT (x ++ 32 :: y) = LT x ++ 32 :: LT y := by
  induction n with
  | zero =>
    intro x y h
    obtain rfl : x = [] := List.eq_nil_of_length_eq_zero (by omega)
    rw [List.nil_append, LT_step (32 :: y) (by simp), LT_nil]
    rw [show oneT (32 :: y) = (1, 32) by simp [oneT]]
    rfl
  | succ n ih =>
    intro x y h
    by_cases hx : x = []
    · subst hx; exact ih [] y (by simp)
    · have hl : 0 < x.length := List.length_pos_iff.2 hx
      have ho := oneT_len x hl
      rw [LT_step (x ++ 32 :: y) (by rw [List.length_append]; omega), LT_step x hl, oneT_32 x y hx, List.drop_append_of_le_length ho.2, ih _ y (by rw [List.length_drop]; omega)]
      rfl
theorem LT_sp (x y : List UInt8) : LT (x ++ 32 :: y) = LT x ++ 32 :: LT y := LT_32 x.length x y (Nat.le_refl _)
theorem cont_ge (many : Nat) (least c : Int) (r : List UInt8) : (contT many least c r).2 = -1 ∨ least ≤ (contT many least c r).2 := by
  unfold contT
  split
  · exact .inl rfl
  · split
    · exact .inl rfl
    · rename_i hb; unfold badC at hb; right; simp only; omega
theorem oneT_is32 {l : List UInt8} (h : (oneT l).2 = 32) : ∃ r, l = 32 :: r ∧ (oneT l).1 = 1 := by
  cases l with
  | nil => simp [oneT] at h
  | cons c r =>
    by_cases c0 : c.toNat < 128
    · have e : oneT (c :: r) = (1, (c.toNat : Int)) := by simp only [oneT]; rw [if_pos c0]
      rw [e] at h ⊢
      simp only at h
      have : c = 32 := by apply UInt8.toNat_inj.1; show c.toNat = 32; omega
      subst this
      exact ⟨r, rfl, rfl⟩
    · exfalso
      simp only [oneT] at h
      rw [if_neg c0] at h
      split at h
      · have := cont_ge 1 128 ((c.toNat : Int) - 192) r; omega
      · split at h
        · have := cont_ge 2 2048 ((c.toNat : Int) - 224) r; omega
        · split at h
          · have := cont_ge 3 65536 ((c.toNat : Int) - 240) r; omega
          · simp at h
theorem LT_last (n : Nat) : ∀ (l : List UInt8) (a : List Int), l.length ≤ n → LT l = a ++ [32] → ∃ r, l = r ++ [32] := by
  induction n with
  | zero =>
    intro l a h e
    obtain rfl : l = [] := List.eq_nil_of_length_eq_zero (by omega)
    rw [LT_nil] at e; simp at e
  | succ n ih =>
    intro l a h e
    by_cases hl : 0 < l.length
    · have ho := oneT_len l hl
      rw [LT_step l hl] at e
      cases a with
      | nil =>
        simp only [List.nil_append, List.cons.injEq] at e
        obtain ⟨r, hr, h1⟩ := oneT_is32 e.1
        by_cases hd : 0 < (l.drop (oneT l).1).length
        · rw [LT_step _ hd] at e; exact absurd e.2 (by simp)
        · rw [h1, hr] at hd
          simp at hd
          exact ⟨[], by rw [hr, hd]; rfl⟩
      | cons x a =>
        simp only [List.cons_append, List.cons.injEq] at e
        obtain ⟨r, hr⟩ := ih (l.drop (oneT l).1) a (by rw [List.length_drop]; omega) e.2
        exact ⟨l.take (oneT l).1 ++ r, by rw [List.append_assoc, ← hr, List.take_append_drop]⟩
    · obtain rfl : l = [] := List.eq_nil_of_length_eq_zero (by omega)
      rw [LT_nil] at e; simp at e
theorem pre_iff (l : List UInt8) : Lib.hasPrefix l [32] = true ↔ ∃ r, l = 32 :: r := by
  unfold Lib.hasPrefix
  rw [List.isPrefixOf_iff_prefix]
  constructor
  · rintro ⟨r, rfl⟩; exact ⟨r, rfl⟩
  · rintro ⟨r, rfl⟩; exact ⟨r, rfl⟩
theorem suf_iff (l : List UInt8) : Lib.hasSuffix l [32] = true ↔ ∃ r, l = r ++ [32] := by
  unfold Lib.hasSuffix
  rw [List.isSuffixOf_iff_suffix]
  constructor
  · rintro ⟨r, rfl⟩; exact ⟨r, rfl⟩
  · rintro ⟨r, rfl⟩; exact ⟨r, rfl⟩
theorem lab_pre {l : List UInt8} (h : Lib.hasPrefix l [32] = true) : labB (LT l) = false := by
  obtain ⟨r, rfl⟩ := (pre_iff l).1 h
  have e := LT_sp [] r
  rw [List.nil_append, LT_nil, List.nil_append] at e
  unfold labB
  rw [e]
  exact labF_no.2 fun h => h.2.2.1 rfl
theorem lab_suf {l : List UInt8} (h : Lib.hasSuffix l [32] = true) : labB (LT l) = false := by
  obtain ⟨r, rfl⟩ := (suf_iff l).1 h
  unfold labB
  rw [LT_sp r [], LT_nil]
  refine labF_no.2 fun h => h.2.2.2.1 ?_
  show (LT r ++ [32]).getD ((LT r ++ [32]).length - 1) 0 = 32
  rw [List.getD_eq_getElem?_getD, List.length_append]
  simp
theorem lab_bad {l : List UInt8} {a b : List Int} {c : Int} (h : LT l = a ++ c :: b) (hc : ¬ okC c) : labB (LT l) = false := by
  unfold labB
  refine labF_no.2 fun hh => hc ?_
  have := hh.2.2.2.2 a.length (by rw [h]; simp)
  rw [h] at this
  simp only [List.getD_eq_getElem?_getD] at this
  simpa using this
theorem lab_end {l : List UInt8} (hp : Lib.hasPrefix l [32] = false) (hs : Lib.hasSuffix l [32] = false) (ok : ∀ c ∈ LT l, okC c) :
    labB (LT l) = (decide (1 ≤ (LT l).length) && decide ((LT l).length ≤ 24)) := by
  have np : ¬ ∃ r, l = 32 :: r := fun h => by rw [(pre_iff l).2 h] at hp; cases hp
  have ns : ¬ ∃ r, l = r ++ [32] := fun h => by rw [(suf_iff l).2 h] at hs; cases hs
  unfold labB labFB
  rw [Bool.eq_iff_iff]
  simp only [Bool.and_eq_true, decide_eq_true_eq]
  constructor
  · intro h; exact ⟨h.1, h.2.1⟩
  · rintro ⟨h1, h2⟩
    refine ⟨h1, h2, ?_, ?_, ?_⟩
    · intro h0
      by_cases hl : 0 < l.length
      · rw [LT_step l hl] at h0
        have h0 : (oneT l).2 = 32 := by simpa using h0
        obtain ⟨r, hr, _⟩ := oneT_is32 h0
        exact np ⟨r, hr⟩
      · obtain rfl : l = [] := List.eq_nil_of_length_eq_zero (by omega)
        rw [LT_nil] at h1; simp at h1
    · intro h0
      rcases List.eq_nil_or_concat (LT l) with e | ⟨a, x, e⟩
      · rw [e] at h1; simp at h1
      · rw [e] at h0
        simp only [List.getD_eq_getElem?_getD] at h0
        have h0 : x = 32 := by simpa using h0
        subst h0
        exact ns (LT_last l.length l a (Nat.le_refl _) (by rw [e]; simp))
    · intro i hi
      show okC ((LT l).getD i 0)
      rw [List.getD_eq_getElem?_getD, List.getElem?_eq_getElem hi]
      exact ok _ (List.getElem_mem hi)
theorem LT_at (l : List UInt8) (pos : Nat) (h : pos < l.length) : LT (l.drop pos) = (oneT (l.drop pos)).2 :: LT (l.drop (pos + (oneT (l.drop pos)).1)) := by
  rw [LT_step _ (by rw [List.length_drop]; omega), List.drop_drop]
end Ck
