/- Plain mathematics: the model's letters are the document's; labels by runes. -/
import Derived.Test.YtdokniohjdlmfaaDoorCMath4
import GoSem.Core.Utf8
import Derived.Lib.Strings
namespace Ck
open Go

def dec (p : Nat × Int) : Nat × Nat := (if p.2 < 0 then 65533 else p.2.toNat, p.1)
def at8 (l : List UInt8) (k : Nat) : Nat := (l.getD k 0).toNat
def cont8 (l : List UInt8) (k : Nat) : Bool := decide (k < l.length) && at8 l k / 64 == 2
def decL (l : List UInt8) : Nat × Nat :=
  if at8 l 0 < 0x80 then (at8 l 0, 1)
  else if at8 l 0 / 32 == 6 && cont8 l 1 then
    if (at8 l 0 % 32) * 64 + at8 l 1 % 64 ≥ 0x80 then ((at8 l 0 % 32) * 64 + at8 l 1 % 64, 2) else (0xFFFD, 1)
  else if at8 l 0 / 16 == 14 && cont8 l 1 && cont8 l 2 then
    if (at8 l 0 % 16) * 4096 + (at8 l 1 % 64) * 64 + at8 l 2 % 64 ≥ 0x800 && Utf8.valid ((at8 l 0 % 16) * 4096 + (at8 l 1 % 64) * 64 + at8 l 2 % 64 : Nat) then ((at8 l 0 % 16) * 4096 + (at8 l 1 % 64) * 64 + at8 l 2 % 64, 3) else (0xFFFD, 1)
  else if at8 l 0 / 8 == 30 && cont8 l 1 && cont8 l 2 && cont8 l 3 then
    if (at8 l 0 % 8) * 262144 + (at8 l 1 % 64) * 4096 + (at8 l 2 % 64) * 64 + at8 l 3 % 64 ≥ 0x10000 && Utf8.valid ((at8 l 0 % 8) * 262144 + (at8 l 1 % 64) * 4096 + (at8 l 2 % 64) * 64 + at8 l 3 % 64 : Nat) then ((at8 l 0 % 8) * 262144 + (at8 l 1 % 64) * 4096 + (at8 l 2 % 64) * 64 + at8 l 3 % 64, 4) else (0xFFFD, 1)
  else (0xFFFD, 1)
theorem get8 (s : ByteArray) (i : Nat) : s.get! i = s.data.toList.getD i 0 := by
  show s.data[i]! = _
  rw [Array.getElem!_eq_getD, Array.getD_eq_getD_getElem?, List.getD_eq_getElem?_getD, Array.getElem?_toList]
  rfl
theorem decode_decL (s : ByteArray) (pos : Nat) (h : pos < s.size) : Utf8.decode s pos = decL (s.data.toList.drop pos) := by
  have hg : ∀ k, (s.get! (pos + k)).toNat = at8 (s.data.toList.drop pos) k := fun k => by
    rw [get8]; unfold at8
    rw [List.getD_eq_getElem?_getD, List.getD_eq_getElem?_getD, List.getElem?_drop]
  have hc : ∀ k, (decide (pos + k < s.size) && at8 (s.data.toList.drop pos) k / 64 == 2) = cont8 (s.data.toList.drop pos) k := fun k => by
    unfold cont8
    congr 2
    rw [List.length_drop]
    have : s.data.toList.length = s.size := by simp
    rw [this, eq_iff_iff]; omega
  simp only [Utf8.decode, hg, hc, Utf8.runeError, decL]
theorem cont_iff {b : UInt8} : (b.toNat / 64 == 2) = decide (128 ≤ b.toNat ∧ b.toNat ≤ 191) := by
  have := b.toNat_lt
  rw [Bool.eq_iff_iff]; simp; omega
theorem cont8_one (b0 b1 : UInt8) (r : List UInt8) : cont8 (b0 :: b1 :: r) 1 = decide (128 ≤ b1.toNat ∧ b1.toNat ≤ 191) := by
  unfold cont8 at8; rw [← cont_iff]; simp
theorem cont8_two (b0 b1 b2 : UInt8) (r : List UInt8) : cont8 (b0 :: b1 :: b2 :: r) 2 = decide (128 ≤ b2.toNat ∧ b2.toNat ≤ 191) := by
  unfold cont8 at8; rw [← cont_iff]; simp
theorem cont8_three (b0 b1 b2 b3 : UInt8) (r : List UInt8) : cont8 (b0 :: b1 :: b2 :: b3 :: r) 3 = decide (128 ≤ b3.toNat ∧ b3.toNat ≤ 191) := by
  unfold cont8 at8; rw [← cont_iff]; simp
theorem cont8_short (l : List UInt8) (k : Nat) (h : l.length ≤ k) : cont8 l k = false := by
  unfold cont8; rw [decide_eq_false (by omega)]; rfl
theorem valid_iff (c : Nat) : Utf8.valid (c : Int) = decide (c < 55296 ∨ (57344 ≤ c ∧ c ≤ 1114111)) := by
  unfold Utf8.valid
  rw [Bool.eq_iff_iff]; simp; omega
theorem decL_one (l : List UInt8) (h : 0 < l.length) : decL l = dec (oneT l) := by
  cases l with
  | nil => simp at h
  | cons b0 r =>
    clear h
    have h0 := b0.toNat_lt
    have a0 : at8 (b0 :: r) 0 = b0.toNat := rfl
    unfold decL
    simp only [a0]
    by_cases c0 : b0.toNat < 128
    · rw [if_pos c0]; simp only [oneT]; rw [if_pos c0]; unfold dec; simp; omega
    rw [if_neg c0]
    simp only [oneT]
    rw [if_neg c0]
    by_cases c1 : 192 ≤ b0.toNat ∧ b0.toNat < 224
    · rw [if_pos c1]
      have e1 : (b0.toNat / 32 == 6) = true := by simp; omega
      have e2 : (b0.toNat / 16 == 14) = false := by simp; omega
      have e3 : (b0.toNat / 8 == 30) = false := by simp; omega
      simp only [e1, e2, e3, Bool.true_and, Bool.false_and]
      rcases r with _ | ⟨b1, r⟩
      · rw [cont8_short _ _ (by simp), cont_short (by simp)]; rfl
      · rw [cont8_one]
        have a1 : at8 (b0 :: b1 :: r) 1 = b1.toNat := rfl
        rw [a1]
        by_cases d1 : 128 ≤ b1.toNat ∧ b1.toNat ≤ 191
        · rw [decide_eq_true d1, if_pos rfl]
          have hf : foldC 1 ((b0.toNat : Int) - 192) (b1 :: r) = some (64 * ((b0.toNat : Int) - 192) + b1.toNat - 128) := by rw [foldC_step d1]; rfl
          by_cases hb : badC 128 (64 * ((b0.toNat : Int) - 192) + b1.toNat - 128)
          · rw [cont_bad hf hb, if_neg (by unfold badC at hb; omega)]; rfl
          · rw [cont_ok hf hb, if_pos (by unfold badC at hb; omega)]
            unfold badC at hb; unfold dec; simp only; rw [if_neg (by omega)]
            congr 1; omega
        · rw [decide_eq_false d1, cont_none (foldC_none d1)]; rfl
    rw [if_neg c1]
    have e1 : (b0.toNat / 32 == 6) = false := by simp; omega
    simp only [e1, Bool.false_and]
    rw [if_neg (by simp)]
    by_cases c2 : 224 ≤ b0.toNat ∧ b0.toNat < 240
    · rw [if_pos c2]
      have e2 : (b0.toNat / 16 == 14) = true := by simp; omega
      have e3 : (b0.toNat / 8 == 30) = false := by simp; omega
      simp only [e2, e3, Bool.true_and, Bool.false_and]
      rcases r with _ | ⟨b1, r⟩
      · rw [cont8_short _ 1 (by simp), cont_short (by simp)]; rfl
      rw [cont8_one]
      by_cases d1 : 128 ≤ b1.toNat ∧ b1.toNat ≤ 191
      · rw [decide_eq_true d1]
        rcases r with _ | ⟨b2, r⟩
        · rw [cont8_short _ 2 (by simp), cont_short (by simp)]; rfl
        rw [cont8_two]
        by_cases d2 : 128 ≤ b2.toNat ∧ b2.toNat ≤ 191
        · have a1 : at8 (b0 :: b1 :: b2 :: r) 1 = b1.toNat := rfl
          have a2 : at8 (b0 :: b1 :: b2 :: r) 2 = b2.toNat := rfl
          rw [decide_eq_true d2, a1, a2, valid_iff]
          have hf : foldC 2 ((b0.toNat : Int) - 224) (b1 :: b2 :: r) = some (64 * (64 * ((b0.toNat : Int) - 224) + b1.toNat - 128) + b2.toNat - 128) := by rw [foldC_step d1, foldC_step d2]; rfl
          by_cases hb : badC 2048 (64 * (64 * ((b0.toNat : Int) - 224) + b1.toNat - 128) + b2.toNat - 128)
          · rw [cont_bad hf hb]
            rw [if_pos (show (true && true) = true from rfl), if_neg (by unfold badC at hb; simp only [Bool.and_eq_true, decide_eq_true_eq]; omega)]; rfl
          · rw [cont_ok hf hb, if_pos (show (true && true) = true from rfl), if_pos (by unfold badC at hb; simp only [Bool.and_eq_true, decide_eq_true_eq]; omega)]
            unfold badC at hb; unfold dec; simp only; rw [if_neg (by omega)]
            congr 1; omega
        · rw [decide_eq_false d2, cont_none (by rw [foldC_step d1, foldC_none d2])]; rfl
      · rw [decide_eq_false d1, cont_none (foldC_none d1)]; rfl
    rw [if_neg c2]
    have e2 : (b0.toNat / 16 == 14) = false := by simp; omega
    simp only [e2, Bool.false_and]
    rw [if_neg (by simp)]
    by_cases c3 : 240 ≤ b0.toNat ∧ b0.toNat < 248
    · rw [if_pos c3]
      have e3 : (b0.toNat / 8 == 30) = true := by simp; omega
      simp only [e3, Bool.true_and]
      rcases r with _ | ⟨b1, r⟩
      · rw [cont8_short _ 1 (by simp), cont_short (by simp)]; rfl
      rw [cont8_one]
      by_cases d1 : 128 ≤ b1.toNat ∧ b1.toNat ≤ 191
      · rw [decide_eq_true d1]
        rcases r with _ | ⟨b2, r⟩
        · rw [cont8_short _ 2 (by simp), cont_short (by simp)]; rfl
        rw [cont8_two]
        by_cases d2 : 128 ≤ b2.toNat ∧ b2.toNat ≤ 191
        · rw [decide_eq_true d2]
          rcases r with _ | ⟨b3, r⟩
          · rw [cont8_short _ 3 (by simp), cont_short (by simp)]; rfl
          rw [cont8_three]
          by_cases d3 : 128 ≤ b3.toNat ∧ b3.toNat ≤ 191
          · have a1 : at8 (b0 :: b1 :: b2 :: b3 :: r) 1 = b1.toNat := rfl
            have a2 : at8 (b0 :: b1 :: b2 :: b3 :: r) 2 = b2.toNat := rfl
            have a3 : at8 (b0 :: b1 :: b2 :: b3 :: r) 3 = b3.toNat := rfl
            rw [decide_eq_true d3, a1, a2, a3, valid_iff]
            have hf : foldC 3 ((b0.toNat : Int) - 240) (b1 :: b2 :: b3 :: r) = some (64 * (64 * (64 * ((b0.toNat : Int) - 240) + b1.toNat - 128) + b2.toNat - 128) + b3.toNat - 128) := by rw [foldC_step d1, foldC_step d2, foldC_step d3]; rfl
            by_cases hb : badC 65536 (64 * (64 * (64 * ((b0.toNat : Int) - 240) + b1.toNat - 128) + b2.toNat - 128) + b3.toNat - 128)
            · rw [cont_bad hf hb]
              rw [if_pos (show (true && true && true) = true from rfl), if_neg (by unfold badC at hb; simp only [Bool.and_eq_true, decide_eq_true_eq]; omega)]; rfl
            · rw [cont_ok hf hb, if_pos (show (true && true && true) = true from rfl), if_pos (by unfold badC at hb; simp only [Bool.and_eq_true, decide_eq_true_eq]; omega)]
              unfold badC at hb; unfold dec; simp only; rw [if_neg (by omega)]
              congr 1; omega
          · rw [decide_eq_false d3, cont_none (by rw [foldC_step d1, foldC_step d2, foldC_none d3])]; rfl
        · rw [decide_eq_false d2, cont_none (by rw [foldC_step d1, foldC_none d2])]; rfl
      · rw [decide_eq_false d1, cont_none (foldC_none d1)]; rfl
    rw [if_neg c3]
    have e3 : (b0.toNat / 8 == 30) = false := by simp; omega
    simp only [e3, Bool.false_and]
    rfl
theorem decode_one (s : ByteArray) (pos : Nat) (h : pos < s.size) : Utf8.decode s pos = dec (oneT (s.data.toList.drop pos)) := by
  rw [decode_decL s pos h, decL_one _ (by simp; omega)]

/-- A rune of a letter: a byte that is part of none is U+FFFD. -/
def runeOf (c : Int) : Int := if c < 0 then 65533 else c
theorem oneT_bd (l : List UInt8) : -1 ≤ (oneT l).2 ∧ (oneT l).2 ≤ 1114111 := by
  cases l with
  | nil => simp [oneT]
  | cons c r =>
    have key : ∀ many least (x : Int), 0 ≤ least → -1 ≤ (contT many least x r).2 ∧ (contT many least x r).2 ≤ 1114111 := by
      intro many least x hl
      unfold contT
      split
      · simp
      · rename_i v _
        split
        · simp
        · rename_i hb
          unfold badC at hb
          simp only
          omega
    simp only [oneT]
    split
    · simp only; omega
    · split
      · exact key _ _ _ (by omega)
      · split
        · exact key _ _ _ (by omega)
        · split
          · exact key _ _ _ (by omega)
          · simp
theorem dec_rune (p : Nat × Int) : ((dec p).1 : Int) = runeOf p.2 ∧ (dec p).2 = p.1 := by
  unfold dec runeOf
  refine ⟨?_, rfl⟩
  simp only
  split <;> omega
theorem rune_ok {c : Int} (h : -1 ≤ c) : okC (runeOf c) ↔ okC c := by
  unfold okC runeOf
  split <;> omega
end Ck
