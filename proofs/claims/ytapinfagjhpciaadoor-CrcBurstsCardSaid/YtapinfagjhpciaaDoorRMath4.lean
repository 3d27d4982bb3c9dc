/- Plain mathematics of bursts, bit by bit. -/
import Derived.Test.YtapinfagjhpciaaDoorRMath3
namespace Rc
/-- What byte j is turned by, once i bits of the burst have been looked at. -/
def tb (turn frm i j : Nat) : Nat := turn % 2 ^ i * 2 ^ frm / 2 ^ (8 * j) % 256
theorem tb_bit (turn frm i j k : Nat) : (tb turn frm i j).testBit k = (decide (k < 8) && (decide (frm ≤ 8 * j + k) && (decide (8 * j + k - frm < i) && turn.testBit (8 * j + k - frm)))) := by
  unfold tb
  rw [show (256 : Nat) = 2 ^ 8 from rfl, Nat.testBit_mod_two_pow, Nat.testBit_div_two_pow, Nat.mul_comm (turn % 2 ^ i), Nat.testBit_two_pow_mul, Nat.testBit_mod_two_pow, Nat.add_comm k]
theorem tb_zero (turn frm j : Nat) : tb turn frm 0 j = 0 := by unfold tb; simp [Nat.mod_one]
theorem tb_lt (turn frm i j : Nat) : tb turn frm i j < 256 := Nat.mod_lt _ (by omega)
theorem tb_no {turn frm i : Nat} (h : turn.testBit i = false) (j : Nat) : tb turn frm (i + 1) j = tb turn frm i j := by
  apply Nat.eq_of_testBit_eq
  intro k
  rw [tb_bit, tb_bit]
  by_cases he : 8 * j + k - frm = i
  · rw [he, h]; simp
  · have : decide (8 * j + k - frm < i + 1) = decide (8 * j + k - frm < i) := by rw [decide_eq_decide]; omega
    rw [this]
theorem tb_else {turn frm i q s : Nat} (hq : frm + i = 8 * q + s) (hs : s < 8) {j : Nat} (hj : j ≠ q) : tb turn frm (i + 1) j = tb turn frm i j := by
  apply Nat.eq_of_testBit_eq
  intro k
  rw [tb_bit, tb_bit]
  by_cases hk : k < 8
  · by_cases hf : frm ≤ 8 * j + k
    · have : decide (8 * j + k - frm < i + 1) = decide (8 * j + k - frm < i) := by rw [decide_eq_decide]; omega
      rw [this]
    · simp [hf]
  · simp [hk]
theorem tb_yes {turn frm i q s : Nat} (h : turn.testBit i = true) (hq : frm + i = 8 * q + s) (hs : s < 8) : tb turn frm (i + 1) q = tb turn frm i q ^^^ 2 ^ s := by
  apply Nat.eq_of_testBit_eq
  intro k
  rw [Nat.testBit_xor, tb_bit, tb_bit, Nat.testBit_two_pow]
  by_cases hk : k < 8
  · by_cases he : s = k
    · subst he
      have e1 : 8 * q + s - frm = i := by omega
      have e2 : frm ≤ 8 * q + s := by omega
      rw [e1]; simp [hk, e2, h]
    · have e3 : decide (s = k) = false := decide_eq_false he
      rw [e3]
      by_cases hf : frm ≤ 8 * q + k
      · have : decide (8 * q + k - frm < i + 1) = decide (8 * q + k - frm < i) := by rw [decide_eq_decide]; omega
        rw [this]; simp
      · simp [hf]
  · have : ¬ s = k := by omega
    simp [hk, this]
theorem bytes_at (v n : Nat) : ∀ j, j < n → (bytes v n)[j]? = some (v / 2 ^ (8 * j) % 256) := by
  induction n generalizing v with
  | zero => intro j h; omega
  | succ n ih =>
    intro j h
    cases j with
    | zero => simp [bytes]
    | succ j =>
      rw [bytes, List.getElem?_cons_succ, ih _ _ (by omega), Nat.div_div_eq_div_mul, show (256 : Nat) = 2 ^ 8 from rfl, ← Nat.pow_add, show 8 + 8 * j = 8 * (j + 1) by omega]
theorem xors_at (l : List Nat) (turn frm : Nat) (ht : turn < 4294967296) (j c : Nat) (hj : l[j]? = some c) :
    (List.zipWith (· ^^^ ·) l (bytes (turn * 2 ^ frm) l.length))[j]? = some (c ^^^ tb turn frm 32 j) := by
  have hlt : j < l.length := (List.getElem?_eq_some_iff.1 hj).1
  rw [List.getElem?_zipWith, hj, bytes_at _ _ _ hlt]
  unfold tb
  rw [Nat.mod_eq_of_lt (show turn < 2 ^ 32 by omega)]
/-- Bytes that are turned so have another sum. -/
theorem sums_apart {l m : List Nat} {turn frm : Nat} (ht0 : turn ≠ 0) (ht : turn < 4294967296) (hn : frm + 32 ≤ 8 * l.length) (hl : ∀ c ∈ l, c < 256) (hm : ∀ c ∈ m, c < 256)
    (hlen : m.length = l.length) (h : ∀ j c, l[j]? = some c → m[j]? = some (c ^^^ tb turn frm 32 j)) : sum m ≠ sum l := by
  have e : m = List.zipWith (· ^^^ ·) l (bytes (turn * 2 ^ frm) l.length) := by
    apply List.ext_getElem?
    intro j
    by_cases hj : j < l.length
    · have := h j _ (List.getElem?_eq_getElem hj)
      rw [this, xors_at l turn frm ht j _ (List.getElem?_eq_getElem hj)]
    · rw [List.getElem?_eq_none (by omega), List.getElem?_eq_none (by simp [bytes_len]; omega)]
  intro he
  unfold sum at he
  have h1 := run_lt (r := 4294967295) (by omega) m hm
  have h2 := run_lt (r := 4294967295) (by omega) l hl
  have h3 := told (r := 4294967295) ht0 ht hn
  rw [← e] at h3
  omega
end Rc
