/- Plain mathematics: numerals with noughts ahead, digits read, texts cut. -/
import Derived.Test.YtdokniohjdlmfaaDoorCMath2
import Derived.Lib.ItoaNum
import Derived.Lib.Repeat
import Derived.Lib.IndexMore
namespace Ck
open Go

theorem low_snoc (n : Int) (i : Nat) : low n (i + 1) = low (n / 10) i ++ [dig (n % 10)] := by
  induction i with
  | zero => simp [low]
  | succ i ih =>
    rw [show low n (i + 1 + 1) = dig (n / 10 ^ (i + 1) % 10) :: low n (i + 1) from rfl, ih]
    rw [show low (n / 10) (i + 1) = dig (n / 10 / 10 ^ i % 10) :: low (n / 10) i from rfl]
    rw [Int.ediv_ediv_of_nonneg (by omega), show (10 : Int) * 10 ^ i = 10 ^ (i + 1) by rw [Int.pow_succ, Int.mul_comm]]
    rfl
theorem low_zero (i : Nat) : low 0 i = Lib.repeatL [48] i := by
  induction i with
  | zero => rfl
  | succ i ih => rw [show low 0 (i + 1) = dig (0 / 10 ^ i % 10) :: low 0 i from rfl, ih, Int.zero_ediv]; rfl
theorem dig_ofNat (k : Nat) : UInt8.ofNat (48 + k) = dig (k : Int) := by
  unfold dig; congr 1
theorem low_dec (i : Nat) : ∀ u : Nat, u < 10 ^ (i + 1) → (Lib.decDigits u).length ≤ i + 1 ∧ Lib.repeatL [48] (i + 1 - (Lib.decDigits u).length) ++ Lib.decDigits u = low u (i + 1) := by
  induction i with
  | zero =>
    intro u hu
    have h : u < 10 := by simpa using hu
    rw [Lib.decDigits_one h, dig_ofNat]
    refine ⟨by simp, ?_⟩
    show [dig (u : Int)] = [dig ((u : Int) / 10 ^ 0 % 10)]
    congr 2; omega
  | succ i ih =>
    intro u hu
    rw [low_snoc]
    by_cases h : u < 10
    · rw [Lib.decDigits_one h, dig_ofNat]
      refine ⟨by simp, ?_⟩
      rw [show ((u : Int) / 10) = 0 by omega, low_zero, show (u : Int) % 10 = u by omega]
      rfl
    · have := ih (u / 10) (by rw [Nat.pow_succ] at hu; omega)
      obtain ⟨h1, h2⟩ := this
      rw [Lib.decDigits, dif_neg h]
      refine ⟨by simp; omega, ?_⟩
      rw [← List.append_assoc, List.length_append, show i + 1 + 1 - ((Lib.decDigits (u / 10)).length + [UInt8.ofNat (48 + u % 10)].length) = i + 1 - (Lib.decDigits (u / 10)).length by simp, h2, dig_ofNat]
      congr 2
theorem itoa_low {n : Int} {w : Nat} (h0 : 0 ≤ n) (hw : 1 ≤ w) (h : n < 10 ^ w) : (Lib.itoa n).length ≤ w ∧ Lib.repeatL [48] (w - (Lib.itoa n).length) ++ Lib.itoa n = low n w := by
  obtain ⟨u, rfl⟩ : ∃ u : Nat, n = u := ⟨n.toNat, by omega⟩
  obtain ⟨i, rfl⟩ : ∃ i, w = i + 1 := ⟨w - 1, by omega⟩
  have e : Lib.itoa (u : Int) = Lib.decDigits u := by unfold Lib.itoa; rw [if_neg (by omega)]; simp
  rw [e]
  exact low_dec i u (by exact_mod_cast h)

/-- Is a byte a digit? -/
def dgt (c : UInt8) : Bool := decide (48 ≤ c.toNat) && decide (c.toNat ≤ 57)
/-- The number of just so many digits. -/
def rd (l : List UInt8) (w : Nat) : Option Int := if l.length = w ∧ l.all dgt = true then some (valI l) else none
theorem dgt_iff {c : UInt8} : dgt c = true ↔ 48 ≤ c.toNat ∧ c.toNat ≤ 57 := by unfold dgt; simp
theorem dig_dgt {d : Int} (h0 : 0 ≤ d) (h : d ≤ 9) : dgt (dig d) = true := by
  have := dig_nat h0 h
  rw [dgt_iff]; omega
theorem dig_of_dgt {c : UInt8} (h : dgt c = true) : dig ((c.toNat : Int) - 48) = c := by
  have h := dgt_iff.1 h
  have := dig_nat (d := (c.toNat : Int) - 48) (by omega) (by omega)
  apply UInt8.toNat_inj.1
  omega
theorem valFrom_add (l : List UInt8) (n : Int) (hl : l.all dgt = true) : valFrom n l = n * 10 ^ l.length + valI l := by
  induction l generalizing n with
  | nil => simp [valFrom, valI]
  | cons c r ih =>
    simp only [List.all_cons, Bool.and_eq_true] at hl
    have hc := dgt_iff.1 hl.1
    unfold valI valFrom
    rw [if_pos hc, if_pos hc, ih _ hl.2, ih (10 * 0 + (c.toNat : Int) - 48) hl.2, List.length_cons, Int.pow_succ]
    generalize (10 : Int) ^ r.length = q
    rw [show n * (q * 10) = (10 * n) * q by rw [Int.mul_comm q 10, ← Int.mul_assoc, Int.mul_comm n 10], ← Int.add_assoc, ← Int.add_mul]
    congr 2
    omega
theorem valI_cons (c : UInt8) (r : List UInt8) (hc : dgt c = true) (hr : r.all dgt = true) : valI (c :: r) = ((c.toNat : Int) - 48) * 10 ^ r.length + valI r := by
  have h := dgt_iff.1 hc
  show valFrom 0 (c :: r) = _
  unfold valFrom
  rw [if_pos h, valFrom_add _ _ hr]
  congr 2
  omega
theorem valI_nn (l : List UInt8) (hl : l.all dgt = true) : 0 ≤ valI l ∧ valI l < 10 ^ l.length := by
  induction l with
  | nil => exact ⟨by decide, by decide⟩
  | cons c r ih =>
    simp only [List.all_cons, Bool.and_eq_true] at hl
    have h := dgt_iff.1 hl.1
    obtain ⟨a, b⟩ := ih hl.2
    rw [valI_cons c r hl.1 hl.2, List.length_cons, Int.pow_succ]
    have hp : (0 : Int) < 10 ^ r.length := Int.pow_pos (by omega)
    generalize (10 : Int) ^ r.length = q at *
    have h1 : ((c.toNat : Int) - 48) * q ≤ 9 * q := Int.mul_le_mul_of_nonneg_right (by omega) (by omega)
    have h2 : 0 ≤ ((c.toNat : Int) - 48) * q := Int.mul_nonneg (by omega) (by omega)
    omega
theorem valI_neg (l : List UInt8) : ∀ n, l.all dgt = false → valFrom n l = -1 := by
  induction l with
  | nil => intro n h; simp at h
  | cons c r ih =>
    intro n h
    unfold valFrom
    split
    · rename_i hc
      refine ih _ ?_
      rw [List.all_cons, dgt_iff.2 hc] at h
      simpa using h
    · rfl
theorem low_val (l : List UInt8) (hl : l.all dgt = true) : low (valI l) l.length = l := by
  induction l with
  | nil => rfl
  | cons c r ih =>
    simp only [List.all_cons, Bool.and_eq_true] at hl
    have h := dgt_iff.1 hl.1
    obtain ⟨a, b⟩ := valI_nn r hl.2
    rw [List.length_cons]
    show dig (valI (c :: r) / 10 ^ r.length % 10) :: low (valI (c :: r)) r.length = _
    have hp : (0 : Int) < 10 ^ r.length := Int.pow_pos (by omega)
    have e : valI (c :: r) / 10 ^ r.length = (c.toNat : Int) - 48 := by
      rw [valI_cons c r hl.1 hl.2, Int.add_comm, Int.add_mul_ediv_right _ _ (by omega), Int.ediv_eq_zero_of_lt a b, Int.zero_add]
    have e2 : low (valI (c :: r)) r.length = low (valI r) r.length := by
      rw [valI_cons c r hl.1 hl.2]
      exact low_add _ _ _ (Nat.le_refl _)
    rw [e, e2, ih hl.2, Int.emod_eq_of_lt (by omega) (by omega), dig_of_dgt hl.1]
where
  low_add (x n : Int) (k : Nat) : ∀ {i : Nat}, i ≤ k → low (x * 10 ^ k + n) i = low n i := by
    intro i
    induction i with
    | zero => intro _; rfl
    | succ i ih =>
      intro hi
      show dig ((x * 10 ^ k + n) / 10 ^ i % 10) :: low (x * 10 ^ k + n) i = dig (n / 10 ^ i % 10) :: low n i
      rw [ih (by omega)]
      congr 2
      obtain ⟨j, rfl⟩ : ∃ j, k = i + 1 + j := ⟨k - (i + 1), by omega⟩
      have hp : (10 : Int) ^ i ≠ 0 := by have : (0 : Int) < 10 ^ i := Int.pow_pos (by omega); omega
      rw [show (10 : Int) ^ (i + 1 + j) = 10 * 10 ^ j * 10 ^ i by rw [Int.pow_add, Int.pow_succ]; ac_rfl, ← Int.mul_assoc, Int.add_comm, Int.add_mul_ediv_right _ _ hp]
      rw [show x * (10 * 10 ^ j) = 10 * (x * 10 ^ j) by ac_rfl]
      generalize x * 10 ^ j = y
      omega
theorem low_dgt (n : Int) (i : Nat) : (low n i).all dgt = true := by
  induction i with
  | zero => rfl
  | succ i ih =>
    show (dig (n / 10 ^ i % 10) :: low n i).all dgt = true
    rw [List.all_cons, ih, dig_dgt (by omega) (by omega)]; rfl
theorem val_low {n : Int} {i : Nat} (h0 : 0 ≤ n) (h : n < 10 ^ i) : valI (low n i) = n := ih_any i n h0 h
where
  ih_any : ∀ (i : Nat) (n : Int), 0 ≤ n → n < 10 ^ i → valI (low n i) = n := by
    intro i
    induction i with
    | zero => intro n h0 h; simp at h; show valFrom 0 [] = n; unfold valFrom; omega
    | succ i ih =>
      intro n h0 h
      rw [show low n (i + 1) = dig (n / 10 ^ i % 10) :: low n i from rfl, valI_cons _ _ (dig_dgt (by omega) (by omega)) (low_dgt n i), low_len]
      have hp : (0 : Int) < 10 ^ i := Int.pow_pos (by omega)
      have hd : n / 10 ^ i < 10 := Int.ediv_lt_of_lt_mul hp (by rw [Int.pow_succ] at h; rw [Int.mul_comm]; exact h)
      have hd0 : 0 ≤ n / 10 ^ i := Int.ediv_nonneg h0 (by omega)
      rw [dig_nat (by omega) (by omega), Int.emod_eq_of_lt hd0 hd]
      have e := Int.mul_ediv_add_emod n (10 ^ i)
      have e2 : low n i = low (n % 10 ^ i) i := by
        have := low_val.low_add (n / 10 ^ i) (n % 10 ^ i) i (Nat.le_refl i)
        rw [Int.mul_comm, e] at this
        exact this
      rw [e2, ih _ (Int.emod_nonneg n (by omega)) (Int.emod_lt_of_pos n hp), show ∀ d : Int, 48 + d - 48 = d from fun d => by omega, Int.mul_comm]
      exact e
theorem rd_low {n : Int} {i : Nat} (h0 : 0 ≤ n) (h : n < 10 ^ i) : rd (low n i) i = some n := by
  unfold rd
  rw [if_pos ⟨low_len n i, low_dgt n i⟩, val_low h0 h]
theorem rd_some {l : List UInt8} {w : Nat} {n : Int} (h : rd l w = some n) : l = low n w ∧ 0 ≤ n ∧ n < 10 ^ w := by
  unfold rd at h
  split at h
  · rename_i hc
    obtain rfl := Option.some.inj h
    obtain ⟨rfl, hd⟩ := hc
    exact ⟨(low_val l hd).symm, valI_nn l hd⟩
  · cases h

theorem all_iff (l : List UInt8) : l.all dgt = true ↔ 0 ≤ valI l := by
  cases h : l.all dgt with
  | true => simp [(valI_nn l h).1]
  | false => simp [valI, valI_neg l 0 h]
def rdN (l : List UInt8) (w : Nat) : Int := (rd l w).getD 0
def rdB (l : List UInt8) (w : Nat) : Bool := (rd l w).isSome
theorem rd_yes {l : List UInt8} {w : Nat} (h : l.length = w) (hv : 0 ≤ valI l) : rdN l w = valI l ∧ rdB l w = true := by
  unfold rdN rdB rd; rw [if_pos ⟨h, (all_iff l).2 hv⟩]; exact ⟨rfl, rfl⟩
theorem rd_short {l : List UInt8} {w : Nat} (h : l.length ≠ w) : rdN l w = 0 ∧ rdB l w = false := by
  unfold rdN rdB rd; rw [if_neg (fun c => h c.1)]; exact ⟨rfl, rfl⟩
theorem rd_no {l : List UInt8} {w : Nat} (hv : valI l = -1) : rdN l w = 0 ∧ rdB l w = false := by
  unfold rdN rdB rd; rw [if_neg (fun c => by have := (all_iff l).1 c.2; omega)]; exact ⟨rfl, rfl⟩
theorem rd_bd {l : List UInt8} {w : Nat} (h : w ≤ 4) : 0 ≤ rdN l w ∧ rdN l w ≤ 9999 := by
  by_cases hl : l.length = w
  · rcases Int.lt_or_le (valI l) 0 with hv | hv
    · have := valI_bd l (by omega)
      rw [(rd_no (w := w) (show valI l = -1 by omega)).1]; omega
    · have := valI_bd l (by omega)
      rw [(rd_yes hl hv).1]; omega
  · rw [(rd_short hl).1]; omega
theorem rd_bd2 {l : List UInt8} : 0 ≤ rdN l 2 ∧ rdN l 2 ≤ 99 := by
  cases h : rd l 2 with
  | none => unfold rdN; rw [h]; decide
  | some n => have := rd_some h; unfold rdN; rw [h]; simp only [Option.getD_some]; omega
theorem not_mem_low {c : UInt8} (hc : dgt c = false) (n : Int) (i : Nat) : c ∉ low n i := by
  intro h
  have := List.all_eq_true.1 (low_dgt n i) c h
  rw [hc] at this; cases this
theorem index_none {c : UInt8} {s : List UInt8} (h : c ∉ s) : Lib.index s [c] = -1 := by
  induction s with
  | nil => rfl
  | cons b r ih =>
    simp only [List.mem_cons, not_or] at h
    have hb : (c == b) = false := by simpa using h.1
    unfold Lib.index
    rw [ih h.2]
    simp [List.isPrefixOf, hb]
theorem index_at {c : UInt8} (x y : List UInt8) (h : c ∉ x) : Lib.index (x ++ c :: y) [c] = x.length := by
  induction x with
  | nil => simp [Lib.index, List.isPrefixOf]
  | cons b r ih =>
    simp only [List.mem_cons, not_or] at h
    have hb : (c == b) = false := by simpa using h.1
    show Lib.index (b :: (r ++ c :: y)) [c] = _
    unfold Lib.index
    rw [ih h.2]
    have : ((r.length : Int) == -1) = false := by simp
    simp [List.isPrefixOf, hb, this]
theorem cut_at {c : UInt8} (x y : List UInt8) (h : c ∉ x) : Lib.cut (x ++ c :: y) [c] = (x, y, true) := by
  unfold Lib.cut
  rw [index_at x y h, if_pos (by omega)]
  simp
theorem cut_none {c : UInt8} {s : List UInt8} (h : c ∉ s) : Lib.cut s [c] = (s, [], false) := by
  unfold Lib.cut
  rw [index_none h, if_neg (by omega)]
theorem cut_ways (c : UInt8) (s : List UInt8) : (c ∉ s ∧ Lib.cut s [c] = (s, [], false)) ∨ ∃ x y, s = x ++ c :: y ∧ c ∉ x ∧ Lib.cut s [c] = (x, y, true) := by
  by_cases h : c ∈ s
  · obtain ⟨x, y, rfl, hx⟩ := List.append_of_mem_first h
    exact .inr ⟨x, y, rfl, hx, cut_at x y hx⟩
  · exact .inl ⟨h, cut_none h⟩
where
  List.append_of_mem_first {c : UInt8} {s : List UInt8} (h : c ∈ s) : ∃ x y, s = x ++ c :: y ∧ c ∉ x := by
    induction s with
    | nil => simp at h
    | cons b r ih =>
      by_cases e : b = c
      · subst e; exact ⟨[], r, rfl, by simp⟩
      · have : c ∈ r := by simpa [Ne.symm e] using h
        obtain ⟨x, y, rfl, hx⟩ := ih this
        exact ⟨b :: x, y, rfl, by simp [Ne.symm e, hx]⟩
theorem cut_len (c : UInt8) (s : List UInt8) : (Lib.cut s [c]).1.length ≤ s.length ∧ (Lib.cut s [c]).2.1.length ≤ s.length := by
  rcases cut_ways c s with ⟨_, h⟩ | ⟨x, y, rfl, _, h⟩ <;> rw [h] <;> simp <;> omega
end Ck
