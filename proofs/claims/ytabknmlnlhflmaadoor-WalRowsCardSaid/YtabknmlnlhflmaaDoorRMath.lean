/- Plain mathematics of sums of bytes: one step of a row of 32 bits, linear and one-to-one; bursts are told. -/
namespace Rc

/-- The row goes down by one bit. -/
def stp (n : Nat) : Nat := if n % 2 = 1 then n / 2 ^^^ 3988292384 else n / 2
theorem stp_zero : stp 0 = 0 := by decide
theorem stp_even (n : Nat) : stp (2 * n) = n := by unfold stp; rw [if_neg (by omega)]; omega
theorem stp_lt {n : Nat} (h : n < 4294967296) : stp n < 4294967296 := by
  unfold stp
  split
  · exact Nat.xor_lt_two_pow (n := 32) (by omega) (by omega)
  · omega
theorem xor_cancel_mid (a b p : Nat) : (a ^^^ p) ^^^ (b ^^^ p) = a ^^^ b := by
  rw [Nat.xor_assoc, Nat.xor_comm p, Nat.xor_assoc, Nat.xor_self, Nat.xor_zero]
theorem stp_xor (a b : Nat) : stp (a ^^^ b) = stp a ^^^ stp b := by
  unfold stp
  have h2 : (a ^^^ b) / 2 = a / 2 ^^^ b / 2 := Nat.xor_div_two
  have h1 : (a ^^^ b) % 2 = 1 ↔ ¬ (a % 2 = 1 ↔ b % 2 = 1) := Nat.xor_mod_two_eq_one
  rw [h2]
  by_cases ha : a % 2 = 1 <;> by_cases hb : b % 2 = 1
  · rw [if_neg (by rw [h1]; simp [ha, hb]), if_pos ha, if_pos hb, xor_cancel_mid]
  · rw [if_pos (by rw [h1]; simp [ha, hb]), if_pos ha, if_neg hb, Nat.xor_assoc, Nat.xor_comm (b / 2), ← Nat.xor_assoc]
  · rw [if_pos (by rw [h1]; simp [ha, hb]), if_neg ha, if_pos hb, Nat.xor_assoc]
  · rw [if_neg (by rw [h1]; simp [ha, hb]), if_neg ha, if_neg hb]
/-- Only nothing goes to nothing. -/
theorem stp_eq_zero {n : Nat} (h : n < 4294967296) (e : stp n = 0) : n = 0 := by
  unfold stp at e
  split at e
  · exfalso
    have h1 : n / 2 = 3988292384 := by
      have := congrArg (fun x => x ^^^ 3988292384) e
      simp only [Nat.xor_assoc, Nat.xor_self, Nat.xor_zero, Nat.zero_xor] at this
      exact this
    omega
  · omega
/-- k steps. -/
def stps : Nat → Nat → Nat
  | 0, n => n
  | k + 1, n => stps k (stp n)
theorem stps_zero (k : Nat) : stps k 0 = 0 := by induction k with | zero => rfl | succ k ih => rw [stps, stp_zero, ih]
theorem stps_xor (k a b : Nat) : stps k (a ^^^ b) = stps k a ^^^ stps k b := by
  induction k generalizing a b with
  | zero => rfl
  | succ k ih => rw [stps, stp_xor, ih]; rfl
theorem stps_lt (k : Nat) {n : Nat} (h : n < 4294967296) : stps k n < 4294967296 := by
  induction k generalizing n with
  | zero => exact h
  | succ k ih => exact ih (stp_lt h)
theorem stps_eq_zero (k : Nat) {n : Nat} (h : n < 4294967296) (e : stps k n = 0) : n = 0 := by
  induction k generalizing n with
  | zero => exact e
  | succ k ih => exact stp_eq_zero h (ih (stp_lt h) e)
theorem stps_add (j k n : Nat) : stps (j + k) n = stps k (stps j n) := by
  induction j generalizing n with
  | zero => rw [Nat.zero_add]; rfl
  | succ j ih => rw [Nat.succ_add]; exact ih (stp n)
theorem xor_zero_eq {a b : Nat} (h : a ^^^ b = 0) : a = b := by
  have := congrArg (fun x => x ^^^ b) h
  simpa only [Nat.xor_assoc, Nat.xor_self, Nat.xor_zero, Nat.zero_xor] using this
theorem xor_left {r c d : Nat} (h : r ^^^ c = r ^^^ d) : c = d := by
  have := congrArg (fun x => r ^^^ x) h
  simpa only [← Nat.xor_assoc, Nat.xor_self, Nat.zero_xor] using this
theorem stps_inj (k : Nat) {a b : Nat} (ha : a < 4294967296) (hb : b < 4294967296) (e : stps k a = stps k b) : a = b := by
  have h : stps k (a ^^^ b) = 0 := by rw [stps_xor, e, Nat.xor_self]
  have h0 := stps_eq_zero k (Nat.xor_lt_two_pow (n := 32) ha hb) h
  exact xor_zero_eq h0

theorem stps_succ (k n : Nat) : stps (k + 1) n = stp (stps k n) := by rw [stps_add]; rfl
theorem stp_odd {n : Nat} (h : n % 2 = 1) : stp n = n / 2 ^^^ 3988292384 := by unfold stp; rw [if_pos h]
theorem stp_ev {n : Nat} (h : ¬ n % 2 = 1) : stp n = n / 2 := by unfold stp; rw [if_neg h]
/-- One byte. -/
def byt (r c : Nat) : Nat := stps 8 (r ^^^ c)
theorem byt_lt {r c : Nat} (hr : r < 4294967296) (hc : c < 256) : byt r c < 4294967296 := stps_lt 8 (Nat.xor_lt_two_pow (n := 32) hr (by omega))
theorem byt_xor (r s c d : Nat) : byt (r ^^^ s) (c ^^^ d) = byt r c ^^^ byt s d := by
  unfold byt
  rw [← stps_xor]
  congr 1
  rw [Nat.xor_assoc, ← Nat.xor_assoc s, Nat.xor_comm s c, Nat.xor_assoc c, ← Nat.xor_assoc r]
theorem byt_inj {r c d : Nat} (hr : r < 4294967296) (hc : c < 256) (hd : d < 256) (e : byt r c = byt r d) : c = d := by
  have := stps_inj 8 (Nat.xor_lt_two_pow (n := 32) hr (by omega)) (Nat.xor_lt_two_pow (n := 32) hr (by omega)) e
  exact xor_left this
theorem byt_def (r c : Nat) : byt r c = stps 8 (r ^^^ c) := rfl
/-- A row of bytes. -/
def run (r : Nat) : List Nat → Nat
  | [] => r
  | c :: l => run (byt r c) l
theorem run_nil (r : Nat) : run r [] = r := rfl
theorem run_cons (r c : Nat) (l : List Nat) : run r (c :: l) = run (byt r c) l := rfl
theorem run_append (r : Nat) (l m : List Nat) : run r (l ++ m) = run (run r l) m := by
  induction l generalizing r with
  | nil => rfl
  | cons c l ih => rw [List.cons_append, run_cons, run_cons]; exact ih _
theorem run_lt {r : Nat} (hr : r < 4294967296) (l : List Nat) (hl : ∀ c ∈ l, c < 256) : run r l < 4294967296 := by
  induction l generalizing r with
  | nil => exact hr
  | cons c l ih => rw [run_cons]; exact ih (byt_lt hr (hl c (by simp))) (fun d hd => hl d (by simp [hd]))
theorem run_xor (r s : Nat) (l m : List Nat) (h : l.length = m.length) : run (r ^^^ s) (List.zipWith (· ^^^ ·) l m) = run r l ^^^ run s m := by
  induction l generalizing r s m with
  | nil =>
    cases m with
    | nil => rw [List.zipWith_nil_left, run_nil, run_nil, run_nil]
    | cons => simp at h
  | cons c l ih =>
    cases m with
    | nil => simp at h
    | cons d m => rw [List.zipWith_cons_cons, run_cons, run_cons, run_cons, byt_xor]; exact ih _ _ _ (by simpa using h)

/-- k bits of a number, the lowest first. -/
def kbits (r v : Nat) : Nat → Nat
  | 0 => r
  | k + 1 => kbits (stp (r ^^^ v % 2)) (v / 2) k
theorem split_low (v : Nat) : v = (v % 2) ^^^ (2 * (v / 2)) := by
  apply Nat.eq_of_testBit_eq
  intro i
  rw [Nat.testBit_xor]
  cases i with
  | zero => simp [Nat.testBit_zero]
  | succ i =>
    have h0 : (v % 2).testBit (i + 1) = false := Nat.testBit_lt_two_pow (Nat.lt_of_lt_of_le (Nat.mod_lt v (by omega)) (by rw [Nat.pow_succ]; have := Nat.one_le_two_pow (n := i); omega))
    rw [h0, Nat.testBit_succ, Nat.testBit_succ]
    simp
theorem kbits_whole (k : Nat) : ∀ r v : Nat, v < 2 ^ k → kbits r v k = stps k (r ^^^ v) := by
  induction k with
  | zero => intro r v h; have : v = 0 := by simpa using h
            subst this; simp [kbits, stps]
  | succ k ih =>
    intro r v h
    rw [kbits, ih _ _ (by rw [Nat.pow_succ] at h; omega), stps]
    congr 1
    have e : r ^^^ v = (r ^^^ v % 2) ^^^ (2 * (v / 2)) := by rw [Nat.xor_assoc, ← split_low]
    rw [e, stp_xor (r ^^^ v % 2) (2 * (v / 2)), stp_even]
theorem kbits_add (j k : Nat) : ∀ r v : Nat, kbits r v (j + k) = kbits (kbits r (v % 2 ^ j) j) (v / 2 ^ j) k := by
  induction j with
  | zero => intro r v; simp [kbits, Nat.mod_one]
  | succ j ih =>
    intro r v
    rw [show j + 1 + k = (j + k) + 1 by omega, kbits, ih, kbits]
    have e1 : v % 2 ^ (j + 1) % 2 = v % 2 := by rw [Nat.pow_succ, Nat.mod_mul_left_mod]
    have e2 : v % 2 ^ (j + 1) / 2 = v / 2 % 2 ^ j := by rw [Nat.pow_succ, Nat.mul_comm, Nat.mod_mul_right_div_self]
    have e3 : v / 2 / 2 ^ j = v / 2 ^ (j + 1) := by rw [Nat.div_div_eq_div_mul, Nat.pow_succ, Nat.mul_comm]
    rw [e1, e2, e3]
theorem kbits_none (r k : Nat) : kbits r 0 k = stps k r := by
  rw [kbits_whole k r 0 (Nat.two_pow_pos k), Nat.xor_zero]
/-- The bytes of a number, the lowest first. -/
def bytes (v : Nat) : Nat → List Nat
  | 0 => []
  | n + 1 => v % 256 :: bytes (v / 256) n
theorem bytes_len (v n : Nat) : (bytes v n).length = n := by induction n generalizing v with | zero => rfl | succ n ih => simp [bytes, ih]
theorem run_bytes (r v n : Nat) : run r (bytes v n) = kbits r v (8 * n) := by
  induction n generalizing r v with
  | zero => rfl
  | succ n ih =>
    show run (byt r (v % 256)) (bytes (v / 256) n) = _
    rw [ih, show 8 * (n + 1) = 8 + 8 * n by omega, kbits_add 8 (8 * n)]
    unfold byt
    rw [kbits_whole 8 r (v % 2 ^ 8) (Nat.mod_lt _ (by decide))]
/-- A BURST GOES NOWHERE TO NOTHING. -/
theorem burst {turn frm n : Nat} (ht : turn ≠ 0) (hlt : turn < 4294967296) (hn : frm + 32 ≤ 8 * n) : run 0 (bytes (turn * 2 ^ frm) n) ≠ 0 := by
  rw [run_bytes, show 8 * n = frm + (32 + (8 * n - frm - 32)) by omega, kbits_add, Nat.mul_mod_left, Nat.mul_div_cancel _ (Nat.two_pow_pos frm), kbits_none, stps_zero, kbits_add]
  have e1 : turn % 2 ^ 32 = turn := Nat.mod_eq_of_lt hlt
  have e2 : turn / 2 ^ 32 = 0 := Nat.div_eq_of_lt hlt
  rw [e1, e2, kbits_none, kbits_whole 32 0 turn hlt, Nat.zero_xor]
  intro h
  exact ht (stps_eq_zero 32 hlt (stps_eq_zero _ (stps_lt 32 hlt) h))
/-- BURSTS ARE TOLD. -/
theorem told {turn frm r : Nat} {l : List Nat} (ht : turn ≠ 0) (hlt : turn < 4294967296) (hn : frm + 32 ≤ 8 * l.length) :
    run r (List.zipWith (· ^^^ ·) l (bytes (turn * 2 ^ frm) l.length)) ≠ run r l := by
  have h := run_xor r 0 l (bytes (turn * 2 ^ frm) l.length) (bytes_len _ _).symm
  rw [Nat.xor_zero] at h
  rw [h]
  intro e
  have h2 : run 0 (bytes (turn * 2 ^ frm) l.length) = 0 := by
    have := congrArg (fun x => run r l ^^^ x) e
    simp only [← Nat.xor_assoc, Nat.xor_self, Nat.zero_xor] at this
    exact this
  exact burst ht hlt hn h2
/-- The sum of bytes. -/
def sum (l : List Nat) : Nat := 4294967295 - run 4294967295 l
end Rc
