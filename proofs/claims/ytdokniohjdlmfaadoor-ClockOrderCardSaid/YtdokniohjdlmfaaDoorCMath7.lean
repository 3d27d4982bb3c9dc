/- Plain mathematics: texts of stamps and minutes stand in order. -/
import Derived.Test.YtdokniohjdlmfaaDoorCMath6
import GoSem.Op.String
namespace Ck
open Go
open Go.Proofs.YtdokniohjdlmfaaDoor.Cal (yOf mOf dOf mayB mayP numI may_iff num_bd dateOf_spec dateOf_eq may_month len_bd ys ys_succ ys_mono cumI cum_mono cum_bd cum_le lenI lp01)

theorem less_app (x : List UInt8) : ∀ (x' u u' : List UInt8), x.length = x'.length → Op.bytesLess (x ++ u) (x' ++ u') = (Op.bytesLess x x' || (x == x' && Op.bytesLess u u')) := by
  induction x with
  | nil =>
    intro x' u u' h
    obtain rfl : x' = [] := List.eq_nil_of_length_eq_zero (by simpa using h.symm)
    simp [Op.bytesLess]
  | cons a x ih =>
    intro x' u u' h
    cases x' with
    | nil => simp at h
    | cons b x' =>
      have := ih x' u u' (by simpa using h)
      simp only [List.cons_append, Op.bytesLess, this]
      cases h1 : decide (a < b) <;> cases h2 : a == b <;> simp_all
theorem low_mod (n : Int) (i : Nat) : low n i = low (n % 10 ^ i) i := by
  have := low_val.low_add (n / 10 ^ i) (n % 10 ^ i) i (Nat.le_refl i)
  rw [Int.mul_comm, Int.mul_ediv_add_emod] at this
  exact this
theorem dig_lt {a b : Int} (h0 : 0 ≤ a) (h1 : a ≤ 9) (h2 : 0 ≤ b) (h3 : b ≤ 9) : (dig a < dig b ↔ a < b) ∧ (dig a = dig b ↔ a = b) := by
  have x := dig_nat h0 h1
  have y := dig_nat h2 h3
  refine ⟨?_, ?_⟩
  · rw [UInt8.lt_iff_toNat_lt]; omega
  · rw [← UInt8.toNat_inj]; omega
theorem low_less (i : Nat) : ∀ a b : Int, 0 ≤ a → a < 10 ^ i → 0 ≤ b → b < 10 ^ i → Op.bytesLess (low a i) (low b i) = decide (a < b) := by
  induction i with
  | zero =>
    intro a b h0 h1 h2 h3
    simp at h1 h3
    rw [show low a 0 = [] from rfl, show low b 0 = [] from rfl]
    rw [decide_eq_false (by omega)]; rfl
  | succ i ih =>
    intro a b h0 h1 h2 h3
    have hp : (0 : Int) < 10 ^ i := Int.pow_pos (by omega)
    rw [Int.pow_succ] at h1 h3
    have a0 := Int.ediv_nonneg h0 (Int.le_of_lt hp)
    have b0 := Int.ediv_nonneg h2 (Int.le_of_lt hp)
    have a1 : a / 10 ^ i < 10 := Int.ediv_lt_of_lt_mul hp (by rw [Int.mul_comm]; exact h1)
    have b1 : b / 10 ^ i < 10 := Int.ediv_lt_of_lt_mul hp (by rw [Int.mul_comm]; exact h3)
    have am0 := Int.emod_nonneg a (show (10 : Int) ^ i ≠ 0 by omega)
    have am1 := Int.emod_lt_of_pos a hp
    have bm0 := Int.emod_nonneg b (show (10 : Int) ^ i ≠ 0 by omega)
    have bm1 := Int.emod_lt_of_pos b hp
    have ea := Int.mul_ediv_add_emod a (10 ^ i)
    have eb := Int.mul_ediv_add_emod b (10 ^ i)
    have hI := ih _ _ am0 am1 bm0 bm1
    rw [show low a (i + 1) = dig (a / 10 ^ i % 10) :: low a i from rfl, show low b (i + 1) = dig (b / 10 ^ i % 10) :: low b i from rfl, Int.emod_eq_of_lt a0 a1, Int.emod_eq_of_lt b0 b1, low_mod a i, low_mod b i]
    have d := dig_lt a0 (by omega) b0 (by omega)
    simp only [Op.bytesLess, hI]
    have key : a < b ↔ a / 10 ^ i < b / 10 ^ i ∨ (a / 10 ^ i = b / 10 ^ i ∧ a % 10 ^ i < b % 10 ^ i) := by
      generalize (10 : Int) ^ i = q at *
      generalize a / q = x at *
      generalize b / q = y at *
      rcases Int.lt_trichotomy x y with l | l | l
      · have : q * (x + 1) ≤ q * y := Int.mul_le_mul_of_nonneg_left (by omega) (by omega)
        rw [Int.mul_add, Int.mul_one] at this
        constructor
        · intro _; exact .inl l
        · intro _; omega
      · subst l
        constructor
        · intro _; exact .inr ⟨rfl, by omega⟩
        · intro h; rcases h with h | h <;> omega
      · have : q * (y + 1) ≤ q * x := Int.mul_le_mul_of_nonneg_left (by omega) (by omega)
        rw [Int.mul_add, Int.mul_one] at this
        constructor
        · intro _; omega
        · intro h; rcases h with h | h <;> omega
    rw [Bool.eq_iff_iff]
    simp only [Bool.or_eq_true, Bool.and_eq_true, decide_eq_true_eq, beq_iff_eq, d.1, d.2, key]
theorem low_inj {i : Nat} {a b : Int} (h0 : 0 ≤ a) (h1 : a < 10 ^ i) (h2 : 0 ≤ b) (h3 : b < 10 ^ i) : (low a i == low b i) = decide (a = b) := by
  rw [Bool.eq_iff_iff]
  simp only [beq_iff_eq, decide_eq_true_eq]
  constructor
  · intro e
    rw [← val_low h0 h1, ← val_low h2 h3, e]
  · intro e; rw [e]
theorem less_cons (c : UInt8) (u u' : List UInt8) : Op.bytesLess (c :: u) (c :: u') = Op.bytesLess u u' := by
  simp [Op.bytesLess, UInt8.lt_irrefl]
theorem less_low {i : Nat} {a b : Int} (h0 : 0 ≤ a) (h1 : a < 10 ^ i) (h2 : 0 ≤ b) (h3 : b < 10 ^ i) (c : UInt8) (u u' : List UInt8) :
    Op.bytesLess (low a i ++ c :: u) (low b i ++ c :: u') = (decide (a < b) || (decide (a = b) && Op.bytesLess u u')) := by
  rw [less_app _ _ _ _ (by rw [low_len, low_len]), low_less i a b h0 h1 h2 h3, low_inj h0 h1 h2 h3, less_cons]
theorem minT_less {a b : Int} (h0 : 0 ≤ a) (h1 : a ≤ 1440) (h2 : 0 ≤ b) (h3 : b ≤ 1440) : Op.bytesLess (minT a) (minT b) = decide (a < b) := by
  unfold minT
  rw [List.append_assoc, List.append_assoc]
  show Op.bytesLess (low (a / 60) 2 ++ 58 :: low (a % 60) 2) (low (b / 60) 2 ++ 58 :: low (b % 60) 2) = _
  rw [less_low (by omega) (by omega) (by omega) (by omega), low_less 2 _ _ (by omega) (by omega) (by omega) (by omega)]
  rw [Bool.eq_iff_iff]
  simp only [Bool.or_eq_true, Bool.and_eq_true, decide_eq_true_eq]
  omega
theorem num_lt {y m d y' m' d' : Int} (h : mayP y m d) (h' : mayP y' m' d') (l : y < y' ∨ (y = y' ∧ (m < m' ∨ (m = m' ∧ d < d')))) : numI y m d < numI y' m' d' := by
  have hm := may_month h
  have hm' := may_month h'
  obtain ⟨a, b, c, f⟩ := h
  obtain ⟨a', b', c', f'⟩ := h'
  unfold numI
  have k := cum_le y m hm.1 hm.2
  have g' := cum_bd y' m'
  have s := ys_succ y
  rcases l with l | ⟨rfl, l | ⟨rfl, l⟩⟩
  · have := ys_mono (y + 1) y' (by omega); omega
  · have := cum_mono y m m' hm.1 l hm'.2; omega
  · omega
theorem num_lex {y m d y' m' d' : Int} (h : mayP y m d) (h' : mayP y' m' d') : numI y m d < numI y' m' d' ↔ (y < y' ∨ (y = y' ∧ (m < m' ∨ (m = m' ∧ d < d')))) := by
  constructor
  · intro e
    by_cases c : y' < y ∨ (y' = y ∧ (m' < m ∨ (m' = m ∧ d' < d)))
    · have := num_lt h' h c; omega
    · by_cases c2 : y = y' ∧ m = m' ∧ d = d'
      · obtain ⟨rfl, rfl, rfl⟩ := c2; omega
      · omega
  · exact num_lt h h'
theorem stampT_less {a b : Int} (h0 : 0 ≤ a) (h1 : a ≤ 158310720) (h2 : 0 ≤ b) (h3 : b ≤ 158310720) : Op.bytesLess (stampT a) (stampT b) = decide (a < b) := by
  have ha := day_bd h0 h1
  have hb := day_bd h2 h3
  have sa := dateOf_spec (dayI a) ha.1 ha.2.1
  have sb := dateOf_spec (dayI b) hb.1 hb.2.1
  have lx := num_lex sa.1 sb.1
  have lx' := num_lex sb.1 sa.1
  rw [sa.2, sb.2] at lx lx'
  have hma := may_month sa.1
  have hmb := may_month sb.1
  have hla := len_bd (yOf (dayI a)) (mOf (dayI a))
  have hlb := len_bd (yOf (dayI b)) (mOf (dayI b))
  have pa := sa.1
  have pb := sb.1
  unfold mayP at pa pb
  have key : a < b ↔ dayI a < dayI b ∨ (dayI a = dayI b ∧ minuteI a < minuteI b) := by unfold dayI minuteI; split <;> split <;> omega
  have hmin := minT_less ha.2.2.1 ha.2.2.2 hb.2.2.1 hb.2.2.2
  unfold stampT
  rw [stT_day, stT_day]
  unfold dayT
  rw [show ∀ y m d mi : Int, (low y 4 ++ 45 :: (low m 2 ++ 45 :: low d 2)) ++ 84 :: minT mi = low y 4 ++ 45 :: (low m 2 ++ 45 :: (low d 2 ++ 84 :: minT mi)) from fun y m d mi => by simp]
  rw [show ∀ y m d mi : Int, (low y 4 ++ 45 :: (low m 2 ++ 45 :: low d 2)) ++ 84 :: minT mi = low y 4 ++ 45 :: (low m 2 ++ 45 :: (low d 2 ++ 84 :: minT mi)) from fun y m d mi => by simp]
  rw [less_low (by omega) (by omega) (by omega) (by omega), less_low (by omega) (by omega) (by omega) (by omega), less_low (by omega) (by omega) (by omega) (by omega), hmin]
  rw [Bool.eq_iff_iff]
  simp only [Bool.or_eq_true, Bool.and_eq_true, decide_eq_true_eq]
  rw [key]
  have inj : dayI a = dayI b → yOf (dayI a) = yOf (dayI b) ∧ mOf (dayI a) = mOf (dayI b) ∧ dOf (dayI a) = dOf (dayI b) := fun e => by rw [e]; exact ⟨rfl, rfl, rfl⟩
  generalize yOf (dayI a) = y at *
  generalize mOf (dayI a) = m at *
  generalize dOf (dayI a) = d at *
  generalize yOf (dayI b) = y' at *
  generalize mOf (dayI b) = m' at *
  generalize dOf (dayI b) = d' at *
  clear hmin sa sb key hla hlb hma hmb pa pb
  omega
end Ck
