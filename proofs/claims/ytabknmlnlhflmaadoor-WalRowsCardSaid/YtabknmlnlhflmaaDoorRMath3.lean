/- Plain mathematics of sums that go on. -/
import Derived.Test.YtabknmlnlhflmaaDoorRMath2
namespace Rc
theorem turned {r : Nat} (h : r < 4294967296) : r ^^^ 4294967295 = 4294967295 - r := by
  apply Nat.eq_of_testBit_eq
  intro i
  rw [show 4294967295 - r = 2 ^ 32 - (r + 1) by omega, show (4294967295 : Nat) = 2 ^ 32 - 1 from rfl, Nat.testBit_two_pow_sub_succ (x := r) (by omega), Nat.testBit_xor, Nat.testBit_two_pow_sub_one]
  by_cases hi : i < 32
  · simp [hi]
  · have : r.testBit i = false := Nat.testBit_lt_two_pow (Nat.lt_of_lt_of_le (show r < 2 ^ 32 by omega) (Nat.pow_le_pow_right (by omega) (by omega)))
    simp [hi, this]
/-- More. -/
def more (r : Nat) (l : List Nat) : Nat := 4294967295 - run (4294967295 - r) l
theorem more_zero (l : List Nat) : more 0 l = sum l := rfl
theorem more_nil {r : Nat} (h : r < 4294967296) : more r [] = r := by unfold more; rw [run_nil]; omega
theorem sum_lt (l : List Nat) : sum l < 4294967296 := by unfold sum; omega
theorem more_lt (r : Nat) (l : List Nat) : more r l < 4294967296 := by unfold more; omega
theorem more_append (r : Nat) (l m : List Nat) (hl : ∀ c ∈ l, c < 256) : more (more r l) m = more r (l ++ m) := by
  unfold more
  rw [run_append]
  have := run_lt (r := 4294967295 - r) (by omega) l hl
  rw [show 4294967295 - (4294967295 - run (4294967295 - r) l) = run (4294967295 - r) l by omega]
theorem more_sum (l m : List Nat) (hl : ∀ c ∈ l, c < 256) : more (sum l) m = sum (l ++ m) := by
  rw [← more_zero, more_append _ _ _ hl]; rfl
/-- A byte more makes another sum than another byte more. -/
theorem more_one {r c d : Nat} (hr : r < 4294967296) (hc : c < 256) (hd : d < 256) (e : more r [c] = more r [d]) : c = d := by
  unfold more at e
  rw [run_cons, run_cons, run_nil, run_nil] at e
  have h1 := byt_lt (r := 4294967295 - r) (c := c) (by omega) hc
  have h2 := byt_lt (r := 4294967295 - r) (c := d) (by omega) hd
  exact byt_inj (r := 4294967295 - r) (by omega) hc hd (by omega)
/-- What half a byte comes to. -/
def tab : List Int := [0, 498536548, 997073096, 651767980, 1994146192, 1802195444, 1303535960, 1342533948, 3988292384, 4027552580, 3604390888, 3412177804, 2607071920, 2262029012, 2685067896, 3183342108]
theorem tab_at : ∀ i, i < 16 → tab.getD i 0 = (stps 4 i : Nat) := by decide
/-- A half. -/
theorem half (r : Nat) : stps 4 r = (r / 16) ^^^ stps 4 (r % 16) := by
  rw [Nat.xor_comm]; exact stps_table 4 r
theorem byt_halves (r c : Nat) : byt r c = stps 4 (stps 4 (r ^^^ c)) := by
  unfold byt; rw [show (8 : Nat) = 4 + 4 from rfl, stps_add]
end Rc
