/- Plain mathematics of weekdays' texts. -/
namespace Ck
def nm : Nat → List UInt8
  | 0 => [109, 111]
  | 1 => [116, 117]
  | 2 => [119, 101]
  | 3 => [116, 104]
  | 4 => [102, 114]
  | 5 => [115, 97]
  | _ => [115, 117]
theorem nm_len (i : Nat) : (nm i).length = 2 := by unfold nm; split <;> rfl
/-- The names of those in a set, up to the i-th day, with commas. -/
def wdI (set : Int) : Nat → List UInt8
  | 0 => []
  | i + 1 => if set / 2 ^ i % 2 = 1 then (if wdI set i = [] then nm i else wdI set i ++ [44] ++ nm i) else wdI set i
theorem wd_len (set : Int) (i : Nat) : (wdI set i).length ≤ 3 * i := by
  induction i with
  | zero => exact Nat.le_refl _
  | succ i ih =>
    unfold wdI
    have := nm_len i
    split
    · split
      · omega
      · simp; omega
    · omega
def wdT (set : Int) : List UInt8 := if wdI set 7 = [] then [45] else wdI set 7
theorem div2_step (n : Int) (i : Nat) : n / 2 ^ i / 2 = n / 2 ^ (i + 1) := by
  rw [Int.pow_succ, Int.ediv_ediv_of_nonneg (by exact Int.le_of_lt (Int.pow_pos (by omega)))]
theorem div2_nn {n : Int} (h : 0 ≤ n) (i : Nat) : 0 ≤ n / 2 ^ i := Int.ediv_nonneg h (Int.le_of_lt (Int.pow_pos (by omega)))
theorem div2_le {n : Int} (h : 0 ≤ n) (i : Nat) : n / 2 ^ i ≤ n := Int.ediv_le_self _ h
end Ck
