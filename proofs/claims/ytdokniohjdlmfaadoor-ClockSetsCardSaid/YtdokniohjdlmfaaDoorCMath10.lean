/- Plain mathematics: sets read of a text, by the days that it names. -/
import Derived.Test.YtdokniohjdlmfaaDoorCW11
namespace Ck
open Go Go.Proofs.YtdokniohjdlmfaaDoor

/-- The set of those days whose names a text has. -/
def rsS (s : List UInt8) (a : Nat) (x : Fin 7) : Nat := if Lib.contains s (nm x.val) = true then a ||| 2 ^ x.val else a
def rsN (s : List UInt8) (l : List (Fin 7)) : Nat := l.foldl (rsS s) 0
theorem rs_snoc (s : List UInt8) (l : List (Fin 7)) (x : Fin 7) : rsN s (l ++ [x]) = rsS s (rsN s l) x := by unfold rsN; rw [List.foldl_append]; rfl
theorem rsS_bd (s : List UInt8) {a : Nat} (h : a < 128) (x : Fin 7) : rsS s a x < 128 := by
  unfold rsS
  split
  · have : 2 ^ x.val < 2 ^ 7 := Nat.pow_lt_pow_right (by decide) x.isLt
    exact Nat.or_lt_two_pow (n := 7) h this
  · exact h
theorem rsF_bd (s : List UInt8) (l : List (Fin 7)) : ∀ a, a < 128 → l.foldl (rsS s) a < 128 := by
  induction l with
  | nil => intro a h; exact h
  | cons x l ih => intro a h; exact ih _ (rsS_bd s h x)
theorem rsN_bd (s : List UInt8) (l : List (Fin 7)) : rsN s l < 128 := rsF_bd s l 0 (by decide)
def readW (s : List UInt8) : Nat := rsN s (dl 127 7)
theorem read_wd : ∀ k : Fin 128, readW (wdT (k.val : Int)) = k.val := by decide +kernel
theorem wd_inj {a b : Nat} (ha : a < 128) (hb : b < 128) (h : wdT (a : Int) = wdT (b : Int)) : a = b := by
  have x := read_wd ⟨a, ha⟩
  have y := read_wd ⟨b, hb⟩
  simp only at x y
  rw [h, y] at x
  exact x.symm
theorem or_bit : ∀ (a : Fin 128) (x : Fin 7), bits .or .i64 (a.val : Int) (2 ^ x.val) = ((a.val ||| 2 ^ x.val : Nat) : Int) := by decide +kernel
theorem andnot_bit : ∀ (a : Fin 128) (x : Fin 7), bits .andNot .i64 (a.val : Int) (2 ^ x.val) = ((a.val &&& (127 - 2 ^ x.val) : Nat) : Int) := by decide +kernel
/-- With a day more a set's text has two letters, or three, more. -/
theorem more_bit : ∀ (a : Fin 128) (x : Fin 7), ((a.val &&& (127 - 2 ^ x.val)) < 128 ∧ (a.val ||| 2 ^ x.val) < 128) ∧
    (if wdT ((a.val &&& (127 - 2 ^ x.val) : Nat) : Int) = [45] then (wdT ((a.val ||| 2 ^ x.val : Nat) : Int)).length = 2 else (wdT ((a.val ||| 2 ^ x.val : Nat) : Int)).length = (wdT ((a.val &&& (127 - 2 ^ x.val) : Nat) : Int)).length + 3) := by decide +kernel
end Ck
