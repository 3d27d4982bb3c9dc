/- The chapter's example of hours; windows. No text of the program is read here. -/
import Derived.Test.YtdpgmhjhmccfnaaHMath3
import Derived.Test.YtdpgmhjhmccfnaaZMath
namespace Hr
open Sp
/-- From 540 to 1020 on weekdays. -/
def hX : H := ⟨[(31, 540, 1020)], []⟩
def zX : Zn.Z := ⟨0, 0, fun _ => 0, fun _ => 0⟩
def lX : List Spn := [(540, 1020), (1980, 2460), (3420, 3900), (4860, 5340), (6300, 6780)]
theorem hX_may : mayH hX := by decide
theorem zX_may : Zn.mayP zX := by decide
theorem zX_off (u : Int) : Zn.off zX u = 0 := rfl
theorem bit31 {d : Int} (h : 0 ≤ d ∧ d < 7) : bitB 31 ((d + 7) % 7).toNat = decide (d < 5) := by
  have : d = 0 ∨ d = 1 ∨ d = 2 ∨ d = 3 ∨ d = 4 ∨ d = 5 ∨ d = 6 := by omega
  rcases this with rfl | rfl | rfl | rfl | rfl | rfl | rfl <;> decide
theorem hX_row {l : List Spn} (hf : form l) (h : ∀ x, has l x ↔ 0 ≤ x ∧ x < 10080 ∧ worksB hX (Zn.off zX) x = true) : l = lX := by
  refine form_unique _ _ hf ⟨by decide, by decide, by decide, by decide, by decide, by decide, by decide, by decide, by decide, trivial⟩ fun x => ?_
  rw [h]
  have hl : has lX x ↔ (540 ≤ x ∧ x < 1020) ∨ (1980 ≤ x ∧ x < 2460) ∨ (3420 ≤ x ∧ x < 3900) ∨ (4860 ≤ x ∧ x < 5340) ∨ (6300 ≤ x ∧ x < 6780) := by
    unfold lX
    rw [has_cons, has_cons, has_cons, has_cons, has_cons]
    simp [has_nil]
  rw [hl, works_loc, zX_off, Int.add_zero]
  have hm := dy_mi x
  by_cases hx : 0 ≤ x ∧ x < 10080
  · have hd : 0 ≤ dyI x ∧ dyI x < 7 := by omega
    have hb := bit31 hd
    rw [decide_eq_true hx.1, decide_eq_true (show x ≤ 158310719 by omega)]
    unfold locB hX onB
    simp only [List.any_cons, List.any_nil, Bool.or_false, Bool.not_false, Bool.true_and, hb]
    simp only [Bool.and_eq_true, decide_eq_true_eq]
    omega
  · constructor
    · intro q; exact absurd ⟨q.1, q.2.1⟩ hx
    · intro q; omega
end Hr
