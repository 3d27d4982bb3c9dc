/- Contracts of the calendar's small functions. -/
import Derived.Test.YtkfmigpdmolmaaaRows
import Derived.Test.YtkfmigpdmolmaaaMath
import Derived.WalkKit
import Derived.ProofKit
import Derived.OpenShut
import Derived.Deep.QuietTactic
import Derived.BigQuiet
namespace Go.Proofs.Ytkfmigpdmolmaaa
open Go.ChangeShapes Go.WideShapes Go.ChangeAt Go.RowKit Cal

theorem leap_mk (y : Int) : leapB y = decide (y % 4 = 0 ∧ (y % 100 ≠ 0 ∨ y % 400 = 0)) := by
  unfold leapB lp; split <;> simp_all

theorem tmod_beq (y k : Int) : (y.tmod k == 0) = decide (y % k = 0) := by
  rw [Bool.eq_iff_iff]; simp [tmod_zero]

theorem tmod_bne (y k : Int) : (y.tmod k != 0) = !decide (y % k = 0) := by
  rw [bne, tmod_beq]

theorem bcell {W w1 : World} (hb : Below W.heap.size W w1) : (∀ b o, b < W.heap.size → w1.cell? ⟨b, o, none⟩ = W.cell? ⟨b, o, none⟩) ∧ (∀ b o, b < W.heap.size → w1.frozen? ⟨b, o, none⟩ = W.frozen? ⟨b, o, none⟩) :=
  ⟨fun b o h => hb.cell (p := ⟨b, o, none⟩) h, fun b o h => hb.frozen (p := ⟨b, o, none⟩) h⟩

theorem weekday_any (n : Int) (w : World) :
    Calls Try.prog 48 #[.int .i64 n] w fun e w' => e = .returned (.int .i64 (n % 7)) ∧ w = w' := by
  have h1 : -6 ≤ n.tmod 7 ∧ n.tmod 7 ≤ 6 := by
    have a := Int.tmod_lt_of_pos n (b := 7) (by omega)
    have b := Int.lt_tmod_of_pos n (b := 7) (by omega)
    omega
  have h2 : (n.tmod 7 + 7) % 7 = n % 7 := by
    have a := Int.mul_tdiv_add_tmod n 7
    omega
  rw [← h2]; clear h2
  go_enter Try.func48, Try.ntmps48
  go_wp2
  go_ret
  exact ⟨rfl, rfl⟩


end Go.Proofs.Ytkfmigpdmolmaaa
