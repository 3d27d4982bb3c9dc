/- The laws' walks: the chapter's example; sums. -/
import Derived.Test.YtapinfagjhpciaaDoorRW2
import Derived.Lib.SlBytesConst
namespace Go.Proofs.YtapinfagjhpciaaDoor
open Go.ChangeShapes Go.WideShapes Go.ChangeAt Go.RowKit Rc

def nums : List UInt8 := [49, 50, 51, 52, 53, 54, 55, 56, 57]
theorem nums_sum : Rc.sum (bn nums) = 3421780262 := by decide +kernel

theorem fixed4_any (w : World) (hH : Halves w) :
    Calls Tryd.prog 6 #[] w fun e w' => e = .returned (.bool true) ∧ Below w.heap.size w w' := by
  have HH := Lib.hid hH
  clear hH
  have hcv := fun (C : Array Value) => Lib.run_convert_bytes_const (P := Tryd.prog) w 22 5 C 9 9 Tryd.underlying22 Tryd.underlying5
  have hB := BAt.new w nums 5 (9, 10)
  have hS := sum_any nums (some ⟨w.heap.size, 0, none⟩) 9 (by decide) _ hB (HH.out.below ((Below.refl _ _).alloc (Nat.le_refl _) _))
  rw [nums_sum] at hS
  have HS := Lib.hid hS
  clear hS hB
  go_enter Tryd.func6, Tryd.ntmps6
  go_wp2_with fail
  go_at_call 7
  refine HS.out.mono ?_
  rintro e w' ⟨rfl, rfl⟩
  go_wp2_with fail
  go_ret
  exact ⟨rfl, (Below.refl _ _).alloc (Nat.le_refl _) _⟩
end Go.Proofs.YtapinfagjhpciaaDoor
