import Derived.Test.YtdhinjbkfffpeaaGreatYRL16
/- The chapter's example of layer 16, by the example's contract alone. -/
section
namespace Go.Proofs.YtdhinjbkfffpeaaGreat
open Go.ChangeShapes Go.WideShapes Go.ChangeAt Go.RowKit Go.Joins Sp Fr Pk
set_option maxRecDepth 100000 in
theorem fixed16x_any (K : ∀ w : World, Calls Tryz.prog 23 #[.agg (aCells exAk noAkP).toArray] w (PutRet exAk.text w)) (w : World) : Calls Tryz.prog 7 #[] w fun e w' => e = .returned (.bool true) ∧ Below w.heap.size w w' := by
  have HP := Lib.hid (K w)
  rw [exAk_text] at HP
  go_enter Tryz.func7, Tryz.ntmps7
  go_wp2_with (refine wpList_build (t := 65) (v := .agg (aCells exAk noAkP).toArray) rfl rfl ?_ ?_; (focus (simp only [List.map_toArray, List.map_cons, List.map_nil]; exact build_ex _)); simp only [Act.put, List.setIfInBounds_toArray, List.set_cons_zero, List.set_cons_succ])
  go_at_call 23
  refine HP.out.mono ?_
  rintro e w2 ⟨A, d, l, rfl, hl, hs, _, hb⟩
  obtain rfl : l = [2, 5, 7] := by simpa using hl
  have hcv := conv16 hs.bat d 3 rfl
  have HB := Lib.hid hb
  clear hl hs hb
  go_wp2_with fail
  go_ret
  exact ⟨rfl, HB.out⟩
end Go.Proofs.YtdhinjbkfffpeaaGreat
end
