import Derived.Test.YtdhinjbkfffpeaaZJRK
import Derived.Test.YtdhinjbkfffpeaaZBlk2
import Derived.BigQuiet
import Derived.Deep.QuietTactic
import Derived.Deep.Cut
/- The chapter's example of layer 16. -/
section
namespace Go.Proofs.Ytdhinjbkfffpeaa
open Go.ChangeShapes Go.WideShapes Go.ChangeAt Go.RowKit Go.Joins Sp Fr Pk
theorem conv16 {w : World} {A : Option Addr} {l : List UInt8} (h : BAt w A l) (c n : Nat) (hn : l.length = n) :
    (convert 50 9 (.slice A n c)).run Try.prog w = .ok (.string ⟨l.toArray⟩) w := by subst hn; exact h.conv c Try.underlying50 Try.underlying5 Try.underlying9
set_option maxRecDepth 100000 in
theorem fixed16_any (K : RecP) (w : World) : Calls Try.prog 5 #[] w fun e w' => e = .returned (.bool true) ∧ Below w.heap.size w w' := by
  have HP := Lib.hid (K.put w exAk noAkP exAk_fits exAk_great ⟨noStg_at w, noEvt_at w, (noPl_at w).q⟩)
  rw [exAk_text] at HP
  go_enter Try.func5, Try.ntmps5
  go_wp2_with (refine wpList_build (t := 48) (v := .agg (aCells exAk noAkP).toArray) rfl rfl ?_ ?_; (focus (simp only [List.map_toArray, List.map_cons, List.map_nil]; exact build_ex _)); simp only [Act.put, List.setIfInBounds_toArray, List.set_cons_zero, List.set_cons_succ])
  go_at_call 6
  refine HP.out.mono ?_
  rintro e w2 ⟨A, d, l, rfl, hl, hs, _, hb⟩
  obtain rfl : l = [2, 5, 7] := by simpa using hl
  have hcv := conv16 hs.bat d 3 rfl
  have HB := Lib.hid hb
  clear hl hs hb
  go_wp2_with fail
  go_ret
  exact ⟨rfl, HB.out⟩
end Go.Proofs.Ytdhinjbkfffpeaa
end
