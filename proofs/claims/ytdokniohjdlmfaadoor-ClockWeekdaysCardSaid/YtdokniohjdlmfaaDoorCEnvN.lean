/- What a row of this layer lists, with the names of the days. -/
import Derived.Test.YtdokniohjdlmfaaDoorCEnv
import Derived.Test.YtdokniohjdlmfaaDoorCL5
namespace Go.Proofs.YtdokniohjdlmfaaDoor
open Go.RowKit Ck

theorem dayAt : Tryd.prog.globalNamed "vespers/clock.dayNames" = some 0 := by kernel_rfl
theorem dayType : (Tryd.prog.globals[0]?).map (·.type) = some 54 := by kernel_rfl
theorem envN_of {W : World} {a b : String × DataW Unit} {rest : List (String × DataW Unit)} (h : laidMet Tryd.prog (a :: b :: ("internal/strconv.uint64pow10", Rows.laid_internal_strconv_uint64pow10) :: ("vespers/clock.dayNames", Rows.laid_vespers_clock_dayNames) :: rest) W) (hsh : W.ShapedOpen Tryd.prog) : EnvN W := by
  refine ⟨env_of h hsh, fun i hi => ?_⟩
  refine strs_of_head (l := [nm 0, nm 1, nm 2, nm 3, nm 4, nm 5, nm 6]) (e := 9) (n := 7) dayAt dayType (by kernel_rfl) (by kernel_rfl) (by kernel_rfl) (show laidMet Tryd.prog (("vespers/clock.dayNames", strData [nm 0, nm 1, nm 2, nm 3, nm 4, nm 5, nm 6]) :: rest) W from h.tail.tail.tail) i (nm i) hi ?_
  have : i = 0 ∨ i = 1 ∨ i = 2 ∨ i = 3 ∨ i = 4 ∨ i = 5 ∨ i = 6 := by omega
  rcases this with rfl | rfl | rfl | rfl | rfl | rfl | rfl <;> rfl
end Go.Proofs.YtdokniohjdlmfaaDoor
