import Derived.Test.YtbclfcghacedfaaGreatDoorZMB
import Derived.Test.YtbclfcghacedfaaGreatDoorZME
import Derived.Test.YtbclfcghacedfaaGreatDoorCards
import Derived.Test.YtbclfcghacedfaaGreatDoorTie
/- What a row of this layer lists, as facts on the world. -/
section
namespace Go.Proofs.YtbclfcghacedfaaGreatDoor
open Go.RowKit

theorem powType : (Tryz.prog.globals[3]?).map (·.type) = some 136 := by kernel_rfl
theorem env_of {W : World} {a b : String × DataW Unit} {rest : List (String × DataW Unit)} (h : laidMet Tryz.prog (a :: b :: ("internal/strconv.uint64pow10", Rows.laid_internal_strconv_uint64pow10) :: rest) W) (hsh : W.ShapedOpen Tryz.prog) : Env W := by
  refine ⟨Tryz.laysM145.s1_3 W hsh, ?_⟩
  exact Lib.tabIs_of_head (k := .u64) (zs := Lib.pow10Tab) (e := 117) (n := 20) powAt powType (by kernel_rfl) (by kernel_rfl) (by kernel_rfl) (by kernel_rfl) (show laidMet Tryz.prog (("internal/strconv.uint64pow10", Lib.tabData .u64 Lib.pow10Tab) :: rest) W from h.tail.tail)
end Go.Proofs.YtbclfcghacedfaaGreatDoor
end
