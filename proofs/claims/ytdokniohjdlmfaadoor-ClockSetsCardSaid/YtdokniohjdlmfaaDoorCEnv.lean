/- What a row of this layer lists, as facts on the world. -/
import Derived.Test.YtdokniohjdlmfaaDoorKit4
import Derived.Test.YtdokniohjdlmfaaDoorCW6
import Derived.Test.YtdokniohjdlmfaaDoorCards
import Derived.Test.YtdokniohjdlmfaaDoorTie
namespace Go.Proofs.YtdokniohjdlmfaaDoor
open Go.RowKit

theorem powType : (Tryd.prog.globals[2]?).map (·.type) = some 99 := by kernel_rfl
theorem env_of {W : World} {a b : String × DataW Unit} {rest : List (String × DataW Unit)} (h : laidMet Tryd.prog (a :: b :: ("internal/strconv.uint64pow10", Rows.laid_internal_strconv_uint64pow10) :: rest) W) (hsh : W.ShapedOpen Tryd.prog) : Env W := by
  refine ⟨Tryd.laysM145.s1_3 W hsh, ?_⟩
  exact Lib.tabIs_of_head (k := .u64) (zs := Lib.pow10Tab) (e := 84) (n := 20) powAt powType (by kernel_rfl) (by kernel_rfl) (by kernel_rfl) (by kernel_rfl) (show laidMet Tryd.prog (("internal/strconv.uint64pow10", Lib.tabData .u64 Lib.pow10Tab) :: rest) W from h.tail.tail)
end Go.Proofs.YtdokniohjdlmfaaDoor
