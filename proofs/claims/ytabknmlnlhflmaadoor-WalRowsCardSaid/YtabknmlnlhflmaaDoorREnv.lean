/- What a row of this layer lists, as facts on the world. -/
import Derived.Test.YtabknmlnlhflmaaDoorKit4
import Derived.Test.YtabknmlnlhflmaaDoorRW2
import Derived.Test.YtabknmlnlhflmaaDoorBO
import Derived.Test.YtabknmlnlhflmaaDoorCards
import Derived.Test.YtabknmlnlhflmaaDoorTie
import Derived.OpenShut
namespace Go.Proofs.YtabknmlnlhflmaaDoor
open Go.RowKit

theorem halvesAt : Tryd.prog.globalNamed "vespers/crc.halves" = some 0 := by kernel_rfl
theorem halvesType : (Tryd.prog.globals[0]?).map (·.type) = some 78 := by kernel_rfl
theorem halves_of {W : World} {rest : List (String × DataW Unit)} (h : laidMet Tryd.prog (("vespers/crc.halves", Rows.laid_vespers_crc_halves) :: rest) W) : Halves W := by
  have ht : Lib.TabIs Tryd.prog W "vespers/crc.halves" .u32 Rc.tab :=
    Lib.tabIs_of_head (k := .u32) (zs := Rc.tab) (e := 33) (n := 16) halvesAt halvesType (by kernel_rfl) (by kernel_rfl) (by kernel_rfl) (by kernel_rfl) (show laidMet Tryd.prog (("vespers/crc.halves", Lib.tabData .u32 Rc.tab) :: rest) W from h)
  intro i hi
  have h1 := Lib.TabIs.cell ht halvesAt i (by show i < 16; exact hi)
  rw [Rc.tab_at i hi] at h1
  exact h1
end Go.Proofs.YtabknmlnlhflmaaDoor
