/- What a row of this layer lists, as facts on the world. -/
import Derived.Test.YtjjmbndknjjjjaaDoorKit4
import Derived.Test.YtjjmbndknjjjjaaDoorRW2
import Derived.Test.YtjjmbndknjjjjaaDoorBO
import Derived.Test.YtjjmbndknjjjjaaDoorCards
import Derived.Test.YtjjmbndknjjjjaaDoorTie
import Derived.OpenShut
namespace Go.Proofs.YtjjmbndknjjjjaaDoor
open Go.RowKit

theorem halvesAt : Tryd.prog.globalNamed "vespers/crc.halves" = some 0 := by kernel_rfl
theorem halvesType : (Tryd.prog.globals[0]?).map (·.type) = some 51 := by kernel_rfl
theorem halves_of {W : World} {rest : List (String × DataW Unit)} (h : laidMet Tryd.prog (("vespers/crc.halves", Rows.laid_vespers_crc_halves) :: rest) W) : Halves W := by
  have ht : Lib.TabIs Tryd.prog W "vespers/crc.halves" .u32 Rc.tab :=
    Lib.tabIs_of_head (k := .u32) (zs := Rc.tab) (e := 22) (n := 16) halvesAt halvesType (by kernel_rfl) (by kernel_rfl) (by kernel_rfl) (by kernel_rfl) (show laidMet Tryd.prog (("vespers/crc.halves", Lib.tabData .u32 Rc.tab) :: rest) W from h)
  intro i hi
  have h1 := Lib.TabIs.cell ht halvesAt i (by show i < 16; exact hi)
  rw [Rc.tab_at i hi] at h1
  exact h1
end Go.Proofs.YtjjmbndknjjjjaaDoor
