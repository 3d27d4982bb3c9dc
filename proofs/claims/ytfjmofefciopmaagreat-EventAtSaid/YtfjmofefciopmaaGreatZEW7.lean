import Derived.Test.YtfjmofefciopmaaGreatZEW5
import Derived.Test.YtfjmofefciopmaaGreatZMX
import Derived.Test.YtfjmofefciopmaaGreatZTW9
/- Contract: the members of an event that meet a window, the document's. -/
section
namespace Go.Proofs.YtfjmofefciopmaaGreat
open Go.ChangeShapes Go.WideShapes Go.ChangeAt Go.RowKit Go.Joins Sp Ev Qr
def changedB (ch : List (Int × Int × Int)) (at_ : Int) : Bool := ch.any fun c => decide (c.1 = at_)
def goodW (x : Spn) : Prop := x.1 < x.2 ∧ -1000000000000 ≤ x.1 ∧ x.2 ≤ 1000000000000 ∧ x.2 - x.1 ≤ 528480
instance (x : Spn) : Decidable (goodW x) := by unfold goodW; infer_instance
end Go.Proofs.YtfjmofefciopmaaGreat
end
