import Derived.BigQuiet
import Derived.Deep.QuietTactic
import Derived.Deep.Cut
import Derived.Deep.AppendLies
import Derived.Test.YtdhinjbkfffpeaaZOB
import Derived.Test.YtdhinjbkfffpeaaZOG
import Derived.Test.YtdhinjbkfffpeaaZJS2
import Derived.Deep.RegionHeld3
/- Contract of the document's records: a reply. -/
section
namespace Go.Proofs.Ytdhinjbkfffpeaa
open Go.ChangeShapes Go.WideShapes Go.ChangeAt Go.RowKit Go.Joins Sp Fr Pk
theorem bel16 {w V w' : World} (h : Below w.heap.size w V) (hb : Below V.heap.size V w') : Below w.heap.size w w' := h.trans (hb.mono h.size)
end Go.Proofs.Ytdhinjbkfffpeaa
end
