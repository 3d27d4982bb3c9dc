import Derived.Test.YtdhinjbkfffpeaaRows
import Derived.Test.YtdhinjbkfffpeaaZOD
import Derived.Test.YtdhinjbkfffpeaaZMB
import Derived.Deep.RegionWith
import Derived.BigRegion
import Derived.Laws.BitsAll
/- Contracts of the document's numbers, texts and flags as bytes. -/
section
namespace Go.Proofs.Ytdhinjbkfffpeaa
open Go.ChangeShapes Go.WideShapes Go.ChangeAt Go.RowKit Fr Pk
end Go.Proofs.Ytdhinjbkfffpeaa
end
