import Derived.Test.YtdhinjbkfffpeaaGreatYMB
import Derived.Deep.AppendLies
import Derived.Laws.OwnMore
/- 'append' of a row that lies anywhere, or is nil, at a step of a region that draws its order. No text of the program is read here. -/
section
namespace Go.Proofs.YtdhinjbkfffpeaaGreat
open Go.ChangeShapes Go.WideShapes Go.ChangeAt Go.RowKit
end Go.Proofs.YtdhinjbkfffpeaaGreat
end
