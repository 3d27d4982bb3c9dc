import Derived.Test.YtdhinjbkfffpeaaGreatRows
import Derived.Test.YtdhinjbkfffpeaaGreatYMA
import Derived.Test.YtdhinjbkfffpeaaGreatYMB
import Derived.Lib.Hide
/- Contracts of the document's texts of times: digits, minutes. -/
section
namespace Go.Proofs.YtdhinjbkfffpeaaGreat
open Go.ChangeShapes Go.WideShapes Go.ChangeAt Go.RowKit Ck
end Go.Proofs.YtdhinjbkfffpeaaGreat
end
