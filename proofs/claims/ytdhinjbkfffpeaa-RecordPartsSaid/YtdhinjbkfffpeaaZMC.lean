import Derived.Test.YtdhinjbkfffpeaaRows
import Derived.Test.YtdhinjbkfffpeaaZMA
import Derived.Test.YtdhinjbkfffpeaaZMB
import Derived.Lib.Hide
/- Contracts of the document's texts of times: digits, minutes. -/
section
namespace Go.Proofs.Ytdhinjbkfffpeaa
open Go.ChangeShapes Go.WideShapes Go.ChangeAt Go.RowKit Ck
end Go.Proofs.Ytdhinjbkfffpeaa
end
