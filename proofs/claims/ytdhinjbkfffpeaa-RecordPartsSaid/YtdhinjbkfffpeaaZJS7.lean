import Derived.BigQuiet
import Derived.Deep.QuietTactic
import Derived.Deep.Cut
import Derived.Deep.AppendLies
import Derived.Test.YtdhinjbkfffpeaaZOA
import Derived.Test.YtdhinjbkfffpeaaZJS5
/- Contract of the document's records: is more in a state than is gone through? -/
section
namespace Go.Proofs.Ytdhinjbkfffpeaa
open Go.ChangeShapes Go.WideShapes Go.ChangeAt Go.RowKit Sp
end Go.Proofs.Ytdhinjbkfffpeaa
end
