import Derived.Test.YtdhinjbkfffpeaaZRL16
import Derived.Test.YtdhinjbkfffpeaaZJW5
import Derived.Test.YtdhinjbkfffpeaaZJS3
/- RecordReplies, walked. -/
section
namespace Go.Proofs.Ytdhinjbkfffpeaa
open Go.ChangeShapes Go.WideShapes Go.ChangeAt Go.RowKit Go.Joins Sp Fr Pk
end Go.Proofs.Ytdhinjbkfffpeaa
end
