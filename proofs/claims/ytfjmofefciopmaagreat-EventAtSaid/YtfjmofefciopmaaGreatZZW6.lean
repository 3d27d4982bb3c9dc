import Derived.Test.YtfjmofefciopmaaGreatZMW
import Derived.Test.YtfjmofefciopmaaGreatZMA
/- Contract: the document's minute of a local time, going through all minutes about it. -/
section
namespace Go.Proofs.YtfjmofefciopmaaGreat
open Go.ChangeShapes Go.WideShapes Go.ChangeAt Go.RowKit Zn
end Go.Proofs.YtfjmofefciopmaaGreat
end
