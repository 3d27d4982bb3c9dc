import Derived.Test.YtibnbpiachdmdaaRows
import Derived.Test.YtibnbpiachdmdaaZMB
import Derived.BigRegion
import Derived.Test.YtibnbpiachdmdaaZMD
import Derived.Deep.RegionHeld3
import Derived.Test.YtibnbpiachdmdaaZMA
import Derived.Deep.AppendLies
import Derived.Lib.SmallJoins
/- Contract of the document's rows: a number put among others. -/
section
namespace Go.Proofs.Ytibnbpiachdmdaa
open Go.ChangeShapes Go.WideShapes Go.ChangeAt Go.RowKit Sp
end Go.Proofs.Ytibnbpiachdmdaa
end
/- Contracts of the document's rows: edges. -/
section
namespace Go.Proofs.Ytibnbpiachdmdaa
open Go.ChangeShapes Go.WideShapes Go.ChangeAt Go.RowKit Sp
end Go.Proofs.Ytibnbpiachdmdaa
end
/- Contract of the document's rows: built between edges. -/
section
namespace Go.Proofs.Ytibnbpiachdmdaa
open Go.ChangeShapes Go.WideShapes Go.ChangeAt Go.RowKit Go.Joins Sp
theorem span_info : (Try.prog.info? 26).map (fun i => (i.zero, i.size, i.bytes)) = some (some (.agg #[.int .i64 0, .int .i64 0]), 2, 16) := by kernel_rfl
end Go.Proofs.Ytibnbpiachdmdaa
end
/- Contracts of the document's rows: pairs, forms. -/
section
namespace Go.Proofs.Ytibnbpiachdmdaa
open Go.ChangeShapes Go.WideShapes Go.ChangeAt Go.RowKit Go.Joins Sp
end Go.Proofs.Ytibnbpiachdmdaa
end
/- Contract of the document's rows: whether one is in its form. -/
section
namespace Go.Proofs.Ytibnbpiachdmdaa
open Go.ChangeShapes Go.WideShapes Go.ChangeAt Go.RowKit Go.Joins Sp
end Go.Proofs.Ytibnbpiachdmdaa
end
