/- Contract: the document's minute of a local time, going through all minutes about it. -/
import Derived.Test.YtkfmigpdmolmaaaZW5
import Derived.Test.YtkfmigpdmolmaaaZMath2
namespace Go.Proofs.Ytkfmigpdmolmaaa
open Go.ChangeShapes Go.WideShapes Go.ChangeAt Go.RowKit Zn

def badV : Value := .agg #[.int .i64 0, .int .i64 0, .bool true]

def outV (z : Z) (l : Int) : Value := if 0 ≤ atI z l ∧ atI z l ≤ 158310720 then .agg #[.int .i64 (atI z l), .int .i64 (kI z l), .bool false] else badV
end Go.Proofs.Ytkfmigpdmolmaaa
