import Derived.Test.YtibnbpiachdmdaaZNC
import Derived.Test.YtibnbpiachdmdaaZSPK
import Derived.Test.YtibnbpiachdmdaaZMB
/- What the statements of layer 14 ask of the program's streams: contracts, as one structure, over what a stream, and a counter, are in memory. -/
section
namespace Go.Proofs.Ytibnbpiachdmdaa
open Go.ChangeShapes Go.WideShapes Go.ChangeAt Go.RowKit Go.Joins Sp
/-- In a world, of a counter, at a pointer, there is a stream of a row, that may ask so often, and has these blocks. -/
abbrev StP := World → Value → Value → List Spn → Nat → (Nat → Prop) → Prop
/-- In a world, at a pointer, there is a counter of so many, that has these blocks. -/
abbrev CtP := World → Value → Nat → (Nat → Prop) → Prop
end Go.Proofs.Ytibnbpiachdmdaa
end
