import Derived.Test.YtdhinjbkfffpeaaGreatYJRK
import Derived.Test.YtdhinjbkfffpeaaGreatYBlk2
import Derived.BigQuiet
import Derived.Deep.QuietTactic
import Derived.Deep.Cut
/- The chapter's example of layer 16. -/
section
namespace Go.Proofs.YtdhinjbkfffpeaaGreat
open Go.ChangeShapes Go.WideShapes Go.ChangeAt Go.RowKit Go.Joins Sp Fr Pk
theorem conv16 {w : World} {A : Option Addr} {l : List UInt8} (h : BAt w A l) (c n : Nat) (hn : l.length = n) :
    (convert 42 9 (.slice A n c)).run Tryz.prog w = .ok (.string ⟨l.toArray⟩) w := by subst hn; exact h.conv c Tryz.underlying42 Tryz.underlying5 Tryz.underlying9
end Go.Proofs.YtdhinjbkfffpeaaGreat
end
