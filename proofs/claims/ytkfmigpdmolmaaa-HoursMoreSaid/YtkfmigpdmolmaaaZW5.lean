/- Contracts: the minute of a local time; the chapter's zone, and its examples. -/
import Derived.Test.YtkfmigpdmolmaaaZW4
namespace Go.Proofs.Ytkfmigpdmolmaaa
open Go.ChangeShapes Go.WideShapes Go.ChangeAt Go.RowKit Zn

/-- The chapter's zone. -/
def zS : Z := ⟨60, 1, fun _ => 1000000, fun _ => 120⟩
theorem zS_wf : ZWf zS := ⟨by decide, by decide, fun _ _ => ⟨⟨by show _ ≤ (1000000 : Int); decide, by show (1000000 : Int) ≤ _; decide⟩, ⟨by show _ ≤ (120 : Int); decide, by show (120 : Int) ≤ _; decide⟩⟩⟩
def SampleP (w : World) (e : Ending) (w' : World) : Prop := ∃ A c, e = .returned (.agg #[.int .i64 zS.base, .slice A zS.n c]) ∧ ZAt w' A zS ∧ Below w.heap.size w w'

theorem zS_may : mayP zS := by decide
theorem zS1 : hasP zS 1000060 ∧ kindI zS 1000060 (np zS 1000060) = 1 := by decide
theorem zS2 : hasP zS 1000120 ∧ atI zS 1000120 = 1000000 ∧ kindI zS 1000120 (np zS 1000120) = 0 := by decide
end Go.Proofs.Ytkfmigpdmolmaaa
