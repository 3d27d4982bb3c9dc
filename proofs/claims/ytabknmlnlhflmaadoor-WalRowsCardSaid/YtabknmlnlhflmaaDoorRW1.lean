/- Contract of the document's sum of bytes. -/
import Derived.Test.YtabknmlnlhflmaaDoorRows
import Derived.Test.YtabknmlnlhflmaaDoorRMath
import Derived.Test.YtabknmlnlhflmaaDoorKit3
import Derived.Laws.BitsAll
namespace Go.Proofs.YtabknmlnlhflmaaDoor
open Go.ChangeShapes Go.WideShapes Go.ChangeAt Go.RowKit Rc

/-- A text's bytes, as numbers. -/
def bn (l : List UInt8) : List Nat := l.map (fun c => c.toNat)
theorem take_snoc (s : ByteArray) (k : Nat) (h : k < s.size) : s.data.toList.take (k + 1) = s.data.toList.take k ++ [s[k]] := by
  rw [List.take_succ_eq_append_getElem (by simpa using h)]; rfl
theorem bn_lt (l : List UInt8) : ∀ c ∈ bn l, c < 256 := by
  intro c hc
  obtain ⟨d, _, rfl⟩ := List.mem_map.1 hc
  exact d.toNat_lt
end Go.Proofs.YtabknmlnlhflmaaDoor
