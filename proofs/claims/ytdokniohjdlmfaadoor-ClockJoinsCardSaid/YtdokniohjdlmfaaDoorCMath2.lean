/- Plain mathematics of stamps' texts. -/
import Derived.Test.YtdokniohjdlmfaaDoorCMath
import Derived.Test.YtdokniohjdlmfaaDoorMath
namespace Ck
open Go.Proofs.YtdokniohjdlmfaaDoor.Cal (yOf mOf dOf mayB numI)

def stT (y m d mi : Int) : List UInt8 := low y 4 ++ [45] ++ low m 2 ++ [45] ++ low d 2 ++ [84] ++ minT mi
theorem stT_len (y m d mi : Int) : (stT y m d mi).length = 16 := by unfold stT; simp [low_len, minT_len]
noncomputable def stampT (n : Int) : List UInt8 := stT (yOf (dayI n)) (mOf (dayI n)) (dOf (dayI n)) (minuteI n)
theorem stampT_len (n : Int) : (stampT n).length = 16 := stT_len _ _ _ _
/-- Which stamp is read of a text; -1, if none. -/
noncomputable def readS (l : List UInt8) : Int :=
  if l.length = 16 ∧ 0 ≤ readM (l.drop 11) ∧ mayB (valI (l.take 4)) (valI ((l.drop 5).take 2)) (valI ((l.drop 8).take 2)) = true ∧
    stampT (numI (valI (l.take 4)) (valI ((l.drop 5).take 2)) (valI ((l.drop 8).take 2)) * 1440 + readM (l.drop 11)) = l
  then numI (valI (l.take 4)) (valI ((l.drop 5).take 2)) (valI ((l.drop 8).take 2)) * 1440 + readM (l.drop 11) else -1
theorem ext_list (s : ByteArray) (a b : Nat) : (s.extract a b).data.toList = (s.data.toList.drop a).take (b - a) := by
  rw [ByteArray.data_extract, Array.toList_extract, List.extract_eq_take_drop]
end Ck
