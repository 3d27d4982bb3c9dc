/- Contracts of the document's frames. -/
import Derived.Test.YtabknmlnlhflmaaDoorRW1
import Derived.Test.YtabknmlnlhflmaaDoorFMath
namespace Go.Proofs.YtabknmlnlhflmaaDoor
open Go.ChangeShapes Go.WideShapes Go.ChangeAt Go.RowKit Fr

theorem conv_four {P : Program} (w : World) (x0 x1 x2 x3 : Int) (b0 b1 b2 b3 : UInt8) (h0 : (b0.toNat : Int) = x0) (h1 : (b1.toNat : Int) = x1) (h2 : (b2.toNat : Int) = x2) (h3 : (b3.toNat : Int) = x3)
    {src dst e : TypeId} (hs : P.underlying src = some (.slice e)) (he : P.underlying e = some (.int .u8)) (hd : P.underlying dst = some .string) :
    (convert src dst (.slice (some ⟨w.heap.size, 0, none⟩) 4 4)).run P (w.alloc (.cells #[.int .u8 x0, .int .u8 x1, .int .u8 x2, .int .u8 x3] e)) = .ok (.string ⟨#[b0, b1, b2, b3]⟩) (w.alloc (.cells #[.int .u8 x0, .int .u8 x1, .int .u8 x2, .int .u8 x3] e)) := by
  refine run_convert_bytes_back (w.alloc (.cells #[.int .u8 x0, .int .u8 x1, .int .u8 x2, .int .u8 x3] e)) src dst e ⟨w.heap.size, 0, none⟩ 4 [b0, b1, b2, b3] hs he hd fun j hj => ?_
  have hj' : j < 4 := hj
  have : j = 0 ∨ j = 1 ∨ j = 2 ∨ j = 3 := by omega
  rcases this with rfl | rfl | rfl | rfl
  · simp [go_sem, h0]
  · simp [go_sem, h1, Addr.add]
  · simp [go_sem, h2, Addr.add]
  · simp [go_sem, h3, Addr.add]

/-- A frame without its sum. -/
def headT (gen number : Nat) (l : List UInt8) : List UInt8 := four l.length ++ four gen ++ four number ++ l
/-- A frame; nothing, if it may not be. -/
def putT (gen number : Nat) (l : List UInt8) : List UInt8 := if gen = 0 ∨ 1048576 < l.length then [] else headT gen number l ++ four (Rc.sum (bn (headT gen number l)))
theorem sum_lt (l : List Nat) : Rc.sum l < 4294967296 := by unfold Rc.sum; omega
theorem app4 (a b c : List UInt8) (s : ByteArray) : (ByteArray.mk a.toArray ++ ByteArray.mk b.toArray ++ ByteArray.mk c.toArray ++ s : ByteArray) = ⟨(a ++ b ++ c ++ s.data.toList).toArray⟩ := by
  have e : s = ⟨s.data.toList.toArray⟩ := by cases s; simp
  conv => lhs; rw [e]
  simp only [ByteArray.mk_append_mk]
end Go.Proofs.YtabknmlnlhflmaaDoor
