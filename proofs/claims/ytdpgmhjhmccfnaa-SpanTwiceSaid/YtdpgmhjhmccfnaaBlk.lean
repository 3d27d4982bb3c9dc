/- Blocks that are known as a whole. -/
import Derived.Test.YtdpgmhjhmccfnaaKit3
import Derived.Lib.SmallJoins
namespace Go.Proofs.Ytdpgmhjhmccfnaa
open Go.ChangeShapes Go.WideShapes Go.ChangeAt Go.RowKit Go.Joins

theorem blk_cell {w : World} {b i : Nat} {cs : Array Value} {t : TypeId} {v : Value} (h : w.heap[b]? = some (.cells cs t (0, 0))) (hv : cs[i]? = some v) : w.cell? ⟨b, i, none⟩ = some v := by simp [World.cell?, h, hv]
theorem blk_free {w : World} {b : Nat} {cs : Array Value} {t : TypeId} (h : w.heap[b]? = some (.cells cs t (0, 0))) (i : Nat) : w.frozen? ⟨b, i, none⟩ = false := by simp [World.frozen?, h]
theorem heap_lt' {w : World} {b : Nat} {o : Obj} (h : w.heap[b]? = some o) : b < w.heap.size := (Array.getElem?_eq_some_iff.1 h).1
theorem blk_below {w w' : World} {b : Nat} {o : Obj} (h : w.heap[b]? = some o) (hb : Below w.heap.size w w') : w'.heap[b]? = some o := by
  rw [hb.block b (Array.getElem?_eq_some_iff.1 h).1]; exact h
theorem two_set {W : World} {b : Nat} {t : TypeId} {x0 x1 : Value} (h : W.heap[b]? = some (.cells #[x0, x1] t (0, 0))) (v0 v1 : Value) : ((W.setCell ⟨b, 0, none⟩ v0).setCell ⟨b, 1, none⟩ v1).heap[b]? = some (.cells #[v0, v1] t (0, 0)) := by
  have := block_setCell (block_setCell (i := 0) h v0) (i := 1) v1
  simpa using this
/-- A second new block. -/
theorem heap_alloc_new2 (w : World) (o p : Obj) : ((w.alloc o).alloc p).heap[w.heap.size + 1]? = some p :=
  (congrArg (fun k => ((w.alloc o).alloc p).heap[k]?) (by simp)).trans (heap_alloc_new _ _)
/-- A third one. -/
theorem heap_alloc_new3 (w : World) (o p q : Obj) : (((w.alloc o).alloc p).alloc q).heap[w.heap.size + 2]? = some q :=
  (congrArg (fun k => (((w.alloc o).alloc p).alloc q).heap[k]?) (by simp)).trans (heap_alloc_new _ _)
end Go.Proofs.Ytdpgmhjhmccfnaa
