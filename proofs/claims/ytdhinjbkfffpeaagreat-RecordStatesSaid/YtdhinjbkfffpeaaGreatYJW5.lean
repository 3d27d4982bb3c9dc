import Derived.BigQuiet
import Derived.Deep.QuietTactic
import Derived.Deep.Cut
import Derived.Deep.AppendLies
import Derived.Test.YtdhinjbkfffpeaaGreatYOB
import Derived.Test.YtdhinjbkfffpeaaGreatYOG
import Derived.Test.YtdhinjbkfffpeaaGreatYJS2
import Derived.Deep.RegionHeld3
/- Contract of the document's records: a reply. -/
section
namespace Go.Proofs.YtdhinjbkfffpeaaGreat
open Go.ChangeShapes Go.WideShapes Go.ChangeAt Go.RowKit Go.Joins Sp Fr Pk
theorem below_al16 {w w' : World} (h : Below w.heap.size w w') (o : Obj) : Below w.heap.size w (w'.alloc o) := h.alloc h.size o
theorem blk_new16 {W w' : World} {o : Obj} (hb : Below (W.alloc o).heap.size (W.alloc o) w') : w'.heap[W.heap.size]? = some o := blk_below (heap_alloc_new _ _) hb
theorem blk_new16d {W w' : World} {o : Obj} (hb : Below (W.alloc o).drew.heap.size (W.alloc o).drew w') : w'.heap[W.heap.size]? = some o := blk_below (w := (W.alloc o).drew) (heap_alloc_new W o) hb
theorem bel16 {w V w' : World} (h : Below w.heap.size w V) (hb : Below V.heap.size V w') : Below w.heap.size w w' := h.trans (hb.mono h.size)
end Go.Proofs.YtdhinjbkfffpeaaGreat
end
