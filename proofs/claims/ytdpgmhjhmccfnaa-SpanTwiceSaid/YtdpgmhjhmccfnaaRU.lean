/- A rule in memory. -/
import Derived.Test.YtdpgmhjhmccfnaaQMath
import Derived.Test.YtdpgmhjhmccfnaaSK
namespace Go.Proofs.Ytdpgmhjhmccfnaa
open Go.ChangeShapes Go.WideShapes Go.ChangeAt Go.RowKit Qr Ck

/-- A rule's box. -/
def rcells (r : R) (A1 A2 A3 A4 : Option Addr) (c1 c2 c3 c4 : Nat) : Array Value :=
  #[.int .i64 r.freq, .int .i64 r.iv, .int .i64 r.count, .int .i64 r.until_, .slice A1 r.bm.length c1, .slice A2 r.bd.length c2, .slice A3 r.bw.length c3, .slice A4 r.bs.length c4, .int .i64 r.start]
/-- A rule's rows. -/
structure RAt (w : World) (r : R) (A1 A2 A3 A4 : Option Addr) (c1 c2 c3 c4 : Nat) : Prop where
  s1 : Sl w A1 r.bm.length c1 (iv r.bm)
  s2 : Sl w A2 r.bd.length c2 (iv r.bd)
  s3 : Sl w A3 r.bw.length c3 (sv r.bw)
  s4 : Sl w A4 r.bs.length c4 (iv r.bs)
theorem RAt.below {w w' : World} {r : R} {A1 A2 A3 A4 : Option Addr} {c1 c2 c3 c4 : Nat} {B : Nat} (h : RAt w r A1 A2 A3 A4 c1 c2 c3 c4) (hb : Below B w w') (hB : w.heap.size ≤ B) : RAt w' r A1 A2 A3 A4 c1 c2 c3 c4 :=
  ⟨h.s1.below hb hB, h.s2.below hb hB, h.s3.below hb hB, h.s4.below hb hB⟩
theorem box_at {w : World} {C : Array Value} {t : TypeId} {k : Nat} {v : Value} (h : C[k]? = some v) : ∀ g : Gr (w.alloc (.cells C t)), g.val.cell? ⟨w.heap.size, k, none⟩ = some v := fun g => g.cell1 k v h
theorem isEmpty_len {α : Type} (l : List α) : (!l.isEmpty) = true ↔ 0 < l.length := by cases l <;> simp

theorem below_of {w : World} {o o2 : Obj} (g : Gr (w.alloc o)) : Below w.heap.size w (g.val.alloc o2) := g.below1.alloc g.below1.size _
theorem below_ofD {w : World} {o : Obj} (g : Gr (w.alloc o)) (o2 : Obj) : Below w.heap.size w (g.val.alloc o2).drew := (g.below1.alloc g.below1.size _).drew


end Go.Proofs.Ytdpgmhjhmccfnaa
