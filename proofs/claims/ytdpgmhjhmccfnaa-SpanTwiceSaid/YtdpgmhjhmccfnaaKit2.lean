/- Cells of blocks that lie beneath one or two levels of grown worlds, for every such world. -/
import Derived.Test.YtdpgmhjhmccfnaaKit
namespace Go.Proofs.Ytdpgmhjhmccfnaa
open Go.RowKit

/-- A block of three cells, in every world grown from it, and in every world grown from one more block behind. -/
theorem Gr.lay3 (w : World) (x y z : Value) (t : TypeId) :
    (∀ g : Gr (w.alloc (.cells #[x, y, z] t)), g.val.cell? ⟨w.heap.size, 0, none⟩ = some x) ∧
    (∀ g : Gr (w.alloc (.cells #[x, y, z] t)), g.val.cell? ⟨w.heap.size, 1, none⟩ = some y) ∧
    (∀ g : Gr (w.alloc (.cells #[x, y, z] t)), g.val.cell? ⟨w.heap.size, 2, none⟩ = some z) ∧
    (∀ (g : Gr (w.alloc (.cells #[x, y, z] t))) (i : Nat), g.val.frozen? ⟨w.heap.size, i, none⟩ = false) :=
  ⟨Gr.three.1, Gr.three.2.1, Gr.three.2.2, fun g i => g.free1 i⟩
theorem Gr.lay3up (w : World) (x y z : Value) (t : TypeId) :
    (∀ (g : Gr (w.alloc (.cells #[x, y, z] t))) (o : Obj) (g2 : Gr (g.val.alloc o)), g2.val.cell? ⟨w.heap.size, 0, none⟩ = some x) ∧
    (∀ (g : Gr (w.alloc (.cells #[x, y, z] t))) (o : Obj) (g2 : Gr (g.val.alloc o)), g2.val.cell? ⟨w.heap.size, 1, none⟩ = some y) ∧
    (∀ (g : Gr (w.alloc (.cells #[x, y, z] t))) (o : Obj) (g2 : Gr (g.val.alloc o)), g2.val.cell? ⟨w.heap.size, 2, none⟩ = some z) ∧
    (∀ (g : Gr (w.alloc (.cells #[x, y, z] t))) (o : Obj) (g2 : Gr (g.val.alloc o)) (i : Nat), g2.val.frozen? ⟨w.heap.size, i, none⟩ = false) :=
  ⟨fun g _ g2 => (g.elder g2).1, fun g _ g2 => (g.elder g2).2.1, fun g _ g2 => (g.elder g2).2.2.1, fun g _ g2 => (g.elder g2).2.2.2⟩
/-- The elder block right behind a new one. -/
theorem Gr.lay3alloc (w : World) (x y z : Value) (t : TypeId) :
    (∀ (g : Gr (w.alloc (.cells #[x, y, z] t))) (o : Obj), (g.val.alloc o).cell? ⟨w.heap.size, 0, none⟩ = some x) ∧
    (∀ (g : Gr (w.alloc (.cells #[x, y, z] t))) (o : Obj), (g.val.alloc o).cell? ⟨w.heap.size, 1, none⟩ = some y) ∧
    (∀ (g : Gr (w.alloc (.cells #[x, y, z] t))) (o : Obj), (g.val.alloc o).cell? ⟨w.heap.size, 2, none⟩ = some z) :=
  ⟨fun g o => (Gr.lay3up w x y z t).1 g o ⟨_, Below.refl _ _⟩, fun g o => (Gr.lay3up w x y z t).2.1 g o ⟨_, Below.refl _ _⟩, fun g o => (Gr.lay3up w x y z t).2.2.1 g o ⟨_, Below.refl _ _⟩⟩
/-- The new block behind a grown world. -/
theorem Gr.new3 (w : World) :
    (∀ (g : Gr w) (x y z : Value) (t : TypeId) (g2 : Gr (g.val.alloc (.cells #[x, y, z] t))), g2.val.cell? ⟨g.val.heap.size, 0, none⟩ = some x) ∧
    (∀ (g : Gr w) (x y z : Value) (t : TypeId) (g2 : Gr (g.val.alloc (.cells #[x, y, z] t))), g2.val.cell? ⟨g.val.heap.size, 1, none⟩ = some y) ∧
    (∀ (g : Gr w) (x y z : Value) (t : TypeId) (g2 : Gr (g.val.alloc (.cells #[x, y, z] t))), g2.val.cell? ⟨g.val.heap.size, 2, none⟩ = some z) :=
  ⟨fun _ _ _ _ _ g2 => Gr.three.1 g2, fun _ _ _ _ _ g2 => Gr.three.2.1 g2, fun _ _ _ _ _ g2 => Gr.three.2.2 g2⟩
/-- .. and behind one more block. -/
theorem Gr.new3alloc (w : World) :
    (∀ (g : Gr w) (x y z : Value) (t : TypeId) (g2 : Gr (g.val.alloc (.cells #[x, y, z] t))) (o : Obj), (g2.val.alloc o).cell? ⟨g.val.heap.size, 0, none⟩ = some x) ∧
    (∀ (g : Gr w) (x y z : Value) (t : TypeId) (g2 : Gr (g.val.alloc (.cells #[x, y, z] t))) (o : Obj), (g2.val.alloc o).cell? ⟨g.val.heap.size, 1, none⟩ = some y) ∧
    (∀ (g : Gr w) (x y z : Value) (t : TypeId) (g2 : Gr (g.val.alloc (.cells #[x, y, z] t))) (o : Obj), (g2.val.alloc o).cell? ⟨g.val.heap.size, 2, none⟩ = some z) :=
  ⟨fun g x y z t g2 o => (Gr.lay3alloc g.val x y z t).1 g2 o, fun g x y z t g2 o => (Gr.lay3alloc g.val x y z t).2.1 g2 o, fun g x y z t g2 o => (Gr.lay3alloc g.val x y z t).2.2 g2 o⟩
theorem Gr.new3up (w : World) :
    (∀ (g : Gr w) (x y z : Value) (t : TypeId) (g2 : Gr (g.val.alloc (.cells #[x, y, z] t))) (o : Obj) (g3 : Gr (g2.val.alloc o)), g3.val.cell? ⟨g.val.heap.size, 0, none⟩ = some x) ∧
    (∀ (g : Gr w) (x y z : Value) (t : TypeId) (g2 : Gr (g.val.alloc (.cells #[x, y, z] t))) (o : Obj) (g3 : Gr (g2.val.alloc o)), g3.val.cell? ⟨g.val.heap.size, 1, none⟩ = some y) ∧
    (∀ (g : Gr w) (x y z : Value) (t : TypeId) (g2 : Gr (g.val.alloc (.cells #[x, y, z] t))) (o : Obj) (g3 : Gr (g2.val.alloc o)), g3.val.cell? ⟨g.val.heap.size, 2, none⟩ = some z) :=
  ⟨fun g x y z t g2 o g3 => (Gr.lay3up g.val x y z t).1 g2 o g3, fun g x y z t g2 o g3 => (Gr.lay3up g.val x y z t).2.1 g2 o g3, fun g x y z t g2 o g3 => (Gr.lay3up g.val x y z t).2.2.1 g2 o g3⟩
/-- One level behind another: the outer world has grown into the inner one. -/
theorem Gr.fold {w : World} (g : Gr w) {o : Obj} (g2 : Gr (g.val.alloc o)) : Below w.heap.size w g2.val := by
  obtain ⟨g', e⟩ := g.up1 g2
  rw [e]; exact g'.ok
theorem Gr.fold2 {w : World} (g : Gr w) {o o2 : Obj} (g2 : Gr (g.val.alloc o)) (g3 : Gr (g2.val.alloc o2)) : Below w.heap.size w g3.val :=
  (g.fold g2).trans (g3.below1.mono (g.fold g2).size)
theorem Gr.below2 {w : World} {o o2 : Obj} (g : Gr (w.alloc o)) (g2 : Gr (g.val.alloc o2)) : Below w.heap.size w g2.val := by
  obtain ⟨g', e⟩ := g.up1 g2
  rw [e]; exact g'.below1
theorem Gr.below2' {w : World} {o2 : Obj} (g : Gr w) (g2 : Gr (g.val.alloc o2)) : Below w.heap.size w g2.val := by
  obtain ⟨g', e⟩ := g.up1 g2
  rw [e]; exact g'.ok
end Go.Proofs.Ytdpgmhjhmccfnaa
