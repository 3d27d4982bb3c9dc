/- Worlds that a base world has grown into: regions that draw their order and whose callees make memory, walked once. -/
import Derived.WalkKit
import Derived.ProofKit
import Derived.OpenShut
import Derived.Deep.QuietTactic
import Derived.BigQuiet
namespace Go.Proofs.Ytdpgmhjhmccfnaa
open Go.RowKit

/-- A world that w has grown into: below w's size nothing has turned. -/
structure Gr (w : World) where
  val : World
  ok : Below w.heap.size w val

instance (w : World) : Nonempty (Gr w) := ⟨⟨w, Below.refl _ _⟩⟩

theorem Gr.cell {w : World} (g : Gr w) (b o : Nat) (h : b < w.heap.size) : g.val.cell? ⟨b, o, none⟩ = w.cell? ⟨b, o, none⟩ :=
  g.ok.cell (p := ⟨b, o, none⟩) h
theorem Gr.frozen {w : World} (g : Gr w) (b o : Nat) (h : b < w.heap.size) : g.val.frozen? ⟨b, o, none⟩ = w.frozen? ⟨b, o, none⟩ :=
  g.ok.frozen (p := ⟨b, o, none⟩) h
theorem Gr.size {w : World} (g : Gr w) : w.heap.size ≤ g.val.heap.size := g.ok.size

theorem Gr.start (w : World) : ∃ g : Gr w, w = g.val := ⟨⟨w, Below.refl _ _⟩, rfl⟩
theorem Gr.of {w w' : World} (h : Below w.heap.size w w') : ∃ g : Gr w, w' = g.val := ⟨⟨w', h⟩, rfl⟩
theorem Gr.on {w : World} (g : Gr w) {w' : World} (h : Below g.val.heap.size g.val w') : ∃ g' : Gr w, w' = g'.val :=
  ⟨⟨w', g.ok.trans (h.mono g.size)⟩, rfl⟩
theorem Gr.draw {w : World} (g : Gr w) : ∃ g' : Gr w, { g.val with drawn := g.val.drawn + 1 } = g'.val :=
  ⟨⟨_, g.ok.drew⟩, rfl⟩
theorem Gr.draw0 (w : World) : ∃ g' : Gr w, { w with drawn := w.drawn + 1 } = g'.val :=
  ⟨⟨_, (Below.refl _ w).drew⟩, rfl⟩

/-- A callee that may make memory, met in a grown world. -/
theorem Gr.calls {P : Program} {f : FuncId} {args : Array Value} {w : World} (g : Gr w) {v : Value}
    (h : Calls P f args g.val fun e w' => e = .returned v ∧ Below g.val.heap.size g.val w') : Calls P f args g.val fun e w'' => e = .returned v ∧ ∃ g' : Gr w, w'' = g'.val :=
  h.mono fun _ _ ⟨he, hb⟩ => ⟨he, g.on hb⟩
/-- .. that leaves the world as it was. -/
theorem Gr.calls_same {P : Program} {f : FuncId} {args : Array Value} {w : World} (g : Gr w) {v : Value}
    (h : Calls P f args g.val fun e w' => e = .returned v ∧ g.val = w') : Calls P f args g.val fun e w'' => e = .returned v ∧ ∃ g' : Gr w, w'' = g'.val :=
  h.mono fun _ _ ⟨he, hb⟩ => ⟨he, g, hb.symm⟩
/-- One new block ahead of it all. -/
theorem Gr.below1 {w : World} {o : Obj} (g : Gr (w.alloc o)) : Below w.heap.size w g.val :=
  ((Below.refl _ w).alloc (Nat.le_refl _) o).trans (g.ok.mono (by simp))

theorem Gr.free1 {w : World} {c : Array Value} {t : TypeId} (g : Gr (w.alloc (.cells c t))) (o : Nat) : g.val.frozen? ⟨w.heap.size, o, none⟩ = false := by
  rw [g.frozen _ _ (by simp)]; exact World.frozen?_alloc_at c t _ _ rfl
theorem Gr.cell1 {w : World} {c : Array Value} {t : TypeId} (g : Gr (w.alloc (.cells c t))) (o : Nat) (v : Value) (h : c[o]? = some v) : g.val.cell? ⟨w.heap.size, o, none⟩ = some v := by
  rw [g.cell _ _ (by simp)]; simp [go_sem, h]
/-- A block of three cells. -/
theorem Gr.three {w : World} {x y z : Value} {t : TypeId} : (∀ g : Gr (w.alloc (.cells #[x, y, z] t)), g.val.cell? ⟨w.heap.size, 0, none⟩ = some x) ∧ (∀ g : Gr (w.alloc (.cells #[x, y, z] t)), g.val.cell? ⟨w.heap.size, 1, none⟩ = some y) ∧ (∀ g : Gr (w.alloc (.cells #[x, y, z] t)), g.val.cell? ⟨w.heap.size, 2, none⟩ = some z) :=
  ⟨fun g => g.cell1 0 x rfl, fun g => g.cell1 1 y rfl, fun g => g.cell1 2 z rfl⟩

theorem Gr.below_set3 {w : World} {o : Obj} (g : Gr (w.alloc o)) (a b c : Nat) (x y z : Value) :
    Below w.heap.size w (((g.val.setCell ⟨w.heap.size, a, none⟩ x).setCell ⟨w.heap.size, b, none⟩ y).setCell ⟨w.heap.size, c, none⟩ z) :=
  (((Gr.below1 g).setCell (p := ⟨w.heap.size, a, none⟩) (Nat.le_refl _) _).setCell (p := ⟨w.heap.size, b, none⟩) (Nat.le_refl _) _).setCell (p := ⟨w.heap.size, c, none⟩) (Nat.le_refl _) _

theorem Gr.up1 {w : World} (g : Gr w) {o : Obj} (g2 : Gr (g.val.alloc o)) : ∃ g' : Gr w, g2.val = g'.val := g.on g2.below1
/-- An elder block of three cells, behind a new one. -/
theorem Gr.elder {w : World} {x y z : Value} {t : TypeId} (g : Gr (w.alloc (.cells #[x, y, z] t))) {o : Obj} (g2 : Gr (g.val.alloc o)) :
    g2.val.cell? ⟨w.heap.size, 0, none⟩ = some x ∧ g2.val.cell? ⟨w.heap.size, 1, none⟩ = some y ∧ g2.val.cell? ⟨w.heap.size, 2, none⟩ = some z ∧ ∀ i, g2.val.frozen? ⟨w.heap.size, i, none⟩ = false := by
  obtain ⟨g', e⟩ := g.up1 g2
  rw [e]
  exact ⟨Gr.three.1 g', Gr.three.2.1 g', Gr.three.2.2 g', fun i => g'.free1 i⟩

/-- A region that draws its order, walked once: every operation reads, or is a call that hands back a value and leaves a grown world. -/
theorem Gr.region {P : Program} {id : Nat} {Q : Exit → Act → World → Prop} {a : Act} {w0 w : World} {l : List Oper} (hm : P.follows .mixedOrders = true) (hB : Region.lexB .any l.toArray = true)
    (hd : ∃ g : Gr w0, { w with drawn := w.drawn + 1 } = g.val)
    (h : wpQuiet P l.toArray (fun w' => ∃ g : Gr w0, w' = g.val) (fun a' => ∀ w', (∃ g : Gr w0, w' = g.val) → Q .normal a' w') l a) : (Code.region id l.toArray true).wp P Q a w :=
  wp_region_quiet (C := fun w' => ∃ g : Gr w0, w' = g.val) hm hB hd (by simpa using h)
end Go.Proofs.Ytdpgmhjhmccfnaa
