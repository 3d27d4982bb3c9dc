/- Small laws on grown worlds, for all layers. -/
import Derived.Test.YtdpgmhjhmccfnaaKit2
import Derived.Lib.Hide
import Derived.Laws.IdiomStrings
import Derived.Deep.Draws
namespace Go.Proofs.Ytdpgmhjhmccfnaa
open Go.RowKit

theorem drewN_below (w : World) (n : Nat) : Below w.heap.size w (w.drewN n) := ⟨rfl, rfl, rfl, Nat.le_refl _, fun _ _ => rfl⟩
theorem cell_old {w w' : World} {b k : Nat} {v : Value} (h : w.cell? ⟨b, k, none⟩ = some v) (hb : Below w.heap.size w w') : w'.cell? ⟨b, k, none⟩ = some v := by
  have hl : b < w.heap.size := World.block_lt_of_cell? _ _ h
  rw [hb.cell (p := ⟨b, k, none⟩) hl]; exact h
theorem Gr.lay2 (w : World) (x y : Value) (t : TypeId) :
    (∀ g : Gr (w.alloc (.cells #[x, y] t)), g.val.cell? ⟨w.heap.size, 0, none⟩ = some x) ∧ (∀ g : Gr (w.alloc (.cells #[x, y] t)), g.val.cell? ⟨w.heap.size, 1, none⟩ = some y) :=
  ⟨fun g => g.cell1 0 x rfl, fun g => g.cell1 1 y rfl⟩
theorem Gr.layOld {w : World} {b k : Nat} {v : Value} (h : w.cell? ⟨b, k, none⟩ = some v) (o : Obj) : ∀ g : Gr (w.alloc o), g.val.cell? ⟨b, k, none⟩ = some v :=
  fun g => cell_old h g.below1
theorem Gr.up2 {w : World} {o : Obj} (g : Gr w) (n : Nat) : ∃ g' : Gr w, (g.val.alloc o).drewN n = g'.val := g.on (Below.mono ⟨rfl, rfl, rfl, by simp, fun k hk => Below.heap_alloc _ _ _ hk⟩ (Nat.le_refl _))
theorem Gr.up0 {w : World} {o : Obj} (g : Gr w) : ∃ g' : Gr w, g.val.alloc o = g'.val := g.on ((Below.refl _ _).alloc (Nat.le_refl _) _)
theorem Gr.cellA {w : World} {b k : Nat} {v : Value} (h : ∀ g : Gr w, g.val.cell? ⟨b, k, none⟩ = some v) : ∀ (g : Gr w) (o : Obj), (g.val.alloc o).cell? ⟨b, k, none⟩ = some v :=
  fun g o => by obtain ⟨g', e⟩ := g.up0 (o := o); rw [e]; exact h g'
theorem ret_bool {a b : Bool} (h : a = b) : Ending.returned (.bool a) = .returned (.bool b) := by rw [h]
theorem ret_int {k : IntKind} {a b : Int} (h : a = b) : Ending.returned (.int k a) = .returned (.int k b) := by rw [h]
/-- A block of three cells, known whole. -/
def OutAt (w : World) (b : Nat) (t : TypeId) (x y z : Value) : Prop := w.heap[b]? = some (.cells #[x, y, z] t (0, 0))
section
variable {w w' : World} {b : Nat} {t : TypeId} {x y z : Value}
theorem OutAt.lt (h : OutAt w b t x y z) : b < w.heap.size := by
  rcases Nat.lt_or_ge b w.heap.size with h1 | h1
  · exact h1
  · unfold OutAt at h; rw [Array.getElem?_eq_none h1] at h; cases h
theorem OutAt.cells (h : OutAt w b t x y z) : w.cell? ⟨b, 0, none⟩ = some x ∧ w.cell? ⟨b, 1, none⟩ = some y ∧ w.cell? ⟨b, 2, none⟩ = some z := by
  unfold OutAt at h
  refine ⟨?_, ?_, ?_⟩ <;> simp [World.cell?, h]
theorem OutAt.free (h : OutAt w b t x y z) (i : Nat) : w.frozen? ⟨b, i, none⟩ = false := by
  unfold OutAt at h; simp [World.frozen?, h]
theorem OutAt.new (w : World) (t : TypeId) (x y z : Value) : OutAt (w.alloc (.cells #[x, y, z] t)) w.heap.size t x y z := heap_alloc_new w _
theorem OutAt.below {B : Nat} (h : OutAt w b t x y z) (hb : Below B w w') (hB : b < B) : OutAt w' b t x y z := (hb.block b hB).trans h
theorem OutAt.up (h : OutAt w b t x y z) (hb : Below w.heap.size w w') : OutAt w' b t x y z := h.below hb h.lt
theorem OutAt.set0 (h : OutAt w b t x y z) (u : Value) : OutAt (w.setCell ⟨b, 0, none⟩ u) b t u y z := by
  unfold OutAt at h ⊢; simp [World.setCell, Array.getElem?_modify, h]
theorem OutAt.set1 (h : OutAt w b t x y z) (u : Value) : OutAt (w.setCell ⟨b, 1, none⟩ u) b t x u z := by
  unfold OutAt at h ⊢; simp [World.setCell, Array.getElem?_modify, h]
theorem OutAt.lay (h : OutAt w b t x y z) : (∀ g : Gr w, g.val.cell? ⟨b, 0, none⟩ = some x) ∧ (∀ g : Gr w, g.val.cell? ⟨b, 1, none⟩ = some y) ∧ (∀ g : Gr w, g.val.cell? ⟨b, 2, none⟩ = some z) ∧ (∀ (g : Gr w) (i : Nat), g.val.frozen? ⟨b, i, none⟩ = false) :=
  ⟨fun g => (h.up g.ok).cells.1, fun g => (h.up g.ok).cells.2.1, fun g => (h.up g.ok).cells.2.2, fun g i => (h.up g.ok).free i⟩
end
theorem below_set3 {B : Nat} {a w : World} (h : Below B a w) {b : Nat} (hb : B ≤ b) (x y z : Value) : Below B a (((w.setCell ⟨b, 0, none⟩ x).setCell ⟨b, 1, none⟩ y).setCell ⟨b, 2, none⟩ z) :=
  ((h.setCell (p := ⟨b, 0, none⟩) hb _).setCell (p := ⟨b, 1, none⟩) hb _).setCell (p := ⟨b, 2, none⟩) hb _

theorem conv_one {P : Program} (w : World) (x : Int) (b : UInt8) (hx : (b.toNat : Int) = x) {src dst e : TypeId} (hs : P.underlying src = some (.slice e)) (he : P.underlying e = some (.int .u8)) (hd : P.underlying dst = some .string) :
    (convert src dst (.slice (some ⟨w.heap.size, 0, none⟩) 1 1)).run P (w.alloc (.cells #[.int .u8 x] e)) = .ok (.string ⟨#[b]⟩) (w.alloc (.cells #[.int .u8 x] e)) := by
  refine run_convert_bytes_back (w.alloc (.cells #[.int .u8 x] e)) src dst e ⟨w.heap.size, 0, none⟩ 1 [b] hs he hd fun j hj => ?_
  obtain rfl : j = 0 := by simpa using hj
  simp [go_sem, hx]
theorem app3 (a b c : List UInt8) : (ByteArray.mk a.toArray ++ ByteArray.mk b.toArray ++ ByteArray.mk c.toArray : ByteArray) = ⟨(a ++ b ++ c).toArray⟩ := by
  rw [ByteArray.mk_append_mk, ByteArray.mk_append_mk]
theorem ret_str {a b : List UInt8} (h : a = b) : Ending.returned (.string ⟨a.toArray⟩) = .returned (.string ⟨b.toArray⟩) := by rw [h]
theorem drew_below (w : World) : Below w.heap.size w w.drew := (Below.refl _ w).drew
theorem Gr.draw1 (w : World) : ∃ g' : Gr w, { w.drew with drawn := w.drew.drawn + 1 } = g'.val := ⟨⟨_, (drew_below w).drew⟩, rfl⟩
theorem Gr.onD {w : World} (g : Gr w) {w' : World} (h : Below g.val.drew.heap.size g.val.drew w') : ∃ g' : Gr w, w' = g'.val := g.on ((drew_below g.val).trans h)
theorem Gr.onA {w : World} (g : Gr w) {o : Obj} {w' : World} (h : Below (g.val.alloc o).heap.size (g.val.alloc o) w') : ∃ g' : Gr w, w' = g'.val :=
  g.on (((Below.refl _ g.val).alloc (Nat.le_refl _) o).trans (h.mono (by simp)))
end Go.Proofs.Ytdpgmhjhmccfnaa
