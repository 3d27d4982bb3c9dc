/- A world in which nothing has turned of what lay there, but blocks of a set: the frame of calls that write into objects. -/
import Derived.Test.YtdpgmhjhmccfnaaRK
import Derived.Test.YtdpgmhjhmccfnaaBK
import Derived.Laws.OwnMore
namespace Go.Proofs.Ytdpgmhjhmccfnaa
open Go.ChangeShapes Go.WideShapes Go.ChangeAt Go.RowKit

structure Off (F : Nat → Prop) (w w' : World) : Prop where
  os : w'.os = w.os
  tape : w'.tape = w.tape
  output : w'.output = w.output
  size : w.heap.size ≤ w'.heap.size
  block : ∀ k, k < w.heap.size → ¬ F k → w'.heap[k]? = w.heap[k]?
section
variable {F G : Nat → Prop} {w w1 w2 w' : World}
theorem Off.refl (F : Nat → Prop) (w : World) : Off F w w := ⟨rfl, rfl, rfl, Nat.le_refl _, fun _ _ _ => rfl⟩
theorem Off.trans (h : Off F w w1) (k : Off G w1 w2) (hG : ∀ b, G b → F b ∨ w.heap.size ≤ b) : Off F w w2 :=
  ⟨k.os.trans h.os, k.tape.trans h.tape, k.output.trans h.output, Nat.le_trans h.size k.size, fun b hb hF =>
    (k.block b (Nat.lt_of_lt_of_le hb h.size) (fun hg => (hG b hg).elim hF (by omega))).trans (h.block b hb hF)⟩
theorem Off.trans' (h : Off F w w1) (k : Off F w1 w2) : Off F w w2 := h.trans k fun _ hb => .inl hb
theorem Off.mono (h : Off F w w') (hG : ∀ b, b < w.heap.size → F b → G b) : Off G w w' := ⟨h.os, h.tape, h.output, h.size, fun b hb hg => h.block b hb fun hf => hg (hG b hb hf)⟩
theorem Off.of_below (h : Below w.heap.size w w') : Off F w w' := ⟨h.os, h.tape, h.output, h.size, fun b hb _ => h.block b hb⟩
theorem Off.toBelow {B : Nat} (h : Off F w w') (hB : B ≤ w.heap.size) (hF : ∀ b, F b → B ≤ b) : Below B w w' :=
  ⟨h.os, h.tape, h.output, h.size, fun b hb => h.block b (by omega) fun hf => by have := hF b hf; omega⟩
theorem Off.of_grown {row : Option Nat} (h : w.grownBy w' row) (hr : ∀ k, row = some k → F k) : Off F w w' :=
  ⟨h.os, h.tape, h.output, h.size, fun b hb hf => h.block b hb fun e => hf (hr b e.symm)⟩
theorem Off.alloc (h : Off F w w') (o : Obj) : Off F w (w'.alloc o) := h.trans (.of_below ((Below.refl _ w').alloc (Nat.le_refl _) o)) (G := F) fun _ hb => .inl hb
theorem Off.drew (h : Off F w w') : Off F w w'.drew := ⟨h.os, h.tape, h.output, h.size, h.block⟩
theorem Off.setCell (h : Off F w w') {b i : Nat} {s} (hb : F b ∨ w.heap.size ≤ b) (u : Value) : Off F w (w'.setCell ⟨b, i, s⟩ u) := by
  refine ⟨h.os, h.tape, h.output, by simpa [World.setCell] using h.size, fun k hk hf => ?_⟩
  rw [Below.heap_setCell _ _ _ _ (show k ≠ b from fun e => by subst e; exact hb.elim hf (by omega))]
  exact h.block k hk hf
theorem Off.cell (h : Off F w w') {b i : Nat} {v : Value} (hc : w.cell? ⟨b, i, none⟩ = some v) (hb : ¬ F b) : w'.cell? ⟨b, i, none⟩ = some v := by
  rw [World.cell?_of_block (h.block b (World.block_lt_of_cell? _ _ hc) hb)]; exact hc
theorem Off.heap (h : Off F w w') {b : Nat} {o : Obj} (hc : w.heap[b]? = some o) (hb : ¬ F b) : w'.heap[b]? = some o := by
  rw [h.block b (Array.getElem?_eq_some_iff.1 hc).1 hb]; exact hc

theorem heap_lt {w : World} {b : Nat} {o : Obj} (h : w.heap[b]? = some o) : b < w.heap.size := (Array.getElem?_eq_some_iff.1 h).1

/-- Bytes whose block lies in a set. -/
def BIn (K : Nat → Prop) (w : World) (A : Option Addr) (l : List UInt8) : Prop := BAt w A l ∧ (0 < l.length → ∀ a, A = some a → K a.block)
theorem BAt.off {A : Option Addr} {l : List UInt8} (h : BAt w A l) (ho : Off F w w') (hA : 0 < l.length → ∀ a, A = some a → ¬ F a.block) : BAt w' A l := by
  intro hn
  obtain ⟨b, off, rfl, hlt, hc⟩ := h hn
  exact ⟨b, off, rfl, Nat.lt_of_lt_of_le hlt ho.size, fun i c hi => ho.cell (hc i c hi) (hA hn _ rfl)⟩
theorem BIn.off {K : Nat → Prop} {A : Option Addr} {l : List UInt8} (h : BIn K w A l) (ho : Off F w w') (hK : ∀ b, K b → ¬ F b) : BIn K w' A l :=
  ⟨h.1.off ho fun hn a ha => hK _ (h.2 hn a ha), h.2⟩
theorem BIn.mono {K K' : Nat → Prop} {A : Option Addr} {l : List UInt8} (h : BIn K w A l) (hK : ∀ b, b < w.heap.size → K b → K' b) : BIn K' w A l :=
  ⟨h.1, fun hn a ha => by
    obtain ⟨b, off, rfl, hlt, _⟩ := h.1 hn
    obtain rfl := Option.some.inj ha
    exact hK _ hlt (h.2 hn _ rfl)⟩
theorem BIn.take {K : Nat → Prop} {A : Option Addr} {l : List UInt8} (h : BIn K w A l) (k : Nat) : BIn K w A (l.take k) :=
  ⟨h.1.take k, fun hn => h.2 (by simp at hn; omega)⟩

theorem own_off {base size n : Nat} {e : TypeId} {v : Value} {xs : List Value} (h : w.ownsRow base e size v n xs) (ho : Off F w w') (hv : ∀ k, v.ownBlock = some k → ¬ F k) : w'.ownsRow base e size v n xs := by
  refine ⟨h.1, ?_⟩
  rcases h.2 with hn | ⟨g, cap, cur, rfl, hb, hgg, rest⟩
  · exact .inl hn
  · exact .inr ⟨g, cap, cur, rfl, hb, ho.heap hgg (hv g rfl), rest⟩
theorem ownsRow_base {base base' size n : Nat} {e : TypeId} {v : Value} {xs : List Value} (h : w.ownsRow base e size v n xs) (hb : ∀ k, v.ownBlock = some k → base' ≤ k) : w.ownsRow base' e size v n xs := by
  refine ⟨h.1, ?_⟩
  rcases h.2 with hn | ⟨g, cap, cur, rfl, _, rest⟩
  · exact .inl hn
  · exact .inr ⟨g, cap, cur, rfl, hb g rfl, rest⟩
end
/-- Bytes as cells. -/
def bl (l : List UInt8) : List Value := l.map fun c => Value.int .u8 (c.toNat : Int)
theorem bl_len (l : List UInt8) : (bl l).length = l.length := by simp [bl]
theorem bl_at {l : List UInt8} {i : Nat} {c : UInt8} (h : l[i]? = some c) : (bl l)[i]? = some (.int .u8 (c.toNat : Int)) := by simp [bl, h]
theorem bl_app (a b : List UInt8) : bl (a ++ b) = bl a ++ bl b := by simp [bl]
theorem bl_take (a : List UInt8) (k : Nat) : bl (a.take k) = (bl a).take k := by simp [bl, List.map_take]
theorem bl_drop (a : List UInt8) (k : Nat) : bl (a.drop k) = (bl a).drop k := by simp [bl, List.map_drop]
theorem bl_one (l : List UInt8) : ∀ u ∈ bl l, u.oneCell' = true := by
  intro u hu
  obtain ⟨c, _, rfl⟩ := List.mem_map.1 hu
  simp [Value.oneCell']
theorem BAt.of_own {w : World} {base : Nat} {e : TypeId} {v : Value} {l : List UInt8} (h : w.ownsRow base e 1 v l.length (bl l)) :
    ∃ A c, v = .slice A l.length c ∧ l.length ≤ c ∧ c ≤ maxLen ∧ BAt w A l ∧ (A = none → c = 0) ∧ (∀ a, A = some a → a.off = 0 ∧ a.spot = none) := by
  rcases h.2 with ⟨rfl, h0⟩ | ⟨g, cap, cur, rfl, hb, hg, hn, hm, hs, ht⟩
  · obtain rfl : l = [] := List.eq_nil_of_length_eq_zero h0
    exact ⟨none, 0, rfl, Nat.le_refl _, Nat.zero_le _, BAt.nil _ _, fun _ => rfl, fun a h => by cases h⟩
  · refine ⟨_, cap, rfl, hn, hm, fun _ => ⟨g, 0, rfl, heap_lt hg, fun i c hi => ?_⟩, fun h => by (cases h), fun a h => by obtain rfl := Option.some.inj h; exact ⟨rfl, rfl⟩⟩
    have := h.cells (g := g) rfl i _ (bl_at hi)
    rw [show (⟨g, 0, none⟩ : Addr).add i = ⟨g, 0 + i, none⟩ by unfold Addr.add; split <;> simp_all] at this
    exact this
end Go.Proofs.Ytdpgmhjhmccfnaa
