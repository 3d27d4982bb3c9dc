/- Slices of bytes: what stands in them, as a list; they stay in worlds that grow. -/
import Derived.Test.YtdpgmhjhmccfnaaKit3
namespace Go.Proofs.Ytdpgmhjhmccfnaa
open Go.ChangeShapes Go.WideShapes Go.ChangeAt Go.RowKit

/-- A slice that begins at A holds these bytes. -/
def BAt (w : World) (A : Option Addr) (l : List UInt8) : Prop :=
  0 < l.length → ∃ b off, A = some ⟨b, off, none⟩ ∧ b < w.heap.size ∧ ∀ i c, l[i]? = some c → w.cell? ⟨b, off + i, none⟩ = some (.int .u8 (c.toNat : Int))
theorem BAt.nil (w : World) (A : Option Addr) : BAt w A [] := fun h => absurd h (by simp)
theorem BAt.below {w w' : World} {A : Option Addr} {l : List UInt8} {B : Nat} (h : BAt w A l) (hb : Below B w w') (hB : w.heap.size ≤ B) : BAt w' A l := by
  intro hn
  obtain ⟨b, off, e, hlt, hc⟩ := h hn
  refine ⟨b, off, e, Nat.lt_of_lt_of_le hlt hb.size, fun i c hi => ?_⟩
  rw [hb.cell (p := ⟨b, off + i, none⟩) (show b < B by omega)]
  exact hc i c hi
theorem BAt.gr {w : World} {A : Option Addr} {l : List UInt8} (h : BAt w A l) (g : Gr w) : BAt g.val A l := h.below g.ok (Nat.le_refl _)
theorem BAt.at_ {w : World} {A : Option Addr} {l : List UInt8} (h : BAt w A l) {i : Nat} (hi : i < l.length) :
    ∃ b off, A = some ⟨b, off, none⟩ ∧ b < w.heap.size ∧ w.cell? ⟨b, off + i, none⟩ = some (.int .u8 (l[i].toNat : Int)) := by
  obtain ⟨b, off, e, hlt, hc⟩ := h (by omega)
  exact ⟨b, off, e, hlt, hc i _ (List.getElem?_eq_getElem hi)⟩
theorem BAt.take {w : World} {A : Option Addr} {l : List UInt8} (h : BAt w A l) (k : Nat) : BAt w A (l.take k) := by
  intro hn
  have hl : 0 < l.length := by simp at hn; omega
  obtain ⟨b, off, e, hlt, hc⟩ := h hl
  refine ⟨b, off, e, hlt, fun i c hi => hc i c ?_⟩
  rw [List.getElem?_take] at hi
  split at hi
  · exact hi
  · cases hi
theorem BAt.drop {w : World} {b off : Nat} {l : List UInt8} (h : BAt w (some ⟨b, off, none⟩) l) (k : Nat) : BAt w (some ⟨b, off + k, none⟩) (l.drop k) := by
  intro hn
  have hl : 0 < l.length := by simp at hn; omega
  obtain ⟨b', off', e, hlt, hc⟩ := h hl
  obtain ⟨rfl, rfl⟩ : b = b' ∧ off = off' := by simpa using e
  refine ⟨b, off + k, rfl, hlt, fun i c hi => ?_⟩
  rw [Nat.add_assoc]
  exact hc (k + i) c (by rw [List.getElem?_drop] at hi; exact hi)
theorem BAt.conv {P : Program} {w : World} {A : Option Addr} {l : List UInt8} (h : BAt w A l) (c : Nat) {src dst e : TypeId} (hs : P.underlying src = some (.slice e)) (he : P.underlying e = some (.int .u8)) (hd : P.underlying dst = some .string) :
    (convert src dst (.slice A l.length c)).run P w = .ok (.string ⟨l.toArray⟩) w := by
  by_cases hn : 0 < l.length
  · obtain ⟨b, off, rfl, hlt, hc⟩ := h hn
    exact run_convert_bytes_back w src dst e ⟨b, off, none⟩ c l hs he hd fun j hj => by
      rw [show (⟨b, off, none⟩ : Addr).add j = ⟨b, off + j, none⟩ by unfold Addr.add; split <;> simp_all]
      exact hc j _ (List.getElem?_eq_getElem hj)
  · obtain rfl : l = [] := List.eq_nil_of_length_eq_zero (by omega)
    cases A with
    | none =>
      rw [run_convert_bytes_string w src dst e _ _ c hs he hd]
      simp [Conv.bytesToString]
      rfl
    | some a => exact run_convert_bytes_back w src dst e a c [] hs he hd fun j hj => absurd hj (by simp)
/-- A slice cut in two. -/
theorem BAt.cut {P : Program} {W : World} {A : Option Addr} {l : List UInt8} (h : BAt W A l) {ca k : Nat} (hk : k ≤ l.length) (hl : l.length ≤ ca) {t : TypeId} (ht : P.underlying t = some (.slice (P.elem t))) (hs : ∀ w' : World, (sizeOf (P.elem t)).run P w' = .ok 1 w') :
    ∃ A1 A2 : Option Addr, (∀ w' : World, (Instr.sliceAt t (.slice A l.length ca) none (some (.int .i64 k)) none).run P w' = .ok (.slice A1 k ca) w') ∧
      (∀ w' : World, (Instr.sliceAt t (.slice A l.length ca) (some (.int .i64 k)) none none).run P w' = .ok (.slice A2 (l.length - k) (ca - k)) w') ∧ BAt W A1 (l.take k) ∧ BAt W A2 (l.drop k) := by
  refine ⟨if ca = 0 then A else A.map (·.add (0 * 1)), if ca = k then A else A.map (·.add (k * 1)), fun w' => ?_, fun w' => ?_, ?_, ?_⟩
  · rw [run_sliceAt_slice w' t _ _ _ _ ht, run_slice_h w' t A l.length ca ht .i64 k (by omega) (by omega), hs]
    simp [Result.andThen, sliced]
  · rw [run_sliceAt_slice w' t _ _ _ _ ht, run_slice_l w' t A l.length ca ht .i64 k (by omega) (by omega), hs]
    simp [Result.andThen, sliced]
  · intro hn
    have hk0 : 0 < k := by simp at hn; omega
    obtain ⟨b, off, rfl, hlt, hc⟩ := h (by omega)
    refine ⟨b, off, by rw [if_neg (by omega)]; simp [Addr.add], hlt, fun i c hi => hc i c ?_⟩
    rw [List.getElem?_take] at hi
    split at hi
    · exact hi
    · cases hi
  · intro hn
    have hk0 : k < l.length := by simp at hn; omega
    obtain ⟨b, off, rfl, hlt, hc⟩ := h (by omega)
    refine ⟨b, off + k, by rw [if_neg (by omega)]; unfold Addr.add; by_cases h0 : k = 0 <;> simp [h0], hlt, fun i c hi => ?_⟩
    rw [Nat.add_assoc]
    exact hc (k + i) c (by rw [List.getElem?_drop] at hi; exact hi)
/-- Bytes as cells. -/
def bcells (l : List UInt8) : Array Value := (l.map (fun c => Value.int .u8 (c.toNat : Int))).toArray
theorem BAt.new (w : World) (l : List UInt8) (t : TypeId) (fr : Nat × Nat) : BAt (w.alloc (.cells (bcells l) t fr)) (some ⟨w.heap.size, 0, none⟩) l := by
  intro _
  refine ⟨_, _, rfl, by simp, fun i c hi => ?_⟩
  rw [World.cell?_alloc_mark]
  simp [bcells, hi]
end Go.Proofs.Ytdpgmhjhmccfnaa
