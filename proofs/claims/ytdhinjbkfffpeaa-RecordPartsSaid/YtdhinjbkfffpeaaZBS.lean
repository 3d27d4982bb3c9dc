import Derived.Test.YtdhinjbkfffpeaaZMB
import Derived.ProofKit
import Derived.OpenShut
import Derived.ChangeSlices
import Derived.Deep.Matrix
import Derived.Lib.SmallJoins
/- Rows of rows of bytes that came in. -/
section
namespace Go.Proofs.Ytdhinjbkfffpeaa
open Go.ChangeShapes Go.WideShapes Go.ChangeAt Go.RowKit Go.Joins
def BsAt (w : World) (A : Option Addr) (ls : List (List UInt8)) : Prop :=
  0 < ls.length → ∃ b off, A = some ⟨b, off, none⟩ ∧ b < w.heap.size ∧ ∀ i l, ls[i]? = some l → ∃ Ai ci, w.cell? ⟨b, off + i, none⟩ = some (.slice Ai l.length ci) ∧ l.length ≤ ci ∧ ci ≤ maxLen ∧ (Ai = none → ci = 0) ∧ BAt w Ai l
theorem BsAt.below {w w' : World} {A : Option Addr} {ls : List (List UInt8)} (h : BsAt w A ls) (hb : Below w.heap.size w w') : BsAt w' A ls := by
  intro hn
  obtain ⟨b, off, e, hlt, hc⟩ := h hn
  refine ⟨b, off, e, Nat.lt_of_lt_of_le hlt hb.size, fun i l hi => ?_⟩
  obtain ⟨Ai, ci, h1, h2, h3, h4, h5⟩ := hc i l hi
  exact ⟨Ai, ci, cell_old h1 hb, h2, h3, h4, h5.below hb (Nat.le_refl _)⟩
theorem BsAt.at_ {w : World} {A : Option Addr} {ls : List (List UInt8)} (h : BsAt w A ls) {i : Nat} {l : List UInt8} (hi : ls[i]? = some l) :
    ∃ b off Ai ci, A = some ⟨b, off, none⟩ ∧ w.cell? ⟨b, off + i, none⟩ = some (.slice Ai l.length ci) ∧ l.length ≤ ci ∧ ci ≤ maxLen ∧ (Ai = none → ci = 0) ∧ BAt w Ai l := by
  have := (List.getElem?_eq_some_iff.1 hi).1
  obtain ⟨b, off, e, hlt, hc⟩ := h (by omega)
  obtain ⟨Ai, ci, h1, h2, h3, h4, h5⟩ := hc i l hi
  exact ⟨b, off, Ai, ci, e, h1, h2, h3, h4, h5⟩
theorem open_bytes2 {H : Type} {enc : TypeId × Value → H} {P : Program} {W : World} {base b0 : Nat} {spare : Nat → Bool} {held : Bool} {r : Reach} {t e : TypeId} {v : Value} {d : DataW H} {p : List MemPlace}
    (ht : P.underlying t = some (.slice e)) (he : P.underlying e = some (.int .u8)) (hce : P.cellsOf e = 1)
    (hv : Value.okWide P W r b0 t v) (h : DataW.Trod enc P W base spare held t v d p) :
    ∃ (A : Option Addr) (c : Nat) (l : List UInt8), v = .slice A l.length c ∧ l.length ≤ c ∧ c ≤ maxLen ∧ (A = none → c = 0) ∧ BAt W A l := by
  obtain ⟨a1, len, cap, rfl⟩ := okWide_slice ht hv
  obtain ⟨fuel, hf⟩ := h
  rcases open_ints ht he hce hf with ⟨hcs, hx⟩ | ⟨a, len', cap', zs, hcs, _, hl, hm, hz, hx, hcell, hwz⟩
  · simp [Value.cells] at hcs
    obtain ⟨rfl, rfl, rfl⟩ := hcs
    exact ⟨none, 0, [], rfl, Nat.zero_le _, Nat.zero_le _, fun _ => rfl, BAt.nil _ _⟩
  · simp [Value.cells] at hcs
    obtain ⟨rfl, rfl, rfl⟩ := hcs
    have hlz : len ≤ zs.length := by rw [hz]; split <;> omega
    have hlen : ((zs.take len).map fun n => UInt8.ofNat n.toNat).length = len := by simp; omega
    refine ⟨some a, cap, (zs.take len).map fun n => UInt8.ofNat n.toNat, by rw [hlen], by rw [hlen]; omega, hm, fun h => by (cases h), fun hn => ?_⟩
    rw [hlen] at hn
    obtain ⟨ab, ao, spot⟩ := a
    have q0 := hcell 0 (by omega)
    have hspot : spot = none := by simpa [Addr.add] using World.cell?_spot q0
    subst hspot
    refine ⟨ab, ao, rfl, by have := World.block_lt_of_cell? _ _ q0; simpa [Addr.add] using this, fun i c hi => ?_⟩
    have hil : i < len := by rw [← hlen]; exact (List.getElem?_eq_some_iff.1 hi).1
    have hcj := hcell i (by omega)
    rw [Addr.add_lit] at hcj
    rw [hcj]
    have hb := range_u8 hwz i
    have e0 : zs.getD i 0 = zs[i]'(by omega) := by simp [List.getD, List.getElem?_eq_getElem (show i < zs.length by omega)]
    rw [List.getElem?_eq_getElem (by rw [hlen]; exact hil)] at hi
    simp only [List.getElem_map, List.getElem_take, Option.some.injEq] at hi
    rw [← hi]
    rw [List.getD_eq_getElem?_getD] at e0
    rw [e0] at hb
    rw [List.getD_eq_getElem?_getD, e0]
    congr 2
    simp only [UInt8.toNat_ofNat']
    omega
end Go.Proofs.Ytdhinjbkfffpeaa
end
