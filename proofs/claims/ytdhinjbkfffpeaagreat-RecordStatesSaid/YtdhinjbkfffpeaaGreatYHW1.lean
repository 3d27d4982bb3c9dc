import Derived.Test.YtdhinjbkfffpeaaGreatRows
import Derived.Test.YtdhinjbkfffpeaaGreatYMB
import Derived.Test.YtdhinjbkfffpeaaGreatYMA
import Derived.BigQuiet
import Derived.Deep.QuietTactic
/- Hours in memory; contract: may hours be, the document's. -/
section
namespace Go.Proofs.YtdhinjbkfffpeaaGreat
open Go.ChangeShapes Go.WideShapes Go.ChangeAt Go.RowKit Hr
def tv : List (Int × Int × Int) → List Value
  | [] => []
  | s :: r => .int .i64 s.1 :: .int .i64 s.2.1 :: .int .i64 s.2.2 :: tv r
theorem tv_at : ∀ {l : List (Int × Int × Int)} {i : Nat} {s : Int × Int × Int}, l[i]? = some s → (tv l)[i * 3]? = some (.int .i64 s.1) ∧ (tv l)[i * 3 + 1]? = some (.int .i64 s.2.1) ∧ (tv l)[i * 3 + 2]? = some (.int .i64 s.2.2)
  | x :: r, 0, s, h => by obtain rfl : x = s := by simpa using h
                          exact ⟨rfl, rfl, rfl⟩
  | x :: r, i + 1, s, h => by
    have ih := tv_at (l := r) (i := i) (s := s) (by simpa using h)
    rw [show (i + 1) * 3 = i * 3 + 1 + 1 + 1 by omega]
    exact ⟨by simpa [tv] using ih.1, by simpa [tv] using ih.2.1, by simpa [tv] using ih.2.2⟩
theorem Sl.shift {w : World} {A : Option Addr} {n c : Nat} {l : List (Int × Int × Int)} (h : Sl w A n c (tv l)) {i : Nat} {s : Int × Int × Int} (hi : l[i]? = some s) :
    ∃ b off, A = some ⟨b, off, none⟩ ∧ b < w.heap.size ∧ w.cell? ⟨b, off + i * 3, none⟩ = some (.int .i64 s.1) ∧ w.cell? ⟨b, off + i * 3 + 1, none⟩ = some (.int .i64 s.2.1) ∧ w.cell? ⟨b, off + i * 3 + 2, none⟩ = some (.int .i64 s.2.2) := by
  obtain ⟨h1, h2, h3⟩ := tv_at hi
  have hl := (List.getElem?_eq_some_iff.1 h1).1
  obtain ⟨b, off, e, hlt, hc⟩ := h.on (by omega)
  exact ⟨b, off, e, hlt, hc _ _ h1, by rw [Nat.add_assoc]; exact hc _ _ h2, by rw [Nat.add_assoc]; exact hc _ _ h3⟩
structure HAt (w : World) (h : H) (A1 A2 : Option Addr) (c1 c2 : Nat) : Prop where
  s1 : Sl w A1 h.shifts.length c1 (tv h.shifts)
  s2 : Sl w A2 h.off.length c2 (iv h.off)
theorem HAt.below {w w' : World} {h : H} {A1 A2 : Option Addr} {c1 c2 : Nat} (k : HAt w h A1 A2 c1 c2) (hb : Below w.heap.size w w') : HAt w' h A1 A2 c1 c2 := ⟨k.s1.below hb (Nat.le_refl _), k.s2.below hb (Nat.le_refl _)⟩
end Go.Proofs.YtdhinjbkfffpeaaGreat
end
