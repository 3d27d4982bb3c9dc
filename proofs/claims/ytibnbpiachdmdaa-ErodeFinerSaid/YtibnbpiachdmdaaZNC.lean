import Derived.Test.YtibnbpiachdmdaaZNB
import Derived.Test.YtibnbpiachdmdaaZNA
import Derived.Test.YtibnbpiachdmdaaZMB
import Derived.Deep.RegionHeld3
import Derived.Deep.QuietTactic
import Derived.BigQuiet
/- Contracts of the document's streams: lower, higher; gaps; what is behind a minute. -/
section
namespace Go.Proofs.Ytibnbpiachdmdaa
open Go.ChangeShapes Go.WideShapes Go.ChangeAt Go.RowKit Go.Joins Sp
end Go.Proofs.Ytibnbpiachdmdaa
end
/- Contracts of the document's streams: unions of rows, what rows have in common. -/
section
namespace Go.Proofs.Ytibnbpiachdmdaa
open Go.ChangeShapes Go.WideShapes Go.ChangeAt Go.RowKit Go.Joins Sp
/-- A slice of rows of spans that begins at A. -/
def SsAt (w : World) (A : Option Addr) (ls : List (List Spn)) : Prop :=
  0 < ls.length → ∃ b off, A = some ⟨b, off, none⟩ ∧ b < w.heap.size ∧ ∀ i l, ls[i]? = some l → ∃ Ai ci, w.cell? ⟨b, off + i, none⟩ = some (.slice Ai l.length ci) ∧ Sl w Ai l.length ci (sv l)
theorem SsAt.below {w w' : World} {A : Option Addr} {ls : List (List Spn)} (h : SsAt w A ls) (hb : Below w.heap.size w w') : SsAt w' A ls := by
  intro hn
  obtain ⟨b, off, e, hlt, hc⟩ := h hn
  refine ⟨b, off, e, Nat.lt_of_lt_of_le hlt hb.size, fun i l hi => ?_⟩
  obtain ⟨Ai, ci, h1, h2⟩ := hc i l hi
  exact ⟨Ai, ci, cell_old h1 hb, h2.below hb (Nat.le_refl _)⟩
theorem SsAt.at_ {w : World} {A : Option Addr} {ls : List (List Spn)} (h : SsAt w A ls) {i : Nat} {l : List Spn} (hi : ls[i]? = some l) :
    ∃ b off Ai ci, A = some ⟨b, off, none⟩ ∧ w.cell? ⟨b, off + i, none⟩ = some (.slice Ai l.length ci) ∧ Sl w Ai l.length ci (sv l) := by
  have := (List.getElem?_eq_some_iff.1 hi).1
  obtain ⟨b, off, e, hlt, hc⟩ := h (by omega)
  obtain ⟨Ai, ci, h1, h2⟩ := hc i l hi
  exact ⟨b, off, Ai, ci, e, h1, h2⟩
end Go.Proofs.Ytibnbpiachdmdaa
end
/- Contracts of the document's streams: rows grown; starts. -/
section
namespace Go.Proofs.Ytibnbpiachdmdaa
open Go.ChangeShapes Go.WideShapes Go.ChangeAt Go.RowKit Go.Joins Sp
end Go.Proofs.Ytibnbpiachdmdaa
end
