/- Hours, and a shift, that came in, opened. -/
import Derived.Test.YtkfmigpdmolmaaaOS
namespace Go.Proofs.Ytkfmigpdmolmaaa
open Go.ChangeShapes Go.WideShapes Go.ChangeAt Go.RowKit Go.Joins Go.Deep

set_option maxRecDepth 100000 in
theorem open_hours {K : Type} {enc : TypeId × Value → K} {W : World} {base b0 : Nat} {spare : Nat → Bool} {held : Bool} {r : Reach} {v : Value} {d : DataW K} {p : List MemPlace}
    (hv : Value.okWide Try.prog W r b0 28 v) (h : DataW.Trod enc Try.prog W base spare held 28 v d p) :
    ∃ (h : Hr.H) (A1 A2 : Option Addr) (c1 c2 : Nat), v = .agg #[.slice A1 h.shifts.length c1, .slice A2 h.off.length c2] ∧ HAt W h A1 A2 c1 c2 := by
  obtain ⟨x0, x1, y0, y1, m, rfl, _, _, h0, h1⟩ := open_agg2 Try.underlying28 (by kernel_rfl) (by kernel_rfl) hv h
  obtain ⟨A1, c1, l1, rfl, s1⟩ := tripsSl Try.underlying25 Try.underlying44 (by kernel_rfl) (by kernel_rfl) Try.underlying3 Try.underlying3 Try.underlying3 h0
  obtain ⟨A2, c2, l2, rfl, s2⟩ := intsSl Try.underlying26 Try.underlying3 (by kernel_rfl) h1
  exact ⟨⟨l1, l2⟩, A1, A2, c1, c2, rfl, ⟨s1, s2⟩⟩
theorem open_shift {K : Type} {enc : TypeId × Value → K} {W : World} {base b0 : Nat} {spare : Nat → Bool} {held : Bool} {r : Reach} {v : Value} {d : DataW K} {p : List MemPlace}
    (hv : Value.okWide Try.prog W r b0 44 v) (h : DataW.Trod enc Try.prog W base spare held 44 v d p) :
    ∃ x1 x2 x3 : Int, v = .agg #[.int .i64 x1, .int .i64 x2, .int .i64 x3] := by
  obtain ⟨c0, c1, c2, y0, y1, y2, m, rfl, _, _, h0, h1, h2⟩ := open_agg3 Try.underlying44 (by kernel_rfl) (by kernel_rfl) hv h
  obtain ⟨a0, f0, _, w0⟩ := DataW.trod_int Try.underlying3 h0
  obtain ⟨a1, f1, _, w1⟩ := DataW.trod_int Try.underlying3 h1
  obtain ⟨a2, f2, _, w2⟩ := DataW.trod_int Try.underlying3 h2
  simp at f0 f1 f2
  subst f0 f1 f2
  exact ⟨a0, a1, a2, rfl⟩
end Go.Proofs.Ytkfmigpdmolmaaa
