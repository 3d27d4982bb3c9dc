/- A zone that came in, opened: its numbers, its turns. -/
import Derived.Test.YtkfmigpdmolmaaaZW3
import Derived.ProofKit
import Derived.OpenShut
import Derived.Lib.SmallJoins
import Derived.Deep.SlicePairs
namespace Go.Proofs.Ytkfmigpdmolmaaa
open Go.ChangeShapes Go.WideShapes Go.ChangeAt Go.RowKit Go.Joins Go.Deep Zn

set_option maxRecDepth 100000 in
theorem open_zone {H : Type} {enc : TypeId × Value → H} {W : World} {base b0 : Nat} {spare : Nat → Bool} {held : Bool} {r : Reach} {v : Value} {d : DataW H} {p : List MemPlace}
    (hv : Value.okWide Try.prog W r b0 24 v) (h : DataW.Trod enc Try.prog W base spare held 24 v d p) :
    ∃ (A : Option Addr) (c : Nat) (z : Z), v = .agg #[.int .i64 z.base, .slice A z.n c] ∧ ZWf z ∧ ZAt W A z := by
  obtain ⟨c0, c1, y0, y1, m, rfl, _, _, h0, h1⟩ := open_agg2 Try.underlying24 (by kernel_rfl) (by kernel_rfl) hv h
  obtain ⟨a0, e0, _, w0⟩ := DataW.trod_int Try.underlying3 h0
  simp at e0
  subst e0
  rcases open_slice_pairs Try.underlying22 Try.underlying59 (by kernel_rfl) (by kernel_rfl) (by kernel_rfl) (by kernel_rfl) (by kernel_rfl) h1 with ⟨e1, _⟩ | ⟨a, len, cap, m2, n2, V0, V1, D0, D1, P0, P1, e1, _, hl, hc, hm, _, hx⟩
  · simp at e1
    subst e1
    exact ⟨none, 0, ⟨a0, 0, fun _ => 0, fun _ => 0⟩, rfl, ⟨bounds_i64 w0, by show 0 ≤ _; omega, fun i hi => absurd hi (Nat.not_lt_zero _)⟩, fun hi => absurd hi (Nat.lt_irrefl _)⟩
  · simp at e1
    subst e1
    have hlm : len ≤ m2 := by rw [hm]; split <;> omega
    unfold maxLen at hc
    have each : ∀ i, i < len → (V0 i = .int .i64 (intOf (V0 i)) ∧ (Lit.int .i64 (intOf (V0 i))).wf = true) ∧ (V1 i = .int .i64 (intOf (V1 i)) ∧ (Lit.int .i64 (intOf (V1 i))).wf = true) := by
      intro i hi
      obtain ⟨_, _, g0, g1⟩ := hx i (by omega)
      obtain ⟨x0, f0, _, k0⟩ := DataW.trod_int Try.underlying2 g0
      obtain ⟨x1, f1, _, k1⟩ := DataW.trod_int Try.underlying3 g1
      simp at f0 f1
      rw [f0, f1]
      exact ⟨⟨rfl, k0⟩, ⟨rfl, k1⟩⟩
    refine ⟨some a, cap, ⟨a0, len, fun i => intOf (V0 i), fun i => intOf (V1 i)⟩, rfl, ⟨bounds_i64 w0, by show len ≤ _; omega, fun i hi => ⟨bounds_i64 (each i hi).1.2, bounds_i64 (each i hi).2.2⟩⟩, fun hi => ?_⟩
    have hi' : 0 < len := hi
    obtain ⟨b, off, spot⟩ := a
    have q0 := (hx 0 (by omega)).1
    have hspot : spot = none := by simpa [Addr.add] using World.cell?_spot q0
    subst hspot
    refine ⟨b, off, rfl, by have := World.block_lt_of_cell? _ _ q0; simpa [Addr.add] using this, fun i hi => ?_⟩
    have hi' : i < len := hi
    obtain ⟨q1, q2, _, _⟩ := hx i (by omega)
    obtain ⟨⟨r1, _⟩, ⟨r2, _⟩⟩ := each i hi'
    rw [add_plain] at q1 q2
    exact ⟨by rw [q1]; exact congrArg some r1, by rw [Nat.add_assoc, q2]; exact congrArg some r2⟩
end Go.Proofs.Ytkfmigpdmolmaaa
