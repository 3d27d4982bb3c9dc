import Derived.Test.YtdhinjbkfffpeaaZON
/- Contracts of the program's records: whether polls, replies are the same. -/
section
namespace Go.Proofs.Ytdhinjbkfffpeaa
open Go.ChangeShapes Go.WideShapes Go.ChangeAt Go.RowKit Go.Joins Sp Qr
theorem Pl.sameP_iff (i0 o0 : Nat) (q0 : Qy) (s0 : List Int) (v0 : List (Nat × Int)) (u0 t0 w0 : Int) (i1 o1 : Nat) (q1 : Qy) (s1 : List Int) (v1 : List (Nat × Int)) (u1_ t1 w1 : Int) :
  (⟨i0, o0, q0, s0, v0, u0, t0, w0⟩ : Pl) = ⟨i1, o1, q1, s1, v1, u1_, t1, w1⟩ ↔ i0 = i1 ∧ o0 = o1 ∧ u0 = u1_ ∧ t0 = t1 ∧ w0 = w1 ∧ q0 = q1 ∧ s0 = s1 ∧ v0 = v1 := by
 constructor
 ·intro h; injection h with h1 h2 h3 h4 h5 h6 h7 h8; exact ⟨h1, h2, h6, h7, h8, h3, h4, h5⟩
 ·rintro ⟨rfl, rfl, rfl, rfl, rfl, rfl, rfl, rfl⟩; rfl
theorem Rp.sameP_iff (e0 : Int) (v0 : Nat) (s0 : List (Int × Int × Int)) (x0 : List UInt8) (p0 : Pl) (e1 : Int) (v1 : Nat) (s1 : List (Int × Int × Int)) (x1 : List UInt8) (p1 : Pl) :
  (⟨e0, v0, s0, x0, p0⟩ : Rp) = ⟨e1, v1, s1, x1, p1⟩ ↔ e0 = e1 ∧ v0 = v1 ∧ x0 = x1 ∧ s0 = s1 ∧ p0 = p1 := by
 constructor
 ·intro h; injection h with h1 h2 h3 h4 h5; exact ⟨h1, h2, h4, h3, h5⟩
 ·rintro ⟨rfl, rfl, rfl, rfl, rfl⟩; rfl
end Go.Proofs.Ytdhinjbkfffpeaa
end
