import Derived.Test.YtibnbpiachdmdaaZNB
import Derived.Test.YtibnbpiachdmdaaZNA
/- What the statements of layer 13 ask of the program's rows: contracts, as one structure. -/
section
namespace Go.Proofs.Ytibnbpiachdmdaa
open Go.ChangeShapes Go.WideShapes Go.ChangeAt Go.RowKit Go.Joins Sp
def Int64P (x : Int) : Prop := -9223372036854775808 ≤ x ∧ x ≤ 9223372036854775807
theorem In64.pairW {a b : List Spn} (k : Int) (ha : In64 a) (hb : In64 b) : In64 (pair (cW k) a b) := by
  have h1 := ha.bd
  have h2 := hb.bd
  have hf := pair_form (cW k) a b
  have := in_bd (lo := -9223372036854775808) (hi := 9223372036854775807) hf fun x hx => by
    rw [pairW_has] at hx
    by_cases q1 : hasB a x = true
    · have := has_bd h1 ((hasB_iff a x).1 q1); omega
    · by_cases q2 : hasB b x = true
      · have := has_bd h2 ((hasB_iff b x).1 q2); omega
      · rw [Bool.eq_false_iff.2 q1, Bool.eq_false_iff.2 q2, cW_ff] at hx; cases hx
  intro s hs
  have q := this s hs
  have q2 := form_pos hf hs
  omega
theorem In64.form {l : List Spn} (h : In64 l) : In64 (formL l) := h.pairW 0 (b := []) fun s hs => by cases hs
theorem In64.one {x1 x2 : Int} (h1 : Int64P x1) (h2 : Int64P x2) : In64 [(x1, x2)] := fun s hs => by
  obtain rfl : s = (x1, x2) := by simpa using hs
  exact ⟨h1, h2⟩
end Go.Proofs.Ytibnbpiachdmdaa
end
