import Derived.Test.YtfjmofefciopmaaGreatZIL2
import Derived.Test.YtfjmofefciopmaaGreatZMJ
/- What a time that is dropped takes from a window: facts for layer 11's last law. -/
section
namespace Go.Proofs.YtfjmofefciopmaaGreat
open Go.ChangeShapes Go.WideShapes Go.ChangeAt Go.RowKit Go.Joins Sp Ev Qr
noncomputable def metB (z : Zn.Z) (x : Spn) (g a : Int) : Bool := Zn.mayB z && (selO z false x a g).isSome
theorem drop_len {z : Zn.Z} {e : Evt} {x : Spn} {a : Int} (hm : mayE e) (hx : winP x) (ha : e.again = true) (hc : e.ch = []) (hat : atB e a = true) (h0 : 0 ≤ a) (h1 : a < 158310720) :
    (membersV z e x).length = (membersV z (dropE e a) x).length + (if metB z x e.long a = true then 1 else 0) := by
  by_cases hz : Zn.mayP z
  · rw [dropped_len hm hz hx ha hc hat h0 h1]
    unfold metB
    rw [Zn.may_iff.2 hz, Bool.true_and]
  · have hb : Zn.mayB z = false := by
      cases h : Zn.mayB z with
      | false => rfl
      | true => exact (hz (Zn.may_iff.1 h)).elim
    have h1 : ∀ f, membersV z f x = [] := fun f => by unfold membersV; rw [if_neg (fun k => hz k.2.1)]
    rw [h1, h1]
    unfold metB
    rw [hb]
    simp
theorem utc_met (z : Zn.Z) (Z : Option Addr) (cz : Nat) (x1 x2 g a : Int) (hg : 0 < g) (hw : ZWf z) (w : World) (hz : ZAt w Z z) :
    Calls Tryz.prog 17 #[.agg #[.int .i64 z.base, .slice Z z.n cz], .int .i64 a] w fun q w' => (∃ u k b, q = .returned (.agg #[.int .i64 u, .int .i64 k, .bool b]) ∧ (0 ≤ u ∧ u ≤ 158310720) ∧ (!b && Zn.mayB z && decide (u < x2) && decide (x1 < u + g)) = metB z (x1, x2) g a) ∧ Below w.heap.size w w' := by
  cases hb : Zn.mayB z with
  | true =>
    have hp := Zn.may_iff.1 hb
    refine (rutc_all w Z z cz a hw hz hp).mono ?_
    rintro q w' ⟨⟨u, k, ⟨h1, h2, h3, rfl⟩ | ⟨h1, rfl⟩⟩, hb'⟩
    · refine ⟨⟨u, k, false, rfl, ⟨h2, h3⟩, ?_⟩, hb'⟩
      unfold metB
      rw [hb, Bool.eq_iff_iff, Bool.true_and, met_iff hg]
      simp [h1]
    · refine ⟨⟨0, 0, true, rfl, by omega, ?_⟩, hb'⟩
      unfold metB
      rw [hb, Bool.eq_iff_iff, Bool.true_and, met_iff hg]
      simp [h1]
  | false =>
    refine (rutc_far w Z z cz a hw hz (.inl hb)).mono ?_
    rintro q w' ⟨rfl, hb'⟩
    refine ⟨⟨0, 0, true, rfl, by omega, ?_⟩, hb'⟩
    unfold metB
    rw [hb]
    simp
end Go.Proofs.YtfjmofefciopmaaGreat
end
