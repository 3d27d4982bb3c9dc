import Derived.Test.YtibnbpiachdmdaaZEP4
/- The program's pickers keep what the statements of layer 15 ask of them. -/
section
namespace Go.Proofs.Ytibnbpiachdmdaa
open Go.ChangeShapes Go.WideShapes Go.ChangeAt Go.RowKit Go.Joins Sp
theorem cuR : CuR StL CtAt where
  ptr := fun h => h.ptr
  nilC := fun w => ⟨fun _ h => h.elim, .inl ⟨rfl, rfl⟩⟩
  row := fun w c k C l A d hl hi hc hs => (prow14_any w c k C l A d hl hi hc hs).mono fun e w' ⟨p, h1, h2, h3⟩ => ⟨p, _, h1, h2, fun b hb => hb.elim (fun ⟨i, hi, _⟩ => absurd hi (Nat.not_lt_zero i)) fun h => h.1, h3⟩
theorem erK : ErK StL CtAt PkA where
  lt := fun h => h.lt
  off := fun h ho hG => h.off ho hG
  congr := fun h hE => h.congr hE
  ptr := fun h => h.ptr
  nilP := fun w c => .inl ⟨rfl, fun _ h => h, fun _ h => h.elim⟩
  pick := fun w c p L q F a g ha hg h => (ppick_any w c p L q F a g ha hg h).mono fun e w' ⟨P, F', h1, h2, h3, h4⟩ => ⟨P, F', h1, h2, h3, .of_below h4⟩
  next := fun w c P E F k C h hc hFC => (ppnext_any w c P E F k C h hc hFC).mono fun e w' ⟨x, k', h1, h2, h3⟩ => ⟨x, k', F, h1, h2, fun _ h => .inl h, h3⟩
  skip := fun w c P E F m hm h => (ppskip_any w c P E F m hm h).mono fun e w' ⟨h1, h2, h3⟩ => ⟨F, h1, h2, fun _ h => .inl h, h3⟩
  starts := fun w l A d a g m hl hi ha hg h0 hm hs => pfirsts_any w l A d a g m hl hi ha hg h0 hm hs
  up := fun w m g hm hg => by
    obtain ⟨v, hv, hc⟩ := pup_any m g hm hg
    refine (hc w).mono fun e w' ⟨h1, h2⟩ => ?_
    subst h2
    subst h1
    rw [show max g 1 = max 1 g by omega] at hv
    refine ⟨?_, Below.refl _ _⟩
    rcases hv with ⟨x, rfl, q1, q2, q3, q4⟩ | ⟨rfl, q1, _⟩
    · exact ⟨x, .inl ⟨rfl, q1, q2.2, q3, q4⟩⟩
    · exact ⟨0, .inr ⟨rfl, q1⟩⟩
end Go.Proofs.Ytibnbpiachdmdaa
end
