import Derived.Test.YtgmcacmdiiogmaaZNH
import Derived.Test.YtgmcacmdiiogmaaZNI
/- The program's streams keep what the statements of layer 14 ask of them. -/
section
namespace Go.Proofs.Ytgmcacmdiiogmaa
open Go.ChangeShapes Go.WideShapes Go.ChangeAt Go.RowKit Go.Joins Sp

theorem newF_of {w w' : World} {m : Nat} {F : Nat → Nat → Prop} {b : Nat} (h : NewF w w' m F b) : (∃ i, i < m ∧ F i b) ∨ w.heap.size ≤ b := h.elim .inl fun h => .inr h.1
theorem newF_one {w w' : World} {F : Nat → Prop} {b : Nat} (h : NewF w w' 1 (fun i x => i = 0 ∧ F x) b) : F b ∨ w.heap.size ≤ b := h.elim (fun ⟨_, _, h⟩ => .inl h.2) fun h => .inr h.1
theorem cuK : CuK StL CtAt where
  lt := fun h => h.lt
  mono := fun ⟨h1, h2, d, lo, hi, h⟩ hF hl => by
    obtain ⟨R, g, _, hR⟩ := Lv.node' _ d
    exact ⟨h1, h2, d, lo, hi, hR.2 ((hR.1 h).wider hF hl)⟩
  off := fun h ho hG => h.off ho hG
  form := fun h => h.1
  in64 := fun h => h.2.1
  ptr := fun h => h.ptr
  clt := fun h => h.1
  coff := fun h ho hG => h.off ho hG
  nilS := fun w c => ⟨trivial, fun s hs => (by cases hs), 0, _, _, .inl ⟨rfl, fun x => has_nil x, rfl, rfl, fun _ h => h.elim⟩⟩
  nilC := fun w => ⟨fun _ h => h.elim, .inl ⟨rfl, rfl⟩⟩
  newC := pnewcounter_any
  steps := psteps_any
  row := fun w c k C l A d hl hi hc hs => (prow14_any w c k C l A d hl hi hc hs).mono fun e w' ⟨p, h1, h2, h3⟩ => ⟨p, _, h1, h2, fun b hb => (newF_of hb).elim (fun ⟨i, hi, _⟩ => absurd hi (Nat.not_lt_zero i)) id, h3⟩
  union := fun w c ps ls ns F A d h1 h2 h3 h4 h5 _ h7 => (punion14_any w c ps ls ns F A d ⟨h1, h2, h3, h4, h5, h7⟩).mono fun e w' ⟨p, q1, q2, q3⟩ => ⟨p, _, q1, q2, fun b hb => newF_of hb, .of_below q3⟩
  meet := fun w c ps ls ns F A d h1 h2 h3 h4 h5 _ h7 => (pmeet14_any w c ps ls ns F A d ⟨h1, h2, h3, h4, h5, h7⟩).mono fun e w' ⟨p, q1, q2, q3⟩ => ⟨p, _, q1, q2, fun b hb => newF_of hb, .of_below q3⟩
  gaps := fun w c p L n F x1 x2 h1 h2 h => (pgaps14_any w c p L n F x1 x2 h1 h2 h).mono fun e w' ⟨p, q1, q2, q3⟩ => ⟨p, _, q1, q2, fun b hb => newF_one hb, .of_below q3⟩
  grow := fun w c p L n F a b h1 h2 h => (pgrow14_any w c p L n F a b h1 h2 h).mono fun e w' ⟨p, q1, q2, q3⟩ => ⟨p, _, q1, q2, fun b hb => newF_one hb, .of_below q3⟩
  starts := fun w c p L n F a h1 h => (pstarts14_any w c p L n F a h1 h).mono fun e w' ⟨p, q1, q2, q3⟩ => ⟨p, _, q1, q2, fun b hb => newF_one hb, .of_below q3⟩
  next := fun w c p L n F k C h1 h2 h3 => (pnext_any w c p L n F k C h1 h2 h3).mono fun e w' ⟨L', n', k', x1, x2, ok, q1, q2, q3, q4, q5, q6⟩ => ⟨L', n', k', F, x1, x2, ok, q1, q2, q3, q4, q5, fun _ h => .inl h, q6⟩
  skip := fun w c p L n F m hm h => pskip_any w c p L n F m hm h
  all := fun w c p L n F k C hl h1 h2 h3 => (pall_any w c p L n F k C hl h1 h2 h3).mono fun e w' ⟨A, d, n', k', q1, q2, q3, q4, q5, q6, q7⟩ => ⟨A, d, n', k', F, q1, q2, fun a ha => ⟨q3 a ha, fun hx => by have := h1.lt _ hx; have := q3 a ha; omega⟩, q4, q5, q6, fun _ h => .inl h, q7⟩
end Go.Proofs.Ytgmcacmdiiogmaa
end
