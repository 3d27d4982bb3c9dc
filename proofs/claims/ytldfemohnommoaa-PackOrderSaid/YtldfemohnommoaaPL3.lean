/- The laws' walks: how many bytes a number has. -/
import Derived.Test.YtldfemohnommoaaPL1
namespace Go.Proofs.Ytldfemohnommoaa
open Go.ChangeShapes Go.WideShapes Go.ChangeAt Go.RowKit Go.Joins Fr Pk

set_option maxRecDepth 100000 in
set_option maxHeartbeats 4000000 in
theorem packOrder_walk (a b : Nat) (ha : a < 18446744073709551616) (hb : b < 18446744073709551616) (w : World) :
    Calls Try.prog 6 #[.int .u64 a, .int .u64 b] w fun e w' => e = .returned (.bool true) ∧ Below w.heap.size w w' := by
  have HN := Lib.hid (wr_new w)
  have HL := Lib.hid (And.intro (num_len10 ha) (num_len10 hb))
  go_enter Try.func6, Try.ntmps6
  go_wp2_with fail
  go_at_call 9
  refine HN.out.mono ?_
  rintro e w1 ⟨D, F, rfl, h1, b1, f1⟩
  have H1 := Lib.hid h1
  have B1 := Lib.hid b1
  have F1 := Lib.hid f1
  clear h1 b1 f1
  have HN2 := Lib.hid (wr_new w1)
  go_wp2_with fail
  go_at_call 9
  refine HN2.out.mono ?_
  rintro e w2 ⟨E, G, rfl, h2, b2, g2⟩
  have H2 := Lib.hid h2
  have B2 : Hid (Below w.heap.size w w2) := B1.out.trans (b2.mono B1.out.size)
  have G2 : Hid (∀ k, G k → w1.heap.size ≤ k) := g2
  have HA := Lib.hid (wr_number_any D a ha [] F (by simp) w2 (H1.out.below b2))
  have H12 := Lib.hid (H1.out.lt)
  clear h2 b2 g2
  go_wp2_with fail
  go_at_call 10
  refine HA.out.mono ?_
  rintro e w3 ⟨rfl, F3, h3, o3, i3⟩
  have B3 : Hid (Below w.heap.size w w3) := B2.out.trans (o3.toBelow B2.out.size F1.out)
  have hG : WrAt w3 E [] G := H2.out.off o3 fun k hk hF => by have := G2.out k hk; have := H12.out k hF; omega
  have I3 : Hid (∀ k, F3 k → k < w3.heap.size ∧ ¬ G k) := fun k hk => ⟨h3.lt k hk, fun hg => by
    rcases i3 k hk with h | h
    · have := G2.out k hg; have := H12.out k h; omega
    · have := H2.out.lt k hg; omega⟩
  have H3 := Lib.hid h3
  have HB := Lib.hid (wr_number_any E b hb [] G (by simp) w3 hG)
  have G3 : Hid (∀ k, G k → w.heap.size ≤ k) := fun k hk => Nat.le_trans B1.out.size (G2.out k hk)
  clear h3 o3 i3 hG
  go_wp2_with fail
  go_at_call 10
  refine HB.out.mono ?_
  rintro e w4 ⟨rfl, G4, h4, o4, i4⟩
  have B4 : Hid (Below w.heap.size w w4) := B3.out.trans (o4.toBelow B3.out.size G3.out)
  have HC := Lib.hid (wr_bytes_any D _ F3 (by have := HL.out.1; simp; omega) w4 (H3.out.off o4 fun k hk hg => (I3.out k hk).2 hg))
  have H4 := Lib.hid h4
  clear h4 o4 i4
  simp only [List.nil_append] at HC H4
  go_wp2_with fail
  go_at_call 18
  refine HC.out.mono ?_
  rintro e w5 hR
  obtain ⟨A5, c5, rfl, hf⟩ := hR.fresh
  have B5 : Hid (Below w.heap.size w w5) := B4.out.trans (hf.below.mono B4.out.size)
  have HC2 := Lib.hid (wr_bytes_any E _ G4 (by have := HL.out.2; omega) w5 (H4.out.below hf.below))
  clear hR hf
  go_wp2_with fail
  go_at_call 18
  refine HC2.out.mono ?_
  rintro e w6 hR
  obtain ⟨A6, c6, rfl, hf⟩ := hR.fresh
  have B6 : Hid (Below w.heap.size w w6) := B5.out.trans (hf.below.mono B5.out.size)
  have HF := Lib.hid (fixed8_any w6)
  have hm := num_len_mono (a := b) (b := a)
  have h1 := num_len10 ha
  have h2 := List.length_pos_iff.2 (num_ne a)
  have h3 := num_lt a
  have h4 := num_ge a
  obtain ⟨q, hq⟩ : ∃ q, (numT b).length = q := ⟨_, rfl⟩
  obtain ⟨p, hpp⟩ : ∃ p, (numT a).length = p := ⟨_, rfl⟩
  rw [hq, hpp] at hm
  rw [hpp] at h1 h2 h3 h4
  simp only [hq, hpp]
  have hw7 : IntKind.i64.wrap (7 * (p : Int)) = 7 * p := by rw [IntKind.wrap_i64]; omega
  have hw8 : IntKind.i64.wrap (7 * (p : Int) - 7) = 7 * p - 7 := by rw [IntKind.wrap_i64]; omega
  have z1 : ¬ (p : Int) < 1 := by omega
  have z2 : ¬ (10 : Int) < p := by omega
  have hor : ((p : Int) ≤ q) ∨ (¬ (p : Int) ≤ q ∧ (b : Int) < a) := by omega
  obtain ⟨B1, e1, g1⟩ : ∃ B1 : Nat, (p < 10 → IntKind.u64.wrap (2 ^ (7 * p)) = (B1 : Int)) ∧ a < B1 := by
    refine ⟨128 ^ p, fun hp => ?_, h3⟩
    have hb : (2 : Nat) ^ (7 * p) ≤ 2 ^ 63 := Nat.pow_le_pow_right (by omega) (by omega)
    have hc : (128 : Nat) ^ p = 2 ^ (7 * p) := by rw [Nat.pow_mul]
    rw [hc]
    rw [show ((2 : Int) ^ (7 * p)) = ((2 ^ (7 * p) : Nat) : Int) by simp, IntKind.wrap_u64]
    generalize (2 : Nat) ^ (7 * p) = t at hb ⊢
    omega
  obtain ⟨B2, e2, g2⟩ : ∃ B2 : Nat, IntKind.u64.wrap (2 ^ (7 * p - 7)) = (B2 : Int) ∧ (1 < p → B2 ≤ a) := by
    refine ⟨128 ^ (p - 1), ?_, h4⟩
    have hb : (2 : Nat) ^ (7 * p - 7) ≤ 2 ^ 63 := Nat.pow_le_pow_right (by omega) (by omega)
    have hc : (128 : Nat) ^ (p - 1) = 2 ^ (7 * p - 7) := by rw [show 7 * p - 7 = 7 * (p - 1) by omega, Nat.pow_mul]
    rw [hc]
    rw [show ((2 : Int) ^ (7 * p - 7)) = ((2 ^ (7 * p - 7) : Nat) : Int) by simp, IntKind.wrap_u64]
    generalize (2 : Nat) ^ (7 * p - 7) = t at hb ⊢
    omega
  have k1 : ¬ (B1 : Int) ≤ a := by omega
  clear hR hf hm hq hpp HL ha hb h3 h4
  by_cases h10 : p < 10
  · have z3 : (p : Int) < 10 := by omega
    have e1' := e1 h10
    clear e1 h10
    by_cases hg : 1 < p
    · have z4 : (1 : Int) < p := by omega
      have k2 : ¬ (a : Int) < B2 := by have := g2 hg; omega
      clear g2 hg
      rcases hor with ho | ⟨ho, ho'⟩
      all_goals
        go_wp2_with fail
        go_at_call 8
        refine HF.out.mono ?_
        rintro e w7 ⟨rfl, hb⟩
        go_wp2_with fail
        go_ret
        exact ⟨rfl, B6.out.trans (hb.mono B6.out.size)⟩
    · have z4 : ¬ (1 : Int) < p := by omega
      rcases hor with ho | ⟨ho, ho'⟩
      all_goals
        go_wp2_with fail
        go_at_call 8
        refine HF.out.mono ?_
        rintro e w7 ⟨rfl, hb⟩
        go_wp2_with fail
        go_ret
        exact ⟨rfl, B6.out.trans (hb.mono B6.out.size)⟩
  · have z3 : ¬ (p : Int) < 10 := by omega
    have z4 : (1 : Int) < p := by omega
    have k2 : ¬ (a : Int) < B2 := by have := g2 (by omega); omega
    clear g2 e1
    rcases hor with ho | ⟨ho, ho'⟩
    all_goals
      go_wp2_with fail
      go_at_call 8
      refine HF.out.mono ?_
      rintro e w7 ⟨rfl, hb⟩
      go_wp2_with fail
      go_ret
      exact ⟨rfl, B6.out.trans (hb.mono B6.out.size)⟩
end Go.Proofs.Ytldfemohnommoaa
