/- Contracts: the n-th such weekday of a month, sums and products, the chapter's example. -/
import Derived.Test.YtcciginjkpemhaaW3
import Derived.Test.YtcciginjkpemhaaMath2
namespace Go.Proofs.Ytcciginjkpemhaa
open Go.ChangeShapes Go.WideShapes Go.ChangeAt Go.RowKit Cal

theorem fixed_any (w : World) : Calls Try.prog 13 #[] w fun e w' => e = .returned (.bool true) ∧ Below w.heap.size w w' := by
  have h1 : mayP 2000 2 29 := by decide
  have h2 : Hid (numI 2000 2 29 = 36583) := by show _ = _; decide
  go_enter Try.func13, Try.ntmps13
  go_wp2_with (first | (go_at_call 10; refine (number_yes _ _ _ _ h1).mono ?_; rw [h2.out]; rintro e w' ⟨rfl, hb⟩; obtain ⟨g, rfl⟩ := Gr.of hb; clear hb) | (go_at_call 17; refine (weekday_any _ _).mono ?_; rintro e w' ⟨rfl, rfl⟩))
  go_ret
  exact ⟨rfl, g.ok⟩

/-- A number that is an int64. -/
def In64 (x : Int) : Prop := -9223372036854775808 ≤ x ∧ x ≤ 9223372036854775807

set_option maxHeartbeats 1000000 in
theorem add_yes (a b : Int) (wa : (Lit.int .i64 a).wf = true) (wb : (Lit.int .i64 b).wf = true) (h : In64 (a + b)) (w : World) :
    Calls Try.prog 25 #[.int .i64 a, .int .i64 b] w fun e w' => e = .returned (.tuple #[.int .i64 (a + b), .bool true]) ∧ w = w' := by
  obtain ⟨a1, a2⟩ := bounds_i64 wa
  obtain ⟨b1, b2⟩ := bounds_i64 wb
  obtain ⟨h1, h2⟩ := h
  clear wa wb
  rcases Int.lt_trichotomy b 0 with hb | hb | hb
  · go_enter Try.func25, Try.ntmps25
    go_wp2
    go_ret2
    exact ⟨rfl, rfl⟩
  · subst hb
    go_enter Try.func25, Try.ntmps25
    go_wp2
    go_ret2
    exact ⟨by simp, rfl⟩
  · go_enter Try.func25, Try.ntmps25
    go_wp2
    go_ret2
    exact ⟨rfl, rfl⟩

set_option maxHeartbeats 1000000 in
theorem add_no (a b : Int) (wa : (Lit.int .i64 a).wf = true) (wb : (Lit.int .i64 b).wf = true) (h : ¬ In64 (a + b)) (w : World) :
    Calls Try.prog 25 #[.int .i64 a, .int .i64 b] w fun e w' => e = .returned (.tuple #[.int .i64 0, .bool false]) ∧ w = w' := by
  obtain ⟨a1, a2⟩ := bounds_i64 wa
  obtain ⟨b1, b2⟩ := bounds_i64 wb
  clear wa wb
  unfold In64 at h
  by_cases hb : b < 0
  · have hab : a < -9223372036854775808 - b := by omega
    clear h
    go_enter Try.func25, Try.ntmps25
    go_wp2
    go_ret2
    exact ⟨rfl, rfl⟩
  · have hb' : 0 < b := by omega
    have hab : 9223372036854775807 - b < a := by omega
    clear h hb
    go_enter Try.func25, Try.ntmps25
    go_wp2
    go_ret2
    exact ⟨rfl, rfl⟩

theorem mul_test (a b : Int) (a1 : -9223372036854775808 ≤ a) (a2 : a ≤ 9223372036854775807) (b1 : -9223372036854775808 ≤ b) (b2 : b ≤ 9223372036854775807) (hb : b ≠ 0) :
    wrap64 ((wrap64 (a * b)).tdiv b) = a ↔ In64 (a * b) ∨ (a = -9223372036854775808 ∧ b = -1) := by
  have hq := Int.mul_tdiv_add_tmod (wrap64 (a * b)) b
  have hm : ((wrap64 (a * b)).tmod b).natAbs < b.natAbs := by
    rw [Int.natAbs_tmod]; exact Nat.mod_lt _ (by omega)
  have hd := Int.natAbs_tdiv_le_natAbs (wrap64 (a * b)) b
  have hP : -9223372036854775808 ≤ wrap64 (a * b) ∧ wrap64 (a * b) ≤ 9223372036854775807 := by unfold wrap64; omega
  have hk : ∃ k : Int, wrap64 (a * b) = a * b + k * 18446744073709551616 := ⟨-((a * b + 9223372036854775808) / 18446744073709551616), by unfold wrap64; omega⟩
  constructor
  · intro h
    by_cases hs : (wrap64 (a * b)).tdiv b = 9223372036854775808
    · refine Or.inr ?_
      have ha : a = -9223372036854775808 := by rw [← h, hs]; unfold wrap64; omega
      refine ⟨ha, ?_⟩
      have e : b * 9223372036854775808 + (wrap64 (a * b)).tmod b = wrap64 (a * b) := by rw [← hs]; exact hq
      generalize (wrap64 (a * b)).tmod b = r at *
      generalize wrap64 (a * b) = p at *
      omega
    · refine Or.inl ?_
      have h2 : (wrap64 (a * b)).tdiv b = a := by
        have : wrap64 ((wrap64 (a * b)).tdiv b) = (wrap64 (a * b)).tdiv b := by
          generalize (wrap64 (a * b)).tdiv b = q at *
          generalize wrap64 (a * b) = p at *
          unfold wrap64; omega
        rw [← this]; exact h
      rw [h2] at hq
      obtain ⟨k, hk⟩ := hk
      have e : wrap64 (a * b) = a * b := by
        rw [Int.mul_comm b a] at hq
        generalize (wrap64 (a * b)).tmod b = r at *
        generalize wrap64 (a * b) = p at *
        generalize a * b = c at *
        omega
      rw [e] at hP
      exact hP
  · rintro (h | ⟨rfl, rfl⟩)
    · have e : wrap64 (a * b) = a * b := by
        obtain ⟨x, y⟩ := h
        generalize a * b = c at *
        unfold wrap64; omega
      rw [e, Int.mul_tdiv_cancel _ hb]
      unfold wrap64; omega
    · decide +kernel

theorem mul_zero (a : Int) (w : World) :
    Calls Try.prog 26 #[.int .i64 a, .int .i64 0] w fun e w' => e = .returned (.tuple #[.int .i64 0, .bool true]) ∧ w = w' := by
  go_enter Try.func26, Try.ntmps26
  go_wp2
  go_ret2
  exact ⟨rfl, rfl⟩

set_option maxHeartbeats 1000000 in
theorem mul_yes (a b : Int) (wa : (Lit.int .i64 a).wf = true) (wb : (Lit.int .i64 b).wf = true) (hb : b ≠ 0) (h : In64 (a * b)) (w : World) :
    Calls Try.prog 26 #[.int .i64 a, .int .i64 b] w fun e w' => e = .returned (.tuple #[.int .i64 (a * b), .bool true]) ∧ w = w' := by
  obtain ⟨a1, a2⟩ := bounds_i64 wa
  obtain ⟨b1, b2⟩ := bounds_i64 wb
  have ht := (mul_test a b a1 a2 b1 b2 hb).2 (Or.inl h)
  have hw : Hid (wrap64 (a * b) = a * b) := by
    obtain ⟨x, y⟩ := h
    show _ = _
    generalize a * b = c at *
    unfold wrap64; omega
  by_cases hmin : a = -9223372036854775808
  · have hn : (b == -1) = false := by
      simp only [beq_eq_false_iff_ne]; rintro rfl
      unfold In64 at h; omega
    have hb' : (b == 0) = false := by simpa using hb
    clear h wa wb a1 a2
    subst hmin
    go_enter Try.func26, Try.ntmps26
    go_wp2
    go_ret2
    exact ⟨by rw [hw.out]; rfl, rfl⟩
  · have hb' : (b == 0) = false := by simpa using hb
    clear h wa wb
    go_enter Try.func26, Try.ntmps26
    go_wp2
    go_ret2
    exact ⟨by rw [hw.out]; rfl, rfl⟩

set_option maxHeartbeats 1000000 in
theorem mul_no (a b : Int) (wa : (Lit.int .i64 a).wf = true) (wb : (Lit.int .i64 b).wf = true) (hb : b ≠ 0) (h : ¬ In64 (a * b)) (w : World) :
    Calls Try.prog 26 #[.int .i64 a, .int .i64 b] w fun e w' => e = .returned (.tuple #[.int .i64 0, .bool false]) ∧ w = w' := by
  obtain ⟨a1, a2⟩ := bounds_i64 wa
  obtain ⟨b1, b2⟩ := bounds_i64 wb
  have ht := mul_test a b a1 a2 b1 b2 hb
  have hb' : (b == 0) = false := by simpa using hb
  by_cases hx : a = -9223372036854775808 ∧ b = -1
  · obtain ⟨rfl, rfl⟩ := hx
    clear h wa wb ht
    go_enter Try.func26, Try.ntmps26
    go_wp2
    all_goals
      go_ret2
      exact ⟨rfl, rfl⟩
  · have ht' : ¬ wrap64 ((wrap64 (a * b)).tdiv b) = a := by
      rw [ht]; rintro (h1 | h1)
      · exact h h1
      · exact hx h1
    clear h wa wb ht hx
    go_enter Try.func26, Try.ntmps26
    go_wp2
    go_ret2
    exact ⟨rfl, rfl⟩
end Go.Proofs.Ytcciginjkpemhaa
