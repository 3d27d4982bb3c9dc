/- Contracts of the calendar's small functions. -/
import Derived.Test.YtdokniohjdlmfaaDoorRows
import Derived.Test.YtdokniohjdlmfaaDoorMath
import Derived.WalkKit
import Derived.ProofKit
import Derived.OpenShut
import Derived.Deep.QuietTactic
import Derived.BigQuiet
namespace Go.Proofs.YtdokniohjdlmfaaDoor
open Go.ChangeShapes Go.WideShapes Go.ChangeAt Go.RowKit Cal

theorem leap_mk (y : Int) : leapB y = decide (y % 4 = 0 ∧ (y % 100 ≠ 0 ∨ y % 400 = 0)) := by
  unfold leapB lp; split <;> simp_all

theorem tmod_beq (y k : Int) : (y.tmod k == 0) = decide (y % k = 0) := by
  rw [Bool.eq_iff_iff]; simp [tmod_zero]

theorem tmod_bne (y k : Int) : (y.tmod k != 0) = !decide (y % k = 0) := by
  rw [bne, tmod_beq]

theorem leap_any (y : Int) (w : World) :
    Calls Tryd.prog 62 #[.int .i64 y] w fun e w' => e = .returned (.bool (leapB y)) ∧ w = w' := by
  rw [leap_mk]
  go_enter Tryd.func62, Tryd.ntmps62
  go_wp2
  all_goals go_ret
  all_goals refine ⟨?_, rfl⟩
  all_goals simp_all [tmod_zero, tmod_beq]

theorem rleap_any (y : Int) (w : World) :
    Calls Tryd.prog 46 #[.int .i64 y] w fun e w' => e = .returned (.bool (leapB y)) ∧ w = w' := by
  rw [leap_mk]
  go_enter Tryd.func46, Tryd.ntmps46
  go_wp2
  all_goals go_ret
  all_goals refine ⟨?_, rfl⟩
  all_goals simp_all [tmod_zero, tmod_beq, tmod_bne]
  all_goals omega

theorem length_any (y m : Int) (w : World) :
    Calls Tryd.prog 45 #[.int .i64 y, .int .i64 m] w fun e w' => e = .returned (.int .i64 (lenI y m)) ∧ w = w' := by
  unfold lenI
  by_cases h1 : m = 1 ∨ m = 3 ∨ m = 5 ∨ m = 7 ∨ m = 8 ∨ m = 10 ∨ m = 12
  · rw [if_pos h1]
    rcases h1 with rfl | rfl | rfl | rfl | rfl | rfl | rfl
    all_goals
      go_enter Tryd.func45, Tryd.ntmps45
      go_wp2
      go_ret
      exact ⟨rfl, rfl⟩
  · rw [if_neg h1]
    by_cases h2 : m = 4 ∨ m = 6 ∨ m = 9 ∨ m = 11
    · rw [if_pos h2]
      clear h1
      rcases h2 with rfl | rfl | rfl | rfl
      all_goals
        go_enter Tryd.func45, Tryd.ntmps45
        go_wp2
        go_ret
        exact ⟨rfl, rfl⟩
    · rw [if_neg h2]
      by_cases h3 : m = 2
      · rw [if_pos h3]
        clear h1 h2
        subst h3
        have hl := lp01 y
        by_cases hb : leapB y = true
        · have e1 : lp y = 1 := by simpa [leapB] using hb
          rw [e1]; clear e1
          go_enter Tryd.func45, Tryd.ntmps45
          go_wp2_with (go_at_call 62; refine (leap_any _ _).mono ?_; rintro e w' ⟨rfl, rfl⟩)
          go_ret
          exact ⟨rfl, rfl⟩
        · have e1 : lp y = 0 := by simp [leapB] at hb; omega
          rw [e1]; clear e1
          have hb' : leapB y = false := by simpa using hb
          go_enter Tryd.func45, Tryd.ntmps45
          go_wp2_with (go_at_call 62; refine (leap_any _ _).mono ?_; rintro e w' ⟨rfl, rfl⟩)
          go_ret
          exact ⟨rfl, rfl⟩
      · rw [if_neg h3]
        go_enter Tryd.func45, Tryd.ntmps45
        go_wp2_with fail
        all_goals go_ret
        all_goals exact ⟨rfl, rfl⟩

theorem bcell {W w1 : World} (hb : Below W.heap.size W w1) : (∀ b o, b < W.heap.size → w1.cell? ⟨b, o, none⟩ = W.cell? ⟨b, o, none⟩) ∧ (∀ b o, b < W.heap.size → w1.frozen? ⟨b, o, none⟩ = W.frozen? ⟨b, o, none⟩) :=
  ⟨fun b o h => hb.cell (p := ⟨b, o, none⟩) h, fun b o h => hb.frozen (p := ⟨b, o, none⟩) h⟩

set_option maxHeartbeats 4000000 in
theorem rlength_any (y m : Int) (w : World) :
    Calls Tryd.prog 47 #[.int .i64 y, .int .i64 m] w fun e w' => e = .returned (.int .i64 (lenI y m)) ∧ Below w.heap.size w w' := by
  by_cases h0 : m < 1 ∨ 12 < m
  · rw [len_no y m h0]
    rcases h0 with h0 | h0
    all_goals
      go_enter Tryd.func47, Tryd.ntmps47
      go_wp2
      go_ret
      exact ⟨rfl, (Below.refl _ _).alloc (Nat.le_refl _) _⟩
  · have h1 : 1 ≤ m := by omega
    have h2 : m ≤ 12 := by omega
    clear h0
    have h : m = 1 ∨ m = 2 ∨ m = 3 ∨ m = 4 ∨ m = 5 ∨ m = 6 ∨ m = 7 ∨ m = 8 ∨ m = 9 ∨ m = 10 ∨ m = 11 ∨ m = 12 := by omega
    clear h1 h2
    rcases h with rfl | h
    · go_enter Tryd.func47, Tryd.ntmps47
      go_wp2
      go_ret
      exact ⟨rfl, (Below.refl _ _).alloc (Nat.le_refl _) _⟩
    rcases h with rfl | h
    · have hl := lp01 y
      by_cases hb : leapB y = true
      · have e1 : lenI y 2 = 29 := by simp [leapB] at hb; simp [lenI, hb]
        rw [e1]; clear e1
        go_enter Tryd.func47, Tryd.ntmps47
        go_wp2_with (go_at_call 46; refine (rleap_any _ _).mono ?_; rintro e w' ⟨rfl, rfl⟩)
        go_ret
        exact ⟨rfl, (Below.refl _ _).alloc (Nat.le_refl _) _⟩
      · have e1 : lenI y 2 = 28 := by simp [leapB] at hb; simp [lenI]; omega
        rw [e1]; clear e1
        have hb' : leapB y = false := by simpa using hb
        go_enter Tryd.func47, Tryd.ntmps47
        go_wp2_with (go_at_call 46; refine (rleap_any _ _).mono ?_; rintro e w' ⟨rfl, rfl⟩)
        go_ret
        exact ⟨rfl, (Below.refl _ _).alloc (Nat.le_refl _) _⟩
    rcases h with rfl | rfl | rfl | rfl | rfl | rfl | rfl | rfl | rfl | rfl
    all_goals
      go_enter Tryd.func47, Tryd.ntmps47
      go_wp2
      go_ret
      exact ⟨rfl, (Below.refl _ _).alloc (Nat.le_refl _) _⟩

theorem lt_any (y : Int) (h1 : 0 ≤ y) (h2 : y ≤ 100000) (w : World) :
    Calls Tryd.prog 61 #[.int .i64 y] w fun e w' => e = .returned (.int .i64 (lt y)) ∧ w = w' := by
  unfold lt
  go_enter Tryd.func61, Tryd.ntmps61
  go_wp2
  go_ret
  exact ⟨rfl, rfl⟩

theorem ys_any (y : Int) (h1 : 1 ≤ y) (h2 : y ≤ 100000) (w : World) :
    Calls Tryd.prog 44 #[.int .i64 y] w fun e w' => e = .returned (.int .i64 (ys y)) ∧ w = w' := by
  have hb : 0 ≤ lt (y - 1) ∧ lt (y - 1) ≤ 100000 := by unfold lt; omega
  have hc : lt 1899 = 460 := by decide
  have he : ys y = (y - 1900) * 365 + lt (y - 1) - lt 1899 := by rw [hc]; rfl
  have hd : 0 ≤ lt 1899 ∧ lt 1899 ≤ 1000 := by rw [hc]; omega
  clear hc
  rw [he]; clear he
  go_enter Tryd.func44, Tryd.ntmps44
  go_wp2_with (go_at_call 61; refine (lt_any _ (by omega) (by omega) _).mono ?_; rintro e w' ⟨rfl, rfl⟩)
  go_ret
  exact ⟨rfl, rfl⟩


end Go.Proofs.YtdokniohjdlmfaaDoor
