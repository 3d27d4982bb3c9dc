import Derived.Test.YtfjmofefciopmaaGreatRows
import Derived.Test.YtfjmofefciopmaaGreatZMA
import Derived.WalkKit
import Derived.ProofKit
import Derived.OpenShut
import Derived.Deep.QuietTactic
import Derived.BigQuiet
import Derived.Test.YtfjmofefciopmaaGreatZMB
import Derived.Lib.Hide
/- Contracts of the calendar's small functions. -/
section
namespace Go.Proofs.YtfjmofefciopmaaGreat
open Go.ChangeShapes Go.WideShapes Go.ChangeAt Go.RowKit Cal
theorem leap_mk (y : Int) : leapB y = decide (y % 4 = 0 ∧ (y % 100 ≠ 0 ∨ y % 400 = 0)) := by
  unfold leapB lp; split <;> simp_all
theorem tmod_beq (y k : Int) : (y.tmod k == 0) = decide (y % k = 0) := by
  rw [Bool.eq_iff_iff]; simp [tmod_zero]
theorem tmod_bne (y k : Int) : (y.tmod k != 0) = !decide (y % k = 0) := by
  rw [bne, tmod_beq]
theorem leap_any (y : Int) (w : World) :
    Calls Tryz.prog 157 #[.int .i64 y] w fun e w' => e = .returned (.bool (leapB y)) ∧ w = w' := by
  rw [leap_mk]
  go_enter Tryz.func157, Tryz.ntmps157
  go_wp2
  all_goals go_ret
  all_goals refine ⟨?_, rfl⟩
  all_goals simp_all [tmod_zero, tmod_beq]
theorem rleap_any (y : Int) (w : World) :
    Calls Tryz.prog 135 #[.int .i64 y] w fun e w' => e = .returned (.bool (leapB y)) ∧ w = w' := by
  rw [leap_mk]
  go_enter Tryz.func135, Tryz.ntmps135
  go_wp2
  all_goals go_ret
  all_goals refine ⟨?_, rfl⟩
  all_goals simp_all [tmod_zero, tmod_beq, tmod_bne]
  all_goals omega
theorem length_any (y m : Int) (w : World) :
    Calls Tryz.prog 150 #[.int .i64 y, .int .i64 m] w fun e w' => e = .returned (.int .i64 (lenI y m)) ∧ w = w' := by
  unfold lenI
  by_cases h1 : m = 1 ∨ m = 3 ∨ m = 5 ∨ m = 7 ∨ m = 8 ∨ m = 10 ∨ m = 12
  · rw [if_pos h1]
    rcases h1 with rfl | rfl | rfl | rfl | rfl | rfl | rfl
    all_goals
      go_enter Tryz.func150, Tryz.ntmps150
      go_wp2
      go_ret
      exact ⟨rfl, rfl⟩
  · rw [if_neg h1]
    by_cases h2 : m = 4 ∨ m = 6 ∨ m = 9 ∨ m = 11
    · rw [if_pos h2]
      clear h1
      rcases h2 with rfl | rfl | rfl | rfl
      all_goals
        go_enter Tryz.func150, Tryz.ntmps150
        go_wp2
        go_ret
        exact ⟨rfl, rfl⟩
    · rw [if_neg h2]
      by_cases h3 : m = 2
      · rw [if_pos h3]
        clear h1 h2
        subst h3
        have hl := lp01 y
        by_cases hb : leapB y = true
        · have e1 : lp y = 1 := by simpa [leapB] using hb
          rw [e1]; clear e1
          go_enter Tryz.func150, Tryz.ntmps150
          go_wp2_with (go_at_call 157; refine (leap_any _ _).mono ?_; rintro e w' ⟨rfl, rfl⟩)
          go_ret
          exact ⟨rfl, rfl⟩
        · have e1 : lp y = 0 := by simp [leapB] at hb; omega
          rw [e1]; clear e1
          have hb' : leapB y = false := by simpa using hb
          go_enter Tryz.func150, Tryz.ntmps150
          go_wp2_with (go_at_call 157; refine (leap_any _ _).mono ?_; rintro e w' ⟨rfl, rfl⟩)
          go_ret
          exact ⟨rfl, rfl⟩
      · rw [if_neg h3]
        go_enter Tryz.func150, Tryz.ntmps150
        go_wp2_with fail
        all_goals go_ret
        all_goals exact ⟨rfl, rfl⟩
set_option maxHeartbeats 4000000 in
theorem rlength_any (y m : Int) (w : World) :
    Calls Tryz.prog 110 #[.int .i64 y, .int .i64 m] w fun e w' => e = .returned (.int .i64 (lenI y m)) ∧ Below w.heap.size w w' := by
  by_cases h0 : m < 1 ∨ 12 < m
  · rw [len_no y m h0]
    rcases h0 with h0 | h0
    all_goals
      go_enter Tryz.func110, Tryz.ntmps110
      go_wp2
      go_ret
      exact ⟨rfl, (Below.refl _ _).alloc (Nat.le_refl _) _⟩
  · have h1 : 1 ≤ m := by omega
    have h2 : m ≤ 12 := by omega
    clear h0
    have h : m = 1 ∨ m = 2 ∨ m = 3 ∨ m = 4 ∨ m = 5 ∨ m = 6 ∨ m = 7 ∨ m = 8 ∨ m = 9 ∨ m = 10 ∨ m = 11 ∨ m = 12 := by omega
    clear h1 h2
    rcases h with rfl | h
    · go_enter Tryz.func110, Tryz.ntmps110
      go_wp2
      go_ret
      exact ⟨rfl, (Below.refl _ _).alloc (Nat.le_refl _) _⟩
    rcases h with rfl | h
    · have hl := lp01 y
      by_cases hb : leapB y = true
      · have e1 : lenI y 2 = 29 := by simp [leapB] at hb; simp [lenI, hb]
        rw [e1]; clear e1
        go_enter Tryz.func110, Tryz.ntmps110
        go_wp2_with (go_at_call 135; refine (rleap_any _ _).mono ?_; rintro e w' ⟨rfl, rfl⟩)
        go_ret
        exact ⟨rfl, (Below.refl _ _).alloc (Nat.le_refl _) _⟩
      · have e1 : lenI y 2 = 28 := by simp [leapB] at hb; simp [lenI]; omega
        rw [e1]; clear e1
        have hb' : leapB y = false := by simpa using hb
        go_enter Tryz.func110, Tryz.ntmps110
        go_wp2_with (go_at_call 135; refine (rleap_any _ _).mono ?_; rintro e w' ⟨rfl, rfl⟩)
        go_ret
        exact ⟨rfl, (Below.refl _ _).alloc (Nat.le_refl _) _⟩
    rcases h with rfl | rfl | rfl | rfl | rfl | rfl | rfl | rfl | rfl | rfl
    all_goals
      go_enter Tryz.func110, Tryz.ntmps110
      go_wp2
      go_ret
      exact ⟨rfl, (Below.refl _ _).alloc (Nat.le_refl _) _⟩
theorem lt_any (y : Int) (h1 : 0 ≤ y) (h2 : y ≤ 100000) (w : World) :
    Calls Tryz.prog 156 #[.int .i64 y] w fun e w' => e = .returned (.int .i64 (lt y)) ∧ w = w' := by
  unfold lt
  go_enter Tryz.func156, Tryz.ntmps156
  go_wp2
  go_ret
  exact ⟨rfl, rfl⟩
theorem ys_any (y : Int) (h1 : 1 ≤ y) (h2 : y ≤ 100000) (w : World) :
    Calls Tryz.prog 149 #[.int .i64 y] w fun e w' => e = .returned (.int .i64 (ys y)) ∧ w = w' := by
  have hb : 0 ≤ lt (y - 1) ∧ lt (y - 1) ≤ 100000 := by unfold lt; omega
  have hc : lt 1899 = 460 := by decide
  have he : ys y = (y - 1900) * 365 + lt (y - 1) - lt 1899 := by rw [hc]; rfl
  have hd : 0 ≤ lt 1899 ∧ lt 1899 ≤ 1000 := by rw [hc]; omega
  clear hc
  rw [he]; clear he
  go_enter Tryz.func149, Tryz.ntmps149
  go_wp2_with (go_at_call 156; refine (lt_any _ (by omega) (by omega) _).mono ?_; rintro e w' ⟨rfl, rfl⟩)
  go_ret
  exact ⟨rfl, rfl⟩
theorem weekday_any (n : Int) (w : World) :
    Calls Tryz.prog 140 #[.int .i64 n] w fun e w' => e = .returned (.int .i64 (n % 7)) ∧ w = w' := by
  have h1 : -6 ≤ n.tmod 7 ∧ n.tmod 7 ≤ 6 := by
    have a := Int.tmod_lt_of_pos n (b := 7) (by omega)
    have b := Int.lt_tmod_of_pos n (b := 7) (by omega)
    omega
  have h2 : (n.tmod 7 + 7) % 7 = n % 7 := by
    have a := Int.mul_tdiv_add_tmod n 7
    omega
  rw [← h2]; clear h2
  go_enter Tryz.func140, Tryz.ntmps140
  go_wp2
  go_ret
  exact ⟨rfl, rfl⟩
end Go.Proofs.YtfjmofefciopmaaGreat
end
section
namespace Go.Proofs.YtfjmofefciopmaaGreat
open Go.ChangeShapes Go.WideShapes Go.ChangeAt Go.RowKit Cal
set_option maxHeartbeats 1000000 in
theorem may_no0 (y m d : Int) (w : World)  (h0 : y < 1900) :
    Calls Tryz.prog 163 #[.agg #[.int .i64 y, .int .i64 m, .int .i64 d]] w fun e w' => e = .returned (.bool false) ∧ Below w.heap.size w w' := by
  have hf : decide (1900 ≤ y) = false := by simp; omega
  go_enter Tryz.func163, Tryz.ntmps163
  go_wp2
  have hc := @Gr.cell (w.alloc (.cells #[.int .i64 y, .int .i64 m, .int .i64 d] 107))
  refine Gr.region (by kernel_rfl) (by kernel_rfl) (Gr.draw0 _) ?_
  repeat (go_big_quiet_step ((go_at_call 150; exact Gr.calls_same _ (length_any _ _ _))))
  refine wpQuiet_nil ?_
  rintro _ ⟨g, rfl⟩
  go_wp2
  go_ret
  exact ⟨rfl, g.below1⟩
set_option maxHeartbeats 1000000 in
theorem may_no1 (y m d : Int) (w : World) (h0 : 1900 ≤ y) (h1 : 2200 < y) :
    Calls Tryz.prog 163 #[.agg #[.int .i64 y, .int .i64 m, .int .i64 d]] w fun e w' => e = .returned (.bool false) ∧ Below w.heap.size w w' := by
  have hf : decide (y ≤ 2200) = false := by simp; omega
  go_enter Tryz.func163, Tryz.ntmps163
  go_wp2
  have hc := @Gr.cell (w.alloc (.cells #[.int .i64 y, .int .i64 m, .int .i64 d] 107))
  refine Gr.region (by kernel_rfl) (by kernel_rfl) (Gr.draw0 _) ?_
  repeat (go_big_quiet_step ((go_at_call 150; exact Gr.calls_same _ (length_any _ _ _))))
  refine wpQuiet_nil ?_
  rintro _ ⟨g, rfl⟩
  go_wp2
  go_ret
  exact ⟨rfl, g.below1⟩
set_option maxHeartbeats 1000000 in
theorem may_no2 (y m d : Int) (w : World) (h0 : 1900 ≤ y) (h1 : y ≤ 2200) (h2 : d < 1) :
    Calls Tryz.prog 163 #[.agg #[.int .i64 y, .int .i64 m, .int .i64 d]] w fun e w' => e = .returned (.bool false) ∧ Below w.heap.size w w' := by
  have hf : decide (1 ≤ d) = false := by simp; omega
  go_enter Tryz.func163, Tryz.ntmps163
  go_wp2
  have hc := @Gr.cell (w.alloc (.cells #[.int .i64 y, .int .i64 m, .int .i64 d] 107))
  refine Gr.region (by kernel_rfl) (by kernel_rfl) (Gr.draw0 _) ?_
  repeat (go_big_quiet_step ((go_at_call 150; exact Gr.calls_same _ (length_any _ _ _))))
  refine wpQuiet_nil ?_
  rintro _ ⟨g, rfl⟩
  go_wp2
  go_ret
  exact ⟨rfl, g.below1⟩
set_option maxHeartbeats 1000000 in
theorem may_no3 (y m d : Int) (w : World) (h0 : 1900 ≤ y) (h1 : y ≤ 2200) (h2 : 1 ≤ d) (h3 : lenI y m < d) :
    Calls Tryz.prog 163 #[.agg #[.int .i64 y, .int .i64 m, .int .i64 d]] w fun e w' => e = .returned (.bool false) ∧ Below w.heap.size w w' := by
  have hf : decide (d ≤ lenI y m) = false := by simp; omega
  go_enter Tryz.func163, Tryz.ntmps163
  go_wp2
  have hc := @Gr.cell (w.alloc (.cells #[.int .i64 y, .int .i64 m, .int .i64 d] 107))
  refine Gr.region (by kernel_rfl) (by kernel_rfl) (Gr.draw0 _) ?_
  repeat (go_big_quiet_step ((go_at_call 150; exact Gr.calls_same _ (length_any _ _ _))))
  refine wpQuiet_nil ?_
  rintro _ ⟨g, rfl⟩
  go_wp2
  go_ret
  exact ⟨rfl, g.below1⟩
set_option maxHeartbeats 1000000 in
theorem may_yes (y m d : Int) (w : World) (h0 : 1900 ≤ y) (h1 : y ≤ 2200) (h2 : 1 ≤ d) (h3 : d ≤ lenI y m) :
    Calls Tryz.prog 163 #[.agg #[.int .i64 y, .int .i64 m, .int .i64 d]] w fun e w' => e = .returned (.bool true) ∧ Below w.heap.size w w' := by
  go_enter Tryz.func163, Tryz.ntmps163
  go_wp2
  have hc := @Gr.cell (w.alloc (.cells #[.int .i64 y, .int .i64 m, .int .i64 d] 107))
  refine Gr.region (by kernel_rfl) (by kernel_rfl) (Gr.draw0 _) ?_
  repeat (go_big_quiet_step ((go_at_call 150; exact Gr.calls_same _ (length_any _ _ _))))
  refine wpQuiet_nil ?_
  rintro _ ⟨g, rfl⟩
  go_wp2
  go_ret
  exact ⟨rfl, g.below1⟩
set_option maxHeartbeats 1000000 in
theorem rmay_no0 (y m d : Int) (w : World)  (h0 : y < 1900) :
    Calls Tryz.prog 136 #[.agg #[.int .i64 y, .int .i64 m, .int .i64 d]] w fun e w' => e = .returned (.bool false) ∧ Below w.heap.size w w' := by
  have hf : decide (1900 ≤ y) = false := by simp; omega
  go_enter Tryz.func136, Tryz.ntmps136
  go_wp2
  have hc := @Gr.cell (w.alloc (.cells #[.int .i64 y, .int .i64 m, .int .i64 d] 107))
  refine Gr.region (by kernel_rfl) (by kernel_rfl) (Gr.draw0 _) ?_
  repeat (go_big_quiet_step ((go_at_call 110; exact Gr.calls _ (rlength_any _ _ _))))
  refine wpQuiet_nil ?_
  rintro _ ⟨g, rfl⟩
  go_wp2
  go_ret
  exact ⟨rfl, g.below1⟩
set_option maxHeartbeats 1000000 in
theorem rmay_no1 (y m d : Int) (w : World) (h0 : 1900 ≤ y) (h1 : 2200 < y) :
    Calls Tryz.prog 136 #[.agg #[.int .i64 y, .int .i64 m, .int .i64 d]] w fun e w' => e = .returned (.bool false) ∧ Below w.heap.size w w' := by
  have hf : decide (y ≤ 2200) = false := by simp; omega
  go_enter Tryz.func136, Tryz.ntmps136
  go_wp2
  have hc := @Gr.cell (w.alloc (.cells #[.int .i64 y, .int .i64 m, .int .i64 d] 107))
  refine Gr.region (by kernel_rfl) (by kernel_rfl) (Gr.draw0 _) ?_
  repeat (go_big_quiet_step ((go_at_call 110; exact Gr.calls _ (rlength_any _ _ _))))
  refine wpQuiet_nil ?_
  rintro _ ⟨g, rfl⟩
  go_wp2
  go_ret
  exact ⟨rfl, g.below1⟩
set_option maxHeartbeats 1000000 in
theorem rmay_no2 (y m d : Int) (w : World) (h0 : 1900 ≤ y) (h1 : y ≤ 2200) (h2 : m < 1) :
    Calls Tryz.prog 136 #[.agg #[.int .i64 y, .int .i64 m, .int .i64 d]] w fun e w' => e = .returned (.bool false) ∧ Below w.heap.size w w' := by
  have hf : decide (1 ≤ m) = false := by simp; omega
  go_enter Tryz.func136, Tryz.ntmps136
  go_wp2
  have hc := @Gr.cell (w.alloc (.cells #[.int .i64 y, .int .i64 m, .int .i64 d] 107))
  refine Gr.region (by kernel_rfl) (by kernel_rfl) (Gr.draw0 _) ?_
  repeat (go_big_quiet_step ((go_at_call 110; exact Gr.calls _ (rlength_any _ _ _))))
  refine wpQuiet_nil ?_
  rintro _ ⟨g, rfl⟩
  go_wp2
  go_ret
  exact ⟨rfl, g.below1⟩
set_option maxHeartbeats 1000000 in
theorem rmay_no3 (y m d : Int) (w : World) (h0 : 1900 ≤ y) (h1 : y ≤ 2200) (h2 : 1 ≤ m) (h3 : 12 < m) :
    Calls Tryz.prog 136 #[.agg #[.int .i64 y, .int .i64 m, .int .i64 d]] w fun e w' => e = .returned (.bool false) ∧ Below w.heap.size w w' := by
  have hf : decide (m ≤ 12) = false := by simp; omega
  go_enter Tryz.func136, Tryz.ntmps136
  go_wp2
  have hc := @Gr.cell (w.alloc (.cells #[.int .i64 y, .int .i64 m, .int .i64 d] 107))
  refine Gr.region (by kernel_rfl) (by kernel_rfl) (Gr.draw0 _) ?_
  repeat (go_big_quiet_step ((go_at_call 110; exact Gr.calls _ (rlength_any _ _ _))))
  refine wpQuiet_nil ?_
  rintro _ ⟨g, rfl⟩
  go_wp2
  go_ret
  exact ⟨rfl, g.below1⟩
set_option maxHeartbeats 1000000 in
theorem rmay_no4 (y m d : Int) (w : World) (h0 : 1900 ≤ y) (h1 : y ≤ 2200) (h2 : 1 ≤ m) (h3 : m ≤ 12) (h4 : d < 1) :
    Calls Tryz.prog 136 #[.agg #[.int .i64 y, .int .i64 m, .int .i64 d]] w fun e w' => e = .returned (.bool false) ∧ Below w.heap.size w w' := by
  have hf : decide (1 ≤ d) = false := by simp; omega
  go_enter Tryz.func136, Tryz.ntmps136
  go_wp2
  have hc := @Gr.cell (w.alloc (.cells #[.int .i64 y, .int .i64 m, .int .i64 d] 107))
  refine Gr.region (by kernel_rfl) (by kernel_rfl) (Gr.draw0 _) ?_
  repeat (go_big_quiet_step ((go_at_call 110; exact Gr.calls _ (rlength_any _ _ _))))
  refine wpQuiet_nil ?_
  rintro _ ⟨g, rfl⟩
  go_wp2
  go_ret
  exact ⟨rfl, g.below1⟩
set_option maxHeartbeats 1000000 in
theorem rmay_no5 (y m d : Int) (w : World) (h0 : 1900 ≤ y) (h1 : y ≤ 2200) (h2 : 1 ≤ m) (h3 : m ≤ 12) (h4 : 1 ≤ d) (h5 : lenI y m < d) :
    Calls Tryz.prog 136 #[.agg #[.int .i64 y, .int .i64 m, .int .i64 d]] w fun e w' => e = .returned (.bool false) ∧ Below w.heap.size w w' := by
  have hf : decide (d ≤ lenI y m) = false := by simp; omega
  go_enter Tryz.func136, Tryz.ntmps136
  go_wp2
  have hc := @Gr.cell (w.alloc (.cells #[.int .i64 y, .int .i64 m, .int .i64 d] 107))
  refine Gr.region (by kernel_rfl) (by kernel_rfl) (Gr.draw0 _) ?_
  repeat (go_big_quiet_step ((go_at_call 110; exact Gr.calls _ (rlength_any _ _ _))))
  refine wpQuiet_nil ?_
  rintro _ ⟨g, rfl⟩
  go_wp2
  go_ret
  exact ⟨rfl, g.below1⟩
set_option maxHeartbeats 1000000 in
theorem rmay_yes (y m d : Int) (w : World) (h0 : 1900 ≤ y) (h1 : y ≤ 2200) (h2 : 1 ≤ m) (h3 : m ≤ 12) (h4 : 1 ≤ d) (h5 : d ≤ lenI y m) :
    Calls Tryz.prog 136 #[.agg #[.int .i64 y, .int .i64 m, .int .i64 d]] w fun e w' => e = .returned (.bool true) ∧ Below w.heap.size w w' := by
  go_enter Tryz.func136, Tryz.ntmps136
  go_wp2
  have hc := @Gr.cell (w.alloc (.cells #[.int .i64 y, .int .i64 m, .int .i64 d] 107))
  refine Gr.region (by kernel_rfl) (by kernel_rfl) (Gr.draw0 _) ?_
  repeat (go_big_quiet_step ((go_at_call 110; exact Gr.calls _ (rlength_any _ _ _))))
  refine wpQuiet_nil ?_
  rintro _ ⟨g, rfl⟩
  go_wp2
  go_ret
  exact ⟨rfl, g.below1⟩
theorem may_any (y m d : Int) (w : World) :
    Calls Tryz.prog 163 #[.agg #[.int .i64 y, .int .i64 m, .int .i64 d]] w fun e w' => e = .returned (.bool (mayB y m d)) ∧ Below w.heap.size w w' := by
  by_cases hy : mayP y m d
  · have hm := may_month hy
    rw [may_iff.2 hy]
    obtain ⟨a, b, c, e⟩ := hy
    exact may_yes y m d w (by omega) (by omega) (by omega) (by omega)
  · rw [may_no.2 hy]
    unfold mayP at hy
    have hn := len_no y m
    by_cases h0 : y < 1900
    · exact may_no0 y m d w  h0
    by_cases h1 : 2200 < y
    · exact may_no1 y m d w (by omega) h1
    by_cases h2 : d < 1
    · exact may_no2 y m d w (by omega) (by omega) h2
    by_cases h3 : lenI y m < d
    · exact may_no3 y m d w (by omega) (by omega) (by omega) h3
    exact absurd ⟨by omega, by omega, by omega, by omega⟩ hy
theorem rmay_any (y m d : Int) (w : World) :
    Calls Tryz.prog 136 #[.agg #[.int .i64 y, .int .i64 m, .int .i64 d]] w fun e w' => e = .returned (.bool (mayB y m d)) ∧ Below w.heap.size w w' := by
  by_cases hy : mayP y m d
  · have hm := may_month hy
    rw [may_iff.2 hy]
    obtain ⟨a, b, c, e⟩ := hy
    exact rmay_yes y m d w (by omega) (by omega) (by omega) (by omega) (by omega) (by omega)
  · rw [may_no.2 hy]
    unfold mayP at hy
    have hn := len_no y m
    by_cases h0 : y < 1900
    · exact rmay_no0 y m d w  h0
    by_cases h1 : 2200 < y
    · exact rmay_no1 y m d w (by omega) h1
    by_cases h2 : m < 1
    · exact rmay_no2 y m d w (by omega) (by omega) h2
    by_cases h3 : 12 < m
    · exact rmay_no3 y m d w (by omega) (by omega) (by omega) h3
    by_cases h4 : d < 1
    · exact rmay_no4 y m d w (by omega) (by omega) (by omega) (by omega) h4
    by_cases h5 : lenI y m < d
    · exact rmay_no5 y m d w (by omega) (by omega) (by omega) (by omega) (by omega) h5
    exact absurd ⟨by omega, by omega, by omega, by omega⟩ hy
end Go.Proofs.YtfjmofefciopmaaGreat
end
section
namespace Go.Proofs.YtfjmofefciopmaaGreat
open Go.ChangeShapes Go.WideShapes Go.ChangeAt Go.RowKit Cal
set_option maxHeartbeats 1000000 in
theorem doy_any (y m d : Int) (w : World) (hm1 : 1 ≤ m) (hm2 : m ≤ 12) (hd1 : 1 ≤ d) (hd2 : d ≤ 31) :
    Calls Tryz.prog 164 #[.agg #[.int .i64 y, .int .i64 m, .int .i64 d]] w fun e w' => e = .returned (.int .i64 (d + cumI y m)) ∧ Below w.heap.size w w' := by
  go_enter Tryz.func164, Tryz.ntmps164
  go_wp2
  go_loop [3, 4] (fun n k => ∃ j : Int, 1 ≤ j ∧ j ≤ m ∧ k = .int .i64 j ∧ n = .int .i64 (d + cumI y j)) (fun _ k => (12 - intOf k).toNat)
  case atStart => exact ⟨1, by omega, by omega, rfl, by rw [cum_one]; simp⟩
  case round =>
    obtain ⟨j, hj1, hj2, rfl, rfl⟩ := hrel
    have cb := cum_bd y j
    have lb := len_bd y j
    by_cases hlt : j < m
    · have hs : Hid (cumI y (j + 1) = cumI y j + lenI y j) := cum_succ y j hj1 (by omega)
      go_wp2_with (go_at_call 150; refine (length_any _ _ _).mono ?_; rintro e w' ⟨rfl, rfl⟩)
      go_round
      case rel => exact ⟨j + 1, by omega, by omega, rfl, by rw [hs.out]; congr 1; omega⟩
      case measure => simp [intOf]; omega
    · obtain rfl : j = m := by omega
      go_wp2
      go_ret
      exact ⟨rfl, (Below.refl _ _).alloc (Nat.le_refl _) _⟩
set_option maxHeartbeats 1000000 in
theorem number_no (y m d : Int) (w : World) (h : mayB y m d = false) :
    Calls Tryz.prog 158 #[.agg #[.int .i64 y, .int .i64 m, .int .i64 d]] w fun e w' => e = .returned (.tuple #[.int .i64 0, .bool false]) ∧ Below w.heap.size w w' := by
  have hc := @Gr.cell (w.alloc (.cells #[.int .i64 y, .int .i64 m, .int .i64 d] 107))
  go_enter Tryz.func158, Tryz.ntmps158
  go_wp2_with (go_at_call 163; refine (may_any _ _ _ _).mono ?_; rintro e w' ⟨rfl, hb⟩; obtain ⟨g, rfl⟩ := Gr.of hb; clear hb)
  go_ret2
  exact ⟨rfl, g.below1⟩
set_option maxHeartbeats 1000000 in
theorem number_yes (y m d : Int) (w : World) (h : mayP y m d) :
    Calls Tryz.prog 158 #[.agg #[.int .i64 y, .int .i64 m, .int .i64 d]] w fun e w' => e = .returned (.tuple #[.int .i64 (numI y m d), .bool true]) ∧ Below w.heap.size w w' := by
  have hb := may_iff.2 h
  have hm := may_month h
  have hd := len_bd y m
  have hn := num_bd h
  have hy := ys_bd y (by unfold mayP at h; omega) (by unfold mayP at h; omega)
  have hcb := cum_bd y m
  obtain ⟨h1, h2, h3, h4⟩ := h
  have he : numI y m d = ys y + (d + cumI y m) - 1 := by unfold numI; omega
  have e1 : IntKind.i64.wrap (ys y + (d + cumI y m)) = ys y + (d + cumI y m) := IntWalk.i64_in _ (by omega)
  have e2 : IntKind.i64.wrap (ys y + (d + cumI y m) - 1) = ys y + (d + cumI y m) - 1 := IntWalk.i64_in _ (by omega)
  rw [he]; clear he hn
  have hc := @Gr.cell (w.alloc (.cells #[.int .i64 y, .int .i64 m, .int .i64 d] 107))
  go_enter Tryz.func158, Tryz.ntmps158
  go_wp2_with (go_at_call 163; refine (may_any _ _ _ _).mono ?_; rintro e w' ⟨rfl, hb⟩; obtain ⟨g, rfl⟩ := Gr.of hb; clear hb)
  refine Gr.region (by kernel_rfl) (by kernel_rfl) (Gr.draw _) ?_
  repeat (go_big_quiet_step ((first | (go_at_call 149; exact Gr.calls_same _ (ys_any _ (by omega) (by omega) _)) | (go_at_call 164; exact Gr.calls _ (doy_any _ _ _ _ (by omega) (by omega) (by omega) (by omega))))))
  refine wpQuiet_nil ?_
  rintro _ ⟨g2, rfl⟩
  go_wp2
  go_ret2
  exact ⟨rfl, g2.below1⟩
end Go.Proofs.YtfjmofefciopmaaGreat
end
section
namespace Go.Proofs.YtfjmofefciopmaaGreat
open Go.ChangeShapes Go.WideShapes Go.ChangeAt Go.RowKit Cal
set_option maxHeartbeats 2000000 in
theorem date_yes (n : Int) (w : World) (h1 : 0 ≤ n) (h2 : n ≤ 109937) :
    Calls Tryz.prog 139 #[.int .i64 n] w fun e w' => e = .returned (.tuple #[.agg #[.int .i64 (yOf n), .int .i64 (mOf n), .int .i64 (dOf n)], .bool true]) ∧ Below w.heap.size w w' := by
  have g0 := ys_guess n h1
  go_enter Tryz.func139, Tryz.ntmps139
  go_wp2
  go_loop [4] (fun t => ∃ y : Int, 1900 ≤ y ∧ y ≤ 2200 ∧ ys y ≤ n ∧ t = .int .i64 y) (fun t => (2201 - intOf t).toNat)
  case atStart => exact ⟨_, by omega, by omega, g0, rfl⟩
  case round =>
    obtain ⟨y, hy1, hy2, hy3, rfl⟩ := hrel
    have hb := ys_bd y hy1 (by omega)
    have hb' := ys_bd (y + 1) (by omega) (by omega)
    clear g0
    by_cases hc : ys (y + 1) ≤ n
    · have hr := year_room y n hc h2
      go_wp2_with (go_at_call 149; refine (ys_any _ (by omega) (by omega) _).mono ?_; rintro e w' ⟨rfl, rfl⟩)
      go_round
      case rel => exact ⟨y + 1, by omega, by omega, hc, rfl⟩
      case measure => simp [intOf]; omega
    · have hz : n < ys (y + 1) := by omega
      have hl := Hid.out (p := n - ys y - cumI y 12 < lenI y 12) (last_month y n hz)
      have hl2 : Hid (n - ys y - cumI y 12 < lenI y 12) := hl
      clear hl
      go_wp2_with (go_at_call 149; refine (ys_any _ (by omega) (by omega) _).mono ?_; rintro e w' ⟨rfl, rfl⟩)
      go_loop [5, 6] (fun r k => ∃ m : Int, 1 ≤ m ∧ m ≤ 12 ∧ k = .int .i64 m ∧ 0 ≤ n - ys y - cumI y m ∧ r = .int .i64 (n - ys y - cumI y m)) (fun _ k => (12 - intOf k).toNat)
      case atStart => exact ⟨1, by omega, by omega, rfl, by rw [cum_one]; omega, by rw [cum_one]; simp⟩
      case round =>
        obtain ⟨m, hm1, hm2, rfl, hr, rfl⟩ := hrel
        have cb := cum_bd y m
        have db := len_bd y m
        by_cases hd : lenI y m ≤ n - ys y - cumI y m
        · have hm : m < 12 := by
            apply Decidable.byContradiction; intro hx
            obtain rfl : m = 12 := by omega
            have := hl2.out
            omega
          have cs : Hid (cumI y (m + 1) = cumI y m + lenI y m) := cum_succ y m hm1 hm2
          go_wp2_with (go_at_call 150; refine (length_any _ _ _).mono ?_; rintro e w' ⟨rfl, rfl⟩)
          go_round
          case rel => exact ⟨m + 1, by omega, by omega, rfl, by rw [cs.out]; omega, by rw [cs.out]; congr 1; omega⟩
          case measure => simp [intOf]; omega
        · have E : Hid (yOf n = y ∧ mOf n = m ∧ dOf n = n - ys y - cumI y m + 1) := date_at hy1 hy2 hr (by omega)
          have hd' : n - ys y - cumI y m < lenI y m := by omega
          go_wp2_with (go_at_call 150; refine (length_any _ _ _).mono ?_; rintro e w' ⟨rfl, rfl⟩)
          refine bodyPost_ret (v := .tuple #[.agg #[.int .i64 y, .int .i64 m, .int .i64 (n - ys y - cumI y m + 1)], .bool true]) (by simp [results, Tryz.results139, go_sem]) rfl ⟨by rw [E.out.1, E.out.2.1, E.out.2.2], ?_⟩
          exact (Below.refl _ _).alloc (Nat.le_refl _) _
set_option maxHeartbeats 4000000 in
theorem rdate_yes (n : Int) (w : World) (h1 : 0 ≤ n) (h2 : n ≤ 109937) :
    Calls Tryz.prog 108 #[.int .i64 n] w fun e w' => e = .returned (.tuple #[.agg #[.int .i64 (yOf n), .int .i64 (mOf n), .int .i64 (dOf n)], .bool true]) ∧ Below w.heap.size w w' := by
  obtain ⟨hc0, hc1, hc2⟩ := @Gr.three w (.int .i64 0) (.int .i64 0) (.int .i64 0) 107
  have hf := @Gr.free1 w #[.int .i64 0, .int .i64 0, .int .i64 0] 107
  go_enter Tryz.func108, Tryz.ntmps108
  go_wp2
  go_loop [0, 4, 5] (fun r t k => ∃ y : Int, 1900 ≤ y ∧ y ≤ 2200 ∧ ys y ≤ n ∧ t = .int .i64 y ∧ r = .int .i64 (n - ys y)) (fun _ t _ => (2201 - intOf t).toNat)
  case atStart => exact ⟨1900, by omega, by omega, by rw [ys_1900]; omega, rfl, by rw [ys_1900]; simp⟩
  case round =>
    obtain ⟨y, hy1, hy2, hy3, rfl, rfl⟩ := hrel
    have hb := ys_bd y hy1 (by omega)
    have hs := ys_succ y
    have hl := lp01 y
    by_cases hcc : ys (y + 1) ≤ n
    · have hr := year_room y n hcc h2
      by_cases hlb : leapB y = true
      · have hk : lp y = 1 := by simpa [leapB] using hlb
        have S : Hid (ys (y + 1) = ys y + 366) := by show _ = _; omega
        have ht : ¬ n - ys y < 366 := by omega
        clear hs hk
        go_wp2_with (go_at_call 135; refine (rleap_any _ _).mono ?_; rintro e w' ⟨rfl, rfl⟩)
        go_round
        case rel => exact ⟨y + 1, by omega, by omega, hcc, rfl, by rw [S.out]; congr 1; omega⟩
        case measure => simp [intOf]; omega
      · have hk : lp y = 0 := by simp [leapB] at hlb; omega
        have S : Hid (ys (y + 1) = ys y + 365) := by show _ = _; omega
        have ht : ¬ n - ys y < 365 := by omega
        have hlb' : leapB y = false := by simpa using hlb
        clear hs hk hlb
        go_wp2_with (go_at_call 135; refine (rleap_any _ _).mono ?_; rintro e w' ⟨rfl, rfl⟩)
        go_round
        case rel => exact ⟨y + 1, by omega, by omega, hcc, rfl, by rw [S.out]; congr 1; omega⟩
        case measure => simp [intOf]; omega
    · have hz : n < ys (y + 1) := by omega
      have hl2 : Hid (n - ys y - cumI y 12 < lenI y 12) := last_month y n hz
      by_cases hlb : leapB y = true
      · have hk : lp y = 1 := by simpa [leapB] using hlb
        have ht : n - ys y < 366 := by omega
        clear hs hk
        go_wp2_with (go_at_call 135; refine (rleap_any _ _).mono ?_; rintro e w' ⟨rfl, rfl⟩)
        obtain ⟨g0, hg0⟩ := Gr.start (w.alloc (.cells #[.int .i64 0, .int .i64 0, .int .i64 0] 107))
        go_loopw [0, 6] (fun r k wr => ∃ g : Gr (w.alloc (.cells #[.int .i64 0, .int .i64 0, .int .i64 0] 107)), wr = g.val ∧ ∃ m : Int, 1 ≤ m ∧ m ≤ 12 ∧ k = .int .i64 m ∧ 0 ≤ n - ys y - cumI y m ∧ r = .int .i64 (n - ys y - cumI y m)) (fun _ k _ => (12 - intOf k).toNat)
        case atStart => exact ⟨g0, hg0, 1, by omega, by omega, rfl, by rw [cum_one]; omega, by rw [cum_one]; simp⟩
        case round =>
          obtain ⟨g, rfl, m, hm1, hm2, rfl, hr, rfl⟩ := hrel
          have cb := cum_bd y m
          have db := len_bd y m
          by_cases hd : lenI y m ≤ n - ys y - cumI y m
          · have hm : m < 12 := by
              apply Decidable.byContradiction; intro hx
              obtain rfl : m = 12 := by omega
              have := hl2.out
              omega
            have cs : Hid (cumI y (m + 1) = cumI y m + lenI y m) := cum_succ y m hm1 hm2
            go_wp2_with (go_at_call 110; refine (rlength_any _ _ _).mono ?_; rintro e w' ⟨rfl, hb⟩; obtain ⟨g, rfl⟩ := g.on hb; clear hb)
            go_roundw
            case rel => exact ⟨_, rfl, m + 1, by omega, by omega, rfl, by rw [cs.out]; omega, by rw [cs.out]; congr 1; omega⟩
            case measure => simp [intOf]; omega
          · have E : Hid (yOf n = y ∧ mOf n = m ∧ dOf n = n - ys y - cumI y m + 1) := date_at hy1 hy2 hr (by omega)
            have hd' : n - ys y - cumI y m < lenI y m := by omega
            go_wp2_with (go_at_call 110; refine (rlength_any _ _ _).mono ?_; rintro e w' ⟨rfl, hb⟩; obtain ⟨g, rfl⟩ := g.on hb; clear hb)
            refine bodyPost_ret (v := .tuple #[.agg #[.int .i64 y, .int .i64 m, .int .i64 (n - ys y - cumI y m + 1)], .bool true]) (by simp [results, Tryz.results108, go_sem, hc0, hc1, hc2]) rfl ?_
            exact ⟨by rw [E.out.1, E.out.2.1, E.out.2.2], Gr.below_set3 g 0 1 2 _ _ _⟩
      · have hk : lp y = 0 := by simp [leapB] at hlb; omega
        have ht : n - ys y < 365 := by omega
        have hlb' : leapB y = false := by simpa using hlb
        clear hs hk hlb
        go_wp2_with (go_at_call 135; refine (rleap_any _ _).mono ?_; rintro e w' ⟨rfl, rfl⟩)
        obtain ⟨g0, hg0⟩ := Gr.start (w.alloc (.cells #[.int .i64 0, .int .i64 0, .int .i64 0] 107))
        go_loopw [0, 6] (fun r k wr => ∃ g : Gr (w.alloc (.cells #[.int .i64 0, .int .i64 0, .int .i64 0] 107)), wr = g.val ∧ ∃ m : Int, 1 ≤ m ∧ m ≤ 12 ∧ k = .int .i64 m ∧ 0 ≤ n - ys y - cumI y m ∧ r = .int .i64 (n - ys y - cumI y m)) (fun _ k _ => (12 - intOf k).toNat)
        case atStart => exact ⟨g0, hg0, 1, by omega, by omega, rfl, by rw [cum_one]; omega, by rw [cum_one]; simp⟩
        case round =>
          obtain ⟨g, rfl, m, hm1, hm2, rfl, hr, rfl⟩ := hrel
          have cb := cum_bd y m
          have db := len_bd y m
          by_cases hd : lenI y m ≤ n - ys y - cumI y m
          · have hm : m < 12 := by
              apply Decidable.byContradiction; intro hx
              obtain rfl : m = 12 := by omega
              have := hl2.out
              omega
            have cs : Hid (cumI y (m + 1) = cumI y m + lenI y m) := cum_succ y m hm1 hm2
            go_wp2_with (go_at_call 110; refine (rlength_any _ _ _).mono ?_; rintro e w' ⟨rfl, hb⟩; obtain ⟨g, rfl⟩ := g.on hb; clear hb)
            go_roundw
            case rel => exact ⟨_, rfl, m + 1, by omega, by omega, rfl, by rw [cs.out]; omega, by rw [cs.out]; congr 1; omega⟩
            case measure => simp [intOf]; omega
          · have E : Hid (yOf n = y ∧ mOf n = m ∧ dOf n = n - ys y - cumI y m + 1) := date_at hy1 hy2 hr (by omega)
            have hd' : n - ys y - cumI y m < lenI y m := by omega
            go_wp2_with (go_at_call 110; refine (rlength_any _ _ _).mono ?_; rintro e w' ⟨rfl, hb⟩; obtain ⟨g, rfl⟩ := g.on hb; clear hb)
            refine bodyPost_ret (v := .tuple #[.agg #[.int .i64 y, .int .i64 m, .int .i64 (n - ys y - cumI y m + 1)], .bool true]) (by simp [results, Tryz.results108, go_sem, hc0, hc1, hc2]) rfl ?_
            exact ⟨by rw [E.out.1, E.out.2.1, E.out.2.2], Gr.below_set3 g 0 1 2 _ _ _⟩
set_option maxHeartbeats 2000000 in
theorem rnumber_yes (y m d : Int) (w : World) (h : mayP y m d) :
    Calls Tryz.prog 109 #[.agg #[.int .i64 y, .int .i64 m, .int .i64 d]] w fun e w' => e = .returned (.tuple #[.int .i64 (numI y m d), .bool true]) ∧ Below w.heap.size w w' := by
  obtain ⟨hc0, hc1, hc2⟩ := @Gr.three w (.int .i64 y) (.int .i64 m) (.int .i64 d) 107
  have hb := may_iff.2 h
  have hm := may_month h
  have hd := len_bd y m
  have hmc := cum_bd y m
  have hN : Hid (numI y m d = d - 1 + cumI y m + ys y) := by show _ = _; unfold numI; omega
  obtain ⟨h1, h2, h3, h4⟩ := h
  go_enter Tryz.func109, Tryz.ntmps109
  go_wp2_with (go_at_call 136; refine (rmay_any _ _ _ _).mono ?_; rintro e w' ⟨rfl, hb⟩; obtain ⟨g, rfl⟩ := Gr.of hb; clear hb)
  have hg0 : ∃ g' : Gr (w.alloc (.cells #[.int .i64 y, .int .i64 m, .int .i64 d] 107)), g.val = g'.val := ⟨g, rfl⟩
  go_loopw [4, 5] (fun r k wr => ∃ g : Gr (w.alloc (.cells #[.int .i64 y, .int .i64 m, .int .i64 d] 107)), wr = g.val ∧ ∃ j : Int, 1 ≤ j ∧ j ≤ m ∧ k = .int .i64 j ∧ r = .int .i64 (d - 1 + cumI y j)) (fun _ k _ => (12 - intOf k).toNat)
  case atStart => exact ⟨_, rfl, 1, by omega, by omega, rfl, by rw [cum_one]; simp⟩
  case round =>
    obtain ⟨g, rfl, j, hj1, hj2, rfl, rfl⟩ := hrel
    have cb := cum_bd y j
    have lb := len_bd y j
    by_cases hlt : j < m
    · have cs : Hid (cumI y (j + 1) = cumI y j + lenI y j) := cum_succ y j hj1 (by omega)
      go_wp2_with (go_at_call 110; refine (rlength_any _ _ _).mono ?_; rintro e w' ⟨rfl, hb⟩; obtain ⟨g, rfl⟩ := g.on hb; clear hb)
      go_roundw
      case rel => exact ⟨_, rfl, j + 1, by omega, by omega, rfl, by rw [cs.out]; congr 1; omega⟩
      case measure => simp [intOf]; omega
    · obtain rfl : j = m := by omega
      go_wp2
      go_loop [4, 6] (fun r k => ∃ t : Int, 1900 ≤ t ∧ t ≤ y ∧ k = .int .i64 t ∧ r = .int .i64 (d - 1 + cumI y j + ys t)) (fun _ k => (y - intOf k).toNat)
      case atStart => exact ⟨1900, by omega, by omega, rfl, by rw [ys_1900]; simp⟩
      case round =>
        obtain ⟨t, ht1, ht2, rfl, rfl⟩ := hrel
        have yb := ys_bd t ht1 (by omega)
        by_cases hlt2 : t < y
        · have hl := lp01 t
          have hs := ys_succ t
          by_cases hlb : leapB t = true
          · have hk : lp t = 1 := by simpa [leapB] using hlb
            have S : Hid (ys (t + 1) = ys t + 366) := by show _ = _; omega
            clear hs hk
            go_wp2_with (go_at_call 135; refine (rleap_any _ _).mono ?_; rintro e w' ⟨rfl, rfl⟩)
            go_round
            case rel => exact ⟨t + 1, by omega, by omega, rfl, by rw [S.out]; congr 1; omega⟩
            case measure => simp [intOf]; omega
          · have hk : lp t = 0 := by simp [leapB] at hlb; omega
            have S : Hid (ys (t + 1) = ys t + 365) := by show _ = _; omega
            have hlb' : leapB t = false := by simpa using hlb
            clear hs hk hlb
            go_wp2_with (go_at_call 135; refine (rleap_any _ _).mono ?_; rintro e w' ⟨rfl, rfl⟩)
            go_round
            case rel => exact ⟨t + 1, by omega, by omega, rfl, by rw [S.out]; congr 1; omega⟩
            case measure => simp [intOf]; omega
        · obtain rfl : t = y := by omega
          go_wp2
          go_ret2
          exact ⟨by rw [hN.out]; rfl, g.below1⟩
end Go.Proofs.YtfjmofefciopmaaGreat
end
section
namespace Go.Proofs.YtfjmofefciopmaaGreat
open Go.ChangeShapes Go.WideShapes Go.ChangeAt Go.RowKit Ck
end Go.Proofs.YtfjmofefciopmaaGreat
end
