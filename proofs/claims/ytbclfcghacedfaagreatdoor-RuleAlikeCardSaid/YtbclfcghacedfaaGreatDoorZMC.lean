import Derived.Test.YtbclfcghacedfaaGreatDoorRows
import Derived.Test.YtbclfcghacedfaaGreatDoorZMA
import Derived.WalkKit
import Derived.ProofKit
import Derived.OpenShut
import Derived.Deep.QuietTactic
import Derived.BigQuiet
import Derived.Test.YtbclfcghacedfaaGreatDoorZMB
import Derived.Lib.Hide
/- Contracts of the calendar's small functions. -/
section
namespace Go.Proofs.YtbclfcghacedfaaGreatDoor
open Go.ChangeShapes Go.WideShapes Go.ChangeAt Go.RowKit Cal

theorem leap_mk (y : Int) : leapB y = decide (y % 4 = 0 ∧ (y % 100 ≠ 0 ∨ y % 400 = 0)) := by
  unfold leapB lp; split <;> simp_all

theorem tmod_beq (y k : Int) : (y.tmod k == 0) = decide (y % k = 0) := by
  rw [Bool.eq_iff_iff]; simp [tmod_zero]

theorem tmod_bne (y k : Int) : (y.tmod k != 0) = !decide (y % k = 0) := by
  rw [bne, tmod_beq]

theorem leap_any (y : Int) (w : World) :
    Calls Tryz.prog 126 #[.int .i64 y] w fun e w' => e = .returned (.bool (leapB y)) ∧ w = w' := by
  rw [leap_mk]
  go_enter Tryz.func126, Tryz.ntmps126
  go_wp2
  all_goals go_ret
  all_goals refine ⟨?_, rfl⟩
  all_goals simp_all [tmod_zero, tmod_beq]

theorem rleap_any (y : Int) (w : World) :
    Calls Tryz.prog 93 #[.int .i64 y] w fun e w' => e = .returned (.bool (leapB y)) ∧ w = w' := by
  rw [leap_mk]
  go_enter Tryz.func93, Tryz.ntmps93
  go_wp2
  all_goals go_ret
  all_goals refine ⟨?_, rfl⟩
  all_goals simp_all [tmod_zero, tmod_beq, tmod_bne]
  all_goals omega

theorem length_any (y m : Int) (w : World) :
    Calls Tryz.prog 100 #[.int .i64 y, .int .i64 m] w fun e w' => e = .returned (.int .i64 (lenI y m)) ∧ w = w' := by
  unfold lenI
  by_cases h1 : m = 1 ∨ m = 3 ∨ m = 5 ∨ m = 7 ∨ m = 8 ∨ m = 10 ∨ m = 12
  · rw [if_pos h1]
    rcases h1 with rfl | rfl | rfl | rfl | rfl | rfl | rfl
    all_goals
      go_enter Tryz.func100, Tryz.ntmps100
      go_wp2
      go_ret
      exact ⟨rfl, rfl⟩
  · rw [if_neg h1]
    by_cases h2 : m = 4 ∨ m = 6 ∨ m = 9 ∨ m = 11
    · rw [if_pos h2]
      clear h1
      rcases h2 with rfl | rfl | rfl | rfl
      all_goals
        go_enter Tryz.func100, Tryz.ntmps100
        go_wp2
        go_ret
        exact ⟨rfl, rfl⟩
    · rw [if_neg h2]
      by_cases h3 : m = 2
      · rw [if_pos h3]
        clear h1 h2
        subst h3
        have hl := lp01 y
        by_cases hb : leapB y = true
        · have e1 : lp y = 1 := by simpa [leapB] using hb
          rw [e1]; clear e1
          go_enter Tryz.func100, Tryz.ntmps100
          go_wp2_with (go_at_call 126; refine (leap_any _ _).mono ?_; rintro e w' ⟨rfl, rfl⟩)
          go_ret
          exact ⟨rfl, rfl⟩
        · have e1 : lp y = 0 := by simp [leapB] at hb; omega
          rw [e1]; clear e1
          have hb' : leapB y = false := by simpa using hb
          go_enter Tryz.func100, Tryz.ntmps100
          go_wp2_with (go_at_call 126; refine (leap_any _ _).mono ?_; rintro e w' ⟨rfl, rfl⟩)
          go_ret
          exact ⟨rfl, rfl⟩
      · rw [if_neg h3]
        go_enter Tryz.func100, Tryz.ntmps100
        go_wp2_with fail
        all_goals go_ret
        all_goals exact ⟨rfl, rfl⟩

theorem bcell {W w1 : World} (hb : Below W.heap.size W w1) : (∀ b o, b < W.heap.size → w1.cell? ⟨b, o, none⟩ = W.cell? ⟨b, o, none⟩) ∧ (∀ b o, b < W.heap.size → w1.frozen? ⟨b, o, none⟩ = W.frozen? ⟨b, o, none⟩) :=
  ⟨fun b o h => hb.cell (p := ⟨b, o, none⟩) h, fun b o h => hb.frozen (p := ⟨b, o, none⟩) h⟩

set_option maxHeartbeats 4000000 in
theorem rlength_any (y m : Int) (w : World) :
    Calls Tryz.prog 94 #[.int .i64 y, .int .i64 m] w fun e w' => e = .returned (.int .i64 (lenI y m)) ∧ Below w.heap.size w w' := by
  by_cases h0 : m < 1 ∨ 12 < m
  · rw [len_no y m h0]
    rcases h0 with h0 | h0
    all_goals
      go_enter Tryz.func94, Tryz.ntmps94
      go_wp2
      go_ret
      exact ⟨rfl, (Below.refl _ _).alloc (Nat.le_refl _) _⟩
  · have h1 : 1 ≤ m := by omega
    have h2 : m ≤ 12 := by omega
    clear h0
    have h : m = 1 ∨ m = 2 ∨ m = 3 ∨ m = 4 ∨ m = 5 ∨ m = 6 ∨ m = 7 ∨ m = 8 ∨ m = 9 ∨ m = 10 ∨ m = 11 ∨ m = 12 := by omega
    clear h1 h2
    rcases h with rfl | h
    · go_enter Tryz.func94, Tryz.ntmps94
      go_wp2
      go_ret
      exact ⟨rfl, (Below.refl _ _).alloc (Nat.le_refl _) _⟩
    rcases h with rfl | h
    · have hl := lp01 y
      by_cases hb : leapB y = true
      · have e1 : lenI y 2 = 29 := by simp [leapB] at hb; simp [lenI, hb]
        rw [e1]; clear e1
        go_enter Tryz.func94, Tryz.ntmps94
        go_wp2_with (go_at_call 93; refine (rleap_any _ _).mono ?_; rintro e w' ⟨rfl, rfl⟩)
        go_ret
        exact ⟨rfl, (Below.refl _ _).alloc (Nat.le_refl _) _⟩
      · have e1 : lenI y 2 = 28 := by simp [leapB] at hb; simp [lenI]; omega
        rw [e1]; clear e1
        have hb' : leapB y = false := by simpa using hb
        go_enter Tryz.func94, Tryz.ntmps94
        go_wp2_with (go_at_call 93; refine (rleap_any _ _).mono ?_; rintro e w' ⟨rfl, rfl⟩)
        go_ret
        exact ⟨rfl, (Below.refl _ _).alloc (Nat.le_refl _) _⟩
    rcases h with rfl | rfl | rfl | rfl | rfl | rfl | rfl | rfl | rfl | rfl
    all_goals
      go_enter Tryz.func94, Tryz.ntmps94
      go_wp2
      go_ret
      exact ⟨rfl, (Below.refl _ _).alloc (Nat.le_refl _) _⟩

theorem lt_any (y : Int) (h1 : 0 ≤ y) (h2 : y ≤ 100000) (w : World) :
    Calls Tryz.prog 125 #[.int .i64 y] w fun e w' => e = .returned (.int .i64 (lt y)) ∧ w = w' := by
  unfold lt
  go_enter Tryz.func125, Tryz.ntmps125
  go_wp2
  go_ret
  exact ⟨rfl, rfl⟩

theorem ys_any (y : Int) (h1 : 1 ≤ y) (h2 : y ≤ 100000) (w : World) :
    Calls Tryz.prog 99 #[.int .i64 y] w fun e w' => e = .returned (.int .i64 (ys y)) ∧ w = w' := by
  have hb : 0 ≤ lt (y - 1) ∧ lt (y - 1) ≤ 100000 := by unfold lt; omega
  have hc : lt 1899 = 460 := by decide
  have he : ys y = (y - 1900) * 365 + lt (y - 1) - lt 1899 := by rw [hc]; rfl
  have hd : 0 ≤ lt 1899 ∧ lt 1899 ≤ 1000 := by rw [hc]; omega
  clear hc
  rw [he]; clear he
  go_enter Tryz.func99, Tryz.ntmps99
  go_wp2_with (go_at_call 125; refine (lt_any _ (by omega) (by omega) _).mono ?_; rintro e w' ⟨rfl, rfl⟩)
  go_ret
  exact ⟨rfl, rfl⟩


end Go.Proofs.YtbclfcghacedfaaGreatDoor
end

/- Contracts: may a date be, its number, its day of the year; the program's and the document's. -/
section
namespace Go.Proofs.YtbclfcghacedfaaGreatDoor
open Go.ChangeShapes Go.WideShapes Go.ChangeAt Go.RowKit Cal

set_option maxHeartbeats 1000000 in
theorem may_no0 (y m d : Int) (w : World)  (h0 : y < 1900) :
    Calls Tryz.prog 155 #[.agg #[.int .i64 y, .int .i64 m, .int .i64 d]] w fun e w' => e = .returned (.bool false) ∧ Below w.heap.size w w' := by
  have hf : decide (1900 ≤ y) = false := by simp; omega
  go_enter Tryz.func155, Tryz.ntmps155
  go_wp2
  have hc := @Gr.cell (w.alloc (.cells #[.int .i64 y, .int .i64 m, .int .i64 d] 87))
  refine Gr.region (by kernel_rfl) (by kernel_rfl) (Gr.draw0 _) ?_
  repeat (go_big_quiet_step ((go_at_call 100; exact Gr.calls_same _ (length_any _ _ _))))
  refine wpQuiet_nil ?_
  rintro _ ⟨g, rfl⟩
  go_wp2
  go_ret
  exact ⟨rfl, g.below1⟩

set_option maxHeartbeats 1000000 in
theorem may_no1 (y m d : Int) (w : World) (h0 : 1900 ≤ y) (h1 : 2200 < y) :
    Calls Tryz.prog 155 #[.agg #[.int .i64 y, .int .i64 m, .int .i64 d]] w fun e w' => e = .returned (.bool false) ∧ Below w.heap.size w w' := by
  have hf : decide (y ≤ 2200) = false := by simp; omega
  go_enter Tryz.func155, Tryz.ntmps155
  go_wp2
  have hc := @Gr.cell (w.alloc (.cells #[.int .i64 y, .int .i64 m, .int .i64 d] 87))
  refine Gr.region (by kernel_rfl) (by kernel_rfl) (Gr.draw0 _) ?_
  repeat (go_big_quiet_step ((go_at_call 100; exact Gr.calls_same _ (length_any _ _ _))))
  refine wpQuiet_nil ?_
  rintro _ ⟨g, rfl⟩
  go_wp2
  go_ret
  exact ⟨rfl, g.below1⟩

set_option maxHeartbeats 1000000 in
theorem may_no2 (y m d : Int) (w : World) (h0 : 1900 ≤ y) (h1 : y ≤ 2200) (h2 : d < 1) :
    Calls Tryz.prog 155 #[.agg #[.int .i64 y, .int .i64 m, .int .i64 d]] w fun e w' => e = .returned (.bool false) ∧ Below w.heap.size w w' := by
  have hf : decide (1 ≤ d) = false := by simp; omega
  go_enter Tryz.func155, Tryz.ntmps155
  go_wp2
  have hc := @Gr.cell (w.alloc (.cells #[.int .i64 y, .int .i64 m, .int .i64 d] 87))
  refine Gr.region (by kernel_rfl) (by kernel_rfl) (Gr.draw0 _) ?_
  repeat (go_big_quiet_step ((go_at_call 100; exact Gr.calls_same _ (length_any _ _ _))))
  refine wpQuiet_nil ?_
  rintro _ ⟨g, rfl⟩
  go_wp2
  go_ret
  exact ⟨rfl, g.below1⟩

set_option maxHeartbeats 1000000 in
theorem may_no3 (y m d : Int) (w : World) (h0 : 1900 ≤ y) (h1 : y ≤ 2200) (h2 : 1 ≤ d) (h3 : lenI y m < d) :
    Calls Tryz.prog 155 #[.agg #[.int .i64 y, .int .i64 m, .int .i64 d]] w fun e w' => e = .returned (.bool false) ∧ Below w.heap.size w w' := by
  have hf : decide (d ≤ lenI y m) = false := by simp; omega
  go_enter Tryz.func155, Tryz.ntmps155
  go_wp2
  have hc := @Gr.cell (w.alloc (.cells #[.int .i64 y, .int .i64 m, .int .i64 d] 87))
  refine Gr.region (by kernel_rfl) (by kernel_rfl) (Gr.draw0 _) ?_
  repeat (go_big_quiet_step ((go_at_call 100; exact Gr.calls_same _ (length_any _ _ _))))
  refine wpQuiet_nil ?_
  rintro _ ⟨g, rfl⟩
  go_wp2
  go_ret
  exact ⟨rfl, g.below1⟩

set_option maxHeartbeats 1000000 in
theorem may_yes (y m d : Int) (w : World) (h0 : 1900 ≤ y) (h1 : y ≤ 2200) (h2 : 1 ≤ d) (h3 : d ≤ lenI y m) :
    Calls Tryz.prog 155 #[.agg #[.int .i64 y, .int .i64 m, .int .i64 d]] w fun e w' => e = .returned (.bool true) ∧ Below w.heap.size w w' := by
  go_enter Tryz.func155, Tryz.ntmps155
  go_wp2
  have hc := @Gr.cell (w.alloc (.cells #[.int .i64 y, .int .i64 m, .int .i64 d] 87))
  refine Gr.region (by kernel_rfl) (by kernel_rfl) (Gr.draw0 _) ?_
  repeat (go_big_quiet_step ((go_at_call 100; exact Gr.calls_same _ (length_any _ _ _))))
  refine wpQuiet_nil ?_
  rintro _ ⟨g, rfl⟩
  go_wp2
  go_ret
  exact ⟨rfl, g.below1⟩

theorem may_any (y m d : Int) (w : World) :
    Calls Tryz.prog 155 #[.agg #[.int .i64 y, .int .i64 m, .int .i64 d]] w fun e w' => e = .returned (.bool (mayB y m d)) ∧ Below w.heap.size w w' := by
  by_cases hy : mayP y m d
  · have hm := may_month hy
    rw [may_iff.2 hy]
    obtain ⟨a, b, c, e⟩ := hy
    exact may_yes y m d w (by omega) (by omega) (by omega) (by omega)
  · rw [may_no.2 hy]
    unfold mayP at hy
    have hn := len_no y m
    by_cases h0 : y < 1900
    · exact may_no0 y m d w  h0
    by_cases h1 : 2200 < y
    · exact may_no1 y m d w (by omega) h1
    by_cases h2 : d < 1
    · exact may_no2 y m d w (by omega) (by omega) h2
    by_cases h3 : lenI y m < d
    · exact may_no3 y m d w (by omega) (by omega) (by omega) h3
    exact absurd ⟨by omega, by omega, by omega, by omega⟩ hy


end Go.Proofs.YtbclfcghacedfaaGreatDoor
end

/- Contracts: a date's number and its day of the year. -/
section
namespace Go.Proofs.YtbclfcghacedfaaGreatDoor
open Go.ChangeShapes Go.WideShapes Go.ChangeAt Go.RowKit Cal

set_option maxHeartbeats 1000000 in
theorem doy_any (y m d : Int) (w : World) (hm1 : 1 ≤ m) (hm2 : m ≤ 12) (hd1 : 1 ≤ d) (hd2 : d ≤ 31) :
    Calls Tryz.prog 156 #[.agg #[.int .i64 y, .int .i64 m, .int .i64 d]] w fun e w' => e = .returned (.int .i64 (d + cumI y m)) ∧ Below w.heap.size w w' := by
  go_enter Tryz.func156, Tryz.ntmps156
  go_wp2
  go_loop [3, 4] (fun n k => ∃ j : Int, 1 ≤ j ∧ j ≤ m ∧ k = .int .i64 j ∧ n = .int .i64 (d + cumI y j)) (fun _ k => (12 - intOf k).toNat)
  case atStart => exact ⟨1, by omega, by omega, rfl, by rw [cum_one]; simp⟩
  case round =>
    obtain ⟨j, hj1, hj2, rfl, rfl⟩ := hrel
    have cb := cum_bd y j
    have lb := len_bd y j
    by_cases hlt : j < m
    · have hs : Hid (cumI y (j + 1) = cumI y j + lenI y j) := cum_succ y j hj1 (by omega)
      go_wp2_with (go_at_call 100; refine (length_any _ _ _).mono ?_; rintro e w' ⟨rfl, rfl⟩)
      go_round
      case rel => exact ⟨j + 1, by omega, by omega, rfl, by rw [hs.out]; congr 1; omega⟩
      case measure => simp [intOf]; omega
    · obtain rfl : j = m := by omega
      go_wp2
      go_ret
      exact ⟨rfl, (Below.refl _ _).alloc (Nat.le_refl _) _⟩

set_option maxHeartbeats 1000000 in
theorem number_no (y m d : Int) (w : World) (h : mayB y m d = false) :
    Calls Tryz.prog 141 #[.agg #[.int .i64 y, .int .i64 m, .int .i64 d]] w fun e w' => e = .returned (.tuple #[.int .i64 0, .bool false]) ∧ Below w.heap.size w w' := by
  have hc := @Gr.cell (w.alloc (.cells #[.int .i64 y, .int .i64 m, .int .i64 d] 87))
  go_enter Tryz.func141, Tryz.ntmps141
  go_wp2_with (go_at_call 155; refine (may_any _ _ _ _).mono ?_; rintro e w' ⟨rfl, hb⟩; obtain ⟨g, rfl⟩ := Gr.of hb; clear hb)
  go_ret2
  exact ⟨rfl, g.below1⟩

set_option maxHeartbeats 1000000 in
theorem number_yes (y m d : Int) (w : World) (h : mayP y m d) :
    Calls Tryz.prog 141 #[.agg #[.int .i64 y, .int .i64 m, .int .i64 d]] w fun e w' => e = .returned (.tuple #[.int .i64 (numI y m d), .bool true]) ∧ Below w.heap.size w w' := by
  have hb := may_iff.2 h
  have hm := may_month h
  have hd := len_bd y m
  have hn := num_bd h
  have hy := ys_bd y (by unfold mayP at h; omega) (by unfold mayP at h; omega)
  have hcb := cum_bd y m
  obtain ⟨h1, h2, h3, h4⟩ := h
  have he : numI y m d = ys y + (d + cumI y m) - 1 := by unfold numI; omega
  have e1 : IntKind.i64.wrap (ys y + (d + cumI y m)) = ys y + (d + cumI y m) := IntWalk.i64_in _ (by omega)
  have e2 : IntKind.i64.wrap (ys y + (d + cumI y m) - 1) = ys y + (d + cumI y m) - 1 := IntWalk.i64_in _ (by omega)
  rw [he]; clear he hn
  have hc := @Gr.cell (w.alloc (.cells #[.int .i64 y, .int .i64 m, .int .i64 d] 87))
  go_enter Tryz.func141, Tryz.ntmps141
  go_wp2_with (go_at_call 155; refine (may_any _ _ _ _).mono ?_; rintro e w' ⟨rfl, hb⟩; obtain ⟨g, rfl⟩ := Gr.of hb; clear hb)
  refine Gr.region (by kernel_rfl) (by kernel_rfl) (Gr.draw _) ?_
  repeat (go_big_quiet_step ((first | (go_at_call 99; exact Gr.calls_same _ (ys_any _ (by omega) (by omega) _)) | (go_at_call 156; exact Gr.calls _ (doy_any _ _ _ _ (by omega) (by omega) (by omega) (by omega))))))
  refine wpQuiet_nil ?_
  rintro _ ⟨g2, rfl⟩
  go_wp2
  go_ret2
  exact ⟨rfl, g2.below1⟩
end Go.Proofs.YtbclfcghacedfaaGreatDoor
end

/- Contracts: the date of a number; the document's number of a date. -/
section
namespace Go.Proofs.YtbclfcghacedfaaGreatDoor
open Go.ChangeShapes Go.WideShapes Go.ChangeAt Go.RowKit Cal

set_option maxHeartbeats 1000000 in
theorem date_no (n : Int) (w : World) (h : n < 0 ∨ 109937 < n) :
    Calls Tryz.prog 70 #[.int .i64 n] w fun e w' => e = .returned (.tuple #[.agg #[.int .i64 0, .int .i64 0, .int .i64 0], .bool false]) ∧ Below w.heap.size w w' := by
  rcases h with h | h
  all_goals
    go_enter Tryz.func70, Tryz.ntmps70
    go_wp2
    exact bodyPost_ret (v := .tuple #[.agg #[.int .i64 0, .int .i64 0, .int .i64 0], .bool false]) (by simp [results, Tryz.results70, go_sem]) rfl ⟨rfl, (Below.refl _ _).alloc (Nat.le_refl _) _⟩

set_option maxHeartbeats 2000000 in
theorem date_yes (n : Int) (w : World) (h1 : 0 ≤ n) (h2 : n ≤ 109937) :
    Calls Tryz.prog 70 #[.int .i64 n] w fun e w' => e = .returned (.tuple #[.agg #[.int .i64 (yOf n), .int .i64 (mOf n), .int .i64 (dOf n)], .bool true]) ∧ Below w.heap.size w w' := by
  have g0 := ys_guess n h1
  go_enter Tryz.func70, Tryz.ntmps70
  go_wp2
  go_loop [4] (fun t => ∃ y : Int, 1900 ≤ y ∧ y ≤ 2200 ∧ ys y ≤ n ∧ t = .int .i64 y) (fun t => (2201 - intOf t).toNat)
  case atStart => exact ⟨_, by omega, by omega, g0, rfl⟩
  case round =>
    obtain ⟨y, hy1, hy2, hy3, rfl⟩ := hrel
    have hb := ys_bd y hy1 (by omega)
    have hb' := ys_bd (y + 1) (by omega) (by omega)
    clear g0
    by_cases hc : ys (y + 1) ≤ n
    · have hr := year_room y n hc h2
      go_wp2_with (go_at_call 99; refine (ys_any _ (by omega) (by omega) _).mono ?_; rintro e w' ⟨rfl, rfl⟩)
      go_round
      case rel => exact ⟨y + 1, by omega, by omega, hc, rfl⟩
      case measure => simp [intOf]; omega
    · have hz : n < ys (y + 1) := by omega
      have hl := Hid.out (p := n - ys y - cumI y 12 < lenI y 12) (last_month y n hz)
      have hl2 : Hid (n - ys y - cumI y 12 < lenI y 12) := hl
      clear hl
      go_wp2_with (go_at_call 99; refine (ys_any _ (by omega) (by omega) _).mono ?_; rintro e w' ⟨rfl, rfl⟩)
      go_loop [5, 6] (fun r k => ∃ m : Int, 1 ≤ m ∧ m ≤ 12 ∧ k = .int .i64 m ∧ 0 ≤ n - ys y - cumI y m ∧ r = .int .i64 (n - ys y - cumI y m)) (fun _ k => (12 - intOf k).toNat)
      case atStart => exact ⟨1, by omega, by omega, rfl, by rw [cum_one]; omega, by rw [cum_one]; simp⟩
      case round =>
        obtain ⟨m, hm1, hm2, rfl, hr, rfl⟩ := hrel
        have cb := cum_bd y m
        have db := len_bd y m
        by_cases hd : lenI y m ≤ n - ys y - cumI y m
        · have hm : m < 12 := by
            apply Decidable.byContradiction; intro hx
            obtain rfl : m = 12 := by omega
            have := hl2.out
            omega
          have cs : Hid (cumI y (m + 1) = cumI y m + lenI y m) := cum_succ y m hm1 hm2
          go_wp2_with (go_at_call 100; refine (length_any _ _ _).mono ?_; rintro e w' ⟨rfl, rfl⟩)
          go_round
          case rel => exact ⟨m + 1, by omega, by omega, rfl, by rw [cs.out]; omega, by rw [cs.out]; congr 1; omega⟩
          case measure => simp [intOf]; omega
        · have E : Hid (yOf n = y ∧ mOf n = m ∧ dOf n = n - ys y - cumI y m + 1) := date_at hy1 hy2 hr (by omega)
          have hd' : n - ys y - cumI y m < lenI y m := by omega
          go_wp2_with (go_at_call 100; refine (length_any _ _ _).mono ?_; rintro e w' ⟨rfl, rfl⟩)
          refine bodyPost_ret (v := .tuple #[.agg #[.int .i64 y, .int .i64 m, .int .i64 (n - ys y - cumI y m + 1)], .bool true]) (by simp [results, Tryz.results70, go_sem]) rfl ⟨by rw [E.out.1, E.out.2.1, E.out.2.2], ?_⟩
          exact (Below.refl _ _).alloc (Nat.le_refl _) _

set_option maxHeartbeats 1000000 in
theorem rdate_no (n : Int) (w : World) (h : n < 0 ∨ 109937 < n) :
    Calls Tryz.prog 67 #[.int .i64 n] w fun e w' => e = .returned (.tuple #[.agg #[.int .i64 0, .int .i64 0, .int .i64 0], .bool false]) ∧ Below w.heap.size w w' := by
  rcases h with h | h
  all_goals
    go_enter Tryz.func67, Tryz.ntmps67
    go_wp2
    exact bodyPost_ret (v := .tuple #[.agg #[.int .i64 0, .int .i64 0, .int .i64 0], .bool false]) (by simp [results, Tryz.results67, go_sem]) rfl ⟨rfl, (Below.refl _ _).alloc (Nat.le_refl _) _⟩

set_option maxHeartbeats 4000000 in
theorem rdate_yes (n : Int) (w : World) (h1 : 0 ≤ n) (h2 : n ≤ 109937) :
    Calls Tryz.prog 67 #[.int .i64 n] w fun e w' => e = .returned (.tuple #[.agg #[.int .i64 (yOf n), .int .i64 (mOf n), .int .i64 (dOf n)], .bool true]) ∧ Below w.heap.size w w' := by
  obtain ⟨hc0, hc1, hc2⟩ := @Gr.three w (.int .i64 0) (.int .i64 0) (.int .i64 0) 87
  have hf := @Gr.free1 w #[.int .i64 0, .int .i64 0, .int .i64 0] 87
  go_enter Tryz.func67, Tryz.ntmps67
  go_wp2
  go_loop [0, 4, 5] (fun r t k => ∃ y : Int, 1900 ≤ y ∧ y ≤ 2200 ∧ ys y ≤ n ∧ t = .int .i64 y ∧ r = .int .i64 (n - ys y)) (fun _ t _ => (2201 - intOf t).toNat)
  case atStart => exact ⟨1900, by omega, by omega, by rw [ys_1900]; omega, rfl, by rw [ys_1900]; simp⟩
  case round =>
    obtain ⟨y, hy1, hy2, hy3, rfl, rfl⟩ := hrel
    have hb := ys_bd y hy1 (by omega)
    have hs := ys_succ y
    have hl := lp01 y
    by_cases hcc : ys (y + 1) ≤ n
    · have hr := year_room y n hcc h2
      by_cases hlb : leapB y = true
      · have hk : lp y = 1 := by simpa [leapB] using hlb
        have S : Hid (ys (y + 1) = ys y + 366) := by show _ = _; omega
        have ht : ¬ n - ys y < 366 := by omega
        clear hs hk
        go_wp2_with (go_at_call 93; refine (rleap_any _ _).mono ?_; rintro e w' ⟨rfl, rfl⟩)
        go_round
        case rel => exact ⟨y + 1, by omega, by omega, hcc, rfl, by rw [S.out]; congr 1; omega⟩
        case measure => simp [intOf]; omega
      · have hk : lp y = 0 := by simp [leapB] at hlb; omega
        have S : Hid (ys (y + 1) = ys y + 365) := by show _ = _; omega
        have ht : ¬ n - ys y < 365 := by omega
        have hlb' : leapB y = false := by simpa using hlb
        clear hs hk hlb
        go_wp2_with (go_at_call 93; refine (rleap_any _ _).mono ?_; rintro e w' ⟨rfl, rfl⟩)
        go_round
        case rel => exact ⟨y + 1, by omega, by omega, hcc, rfl, by rw [S.out]; congr 1; omega⟩
        case measure => simp [intOf]; omega
    · have hz : n < ys (y + 1) := by omega
      have hl2 : Hid (n - ys y - cumI y 12 < lenI y 12) := last_month y n hz
      by_cases hlb : leapB y = true
      · have hk : lp y = 1 := by simpa [leapB] using hlb
        have ht : n - ys y < 366 := by omega
        clear hs hk
        go_wp2_with (go_at_call 93; refine (rleap_any _ _).mono ?_; rintro e w' ⟨rfl, rfl⟩)
        obtain ⟨g0, hg0⟩ := Gr.start (w.alloc (.cells #[.int .i64 0, .int .i64 0, .int .i64 0] 87))
        go_loopw [0, 6] (fun r k wr => ∃ g : Gr (w.alloc (.cells #[.int .i64 0, .int .i64 0, .int .i64 0] 87)), wr = g.val ∧ ∃ m : Int, 1 ≤ m ∧ m ≤ 12 ∧ k = .int .i64 m ∧ 0 ≤ n - ys y - cumI y m ∧ r = .int .i64 (n - ys y - cumI y m)) (fun _ k _ => (12 - intOf k).toNat)
        case atStart => exact ⟨g0, hg0, 1, by omega, by omega, rfl, by rw [cum_one]; omega, by rw [cum_one]; simp⟩
        case round =>
          obtain ⟨g, rfl, m, hm1, hm2, rfl, hr, rfl⟩ := hrel
          have cb := cum_bd y m
          have db := len_bd y m
          by_cases hd : lenI y m ≤ n - ys y - cumI y m
          · have hm : m < 12 := by
              apply Decidable.byContradiction; intro hx
              obtain rfl : m = 12 := by omega
              have := hl2.out
              omega
            have cs : Hid (cumI y (m + 1) = cumI y m + lenI y m) := cum_succ y m hm1 hm2
            go_wp2_with (go_at_call 94; refine (rlength_any _ _ _).mono ?_; rintro e w' ⟨rfl, hb⟩; obtain ⟨g, rfl⟩ := g.on hb; clear hb)
            go_roundw
            case rel => exact ⟨_, rfl, m + 1, by omega, by omega, rfl, by rw [cs.out]; omega, by rw [cs.out]; congr 1; omega⟩
            case measure => simp [intOf]; omega
          · have E : Hid (yOf n = y ∧ mOf n = m ∧ dOf n = n - ys y - cumI y m + 1) := date_at hy1 hy2 hr (by omega)
            have hd' : n - ys y - cumI y m < lenI y m := by omega
            go_wp2_with (go_at_call 94; refine (rlength_any _ _ _).mono ?_; rintro e w' ⟨rfl, hb⟩; obtain ⟨g, rfl⟩ := g.on hb; clear hb)
            refine bodyPost_ret (v := .tuple #[.agg #[.int .i64 y, .int .i64 m, .int .i64 (n - ys y - cumI y m + 1)], .bool true]) (by simp [results, Tryz.results67, go_sem, hc0, hc1, hc2]) rfl ?_
            exact ⟨by rw [E.out.1, E.out.2.1, E.out.2.2], Gr.below_set3 g 0 1 2 _ _ _⟩
      · have hk : lp y = 0 := by simp [leapB] at hlb; omega
        have ht : n - ys y < 365 := by omega
        have hlb' : leapB y = false := by simpa using hlb
        clear hs hk hlb
        go_wp2_with (go_at_call 93; refine (rleap_any _ _).mono ?_; rintro e w' ⟨rfl, rfl⟩)
        obtain ⟨g0, hg0⟩ := Gr.start (w.alloc (.cells #[.int .i64 0, .int .i64 0, .int .i64 0] 87))
        go_loopw [0, 6] (fun r k wr => ∃ g : Gr (w.alloc (.cells #[.int .i64 0, .int .i64 0, .int .i64 0] 87)), wr = g.val ∧ ∃ m : Int, 1 ≤ m ∧ m ≤ 12 ∧ k = .int .i64 m ∧ 0 ≤ n - ys y - cumI y m ∧ r = .int .i64 (n - ys y - cumI y m)) (fun _ k _ => (12 - intOf k).toNat)
        case atStart => exact ⟨g0, hg0, 1, by omega, by omega, rfl, by rw [cum_one]; omega, by rw [cum_one]; simp⟩
        case round =>
          obtain ⟨g, rfl, m, hm1, hm2, rfl, hr, rfl⟩ := hrel
          have cb := cum_bd y m
          have db := len_bd y m
          by_cases hd : lenI y m ≤ n - ys y - cumI y m
          · have hm : m < 12 := by
              apply Decidable.byContradiction; intro hx
              obtain rfl : m = 12 := by omega
              have := hl2.out
              omega
            have cs : Hid (cumI y (m + 1) = cumI y m + lenI y m) := cum_succ y m hm1 hm2
            go_wp2_with (go_at_call 94; refine (rlength_any _ _ _).mono ?_; rintro e w' ⟨rfl, hb⟩; obtain ⟨g, rfl⟩ := g.on hb; clear hb)
            go_roundw
            case rel => exact ⟨_, rfl, m + 1, by omega, by omega, rfl, by rw [cs.out]; omega, by rw [cs.out]; congr 1; omega⟩
            case measure => simp [intOf]; omega
          · have E : Hid (yOf n = y ∧ mOf n = m ∧ dOf n = n - ys y - cumI y m + 1) := date_at hy1 hy2 hr (by omega)
            have hd' : n - ys y - cumI y m < lenI y m := by omega
            go_wp2_with (go_at_call 94; refine (rlength_any _ _ _).mono ?_; rintro e w' ⟨rfl, hb⟩; obtain ⟨g, rfl⟩ := g.on hb; clear hb)
            refine bodyPost_ret (v := .tuple #[.agg #[.int .i64 y, .int .i64 m, .int .i64 (n - ys y - cumI y m + 1)], .bool true]) (by simp [results, Tryz.results67, go_sem, hc0, hc1, hc2]) rfl ?_
            exact ⟨by rw [E.out.1, E.out.2.1, E.out.2.2], Gr.below_set3 g 0 1 2 _ _ _⟩
end Go.Proofs.YtbclfcghacedfaaGreatDoor
end

/- Contracts of the document's texts of times: digits, minutes. -/
section
namespace Go.Proofs.YtbclfcghacedfaaGreatDoor
open Go.ChangeShapes Go.WideShapes Go.ChangeAt Go.RowKit Ck

theorem rnumber_any (n : Int) (many : Nat) (h0 : 0 ≤ n) (hn : n ≤ 1000000000) (hm : many ≤ 10) (w : World) :
    Calls Tryz.prog 66 #[.int .i64 n, .int .i64 many] w fun e w' => e = .returned (.string ⟨(low n many).toArray⟩) ∧ Below w.heap.size w w' := by
  go_enter Tryz.func66, Tryz.ntmps66
  go_wp2
  go_loopw [0, 5, 6] (fun s0 s5 s6 wr => ∃ (g : Gr w) (i : Nat), wr = g.val ∧ i ≤ many ∧ s0 = .int .i64 (n / 10 ^ i) ∧ s5 = .string ⟨(low n i).toArray⟩ ∧ s6 = .int .i64 i) (fun _ _ s6 _ => many - (intOf s6).toNat)
  case atStart => exact ⟨⟨w, Below.refl _ _⟩, 0, rfl, Nat.zero_le _, by simp, rfl, rfl⟩
  case round =>
    obtain ⟨g, i, rfl, hi, rfl, rfl, rfl⟩ := hrel
    by_cases hlt : i < many
    · have d1 := div_nn h0 i
      have d2 := div_le h0 i
      have HL := Lib.hid (low_len n i)
      have DS : Hid (n / 10 ^ i / 10 = n / 10 ^ (i + 1)) := div_step n i
      have LS : Hid (low n (i + 1) = dig (n / 10 ^ i % 10) :: low n i) := rfl
      have hl : (low n i).length ≤ 10 := by rw [HL.out]; omega
      generalize n / 10 ^ i = q at *
      have HC := conv_one (P := Tryz.prog) g.val (48 + q % 10) (dig (q % 10)) (dig_nat (by omega) (by omega)) Tryz.underlying93 Tryz.underlying5 Tryz.underlying9
      go_wp2
      go_roundw
      case rel =>
        obtain ⟨g', hg'⟩ := g.up0 (o := .cells #[.int .u8 (48 + q % 10)] 5)
        exact ⟨g', i + 1, hg', hlt, by rw [DS.out], by rw [LS.out]; exact congrArg Value.string (ByteArray.mk_append_mk [dig (q % 10)] (low n i)), by go_num⟩
      case measure => simp [intOf]; omega
    · obtain rfl : i = many := by omega
      go_wp2
      go_ret
      exact ⟨rfl, g.ok⟩


theorem rminute_any (n : Int) (h0 : 0 ≤ n) (hn : n ≤ 1000000) (w : World) :
    Calls Tryz.prog 68 #[.int .i64 n] w fun e w' => e = .returned (.string ⟨(minT n).toArray⟩) ∧ Below w.heap.size w w' := by
  have HN := Lib.hid (fun (n : Int) (h0 : 0 ≤ n) (hn : n ≤ 1000000000) (w : World) => rnumber_any n 2 h0 hn (by omega) w)
  have l1 : (low (n / 60) 2).length ≤ 10 := by rw [low_len]; omega
  have l2 : (low (n % 60) 2).length ≤ 10 := by rw [low_len]; omega
  have HM : Hid (minT n = low (n / 60) 2 ++ [58] ++ low (n % 60) 2) := rfl
  go_enter Tryz.func68, Tryz.ntmps68
  go_wp2_with fail
  go_at_call 66
  refine (HN.out (n / 60) (by omega) (by omega) _).mono ?_
  rintro e w' ⟨rfl, hb⟩
  obtain ⟨g, rfl⟩ := Gr.of hb
  clear hb
  go_wp2_with fail
  go_at_call 66
  refine (HN.out (n % 60) (by omega) (by omega) _).mono ?_
  rintro e w' ⟨rfl, hb⟩
  obtain ⟨g, rfl⟩ := g.on hb
  clear hb
  go_wp2_with fail
  go_ret
  exact ⟨congrArg (fun x => Ending.returned (Value.string x)) (by rw [HM.out]; exact app3 (low (n / 60) 2) [58] (low (n % 60) 2)), g.ok⟩
end Go.Proofs.YtbclfcghacedfaaGreatDoor
end

/- Contracts of the document's texts of times: values of digits, stamps. -/
section
namespace Go.Proofs.YtbclfcghacedfaaGreatDoor
open Go.ChangeShapes Go.WideShapes Go.ChangeAt Go.RowKit Ck

theorem mk_data (s : ByteArray) : (ByteArray.mk s.data.toList.toArray) = s := by cases s; simp

theorem drop_at (s : ByteArray) (k : Nat) (h : k < s.size) : s.data.toList.drop k = s[k] :: s.data.toList.drop (k + 1) := by
  rw [List.drop_eq_getElem_cons (by simpa using h)]; rfl

theorem rnum4 (n : Int) (h0 : 0 ≤ n) (hn : n ≤ 1000000000) (w : World) :
    Calls Tryz.prog 66 #[.int .i64 n, .int .i64 4] w fun e w' => e = .returned (.string ⟨(low n 4).toArray⟩) ∧ Below w.heap.size w w' := rnumber_any n 4 h0 hn (by omega) w
theorem rnum2 (n : Int) (h0 : 0 ≤ n) (hn : n ≤ 1000000000) (w : World) :
    Calls Tryz.prog 66 #[.int .i64 n, .int .i64 2] w fun e w' => e = .returned (.string ⟨(low n 2).toArray⟩) ∧ Below w.heap.size w w' := rnumber_any n 2 h0 hn (by omega) w

theorem app8 (a b c d e f g : List UInt8) : (ByteArray.mk a.toArray ++ ByteArray.mk b.toArray ++ ByteArray.mk c.toArray ++ ByteArray.mk d.toArray ++ ByteArray.mk e.toArray ++ ByteArray.mk f.toArray ++ ByteArray.mk g.toArray : ByteArray) = ⟨(a ++ b ++ c ++ d ++ e ++ f ++ g).toArray⟩ := by
  simp only [ByteArray.mk_append_mk]

set_option maxHeartbeats 1000000 in
theorem rstamp_core (n y m d dn mi : Int) (h0 : 0 ≤ n) (hn : n ≤ 158310720) (hdn : 0 ≤ dn ∧ dn ≤ 109937) (hmi : 0 ≤ mi ∧ mi ≤ 1440) (hy : 0 ≤ y ∧ y ≤ 9999) (hm : 0 ≤ m ∧ m ≤ 99) (hd : 0 ≤ d ∧ d ≤ 99)
    (hcase : (n / 1440 = 109938 ∧ dn = 109937 ∧ mi = 1440) ∨ (n / 1440 ≠ 109938 ∧ dn = n / 1440 ∧ mi = n % 1440))
    (HD : ∀ w, Calls Tryz.prog 67 #[.int .i64 dn] w fun e w' => e = .returned (.tuple #[.agg #[.int .i64 y, .int .i64 m, .int .i64 d], .bool true]) ∧ Below w.heap.size w w') (w : World) :
    Calls Tryz.prog 39 #[.int .i64 n] w fun e w' => e = .returned (.string ⟨(stT y m d mi).toArray⟩) ∧ Below w.heap.size w w' := by
  obtain ⟨hy1, hy2⟩ := hy
  obtain ⟨hm1, hm2⟩ := hm
  obtain ⟨hd1, hd2⟩ := hd
  obtain ⟨hmi1, hmi2⟩ := hmi
  have l1 : (low y 4).length ≤ 10 := by rw [low_len]; omega
  have l2 : (low m 2).length ≤ 10 := by rw [low_len]; omega
  have l3 : (low d 2).length ≤ 10 := by rw [low_len]; omega
  have l4 : (minT mi).length ≤ 10 := by rw [minT_len]; omega
  have HDh := Lib.hid HD
  have HT : Hid (stT y m d mi = low y 4 ++ [45] ++ low m 2 ++ [45] ++ low d 2 ++ [84] ++ minT mi) := rfl
  obtain ⟨N0, N1, N2⟩ := Gr.new3 w
  clear HD
  rcases hcase with ⟨hc, rfl, rfl⟩ | ⟨hc, rfl, rfl⟩
  · have hcb : (n / 1440 == 109938) = true := by simpa using hc
    have HC := Lib.hid hc
    clear hc
    go_enter Tryz.func39, Tryz.ntmps39
    go_wp2_with (go_at_call 67; (with_reducible refine (HDh.out _).mono ?_); rintro e w' ⟨rfl, hb⟩; obtain ⟨g, rfl⟩ := Gr.of hb; clear hb)
    refine Gr.region (by kernel_rfl) (by kernel_rfl) (Gr.draw0 _) ?_
    repeat (go_big_quiet_step (fail))
    go_big_quiet_step ((go_at_call 66; exact Gr.calls _ (rnum4 y hy1 (by omega) _)))
    repeat (go_big_quiet_step (fail))
    go_big_quiet_step ((go_at_call 66; exact Gr.calls _ (rnum2 m hm1 (by omega) _)))
    repeat (go_big_quiet_step (fail))
    go_big_quiet_step ((go_at_call 66; exact Gr.calls _ (rnum2 d hd1 (by omega) _)))
    repeat (go_big_quiet_step (fail))
    go_big_quiet_step ((go_at_call 68; exact Gr.calls _ (rminute_any 1440 hmi1 (by omega) _)))
    repeat (go_big_quiet_step (fail))
    refine wpQuiet_nil ?_
    rintro _ ⟨g2, rfl⟩
    go_wp2
    go_ret
    exact ⟨congrArg (fun x => Ending.returned (Value.string x)) (by rw [HT.out]; exact app8 (low y 4) [45] (low m 2) [45] (low d 2) [84] (minT 1440)), g.below2' g2⟩
  · have hcb : (n / 1440 == 109938) = false := by simpa using hc
    have HC := Lib.hid hc
    clear hc
    go_enter Tryz.func39, Tryz.ntmps39
    go_wp2_with (go_at_call 67; (with_reducible refine (HDh.out _).mono ?_); rintro e w' ⟨rfl, hb⟩; obtain ⟨g, rfl⟩ := Gr.of hb; clear hb)
    refine Gr.region (by kernel_rfl) (by kernel_rfl) (Gr.draw0 _) ?_
    repeat (go_big_quiet_step (fail))
    go_big_quiet_step ((go_at_call 66; exact Gr.calls _ (rnum4 y hy1 (by omega) _)))
    repeat (go_big_quiet_step (fail))
    go_big_quiet_step ((go_at_call 66; exact Gr.calls _ (rnum2 m hm1 (by omega) _)))
    repeat (go_big_quiet_step (fail))
    go_big_quiet_step ((go_at_call 66; exact Gr.calls _ (rnum2 d hd1 (by omega) _)))
    repeat (go_big_quiet_step (fail))
    go_big_quiet_step ((go_at_call 68; exact Gr.calls _ (rminute_any (n % 1440) hmi1 (by omega) _)))
    repeat (go_big_quiet_step (fail))
    refine wpQuiet_nil ?_
    rintro _ ⟨g2, rfl⟩
    go_wp2
    go_ret
    exact ⟨congrArg (fun x => Ending.returned (Value.string x)) (by rw [HT.out]; exact app8 (low y 4) [45] (low m 2) [45] (low d 2) [84] (minT (n % 1440))), g.below2' g2⟩

theorem rstamp_any (n : Int) (h0 : 0 ≤ n) (hn : n ≤ 158310720) (w : World) :
    Calls Tryz.prog 39 #[.int .i64 n] w fun e w' => e = .returned (.string ⟨(stampT n).toArray⟩) ∧ Below w.heap.size w w' := by
  obtain ⟨a1, a2, a3, a4⟩ := day_bd h0 hn
  have hs := (Cal.dateOf_spec (dayI n) a1 a2).1
  have hm := Cal.may_month hs
  have hl := Cal.len_bd (Cal.yOf (dayI n)) (Cal.mOf (dayI n))
  unfold Cal.mayP at hs
  exact rstamp_core n _ _ _ (dayI n) (minuteI n) h0 hn ⟨a1, a2⟩ ⟨a3, a4⟩ (by omega) (by omega) (by omega)
    (by unfold dayI minuteI; by_cases h : n / 1440 = 109938 <;> simp [h]) (fun w => rdate_yes (dayI n) w a1 a2) w
end Go.Proofs.YtbclfcghacedfaaGreatDoor
end
