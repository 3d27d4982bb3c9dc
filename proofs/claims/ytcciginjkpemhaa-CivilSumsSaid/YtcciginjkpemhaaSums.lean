/- The walk of the statement on sums and products. -/
import Derived.Test.YtcciginjkpemhaaW5
namespace Go.Proofs.Ytcciginjkpemhaa
open Go.ChangeShapes Go.WideShapes Go.ChangeAt Go.RowKit Cal

set_option maxRecDepth 100000 in
set_option maxHeartbeats 2000000 in
theorem sums_s1_mz (a b : Int) (wa : (Lit.int .i64 a).wf = true) (wb : (Lit.int .i64 b).wf = true) (hs : 0 ≤ b) (hi : In64 (a + b)) (hm : b = 0) (w : World) :
    Calls Try.prog 7 #[.int .i64 a, .int .i64 b] w fun e w' => e = .returned (.bool true) ∧ Below w.heap.size w w' := by
  obtain ⟨a1, a2⟩ := bounds_i64 wa
  obtain ⟨b1, b2⟩ := bounds_i64 wb
  have AD : Hid (∀ w : World, Calls Try.prog 25 #[.int .i64 a, .int .i64 b] w fun e w' => e = .returned (.tuple #[.int .i64 (a + b), .bool true]) ∧ w = w') := fun w => add_yes _ _ wa wb hi w
  have ML : Hid (∀ w : World, Calls Try.prog 26 #[.int .i64 a, .int .i64 b] w fun e w' => e = .returned (.tuple #[.int .i64 0, .bool true]) ∧ w = w') := fun w => by rw [hm]; exact mul_zero _ _
  have e0 : decide (0 ≤ b) = true := by simp; omega
  have e1 : decide (b < 0) = false := by simp; omega
  obtain ⟨i1, i2⟩ := hi
  have z1 : (b == 0) = true := by simpa using hm
  clear hm
  clear wa wb
  go_enter Try.func7, Try.ntmps7
  go_wp2_with (first
    | (go_at_call 25; refine (AD.out _).mono ?_; rintro e w' ⟨rfl, rfl⟩)
    | (go_at_call 26; refine (ML.out _).mono ?_; rintro e w' ⟨rfl, rfl⟩)
    | (go_at_call 13; refine (fixed_any _).mono ?_; rintro e w' ⟨rfl, hb⟩; obtain ⟨g, rfl⟩ := Gr.of hb; clear hb))
  all_goals
    go_ret
    exact ⟨rfl, g.ok⟩

set_option maxRecDepth 100000 in
set_option maxHeartbeats 2000000 in
theorem sums_s1_ma (a b : Int) (wa : (Lit.int .i64 a).wf = true) (wb : (Lit.int .i64 b).wf = true) (hs : 0 ≤ b) (hi : In64 (a + b)) (h0 : b ≠ 0) (hm : a = 0) (w : World) :
    Calls Try.prog 7 #[.int .i64 a, .int .i64 b] w fun e w' => e = .returned (.bool true) ∧ Below w.heap.size w w' := by
  obtain ⟨a1, a2⟩ := bounds_i64 wa
  obtain ⟨b1, b2⟩ := bounds_i64 wb
  have AD : Hid (∀ w : World, Calls Try.prog 25 #[.int .i64 a, .int .i64 b] w fun e w' => e = .returned (.tuple #[.int .i64 (a + b), .bool true]) ∧ w = w') := fun w => add_yes _ _ wa wb hi w
  have ML : Hid (∀ w : World, Calls Try.prog 26 #[.int .i64 a, .int .i64 b] w fun e w' => e = .returned (.tuple #[.int .i64 0, .bool true]) ∧ w = w') := fun w => by have := mul_yes a b wa wb h0 (by rw [hm]; simp [In64]) w; rwa [show a * b = 0 by rw [hm]; simp] at this
  have e0 : decide (0 ≤ b) = true := by simp; omega
  have e1 : decide (b < 0) = false := by simp; omega
  obtain ⟨i1, i2⟩ := hi
  have z0 : (a == 0) = true := by simpa using hm
  clear hm
  clear wa wb
  go_enter Try.func7, Try.ntmps7
  go_wp2_with (first
    | (go_at_call 25; refine (AD.out _).mono ?_; rintro e w' ⟨rfl, rfl⟩)
    | (go_at_call 26; refine (ML.out _).mono ?_; rintro e w' ⟨rfl, rfl⟩)
    | (go_at_call 13; refine (fixed_any _).mono ?_; rintro e w' ⟨rfl, hb⟩; obtain ⟨g, rfl⟩ := Gr.of hb; clear hb))
  all_goals
    go_ret
    exact ⟨rfl, g.ok⟩

set_option maxRecDepth 100000 in
set_option maxHeartbeats 2000000 in
theorem sums_s1_na1 (a b : Int) (wa : (Lit.int .i64 a).wf = true) (wb : (Lit.int .i64 b).wf = true) (hs : 0 ≤ b) (hi : In64 (a + b)) (h0 : b ≠ 0) (h1 : a ≠ 0) (hn : a = -9223372036854775808) (ho : b = 1) (w : World) :
    Calls Try.prog 7 #[.int .i64 a, .int .i64 b] w fun e w' => e = .returned (.bool true) ∧ Below w.heap.size w w' := by
  obtain ⟨a1, a2⟩ := bounds_i64 wa
  obtain ⟨b1, b2⟩ := bounds_i64 wb
  have AD : Hid (∀ w : World, Calls Try.prog 25 #[.int .i64 a, .int .i64 b] w fun e w' => e = .returned (.tuple #[.int .i64 (a + b), .bool true]) ∧ w = w') := fun w => add_yes _ _ wa wb hi w
  have ML : Hid (∀ w : World, Calls Try.prog 26 #[.int .i64 a, .int .i64 b] w fun e w' => e = .returned (.tuple #[.int .i64 (-9223372036854775808), .bool true]) ∧ w = w') := fun w => by have := mul_yes a b wa wb h0 (by rw [hn, ho]; unfold In64; omega) w; rwa [show a * b = -9223372036854775808 by rw [hn, ho]; decide] at this
  have e0 : decide (0 ≤ b) = true := by simp; omega
  have e1 : decide (b < 0) = false := by simp; omega
  obtain ⟨i1, i2⟩ := hi
  have z0 : (a == 0) = false := by simpa using h1
  have z1 : (b == 0) = false := by simpa using h0
  have n0 : (a == -9223372036854775808) = true := by simpa using hn
  have n1 : (a == 1) = false := by simp; omega
  have n2 : (b == 1) = true := by simpa using ho
  clear hn ho h0 h1
  clear wa wb
  go_enter Try.func7, Try.ntmps7
  go_wp2_with (first
    | (go_at_call 25; refine (AD.out _).mono ?_; rintro e w' ⟨rfl, rfl⟩)
    | (go_at_call 26; refine (ML.out _).mono ?_; rintro e w' ⟨rfl, rfl⟩)
    | (go_at_call 13; refine (fixed_any _).mono ?_; rintro e w' ⟨rfl, hb⟩; obtain ⟨g, rfl⟩ := Gr.of hb; clear hb))
  all_goals
    go_ret
    exact ⟨rfl, g.ok⟩

set_option maxRecDepth 100000 in
set_option maxHeartbeats 2000000 in
theorem sums_s1_na2 (a b : Int) (wa : (Lit.int .i64 a).wf = true) (wb : (Lit.int .i64 b).wf = true) (hs : 0 ≤ b) (hi : In64 (a + b)) (h0 : b ≠ 0) (h1 : a ≠ 0) (hn : a = -9223372036854775808) (ho : b ≠ 1) (w : World) :
    Calls Try.prog 7 #[.int .i64 a, .int .i64 b] w fun e w' => e = .returned (.bool true) ∧ Below w.heap.size w w' := by
  obtain ⟨a1, a2⟩ := bounds_i64 wa
  obtain ⟨b1, b2⟩ := bounds_i64 wb
  have AD : Hid (∀ w : World, Calls Try.prog 25 #[.int .i64 a, .int .i64 b] w fun e w' => e = .returned (.tuple #[.int .i64 (a + b), .bool true]) ∧ w = w') := fun w => add_yes _ _ wa wb hi w
  have ML : Hid (∀ w : World, Calls Try.prog 26 #[.int .i64 a, .int .i64 b] w fun e w' => e = .returned (.tuple #[.int .i64 0, .bool false]) ∧ w = w') := fun w => mul_no a b wa wb h0 (by rw [hn]; unfold In64; omega) w
  have e0 : decide (0 ≤ b) = true := by simp; omega
  have e1 : decide (b < 0) = false := by simp; omega
  obtain ⟨i1, i2⟩ := hi
  have z0 : (a == 0) = false := by simpa using h1
  have z1 : (b == 0) = false := by simpa using h0
  have n0 : (a == -9223372036854775808) = true := by simpa using hn
  have n1 : (a == 1) = false := by simp; omega
  have n2 : (b == 1) = false := by simpa using ho
  clear hn ho h0 h1
  clear wa wb
  go_enter Try.func7, Try.ntmps7
  go_wp2_with (first
    | (go_at_call 25; refine (AD.out _).mono ?_; rintro e w' ⟨rfl, rfl⟩)
    | (go_at_call 26; refine (ML.out _).mono ?_; rintro e w' ⟨rfl, rfl⟩)
    | (go_at_call 13; refine (fixed_any _).mono ?_; rintro e w' ⟨rfl, hb⟩; obtain ⟨g, rfl⟩ := Gr.of hb; clear hb))
  all_goals
    go_ret
    exact ⟨rfl, g.ok⟩

set_option maxRecDepth 100000 in
set_option maxHeartbeats 2000000 in
theorem sums_s1_nb1 (a b : Int) (wa : (Lit.int .i64 a).wf = true) (wb : (Lit.int .i64 b).wf = true) (hs : 0 ≤ b) (hi : In64 (a + b)) (h0 : b ≠ 0) (h1 : a ≠ 0) (hx : a ≠ -9223372036854775808) (hn : b = -9223372036854775808) (ho : a = 1) (w : World) :
    Calls Try.prog 7 #[.int .i64 a, .int .i64 b] w fun e w' => e = .returned (.bool true) ∧ Below w.heap.size w w' := by
  obtain ⟨a1, a2⟩ := bounds_i64 wa
  obtain ⟨b1, b2⟩ := bounds_i64 wb
  have AD : Hid (∀ w : World, Calls Try.prog 25 #[.int .i64 a, .int .i64 b] w fun e w' => e = .returned (.tuple #[.int .i64 (a + b), .bool true]) ∧ w = w') := fun w => add_yes _ _ wa wb hi w
  have ML : Hid (∀ w : World, Calls Try.prog 26 #[.int .i64 a, .int .i64 b] w fun e w' => e = .returned (.tuple #[.int .i64 (-9223372036854775808), .bool true]) ∧ w = w') := fun w => by have := mul_yes a b wa wb h0 (by rw [hn, ho]; unfold In64; omega) w; rwa [show a * b = -9223372036854775808 by rw [hn, ho]; decide] at this
  have e0 : decide (0 ≤ b) = true := by simp; omega
  have e1 : decide (b < 0) = false := by simp; omega
  obtain ⟨i1, i2⟩ := hi
  have z0 : (a == 0) = false := by simpa using h1
  have z1 : (b == 0) = false := by simpa using h0
  have n00 : (a == -9223372036854775808) = false := by simpa using hx
  have n0 : (b == -9223372036854775808) = true := by simpa using hn
  have n1 : (a == 1) = true := by simpa using ho
  clear hn ho h0 h1
  clear wa wb
  go_enter Try.func7, Try.ntmps7
  go_wp2_with (first
    | (go_at_call 25; refine (AD.out _).mono ?_; rintro e w' ⟨rfl, rfl⟩)
    | (go_at_call 26; refine (ML.out _).mono ?_; rintro e w' ⟨rfl, rfl⟩)
    | (go_at_call 13; refine (fixed_any _).mono ?_; rintro e w' ⟨rfl, hb⟩; obtain ⟨g, rfl⟩ := Gr.of hb; clear hb))
  all_goals
    go_ret
    exact ⟨rfl, g.ok⟩

set_option maxRecDepth 100000 in
set_option maxHeartbeats 2000000 in
theorem sums_s1_nb2 (a b : Int) (wa : (Lit.int .i64 a).wf = true) (wb : (Lit.int .i64 b).wf = true) (hs : 0 ≤ b) (hi : In64 (a + b)) (h0 : b ≠ 0) (h1 : a ≠ 0) (hx : a ≠ -9223372036854775808) (hn : b = -9223372036854775808) (ho : a ≠ 1) (w : World) :
    Calls Try.prog 7 #[.int .i64 a, .int .i64 b] w fun e w' => e = .returned (.bool true) ∧ Below w.heap.size w w' := by
  obtain ⟨a1, a2⟩ := bounds_i64 wa
  obtain ⟨b1, b2⟩ := bounds_i64 wb
  have AD : Hid (∀ w : World, Calls Try.prog 25 #[.int .i64 a, .int .i64 b] w fun e w' => e = .returned (.tuple #[.int .i64 (a + b), .bool true]) ∧ w = w') := fun w => add_yes _ _ wa wb hi w
  have ML : Hid (∀ w : World, Calls Try.prog 26 #[.int .i64 a, .int .i64 b] w fun e w' => e = .returned (.tuple #[.int .i64 0, .bool false]) ∧ w = w') := fun w => mul_no a b wa wb h0 (by rw [hn]; unfold In64; omega) w
  have e0 : decide (0 ≤ b) = true := by simp; omega
  have e1 : decide (b < 0) = false := by simp; omega
  obtain ⟨i1, i2⟩ := hi
  have z0 : (a == 0) = false := by simpa using h1
  have z1 : (b == 0) = false := by simpa using h0
  have n00 : (a == -9223372036854775808) = false := by simpa using hx
  have n0 : (b == -9223372036854775808) = true := by simpa using hn
  have n1 : (a == 1) = false := by simpa using ho
  have n2 : (b == 1) = false := by simp; omega
  clear hn ho h0 h1
  clear wa wb
  go_enter Try.func7, Try.ntmps7
  go_wp2_with (first
    | (go_at_call 25; refine (AD.out _).mono ?_; rintro e w' ⟨rfl, rfl⟩)
    | (go_at_call 26; refine (ML.out _).mono ?_; rintro e w' ⟨rfl, rfl⟩)
    | (go_at_call 13; refine (fixed_any _).mono ?_; rintro e w' ⟨rfl, hb⟩; obtain ⟨g, rfl⟩ := Gr.of hb; clear hb))
  all_goals
    go_ret
    exact ⟨rfl, g.ok⟩

set_option maxRecDepth 100000 in
set_option maxHeartbeats 2000000 in
theorem sums_s1_y (a b : Int) (wa : (Lit.int .i64 a).wf = true) (wb : (Lit.int .i64 b).wf = true) (hs : 0 ≤ b) (hi : In64 (a + b)) (h0 : b ≠ 0) (h1 : a ≠ 0) (hx : a ≠ -9223372036854775808) (hy : b ≠ -9223372036854775808) (hp : In64 (a * b)) (hq : a * b ≠ -9223372036854775808) (w : World) :
    Calls Try.prog 7 #[.int .i64 a, .int .i64 b] w fun e w' => e = .returned (.bool true) ∧ Below w.heap.size w w' := by
  obtain ⟨a1, a2⟩ := bounds_i64 wa
  obtain ⟨b1, b2⟩ := bounds_i64 wb
  have AD : Hid (∀ w : World, Calls Try.prog 25 #[.int .i64 a, .int .i64 b] w fun e w' => e = .returned (.tuple #[.int .i64 (a + b), .bool true]) ∧ w = w') := fun w => add_yes _ _ wa wb hi w
  have ML : Hid (∀ w : World, Calls Try.prog 26 #[.int .i64 a, .int .i64 b] w fun e w' => e = .returned (.tuple #[.int .i64 (a * b), .bool true]) ∧ w = w') := fun w => mul_yes _ _ wa wb h0 hp w
  have e0 : decide (0 ≤ b) = true := by simp; omega
  have e1 : decide (b < 0) = false := by simp; omega
  obtain ⟨i1, i2⟩ := hi
  have z0 : (a == 0) = false := by simpa using h1
  have z1 : (b == 0) = false := by simpa using h0
  have n00 : (a == -9223372036854775808) = false := by simpa using hx
  have n0 : (b == -9223372036854775808) = false := by simpa using hy
  have t0 := (mul_test a b a1 a2 b1 b2 h0).2 (Or.inl hp)
  have t1 : wrap64 (a * b) = a * b := by obtain ⟨x, y⟩ := hp; unfold wrap64; omega
  have t2 : (a * b == -9223372036854775808) = false := by simpa using hq
  have t3 : (a * b != -9223372036854775808) = true := by simpa using hq
  have wa64 : wrap64 a = a := by unfold wrap64; omega
  clear t0 h1 hp hq hx hy
  clear wa wb
  go_enter Try.func7, Try.ntmps7
  go_wp2_with (first
    | (go_at_call 25; refine (AD.out _).mono ?_; rintro e w' ⟨rfl, rfl⟩)
    | (go_at_call 26; refine (ML.out _).mono ?_; rintro e w' ⟨rfl, rfl⟩)
    | (go_at_call 13; refine (fixed_any _).mono ?_; rintro e w' ⟨rfl, hb⟩; obtain ⟨g, rfl⟩ := Gr.of hb; clear hb))
  all_goals
    go_ret
    exact ⟨rfl, g.ok⟩

set_option maxRecDepth 100000 in
set_option maxHeartbeats 2000000 in
theorem sums_s1_ym (a b : Int) (wa : (Lit.int .i64 a).wf = true) (wb : (Lit.int .i64 b).wf = true) (hs : 0 ≤ b) (hi : In64 (a + b)) (h0 : b ≠ 0) (h1 : a ≠ 0) (hx : a ≠ -9223372036854775808) (hy : b ≠ -9223372036854775808) (hp : In64 (a * b)) (hq : a * b = -9223372036854775808) (w : World) :
    Calls Try.prog 7 #[.int .i64 a, .int .i64 b] w fun e w' => e = .returned (.bool true) ∧ Below w.heap.size w w' := by
  obtain ⟨a1, a2⟩ := bounds_i64 wa
  obtain ⟨b1, b2⟩ := bounds_i64 wb
  have AD : Hid (∀ w : World, Calls Try.prog 25 #[.int .i64 a, .int .i64 b] w fun e w' => e = .returned (.tuple #[.int .i64 (a + b), .bool true]) ∧ w = w') := fun w => add_yes _ _ wa wb hi w
  have ML : Hid (∀ w : World, Calls Try.prog 26 #[.int .i64 a, .int .i64 b] w fun e w' => e = .returned (.tuple #[.int .i64 (-9223372036854775808), .bool true]) ∧ w = w') := fun w => by have := mul_yes a b wa wb h0 hp w; rwa [hq] at this
  have e0 : decide (0 ≤ b) = true := by simp; omega
  have e1 : decide (b < 0) = false := by simp; omega
  obtain ⟨i1, i2⟩ := hi
  have z0 : (a == 0) = false := by simpa using h1
  have z1 : (b == 0) = false := by simpa using h0
  have n00 : (a == -9223372036854775808) = false := by simpa using hx
  have n0 : (b == -9223372036854775808) = false := by simpa using hy
  have t0 := (mul_test a b a1 a2 b1 b2 h0).2 (Or.inl hp)
  have t1 : wrap64 (a * b) = -9223372036854775808 := by rw [hq]; decide +kernel
  rw [t1] at t0
  have t4 : wrap64 (-Int.tdiv 9223372036854775808 b) = a := by rw [← Int.neg_tdiv]; exact t0
  clear t0
  have s1 : decide (a < 0) = true := by
    simp only [decide_eq_true_eq]; apply Decidable.byContradiction; intro hc
    have := Int.mul_nonneg (a := a) (b := b) (by omega) hs; omega
  clear h1 hp hq hx hy
  clear wa wb
  go_enter Try.func7, Try.ntmps7
  go_wp2_with (first
    | (go_at_call 25; refine (AD.out _).mono ?_; rintro e w' ⟨rfl, rfl⟩)
    | (go_at_call 26; refine (ML.out _).mono ?_; rintro e w' ⟨rfl, rfl⟩)
    | (go_at_call 13; refine (fixed_any _).mono ?_; rintro e w' ⟨rfl, hb⟩; obtain ⟨g, rfl⟩ := Gr.of hb; clear hb))
  all_goals
    go_ret
    exact ⟨rfl, g.ok⟩

set_option maxRecDepth 100000 in
set_option maxHeartbeats 2000000 in
theorem sums_s1_nm (a b : Int) (wa : (Lit.int .i64 a).wf = true) (wb : (Lit.int .i64 b).wf = true) (hs : 0 ≤ b) (hi : In64 (a + b)) (h0 : b ≠ 0) (h1 : a ≠ 0) (hx : a ≠ -9223372036854775808) (hy : b ≠ -9223372036854775808) (hp : ¬ In64 (a * b)) (hu : wrap64 (a * b) = -9223372036854775808) (w : World) :
    Calls Try.prog 7 #[.int .i64 a, .int .i64 b] w fun e w' => e = .returned (.bool true) ∧ Below w.heap.size w w' := by
  obtain ⟨a1, a2⟩ := bounds_i64 wa
  obtain ⟨b1, b2⟩ := bounds_i64 wb
  have AD : Hid (∀ w : World, Calls Try.prog 25 #[.int .i64 a, .int .i64 b] w fun e w' => e = .returned (.tuple #[.int .i64 (a + b), .bool true]) ∧ w = w') := fun w => add_yes _ _ wa wb hi w
  have ML : Hid (∀ w : World, Calls Try.prog 26 #[.int .i64 a, .int .i64 b] w fun e w' => e = .returned (.tuple #[.int .i64 0, .bool false]) ∧ w = w') := fun w => mul_no _ _ wa wb h0 hp w
  have e0 : decide (0 ≤ b) = true := by simp; omega
  have e1 : decide (b < 0) = false := by simp; omega
  obtain ⟨i1, i2⟩ := hi
  have z0 : (a == 0) = false := by simpa using h1
  have z1 : (b == 0) = false := by simpa using h0
  have n00 : (a == -9223372036854775808) = false := by simpa using hx
  have n0 : (b == -9223372036854775808) = false := by simpa using hy
  have t0 : ¬ wrap64 ((wrap64 (a * b)).tdiv b) = a := by
    intro t; rcases (mul_test a b a1 a2 b1 b2 h0).1 t with t | t
    · exact hp t
    · exact hx t.1
  rw [hu] at t0
  have t4 : (wrap64 (-Int.tdiv 9223372036854775808 b) == a) = false := by rw [← Int.neg_tdiv]; simpa using t0
  clear t0 h1 hp hx hy
  clear wa wb
  go_enter Try.func7, Try.ntmps7
  go_wp2_with (first
    | (go_at_call 25; refine (AD.out _).mono ?_; rintro e w' ⟨rfl, rfl⟩)
    | (go_at_call 26; refine (ML.out _).mono ?_; rintro e w' ⟨rfl, rfl⟩)
    | (go_at_call 13; refine (fixed_any _).mono ?_; rintro e w' ⟨rfl, hb⟩; obtain ⟨g, rfl⟩ := Gr.of hb; clear hb))
  all_goals
    go_ret
    exact ⟨rfl, g.ok⟩

set_option maxRecDepth 100000 in
set_option maxHeartbeats 2000000 in
theorem sums_s1_no (a b : Int) (wa : (Lit.int .i64 a).wf = true) (wb : (Lit.int .i64 b).wf = true) (hs : 0 ≤ b) (hi : In64 (a + b)) (h0 : b ≠ 0) (h1 : a ≠ 0) (hx : a ≠ -9223372036854775808) (hy : b ≠ -9223372036854775808) (hp : ¬ In64 (a * b)) (hu : wrap64 (a * b) ≠ -9223372036854775808) (w : World) :
    Calls Try.prog 7 #[.int .i64 a, .int .i64 b] w fun e w' => e = .returned (.bool true) ∧ Below w.heap.size w w' := by
  obtain ⟨a1, a2⟩ := bounds_i64 wa
  obtain ⟨b1, b2⟩ := bounds_i64 wb
  have AD : Hid (∀ w : World, Calls Try.prog 25 #[.int .i64 a, .int .i64 b] w fun e w' => e = .returned (.tuple #[.int .i64 (a + b), .bool true]) ∧ w = w') := fun w => add_yes _ _ wa wb hi w
  have ML : Hid (∀ w : World, Calls Try.prog 26 #[.int .i64 a, .int .i64 b] w fun e w' => e = .returned (.tuple #[.int .i64 0, .bool false]) ∧ w = w') := fun w => mul_no _ _ wa wb h0 hp w
  have e0 : decide (0 ≤ b) = true := by simp; omega
  have e1 : decide (b < 0) = false := by simp; omega
  obtain ⟨i1, i2⟩ := hi
  have z0 : (a == 0) = false := by simpa using h1
  have z1 : (b == 0) = false := by simpa using h0
  have n00 : (a == -9223372036854775808) = false := by simpa using hx
  have n0 : (b == -9223372036854775808) = false := by simpa using hy
  have t0 : ¬ wrap64 ((wrap64 (a * b)).tdiv b) = a := by
    intro t; rcases (mul_test a b a1 a2 b1 b2 h0).1 t with t | t
    · exact hp t
    · exact hx t.1
  have t4 : (wrap64 ((wrap64 (a * b)).tdiv b) == a) = false := by simpa using t0
  have t5 : (wrap64 (a * b) == -9223372036854775808) = false := by simpa using hu
  clear t0 hu h1 hp hx hy
  clear wa wb
  go_enter Try.func7, Try.ntmps7
  go_wp2_with (first
    | (go_at_call 25; refine (AD.out _).mono ?_; rintro e w' ⟨rfl, rfl⟩)
    | (go_at_call 26; refine (ML.out _).mono ?_; rintro e w' ⟨rfl, rfl⟩)
    | (go_at_call 13; refine (fixed_any _).mono ?_; rintro e w' ⟨rfl, hb⟩; obtain ⟨g, rfl⟩ := Gr.of hb; clear hb))
  all_goals
    go_ret
    exact ⟨rfl, g.ok⟩

set_option maxRecDepth 100000 in
set_option maxHeartbeats 2000000 in
theorem sums_n1_mz (a b : Int) (wa : (Lit.int .i64 a).wf = true) (wb : (Lit.int .i64 b).wf = true) (hs : 0 ≤ b) (hi : ¬ In64 (a + b)) (hm : b = 0) (w : World) :
    Calls Try.prog 7 #[.int .i64 a, .int .i64 b] w fun e w' => e = .returned (.bool true) ∧ Below w.heap.size w w' := by
  obtain ⟨a1, a2⟩ := bounds_i64 wa
  obtain ⟨b1, b2⟩ := bounds_i64 wb
  have AD : Hid (∀ w : World, Calls Try.prog 25 #[.int .i64 a, .int .i64 b] w fun e w' => e = .returned (.tuple #[.int .i64 0, .bool false]) ∧ w = w') := fun w => add_no _ _ wa wb hi w
  have ML : Hid (∀ w : World, Calls Try.prog 26 #[.int .i64 a, .int .i64 b] w fun e w' => e = .returned (.tuple #[.int .i64 0, .bool true]) ∧ w = w') := fun w => by rw [hm]; exact mul_zero _ _
  have e0 : decide (0 ≤ b) = true := by simp; omega
  have e1 : decide (b < 0) = false := by simp; omega
  have e2 : decide (a ≤ wrap64 (a + b)) = false := by unfold In64 at hi; simp only [decide_eq_false_iff_not]; unfold wrap64; omega
  have z1 : (b == 0) = true := by simpa using hm
  clear hm
  clear wa wb
  go_enter Try.func7, Try.ntmps7
  go_wp2_with (first
    | (go_at_call 25; refine (AD.out _).mono ?_; rintro e w' ⟨rfl, rfl⟩)
    | (go_at_call 26; refine (ML.out _).mono ?_; rintro e w' ⟨rfl, rfl⟩)
    | (go_at_call 13; refine (fixed_any _).mono ?_; rintro e w' ⟨rfl, hb⟩; obtain ⟨g, rfl⟩ := Gr.of hb; clear hb))
  all_goals
    go_ret
    exact ⟨rfl, g.ok⟩

set_option maxRecDepth 100000 in
set_option maxHeartbeats 2000000 in
theorem sums_n1_ma (a b : Int) (wa : (Lit.int .i64 a).wf = true) (wb : (Lit.int .i64 b).wf = true) (hs : 0 ≤ b) (hi : ¬ In64 (a + b)) (h0 : b ≠ 0) (hm : a = 0) (w : World) :
    Calls Try.prog 7 #[.int .i64 a, .int .i64 b] w fun e w' => e = .returned (.bool true) ∧ Below w.heap.size w w' := by
  obtain ⟨a1, a2⟩ := bounds_i64 wa
  obtain ⟨b1, b2⟩ := bounds_i64 wb
  have AD : Hid (∀ w : World, Calls Try.prog 25 #[.int .i64 a, .int .i64 b] w fun e w' => e = .returned (.tuple #[.int .i64 0, .bool false]) ∧ w = w') := fun w => add_no _ _ wa wb hi w
  have ML : Hid (∀ w : World, Calls Try.prog 26 #[.int .i64 a, .int .i64 b] w fun e w' => e = .returned (.tuple #[.int .i64 0, .bool true]) ∧ w = w') := fun w => by have := mul_yes a b wa wb h0 (by rw [hm]; simp [In64]) w; rwa [show a * b = 0 by rw [hm]; simp] at this
  have e0 : decide (0 ≤ b) = true := by simp; omega
  have e1 : decide (b < 0) = false := by simp; omega
  have e2 : decide (a ≤ wrap64 (a + b)) = false := by unfold In64 at hi; simp only [decide_eq_false_iff_not]; unfold wrap64; omega
  have z0 : (a == 0) = true := by simpa using hm
  clear hm
  clear wa wb
  go_enter Try.func7, Try.ntmps7
  go_wp2_with (first
    | (go_at_call 25; refine (AD.out _).mono ?_; rintro e w' ⟨rfl, rfl⟩)
    | (go_at_call 26; refine (ML.out _).mono ?_; rintro e w' ⟨rfl, rfl⟩)
    | (go_at_call 13; refine (fixed_any _).mono ?_; rintro e w' ⟨rfl, hb⟩; obtain ⟨g, rfl⟩ := Gr.of hb; clear hb))
  all_goals
    go_ret
    exact ⟨rfl, g.ok⟩

set_option maxRecDepth 100000 in
set_option maxHeartbeats 2000000 in
theorem sums_n1_na1 (a b : Int) (wa : (Lit.int .i64 a).wf = true) (wb : (Lit.int .i64 b).wf = true) (hs : 0 ≤ b) (hi : ¬ In64 (a + b)) (h0 : b ≠ 0) (h1 : a ≠ 0) (hn : a = -9223372036854775808) (ho : b = 1) (w : World) :
    Calls Try.prog 7 #[.int .i64 a, .int .i64 b] w fun e w' => e = .returned (.bool true) ∧ Below w.heap.size w w' := by
  obtain ⟨a1, a2⟩ := bounds_i64 wa
  obtain ⟨b1, b2⟩ := bounds_i64 wb
  have AD : Hid (∀ w : World, Calls Try.prog 25 #[.int .i64 a, .int .i64 b] w fun e w' => e = .returned (.tuple #[.int .i64 0, .bool false]) ∧ w = w') := fun w => add_no _ _ wa wb hi w
  have ML : Hid (∀ w : World, Calls Try.prog 26 #[.int .i64 a, .int .i64 b] w fun e w' => e = .returned (.tuple #[.int .i64 (-9223372036854775808), .bool true]) ∧ w = w') := fun w => by have := mul_yes a b wa wb h0 (by rw [hn, ho]; unfold In64; omega) w; rwa [show a * b = -9223372036854775808 by rw [hn, ho]; decide] at this
  have e0 : decide (0 ≤ b) = true := by simp; omega
  have e1 : decide (b < 0) = false := by simp; omega
  have e2 : decide (a ≤ wrap64 (a + b)) = false := by unfold In64 at hi; simp only [decide_eq_false_iff_not]; unfold wrap64; omega
  have z0 : (a == 0) = false := by simpa using h1
  have z1 : (b == 0) = false := by simpa using h0
  have n0 : (a == -9223372036854775808) = true := by simpa using hn
  have n1 : (a == 1) = false := by simp; omega
  have n2 : (b == 1) = true := by simpa using ho
  clear hn ho h0 h1
  clear wa wb
  go_enter Try.func7, Try.ntmps7
  go_wp2_with (first
    | (go_at_call 25; refine (AD.out _).mono ?_; rintro e w' ⟨rfl, rfl⟩)
    | (go_at_call 26; refine (ML.out _).mono ?_; rintro e w' ⟨rfl, rfl⟩)
    | (go_at_call 13; refine (fixed_any _).mono ?_; rintro e w' ⟨rfl, hb⟩; obtain ⟨g, rfl⟩ := Gr.of hb; clear hb))
  all_goals
    go_ret
    exact ⟨rfl, g.ok⟩

set_option maxRecDepth 100000 in
set_option maxHeartbeats 2000000 in
theorem sums_n1_na2 (a b : Int) (wa : (Lit.int .i64 a).wf = true) (wb : (Lit.int .i64 b).wf = true) (hs : 0 ≤ b) (hi : ¬ In64 (a + b)) (h0 : b ≠ 0) (h1 : a ≠ 0) (hn : a = -9223372036854775808) (ho : b ≠ 1) (w : World) :
    Calls Try.prog 7 #[.int .i64 a, .int .i64 b] w fun e w' => e = .returned (.bool true) ∧ Below w.heap.size w w' := by
  obtain ⟨a1, a2⟩ := bounds_i64 wa
  obtain ⟨b1, b2⟩ := bounds_i64 wb
  have AD : Hid (∀ w : World, Calls Try.prog 25 #[.int .i64 a, .int .i64 b] w fun e w' => e = .returned (.tuple #[.int .i64 0, .bool false]) ∧ w = w') := fun w => add_no _ _ wa wb hi w
  have ML : Hid (∀ w : World, Calls Try.prog 26 #[.int .i64 a, .int .i64 b] w fun e w' => e = .returned (.tuple #[.int .i64 0, .bool false]) ∧ w = w') := fun w => mul_no a b wa wb h0 (by rw [hn]; unfold In64; omega) w
  have e0 : decide (0 ≤ b) = true := by simp; omega
  have e1 : decide (b < 0) = false := by simp; omega
  have e2 : decide (a ≤ wrap64 (a + b)) = false := by unfold In64 at hi; simp only [decide_eq_false_iff_not]; unfold wrap64; omega
  have z0 : (a == 0) = false := by simpa using h1
  have z1 : (b == 0) = false := by simpa using h0
  have n0 : (a == -9223372036854775808) = true := by simpa using hn
  have n1 : (a == 1) = false := by simp; omega
  have n2 : (b == 1) = false := by simpa using ho
  clear hn ho h0 h1
  clear wa wb
  go_enter Try.func7, Try.ntmps7
  go_wp2_with (first
    | (go_at_call 25; refine (AD.out _).mono ?_; rintro e w' ⟨rfl, rfl⟩)
    | (go_at_call 26; refine (ML.out _).mono ?_; rintro e w' ⟨rfl, rfl⟩)
    | (go_at_call 13; refine (fixed_any _).mono ?_; rintro e w' ⟨rfl, hb⟩; obtain ⟨g, rfl⟩ := Gr.of hb; clear hb))
  all_goals
    go_ret
    exact ⟨rfl, g.ok⟩

set_option maxRecDepth 100000 in
set_option maxHeartbeats 2000000 in
theorem sums_n1_nb1 (a b : Int) (wa : (Lit.int .i64 a).wf = true) (wb : (Lit.int .i64 b).wf = true) (hs : 0 ≤ b) (hi : ¬ In64 (a + b)) (h0 : b ≠ 0) (h1 : a ≠ 0) (hx : a ≠ -9223372036854775808) (hn : b = -9223372036854775808) (ho : a = 1) (w : World) :
    Calls Try.prog 7 #[.int .i64 a, .int .i64 b] w fun e w' => e = .returned (.bool true) ∧ Below w.heap.size w w' := by
  obtain ⟨a1, a2⟩ := bounds_i64 wa
  obtain ⟨b1, b2⟩ := bounds_i64 wb
  have AD : Hid (∀ w : World, Calls Try.prog 25 #[.int .i64 a, .int .i64 b] w fun e w' => e = .returned (.tuple #[.int .i64 0, .bool false]) ∧ w = w') := fun w => add_no _ _ wa wb hi w
  have ML : Hid (∀ w : World, Calls Try.prog 26 #[.int .i64 a, .int .i64 b] w fun e w' => e = .returned (.tuple #[.int .i64 (-9223372036854775808), .bool true]) ∧ w = w') := fun w => by have := mul_yes a b wa wb h0 (by rw [hn, ho]; unfold In64; omega) w; rwa [show a * b = -9223372036854775808 by rw [hn, ho]; decide] at this
  have e0 : decide (0 ≤ b) = true := by simp; omega
  have e1 : decide (b < 0) = false := by simp; omega
  have e2 : decide (a ≤ wrap64 (a + b)) = false := by unfold In64 at hi; simp only [decide_eq_false_iff_not]; unfold wrap64; omega
  have z0 : (a == 0) = false := by simpa using h1
  have z1 : (b == 0) = false := by simpa using h0
  have n00 : (a == -9223372036854775808) = false := by simpa using hx
  have n0 : (b == -9223372036854775808) = true := by simpa using hn
  have n1 : (a == 1) = true := by simpa using ho
  clear hn ho h0 h1
  clear wa wb
  go_enter Try.func7, Try.ntmps7
  go_wp2_with (first
    | (go_at_call 25; refine (AD.out _).mono ?_; rintro e w' ⟨rfl, rfl⟩)
    | (go_at_call 26; refine (ML.out _).mono ?_; rintro e w' ⟨rfl, rfl⟩)
    | (go_at_call 13; refine (fixed_any _).mono ?_; rintro e w' ⟨rfl, hb⟩; obtain ⟨g, rfl⟩ := Gr.of hb; clear hb))
  all_goals
    go_ret
    exact ⟨rfl, g.ok⟩

set_option maxRecDepth 100000 in
set_option maxHeartbeats 2000000 in
theorem sums_n1_nb2 (a b : Int) (wa : (Lit.int .i64 a).wf = true) (wb : (Lit.int .i64 b).wf = true) (hs : 0 ≤ b) (hi : ¬ In64 (a + b)) (h0 : b ≠ 0) (h1 : a ≠ 0) (hx : a ≠ -9223372036854775808) (hn : b = -9223372036854775808) (ho : a ≠ 1) (w : World) :
    Calls Try.prog 7 #[.int .i64 a, .int .i64 b] w fun e w' => e = .returned (.bool true) ∧ Below w.heap.size w w' := by
  obtain ⟨a1, a2⟩ := bounds_i64 wa
  obtain ⟨b1, b2⟩ := bounds_i64 wb
  have AD : Hid (∀ w : World, Calls Try.prog 25 #[.int .i64 a, .int .i64 b] w fun e w' => e = .returned (.tuple #[.int .i64 0, .bool false]) ∧ w = w') := fun w => add_no _ _ wa wb hi w
  have ML : Hid (∀ w : World, Calls Try.prog 26 #[.int .i64 a, .int .i64 b] w fun e w' => e = .returned (.tuple #[.int .i64 0, .bool false]) ∧ w = w') := fun w => mul_no a b wa wb h0 (by rw [hn]; unfold In64; omega) w
  have e0 : decide (0 ≤ b) = true := by simp; omega
  have e1 : decide (b < 0) = false := by simp; omega
  have e2 : decide (a ≤ wrap64 (a + b)) = false := by unfold In64 at hi; simp only [decide_eq_false_iff_not]; unfold wrap64; omega
  have z0 : (a == 0) = false := by simpa using h1
  have z1 : (b == 0) = false := by simpa using h0
  have n00 : (a == -9223372036854775808) = false := by simpa using hx
  have n0 : (b == -9223372036854775808) = true := by simpa using hn
  have n1 : (a == 1) = false := by simpa using ho
  have n2 : (b == 1) = false := by simp; omega
  clear hn ho h0 h1
  clear wa wb
  go_enter Try.func7, Try.ntmps7
  go_wp2_with (first
    | (go_at_call 25; refine (AD.out _).mono ?_; rintro e w' ⟨rfl, rfl⟩)
    | (go_at_call 26; refine (ML.out _).mono ?_; rintro e w' ⟨rfl, rfl⟩)
    | (go_at_call 13; refine (fixed_any _).mono ?_; rintro e w' ⟨rfl, hb⟩; obtain ⟨g, rfl⟩ := Gr.of hb; clear hb))
  all_goals
    go_ret
    exact ⟨rfl, g.ok⟩

set_option maxRecDepth 100000 in
set_option maxHeartbeats 2000000 in
theorem sums_n1_y (a b : Int) (wa : (Lit.int .i64 a).wf = true) (wb : (Lit.int .i64 b).wf = true) (hs : 0 ≤ b) (hi : ¬ In64 (a + b)) (h0 : b ≠ 0) (h1 : a ≠ 0) (hx : a ≠ -9223372036854775808) (hy : b ≠ -9223372036854775808) (hp : In64 (a * b)) (hq : a * b ≠ -9223372036854775808) (w : World) :
    Calls Try.prog 7 #[.int .i64 a, .int .i64 b] w fun e w' => e = .returned (.bool true) ∧ Below w.heap.size w w' := by
  obtain ⟨a1, a2⟩ := bounds_i64 wa
  obtain ⟨b1, b2⟩ := bounds_i64 wb
  have AD : Hid (∀ w : World, Calls Try.prog 25 #[.int .i64 a, .int .i64 b] w fun e w' => e = .returned (.tuple #[.int .i64 0, .bool false]) ∧ w = w') := fun w => add_no _ _ wa wb hi w
  have ML : Hid (∀ w : World, Calls Try.prog 26 #[.int .i64 a, .int .i64 b] w fun e w' => e = .returned (.tuple #[.int .i64 (a * b), .bool true]) ∧ w = w') := fun w => mul_yes _ _ wa wb h0 hp w
  have e0 : decide (0 ≤ b) = true := by simp; omega
  have e1 : decide (b < 0) = false := by simp; omega
  have e2 : decide (a ≤ wrap64 (a + b)) = false := by unfold In64 at hi; simp only [decide_eq_false_iff_not]; unfold wrap64; omega
  have z0 : (a == 0) = false := by simpa using h1
  have z1 : (b == 0) = false := by simpa using h0
  have n00 : (a == -9223372036854775808) = false := by simpa using hx
  have n0 : (b == -9223372036854775808) = false := by simpa using hy
  have t0 := (mul_test a b a1 a2 b1 b2 h0).2 (Or.inl hp)
  have t1 : wrap64 (a * b) = a * b := by obtain ⟨x, y⟩ := hp; unfold wrap64; omega
  have t2 : (a * b == -9223372036854775808) = false := by simpa using hq
  have t3 : (a * b != -9223372036854775808) = true := by simpa using hq
  have wa64 : wrap64 a = a := by unfold wrap64; omega
  clear t0 h1 hp hq hx hy
  clear wa wb
  go_enter Try.func7, Try.ntmps7
  go_wp2_with (first
    | (go_at_call 25; refine (AD.out _).mono ?_; rintro e w' ⟨rfl, rfl⟩)
    | (go_at_call 26; refine (ML.out _).mono ?_; rintro e w' ⟨rfl, rfl⟩)
    | (go_at_call 13; refine (fixed_any _).mono ?_; rintro e w' ⟨rfl, hb⟩; obtain ⟨g, rfl⟩ := Gr.of hb; clear hb))
  all_goals
    go_ret
    exact ⟨rfl, g.ok⟩

set_option maxRecDepth 100000 in
set_option maxHeartbeats 2000000 in
theorem sums_n1_ym (a b : Int) (wa : (Lit.int .i64 a).wf = true) (wb : (Lit.int .i64 b).wf = true) (hs : 0 ≤ b) (hi : ¬ In64 (a + b)) (h0 : b ≠ 0) (h1 : a ≠ 0) (hx : a ≠ -9223372036854775808) (hy : b ≠ -9223372036854775808) (hp : In64 (a * b)) (hq : a * b = -9223372036854775808) (w : World) :
    Calls Try.prog 7 #[.int .i64 a, .int .i64 b] w fun e w' => e = .returned (.bool true) ∧ Below w.heap.size w w' := by
  obtain ⟨a1, a2⟩ := bounds_i64 wa
  obtain ⟨b1, b2⟩ := bounds_i64 wb
  have AD : Hid (∀ w : World, Calls Try.prog 25 #[.int .i64 a, .int .i64 b] w fun e w' => e = .returned (.tuple #[.int .i64 0, .bool false]) ∧ w = w') := fun w => add_no _ _ wa wb hi w
  have ML : Hid (∀ w : World, Calls Try.prog 26 #[.int .i64 a, .int .i64 b] w fun e w' => e = .returned (.tuple #[.int .i64 (-9223372036854775808), .bool true]) ∧ w = w') := fun w => by have := mul_yes a b wa wb h0 hp w; rwa [hq] at this
  have e0 : decide (0 ≤ b) = true := by simp; omega
  have e1 : decide (b < 0) = false := by simp; omega
  have e2 : decide (a ≤ wrap64 (a + b)) = false := by unfold In64 at hi; simp only [decide_eq_false_iff_not]; unfold wrap64; omega
  have z0 : (a == 0) = false := by simpa using h1
  have z1 : (b == 0) = false := by simpa using h0
  have n00 : (a == -9223372036854775808) = false := by simpa using hx
  have n0 : (b == -9223372036854775808) = false := by simpa using hy
  have t0 := (mul_test a b a1 a2 b1 b2 h0).2 (Or.inl hp)
  have t1 : wrap64 (a * b) = -9223372036854775808 := by rw [hq]; decide +kernel
  rw [t1] at t0
  have t4 : wrap64 (-Int.tdiv 9223372036854775808 b) = a := by rw [← Int.neg_tdiv]; exact t0
  clear t0
  have s1 : decide (a < 0) = true := by
    simp only [decide_eq_true_eq]; apply Decidable.byContradiction; intro hc
    have := Int.mul_nonneg (a := a) (b := b) (by omega) hs; omega
  clear h1 hp hq hx hy
  clear wa wb
  go_enter Try.func7, Try.ntmps7
  go_wp2_with (first
    | (go_at_call 25; refine (AD.out _).mono ?_; rintro e w' ⟨rfl, rfl⟩)
    | (go_at_call 26; refine (ML.out _).mono ?_; rintro e w' ⟨rfl, rfl⟩)
    | (go_at_call 13; refine (fixed_any _).mono ?_; rintro e w' ⟨rfl, hb⟩; obtain ⟨g, rfl⟩ := Gr.of hb; clear hb))
  all_goals
    go_ret
    exact ⟨rfl, g.ok⟩

set_option maxRecDepth 100000 in
set_option maxHeartbeats 2000000 in
theorem sums_n1_nm (a b : Int) (wa : (Lit.int .i64 a).wf = true) (wb : (Lit.int .i64 b).wf = true) (hs : 0 ≤ b) (hi : ¬ In64 (a + b)) (h0 : b ≠ 0) (h1 : a ≠ 0) (hx : a ≠ -9223372036854775808) (hy : b ≠ -9223372036854775808) (hp : ¬ In64 (a * b)) (hu : wrap64 (a * b) = -9223372036854775808) (w : World) :
    Calls Try.prog 7 #[.int .i64 a, .int .i64 b] w fun e w' => e = .returned (.bool true) ∧ Below w.heap.size w w' := by
  obtain ⟨a1, a2⟩ := bounds_i64 wa
  obtain ⟨b1, b2⟩ := bounds_i64 wb
  have AD : Hid (∀ w : World, Calls Try.prog 25 #[.int .i64 a, .int .i64 b] w fun e w' => e = .returned (.tuple #[.int .i64 0, .bool false]) ∧ w = w') := fun w => add_no _ _ wa wb hi w
  have ML : Hid (∀ w : World, Calls Try.prog 26 #[.int .i64 a, .int .i64 b] w fun e w' => e = .returned (.tuple #[.int .i64 0, .bool false]) ∧ w = w') := fun w => mul_no _ _ wa wb h0 hp w
  have e0 : decide (0 ≤ b) = true := by simp; omega
  have e1 : decide (b < 0) = false := by simp; omega
  have e2 : decide (a ≤ wrap64 (a + b)) = false := by unfold In64 at hi; simp only [decide_eq_false_iff_not]; unfold wrap64; omega
  have z0 : (a == 0) = false := by simpa using h1
  have z1 : (b == 0) = false := by simpa using h0
  have n00 : (a == -9223372036854775808) = false := by simpa using hx
  have n0 : (b == -9223372036854775808) = false := by simpa using hy
  have t0 : ¬ wrap64 ((wrap64 (a * b)).tdiv b) = a := by
    intro t; rcases (mul_test a b a1 a2 b1 b2 h0).1 t with t | t
    · exact hp t
    · exact hx t.1
  rw [hu] at t0
  have t4 : (wrap64 (-Int.tdiv 9223372036854775808 b) == a) = false := by rw [← Int.neg_tdiv]; simpa using t0
  clear t0 h1 hp hx hy
  clear wa wb
  go_enter Try.func7, Try.ntmps7
  go_wp2_with (first
    | (go_at_call 25; refine (AD.out _).mono ?_; rintro e w' ⟨rfl, rfl⟩)
    | (go_at_call 26; refine (ML.out _).mono ?_; rintro e w' ⟨rfl, rfl⟩)
    | (go_at_call 13; refine (fixed_any _).mono ?_; rintro e w' ⟨rfl, hb⟩; obtain ⟨g, rfl⟩ := Gr.of hb; clear hb))
  all_goals
    go_ret
    exact ⟨rfl, g.ok⟩

set_option maxRecDepth 100000 in
set_option maxHeartbeats 2000000 in
theorem sums_n1_no (a b : Int) (wa : (Lit.int .i64 a).wf = true) (wb : (Lit.int .i64 b).wf = true) (hs : 0 ≤ b) (hi : ¬ In64 (a + b)) (h0 : b ≠ 0) (h1 : a ≠ 0) (hx : a ≠ -9223372036854775808) (hy : b ≠ -9223372036854775808) (hp : ¬ In64 (a * b)) (hu : wrap64 (a * b) ≠ -9223372036854775808) (w : World) :
    Calls Try.prog 7 #[.int .i64 a, .int .i64 b] w fun e w' => e = .returned (.bool true) ∧ Below w.heap.size w w' := by
  obtain ⟨a1, a2⟩ := bounds_i64 wa
  obtain ⟨b1, b2⟩ := bounds_i64 wb
  have AD : Hid (∀ w : World, Calls Try.prog 25 #[.int .i64 a, .int .i64 b] w fun e w' => e = .returned (.tuple #[.int .i64 0, .bool false]) ∧ w = w') := fun w => add_no _ _ wa wb hi w
  have ML : Hid (∀ w : World, Calls Try.prog 26 #[.int .i64 a, .int .i64 b] w fun e w' => e = .returned (.tuple #[.int .i64 0, .bool false]) ∧ w = w') := fun w => mul_no _ _ wa wb h0 hp w
  have e0 : decide (0 ≤ b) = true := by simp; omega
  have e1 : decide (b < 0) = false := by simp; omega
  have e2 : decide (a ≤ wrap64 (a + b)) = false := by unfold In64 at hi; simp only [decide_eq_false_iff_not]; unfold wrap64; omega
  have z0 : (a == 0) = false := by simpa using h1
  have z1 : (b == 0) = false := by simpa using h0
  have n00 : (a == -9223372036854775808) = false := by simpa using hx
  have n0 : (b == -9223372036854775808) = false := by simpa using hy
  have t0 : ¬ wrap64 ((wrap64 (a * b)).tdiv b) = a := by
    intro t; rcases (mul_test a b a1 a2 b1 b2 h0).1 t with t | t
    · exact hp t
    · exact hx t.1
  have t4 : (wrap64 ((wrap64 (a * b)).tdiv b) == a) = false := by simpa using t0
  have t5 : (wrap64 (a * b) == -9223372036854775808) = false := by simpa using hu
  clear t0 hu h1 hp hx hy
  clear wa wb
  go_enter Try.func7, Try.ntmps7
  go_wp2_with (first
    | (go_at_call 25; refine (AD.out _).mono ?_; rintro e w' ⟨rfl, rfl⟩)
    | (go_at_call 26; refine (ML.out _).mono ?_; rintro e w' ⟨rfl, rfl⟩)
    | (go_at_call 13; refine (fixed_any _).mono ?_; rintro e w' ⟨rfl, hb⟩; obtain ⟨g, rfl⟩ := Gr.of hb; clear hb))
  all_goals
    go_ret
    exact ⟨rfl, g.ok⟩

set_option maxRecDepth 100000 in
set_option maxHeartbeats 2000000 in
theorem sums_s2_mz (a b : Int) (wa : (Lit.int .i64 a).wf = true) (wb : (Lit.int .i64 b).wf = true) (hs : b < 0) (hi : In64 (a + b)) (hm : b = 0) (w : World) :
    Calls Try.prog 7 #[.int .i64 a, .int .i64 b] w fun e w' => e = .returned (.bool true) ∧ Below w.heap.size w w' := by
  obtain ⟨a1, a2⟩ := bounds_i64 wa
  obtain ⟨b1, b2⟩ := bounds_i64 wb
  have AD : Hid (∀ w : World, Calls Try.prog 25 #[.int .i64 a, .int .i64 b] w fun e w' => e = .returned (.tuple #[.int .i64 (a + b), .bool true]) ∧ w = w') := fun w => add_yes _ _ wa wb hi w
  have ML : Hid (∀ w : World, Calls Try.prog 26 #[.int .i64 a, .int .i64 b] w fun e w' => e = .returned (.tuple #[.int .i64 0, .bool true]) ∧ w = w') := fun w => by rw [hm]; exact mul_zero _ _
  have e0 : decide (0 ≤ b) = false := by simp; omega
  have e1 : decide (b < 0) = true := by simp; omega
  obtain ⟨i1, i2⟩ := hi
  have z1 : (b == 0) = true := by simpa using hm
  clear hm
  clear wa wb
  go_enter Try.func7, Try.ntmps7
  go_wp2_with (first
    | (go_at_call 25; refine (AD.out _).mono ?_; rintro e w' ⟨rfl, rfl⟩)
    | (go_at_call 26; refine (ML.out _).mono ?_; rintro e w' ⟨rfl, rfl⟩)
    | (go_at_call 13; refine (fixed_any _).mono ?_; rintro e w' ⟨rfl, hb⟩; obtain ⟨g, rfl⟩ := Gr.of hb; clear hb))
  all_goals
    go_ret
    exact ⟨rfl, g.ok⟩

set_option maxRecDepth 100000 in
set_option maxHeartbeats 2000000 in
theorem sums_s2_ma (a b : Int) (wa : (Lit.int .i64 a).wf = true) (wb : (Lit.int .i64 b).wf = true) (hs : b < 0) (hi : In64 (a + b)) (h0 : b ≠ 0) (hm : a = 0) (w : World) :
    Calls Try.prog 7 #[.int .i64 a, .int .i64 b] w fun e w' => e = .returned (.bool true) ∧ Below w.heap.size w w' := by
  obtain ⟨a1, a2⟩ := bounds_i64 wa
  obtain ⟨b1, b2⟩ := bounds_i64 wb
  have AD : Hid (∀ w : World, Calls Try.prog 25 #[.int .i64 a, .int .i64 b] w fun e w' => e = .returned (.tuple #[.int .i64 (a + b), .bool true]) ∧ w = w') := fun w => add_yes _ _ wa wb hi w
  have ML : Hid (∀ w : World, Calls Try.prog 26 #[.int .i64 a, .int .i64 b] w fun e w' => e = .returned (.tuple #[.int .i64 0, .bool true]) ∧ w = w') := fun w => by have := mul_yes a b wa wb h0 (by rw [hm]; simp [In64]) w; rwa [show a * b = 0 by rw [hm]; simp] at this
  have e0 : decide (0 ≤ b) = false := by simp; omega
  have e1 : decide (b < 0) = true := by simp; omega
  obtain ⟨i1, i2⟩ := hi
  have z0 : (a == 0) = true := by simpa using hm
  clear hm
  clear wa wb
  go_enter Try.func7, Try.ntmps7
  go_wp2_with (first
    | (go_at_call 25; refine (AD.out _).mono ?_; rintro e w' ⟨rfl, rfl⟩)
    | (go_at_call 26; refine (ML.out _).mono ?_; rintro e w' ⟨rfl, rfl⟩)
    | (go_at_call 13; refine (fixed_any _).mono ?_; rintro e w' ⟨rfl, hb⟩; obtain ⟨g, rfl⟩ := Gr.of hb; clear hb))
  all_goals
    go_ret
    exact ⟨rfl, g.ok⟩

set_option maxRecDepth 100000 in
set_option maxHeartbeats 2000000 in
theorem sums_s2_na1 (a b : Int) (wa : (Lit.int .i64 a).wf = true) (wb : (Lit.int .i64 b).wf = true) (hs : b < 0) (hi : In64 (a + b)) (h0 : b ≠ 0) (h1 : a ≠ 0) (hn : a = -9223372036854775808) (ho : b = 1) (w : World) :
    Calls Try.prog 7 #[.int .i64 a, .int .i64 b] w fun e w' => e = .returned (.bool true) ∧ Below w.heap.size w w' := by
  obtain ⟨a1, a2⟩ := bounds_i64 wa
  obtain ⟨b1, b2⟩ := bounds_i64 wb
  have AD : Hid (∀ w : World, Calls Try.prog 25 #[.int .i64 a, .int .i64 b] w fun e w' => e = .returned (.tuple #[.int .i64 (a + b), .bool true]) ∧ w = w') := fun w => add_yes _ _ wa wb hi w
  have ML : Hid (∀ w : World, Calls Try.prog 26 #[.int .i64 a, .int .i64 b] w fun e w' => e = .returned (.tuple #[.int .i64 (-9223372036854775808), .bool true]) ∧ w = w') := fun w => by have := mul_yes a b wa wb h0 (by rw [hn, ho]; unfold In64; omega) w; rwa [show a * b = -9223372036854775808 by rw [hn, ho]; decide] at this
  have e0 : decide (0 ≤ b) = false := by simp; omega
  have e1 : decide (b < 0) = true := by simp; omega
  obtain ⟨i1, i2⟩ := hi
  have z0 : (a == 0) = false := by simpa using h1
  have z1 : (b == 0) = false := by simpa using h0
  have n0 : (a == -9223372036854775808) = true := by simpa using hn
  have n1 : (a == 1) = false := by simp; omega
  have n2 : (b == 1) = true := by simpa using ho
  clear hn ho h0 h1
  clear wa wb
  go_enter Try.func7, Try.ntmps7
  go_wp2_with (first
    | (go_at_call 25; refine (AD.out _).mono ?_; rintro e w' ⟨rfl, rfl⟩)
    | (go_at_call 26; refine (ML.out _).mono ?_; rintro e w' ⟨rfl, rfl⟩)
    | (go_at_call 13; refine (fixed_any _).mono ?_; rintro e w' ⟨rfl, hb⟩; obtain ⟨g, rfl⟩ := Gr.of hb; clear hb))
  all_goals
    go_ret
    exact ⟨rfl, g.ok⟩

set_option maxRecDepth 100000 in
set_option maxHeartbeats 2000000 in
theorem sums_s2_na2 (a b : Int) (wa : (Lit.int .i64 a).wf = true) (wb : (Lit.int .i64 b).wf = true) (hs : b < 0) (hi : In64 (a + b)) (h0 : b ≠ 0) (h1 : a ≠ 0) (hn : a = -9223372036854775808) (ho : b ≠ 1) (w : World) :
    Calls Try.prog 7 #[.int .i64 a, .int .i64 b] w fun e w' => e = .returned (.bool true) ∧ Below w.heap.size w w' := by
  obtain ⟨a1, a2⟩ := bounds_i64 wa
  obtain ⟨b1, b2⟩ := bounds_i64 wb
  have AD : Hid (∀ w : World, Calls Try.prog 25 #[.int .i64 a, .int .i64 b] w fun e w' => e = .returned (.tuple #[.int .i64 (a + b), .bool true]) ∧ w = w') := fun w => add_yes _ _ wa wb hi w
  have ML : Hid (∀ w : World, Calls Try.prog 26 #[.int .i64 a, .int .i64 b] w fun e w' => e = .returned (.tuple #[.int .i64 0, .bool false]) ∧ w = w') := fun w => mul_no a b wa wb h0 (by rw [hn]; unfold In64; omega) w
  have e0 : decide (0 ≤ b) = false := by simp; omega
  have e1 : decide (b < 0) = true := by simp; omega
  obtain ⟨i1, i2⟩ := hi
  have z0 : (a == 0) = false := by simpa using h1
  have z1 : (b == 0) = false := by simpa using h0
  have n0 : (a == -9223372036854775808) = true := by simpa using hn
  have n1 : (a == 1) = false := by simp; omega
  have n2 : (b == 1) = false := by simpa using ho
  clear hn ho h0 h1
  clear wa wb
  go_enter Try.func7, Try.ntmps7
  go_wp2_with (first
    | (go_at_call 25; refine (AD.out _).mono ?_; rintro e w' ⟨rfl, rfl⟩)
    | (go_at_call 26; refine (ML.out _).mono ?_; rintro e w' ⟨rfl, rfl⟩)
    | (go_at_call 13; refine (fixed_any _).mono ?_; rintro e w' ⟨rfl, hb⟩; obtain ⟨g, rfl⟩ := Gr.of hb; clear hb))
  all_goals
    go_ret
    exact ⟨rfl, g.ok⟩

set_option maxRecDepth 100000 in
set_option maxHeartbeats 2000000 in
theorem sums_s2_nb1 (a b : Int) (wa : (Lit.int .i64 a).wf = true) (wb : (Lit.int .i64 b).wf = true) (hs : b < 0) (hi : In64 (a + b)) (h0 : b ≠ 0) (h1 : a ≠ 0) (hx : a ≠ -9223372036854775808) (hn : b = -9223372036854775808) (ho : a = 1) (w : World) :
    Calls Try.prog 7 #[.int .i64 a, .int .i64 b] w fun e w' => e = .returned (.bool true) ∧ Below w.heap.size w w' := by
  obtain ⟨a1, a2⟩ := bounds_i64 wa
  obtain ⟨b1, b2⟩ := bounds_i64 wb
  have AD : Hid (∀ w : World, Calls Try.prog 25 #[.int .i64 a, .int .i64 b] w fun e w' => e = .returned (.tuple #[.int .i64 (a + b), .bool true]) ∧ w = w') := fun w => add_yes _ _ wa wb hi w
  have ML : Hid (∀ w : World, Calls Try.prog 26 #[.int .i64 a, .int .i64 b] w fun e w' => e = .returned (.tuple #[.int .i64 (-9223372036854775808), .bool true]) ∧ w = w') := fun w => by have := mul_yes a b wa wb h0 (by rw [hn, ho]; unfold In64; omega) w; rwa [show a * b = -9223372036854775808 by rw [hn, ho]; decide] at this
  have e0 : decide (0 ≤ b) = false := by simp; omega
  have e1 : decide (b < 0) = true := by simp; omega
  obtain ⟨i1, i2⟩ := hi
  have z0 : (a == 0) = false := by simpa using h1
  have z1 : (b == 0) = false := by simpa using h0
  have n00 : (a == -9223372036854775808) = false := by simpa using hx
  have n0 : (b == -9223372036854775808) = true := by simpa using hn
  have n1 : (a == 1) = true := by simpa using ho
  clear hn ho h0 h1
  clear wa wb
  go_enter Try.func7, Try.ntmps7
  go_wp2_with (first
    | (go_at_call 25; refine (AD.out _).mono ?_; rintro e w' ⟨rfl, rfl⟩)
    | (go_at_call 26; refine (ML.out _).mono ?_; rintro e w' ⟨rfl, rfl⟩)
    | (go_at_call 13; refine (fixed_any _).mono ?_; rintro e w' ⟨rfl, hb⟩; obtain ⟨g, rfl⟩ := Gr.of hb; clear hb))
  all_goals
    go_ret
    exact ⟨rfl, g.ok⟩

set_option maxRecDepth 100000 in
set_option maxHeartbeats 2000000 in
theorem sums_s2_nb2 (a b : Int) (wa : (Lit.int .i64 a).wf = true) (wb : (Lit.int .i64 b).wf = true) (hs : b < 0) (hi : In64 (a + b)) (h0 : b ≠ 0) (h1 : a ≠ 0) (hx : a ≠ -9223372036854775808) (hn : b = -9223372036854775808) (ho : a ≠ 1) (w : World) :
    Calls Try.prog 7 #[.int .i64 a, .int .i64 b] w fun e w' => e = .returned (.bool true) ∧ Below w.heap.size w w' := by
  obtain ⟨a1, a2⟩ := bounds_i64 wa
  obtain ⟨b1, b2⟩ := bounds_i64 wb
  have AD : Hid (∀ w : World, Calls Try.prog 25 #[.int .i64 a, .int .i64 b] w fun e w' => e = .returned (.tuple #[.int .i64 (a + b), .bool true]) ∧ w = w') := fun w => add_yes _ _ wa wb hi w
  have ML : Hid (∀ w : World, Calls Try.prog 26 #[.int .i64 a, .int .i64 b] w fun e w' => e = .returned (.tuple #[.int .i64 0, .bool false]) ∧ w = w') := fun w => mul_no a b wa wb h0 (by rw [hn]; unfold In64; omega) w
  have e0 : decide (0 ≤ b) = false := by simp; omega
  have e1 : decide (b < 0) = true := by simp; omega
  obtain ⟨i1, i2⟩ := hi
  have z0 : (a == 0) = false := by simpa using h1
  have z1 : (b == 0) = false := by simpa using h0
  have n00 : (a == -9223372036854775808) = false := by simpa using hx
  have n0 : (b == -9223372036854775808) = true := by simpa using hn
  have n1 : (a == 1) = false := by simpa using ho
  have n2 : (b == 1) = false := by simp; omega
  clear hn ho h0 h1
  clear wa wb
  go_enter Try.func7, Try.ntmps7
  go_wp2_with (first
    | (go_at_call 25; refine (AD.out _).mono ?_; rintro e w' ⟨rfl, rfl⟩)
    | (go_at_call 26; refine (ML.out _).mono ?_; rintro e w' ⟨rfl, rfl⟩)
    | (go_at_call 13; refine (fixed_any _).mono ?_; rintro e w' ⟨rfl, hb⟩; obtain ⟨g, rfl⟩ := Gr.of hb; clear hb))
  all_goals
    go_ret
    exact ⟨rfl, g.ok⟩

set_option maxRecDepth 100000 in
set_option maxHeartbeats 2000000 in
theorem sums_s2_y (a b : Int) (wa : (Lit.int .i64 a).wf = true) (wb : (Lit.int .i64 b).wf = true) (hs : b < 0) (hi : In64 (a + b)) (h0 : b ≠ 0) (h1 : a ≠ 0) (hx : a ≠ -9223372036854775808) (hy : b ≠ -9223372036854775808) (hp : In64 (a * b)) (hq : a * b ≠ -9223372036854775808) (w : World) :
    Calls Try.prog 7 #[.int .i64 a, .int .i64 b] w fun e w' => e = .returned (.bool true) ∧ Below w.heap.size w w' := by
  obtain ⟨a1, a2⟩ := bounds_i64 wa
  obtain ⟨b1, b2⟩ := bounds_i64 wb
  have AD : Hid (∀ w : World, Calls Try.prog 25 #[.int .i64 a, .int .i64 b] w fun e w' => e = .returned (.tuple #[.int .i64 (a + b), .bool true]) ∧ w = w') := fun w => add_yes _ _ wa wb hi w
  have ML : Hid (∀ w : World, Calls Try.prog 26 #[.int .i64 a, .int .i64 b] w fun e w' => e = .returned (.tuple #[.int .i64 (a * b), .bool true]) ∧ w = w') := fun w => mul_yes _ _ wa wb h0 hp w
  have e0 : decide (0 ≤ b) = false := by simp; omega
  have e1 : decide (b < 0) = true := by simp; omega
  obtain ⟨i1, i2⟩ := hi
  have z0 : (a == 0) = false := by simpa using h1
  have z1 : (b == 0) = false := by simpa using h0
  have n00 : (a == -9223372036854775808) = false := by simpa using hx
  have n0 : (b == -9223372036854775808) = false := by simpa using hy
  have t0 := (mul_test a b a1 a2 b1 b2 h0).2 (Or.inl hp)
  have t1 : wrap64 (a * b) = a * b := by obtain ⟨x, y⟩ := hp; unfold wrap64; omega
  have t2 : (a * b == -9223372036854775808) = false := by simpa using hq
  have t3 : (a * b != -9223372036854775808) = true := by simpa using hq
  have wa64 : wrap64 a = a := by unfold wrap64; omega
  clear t0 h1 hp hq hx hy
  clear wa wb
  go_enter Try.func7, Try.ntmps7
  go_wp2_with (first
    | (go_at_call 25; refine (AD.out _).mono ?_; rintro e w' ⟨rfl, rfl⟩)
    | (go_at_call 26; refine (ML.out _).mono ?_; rintro e w' ⟨rfl, rfl⟩)
    | (go_at_call 13; refine (fixed_any _).mono ?_; rintro e w' ⟨rfl, hb⟩; obtain ⟨g, rfl⟩ := Gr.of hb; clear hb))
  all_goals
    go_ret
    exact ⟨rfl, g.ok⟩

set_option maxRecDepth 100000 in
set_option maxHeartbeats 2000000 in
theorem sums_s2_ym (a b : Int) (wa : (Lit.int .i64 a).wf = true) (wb : (Lit.int .i64 b).wf = true) (hs : b < 0) (hi : In64 (a + b)) (h0 : b ≠ 0) (h1 : a ≠ 0) (hx : a ≠ -9223372036854775808) (hy : b ≠ -9223372036854775808) (hp : In64 (a * b)) (hq : a * b = -9223372036854775808) (w : World) :
    Calls Try.prog 7 #[.int .i64 a, .int .i64 b] w fun e w' => e = .returned (.bool true) ∧ Below w.heap.size w w' := by
  obtain ⟨a1, a2⟩ := bounds_i64 wa
  obtain ⟨b1, b2⟩ := bounds_i64 wb
  have AD : Hid (∀ w : World, Calls Try.prog 25 #[.int .i64 a, .int .i64 b] w fun e w' => e = .returned (.tuple #[.int .i64 (a + b), .bool true]) ∧ w = w') := fun w => add_yes _ _ wa wb hi w
  have ML : Hid (∀ w : World, Calls Try.prog 26 #[.int .i64 a, .int .i64 b] w fun e w' => e = .returned (.tuple #[.int .i64 (-9223372036854775808), .bool true]) ∧ w = w') := fun w => by have := mul_yes a b wa wb h0 hp w; rwa [hq] at this
  have e0 : decide (0 ≤ b) = false := by simp; omega
  have e1 : decide (b < 0) = true := by simp; omega
  obtain ⟨i1, i2⟩ := hi
  have z0 : (a == 0) = false := by simpa using h1
  have z1 : (b == 0) = false := by simpa using h0
  have n00 : (a == -9223372036854775808) = false := by simpa using hx
  have n0 : (b == -9223372036854775808) = false := by simpa using hy
  have t0 := (mul_test a b a1 a2 b1 b2 h0).2 (Or.inl hp)
  have t1 : wrap64 (a * b) = -9223372036854775808 := by rw [hq]; decide +kernel
  rw [t1] at t0
  have t4 : wrap64 (-Int.tdiv 9223372036854775808 b) = a := by rw [← Int.neg_tdiv]; exact t0
  clear t0
  have s1 : decide (a < 0) = false := by
    simp only [decide_eq_false_iff_not]; intro hc
    have := Int.mul_nonneg_of_nonpos_of_nonpos (a := a) (b := b) (by omega) (by omega); omega
  clear h1 hp hq hx hy
  clear wa wb
  go_enter Try.func7, Try.ntmps7
  go_wp2_with (first
    | (go_at_call 25; refine (AD.out _).mono ?_; rintro e w' ⟨rfl, rfl⟩)
    | (go_at_call 26; refine (ML.out _).mono ?_; rintro e w' ⟨rfl, rfl⟩)
    | (go_at_call 13; refine (fixed_any _).mono ?_; rintro e w' ⟨rfl, hb⟩; obtain ⟨g, rfl⟩ := Gr.of hb; clear hb))
  all_goals
    go_ret
    exact ⟨rfl, g.ok⟩

set_option maxRecDepth 100000 in
set_option maxHeartbeats 2000000 in
theorem sums_s2_nm (a b : Int) (wa : (Lit.int .i64 a).wf = true) (wb : (Lit.int .i64 b).wf = true) (hs : b < 0) (hi : In64 (a + b)) (h0 : b ≠ 0) (h1 : a ≠ 0) (hx : a ≠ -9223372036854775808) (hy : b ≠ -9223372036854775808) (hp : ¬ In64 (a * b)) (hu : wrap64 (a * b) = -9223372036854775808) (w : World) :
    Calls Try.prog 7 #[.int .i64 a, .int .i64 b] w fun e w' => e = .returned (.bool true) ∧ Below w.heap.size w w' := by
  obtain ⟨a1, a2⟩ := bounds_i64 wa
  obtain ⟨b1, b2⟩ := bounds_i64 wb
  have AD : Hid (∀ w : World, Calls Try.prog 25 #[.int .i64 a, .int .i64 b] w fun e w' => e = .returned (.tuple #[.int .i64 (a + b), .bool true]) ∧ w = w') := fun w => add_yes _ _ wa wb hi w
  have ML : Hid (∀ w : World, Calls Try.prog 26 #[.int .i64 a, .int .i64 b] w fun e w' => e = .returned (.tuple #[.int .i64 0, .bool false]) ∧ w = w') := fun w => mul_no _ _ wa wb h0 hp w
  have e0 : decide (0 ≤ b) = false := by simp; omega
  have e1 : decide (b < 0) = true := by simp; omega
  obtain ⟨i1, i2⟩ := hi
  have z0 : (a == 0) = false := by simpa using h1
  have z1 : (b == 0) = false := by simpa using h0
  have n00 : (a == -9223372036854775808) = false := by simpa using hx
  have n0 : (b == -9223372036854775808) = false := by simpa using hy
  have t0 : ¬ wrap64 ((wrap64 (a * b)).tdiv b) = a := by
    intro t; rcases (mul_test a b a1 a2 b1 b2 h0).1 t with t | t
    · exact hp t
    · exact hx t.1
  rw [hu] at t0
  have t4 : (wrap64 (-Int.tdiv 9223372036854775808 b) == a) = false := by rw [← Int.neg_tdiv]; simpa using t0
  clear t0 h1 hp hx hy
  clear wa wb
  go_enter Try.func7, Try.ntmps7
  go_wp2_with (first
    | (go_at_call 25; refine (AD.out _).mono ?_; rintro e w' ⟨rfl, rfl⟩)
    | (go_at_call 26; refine (ML.out _).mono ?_; rintro e w' ⟨rfl, rfl⟩)
    | (go_at_call 13; refine (fixed_any _).mono ?_; rintro e w' ⟨rfl, hb⟩; obtain ⟨g, rfl⟩ := Gr.of hb; clear hb))
  all_goals
    go_ret
    exact ⟨rfl, g.ok⟩

set_option maxRecDepth 100000 in
set_option maxHeartbeats 2000000 in
theorem sums_s2_no (a b : Int) (wa : (Lit.int .i64 a).wf = true) (wb : (Lit.int .i64 b).wf = true) (hs : b < 0) (hi : In64 (a + b)) (h0 : b ≠ 0) (h1 : a ≠ 0) (hx : a ≠ -9223372036854775808) (hy : b ≠ -9223372036854775808) (hp : ¬ In64 (a * b)) (hu : wrap64 (a * b) ≠ -9223372036854775808) (w : World) :
    Calls Try.prog 7 #[.int .i64 a, .int .i64 b] w fun e w' => e = .returned (.bool true) ∧ Below w.heap.size w w' := by
  obtain ⟨a1, a2⟩ := bounds_i64 wa
  obtain ⟨b1, b2⟩ := bounds_i64 wb
  have AD : Hid (∀ w : World, Calls Try.prog 25 #[.int .i64 a, .int .i64 b] w fun e w' => e = .returned (.tuple #[.int .i64 (a + b), .bool true]) ∧ w = w') := fun w => add_yes _ _ wa wb hi w
  have ML : Hid (∀ w : World, Calls Try.prog 26 #[.int .i64 a, .int .i64 b] w fun e w' => e = .returned (.tuple #[.int .i64 0, .bool false]) ∧ w = w') := fun w => mul_no _ _ wa wb h0 hp w
  have e0 : decide (0 ≤ b) = false := by simp; omega
  have e1 : decide (b < 0) = true := by simp; omega
  obtain ⟨i1, i2⟩ := hi
  have z0 : (a == 0) = false := by simpa using h1
  have z1 : (b == 0) = false := by simpa using h0
  have n00 : (a == -9223372036854775808) = false := by simpa using hx
  have n0 : (b == -9223372036854775808) = false := by simpa using hy
  have t0 : ¬ wrap64 ((wrap64 (a * b)).tdiv b) = a := by
    intro t; rcases (mul_test a b a1 a2 b1 b2 h0).1 t with t | t
    · exact hp t
    · exact hx t.1
  have t4 : (wrap64 ((wrap64 (a * b)).tdiv b) == a) = false := by simpa using t0
  have t5 : (wrap64 (a * b) == -9223372036854775808) = false := by simpa using hu
  clear t0 hu h1 hp hx hy
  clear wa wb
  go_enter Try.func7, Try.ntmps7
  go_wp2_with (first
    | (go_at_call 25; refine (AD.out _).mono ?_; rintro e w' ⟨rfl, rfl⟩)
    | (go_at_call 26; refine (ML.out _).mono ?_; rintro e w' ⟨rfl, rfl⟩)
    | (go_at_call 13; refine (fixed_any _).mono ?_; rintro e w' ⟨rfl, hb⟩; obtain ⟨g, rfl⟩ := Gr.of hb; clear hb))
  all_goals
    go_ret
    exact ⟨rfl, g.ok⟩

set_option maxRecDepth 100000 in
set_option maxHeartbeats 2000000 in
theorem sums_n2_mz (a b : Int) (wa : (Lit.int .i64 a).wf = true) (wb : (Lit.int .i64 b).wf = true) (hs : b < 0) (hi : ¬ In64 (a + b)) (hm : b = 0) (w : World) :
    Calls Try.prog 7 #[.int .i64 a, .int .i64 b] w fun e w' => e = .returned (.bool true) ∧ Below w.heap.size w w' := by
  obtain ⟨a1, a2⟩ := bounds_i64 wa
  obtain ⟨b1, b2⟩ := bounds_i64 wb
  have AD : Hid (∀ w : World, Calls Try.prog 25 #[.int .i64 a, .int .i64 b] w fun e w' => e = .returned (.tuple #[.int .i64 0, .bool false]) ∧ w = w') := fun w => add_no _ _ wa wb hi w
  have ML : Hid (∀ w : World, Calls Try.prog 26 #[.int .i64 a, .int .i64 b] w fun e w' => e = .returned (.tuple #[.int .i64 0, .bool true]) ∧ w = w') := fun w => by rw [hm]; exact mul_zero _ _
  have e0 : decide (0 ≤ b) = false := by simp; omega
  have e1 : decide (b < 0) = true := by simp; omega
  have e2 : decide (wrap64 (a + b) < a) = false := by unfold In64 at hi; simp only [decide_eq_false_iff_not]; unfold wrap64; omega
  have z1 : (b == 0) = true := by simpa using hm
  clear hm
  clear wa wb
  go_enter Try.func7, Try.ntmps7
  go_wp2_with (first
    | (go_at_call 25; refine (AD.out _).mono ?_; rintro e w' ⟨rfl, rfl⟩)
    | (go_at_call 26; refine (ML.out _).mono ?_; rintro e w' ⟨rfl, rfl⟩)
    | (go_at_call 13; refine (fixed_any _).mono ?_; rintro e w' ⟨rfl, hb⟩; obtain ⟨g, rfl⟩ := Gr.of hb; clear hb))
  all_goals
    go_ret
    exact ⟨rfl, g.ok⟩

set_option maxRecDepth 100000 in
set_option maxHeartbeats 2000000 in
theorem sums_n2_ma (a b : Int) (wa : (Lit.int .i64 a).wf = true) (wb : (Lit.int .i64 b).wf = true) (hs : b < 0) (hi : ¬ In64 (a + b)) (h0 : b ≠ 0) (hm : a = 0) (w : World) :
    Calls Try.prog 7 #[.int .i64 a, .int .i64 b] w fun e w' => e = .returned (.bool true) ∧ Below w.heap.size w w' := by
  obtain ⟨a1, a2⟩ := bounds_i64 wa
  obtain ⟨b1, b2⟩ := bounds_i64 wb
  have AD : Hid (∀ w : World, Calls Try.prog 25 #[.int .i64 a, .int .i64 b] w fun e w' => e = .returned (.tuple #[.int .i64 0, .bool false]) ∧ w = w') := fun w => add_no _ _ wa wb hi w
  have ML : Hid (∀ w : World, Calls Try.prog 26 #[.int .i64 a, .int .i64 b] w fun e w' => e = .returned (.tuple #[.int .i64 0, .bool true]) ∧ w = w') := fun w => by have := mul_yes a b wa wb h0 (by rw [hm]; simp [In64]) w; rwa [show a * b = 0 by rw [hm]; simp] at this
  have e0 : decide (0 ≤ b) = false := by simp; omega
  have e1 : decide (b < 0) = true := by simp; omega
  have e2 : decide (wrap64 (a + b) < a) = false := by unfold In64 at hi; simp only [decide_eq_false_iff_not]; unfold wrap64; omega
  have z0 : (a == 0) = true := by simpa using hm
  clear hm
  clear wa wb
  go_enter Try.func7, Try.ntmps7
  go_wp2_with (first
    | (go_at_call 25; refine (AD.out _).mono ?_; rintro e w' ⟨rfl, rfl⟩)
    | (go_at_call 26; refine (ML.out _).mono ?_; rintro e w' ⟨rfl, rfl⟩)
    | (go_at_call 13; refine (fixed_any _).mono ?_; rintro e w' ⟨rfl, hb⟩; obtain ⟨g, rfl⟩ := Gr.of hb; clear hb))
  all_goals
    go_ret
    exact ⟨rfl, g.ok⟩

set_option maxRecDepth 100000 in
set_option maxHeartbeats 2000000 in
theorem sums_n2_na1 (a b : Int) (wa : (Lit.int .i64 a).wf = true) (wb : (Lit.int .i64 b).wf = true) (hs : b < 0) (hi : ¬ In64 (a + b)) (h0 : b ≠ 0) (h1 : a ≠ 0) (hn : a = -9223372036854775808) (ho : b = 1) (w : World) :
    Calls Try.prog 7 #[.int .i64 a, .int .i64 b] w fun e w' => e = .returned (.bool true) ∧ Below w.heap.size w w' := by
  obtain ⟨a1, a2⟩ := bounds_i64 wa
  obtain ⟨b1, b2⟩ := bounds_i64 wb
  have AD : Hid (∀ w : World, Calls Try.prog 25 #[.int .i64 a, .int .i64 b] w fun e w' => e = .returned (.tuple #[.int .i64 0, .bool false]) ∧ w = w') := fun w => add_no _ _ wa wb hi w
  have ML : Hid (∀ w : World, Calls Try.prog 26 #[.int .i64 a, .int .i64 b] w fun e w' => e = .returned (.tuple #[.int .i64 (-9223372036854775808), .bool true]) ∧ w = w') := fun w => by have := mul_yes a b wa wb h0 (by rw [hn, ho]; unfold In64; omega) w; rwa [show a * b = -9223372036854775808 by rw [hn, ho]; decide] at this
  have e0 : decide (0 ≤ b) = false := by simp; omega
  have e1 : decide (b < 0) = true := by simp; omega
  have e2 : decide (wrap64 (a + b) < a) = false := by unfold In64 at hi; simp only [decide_eq_false_iff_not]; unfold wrap64; omega
  have z0 : (a == 0) = false := by simpa using h1
  have z1 : (b == 0) = false := by simpa using h0
  have n0 : (a == -9223372036854775808) = true := by simpa using hn
  have n1 : (a == 1) = false := by simp; omega
  have n2 : (b == 1) = true := by simpa using ho
  clear hn ho h0 h1
  clear wa wb
  go_enter Try.func7, Try.ntmps7
  go_wp2_with (first
    | (go_at_call 25; refine (AD.out _).mono ?_; rintro e w' ⟨rfl, rfl⟩)
    | (go_at_call 26; refine (ML.out _).mono ?_; rintro e w' ⟨rfl, rfl⟩)
    | (go_at_call 13; refine (fixed_any _).mono ?_; rintro e w' ⟨rfl, hb⟩; obtain ⟨g, rfl⟩ := Gr.of hb; clear hb))
  all_goals
    go_ret
    exact ⟨rfl, g.ok⟩

set_option maxRecDepth 100000 in
set_option maxHeartbeats 2000000 in
theorem sums_n2_na2 (a b : Int) (wa : (Lit.int .i64 a).wf = true) (wb : (Lit.int .i64 b).wf = true) (hs : b < 0) (hi : ¬ In64 (a + b)) (h0 : b ≠ 0) (h1 : a ≠ 0) (hn : a = -9223372036854775808) (ho : b ≠ 1) (w : World) :
    Calls Try.prog 7 #[.int .i64 a, .int .i64 b] w fun e w' => e = .returned (.bool true) ∧ Below w.heap.size w w' := by
  obtain ⟨a1, a2⟩ := bounds_i64 wa
  obtain ⟨b1, b2⟩ := bounds_i64 wb
  have AD : Hid (∀ w : World, Calls Try.prog 25 #[.int .i64 a, .int .i64 b] w fun e w' => e = .returned (.tuple #[.int .i64 0, .bool false]) ∧ w = w') := fun w => add_no _ _ wa wb hi w
  have ML : Hid (∀ w : World, Calls Try.prog 26 #[.int .i64 a, .int .i64 b] w fun e w' => e = .returned (.tuple #[.int .i64 0, .bool false]) ∧ w = w') := fun w => mul_no a b wa wb h0 (by rw [hn]; unfold In64; omega) w
  have e0 : decide (0 ≤ b) = false := by simp; omega
  have e1 : decide (b < 0) = true := by simp; omega
  have e2 : decide (wrap64 (a + b) < a) = false := by unfold In64 at hi; simp only [decide_eq_false_iff_not]; unfold wrap64; omega
  have z0 : (a == 0) = false := by simpa using h1
  have z1 : (b == 0) = false := by simpa using h0
  have n0 : (a == -9223372036854775808) = true := by simpa using hn
  have n1 : (a == 1) = false := by simp; omega
  have n2 : (b == 1) = false := by simpa using ho
  clear hn ho h0 h1
  clear wa wb
  go_enter Try.func7, Try.ntmps7
  go_wp2_with (first
    | (go_at_call 25; refine (AD.out _).mono ?_; rintro e w' ⟨rfl, rfl⟩)
    | (go_at_call 26; refine (ML.out _).mono ?_; rintro e w' ⟨rfl, rfl⟩)
    | (go_at_call 13; refine (fixed_any _).mono ?_; rintro e w' ⟨rfl, hb⟩; obtain ⟨g, rfl⟩ := Gr.of hb; clear hb))
  all_goals
    go_ret
    exact ⟨rfl, g.ok⟩

set_option maxRecDepth 100000 in
set_option maxHeartbeats 2000000 in
theorem sums_n2_nb1 (a b : Int) (wa : (Lit.int .i64 a).wf = true) (wb : (Lit.int .i64 b).wf = true) (hs : b < 0) (hi : ¬ In64 (a + b)) (h0 : b ≠ 0) (h1 : a ≠ 0) (hx : a ≠ -9223372036854775808) (hn : b = -9223372036854775808) (ho : a = 1) (w : World) :
    Calls Try.prog 7 #[.int .i64 a, .int .i64 b] w fun e w' => e = .returned (.bool true) ∧ Below w.heap.size w w' := by
  obtain ⟨a1, a2⟩ := bounds_i64 wa
  obtain ⟨b1, b2⟩ := bounds_i64 wb
  have AD : Hid (∀ w : World, Calls Try.prog 25 #[.int .i64 a, .int .i64 b] w fun e w' => e = .returned (.tuple #[.int .i64 0, .bool false]) ∧ w = w') := fun w => add_no _ _ wa wb hi w
  have ML : Hid (∀ w : World, Calls Try.prog 26 #[.int .i64 a, .int .i64 b] w fun e w' => e = .returned (.tuple #[.int .i64 (-9223372036854775808), .bool true]) ∧ w = w') := fun w => by have := mul_yes a b wa wb h0 (by rw [hn, ho]; unfold In64; omega) w; rwa [show a * b = -9223372036854775808 by rw [hn, ho]; decide] at this
  have e0 : decide (0 ≤ b) = false := by simp; omega
  have e1 : decide (b < 0) = true := by simp; omega
  have e2 : decide (wrap64 (a + b) < a) = false := by unfold In64 at hi; simp only [decide_eq_false_iff_not]; unfold wrap64; omega
  have z0 : (a == 0) = false := by simpa using h1
  have z1 : (b == 0) = false := by simpa using h0
  have n00 : (a == -9223372036854775808) = false := by simpa using hx
  have n0 : (b == -9223372036854775808) = true := by simpa using hn
  have n1 : (a == 1) = true := by simpa using ho
  clear hn ho h0 h1
  clear wa wb
  go_enter Try.func7, Try.ntmps7
  go_wp2_with (first
    | (go_at_call 25; refine (AD.out _).mono ?_; rintro e w' ⟨rfl, rfl⟩)
    | (go_at_call 26; refine (ML.out _).mono ?_; rintro e w' ⟨rfl, rfl⟩)
    | (go_at_call 13; refine (fixed_any _).mono ?_; rintro e w' ⟨rfl, hb⟩; obtain ⟨g, rfl⟩ := Gr.of hb; clear hb))
  all_goals
    go_ret
    exact ⟨rfl, g.ok⟩

set_option maxRecDepth 100000 in
set_option maxHeartbeats 2000000 in
theorem sums_n2_nb2 (a b : Int) (wa : (Lit.int .i64 a).wf = true) (wb : (Lit.int .i64 b).wf = true) (hs : b < 0) (hi : ¬ In64 (a + b)) (h0 : b ≠ 0) (h1 : a ≠ 0) (hx : a ≠ -9223372036854775808) (hn : b = -9223372036854775808) (ho : a ≠ 1) (w : World) :
    Calls Try.prog 7 #[.int .i64 a, .int .i64 b] w fun e w' => e = .returned (.bool true) ∧ Below w.heap.size w w' := by
  obtain ⟨a1, a2⟩ := bounds_i64 wa
  obtain ⟨b1, b2⟩ := bounds_i64 wb
  have AD : Hid (∀ w : World, Calls Try.prog 25 #[.int .i64 a, .int .i64 b] w fun e w' => e = .returned (.tuple #[.int .i64 0, .bool false]) ∧ w = w') := fun w => add_no _ _ wa wb hi w
  have ML : Hid (∀ w : World, Calls Try.prog 26 #[.int .i64 a, .int .i64 b] w fun e w' => e = .returned (.tuple #[.int .i64 0, .bool false]) ∧ w = w') := fun w => mul_no a b wa wb h0 (by rw [hn]; unfold In64; omega) w
  have e0 : decide (0 ≤ b) = false := by simp; omega
  have e1 : decide (b < 0) = true := by simp; omega
  have e2 : decide (wrap64 (a + b) < a) = false := by unfold In64 at hi; simp only [decide_eq_false_iff_not]; unfold wrap64; omega
  have z0 : (a == 0) = false := by simpa using h1
  have z1 : (b == 0) = false := by simpa using h0
  have n00 : (a == -9223372036854775808) = false := by simpa using hx
  have n0 : (b == -9223372036854775808) = true := by simpa using hn
  have n1 : (a == 1) = false := by simpa using ho
  have n2 : (b == 1) = false := by simp; omega
  clear hn ho h0 h1
  clear wa wb
  go_enter Try.func7, Try.ntmps7
  go_wp2_with (first
    | (go_at_call 25; refine (AD.out _).mono ?_; rintro e w' ⟨rfl, rfl⟩)
    | (go_at_call 26; refine (ML.out _).mono ?_; rintro e w' ⟨rfl, rfl⟩)
    | (go_at_call 13; refine (fixed_any _).mono ?_; rintro e w' ⟨rfl, hb⟩; obtain ⟨g, rfl⟩ := Gr.of hb; clear hb))
  all_goals
    go_ret
    exact ⟨rfl, g.ok⟩

set_option maxRecDepth 100000 in
set_option maxHeartbeats 2000000 in
theorem sums_n2_y (a b : Int) (wa : (Lit.int .i64 a).wf = true) (wb : (Lit.int .i64 b).wf = true) (hs : b < 0) (hi : ¬ In64 (a + b)) (h0 : b ≠ 0) (h1 : a ≠ 0) (hx : a ≠ -9223372036854775808) (hy : b ≠ -9223372036854775808) (hp : In64 (a * b)) (hq : a * b ≠ -9223372036854775808) (w : World) :
    Calls Try.prog 7 #[.int .i64 a, .int .i64 b] w fun e w' => e = .returned (.bool true) ∧ Below w.heap.size w w' := by
  obtain ⟨a1, a2⟩ := bounds_i64 wa
  obtain ⟨b1, b2⟩ := bounds_i64 wb
  have AD : Hid (∀ w : World, Calls Try.prog 25 #[.int .i64 a, .int .i64 b] w fun e w' => e = .returned (.tuple #[.int .i64 0, .bool false]) ∧ w = w') := fun w => add_no _ _ wa wb hi w
  have ML : Hid (∀ w : World, Calls Try.prog 26 #[.int .i64 a, .int .i64 b] w fun e w' => e = .returned (.tuple #[.int .i64 (a * b), .bool true]) ∧ w = w') := fun w => mul_yes _ _ wa wb h0 hp w
  have e0 : decide (0 ≤ b) = false := by simp; omega
  have e1 : decide (b < 0) = true := by simp; omega
  have e2 : decide (wrap64 (a + b) < a) = false := by unfold In64 at hi; simp only [decide_eq_false_iff_not]; unfold wrap64; omega
  have z0 : (a == 0) = false := by simpa using h1
  have z1 : (b == 0) = false := by simpa using h0
  have n00 : (a == -9223372036854775808) = false := by simpa using hx
  have n0 : (b == -9223372036854775808) = false := by simpa using hy
  have t0 := (mul_test a b a1 a2 b1 b2 h0).2 (Or.inl hp)
  have t1 : wrap64 (a * b) = a * b := by obtain ⟨x, y⟩ := hp; unfold wrap64; omega
  have t2 : (a * b == -9223372036854775808) = false := by simpa using hq
  have t3 : (a * b != -9223372036854775808) = true := by simpa using hq
  have wa64 : wrap64 a = a := by unfold wrap64; omega
  clear t0 h1 hp hq hx hy
  clear wa wb
  go_enter Try.func7, Try.ntmps7
  go_wp2_with (first
    | (go_at_call 25; refine (AD.out _).mono ?_; rintro e w' ⟨rfl, rfl⟩)
    | (go_at_call 26; refine (ML.out _).mono ?_; rintro e w' ⟨rfl, rfl⟩)
    | (go_at_call 13; refine (fixed_any _).mono ?_; rintro e w' ⟨rfl, hb⟩; obtain ⟨g, rfl⟩ := Gr.of hb; clear hb))
  all_goals
    go_ret
    exact ⟨rfl, g.ok⟩

set_option maxRecDepth 100000 in
set_option maxHeartbeats 2000000 in
theorem sums_n2_ym (a b : Int) (wa : (Lit.int .i64 a).wf = true) (wb : (Lit.int .i64 b).wf = true) (hs : b < 0) (hi : ¬ In64 (a + b)) (h0 : b ≠ 0) (h1 : a ≠ 0) (hx : a ≠ -9223372036854775808) (hy : b ≠ -9223372036854775808) (hp : In64 (a * b)) (hq : a * b = -9223372036854775808) (w : World) :
    Calls Try.prog 7 #[.int .i64 a, .int .i64 b] w fun e w' => e = .returned (.bool true) ∧ Below w.heap.size w w' := by
  obtain ⟨a1, a2⟩ := bounds_i64 wa
  obtain ⟨b1, b2⟩ := bounds_i64 wb
  have AD : Hid (∀ w : World, Calls Try.prog 25 #[.int .i64 a, .int .i64 b] w fun e w' => e = .returned (.tuple #[.int .i64 0, .bool false]) ∧ w = w') := fun w => add_no _ _ wa wb hi w
  have ML : Hid (∀ w : World, Calls Try.prog 26 #[.int .i64 a, .int .i64 b] w fun e w' => e = .returned (.tuple #[.int .i64 (-9223372036854775808), .bool true]) ∧ w = w') := fun w => by have := mul_yes a b wa wb h0 hp w; rwa [hq] at this
  have e0 : decide (0 ≤ b) = false := by simp; omega
  have e1 : decide (b < 0) = true := by simp; omega
  have e2 : decide (wrap64 (a + b) < a) = false := by unfold In64 at hi; simp only [decide_eq_false_iff_not]; unfold wrap64; omega
  have z0 : (a == 0) = false := by simpa using h1
  have z1 : (b == 0) = false := by simpa using h0
  have n00 : (a == -9223372036854775808) = false := by simpa using hx
  have n0 : (b == -9223372036854775808) = false := by simpa using hy
  have t0 := (mul_test a b a1 a2 b1 b2 h0).2 (Or.inl hp)
  have t1 : wrap64 (a * b) = -9223372036854775808 := by rw [hq]; decide +kernel
  rw [t1] at t0
  have t4 : wrap64 (-Int.tdiv 9223372036854775808 b) = a := by rw [← Int.neg_tdiv]; exact t0
  clear t0
  have s1 : decide (a < 0) = false := by
    simp only [decide_eq_false_iff_not]; intro hc
    have := Int.mul_nonneg_of_nonpos_of_nonpos (a := a) (b := b) (by omega) (by omega); omega
  clear h1 hp hq hx hy
  clear wa wb
  go_enter Try.func7, Try.ntmps7
  go_wp2_with (first
    | (go_at_call 25; refine (AD.out _).mono ?_; rintro e w' ⟨rfl, rfl⟩)
    | (go_at_call 26; refine (ML.out _).mono ?_; rintro e w' ⟨rfl, rfl⟩)
    | (go_at_call 13; refine (fixed_any _).mono ?_; rintro e w' ⟨rfl, hb⟩; obtain ⟨g, rfl⟩ := Gr.of hb; clear hb))
  all_goals
    go_ret
    exact ⟨rfl, g.ok⟩

set_option maxRecDepth 100000 in
set_option maxHeartbeats 2000000 in
theorem sums_n2_nm (a b : Int) (wa : (Lit.int .i64 a).wf = true) (wb : (Lit.int .i64 b).wf = true) (hs : b < 0) (hi : ¬ In64 (a + b)) (h0 : b ≠ 0) (h1 : a ≠ 0) (hx : a ≠ -9223372036854775808) (hy : b ≠ -9223372036854775808) (hp : ¬ In64 (a * b)) (hu : wrap64 (a * b) = -9223372036854775808) (w : World) :
    Calls Try.prog 7 #[.int .i64 a, .int .i64 b] w fun e w' => e = .returned (.bool true) ∧ Below w.heap.size w w' := by
  obtain ⟨a1, a2⟩ := bounds_i64 wa
  obtain ⟨b1, b2⟩ := bounds_i64 wb
  have AD : Hid (∀ w : World, Calls Try.prog 25 #[.int .i64 a, .int .i64 b] w fun e w' => e = .returned (.tuple #[.int .i64 0, .bool false]) ∧ w = w') := fun w => add_no _ _ wa wb hi w
  have ML : Hid (∀ w : World, Calls Try.prog 26 #[.int .i64 a, .int .i64 b] w fun e w' => e = .returned (.tuple #[.int .i64 0, .bool false]) ∧ w = w') := fun w => mul_no _ _ wa wb h0 hp w
  have e0 : decide (0 ≤ b) = false := by simp; omega
  have e1 : decide (b < 0) = true := by simp; omega
  have e2 : decide (wrap64 (a + b) < a) = false := by unfold In64 at hi; simp only [decide_eq_false_iff_not]; unfold wrap64; omega
  have z0 : (a == 0) = false := by simpa using h1
  have z1 : (b == 0) = false := by simpa using h0
  have n00 : (a == -9223372036854775808) = false := by simpa using hx
  have n0 : (b == -9223372036854775808) = false := by simpa using hy
  have t0 : ¬ wrap64 ((wrap64 (a * b)).tdiv b) = a := by
    intro t; rcases (mul_test a b a1 a2 b1 b2 h0).1 t with t | t
    · exact hp t
    · exact hx t.1
  rw [hu] at t0
  have t4 : (wrap64 (-Int.tdiv 9223372036854775808 b) == a) = false := by rw [← Int.neg_tdiv]; simpa using t0
  clear t0 h1 hp hx hy
  clear wa wb
  go_enter Try.func7, Try.ntmps7
  go_wp2_with (first
    | (go_at_call 25; refine (AD.out _).mono ?_; rintro e w' ⟨rfl, rfl⟩)
    | (go_at_call 26; refine (ML.out _).mono ?_; rintro e w' ⟨rfl, rfl⟩)
    | (go_at_call 13; refine (fixed_any _).mono ?_; rintro e w' ⟨rfl, hb⟩; obtain ⟨g, rfl⟩ := Gr.of hb; clear hb))
  all_goals
    go_ret
    exact ⟨rfl, g.ok⟩

set_option maxRecDepth 100000 in
set_option maxHeartbeats 2000000 in
theorem sums_n2_no (a b : Int) (wa : (Lit.int .i64 a).wf = true) (wb : (Lit.int .i64 b).wf = true) (hs : b < 0) (hi : ¬ In64 (a + b)) (h0 : b ≠ 0) (h1 : a ≠ 0) (hx : a ≠ -9223372036854775808) (hy : b ≠ -9223372036854775808) (hp : ¬ In64 (a * b)) (hu : wrap64 (a * b) ≠ -9223372036854775808) (w : World) :
    Calls Try.prog 7 #[.int .i64 a, .int .i64 b] w fun e w' => e = .returned (.bool true) ∧ Below w.heap.size w w' := by
  obtain ⟨a1, a2⟩ := bounds_i64 wa
  obtain ⟨b1, b2⟩ := bounds_i64 wb
  have AD : Hid (∀ w : World, Calls Try.prog 25 #[.int .i64 a, .int .i64 b] w fun e w' => e = .returned (.tuple #[.int .i64 0, .bool false]) ∧ w = w') := fun w => add_no _ _ wa wb hi w
  have ML : Hid (∀ w : World, Calls Try.prog 26 #[.int .i64 a, .int .i64 b] w fun e w' => e = .returned (.tuple #[.int .i64 0, .bool false]) ∧ w = w') := fun w => mul_no _ _ wa wb h0 hp w
  have e0 : decide (0 ≤ b) = false := by simp; omega
  have e1 : decide (b < 0) = true := by simp; omega
  have e2 : decide (wrap64 (a + b) < a) = false := by unfold In64 at hi; simp only [decide_eq_false_iff_not]; unfold wrap64; omega
  have z0 : (a == 0) = false := by simpa using h1
  have z1 : (b == 0) = false := by simpa using h0
  have n00 : (a == -9223372036854775808) = false := by simpa using hx
  have n0 : (b == -9223372036854775808) = false := by simpa using hy
  have t0 : ¬ wrap64 ((wrap64 (a * b)).tdiv b) = a := by
    intro t; rcases (mul_test a b a1 a2 b1 b2 h0).1 t with t | t
    · exact hp t
    · exact hx t.1
  have t4 : (wrap64 ((wrap64 (a * b)).tdiv b) == a) = false := by simpa using t0
  have t5 : (wrap64 (a * b) == -9223372036854775808) = false := by simpa using hu
  clear t0 hu h1 hp hx hy
  clear wa wb
  go_enter Try.func7, Try.ntmps7
  go_wp2_with (first
    | (go_at_call 25; refine (AD.out _).mono ?_; rintro e w' ⟨rfl, rfl⟩)
    | (go_at_call 26; refine (ML.out _).mono ?_; rintro e w' ⟨rfl, rfl⟩)
    | (go_at_call 13; refine (fixed_any _).mono ?_; rintro e w' ⟨rfl, hb⟩; obtain ⟨g, rfl⟩ := Gr.of hb; clear hb))
  all_goals
    go_ret
    exact ⟨rfl, g.ok⟩

theorem sums_walk (a b : Int) (wa : (Lit.int .i64 a).wf = true) (wb : (Lit.int .i64 b).wf = true) (w : World) :
    Calls Try.prog 7 #[.int .i64 a, .int .i64 b] w fun e w' => e = .returned (.bool true) ∧ Below w.heap.size w w' := by
  by_cases hi : In64 (a + b)
  · by_cases hs : 0 ≤ b
    · skip
      by_cases hm : b = 0
      · exact sums_s1_mz a b wa wb hs hi hm w
      by_cases h1 : a = 0
      · exact sums_s1_ma a b wa wb hs hi hm h1 w
      by_cases hx : a = -9223372036854775808
      · by_cases ho : b = 1
        · exact sums_s1_na1 a b wa wb hs hi hm h1 hx ho w
        · exact sums_s1_na2 a b wa wb hs hi hm h1 hx ho w
      by_cases hy : b = -9223372036854775808
      · by_cases ho : a = 1
        · exact sums_s1_nb1 a b wa wb hs hi hm h1 hx hy ho w
        · exact sums_s1_nb2 a b wa wb hs hi hm h1 hx hy ho w
      by_cases hp : In64 (a * b)
      · by_cases hq : a * b = -9223372036854775808
        · exact sums_s1_ym a b wa wb hs hi hm h1 hx hy hp hq w
        · exact sums_s1_y a b wa wb hs hi hm h1 hx hy hp hq w
      by_cases hu : wrap64 (a * b) = -9223372036854775808
      · exact sums_s1_nm a b wa wb hs hi hm h1 hx hy hp hu w
      · exact sums_s1_no a b wa wb hs hi hm h1 hx hy hp hu w
    · replace hs : b < 0 := by omega
      by_cases hm : b = 0
      · exact sums_s2_mz a b wa wb hs hi hm w
      by_cases h1 : a = 0
      · exact sums_s2_ma a b wa wb hs hi hm h1 w
      by_cases hx : a = -9223372036854775808
      · by_cases ho : b = 1
        · exact sums_s2_na1 a b wa wb hs hi hm h1 hx ho w
        · exact sums_s2_na2 a b wa wb hs hi hm h1 hx ho w
      by_cases hy : b = -9223372036854775808
      · by_cases ho : a = 1
        · exact sums_s2_nb1 a b wa wb hs hi hm h1 hx hy ho w
        · exact sums_s2_nb2 a b wa wb hs hi hm h1 hx hy ho w
      by_cases hp : In64 (a * b)
      · by_cases hq : a * b = -9223372036854775808
        · exact sums_s2_ym a b wa wb hs hi hm h1 hx hy hp hq w
        · exact sums_s2_y a b wa wb hs hi hm h1 hx hy hp hq w
      by_cases hu : wrap64 (a * b) = -9223372036854775808
      · exact sums_s2_nm a b wa wb hs hi hm h1 hx hy hp hu w
      · exact sums_s2_no a b wa wb hs hi hm h1 hx hy hp hu w
  · by_cases hs : 0 ≤ b
    · skip
      by_cases hm : b = 0
      · exact sums_n1_mz a b wa wb hs hi hm w
      by_cases h1 : a = 0
      · exact sums_n1_ma a b wa wb hs hi hm h1 w
      by_cases hx : a = -9223372036854775808
      · by_cases ho : b = 1
        · exact sums_n1_na1 a b wa wb hs hi hm h1 hx ho w
        · exact sums_n1_na2 a b wa wb hs hi hm h1 hx ho w
      by_cases hy : b = -9223372036854775808
      · by_cases ho : a = 1
        · exact sums_n1_nb1 a b wa wb hs hi hm h1 hx hy ho w
        · exact sums_n1_nb2 a b wa wb hs hi hm h1 hx hy ho w
      by_cases hp : In64 (a * b)
      · by_cases hq : a * b = -9223372036854775808
        · exact sums_n1_ym a b wa wb hs hi hm h1 hx hy hp hq w
        · exact sums_n1_y a b wa wb hs hi hm h1 hx hy hp hq w
      by_cases hu : wrap64 (a * b) = -9223372036854775808
      · exact sums_n1_nm a b wa wb hs hi hm h1 hx hy hp hu w
      · exact sums_n1_no a b wa wb hs hi hm h1 hx hy hp hu w
    · replace hs : b < 0 := by omega
      by_cases hm : b = 0
      · exact sums_n2_mz a b wa wb hs hi hm w
      by_cases h1 : a = 0
      · exact sums_n2_ma a b wa wb hs hi hm h1 w
      by_cases hx : a = -9223372036854775808
      · by_cases ho : b = 1
        · exact sums_n2_na1 a b wa wb hs hi hm h1 hx ho w
        · exact sums_n2_na2 a b wa wb hs hi hm h1 hx ho w
      by_cases hy : b = -9223372036854775808
      · by_cases ho : a = 1
        · exact sums_n2_nb1 a b wa wb hs hi hm h1 hx hy ho w
        · exact sums_n2_nb2 a b wa wb hs hi hm h1 hx hy ho w
      by_cases hp : In64 (a * b)
      · by_cases hq : a * b = -9223372036854775808
        · exact sums_n2_ym a b wa wb hs hi hm h1 hx hy hp hq w
        · exact sums_n2_y a b wa wb hs hi hm h1 hx hy hp hq w
      by_cases hu : wrap64 (a * b) = -9223372036854775808
      · exact sums_n2_nm a b wa wb hs hi hm h1 hx hy hp hu w
      · exact sums_n2_no a b wa wb hs hi hm h1 hx hy hp hu w

end Go.Proofs.Ytcciginjkpemhaa