/- Contracts: the n-th such weekday of a month, the program's. -/
import Derived.Test.YtcciginjkpemhaaW3
import Derived.Test.YtcciginjkpemhaaMath2
namespace Go.Proofs.Ytcciginjkpemhaa
open Go.ChangeShapes Go.WideShapes Go.ChangeAt Go.RowKit Cal

theorem nth_no1 (y m wd n : Int) (w : World) (h : mayB y m 1 = false) :
    Calls Try.prog 23 #[.int .i64 y, .int .i64 m, .int .i64 wd, .int .i64 n] w fun e w' => e = .returned (.tuple #[.agg #[.int .i64 0, .int .i64 0, .int .i64 0], .bool false]) ∧ Below w.heap.size w w' := by
  obtain ⟨hc0, hc1, hc2⟩ := @Gr.three w (.int .i64 0) (.int .i64 0) (.int .i64 0) 23
  have hf := @Gr.free1 w #[.int .i64 0, .int .i64 0, .int .i64 0] 23
  go_enter Try.func23, Try.ntmps23
  go_wp2_with (go_at_call 10; refine (number_no _ _ _ _ h).mono ?_; rintro e w' ⟨rfl, hb⟩; obtain ⟨g, rfl⟩ := Gr.of hb; clear hb)
  refine bodyPost_ret (v := .tuple #[.agg #[.int .i64 0, .int .i64 0, .int .i64 0], .bool false]) (by simp [results, Try.results23, go_sem, hc0, hc1, hc2, hf]) rfl ⟨rfl, ?_⟩
  exact Gr.below_set3 g 0 1 2 _ _ _

set_option maxHeartbeats 1000000 in
theorem nth_no2_0 (y m wd n : Int) (w : World) (h : mayP y m 1)  (hx : wd < 0) :
    Calls Try.prog 23 #[.int .i64 y, .int .i64 m, .int .i64 wd, .int .i64 n] w fun e w' => e = .returned (.tuple #[.agg #[.int .i64 0, .int .i64 0, .int .i64 0], .bool false]) ∧ Below w.heap.size w w' := by
  obtain ⟨hc0, hc1, hc2⟩ := @Gr.three w (.int .i64 0) (.int .i64 0) (.int .i64 0) 23
  have hf := @Gr.free1 w #[.int .i64 0, .int .i64 0, .int .i64 0] 23

  have f0 : decide (wd < 0) = true := by simp; omega
  clear hx
  go_enter Try.func23, Try.ntmps23
  go_wp2_with (go_at_call 10; refine (number_yes _ _ _ _ h).mono ?_; rintro e w' ⟨rfl, hb⟩; obtain ⟨g, rfl⟩ := Gr.of hb; clear hb)
  refine bodyPost_ret (v := .tuple #[.agg #[.int .i64 0, .int .i64 0, .int .i64 0], .bool false]) (by simp [results, Try.results23, go_sem, hc0, hc1, hc2, hf]) rfl ⟨rfl, ?_⟩
  exact Gr.below_set3 g 0 1 2 _ _ _

set_option maxHeartbeats 1000000 in
theorem nth_no2_1 (y m wd n : Int) (w : World) (h : mayP y m 1) (k0 : ¬ wd < 0) (hx : 6 < wd) :
    Calls Try.prog 23 #[.int .i64 y, .int .i64 m, .int .i64 wd, .int .i64 n] w fun e w' => e = .returned (.tuple #[.agg #[.int .i64 0, .int .i64 0, .int .i64 0], .bool false]) ∧ Below w.heap.size w w' := by
  obtain ⟨hc0, hc1, hc2⟩ := @Gr.three w (.int .i64 0) (.int .i64 0) (.int .i64 0) 23
  have hf := @Gr.free1 w #[.int .i64 0, .int .i64 0, .int .i64 0] 23
  have f0 : decide (wd < 0) = false := by simp; omega
  have f1 : decide (6 < wd) = true := by simp; omega
  clear hx
  go_enter Try.func23, Try.ntmps23
  go_wp2_with (go_at_call 10; refine (number_yes _ _ _ _ h).mono ?_; rintro e w' ⟨rfl, hb⟩; obtain ⟨g, rfl⟩ := Gr.of hb; clear hb)
  refine bodyPost_ret (v := .tuple #[.agg #[.int .i64 0, .int .i64 0, .int .i64 0], .bool false]) (by simp [results, Try.results23, go_sem, hc0, hc1, hc2, hf]) rfl ⟨rfl, ?_⟩
  exact Gr.below_set3 g 0 1 2 _ _ _

set_option maxHeartbeats 1000000 in
theorem nth_no2_2 (y m wd n : Int) (w : World) (h : mayP y m 1) (k0 : ¬ wd < 0) (k1 : ¬ 6 < wd) (hx : n < -5) :
    Calls Try.prog 23 #[.int .i64 y, .int .i64 m, .int .i64 wd, .int .i64 n] w fun e w' => e = .returned (.tuple #[.agg #[.int .i64 0, .int .i64 0, .int .i64 0], .bool false]) ∧ Below w.heap.size w w' := by
  obtain ⟨hc0, hc1, hc2⟩ := @Gr.three w (.int .i64 0) (.int .i64 0) (.int .i64 0) 23
  have hf := @Gr.free1 w #[.int .i64 0, .int .i64 0, .int .i64 0] 23
  have f0 : decide (wd < 0) = false := by simp; omega
  have f1 : decide (6 < wd) = false := by simp; omega
  have f2 : decide (n < -5) = true := by simp; omega
  clear hx
  go_enter Try.func23, Try.ntmps23
  go_wp2_with (go_at_call 10; refine (number_yes _ _ _ _ h).mono ?_; rintro e w' ⟨rfl, hb⟩; obtain ⟨g, rfl⟩ := Gr.of hb; clear hb)
  refine bodyPost_ret (v := .tuple #[.agg #[.int .i64 0, .int .i64 0, .int .i64 0], .bool false]) (by simp [results, Try.results23, go_sem, hc0, hc1, hc2, hf]) rfl ⟨rfl, ?_⟩
  exact Gr.below_set3 g 0 1 2 _ _ _

set_option maxHeartbeats 1000000 in
theorem nth_no2_3 (y m wd n : Int) (w : World) (h : mayP y m 1) (k0 : ¬ wd < 0) (k1 : ¬ 6 < wd) (k2 : ¬ n < -5) (hx : 5 < n) :
    Calls Try.prog 23 #[.int .i64 y, .int .i64 m, .int .i64 wd, .int .i64 n] w fun e w' => e = .returned (.tuple #[.agg #[.int .i64 0, .int .i64 0, .int .i64 0], .bool false]) ∧ Below w.heap.size w w' := by
  obtain ⟨hc0, hc1, hc2⟩ := @Gr.three w (.int .i64 0) (.int .i64 0) (.int .i64 0) 23
  have hf := @Gr.free1 w #[.int .i64 0, .int .i64 0, .int .i64 0] 23
  have f0 : decide (wd < 0) = false := by simp; omega
  have f1 : decide (6 < wd) = false := by simp; omega
  have f2 : decide (n < -5) = false := by simp; omega
  have f3 : decide (5 < n) = true := by simp; omega
  clear hx
  go_enter Try.func23, Try.ntmps23
  go_wp2_with (go_at_call 10; refine (number_yes _ _ _ _ h).mono ?_; rintro e w' ⟨rfl, hb⟩; obtain ⟨g, rfl⟩ := Gr.of hb; clear hb)
  refine bodyPost_ret (v := .tuple #[.agg #[.int .i64 0, .int .i64 0, .int .i64 0], .bool false]) (by simp [results, Try.results23, go_sem, hc0, hc1, hc2, hf]) rfl ⟨rfl, ?_⟩
  exact Gr.below_set3 g 0 1 2 _ _ _

set_option maxHeartbeats 1000000 in
theorem nth_no2_4 (y m wd n : Int) (w : World) (h : mayP y m 1) (k0 : ¬ wd < 0) (k1 : ¬ 6 < wd) (k2 : ¬ n < -5) (k3 : ¬ 5 < n) (hx : n = 0) :
    Calls Try.prog 23 #[.int .i64 y, .int .i64 m, .int .i64 wd, .int .i64 n] w fun e w' => e = .returned (.tuple #[.agg #[.int .i64 0, .int .i64 0, .int .i64 0], .bool false]) ∧ Below w.heap.size w w' := by
  obtain ⟨hc0, hc1, hc2⟩ := @Gr.three w (.int .i64 0) (.int .i64 0) (.int .i64 0) 23
  have hf := @Gr.free1 w #[.int .i64 0, .int .i64 0, .int .i64 0] 23
  have f0 : decide (wd < 0) = false := by simp; omega
  have f1 : decide (6 < wd) = false := by simp; omega
  have f2 : decide (n < -5) = false := by simp; omega
  have f3 : decide (5 < n) = false := by simp; omega
  have f4 : (n == 0) = true := by simp; omega
  clear hx
  go_enter Try.func23, Try.ntmps23
  go_wp2_with (go_at_call 10; refine (number_yes _ _ _ _ h).mono ?_; rintro e w' ⟨rfl, hb⟩; obtain ⟨g, rfl⟩ := Gr.of hb; clear hb)
  refine bodyPost_ret (v := .tuple #[.agg #[.int .i64 0, .int .i64 0, .int .i64 0], .bool false]) (by simp [results, Try.results23, go_sem, hc0, hc1, hc2, hf]) rfl ⟨rfl, ?_⟩
  exact Gr.below_set3 g 0 1 2 _ _ _

theorem Gr.elder_set3 {w : World} {o o2 : Obj} (g : Gr (w.alloc o)) (g2 : Gr (g.val.alloc o2)) (a b c : Nat) (x y z : Value) :
    Below w.heap.size w (((g2.val.setCell ⟨w.heap.size, a, none⟩ x).setCell ⟨w.heap.size, b, none⟩ y).setCell ⟨w.heap.size, c, none⟩ z) := by
  obtain ⟨g', e⟩ := g.up1 g2
  rw [e]
  exact g'.below_set3 a b c x y z

set_option maxHeartbeats 4000000 in
theorem nth_up_yes (y m wd n : Int) (w : World) (h : mayP y m 1) (h1 : 0 ≤ wd) (h2 : wd ≤ 6) (h3 : 1 ≤ n) (h4 : n ≤ 5) (hd : mayP y m (1 + (wd - numI y m 1) % 7 + 7 * (n - 1))) :
    Calls Try.prog 23 #[.int .i64 y, .int .i64 m, .int .i64 wd, .int .i64 n] w fun e w' => e = .returned (.tuple #[.agg #[.int .i64 y, .int .i64 m, .int .i64 (1 + (wd - numI y m 1) % 7 + 7 * (n - 1))], .bool true]) ∧ Below w.heap.size w w' := by
  obtain ⟨hc0, hc1, hc2⟩ := @Gr.three w (.int .i64 0) (.int .i64 0) (.int .i64 0) 23
  have hf := @Gr.free1 w #[.int .i64 0, .int .i64 0, .int .i64 0] 23
  have hb := may_iff.2 hd
  have hn := num_bd h
  have hl := len_bd y m
  have f0 : decide (wd < 0) = false := by simp; omega
  have f1 : decide (6 < wd) = false := by simp; omega
  have f2 : decide (n < -5) = false := by simp; omega
  have f3 : decide (5 < n) = false := by simp; omega
  have f4 : (n == 0) = false := by simp; omega
  clear hd
  go_enter Try.func23, Try.ntmps23
  go_wp2_with (first
    | (go_at_call 10; refine (number_yes _ _ _ _ h).mono ?_; rintro e w' ⟨rfl, hb⟩; obtain ⟨g, rfl⟩ := Gr.of hb; clear hb)
    | (go_at_call 17; refine (weekday_any _ _).mono ?_; rintro e w' ⟨rfl, rfl⟩)
    | (go_at_call 21; refine (length_any _ _ _).mono ?_; rintro e w' ⟨rfl, rfl⟩)
    | (go_at_call 12; refine (may_any _ _ _ _).mono ?_; rintro e w' ⟨rfl, hb⟩; obtain ⟨g2, rfl⟩ := Gr.of hb; clear hb; obtain ⟨he0, he1, he2, hef⟩ := Gr.elder g g2; have h30 := g2.cell1 0 _ rfl; have h31 := g2.cell1 1 _ rfl; have h32 := g2.cell1 2 _ rfl))
  refine bodyPost_ret (v := .tuple #[.agg #[.int .i64 y, .int .i64 m, .int .i64 (1 + (wd - numI y m 1) % 7 + 7 * (n - 1))], .bool true]) (by simp [results, Try.results23, go_sem, he0, he1, he2, hef]) rfl ⟨rfl, ?_⟩
  exact Gr.elder_set3 g g2 0 1 2 _ _ _

set_option maxHeartbeats 4000000 in
theorem nth_up_no (y m wd n : Int) (w : World) (h : mayP y m 1) (h1 : 0 ≤ wd) (h2 : wd ≤ 6) (h3 : 1 ≤ n) (h4 : n ≤ 5) (hd : ¬ mayP y m (1 + (wd - numI y m 1) % 7 + 7 * (n - 1))) :
    Calls Try.prog 23 #[.int .i64 y, .int .i64 m, .int .i64 wd, .int .i64 n] w fun e w' => e = .returned (.tuple #[.agg #[.int .i64 0, .int .i64 0, .int .i64 0], .bool false]) ∧ Below w.heap.size w w' := by
  obtain ⟨hc0, hc1, hc2⟩ := @Gr.three w (.int .i64 0) (.int .i64 0) (.int .i64 0) 23
  have hf := @Gr.free1 w #[.int .i64 0, .int .i64 0, .int .i64 0] 23
  have hb := may_no.2 hd
  have hn := num_bd h
  have hl := len_bd y m
  have f0 : decide (wd < 0) = false := by simp; omega
  have f1 : decide (6 < wd) = false := by simp; omega
  have f2 : decide (n < -5) = false := by simp; omega
  have f3 : decide (5 < n) = false := by simp; omega
  have f4 : (n == 0) = false := by simp; omega
  clear hd
  go_enter Try.func23, Try.ntmps23
  go_wp2_with (first
    | (go_at_call 10; refine (number_yes _ _ _ _ h).mono ?_; rintro e w' ⟨rfl, hb⟩; obtain ⟨g, rfl⟩ := Gr.of hb; clear hb)
    | (go_at_call 17; refine (weekday_any _ _).mono ?_; rintro e w' ⟨rfl, rfl⟩)
    | (go_at_call 21; refine (length_any _ _ _).mono ?_; rintro e w' ⟨rfl, rfl⟩)
    | (go_at_call 12; refine (may_any _ _ _ _).mono ?_; rintro e w' ⟨rfl, hb⟩; obtain ⟨g2, rfl⟩ := Gr.of hb; clear hb; obtain ⟨he0, he1, he2, hef⟩ := Gr.elder g g2; have h30 := g2.cell1 0 _ rfl; have h31 := g2.cell1 1 _ rfl; have h32 := g2.cell1 2 _ rfl))
  refine bodyPost_ret (v := .tuple #[.agg #[.int .i64 0, .int .i64 0, .int .i64 0], .bool false]) (by simp [results, Try.results23, go_sem, he0, he1, he2, hef]) rfl ⟨rfl, ?_⟩
  exact Gr.elder_set3 g g2 0 1 2 _ _ _

set_option maxHeartbeats 4000000 in
theorem nth_dn_yes (y m wd n : Int) (w : World) (h : mayP y m 1) (h1 : 0 ≤ wd) (h2 : wd ≤ 6) (h3 : n ≤ -1) (h4 : -5 ≤ n) (hd : mayP y m (lenI y m - (numI y m 1 + lenI y m - 1 - wd) % 7 + 7 * (n + 1))) :
    Calls Try.prog 23 #[.int .i64 y, .int .i64 m, .int .i64 wd, .int .i64 n] w fun e w' => e = .returned (.tuple #[.agg #[.int .i64 y, .int .i64 m, .int .i64 (lenI y m - (numI y m 1 + lenI y m - 1 - wd) % 7 + 7 * (n + 1))], .bool true]) ∧ Below w.heap.size w w' := by
  obtain ⟨hc0, hc1, hc2⟩ := @Gr.three w (.int .i64 0) (.int .i64 0) (.int .i64 0) 23
  have hf := @Gr.free1 w #[.int .i64 0, .int .i64 0, .int .i64 0] 23
  have hb := may_iff.2 hd
  have hn := num_bd h
  have hl := len_bd y m
  have f0 : decide (wd < 0) = false := by simp; omega
  have f1 : decide (6 < wd) = false := by simp; omega
  have f2 : decide (n < -5) = false := by simp; omega
  have f3 : decide (5 < n) = false := by simp; omega
  have f4 : (n == 0) = false := by simp; omega
  clear hd
  go_enter Try.func23, Try.ntmps23
  go_wp2_with (first
    | (go_at_call 10; refine (number_yes _ _ _ _ h).mono ?_; rintro e w' ⟨rfl, hb⟩; obtain ⟨g, rfl⟩ := Gr.of hb; clear hb)
    | (go_at_call 17; refine (weekday_any _ _).mono ?_; rintro e w' ⟨rfl, rfl⟩)
    | (go_at_call 21; refine (length_any _ _ _).mono ?_; rintro e w' ⟨rfl, rfl⟩)
    | (go_at_call 12; refine (may_any _ _ _ _).mono ?_; rintro e w' ⟨rfl, hb⟩; obtain ⟨g2, rfl⟩ := Gr.of hb; clear hb; obtain ⟨he0, he1, he2, hef⟩ := Gr.elder g g2; have h30 := g2.cell1 0 _ rfl; have h31 := g2.cell1 1 _ rfl; have h32 := g2.cell1 2 _ rfl))
  refine bodyPost_ret (v := .tuple #[.agg #[.int .i64 y, .int .i64 m, .int .i64 (lenI y m - (numI y m 1 + lenI y m - 1 - wd) % 7 + 7 * (n + 1))], .bool true]) (by simp [results, Try.results23, go_sem, he0, he1, he2, hef]) rfl ⟨rfl, ?_⟩
  exact Gr.elder_set3 g g2 0 1 2 _ _ _

set_option maxHeartbeats 4000000 in
theorem nth_dn_no (y m wd n : Int) (w : World) (h : mayP y m 1) (h1 : 0 ≤ wd) (h2 : wd ≤ 6) (h3 : n ≤ -1) (h4 : -5 ≤ n) (hd : ¬ mayP y m (lenI y m - (numI y m 1 + lenI y m - 1 - wd) % 7 + 7 * (n + 1))) :
    Calls Try.prog 23 #[.int .i64 y, .int .i64 m, .int .i64 wd, .int .i64 n] w fun e w' => e = .returned (.tuple #[.agg #[.int .i64 0, .int .i64 0, .int .i64 0], .bool false]) ∧ Below w.heap.size w w' := by
  obtain ⟨hc0, hc1, hc2⟩ := @Gr.three w (.int .i64 0) (.int .i64 0) (.int .i64 0) 23
  have hf := @Gr.free1 w #[.int .i64 0, .int .i64 0, .int .i64 0] 23
  have hb := may_no.2 hd
  have hn := num_bd h
  have hl := len_bd y m
  have f0 : decide (wd < 0) = false := by simp; omega
  have f1 : decide (6 < wd) = false := by simp; omega
  have f2 : decide (n < -5) = false := by simp; omega
  have f3 : decide (5 < n) = false := by simp; omega
  have f4 : (n == 0) = false := by simp; omega
  clear hd
  go_enter Try.func23, Try.ntmps23
  go_wp2_with (first
    | (go_at_call 10; refine (number_yes _ _ _ _ h).mono ?_; rintro e w' ⟨rfl, hb⟩; obtain ⟨g, rfl⟩ := Gr.of hb; clear hb)
    | (go_at_call 17; refine (weekday_any _ _).mono ?_; rintro e w' ⟨rfl, rfl⟩)
    | (go_at_call 21; refine (length_any _ _ _).mono ?_; rintro e w' ⟨rfl, rfl⟩)
    | (go_at_call 12; refine (may_any _ _ _ _).mono ?_; rintro e w' ⟨rfl, hb⟩; obtain ⟨g2, rfl⟩ := Gr.of hb; clear hb; obtain ⟨he0, he1, he2, hef⟩ := Gr.elder g g2; have h30 := g2.cell1 0 _ rfl; have h31 := g2.cell1 1 _ rfl; have h32 := g2.cell1 2 _ rfl))
  refine bodyPost_ret (v := .tuple #[.agg #[.int .i64 0, .int .i64 0, .int .i64 0], .bool false]) (by simp [results, Try.results23, go_sem, he0, he1, he2, hef]) rfl ⟨rfl, ?_⟩
  exact Gr.elder_set3 g g2 0 1 2 _ _ _

/-- The program's n-th such weekday, whatever is asked. -/
theorem nth_yes (y m wd n : Int) (w : World) (h : mayP y m 1) (h1 : 0 ≤ wd) (h2 : wd ≤ 6) (h3 : -5 ≤ n) (h4 : n ≤ 5) (hd : nthP (numI y m 1) (lenI y m) wd n) :
    Calls Try.prog 23 #[.int .i64 y, .int .i64 m, .int .i64 wd, .int .i64 n] w fun e w' => e = .returned (.tuple #[.agg #[.int .i64 y, .int .i64 m, .int .i64 (nthI (numI y m 1) (lenI y m) wd n)], .bool true]) ∧ Below w.heap.size w w' := by
  obtain ⟨a, b, c⟩ := hd
  have hp : mayP y m (nthI (numI y m 1) (lenI y m) wd n) := ⟨h.1, h.2.1, b, c⟩
  unfold nthI at hp ⊢
  by_cases hn : n < 0
  · rw [if_pos hn] at hp ⊢
    exact nth_dn_yes y m wd n w h h1 h2 (by omega) h3 hp
  · rw [if_neg hn] at hp ⊢
    exact nth_up_yes y m wd n w h h1 h2 (by omega) h4 hp
theorem nth_no (y m wd n : Int) (w : World) (hx : ¬ (mayP y m 1 ∧ 0 ≤ wd ∧ wd ≤ 6 ∧ -5 ≤ n ∧ n ≤ 5 ∧ nthP (numI y m 1) (lenI y m) wd n)) :
    Calls Try.prog 23 #[.int .i64 y, .int .i64 m, .int .i64 wd, .int .i64 n] w fun e w' => e = .returned (.tuple #[.agg #[.int .i64 0, .int .i64 0, .int .i64 0], .bool false]) ∧ Below w.heap.size w w' := by
  by_cases h : mayP y m 1
  · by_cases k0 : wd < 0
    · exact nth_no2_0 y m wd n w h k0
    by_cases k1 : 6 < wd
    · exact nth_no2_1 y m wd n w h k0 k1
    by_cases k2 : n < -5
    · exact nth_no2_2 y m wd n w h k0 k1 k2
    by_cases k3 : 5 < n
    · exact nth_no2_3 y m wd n w h k0 k1 k2 k3
    by_cases k4 : n = 0
    · exact nth_no2_4 y m wd n w h k0 k1 k2 k3 k4
    have hp : ¬ mayP y m (nthI (numI y m 1) (lenI y m) wd n) := fun hq => hx ⟨h, by omega, by omega, by omega, by omega, k4, hq.2.2.1, hq.2.2.2⟩
    unfold nthI at hp
    by_cases hn : n < 0
    · rw [if_pos hn] at hp
      exact nth_dn_no y m wd n w h (by omega) (by omega) (by omega) (by omega) hp
    · rw [if_neg hn] at hp
      exact nth_up_no y m wd n w h (by omega) (by omega) (by omega) (by omega) hp
  · exact nth_no1 y m wd n w (may_no.2 h)
end Go.Proofs.Ytcciginjkpemhaa