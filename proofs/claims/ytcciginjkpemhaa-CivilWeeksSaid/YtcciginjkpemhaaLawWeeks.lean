/- The walk of the statement on weeks. -/
import Derived.Test.YtcciginjkpemhaaW6
import Derived.Test.YtcciginjkpemhaaW5
import Derived.Test.YtcciginjkpemhaaKit2
namespace Go.Proofs.Ytcciginjkpemhaa
open Go.ChangeShapes Go.WideShapes Go.ChangeAt Go.RowKit Cal

theorem weeks_math (f l wd : Int) (h1 : 0 ≤ wd) (h2 : wd ≤ 6) (h3 : 28 ≤ l) (h4 : l ≤ 31) :
    nthP f l wd 1 ∧ nthP f l wd (-1) ∧ 21 ≤ nthI f l wd (-1) - nthI f l wd 1 ∧ nthI f l wd (-1) - nthI f l wd 1 ≤ 28 ∧
    (nthI f l wd (-1) - nthI f l wd 1) % 7 = 0 ∧ 1 ≤ nthI f l wd 1 ∧ nthI f l wd 1 ≤ 7 ∧ nthI f l wd (-1) ≤ 31 := by
  have e1 : nthI f l wd 1 = 1 + (wd - f) % 7 := by unfold nthI; rw [if_neg (by omega)]; omega
  have e2 : nthI f l wd (-1) = l - (f + l - 1 - wd) % 7 := by unfold nthI; rw [if_pos (by omega)]; omega
  unfold nthP
  rw [e1, e2]
  omega

set_option maxRecDepth 100000 in
set_option maxHeartbeats 2000000 in
theorem weeks_no_a (n y m wd : Int) (n1 : -9223372036854775808 ≤ n) (n2 : n ≤ 9223372036854775807) (w : World) (r1 : -1152921504606846976 < n) (r2 : n < 1152921504606846976) (h : ¬ (mayP y m 1 ∧ 0 ≤ wd ∧ wd ≤ 6)) :
    Calls Try.prog 9 #[.int .i64 n, .int .i64 y, .int .i64 m, .int .i64 wd] w fun e w' => e = .returned (.bool true) ∧ Below w.heap.size w w' := by
  have e1 : decide (-1152921504606846976 < n) = true := by simpa using r1
  have e2 : decide (n < 1152921504606846976) = true := by simpa using r2
  have N : ∀ k : Int, Hid (¬ (mayP y m 1 ∧ 0 ≤ wd ∧ wd ≤ 6 ∧ -5 ≤ k ∧ k ≤ 5 ∧ nthP (numI y m 1) (lenI y m) wd k)) := fun k hk => h ⟨hk.1, hk.2.1, hk.2.2.1⟩
  have N1 := N 1
  have N2 := N (-1)
  clear N h
  go_enter Try.func9, Try.ntmps9
  go_wp2_with (first
    | (go_at_call 17; (with_reducible refine (weekday_any _ _).mono ?_); rintro e w' ⟨rfl, rfl⟩)
    | (go_at_call 23; first | ((with_reducible refine (nth_no y m wd 1 _ N1.out).mono ?_); rintro e w' ⟨rfl, hb⟩; obtain ⟨g, rfl⟩ := Gr.of hb; clear hb) | ((with_reducible refine (nth_no y m wd (-1) _ N2.out).mono ?_); rintro e w' ⟨rfl, hb⟩; obtain ⟨g2, rfl⟩ := Gr.of hb; clear hb))
    | (go_at_call 13; (with_reducible refine (fixed_any _).mono ?_); rintro e w' ⟨rfl, hb⟩; obtain ⟨g3, rfl⟩ := Gr.of hb; clear hb))
  go_ret
  exact ⟨rfl, Gr.fold2 g g2 g3⟩

set_option maxRecDepth 100000 in
set_option maxHeartbeats 2000000 in
theorem weeks_yes_a (n y m wd : Int) (n1 : -9223372036854775808 ≤ n) (n2 : n ≤ 9223372036854775807) (w : World) (r1 : -1152921504606846976 < n) (r2 : n < 1152921504606846976) (h : mayP y m 1) (h1 : 0 ≤ wd) (h2 : wd ≤ 6) :
    Calls Try.prog 9 #[.int .i64 n, .int .i64 y, .int .i64 m, .int .i64 wd] w fun e w' => e = .returned (.bool true) ∧ Below w.heap.size w w' := by
  have hm := may_month h
  obtain ⟨p1, p2, q1, q2, q3, q4, q5, q6⟩ := weeks_math (numI y m 1) (lenI y m) wd h1 h2 (len_pos y m hm.1 hm.2) (len_bd y m).2
  have N1 : Hid (mayP y m 1 ∧ 0 ≤ wd ∧ wd ≤ 6 ∧ nthP (numI y m 1) (lenI y m) wd 1) := ⟨h, h1, h2, p1⟩
  have N2 : Hid (mayP y m 1 ∧ 0 ≤ wd ∧ wd ≤ 6 ∧ nthP (numI y m 1) (lenI y m) wd (-1)) := ⟨h, h1, h2, p2⟩
  have K1 : Hid (∀ w : World, Calls Try.prog 23 #[.int .i64 y, .int .i64 m, .int .i64 wd, .int .i64 1] w fun e w' => e = .returned (.tuple #[.agg #[.int .i64 y, .int .i64 m, .int .i64 (nthI (numI y m 1) (lenI y m) wd 1)], .bool true]) ∧ Below w.heap.size w w') :=
    fun w => nth_yes y m wd 1 w h h1 h2 (by omega) (by omega) p1
  have K2 : Hid (∀ w : World, Calls Try.prog 23 #[.int .i64 y, .int .i64 m, .int .i64 wd, .int .i64 (-1)] w fun e w' => e = .returned (.tuple #[.agg #[.int .i64 y, .int .i64 m, .int .i64 (nthI (numI y m 1) (lenI y m) wd (-1))], .bool true]) ∧ Below w.heap.size w w') :=
    fun w => nth_yes y m wd (-1) w h h1 h2 (by omega) (by omega) p2
  clear h h1 h2 p1 p2 hm N1 N2
  generalize nthI (numI y m 1) (lenI y m) wd 1 = A at *
  generalize nthI (numI y m 1) (lenI y m) wd (-1) = B at *
  have d1 : decide (21 ≤ B - A) = true := by simpa using q1
  have d2 : decide (B - A ≤ 28) = true := by simpa using q2
  have d3 : ((B - A) % 7 == 0) = true := by simpa using q3
  have d4 : decide (A ≤ 7) = true := by simpa using q5
  clear q3
  obtain ⟨hc0, hc1, hc2⟩ := Gr.new3 w
  obtain ⟨hd0, hd1, hd2⟩ := Gr.new3alloc w
  obtain ⟨hu0, hu1, hu2⟩ := Gr.new3up w
  have e1 : decide (-1152921504606846976 < n) = true := by simpa using r1
  have e2 : decide (n < 1152921504606846976) = true := by simpa using r2
  go_enter Try.func9, Try.ntmps9
  go_wp2_with (first
    | (go_at_call 17; (with_reducible refine (weekday_any _ _).mono ?_); rintro e w' ⟨rfl, rfl⟩)
    | (go_at_call 23; first | ((with_reducible refine (K1.out _).mono ?_); rintro e w' ⟨rfl, hb⟩; obtain ⟨g, rfl⟩ := Gr.of hb; clear hb) | ((with_reducible refine (K2.out _).mono ?_); rintro e w' ⟨rfl, hb⟩; obtain ⟨g2, rfl⟩ := Gr.of hb; clear hb; obtain ⟨hx0, hx1, hx2⟩ := Gr.new3 (g.val.alloc (.cells #[.int .i64 y, .int .i64 m, .int .i64 A] 23))))
    | (go_at_call 13; (with_reducible refine (fixed_any _).mono ?_); rintro e w' ⟨rfl, hb⟩; obtain ⟨g3, rfl⟩ := Gr.of hb; clear hb))
  go_ret
  exact ⟨rfl, Gr.fold2 g g2 g3⟩

set_option maxRecDepth 100000 in
set_option maxHeartbeats 2000000 in
theorem weeks_no_b (n y m wd : Int) (n1 : -9223372036854775808 ≤ n) (n2 : n ≤ 9223372036854775807) (w : World) (r1 : -1152921504606846976 < n) (r2 : ¬ n < 1152921504606846976) (h : ¬ (mayP y m 1 ∧ 0 ≤ wd ∧ wd ≤ 6)) :
    Calls Try.prog 9 #[.int .i64 n, .int .i64 y, .int .i64 m, .int .i64 wd] w fun e w' => e = .returned (.bool true) ∧ Below w.heap.size w w' := by
  have e1 : decide (-1152921504606846976 < n) = true := by simpa using r1
  have e2 : decide (n < 1152921504606846976) = false := by simpa using r2
  have N : ∀ k : Int, Hid (¬ (mayP y m 1 ∧ 0 ≤ wd ∧ wd ≤ 6 ∧ -5 ≤ k ∧ k ≤ 5 ∧ nthP (numI y m 1) (lenI y m) wd k)) := fun k hk => h ⟨hk.1, hk.2.1, hk.2.2.1⟩
  have N1 := N 1
  have N2 := N (-1)
  clear N h
  go_enter Try.func9, Try.ntmps9
  go_wp2_with (first
    | (go_at_call 17; (with_reducible refine (weekday_any _ _).mono ?_); rintro e w' ⟨rfl, rfl⟩)
    | (go_at_call 23; first | ((with_reducible refine (nth_no y m wd 1 _ N1.out).mono ?_); rintro e w' ⟨rfl, hb⟩; obtain ⟨g, rfl⟩ := Gr.of hb; clear hb) | ((with_reducible refine (nth_no y m wd (-1) _ N2.out).mono ?_); rintro e w' ⟨rfl, hb⟩; obtain ⟨g2, rfl⟩ := Gr.of hb; clear hb))
    | (go_at_call 13; (with_reducible refine (fixed_any _).mono ?_); rintro e w' ⟨rfl, hb⟩; obtain ⟨g3, rfl⟩ := Gr.of hb; clear hb))
  go_ret
  exact ⟨rfl, Gr.fold2 g g2 g3⟩

set_option maxRecDepth 100000 in
set_option maxHeartbeats 2000000 in
theorem weeks_yes_b (n y m wd : Int) (n1 : -9223372036854775808 ≤ n) (n2 : n ≤ 9223372036854775807) (w : World) (r1 : -1152921504606846976 < n) (r2 : ¬ n < 1152921504606846976) (h : mayP y m 1) (h1 : 0 ≤ wd) (h2 : wd ≤ 6) :
    Calls Try.prog 9 #[.int .i64 n, .int .i64 y, .int .i64 m, .int .i64 wd] w fun e w' => e = .returned (.bool true) ∧ Below w.heap.size w w' := by
  have hm := may_month h
  obtain ⟨p1, p2, q1, q2, q3, q4, q5, q6⟩ := weeks_math (numI y m 1) (lenI y m) wd h1 h2 (len_pos y m hm.1 hm.2) (len_bd y m).2
  have N1 : Hid (mayP y m 1 ∧ 0 ≤ wd ∧ wd ≤ 6 ∧ nthP (numI y m 1) (lenI y m) wd 1) := ⟨h, h1, h2, p1⟩
  have N2 : Hid (mayP y m 1 ∧ 0 ≤ wd ∧ wd ≤ 6 ∧ nthP (numI y m 1) (lenI y m) wd (-1)) := ⟨h, h1, h2, p2⟩
  have K1 : Hid (∀ w : World, Calls Try.prog 23 #[.int .i64 y, .int .i64 m, .int .i64 wd, .int .i64 1] w fun e w' => e = .returned (.tuple #[.agg #[.int .i64 y, .int .i64 m, .int .i64 (nthI (numI y m 1) (lenI y m) wd 1)], .bool true]) ∧ Below w.heap.size w w') :=
    fun w => nth_yes y m wd 1 w h h1 h2 (by omega) (by omega) p1
  have K2 : Hid (∀ w : World, Calls Try.prog 23 #[.int .i64 y, .int .i64 m, .int .i64 wd, .int .i64 (-1)] w fun e w' => e = .returned (.tuple #[.agg #[.int .i64 y, .int .i64 m, .int .i64 (nthI (numI y m 1) (lenI y m) wd (-1))], .bool true]) ∧ Below w.heap.size w w') :=
    fun w => nth_yes y m wd (-1) w h h1 h2 (by omega) (by omega) p2
  clear h h1 h2 p1 p2 hm N1 N2
  generalize nthI (numI y m 1) (lenI y m) wd 1 = A at *
  generalize nthI (numI y m 1) (lenI y m) wd (-1) = B at *
  have d1 : decide (21 ≤ B - A) = true := by simpa using q1
  have d2 : decide (B - A ≤ 28) = true := by simpa using q2
  have d3 : ((B - A) % 7 == 0) = true := by simpa using q3
  have d4 : decide (A ≤ 7) = true := by simpa using q5
  clear q3
  obtain ⟨hc0, hc1, hc2⟩ := Gr.new3 w
  obtain ⟨hd0, hd1, hd2⟩ := Gr.new3alloc w
  obtain ⟨hu0, hu1, hu2⟩ := Gr.new3up w
  have e1 : decide (-1152921504606846976 < n) = true := by simpa using r1
  have e2 : decide (n < 1152921504606846976) = false := by simpa using r2
  go_enter Try.func9, Try.ntmps9
  go_wp2_with (first
    | (go_at_call 17; (with_reducible refine (weekday_any _ _).mono ?_); rintro e w' ⟨rfl, rfl⟩)
    | (go_at_call 23; first | ((with_reducible refine (K1.out _).mono ?_); rintro e w' ⟨rfl, hb⟩; obtain ⟨g, rfl⟩ := Gr.of hb; clear hb) | ((with_reducible refine (K2.out _).mono ?_); rintro e w' ⟨rfl, hb⟩; obtain ⟨g2, rfl⟩ := Gr.of hb; clear hb; obtain ⟨hx0, hx1, hx2⟩ := Gr.new3 (g.val.alloc (.cells #[.int .i64 y, .int .i64 m, .int .i64 A] 23))))
    | (go_at_call 13; (with_reducible refine (fixed_any _).mono ?_); rintro e w' ⟨rfl, hb⟩; obtain ⟨g3, rfl⟩ := Gr.of hb; clear hb))
  go_ret
  exact ⟨rfl, Gr.fold2 g g2 g3⟩

set_option maxRecDepth 100000 in
set_option maxHeartbeats 2000000 in
theorem weeks_no_c (n y m wd : Int) (n1 : -9223372036854775808 ≤ n) (n2 : n ≤ 9223372036854775807) (w : World) (r1 : ¬ -1152921504606846976 < n) (h : ¬ (mayP y m 1 ∧ 0 ≤ wd ∧ wd ≤ 6)) :
    Calls Try.prog 9 #[.int .i64 n, .int .i64 y, .int .i64 m, .int .i64 wd] w fun e w' => e = .returned (.bool true) ∧ Below w.heap.size w w' := by
  have e1 : decide (-1152921504606846976 < n) = false := by simpa using r1
  have N : ∀ k : Int, Hid (¬ (mayP y m 1 ∧ 0 ≤ wd ∧ wd ≤ 6 ∧ -5 ≤ k ∧ k ≤ 5 ∧ nthP (numI y m 1) (lenI y m) wd k)) := fun k hk => h ⟨hk.1, hk.2.1, hk.2.2.1⟩
  have N1 := N 1
  have N2 := N (-1)
  clear N h
  go_enter Try.func9, Try.ntmps9
  go_wp2_with (first
    | (go_at_call 17; (with_reducible refine (weekday_any _ _).mono ?_); rintro e w' ⟨rfl, rfl⟩)
    | (go_at_call 23; first | ((with_reducible refine (nth_no y m wd 1 _ N1.out).mono ?_); rintro e w' ⟨rfl, hb⟩; obtain ⟨g, rfl⟩ := Gr.of hb; clear hb) | ((with_reducible refine (nth_no y m wd (-1) _ N2.out).mono ?_); rintro e w' ⟨rfl, hb⟩; obtain ⟨g2, rfl⟩ := Gr.of hb; clear hb))
    | (go_at_call 13; (with_reducible refine (fixed_any _).mono ?_); rintro e w' ⟨rfl, hb⟩; obtain ⟨g3, rfl⟩ := Gr.of hb; clear hb))
  go_ret
  exact ⟨rfl, Gr.fold2 g g2 g3⟩

set_option maxRecDepth 100000 in
set_option maxHeartbeats 2000000 in
theorem weeks_yes_c (n y m wd : Int) (n1 : -9223372036854775808 ≤ n) (n2 : n ≤ 9223372036854775807) (w : World) (r1 : ¬ -1152921504606846976 < n) (h : mayP y m 1) (h1 : 0 ≤ wd) (h2 : wd ≤ 6) :
    Calls Try.prog 9 #[.int .i64 n, .int .i64 y, .int .i64 m, .int .i64 wd] w fun e w' => e = .returned (.bool true) ∧ Below w.heap.size w w' := by
  have hm := may_month h
  obtain ⟨p1, p2, q1, q2, q3, q4, q5, q6⟩ := weeks_math (numI y m 1) (lenI y m) wd h1 h2 (len_pos y m hm.1 hm.2) (len_bd y m).2
  have N1 : Hid (mayP y m 1 ∧ 0 ≤ wd ∧ wd ≤ 6 ∧ nthP (numI y m 1) (lenI y m) wd 1) := ⟨h, h1, h2, p1⟩
  have N2 : Hid (mayP y m 1 ∧ 0 ≤ wd ∧ wd ≤ 6 ∧ nthP (numI y m 1) (lenI y m) wd (-1)) := ⟨h, h1, h2, p2⟩
  have K1 : Hid (∀ w : World, Calls Try.prog 23 #[.int .i64 y, .int .i64 m, .int .i64 wd, .int .i64 1] w fun e w' => e = .returned (.tuple #[.agg #[.int .i64 y, .int .i64 m, .int .i64 (nthI (numI y m 1) (lenI y m) wd 1)], .bool true]) ∧ Below w.heap.size w w') :=
    fun w => nth_yes y m wd 1 w h h1 h2 (by omega) (by omega) p1
  have K2 : Hid (∀ w : World, Calls Try.prog 23 #[.int .i64 y, .int .i64 m, .int .i64 wd, .int .i64 (-1)] w fun e w' => e = .returned (.tuple #[.agg #[.int .i64 y, .int .i64 m, .int .i64 (nthI (numI y m 1) (lenI y m) wd (-1))], .bool true]) ∧ Below w.heap.size w w') :=
    fun w => nth_yes y m wd (-1) w h h1 h2 (by omega) (by omega) p2
  clear h h1 h2 p1 p2 hm N1 N2
  generalize nthI (numI y m 1) (lenI y m) wd 1 = A at *
  generalize nthI (numI y m 1) (lenI y m) wd (-1) = B at *
  have d1 : decide (21 ≤ B - A) = true := by simpa using q1
  have d2 : decide (B - A ≤ 28) = true := by simpa using q2
  have d3 : ((B - A) % 7 == 0) = true := by simpa using q3
  have d4 : decide (A ≤ 7) = true := by simpa using q5
  clear q3
  obtain ⟨hc0, hc1, hc2⟩ := Gr.new3 w
  obtain ⟨hd0, hd1, hd2⟩ := Gr.new3alloc w
  obtain ⟨hu0, hu1, hu2⟩ := Gr.new3up w
  have e1 : decide (-1152921504606846976 < n) = false := by simpa using r1
  go_enter Try.func9, Try.ntmps9
  go_wp2_with (first
    | (go_at_call 17; (with_reducible refine (weekday_any _ _).mono ?_); rintro e w' ⟨rfl, rfl⟩)
    | (go_at_call 23; first | ((with_reducible refine (K1.out _).mono ?_); rintro e w' ⟨rfl, hb⟩; obtain ⟨g, rfl⟩ := Gr.of hb; clear hb) | ((with_reducible refine (K2.out _).mono ?_); rintro e w' ⟨rfl, hb⟩; obtain ⟨g2, rfl⟩ := Gr.of hb; clear hb; obtain ⟨hx0, hx1, hx2⟩ := Gr.new3 (g.val.alloc (.cells #[.int .i64 y, .int .i64 m, .int .i64 A] 23))))
    | (go_at_call 13; (with_reducible refine (fixed_any _).mono ?_); rintro e w' ⟨rfl, hb⟩; obtain ⟨g3, rfl⟩ := Gr.of hb; clear hb))
  go_ret
  exact ⟨rfl, Gr.fold2 g g2 g3⟩

theorem weeks_walk (n y m wd : Int) (wn : (Lit.int .i64 n).wf = true) (_ : (Lit.int .i64 y).wf = true) (_ : (Lit.int .i64 m).wf = true) (_ : (Lit.int .i64 wd).wf = true) (w : World) :
    Calls Try.prog 9 #[.int .i64 n, .int .i64 y, .int .i64 m, .int .i64 wd] w fun e w' => e = .returned (.bool true) ∧ Below w.heap.size w w' := by
  obtain ⟨n1, n2⟩ := bounds_i64 wn
  by_cases h : mayP y m 1 ∧ 0 ≤ wd ∧ wd ≤ 6
  · obtain ⟨h, h1, h2⟩ := h
    by_cases r1 : -1152921504606846976 < n
    · by_cases r2 : n < 1152921504606846976
      · exact weeks_yes_a n y m wd n1 n2 w r1 r2 h h1 h2
      · exact weeks_yes_b n y m wd n1 n2 w r1 r2 h h1 h2
    · exact weeks_yes_c n y m wd n1 n2 w r1 h h1 h2
  · by_cases r1 : -1152921504606846976 < n
    · by_cases r2 : n < 1152921504606846976
      · exact weeks_no_a n y m wd n1 n2 w r1 r2 h
      · exact weeks_no_b n y m wd n1 n2 w r1 r2 h
    · exact weeks_no_c n y m wd n1 n2 w r1 h
end Go.Proofs.Ytcciginjkpemhaa