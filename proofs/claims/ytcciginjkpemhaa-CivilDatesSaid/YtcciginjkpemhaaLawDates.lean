/- The walk of the statement on numbers' dates. -/
import Derived.Test.YtcciginjkpemhaaW4
import Derived.Test.YtcciginjkpemhaaW5
import Derived.Test.YtcciginjkpemhaaKit2
namespace Go.Proofs.Ytcciginjkpemhaa
open Go.ChangeShapes Go.WideShapes Go.ChangeAt Go.RowKit Cal

set_option maxRecDepth 100000 in
set_option maxHeartbeats 2000000 in
theorem dates_no_hi (n : Int) (n1 : -9223372036854775808 ≤ n) (n2 : n ≤ 9223372036854775807) (w : World) (h : n < 0 ∨ 109937 < n) (hlow : -4611686018427387904 < n) :
    Calls Try.prog 4 #[.int .i64 n] w fun e w' => e = .returned (.bool true) ∧ Below w.heap.size w w' := by
  obtain ⟨hc0, hc1, hc2⟩ := Gr.new3 w
  obtain ⟨hd0, hd1, hd2⟩ := Gr.new3alloc w
  obtain ⟨hu0, hu1, hu2⟩ := Gr.new3up w
  have hlw : 0 ≤ n % 7 ∧ n % 7 ≤ 6 := by omega
  have f0 : decide (n % 7 < 0) = false := by simp; omega
  have f1 : decide (6 < n % 7) = false := by simp; omega
  have e1 : decide (-4611686018427387904 < n) = true := by simpa using hlow
  have e2 : (n % 7 + 6) % 7 = (n - 1) % 7 := by omega
  go_enter Try.func4, Try.ntmps4
  go_wp2_with (first
    | (go_at_call 15; (with_reducible refine (date_no n _ h).mono ?_); rintro e w' ⟨rfl, hb⟩; obtain ⟨g, rfl⟩ := Gr.of hb; clear hb)
    | (go_at_call 16; (with_reducible refine (rdate_no n _ h).mono ?_); rintro e w' ⟨rfl, hb⟩; obtain ⟨g2, rfl⟩ := Gr.of hb; clear hb)
    | (go_at_call 17; (with_reducible refine (weekday_any _ _).mono ?_); rintro e w' ⟨rfl, rfl⟩)
    | (go_at_call 13; (with_reducible refine (fixed_any _).mono ?_); rintro e w' ⟨rfl, hb⟩; obtain ⟨g3, rfl⟩ := Gr.of hb; clear hb))
  go_ret
  exact ⟨rfl, Gr.fold2 g g2 g3⟩

set_option maxRecDepth 100000 in
set_option maxHeartbeats 2000000 in
theorem dates_no_lo (n : Int) (n1 : -9223372036854775808 ≤ n) (n2 : n ≤ 9223372036854775807) (w : World) (h : n < 0 ∨ 109937 < n) (hlow : ¬ -4611686018427387904 < n) :
    Calls Try.prog 4 #[.int .i64 n] w fun e w' => e = .returned (.bool true) ∧ Below w.heap.size w w' := by
  obtain ⟨hc0, hc1, hc2⟩ := Gr.new3 w
  obtain ⟨hd0, hd1, hd2⟩ := Gr.new3alloc w
  obtain ⟨hu0, hu1, hu2⟩ := Gr.new3up w
  have hlw : 0 ≤ n % 7 ∧ n % 7 ≤ 6 := by omega
  have f0 : decide (n % 7 < 0) = false := by simp; omega
  have f1 : decide (6 < n % 7) = false := by simp; omega
  have e1 : decide (-4611686018427387904 < n) = false := by simpa using hlow
  have e2 : (n % 7 + 6) % 7 = (n - 1) % 7 := by omega
  go_enter Try.func4, Try.ntmps4
  go_wp2_with (first
    | (go_at_call 15; (with_reducible refine (date_no n _ h).mono ?_); rintro e w' ⟨rfl, hb⟩; obtain ⟨g, rfl⟩ := Gr.of hb; clear hb)
    | (go_at_call 16; (with_reducible refine (rdate_no n _ h).mono ?_); rintro e w' ⟨rfl, hb⟩; obtain ⟨g2, rfl⟩ := Gr.of hb; clear hb)
    | (go_at_call 17; (with_reducible refine (weekday_any _ _).mono ?_); rintro e w' ⟨rfl, rfl⟩)
    | (go_at_call 13; (with_reducible refine (fixed_any _).mono ?_); rintro e w' ⟨rfl, hb⟩; obtain ⟨g3, rfl⟩ := Gr.of hb; clear hb))
  go_ret
  exact ⟨rfl, Gr.fold2 g g2 g3⟩

set_option maxRecDepth 100000 in
set_option maxHeartbeats 2000000 in
theorem dates_yes (n : Int) (w : World) (h1 : 0 ≤ n) (h2 : n ≤ 109937) :
    Calls Try.prog 4 #[.int .i64 n] w fun e w' => e = .returned (.bool true) ∧ Below w.heap.size w w' := by
  obtain ⟨hc0, hc1, hc2⟩ := Gr.new3 w
  obtain ⟨hd0, hd1, hd2⟩ := Gr.new3alloc w
  obtain ⟨hu0, hu1, hu2⟩ := Gr.new3up w
  have hlw : 0 ≤ n % 7 ∧ n % 7 ≤ 6 := by omega
  have f0 : decide (n % 7 < 0) = false := by simp; omega
  have f1 : decide (6 < n % 7) = false := by simp; omega
  have e1 : decide (-4611686018427387904 < n) = true := by simp; omega
  have e2 : (n % 7 + 6) % 7 = (n - 1) % 7 := by omega
  have S : Hid (mayP (yOf n) (mOf n) (dOf n)) := (dateOf_spec n h1 h2).1
  have hn : numI (yOf n) (mOf n) (dOf n) = n := (dateOf_spec n h1 h2).2
  go_enter Try.func4, Try.ntmps4
  go_wp2_with (first
    | (go_at_call 15; (with_reducible refine (date_yes n _ h1 h2).mono ?_); rintro e w' ⟨rfl, hb⟩; obtain ⟨g, rfl⟩ := Gr.of hb; clear hb)
    | (go_at_call 16; (with_reducible refine (rdate_yes n _ h1 h2).mono ?_); rintro e w' ⟨rfl, hb⟩; obtain ⟨g2, rfl⟩ := Gr.of hb; clear hb)
    | (go_at_call 17; (with_reducible refine (weekday_any _ _).mono ?_); rintro e w' ⟨rfl, rfl⟩)
    | (go_at_call 18; (with_reducible refine (rweekday_any _ h1 _).mono ?_); rintro e w' ⟨rfl, rfl⟩)
    | (go_at_call 10; (with_reducible refine (number_yes _ _ _ _ S.out).mono ?_); rintro e w' ⟨rfl, hb⟩; obtain ⟨g3, rfl⟩ := Gr.of hb; clear hb)
    | (go_at_call 13; (with_reducible refine (fixed_any _).mono ?_); rintro e w' ⟨rfl, hb⟩; obtain ⟨g3, rfl⟩ := g3.on hb; clear hb))
  go_ret
  exact ⟨rfl, Gr.fold2 g g2 g3⟩

theorem dates_walk (n : Int) (wn : (Lit.int .i64 n).wf = true) (w : World) :
    Calls Try.prog 4 #[.int .i64 n] w fun e w' => e = .returned (.bool true) ∧ Below w.heap.size w w' := by
  obtain ⟨n1, n2⟩ := bounds_i64 wn
  by_cases h : n < 0 ∨ 109937 < n
  · by_cases hl : -4611686018427387904 < n
    · exact dates_no_hi n n1 n2 w h hl
    · exact dates_no_lo n n1 n2 w h hl
  · exact dates_yes n w (by omega) (by omega)
end Go.Proofs.Ytcciginjkpemhaa