/- The walk of the statement on the n-th weekday. -/
import Derived.Test.YtcciginjkpemhaaW5
import Derived.Test.YtcciginjkpemhaaW6
import Derived.Test.YtcciginjkpemhaaW7
namespace Go.Proofs.Ytcciginjkpemhaa
open Go.ChangeShapes Go.WideShapes Go.ChangeAt Go.RowKit Cal

theorem nth_any (y m wd n : Int) (w : World) :
    Calls Try.prog 23 #[.int .i64 y, .int .i64 m, .int .i64 wd, .int .i64 n] w fun e w' => e = .returned (rnthV y m wd n) ∧ Below w.heap.size w w' := by
  unfold rnthV
  by_cases h : mayP y m 1 ∧ 0 ≤ wd ∧ wd ≤ 6 ∧ -5 ≤ n ∧ n ≤ 5 ∧ nthP (numI y m 1) (lenI y m) wd n
  · rw [if_pos h]; exact nth_yes y m wd n w h.1 h.2.1 h.2.2.1 h.2.2.2.1 h.2.2.2.2.1 h.2.2.2.2.2
  · rw [if_neg h]; exact nth_no y m wd n w h

theorem rnth_out (y m wd n : Int) (w : World) (h : y < 1900 ∨ 2200 < y ∨ wd < 0 ∨ 6 < wd) :
    Calls Try.prog 24 #[.int .i64 y, .int .i64 m, .int .i64 wd, .int .i64 n] w fun e w' => e = .returned (.tuple #[.agg #[.int .i64 0, .int .i64 0, .int .i64 0], .bool false]) ∧ Below w.heap.size w w' := by
  have fin : ∀ o o2 : Obj, Below w.heap.size w ((w.alloc o).alloc o2) := fun o o2 => ((Below.refl _ _).alloc (Nat.le_refl _) _).alloc (by simp) _
  by_cases h1 : y < 1900
  · have f0 : decide (y < 1900) = true := by simpa using h1
    go_enter Try.func24, Try.ntmps24
    go_wp2_with fail
    exact bodyPost_ret (v := .tuple #[.agg #[.int .i64 0, .int .i64 0, .int .i64 0], .bool false]) (by simp [results, Try.results24, go_sem]) rfl ⟨rfl, fin _ _⟩
  have f0 : decide (y < 1900) = false := by simpa using h1
  by_cases h2 : 2200 < y
  · have f1 : decide (2200 < y) = true := by simpa using h2
    go_enter Try.func24, Try.ntmps24
    go_wp2_with fail
    exact bodyPost_ret (v := .tuple #[.agg #[.int .i64 0, .int .i64 0, .int .i64 0], .bool false]) (by simp [results, Try.results24, go_sem]) rfl ⟨rfl, fin _ _⟩
  have f1 : decide (2200 < y) = false := by simpa using h2
  by_cases h3 : wd < 0
  · have f2 : decide (wd < 0) = true := by simpa using h3
    go_enter Try.func24, Try.ntmps24
    go_wp2_with fail
    exact bodyPost_ret (v := .tuple #[.agg #[.int .i64 0, .int .i64 0, .int .i64 0], .bool false]) (by simp [results, Try.results24, go_sem]) rfl ⟨rfl, fin _ _⟩
  have f2 : decide (wd < 0) = false := by simpa using h3
  have f3 : decide (6 < wd) = true := by simp; omega
  go_enter Try.func24, Try.ntmps24
  go_wp2_with fail
  exact bodyPost_ret (v := .tuple #[.agg #[.int .i64 0, .int .i64 0, .int .i64 0], .bool false]) (by simp [results, Try.results24, go_sem]) rfl ⟨rfl, fin _ _⟩

theorem rnth_all (y m wd n : Int) (w : World) :
    Calls Try.prog 24 #[.int .i64 y, .int .i64 m, .int .i64 wd, .int .i64 n] w fun e w' => e = .returned (rnthV y m wd n) ∧ Below w.heap.size w w' := by
  by_cases h : y < 1900 ∨ 2200 < y ∨ wd < 0 ∨ 6 < wd
  · have : rnthV y m wd n = .tuple #[.agg #[.int .i64 0, .int .i64 0, .int .i64 0], .bool false] := if_neg fun c => by
      have := c.1.1; have := c.1.2.1; have := c.2.1; have := c.2.2.1; omega
    rw [this]; exact rnth_out y m wd n w h
  · exact rnth_any y m wd n w (by omega) (by omega) (by omega) (by omega)

/-- What both calls hand back: three numbers, and whether. -/
theorem rnthV_form (y m wd n : Int) : ∃ (a b c : Int) (t : Bool), rnthV y m wd n = .tuple #[.agg #[.int .i64 a, .int .i64 b, .int .i64 c], .bool t] := by
  unfold rnthV; split
  · exact ⟨_, _, _, _, rfl⟩
  · exact ⟨_, _, _, _, rfl⟩

set_option maxHeartbeats 2000000 in
theorem nth_walk (y m wd n : Int) (_ : (Lit.int .i64 y).wf = true) (_ : (Lit.int .i64 m).wf = true) (_ : (Lit.int .i64 wd).wf = true) (_ : (Lit.int .i64 n).wf = true) (w : World) :
    Calls Try.prog 6 #[.int .i64 y, .int .i64 m, .int .i64 wd, .int .i64 n] w fun e w' => e = .returned (.bool true) ∧ Below w.heap.size w w' := by
  obtain ⟨a, b, c, t, hV⟩ := rnthV_form y m wd n
  have A := nth_any y m wd n
  have B := rnth_all y m wd n
  rw [hV] at A B
  have HA := Lib.hid A
  have HB := Lib.hid B
  clear A B hV
  obtain ⟨hc0, hc1, hc2⟩ := Gr.new3 w
  obtain ⟨hd0, hd1, hd2⟩ := Gr.new3alloc w
  obtain ⟨hu0, hu1, hu2⟩ := Gr.new3up w
  go_enter Try.func6, Try.ntmps6
  go_wp2_with (first
    | (go_at_call 23; (with_reducible refine (HA.out _).mono ?_); rintro e w' ⟨rfl, hb⟩; obtain ⟨g, rfl⟩ := Gr.of hb; clear hb)
    | (go_at_call 24; (with_reducible refine (HB.out _).mono ?_); rintro e w' ⟨rfl, hb⟩; obtain ⟨g2, rfl⟩ := Gr.of hb; clear hb; obtain ⟨hx0, hx1, hx2⟩ := Gr.new3 (g.val.alloc (.cells #[.int .i64 a, .int .i64 b, .int .i64 c] 23)))
    | (go_at_call 13; (with_reducible refine (fixed_any _).mono ?_); rintro e w' ⟨rfl, hb⟩; obtain ⟨g3, rfl⟩ := Gr.of hb; clear hb))
  go_ret
  exact ⟨rfl, Gr.fold2 g g2 g3⟩
end Go.Proofs.Ytcciginjkpemhaa
