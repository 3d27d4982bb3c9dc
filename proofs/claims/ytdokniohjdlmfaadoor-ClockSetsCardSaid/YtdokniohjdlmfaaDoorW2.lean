/- Contracts: may a date be, its number, its day of the year; the program's and the document's. -/
import Derived.Test.YtdokniohjdlmfaaDoorW1
import Derived.Test.YtdokniohjdlmfaaDoorKit
namespace Go.Proofs.YtdokniohjdlmfaaDoor
open Go.ChangeShapes Go.WideShapes Go.ChangeAt Go.RowKit Cal

set_option maxHeartbeats 1000000 in
theorem may_no0 (y m d : Int) (w : World)  (h0 : y < 1900) :
    Calls Tryd.prog 63 #[.agg #[.int .i64 y, .int .i64 m, .int .i64 d]] w fun e w' => e = .returned (.bool false) ∧ Below w.heap.size w w' := by
  have hf : decide (1900 ≤ y) = false := by simp; omega
  go_enter Tryd.func63, Tryd.ntmps63
  go_wp2
  have hc := @Gr.cell (w.alloc (.cells #[.int .i64 y, .int .i64 m, .int .i64 d] 47))
  refine Gr.region (by kernel_rfl) (by kernel_rfl) (Gr.draw0 _) ?_
  repeat (go_big_quiet_step ((go_at_call 45; exact Gr.calls_same _ (length_any _ _ _))))
  refine wpQuiet_nil ?_
  rintro _ ⟨g, rfl⟩
  go_wp2
  go_ret
  exact ⟨rfl, g.below1⟩

set_option maxHeartbeats 1000000 in
theorem may_no1 (y m d : Int) (w : World) (h0 : 1900 ≤ y) (h1 : 2200 < y) :
    Calls Tryd.prog 63 #[.agg #[.int .i64 y, .int .i64 m, .int .i64 d]] w fun e w' => e = .returned (.bool false) ∧ Below w.heap.size w w' := by
  have hf : decide (y ≤ 2200) = false := by simp; omega
  go_enter Tryd.func63, Tryd.ntmps63
  go_wp2
  have hc := @Gr.cell (w.alloc (.cells #[.int .i64 y, .int .i64 m, .int .i64 d] 47))
  refine Gr.region (by kernel_rfl) (by kernel_rfl) (Gr.draw0 _) ?_
  repeat (go_big_quiet_step ((go_at_call 45; exact Gr.calls_same _ (length_any _ _ _))))
  refine wpQuiet_nil ?_
  rintro _ ⟨g, rfl⟩
  go_wp2
  go_ret
  exact ⟨rfl, g.below1⟩

set_option maxHeartbeats 1000000 in
theorem may_no2 (y m d : Int) (w : World) (h0 : 1900 ≤ y) (h1 : y ≤ 2200) (h2 : d < 1) :
    Calls Tryd.prog 63 #[.agg #[.int .i64 y, .int .i64 m, .int .i64 d]] w fun e w' => e = .returned (.bool false) ∧ Below w.heap.size w w' := by
  have hf : decide (1 ≤ d) = false := by simp; omega
  go_enter Tryd.func63, Tryd.ntmps63
  go_wp2
  have hc := @Gr.cell (w.alloc (.cells #[.int .i64 y, .int .i64 m, .int .i64 d] 47))
  refine Gr.region (by kernel_rfl) (by kernel_rfl) (Gr.draw0 _) ?_
  repeat (go_big_quiet_step ((go_at_call 45; exact Gr.calls_same _ (length_any _ _ _))))
  refine wpQuiet_nil ?_
  rintro _ ⟨g, rfl⟩
  go_wp2
  go_ret
  exact ⟨rfl, g.below1⟩

set_option maxHeartbeats 1000000 in
theorem may_no3 (y m d : Int) (w : World) (h0 : 1900 ≤ y) (h1 : y ≤ 2200) (h2 : 1 ≤ d) (h3 : lenI y m < d) :
    Calls Tryd.prog 63 #[.agg #[.int .i64 y, .int .i64 m, .int .i64 d]] w fun e w' => e = .returned (.bool false) ∧ Below w.heap.size w w' := by
  have hf : decide (d ≤ lenI y m) = false := by simp; omega
  go_enter Tryd.func63, Tryd.ntmps63
  go_wp2
  have hc := @Gr.cell (w.alloc (.cells #[.int .i64 y, .int .i64 m, .int .i64 d] 47))
  refine Gr.region (by kernel_rfl) (by kernel_rfl) (Gr.draw0 _) ?_
  repeat (go_big_quiet_step ((go_at_call 45; exact Gr.calls_same _ (length_any _ _ _))))
  refine wpQuiet_nil ?_
  rintro _ ⟨g, rfl⟩
  go_wp2
  go_ret
  exact ⟨rfl, g.below1⟩

set_option maxHeartbeats 1000000 in
theorem may_yes (y m d : Int) (w : World) (h0 : 1900 ≤ y) (h1 : y ≤ 2200) (h2 : 1 ≤ d) (h3 : d ≤ lenI y m) :
    Calls Tryd.prog 63 #[.agg #[.int .i64 y, .int .i64 m, .int .i64 d]] w fun e w' => e = .returned (.bool true) ∧ Below w.heap.size w w' := by
  go_enter Tryd.func63, Tryd.ntmps63
  go_wp2
  have hc := @Gr.cell (w.alloc (.cells #[.int .i64 y, .int .i64 m, .int .i64 d] 47))
  refine Gr.region (by kernel_rfl) (by kernel_rfl) (Gr.draw0 _) ?_
  repeat (go_big_quiet_step ((go_at_call 45; exact Gr.calls_same _ (length_any _ _ _))))
  refine wpQuiet_nil ?_
  rintro _ ⟨g, rfl⟩
  go_wp2
  go_ret
  exact ⟨rfl, g.below1⟩

set_option maxHeartbeats 1000000 in
theorem rmay_no0 (y m d : Int) (w : World)  (h0 : y < 1900) :
    Calls Tryd.prog 49 #[.agg #[.int .i64 y, .int .i64 m, .int .i64 d]] w fun e w' => e = .returned (.bool false) ∧ Below w.heap.size w w' := by
  have hf : decide (1900 ≤ y) = false := by simp; omega
  go_enter Tryd.func49, Tryd.ntmps49
  go_wp2
  have hc := @Gr.cell (w.alloc (.cells #[.int .i64 y, .int .i64 m, .int .i64 d] 47))
  refine Gr.region (by kernel_rfl) (by kernel_rfl) (Gr.draw0 _) ?_
  repeat (go_big_quiet_step ((go_at_call 47; exact Gr.calls _ (rlength_any _ _ _))))
  refine wpQuiet_nil ?_
  rintro _ ⟨g, rfl⟩
  go_wp2
  go_ret
  exact ⟨rfl, g.below1⟩

set_option maxHeartbeats 1000000 in
theorem rmay_no1 (y m d : Int) (w : World) (h0 : 1900 ≤ y) (h1 : 2200 < y) :
    Calls Tryd.prog 49 #[.agg #[.int .i64 y, .int .i64 m, .int .i64 d]] w fun e w' => e = .returned (.bool false) ∧ Below w.heap.size w w' := by
  have hf : decide (y ≤ 2200) = false := by simp; omega
  go_enter Tryd.func49, Tryd.ntmps49
  go_wp2
  have hc := @Gr.cell (w.alloc (.cells #[.int .i64 y, .int .i64 m, .int .i64 d] 47))
  refine Gr.region (by kernel_rfl) (by kernel_rfl) (Gr.draw0 _) ?_
  repeat (go_big_quiet_step ((go_at_call 47; exact Gr.calls _ (rlength_any _ _ _))))
  refine wpQuiet_nil ?_
  rintro _ ⟨g, rfl⟩
  go_wp2
  go_ret
  exact ⟨rfl, g.below1⟩

set_option maxHeartbeats 1000000 in
theorem rmay_no2 (y m d : Int) (w : World) (h0 : 1900 ≤ y) (h1 : y ≤ 2200) (h2 : m < 1) :
    Calls Tryd.prog 49 #[.agg #[.int .i64 y, .int .i64 m, .int .i64 d]] w fun e w' => e = .returned (.bool false) ∧ Below w.heap.size w w' := by
  have hf : decide (1 ≤ m) = false := by simp; omega
  go_enter Tryd.func49, Tryd.ntmps49
  go_wp2
  have hc := @Gr.cell (w.alloc (.cells #[.int .i64 y, .int .i64 m, .int .i64 d] 47))
  refine Gr.region (by kernel_rfl) (by kernel_rfl) (Gr.draw0 _) ?_
  repeat (go_big_quiet_step ((go_at_call 47; exact Gr.calls _ (rlength_any _ _ _))))
  refine wpQuiet_nil ?_
  rintro _ ⟨g, rfl⟩
  go_wp2
  go_ret
  exact ⟨rfl, g.below1⟩

set_option maxHeartbeats 1000000 in
theorem rmay_no3 (y m d : Int) (w : World) (h0 : 1900 ≤ y) (h1 : y ≤ 2200) (h2 : 1 ≤ m) (h3 : 12 < m) :
    Calls Tryd.prog 49 #[.agg #[.int .i64 y, .int .i64 m, .int .i64 d]] w fun e w' => e = .returned (.bool false) ∧ Below w.heap.size w w' := by
  have hf : decide (m ≤ 12) = false := by simp; omega
  go_enter Tryd.func49, Tryd.ntmps49
  go_wp2
  have hc := @Gr.cell (w.alloc (.cells #[.int .i64 y, .int .i64 m, .int .i64 d] 47))
  refine Gr.region (by kernel_rfl) (by kernel_rfl) (Gr.draw0 _) ?_
  repeat (go_big_quiet_step ((go_at_call 47; exact Gr.calls _ (rlength_any _ _ _))))
  refine wpQuiet_nil ?_
  rintro _ ⟨g, rfl⟩
  go_wp2
  go_ret
  exact ⟨rfl, g.below1⟩

set_option maxHeartbeats 1000000 in
theorem rmay_no4 (y m d : Int) (w : World) (h0 : 1900 ≤ y) (h1 : y ≤ 2200) (h2 : 1 ≤ m) (h3 : m ≤ 12) (h4 : d < 1) :
    Calls Tryd.prog 49 #[.agg #[.int .i64 y, .int .i64 m, .int .i64 d]] w fun e w' => e = .returned (.bool false) ∧ Below w.heap.size w w' := by
  have hf : decide (1 ≤ d) = false := by simp; omega
  go_enter Tryd.func49, Tryd.ntmps49
  go_wp2
  have hc := @Gr.cell (w.alloc (.cells #[.int .i64 y, .int .i64 m, .int .i64 d] 47))
  refine Gr.region (by kernel_rfl) (by kernel_rfl) (Gr.draw0 _) ?_
  repeat (go_big_quiet_step ((go_at_call 47; exact Gr.calls _ (rlength_any _ _ _))))
  refine wpQuiet_nil ?_
  rintro _ ⟨g, rfl⟩
  go_wp2
  go_ret
  exact ⟨rfl, g.below1⟩

set_option maxHeartbeats 1000000 in
theorem rmay_no5 (y m d : Int) (w : World) (h0 : 1900 ≤ y) (h1 : y ≤ 2200) (h2 : 1 ≤ m) (h3 : m ≤ 12) (h4 : 1 ≤ d) (h5 : lenI y m < d) :
    Calls Tryd.prog 49 #[.agg #[.int .i64 y, .int .i64 m, .int .i64 d]] w fun e w' => e = .returned (.bool false) ∧ Below w.heap.size w w' := by
  have hf : decide (d ≤ lenI y m) = false := by simp; omega
  go_enter Tryd.func49, Tryd.ntmps49
  go_wp2
  have hc := @Gr.cell (w.alloc (.cells #[.int .i64 y, .int .i64 m, .int .i64 d] 47))
  refine Gr.region (by kernel_rfl) (by kernel_rfl) (Gr.draw0 _) ?_
  repeat (go_big_quiet_step ((go_at_call 47; exact Gr.calls _ (rlength_any _ _ _))))
  refine wpQuiet_nil ?_
  rintro _ ⟨g, rfl⟩
  go_wp2
  go_ret
  exact ⟨rfl, g.below1⟩

set_option maxHeartbeats 1000000 in
theorem rmay_yes (y m d : Int) (w : World) (h0 : 1900 ≤ y) (h1 : y ≤ 2200) (h2 : 1 ≤ m) (h3 : m ≤ 12) (h4 : 1 ≤ d) (h5 : d ≤ lenI y m) :
    Calls Tryd.prog 49 #[.agg #[.int .i64 y, .int .i64 m, .int .i64 d]] w fun e w' => e = .returned (.bool true) ∧ Below w.heap.size w w' := by
  go_enter Tryd.func49, Tryd.ntmps49
  go_wp2
  have hc := @Gr.cell (w.alloc (.cells #[.int .i64 y, .int .i64 m, .int .i64 d] 47))
  refine Gr.region (by kernel_rfl) (by kernel_rfl) (Gr.draw0 _) ?_
  repeat (go_big_quiet_step ((go_at_call 47; exact Gr.calls _ (rlength_any _ _ _))))
  refine wpQuiet_nil ?_
  rintro _ ⟨g, rfl⟩
  go_wp2
  go_ret
  exact ⟨rfl, g.below1⟩

theorem may_any (y m d : Int) (w : World) :
    Calls Tryd.prog 63 #[.agg #[.int .i64 y, .int .i64 m, .int .i64 d]] w fun e w' => e = .returned (.bool (mayB y m d)) ∧ Below w.heap.size w w' := by
  by_cases hy : mayP y m d
  · have hm := may_month hy
    rw [may_iff.2 hy]
    obtain ⟨a, b, c, e⟩ := hy
    exact may_yes y m d w (by omega) (by omega) (by omega) (by omega)
  · rw [may_no.2 hy]
    unfold mayP at hy
    have hn := len_no y m
    by_cases h0 : y < 1900
    · exact may_no0 y m d w  h0
    by_cases h1 : 2200 < y
    · exact may_no1 y m d w (by omega) h1
    by_cases h2 : d < 1
    · exact may_no2 y m d w (by omega) (by omega) h2
    by_cases h3 : lenI y m < d
    · exact may_no3 y m d w (by omega) (by omega) (by omega) h3
    exact absurd ⟨by omega, by omega, by omega, by omega⟩ hy

theorem rmay_any (y m d : Int) (w : World) :
    Calls Tryd.prog 49 #[.agg #[.int .i64 y, .int .i64 m, .int .i64 d]] w fun e w' => e = .returned (.bool (mayB y m d)) ∧ Below w.heap.size w w' := by
  by_cases hy : mayP y m d
  · have hm := may_month hy
    rw [may_iff.2 hy]
    obtain ⟨a, b, c, e⟩ := hy
    exact rmay_yes y m d w (by omega) (by omega) (by omega) (by omega) (by omega) (by omega)
  · rw [may_no.2 hy]
    unfold mayP at hy
    have hn := len_no y m
    by_cases h0 : y < 1900
    · exact rmay_no0 y m d w  h0
    by_cases h1 : 2200 < y
    · exact rmay_no1 y m d w (by omega) h1
    by_cases h2 : m < 1
    · exact rmay_no2 y m d w (by omega) (by omega) h2
    by_cases h3 : 12 < m
    · exact rmay_no3 y m d w (by omega) (by omega) (by omega) h3
    by_cases h4 : d < 1
    · exact rmay_no4 y m d w (by omega) (by omega) (by omega) (by omega) h4
    by_cases h5 : lenI y m < d
    · exact rmay_no5 y m d w (by omega) (by omega) (by omega) (by omega) (by omega) h5
    exact absurd ⟨by omega, by omega, by omega, by omega⟩ hy


end Go.Proofs.YtdokniohjdlmfaaDoor
