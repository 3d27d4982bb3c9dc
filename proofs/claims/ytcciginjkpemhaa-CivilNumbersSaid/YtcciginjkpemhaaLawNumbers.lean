/- The walk of the statement on dates' numbers. -/
import Derived.Test.YtcciginjkpemhaaW4
import Derived.Test.YtcciginjkpemhaaW5
import Derived.Test.YtcciginjkpemhaaKit2
namespace Go.Proofs.Ytcciginjkpemhaa
open Go.ChangeShapes Go.WideShapes Go.ChangeAt Go.RowKit Cal

set_option maxHeartbeats 2000000 in
theorem numbers_no (y m d : Int) (w : World) (h : mayB y m d = false) :
    Calls Try.prog 3 #[.agg #[.int .i64 y, .int .i64 m, .int .i64 d]] w fun e w' => e = .returned (.bool true) ∧ Below w.heap.size w w' := by
  obtain ⟨hc0, hc1, hc2, -⟩ := Gr.lay3 w (.int .i64 y) (.int .i64 m) (.int .i64 d) 23
  go_enter Try.func3, Try.ntmps3
  go_wp2_with (first
    | (go_at_call 10; refine (number_no _ _ _ _ h).mono ?_; rintro e w' ⟨rfl, hb⟩; obtain ⟨g, rfl⟩ := Gr.of hb; clear hb)
    | (go_at_call 11; refine (rnumber_no _ _ _ _ h).mono ?_; rintro e w' ⟨rfl, hb⟩; obtain ⟨g, rfl⟩ := g.on hb; clear hb)
    | (go_at_call 12; refine (may_any _ _ _ _).mono ?_; rintro e w' ⟨rfl, hb⟩; obtain ⟨g, rfl⟩ := g.on hb; clear hb)
    | (go_at_call 13; refine (fixed_any _).mono ?_; rintro e w' ⟨rfl, hb⟩; obtain ⟨g, rfl⟩ := g.on hb; clear hb)
    | (go_at_call 14; refine (ordinal_no _ _ _ _ h).mono ?_; rintro e w' ⟨rfl, hb⟩; obtain ⟨g, rfl⟩ := g.on hb; clear hb))
  go_ret
  exact ⟨rfl, g.below1⟩

set_option maxRecDepth 100000 in
set_option maxHeartbeats 1000000 in
theorem numbers_yes (y m d : Int) (w : World) (h : mayP y m d) :
    Calls Try.prog 3 #[.agg #[.int .i64 y, .int .i64 m, .int .i64 d]] w fun e w' => e = .returned (.bool true) ∧ Below w.heap.size w w' := by
  obtain ⟨hc0, hc1, hc2, -⟩ := Gr.lay3 w (.int .i64 y) (.int .i64 m) (.int .i64 d) 23
  obtain ⟨hd0, hd1, hd2, -⟩ := Gr.lay3up w (.int .i64 y) (.int .i64 m) (.int .i64 d) 23
  obtain ⟨he0, he1, he2⟩ := Gr.lay3alloc w (.int .i64 y) (.int .i64 m) (.int .i64 d) 23
  obtain ⟨hn0, hn1, hn2⟩ := Gr.new3 (w.alloc (.cells #[.int .i64 y, .int .i64 m, .int .i64 d] 23))
  have hb := may_iff.2 h
  have H : Hid (mayP y m d) := h
  have hn := num_bd h
  have h11 : mayP y 1 1 := ⟨h.1, h.2.1, by omega, by have := len_pos y 1 (by omega) (by omega); omega⟩
  have H1 : Hid (mayP y 1 1) := h11
  have hn1' := num_bd h11
  obtain ⟨ey, em, ed⟩ := dateOf_eq h rfl
  have eo : numI y m d - numI y 1 1 + 1 = d + cumI y m := by unfold numI; rw [cum_one]; omega
  clear h h11
  go_enter Try.func3, Try.ntmps3
  go_wp2_with (first
    | (go_at_call 10; (with_reducible refine (number_yes y m d _ H.out).mono ?_); rintro e w' ⟨rfl, hb⟩; obtain ⟨g, rfl⟩ := Gr.of hb; clear hb)
    | (go_at_call 11; first | ((with_reducible refine (rnumber_yes y m d _ H.out).mono ?_); rintro e w' ⟨rfl, hb⟩; obtain ⟨g, rfl⟩ := g.on hb; clear hb) | ((with_reducible refine (rnumber_yes y 1 1 _ H1.out).mono ?_); rintro e w' ⟨rfl, hb⟩; obtain ⟨g2, rfl⟩ := Gr.of hb; clear hb))
    | (go_at_call 12; (with_reducible refine (may_any y m d _).mono ?_); rintro e w' ⟨rfl, hb⟩; obtain ⟨g, rfl⟩ := g.on hb; clear hb)
    | (go_at_call 15; (with_reducible refine (date_yes _ _ hn.1 hn.2).mono ?_); rintro e w' ⟨rfl, hb⟩; obtain ⟨g, rfl⟩ := g.on hb; clear hb)
    | (go_at_call 13; (with_reducible refine (fixed_any _).mono ?_); rintro e w' ⟨rfl, hb⟩; obtain ⟨g2, rfl⟩ := g2.on hb; clear hb)
    | (go_at_call 14; (with_reducible refine (ordinal_yes y m d _ H.out).mono ?_); rintro e w' ⟨rfl, hb⟩; obtain ⟨g2, rfl⟩ := g2.on hb; clear hb))
  go_ret
  exact ⟨rfl, Gr.below2 g g2⟩

theorem numbers_walk (y m d : Int) (_ : (Lit.int .i64 y).wf = true) (_ : (Lit.int .i64 m).wf = true) (_ : (Lit.int .i64 d).wf = true) (w : World) :
    Calls Try.prog 3 #[.agg #[.int .i64 y, .int .i64 m, .int .i64 d]] w fun e w' => e = .returned (.bool true) ∧ Below w.heap.size w w' := by
  by_cases h : mayP y m d
  · exact numbers_yes y m d w h
  · exact numbers_no y m d w (may_no.2 h)
end Go.Proofs.Ytcciginjkpemhaa
