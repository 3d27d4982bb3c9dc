/- Contracts: a date's number and its day of the year. -/
import Derived.Test.YtdokniohjdlmfaaDoorW2
namespace Go.Proofs.YtdokniohjdlmfaaDoor
open Go.ChangeShapes Go.WideShapes Go.ChangeAt Go.RowKit Cal

set_option maxHeartbeats 1000000 in
theorem doy_any (y m d : Int) (w : World) (hm1 : 1 ≤ m) (hm2 : m ≤ 12) (hd1 : 1 ≤ d) (hd2 : d ≤ 31) :
    Calls Tryd.prog 64 #[.agg #[.int .i64 y, .int .i64 m, .int .i64 d]] w fun e w' => e = .returned (.int .i64 (d + cumI y m)) ∧ Below w.heap.size w w' := by
  go_enter Tryd.func64, Tryd.ntmps64
  go_wp2
  go_loop [3, 4] (fun n k => ∃ j : Int, 1 ≤ j ∧ j ≤ m ∧ k = .int .i64 j ∧ n = .int .i64 (d + cumI y j)) (fun _ k => (12 - intOf k).toNat)
  case atStart => exact ⟨1, by omega, by omega, rfl, by rw [cum_one]; simp⟩
  case round =>
    obtain ⟨j, hj1, hj2, rfl, rfl⟩ := hrel
    have cb := cum_bd y j
    have lb := len_bd y j
    by_cases hlt : j < m
    · have hs : Hid (cumI y (j + 1) = cumI y j + lenI y j) := cum_succ y j hj1 (by omega)
      go_wp2_with (go_at_call 45; refine (length_any _ _ _).mono ?_; rintro e w' ⟨rfl, rfl⟩)
      go_round
      case rel => exact ⟨j + 1, by omega, by omega, rfl, by rw [hs.out]; congr 1; omega⟩
      case measure => simp [intOf]; omega
    · obtain rfl : j = m := by omega
      go_wp2
      go_ret
      exact ⟨rfl, (Below.refl _ _).alloc (Nat.le_refl _) _⟩

set_option maxHeartbeats 1000000 in
theorem number_no (y m d : Int) (w : World) (h : mayB y m d = false) :
    Calls Tryd.prog 48 #[.agg #[.int .i64 y, .int .i64 m, .int .i64 d]] w fun e w' => e = .returned (.tuple #[.int .i64 0, .bool false]) ∧ Below w.heap.size w w' := by
  have hc := @Gr.cell (w.alloc (.cells #[.int .i64 y, .int .i64 m, .int .i64 d] 47))
  go_enter Tryd.func48, Tryd.ntmps48
  go_wp2_with (go_at_call 63; refine (may_any _ _ _ _).mono ?_; rintro e w' ⟨rfl, hb⟩; obtain ⟨g, rfl⟩ := Gr.of hb; clear hb)
  go_ret2
  exact ⟨rfl, g.below1⟩

set_option maxHeartbeats 1000000 in
theorem number_yes (y m d : Int) (w : World) (h : mayP y m d) :
    Calls Tryd.prog 48 #[.agg #[.int .i64 y, .int .i64 m, .int .i64 d]] w fun e w' => e = .returned (.tuple #[.int .i64 (numI y m d), .bool true]) ∧ Below w.heap.size w w' := by
  have hb := may_iff.2 h
  have hm := may_month h
  have hd := len_bd y m
  have hn := num_bd h
  have hy := ys_bd y (by unfold mayP at h; omega) (by unfold mayP at h; omega)
  have hcb := cum_bd y m
  obtain ⟨h1, h2, h3, h4⟩ := h
  have he : numI y m d = ys y + (d + cumI y m) - 1 := by unfold numI; omega
  have e1 : IntKind.i64.wrap (ys y + (d + cumI y m)) = ys y + (d + cumI y m) := IntWalk.i64_in _ (by omega)
  have e2 : IntKind.i64.wrap (ys y + (d + cumI y m) - 1) = ys y + (d + cumI y m) - 1 := IntWalk.i64_in _ (by omega)
  rw [he]; clear he hn
  have hc := @Gr.cell (w.alloc (.cells #[.int .i64 y, .int .i64 m, .int .i64 d] 47))
  go_enter Tryd.func48, Tryd.ntmps48
  go_wp2_with (go_at_call 63; refine (may_any _ _ _ _).mono ?_; rintro e w' ⟨rfl, hb⟩; obtain ⟨g, rfl⟩ := Gr.of hb; clear hb)
  refine Gr.region (by kernel_rfl) (by kernel_rfl) (Gr.draw _) ?_
  repeat (go_big_quiet_step ((first | (go_at_call 44; exact Gr.calls_same _ (ys_any _ (by omega) (by omega) _)) | (go_at_call 64; exact Gr.calls _ (doy_any _ _ _ _ (by omega) (by omega) (by omega) (by omega))))))
  refine wpQuiet_nil ?_
  rintro _ ⟨g2, rfl⟩
  go_wp2
  go_ret2
  exact ⟨rfl, g2.below1⟩
end Go.Proofs.YtdokniohjdlmfaaDoor
