/- Contracts: the date of a number; the document's number of a date. -/
import Derived.Test.YtdokniohjdlmfaaDoorW3
namespace Go.Proofs.YtdokniohjdlmfaaDoor
open Go.ChangeShapes Go.WideShapes Go.ChangeAt Go.RowKit Cal

set_option maxHeartbeats 1000000 in
theorem date_no (n : Int) (w : World) (h : n < 0 ∨ 109937 < n) :
    Calls Tryd.prog 30 #[.int .i64 n] w fun e w' => e = .returned (.tuple #[.agg #[.int .i64 0, .int .i64 0, .int .i64 0], .bool false]) ∧ Below w.heap.size w w' := by
  rcases h with h | h
  all_goals
    go_enter Tryd.func30, Tryd.ntmps30
    go_wp2
    exact bodyPost_ret (v := .tuple #[.agg #[.int .i64 0, .int .i64 0, .int .i64 0], .bool false]) (by simp [results, Tryd.results30, go_sem]) rfl ⟨rfl, (Below.refl _ _).alloc (Nat.le_refl _) _⟩

set_option maxHeartbeats 2000000 in
theorem date_yes (n : Int) (w : World) (h1 : 0 ≤ n) (h2 : n ≤ 109937) :
    Calls Tryd.prog 30 #[.int .i64 n] w fun e w' => e = .returned (.tuple #[.agg #[.int .i64 (yOf n), .int .i64 (mOf n), .int .i64 (dOf n)], .bool true]) ∧ Below w.heap.size w w' := by
  have g0 := ys_guess n h1
  go_enter Tryd.func30, Tryd.ntmps30
  go_wp2
  go_loop [4] (fun t => ∃ y : Int, 1900 ≤ y ∧ y ≤ 2200 ∧ ys y ≤ n ∧ t = .int .i64 y) (fun t => (2201 - intOf t).toNat)
  case atStart => exact ⟨_, by omega, by omega, g0, rfl⟩
  case round =>
    obtain ⟨y, hy1, hy2, hy3, rfl⟩ := hrel
    have hb := ys_bd y hy1 (by omega)
    have hb' := ys_bd (y + 1) (by omega) (by omega)
    clear g0
    by_cases hc : ys (y + 1) ≤ n
    · have hr := year_room y n hc h2
      go_wp2_with (go_at_call 44; refine (ys_any _ (by omega) (by omega) _).mono ?_; rintro e w' ⟨rfl, rfl⟩)
      go_round
      case rel => exact ⟨y + 1, by omega, by omega, hc, rfl⟩
      case measure => simp [intOf]; omega
    · have hz : n < ys (y + 1) := by omega
      have hl := Hid.out (p := n - ys y - cumI y 12 < lenI y 12) (last_month y n hz)
      have hl2 : Hid (n - ys y - cumI y 12 < lenI y 12) := hl
      clear hl
      go_wp2_with (go_at_call 44; refine (ys_any _ (by omega) (by omega) _).mono ?_; rintro e w' ⟨rfl, rfl⟩)
      go_loop [5, 6] (fun r k => ∃ m : Int, 1 ≤ m ∧ m ≤ 12 ∧ k = .int .i64 m ∧ 0 ≤ n - ys y - cumI y m ∧ r = .int .i64 (n - ys y - cumI y m)) (fun _ k => (12 - intOf k).toNat)
      case atStart => exact ⟨1, by omega, by omega, rfl, by rw [cum_one]; omega, by rw [cum_one]; simp⟩
      case round =>
        obtain ⟨m, hm1, hm2, rfl, hr, rfl⟩ := hrel
        have cb := cum_bd y m
        have db := len_bd y m
        by_cases hd : lenI y m ≤ n - ys y - cumI y m
        · have hm : m < 12 := by
            apply Decidable.byContradiction; intro hx
            obtain rfl : m = 12 := by omega
            have := hl2.out
            omega
          have cs : Hid (cumI y (m + 1) = cumI y m + lenI y m) := cum_succ y m hm1 hm2
          go_wp2_with (go_at_call 45; refine (length_any _ _ _).mono ?_; rintro e w' ⟨rfl, rfl⟩)
          go_round
          case rel => exact ⟨m + 1, by omega, by omega, rfl, by rw [cs.out]; omega, by rw [cs.out]; congr 1; omega⟩
          case measure => simp [intOf]; omega
        · have E : Hid (yOf n = y ∧ mOf n = m ∧ dOf n = n - ys y - cumI y m + 1) := date_at hy1 hy2 hr (by omega)
          have hd' : n - ys y - cumI y m < lenI y m := by omega
          go_wp2_with (go_at_call 45; refine (length_any _ _ _).mono ?_; rintro e w' ⟨rfl, rfl⟩)
          refine bodyPost_ret (v := .tuple #[.agg #[.int .i64 y, .int .i64 m, .int .i64 (n - ys y - cumI y m + 1)], .bool true]) (by simp [results, Tryd.results30, go_sem]) rfl ⟨by rw [E.out.1, E.out.2.1, E.out.2.2], ?_⟩
          exact (Below.refl _ _).alloc (Nat.le_refl _) _

set_option maxHeartbeats 1000000 in
theorem rdate_no (n : Int) (w : World) (h : n < 0 ∨ 109937 < n) :
    Calls Tryd.prog 31 #[.int .i64 n] w fun e w' => e = .returned (.tuple #[.agg #[.int .i64 0, .int .i64 0, .int .i64 0], .bool false]) ∧ Below w.heap.size w w' := by
  rcases h with h | h
  all_goals
    go_enter Tryd.func31, Tryd.ntmps31
    go_wp2
    exact bodyPost_ret (v := .tuple #[.agg #[.int .i64 0, .int .i64 0, .int .i64 0], .bool false]) (by simp [results, Tryd.results31, go_sem]) rfl ⟨rfl, (Below.refl _ _).alloc (Nat.le_refl _) _⟩

set_option maxHeartbeats 4000000 in
theorem rdate_yes (n : Int) (w : World) (h1 : 0 ≤ n) (h2 : n ≤ 109937) :
    Calls Tryd.prog 31 #[.int .i64 n] w fun e w' => e = .returned (.tuple #[.agg #[.int .i64 (yOf n), .int .i64 (mOf n), .int .i64 (dOf n)], .bool true]) ∧ Below w.heap.size w w' := by
  obtain ⟨hc0, hc1, hc2⟩ := @Gr.three w (.int .i64 0) (.int .i64 0) (.int .i64 0) 47
  have hf := @Gr.free1 w #[.int .i64 0, .int .i64 0, .int .i64 0] 47
  go_enter Tryd.func31, Tryd.ntmps31
  go_wp2
  go_loop [0, 4, 5] (fun r t k => ∃ y : Int, 1900 ≤ y ∧ y ≤ 2200 ∧ ys y ≤ n ∧ t = .int .i64 y ∧ r = .int .i64 (n - ys y)) (fun _ t _ => (2201 - intOf t).toNat)
  case atStart => exact ⟨1900, by omega, by omega, by rw [ys_1900]; omega, rfl, by rw [ys_1900]; simp⟩
  case round =>
    obtain ⟨y, hy1, hy2, hy3, rfl, rfl⟩ := hrel
    have hb := ys_bd y hy1 (by omega)
    have hs := ys_succ y
    have hl := lp01 y
    by_cases hcc : ys (y + 1) ≤ n
    · have hr := year_room y n hcc h2
      by_cases hlb : leapB y = true
      · have hk : lp y = 1 := by simpa [leapB] using hlb
        have S : Hid (ys (y + 1) = ys y + 366) := by show _ = _; omega
        have ht : ¬ n - ys y < 366 := by omega
        clear hs hk
        go_wp2_with (go_at_call 46; refine (rleap_any _ _).mono ?_; rintro e w' ⟨rfl, rfl⟩)
        go_round
        case rel => exact ⟨y + 1, by omega, by omega, hcc, rfl, by rw [S.out]; congr 1; omega⟩
        case measure => simp [intOf]; omega
      · have hk : lp y = 0 := by simp [leapB] at hlb; omega
        have S : Hid (ys (y + 1) = ys y + 365) := by show _ = _; omega
        have ht : ¬ n - ys y < 365 := by omega
        have hlb' : leapB y = false := by simpa using hlb
        clear hs hk hlb
        go_wp2_with (go_at_call 46; refine (rleap_any _ _).mono ?_; rintro e w' ⟨rfl, rfl⟩)
        go_round
        case rel => exact ⟨y + 1, by omega, by omega, hcc, rfl, by rw [S.out]; congr 1; omega⟩
        case measure => simp [intOf]; omega
    · have hz : n < ys (y + 1) := by omega
      have hl2 : Hid (n - ys y - cumI y 12 < lenI y 12) := last_month y n hz
      by_cases hlb : leapB y = true
      · have hk : lp y = 1 := by simpa [leapB] using hlb
        have ht : n - ys y < 366 := by omega
        clear hs hk
        go_wp2_with (go_at_call 46; refine (rleap_any _ _).mono ?_; rintro e w' ⟨rfl, rfl⟩)
        obtain ⟨g0, hg0⟩ := Gr.start (w.alloc (.cells #[.int .i64 0, .int .i64 0, .int .i64 0] 47))
        go_loopw [0, 6] (fun r k wr => ∃ g : Gr (w.alloc (.cells #[.int .i64 0, .int .i64 0, .int .i64 0] 47)), wr = g.val ∧ ∃ m : Int, 1 ≤ m ∧ m ≤ 12 ∧ k = .int .i64 m ∧ 0 ≤ n - ys y - cumI y m ∧ r = .int .i64 (n - ys y - cumI y m)) (fun _ k _ => (12 - intOf k).toNat)
        case atStart => exact ⟨g0, hg0, 1, by omega, by omega, rfl, by rw [cum_one]; omega, by rw [cum_one]; simp⟩
        case round =>
          obtain ⟨g, rfl, m, hm1, hm2, rfl, hr, rfl⟩ := hrel
          have cb := cum_bd y m
          have db := len_bd y m
          by_cases hd : lenI y m ≤ n - ys y - cumI y m
          · have hm : m < 12 := by
              apply Decidable.byContradiction; intro hx
              obtain rfl : m = 12 := by omega
              have := hl2.out
              omega
            have cs : Hid (cumI y (m + 1) = cumI y m + lenI y m) := cum_succ y m hm1 hm2
            go_wp2_with (go_at_call 47; refine (rlength_any _ _ _).mono ?_; rintro e w' ⟨rfl, hb⟩; obtain ⟨g, rfl⟩ := g.on hb; clear hb)
            go_roundw
            case rel => exact ⟨_, rfl, m + 1, by omega, by omega, rfl, by rw [cs.out]; omega, by rw [cs.out]; congr 1; omega⟩
            case measure => simp [intOf]; omega
          · have E : Hid (yOf n = y ∧ mOf n = m ∧ dOf n = n - ys y - cumI y m + 1) := date_at hy1 hy2 hr (by omega)
            have hd' : n - ys y - cumI y m < lenI y m := by omega
            go_wp2_with (go_at_call 47; refine (rlength_any _ _ _).mono ?_; rintro e w' ⟨rfl, hb⟩; obtain ⟨g, rfl⟩ := g.on hb; clear hb)
            refine bodyPost_ret (v := .tuple #[.agg #[.int .i64 y, .int .i64 m, .int .i64 (n - ys y - cumI y m + 1)], .bool true]) (by simp [results, Tryd.results31, go_sem, hc0, hc1, hc2, hf]) rfl ?_
            exact ⟨by rw [E.out.1, E.out.2.1, E.out.2.2], Gr.below_set3 g 0 1 2 _ _ _⟩
      · have hk : lp y = 0 := by simp [leapB] at hlb; omega
        have ht : n - ys y < 365 := by omega
        have hlb' : leapB y = false := by simpa using hlb
        clear hs hk hlb
        go_wp2_with (go_at_call 46; refine (rleap_any _ _).mono ?_; rintro e w' ⟨rfl, rfl⟩)
        obtain ⟨g0, hg0⟩ := Gr.start (w.alloc (.cells #[.int .i64 0, .int .i64 0, .int .i64 0] 47))
        go_loopw [0, 6] (fun r k wr => ∃ g : Gr (w.alloc (.cells #[.int .i64 0, .int .i64 0, .int .i64 0] 47)), wr = g.val ∧ ∃ m : Int, 1 ≤ m ∧ m ≤ 12 ∧ k = .int .i64 m ∧ 0 ≤ n - ys y - cumI y m ∧ r = .int .i64 (n - ys y - cumI y m)) (fun _ k _ => (12 - intOf k).toNat)
        case atStart => exact ⟨g0, hg0, 1, by omega, by omega, rfl, by rw [cum_one]; omega, by rw [cum_one]; simp⟩
        case round =>
          obtain ⟨g, rfl, m, hm1, hm2, rfl, hr, rfl⟩ := hrel
          have cb := cum_bd y m
          have db := len_bd y m
          by_cases hd : lenI y m ≤ n - ys y - cumI y m
          · have hm : m < 12 := by
              apply Decidable.byContradiction; intro hx
              obtain rfl : m = 12 := by omega
              have := hl2.out
              omega
            have cs : Hid (cumI y (m + 1) = cumI y m + lenI y m) := cum_succ y m hm1 hm2
            go_wp2_with (go_at_call 47; refine (rlength_any _ _ _).mono ?_; rintro e w' ⟨rfl, hb⟩; obtain ⟨g, rfl⟩ := g.on hb; clear hb)
            go_roundw
            case rel => exact ⟨_, rfl, m + 1, by omega, by omega, rfl, by rw [cs.out]; omega, by rw [cs.out]; congr 1; omega⟩
            case measure => simp [intOf]; omega
          · have E : Hid (yOf n = y ∧ mOf n = m ∧ dOf n = n - ys y - cumI y m + 1) := date_at hy1 hy2 hr (by omega)
            have hd' : n - ys y - cumI y m < lenI y m := by omega
            go_wp2_with (go_at_call 47; refine (rlength_any _ _ _).mono ?_; rintro e w' ⟨rfl, hb⟩; obtain ⟨g, rfl⟩ := g.on hb; clear hb)
            refine bodyPost_ret (v := .tuple #[.agg #[.int .i64 y, .int .i64 m, .int .i64 (n - ys y - cumI y m + 1)], .bool true]) (by simp [results, Tryd.results31, go_sem, hc0, hc1, hc2, hf]) rfl ?_
            exact ⟨by rw [E.out.1, E.out.2.1, E.out.2.2], Gr.below_set3 g 0 1 2 _ _ _⟩

theorem rnumber_no (y m d : Int) (w : World) (h : mayB y m d = false) :
    Calls Tryd.prog 33 #[.agg #[.int .i64 y, .int .i64 m, .int .i64 d]] w fun e w' => e = .returned (.tuple #[.int .i64 0, .bool false]) ∧ Below w.heap.size w w' := by
  obtain ⟨hc0, hc1, hc2⟩ := @Gr.three w (.int .i64 y) (.int .i64 m) (.int .i64 d) 47
  go_enter Tryd.func33, Tryd.ntmps33
  go_wp2_with (go_at_call 49; refine (rmay_any _ _ _ _).mono ?_; rintro e w' ⟨rfl, hb⟩; obtain ⟨g, rfl⟩ := Gr.of hb; clear hb)
  go_ret2
  exact ⟨rfl, g.below1⟩

set_option maxHeartbeats 2000000 in
theorem rnumber_yes (y m d : Int) (w : World) (h : mayP y m d) :
    Calls Tryd.prog 33 #[.agg #[.int .i64 y, .int .i64 m, .int .i64 d]] w fun e w' => e = .returned (.tuple #[.int .i64 (numI y m d), .bool true]) ∧ Below w.heap.size w w' := by
  obtain ⟨hc0, hc1, hc2⟩ := @Gr.three w (.int .i64 y) (.int .i64 m) (.int .i64 d) 47
  have hb := may_iff.2 h
  have hm := may_month h
  have hd := len_bd y m
  have hmc := cum_bd y m
  have hN : Hid (numI y m d = d - 1 + cumI y m + ys y) := by show _ = _; unfold numI; omega
  obtain ⟨h1, h2, h3, h4⟩ := h
  go_enter Tryd.func33, Tryd.ntmps33
  go_wp2_with (go_at_call 49; refine (rmay_any _ _ _ _).mono ?_; rintro e w' ⟨rfl, hb⟩; obtain ⟨g, rfl⟩ := Gr.of hb; clear hb)
  have hg0 : ∃ g' : Gr (w.alloc (.cells #[.int .i64 y, .int .i64 m, .int .i64 d] 47)), g.val = g'.val := ⟨g, rfl⟩
  go_loopw [4, 5] (fun r k wr => ∃ g : Gr (w.alloc (.cells #[.int .i64 y, .int .i64 m, .int .i64 d] 47)), wr = g.val ∧ ∃ j : Int, 1 ≤ j ∧ j ≤ m ∧ k = .int .i64 j ∧ r = .int .i64 (d - 1 + cumI y j)) (fun _ k _ => (12 - intOf k).toNat)
  case atStart => exact ⟨_, rfl, 1, by omega, by omega, rfl, by rw [cum_one]; simp⟩
  case round =>
    obtain ⟨g, rfl, j, hj1, hj2, rfl, rfl⟩ := hrel
    have cb := cum_bd y j
    have lb := len_bd y j
    by_cases hlt : j < m
    · have cs : Hid (cumI y (j + 1) = cumI y j + lenI y j) := cum_succ y j hj1 (by omega)
      go_wp2_with (go_at_call 47; refine (rlength_any _ _ _).mono ?_; rintro e w' ⟨rfl, hb⟩; obtain ⟨g, rfl⟩ := g.on hb; clear hb)
      go_roundw
      case rel => exact ⟨_, rfl, j + 1, by omega, by omega, rfl, by rw [cs.out]; congr 1; omega⟩
      case measure => simp [intOf]; omega
    · obtain rfl : j = m := by omega
      go_wp2
      go_loop [4, 6] (fun r k => ∃ t : Int, 1900 ≤ t ∧ t ≤ y ∧ k = .int .i64 t ∧ r = .int .i64 (d - 1 + cumI y j + ys t)) (fun _ k => (y - intOf k).toNat)
      case atStart => exact ⟨1900, by omega, by omega, rfl, by rw [ys_1900]; simp⟩
      case round =>
        obtain ⟨t, ht1, ht2, rfl, rfl⟩ := hrel
        have yb := ys_bd t ht1 (by omega)
        by_cases hlt2 : t < y
        · have hl := lp01 t
          have hs := ys_succ t
          by_cases hlb : leapB t = true
          · have hk : lp t = 1 := by simpa [leapB] using hlb
            have S : Hid (ys (t + 1) = ys t + 366) := by show _ = _; omega
            clear hs hk
            go_wp2_with (go_at_call 46; refine (rleap_any _ _).mono ?_; rintro e w' ⟨rfl, rfl⟩)
            go_round
            case rel => exact ⟨t + 1, by omega, by omega, rfl, by rw [S.out]; congr 1; omega⟩
            case measure => simp [intOf]; omega
          · have hk : lp t = 0 := by simp [leapB] at hlb; omega
            have S : Hid (ys (t + 1) = ys t + 365) := by show _ = _; omega
            have hlb' : leapB t = false := by simpa using hlb
            clear hs hk hlb
            go_wp2_with (go_at_call 46; refine (rleap_any _ _).mono ?_; rintro e w' ⟨rfl, rfl⟩)
            go_round
            case rel => exact ⟨t + 1, by omega, by omega, rfl, by rw [S.out]; congr 1; omega⟩
            case measure => simp [intOf]; omega
        · obtain rfl : t = y := by omega
          go_wp2
          go_ret2
          exact ⟨by rw [hN.out]; rfl, g.below1⟩
end Go.Proofs.YtdokniohjdlmfaaDoor
