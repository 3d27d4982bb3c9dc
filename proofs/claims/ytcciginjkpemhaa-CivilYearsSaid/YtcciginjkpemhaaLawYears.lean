/- The walk of the statement on years. -/
import Derived.Test.YtcciginjkpemhaaW4
import Derived.Test.YtcciginjkpemhaaW5
import Derived.Test.YtcciginjkpemhaaKit2
import Derived.Lib.Hide
namespace Go.Proofs.Ytcciginjkpemhaa
open Go.ChangeShapes Go.WideShapes Go.ChangeAt Go.RowKit Cal

theorem years_no (y : Int) (w : World) (h : y < 1900 ∨ 2199 < y) :
    Calls Try.prog 8 #[.int .i64 y] w fun e w' => e = .returned (.bool true) ∧ Below w.heap.size w w' := by
  rcases h with h | h
  all_goals
    go_enter Try.func8, Try.ntmps8
    go_wp2_with (go_at_call 13; (with_reducible refine (fixed_any _).mono ?_); rintro e w' ⟨rfl, hb⟩; obtain ⟨g, rfl⟩ := Gr.of hb; clear hb)
    go_ret
    exact ⟨rfl, g.ok⟩

theorem Gr.alloc1 {w : World} (g : Gr w) (o : Obj) : ∃ g' : Gr w, g.val.alloc o = g'.val := ⟨⟨_, g.ok.alloc g.size o⟩, rfl⟩

set_option maxRecDepth 100000 in
set_option maxHeartbeats 4000000 in
theorem years_yes (y : Int) (w : World) (h1 : 1900 ≤ y) (h2 : y ≤ 2199) (lpv : Int) (hl : lp y = lpv) (hlb : leapB y = decide (lpv = 1)) (hl1 : lpv = 0 ∨ lpv = 1) :
    Calls Try.prog 8 #[.int .i64 y] w fun e w' => e = .returned (.bool true) ∧ Below w.heap.size w w' := by
  have M0 : Hid (mayP y 1 1) := ⟨h1, by omega, by omega, by have := len_pos y 1 (by omega) (by omega); omega⟩
  have M1 : Hid (mayP (y + 1) 1 1) := ⟨by omega, by omega, by omega, by have := len_pos (y + 1) 1 (by omega) (by omega); omega⟩
  have E0 : numI y 1 1 = ys y := by unfold numI; rw [cum_one]; omega
  have E1 : Hid (numI (y + 1) 1 1 = ys y + (365 + lpv)) := by show _ = _; unfold numI; rw [cum_one, ys_succ, hl]; omega
  have E2 : numI (y + 1) 1 1 - ys y = 365 + lpv := by rw [E1.out]; omega
  have hb1 := num_bd M1.out
  have hb0 := ys_bd y h1 (by omega)
  have C13 : Hid (cumI y 13 = 365 + lpv) := by have := cum_13 y; rw [hl] at this; exact this
  clear hl
  have D0 : decide (y < 1900) = false := by simp; omega
  have D1 : decide (2199 < y) = false := by simp; omega
  rcases hl1 with rfl | rfl
  · skip
    have hx : leapB y = false := by simpa using hlb
    replace E2 : numI (y + 1) 1 1 - ys y = 365 := E2
    clear hlb
    go_enter Try.func8, Try.ntmps8
    go_wp2_with (first
      | (go_at_call 10; first | ((with_reducible refine (number_yes y 1 1 _ M0.out).mono ?_); rintro e w' ⟨rfl, hb⟩; obtain ⟨g, rfl⟩ := Gr.of hb; clear hb) | ((with_reducible refine (number_yes (y + 1) 1 1 _ M1.out).mono ?_); rintro e w' ⟨rfl, hb⟩; obtain ⟨g, rfl⟩ := g.on hb; clear hb))
      | (go_at_call 20; (with_reducible refine (rleap_any _ _).mono ?_); rintro e w' ⟨rfl, rfl⟩))
    have hg0 : ∃ g' : Gr w, g.val = g'.val := ⟨g, rfl⟩
    go_loopw [8, 9] (fun n k wr => ∃ g : Gr w, wr = g.val ∧ ∃ m : Int, 1 ≤ m ∧ m ≤ 13 ∧ k = .int .i64 m ∧ n = .int .i64 (ys y + cumI y m)) (fun _ k _ => (13 - intOf k).toNat)
    case atStart => exact ⟨g, rfl, 1, by omega, by omega, rfl, by rw [cum_one]; simp⟩
    case round =>
      obtain ⟨g, rfl, m, hm1, hm2, rfl, rfl⟩ := hrel
      have cb := cum_bd y m
      have lb := len_bd y m
      by_cases hm : m ≤ 12
      · have CS : Hid (cumI y (m + 1) = cumI y m + lenI y m) := cum_succ y m hm1 hm
        go_wp2_with fail
        have hg1 : ∃ g' : Gr w, g.val = g'.val := ⟨g, rfl⟩
        obtain ⟨wo, hwo⟩ : ∃ wo : World, wo = g.val := ⟨_, rfl⟩
        rw [← hwo] at hg1
        go_loopw [8, 10] (fun n k wr => ∃ g : Gr w, wr = g.val ∧ ∃ d : Int, 1 ≤ d ∧ d ≤ lenI y m + 1 ∧ k = .int .i64 d ∧ n = .int .i64 (ys y + cumI y m + d - 1)) (fun _ k _ => (32 - intOf k).toNat)
        case atStart => exact ⟨g, rfl, 1, by omega, by have := len_pos y m hm1 hm; omega, rfl, by congr 1; omega⟩
        case round =>
          obtain ⟨g, rfl, d, hd1, hd2, rfl, rfl⟩ := hrel
          by_cases hd : d ≤ lenI y m
          · have D : Hid (yOf (ys y + cumI y m + d - 1) = y ∧ mOf (ys y + cumI y m + d - 1) = m ∧ dOf (ys y + cumI y m + d - 1) = d) := dateOf_eq (y := y) (m := m) (d := d) ⟨h1, by omega, hd1, hd⟩ rfl
            have hr : 0 ≤ ys y + cumI y m + d - 1 ∧ ys y + cumI y m + d - 1 ≤ 109937 := num_bd (y := y) (m := m) (d := d) ⟨h1, by omega, hd1, hd⟩
            have ND := date_yes (ys y + cumI y m + d - 1)
            rw [D.out.1, D.out.2.1, D.out.2.2] at ND
            have ND' := Lib.hid ND
            clear ND D
            go_wp2_with (first
              | (go_at_call 21; (with_reducible refine (length_any _ _ _).mono ?_); rintro e w' ⟨rfl, rfl⟩)
              | (go_at_call 15; (with_reducible refine (ND'.out _ hr.1 hr.2).mono ?_); rintro e w' ⟨rfl, hb⟩; obtain ⟨g, rfl⟩ := g.on hb; clear hb))
            go_roundw
            case rel =>
              obtain ⟨g', e'⟩ := g.alloc1 (.cells #[.int .i64 y, .int .i64 m, .int .i64 d] 23)
              exact ⟨g', e', d + 1, by omega, by omega, rfl, by congr 1; omega⟩
            case measure => simp [intOf]; omega
          · obtain rfl : d = lenI y m + 1 := by omega
            go_wp2_with (go_at_call 21; (with_reducible refine (length_any _ _ _).mono ?_); rintro e w' ⟨rfl, rfl⟩)
            go_roundw
            case rel => exact ⟨g, rfl, m + 1, by omega, by omega, rfl, by rw [CS.out]; congr 1; omega⟩
            case measure => simp [intOf]; omega
      · obtain rfl : m = 13 := by omega
        have c13 := C13.out
        have e3 : (ys y + 365 == numI (y + 1) 1 1) = true := by rw [E1.out]; simp
        go_wp2_with (go_at_call 13; (with_reducible refine (fixed_any _).mono ?_); rintro e w' ⟨rfl, hb⟩; obtain ⟨g, rfl⟩ := g.on hb; clear hb)
        go_ret
        exact ⟨rfl, g.ok⟩
  · skip
    have hx : leapB y = true := by simpa using hlb
    replace E2 : numI (y + 1) 1 1 - ys y = 366 := E2
    clear hlb
    go_enter Try.func8, Try.ntmps8
    go_wp2_with (first
      | (go_at_call 10; first | ((with_reducible refine (number_yes y 1 1 _ M0.out).mono ?_); rintro e w' ⟨rfl, hb⟩; obtain ⟨g, rfl⟩ := Gr.of hb; clear hb) | ((with_reducible refine (number_yes (y + 1) 1 1 _ M1.out).mono ?_); rintro e w' ⟨rfl, hb⟩; obtain ⟨g, rfl⟩ := g.on hb; clear hb))
      | (go_at_call 20; (with_reducible refine (rleap_any _ _).mono ?_); rintro e w' ⟨rfl, rfl⟩))
    have hg0 : ∃ g' : Gr w, g.val = g'.val := ⟨g, rfl⟩
    go_loopw [8, 9] (fun n k wr => ∃ g : Gr w, wr = g.val ∧ ∃ m : Int, 1 ≤ m ∧ m ≤ 13 ∧ k = .int .i64 m ∧ n = .int .i64 (ys y + cumI y m)) (fun _ k _ => (13 - intOf k).toNat)
    case atStart => exact ⟨g, rfl, 1, by omega, by omega, rfl, by rw [cum_one]; simp⟩
    case round =>
      obtain ⟨g, rfl, m, hm1, hm2, rfl, rfl⟩ := hrel
      have cb := cum_bd y m
      have lb := len_bd y m
      by_cases hm : m ≤ 12
      · have CS : Hid (cumI y (m + 1) = cumI y m + lenI y m) := cum_succ y m hm1 hm
        go_wp2_with fail
        have hg1 : ∃ g' : Gr w, g.val = g'.val := ⟨g, rfl⟩
        obtain ⟨wo, hwo⟩ : ∃ wo : World, wo = g.val := ⟨_, rfl⟩
        rw [← hwo] at hg1
        go_loopw [8, 10] (fun n k wr => ∃ g : Gr w, wr = g.val ∧ ∃ d : Int, 1 ≤ d ∧ d ≤ lenI y m + 1 ∧ k = .int .i64 d ∧ n = .int .i64 (ys y + cumI y m + d - 1)) (fun _ k _ => (32 - intOf k).toNat)
        case atStart => exact ⟨g, rfl, 1, by omega, by have := len_pos y m hm1 hm; omega, rfl, by congr 1; omega⟩
        case round =>
          obtain ⟨g, rfl, d, hd1, hd2, rfl, rfl⟩ := hrel
          by_cases hd : d ≤ lenI y m
          · have D : Hid (yOf (ys y + cumI y m + d - 1) = y ∧ mOf (ys y + cumI y m + d - 1) = m ∧ dOf (ys y + cumI y m + d - 1) = d) := dateOf_eq (y := y) (m := m) (d := d) ⟨h1, by omega, hd1, hd⟩ rfl
            have hr : 0 ≤ ys y + cumI y m + d - 1 ∧ ys y + cumI y m + d - 1 ≤ 109937 := num_bd (y := y) (m := m) (d := d) ⟨h1, by omega, hd1, hd⟩
            have ND := date_yes (ys y + cumI y m + d - 1)
            rw [D.out.1, D.out.2.1, D.out.2.2] at ND
            have ND' := Lib.hid ND
            clear ND D
            go_wp2_with (first
              | (go_at_call 21; (with_reducible refine (length_any _ _ _).mono ?_); rintro e w' ⟨rfl, rfl⟩)
              | (go_at_call 15; (with_reducible refine (ND'.out _ hr.1 hr.2).mono ?_); rintro e w' ⟨rfl, hb⟩; obtain ⟨g, rfl⟩ := g.on hb; clear hb))
            go_roundw
            case rel =>
              obtain ⟨g', e'⟩ := g.alloc1 (.cells #[.int .i64 y, .int .i64 m, .int .i64 d] 23)
              exact ⟨g', e', d + 1, by omega, by omega, rfl, by congr 1; omega⟩
            case measure => simp [intOf]; omega
          · obtain rfl : d = lenI y m + 1 := by omega
            go_wp2_with (go_at_call 21; (with_reducible refine (length_any _ _ _).mono ?_); rintro e w' ⟨rfl, rfl⟩)
            go_roundw
            case rel => exact ⟨g, rfl, m + 1, by omega, by omega, rfl, by rw [CS.out]; congr 1; omega⟩
            case measure => simp [intOf]; omega
      · obtain rfl : m = 13 := by omega
        have c13 := C13.out
        have e3 : (ys y + 366 == numI (y + 1) 1 1) = true := by rw [E1.out]; simp
        go_wp2_with (go_at_call 13; (with_reducible refine (fixed_any _).mono ?_); rintro e w' ⟨rfl, hb⟩; obtain ⟨g, rfl⟩ := g.on hb; clear hb)
        go_ret
        exact ⟨rfl, g.ok⟩

theorem years_walk (y : Int) (_ : (Lit.int .i64 y).wf = true) (w : World) :
    Calls Try.prog 8 #[.int .i64 y] w fun e w' => e = .returned (.bool true) ∧ Below w.heap.size w w' := by
  by_cases h : y < 1900 ∨ 2199 < y
  · exact years_no y w h
  · exact years_yes y w (by omega) (by omega) (lp y) rfl rfl (by have := lp01 y; omega)
end Go.Proofs.Ytcciginjkpemhaa
