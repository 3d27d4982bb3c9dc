/- The walk of the statement on zones without turns. -/
import Derived.Test.YtdboeeeoekffnaaZW5
namespace Go.Proofs.Ytdboeeeoekffnaa
open Go.ChangeShapes Go.WideShapes Go.ChangeAt Go.RowKit Zn

def zP (b : Int) : Z := ⟨b, 0, fun _ => 0, fun _ => 0⟩
theorem zP_may {b : Int} : mayP (zP b) ↔ -900 ≤ b ∧ b ≤ 900 := ⟨fun h => ⟨h.1, h.2.1⟩, fun h => ⟨h.1, h.2, by show (0 : Nat) ≤ 700; omega, fun i hi => absurd hi (Nat.not_lt_zero _)⟩⟩
theorem zP_has {b l : Int} : hasP (zP b) l ↔ -900 ≤ l ∧ l ≤ 158311620 ∧ (-900 ≤ b ∧ b ≤ 900) ∧ 0 ≤ l - b ∧ l - b ≤ 158310720 := by
  unfold hasP; rw [zP_may]; exact Iff.rfl
theorem zP_wf {b : Int} (h : (Lit.int .i64 b).wf = true) : ZWf (zP b) := ⟨bounds_i64 h, by show 0 ≤ _; omega, fun i hi => absurd hi (Nat.not_lt_zero _)⟩
theorem zP_at (w : World) (b : Int) : ZAt w none (zP b) := fun h => absurd h (Nat.lt_irrefl _)

theorem plain_walk (b l : Int) (wb : (Lit.int .i64 b).wf = true) (wl : (Lit.int .i64 l).wf = true) (w : World) :
    Calls Try.prog 6 #[.int .i64 b, .int .i64 l] w fun e w' => e = .returned (.bool true) ∧ Below w.heap.size w w' := by
  obtain ⟨hb1, hb2⟩ := bounds_i64 wb
  obtain ⟨hl1, hl2⟩ := bounds_i64 wl
  by_cases h : hasP (zP b) l
  · have HU := Lib.hid (utc_yes (w.alloc (.cells #[.int .i64 b, .slice none 0 0] 24)) none (zP b) 0 l (zP_wf wb) (zP_at _ b) h)
    change Hid (Calls Try.prog 15 #[.agg #[.int .i64 b, .slice none 0 0], .int .i64 l] _ fun e w' => e = .returned (.tuple #[.int .i64 (l - b), .int .i64 0, .bool true]) ∧ Below _ _ w') at HU
    obtain ⟨a1, a2, ⟨a3, a4⟩, a5, a6⟩ := zP_has.1 h
    clear h wb wl
    go_enter Try.func6, Try.ntmps6
    go_wp2_with (first
      | (go_at_call 15; (with_reducible refine HU.out.mono ?_); rintro e w' ⟨rfl, hb⟩; obtain ⟨g, rfl⟩ := Gr.of hb; clear hb)
      | (go_at_call 7; (with_reducible refine (zfixed_any _).mono ?_); rintro e w' ⟨rfl, hb⟩; obtain ⟨g2, rfl⟩ := g.on hb; clear hb))
    go_ret
    exact ⟨rfl, g2.below1⟩
  · have HU := Lib.hid (utc_no (w.alloc (.cells #[.int .i64 b, .slice none 0 0] 24)) none (zP b) 0 l (zP_wf wb) (zP_at _ b) h)
    change Hid (Calls Try.prog 15 #[.agg #[.int .i64 b, .slice none 0 0], .int .i64 l] _ fun e w' => e = .returned (.tuple #[.int .i64 0, .int .i64 0, .bool false]) ∧ Below _ _ w') at HU
    rw [zP_has] at h
    clear wb wl
    by_cases c1 : b < -900
    · clear h
      go_enter Try.func6, Try.ntmps6
      go_wp2_with (first
        | (go_at_call 15; (with_reducible refine HU.out.mono ?_); rintro e w' ⟨rfl, hb⟩; obtain ⟨g, rfl⟩ := Gr.of hb; clear hb)
        | (go_at_call 7; (with_reducible refine (zfixed_any _).mono ?_); rintro e w' ⟨rfl, hb⟩; obtain ⟨g2, rfl⟩ := g.on hb; clear hb))
      go_ret
      exact ⟨rfl, g2.below1⟩
    by_cases c2 : 900 < b
    · clear h
      go_enter Try.func6, Try.ntmps6
      go_wp2_with (first
        | (go_at_call 15; (with_reducible refine HU.out.mono ?_); rintro e w' ⟨rfl, hb⟩; obtain ⟨g, rfl⟩ := Gr.of hb; clear hb)
        | (go_at_call 7; (with_reducible refine (zfixed_any _).mono ?_); rintro e w' ⟨rfl, hb⟩; obtain ⟨g2, rfl⟩ := g.on hb; clear hb))
      go_ret
      exact ⟨rfl, g2.below1⟩
    have h' : l < -900 ∨ (-900 ≤ l ∧ 158311620 < l) ∨ (-900 ≤ l ∧ l ≤ 158311620 ∧ l - b < 0) ∨ (-900 ≤ l ∧ l ≤ 158311620 ∧ 0 ≤ l - b ∧ 158310720 < l - b) := by omega
    clear h
    rcases h' with c3 | ⟨c3, c4⟩ | ⟨c3, c4, c5⟩ | ⟨c3, c4, c5, c6⟩
    all_goals
      go_enter Try.func6, Try.ntmps6
      go_wp2_with (first
        | (go_at_call 15; (with_reducible refine HU.out.mono ?_); rintro e w' ⟨rfl, hb⟩; obtain ⟨g, rfl⟩ := Gr.of hb; clear hb)
        | (go_at_call 7; (with_reducible refine (zfixed_any _).mono ?_); rintro e w' ⟨rfl, hb⟩; obtain ⟨g2, rfl⟩ := g.on hb; clear hb))
      go_ret
      refine ⟨?_, g2.below1⟩
      first | rfl | (simp; omega)
end Go.Proofs.Ytdboeeeoekffnaa
