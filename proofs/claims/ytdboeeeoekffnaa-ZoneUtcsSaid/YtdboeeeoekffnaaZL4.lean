/- The walk of the statement on the minute of a local time. -/
import Derived.Test.YtdboeeeoekffnaaZW6
namespace Go.Proofs.Ytdboeeeoekffnaa
open Go.ChangeShapes Go.WideShapes Go.ChangeAt Go.RowKit Zn

theorem rutc_yes (w : World) (A : Option Addr) (z : Z) (c : Nat) (l : Int) (hw : ZWf z) (hz : ZAt w A z) (h : hasP z l) :
    Calls Try.prog 16 #[.agg #[.int .i64 z.base, .slice A z.n c], .int .i64 l] w fun e w' => e = .returned (.agg #[.int .i64 (atI z l), .int .i64 (kindI z l (np z l)), .bool false]) ∧ Below w.heap.size w w' := by
  have := rutc_in w A z c l hw hz h.2.2.1 h.1 h.2.1
  unfold outV at this
  rw [if_pos h.2.2.2] at this
  exact this
theorem rutc_no (w : World) (A : Option Addr) (z : Z) (c : Nat) (l : Int) (hw : ZWf z) (hz : ZAt w A z) (h : ¬ hasP z l) :
    Calls Try.prog 16 #[.agg #[.int .i64 z.base, .slice A z.n c], .int .i64 l] w fun e w' => e = .returned (.agg #[.int .i64 0, .int .i64 0, .bool true]) ∧ Below w.heap.size w w' := by
  cases hm : mayB z with
  | false => exact rutc_far w A z c l hw hz (.inl hm)
  | true =>
    by_cases h1 : l < -900
    · exact rutc_far w A z c l hw hz (.inr (.inl ⟨hm, h1⟩))
    by_cases h2 : 158311620 < l
    · exact rutc_far w A z c l hw hz (.inr (.inr ⟨hm, h2⟩))
    have := rutc_in w A z c l hw hz (may_iff.1 hm) (by omega) (by omega)
    unfold outV at this
    rw [if_neg (fun h3 => h ⟨by omega, by omega, may_iff.1 hm, h3⟩)] at this
    exact this

theorem utcs_great (w : World) (A : Option Addr) (z : Z) (c : Nat) (l : Int) (hn : 20 < z.n) (hw : ZWf z) :
    Calls Try.prog 4 #[.agg #[.int .i64 z.base, .slice A z.n c], .int .i64 l] w fun e w' => e = .returned (.bool true) ∧ Below w.heap.size w w' := by
  have h1 := hw.2.1
  clear hw
  go_enter Try.func4, Try.ntmps4
  go_wp2_with (go_at_call 7; (with_reducible refine (zfixed_any _).mono ?_); rintro e w' ⟨rfl, hb⟩; obtain ⟨g, rfl⟩ := Gr.of hb; clear hb)
  go_ret
  exact ⟨rfl, g.below1⟩

set_option maxHeartbeats 1000000 in
theorem utcs_yes (w : World) (A : Option Addr) (z : Z) (c : Nat) (l : Int) (hn : z.n ≤ 20) (hw : ZWf z) (hz : ZAt w A z) (h : hasP z l) :
    Calls Try.prog 4 #[.agg #[.int .i64 z.base, .slice A z.n c], .int .i64 l] w fun e w' => e = .returned (.bool true) ∧ Below w.heap.size w w' := by
  have hZ1 := hz.alloc (.cells #[.int .i64 z.base, .slice A z.n c] 24)
  have HU := Lib.hid (utc_yes _ A z c l hw hZ1 h)
  have HR := Lib.hid (fun (w : World) (hz : ZAt w A z) => rutc_yes w A z c l hw hz h)
  have HZ := Lib.hid (Gr.layZ hz (.cells #[.int .i64 z.base, .slice A z.n c] 24))
  obtain ⟨F0, F1⟩ := Gr.lay2 w (.int .i64 z.base) (.slice A z.n c) 24
  obtain ⟨N0, N1, N2⟩ := Gr.new3 (w.alloc (.cells #[.int .i64 z.base, .slice A z.n c] 24))
  clear hw hz hZ1 h
  generalize atI z l = a1 at *
  generalize kindI z l (np z l) = k1 at *
  go_enter Try.func4, Try.ntmps4
  go_wp2_with (first
    | (go_at_call 15; (with_reducible refine HU.out.mono ?_); rintro e w' ⟨rfl, hb⟩; obtain ⟨g, rfl⟩ := Gr.of hb; clear hb)
    | (go_at_call 16; (with_reducible refine (HR.out _ (HZ.out _)).mono ?_); rintro e w' ⟨rfl, hb⟩; obtain ⟨g, rfl⟩ := g.on hb; clear hb)
    | (go_at_call 7; (with_reducible refine (zfixed_any _).mono ?_); rintro e w' ⟨rfl, hb⟩; obtain ⟨g3, rfl⟩ := Gr.of hb; clear hb))
  go_ret
  exact ⟨rfl, Gr.below2 g g3⟩

set_option maxHeartbeats 1000000 in
theorem utcs_no (w : World) (A : Option Addr) (z : Z) (c : Nat) (l : Int) (hn : z.n ≤ 20) (hw : ZWf z) (hz : ZAt w A z) (h : ¬ hasP z l) :
    Calls Try.prog 4 #[.agg #[.int .i64 z.base, .slice A z.n c], .int .i64 l] w fun e w' => e = .returned (.bool true) ∧ Below w.heap.size w w' := by
  have hZ1 := hz.alloc (.cells #[.int .i64 z.base, .slice A z.n c] 24)
  have HU := Lib.hid (utc_no _ A z c l hw hZ1 h)
  have HR := Lib.hid (fun (w : World) (hz : ZAt w A z) => rutc_no w A z c l hw hz h)
  have HZ := Lib.hid (Gr.layZ hz (.cells #[.int .i64 z.base, .slice A z.n c] 24))
  obtain ⟨F0, F1⟩ := Gr.lay2 w (.int .i64 z.base) (.slice A z.n c) 24
  obtain ⟨N0, N1, N2⟩ := Gr.new3 (w.alloc (.cells #[.int .i64 z.base, .slice A z.n c] 24))
  clear hw hz hZ1 h
  go_enter Try.func4, Try.ntmps4
  go_wp2_with (first
    | (go_at_call 15; (with_reducible refine HU.out.mono ?_); rintro e w' ⟨rfl, hb⟩; obtain ⟨g, rfl⟩ := Gr.of hb; clear hb)
    | (go_at_call 16; (with_reducible refine (HR.out _ (HZ.out _)).mono ?_); rintro e w' ⟨rfl, hb⟩; obtain ⟨g, rfl⟩ := g.on hb; clear hb)
    | (go_at_call 7; (with_reducible refine (zfixed_any _).mono ?_); rintro e w' ⟨rfl, hb⟩; obtain ⟨g3, rfl⟩ := Gr.of hb; clear hb))
  go_ret
  exact ⟨rfl, Gr.below2 g g3⟩

theorem utcs_walk (A : Option Addr) (z : Z) (c : Nat) (l : Int) (hw : ZWf z) (_ : (Lit.int .i64 l).wf = true) (w : World) (hz : ZAt w A z) :
    Calls Try.prog 4 #[.agg #[.int .i64 z.base, .slice A z.n c], .int .i64 l] w fun e w' => e = .returned (.bool true) ∧ Below w.heap.size w w' := by
  by_cases h1 : 20 < z.n
  · exact utcs_great w A z c l h1 hw
  by_cases h : hasP z l
  · exact utcs_yes w A z c l (by omega) hw hz h
  · exact utcs_no w A z c l (by omega) hw hz h
end Go.Proofs.Ytdboeeeoekffnaa
