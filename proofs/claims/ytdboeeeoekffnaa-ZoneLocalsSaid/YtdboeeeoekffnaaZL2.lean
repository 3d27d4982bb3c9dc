/- The walk of the statement on what is added, local times and turns. -/
import Derived.Test.YtdboeeeoekffnaaZW5
namespace Go.Proofs.Ytdboeeeoekffnaa
open Go.ChangeShapes Go.WideShapes Go.ChangeAt Go.RowKit Zn

theorem locals_great (w : World) (A : Option Addr) (z : Z) (c : Nat) (u : Int) (hn : 50 < z.n) (hw : ZWf z) :
    Calls Try.prog 3 #[.agg #[.int .i64 z.base, .slice A z.n c], .int .i64 u] w fun e w' => e = .returned (.bool true) ∧ Below w.heap.size w w' := by
  have h1 := hw.2.1
  clear hw
  go_enter Try.func3, Try.ntmps3
  go_wp2_with (go_at_call 7; (with_reducible refine (zfixed_any _).mono ?_); rintro e w' ⟨rfl, hb⟩; obtain ⟨g, rfl⟩ := Gr.of hb; clear hb)
  go_ret
  exact ⟨rfl, g.below1⟩

set_option maxHeartbeats 2000000 in
theorem locals_no (w : World) (A : Option Addr) (z : Z) (c : Nat) (u : Int) (hn : z.n ≤ 50) (hw : ZWf z) (hz : ZAt w A z) (hm : mayB z = false) :
    Calls Try.prog 3 #[.agg #[.int .i64 z.base, .slice A z.n c], .int .i64 u] w fun e w' => e = .returned (.bool true) ∧ Below w.heap.size w w' := by
  have HZ := Lib.hid (Gr.layZ hz (.cells #[.int .i64 z.base, .slice A z.n c] 24))
  obtain ⟨F0, F1⟩ := Gr.lay2 w (.int .i64 z.base) (.slice A z.n c) 24
  have HW := Lib.hid hw
  have HN : Hid (¬ (inB u = true ∧ mayB z = true)) := by show ¬ _; rw [hm]; simp
  clear hz hw
  go_enter Try.func3, Try.ntmps3
  go_wp2_with fail
  refine Gr.region (by kernel_rfl) (by kernel_rfl) (Gr.draw0 _) ?_
  repeat (go_big_quiet_step ((first
    | (go_at_call 8; exact Gr.calls _ (zmay_any _ _ z c HW.out (HZ.out _)))
    | (go_at_call 9; exact Gr.calls _ (rmay_any _ _ z c HW.out (HZ.out _))))))
  refine wpQuiet_nil ?_
  rintro _ ⟨g, rfl⟩
  go_wp2_with (first
    | (go_at_call 9; (with_reducible refine (rmay_any _ _ z c HW.out (HZ.out _)).mono ?_); rintro e w' ⟨rfl, hb⟩; obtain ⟨g, rfl⟩ := g.on hb; clear hb)
    | (go_at_call 10; (with_reducible refine (local_no _ _ z c u HW.out (HZ.out _) HN.out).mono ?_); rintro e w' ⟨rfl, hb⟩; obtain ⟨g, rfl⟩ := g.on hb; clear hb)
    | (go_at_call 11; (with_reducible refine (next_no _ _ z c u HW.out (HZ.out _) hm).mono ?_); rintro e w' ⟨rfl, hb⟩; obtain ⟨g, rfl⟩ := g.on hb; clear hb)
    | (go_at_call 12; (with_reducible refine (offs_no _ _ z c u HW.out (HZ.out _) hm).mono ?_); rintro e w' ⟨rfl, hb⟩; obtain ⟨g, rfl⟩ := g.on hb; clear hb)
    | (go_at_call 7; (with_reducible refine (zfixed_any _).mono ?_); rintro e w' ⟨rfl, hb⟩; obtain ⟨g, rfl⟩ := g.on hb; clear hb))
  go_ret
  exact ⟨rfl, g.below1⟩

theorem rnext_some (w : World) (A : Option Addr) (z : Z) (c : Nat) (u : Int) (hn : z.n ≤ 9223372036854775807) (hz : ZAt w A z) (hf : fb z u < z.n) :
    Calls Try.prog 13 #[.agg #[.int .i64 z.base, .slice A z.n c], .int .i64 u] w fun e w' => e = .returned (.int .i64 (z.t (fb z u))) ∧ Below w.heap.size w w' := by
  have h := rnext_any w A z c u hn hz
  unfold nextI at h
  rwa [if_pos hf] at h
theorem rnext_none (w : World) (A : Option Addr) (z : Z) (c : Nat) (u : Int) (hn : z.n ≤ 9223372036854775807) (hz : ZAt w A z) (hf : fb z u = z.n) :
    Calls Try.prog 13 #[.agg #[.int .i64 z.base, .slice A z.n c], .int .i64 u] w fun e w' => e = .returned (.int .i64 (-1)) ∧ Below w.heap.size w w' := by
  have h := rnext_any w A z c u hn hz
  unfold nextI at h
  rwa [if_neg (by omega)] at h

set_option maxHeartbeats 2000000 in
theorem locals_in_some (w : World) (A : Option Addr) (z : Z) (c : Nat) (u : Int) (hn : z.n ≤ 50) (hw : ZWf z) (hz : ZAt w A z) (hp : mayP z) (hi : inB u = true) (hf : fb z u < z.n) :
    Calls Try.prog 3 #[.agg #[.int .i64 z.base, .slice A z.n c], .int .i64 u] w fun e w' => e = .returned (.bool true) ∧ Below w.heap.size w w' := by
  have HZ := Lib.hid (Gr.layZ hz (.cells #[.int .i64 z.base, .slice A z.n c] 24))
  obtain ⟨F0, F1⟩ := Gr.lay2 w (.int .i64 z.base) (.slice A z.n c) 24
  have HW := Lib.hid hw
  have hm : mayB z = true := may_iff.2 hp
  have HP := Lib.hid hp
  have HF := Lib.hid hf
  have HL : z.n ≤ 9223372036854775807 := by omega
  have ⟨o1, o2⟩ := off_bd hp u
  have ⟨u1, u2⟩ : 0 ≤ u ∧ u ≤ 158310720 := of_decide_eq_true hi
  have ⟨t1, t2⟩ := t_bd hp hf
  clear hz hw hp hf
  go_enter Try.func3, Try.ntmps3
  go_wp2_with fail
  refine Gr.region (by kernel_rfl) (by kernel_rfl) (Gr.draw0 _) ?_
  repeat (go_big_quiet_step ((first
    | (go_at_call 8; exact Gr.calls _ (zmay_any _ _ z c HW.out (HZ.out _)))
    | (go_at_call 9; exact Gr.calls _ (rmay_any _ _ z c HW.out (HZ.out _))))))
  refine wpQuiet_nil ?_
  rintro _ ⟨g, rfl⟩
  go_wp2_with (first
    | (go_at_call 9; (with_reducible refine (rmay_any _ _ z c HW.out (HZ.out _)).mono ?_); rintro e w' ⟨rfl, hb⟩; obtain ⟨g, rfl⟩ := g.on hb; clear hb)
    | (go_at_call 10; (with_reducible refine (local_yes _ _ z c u HW.out (HZ.out _) hi HP.out).mono ?_); rintro e w' ⟨rfl, hb⟩; obtain ⟨g, rfl⟩ := g.on hb; clear hb)
    | (go_at_call 11; (with_reducible refine (next_some _ _ z c u HW.out (HZ.out _) HP.out HF.out).mono ?_); rintro e w' ⟨rfl, hb⟩; obtain ⟨g, rfl⟩ := g.on hb; clear hb)
    | (go_at_call 13; (with_reducible refine (rnext_some _ _ z c u HL (HZ.out _) HF.out).mono ?_); rintro e w' ⟨rfl, hb⟩; obtain ⟨g, rfl⟩ := g.on hb; clear hb)
    | (go_at_call 14; (with_reducible refine (roffs_any _ _ z c u HL (HZ.out _)).mono ?_); rintro e w' ⟨rfl, hb⟩; obtain ⟨g, rfl⟩ := g.on hb; clear hb))
  all_goals
    refine Gr.region (by kernel_rfl) (by kernel_rfl) g.draw ?_
    repeat (go_big_quiet_step ((first
      | (go_at_call 7; exact Gr.calls _ (zfixed_any _))
      | (go_at_call 12; exact Gr.calls _ (offs_yes _ _ z c u HW.out (HZ.out _) HP.out))
      | (go_at_call 14; exact Gr.calls _ (roffs_any _ _ z c u HL (HZ.out _))))))
    refine wpQuiet_nil ?_
    rintro _ ⟨g, rfl⟩
    go_wp2
    go_ret
    exact ⟨rfl, g.below1⟩

set_option maxHeartbeats 2000000 in
theorem locals_in_none (w : World) (A : Option Addr) (z : Z) (c : Nat) (u : Int) (hn : z.n ≤ 50) (hw : ZWf z) (hz : ZAt w A z) (hp : mayP z) (hi : inB u = true) (hf : fb z u = z.n) :
    Calls Try.prog 3 #[.agg #[.int .i64 z.base, .slice A z.n c], .int .i64 u] w fun e w' => e = .returned (.bool true) ∧ Below w.heap.size w w' := by
  have HZ := Lib.hid (Gr.layZ hz (.cells #[.int .i64 z.base, .slice A z.n c] 24))
  obtain ⟨F0, F1⟩ := Gr.lay2 w (.int .i64 z.base) (.slice A z.n c) 24
  have HW := Lib.hid hw
  have hm : mayB z = true := may_iff.2 hp
  have HP := Lib.hid hp
  have HF := Lib.hid hf
  have HL : z.n ≤ 9223372036854775807 := by omega
  have ⟨o1, o2⟩ := off_bd hp u
  have ⟨u1, u2⟩ : 0 ≤ u ∧ u ≤ 158310720 := of_decide_eq_true hi
  clear hz hw hp hf
  go_enter Try.func3, Try.ntmps3
  go_wp2_with fail
  refine Gr.region (by kernel_rfl) (by kernel_rfl) (Gr.draw0 _) ?_
  repeat (go_big_quiet_step ((first
    | (go_at_call 8; exact Gr.calls _ (zmay_any _ _ z c HW.out (HZ.out _)))
    | (go_at_call 9; exact Gr.calls _ (rmay_any _ _ z c HW.out (HZ.out _))))))
  refine wpQuiet_nil ?_
  rintro _ ⟨g, rfl⟩
  go_wp2_with (first
    | (go_at_call 9; (with_reducible refine (rmay_any _ _ z c HW.out (HZ.out _)).mono ?_); rintro e w' ⟨rfl, hb⟩; obtain ⟨g, rfl⟩ := g.on hb; clear hb)
    | (go_at_call 10; (with_reducible refine (local_yes _ _ z c u HW.out (HZ.out _) hi HP.out).mono ?_); rintro e w' ⟨rfl, hb⟩; obtain ⟨g, rfl⟩ := g.on hb; clear hb)
    | (go_at_call 11; (with_reducible refine (next_none _ _ z c u HW.out (HZ.out _) HP.out HF.out).mono ?_); rintro e w' ⟨rfl, hb⟩; obtain ⟨g, rfl⟩ := g.on hb; clear hb)
    | (go_at_call 13; (with_reducible refine (rnext_none _ _ z c u HL (HZ.out _) HF.out).mono ?_); rintro e w' ⟨rfl, hb⟩; obtain ⟨g, rfl⟩ := g.on hb; clear hb)
    | (go_at_call 14; (with_reducible refine (roffs_any _ _ z c u HL (HZ.out _)).mono ?_); rintro e w' ⟨rfl, hb⟩; obtain ⟨g, rfl⟩ := g.on hb; clear hb))
  all_goals
    refine Gr.region (by kernel_rfl) (by kernel_rfl) g.draw ?_
    repeat (go_big_quiet_step ((first
      | (go_at_call 7; exact Gr.calls _ (zfixed_any _))
      | (go_at_call 12; exact Gr.calls _ (offs_yes _ _ z c u HW.out (HZ.out _) HP.out))
      | (go_at_call 14; exact Gr.calls _ (roffs_any _ _ z c u HL (HZ.out _))))))
    refine wpQuiet_nil ?_
    rintro _ ⟨g, rfl⟩
    go_wp2
    go_ret
    exact ⟨rfl, g.below1⟩

set_option maxHeartbeats 2000000 in
theorem locals_out_some (w : World) (A : Option Addr) (z : Z) (c : Nat) (u : Int) (hn : z.n ≤ 50) (hw : ZWf z) (hz : ZAt w A z) (hp : mayP z) (hi : inB u = false) (hf : fb z u < z.n) :
    Calls Try.prog 3 #[.agg #[.int .i64 z.base, .slice A z.n c], .int .i64 u] w fun e w' => e = .returned (.bool true) ∧ Below w.heap.size w w' := by
  have HZ := Lib.hid (Gr.layZ hz (.cells #[.int .i64 z.base, .slice A z.n c] 24))
  obtain ⟨F0, F1⟩ := Gr.lay2 w (.int .i64 z.base) (.slice A z.n c) 24
  have HW := Lib.hid hw
  have hm : mayB z = true := may_iff.2 hp
  have HP := Lib.hid hp
  have HF := Lib.hid hf
  have HL : z.n ≤ 9223372036854775807 := by omega
  have ⟨o1, o2⟩ := off_bd hp u
  have HN : Hid (¬ (inB u = true ∧ mayB z = true)) := by show ¬ _; rw [hi]; simp
  have ui : u < 0 ∨ 158310720 < u := by have := of_decide_eq_false hi; omega
  have ⟨t1, t2⟩ := t_bd hp hf
  clear hz hw hp hf
  rcases ui with ui | ui
  all_goals
    go_enter Try.func3, Try.ntmps3
    go_wp2_with fail
    refine Gr.region (by kernel_rfl) (by kernel_rfl) (Gr.draw0 _) ?_
    repeat (go_big_quiet_step ((first
      | (go_at_call 8; exact Gr.calls _ (zmay_any _ _ z c HW.out (HZ.out _)))
      | (go_at_call 9; exact Gr.calls _ (rmay_any _ _ z c HW.out (HZ.out _))))))
    refine wpQuiet_nil ?_
    rintro _ ⟨g, rfl⟩
    go_wp2_with (first
      | (go_at_call 9; (with_reducible refine (rmay_any _ _ z c HW.out (HZ.out _)).mono ?_); rintro e w' ⟨rfl, hb⟩; obtain ⟨g, rfl⟩ := g.on hb; clear hb)
      | (go_at_call 10; (with_reducible refine (local_no _ _ z c u HW.out (HZ.out _) HN.out).mono ?_); rintro e w' ⟨rfl, hb⟩; obtain ⟨g, rfl⟩ := g.on hb; clear hb)
      | (go_at_call 11; (with_reducible refine (next_some _ _ z c u HW.out (HZ.out _) HP.out HF.out).mono ?_); rintro e w' ⟨rfl, hb⟩; obtain ⟨g, rfl⟩ := g.on hb; clear hb)
      | (go_at_call 13; (with_reducible refine (rnext_some _ _ z c u HL (HZ.out _) HF.out).mono ?_); rintro e w' ⟨rfl, hb⟩; obtain ⟨g, rfl⟩ := g.on hb; clear hb)
      | (go_at_call 14; (with_reducible refine (roffs_any _ _ z c u HL (HZ.out _)).mono ?_); rintro e w' ⟨rfl, hb⟩; obtain ⟨g, rfl⟩ := g.on hb; clear hb))
    all_goals
      refine Gr.region (by kernel_rfl) (by kernel_rfl) g.draw ?_
      repeat (go_big_quiet_step ((first
        | (go_at_call 7; exact Gr.calls _ (zfixed_any _))
        | (go_at_call 12; exact Gr.calls _ (offs_yes _ _ z c u HW.out (HZ.out _) HP.out))
        | (go_at_call 14; exact Gr.calls _ (roffs_any _ _ z c u HL (HZ.out _))))))
      refine wpQuiet_nil ?_
      rintro _ ⟨g, rfl⟩
      go_wp2
      go_ret
      exact ⟨rfl, g.below1⟩

set_option maxHeartbeats 2000000 in
theorem locals_out_none (w : World) (A : Option Addr) (z : Z) (c : Nat) (u : Int) (hn : z.n ≤ 50) (hw : ZWf z) (hz : ZAt w A z) (hp : mayP z) (hi : inB u = false) (hf : fb z u = z.n) :
    Calls Try.prog 3 #[.agg #[.int .i64 z.base, .slice A z.n c], .int .i64 u] w fun e w' => e = .returned (.bool true) ∧ Below w.heap.size w w' := by
  have HZ := Lib.hid (Gr.layZ hz (.cells #[.int .i64 z.base, .slice A z.n c] 24))
  obtain ⟨F0, F1⟩ := Gr.lay2 w (.int .i64 z.base) (.slice A z.n c) 24
  have HW := Lib.hid hw
  have hm : mayB z = true := may_iff.2 hp
  have HP := Lib.hid hp
  have HF := Lib.hid hf
  have HL : z.n ≤ 9223372036854775807 := by omega
  have ⟨o1, o2⟩ := off_bd hp u
  have HN : Hid (¬ (inB u = true ∧ mayB z = true)) := by show ¬ _; rw [hi]; simp
  have ui : u < 0 ∨ 158310720 < u := by have := of_decide_eq_false hi; omega
  clear hz hw hp hf
  rcases ui with ui | ui
  all_goals
    go_enter Try.func3, Try.ntmps3
    go_wp2_with fail
    refine Gr.region (by kernel_rfl) (by kernel_rfl) (Gr.draw0 _) ?_
    repeat (go_big_quiet_step ((first
      | (go_at_call 8; exact Gr.calls _ (zmay_any _ _ z c HW.out (HZ.out _)))
      | (go_at_call 9; exact Gr.calls _ (rmay_any _ _ z c HW.out (HZ.out _))))))
    refine wpQuiet_nil ?_
    rintro _ ⟨g, rfl⟩
    go_wp2_with (first
      | (go_at_call 9; (with_reducible refine (rmay_any _ _ z c HW.out (HZ.out _)).mono ?_); rintro e w' ⟨rfl, hb⟩; obtain ⟨g, rfl⟩ := g.on hb; clear hb)
      | (go_at_call 10; (with_reducible refine (local_no _ _ z c u HW.out (HZ.out _) HN.out).mono ?_); rintro e w' ⟨rfl, hb⟩; obtain ⟨g, rfl⟩ := g.on hb; clear hb)
      | (go_at_call 11; (with_reducible refine (next_none _ _ z c u HW.out (HZ.out _) HP.out HF.out).mono ?_); rintro e w' ⟨rfl, hb⟩; obtain ⟨g, rfl⟩ := g.on hb; clear hb)
      | (go_at_call 13; (with_reducible refine (rnext_none _ _ z c u HL (HZ.out _) HF.out).mono ?_); rintro e w' ⟨rfl, hb⟩; obtain ⟨g, rfl⟩ := g.on hb; clear hb)
      | (go_at_call 14; (with_reducible refine (roffs_any _ _ z c u HL (HZ.out _)).mono ?_); rintro e w' ⟨rfl, hb⟩; obtain ⟨g, rfl⟩ := g.on hb; clear hb))
    all_goals
      refine Gr.region (by kernel_rfl) (by kernel_rfl) g.draw ?_
      repeat (go_big_quiet_step ((first
        | (go_at_call 7; exact Gr.calls _ (zfixed_any _))
        | (go_at_call 12; exact Gr.calls _ (offs_yes _ _ z c u HW.out (HZ.out _) HP.out))
        | (go_at_call 14; exact Gr.calls _ (roffs_any _ _ z c u HL (HZ.out _))))))
      refine wpQuiet_nil ?_
      rintro _ ⟨g, rfl⟩
      go_wp2
      go_ret
      exact ⟨rfl, g.below1⟩

theorem locals_walk (A : Option Addr) (z : Z) (c : Nat) (u : Int) (hw : ZWf z) (_ : (Lit.int .i64 u).wf = true) (w : World) (hz : ZAt w A z) :
    Calls Try.prog 3 #[.agg #[.int .i64 z.base, .slice A z.n c], .int .i64 u] w fun e w' => e = .returned (.bool true) ∧ Below w.heap.size w w' := by
  by_cases h1 : 50 < z.n
  · exact locals_great w A z c u h1 hw
  by_cases hp : mayP z
  · have := fb_le z u
    cases hi : inB u with
    | true =>
      by_cases hf : fb z u < z.n
      · exact locals_in_some w A z c u (by omega) hw hz hp hi hf
      · exact locals_in_none w A z c u (by omega) hw hz hp hi (by omega)
    | false =>
      by_cases hf : fb z u < z.n
      · exact locals_out_some w A z c u (by omega) hw hz hp hi hf
      · exact locals_out_none w A z c u (by omega) hw hz hp hi (by omega)
  · exact locals_no w A z c u (by omega) hw hz (may_no.2 hp)
end Go.Proofs.Ytdboeeeoekffnaa
