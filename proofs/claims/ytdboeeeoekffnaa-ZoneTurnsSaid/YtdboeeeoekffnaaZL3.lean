/- The walk of the statement on turns that follow each other. -/
import Derived.Test.YtdboeeeoekffnaaZW5
namespace Go.Proofs.Ytdboeeeoekffnaa
open Go.ChangeShapes Go.WideShapes Go.ChangeAt Go.RowKit Zn

theorem turns_great (w : World) (A : Option Addr) (z : Z) (c : Nat) (u v : Int) (hn : 50 < z.n) (hw : ZWf z) :
    Calls Try.prog 5 #[.agg #[.int .i64 z.base, .slice A z.n c], .int .i64 u, .int .u16 v] w fun e w' => e = .returned (.bool true) ∧ Below w.heap.size w w' := by
  have h1 := hw.2.1
  clear hw
  go_enter Try.func5, Try.ntmps5
  go_wp2_with (go_at_call 7; (with_reducible refine (zfixed_any _).mono ?_); rintro e w' ⟨rfl, hb⟩; obtain ⟨g, rfl⟩ := Gr.of hb; clear hb)
  go_ret
  exact ⟨rfl, g.below1⟩

theorem turns_no (w : World) (A : Option Addr) (z : Z) (c : Nat) (u v : Int) (hn : z.n ≤ 50) (hw : ZWf z) (hz : ZAt w A z) (hm : mayB z = false) :
    Calls Try.prog 5 #[.agg #[.int .i64 z.base, .slice A z.n c], .int .i64 u, .int .u16 v] w fun e w' => e = .returned (.bool true) ∧ Below w.heap.size w w' := by
  have HC := Lib.hid (rmay_any _ A z c hw (hz.alloc (.cells #[.int .i64 z.base, .slice A z.n c] 24)))
  clear hw hz
  go_enter Try.func5, Try.ntmps5
  go_wp2_with (first
    | (go_at_call 9; (with_reducible refine HC.out.mono ?_); rintro e w' ⟨rfl, hb⟩; obtain ⟨g, rfl⟩ := Gr.of hb; clear hb)
    | (go_at_call 7; (with_reducible refine (zfixed_any _).mono ?_); rintro e w' ⟨rfl, hb⟩; obtain ⟨g, rfl⟩ := g.on hb; clear hb))
  go_ret
  exact ⟨rfl, g.below1⟩

theorem turns_far (w : World) (A : Option Addr) (z : Z) (c : Nat) (u v : Int) (hn : z.n ≤ 50) (hw : ZWf z) (hz : ZAt w A z) (hm : mayB z = true) (hu : u < -1099511627776 ∨ 1099511627776 < u) :
    Calls Try.prog 5 #[.agg #[.int .i64 z.base, .slice A z.n c], .int .i64 u, .int .u16 v] w fun e w' => e = .returned (.bool true) ∧ Below w.heap.size w w' := by
  have HC := Lib.hid (rmay_any _ A z c hw (hz.alloc (.cells #[.int .i64 z.base, .slice A z.n c] 24)))
  clear hw hz
  rcases hu with hu | hu
  all_goals
    go_enter Try.func5, Try.ntmps5
    go_wp2_with (first
      | (go_at_call 9; (with_reducible refine HC.out.mono ?_); rintro e w' ⟨rfl, hb⟩; obtain ⟨g, rfl⟩ := Gr.of hb; clear hb)
      | (go_at_call 7; (with_reducible refine (zfixed_any _).mono ?_); rintro e w' ⟨rfl, hb⟩; obtain ⟨g, rfl⟩ := g.on hb; clear hb))
    go_ret
    exact ⟨rfl, g.below1⟩

set_option maxHeartbeats 2000000 in
theorem turns_past (w : World) (A : Option Addr) (z : Z) (c : Nat) (u v : Int) (hn : z.n ≤ 50) (hw : ZWf z) (hz : ZAt w A z) (hp : mayP z) (hu1 : -1099511627776 ≤ u) (hu2 : u ≤ 1099511627776) (hv1 : 0 ≤ v) (hv2 : v ≤ 65535)
    (hf : fb z u < z.n) (hat : z.t (fb z u) ≤ u + v) :
    Calls Try.prog 5 #[.agg #[.int .i64 z.base, .slice A z.n c], .int .i64 u, .int .u16 v] w fun e w' => e = .returned (.bool true) ∧ Below w.heap.size w w' := by
  have HZ := Lib.hid (Gr.layZ hz (.cells #[.int .i64 z.base, .slice A z.n c] 24))
  obtain ⟨F0, F1⟩ := Gr.lay2 w (.int .i64 z.base) (.slice A z.n c) 24
  have HW := Lib.hid hw
  have hm : mayB z = true := may_iff.2 hp
  have HP := Lib.hid hp
  have HF := Lib.hid hf
  have HL : z.n ≤ 9223372036854775807 := by omega
  have hlt : u < z.t (fb z u) := fb_yes hf
  have HC := Lib.hid (rmay_any _ A z c hw (hz.alloc (.cells #[.int .i64 z.base, .slice A z.n c] 24)))
  clear hz hw hp hf
  go_enter Try.func5, Try.ntmps5
  go_wp2_with (first
    | (go_at_call 9; (with_reducible refine HC.out.mono ?_); rintro e w' ⟨rfl, hb⟩; obtain ⟨g, rfl⟩ := Gr.of hb; clear hb)
    | (go_at_call 11; (with_reducible refine (next_some _ _ z c u HW.out (HZ.out _) HP.out HF.out).mono ?_); rintro e w' ⟨rfl, hb⟩; obtain ⟨g, rfl⟩ := g.on hb; clear hb))
  refine Gr.region (by kernel_rfl) (by kernel_rfl) g.draw ?_
  repeat (go_big_quiet_step ((first
    | (go_at_call 7; exact Gr.calls _ (zfixed_any _))
    | (go_at_call 12; exact Gr.calls _ (offs_yes _ _ z c _ HW.out (HZ.out _) HP.out))
    | (go_at_call 14; exact Gr.calls _ (roffs_any _ _ z c _ HL (HZ.out _))))))
  refine wpQuiet_nil ?_
  rintro _ ⟨g, rfl⟩
  go_wp2
  go_ret
  exact ⟨rfl, g.below1⟩

theorem off_same {z : Z} (hp : mayP z) {u v : Int} (hv : 0 ≤ v) (h : fb z u < z.n → u + v < z.t (fb z u)) : off z (u + v) = off z u := by
  rw [off_eq hp, off_eq hp]
  congr 1
  exact fb_eq (fb_le z u) (fun i hi => by have := fb_no hi; omega) h

set_option maxHeartbeats 2000000 in
theorem turns_before (w : World) (A : Option Addr) (z : Z) (c : Nat) (u v : Int) (hn : z.n ≤ 50) (hw : ZWf z) (hz : ZAt w A z) (hp : mayP z) (hu1 : -1099511627776 ≤ u) (hu2 : u ≤ 1099511627776) (hv1 : 0 ≤ v) (hv2 : v ≤ 65535)
    (hf : fb z u < z.n) (hat : u + v < z.t (fb z u)) :
    Calls Try.prog 5 #[.agg #[.int .i64 z.base, .slice A z.n c], .int .i64 u, .int .u16 v] w fun e w' => e = .returned (.bool true) ∧ Below w.heap.size w w' := by
  have HZ := Lib.hid (Gr.layZ hz (.cells #[.int .i64 z.base, .slice A z.n c] 24))
  obtain ⟨F0, F1⟩ := Gr.lay2 w (.int .i64 z.base) (.slice A z.n c) 24
  have HW := Lib.hid hw
  have hm : mayB z = true := may_iff.2 hp
  have HP := Lib.hid hp
  have HF := Lib.hid hf
  have HC := Lib.hid (rmay_any _ A z c hw (hz.alloc (.cells #[.int .i64 z.base, .slice A z.n c] 24)))
  have OS : off z (u + v) = off z u := off_same hp hv1 (by exact fun _ => hat)
  have hat' : decide (z.t (fb z u) ≤ u + v) = false := by simp; omega
  clear hz hw hp hf
  go_enter Try.func5, Try.ntmps5
  go_wp2_with (first
    | (go_at_call 9; (with_reducible refine HC.out.mono ?_); rintro e w' ⟨rfl, hb⟩; obtain ⟨g, rfl⟩ := Gr.of hb; clear hb)
    | (go_at_call 11; (with_reducible refine (next_some _ _ z c u HW.out (HZ.out _) HP.out HF.out).mono ?_); rintro e w' ⟨rfl, hb⟩; obtain ⟨g, rfl⟩ := g.on hb; clear hb))
  refine Gr.region (by kernel_rfl) (by kernel_rfl) g.draw ?_
  repeat (go_big_quiet_step ((first
    | (go_at_call 7; exact Gr.calls _ (zfixed_any _))
    | (go_at_call 12; exact Gr.calls _ (offs_yes _ _ z c _ HW.out (HZ.out _) HP.out)))))
  refine wpQuiet_nil ?_
  rintro _ ⟨g, rfl⟩
  go_wp2
  go_ret
  exact ⟨rfl, g.below1⟩

set_option maxHeartbeats 2000000 in
theorem turns_last (w : World) (A : Option Addr) (z : Z) (c : Nat) (u v : Int) (hn : z.n ≤ 50) (hw : ZWf z) (hz : ZAt w A z) (hp : mayP z) (hu1 : -1099511627776 ≤ u) (hu2 : u ≤ 1099511627776) (hv1 : 0 ≤ v) (hv2 : v ≤ 65535)
    (hf : fb z u = z.n) :
    Calls Try.prog 5 #[.agg #[.int .i64 z.base, .slice A z.n c], .int .i64 u, .int .u16 v] w fun e w' => e = .returned (.bool true) ∧ Below w.heap.size w w' := by
  have HZ := Lib.hid (Gr.layZ hz (.cells #[.int .i64 z.base, .slice A z.n c] 24))
  obtain ⟨F0, F1⟩ := Gr.lay2 w (.int .i64 z.base) (.slice A z.n c) 24
  have HW := Lib.hid hw
  have hm : mayB z = true := may_iff.2 hp
  have HP := Lib.hid hp
  have HF := Lib.hid hf
  have HC := Lib.hid (rmay_any _ A z c hw (hz.alloc (.cells #[.int .i64 z.base, .slice A z.n c] 24)))
  have OS : off z (u + v) = off z u := off_same hp hv1 (by omega)
  clear hz hw hp hf
  go_enter Try.func5, Try.ntmps5
  go_wp2_with (first
    | (go_at_call 9; (with_reducible refine HC.out.mono ?_); rintro e w' ⟨rfl, hb⟩; obtain ⟨g, rfl⟩ := Gr.of hb; clear hb)
    | (go_at_call 11; (with_reducible refine (next_none _ _ z c u HW.out (HZ.out _) HP.out HF.out).mono ?_); rintro e w' ⟨rfl, hb⟩; obtain ⟨g, rfl⟩ := g.on hb; clear hb))
  refine Gr.region (by kernel_rfl) (by kernel_rfl) g.draw ?_
  repeat (go_big_quiet_step ((first
    | (go_at_call 7; exact Gr.calls _ (zfixed_any _))
    | (go_at_call 12; exact Gr.calls _ (offs_yes _ _ z c _ HW.out (HZ.out _) HP.out)))))
  refine wpQuiet_nil ?_
  rintro _ ⟨g, rfl⟩
  go_wp2
  go_ret
  exact ⟨rfl, g.below1⟩

theorem turns_walk (A : Option Addr) (z : Z) (c : Nat) (u v : Int) (hw : ZWf z) (wu : (Lit.int .i64 u).wf = true) (wv : (Lit.int .u16 v).wf = true) (w : World) (hz : ZAt w A z) :
    Calls Try.prog 5 #[.agg #[.int .i64 z.base, .slice A z.n c], .int .i64 u, .int .u16 v] w fun e w' => e = .returned (.bool true) ∧ Below w.heap.size w w' := by
  obtain ⟨v1, v2⟩ : 0 ≤ v ∧ v ≤ 65535 := bounds_u16 wv
  by_cases h1 : 50 < z.n
  · exact turns_great w A z c u v h1 hw
  by_cases hp : mayP z
  · by_cases hu : u < -1099511627776 ∨ 1099511627776 < u
    · exact turns_far w A z c u v (by omega) hw hz (may_iff.2 hp) hu
    · have := fb_le z u
      by_cases hf : fb z u < z.n
      · by_cases hat : z.t (fb z u) ≤ u + v
        · exact turns_past w A z c u v (by omega) hw hz hp (by omega) (by omega) v1 v2 hf hat
        · exact turns_before w A z c u v (by omega) hw hz hp (by omega) (by omega) v1 v2 hf (by omega)
      · exact turns_last w A z c u v (by omega) hw hz hp (by omega) (by omega) v1 v2 (by omega)
  · exact turns_no w A z c u v (by omega) hw hz (may_no.2 hp)
end Go.Proofs.Ytdboeeeoekffnaa
