/- Contracts: the minute of a local time; the chapter's zone, and its examples. -/
import Derived.Test.YtdboeeeoekffnaaZW4
namespace Go.Proofs.Ytdboeeeoekffnaa
open Go.ChangeShapes Go.WideShapes Go.ChangeAt Go.RowKit Zn

set_option maxHeartbeats 1000000 in
theorem utc_yes (w : World) (A : Option Addr) (z : Z) (c : Nat) (l : Int) (hw : ZWf z) (hz : ZAt w A z) (h : hasP z l) :
    Calls Try.prog 15 #[.agg #[.int .i64 z.base, .slice A z.n c], .int .i64 l] w fun e w' => e = .returned (.tuple #[.int .i64 (atI z l), .int .i64 (kindI z l (np z l)), .bool true]) ∧ Below w.heap.size w w' := by
  obtain ⟨l1, l2, hp, a1, a2⟩ := h
  have HC := Lib.hid (zmay_any _ A z c hw (hz.alloc (.cells #[.int .i64 z.base, .slice A z.n c] 24)))
  have HZ := Lib.hid (Gr.layZ hz (.cells #[.int .i64 z.base, .slice A z.n c] 24))
  obtain ⟨F0, F1⟩ := Gr.lay2 w (.int .i64 z.base) (.slice A z.n c) 24
  have hm : mayB z = true := may_iff.2 hp
  have HP := Lib.hid hp
  have hn : z.n ≤ 1000 := by have := hp.2.2.1; omega
  have hi : inB (l - ah z (np z l)) = true := by unfold inB; unfold atI at a1 a2; simp; omega
  have ⟨o1, o2⟩ := ah_bd hp (np z l) (np_le z l)
  unfold atI at a1 a2 ⊢
  clear hz hw hp
  go_enter Try.func15, Try.ntmps15
  go_wp2_with (first
    | (go_at_call 8; (with_reducible refine HC.out.mono ?_); rintro e w' ⟨rfl, hb⟩; obtain ⟨g, rfl⟩ := Gr.of hb; clear hb)
    | (go_at_call 22; (with_reducible refine (np_any _ _ z c l HP.out (HZ.out _)).mono ?_); rintro e w' ⟨rfl, hb⟩; obtain ⟨g2, rfl⟩ := g.on hb; clear hb)
    | (go_at_call 20; (with_reducible refine (ahead_any _ _ z c (np z l) (np_le z l) hn (HZ.out _)).mono ?_); rintro e w' ⟨rfl, hb⟩; obtain ⟨g3, rfl⟩ := g2.on hb; clear hb)
    | (go_at_call 19; (with_reducible refine (inTime_b _ _).mono ?_); rintro e w' ⟨rfl, rfl⟩)
    | (go_at_call 23; (with_reducible refine (standing_any _ _ z c (np z l) l (np_le z l) HP.out (HZ.out _)).mono ?_); rintro e w' ⟨rfl, hb⟩; obtain ⟨g4, rfl⟩ := g3.on hb; clear hb))
  go_ret3
  exact ⟨rfl, g4.below1⟩

set_option maxHeartbeats 1000000 in
theorem utc_no (w : World) (A : Option Addr) (z : Z) (c : Nat) (l : Int) (hw : ZWf z) (hz : ZAt w A z) (h : ¬ hasP z l) :
    Calls Try.prog 15 #[.agg #[.int .i64 z.base, .slice A z.n c], .int .i64 l] w fun e w' => e = .returned (.tuple #[.int .i64 0, .int .i64 0, .bool false]) ∧ Below w.heap.size w w' := by
  by_cases l1 : l < -900
  · clear hz hw h
    go_enter Try.func15, Try.ntmps15
    go_wp2_with fail
    go_ret3
    exact ⟨rfl, (Below.refl _ _).alloc (Nat.le_refl _) _⟩
  by_cases l2 : 158311620 < l
  · clear hz hw h
    go_enter Try.func15, Try.ntmps15
    go_wp2_with fail
    go_ret3
    exact ⟨rfl, (Below.refl _ _).alloc (Nat.le_refl _) _⟩
  have HC := Lib.hid (zmay_any _ A z c hw (hz.alloc (.cells #[.int .i64 z.base, .slice A z.n c] 24)))
  cases hm : mayB z with
  | false =>
    clear hz hw h
    go_enter Try.func15, Try.ntmps15
    go_wp2_with (go_at_call 8; (with_reducible refine HC.out.mono ?_); rintro e w' ⟨rfl, hb⟩; obtain ⟨g, rfl⟩ := Gr.of hb; clear hb)
    go_ret3
    exact ⟨rfl, g.below1⟩
  | true =>
    have hp := may_iff.1 hm
    have HZ := Lib.hid (Gr.layZ hz (.cells #[.int .i64 z.base, .slice A z.n c] 24))
    obtain ⟨F0, F1⟩ := Gr.lay2 w (.int .i64 z.base) (.slice A z.n c) 24
    have hi : inB (l - ah z (np z l)) = false := by
      unfold inB; simp; intro h3
      have : ¬ atI z l ≤ 158310720 := fun h4 => h ⟨by omega, by omega, hp, by unfold atI; omega, h4⟩
      unfold atI at this; omega
    have HP := Lib.hid hp
    have hn : z.n ≤ 1000 := by have := hp.2.2.1; omega
    have ⟨o1, o2⟩ := ah_bd hp (np z l) (np_le z l)
    clear hz hw hp h
    go_enter Try.func15, Try.ntmps15
    go_wp2_with (first
      | (go_at_call 8; (with_reducible refine HC.out.mono ?_); rintro e w' ⟨rfl, hb⟩; obtain ⟨g, rfl⟩ := Gr.of hb; clear hb)
      | (go_at_call 22; (with_reducible refine (np_any _ _ z c l HP.out (HZ.out _)).mono ?_); rintro e w' ⟨rfl, hb⟩; obtain ⟨g2, rfl⟩ := g.on hb; clear hb)
      | (go_at_call 20; (with_reducible refine (ahead_any _ _ z c (np z l) (np_le z l) hn (HZ.out _)).mono ?_); rintro e w' ⟨rfl, hb⟩; obtain ⟨g3, rfl⟩ := g2.on hb; clear hb)
      | (go_at_call 19; (with_reducible refine (inTime_b _ _).mono ?_); rintro e w' ⟨rfl, rfl⟩))
    go_ret3
    exact ⟨rfl, g3.below1⟩

/-- The chapter's zone. -/
def zS : Z := ⟨60, 1, fun _ => 1000000, fun _ => 120⟩
theorem zS_wf : ZWf zS := ⟨by decide, by decide, fun _ _ => ⟨⟨by show _ ≤ (1000000 : Int); decide, by show (1000000 : Int) ≤ _; decide⟩, ⟨by show _ ≤ (120 : Int); decide, by show (120 : Int) ≤ _; decide⟩⟩⟩
def SampleP (w : World) (e : Ending) (w' : World) : Prop := ∃ A c, e = .returned (.agg #[.int .i64 zS.base, .slice A zS.n c]) ∧ ZAt w' A zS ∧ Below w.heap.size w w'

theorem sample_any (w : World) : Calls Try.prog 17 #[] w (SampleP w) := by
  go_enter Try.func17, Try.ntmps17
  go_wp2
  refine bodyPost_ret (v := .agg #[.int .i64 60, .slice (some ⟨w.heap.size + 1, 0, none⟩) 1 1]) (by simp [results, Try.results17, go_sem]) rfl ⟨_, 1, rfl, fun _ => ⟨w.heap.size + 1, 0, rfl, by simp, fun i hi => ?_⟩, ((Below.refl _ _).alloc (Nat.le_refl _) _).alloc (by simp) _⟩
  obtain rfl : i = 0 := by have : i < 1 := hi; omega
  simp [go_sem, zS]

theorem zS_may : mayP zS := by decide
theorem zS1 : hasP zS 1000060 ∧ kindI zS 1000060 (np zS 1000060) = 1 := by decide
theorem zS2 : hasP zS 1000120 ∧ atI zS 1000120 = 1000000 ∧ kindI zS 1000120 (np zS 1000120) = 0 := by decide

theorem zfixed_any (w : World) : Calls Try.prog 7 #[] w fun e w' => e = .returned (.bool true) ∧ Below w.heap.size w w' := by
  go_enter Try.func7, Try.ntmps7
  go_wp2_with fail
  go_at_call 17
  refine (sample_any w).mono ?_
  rintro e w' ⟨A, c, rfl, hz, hb⟩
  obtain ⟨g, rfl⟩ := Gr.of hb
  clear hb
  have HU := Lib.hid (utc_yes g.val A zS c 1000060 zS_wf hz zS1.1)
  rw [zS1.2] at HU
  generalize atI zS 1000060 = a1 at HU
  go_wp2_with fail
  go_at_call 15
  refine HU.out.mono ?_
  rintro e w' ⟨rfl, hb⟩
  obtain ⟨g, rfl⟩ := g.on hb
  clear hb HU hz
  go_wp2_with fail
  go_at_call 17
  refine (sample_any g.val).mono ?_
  rintro e w' ⟨A, c, rfl, hz, hb⟩
  obtain ⟨g, rfl⟩ := g.on hb
  clear hb
  have HU := Lib.hid (utc_yes g.val A zS c 1000120 zS_wf hz zS2.1)
  rw [zS2.2.1, zS2.2.2] at HU
  go_wp2_with fail
  go_at_call 15
  refine HU.out.mono ?_
  rintro e w' ⟨rfl, hb⟩
  obtain ⟨g, rfl⟩ := g.on hb
  clear hb HU hz
  go_wp2
  go_ret
  exact ⟨rfl, g.ok⟩
end Go.Proofs.Ytdboeeeoekffnaa
