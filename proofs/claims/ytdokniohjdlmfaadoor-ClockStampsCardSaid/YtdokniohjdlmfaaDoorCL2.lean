/- The law's walk: stamps. -/
import Derived.Test.YtdokniohjdlmfaaDoorCL1
namespace Go.Proofs.YtdokniohjdlmfaaDoor
open Go.ChangeShapes Go.WideShapes Go.ChangeAt Go.RowKit Ck

set_option maxRecDepth 100000 in
set_option maxHeartbeats 2000000 in
theorem clockStamps_walk (n : Int) (t : ByteArray) (w : World) (hE : Env w) :
    Calls Tryd.prog 4 #[.int .i64 n, .string t] w fun e w' => e = .returned (.bool true) ∧ Below w.heap.size w w' := by
  have HE := Lib.hid hE
  clear hE
  by_cases ht : 1000 < t.size
  · have htz : (1000 : Int) < t.size := by omega
    have HF := Lib.hid (fixed3_any w HE.out)
    go_enter Tryd.func4, Tryd.ntmps4
    go_wp2_with fail
    go_at_call 10
    refine HF.out.mono ?_
    rintro e w' ⟨rfl, hb⟩
    go_wp2_with fail
    go_ret
    exact ⟨rfl, hb⟩
  have htz : decide ((1000 : Int) < t.size) = false := decide_eq_false (by omega)
  have hts : t.size ≤ 1000000 := by omega
  have hbd := readS_bd t.data.toList
  obtain ⟨m1, m2⟩ := hbd
  have HR := Lib.hid (fun w => rreads_any t w)
  rcases Int.lt_or_le (readS t.data.toList) 0 with hz | hz
  · have HP := Lib.hid (fun w hE => readst_no t hts hz w hE)
    obtain hz : readS t.data.toList = -1 := by omega
    rw [hz] at HR
    clear hz m1 m2
    by_cases hn : n < 0 ∨ 158310720 < n
    · have HM := Lib.hid (fun w => stamp_no n hn w)
      rcases hn with hn | hn
      all_goals
        try (have q0 : decide (0 ≤ n) = false := decide_eq_false (by omega))
        try (have q0 : decide (0 ≤ n) = true := decide_eq_true (by omega))
        try (have q1 : decide (n ≤ 158310720) = false := decide_eq_false (by omega))
        clear htz
        have htz : decide ((1000 : Int) < t.size) = false := decide_eq_false (by omega)
        go_enter Tryd.func4, Tryd.ntmps4
        go_wp2_with fail
        go_at_call 15
        refine (HM.out _).mono ?_
        rintro e w' ⟨rfl, rfl⟩
        go_wp2_with fail
        go_at_call 17
        refine (HP.out _ HE.out).mono ?_
        rintro e w' ⟨rfl, hb⟩; obtain ⟨g, rfl⟩ := Gr.of hb; clear hb
        go_wp2_with fail
        go_at_call 18
        refine (HR.out _).mono ?_
        rintro e w' ⟨rfl, hb⟩; obtain ⟨g, rfl⟩ := g.on hb; clear hb
        go_wp2_with fail
        go_at_call 10
        refine (fixed3_any _ (HE.out.gr g)).mono ?_
        rintro e w' ⟨rfl, hb⟩; obtain ⟨g, rfl⟩ := g.on hb; clear hb
        go_wp2_with fail
        go_ret
        exact ⟨rfl, g.ok⟩
    · have hn0 : 0 ≤ n := by omega
      have hn1 : n ≤ 158310720 := by omega
      have HM := Lib.hid (fun w hE => stamp_yes n hn0 hn1 w hE)
      have HK := Lib.hid (fun w => rstamp_any n hn0 hn1 w)
      have HB := Lib.hid (fun w hE => readst_back n hn0 hn1 w hE)
      have q0 : decide (0 ≤ n) = true := decide_eq_true hn0
      have q1 : decide (n ≤ 158310720) = true := decide_eq_true hn1
      have hml : (stampT n).length ≤ 20 := by rw [stampT_len]; omega
      generalize stampT n = mt at *
      go_enter Tryd.func4, Tryd.ntmps4
      go_wp2_with fail
      go_at_call 15
      refine (HM.out _ HE.out).mono ?_
      rintro e w' ⟨rfl, hb⟩; obtain ⟨g, rfl⟩ := Gr.of hb; clear hb
      go_wp2_with fail
      go_at_call 16
      refine (HK.out _).mono ?_
      rintro e w' ⟨rfl, hb⟩; obtain ⟨g, rfl⟩ := g.on hb; clear hb
      go_wp2_with fail
      go_at_call 17
      refine (HP.out _ (HE.out.gr g)).mono ?_
      rintro e w' ⟨rfl, hb⟩; obtain ⟨g, rfl⟩ := g.on hb; clear hb
      go_wp2_with fail
      go_at_call 18
      refine (HR.out _).mono ?_
      rintro e w' ⟨rfl, hb⟩; obtain ⟨g, rfl⟩ := g.on hb; clear hb
      go_wp2_with fail
      go_at_call 17
      refine (HB.out _ (HE.out.gr g)).mono ?_
      rintro e w' ⟨rfl, hb⟩; obtain ⟨g, rfl⟩ := g.on hb; clear hb
      go_wp2_with fail
      go_at_call 10
      refine (fixed3_any _ (HE.out.gr g)).mono ?_
      rintro e w' ⟨rfl, hb⟩; obtain ⟨g, rfl⟩ := g.on hb; clear hb
      go_wp2_with fail
      go_ret
      exact ⟨rfl, g.ok⟩
  · have HP := Lib.hid (fun w hE => readst_yes t hts hz w hE)
    generalize readS t.data.toList = z at *
    have qz : decide (0 ≤ z) = true := decide_eq_true hz
    by_cases hn : n < 0 ∨ 158310720 < n
    · have HM := Lib.hid (fun w => stamp_no n hn w)
      rcases hn with hn | hn
      all_goals
        try (have q0 : decide (0 ≤ n) = false := decide_eq_false (by omega))
        try (have q0 : decide (0 ≤ n) = true := decide_eq_true (by omega))
        try (have q1 : decide (n ≤ 158310720) = false := decide_eq_false (by omega))
        clear htz
        have htz : decide ((1000 : Int) < t.size) = false := decide_eq_false (by omega)
        go_enter Tryd.func4, Tryd.ntmps4
        go_wp2_with fail
        go_at_call 15
        refine (HM.out _).mono ?_
        rintro e w' ⟨rfl, rfl⟩
        go_wp2_with fail
        go_at_call 17
        refine (HP.out _ HE.out).mono ?_
        rintro e w' ⟨rfl, hb⟩; obtain ⟨g, rfl⟩ := Gr.of hb; clear hb
        go_wp2_with fail
        go_at_call 18
        refine (HR.out _).mono ?_
        rintro e w' ⟨rfl, hb⟩; obtain ⟨g, rfl⟩ := g.on hb; clear hb
        go_wp2_with fail
        go_at_call 10
        refine (fixed3_any _ (HE.out.gr g)).mono ?_
        rintro e w' ⟨rfl, hb⟩; obtain ⟨g, rfl⟩ := g.on hb; clear hb
        go_wp2_with fail
        go_ret
        exact ⟨rfl, g.ok⟩
    · have hn0 : 0 ≤ n := by omega
      have hn1 : n ≤ 158310720 := by omega
      have HM := Lib.hid (fun w hE => stamp_yes n hn0 hn1 w hE)
      have HK := Lib.hid (fun w => rstamp_any n hn0 hn1 w)
      have HB := Lib.hid (fun w hE => readst_back n hn0 hn1 w hE)
      have q0 : decide (0 ≤ n) = true := decide_eq_true hn0
      have q1 : decide (n ≤ 158310720) = true := decide_eq_true hn1
      have hml : (stampT n).length ≤ 20 := by rw [stampT_len]; omega
      generalize stampT n = mt at *
      go_enter Tryd.func4, Tryd.ntmps4
      go_wp2_with fail
      go_at_call 15
      refine (HM.out _ HE.out).mono ?_
      rintro e w' ⟨rfl, hb⟩; obtain ⟨g, rfl⟩ := Gr.of hb; clear hb
      go_wp2_with fail
      go_at_call 16
      refine (HK.out _).mono ?_
      rintro e w' ⟨rfl, hb⟩; obtain ⟨g, rfl⟩ := g.on hb; clear hb
      go_wp2_with fail
      go_at_call 17
      refine (HP.out _ (HE.out.gr g)).mono ?_
      rintro e w' ⟨rfl, hb⟩; obtain ⟨g, rfl⟩ := g.on hb; clear hb
      go_wp2_with fail
      go_at_call 18
      refine (HR.out _).mono ?_
      rintro e w' ⟨rfl, hb⟩; obtain ⟨g, rfl⟩ := g.on hb; clear hb
      go_wp2_with fail
      go_at_call 17
      refine (HB.out _ (HE.out.gr g)).mono ?_
      rintro e w' ⟨rfl, hb⟩; obtain ⟨g, rfl⟩ := g.on hb; clear hb
      go_wp2_with fail
      go_at_call 10
      refine (fixed3_any _ (HE.out.gr g)).mono ?_
      rintro e w' ⟨rfl, hb⟩; obtain ⟨g, rfl⟩ := g.on hb; clear hb
      go_wp2_with fail
      go_ret
      exact ⟨rfl, g.ok⟩
end Go.Proofs.YtdokniohjdlmfaaDoor
