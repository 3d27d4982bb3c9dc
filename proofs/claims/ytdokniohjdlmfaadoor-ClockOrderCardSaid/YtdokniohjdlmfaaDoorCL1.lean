/- The laws' walks: minutes, stamps. -/
import Derived.Test.YtdokniohjdlmfaaDoorCW8
import Derived.Test.YtdokniohjdlmfaaDoorCW2
namespace Go.Proofs.YtdokniohjdlmfaaDoor
open Go.ChangeShapes Go.WideShapes Go.ChangeAt Go.RowKit Ck

theorem readmin_yes (s : ByteArray) (hs : s.size ≤ 1000000) (h : 0 ≤ readM s.data.toList) (w : World) (hE : Env w) :
    Calls Tryd.prog 13 #[.string s] w fun e w' => e = .returned (.tuple #[.int .i64 (readM s.data.toList), .bool true]) ∧ Below w.heap.size w w' := by
  have := readmin_any s hs w hE
  unfold posN posB at this
  rwa [if_pos h, decide_eq_true h] at this
theorem readmin_no (s : ByteArray) (hs : s.size ≤ 1000000) (h : readM s.data.toList < 0) (w : World) (hE : Env w) :
    Calls Tryd.prog 13 #[.string s] w fun e w' => e = .returned (.tuple #[.int .i64 0, .bool false]) ∧ Below w.heap.size w w' := by
  have := readmin_any s hs w hE
  unfold posN posB at this
  rwa [if_neg (by omega), decide_eq_false (by omega)] at this
theorem readmin_back (n : Int) (h0 : 0 ≤ n) (h1 : n ≤ 1440) (w : World) (hE : Env w) :
    Calls Tryd.prog 13 #[.string ⟨(minT n).toArray⟩] w fun e w' => e = .returned (.tuple #[.int .i64 n, .bool true]) ∧ Below w.heap.size w w' := by
  have := readmin_list (minT n) (by rw [minT_len]; omega) w hE
  rw [readM_min h0 h1] at this
  unfold posN posB at this
  rwa [if_pos h0, decide_eq_true h0] at this
theorem readst_yes (s : ByteArray) (hs : s.size ≤ 1000000) (h : 0 ≤ readS s.data.toList) (w : World) (hE : Env w) :
    Calls Tryd.prog 17 #[.string s] w fun e w' => e = .returned (.tuple #[.int .i64 (readS s.data.toList), .bool true]) ∧ Below w.heap.size w w' := by
  have := readst_any s hs w hE
  unfold posN posB at this
  rwa [if_pos h, decide_eq_true h] at this
theorem readst_no (s : ByteArray) (hs : s.size ≤ 1000000) (h : readS s.data.toList < 0) (w : World) (hE : Env w) :
    Calls Tryd.prog 17 #[.string s] w fun e w' => e = .returned (.tuple #[.int .i64 0, .bool false]) ∧ Below w.heap.size w w' := by
  have := readst_any s hs w hE
  unfold posN posB at this
  rwa [if_neg (by omega), decide_eq_false (by omega)] at this
theorem readst_back (n : Int) (h0 : 0 ≤ n) (h1 : n ≤ 158310720) (w : World) (hE : Env w) :
    Calls Tryd.prog 17 #[.string ⟨(stampT n).toArray⟩] w fun e w' => e = .returned (.tuple #[.int .i64 n, .bool true]) ∧ Below w.heap.size w w' := by
  have := readst_any ⟨(stampT n).toArray⟩ (by show (stampT n).toArray.size ≤ _; rw [List.size_toArray, stampT_len]; omega) w hE
  simp only at this
  rw [readS_st h0 h1] at this
  unfold posN posB at this
  rwa [if_pos h0, decide_eq_true h0] at this

theorem readS_bd (l : List UInt8) : -1 ≤ readS l ∧ readS l ≤ 158310720 := by
  rcases Int.lt_or_le (readS l) 0 with h | h
  · unfold readS at *
    split at h
    · rename_i hc
      rw [if_pos hc]
      obtain ⟨_, h1, h2, h3⟩ := hc
      have := Cal.num_bd (Cal.may_iff.1 h2)
      omega
    · rename_i hc
      rw [if_neg hc]; omega
  · exact ⟨by omega, (readS_some h).2⟩

set_option maxRecDepth 100000 in
set_option maxHeartbeats 2000000 in
theorem clockMinutes_walk (n : Int) (t : ByteArray) (w : World) (hE : Env w) :
    Calls Tryd.prog 3 #[.int .i64 n, .string t] w fun e w' => e = .returned (.bool true) ∧ Below w.heap.size w w' := by
  have HE := Lib.hid hE
  clear hE
  by_cases ht : 1000 < t.size
  · have htz : (1000 : Int) < t.size := by omega
    have HF := Lib.hid (fixed3_any w HE.out)
    go_enter Tryd.func3, Tryd.ntmps3
    go_wp2_with fail
    go_at_call 10
    refine HF.out.mono ?_
    rintro e w' ⟨rfl, hb⟩
    go_wp2_with fail
    go_ret
    exact ⟨rfl, hb⟩
  have htz : decide ((1000 : Int) < t.size) = false := decide_eq_false (by omega)
  have hts : t.size ≤ 1000000 := by omega
  have hbd := readM_bd t.data.toList
  obtain ⟨m1, m2⟩ := hbd
  have HR := Lib.hid (fun w => rreadm_bytes t w)
  rcases Int.lt_or_le (readM t.data.toList) 0 with hz | hz
  · have HP := Lib.hid (fun w hE => readmin_no t hts hz w hE)
    obtain hz : readM t.data.toList = -1 := by omega
    rw [hz] at HR
    clear hz m1 m2
    by_cases hn : n < 0 ∨ 1440 < n
    · have HM := Lib.hid (fun w => minute_no n hn w)
      rcases hn with hn | hn
      all_goals
        try (have q0 : decide (0 ≤ n) = false := decide_eq_false (by omega))
        try (have q0 : decide (0 ≤ n) = true := decide_eq_true (by omega))
        try (have q1 : decide (n ≤ 1440) = false := decide_eq_false (by omega))
        clear htz
        have htz : decide ((1000 : Int) < t.size) = false := decide_eq_false (by omega)
        go_enter Tryd.func3, Tryd.ntmps3
        go_wp2_with fail
        go_at_call 11
        refine (HM.out _).mono ?_
        rintro e w' ⟨rfl, rfl⟩
        go_wp2_with fail
        go_at_call 13
        refine (HP.out _ HE.out).mono ?_
        rintro e w' ⟨rfl, hb⟩; obtain ⟨g, rfl⟩ := Gr.of hb; clear hb
        go_wp2_with fail
        go_at_call 14
        refine (HR.out _).mono ?_
        rintro e w' ⟨rfl, hb⟩; obtain ⟨g, rfl⟩ := g.on hb; clear hb
        go_wp2_with fail
        go_at_call 10
        refine (fixed3_any _ (HE.out.gr g)).mono ?_
        rintro e w' ⟨rfl, hb⟩; obtain ⟨g, rfl⟩ := g.on hb; clear hb
        go_wp2_with fail
        go_ret
        exact ⟨rfl, g.ok⟩
    · have hn0 : 0 ≤ n := by omega
      have hn1 : n ≤ 1440 := by omega
      have HM := Lib.hid (fun w hE => minute_yes n hn0 hn1 w hE)
      have HK := Lib.hid (fun w => rminute_any n hn0 (by omega) w)
      have HB := Lib.hid (fun w hE => readmin_back n hn0 hn1 w hE)
      have q0 : decide (0 ≤ n) = true := decide_eq_true hn0
      have q1 : decide (n ≤ 1440) = true := decide_eq_true hn1
      have hml : (minT n).length ≤ 10 := by rw [minT_len]; omega
      generalize minT n = mt at *
      go_enter Tryd.func3, Tryd.ntmps3
      go_wp2_with fail
      go_at_call 11
      refine (HM.out _ HE.out).mono ?_
      rintro e w' ⟨rfl, hb⟩; obtain ⟨g, rfl⟩ := Gr.of hb; clear hb
      go_wp2_with fail
      go_at_call 12
      refine (HK.out _).mono ?_
      rintro e w' ⟨rfl, hb⟩; obtain ⟨g, rfl⟩ := g.on hb; clear hb
      go_wp2_with fail
      go_at_call 13
      refine (HP.out _ (HE.out.gr g)).mono ?_
      rintro e w' ⟨rfl, hb⟩; obtain ⟨g, rfl⟩ := g.on hb; clear hb
      go_wp2_with fail
      go_at_call 14
      refine (HR.out _).mono ?_
      rintro e w' ⟨rfl, hb⟩; obtain ⟨g, rfl⟩ := g.on hb; clear hb
      go_wp2_with fail
      go_at_call 13
      refine (HB.out _ (HE.out.gr g)).mono ?_
      rintro e w' ⟨rfl, hb⟩; obtain ⟨g, rfl⟩ := g.on hb; clear hb
      go_wp2_with fail
      go_at_call 10
      refine (fixed3_any _ (HE.out.gr g)).mono ?_
      rintro e w' ⟨rfl, hb⟩; obtain ⟨g, rfl⟩ := g.on hb; clear hb
      go_wp2_with fail
      go_ret
      exact ⟨rfl, g.ok⟩
  · have HP := Lib.hid (fun w hE => readmin_yes t hts hz w hE)
    generalize readM t.data.toList = z at *
    have qz : decide (0 ≤ z) = true := decide_eq_true hz
    by_cases hn : n < 0 ∨ 1440 < n
    · have HM := Lib.hid (fun w => minute_no n hn w)
      rcases hn with hn | hn
      all_goals
        try (have q0 : decide (0 ≤ n) = false := decide_eq_false (by omega))
        try (have q0 : decide (0 ≤ n) = true := decide_eq_true (by omega))
        try (have q1 : decide (n ≤ 1440) = false := decide_eq_false (by omega))
        clear htz
        have htz : decide ((1000 : Int) < t.size) = false := decide_eq_false (by omega)
        go_enter Tryd.func3, Tryd.ntmps3
        go_wp2_with fail
        go_at_call 11
        refine (HM.out _).mono ?_
        rintro e w' ⟨rfl, rfl⟩
        go_wp2_with fail
        go_at_call 13
        refine (HP.out _ HE.out).mono ?_
        rintro e w' ⟨rfl, hb⟩; obtain ⟨g, rfl⟩ := Gr.of hb; clear hb
        go_wp2_with fail
        go_at_call 14
        refine (HR.out _).mono ?_
        rintro e w' ⟨rfl, hb⟩; obtain ⟨g, rfl⟩ := g.on hb; clear hb
        go_wp2_with fail
        go_at_call 10
        refine (fixed3_any _ (HE.out.gr g)).mono ?_
        rintro e w' ⟨rfl, hb⟩; obtain ⟨g, rfl⟩ := g.on hb; clear hb
        go_wp2_with fail
        go_ret
        exact ⟨rfl, g.ok⟩
    · have hn0 : 0 ≤ n := by omega
      have hn1 : n ≤ 1440 := by omega
      have HM := Lib.hid (fun w hE => minute_yes n hn0 hn1 w hE)
      have HK := Lib.hid (fun w => rminute_any n hn0 (by omega) w)
      have HB := Lib.hid (fun w hE => readmin_back n hn0 hn1 w hE)
      have q0 : decide (0 ≤ n) = true := decide_eq_true hn0
      have q1 : decide (n ≤ 1440) = true := decide_eq_true hn1
      have hml : (minT n).length ≤ 10 := by rw [minT_len]; omega
      generalize minT n = mt at *
      go_enter Tryd.func3, Tryd.ntmps3
      go_wp2_with fail
      go_at_call 11
      refine (HM.out _ HE.out).mono ?_
      rintro e w' ⟨rfl, hb⟩; obtain ⟨g, rfl⟩ := Gr.of hb; clear hb
      go_wp2_with fail
      go_at_call 12
      refine (HK.out _).mono ?_
      rintro e w' ⟨rfl, hb⟩; obtain ⟨g, rfl⟩ := g.on hb; clear hb
      go_wp2_with fail
      go_at_call 13
      refine (HP.out _ (HE.out.gr g)).mono ?_
      rintro e w' ⟨rfl, hb⟩; obtain ⟨g, rfl⟩ := g.on hb; clear hb
      go_wp2_with fail
      go_at_call 14
      refine (HR.out _).mono ?_
      rintro e w' ⟨rfl, hb⟩; obtain ⟨g, rfl⟩ := g.on hb; clear hb
      go_wp2_with fail
      go_at_call 13
      refine (HB.out _ (HE.out.gr g)).mono ?_
      rintro e w' ⟨rfl, hb⟩; obtain ⟨g, rfl⟩ := g.on hb; clear hb
      go_wp2_with fail
      go_at_call 10
      refine (fixed3_any _ (HE.out.gr g)).mono ?_
      rintro e w' ⟨rfl, hb⟩; obtain ⟨g, rfl⟩ := g.on hb; clear hb
      go_wp2_with fail
      go_ret
      exact ⟨rfl, g.ok⟩
end Go.Proofs.YtdokniohjdlmfaaDoor
