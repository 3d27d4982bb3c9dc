/- Contracts of the document's texts of times: values of digits, stamps. -/
import Derived.Test.YtdokniohjdlmfaaDoorCW1
import Derived.Test.YtdokniohjdlmfaaDoorW4
import Derived.Test.YtdokniohjdlmfaaDoorCMath2
namespace Go.Proofs.YtdokniohjdlmfaaDoor
open Go.ChangeShapes Go.WideShapes Go.ChangeAt Go.RowKit Ck

theorem mk_data (s : ByteArray) : (ByteArray.mk s.data.toList.toArray) = s := by cases s; simp
theorem rreadm_bytes (s : ByteArray) (w : World) :
    Calls Tryd.prog 14 #[.string s] w fun e w' => e = .returned (.int .i64 (readM s.data.toList)) ∧ Below w.heap.size w w' := by
  have := rreadm_any s.data.toList w
  rwa [mk_data] at this

theorem drop_at (s : ByteArray) (k : Nat) (h : k < s.size) : s.data.toList.drop k = s[k] :: s.data.toList.drop (k + 1) := by
  rw [List.drop_eq_getElem_cons (by simpa using h)]; rfl

theorem value_any (s : ByteArray) (hs : s.size ≤ 4) (w : World) :
    Calls Tryd.prog 34 #[.string s] w fun e w' => e = .returned (.int .i64 (valI s.data.toList)) ∧ w = w' := by
  obtain ⟨r, hr⟩ : ∃ r, valI s.data.toList = r := ⟨_, rfl⟩
  rw [hr]
  have HR : Hid (valFrom 0 (s.data.toList.drop 0) = r) := hr
  clear hr
  go_enter Tryd.func34, Tryd.ntmps34
  go_wp2
  go_loop [3, 4] (fun s3 s4 => ∃ (k : Nat) (n : Int), k ≤ s.size ∧ 0 ≤ n ∧ n < 10 ^ k ∧ s3 = .int .i64 n ∧ s4 = .int .i64 k ∧ Hid (valFrom n (s.data.toList.drop k) = r)) (fun _ s4 => s.size - (intOf s4).toNat)
  case atStart => exact ⟨0, 0, Nat.zero_le _, by omega, by simp, rfl, rfl, HR⟩
  case round =>
    obtain ⟨k, n, hk, hn0, hn1, rfl, rfl, HV⟩ := hrel
    have P4 := pow4 (k := k) (by omega)
    have PS : Hid ((10 : Int) ^ (k + 1) = 10 ^ k * 10) := Int.pow_succ 10 k
    generalize (10 : Int) ^ k = q at *
    by_cases hlt : k < s.size
    · have hd := drop_at s k hlt
      have HD : Hid (valFrom n (s.data.toList.drop k) = if 48 ≤ s[k].toNat ∧ s[k].toNat ≤ 57 then valFrom (10 * n + s[k].toNat - 48) (s.data.toList.drop (k + 1)) else -1) := by show _ = _; rw [hd]; rfl
      clear hd
      by_cases h1 : (s[k].toNat : Int) < 48
      · have E : Hid (r = -1) := by show _ = _; rw [← HV.out, HD.out, if_neg (by omega)]
        go_wp2
        go_ret
        exact ⟨ret_int (by rw [E.out]), rfl⟩
      · by_cases h2 : (57 : Int) < s[k].toNat
        · have E : Hid (r = -1) := by show _ = _; rw [← HV.out, HD.out, if_neg (by omega)]
          go_wp2
          go_ret
          exact ⟨ret_int (by rw [E.out]), rfl⟩
        · have E : Hid (valFrom (10 * n + s[k].toNat - 48) (s.data.toList.drop (k + 1)) = r) := by show _ = _; rw [← HV.out, HD.out, if_pos (by omega)]
          go_wp2
          go_round
          case rel => exact ⟨k + 1, 10 * n + s[k].toNat - 48, hlt, by omega, by rw [PS.out]; omega, rfl, by go_num, E⟩
          case measure => simp [intOf]; omega
    · go_wp2
      go_ret
      exact ⟨ret_int (by rw [← HV.out, List.drop_of_length_le (by simp; omega)]; rfl), rfl⟩

theorem rnum4 (n : Int) (h0 : 0 ≤ n) (hn : n ≤ 1000000000) (w : World) :
    Calls Tryd.prog 27 #[.int .i64 n, .int .i64 4] w fun e w' => e = .returned (.string ⟨(low n 4).toArray⟩) ∧ Below w.heap.size w w' := rnumber_any n 4 h0 hn (by omega) w
theorem rnum2 (n : Int) (h0 : 0 ≤ n) (hn : n ≤ 1000000000) (w : World) :
    Calls Tryd.prog 27 #[.int .i64 n, .int .i64 2] w fun e w' => e = .returned (.string ⟨(low n 2).toArray⟩) ∧ Below w.heap.size w w' := rnumber_any n 2 h0 hn (by omega) w

theorem app8 (a b c d e f g : List UInt8) : (ByteArray.mk a.toArray ++ ByteArray.mk b.toArray ++ ByteArray.mk c.toArray ++ ByteArray.mk d.toArray ++ ByteArray.mk e.toArray ++ ByteArray.mk f.toArray ++ ByteArray.mk g.toArray : ByteArray) = ⟨(a ++ b ++ c ++ d ++ e ++ f ++ g).toArray⟩ := by
  simp only [ByteArray.mk_append_mk]

set_option maxHeartbeats 1000000 in
theorem rstamp_core (n y m d dn mi : Int) (h0 : 0 ≤ n) (hn : n ≤ 158310720) (hdn : 0 ≤ dn ∧ dn ≤ 109937) (hmi : 0 ≤ mi ∧ mi ≤ 1440) (hy : 0 ≤ y ∧ y ≤ 9999) (hm : 0 ≤ m ∧ m ≤ 99) (hd : 0 ≤ d ∧ d ≤ 99)
    (hcase : (n / 1440 = 109938 ∧ dn = 109937 ∧ mi = 1440) ∨ (n / 1440 ≠ 109938 ∧ dn = n / 1440 ∧ mi = n % 1440))
    (HD : ∀ w, Calls Tryd.prog 31 #[.int .i64 dn] w fun e w' => e = .returned (.tuple #[.agg #[.int .i64 y, .int .i64 m, .int .i64 d], .bool true]) ∧ Below w.heap.size w w') (w : World) :
    Calls Tryd.prog 16 #[.int .i64 n] w fun e w' => e = .returned (.string ⟨(stT y m d mi).toArray⟩) ∧ Below w.heap.size w w' := by
  obtain ⟨hy1, hy2⟩ := hy
  obtain ⟨hm1, hm2⟩ := hm
  obtain ⟨hd1, hd2⟩ := hd
  obtain ⟨hmi1, hmi2⟩ := hmi
  have l1 : (low y 4).length ≤ 10 := by rw [low_len]; omega
  have l2 : (low m 2).length ≤ 10 := by rw [low_len]; omega
  have l3 : (low d 2).length ≤ 10 := by rw [low_len]; omega
  have l4 : (minT mi).length ≤ 10 := by rw [minT_len]; omega
  have HDh := Lib.hid HD
  have HT : Hid (stT y m d mi = low y 4 ++ [45] ++ low m 2 ++ [45] ++ low d 2 ++ [84] ++ minT mi) := rfl
  obtain ⟨N0, N1, N2⟩ := Gr.new3 w
  clear HD
  rcases hcase with ⟨hc, rfl, rfl⟩ | ⟨hc, rfl, rfl⟩
  · have hcb : (n / 1440 == 109938) = true := by simpa using hc
    have HC := Lib.hid hc
    clear hc
    go_enter Tryd.func16, Tryd.ntmps16
    go_wp2_with (go_at_call 31; (with_reducible refine (HDh.out _).mono ?_); rintro e w' ⟨rfl, hb⟩; obtain ⟨g, rfl⟩ := Gr.of hb; clear hb)
    refine Gr.region (by kernel_rfl) (by kernel_rfl) (Gr.draw0 _) ?_
    repeat (go_big_quiet_step (fail))
    go_big_quiet_step ((go_at_call 27; exact Gr.calls _ (rnum4 y hy1 (by omega) _)))
    repeat (go_big_quiet_step (fail))
    go_big_quiet_step ((go_at_call 27; exact Gr.calls _ (rnum2 m hm1 (by omega) _)))
    repeat (go_big_quiet_step (fail))
    go_big_quiet_step ((go_at_call 27; exact Gr.calls _ (rnum2 d hd1 (by omega) _)))
    repeat (go_big_quiet_step (fail))
    go_big_quiet_step ((go_at_call 12; exact Gr.calls _ (rminute_any 1440 hmi1 (by omega) _)))
    repeat (go_big_quiet_step (fail))
    refine wpQuiet_nil ?_
    rintro _ ⟨g2, rfl⟩
    go_wp2
    go_ret
    exact ⟨congrArg (fun x => Ending.returned (Value.string x)) (by rw [HT.out]; exact app8 (low y 4) [45] (low m 2) [45] (low d 2) [84] (minT 1440)), g.below2' g2⟩
  · have hcb : (n / 1440 == 109938) = false := by simpa using hc
    have HC := Lib.hid hc
    clear hc
    go_enter Tryd.func16, Tryd.ntmps16
    go_wp2_with (go_at_call 31; (with_reducible refine (HDh.out _).mono ?_); rintro e w' ⟨rfl, hb⟩; obtain ⟨g, rfl⟩ := Gr.of hb; clear hb)
    refine Gr.region (by kernel_rfl) (by kernel_rfl) (Gr.draw0 _) ?_
    repeat (go_big_quiet_step (fail))
    go_big_quiet_step ((go_at_call 27; exact Gr.calls _ (rnum4 y hy1 (by omega) _)))
    repeat (go_big_quiet_step (fail))
    go_big_quiet_step ((go_at_call 27; exact Gr.calls _ (rnum2 m hm1 (by omega) _)))
    repeat (go_big_quiet_step (fail))
    go_big_quiet_step ((go_at_call 27; exact Gr.calls _ (rnum2 d hd1 (by omega) _)))
    repeat (go_big_quiet_step (fail))
    go_big_quiet_step ((go_at_call 12; exact Gr.calls _ (rminute_any (n % 1440) hmi1 (by omega) _)))
    repeat (go_big_quiet_step (fail))
    refine wpQuiet_nil ?_
    rintro _ ⟨g2, rfl⟩
    go_wp2
    go_ret
    exact ⟨congrArg (fun x => Ending.returned (Value.string x)) (by rw [HT.out]; exact app8 (low y 4) [45] (low m 2) [45] (low d 2) [84] (minT (n % 1440))), g.below2' g2⟩

theorem rstamp_any (n : Int) (h0 : 0 ≤ n) (hn : n ≤ 158310720) (w : World) :
    Calls Tryd.prog 16 #[.int .i64 n] w fun e w' => e = .returned (.string ⟨(stampT n).toArray⟩) ∧ Below w.heap.size w w' := by
  obtain ⟨a1, a2, a3, a4⟩ := day_bd h0 hn
  have hs := (Cal.dateOf_spec (dayI n) a1 a2).1
  have hm := Cal.may_month hs
  have hl := Cal.len_bd (Cal.yOf (dayI n)) (Cal.mOf (dayI n))
  unfold Cal.mayP at hs
  exact rstamp_core n _ _ _ (dayI n) (minuteI n) h0 hn ⟨a1, a2⟩ ⟨a3, a4⟩ (by omega) (by omega) (by omega)
    (by unfold dayI minuteI; by_cases h : n / 1440 = 109938 <;> simp [h]) (fun w => rdate_yes (dayI n) w a1 a2) w

set_option maxRecDepth 100000 in
set_option maxHeartbeats 1000000 in
theorem rreads_any (s : ByteArray) (w : World) :
    Calls Tryd.prog 18 #[.string s] w fun e w' => e = .returned (.int .i64 (readS s.data.toList)) ∧ Below w.heap.size w w' := by
  obtain ⟨r, hr⟩ : ∃ r, readS s.data.toList = r := ⟨_, rfl⟩
  rw [hr]
  have HR : Hid (readS s.data.toList = r) := hr
  clear hr
  by_cases hs : s.size = 16
  · have hs1 : s.size ≤ 16 := by omega
    have hs2 : 16 ≤ s.size := by omega
    have hsn : ((s.size : Int) != 16) = false := by simp; omega
    have k7 : 7 ≤ s.size := by omega
    have k10 : 10 ≤ s.size := by omega
    have z7 : (7 : Int) ≤ s.size := by omega
    have z10 : (10 : Int) ≤ s.size := by omega
    have y7 : decide ((s.size : Int) < 7) = false := by simp; omega
    have y10 : decide ((s.size : Int) < 10) = false := by simp; omega
    have x7 : decide (s.size < 7) = false := by simp; omega
    have x10 : decide (s.size < 10) = false := by simp; omega
    have HM := Lib.hid (fun w => rreadm_bytes (s.extract 11 s.size) w)
    have HY := Lib.hid (fun w => value_any (s.extract 0 4) (by simp [ByteArray.size_extract]; omega) w)
    have HMo := Lib.hid (fun w => value_any (s.extract 5 7) (by simp [ByteArray.size_extract]; omega) w)
    have HDa := Lib.hid (fun w => value_any (s.extract 8 10) (by simp [ByteArray.size_extract]; omega) w)
    have HE : Hid (r = if 0 ≤ readM (s.extract 11 s.size).data.toList ∧ Cal.mayB (valI (s.extract 0 4).data.toList) (valI (s.extract 5 7).data.toList) (valI (s.extract 8 10).data.toList) = true ∧
        stampT (Cal.numI (valI (s.extract 0 4).data.toList) (valI (s.extract 5 7).data.toList) (valI (s.extract 8 10).data.toList) * 1440 + readM (s.extract 11 s.size).data.toList) = s.data.toList
      then Cal.numI (valI (s.extract 0 4).data.toList) (valI (s.extract 5 7).data.toList) (valI (s.extract 8 10).data.toList) * 1440 + readM (s.extract 11 s.size).data.toList else -1) := by
      show _ = _
      rw [← HR.out]
      have hl : s.data.toList.length = 16 := by simpa using hs
      have e1 : (s.extract 11 s.size).data.toList = s.data.toList.drop 11 := by rw [ext_list, List.take_of_length_le (by simp [hl]; omega)]
      have e2 : (s.extract 0 4).data.toList = s.data.toList.take 4 := by rw [ext_list]; rfl
      have e3 : (s.extract 5 7).data.toList = (s.data.toList.drop 5).take 2 := ext_list s 5 7
      have e4 : (s.extract 8 10).data.toList = (s.data.toList.drop 8).take 2 := ext_list s 8 10
      rw [e1, e2, e3, e4]
      unfold readS
      simp only [hl, true_and]
    obtain ⟨m1, m2⟩ := readM_bd (s.extract 11 s.size).data.toList
    clear hs HR
    generalize readM (s.extract 11 s.size).data.toList = mi at *
    generalize valI (s.extract 0 4).data.toList = y at *
    generalize valI (s.extract 5 7).data.toList = mo at *
    generalize valI (s.extract 8 10).data.toList = d at *
    cases hmb : Cal.mayB y mo d with
    | false =>
      have E : Hid (r = -1) := by show _ = _; rw [HE.out, if_neg (fun h => by rw [hmb] at h; exact absurd h.2.1 (by simp))]
      have HB := Lib.hid hmb
      clear HE hmb
      go_enter Tryd.func18, Tryd.ntmps18
      go_wp2_with (go_at_call 14; (with_reducible refine (HM.out _).mono ?_); rintro e w' ⟨rfl, hb⟩; obtain ⟨g, rfl⟩ := Gr.of hb; clear hb)
      refine Gr.region (by kernel_rfl) (by kernel_rfl) g.draw ?_
      repeat (go_big_quiet_step (fail))
      go_big_quiet_step ((go_at_call 34; exact Gr.calls_same _ (HY.out _)))
      repeat (go_big_quiet_step (fail))
      go_big_quiet_step ((go_at_call 34; exact Gr.calls_same _ (HMo.out _)))
      repeat (go_big_quiet_step (fail))
      go_big_quiet_step ((go_at_call 34; exact Gr.calls_same _ (HDa.out _)))
      repeat (go_big_quiet_step (fail))
      go_big_quiet_step ((go_at_call 33; exact Gr.calls _ (rnumber_no y mo d _ HB.out)))
      repeat (go_big_quiet_step (fail))
      refine wpQuiet_nil ?_
      rintro _ ⟨g, rfl⟩
      go_wp2_with fail
      all_goals
        go_ret
        exact ⟨ret_int (by rw [E.out]), g.ok⟩
    | true =>
      have HB := Lib.hid (Cal.may_iff.1 hmb)
      obtain ⟨n1, n2⟩ := Cal.num_bd HB.out
      by_cases hmi : mi < 0
      · have E : Hid (r = -1) := by show _ = _; rw [HE.out, if_neg (fun h => by omega)]
        clear HE hmb
        go_enter Tryd.func18, Tryd.ntmps18
        go_wp2_with (go_at_call 14; (with_reducible refine (HM.out _).mono ?_); rintro e w' ⟨rfl, hb⟩; obtain ⟨g, rfl⟩ := Gr.of hb; clear hb)
        refine Gr.region (by kernel_rfl) (by kernel_rfl) g.draw ?_
        repeat (go_big_quiet_step (fail))
        go_big_quiet_step ((go_at_call 34; exact Gr.calls_same _ (HY.out _)))
        repeat (go_big_quiet_step (fail))
        go_big_quiet_step ((go_at_call 34; exact Gr.calls_same _ (HMo.out _)))
        repeat (go_big_quiet_step (fail))
        go_big_quiet_step ((go_at_call 34; exact Gr.calls_same _ (HDa.out _)))
        repeat (go_big_quiet_step (fail))
        go_big_quiet_step ((go_at_call 33; exact Gr.calls _ (rnumber_yes y mo d _ HB.out)))
        repeat (go_big_quiet_step (fail))
        refine wpQuiet_nil ?_
        rintro _ ⟨g, rfl⟩
        go_wp2_with fail
        go_ret
        exact ⟨ret_int (by rw [E.out]), g.ok⟩
      · have HS := Lib.hid (fun w => rstamp_any (Cal.numI y mo d * 1440 + mi) (by omega) (by omega) w)
        have HI := Lib.hid hmb
        by_cases hst : stampT (Cal.numI y mo d * 1440 + mi) = s.data.toList
        · have E : Hid (r = Cal.numI y mo d * 1440 + mi) := by show _ = _; rw [HE.out, if_pos ⟨by omega, hmb, hst⟩]
          have hsb : (stampT (Cal.numI y mo d * 1440 + mi) == s.toList) = true := by rw [ByteArray.toList_eq]; simpa using hst
          clear HE hmb hst
          go_enter Tryd.func18, Tryd.ntmps18
          go_wp2_with (go_at_call 14; (with_reducible refine (HM.out _).mono ?_); rintro e w' ⟨rfl, hb⟩; obtain ⟨g, rfl⟩ := Gr.of hb; clear hb)
          refine Gr.region (by kernel_rfl) (by kernel_rfl) g.draw ?_
          repeat (go_big_quiet_step (fail))
          go_big_quiet_step ((go_at_call 34; exact Gr.calls_same _ (HY.out _)))
          repeat (go_big_quiet_step (fail))
          go_big_quiet_step ((go_at_call 34; exact Gr.calls_same _ (HMo.out _)))
          repeat (go_big_quiet_step (fail))
          go_big_quiet_step ((go_at_call 34; exact Gr.calls_same _ (HDa.out _)))
          repeat (go_big_quiet_step (fail))
          go_big_quiet_step ((go_at_call 33; exact Gr.calls _ (rnumber_yes y mo d _ HB.out)))
          repeat (go_big_quiet_step (fail))
          refine wpQuiet_nil ?_
          rintro _ ⟨g, rfl⟩
          go_wp2_with (go_at_call 16; (with_reducible refine (HS.out _).mono ?_); rintro e w' ⟨rfl, hb⟩; obtain ⟨g, rfl⟩ := g.on hb; clear hb)
          go_ret
          exact ⟨ret_int (by rw [E.out]), g.ok⟩
        · have E : Hid (r = -1) := by show _ = _; rw [HE.out, if_neg (fun h => hst h.2.2)]
          have hsb : (stampT (Cal.numI y mo d * 1440 + mi) == s.toList) = false := by rw [ByteArray.toList_eq]; simpa using hst
          clear HE hmb hst
          go_enter Tryd.func18, Tryd.ntmps18
          go_wp2_with (go_at_call 14; (with_reducible refine (HM.out _).mono ?_); rintro e w' ⟨rfl, hb⟩; obtain ⟨g, rfl⟩ := Gr.of hb; clear hb)
          refine Gr.region (by kernel_rfl) (by kernel_rfl) g.draw ?_
          repeat (go_big_quiet_step (fail))
          go_big_quiet_step ((go_at_call 34; exact Gr.calls_same _ (HY.out _)))
          repeat (go_big_quiet_step (fail))
          go_big_quiet_step ((go_at_call 34; exact Gr.calls_same _ (HMo.out _)))
          repeat (go_big_quiet_step (fail))
          go_big_quiet_step ((go_at_call 34; exact Gr.calls_same _ (HDa.out _)))
          repeat (go_big_quiet_step (fail))
          go_big_quiet_step ((go_at_call 33; exact Gr.calls _ (rnumber_yes y mo d _ HB.out)))
          repeat (go_big_quiet_step (fail))
          refine wpQuiet_nil ?_
          rintro _ ⟨g, rfl⟩
          go_wp2_with (go_at_call 16; (with_reducible refine (HS.out _).mono ?_); rintro e w' ⟨rfl, hb⟩; obtain ⟨g, rfl⟩ := g.on hb; clear hb)
          go_ret
          exact ⟨ret_int (by rw [E.out]), g.ok⟩
  · have hsb : ((s.size : Int) == 16) = false := by simp; omega
    have hsn : ((s.size : Int) != 16) = true := by simp; omega
    have E : Hid (r = -1) := by
      show _ = _
      rw [← HR.out]; unfold readS; rw [if_neg (fun h => hs (by simpa using h.1))]
    clear hs HR
    go_enter Tryd.func18, Tryd.ntmps18
    go_wp2
    go_ret
    exact ⟨ret_int (by rw [E.out]), Below.refl _ _⟩
end Go.Proofs.YtdokniohjdlmfaaDoor
