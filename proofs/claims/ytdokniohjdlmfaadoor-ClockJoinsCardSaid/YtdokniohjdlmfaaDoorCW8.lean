/- Contracts of the program's stamps. -/
import Derived.Test.YtdokniohjdlmfaaDoorCW7
namespace Go.Proofs.YtdokniohjdlmfaaDoor
open Go.ChangeShapes Go.WideShapes Go.ChangeAt Go.RowKit Ck

theorem app8b (a b c d e f g : List UInt8) : (ByteArray.mk a.toArray ++ ByteArray.mk b.toArray ++ ByteArray.mk c.toArray ++ ByteArray.mk d.toArray ++ ByteArray.mk e.toArray ++ ByteArray.mk f.toArray ++ ByteArray.mk g.toArray : ByteArray) = ⟨(a ++ b ++ c ++ d ++ e ++ f ++ g).toArray⟩ := by
  simp only [ByteArray.mk_append_mk]

theorem stamp_no (n : Int) (h : n < 0 ∨ 158310720 < n) (w : World) :
    Calls Tryd.prog 15 #[.int .i64 n] w fun e w' => e = .returned (.tuple #[.string ⟨#[]⟩, .bool false]) ∧ w = w' := by
  rcases h with h | h
  · go_enter Tryd.func15, Tryd.ntmps15
    go_wp2
    go_ret2
    exact ⟨rfl, rfl⟩
  · have h0 : decide (n < 0) = false := decide_eq_false (by omega)
    go_enter Tryd.func15, Tryd.ntmps15
    go_wp2
    go_ret2
    exact ⟨rfl, rfl⟩

set_option maxHeartbeats 1000000 in
theorem stamp_core (n y m d dn mi : Int) (h0 : 0 ≤ n) (hn : n ≤ 158310720) (hdn : 0 ≤ dn ∧ dn ≤ 109937) (hmi : 0 ≤ mi ∧ mi ≤ 1440) (hy : 0 ≤ y ∧ y ≤ 9999) (hm : 0 ≤ m ∧ m ≤ 99) (hd : 0 ≤ d ∧ d ≤ 99)
    (hcase : (n = 158310720 ∧ dn = 109937 ∧ mi = 1440) ∨ (n ≠ 158310720 ∧ dn = n / 1440 ∧ mi = n % 1440))
    (HD : ∀ w, Calls Tryd.prog 30 #[.int .i64 dn] w fun e w' => e = .returned (.tuple #[.agg #[.int .i64 y, .int .i64 m, .int .i64 d], .bool true]) ∧ Below w.heap.size w w') (w : World) (hE : Env w) :
    Calls Tryd.prog 15 #[.int .i64 n] w fun e w' => e = .returned (.tuple #[.string ⟨(stT y m d mi).toArray⟩, .bool true]) ∧ Below w.heap.size w w' := by
  obtain ⟨hy1, hy2⟩ := hy
  obtain ⟨hm1, hm2⟩ := hm
  obtain ⟨hd1, hd2⟩ := hd
  obtain ⟨hmi1, hmi2⟩ := hmi
  have g0 : decide (n < 0) = false := decide_eq_false (by omega)
  have g1 : decide (158310720 < n) = false := decide_eq_false (by omega)
  have l1 : (low y 4).length ≤ 10 := by rw [low_len]; omega
  have l2 : (low m 2).length ≤ 10 := by rw [low_len]; omega
  have l3 : (low d 2).length ≤ 10 := by rw [low_len]; omega
  have l4 : (minT mi).length ≤ 10 := by rw [minT_len]; omega
  have HDh := Lib.hid HD
  have HE := Lib.hid hE
  have HT : Hid (stT y m d mi = low y 4 ++ [45] ++ low m 2 ++ [45] ++ low d 2 ++ [84] ++ minT mi) := rfl
  have HM := Lib.hid (fun w hE => minute_yes mi hmi1 hmi2 w hE)
  have H1 := Lib.hid (fun w hE => digits4 y hy1 hy2 w hE)
  have H2 := Lib.hid (fun w hE => digits2 m hm1 hm2 w hE)
  have H3 := Lib.hid (fun w hE => digits2 d hd1 hd2 w hE)
  clear HD hE
  have hnb : n = 158310720 ∨ n ≠ 158310720 := by omega
  rcases hcase with ⟨hc, rfl, rfl⟩ | ⟨hc, rfl, rfl⟩
  · have hcb : (n == 158310720) = true := by simpa using hc
    clear hc hnb
    go_enter Tryd.func15, Tryd.ntmps15
    go_wp2_with fail
    go_at_call 30
    (with_reducible refine (HDh.out _).mono ?_); rintro e w' ⟨rfl, hb⟩; obtain ⟨g, rfl⟩ := Gr.of hb; clear hb
    obtain ⟨N0, N1, N2, _⟩ := Gr.lay3 g.val (.int .i64 y) (.int .i64 m) (.int .i64 d) 47
    have HE1 : Hid (Env (g.val.alloc (.cells #[.int .i64 y, .int .i64 m, .int .i64 d] 47))) := (HE.out.gr g).below ((Below.refl _ _).alloc (Nat.le_refl _) _)
    have HE2 := Lib.hid (fun g' : Gr (g.val.alloc (.cells #[.int .i64 y, .int .i64 m, .int .i64 d] 47)) => HE1.out.gr g')
    go_wp2_with fail
    go_at_call 11
    (with_reducible refine (HM.out _ HE1.out).mono ?_); rintro e w' ⟨rfl, hb⟩; obtain ⟨g2, rfl⟩ := Gr.of hb; clear hb
    go_wp2_with fail
    refine Gr.region (by kernel_rfl) (by kernel_rfl) g2.draw ?_
    repeat (go_big_quiet_step (fail))
    go_big_quiet_step ((go_at_call 26; exact Gr.calls _ (H1.out _ (HE2.out _))))
    repeat (go_big_quiet_step (fail))
    go_big_quiet_step ((go_at_call 26; exact Gr.calls _ (H2.out _ (HE2.out _))))
    repeat (go_big_quiet_step (fail))
    go_big_quiet_step ((go_at_call 26; exact Gr.calls _ (H3.out _ (HE2.out _))))
    repeat (go_big_quiet_step (fail))
    refine wpQuiet_nil ?_
    rintro _ ⟨g3, rfl⟩
    go_wp2
    go_ret2
    exact ⟨congrArg (fun x => Ending.returned (Value.tuple #[.string x, .bool true])) (by rw [HT.out]; exact app8b (low y 4) [45] (low m 2) [45] (low d 2) [84] (minT 1440)), g.below2' g3⟩
  · have hcb : (n == 158310720) = false := by simpa using hc
    clear hc hnb
    go_enter Tryd.func15, Tryd.ntmps15
    go_wp2_with fail
    go_at_call 30
    (with_reducible refine (HDh.out _).mono ?_); rintro e w' ⟨rfl, hb⟩; obtain ⟨g, rfl⟩ := Gr.of hb; clear hb
    obtain ⟨N0, N1, N2, _⟩ := Gr.lay3 g.val (.int .i64 y) (.int .i64 m) (.int .i64 d) 47
    have HE1 : Hid (Env (g.val.alloc (.cells #[.int .i64 y, .int .i64 m, .int .i64 d] 47))) := (HE.out.gr g).below ((Below.refl _ _).alloc (Nat.le_refl _) _)
    have HE2 := Lib.hid (fun g' : Gr (g.val.alloc (.cells #[.int .i64 y, .int .i64 m, .int .i64 d] 47)) => HE1.out.gr g')
    go_wp2_with fail
    go_at_call 11
    (with_reducible refine (HM.out _ HE1.out).mono ?_); rintro e w' ⟨rfl, hb⟩; obtain ⟨g2, rfl⟩ := Gr.of hb; clear hb
    go_wp2_with fail
    refine Gr.region (by kernel_rfl) (by kernel_rfl) g2.draw ?_
    repeat (go_big_quiet_step (fail))
    go_big_quiet_step ((go_at_call 26; exact Gr.calls _ (H1.out _ (HE2.out _))))
    repeat (go_big_quiet_step (fail))
    go_big_quiet_step ((go_at_call 26; exact Gr.calls _ (H2.out _ (HE2.out _))))
    repeat (go_big_quiet_step (fail))
    go_big_quiet_step ((go_at_call 26; exact Gr.calls _ (H3.out _ (HE2.out _))))
    repeat (go_big_quiet_step (fail))
    refine wpQuiet_nil ?_
    rintro _ ⟨g3, rfl⟩
    go_wp2
    go_ret2
    exact ⟨congrArg (fun x => Ending.returned (Value.tuple #[.string x, .bool true])) (by rw [HT.out]; exact app8b (low y 4) [45] (low m 2) [45] (low d 2) [84] (minT (n % 1440))), g.below2' g3⟩

theorem stamp_yes (n : Int) (h0 : 0 ≤ n) (hn : n ≤ 158310720) (w : World) (hE : Env w) :
    Calls Tryd.prog 15 #[.int .i64 n] w fun e w' => e = .returned (.tuple #[.string ⟨(stampT n).toArray⟩, .bool true]) ∧ Below w.heap.size w w' := by
  obtain ⟨a1, a2, a3, a4⟩ := day_bd h0 hn
  have hs := (Cal.dateOf_spec (dayI n) a1 a2).1
  have hm := Cal.may_month hs
  have hl := Cal.len_bd (Cal.yOf (dayI n)) (Cal.mOf (dayI n))
  unfold Cal.mayP at hs
  exact stamp_core n _ _ _ (dayI n) (minuteI n) h0 hn ⟨a1, a2⟩ ⟨a3, a4⟩ (by omega) (by omega) (by omega)
    (by unfold dayI minuteI; split <;> omega) (fun w => date_yes (dayI n) w a1 a2) w hE

theorem rday_ways (a b c : Bool) (y m d : Int) (r : Int × Bool) (hr : (if a = true ∧ b = true ∧ c = true ∧ Cal.mayB y m d = true then (Cal.numI y m d, true) else (0, false)) = r) :
    (a = false ∧ r = (0, false)) ∨ (a = true ∧ b = false ∧ r = (0, false)) ∨ (a = true ∧ b = true ∧ c = false ∧ r = (0, false)) ∨ (a = true ∧ b = true ∧ c = true ∧ Cal.mayB y m d = false ∧ r = (0, false)) ∨
    (a = true ∧ b = true ∧ c = true ∧ Cal.mayP y m d ∧ r = (Cal.numI y m d, true)) := by
  rw [← Cal.may_iff]
  cases a <;> cases b <;> cases c <;> cases h : Cal.mayB y m d <;> simp_all

theorem readday_list (l : List UInt8) (hs : l.length ≤ 1000000) (w : World) (hE : Env w) :
    Calls Tryd.prog 32 #[.string ⟨l.toArray⟩] w fun e w' => e = .returned (.tuple #[.int .i64 (rdayV l).1, .bool (rdayV l).2]) ∧ Below w.heap.size w w' := by
  obtain ⟨r, hr⟩ : ∃ r, rdayV l = r := ⟨_, rfl⟩
  rw [hr]
  unfold rdayV at hr
  have HE := Lib.hid hE
  have cl := cut_len 45 l
  have HC := Lib.hid (fun w hE => cut_any ⟨l.toArray⟩ ⟨#[45]⟩ (by show l.toArray.size ≤ _; simpa using hs) w hE)
  simp only at HC
  generalize Lib.cut l [45] = c at *
  obtain ⟨x, y, fd⟩ := c
  simp only at hr HC cl
  have HC2 := Lib.hid (fun w hE => cut_any ⟨y.toArray⟩ ⟨#[45]⟩ (by show y.toArray.size ≤ _; rw [List.size_toArray]; omega) w hE)
  simp only at HC2
  generalize Lib.cut y [45] = c2 at *
  obtain ⟨u, v, fd2⟩ := c2
  simp only at hr HC2
  have HX := Lib.hid (fun w => readd4 x w)
  have HU := Lib.hid (fun w => readd2 u w)
  have HV := Lib.hid (fun w => readd2 v w)
  generalize rdN x 4 = yy at *
  generalize rdN u 2 = mm at *
  generalize rdN v 2 = dd at *
  generalize rdB x 4 = ab at *
  generalize rdB u 2 = bb at *
  generalize rdB v 2 = cb at *
  clear hE cl hs
  rcases rday_ways ab bb cb yy mm dd r hr with ⟨rfl, rfl⟩ | ⟨rfl, rfl, rfl⟩ | ⟨rfl, rfl, rfl, rfl⟩ | ⟨rfl, rfl, rfl, h, rfl⟩ | ⟨rfl, rfl, rfl, h, rfl⟩
  case inr.inr.inr.inl =>
    have HN := Lib.hid (fun w => number_no yy mm dd w h)
    clear hr h
    go_enter Tryd.func32, Tryd.ntmps32
    go_wp2_with fail
    go_at_call 28
    refine (HC.out _ HE.out).mono ?_
    rintro e w' ⟨rfl, hb⟩; obtain ⟨g, rfl⟩ := Gr.of hb; clear hb
    go_wp2_with fail
    go_at_call 28
    refine (HC2.out _ (HE.out.gr g)).mono ?_
    rintro e w' ⟨rfl, hb⟩; obtain ⟨g, rfl⟩ := g.on hb; clear hb
    go_wp2_with fail
    go_at_call 29
    refine (HX.out _).mono ?_
    rintro e w' ⟨rfl, hb⟩; obtain ⟨g, rfl⟩ := g.on hb; clear hb
    go_wp2_with fail
    go_at_call 29
    refine (HU.out _).mono ?_
    rintro e w' ⟨rfl, hb⟩; obtain ⟨g, rfl⟩ := g.on hb; clear hb
    go_wp2_with fail
    go_at_call 29
    refine (HV.out _).mono ?_
    rintro e w' ⟨rfl, hb⟩; obtain ⟨g, rfl⟩ := g.on hb; clear hb
    go_wp2_with fail
    go_at_call 48
    refine (HN.out _).mono ?_
    rintro e w' ⟨rfl, hb⟩; obtain ⟨g, rfl⟩ := g.on hb; clear hb
    go_wp2_with fail
    go_ret2
    exact ⟨rfl, g.ok⟩
  case inr.inr.inr.inr =>
    have HN := Lib.hid (fun w => number_yes yy mm dd w h)
    clear hr h
    go_enter Tryd.func32, Tryd.ntmps32
    go_wp2_with fail
    go_at_call 28
    refine (HC.out _ HE.out).mono ?_
    rintro e w' ⟨rfl, hb⟩; obtain ⟨g, rfl⟩ := Gr.of hb; clear hb
    go_wp2_with fail
    go_at_call 28
    refine (HC2.out _ (HE.out.gr g)).mono ?_
    rintro e w' ⟨rfl, hb⟩; obtain ⟨g, rfl⟩ := g.on hb; clear hb
    go_wp2_with fail
    go_at_call 29
    refine (HX.out _).mono ?_
    rintro e w' ⟨rfl, hb⟩; obtain ⟨g, rfl⟩ := g.on hb; clear hb
    go_wp2_with fail
    go_at_call 29
    refine (HU.out _).mono ?_
    rintro e w' ⟨rfl, hb⟩; obtain ⟨g, rfl⟩ := g.on hb; clear hb
    go_wp2_with fail
    go_at_call 29
    refine (HV.out _).mono ?_
    rintro e w' ⟨rfl, hb⟩; obtain ⟨g, rfl⟩ := g.on hb; clear hb
    go_wp2_with fail
    go_at_call 48
    refine (HN.out _).mono ?_
    rintro e w' ⟨rfl, hb⟩; obtain ⟨g, rfl⟩ := g.on hb; clear hb
    go_wp2_with fail
    go_ret2
    exact ⟨rfl, g.ok⟩
  all_goals
    clear hr
    go_enter Tryd.func32, Tryd.ntmps32
    go_wp2_with fail
    go_at_call 28
    refine (HC.out _ HE.out).mono ?_
    rintro e w' ⟨rfl, hb⟩; obtain ⟨g, rfl⟩ := Gr.of hb; clear hb
    go_wp2_with fail
    go_at_call 28
    refine (HC2.out _ (HE.out.gr g)).mono ?_
    rintro e w' ⟨rfl, hb⟩; obtain ⟨g, rfl⟩ := g.on hb; clear hb
    go_wp2_with fail
    go_at_call 29
    refine (HX.out _).mono ?_
    rintro e w' ⟨rfl, hb⟩; obtain ⟨g, rfl⟩ := g.on hb; clear hb
    go_wp2_with fail
    go_at_call 29
    refine (HU.out _).mono ?_
    rintro e w' ⟨rfl, hb⟩; obtain ⟨g, rfl⟩ := g.on hb; clear hb
    go_wp2_with fail
    go_at_call 29
    refine (HV.out _).mono ?_
    rintro e w' ⟨rfl, hb⟩; obtain ⟨g, rfl⟩ := g.on hb; clear hb
    go_wp2_with fail
    go_ret2
    exact ⟨rfl, g.ok⟩

theorem rs_ways (a b : Bool) (m d : Int) (r : Int × Bool) (hr : (if a = true ∧ b = true ∧ ¬ (m = 1440 ∧ d ≠ 109937) then (d * 1440 + m, true) else (0, false)) = r) :
    (a = false ∧ r = (0, false)) ∨ (a = true ∧ b = false ∧ r = (0, false)) ∨ (a = true ∧ b = true ∧ (m == 1440) = true ∧ (d != 109937) = true ∧ r = (0, false)) ∨
    (a = true ∧ b = true ∧ (m == 1440) = true ∧ (d != 109937) = false ∧ r = (d * 1440 + m, true)) ∨ (a = true ∧ b = true ∧ (m == 1440) = false ∧ r = (d * 1440 + m, true)) := by
  cases a <;> cases b <;> by_cases h1 : m = 1440 <;> by_cases h2 : d = 109937 <;> simp_all

theorem readst_any (s : ByteArray) (hs : s.size ≤ 1000000) (w : World) (hE : Env w) :
    Calls Tryd.prog 17 #[.string s] w fun e w' => e = .returned (.tuple #[.int .i64 (posN (readS s.data.toList)), .bool (posB (readS s.data.toList))]) ∧ Below w.heap.size w w' := by
  have hrm := rs_eq s.data.toList
  obtain ⟨r1, hr1⟩ : ∃ r, posN (readS s.data.toList) = r := ⟨_, rfl⟩
  obtain ⟨r2, hr2⟩ : ∃ r, posB (readS s.data.toList) = r := ⟨_, rfl⟩
  rw [hr1, hr2] at hrm ⊢
  clear hr1 hr2
  have HE := Lib.hid hE
  have HC := Lib.hid (fun w hE => cut_any s ⟨#[84]⟩ hs w hE)
  simp only at HC
  have cl := cut_len 84 s.data.toList
  have hsl : s.data.toList.length = s.size := by simp
  rw [hsl] at cl
  unfold rsV at hrm
  generalize Lib.cut s.data.toList [84] = c at *
  obtain ⟨x, y, fd⟩ := c
  simp only at HC hrm cl
  have HX := Lib.hid (fun w hE => readday_list x (by omega) w hE)
  have HY := Lib.hid (fun w hE => readmin_list y (by omega) w hE)
  rw [rm_eq y] at hrm
  have hbd := rday_bd (l := x)
  have hbm := readM_bd y
  have hpm : 0 ≤ posN (readM y) ∧ posN (readM y) ≤ 1440 := by unfold posN; split <;> omega
  generalize rdayV x = dv at *
  obtain ⟨dd, ab⟩ := dv
  simp only at HX hrm hbd
  generalize posN (readM y) = mm at *
  generalize posB (readM y) = bb at *
  obtain ⟨d1, d2⟩ := hbd
  obtain ⟨m1, m2⟩ := hpm
  clear hE hbm cl hsl
  rcases rs_ways ab bb mm dd (r1, r2) hrm with ⟨rfl, he⟩ | ⟨rfl, rfl, he⟩ | ⟨rfl, rfl, h1, h2, he⟩ | ⟨rfl, rfl, h1, h2, he⟩ | ⟨rfl, rfl, h1, he⟩
  all_goals
    clear hrm
    obtain ⟨rfl, rfl⟩ := Prod.mk.inj he
    clear he
    go_enter Tryd.func17, Tryd.ntmps17
    go_wp2_with fail
    go_at_call 28
    refine (HC.out _ HE.out).mono ?_
    rintro e w' ⟨rfl, hb⟩
    obtain ⟨g, rfl⟩ := Gr.of hb
    clear hb
    go_wp2_with fail
    go_at_call 32
    refine (HX.out _ (HE.out.gr g)).mono ?_
    rintro e w' ⟨rfl, hb⟩
    obtain ⟨g, rfl⟩ := g.on hb
    clear hb
    go_wp2_with fail
    go_at_call 13
    refine (HY.out _ (HE.out.gr g)).mono ?_
    rintro e w' ⟨rfl, hb⟩
    obtain ⟨g, rfl⟩ := g.on hb
    clear hb
    go_wp2_with fail
    go_ret2
    exact ⟨rfl, g.ok⟩

theorem stampT0 : stampT 0 = [49, 57, 48, 48, 45, 48, 49, 45, 48, 49, 84, 48, 48, 58, 48, 48] := by
  have h := Cal.dateOf_eq (y := 1900) (m := 1) (d := 1) (n := 0) (Cal.may_iff.1 (by decide)) (by decide)
  unfold stampT
  rw [show dayI 0 = 0 by decide, show minuteI 0 = 0 by decide, h.1, h.2.1, h.2.2]
  decide
theorem fixed3_any (w : World) (hE : Env w) :
    Calls Tryd.prog 10 #[] w fun e w' => e = .returned (.bool true) ∧ Below w.heap.size w w' := by
  have HS := Lib.hid (stamp_yes 0 (by omega) (by omega) w hE)
  rw [stampT0] at HS
  go_enter Tryd.func10, Tryd.ntmps10
  go_wp2_with fail
  go_at_call 15
  refine HS.out.mono ?_
  rintro e w' ⟨rfl, hb⟩
  obtain ⟨g, rfl⟩ := Gr.of hb
  clear hb
  go_wp2_with fail
  go_ret
  exact ⟨rfl, g.ok⟩
end Go.Proofs.YtdokniohjdlmfaaDoor
