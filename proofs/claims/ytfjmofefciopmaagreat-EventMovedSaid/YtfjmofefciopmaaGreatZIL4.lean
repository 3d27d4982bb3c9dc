import Derived.Test.YtfjmofefciopmaaGreatZIL1
/- Layer 11's law on an event that is moved. -/
section
namespace Go.Proofs.YtfjmofefciopmaaGreat
open Go.ChangeShapes Go.WideShapes Go.ChangeAt Go.RowKit Go.Joins Sp Ev Qr
/-- Members of an event that comes once, in a zone without turns. -/
theorem movedM_any (base s g x1 x2 : Int) (hb : -900 ≤ base ∧ base ≤ 900) (h1 : 2000 ≤ s) (h2 : s ≤ 110000000) (h3 : 1 ≤ g) (h4 : g ≤ 10000) (hx : x1 < x2 ∧ x2 - x1 ≤ 528480) (hxb : -1000000000 ≤ x1 ∧ x2 ≤ 1000000000) (hi : x1 < s - base + g) (hj : s - base < x2) (w : World) :
    Calls Tryz.prog 13 #[.agg #[.int .i64 base, .slice none 0 0], .agg #[.int .i64 s, .int .i64 g, .bool false, .bool false, .int .i64 0, .int .i64 0, .int .i64 0, .int .i64 0, .slice none 0 0, .slice none 0 0, .slice none 0 0, .slice none 0 0, .int .i64 0, .slice none 0 0, .slice none 0 0, .slice none 0 0], .agg #[.int .i64 x1, .int .i64 x2]] w
      fun e w' => (∃ A c, e = .returned (.slice A 1 c) ∧ Sl w' A 1 c (sv [(s - base, s - base + g)])) ∧ Below w.heap.size w w' := by
  have hwf : ZWf ⟨base, 0, fun _ => 0, fun _ => 0⟩ := ⟨⟨by show -9223372036854775808 ≤ base; omega, by show base ≤ 9223372036854775807; omega⟩, by show 0 ≤ 9223372036854775807; omega, fun i h => absurd h (Nat.not_lt_zero _)⟩
  have hmay : Zn.mayP ⟨base, 0, fun _ => 0, fun _ => 0⟩ := ⟨hb.1, hb.2, by show 0 ≤ 700; omega, fun i h => absurd h (Nat.not_lt_zero _)⟩
  have h := pmembers_any ⟨base, 0, fun _ => 0, fun _ => 0⟩ none 0 (onceE s g) none none none none none none none 0 0 0 0 0 0 0 x1 x2 hwf (Nat.zero_le _) (Nat.zero_le _) (Nat.zero_le _) ⟨Nat.zero_le _, Nat.zero_le _, Nat.zero_le _, Nat.zero_le _⟩ (by omega) (by omega) w (fun h => absurd h (Nat.lt_irrefl 0)) ⟨⟨Sl.none_ _, Sl.none_ _, Sl.none_ _, Sl.none_ _⟩, Sl.none_ _, Sl.none_ _, Sl.none_ _⟩
  rw [moved_members (z := ⟨base, 0, fun _ => 0, fun _ => 0⟩) rfl hb hmay h1 h2 h3 h4 (x := (x1, x2)) hx hi hj] at h
  refine Calls.mono h ?_
  rintro e w' ⟨A, c, rfl, hsl, hb⟩
  exact ⟨⟨A, c, rfl, hsl⟩, hb⟩
set_option maxRecDepth 100000 in
set_option maxHeartbeats 4000000 in
theorem eventMoved_any (base start long by_ more : Int) (w : World) :
    Calls Tryz.prog 6 #[.int .i64 base, .int .i64 start, .int .i64 long, .int .i64 by_, .int .i64 more] w fun e w' => e = .returned (.bool true) ∧ Below w.heap.size w w' := by
  have HF := Lib.hid (fun w => fixed11_any w)
  have HB0 := Lib.hid ((Below.refl w.heap.size w).alloc (Nat.le_refl _) (.cells #[.int .i64 base, .slice none 0 0] 24))
  by_cases t0 : base < -900
  · have u0 : decide (base < -900) = true := decide_eq_true t0
    as_aux_lemma =>
      go_enter Tryz.func6, Tryz.ntmps6
      go_wp2_with (go_at_call 9; (with_reducible refine (HF.out _).mono ?_); rintro e w' ⟨rfl, hb⟩)
      have HX : Hid (Below w.heap.size w w') := HB0.out.trans (hb.mono (by simp))
      go_ret
      exact ⟨rfl, HX.out⟩
  have u0 : decide (base < -900) = false := decide_eq_false t0
  by_cases t1 : 900 < base
  · have u1 : decide (900 < base) = true := decide_eq_true t1
    as_aux_lemma =>
      go_enter Tryz.func6, Tryz.ntmps6
      go_wp2_with (go_at_call 9; (with_reducible refine (HF.out _).mono ?_); rintro e w' ⟨rfl, hb⟩)
      have HX : Hid (Below w.heap.size w w') := HB0.out.trans (hb.mono (by simp))
      go_ret
      exact ⟨rfl, HX.out⟩
  have u1 : decide (900 < base) = false := decide_eq_false t1
  by_cases t2 : start < 2000
  · have u2 : decide (start < 2000) = true := decide_eq_true t2
    as_aux_lemma =>
      go_enter Tryz.func6, Tryz.ntmps6
      go_wp2_with (go_at_call 9; (with_reducible refine (HF.out _).mono ?_); rintro e w' ⟨rfl, hb⟩)
      have HX : Hid (Below w.heap.size w w') := HB0.out.trans (hb.mono (by simp))
      go_ret
      exact ⟨rfl, HX.out⟩
  have u2 : decide (start < 2000) = false := decide_eq_false t2
  by_cases t3 : 100000000 < start
  · have u3 : decide (100000000 < start) = true := decide_eq_true t3
    as_aux_lemma =>
      go_enter Tryz.func6, Tryz.ntmps6
      go_wp2_with (go_at_call 9; (with_reducible refine (HF.out _).mono ?_); rintro e w' ⟨rfl, hb⟩)
      have HX : Hid (Below w.heap.size w w') := HB0.out.trans (hb.mono (by simp))
      go_ret
      exact ⟨rfl, HX.out⟩
  have u3 : decide (100000000 < start) = false := decide_eq_false t3
  by_cases t4 : by_ < 0
  · have u4 : decide (by_ < 0) = true := decide_eq_true t4
    as_aux_lemma =>
      go_enter Tryz.func6, Tryz.ntmps6
      go_wp2_with (go_at_call 9; (with_reducible refine (HF.out _).mono ?_); rintro e w' ⟨rfl, hb⟩)
      have HX : Hid (Below w.heap.size w w') := HB0.out.trans (hb.mono (by simp))
      go_ret
      exact ⟨rfl, HX.out⟩
  have u4 : decide (by_ < 0) = false := decide_eq_false t4
  by_cases t5 : 500000 < by_
  · have u5 : decide (500000 < by_) = true := decide_eq_true t5
    as_aux_lemma =>
      go_enter Tryz.func6, Tryz.ntmps6
      go_wp2_with (go_at_call 9; (with_reducible refine (HF.out _).mono ?_); rintro e w' ⟨rfl, hb⟩)
      have HX : Hid (Below w.heap.size w w') := HB0.out.trans (hb.mono (by simp))
      go_ret
      exact ⟨rfl, HX.out⟩
  have u5 : decide (500000 < by_) = false := decide_eq_false t5
  by_cases t6 : long < 1
  · have u6 : decide (long < 1) = true := decide_eq_true t6
    as_aux_lemma =>
      go_enter Tryz.func6, Tryz.ntmps6
      go_wp2_with (go_at_call 9; (with_reducible refine (HF.out _).mono ?_); rintro e w' ⟨rfl, hb⟩)
      have HX : Hid (Below w.heap.size w w') := HB0.out.trans (hb.mono (by simp))
      go_ret
      exact ⟨rfl, HX.out⟩
  have u6 : decide (long < 1) = false := decide_eq_false t6
  by_cases t7 : 5000 < long
  · have u7 : decide (5000 < long) = true := decide_eq_true t7
    as_aux_lemma =>
      go_enter Tryz.func6, Tryz.ntmps6
      go_wp2_with (go_at_call 9; (with_reducible refine (HF.out _).mono ?_); rintro e w' ⟨rfl, hb⟩)
      have HX : Hid (Below w.heap.size w w') := HB0.out.trans (hb.mono (by simp))
      go_ret
      exact ⟨rfl, HX.out⟩
  have u7 : decide (5000 < long) = false := decide_eq_false t7
  by_cases t8 : more < 0
  · have u8 : decide (more < 0) = true := decide_eq_true t8
    as_aux_lemma =>
      go_enter Tryz.func6, Tryz.ntmps6
      go_wp2_with (go_at_call 9; (with_reducible refine (HF.out _).mono ?_); rintro e w' ⟨rfl, hb⟩)
      have HX : Hid (Below w.heap.size w w') := HB0.out.trans (hb.mono (by simp))
      go_ret
      exact ⟨rfl, HX.out⟩
  have u8 : decide (more < 0) = false := decide_eq_false t8
  by_cases t9 : 5000 < more
  · have u9 : decide (5000 < more) = true := decide_eq_true t9
    as_aux_lemma =>
      go_enter Tryz.func6, Tryz.ntmps6
      go_wp2_with (go_at_call 9; (with_reducible refine (HF.out _).mono ?_); rintro e w' ⟨rfl, hb⟩)
      have HX : Hid (Below w.heap.size w w') := HB0.out.trans (hb.mono (by simp))
      go_ret
      exact ⟨rfl, HX.out⟩
  have u9 : decide (5000 < more) = false := decide_eq_false t9
  have hw1 : IntKind.i64.wrap (start - 1000) = start - 1000 := by rw [IntKind.wrap_i64]; omega
  have hw2 : IntKind.i64.wrap (start - 1000 + 527040) = start - 1000 + 527040 := by rw [IntKind.wrap_i64]; omega
  have hw3 : IntKind.i64.wrap (start + by_) = start + by_ := by rw [IntKind.wrap_i64]; omega
  have hw4 : IntKind.i64.wrap (long + more) = long + more := by rw [IntKind.wrap_i64]; omega
  have hw5 : IntKind.i64.wrap (start - base) = start - base := by rw [IntKind.wrap_i64]; omega
  have hw6 : IntKind.i64.wrap (start - base + long) = start - base + long := by rw [IntKind.wrap_i64]; omega
  have hw7 : IntKind.i64.wrap (start - base + by_) = start - base + by_ := by rw [IntKind.wrap_i64]; omega
  have hw8 : IntKind.i64.wrap (start - base + long + by_) = start - base + long + by_ := by rw [IntKind.wrap_i64]; omega
  have hw9 : IntKind.i64.wrap (start - base + long + by_ + more) = start - base + long + by_ + more := by rw [IntKind.wrap_i64]; omega
  have HM1 := Lib.hid (fun w => movedM_any base start long (start - 1000) (start - 1000 + 527040) (by omega) (by omega) (by omega) (by omega) (by omega) (by omega) (by omega) (by omega) (by omega) w)
  have HM2 := Lib.hid (fun w => movedM_any base (start + by_) (long + more) (start - 1000) (start - 1000 + 527040) (by omega) (by omega) (by omega) (by omega) (by omega) (by omega) (by omega) (by omega) (by omega) w)
  rw [show start + by_ - base = start - base + by_ by omega, show start - base + by_ + (long + more) = start - base + long + by_ + more by omega] at HM2
  obtain ⟨W, hW⟩ : ∃ W, (w.alloc (.cells #[.int .i64 base, .slice none 0 0] 24)).alloc (.cells #[.int .i64 (start - 1000), .int .i64 (start - 1000 + 527040)] 34) = W := ⟨_, rfl⟩
  have hBW : Below w.heap.size w W := by rw [← hW]; exact ((Below.refl _ w).alloc (Nat.le_refl _) _).alloc (by simp) _
  have HG : Hid (∀ g : Gr W, Below w.heap.size w g.val) := fun g => hBW.trans (g.ok.mono hBW.size)
  have z0 : ∀ G : Gr W, G.val.cell? ⟨w.heap.size, 0, none⟩ = some (.int .i64 base) := fun G => cell_old (w := W) (by rw [← hW]; simp [go_sem]) G.ok
  have z1 : ∀ G : Gr W, G.val.cell? ⟨w.heap.size, 1, none⟩ = some (.slice none 0 0) := fun G => cell_old (w := W) (by rw [← hW]; simp [go_sem]) G.ok
  have w0 : ∀ G : Gr W, G.val.cell? ⟨w.heap.size + 1, 0, none⟩ = some (.int .i64 (start - 1000)) := fun G => cell_old (w := W) (by rw [← hW]; simp [go_sem]) G.ok
  have w1 : ∀ G : Gr W, G.val.cell? ⟨w.heap.size + 1, 1, none⟩ = some (.int .i64 (start - 1000 + 527040)) := fun G => cell_old (w := W) (by rw [← hW]; simp [go_sem]) G.ok
  obtain ⟨g0, hg0⟩ := Gr.start W
  have E1 := Lib.hid (hW.trans hg0)
  clear hW hBW hg0 t0 t1 t2 t3 t4 t5 t6 t7 t8 t9
  obtain ⟨a1, hs1⟩ : ∃ a1, start - base = a1 := ⟨_, rfl⟩
  rw [hs1] at hw6 hw7 hw8 hw9 HM1 HM2
  rw [hs1] at hw5
  go_enter Tryz.func6, Tryz.ntmps6
  go_upto_region 5 with fail
  rw [E1.out]
  clear u0 u1 u2 u3 u4 u5 u6 u7 u8 u9 HB0
  go_wp2_with fail
  go_at_call 13
  refine (HM1.out _).mono ?_
  rintro e w2 ⟨⟨A, c, rfl, hs⟩, hb⟩
  obtain ⟨p, off, rfl, _, q1⟩ := hs.spanG (i := 0) (s := (a1, a1 + long)) rfl
  simp only [Nat.zero_mul, Nat.add_zero] at q1
  obtain ⟨g1, rfl⟩ := g0.on hb
  have r0 := q1 ⟨_, Below.refl _ _⟩
  clear hs hb
  go_wp2_with fail
  go_at_call 13
  refine (HM2.out _).mono ?_
  rintro e w3 ⟨⟨A, c2, rfl, hs⟩, hb⟩
  obtain ⟨p2, off2, rfl, _, q2⟩ := hs.spanG (i := 0) (s := (a1 + by_, a1 + long + by_ + more)) rfl
  simp only [Nat.zero_mul, Nat.add_zero] at q2
  have q3 : ∀ g : Gr w3, g.val.cell? ⟨p, off, none⟩ = some (.int .i64 a1) ∧ g.val.cell? ⟨p, off + 1, none⟩ = some (.int .i64 (a1 + long)) := fun g => q1 ⟨g.val, hb.trans (g.ok.mono hb.size)⟩
  have HX : Hid (∀ g : Gr w3, Below w.heap.size w g.val) := fun g => (HG.out g1).trans ((hb.trans (g.ok.mono hb.size)).mono (HG.out g1).size)
  have x0 := fun g : Gr w3 => (q2 g).1
  have x1 := fun g : Gr w3 => (q2 g).2
  have y0 := fun g : Gr w3 => (q3 g).1
  have y1 := fun g : Gr w3 => (q3 g).2
  have HF3 := Lib.hid (fun g : Gr w3 => fixed11_any g.val)
  clear hs hb q1 q2 q3 r0 z0 z1 w0 w1 E1 HG HM1 HM2
  obtain ⟨g3, hg3⟩ := Gr.start w3
  rw [hg3]
  clear hg3 hw1 hw2 hw3 hw4
  go_wp2_with fail
  refine Gr.region (by kernel_rfl) (by kernel_rfl) (Gr.draw _) ?_
  repeat (go_big_quiet_step ((go_at_call 9; exact Gr.calls _ (HF3.out _))))
  refine wpQuiet_nil ?_
  rintro _ ⟨g4, rfl⟩
  go_wp2_with fail
  go_ret
  exact ⟨rfl, HX.out _⟩
end Go.Proofs.YtfjmofefciopmaaGreat
end
