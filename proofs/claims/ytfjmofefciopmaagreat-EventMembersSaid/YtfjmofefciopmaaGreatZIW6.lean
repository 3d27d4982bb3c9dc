import Derived.Test.YtfjmofefciopmaaGreatZIW5
import Derived.Test.YtfjmofefciopmaaGreatZMJ
import Derived.Test.YtfjmofefciopmaaGreatZMU
/- Contracts of the program's events: is a local time one of an event's; near what a window is looked for. -/
section
namespace Go.Proofs.YtfjmofefciopmaaGreat
open Go.ChangeShapes Go.WideShapes Go.ChangeAt Go.RowKit Go.Joins Sp Ev Qr
noncomputable def isTB (e : Evt) (a : Int) : Bool := if e.again = false then decide (a = e.start) else !Tm.memB e.ex a && (Tm.memB e.plus a || hasB10 e.rule e.start a)
theorem isTB_at {e : Evt} (hm : mayE e) (a : Int) : isTB e a = atB e a := by
  unfold isTB atB
  cases ha : e.again with
  | false => rfl
  | true =>
    rw [if_neg (by simp), if_neg (by simp)]
    obtain ⟨_, _, _, _, h5⟩ := hm
    obtain ⟨_, _, _, hp, _⟩ := h5 ha
    cases hx : Tm.memB e.ex a with
    | true => rw [if_pos (.inl rfl)]; rfl
    | false =>
      by_cases hs : stampB a = false
      · rw [if_pos (.inr hs)]
        have hn : ¬ (0 ≤ a ∧ a < 158310720) := fun q => by unfold stampB at hs; rw [decide_eq_true q.1, decide_eq_true q.2] at hs; cases hs
        have h1 : Tm.memB e.plus a = false := mem_no.2 fun q => hn (rowP_bd (of_decide_eq_true hp) q)
        have h2 : hasB10 e.rule e.start a = false := by
          unfold hasB10
          by_cases q : 0 ≤ a
          · rw [show decide (a < 158310720) = false from decide_eq_false (fun k => hn ⟨q, k⟩)]; simp
          · rw [decide_eq_false q]; rfl
        rw [h1, h2]; rfl
      · rw [if_neg (by rintro (q | q); · cases q
                       · exact hs q)]
        have hn : 0 ≤ a ∧ a < 158310720 := by
          have : stampB a = true := by simpa using hs
          unfold stampB at this; simpa using this
        cases hpl : Tm.memB e.plus a with
        | true => rw [if_pos rfl]; rfl
        | false =>
          rw [if_neg (by simp), Bool.not_false, Bool.true_and, Bool.false_or]
          unfold hasB10
          rw [decide_eq_true hn.1, decide_eq_true hn.2, Bool.true_and, Bool.true_and, Bool.eq_iff_iff, decide_eq_true_eq, Tm.memB_iff]
          by_cases hsa : e.start ≤ a
          · exact Tm.has_times hn.1 hn.2 hsa
          · constructor
            · intro q; rw [Tm.has_ahead (by omega)] at q; cases q
            · intro q; exact absurd (Tm.times_bd q).2.1 hsa
set_option maxRecDepth 100000 in
set_option maxHeartbeats 4000000 in
theorem pisTime_any (e : Evt) (A1 A2 A3 A4 A5 A6 A7 : Option Addr) (c1 c2 c3 c4 c5 c6 c7 : Nat) (a : Int) (hst : -9223372036854775808 ≤ e.start ∧ e.start ≤ 9223372036854775807) (hl : e.rule.bm.length ≤ 10000 ∧ e.rule.bd.length ≤ 10000 ∧ e.rule.bw.length ≤ 10000 ∧ e.rule.bs.length ≤ 10000) (w : World) (h : EAt w e A1 A2 A3 A4 A5 A6 A7 c1 c2 c3 c4 c5 c6 c7) :
    Calls Tryz.prog 40 #[.agg (ecells e A1 A2 A3 A4 A5 A6 A7 c1 c2 c3 c4 c5 c6 c7), .int .i64 a] w fun q w' => q = .returned (.bool (isTB e a)) ∧ Below w.heap.size w w' := by
  obtain ⟨W, hW⟩ : ∃ W, w.alloc (.cells (ecells e A1 A2 A3 A4 A5 A6 A7 c1 c2 c3 c4 c5 c6 c7) 32) = W := ⟨_, rfl⟩
  have hBW : Below w.heap.size w W := by rw [← hW]; exact (Below.refl _ w).alloc (Nat.le_refl _) _
  have HG : Hid (∀ g : Gr W, Below w.heap.size w g.val) := fun g => hBW.trans (g.ok.mono hBW.size)
  have HB : ∀ (G : Gr W) (k : Nat) (v : Value), (ecells e A1 A2 A3 A4 A5 A6 A7 c1 c2 c3 c4 c5 c6 c7)[k]? = some v → G.val.cell? ⟨w.heap.size, k, none⟩ = some v := by rw [← hW]; exact boxE e A1 A2 A3 A4 A5 A6 A7 c1 c2 c3 c4 c5 c6 c7 w
  have HE : ∀ g : Gr W, EAt g.val e A1 A2 A3 A4 A5 A6 A7 c1 c2 c3 c4 c5 c6 c7 := fun g => h.below (HG.out g)
  obtain ⟨q1, hq1⟩ : ∃ q, Tm.memB e.ex a = q := ⟨_, rfl⟩
  obtain ⟨q2, hq2⟩ : ∃ q, Tm.memB e.plus a = q := ⟨_, rfl⟩
  obtain ⟨q3, hq3⟩ : ∃ q, hasB10 e.rule e.start a = q := ⟨_, rfl⟩
  have H5 : Hid (∀ g : Gr W, Calls Tryz.prog 72 #[.slice A5 e.ex.length c5, .int .i64 a] g.val fun e w' => e = .returned (.bool q1) ∧ g.val = w') := fun g => by rw [← hq1]; exact pcont64_any e.ex A5 c5 a g.val (HE g).s5
  have H6 : Hid (∀ g : Gr W, Calls Tryz.prog 72 #[.slice A6 e.plus.length c6, .int .i64 a] g.val fun e w' => e = .returned (.bool q2) ∧ g.val = w') := fun g => by rw [← hq2]; exact pcont64_any e.plus A6 c6 a g.val (HE g).s6
  have HH : Hid (∀ g : Gr W, Calls Tryz.prog 75 #[.agg (rcells e.rule A1 A2 A3 A4 c1 c2 c3 c4), .int .i64 e.start, .int .i64 a] g.val fun e w' => e = .returned (.bool q3) ∧ Below g.val.heap.size g.val w') := fun g => by rw [← hq3]; exact phas_any e.rule A1 A2 A3 A4 c1 c2 c3 c4 e.start a hst hl g.val (HE g).r
  obtain ⟨q, hq⟩ : ∃ q, isTB e a = q := ⟨_, rfl⟩
  have HQ : Hid ((if e.again = false then decide (a = e.start) else !q1 && (q2 || q3)) = q) := by show _ = _; rw [← hq, ← hq1, ← hq2, ← hq3]; rfl
  rw [hq]
  clear hBW HE h hl hst hq1 hq2 hq3 hq
  obtain ⟨start, long, world, again, rule, ex, plus, ch⟩ := e
  unfold ecells at HB hW ⊢
  unfold rcells at HH
  simp only at *
  obtain ⟨g0, hg0⟩ := Gr.start W
  have E1 := Lib.hid (hW.trans hg0)
  have b0 := fun G => HB G 0 _ rfl
  have b1 := fun G => HB G 1 _ rfl
  have b2 := fun G => HB G 2 _ rfl
  have b3 := fun G => HB G 3 _ rfl
  have b4 := fun G => HB G 4 _ rfl
  have b5 := fun G => HB G 5 _ rfl
  have b6 := fun G => HB G 6 _ rfl
  have b7 := fun G => HB G 7 _ rfl
  have b8 := fun G => HB G 8 _ rfl
  have b9 := fun G => HB G 9 _ rfl
  have b10 := fun G => HB G 10 _ rfl
  have b11 := fun G => HB G 11 _ rfl
  have b12 := fun G => HB G 12 _ rfl
  have b13 := fun G => HB G 13 _ rfl
  have b14 := fun G => HB G 14 _ rfl
  have b15 := fun G => HB G 15 _ rfl
  clear HB hW hg0
  cases again with
  | false =>
    have E : Hid ((a == start) = q) := by show _ = _; rw [← HQ.out, if_pos rfl, Bool.eq_iff_iff]; simp
    clear HQ
    go_enter Tryz.func40, Tryz.ntmps40
    go_upto_region 1 with fail
    rw [E1.out]
    go_wp2_with fail
    go_ret
    exact ⟨ret_bool E.out, HG.out _⟩
  | true =>
    cases q1 with
    | true =>
      have E : Hid (q = false) := by show _ = _; rw [← HQ.out, if_neg (by simp)]; rfl
      clear HQ
      go_enter Tryz.func40, Tryz.ntmps40
      go_upto_region 1 with fail
      rw [E1.out]
      go_wp2_with (go_at_call 72; (with_reducible refine (H5.out _).mono ?_); rintro e w' ⟨rfl, rfl⟩)
      go_ret
      exact ⟨ret_bool E.out.symm, HG.out _⟩
    | false =>
      cases q2 with
      | true =>
        have E : Hid (q = true) := by show _ = _; rw [← HQ.out, if_neg (by simp)]; rfl
        clear HQ
        go_enter Tryz.func40, Tryz.ntmps40
        go_upto_region 1 with fail
        rw [E1.out]
        go_wp2_with fail
        go_at_call 72
        refine (H5.out _).mono ?_
        rintro e w' ⟨rfl, rfl⟩
        go_wp2_with fail
        go_at_call 72
        refine (H6.out _).mono ?_
        rintro e w' ⟨rfl, rfl⟩
        go_wp2_with fail
        go_ret
        exact ⟨ret_bool E.out.symm, HG.out _⟩
      | false =>
        have E : Hid (q = q3) := by show _ = _; rw [← HQ.out, if_neg (by simp)]; rfl
        clear HQ
        go_enter Tryz.func40, Tryz.ntmps40
        go_upto_region 1 with fail
        rw [E1.out]
        go_wp2_with fail
        go_at_call 72
        refine (H5.out _).mono ?_
        rintro e w' ⟨rfl, rfl⟩
        go_wp2_with fail
        go_at_call 72
        refine (H6.out _).mono ?_
        rintro e w' ⟨rfl, rfl⟩
        go_wp2_with fail
        go_at_call 75
        refine (HH.out _).mono ?_
        rintro e w' ⟨rfl, hb⟩
        obtain ⟨g', rfl⟩ := Gr.on _ hb
        go_wp2_with fail
        go_ret
        exact ⟨ret_bool E.out.symm, HG.out _⟩
set_option maxRecDepth 100000 in
set_option maxHeartbeats 4000000 in
theorem pat11_any (e : Evt) (A1 A2 A3 A4 A5 A6 A7 : Option Addr) (c1 c2 c3 c4 c5 c6 c7 : Nat) (a : Int) (hst : -9223372036854775808 ≤ e.start ∧ e.start ≤ 9223372036854775807) (hx : e.ex.length ≤ 1000000) (hp : e.plus.length ≤ 1000000) (hc : e.ch.length ≤ 1000000) (hl : e.rule.bm.length ≤ 10000 ∧ e.rule.bd.length ≤ 10000 ∧ e.rule.bw.length ≤ 10000 ∧ e.rule.bs.length ≤ 10000) (w : World) (h : EAt w e A1 A2 A3 A4 A5 A6 A7 c1 c2 c3 c4 c5 c6 c7) :
    Calls Tryz.prog 16 #[.agg (ecells e A1 A2 A3 A4 A5 A6 A7 c1 c2 c3 c4 c5 c6 c7), .int .i64 a] w fun q w' => q = .returned (.bool (mayEB e && atB e a)) ∧ Below w.heap.size w w' := by
  obtain ⟨W, hW⟩ : ∃ W, w.alloc (.cells (ecells e A1 A2 A3 A4 A5 A6 A7 c1 c2 c3 c4 c5 c6 c7) 32) = W := ⟨_, rfl⟩
  have hBW : Below w.heap.size w W := by rw [← hW]; exact (Below.refl _ w).alloc (Nat.le_refl _) _
  have HG : Hid (∀ g : Gr W, Below w.heap.size w g.val) := fun g => hBW.trans (g.ok.mono hBW.size)
  have HB : ∀ (G : Gr W) (k : Nat) (v : Value), (ecells e A1 A2 A3 A4 A5 A6 A7 c1 c2 c3 c4 c5 c6 c7)[k]? = some v → G.val.cell? ⟨w.heap.size, k, none⟩ = some v := by rw [← hW]; exact boxE e A1 A2 A3 A4 A5 A6 A7 c1 c2 c3 c4 c5 c6 c7 w
  have HE : ∀ g : Gr W, EAt g.val e A1 A2 A3 A4 A5 A6 A7 c1 c2 c3 c4 c5 c6 c7 := fun g => h.below (HG.out g)
  obtain ⟨q1, hq1⟩ : ∃ q, mayEB e = q := ⟨_, rfl⟩
  obtain ⟨q2, hq2⟩ : ∃ q, isTB e a = q := ⟨_, rfl⟩
  have H1 : Hid (∀ g : Gr W, Calls Tryz.prog 10 #[.agg (ecells e A1 A2 A3 A4 A5 A6 A7 c1 c2 c3 c4 c5 c6 c7)] g.val fun e w' => e = .returned (.bool q1) ∧ Below g.val.heap.size g.val w') := fun g => by rw [← hq1]; exact pmay11_any e A1 A2 A3 A4 A5 A6 A7 c1 c2 c3 c4 c5 c6 c7 g.val hx hp hc (HE g)
  have H2 : Hid (∀ g : Gr W, Calls Tryz.prog 40 #[.agg (ecells e A1 A2 A3 A4 A5 A6 A7 c1 c2 c3 c4 c5 c6 c7), .int .i64 a] g.val fun e w' => e = .returned (.bool q2) ∧ Below g.val.heap.size g.val w') := fun g => by rw [← hq2]; exact pisTime_any e A1 A2 A3 A4 A5 A6 A7 c1 c2 c3 c4 c5 c6 c7 a hst hl g.val (HE g)
  obtain ⟨q, hq⟩ : ∃ q, (mayEB e && atB e a) = q := ⟨_, rfl⟩
  have HQ : Hid ((q1 && q2) = q) := by
    show _ = _
    rw [← hq, ← hq1, ← hq2]
    cases hh : mayEB e with
    | false => rfl
    | true => rw [isTB_at (of_decide_eq_true hh)]
  rw [hq]
  clear hBW HE h hl hst hq1 hq2 hq hx hp hc
  obtain ⟨start, long, world, again, rule, ex, plus, ch⟩ := e
  unfold ecells at HB hW H1 H2 ⊢
  simp only at *
  obtain ⟨g0, hg0⟩ := Gr.start W
  have E1 := Lib.hid (hW.trans hg0)
  have b0 := fun G => HB G 0 _ rfl
  have b1 := fun G => HB G 1 _ rfl
  have b2 := fun G => HB G 2 _ rfl
  have b3 := fun G => HB G 3 _ rfl
  have b4 := fun G => HB G 4 _ rfl
  have b5 := fun G => HB G 5 _ rfl
  have b6 := fun G => HB G 6 _ rfl
  have b7 := fun G => HB G 7 _ rfl
  have b8 := fun G => HB G 8 _ rfl
  have b9 := fun G => HB G 9 _ rfl
  have b10 := fun G => HB G 10 _ rfl
  have b11 := fun G => HB G 11 _ rfl
  have b12 := fun G => HB G 12 _ rfl
  have b13 := fun G => HB G 13 _ rfl
  have b14 := fun G => HB G 14 _ rfl
  have b15 := fun G => HB G 15 _ rfl
  clear HB hW hg0
  cases q1 with
  | false =>
    have E : Hid (q = false) := HQ.out.symm
    clear HQ
    go_enter Tryz.func16, Tryz.ntmps16
    go_upto_region 1 with fail
    rw [E1.out]
    go_wp2_with (go_at_call 10; (with_reducible refine (H1.out _).mono ?_); rintro e w' ⟨rfl, hb⟩; obtain ⟨g', rfl⟩ := Gr.on _ hb)
    go_ret
    exact ⟨ret_bool E.out.symm, HG.out _⟩
  | true =>
    have E : Hid (q = q2) := HQ.out.symm
    clear HQ
    go_enter Tryz.func16, Tryz.ntmps16
    go_upto_region 1 with fail
    rw [E1.out]
    go_wp2_with fail
    go_at_call 10
    refine (H1.out _).mono ?_
    rintro e w' ⟨rfl, hb⟩
    obtain ⟨g', rfl⟩ := Gr.on _ hb
    clear hb
    go_wp2_with fail
    go_at_call 40
    refine (H2.out _).mono ?_
    rintro e w' ⟨rfl, hb⟩
    obtain ⟨g', rfl⟩ := Gr.on _ hb
    clear hb
    go_wp2_with fail
    go_ret
    exact ⟨ret_bool E.out.symm, HG.out _⟩
set_option maxRecDepth 100000 in
set_option maxHeartbeats 4000000 in
theorem pnear_any (e : Evt) (A1 A2 A3 A4 A5 A6 A7 : Option Addr) (c1 c2 c3 c4 c5 c6 c7 : Nat) (x1 x2 : Int) (hlo : 0 ≤ e.long ∧ e.long ≤ 10080) (w : World) :
    Calls Tryz.prog 66 #[.agg (ecells e A1 A2 A3 A4 A5 A6 A7 c1 c2 c3 c4 c5 c6 c7), .agg #[.int .i64 x1, .int .i64 x2]] w fun q w' => q = .returned (.tuple #[.int .i64 (nearA e.long (x1, x2)), .int .i64 (nearB (x1, x2))]) ∧ Below w.heap.size w w' := by
  obtain ⟨W, hW⟩ : ∃ W, (w.alloc (.cells (ecells e A1 A2 A3 A4 A5 A6 A7 c1 c2 c3 c4 c5 c6 c7) 32)).alloc (.cells #[.int .i64 x1, .int .i64 x2] 34) = W := ⟨_, rfl⟩
  have hBW : Below w.heap.size w W := by rw [← hW]; exact ((Below.refl _ w).alloc (Nat.le_refl _) _).alloc (by simp) _
  have HG : Hid (∀ n, Below w.heap.size w (W.drewN n)) := fun n => hBW.trans ((drewN_below _ _).mono hBW.size)
  have d1 : ∀ n, (W.drewN n).cell? ⟨w.heap.size, 1, none⟩ = some (.int .i64 e.long) := fun n => by
    have : W.cell? ⟨w.heap.size, 1, none⟩ = some (.int .i64 e.long) := by
      rw [← hW]
      exact cell_old (boxE e A1 A2 A3 A4 A5 A6 A7 c1 c2 c3 c4 c5 c6 c7 w ⟨_, Below.refl _ _⟩ 1 _ rfl) ((Below.refl _ _).alloc (Nat.le_refl _) _)
    exact cell_old this (drewN_below _ _)
  have e0 : ∀ n, (W.drewN n).cell? ⟨w.heap.size + 1, 0, none⟩ = some (.int .i64 x1) := fun n => by
    have : W.cell? ⟨w.heap.size + 1, 0, none⟩ = some (.int .i64 x1) := by rw [← hW]; simp [go_sem]
    exact cell_old this (drewN_below _ _)
  have e1 : ∀ n, (W.drewN n).cell? ⟨w.heap.size + 1, 1, none⟩ = some (.int .i64 x2) := fun n => by
    have : W.cell? ⟨w.heap.size + 1, 1, none⟩ = some (.int .i64 x2) := by rw [← hW]; simp [go_sem]
    exact cell_old this (drewN_below _ _)
  have HT : Hid (∀ (v : Int) (w' : World) (n : Nat), Calls Tryz.prog 89 #[.int .i64 v] (w'.drewN n) fun e w2 => e = .returned (.int .i64 (inT v)) ∧ ∃ m, w2 = w'.drewN m) := fun v w' n => Calls.quiet_of_same ((pinTime_any v _).mono fun _ _ ⟨h1, h2⟩ => ⟨h1, h2.symm⟩)
  have hb1 : 0 ≤ inT x1 ∧ inT x1 ≤ 158310720 := by unfold inT; omega
  have hb2 : 0 ≤ inT x2 ∧ inT x2 ≤ 158310720 := by unfold inT; omega
  obtain ⟨r1, hr1⟩ : ∃ r, nearA e.long (x1, x2) = r := ⟨_, rfl⟩
  obtain ⟨r2, hr2⟩ : ∃ r, nearB (x1, x2) = r := ⟨_, rfl⟩
  rw [hr1, hr2]
  unfold nearA at hr1
  unfold nearB at hr2
  simp only at hr1 hr2
  obtain ⟨start, long, world, again, rule, ex, plus, ch⟩ := e
  unfold ecells at hW ⊢
  simp only at *
  have HT1 := Lib.hid (HT.out x1)
  have HT2 := Lib.hid (HT.out x2)
  have HT3 := Lib.hid (HT.out (inT x1 - long - 900))
  have HT4 := Lib.hid (HT.out (inT x2 + 900))
  rw [hr1] at HT3
  rw [hr2] at HT4
  generalize inT x1 = y1 at *
  generalize inT x2 = y2 at *
  have hw1 : IntKind.i64.wrap (y1 - long) = y1 - long := by rw [IntKind.wrap_i64]; omega
  have hw2 : IntKind.i64.wrap (y1 - long - 900) = y1 - long - 900 := by rw [IntKind.wrap_i64]; omega
  have hw3 : IntKind.i64.wrap (y2 + 900) = y2 + 900 := by rw [IntKind.wrap_i64]; omega
  have E1 := Lib.hid hW
  clear hW hBW hr1 hr2 HT
  have c1 := d1 0
  have c2 := e0 0
  have c3 := e1 0
  simp only [World.drewN_zero] at c1 c2 c3
  go_enter Tryz.func66, Tryz.ntmps66
  go_upto_region 1 with fail
  rw [E1.out]
  go_quiet ((go_at_call 89; first | exact HT1.out _ _ | exact HT3.out _ _))
  go_upto_region 2 with fail
  go_wp2_with (go_at_call 89; first | ((with_reducible refine (HT2.out _ _).mono ?_); rintro e w' ⟨rfl, m, rfl⟩) | ((with_reducible refine (HT4.out _ _).mono ?_); rintro e w' ⟨rfl, m, rfl⟩))
  go_ret2
  exact ⟨rfl, HG.out _⟩
end Go.Proofs.YtfjmofefciopmaaGreat
end
