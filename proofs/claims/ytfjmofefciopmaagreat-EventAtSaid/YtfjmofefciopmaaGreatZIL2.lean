import Derived.Test.YtfjmofefciopmaaGreatZIL1
import Derived.Test.YtfjmofefciopmaaGreatZMX
import Derived.Test.YtfjmofefciopmaaGreatZEW6
/- Layer 11's law on whether a local time is one of an event's. -/
section
namespace Go.Proofs.YtfjmofefciopmaaGreat
open Go.ChangeShapes Go.WideShapes Go.ChangeAt Go.RowKit Go.Joins Sp Ev Qr
theorem great_len {e : Evt} (h : greatEB e = false) : (e.ex.length ≤ 100 ∧ e.plus.length ≤ 100 ∧ e.ch.length ≤ 100) ∧ e.rule.bm.length ≤ 10000 ∧ e.rule.bd.length ≤ 10000 ∧ e.rule.bw.length ≤ 10000 ∧ e.rule.bs.length ≤ 10000 := by
  unfold greatEB greatB at h
  simp only [Bool.or_eq_false_iff, decide_eq_false_iff_not] at h
  omega
set_option maxRecDepth 100000 in
set_option maxHeartbeats 4000000 in
theorem eventAt_any (e : Evt) (A1 A2 A3 A4 A5 A6 A7 : Option Addr) (c1 c2 c3 c4 c5 c6 c7 : Nat) (a : Int) (hst : -9223372036854775808 ≤ e.start ∧ e.start ≤ 9223372036854775807) (w : World) (h : EAt w e A1 A2 A3 A4 A5 A6 A7 c1 c2 c3 c4 c5 c6 c7) :
    Calls Tryz.prog 4 #[.agg (ecells e A1 A2 A3 A4 A5 A6 A7 c1 c2 c3 c4 c5 c6 c7), .int .i64 a] w fun q w' => q = .returned (.bool true) ∧ Below w.heap.size w w' := by
  obtain ⟨W, hW⟩ : ∃ W, w.alloc (.cells (ecells e A1 A2 A3 A4 A5 A6 A7 c1 c2 c3 c4 c5 c6 c7) 32) = W := ⟨_, rfl⟩
  have hBW : Below w.heap.size w W := by rw [← hW]; exact (Below.refl _ w).alloc (Nat.le_refl _) _
  have HG : Hid (∀ g : Gr W, Below w.heap.size w g.val) := fun g => hBW.trans (g.ok.mono hBW.size)
  have HB : ∀ (G : Gr W) (k : Nat) (v : Value), (ecells e A1 A2 A3 A4 A5 A6 A7 c1 c2 c3 c4 c5 c6 c7)[k]? = some v → G.val.cell? ⟨w.heap.size, k, none⟩ = some v := by rw [← hW]; exact boxE e A1 A2 A3 A4 A5 A6 A7 c1 c2 c3 c4 c5 c6 c7 w
  have HE : ∀ g : Gr W, EAt g.val e A1 A2 A3 A4 A5 A6 A7 c1 c2 c3 c4 c5 c6 c7 := fun g => h.below (HG.out g)
  obtain ⟨q0, hq0⟩ : ∃ q, greatEB e = q := ⟨_, rfl⟩
  obtain ⟨q1, hq1⟩ : ∃ q, mayEB e = q := ⟨_, rfl⟩
  obtain ⟨q2, hq2⟩ : ∃ q, atB e a = q := ⟨_, rfl⟩
  have H0 : Hid (∀ g : Gr W, Calls Tryz.prog 8 #[.agg (ecells e A1 A2 A3 A4 A5 A6 A7 c1 c2 c3 c4 c5 c6 c7)] g.val fun q w' => q = .returned (.bool q0) ∧ Below g.val.heap.size g.val w') := fun g => by rw [← hq0]; exact rgreat11_any e A1 A2 A3 A4 A5 A6 A7 c1 c2 c3 c4 c5 c6 c7 g.val (HE g)
  have HF : Hid (∀ g : Gr W, Calls Tryz.prog 9 #[] g.val fun q w' => q = .returned (.bool true) ∧ Below g.val.heap.size g.val w') := fun g => fixed11_any g.val
  have H1 : Hid (q0 = false → ∀ g : Gr W, Calls Tryz.prog 11 #[.agg (ecells e A1 A2 A3 A4 A5 A6 A7 c1 c2 c3 c4 c5 c6 c7)] g.val fun q w' => q = .returned (.bool q1) ∧ Below g.val.heap.size g.val w') := fun k g => by
    have := great_len (hq0.trans k); rw [← hq1]; exact rmay11_any e A1 A2 A3 A4 A5 A6 A7 c1 c2 c3 c4 c5 c6 c7 g.val (by omega) (by omega) (HE g)
  have H2 : Hid (q0 = false → ∀ g : Gr W, Calls Tryz.prog 15 #[.agg (ecells e A1 A2 A3 A4 A5 A6 A7 c1 c2 c3 c4 c5 c6 c7), .int .i64 a] g.val fun q w' => q = .returned (.bool q2) ∧ Below g.val.heap.size g.val w') := fun k g => by
    have := great_len (hq0.trans k); rw [← hq2]; exact rat11_any e A1 A2 A3 A4 A5 A6 A7 c1 c2 c3 c4 c5 c6 c7 a g.val hst (by omega) (by omega) (HE g)
  have H3 : Hid (q0 = false → ∀ g : Gr W, Calls Tryz.prog 16 #[.agg (ecells e A1 A2 A3 A4 A5 A6 A7 c1 c2 c3 c4 c5 c6 c7), .int .i64 a] g.val fun q w' => q = .returned (.bool (q1 && q2)) ∧ Below g.val.heap.size g.val w') := fun k g => by
    have := great_len (hq0.trans k); rw [← hq1, ← hq2]; exact pat11_any e A1 A2 A3 A4 A5 A6 A7 c1 c2 c3 c4 c5 c6 c7 a hst (by omega) (by omega) (by omega) this.2 g.val (HE g)
  clear hBW HE h hst hq0 hq1 hq2
  have HLE := fun G : Gr W => load_event e A1 A2 A3 A4 A5 A6 A7 c1 c2 c3 c4 c5 c6 c7 G.val (w.heap.size) (HB G)
  obtain ⟨start, long, world, again, rule, ex, plus, ch⟩ := e
  unfold ecells at HLE HB hW H0 H1 H2 H3 ⊢
  simp only at *
  obtain ⟨g0, hg0⟩ := Gr.start W
  have E1 := Lib.hid (hW.trans hg0)
  have le : ∀ G : Gr W, (Instr.loadAt 32 (.pointer (some ⟨w.heap.size, 0, none⟩))).run Tryz.prog G.val = .ok (.agg #[.int .i64 start, .int .i64 long, .bool world, .bool again, .int .i64 rule.freq, .int .i64 rule.iv, .int .i64 rule.count, .int .i64 rule.until_, .slice A1 rule.bm.length c1, .slice A2 rule.bd.length c2, .slice A3 rule.bw.length c3, .slice A4 rule.bs.length c4, .int .i64 rule.start, .slice A5 ex.length c5, .slice A6 plus.length c6, .slice A7 ch.length c7]) G.val := HLE
  clear HB hW hg0 HLE
  cases q0 with
  | true =>
    clear H1 H2 H3
    as_aux_lemma =>
     go_enter Tryz.func4, Tryz.ntmps4
     go_upto_region 1 with fail
     rw [E1.out]
     go_wp2_with (refine wpList_load (t := 32) (v := .agg #[.int .i64 start, .int .i64 long, .bool world, .bool again, .int .i64 rule.freq, .int .i64 rule.iv, .int .i64 rule.count, .int .i64 rule.until_, .slice A1 rule.bm.length c1, .slice A2 rule.bd.length c2, .slice A3 rule.bw.length c3, .slice A4 rule.bs.length c4, .int .i64 rule.start, .slice A5 ex.length c5, .slice A6 plus.length c6, .slice A7 ch.length c7]) rfl rfl (le _) ?_; simp only [Act.put, List.setIfInBounds_toArray, List.set_cons_zero, List.set_cons_succ])
     go_at_call 8
     with_reducible refine (H0.out _).mono ?_
     rintro q w' ⟨rfl, hb⟩
     obtain ⟨g', rfl⟩ := Gr.on _ hb
     clear hb
     go_wp2_with (refine wpList_load (t := 32) (v := .agg #[.int .i64 start, .int .i64 long, .bool world, .bool again, .int .i64 rule.freq, .int .i64 rule.iv, .int .i64 rule.count, .int .i64 rule.until_, .slice A1 rule.bm.length c1, .slice A2 rule.bd.length c2, .slice A3 rule.bw.length c3, .slice A4 rule.bs.length c4, .int .i64 rule.start, .slice A5 ex.length c5, .slice A6 plus.length c6, .slice A7 ch.length c7]) rfl rfl (le _) ?_; simp only [Act.put, List.setIfInBounds_toArray, List.set_cons_zero, List.set_cons_succ])
     go_at_call 9
     with_reducible refine (HF.out _).mono ?_
     rintro q w' ⟨rfl, hb⟩
     obtain ⟨g', rfl⟩ := Gr.on _ hb
     clear hb
     go_wp2_with (refine wpList_load (t := 32) (v := .agg #[.int .i64 start, .int .i64 long, .bool world, .bool again, .int .i64 rule.freq, .int .i64 rule.iv, .int .i64 rule.count, .int .i64 rule.until_, .slice A1 rule.bm.length c1, .slice A2 rule.bd.length c2, .slice A3 rule.bw.length c3, .slice A4 rule.bs.length c4, .int .i64 rule.start, .slice A5 ex.length c5, .slice A6 plus.length c6, .slice A7 ch.length c7]) rfl rfl (le _) ?_; simp only [Act.put, List.setIfInBounds_toArray, List.set_cons_zero, List.set_cons_succ])
     go_ret
     exact ⟨rfl, HG.out _⟩
  | false =>
    replace H1 := Lib.hid (H1.out rfl)
    replace H2 := Lib.hid (H2.out rfl)
    replace H3 := Lib.hid (H3.out rfl)
    cases q1 with
    | false =>
      simp only [Bool.false_and] at H3
      as_aux_lemma =>
       go_enter Tryz.func4, Tryz.ntmps4
       go_upto_region 1 with fail
       rw [E1.out]
       go_wp2_with (refine wpList_load (t := 32) (v := .agg #[.int .i64 start, .int .i64 long, .bool world, .bool again, .int .i64 rule.freq, .int .i64 rule.iv, .int .i64 rule.count, .int .i64 rule.until_, .slice A1 rule.bm.length c1, .slice A2 rule.bd.length c2, .slice A3 rule.bw.length c3, .slice A4 rule.bs.length c4, .int .i64 rule.start, .slice A5 ex.length c5, .slice A6 plus.length c6, .slice A7 ch.length c7]) rfl rfl (le _) ?_; simp only [Act.put, List.setIfInBounds_toArray, List.set_cons_zero, List.set_cons_succ])
       go_at_call 8
       with_reducible refine (H0.out _).mono ?_
       rintro q w' ⟨rfl, hb⟩
       obtain ⟨g', rfl⟩ := Gr.on _ hb
       clear hb
       go_wp2_with (refine wpList_load (t := 32) (v := .agg #[.int .i64 start, .int .i64 long, .bool world, .bool again, .int .i64 rule.freq, .int .i64 rule.iv, .int .i64 rule.count, .int .i64 rule.until_, .slice A1 rule.bm.length c1, .slice A2 rule.bd.length c2, .slice A3 rule.bw.length c3, .slice A4 rule.bs.length c4, .int .i64 rule.start, .slice A5 ex.length c5, .slice A6 plus.length c6, .slice A7 ch.length c7]) rfl rfl (le _) ?_; simp only [Act.put, List.setIfInBounds_toArray, List.set_cons_zero, List.set_cons_succ])
       go_at_call 11
       with_reducible refine (H1.out _).mono ?_
       rintro q w' ⟨rfl, hb⟩
       obtain ⟨g', rfl⟩ := Gr.on _ hb
       clear hb
       go_wp2_with (refine wpList_load (t := 32) (v := .agg #[.int .i64 start, .int .i64 long, .bool world, .bool again, .int .i64 rule.freq, .int .i64 rule.iv, .int .i64 rule.count, .int .i64 rule.until_, .slice A1 rule.bm.length c1, .slice A2 rule.bd.length c2, .slice A3 rule.bw.length c3, .slice A4 rule.bs.length c4, .int .i64 rule.start, .slice A5 ex.length c5, .slice A6 plus.length c6, .slice A7 ch.length c7]) rfl rfl (le _) ?_; simp only [Act.put, List.setIfInBounds_toArray, List.set_cons_zero, List.set_cons_succ])
       go_at_call 9
       with_reducible refine (HF.out _).mono ?_
       rintro q w' ⟨rfl, hb⟩
       obtain ⟨g', rfl⟩ := Gr.on _ hb
       clear hb
       go_wp2_with (refine wpList_load (t := 32) (v := .agg #[.int .i64 start, .int .i64 long, .bool world, .bool again, .int .i64 rule.freq, .int .i64 rule.iv, .int .i64 rule.count, .int .i64 rule.until_, .slice A1 rule.bm.length c1, .slice A2 rule.bd.length c2, .slice A3 rule.bw.length c3, .slice A4 rule.bs.length c4, .int .i64 rule.start, .slice A5 ex.length c5, .slice A6 plus.length c6, .slice A7 ch.length c7]) rfl rfl (le _) ?_; simp only [Act.put, List.setIfInBounds_toArray, List.set_cons_zero, List.set_cons_succ])
       go_at_call 16
       with_reducible refine (H3.out _).mono ?_
       rintro q w' ⟨rfl, hb⟩
       obtain ⟨g', rfl⟩ := Gr.on _ hb
       clear hb
       go_wp2_with (refine wpList_load (t := 32) (v := .agg #[.int .i64 start, .int .i64 long, .bool world, .bool again, .int .i64 rule.freq, .int .i64 rule.iv, .int .i64 rule.count, .int .i64 rule.until_, .slice A1 rule.bm.length c1, .slice A2 rule.bd.length c2, .slice A3 rule.bw.length c3, .slice A4 rule.bs.length c4, .int .i64 rule.start, .slice A5 ex.length c5, .slice A6 plus.length c6, .slice A7 ch.length c7]) rfl rfl (le _) ?_; simp only [Act.put, List.setIfInBounds_toArray, List.set_cons_zero, List.set_cons_succ])
       go_ret
       exact ⟨rfl, HG.out _⟩
    | true =>
      simp only [Bool.true_and] at H3
      cases q2 with
      | false =>
        as_aux_lemma =>
         go_enter Tryz.func4, Tryz.ntmps4
         go_upto_region 1 with fail
         rw [E1.out]
         go_wp2_with (refine wpList_load (t := 32) (v := .agg #[.int .i64 start, .int .i64 long, .bool world, .bool again, .int .i64 rule.freq, .int .i64 rule.iv, .int .i64 rule.count, .int .i64 rule.until_, .slice A1 rule.bm.length c1, .slice A2 rule.bd.length c2, .slice A3 rule.bw.length c3, .slice A4 rule.bs.length c4, .int .i64 rule.start, .slice A5 ex.length c5, .slice A6 plus.length c6, .slice A7 ch.length c7]) rfl rfl (le _) ?_; simp only [Act.put, List.setIfInBounds_toArray, List.set_cons_zero, List.set_cons_succ])
         go_at_call 8
         with_reducible refine (H0.out _).mono ?_
         rintro q w' ⟨rfl, hb⟩
         obtain ⟨g', rfl⟩ := Gr.on _ hb
         clear hb
         go_wp2_with (refine wpList_load (t := 32) (v := .agg #[.int .i64 start, .int .i64 long, .bool world, .bool again, .int .i64 rule.freq, .int .i64 rule.iv, .int .i64 rule.count, .int .i64 rule.until_, .slice A1 rule.bm.length c1, .slice A2 rule.bd.length c2, .slice A3 rule.bw.length c3, .slice A4 rule.bs.length c4, .int .i64 rule.start, .slice A5 ex.length c5, .slice A6 plus.length c6, .slice A7 ch.length c7]) rfl rfl (le _) ?_; simp only [Act.put, List.setIfInBounds_toArray, List.set_cons_zero, List.set_cons_succ])
         go_at_call 11
         with_reducible refine (H1.out _).mono ?_
         rintro q w' ⟨rfl, hb⟩
         obtain ⟨g', rfl⟩ := Gr.on _ hb
         clear hb
         go_wp2_with (refine wpList_load (t := 32) (v := .agg #[.int .i64 start, .int .i64 long, .bool world, .bool again, .int .i64 rule.freq, .int .i64 rule.iv, .int .i64 rule.count, .int .i64 rule.until_, .slice A1 rule.bm.length c1, .slice A2 rule.bd.length c2, .slice A3 rule.bw.length c3, .slice A4 rule.bs.length c4, .int .i64 rule.start, .slice A5 ex.length c5, .slice A6 plus.length c6, .slice A7 ch.length c7]) rfl rfl (le _) ?_; simp only [Act.put, List.setIfInBounds_toArray, List.set_cons_zero, List.set_cons_succ])
         go_at_call 15
         with_reducible refine (H2.out _).mono ?_
         rintro q w' ⟨rfl, hb⟩
         obtain ⟨g', rfl⟩ := Gr.on _ hb
         clear hb
         go_wp2_with (refine wpList_load (t := 32) (v := .agg #[.int .i64 start, .int .i64 long, .bool world, .bool again, .int .i64 rule.freq, .int .i64 rule.iv, .int .i64 rule.count, .int .i64 rule.until_, .slice A1 rule.bm.length c1, .slice A2 rule.bd.length c2, .slice A3 rule.bw.length c3, .slice A4 rule.bs.length c4, .int .i64 rule.start, .slice A5 ex.length c5, .slice A6 plus.length c6, .slice A7 ch.length c7]) rfl rfl (le _) ?_; simp only [Act.put, List.setIfInBounds_toArray, List.set_cons_zero, List.set_cons_succ])
         go_at_call 9
         with_reducible refine (HF.out _).mono ?_
         rintro q w' ⟨rfl, hb⟩
         obtain ⟨g', rfl⟩ := Gr.on _ hb
         clear hb
         go_wp2_with (refine wpList_load (t := 32) (v := .agg #[.int .i64 start, .int .i64 long, .bool world, .bool again, .int .i64 rule.freq, .int .i64 rule.iv, .int .i64 rule.count, .int .i64 rule.until_, .slice A1 rule.bm.length c1, .slice A2 rule.bd.length c2, .slice A3 rule.bw.length c3, .slice A4 rule.bs.length c4, .int .i64 rule.start, .slice A5 ex.length c5, .slice A6 plus.length c6, .slice A7 ch.length c7]) rfl rfl (le _) ?_; simp only [Act.put, List.setIfInBounds_toArray, List.set_cons_zero, List.set_cons_succ])
         go_at_call 16
         with_reducible refine (H3.out _).mono ?_
         rintro q w' ⟨rfl, hb⟩
         obtain ⟨g', rfl⟩ := Gr.on _ hb
         clear hb
         go_wp2_with (refine wpList_load (t := 32) (v := .agg #[.int .i64 start, .int .i64 long, .bool world, .bool again, .int .i64 rule.freq, .int .i64 rule.iv, .int .i64 rule.count, .int .i64 rule.until_, .slice A1 rule.bm.length c1, .slice A2 rule.bd.length c2, .slice A3 rule.bw.length c3, .slice A4 rule.bs.length c4, .int .i64 rule.start, .slice A5 ex.length c5, .slice A6 plus.length c6, .slice A7 ch.length c7]) rfl rfl (le _) ?_; simp only [Act.put, List.setIfInBounds_toArray, List.set_cons_zero, List.set_cons_succ])
         go_ret
         exact ⟨rfl, HG.out _⟩
      | true =>
        as_aux_lemma =>
         go_enter Tryz.func4, Tryz.ntmps4
         go_upto_region 1 with fail
         rw [E1.out]
         go_wp2_with (refine wpList_load (t := 32) (v := .agg #[.int .i64 start, .int .i64 long, .bool world, .bool again, .int .i64 rule.freq, .int .i64 rule.iv, .int .i64 rule.count, .int .i64 rule.until_, .slice A1 rule.bm.length c1, .slice A2 rule.bd.length c2, .slice A3 rule.bw.length c3, .slice A4 rule.bs.length c4, .int .i64 rule.start, .slice A5 ex.length c5, .slice A6 plus.length c6, .slice A7 ch.length c7]) rfl rfl (le _) ?_; simp only [Act.put, List.setIfInBounds_toArray, List.set_cons_zero, List.set_cons_succ])
         go_at_call 8
         with_reducible refine (H0.out _).mono ?_
         rintro q w' ⟨rfl, hb⟩
         obtain ⟨g', rfl⟩ := Gr.on _ hb
         clear hb
         go_wp2_with (refine wpList_load (t := 32) (v := .agg #[.int .i64 start, .int .i64 long, .bool world, .bool again, .int .i64 rule.freq, .int .i64 rule.iv, .int .i64 rule.count, .int .i64 rule.until_, .slice A1 rule.bm.length c1, .slice A2 rule.bd.length c2, .slice A3 rule.bw.length c3, .slice A4 rule.bs.length c4, .int .i64 rule.start, .slice A5 ex.length c5, .slice A6 plus.length c6, .slice A7 ch.length c7]) rfl rfl (le _) ?_; simp only [Act.put, List.setIfInBounds_toArray, List.set_cons_zero, List.set_cons_succ])
         go_at_call 11
         with_reducible refine (H1.out _).mono ?_
         rintro q w' ⟨rfl, hb⟩
         obtain ⟨g', rfl⟩ := Gr.on _ hb
         clear hb
         go_wp2_with (refine wpList_load (t := 32) (v := .agg #[.int .i64 start, .int .i64 long, .bool world, .bool again, .int .i64 rule.freq, .int .i64 rule.iv, .int .i64 rule.count, .int .i64 rule.until_, .slice A1 rule.bm.length c1, .slice A2 rule.bd.length c2, .slice A3 rule.bw.length c3, .slice A4 rule.bs.length c4, .int .i64 rule.start, .slice A5 ex.length c5, .slice A6 plus.length c6, .slice A7 ch.length c7]) rfl rfl (le _) ?_; simp only [Act.put, List.setIfInBounds_toArray, List.set_cons_zero, List.set_cons_succ])
         go_at_call 15
         with_reducible refine (H2.out _).mono ?_
         rintro q w' ⟨rfl, hb⟩
         obtain ⟨g', rfl⟩ := Gr.on _ hb
         clear hb
         go_wp2_with (refine wpList_load (t := 32) (v := .agg #[.int .i64 start, .int .i64 long, .bool world, .bool again, .int .i64 rule.freq, .int .i64 rule.iv, .int .i64 rule.count, .int .i64 rule.until_, .slice A1 rule.bm.length c1, .slice A2 rule.bd.length c2, .slice A3 rule.bw.length c3, .slice A4 rule.bs.length c4, .int .i64 rule.start, .slice A5 ex.length c5, .slice A6 plus.length c6, .slice A7 ch.length c7]) rfl rfl (le _) ?_; simp only [Act.put, List.setIfInBounds_toArray, List.set_cons_zero, List.set_cons_succ])
         go_at_call 9
         with_reducible refine (HF.out _).mono ?_
         rintro q w' ⟨rfl, hb⟩
         obtain ⟨g', rfl⟩ := Gr.on _ hb
         clear hb
         go_wp2_with (refine wpList_load (t := 32) (v := .agg #[.int .i64 start, .int .i64 long, .bool world, .bool again, .int .i64 rule.freq, .int .i64 rule.iv, .int .i64 rule.count, .int .i64 rule.until_, .slice A1 rule.bm.length c1, .slice A2 rule.bd.length c2, .slice A3 rule.bw.length c3, .slice A4 rule.bs.length c4, .int .i64 rule.start, .slice A5 ex.length c5, .slice A6 plus.length c6, .slice A7 ch.length c7]) rfl rfl (le _) ?_; simp only [Act.put, List.setIfInBounds_toArray, List.set_cons_zero, List.set_cons_succ])
         go_at_call 16
         with_reducible refine (H3.out _).mono ?_
         rintro q w' ⟨rfl, hb⟩
         obtain ⟨g', rfl⟩ := Gr.on _ hb
         clear hb
         go_wp2_with (refine wpList_load (t := 32) (v := .agg #[.int .i64 start, .int .i64 long, .bool world, .bool again, .int .i64 rule.freq, .int .i64 rule.iv, .int .i64 rule.count, .int .i64 rule.until_, .slice A1 rule.bm.length c1, .slice A2 rule.bd.length c2, .slice A3 rule.bw.length c3, .slice A4 rule.bs.length c4, .int .i64 rule.start, .slice A5 ex.length c5, .slice A6 plus.length c6, .slice A7 ch.length c7]) rfl rfl (le _) ?_; simp only [Act.put, List.setIfInBounds_toArray, List.set_cons_zero, List.set_cons_succ])
         go_ret
         exact ⟨rfl, HG.out _⟩
end Go.Proofs.YtfjmofefciopmaaGreat
end
