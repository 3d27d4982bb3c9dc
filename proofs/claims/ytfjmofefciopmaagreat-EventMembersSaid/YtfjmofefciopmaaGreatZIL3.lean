import Derived.Test.YtfjmofefciopmaaGreatZIL2
import Derived.Test.YtfjmofefciopmaaGreatZMX
import Derived.Test.YtfjmofefciopmaaGreatZMB
/- Layer 11's law on the members of a window. -/
section
namespace Go.Proofs.YtfjmofefciopmaaGreat
open Go.ChangeShapes Go.WideShapes Go.ChangeAt Go.RowKit Go.Joins Sp Ev Qr
set_option maxRecDepth 100000 in
set_option maxHeartbeats 8000000 in
theorem eventMembers_any (z : Zn.Z) (Z : Option Addr) (cz : Nat) (e : Evt) (A1 A2 A3 A4 A5 A6 A7 : Option Addr) (c1 c2 c3 c4 c5 c6 c7 : Nat) (x1 x2 : Int) (hw : ZWf z) (hst : -9223372036854775808 ≤ e.start ∧ e.start ≤ 9223372036854775807)
    (hx1 : -9223372036854775808 ≤ x1 ∧ x1 ≤ 9223372036854775807) (hx2 : -9223372036854775808 ≤ x2 ∧ x2 ≤ 9223372036854775807) (w : World) (hz : ZAt w Z z) (h : EAt w e A1 A2 A3 A4 A5 A6 A7 c1 c2 c3 c4 c5 c6 c7) :
    Calls Tryz.prog 3 #[.agg #[.int .i64 z.base, .slice Z z.n cz], .agg (ecells e A1 A2 A3 A4 A5 A6 A7 c1 c2 c3 c4 c5 c6 c7), .agg #[.int .i64 x1, .int .i64 x2]] w fun q w' => q = .returned (.bool true) ∧ Below w.heap.size w w' := by
  obtain ⟨W, hW⟩ : ∃ W, ((w.alloc (.cells #[.int .i64 z.base, .slice Z z.n cz] 24)).alloc (.cells (ecells e A1 A2 A3 A4 A5 A6 A7 c1 c2 c3 c4 c5 c6 c7) 32)).alloc (.cells #[.int .i64 x1, .int .i64 x2] 34) = W := ⟨_, rfl⟩
  have hBW : Below w.heap.size w W := by rw [← hW]; exact (((Below.refl _ w).alloc (Nat.le_refl _) _).alloc (by simp) _).alloc (by simp; omega) _
  have HG : Hid (∀ g : Gr W, Below w.heap.size w g.val) := fun g => hBW.trans (g.ok.mono hBW.size)
  have HX3 : Box3E e A1 A2 A3 A4 A5 A6 A7 c1 c2 c3 c4 c5 c6 c7 z Z cz x1 x2 W w.heap.size := by rw [← hW]; exact box3E e A1 A2 A3 A4 A5 A6 A7 c1 c2 c3 c4 c5 c6 c7 z Z cz x1 x2 w
  have z0 := HX3.z0
  have z1 := HX3.z1
  have HB := HX3.e
  have w0 := HX3.w0
  have w1 := HX3.w1
  have HE : ∀ g : Gr W, EAt g.val e A1 A2 A3 A4 A5 A6 A7 c1 c2 c3 c4 c5 c6 c7 := fun g => h.below (HG.out g)
  have HZ : ∀ g : Gr W, ZAt g.val Z z := fun g => hz.below (HG.out g)
  obtain ⟨q0, hq0⟩ : ∃ q, greatEB e = q := ⟨_, rfl⟩
  obtain ⟨q1, hq1⟩ : ∃ q, mayEB e = q := ⟨_, rfl⟩
  have hzn : z.n ≤ 9223372036854775807 := hw.2.1
  have H0 : Hid (∀ g : Gr W, Calls Tryz.prog 8 #[.agg (ecells e A1 A2 A3 A4 A5 A6 A7 c1 c2 c3 c4 c5 c6 c7)] g.val fun q w' => q = .returned (.bool q0) ∧ Below g.val.heap.size g.val w') := fun g => by rw [← hq0]; exact rgreat11_any e A1 A2 A3 A4 A5 A6 A7 c1 c2 c3 c4 c5 c6 c7 g.val (HE g)
  have HF : Hid (∀ g : Gr W, Calls Tryz.prog 9 #[] g.val fun q w' => q = .returned (.bool true) ∧ Below g.val.heap.size g.val w') := fun g => fixed11_any g.val
  have H1 : Hid (q0 = false → ∀ g : Gr W, Calls Tryz.prog 10 #[.agg (ecells e A1 A2 A3 A4 A5 A6 A7 c1 c2 c3 c4 c5 c6 c7)] g.val fun q w' => q = .returned (.bool q1) ∧ Below g.val.heap.size g.val w') := fun k g => by
    have := great_len (hq0.trans k); rw [← hq1]; exact pmay11_any e A1 A2 A3 A4 A5 A6 A7 c1 c2 c3 c4 c5 c6 c7 g.val (by omega) (by omega) (by omega) (HE g)
  have H2 : Hid (q0 = false → ∀ g : Gr W, Calls Tryz.prog 11 #[.agg (ecells e A1 A2 A3 A4 A5 A6 A7 c1 c2 c3 c4 c5 c6 c7)] g.val fun q w' => q = .returned (.bool q1) ∧ Below g.val.heap.size g.val w') := fun k g => by
    have := great_len (hq0.trans k); rw [← hq1]; exact rmay11_any e A1 A2 A3 A4 A5 A6 A7 c1 c2 c3 c4 c5 c6 c7 g.val (by omega) (by omega) (HE g)
  have H3 : Hid (q0 = false → ∀ V, Below W.heap.size W V → Calls Tryz.prog 13 #[.agg #[.int .i64 z.base, .slice Z z.n cz], .agg (ecells e A1 A2 A3 A4 A5 A6 A7 c1 c2 c3 c4 c5 c6 c7), .agg #[.int .i64 x1, .int .i64 x2]] V (RetS (membersV z e (x1, x2)) V)) := fun k V hV => by
    have := great_len (hq0.trans k); exact pmembers_any z Z cz e A1 A2 A3 A4 A5 A6 A7 c1 c2 c3 c4 c5 c6 c7 x1 x2 hw (by omega) (by omega) (by omega) this.2 hx1 hx2 V (HZ ⟨V, hV⟩) (HE ⟨V, hV⟩)
  have H4 : Hid (q0 = false → ∀ V, Below W.heap.size W V → Calls Tryz.prog 14 #[.agg #[.int .i64 z.base, .slice Z z.n cz], .agg (ecells e A1 A2 A3 A4 A5 A6 A7 c1 c2 c3 c4 c5 c6 c7), .agg #[.int .i64 x1, .int .i64 x2]] V (RetS (membersL z e (x1, x2)) V)) := fun k V hV => by
    have := great_len (hq0.trans k); exact rmembers_any z Z cz e A1 A2 A3 A4 A5 A6 A7 c1 c2 c3 c4 c5 c6 c7 x1 x2 V hw (HZ ⟨V, hV⟩) (HE ⟨V, hV⟩) (by omega) (by omega) hx1 hx2
  have HDOC : Hid ((q1 = true → x1 < x2 → (-1073741824 ≤ x1 ∧ x2 ≤ 1073741824)) → membersL z e (x1, x2) = membersV z e (x1, x2)) := fun k => by
    refine members_doc ?_
    by_cases g : mayE e ∧ Zn.mayP z ∧ winP (x1, x2)
    · have a := k (by rw [← hq1]; exact decide_eq_true g.1) g.2.2.1
      exact .inl ⟨g.2.2.1, by simp only; omega, by simp only; omega, g.2.2.2⟩
    · exact .inr g
  generalize membersV z e (x1, x2) = LV at *
  generalize membersL z e (x1, x2) = LL at *
  have HSA : Hid (∀ (a b : List Spn) (A B : Option Addr) (c d : Nat) (w : World), Sl w A a.length c (sv a) → Sl w B b.length d (sv b) → Calls Tryz.prog 12 #[.slice A a.length c, .slice B b.length d] w fun e w' => e = .returned (.bool (decide (a = b))) ∧ Below w.heap.size w w') := fun a b A B c d w ha hb => rsame_any a b A B c d w ha hb
  clear hBW HX3 HE HZ h hz hst hq0 hq1 hw
  have HLE := fun G : Gr W => load_event e A1 A2 A3 A4 A5 A6 A7 c1 c2 c3 c4 c5 c6 c7 G.val (w.heap.size + 1) (HB G)
  obtain ⟨start, long, world, again, rule, ex, plus, ch⟩ := e
  unfold ecells at HLE HB hW H0 H1 H2 H3 H4 ⊢
  simp only at *
  obtain ⟨g0, hg0⟩ := Gr.start W
  have E1 := Lib.hid (hW.trans hg0)
  have le : ∀ G : Gr W, (Instr.loadAt 32 (.pointer (some ⟨w.heap.size + 1, 0, none⟩))).run Tryz.prog G.val = .ok (.agg #[.int .i64 start, .int .i64 long, .bool world, .bool again, .int .i64 rule.freq, .int .i64 rule.iv, .int .i64 rule.count, .int .i64 rule.until_, .slice A1 rule.bm.length c1, .slice A2 rule.bd.length c2, .slice A3 rule.bw.length c3, .slice A4 rule.bs.length c4, .int .i64 rule.start, .slice A5 ex.length c5, .slice A6 plus.length c6, .slice A7 ch.length c7]) G.val := HLE
  clear HB hW hg0 HLE
  by_cases hn : (8 : Int) < z.n
  · have hnb : decide ((8 : Int) < z.n) = true := decide_eq_true hn
    clear H0 H1 H2 H3 H4 HDOC HSA
    as_aux_lemma =>
      go_enter Tryz.func3, Tryz.ntmps3
      go_upto_region 1 with fail
      rw [E1.out]
      go_wp2_with ((with_reducible show wpList _ _ _ _ _ _); refine wpList_load (t := 32) (v := .agg #[.int .i64 start, .int .i64 long, .bool world, .bool again, .int .i64 rule.freq, .int .i64 rule.iv, .int .i64 rule.count, .int .i64 rule.until_, .slice A1 rule.bm.length c1, .slice A2 rule.bd.length c2, .slice A3 rule.bw.length c3, .slice A4 rule.bs.length c4, .int .i64 rule.start, .slice A5 ex.length c5, .slice A6 plus.length c6, .slice A7 ch.length c7]) rfl rfl (le _) ?_; simp only [Act.put, List.setIfInBounds_toArray, List.set_cons_zero, List.set_cons_succ])
      go_at_call 9
      with_reducible refine (HF.out _).mono ?_
      rintro q w' ⟨rfl, hb⟩
      obtain ⟨g', rfl⟩ := Gr.on _ hb
      clear hb
      go_wp2_with ((with_reducible show wpList _ _ _ _ _ _); refine wpList_load (t := 32) (v := .agg #[.int .i64 start, .int .i64 long, .bool world, .bool again, .int .i64 rule.freq, .int .i64 rule.iv, .int .i64 rule.count, .int .i64 rule.until_, .slice A1 rule.bm.length c1, .slice A2 rule.bd.length c2, .slice A3 rule.bw.length c3, .slice A4 rule.bs.length c4, .int .i64 rule.start, .slice A5 ex.length c5, .slice A6 plus.length c6, .slice A7 ch.length c7]) rfl rfl (le _) ?_; simp only [Act.put, List.setIfInBounds_toArray, List.set_cons_zero, List.set_cons_succ])
      go_ret
      exact ⟨rfl, HG.out _⟩
  have hnb : decide ((8 : Int) < z.n) = false := decide_eq_false hn
  cases q0 with
  | true =>
    clear H1 H2 H3 H4 HDOC HSA
    as_aux_lemma =>
      go_enter Tryz.func3, Tryz.ntmps3
      go_upto_region 1 with fail
      rw [E1.out]
      go_wp2_with ((with_reducible show wpList _ _ _ _ _ _); refine wpList_load (t := 32) (v := .agg #[.int .i64 start, .int .i64 long, .bool world, .bool again, .int .i64 rule.freq, .int .i64 rule.iv, .int .i64 rule.count, .int .i64 rule.until_, .slice A1 rule.bm.length c1, .slice A2 rule.bd.length c2, .slice A3 rule.bw.length c3, .slice A4 rule.bs.length c4, .int .i64 rule.start, .slice A5 ex.length c5, .slice A6 plus.length c6, .slice A7 ch.length c7]) rfl rfl (le _) ?_; simp only [Act.put, List.setIfInBounds_toArray, List.set_cons_zero, List.set_cons_succ])
      go_at_call 8
      with_reducible refine (H0.out _).mono ?_
      rintro q w' ⟨rfl, hb⟩
      obtain ⟨g', rfl⟩ := Gr.on _ hb
      clear hb
      go_wp2_with ((with_reducible show wpList _ _ _ _ _ _); refine wpList_load (t := 32) (v := .agg #[.int .i64 start, .int .i64 long, .bool world, .bool again, .int .i64 rule.freq, .int .i64 rule.iv, .int .i64 rule.count, .int .i64 rule.until_, .slice A1 rule.bm.length c1, .slice A2 rule.bd.length c2, .slice A3 rule.bw.length c3, .slice A4 rule.bs.length c4, .int .i64 rule.start, .slice A5 ex.length c5, .slice A6 plus.length c6, .slice A7 ch.length c7]) rfl rfl (le _) ?_; simp only [Act.put, List.setIfInBounds_toArray, List.set_cons_zero, List.set_cons_succ])
      go_at_call 9
      with_reducible refine (HF.out _).mono ?_
      rintro q w' ⟨rfl, hb⟩
      obtain ⟨g', rfl⟩ := Gr.on _ hb
      clear hb
      go_wp2_with ((with_reducible show wpList _ _ _ _ _ _); refine wpList_load (t := 32) (v := .agg #[.int .i64 start, .int .i64 long, .bool world, .bool again, .int .i64 rule.freq, .int .i64 rule.iv, .int .i64 rule.count, .int .i64 rule.until_, .slice A1 rule.bm.length c1, .slice A2 rule.bd.length c2, .slice A3 rule.bw.length c3, .slice A4 rule.bs.length c4, .int .i64 rule.start, .slice A5 ex.length c5, .slice A6 plus.length c6, .slice A7 ch.length c7]) rfl rfl (le _) ?_; simp only [Act.put, List.setIfInBounds_toArray, List.set_cons_zero, List.set_cons_succ])
      go_ret
      exact ⟨rfl, HG.out _⟩
  | false =>
  replace H1 := Lib.hid (H1.out rfl)
  replace H2 := Lib.hid (H2.out rfl)
  replace H3 := Lib.hid (H3.out rfl)
  replace H4 := Lib.hid (H4.out rfl)
  have hqq : (q1 != q1) = false := by simp
  have ways : (x1 < x2 ∧ q1 = true ∧ (x1 < -1073741824 ∨ (-1073741824 ≤ x1 ∧ 1073741824 < x2) ∨ (-1073741824 ≤ x1 ∧ x2 ≤ 1073741824 ∧ 144000 < x2 - x1 ∧ x2 - x1 ≤ 528480))) ∨
      (x2 ≤ x1 ∨ (x1 < x2 ∧ q1 = false) ∨ (x1 < x2 ∧ q1 = true ∧ -1073741824 ≤ x1 ∧ x2 ≤ 1073741824 ∧ (x2 - x1 ≤ 144000 ∨ (144000 < x2 - x1 ∧ 528480 < x2 - x1)))) := by
    cases q1
    · simp; omega
    · simp; omega
  rcases ways with ⟨l1, rfl, l2 | ⟨l2, l3⟩ | ⟨l2, l3, l4, l5⟩⟩ | l1 | ⟨l1, rfl⟩ | ⟨l1, rfl, l2, l3, l4 | ⟨l4, l5⟩⟩
  · as_aux_lemma =>
    try have d1 : decide (x1 < x2) = true := decide_eq_true l1
    try have d1 : decide (x1 < x2) = false := decide_eq_false (by omega)
    try have d2 : decide (x1 < -1073741824) = true := decide_eq_true l2
    try have d2 : decide (x1 < -1073741824) = false := decide_eq_false (by omega)
    try have d3 : decide (1073741824 < x2) = true := decide_eq_true l3
    try have d3 : decide (1073741824 < x2) = false := decide_eq_false (by omega)
    try have hws : IntKind.i64.wrap (x2 - x1) = x2 - x1 := by rw [IntKind.wrap_i64]; omega
    try have d4 : decide (144000 < x2 - x1) = true := decide_eq_true l4
    try have d4 : decide (144000 < x2 - x1) = false := decide_eq_false (by omega)
    try have d5 : decide (x2 - x1 ≤ 528480) = true := decide_eq_true l5
    try have d5 : decide (x2 - x1 ≤ 528480) = false := decide_eq_false (by omega)
    clear HDOC HSA H3 H4
    go_enter Tryz.func3, Tryz.ntmps3
    go_upto_region 1 with fail
    rw [E1.out]
    go_wp2_with ((with_reducible show wpList _ _ _ _ _ _); refine wpList_load (t := 32) (v := .agg #[.int .i64 start, .int .i64 long, .bool world, .bool again, .int .i64 rule.freq, .int .i64 rule.iv, .int .i64 rule.count, .int .i64 rule.until_, .slice A1 rule.bm.length c1, .slice A2 rule.bd.length c2, .slice A3 rule.bw.length c3, .slice A4 rule.bs.length c4, .int .i64 rule.start, .slice A5 ex.length c5, .slice A6 plus.length c6, .slice A7 ch.length c7]) rfl rfl (le _) ?_; simp only [Act.put, List.setIfInBounds_toArray, List.set_cons_zero, List.set_cons_succ])
    go_at_call 8
    with_reducible refine (H0.out _).mono ?_
    rintro q w' ⟨rfl, hb⟩
    obtain ⟨g', rfl⟩ := Gr.on _ hb
    clear hb
    go_wp2_with ((with_reducible show wpList _ _ _ _ _ _); refine wpList_load (t := 32) (v := .agg #[.int .i64 start, .int .i64 long, .bool world, .bool again, .int .i64 rule.freq, .int .i64 rule.iv, .int .i64 rule.count, .int .i64 rule.until_, .slice A1 rule.bm.length c1, .slice A2 rule.bd.length c2, .slice A3 rule.bw.length c3, .slice A4 rule.bs.length c4, .int .i64 rule.start, .slice A5 ex.length c5, .slice A6 plus.length c6, .slice A7 ch.length c7]) rfl rfl (le _) ?_; simp only [Act.put, List.setIfInBounds_toArray, List.set_cons_zero, List.set_cons_succ])
    refine wp_region_lexO (fun V => Below W.heap.size W V) (fun k => [1, 3].contains k) [0, 2, 1, 3, 4] rfl (by kernel_rfl) (by kernel_rfl) (by kernel_rfl) (fun _ _ _ _ _ h => h) (by exact (Gr.ok _).drew) ?_
    generalize hVV : World.drew _ = V
    have hS0 : Below W.heap.size W V := by rw [← hVV]; exact (Gr.ok _).drew
    clear hVV
    repeat (first
      | (refine wpHo_yes (v := .agg #[.int .i64 start, .int .i64 long, .bool world, .bool again, .int .i64 rule.freq, .int .i64 rule.iv, .int .i64 rule.count, .int .i64 rule.until_, .slice A1 rule.bm.length c1, .slice A2 rule.bd.length c2, .slice A3 rule.bw.length c3, .slice A4 rule.bs.length c4, .int .i64 rule.start, .slice A5 ex.length c5, .slice A6 plus.length c6, .slice A7 ch.length c7]) rfl rfl rfl (fun w' hS => exec_load (t := 32) rfl (le ⟨w', hS⟩)) ?_; simp only [List.getElem_toArray, List.getElem_cons_succ, List.getElem_cons_zero, Act.put, List.setIfInBounds_toArray, List.set_cons_zero, List.set_cons_succ])
      | (refine wpHo_yes (v := ?_) rfl rfl rfl (fun w' hS => ?_) ?_; rotate_left; (go_simp; with_reducible rfl); (try simp only [List.getElem_toArray, List.getElem_cons_succ, List.getElem_cons_zero, Act.put, List.setIfInBounds_toArray, List.set_cons_zero, List.set_cons_succ]))
      | (refine wpHo_callYes rfl rfl rfl (fun K hK => ?_); go_simp; (first
        | (go_at_call 10; (with_reducible refine (H1.out ⟨_, hS0⟩).mono ?_); rintro q w3 ⟨rfl, hb⟩; have hS0 := hS0.trans (hb.mono hS0.size); clear hb; refine hK.out _ _ hS0 (fun _ => ?_))
        | (go_at_call 11; (with_reducible refine (H2.out ⟨_, hS0⟩).mono ?_); rintro q w3 ⟨rfl, hb⟩; have hS0 := hS0.trans (hb.mono hS0.size); clear hb; refine hK.out _ _ hS0 (fun _ => ?_))); (try simp only [List.getElem_toArray, List.getElem_cons_succ, List.getElem_cons_zero, Act.put, List.setIfInBounds_toArray, List.set_cons_zero, List.set_cons_succ]); clear hK K))
    have hq3 : ∃ g3 : Gr W, w3 = g3.val := ⟨⟨w3, hS0⟩, rfl⟩
    clear hS0
    obtain ⟨g3, rfl⟩ := hq3
    show Exit.then _ _ _ _ _
    go_wp2_with ((with_reducible show wpList _ _ _ _ _ _); refine wpList_load (t := 32) (v := .agg #[.int .i64 start, .int .i64 long, .bool world, .bool again, .int .i64 rule.freq, .int .i64 rule.iv, .int .i64 rule.count, .int .i64 rule.until_, .slice A1 rule.bm.length c1, .slice A2 rule.bd.length c2, .slice A3 rule.bw.length c3, .slice A4 rule.bs.length c4, .int .i64 rule.start, .slice A5 ex.length c5, .slice A6 plus.length c6, .slice A7 ch.length c7]) rfl rfl (le _) ?_; simp only [Act.put, List.setIfInBounds_toArray, List.set_cons_zero, List.set_cons_succ])
    go_at_call 11
    with_reducible refine (H2.out _).mono ?_
    rintro q w' ⟨rfl, hb⟩
    obtain ⟨g', rfl⟩ := Gr.on _ hb
    clear hb
    go_wp2_with fail
    go_at_call 9
    with_reducible refine (HF.out _).mono ?_
    rintro q w' ⟨rfl, hb⟩
    obtain ⟨g', rfl⟩ := Gr.on _ hb
    clear hb
    go_wp2_with ((with_reducible show wpList _ _ _ _ _ _); refine wpList_load (t := 32) (v := .agg #[.int .i64 start, .int .i64 long, .bool world, .bool again, .int .i64 rule.freq, .int .i64 rule.iv, .int .i64 rule.count, .int .i64 rule.until_, .slice A1 rule.bm.length c1, .slice A2 rule.bd.length c2, .slice A3 rule.bw.length c3, .slice A4 rule.bs.length c4, .int .i64 rule.start, .slice A5 ex.length c5, .slice A6 plus.length c6, .slice A7 ch.length c7]) rfl rfl (le _) ?_; simp only [Act.put, List.setIfInBounds_toArray, List.set_cons_zero, List.set_cons_succ])
    go_ret
    exact ⟨rfl, HG.out _⟩
  · as_aux_lemma =>
    try have d1 : decide (x1 < x2) = true := decide_eq_true l1
    try have d1 : decide (x1 < x2) = false := decide_eq_false (by omega)
    try have d2 : decide (x1 < -1073741824) = true := decide_eq_true l2
    try have d2 : decide (x1 < -1073741824) = false := decide_eq_false (by omega)
    try have d3 : decide (1073741824 < x2) = true := decide_eq_true l3
    try have d3 : decide (1073741824 < x2) = false := decide_eq_false (by omega)
    try have hws : IntKind.i64.wrap (x2 - x1) = x2 - x1 := by rw [IntKind.wrap_i64]; omega
    try have d4 : decide (144000 < x2 - x1) = true := decide_eq_true l4
    try have d4 : decide (144000 < x2 - x1) = false := decide_eq_false (by omega)
    try have d5 : decide (x2 - x1 ≤ 528480) = true := decide_eq_true l5
    try have d5 : decide (x2 - x1 ≤ 528480) = false := decide_eq_false (by omega)
    clear HDOC HSA H3 H4
    go_enter Tryz.func3, Tryz.ntmps3
    go_upto_region 1 with fail
    rw [E1.out]
    go_wp2_with ((with_reducible show wpList _ _ _ _ _ _); refine wpList_load (t := 32) (v := .agg #[.int .i64 start, .int .i64 long, .bool world, .bool again, .int .i64 rule.freq, .int .i64 rule.iv, .int .i64 rule.count, .int .i64 rule.until_, .slice A1 rule.bm.length c1, .slice A2 rule.bd.length c2, .slice A3 rule.bw.length c3, .slice A4 rule.bs.length c4, .int .i64 rule.start, .slice A5 ex.length c5, .slice A6 plus.length c6, .slice A7 ch.length c7]) rfl rfl (le _) ?_; simp only [Act.put, List.setIfInBounds_toArray, List.set_cons_zero, List.set_cons_succ])
    go_at_call 8
    with_reducible refine (H0.out _).mono ?_
    rintro q w' ⟨rfl, hb⟩
    obtain ⟨g', rfl⟩ := Gr.on _ hb
    clear hb
    go_wp2_with ((with_reducible show wpList _ _ _ _ _ _); refine wpList_load (t := 32) (v := .agg #[.int .i64 start, .int .i64 long, .bool world, .bool again, .int .i64 rule.freq, .int .i64 rule.iv, .int .i64 rule.count, .int .i64 rule.until_, .slice A1 rule.bm.length c1, .slice A2 rule.bd.length c2, .slice A3 rule.bw.length c3, .slice A4 rule.bs.length c4, .int .i64 rule.start, .slice A5 ex.length c5, .slice A6 plus.length c6, .slice A7 ch.length c7]) rfl rfl (le _) ?_; simp only [Act.put, List.setIfInBounds_toArray, List.set_cons_zero, List.set_cons_succ])
    refine wp_region_lexO (fun V => Below W.heap.size W V) (fun k => [1, 3].contains k) [0, 2, 1, 3, 4] rfl (by kernel_rfl) (by kernel_rfl) (by kernel_rfl) (fun _ _ _ _ _ h => h) (by exact (Gr.ok _).drew) ?_
    generalize hVV : World.drew _ = V
    have hS0 : Below W.heap.size W V := by rw [← hVV]; exact (Gr.ok _).drew
    clear hVV
    repeat (first
      | (refine wpHo_yes (v := .agg #[.int .i64 start, .int .i64 long, .bool world, .bool again, .int .i64 rule.freq, .int .i64 rule.iv, .int .i64 rule.count, .int .i64 rule.until_, .slice A1 rule.bm.length c1, .slice A2 rule.bd.length c2, .slice A3 rule.bw.length c3, .slice A4 rule.bs.length c4, .int .i64 rule.start, .slice A5 ex.length c5, .slice A6 plus.length c6, .slice A7 ch.length c7]) rfl rfl rfl (fun w' hS => exec_load (t := 32) rfl (le ⟨w', hS⟩)) ?_; simp only [List.getElem_toArray, List.getElem_cons_succ, List.getElem_cons_zero, Act.put, List.setIfInBounds_toArray, List.set_cons_zero, List.set_cons_succ])
      | (refine wpHo_yes (v := ?_) rfl rfl rfl (fun w' hS => ?_) ?_; rotate_left; (go_simp; with_reducible rfl); (try simp only [List.getElem_toArray, List.getElem_cons_succ, List.getElem_cons_zero, Act.put, List.setIfInBounds_toArray, List.set_cons_zero, List.set_cons_succ]))
      | (refine wpHo_callYes rfl rfl rfl (fun K hK => ?_); go_simp; (first
        | (go_at_call 10; (with_reducible refine (H1.out ⟨_, hS0⟩).mono ?_); rintro q w3 ⟨rfl, hb⟩; have hS0 := hS0.trans (hb.mono hS0.size); clear hb; refine hK.out _ _ hS0 (fun _ => ?_))
        | (go_at_call 11; (with_reducible refine (H2.out ⟨_, hS0⟩).mono ?_); rintro q w3 ⟨rfl, hb⟩; have hS0 := hS0.trans (hb.mono hS0.size); clear hb; refine hK.out _ _ hS0 (fun _ => ?_))); (try simp only [List.getElem_toArray, List.getElem_cons_succ, List.getElem_cons_zero, Act.put, List.setIfInBounds_toArray, List.set_cons_zero, List.set_cons_succ]); clear hK K))
    have hq3 : ∃ g3 : Gr W, w3 = g3.val := ⟨⟨w3, hS0⟩, rfl⟩
    clear hS0
    obtain ⟨g3, rfl⟩ := hq3
    show Exit.then _ _ _ _ _
    go_wp2_with ((with_reducible show wpList _ _ _ _ _ _); refine wpList_load (t := 32) (v := .agg #[.int .i64 start, .int .i64 long, .bool world, .bool again, .int .i64 rule.freq, .int .i64 rule.iv, .int .i64 rule.count, .int .i64 rule.until_, .slice A1 rule.bm.length c1, .slice A2 rule.bd.length c2, .slice A3 rule.bw.length c3, .slice A4 rule.bs.length c4, .int .i64 rule.start, .slice A5 ex.length c5, .slice A6 plus.length c6, .slice A7 ch.length c7]) rfl rfl (le _) ?_; simp only [Act.put, List.setIfInBounds_toArray, List.set_cons_zero, List.set_cons_succ])
    go_at_call 11
    with_reducible refine (H2.out _).mono ?_
    rintro q w' ⟨rfl, hb⟩
    obtain ⟨g', rfl⟩ := Gr.on _ hb
    clear hb
    go_wp2_with fail
    go_at_call 9
    with_reducible refine (HF.out _).mono ?_
    rintro q w' ⟨rfl, hb⟩
    obtain ⟨g', rfl⟩ := Gr.on _ hb
    clear hb
    go_wp2_with ((with_reducible show wpList _ _ _ _ _ _); refine wpList_load (t := 32) (v := .agg #[.int .i64 start, .int .i64 long, .bool world, .bool again, .int .i64 rule.freq, .int .i64 rule.iv, .int .i64 rule.count, .int .i64 rule.until_, .slice A1 rule.bm.length c1, .slice A2 rule.bd.length c2, .slice A3 rule.bw.length c3, .slice A4 rule.bs.length c4, .int .i64 rule.start, .slice A5 ex.length c5, .slice A6 plus.length c6, .slice A7 ch.length c7]) rfl rfl (le _) ?_; simp only [Act.put, List.setIfInBounds_toArray, List.set_cons_zero, List.set_cons_succ])
    go_ret
    exact ⟨rfl, HG.out _⟩
  · as_aux_lemma =>
    try have d1 : decide (x1 < x2) = true := decide_eq_true l1
    try have d1 : decide (x1 < x2) = false := decide_eq_false (by omega)
    try have d2 : decide (x1 < -1073741824) = true := decide_eq_true l2
    try have d2 : decide (x1 < -1073741824) = false := decide_eq_false (by omega)
    try have d3 : decide (1073741824 < x2) = true := decide_eq_true l3
    try have d3 : decide (1073741824 < x2) = false := decide_eq_false (by omega)
    try have hws : IntKind.i64.wrap (x2 - x1) = x2 - x1 := by rw [IntKind.wrap_i64]; omega
    try have d4 : decide (144000 < x2 - x1) = true := decide_eq_true l4
    try have d4 : decide (144000 < x2 - x1) = false := decide_eq_false (by omega)
    try have d5 : decide (x2 - x1 ≤ 528480) = true := decide_eq_true l5
    try have d5 : decide (x2 - x1 ≤ 528480) = false := decide_eq_false (by omega)
    clear HDOC HSA H3 H4
    go_enter Tryz.func3, Tryz.ntmps3
    go_upto_region 1 with fail
    rw [E1.out]
    go_wp2_with ((with_reducible show wpList _ _ _ _ _ _); refine wpList_load (t := 32) (v := .agg #[.int .i64 start, .int .i64 long, .bool world, .bool again, .int .i64 rule.freq, .int .i64 rule.iv, .int .i64 rule.count, .int .i64 rule.until_, .slice A1 rule.bm.length c1, .slice A2 rule.bd.length c2, .slice A3 rule.bw.length c3, .slice A4 rule.bs.length c4, .int .i64 rule.start, .slice A5 ex.length c5, .slice A6 plus.length c6, .slice A7 ch.length c7]) rfl rfl (le _) ?_; simp only [Act.put, List.setIfInBounds_toArray, List.set_cons_zero, List.set_cons_succ])
    go_at_call 8
    with_reducible refine (H0.out _).mono ?_
    rintro q w' ⟨rfl, hb⟩
    obtain ⟨g', rfl⟩ := Gr.on _ hb
    clear hb
    go_wp2_with ((with_reducible show wpList _ _ _ _ _ _); refine wpList_load (t := 32) (v := .agg #[.int .i64 start, .int .i64 long, .bool world, .bool again, .int .i64 rule.freq, .int .i64 rule.iv, .int .i64 rule.count, .int .i64 rule.until_, .slice A1 rule.bm.length c1, .slice A2 rule.bd.length c2, .slice A3 rule.bw.length c3, .slice A4 rule.bs.length c4, .int .i64 rule.start, .slice A5 ex.length c5, .slice A6 plus.length c6, .slice A7 ch.length c7]) rfl rfl (le _) ?_; simp only [Act.put, List.setIfInBounds_toArray, List.set_cons_zero, List.set_cons_succ])
    refine wp_region_lexO (fun V => Below W.heap.size W V) (fun k => [1, 3].contains k) [0, 2, 1, 3, 4] rfl (by kernel_rfl) (by kernel_rfl) (by kernel_rfl) (fun _ _ _ _ _ h => h) (by exact (Gr.ok _).drew) ?_
    generalize hVV : World.drew _ = V
    have hS0 : Below W.heap.size W V := by rw [← hVV]; exact (Gr.ok _).drew
    clear hVV
    repeat (first
      | (refine wpHo_yes (v := .agg #[.int .i64 start, .int .i64 long, .bool world, .bool again, .int .i64 rule.freq, .int .i64 rule.iv, .int .i64 rule.count, .int .i64 rule.until_, .slice A1 rule.bm.length c1, .slice A2 rule.bd.length c2, .slice A3 rule.bw.length c3, .slice A4 rule.bs.length c4, .int .i64 rule.start, .slice A5 ex.length c5, .slice A6 plus.length c6, .slice A7 ch.length c7]) rfl rfl rfl (fun w' hS => exec_load (t := 32) rfl (le ⟨w', hS⟩)) ?_; simp only [List.getElem_toArray, List.getElem_cons_succ, List.getElem_cons_zero, Act.put, List.setIfInBounds_toArray, List.set_cons_zero, List.set_cons_succ])
      | (refine wpHo_yes (v := ?_) rfl rfl rfl (fun w' hS => ?_) ?_; rotate_left; (go_simp; with_reducible rfl); (try simp only [List.getElem_toArray, List.getElem_cons_succ, List.getElem_cons_zero, Act.put, List.setIfInBounds_toArray, List.set_cons_zero, List.set_cons_succ]))
      | (refine wpHo_callYes rfl rfl rfl (fun K hK => ?_); go_simp; (first
        | (go_at_call 10; (with_reducible refine (H1.out ⟨_, hS0⟩).mono ?_); rintro q w3 ⟨rfl, hb⟩; have hS0 := hS0.trans (hb.mono hS0.size); clear hb; refine hK.out _ _ hS0 (fun _ => ?_))
        | (go_at_call 11; (with_reducible refine (H2.out ⟨_, hS0⟩).mono ?_); rintro q w3 ⟨rfl, hb⟩; have hS0 := hS0.trans (hb.mono hS0.size); clear hb; refine hK.out _ _ hS0 (fun _ => ?_))); (try simp only [List.getElem_toArray, List.getElem_cons_succ, List.getElem_cons_zero, Act.put, List.setIfInBounds_toArray, List.set_cons_zero, List.set_cons_succ]); clear hK K))
    have hq3 : ∃ g3 : Gr W, w3 = g3.val := ⟨⟨w3, hS0⟩, rfl⟩
    clear hS0
    obtain ⟨g3, rfl⟩ := hq3
    show Exit.then _ _ _ _ _
    go_wp2_with ((with_reducible show wpList _ _ _ _ _ _); refine wpList_load (t := 32) (v := .agg #[.int .i64 start, .int .i64 long, .bool world, .bool again, .int .i64 rule.freq, .int .i64 rule.iv, .int .i64 rule.count, .int .i64 rule.until_, .slice A1 rule.bm.length c1, .slice A2 rule.bd.length c2, .slice A3 rule.bw.length c3, .slice A4 rule.bs.length c4, .int .i64 rule.start, .slice A5 ex.length c5, .slice A6 plus.length c6, .slice A7 ch.length c7]) rfl rfl (le _) ?_; simp only [Act.put, List.setIfInBounds_toArray, List.set_cons_zero, List.set_cons_succ])
    go_at_call 11
    with_reducible refine (H2.out _).mono ?_
    rintro q w' ⟨rfl, hb⟩
    obtain ⟨g', rfl⟩ := Gr.on _ hb
    clear hb
    go_wp2_with fail
    go_at_call 9
    with_reducible refine (HF.out _).mono ?_
    rintro q w' ⟨rfl, hb⟩
    obtain ⟨g', rfl⟩ := Gr.on _ hb
    clear hb
    go_wp2_with ((with_reducible show wpList _ _ _ _ _ _); refine wpList_load (t := 32) (v := .agg #[.int .i64 start, .int .i64 long, .bool world, .bool again, .int .i64 rule.freq, .int .i64 rule.iv, .int .i64 rule.count, .int .i64 rule.until_, .slice A1 rule.bm.length c1, .slice A2 rule.bd.length c2, .slice A3 rule.bw.length c3, .slice A4 rule.bs.length c4, .int .i64 rule.start, .slice A5 ex.length c5, .slice A6 plus.length c6, .slice A7 ch.length c7]) rfl rfl (le _) ?_; simp only [Act.put, List.setIfInBounds_toArray, List.set_cons_zero, List.set_cons_succ])
    go_ret
    exact ⟨rfl, HG.out _⟩
  · as_aux_lemma =>
    try have d1 : decide (x1 < x2) = true := decide_eq_true l1
    try have d1 : decide (x1 < x2) = false := decide_eq_false (by omega)
    try have d2 : decide (x1 < -1073741824) = true := decide_eq_true l2
    try have d2 : decide (x1 < -1073741824) = false := decide_eq_false (by omega)
    try have d3 : decide (1073741824 < x2) = true := decide_eq_true l3
    try have d3 : decide (1073741824 < x2) = false := decide_eq_false (by omega)
    try have hws : IntKind.i64.wrap (x2 - x1) = x2 - x1 := by rw [IntKind.wrap_i64]; omega
    try have d4 : decide (144000 < x2 - x1) = true := decide_eq_true l4
    try have d4 : decide (144000 < x2 - x1) = false := decide_eq_false (by omega)
    try have d5 : decide (x2 - x1 ≤ 528480) = true := decide_eq_true l5
    try have d5 : decide (x2 - x1 ≤ 528480) = false := decide_eq_false (by omega)
    have HDE : Hid (LL = LV) := HDOC.out (by intro k h; first | omega | (cases k))
    clear HDOC
    go_enter Tryz.func3, Tryz.ntmps3
    go_upto_region 1 with fail
    rw [E1.out]
    go_wp2_with ((with_reducible show wpList _ _ _ _ _ _); refine wpList_load (t := 32) (v := .agg #[.int .i64 start, .int .i64 long, .bool world, .bool again, .int .i64 rule.freq, .int .i64 rule.iv, .int .i64 rule.count, .int .i64 rule.until_, .slice A1 rule.bm.length c1, .slice A2 rule.bd.length c2, .slice A3 rule.bw.length c3, .slice A4 rule.bs.length c4, .int .i64 rule.start, .slice A5 ex.length c5, .slice A6 plus.length c6, .slice A7 ch.length c7]) rfl rfl (le _) ?_; simp only [Act.put, List.setIfInBounds_toArray, List.set_cons_zero, List.set_cons_succ])
    go_at_call 8
    with_reducible refine (H0.out _).mono ?_
    rintro q w' ⟨rfl, hb⟩
    obtain ⟨g', rfl⟩ := Gr.on _ hb
    clear hb
    go_wp2_with ((with_reducible show wpList _ _ _ _ _ _); refine wpList_load (t := 32) (v := .agg #[.int .i64 start, .int .i64 long, .bool world, .bool again, .int .i64 rule.freq, .int .i64 rule.iv, .int .i64 rule.count, .int .i64 rule.until_, .slice A1 rule.bm.length c1, .slice A2 rule.bd.length c2, .slice A3 rule.bw.length c3, .slice A4 rule.bs.length c4, .int .i64 rule.start, .slice A5 ex.length c5, .slice A6 plus.length c6, .slice A7 ch.length c7]) rfl rfl (le _) ?_; simp only [Act.put, List.setIfInBounds_toArray, List.set_cons_zero, List.set_cons_succ])
    refine wp_region_lexO (fun V => Below W.heap.size W V) (fun k => [1, 3].contains k) [0, 2, 1, 3, 4] rfl (by kernel_rfl) (by kernel_rfl) (by kernel_rfl) (fun _ _ _ _ _ h => h) (by exact (Gr.ok _).drew) ?_
    generalize hVV : World.drew _ = V
    have hS0 : Below W.heap.size W V := by rw [← hVV]; exact (Gr.ok _).drew
    clear hVV
    repeat (first
      | (refine wpHo_yes (v := .agg #[.int .i64 start, .int .i64 long, .bool world, .bool again, .int .i64 rule.freq, .int .i64 rule.iv, .int .i64 rule.count, .int .i64 rule.until_, .slice A1 rule.bm.length c1, .slice A2 rule.bd.length c2, .slice A3 rule.bw.length c3, .slice A4 rule.bs.length c4, .int .i64 rule.start, .slice A5 ex.length c5, .slice A6 plus.length c6, .slice A7 ch.length c7]) rfl rfl rfl (fun w' hS => exec_load (t := 32) rfl (le ⟨w', hS⟩)) ?_; simp only [List.getElem_toArray, List.getElem_cons_succ, List.getElem_cons_zero, Act.put, List.setIfInBounds_toArray, List.set_cons_zero, List.set_cons_succ])
      | (refine wpHo_yes (v := ?_) rfl rfl rfl (fun w' hS => ?_) ?_; rotate_left; (go_simp; with_reducible rfl); (try simp only [List.getElem_toArray, List.getElem_cons_succ, List.getElem_cons_zero, Act.put, List.setIfInBounds_toArray, List.set_cons_zero, List.set_cons_succ]))
      | (refine wpHo_callYes rfl rfl rfl (fun K hK => ?_); go_simp; (first
        | (go_at_call 10; (with_reducible refine (H1.out ⟨_, hS0⟩).mono ?_); rintro q w3 ⟨rfl, hb⟩; have hS0 := hS0.trans (hb.mono hS0.size); clear hb; refine hK.out _ _ hS0 (fun _ => ?_))
        | (go_at_call 11; (with_reducible refine (H2.out ⟨_, hS0⟩).mono ?_); rintro q w3 ⟨rfl, hb⟩; have hS0 := hS0.trans (hb.mono hS0.size); clear hb; refine hK.out _ _ hS0 (fun _ => ?_))); (try simp only [List.getElem_toArray, List.getElem_cons_succ, List.getElem_cons_zero, Act.put, List.setIfInBounds_toArray, List.set_cons_zero, List.set_cons_succ]); clear hK K))
    have hq3 : ∃ g3 : Gr W, w3 = g3.val := ⟨⟨w3, hS0⟩, rfl⟩
    clear hS0
    obtain ⟨g3, rfl⟩ := hq3
    show Exit.then _ _ _ _ _
    go_wp2_with fail
    refine wp_region_lexO (fun V => Below W.heap.size W V) (fun k => [0, 5, 9, 10].contains k) [0, 1, 2, 3, 4, 6, 7, 8, 5, 9, 10, 11, 12] rfl (by kernel_rfl) (by kernel_rfl) (by kernel_rfl) (fun _ _ _ _ _ h => h) (by exact (Gr.ok _).drew) ?_
    generalize hVV : World.drew _ = V
    have hS0 : Below W.heap.size W V := by rw [← hVV]; exact (Gr.ok _).drew
    clear hVV
    repeat (first
      | (refine wpHo_yes (v := .agg #[.int .i64 start, .int .i64 long, .bool world, .bool again, .int .i64 rule.freq, .int .i64 rule.iv, .int .i64 rule.count, .int .i64 rule.until_, .slice A1 rule.bm.length c1, .slice A2 rule.bd.length c2, .slice A3 rule.bw.length c3, .slice A4 rule.bs.length c4, .int .i64 rule.start, .slice A5 ex.length c5, .slice A6 plus.length c6, .slice A7 ch.length c7]) rfl rfl rfl (fun w' hS => exec_load (t := 32) rfl (le ⟨w', hS⟩)) ?_; simp only [List.getElem_toArray, List.getElem_cons_succ, List.getElem_cons_zero, Act.put, List.setIfInBounds_toArray, List.set_cons_zero, List.set_cons_succ])
      | (refine wpHo_no rfl rfl rfl ?_; simp only [List.getElem_toArray, List.getElem_cons_succ, List.getElem_cons_zero, Act.put, List.setIfInBounds_toArray, List.set_cons_zero, List.set_cons_succ])
      | (refine wpHo_yes (v := ?_) rfl rfl rfl (fun w' hS => ?_) ?_; rotate_left; (have f0 := z0 ⟨w', hS⟩; have f1 := z1 ⟨w', hS⟩; have f2 : World.cell? w' ⟨w.heap.size + 1 + 1, 0, none⟩ = some (.int .i64 x1) := w0 ⟨w', hS⟩; have f3 : World.cell? w' ⟨w.heap.size + 1 + 1, 0 + 1, none⟩ = some (.int .i64 x2) := w1 ⟨w', hS⟩; have f4 := w0 ⟨w', hS⟩; have f5 := w1 ⟨w', hS⟩; go_simp; with_reducible rfl); (try simp only [List.getElem_toArray, List.getElem_cons_succ, List.getElem_cons_zero, Act.put, List.setIfInBounds_toArray, List.set_cons_zero, List.set_cons_succ]))
      | (refine wpHo_callYes rfl rfl rfl (fun K hK => ?_); go_simp; (first
        | (go_at_call 9; (with_reducible refine (HF.out ⟨_, hS0⟩).mono ?_); rintro q w3 ⟨rfl, hb⟩; have hS0 := hS0.trans (hb.mono hS0.size); clear hb; refine hK.out _ _ hS0 (fun _ => ?_))
        | (go_at_call 13; (with_reducible refine (H3.out _ hS0).mono ?_); rintro q w3 ⟨Am, cm, rfl, hsm, hb⟩; have hS0 := hS0.trans (hb.mono hS0.size); have HSM := Lib.hid hsm; clear hb hsm; refine hK.out _ _ hS0 (fun _ => ?_))
        | (go_at_call 14; (with_reducible refine (H4.out _ hS0).mono ?_); rintro q w3 ⟨Ar, cr, rfl, hsr, hb⟩; have HSM := Lib.hid (HSM.out.below hb (Nat.le_refl _)); have HSR := Lib.hid hsr; have hS0 := hS0.trans (hb.mono hS0.size); clear hb hsr; refine hK.out _ _ hS0 (fun _ => ?_))
        | (go_at_call 12; (with_reducible refine (HSA.out _ _ _ _ _ _ _ HSM.out HSR.out).mono ?_); rintro q w3 ⟨rfl, hb⟩; have hS0 := hS0.trans (hb.mono hS0.size); clear hb; refine hK.out _ _ hS0 (fun _ => ?_))); (try simp only [List.getElem_toArray, List.getElem_cons_succ, List.getElem_cons_zero, Act.put, List.setIfInBounds_toArray, List.set_cons_zero, List.set_cons_succ]); clear hK K))
    clear HSM HSR
    have hq7 : ∃ g7 : Gr W, w3 = g7.val := ⟨⟨w3, hS0⟩, rfl⟩
    clear hS0
    obtain ⟨g7, rfl⟩ := hq7
    show Exit.then _ _ _ _ _
    go_wp2
    go_ret
    exact ⟨ret_bool (decide_eq_true HDE.out.symm), HG.out _⟩
  · as_aux_lemma =>
    try have d1 : decide (x1 < x2) = true := decide_eq_true l1
    try have d1 : decide (x1 < x2) = false := decide_eq_false (by omega)
    try have d2 : decide (x1 < -1073741824) = true := decide_eq_true l2
    try have d2 : decide (x1 < -1073741824) = false := decide_eq_false (by omega)
    try have d3 : decide (1073741824 < x2) = true := decide_eq_true l3
    try have d3 : decide (1073741824 < x2) = false := decide_eq_false (by omega)
    try have hws : IntKind.i64.wrap (x2 - x1) = x2 - x1 := by rw [IntKind.wrap_i64]; omega
    try have d4 : decide (144000 < x2 - x1) = true := decide_eq_true l4
    try have d4 : decide (144000 < x2 - x1) = false := decide_eq_false (by omega)
    try have d5 : decide (x2 - x1 ≤ 528480) = true := decide_eq_true l5
    try have d5 : decide (x2 - x1 ≤ 528480) = false := decide_eq_false (by omega)
    have HDE : Hid (LL = LV) := HDOC.out (by intro k h; first | omega | (cases k))
    clear HDOC
    go_enter Tryz.func3, Tryz.ntmps3
    go_upto_region 1 with fail
    rw [E1.out]
    go_wp2_with ((with_reducible show wpList _ _ _ _ _ _); refine wpList_load (t := 32) (v := .agg #[.int .i64 start, .int .i64 long, .bool world, .bool again, .int .i64 rule.freq, .int .i64 rule.iv, .int .i64 rule.count, .int .i64 rule.until_, .slice A1 rule.bm.length c1, .slice A2 rule.bd.length c2, .slice A3 rule.bw.length c3, .slice A4 rule.bs.length c4, .int .i64 rule.start, .slice A5 ex.length c5, .slice A6 plus.length c6, .slice A7 ch.length c7]) rfl rfl (le _) ?_; simp only [Act.put, List.setIfInBounds_toArray, List.set_cons_zero, List.set_cons_succ])
    go_at_call 8
    with_reducible refine (H0.out _).mono ?_
    rintro q w' ⟨rfl, hb⟩
    obtain ⟨g', rfl⟩ := Gr.on _ hb
    clear hb
    go_wp2_with ((with_reducible show wpList _ _ _ _ _ _); refine wpList_load (t := 32) (v := .agg #[.int .i64 start, .int .i64 long, .bool world, .bool again, .int .i64 rule.freq, .int .i64 rule.iv, .int .i64 rule.count, .int .i64 rule.until_, .slice A1 rule.bm.length c1, .slice A2 rule.bd.length c2, .slice A3 rule.bw.length c3, .slice A4 rule.bs.length c4, .int .i64 rule.start, .slice A5 ex.length c5, .slice A6 plus.length c6, .slice A7 ch.length c7]) rfl rfl (le _) ?_; simp only [Act.put, List.setIfInBounds_toArray, List.set_cons_zero, List.set_cons_succ])
    refine wp_region_lexO (fun V => Below W.heap.size W V) (fun k => [1, 3].contains k) [0, 2, 1, 3, 4] rfl (by kernel_rfl) (by kernel_rfl) (by kernel_rfl) (fun _ _ _ _ _ h => h) (by exact (Gr.ok _).drew) ?_
    generalize hVV : World.drew _ = V
    have hS0 : Below W.heap.size W V := by rw [← hVV]; exact (Gr.ok _).drew
    clear hVV
    repeat (first
      | (refine wpHo_yes (v := .agg #[.int .i64 start, .int .i64 long, .bool world, .bool again, .int .i64 rule.freq, .int .i64 rule.iv, .int .i64 rule.count, .int .i64 rule.until_, .slice A1 rule.bm.length c1, .slice A2 rule.bd.length c2, .slice A3 rule.bw.length c3, .slice A4 rule.bs.length c4, .int .i64 rule.start, .slice A5 ex.length c5, .slice A6 plus.length c6, .slice A7 ch.length c7]) rfl rfl rfl (fun w' hS => exec_load (t := 32) rfl (le ⟨w', hS⟩)) ?_; simp only [List.getElem_toArray, List.getElem_cons_succ, List.getElem_cons_zero, Act.put, List.setIfInBounds_toArray, List.set_cons_zero, List.set_cons_succ])
      | (refine wpHo_yes (v := ?_) rfl rfl rfl (fun w' hS => ?_) ?_; rotate_left; (go_simp; with_reducible rfl); (try simp only [List.getElem_toArray, List.getElem_cons_succ, List.getElem_cons_zero, Act.put, List.setIfInBounds_toArray, List.set_cons_zero, List.set_cons_succ]))
      | (refine wpHo_callYes rfl rfl rfl (fun K hK => ?_); go_simp; (first
        | (go_at_call 10; (with_reducible refine (H1.out ⟨_, hS0⟩).mono ?_); rintro q w3 ⟨rfl, hb⟩; have hS0 := hS0.trans (hb.mono hS0.size); clear hb; refine hK.out _ _ hS0 (fun _ => ?_))
        | (go_at_call 11; (with_reducible refine (H2.out ⟨_, hS0⟩).mono ?_); rintro q w3 ⟨rfl, hb⟩; have hS0 := hS0.trans (hb.mono hS0.size); clear hb; refine hK.out _ _ hS0 (fun _ => ?_))); (try simp only [List.getElem_toArray, List.getElem_cons_succ, List.getElem_cons_zero, Act.put, List.setIfInBounds_toArray, List.set_cons_zero, List.set_cons_succ]); clear hK K))
    have hq3 : ∃ g3 : Gr W, w3 = g3.val := ⟨⟨w3, hS0⟩, rfl⟩
    clear hS0
    obtain ⟨g3, rfl⟩ := hq3
    show Exit.then _ _ _ _ _
    go_wp2_with ((with_reducible show wpList _ _ _ _ _ _); refine wpList_load (t := 32) (v := .agg #[.int .i64 start, .int .i64 long, .bool world, .bool again, .int .i64 rule.freq, .int .i64 rule.iv, .int .i64 rule.count, .int .i64 rule.until_, .slice A1 rule.bm.length c1, .slice A2 rule.bd.length c2, .slice A3 rule.bw.length c3, .slice A4 rule.bs.length c4, .int .i64 rule.start, .slice A5 ex.length c5, .slice A6 plus.length c6, .slice A7 ch.length c7]) rfl rfl (le _) ?_; simp only [Act.put, List.setIfInBounds_toArray, List.set_cons_zero, List.set_cons_succ])
    go_at_call 11
    with_reducible refine (H2.out _).mono ?_
    rintro q w' ⟨rfl, hb⟩
    obtain ⟨g', rfl⟩ := Gr.on _ hb
    clear hb
    go_wp2_with fail
    refine wp_region_lexO (fun V => Below W.heap.size W V) (fun k => [0, 5, 9, 10].contains k) [0, 1, 2, 3, 4, 6, 7, 8, 5, 9, 10, 11, 12] rfl (by kernel_rfl) (by kernel_rfl) (by kernel_rfl) (fun _ _ _ _ _ h => h) (by exact (Gr.ok _).drew) ?_
    generalize hVV : World.drew _ = V
    have hS0 : Below W.heap.size W V := by rw [← hVV]; exact (Gr.ok _).drew
    clear hVV
    repeat (first
      | (refine wpHo_yes (v := .agg #[.int .i64 start, .int .i64 long, .bool world, .bool again, .int .i64 rule.freq, .int .i64 rule.iv, .int .i64 rule.count, .int .i64 rule.until_, .slice A1 rule.bm.length c1, .slice A2 rule.bd.length c2, .slice A3 rule.bw.length c3, .slice A4 rule.bs.length c4, .int .i64 rule.start, .slice A5 ex.length c5, .slice A6 plus.length c6, .slice A7 ch.length c7]) rfl rfl rfl (fun w' hS => exec_load (t := 32) rfl (le ⟨w', hS⟩)) ?_; simp only [List.getElem_toArray, List.getElem_cons_succ, List.getElem_cons_zero, Act.put, List.setIfInBounds_toArray, List.set_cons_zero, List.set_cons_succ])
      | (refine wpHo_no rfl rfl rfl ?_; simp only [List.getElem_toArray, List.getElem_cons_succ, List.getElem_cons_zero, Act.put, List.setIfInBounds_toArray, List.set_cons_zero, List.set_cons_succ])
      | (refine wpHo_yes (v := ?_) rfl rfl rfl (fun w' hS => ?_) ?_; rotate_left; (have f0 := z0 ⟨w', hS⟩; have f1 := z1 ⟨w', hS⟩; have f2 : World.cell? w' ⟨w.heap.size + 1 + 1, 0, none⟩ = some (.int .i64 x1) := w0 ⟨w', hS⟩; have f3 : World.cell? w' ⟨w.heap.size + 1 + 1, 0 + 1, none⟩ = some (.int .i64 x2) := w1 ⟨w', hS⟩; have f4 := w0 ⟨w', hS⟩; have f5 := w1 ⟨w', hS⟩; go_simp; with_reducible rfl); (try simp only [List.getElem_toArray, List.getElem_cons_succ, List.getElem_cons_zero, Act.put, List.setIfInBounds_toArray, List.set_cons_zero, List.set_cons_succ]))
      | (refine wpHo_callYes rfl rfl rfl (fun K hK => ?_); go_simp; (first
        | (go_at_call 9; (with_reducible refine (HF.out ⟨_, hS0⟩).mono ?_); rintro q w3 ⟨rfl, hb⟩; have hS0 := hS0.trans (hb.mono hS0.size); clear hb; refine hK.out _ _ hS0 (fun _ => ?_))
        | (go_at_call 13; (with_reducible refine (H3.out _ hS0).mono ?_); rintro q w3 ⟨Am, cm, rfl, hsm, hb⟩; have hS0 := hS0.trans (hb.mono hS0.size); have HSM := Lib.hid hsm; clear hb hsm; refine hK.out _ _ hS0 (fun _ => ?_))
        | (go_at_call 14; (with_reducible refine (H4.out _ hS0).mono ?_); rintro q w3 ⟨Ar, cr, rfl, hsr, hb⟩; have HSM := Lib.hid (HSM.out.below hb (Nat.le_refl _)); have HSR := Lib.hid hsr; have hS0 := hS0.trans (hb.mono hS0.size); clear hb hsr; refine hK.out _ _ hS0 (fun _ => ?_))
        | (go_at_call 12; (with_reducible refine (HSA.out _ _ _ _ _ _ _ HSM.out HSR.out).mono ?_); rintro q w3 ⟨rfl, hb⟩; have hS0 := hS0.trans (hb.mono hS0.size); clear hb; refine hK.out _ _ hS0 (fun _ => ?_))); (try simp only [List.getElem_toArray, List.getElem_cons_succ, List.getElem_cons_zero, Act.put, List.setIfInBounds_toArray, List.set_cons_zero, List.set_cons_succ]); clear hK K))
    clear HSM HSR
    have hq7 : ∃ g7 : Gr W, w3 = g7.val := ⟨⟨w3, hS0⟩, rfl⟩
    clear hS0
    obtain ⟨g7, rfl⟩ := hq7
    show Exit.then _ _ _ _ _
    go_wp2
    go_ret
    exact ⟨ret_bool (decide_eq_true HDE.out.symm), HG.out _⟩
  · as_aux_lemma =>
    try have d1 : decide (x1 < x2) = true := decide_eq_true l1
    try have d1 : decide (x1 < x2) = false := decide_eq_false (by omega)
    try have d2 : decide (x1 < -1073741824) = true := decide_eq_true l2
    try have d2 : decide (x1 < -1073741824) = false := decide_eq_false (by omega)
    try have d3 : decide (1073741824 < x2) = true := decide_eq_true l3
    try have d3 : decide (1073741824 < x2) = false := decide_eq_false (by omega)
    try have hws : IntKind.i64.wrap (x2 - x1) = x2 - x1 := by rw [IntKind.wrap_i64]; omega
    try have d4 : decide (144000 < x2 - x1) = true := decide_eq_true l4
    try have d4 : decide (144000 < x2 - x1) = false := decide_eq_false (by omega)
    try have d5 : decide (x2 - x1 ≤ 528480) = true := decide_eq_true l5
    try have d5 : decide (x2 - x1 ≤ 528480) = false := decide_eq_false (by omega)
    have HDE : Hid (LL = LV) := HDOC.out (by intro k h; first | omega | (cases k))
    clear HDOC
    go_enter Tryz.func3, Tryz.ntmps3
    go_upto_region 1 with fail
    rw [E1.out]
    go_wp2_with ((with_reducible show wpList _ _ _ _ _ _); refine wpList_load (t := 32) (v := .agg #[.int .i64 start, .int .i64 long, .bool world, .bool again, .int .i64 rule.freq, .int .i64 rule.iv, .int .i64 rule.count, .int .i64 rule.until_, .slice A1 rule.bm.length c1, .slice A2 rule.bd.length c2, .slice A3 rule.bw.length c3, .slice A4 rule.bs.length c4, .int .i64 rule.start, .slice A5 ex.length c5, .slice A6 plus.length c6, .slice A7 ch.length c7]) rfl rfl (le _) ?_; simp only [Act.put, List.setIfInBounds_toArray, List.set_cons_zero, List.set_cons_succ])
    go_at_call 8
    with_reducible refine (H0.out _).mono ?_
    rintro q w' ⟨rfl, hb⟩
    obtain ⟨g', rfl⟩ := Gr.on _ hb
    clear hb
    go_wp2_with ((with_reducible show wpList _ _ _ _ _ _); refine wpList_load (t := 32) (v := .agg #[.int .i64 start, .int .i64 long, .bool world, .bool again, .int .i64 rule.freq, .int .i64 rule.iv, .int .i64 rule.count, .int .i64 rule.until_, .slice A1 rule.bm.length c1, .slice A2 rule.bd.length c2, .slice A3 rule.bw.length c3, .slice A4 rule.bs.length c4, .int .i64 rule.start, .slice A5 ex.length c5, .slice A6 plus.length c6, .slice A7 ch.length c7]) rfl rfl (le _) ?_; simp only [Act.put, List.setIfInBounds_toArray, List.set_cons_zero, List.set_cons_succ])
    refine wp_region_lexO (fun V => Below W.heap.size W V) (fun k => [1, 3].contains k) [0, 2, 1, 3, 4] rfl (by kernel_rfl) (by kernel_rfl) (by kernel_rfl) (fun _ _ _ _ _ h => h) (by exact (Gr.ok _).drew) ?_
    generalize hVV : World.drew _ = V
    have hS0 : Below W.heap.size W V := by rw [← hVV]; exact (Gr.ok _).drew
    clear hVV
    repeat (first
      | (refine wpHo_yes (v := .agg #[.int .i64 start, .int .i64 long, .bool world, .bool again, .int .i64 rule.freq, .int .i64 rule.iv, .int .i64 rule.count, .int .i64 rule.until_, .slice A1 rule.bm.length c1, .slice A2 rule.bd.length c2, .slice A3 rule.bw.length c3, .slice A4 rule.bs.length c4, .int .i64 rule.start, .slice A5 ex.length c5, .slice A6 plus.length c6, .slice A7 ch.length c7]) rfl rfl rfl (fun w' hS => exec_load (t := 32) rfl (le ⟨w', hS⟩)) ?_; simp only [List.getElem_toArray, List.getElem_cons_succ, List.getElem_cons_zero, Act.put, List.setIfInBounds_toArray, List.set_cons_zero, List.set_cons_succ])
      | (refine wpHo_yes (v := ?_) rfl rfl rfl (fun w' hS => ?_) ?_; rotate_left; (go_simp; with_reducible rfl); (try simp only [List.getElem_toArray, List.getElem_cons_succ, List.getElem_cons_zero, Act.put, List.setIfInBounds_toArray, List.set_cons_zero, List.set_cons_succ]))
      | (refine wpHo_callYes rfl rfl rfl (fun K hK => ?_); go_simp; (first
        | (go_at_call 10; (with_reducible refine (H1.out ⟨_, hS0⟩).mono ?_); rintro q w3 ⟨rfl, hb⟩; have hS0 := hS0.trans (hb.mono hS0.size); clear hb; refine hK.out _ _ hS0 (fun _ => ?_))
        | (go_at_call 11; (with_reducible refine (H2.out ⟨_, hS0⟩).mono ?_); rintro q w3 ⟨rfl, hb⟩; have hS0 := hS0.trans (hb.mono hS0.size); clear hb; refine hK.out _ _ hS0 (fun _ => ?_))); (try simp only [List.getElem_toArray, List.getElem_cons_succ, List.getElem_cons_zero, Act.put, List.setIfInBounds_toArray, List.set_cons_zero, List.set_cons_succ]); clear hK K))
    have hq3 : ∃ g3 : Gr W, w3 = g3.val := ⟨⟨w3, hS0⟩, rfl⟩
    clear hS0
    obtain ⟨g3, rfl⟩ := hq3
    show Exit.then _ _ _ _ _
    go_wp2_with ((with_reducible show wpList _ _ _ _ _ _); refine wpList_load (t := 32) (v := .agg #[.int .i64 start, .int .i64 long, .bool world, .bool again, .int .i64 rule.freq, .int .i64 rule.iv, .int .i64 rule.count, .int .i64 rule.until_, .slice A1 rule.bm.length c1, .slice A2 rule.bd.length c2, .slice A3 rule.bw.length c3, .slice A4 rule.bs.length c4, .int .i64 rule.start, .slice A5 ex.length c5, .slice A6 plus.length c6, .slice A7 ch.length c7]) rfl rfl (le _) ?_; simp only [Act.put, List.setIfInBounds_toArray, List.set_cons_zero, List.set_cons_succ])
    go_at_call 11
    with_reducible refine (H2.out _).mono ?_
    rintro q w' ⟨rfl, hb⟩
    obtain ⟨g', rfl⟩ := Gr.on _ hb
    clear hb
    go_wp2_with fail
    refine wp_region_lexO (fun V => Below W.heap.size W V) (fun k => [0, 5, 9, 10].contains k) [0, 1, 2, 3, 4, 6, 7, 8, 5, 9, 10, 11, 12] rfl (by kernel_rfl) (by kernel_rfl) (by kernel_rfl) (fun _ _ _ _ _ h => h) (by exact (Gr.ok _).drew) ?_
    generalize hVV : World.drew _ = V
    have hS0 : Below W.heap.size W V := by rw [← hVV]; exact (Gr.ok _).drew
    clear hVV
    repeat (first
      | (refine wpHo_yes (v := .agg #[.int .i64 start, .int .i64 long, .bool world, .bool again, .int .i64 rule.freq, .int .i64 rule.iv, .int .i64 rule.count, .int .i64 rule.until_, .slice A1 rule.bm.length c1, .slice A2 rule.bd.length c2, .slice A3 rule.bw.length c3, .slice A4 rule.bs.length c4, .int .i64 rule.start, .slice A5 ex.length c5, .slice A6 plus.length c6, .slice A7 ch.length c7]) rfl rfl rfl (fun w' hS => exec_load (t := 32) rfl (le ⟨w', hS⟩)) ?_; simp only [List.getElem_toArray, List.getElem_cons_succ, List.getElem_cons_zero, Act.put, List.setIfInBounds_toArray, List.set_cons_zero, List.set_cons_succ])
      | (refine wpHo_no rfl rfl rfl ?_; simp only [List.getElem_toArray, List.getElem_cons_succ, List.getElem_cons_zero, Act.put, List.setIfInBounds_toArray, List.set_cons_zero, List.set_cons_succ])
      | (refine wpHo_yes (v := ?_) rfl rfl rfl (fun w' hS => ?_) ?_; rotate_left; (have f0 := z0 ⟨w', hS⟩; have f1 := z1 ⟨w', hS⟩; have f2 : World.cell? w' ⟨w.heap.size + 1 + 1, 0, none⟩ = some (.int .i64 x1) := w0 ⟨w', hS⟩; have f3 : World.cell? w' ⟨w.heap.size + 1 + 1, 0 + 1, none⟩ = some (.int .i64 x2) := w1 ⟨w', hS⟩; have f4 := w0 ⟨w', hS⟩; have f5 := w1 ⟨w', hS⟩; go_simp; with_reducible rfl); (try simp only [List.getElem_toArray, List.getElem_cons_succ, List.getElem_cons_zero, Act.put, List.setIfInBounds_toArray, List.set_cons_zero, List.set_cons_succ]))
      | (refine wpHo_callYes rfl rfl rfl (fun K hK => ?_); go_simp; (first
        | (go_at_call 9; (with_reducible refine (HF.out ⟨_, hS0⟩).mono ?_); rintro q w3 ⟨rfl, hb⟩; have hS0 := hS0.trans (hb.mono hS0.size); clear hb; refine hK.out _ _ hS0 (fun _ => ?_))
        | (go_at_call 13; (with_reducible refine (H3.out _ hS0).mono ?_); rintro q w3 ⟨Am, cm, rfl, hsm, hb⟩; have hS0 := hS0.trans (hb.mono hS0.size); have HSM := Lib.hid hsm; clear hb hsm; refine hK.out _ _ hS0 (fun _ => ?_))
        | (go_at_call 14; (with_reducible refine (H4.out _ hS0).mono ?_); rintro q w3 ⟨Ar, cr, rfl, hsr, hb⟩; have HSM := Lib.hid (HSM.out.below hb (Nat.le_refl _)); have HSR := Lib.hid hsr; have hS0 := hS0.trans (hb.mono hS0.size); clear hb hsr; refine hK.out _ _ hS0 (fun _ => ?_))
        | (go_at_call 12; (with_reducible refine (HSA.out _ _ _ _ _ _ _ HSM.out HSR.out).mono ?_); rintro q w3 ⟨rfl, hb⟩; have hS0 := hS0.trans (hb.mono hS0.size); clear hb; refine hK.out _ _ hS0 (fun _ => ?_))); (try simp only [List.getElem_toArray, List.getElem_cons_succ, List.getElem_cons_zero, Act.put, List.setIfInBounds_toArray, List.set_cons_zero, List.set_cons_succ]); clear hK K))
    clear HSM HSR
    have hq7 : ∃ g7 : Gr W, w3 = g7.val := ⟨⟨w3, hS0⟩, rfl⟩
    clear hS0
    obtain ⟨g7, rfl⟩ := hq7
    show Exit.then _ _ _ _ _
    go_wp2
    go_ret
    exact ⟨ret_bool (decide_eq_true HDE.out.symm), HG.out _⟩
  · as_aux_lemma =>
    try have d1 : decide (x1 < x2) = true := decide_eq_true l1
    try have d1 : decide (x1 < x2) = false := decide_eq_false (by omega)
    try have d2 : decide (x1 < -1073741824) = true := decide_eq_true l2
    try have d2 : decide (x1 < -1073741824) = false := decide_eq_false (by omega)
    try have d3 : decide (1073741824 < x2) = true := decide_eq_true l3
    try have d3 : decide (1073741824 < x2) = false := decide_eq_false (by omega)
    try have hws : IntKind.i64.wrap (x2 - x1) = x2 - x1 := by rw [IntKind.wrap_i64]; omega
    try have d4 : decide (144000 < x2 - x1) = true := decide_eq_true l4
    try have d4 : decide (144000 < x2 - x1) = false := decide_eq_false (by omega)
    try have d5 : decide (x2 - x1 ≤ 528480) = true := decide_eq_true l5
    try have d5 : decide (x2 - x1 ≤ 528480) = false := decide_eq_false (by omega)
    have HDE : Hid (LL = LV) := HDOC.out (by intro k h; first | omega | (cases k))
    clear HDOC
    go_enter Tryz.func3, Tryz.ntmps3
    go_upto_region 1 with fail
    rw [E1.out]
    go_wp2_with ((with_reducible show wpList _ _ _ _ _ _); refine wpList_load (t := 32) (v := .agg #[.int .i64 start, .int .i64 long, .bool world, .bool again, .int .i64 rule.freq, .int .i64 rule.iv, .int .i64 rule.count, .int .i64 rule.until_, .slice A1 rule.bm.length c1, .slice A2 rule.bd.length c2, .slice A3 rule.bw.length c3, .slice A4 rule.bs.length c4, .int .i64 rule.start, .slice A5 ex.length c5, .slice A6 plus.length c6, .slice A7 ch.length c7]) rfl rfl (le _) ?_; simp only [Act.put, List.setIfInBounds_toArray, List.set_cons_zero, List.set_cons_succ])
    go_at_call 8
    with_reducible refine (H0.out _).mono ?_
    rintro q w' ⟨rfl, hb⟩
    obtain ⟨g', rfl⟩ := Gr.on _ hb
    clear hb
    go_wp2_with ((with_reducible show wpList _ _ _ _ _ _); refine wpList_load (t := 32) (v := .agg #[.int .i64 start, .int .i64 long, .bool world, .bool again, .int .i64 rule.freq, .int .i64 rule.iv, .int .i64 rule.count, .int .i64 rule.until_, .slice A1 rule.bm.length c1, .slice A2 rule.bd.length c2, .slice A3 rule.bw.length c3, .slice A4 rule.bs.length c4, .int .i64 rule.start, .slice A5 ex.length c5, .slice A6 plus.length c6, .slice A7 ch.length c7]) rfl rfl (le _) ?_; simp only [Act.put, List.setIfInBounds_toArray, List.set_cons_zero, List.set_cons_succ])
    refine wp_region_lexO (fun V => Below W.heap.size W V) (fun k => [1, 3].contains k) [0, 2, 1, 3, 4] rfl (by kernel_rfl) (by kernel_rfl) (by kernel_rfl) (fun _ _ _ _ _ h => h) (by exact (Gr.ok _).drew) ?_
    generalize hVV : World.drew _ = V
    have hS0 : Below W.heap.size W V := by rw [← hVV]; exact (Gr.ok _).drew
    clear hVV
    repeat (first
      | (refine wpHo_yes (v := .agg #[.int .i64 start, .int .i64 long, .bool world, .bool again, .int .i64 rule.freq, .int .i64 rule.iv, .int .i64 rule.count, .int .i64 rule.until_, .slice A1 rule.bm.length c1, .slice A2 rule.bd.length c2, .slice A3 rule.bw.length c3, .slice A4 rule.bs.length c4, .int .i64 rule.start, .slice A5 ex.length c5, .slice A6 plus.length c6, .slice A7 ch.length c7]) rfl rfl rfl (fun w' hS => exec_load (t := 32) rfl (le ⟨w', hS⟩)) ?_; simp only [List.getElem_toArray, List.getElem_cons_succ, List.getElem_cons_zero, Act.put, List.setIfInBounds_toArray, List.set_cons_zero, List.set_cons_succ])
      | (refine wpHo_yes (v := ?_) rfl rfl rfl (fun w' hS => ?_) ?_; rotate_left; (go_simp; with_reducible rfl); (try simp only [List.getElem_toArray, List.getElem_cons_succ, List.getElem_cons_zero, Act.put, List.setIfInBounds_toArray, List.set_cons_zero, List.set_cons_succ]))
      | (refine wpHo_callYes rfl rfl rfl (fun K hK => ?_); go_simp; (first
        | (go_at_call 10; (with_reducible refine (H1.out ⟨_, hS0⟩).mono ?_); rintro q w3 ⟨rfl, hb⟩; have hS0 := hS0.trans (hb.mono hS0.size); clear hb; refine hK.out _ _ hS0 (fun _ => ?_))
        | (go_at_call 11; (with_reducible refine (H2.out ⟨_, hS0⟩).mono ?_); rintro q w3 ⟨rfl, hb⟩; have hS0 := hS0.trans (hb.mono hS0.size); clear hb; refine hK.out _ _ hS0 (fun _ => ?_))); (try simp only [List.getElem_toArray, List.getElem_cons_succ, List.getElem_cons_zero, Act.put, List.setIfInBounds_toArray, List.set_cons_zero, List.set_cons_succ]); clear hK K))
    have hq3 : ∃ g3 : Gr W, w3 = g3.val := ⟨⟨w3, hS0⟩, rfl⟩
    clear hS0
    obtain ⟨g3, rfl⟩ := hq3
    show Exit.then _ _ _ _ _
    go_wp2_with ((with_reducible show wpList _ _ _ _ _ _); refine wpList_load (t := 32) (v := .agg #[.int .i64 start, .int .i64 long, .bool world, .bool again, .int .i64 rule.freq, .int .i64 rule.iv, .int .i64 rule.count, .int .i64 rule.until_, .slice A1 rule.bm.length c1, .slice A2 rule.bd.length c2, .slice A3 rule.bw.length c3, .slice A4 rule.bs.length c4, .int .i64 rule.start, .slice A5 ex.length c5, .slice A6 plus.length c6, .slice A7 ch.length c7]) rfl rfl (le _) ?_; simp only [Act.put, List.setIfInBounds_toArray, List.set_cons_zero, List.set_cons_succ])
    go_at_call 11
    with_reducible refine (H2.out _).mono ?_
    rintro q w' ⟨rfl, hb⟩
    obtain ⟨g', rfl⟩ := Gr.on _ hb
    clear hb
    go_wp2_with fail
    refine wp_region_lexO (fun V => Below W.heap.size W V) (fun k => [0, 5, 9, 10].contains k) [0, 1, 2, 3, 4, 6, 7, 8, 5, 9, 10, 11, 12] rfl (by kernel_rfl) (by kernel_rfl) (by kernel_rfl) (fun _ _ _ _ _ h => h) (by exact (Gr.ok _).drew) ?_
    generalize hVV : World.drew _ = V
    have hS0 : Below W.heap.size W V := by rw [← hVV]; exact (Gr.ok _).drew
    clear hVV
    repeat (first
      | (refine wpHo_yes (v := .agg #[.int .i64 start, .int .i64 long, .bool world, .bool again, .int .i64 rule.freq, .int .i64 rule.iv, .int .i64 rule.count, .int .i64 rule.until_, .slice A1 rule.bm.length c1, .slice A2 rule.bd.length c2, .slice A3 rule.bw.length c3, .slice A4 rule.bs.length c4, .int .i64 rule.start, .slice A5 ex.length c5, .slice A6 plus.length c6, .slice A7 ch.length c7]) rfl rfl rfl (fun w' hS => exec_load (t := 32) rfl (le ⟨w', hS⟩)) ?_; simp only [List.getElem_toArray, List.getElem_cons_succ, List.getElem_cons_zero, Act.put, List.setIfInBounds_toArray, List.set_cons_zero, List.set_cons_succ])
      | (refine wpHo_no rfl rfl rfl ?_; simp only [List.getElem_toArray, List.getElem_cons_succ, List.getElem_cons_zero, Act.put, List.setIfInBounds_toArray, List.set_cons_zero, List.set_cons_succ])
      | (refine wpHo_yes (v := ?_) rfl rfl rfl (fun w' hS => ?_) ?_; rotate_left; (have f0 := z0 ⟨w', hS⟩; have f1 := z1 ⟨w', hS⟩; have f2 : World.cell? w' ⟨w.heap.size + 1 + 1, 0, none⟩ = some (.int .i64 x1) := w0 ⟨w', hS⟩; have f3 : World.cell? w' ⟨w.heap.size + 1 + 1, 0 + 1, none⟩ = some (.int .i64 x2) := w1 ⟨w', hS⟩; have f4 := w0 ⟨w', hS⟩; have f5 := w1 ⟨w', hS⟩; go_simp; with_reducible rfl); (try simp only [List.getElem_toArray, List.getElem_cons_succ, List.getElem_cons_zero, Act.put, List.setIfInBounds_toArray, List.set_cons_zero, List.set_cons_succ]))
      | (refine wpHo_callYes rfl rfl rfl (fun K hK => ?_); go_simp; (first
        | (go_at_call 9; (with_reducible refine (HF.out ⟨_, hS0⟩).mono ?_); rintro q w3 ⟨rfl, hb⟩; have hS0 := hS0.trans (hb.mono hS0.size); clear hb; refine hK.out _ _ hS0 (fun _ => ?_))
        | (go_at_call 13; (with_reducible refine (H3.out _ hS0).mono ?_); rintro q w3 ⟨Am, cm, rfl, hsm, hb⟩; have hS0 := hS0.trans (hb.mono hS0.size); have HSM := Lib.hid hsm; clear hb hsm; refine hK.out _ _ hS0 (fun _ => ?_))
        | (go_at_call 14; (with_reducible refine (H4.out _ hS0).mono ?_); rintro q w3 ⟨Ar, cr, rfl, hsr, hb⟩; have HSM := Lib.hid (HSM.out.below hb (Nat.le_refl _)); have HSR := Lib.hid hsr; have hS0 := hS0.trans (hb.mono hS0.size); clear hb hsr; refine hK.out _ _ hS0 (fun _ => ?_))
        | (go_at_call 12; (with_reducible refine (HSA.out _ _ _ _ _ _ _ HSM.out HSR.out).mono ?_); rintro q w3 ⟨rfl, hb⟩; have hS0 := hS0.trans (hb.mono hS0.size); clear hb; refine hK.out _ _ hS0 (fun _ => ?_))); (try simp only [List.getElem_toArray, List.getElem_cons_succ, List.getElem_cons_zero, Act.put, List.setIfInBounds_toArray, List.set_cons_zero, List.set_cons_succ]); clear hK K))
    clear HSM HSR
    have hq7 : ∃ g7 : Gr W, w3 = g7.val := ⟨⟨w3, hS0⟩, rfl⟩
    clear hS0
    obtain ⟨g7, rfl⟩ := hq7
    show Exit.then _ _ _ _ _
    go_wp2
    go_ret
    exact ⟨ret_bool (decide_eq_true HDE.out.symm), HG.out _⟩
end Go.Proofs.YtfjmofefciopmaaGreat
end
