import Derived.Test.YtfjmofefciopmaaGreatZIL2
import Derived.Test.YtfjmofefciopmaaGreatZMX
import Derived.Test.YtfjmofefciopmaaGreatZMJ
import Derived.Test.YtfjmofefciopmaaGreatZIL6a
/- Layer 11's law on the time that a change drops. -/
section
namespace Go.Proofs.YtfjmofefciopmaaGreat
open Go.ChangeShapes Go.WideShapes Go.ChangeAt Go.RowKit Go.Joins Sp Ev Qr
set_option maxRecDepth 100000 in
set_option maxHeartbeats 16000000 in
theorem eventDropped_any (z : Zn.Z) (Z : Option Addr) (cz : Nat) (e : Evt) (A1 A2 A3 A4 A5 A6 A7 : Option Addr) (c1 c2 c3 c4 c5 c6 c7 : Nat) (x1 x2 a : Int) (hw : ZWf z) (hst : -9223372036854775808 ≤ e.start ∧ e.start ≤ 9223372036854775807)
    (hx1 : -9223372036854775808 ≤ x1 ∧ x1 ≤ 9223372036854775807) (hx2 : -9223372036854775808 ≤ x2 ∧ x2 ≤ 9223372036854775807) (ha : 0 ≤ a ∧ a < 65536) (w : World) (hz : ZAt w Z z) (h : EAt w e A1 A2 A3 A4 A5 A6 A7 c1 c2 c3 c4 c5 c6 c7) :
    Calls Tryz.prog 7 #[.agg #[.int .i64 z.base, .slice Z z.n cz], .agg (ecells e A1 A2 A3 A4 A5 A6 A7 c1 c2 c3 c4 c5 c6 c7), .agg #[.int .i64 x1, .int .i64 x2], .int .u16 a] w fun q w' => q = .returned (.bool true) ∧ Below w.heap.size w w' := by
  obtain ⟨W, hW⟩ : ∃ W, ((w.alloc (.cells #[.int .i64 z.base, .slice Z z.n cz] 24)).alloc (.cells (ecells e A1 A2 A3 A4 A5 A6 A7 c1 c2 c3 c4 c5 c6 c7) 32)).alloc (.cells #[.int .i64 x1, .int .i64 x2] 34) = W := ⟨_, rfl⟩
  have hBW : Below w.heap.size w W := by rw [← hW]; exact (((Below.refl _ w).alloc (Nat.le_refl _) _).alloc (by simp) _).alloc (by simp; omega) _
  have HG : Hid (∀ g : Gr W, Below w.heap.size w g.val) := fun g => hBW.trans (g.ok.mono hBW.size)
  have HX3 : Box3E e A1 A2 A3 A4 A5 A6 A7 c1 c2 c3 c4 c5 c6 c7 z Z cz x1 x2 W w.heap.size := by rw [← hW]; exact box3E e A1 A2 A3 A4 A5 A6 A7 c1 c2 c3 c4 c5 c6 c7 z Z cz x1 x2 w
  have z0 := HX3.z0
  have z1 := HX3.z1
  have HB := HX3.e
  have w0 := HX3.w0
  have w1 := HX3.w1
  have HE : ∀ g : Gr W, EAt g.val e A1 A2 A3 A4 A5 A6 A7 c1 c2 c3 c4 c5 c6 c7 := fun g => h.below (HG.out g)
  have HZ : ∀ g : Gr W, ZAt g.val Z z := fun g => hz.below (HG.out g)
  obtain ⟨q0, hq0⟩ : ∃ q, greatEB e = q := ⟨_, rfl⟩
  obtain ⟨q1, hq1⟩ : ∃ q, mayEB e = q := ⟨_, rfl⟩
  have hzn : z.n ≤ 9223372036854775807 := hw.2.1
  have H0 : Hid (∀ g : Gr W, Calls Tryz.prog 8 #[.agg (ecells e A1 A2 A3 A4 A5 A6 A7 c1 c2 c3 c4 c5 c6 c7)] g.val fun q w' => q = .returned (.bool q0) ∧ Below g.val.heap.size g.val w') := fun g => by rw [← hq0]; exact rgreat11_any e A1 A2 A3 A4 A5 A6 A7 c1 c2 c3 c4 c5 c6 c7 g.val (HE g)
  have HF : Hid (∀ g : Gr W, Calls Tryz.prog 9 #[] g.val fun q w' => q = .returned (.bool true) ∧ Below g.val.heap.size g.val w') := fun g => fixed11_any g.val
  have H1 : Hid (q0 = false → ∀ g : Gr W, Calls Tryz.prog 11 #[.agg (ecells e A1 A2 A3 A4 A5 A6 A7 c1 c2 c3 c4 c5 c6 c7)] g.val fun q w' => q = .returned (.bool q1) ∧ Below g.val.heap.size g.val w') := fun k g => by
    have := great_len (hq0.trans k); rw [← hq1]; exact rmay11_any e A1 A2 A3 A4 A5 A6 A7 c1 c2 c3 c4 c5 c6 c7 g.val (by omega) (by omega) (HE g)
  have H3 : Hid (q0 = false → ∀ (y1 y2 : Int), (-9223372036854775808 ≤ y1 ∧ y1 ≤ 9223372036854775807) → (-9223372036854775808 ≤ y2 ∧ y2 ≤ 9223372036854775807) → ∀ V, Below W.heap.size W V → Calls Tryz.prog 13 #[.agg #[.int .i64 z.base, .slice Z z.n cz], .agg (ecells e A1 A2 A3 A4 A5 A6 A7 c1 c2 c3 c4 c5 c6 c7), .agg #[.int .i64 y1, .int .i64 y2]] V (RetS (membersV z e (y1, y2)) V)) := fun k y1 y2 hy1 hy2 V hV => by
    have := great_len (hq0.trans k); exact pmembers_any z Z cz e A1 A2 A3 A4 A5 A6 A7 c1 c2 c3 c4 c5 c6 c7 y1 y2 hw (by omega) (by omega) (by omega) this.2 hy1 hy2 V (HZ ⟨V, hV⟩) (HE ⟨V, hV⟩)
  obtain ⟨zm, hzm⟩ : ∃ b, Zn.mayB z = b := ⟨_, rfl⟩
  have HZM : Hid (∀ g : Gr W, Calls Tryz.prog 18 #[.agg #[.int .i64 z.base, .slice Z z.n cz]] g.val fun q w' => q = .returned (.bool zm) ∧ Below g.val.heap.size g.val w') := fun g => by rw [← hzm]; exact rzmay_any g.val Z z cz hw (HZ g)
  obtain ⟨at1, hat1⟩ : ∃ at1, atB e = at1 := ⟨_, rfl⟩
  obtain ⟨met, hmet⟩ : ∃ met, metB z (x1, x2) e.long = met := ⟨_, rfl⟩
  have HAT : Hid (q0 = false → q1 = true → ∀ (g : Gr W) (a : Int), Calls Tryz.prog 16 #[.agg (ecells e A1 A2 A3 A4 A5 A6 A7 c1 c2 c3 c4 c5 c6 c7), .int .i64 a] g.val fun q w' => q = .returned (.bool (at1 a)) ∧ Below g.val.heap.size g.val w') := fun k k1 g a => by
    have := great_len (hq0.trans k)
    have h2 := pat11_any e A1 A2 A3 A4 A5 A6 A7 c1 c2 c3 c4 c5 c6 c7 a hst (by omega) (by omega) (by omega) this.2 g.val (HE g)
    rwa [hq1.trans k1, Bool.true_and, hat1] at h2
  have HUT : Hid (q1 = true → ∀ (g : Gr W) (a : Int), Calls Tryz.prog 17 #[.agg #[.int .i64 z.base, .slice Z z.n cz], .int .i64 a] g.val fun q w' => (∃ u k b, q = .returned (.agg #[.int .i64 u, .int .i64 k, .bool b]) ∧ (0 ≤ u ∧ u ≤ 158310720) ∧ (!b && zm && decide (u < x2) && decide (x1 < u + e.long)) = met a) ∧ Below g.val.heap.size g.val w') := fun k1 g a => by
    have hm : mayE e := of_decide_eq_true (hq1.trans k1)
    have h2 := utc_met z Z cz x1 x2 e.long a (by have := hm.2.1; omega) hw g.val (HZ g)
    rwa [hzm, hmet] at h2
  have HLG : Hid (q1 = true → 0 < e.long ∧ e.long ≤ 10080 ∧ 0 ≤ e.start ∧ e.start < 158310720) := fun k1 => by
    have hm : mayE e := of_decide_eq_true (hq1.trans k1)
    have h1 := hm.2.1
    have h2 := hm.2.2.1
    have h3 := hm.1
    unfold stampB at h3
    simp at h3
    omega
  obtain ⟨md, hmd⟩ : ∃ md, (fun a => membersV z (dropE e a) (x1, x2)) = md := ⟨_, rfl⟩
  have HDR : Hid (q0 = false → ∀ (a : Int) (B : Option Addr) (V : World), Below W.heap.size W V → Sl V B 1 1 [.int .i64 a, .int .i64 a, .int .i64 0] → Calls Tryz.prog 13 #[.agg #[.int .i64 z.base, .slice Z z.n cz], .agg #[.int .i64 e.start, .int .i64 e.long, .bool e.world, .bool e.again, .int .i64 e.rule.freq, .int .i64 e.rule.iv, .int .i64 e.rule.count, .int .i64 e.rule.until_, .slice A1 e.rule.bm.length c1, .slice A2 e.rule.bd.length c2, .slice A3 e.rule.bw.length c3, .slice A4 e.rule.bs.length c4, .int .i64 e.rule.start, .slice A5 e.ex.length c5, .slice A6 e.plus.length c6, .slice B 1 1], .agg #[.int .i64 x1, .int .i64 x2]] V (RetS (md a) V)) := fun k a B V hV hs => by
    have := great_len (hq0.trans k)
    have hE := HE ⟨V, hV⟩
    rw [← hmd]
    exact pmembers_any z Z cz (dropE e a) A1 A2 A3 A4 A5 A6 B c1 c2 c3 c4 c5 c6 1 x1 x2 hw (by show e.ex.length ≤ _; omega) (by show e.plus.length ≤ _; omega) (by show 1 ≤ _; omega) this.2 hx1 hx2 V (HZ ⟨V, hV⟩) ⟨hE.r, hE.s5, hE.s6, hs⟩
  obtain ⟨mv, hmv⟩ : ∃ mv, membersV z e = mv := ⟨_, rfl⟩
  have HDL : Hid (q1 = true → e.again = true → e.ch.length = 0 → winP (x1, x2) → ∀ a, 0 ≤ a → a < 158310720 → at1 a = true → (mv (x1, x2)).length = (md a).length + (if met a = true then 1 else 0)) := fun k1 k2 k3 k4 a h0 h1 h2 => by
    rw [← hmv, ← hmd, ← hmet]
    exact drop_len (of_decide_eq_true (hq1.trans k1)) k4 k2 (List.eq_nil_of_length_eq_zero k3) (by rw [hat1]; exact h2) h0 h1
  rw [hmv] at H3
  clear hat1 hmet hmd hzm hst
  clear hBW HX3 HE HZ h hz hq0 hq1 hw hmv
  have HLE := fun G : Gr W => load_event e A1 A2 A3 A4 A5 A6 A7 c1 c2 c3 c4 c5 c6 c7 G.val (w.heap.size + 1) (HB G)
  obtain ⟨start, long, world, again, rule, ex, plus, ch⟩ := e
  unfold ecells at HLE HB hW H0 H1 H3 HAT ⊢
  simp only at *
  obtain ⟨g0, hg0⟩ := Gr.start W
  have E1 := Lib.hid (hW.trans hg0)
  have le : ∀ G : Gr W, (Instr.loadAt 32 (.pointer (some ⟨w.heap.size + 1, 0, none⟩))).run Tryz.prog G.val = .ok (.agg #[.int .i64 start, .int .i64 long, .bool world, .bool again, .int .i64 rule.freq, .int .i64 rule.iv, .int .i64 rule.count, .int .i64 rule.until_, .slice A1 rule.bm.length c1, .slice A2 rule.bd.length c2, .slice A3 rule.bw.length c3, .slice A4 rule.bs.length c4, .int .i64 rule.start, .slice A5 ex.length c5, .slice A6 plus.length c6, .slice A7 ch.length c7]) G.val := HLE
  have b0 : ∀ G : Gr W, G.val.cell? ⟨w.heap.size + 1, 0, none⟩ = some (.int .i64 start) := fun G => HB G 0 _ rfl
  have b1 : ∀ G : Gr W, G.val.cell? ⟨w.heap.size + 1, 1, none⟩ = some (.int .i64 long) := fun G => HB G 1 _ rfl
  have b3 : ∀ G : Gr W, G.val.cell? ⟨w.heap.size + 1, 3, none⟩ = some (.bool again) := fun G => HB G 3 _ rfl
  have b15 : ∀ G : Gr W, G.val.cell? ⟨w.heap.size + 1, 15, none⟩ = some (.slice A7 ch.length c7) := fun G => HB G 15 _ rfl
  clear HB hW hg0 HLE
  by_cases t0 : (8 : Int) < z.n
  · have u0 : decide ((8 : Int) < z.n) = true := decide_eq_true t0
    clear H3 H1 HAT HUT HLG HDR HDL HZM
    as_aux_lemma =>
      go_enter Tryz.func7, Tryz.ntmps7
      go_upto_region 1 with fail
      rw [E1.out]
      go_wp2_with (first | ((with_reducible show wpList _ _ _ _ _ _); refine wpList_load (t := 32) (v := .agg #[.int .i64 start, .int .i64 long, .bool world, .bool again, .int .i64 rule.freq, .int .i64 rule.iv, .int .i64 rule.count, .int .i64 rule.until_, .slice A1 rule.bm.length c1, .slice A2 rule.bd.length c2, .slice A3 rule.bw.length c3, .slice A4 rule.bs.length c4, .int .i64 rule.start, .slice A5 ex.length c5, .slice A6 plus.length c6, .slice A7 ch.length c7]) rfl rfl (le _) ?_; simp only [Act.put, List.setIfInBounds_toArray, List.set_cons_zero, List.set_cons_succ]) | (go_at_call 8; (with_reducible refine (H0.out _).mono ?_); rintro q w' ⟨rfl, hb⟩; obtain ⟨g', rfl⟩ := Gr.on _ hb; clear hb) | (go_at_call 11; (with_reducible refine (H1.out _).mono ?_); rintro q w' ⟨rfl, hb⟩; obtain ⟨g', rfl⟩ := Gr.on _ hb; clear hb) | (go_at_call 9; (with_reducible refine (HF.out _).mono ?_); rintro q w' ⟨rfl, hb⟩; obtain ⟨g', rfl⟩ := Gr.on _ hb; clear hb))
      go_ret
      exact ⟨rfl, HG.out _⟩
  have u0 : decide ((8 : Int) < z.n) = false := decide_eq_false t0
  cases q0 with
  | true =>
    clear H3 H1 HAT HUT HLG HDR HDL HZM
    as_aux_lemma =>
      go_enter Tryz.func7, Tryz.ntmps7
      go_upto_region 1 with fail
      rw [E1.out]
      go_wp2_with (first | ((with_reducible show wpList _ _ _ _ _ _); refine wpList_load (t := 32) (v := .agg #[.int .i64 start, .int .i64 long, .bool world, .bool again, .int .i64 rule.freq, .int .i64 rule.iv, .int .i64 rule.count, .int .i64 rule.until_, .slice A1 rule.bm.length c1, .slice A2 rule.bd.length c2, .slice A3 rule.bw.length c3, .slice A4 rule.bs.length c4, .int .i64 rule.start, .slice A5 ex.length c5, .slice A6 plus.length c6, .slice A7 ch.length c7]) rfl rfl (le _) ?_; simp only [Act.put, List.setIfInBounds_toArray, List.set_cons_zero, List.set_cons_succ]) | (go_at_call 8; (with_reducible refine (H0.out _).mono ?_); rintro q w' ⟨rfl, hb⟩; obtain ⟨g', rfl⟩ := Gr.on _ hb; clear hb) | (go_at_call 11; (with_reducible refine (H1.out _).mono ?_); rintro q w' ⟨rfl, hb⟩; obtain ⟨g', rfl⟩ := Gr.on _ hb; clear hb) | (go_at_call 9; (with_reducible refine (HF.out _).mono ?_); rintro q w' ⟨rfl, hb⟩; obtain ⟨g', rfl⟩ := Gr.on _ hb; clear hb))
      go_ret
      exact ⟨rfl, HG.out _⟩
  | false =>
  replace H3 := Lib.hid (H3.out rfl)
  replace H1 := Lib.hid (H1.out rfl)
  cases q1 with
  | false =>
    clear H3 HAT HUT HLG HDR HDL HZM
    as_aux_lemma =>
      go_enter Tryz.func7, Tryz.ntmps7
      go_upto_region 1 with fail
      rw [E1.out]
      go_wp2_with (first | ((with_reducible show wpList _ _ _ _ _ _); refine wpList_load (t := 32) (v := .agg #[.int .i64 start, .int .i64 long, .bool world, .bool again, .int .i64 rule.freq, .int .i64 rule.iv, .int .i64 rule.count, .int .i64 rule.until_, .slice A1 rule.bm.length c1, .slice A2 rule.bd.length c2, .slice A3 rule.bw.length c3, .slice A4 rule.bs.length c4, .int .i64 rule.start, .slice A5 ex.length c5, .slice A6 plus.length c6, .slice A7 ch.length c7]) rfl rfl (le _) ?_; simp only [Act.put, List.setIfInBounds_toArray, List.set_cons_zero, List.set_cons_succ]) | (go_at_call 8; (with_reducible refine (H0.out _).mono ?_); rintro q w' ⟨rfl, hb⟩; obtain ⟨g', rfl⟩ := Gr.on _ hb; clear hb) | (go_at_call 11; (with_reducible refine (H1.out _).mono ?_); rintro q w' ⟨rfl, hb⟩; obtain ⟨g', rfl⟩ := Gr.on _ hb; clear hb) | (go_at_call 9; (with_reducible refine (HF.out _).mono ?_); rintro q w' ⟨rfl, hb⟩; obtain ⟨g', rfl⟩ := Gr.on _ hb; clear hb))
      go_ret
      exact ⟨rfl, HG.out _⟩
  | true =>
  cases again with
  | false =>
    clear H3 HAT HUT HLG HDR HDL HZM
    as_aux_lemma =>
      go_enter Tryz.func7, Tryz.ntmps7
      go_upto_region 1 with fail
      rw [E1.out]
      go_wp2_with (first | ((with_reducible show wpList _ _ _ _ _ _); refine wpList_load (t := 32) (v := .agg #[.int .i64 start, .int .i64 long, .bool world, .bool false, .int .i64 rule.freq, .int .i64 rule.iv, .int .i64 rule.count, .int .i64 rule.until_, .slice A1 rule.bm.length c1, .slice A2 rule.bd.length c2, .slice A3 rule.bw.length c3, .slice A4 rule.bs.length c4, .int .i64 rule.start, .slice A5 ex.length c5, .slice A6 plus.length c6, .slice A7 ch.length c7]) rfl rfl (le _) ?_; simp only [Act.put, List.setIfInBounds_toArray, List.set_cons_zero, List.set_cons_succ]) | (go_at_call 8; (with_reducible refine (H0.out _).mono ?_); rintro q w' ⟨rfl, hb⟩; obtain ⟨g', rfl⟩ := Gr.on _ hb; clear hb) | (go_at_call 11; (with_reducible refine (H1.out _).mono ?_); rintro q w' ⟨rfl, hb⟩; obtain ⟨g', rfl⟩ := Gr.on _ hb; clear hb) | (go_at_call 9; (with_reducible refine (HF.out _).mono ?_); rintro q w' ⟨rfl, hb⟩; obtain ⟨g', rfl⟩ := Gr.on _ hb; clear hb))
      go_ret
      exact ⟨rfl, HG.out _⟩
  | true =>
  by_cases t1 : 0 < ch.length
  · have u1 : decide (0 < ch.length) = true := decide_eq_true t1
    have u1z : decide ((0 : Int) < (ch.length : Int)) = true := decide_eq_true (by omega)
    clear H3 HAT HUT HLG HDR HDL HZM
    as_aux_lemma =>
      go_enter Tryz.func7, Tryz.ntmps7
      go_upto_region 1 with fail
      rw [E1.out]
      go_wp2_with (first | ((with_reducible show wpList _ _ _ _ _ _); refine wpList_load (t := 32) (v := .agg #[.int .i64 start, .int .i64 long, .bool world, .bool true, .int .i64 rule.freq, .int .i64 rule.iv, .int .i64 rule.count, .int .i64 rule.until_, .slice A1 rule.bm.length c1, .slice A2 rule.bd.length c2, .slice A3 rule.bw.length c3, .slice A4 rule.bs.length c4, .int .i64 rule.start, .slice A5 ex.length c5, .slice A6 plus.length c6, .slice A7 ch.length c7]) rfl rfl (le _) ?_; simp only [Act.put, List.setIfInBounds_toArray, List.set_cons_zero, List.set_cons_succ]) | (go_at_call 8; (with_reducible refine (H0.out _).mono ?_); rintro q w' ⟨rfl, hb⟩; obtain ⟨g', rfl⟩ := Gr.on _ hb; clear hb) | (go_at_call 11; (with_reducible refine (H1.out _).mono ?_); rintro q w' ⟨rfl, hb⟩; obtain ⟨g', rfl⟩ := Gr.on _ hb; clear hb) | (go_at_call 9; (with_reducible refine (HF.out _).mono ?_); rintro q w' ⟨rfl, hb⟩; obtain ⟨g', rfl⟩ := Gr.on _ hb; clear hb))
      go_ret
      exact ⟨rfl, HG.out _⟩
  have u1 : decide (0 < ch.length) = false := decide_eq_false t1
  have u1z : decide ((0 : Int) < (ch.length : Int)) = false := decide_eq_false (by omega)
  by_cases t2 : x1 < 0
  · have u2 : decide (x1 < 0) = true := decide_eq_true t2
    clear H3 HAT HUT HLG HDR HDL HZM
    as_aux_lemma =>
      go_enter Tryz.func7, Tryz.ntmps7
      go_upto_region 1 with fail
      rw [E1.out]
      go_wp2_with (first | ((with_reducible show wpList _ _ _ _ _ _); refine wpList_load (t := 32) (v := .agg #[.int .i64 start, .int .i64 long, .bool world, .bool true, .int .i64 rule.freq, .int .i64 rule.iv, .int .i64 rule.count, .int .i64 rule.until_, .slice A1 rule.bm.length c1, .slice A2 rule.bd.length c2, .slice A3 rule.bw.length c3, .slice A4 rule.bs.length c4, .int .i64 rule.start, .slice A5 ex.length c5, .slice A6 plus.length c6, .slice A7 ch.length c7]) rfl rfl (le _) ?_; simp only [Act.put, List.setIfInBounds_toArray, List.set_cons_zero, List.set_cons_succ]) | (go_at_call 8; (with_reducible refine (H0.out _).mono ?_); rintro q w' ⟨rfl, hb⟩; obtain ⟨g', rfl⟩ := Gr.on _ hb; clear hb) | (go_at_call 11; (with_reducible refine (H1.out _).mono ?_); rintro q w' ⟨rfl, hb⟩; obtain ⟨g', rfl⟩ := Gr.on _ hb; clear hb) | (go_at_call 9; (with_reducible refine (HF.out _).mono ?_); rintro q w' ⟨rfl, hb⟩; obtain ⟨g', rfl⟩ := Gr.on _ hb; clear hb))
      go_ret
      exact ⟨rfl, HG.out _⟩
  have u2 : decide (x1 < 0) = false := decide_eq_false t2
  by_cases t3 : 1073741824 < x2
  · have u3 : decide (1073741824 < x2) = true := decide_eq_true t3
    clear H3 HAT HUT HLG HDR HDL HZM
    as_aux_lemma =>
      go_enter Tryz.func7, Tryz.ntmps7
      go_upto_region 1 with fail
      rw [E1.out]
      go_wp2_with (first | ((with_reducible show wpList _ _ _ _ _ _); refine wpList_load (t := 32) (v := .agg #[.int .i64 start, .int .i64 long, .bool world, .bool true, .int .i64 rule.freq, .int .i64 rule.iv, .int .i64 rule.count, .int .i64 rule.until_, .slice A1 rule.bm.length c1, .slice A2 rule.bd.length c2, .slice A3 rule.bw.length c3, .slice A4 rule.bs.length c4, .int .i64 rule.start, .slice A5 ex.length c5, .slice A6 plus.length c6, .slice A7 ch.length c7]) rfl rfl (le _) ?_; simp only [Act.put, List.setIfInBounds_toArray, List.set_cons_zero, List.set_cons_succ]) | (go_at_call 8; (with_reducible refine (H0.out _).mono ?_); rintro q w' ⟨rfl, hb⟩; obtain ⟨g', rfl⟩ := Gr.on _ hb; clear hb) | (go_at_call 11; (with_reducible refine (H1.out _).mono ?_); rintro q w' ⟨rfl, hb⟩; obtain ⟨g', rfl⟩ := Gr.on _ hb; clear hb) | (go_at_call 9; (with_reducible refine (HF.out _).mono ?_); rintro q w' ⟨rfl, hb⟩; obtain ⟨g', rfl⟩ := Gr.on _ hb; clear hb))
      go_ret
      exact ⟨rfl, HG.out _⟩
  have u3 : decide (1073741824 < x2) = false := decide_eq_false t3
  by_cases t4 : x2 ≤ x1
  · have u4 : decide (x2 ≤ x1) = true := decide_eq_true t4
    clear H3 HAT HUT HLG HDR HDL HZM
    as_aux_lemma =>
      go_enter Tryz.func7, Tryz.ntmps7
      go_upto_region 1 with fail
      rw [E1.out]
      go_wp2_with (first | ((with_reducible show wpList _ _ _ _ _ _); refine wpList_load (t := 32) (v := .agg #[.int .i64 start, .int .i64 long, .bool world, .bool true, .int .i64 rule.freq, .int .i64 rule.iv, .int .i64 rule.count, .int .i64 rule.until_, .slice A1 rule.bm.length c1, .slice A2 rule.bd.length c2, .slice A3 rule.bw.length c3, .slice A4 rule.bs.length c4, .int .i64 rule.start, .slice A5 ex.length c5, .slice A6 plus.length c6, .slice A7 ch.length c7]) rfl rfl (le _) ?_; simp only [Act.put, List.setIfInBounds_toArray, List.set_cons_zero, List.set_cons_succ]) | (go_at_call 8; (with_reducible refine (H0.out _).mono ?_); rintro q w' ⟨rfl, hb⟩; obtain ⟨g', rfl⟩ := Gr.on _ hb; clear hb) | (go_at_call 11; (with_reducible refine (H1.out _).mono ?_); rintro q w' ⟨rfl, hb⟩; obtain ⟨g', rfl⟩ := Gr.on _ hb; clear hb) | (go_at_call 9; (with_reducible refine (HF.out _).mono ?_); rintro q w' ⟨rfl, hb⟩; obtain ⟨g', rfl⟩ := Gr.on _ hb; clear hb))
      go_ret
      exact ⟨rfl, HG.out _⟩
  have u4 : decide (x2 ≤ x1) = false := decide_eq_false t4
  have hws : IntKind.i64.wrap (x2 - x1) = x2 - x1 := by rw [IntKind.wrap_i64]; omega
  by_cases t5 : 86400 < x2 - x1
  · have u5 : decide (86400 < x2 - x1) = true := decide_eq_true t5
    clear H3 HAT HUT HLG HDR HDL HZM
    as_aux_lemma =>
      go_enter Tryz.func7, Tryz.ntmps7
      go_upto_region 1 with fail
      rw [E1.out]
      go_wp2_with (first | ((with_reducible show wpList _ _ _ _ _ _); refine wpList_load (t := 32) (v := .agg #[.int .i64 start, .int .i64 long, .bool world, .bool true, .int .i64 rule.freq, .int .i64 rule.iv, .int .i64 rule.count, .int .i64 rule.until_, .slice A1 rule.bm.length c1, .slice A2 rule.bd.length c2, .slice A3 rule.bw.length c3, .slice A4 rule.bs.length c4, .int .i64 rule.start, .slice A5 ex.length c5, .slice A6 plus.length c6, .slice A7 ch.length c7]) rfl rfl (le _) ?_; simp only [Act.put, List.setIfInBounds_toArray, List.set_cons_zero, List.set_cons_succ]) | (go_at_call 8; (with_reducible refine (H0.out _).mono ?_); rintro q w' ⟨rfl, hb⟩; obtain ⟨g', rfl⟩ := Gr.on _ hb; clear hb) | (go_at_call 11; (with_reducible refine (H1.out _).mono ?_); rintro q w' ⟨rfl, hb⟩; obtain ⟨g', rfl⟩ := Gr.on _ hb; clear hb) | (go_at_call 9; (with_reducible refine (HF.out _).mono ?_); rintro q w' ⟨rfl, hb⟩; obtain ⟨g', rfl⟩ := Gr.on _ hb; clear hb))
      go_ret
      exact ⟨rfl, HG.out _⟩
  have u5 : decide (86400 < x2 - x1) = false := decide_eq_false t5
  replace HAT := Lib.hid (HAT.out rfl rfl)
  replace HUT := Lib.hid (HUT.out rfl)
  replace HLG := Lib.hid (HLG.out rfl)
  replace HDR := Lib.hid (HDR.out rfl)
  replace HDL := Lib.hid (HDL.out rfl rfl (by omega) ⟨by show x1 < x2; omega, by show x2 - x1 ≤ 528480; omega⟩)
  have HM := Lib.hid (H3.out x1 x2 hx1 hx2)
  have hwa : IntKind.i64.wrap a = a := by rw [IntKind.wrap_i64]; omega
  obtain ⟨k0, hk0⟩ : ∃ k0, x1.tdiv 1440 = k0 := ⟨_, rfl⟩
  obtain ⟨K2, hK2⟩ : ∃ K2, x2.tdiv 1440 = K2 := ⟨_, rfl⟩
  obtain ⟨st, hst⟩ : ∃ st, start.tmod 1440 = st := ⟨_, rfl⟩
  have bk0 : 0 ≤ k0 ∧ k0 ≤ 745655 := by rw [← hk0, Int.tdiv_eq_ediv_of_nonneg (by omega)]; omega
  have bK2 : 0 ≤ K2 ∧ K2 ≤ 745655 ∧ k0 ≤ K2 := by rw [← hK2, ← hk0, Int.tdiv_eq_ediv_of_nonneg (by omega), Int.tdiv_eq_ediv_of_nonneg (by omega)]; omega
  have bst : 0 ≤ st ∧ st < 1440 := by have := HLG.out; rw [← hst, Int.tmod_eq_emod_of_nonneg (by omega)]; omega
  have hwk0 : IntKind.i64.wrap k0 = k0 := by rw [IntKind.wrap_i64]; omega
  have hwK2 : IntKind.i64.wrap K2 = K2 := by rw [IntKind.wrap_i64]; omega
  have hwst : IntKind.i64.wrap st = st := by rw [IntKind.wrap_i64]; omega
  clear H3 t0
  go_enter Tryz.func7, Tryz.ntmps7
  go_upto_region 1 with fail
  rw [E1.out]
  go_wp2_with (first | ((with_reducible show wpList _ _ _ _ _ _); refine wpList_load (t := 32) (v := .agg #[.int .i64 start, .int .i64 long, .bool world, .bool true, .int .i64 rule.freq, .int .i64 rule.iv, .int .i64 rule.count, .int .i64 rule.until_, .slice A1 rule.bm.length c1, .slice A2 rule.bd.length c2, .slice A3 rule.bw.length c3, .slice A4 rule.bs.length c4, .int .i64 rule.start, .slice A5 ex.length c5, .slice A6 plus.length c6, .slice A7 ch.length c7]) rfl rfl (le _) ?_; simp only [Act.put, List.setIfInBounds_toArray, List.set_cons_zero, List.set_cons_succ]) | (go_at_call 8; (with_reducible refine (H0.out _).mono ?_); rintro q w' ⟨rfl, hb⟩; obtain ⟨g', rfl⟩ := Gr.on _ hb; clear hb) | (go_at_call 11; (with_reducible refine (H1.out _).mono ?_); rintro q w' ⟨rfl, hb⟩; obtain ⟨g', rfl⟩ := Gr.on _ hb; clear hb) | (go_at_call 9; (with_reducible refine (HF.out _).mono ?_); rintro q w' ⟨rfl, hb⟩; obtain ⟨g', rfl⟩ := Gr.on _ hb; clear hb))
  go_at_call 13
  with_reducible refine (HM.out _ (Gr.ok _)).mono ?_
  rintro q w3 ⟨Am, cm, rfl, hsm, hb⟩
  obtain ⟨g5, rfl⟩ := Gr.on _ hb
  have hnaz : (mv (x1, x2)).length ≤ 9223372036854775807 := Nat.le_trans hsm.le hsm.cap
  clear hb hsm
  generalize (mv (x1, x2)).length = na at *
  go_wp2_with (first | ((with_reducible show wpList _ _ _ _ _ _); refine wpList_load (t := 32) (v := .agg #[.int .i64 start, .int .i64 long, .bool world, .bool true, .int .i64 rule.freq, .int .i64 rule.iv, .int .i64 rule.count, .int .i64 rule.until_, .slice A1 rule.bm.length c1, .slice A2 rule.bd.length c2, .slice A3 rule.bw.length c3, .slice A4 rule.bs.length c4, .int .i64 rule.start, .slice A5 ex.length c5, .slice A6 plus.length c6, .slice A7 ch.length c7]) rfl rfl (le _) ?_; simp only [Act.put, List.setIfInBounds_toArray, List.set_cons_zero, List.set_cons_succ]) | (go_at_call 8; (with_reducible refine (H0.out _).mono ?_); rintro q w' ⟨rfl, hb⟩; obtain ⟨g', rfl⟩ := Gr.on _ hb; clear hb) | (go_at_call 11; (with_reducible refine (H1.out _).mono ?_); rintro q w' ⟨rfl, hb⟩; obtain ⟨g', rfl⟩ := Gr.on _ hb; clear hb) | (go_at_call 9; (with_reducible refine (HF.out _).mono ?_); rintro q w' ⟨rfl, hb⟩; obtain ⟨g', rfl⟩ := Gr.on _ hb; clear hb))
  clear H0 H1
  go_loopw [10] (fun s10 wr => ∃ (k : Int) (g : Gr W), wr = g.val ∧ s10 = .int .i64 k ∧ 0 ≤ k ∧ k ≤ K2 + 1) (fun s10 _ => (K2 + 1 - intOf s10).toNat)
  case atStart => exact ⟨k0, g5, rfl, rfl, bk0.1, by omega⟩
  case round =>
    obtain ⟨k, g, rfl, rfl, hk1, hk2⟩ := hrel
    by_cases hkl : k ≤ K2
    · have dk : decide (k ≤ K2) = true := decide_eq_true hkl
      have hwk : IntKind.i64.wrap (k * 1440) = k * 1440 := by rw [IntKind.wrap_i64]; omega
      have hwk1 : IntKind.i64.wrap (k + 1) = k + 1 := by rw [IntKind.wrap_i64]; omega
      obtain ⟨loc, hloc⟩ : ∃ loc, k * 1440 + st = loc := ⟨_, rfl⟩
      have bloc : 0 ≤ loc ∧ loc < 1073800000 := by omega
      have hwl : IntKind.i64.wrap loc = loc := by rw [IntKind.wrap_i64]; omega
      have hwka : IntKind.i64.wrap (k + a) = k + a := by rw [IntKind.wrap_i64]; omega
      obtain ⟨r, hr⟩ : ∃ r, (k + a).tmod 7 = r := ⟨_, rfl⟩
      have br : 0 ≤ r ∧ r < 7 := by rw [← hr, Int.tmod_eq_emod_of_nonneg (by omega)]; omega
      have hwr : IntKind.i64.wrap r = r := by rw [IntKind.wrap_i64]; omega
      by_cases r0 : r = 0
      · have dr : (r != 0) = false := by simp [r0]
        by_cases l0 : 158310720 ≤ loc
        · have dl : decide (158310720 ≤ loc) = true := decide_eq_true l0
          clear r0
          as_aux_lemma =>
            go_wp2_with (first | ((with_reducible show wpList _ _ _ _ _ _); refine wpList_load (t := 32) (v := .agg #[.int .i64 start, .int .i64 long, .bool world, .bool true, .int .i64 rule.freq, .int .i64 rule.iv, .int .i64 rule.count, .int .i64 rule.until_, .slice A1 rule.bm.length c1, .slice A2 rule.bd.length c2, .slice A3 rule.bw.length c3, .slice A4 rule.bs.length c4, .int .i64 rule.start, .slice A5 ex.length c5, .slice A6 plus.length c6, .slice A7 ch.length c7]) rfl rfl (le _) ?_; simp only [Act.put, List.setIfInBounds_toArray, List.set_cons_zero, List.set_cons_succ]) | (go_at_call 8; (with_reducible refine (H0.out _).mono ?_); rintro q w' ⟨rfl, hb⟩; obtain ⟨g', rfl⟩ := Gr.on _ hb; clear hb) | (go_at_call 11; (with_reducible refine (H1.out _).mono ?_); rintro q w' ⟨rfl, hb⟩; obtain ⟨g', rfl⟩ := Gr.on _ hb; clear hb) | (go_at_call 9; (with_reducible refine (HF.out _).mono ?_); rintro q w' ⟨rfl, hb⟩; obtain ⟨g', rfl⟩ := Gr.on _ hb; clear hb))
            go_roundw
            case rel => exact ⟨k + 1, _, rfl, by go_num, by omega, by omega⟩
            case measure => simp [intOf]; omega
        · have dl : decide (158310720 ≤ loc) = false := decide_eq_false l0
          clear r0
          obtain ⟨qa, hqa⟩ : ∃ qa, at1 loc = qa := ⟨_, rfl⟩
          have HA := Lib.hid (fun g : Gr W => HAT.out g loc)
          rw [hqa] at HA
          cases qa with
          | false =>
            clear hqa
            as_aux_lemma =>
              go_wp2_with (first | ((with_reducible show wpList _ _ _ _ _ _); refine wpList_load (t := 32) (v := .agg #[.int .i64 start, .int .i64 long, .bool world, .bool true, .int .i64 rule.freq, .int .i64 rule.iv, .int .i64 rule.count, .int .i64 rule.until_, .slice A1 rule.bm.length c1, .slice A2 rule.bd.length c2, .slice A3 rule.bw.length c3, .slice A4 rule.bs.length c4, .int .i64 rule.start, .slice A5 ex.length c5, .slice A6 plus.length c6, .slice A7 ch.length c7]) rfl rfl (le _) ?_; simp only [Act.put, List.setIfInBounds_toArray, List.set_cons_zero, List.set_cons_succ]) | (go_at_call 8; (with_reducible refine (H0.out _).mono ?_); rintro q w' ⟨rfl, hb⟩; obtain ⟨g', rfl⟩ := Gr.on _ hb; clear hb) | (go_at_call 11; (with_reducible refine (H1.out _).mono ?_); rintro q w' ⟨rfl, hb⟩; obtain ⟨g', rfl⟩ := Gr.on _ hb; clear hb) | (go_at_call 9; (with_reducible refine (HF.out _).mono ?_); rintro q w' ⟨rfl, hb⟩; obtain ⟨g', rfl⟩ := Gr.on _ hb; clear hb))
              go_at_call 16
              with_reducible refine (HA.out _).mono ?_
              rintro q w' ⟨rfl, hb⟩
              obtain ⟨g7, rfl⟩ := Gr.on _ hb
              clear hb
              go_wp2_with (first | ((with_reducible show wpList _ _ _ _ _ _); refine wpList_load (t := 32) (v := .agg #[.int .i64 start, .int .i64 long, .bool world, .bool true, .int .i64 rule.freq, .int .i64 rule.iv, .int .i64 rule.count, .int .i64 rule.until_, .slice A1 rule.bm.length c1, .slice A2 rule.bd.length c2, .slice A3 rule.bw.length c3, .slice A4 rule.bs.length c4, .int .i64 rule.start, .slice A5 ex.length c5, .slice A6 plus.length c6, .slice A7 ch.length c7]) rfl rfl (le _) ?_; simp only [Act.put, List.setIfInBounds_toArray, List.set_cons_zero, List.set_cons_succ]) | (go_at_call 8; (with_reducible refine (H0.out _).mono ?_); rintro q w' ⟨rfl, hb⟩; obtain ⟨g', rfl⟩ := Gr.on _ hb; clear hb) | (go_at_call 11; (with_reducible refine (H1.out _).mono ?_); rintro q w' ⟨rfl, hb⟩; obtain ⟨g', rfl⟩ := Gr.on _ hb; clear hb) | (go_at_call 9; (with_reducible refine (HF.out _).mono ?_); rintro q w' ⟨rfl, hb⟩; obtain ⟨g', rfl⟩ := Gr.on _ hb; clear hb))
              go_roundw
              case rel => exact ⟨k + 1, _, rfl, by go_num, by omega, by omega⟩
              case measure => simp [intOf]; omega
          | true =>
            have HL := Lib.hid (HDL.out loc bloc.1 (by omega) hqa)
            have HU := Lib.hid (fun g : Gr W => HUT.out g loc)
            have HD := Lib.hid (fun B V => HDR.out loc B V)
            clear hqa
            go_wp2_with (first | ((with_reducible show wpList _ _ _ _ _ _); refine wpList_load (t := 32) (v := .agg #[.int .i64 start, .int .i64 long, .bool world, .bool true, .int .i64 rule.freq, .int .i64 rule.iv, .int .i64 rule.count, .int .i64 rule.until_, .slice A1 rule.bm.length c1, .slice A2 rule.bd.length c2, .slice A3 rule.bw.length c3, .slice A4 rule.bs.length c4, .int .i64 rule.start, .slice A5 ex.length c5, .slice A6 plus.length c6, .slice A7 ch.length c7]) rfl rfl (le _) ?_; simp only [Act.put, List.setIfInBounds_toArray, List.set_cons_zero, List.set_cons_succ]) | (go_at_call 8; (with_reducible refine (H0.out _).mono ?_); rintro q w' ⟨rfl, hb⟩; obtain ⟨g', rfl⟩ := Gr.on _ hb; clear hb) | (go_at_call 11; (with_reducible refine (H1.out _).mono ?_); rintro q w' ⟨rfl, hb⟩; obtain ⟨g', rfl⟩ := Gr.on _ hb; clear hb) | (go_at_call 9; (with_reducible refine (HF.out _).mono ?_); rintro q w' ⟨rfl, hb⟩; obtain ⟨g', rfl⟩ := Gr.on _ hb; clear hb))
            go_at_call 16
            with_reducible refine (HA.out _).mono ?_
            rintro q w' ⟨rfl, hb⟩
            obtain ⟨g7, rfl⟩ := Gr.on _ hb
            clear hb HA HAT HUT HDR HDL
            go_upto_region 10 with (first | ((with_reducible show wpList _ _ _ _ _ _); refine wpList_load (t := 32) (v := .agg #[.int .i64 start, .int .i64 long, .bool world, .bool true, .int .i64 rule.freq, .int .i64 rule.iv, .int .i64 rule.count, .int .i64 rule.until_, .slice A1 rule.bm.length c1, .slice A2 rule.bd.length c2, .slice A3 rule.bw.length c3, .slice A4 rule.bs.length c4, .int .i64 rule.start, .slice A5 ex.length c5, .slice A6 plus.length c6, .slice A7 ch.length c7]) rfl rfl (le _) ?_; simp only [Act.put, List.setIfInBounds_toArray, List.set_cons_zero, List.set_cons_succ]) | (go_at_call 8; (with_reducible refine (H0.out _).mono ?_); rintro q w' ⟨rfl, hb⟩; obtain ⟨g', rfl⟩ := Gr.on _ hb; clear hb) | (go_at_call 11; (with_reducible refine (H1.out _).mono ?_); rintro q w' ⟨rfl, hb⟩; obtain ⟨g', rfl⟩ := Gr.on _ hb; clear hb) | (go_at_call 9; (with_reducible refine (HF.out _).mono ?_); rintro q w' ⟨rfl, hb⟩; obtain ⟨g', rfl⟩ := Gr.on _ hb; clear hb))
            go_upto_region 11 with fail
            obtain ⟨V, hV⟩ : ∃ V, (g7.val.alloc (.cells #[.int .i64 start, .int .i64 long, .bool world, .bool true, .int .i64 rule.freq, .int .i64 rule.iv, .int .i64 rule.count, .int .i64 rule.until_, .slice A1 rule.bm.length c1, .slice A2 rule.bd.length c2, .slice A3 rule.bw.length c3, .slice A4 rule.bs.length c4, .int .i64 rule.start, .slice A5 ex.length c5, .slice A6 plus.length c6, .slice (some ⟨g7.val.heap.size + 1, 0, none⟩) 1 1] 32)).alloc (.cells #[.int .i64 loc, .int .i64 loc, .int .i64 0] 47) = V := ⟨_, rfl⟩
            have hBV : Below W.heap.size W V := by rw [← hV]; exact (g7.ok.alloc g7.size _).alloc (by simp; have := g7.size; omega) _
            have le2 : (Instr.loadAt 32 (.pointer (some ⟨g7.val.heap.size, 0, none⟩))).run Tryz.prog V = .ok (.agg #[.int .i64 start, .int .i64 long, .bool world, .bool true, .int .i64 rule.freq, .int .i64 rule.iv, .int .i64 rule.count, .int .i64 rule.until_, .slice A1 rule.bm.length c1, .slice A2 rule.bd.length c2, .slice A3 rule.bw.length c3, .slice A4 rule.bs.length c4, .int .i64 rule.start, .slice A5 ex.length c5, .slice A6 plus.length c6, .slice (some ⟨g7.val.heap.size + 1, 0, none⟩) 1 1]) V := load_event ⟨start, long, world, true, rule, ex, plus, [(loc, loc, 0)]⟩ A1 A2 A3 A4 A5 A6 (some ⟨g7.val.heap.size + 1, 0, none⟩) c1 c2 c3 c4 c5 c6 1 V g7.val.heap.size (fun k v hk => by rw [← hV]; exact cell_old (boxE ⟨start, long, world, true, rule, ex, plus, [(loc, loc, 0)]⟩ A1 A2 A3 A4 A5 A6 (some ⟨g7.val.heap.size + 1, 0, none⟩) c1 c2 c3 c4 c5 c6 1 g7.val ⟨_, Below.refl _ _⟩ k v hk) ((Below.refl _ _).alloc (Nat.le_refl _) _))
            have hs2 : Sl V (some ⟨g7.val.heap.size + 1, 0, none⟩) 1 1 [.int .i64 loc, .int .i64 loc, .int .i64 0] := by
              have := Sl.new (g7.val.alloc (.cells #[.int .i64 start, .int .i64 long, .bool world, .bool true, .int .i64 rule.freq, .int .i64 rule.iv, .int .i64 rule.count, .int .i64 rule.until_, .slice A1 rule.bm.length c1, .slice A2 rule.bd.length c2, .slice A3 rule.bw.length c3, .slice A4 rule.bs.length c4, .int .i64 rule.start, .slice A5 ex.length c5, .slice A6 plus.length c6, .slice (some ⟨g7.val.heap.size + 1, 0, none⟩) 1 1] 32)) [.int .i64 loc, .int .i64 loc, .int .i64 0] 1 47 (0, 0) (by unfold maxLen; omega)
              rw [← hV]
              simpa using this
            rw [hV]
            have HDc := Lib.hid (HD.out _ V hBV hs2)
            clear hV hs2 HD
            obtain ⟨g8, rfl⟩ : ∃ g8 : Gr W, V = g8.val := ⟨⟨V, hBV⟩, rfl⟩
            clear hBV
            go_wp2_with ((with_reducible show wpList _ _ _ _ _ _); refine wpList_load (t := 32) (v := .agg #[.int .i64 start, .int .i64 long, .bool world, .bool true, .int .i64 rule.freq, .int .i64 rule.iv, .int .i64 rule.count, .int .i64 rule.until_, .slice A1 rule.bm.length c1, .slice A2 rule.bd.length c2, .slice A3 rule.bw.length c3, .slice A4 rule.bs.length c4, .int .i64 rule.start, .slice A5 ex.length c5, .slice A6 plus.length c6, .slice (some ⟨g7.val.heap.size + 1, 0, none⟩) 1 1]) rfl rfl le2 ?_; simp only [Act.put, List.setIfInBounds_toArray, List.set_cons_zero, List.set_cons_succ])
            go_at_call 13
            with_reducible refine HDc.out.mono ?_
            rintro q w' ⟨Ad, cd, rfl, hsd, hb⟩
            obtain ⟨g9, rfl⟩ := g8.on hb
            clear hb hsd HDc le2
            go_wp2_with fail
            go_at_call 17
            with_reducible refine (HU.out g9).mono ?_
            rintro q w' ⟨⟨u, kk, bb, rfl, bu, hmm⟩, hb⟩
            obtain ⟨g10, rfl⟩ := g9.on hb
            clear hb HU
            go_upto_region 13 with fail
            obtain ⟨g11, hg11⟩ : ∃ g11 : Gr W, g10.val.alloc (.cells #[.int .i64 u, .int .i64 kk, .bool bb] 49) = g11.val := g10.up0
            have r0 : g11.val.cell? ⟨g10.val.heap.size, 0, none⟩ = some (.int .i64 u) := by rw [← hg11]; simp [go_sem]
            have r2 : g11.val.cell? ⟨g10.val.heap.size, 2, none⟩ = some (.bool bb) := by rw [← hg11]; simp [go_sem]
            rw [hg11]
            clear hg11
            have hwu : IntKind.i64.wrap (u + long) = u + long := by have := HLG.out; rw [IntKind.wrap_i64]; omega
            generalize (md loc).length = nd at *
            cases bb with
            | true =>
              as_aux_lemma =>
                have hmv2 : met loc = false := by rw [← hmm]; simp 
                have hll := HL.out
                rw [hmv2] at hll
                simp only [if_true, Bool.false_eq_true, if_false, Nat.add_zero] at hll
                clear hmm hmv2 HL
                have n1 : ((nd : Int) != (na : Int)) = false := by simp; omega
                have n2 : (nd != na) = false := by simp; omega
                have n5 : decide ((nd : Int) < (na : Int)) = false := decide_eq_false (by omega)
                have n6 : decide (nd < na) = false := decide_eq_false (by omega)
                clear hll
                go_wp2_with fail
                go_roundw
                case rel => exact ⟨k + 1, _, rfl, by go_num, by omega, by omega⟩
                case measure => simp [intOf]; omega
            | false =>
              cases zm with
              | false =>
                as_aux_lemma =>
                  have hmv2 : met loc = false := by rw [← hmm]; simp 
                  have hll := HL.out
                  rw [hmv2] at hll
                  simp only [if_true, Bool.false_eq_true, if_false, Nat.add_zero] at hll
                  clear hmm hmv2 HL
                  have n1 : ((nd : Int) != (na : Int)) = false := by simp; omega
                  have n2 : (nd != na) = false := by simp; omega
                  have n5 : decide ((nd : Int) < (na : Int)) = false := decide_eq_false (by omega)
                  have n6 : decide (nd < na) = false := decide_eq_false (by omega)
                  clear hll
                  go_wp2_with fail
                  go_at_call 18
                  with_reducible refine (HZM.out g11).mono ?_
                  rintro q w' ⟨rfl, hb⟩
                  have p0 : w'.cell? ⟨g10.val.heap.size, 0, none⟩ = some (.int .i64 u) := cell_old r0 hb
                  have p2 : w'.cell? ⟨g10.val.heap.size, 2, none⟩ = some (.bool false) := cell_old r2 hb
                  obtain ⟨g12, rfl⟩ := g11.on hb
                  clear hb r0 r2
                  go_wp2_with fail
                  go_roundw
                  case rel => exact ⟨k + 1, _, rfl, by go_num, by omega, by omega⟩
                  case measure => simp [intOf]; omega
              | true =>
                by_cases s1 : u < x2
                · have e1 : decide (u < x2) = true := decide_eq_true s1
                  by_cases s2 : x1 < u + long
                  · have e2 : decide (x1 < u + long) = true := decide_eq_true s2
                    as_aux_lemma =>
                      have hmv2 : met loc = true := by rw [← hmm]; simp [e1, e2]
                      have hll := HL.out
                      rw [hmv2] at hll
                      simp only [if_true, Bool.false_eq_true, if_false, Nat.add_zero] at hll
                      clear hmm hmv2 HL
                      have n1 : ((nd : Int) != (na : Int)) = true := by simp; omega
                      have n2 : (nd != na) = true := by simp; omega
                      have n3 : ((nd : Int) != (na : Int) - 1) = false := by simp; omega
                      have n4 : IntKind.i64.wrap ((na : Int) - 1) = (na : Int) - 1 := by rw [IntKind.wrap_i64]; omega
                      have n5 : decide ((nd : Int) < (na : Int)) = true := decide_eq_true (by omega)
                      have n6 : decide (nd < na) = true := decide_eq_true (by omega)
                      clear hll
                      go_wp2_with fail
                      go_at_call 18
                      with_reducible refine (HZM.out g11).mono ?_
                      rintro q w' ⟨rfl, hb⟩
                      have p0 : w'.cell? ⟨g10.val.heap.size, 0, none⟩ = some (.int .i64 u) := cell_old r0 hb
                      have p2 : w'.cell? ⟨g10.val.heap.size, 2, none⟩ = some (.bool false) := cell_old r2 hb
                      obtain ⟨g12, rfl⟩ := g11.on hb
                      clear hb r0 r2
                      go_wp2_with fail
                      go_roundw
                      case rel => exact ⟨k + 1, _, rfl, by go_num, by omega, by omega⟩
                      case measure => simp [intOf]; omega
                  · have e2 : decide (x1 < u + long) = false := decide_eq_false s2
                    as_aux_lemma =>
                      have hmv2 : met loc = false := by rw [← hmm]; simp [e2]
                      have hll := HL.out
                      rw [hmv2] at hll
                      simp only [if_true, Bool.false_eq_true, if_false, Nat.add_zero] at hll
                      clear hmm hmv2 HL
                      have n1 : ((nd : Int) != (na : Int)) = false := by simp; omega
                      have n2 : (nd != na) = false := by simp; omega
                      have n5 : decide ((nd : Int) < (na : Int)) = false := decide_eq_false (by omega)
                      have n6 : decide (nd < na) = false := decide_eq_false (by omega)
                      clear hll
                      go_wp2_with fail
                      go_at_call 18
                      with_reducible refine (HZM.out g11).mono ?_
                      rintro q w' ⟨rfl, hb⟩
                      have p0 : w'.cell? ⟨g10.val.heap.size, 0, none⟩ = some (.int .i64 u) := cell_old r0 hb
                      have p2 : w'.cell? ⟨g10.val.heap.size, 2, none⟩ = some (.bool false) := cell_old r2 hb
                      obtain ⟨g12, rfl⟩ := g11.on hb
                      clear hb r0 r2
                      go_wp2_with fail
                      go_roundw
                      case rel => exact ⟨k + 1, _, rfl, by go_num, by omega, by omega⟩
                      case measure => simp [intOf]; omega
                · have e1 : decide (u < x2) = false := decide_eq_false s1
                  as_aux_lemma =>
                    have hmv2 : met loc = false := by rw [← hmm]; simp [e1]
                    have hll := HL.out
                    rw [hmv2] at hll
                    simp only [if_true, Bool.false_eq_true, if_false, Nat.add_zero] at hll
                    clear hmm hmv2 HL
                    have n1 : ((nd : Int) != (na : Int)) = false := by simp; omega
                    have n2 : (nd != na) = false := by simp; omega
                    have n5 : decide ((nd : Int) < (na : Int)) = false := decide_eq_false (by omega)
                    have n6 : decide (nd < na) = false := decide_eq_false (by omega)
                    clear hll
                    go_wp2_with fail
                    go_at_call 18
                    with_reducible refine (HZM.out g11).mono ?_
                    rintro q w' ⟨rfl, hb⟩
                    have p0 : w'.cell? ⟨g10.val.heap.size, 0, none⟩ = some (.int .i64 u) := cell_old r0 hb
                    have p2 : w'.cell? ⟨g10.val.heap.size, 2, none⟩ = some (.bool false) := cell_old r2 hb
                    obtain ⟨g12, rfl⟩ := g11.on hb
                    clear hb r0 r2
                    go_wp2_with fail
                    go_roundw
                    case rel => exact ⟨k + 1, _, rfl, by go_num, by omega, by omega⟩
                    case measure => simp [intOf]; omega
      · have dr : (r != 0) = true := by simp [r0]
        as_aux_lemma =>
          go_wp2_with (first | ((with_reducible show wpList _ _ _ _ _ _); refine wpList_load (t := 32) (v := .agg #[.int .i64 start, .int .i64 long, .bool world, .bool true, .int .i64 rule.freq, .int .i64 rule.iv, .int .i64 rule.count, .int .i64 rule.until_, .slice A1 rule.bm.length c1, .slice A2 rule.bd.length c2, .slice A3 rule.bw.length c3, .slice A4 rule.bs.length c4, .int .i64 rule.start, .slice A5 ex.length c5, .slice A6 plus.length c6, .slice A7 ch.length c7]) rfl rfl (le _) ?_; simp only [Act.put, List.setIfInBounds_toArray, List.set_cons_zero, List.set_cons_succ]) | (go_at_call 8; (with_reducible refine (H0.out _).mono ?_); rintro q w' ⟨rfl, hb⟩; obtain ⟨g', rfl⟩ := Gr.on _ hb; clear hb) | (go_at_call 11; (with_reducible refine (H1.out _).mono ?_); rintro q w' ⟨rfl, hb⟩; obtain ⟨g', rfl⟩ := Gr.on _ hb; clear hb) | (go_at_call 9; (with_reducible refine (HF.out _).mono ?_); rintro q w' ⟨rfl, hb⟩; obtain ⟨g', rfl⟩ := Gr.on _ hb; clear hb))
          go_roundw
          case rel => exact ⟨k + 1, _, rfl, by go_num, by omega, by omega⟩
          case measure => simp [intOf]; omega
    · have dk : decide (k ≤ K2) = false := decide_eq_false hkl
      as_aux_lemma =>
        go_wp2_with (first | ((with_reducible show wpList _ _ _ _ _ _); refine wpList_load (t := 32) (v := .agg #[.int .i64 start, .int .i64 long, .bool world, .bool true, .int .i64 rule.freq, .int .i64 rule.iv, .int .i64 rule.count, .int .i64 rule.until_, .slice A1 rule.bm.length c1, .slice A2 rule.bd.length c2, .slice A3 rule.bw.length c3, .slice A4 rule.bs.length c4, .int .i64 rule.start, .slice A5 ex.length c5, .slice A6 plus.length c6, .slice A7 ch.length c7]) rfl rfl (le _) ?_; simp only [Act.put, List.setIfInBounds_toArray, List.set_cons_zero, List.set_cons_succ]) | (go_at_call 8; (with_reducible refine (H0.out _).mono ?_); rintro q w' ⟨rfl, hb⟩; obtain ⟨g', rfl⟩ := Gr.on _ hb; clear hb) | (go_at_call 11; (with_reducible refine (H1.out _).mono ?_); rintro q w' ⟨rfl, hb⟩; obtain ⟨g', rfl⟩ := Gr.on _ hb; clear hb) | (go_at_call 9; (with_reducible refine (HF.out _).mono ?_); rintro q w' ⟨rfl, hb⟩; obtain ⟨g', rfl⟩ := Gr.on _ hb; clear hb))
        go_ret
        exact ⟨rfl, HG.out _⟩
end Go.Proofs.YtfjmofefciopmaaGreat
end
