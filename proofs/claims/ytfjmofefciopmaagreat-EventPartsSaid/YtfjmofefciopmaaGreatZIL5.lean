import Derived.Test.YtfjmofefciopmaaGreatZIL2
import Derived.Test.YtfjmofefciopmaaGreatZMX
import Derived.Test.YtfjmofefciopmaaGreatZMJ
import Derived.Test.YtfjmofefciopmaaGreatZMB
/- Layer 11's law on the parts of a window. -/
section
namespace Go.Proofs.YtfjmofefciopmaaGreat
open Go.ChangeShapes Go.WideShapes Go.ChangeAt Go.RowKit Go.Joins Sp Ev Qr
theorem members_len (z : Zn.Z) {e : Evt} {x : Spn} (hp : e.plus.length ≤ 100) (hc : e.ch.length ≤ 100) : (membersV z e x).length ≤ 1000000 := by
  unfold membersV
  split
  · rw [srt_len]
    unfold rowV
    rw [List.length_append]
    have h1 := List.length_filterMap_le (fun a => selO z e.world x a e.long) (T0 e x)
    have h2 := List.length_filterMap_le (fC z e x) e.ch
    have h3 : (T0 e x).length ≤ 110038 := by
      unfold T0
      split
      · refine Nat.le_trans (List.length_filter_le _ _) ?_
        rw [List.length_append]
        have k1 := List.length_filter_le (fun p => !Tm.memB (wL e x) p) e.plus
        have k2 : (wL e x).length ≤ 109938 := (Tm.within_ris _ _ _ _).2
        omega
      · simp
    omega
  · simp
set_option maxRecDepth 100000 in
set_option maxHeartbeats 16000000 in
theorem eventParts_any (z : Zn.Z) (Z : Option Addr) (cz : Nat) (e : Evt) (A1 A2 A3 A4 A5 A6 A7 : Option Addr) (c1 c2 c3 c4 c5 c6 c7 : Nat) (x1 x2 a : Int) (hw : ZWf z)
    (hx1 : -9223372036854775808 ≤ x1 ∧ x1 ≤ 9223372036854775807) (hx2 : -9223372036854775808 ≤ x2 ∧ x2 ≤ 9223372036854775807) (ha : 0 ≤ a ∧ a < 4294967296) (w : World) (hz : ZAt w Z z) (h : EAt w e A1 A2 A3 A4 A5 A6 A7 c1 c2 c3 c4 c5 c6 c7) :
    Calls Tryz.prog 5 #[.agg #[.int .i64 z.base, .slice Z z.n cz], .agg (ecells e A1 A2 A3 A4 A5 A6 A7 c1 c2 c3 c4 c5 c6 c7), .agg #[.int .i64 x1, .int .i64 x2], .int .u32 a] w fun q w' => q = .returned (.bool true) ∧ Below w.heap.size w w' := by
  obtain ⟨W, hW⟩ : ∃ W, ((w.alloc (.cells #[.int .i64 z.base, .slice Z z.n cz] 24)).alloc (.cells (ecells e A1 A2 A3 A4 A5 A6 A7 c1 c2 c3 c4 c5 c6 c7) 32)).alloc (.cells #[.int .i64 x1, .int .i64 x2] 34) = W := ⟨_, rfl⟩
  have hBW : Below w.heap.size w W := by rw [← hW]; exact (((Below.refl _ w).alloc (Nat.le_refl _) _).alloc (by simp) _).alloc (by simp; omega) _
  have HG : Hid (∀ g : Gr W, Below w.heap.size w g.val) := fun g => hBW.trans (g.ok.mono hBW.size)
  have HX3 : Box3E e A1 A2 A3 A4 A5 A6 A7 c1 c2 c3 c4 c5 c6 c7 z Z cz x1 x2 W w.heap.size := by rw [← hW]; exact box3E e A1 A2 A3 A4 A5 A6 A7 c1 c2 c3 c4 c5 c6 c7 z Z cz x1 x2 w
  have z0 := HX3.z0
  have z1 := HX3.z1
  have HB := HX3.e
  have w0 := HX3.w0
  have w1 := HX3.w1
  have HE : ∀ g : Gr W, EAt g.val e A1 A2 A3 A4 A5 A6 A7 c1 c2 c3 c4 c5 c6 c7 := fun g => h.below (HG.out g)
  have HZ : ∀ g : Gr W, ZAt g.val Z z := fun g => hz.below (HG.out g)
  obtain ⟨q0, hq0⟩ : ∃ q, greatEB e = q := ⟨_, rfl⟩
  have hzn : z.n ≤ 9223372036854775807 := hw.2.1
  have H0 : Hid (∀ g : Gr W, Calls Tryz.prog 8 #[.agg (ecells e A1 A2 A3 A4 A5 A6 A7 c1 c2 c3 c4 c5 c6 c7)] g.val fun q w' => q = .returned (.bool q0) ∧ Below g.val.heap.size g.val w') := fun g => by rw [← hq0]; exact rgreat11_any e A1 A2 A3 A4 A5 A6 A7 c1 c2 c3 c4 c5 c6 c7 g.val (HE g)
  have HF : Hid (∀ g : Gr W, Calls Tryz.prog 9 #[] g.val fun q w' => q = .returned (.bool true) ∧ Below g.val.heap.size g.val w') := fun g => fixed11_any g.val
  have H3 : Hid (q0 = false → ∀ (y1 y2 : Int), (-9223372036854775808 ≤ y1 ∧ y1 ≤ 9223372036854775807) → (-9223372036854775808 ≤ y2 ∧ y2 ≤ 9223372036854775807) → ∀ V, Below W.heap.size W V → Calls Tryz.prog 13 #[.agg #[.int .i64 z.base, .slice Z z.n cz], .agg (ecells e A1 A2 A3 A4 A5 A6 A7 c1 c2 c3 c4 c5 c6 c7), .agg #[.int .i64 y1, .int .i64 y2]] V (RetS (membersV z e (y1, y2)) V)) := fun k y1 y2 hy1 hy2 V hV => by
    have := great_len (hq0.trans k); exact pmembers_any z Z cz e A1 A2 A3 A4 A5 A6 A7 c1 c2 c3 c4 c5 c6 c7 y1 y2 hw (by omega) (by omega) (by omega) this.2 hy1 hy2 V (HZ ⟨V, hV⟩) (HE ⟨V, hV⟩)
  have HSA : Hid (∀ (a b : List Spn) (A B : Option Addr) (c d : Nat) (w : World), Sl w A a.length c (sv a) → Sl w B b.length d (sv b) → Calls Tryz.prog 12 #[.slice A a.length c, .slice B b.length d] w fun e w' => e = .returned (.bool (decide (a = b))) ∧ Below w.heap.size w w') := fun a b A B c d w ha hb => rsame_any a b A B c d w ha hb
  have HPART : Hid (∀ c, winP (x1, x2) → x1 < c → c < x2 → membersV z e (x1, c) = (membersV z e (x1, x2)).filter (ltB c) ∧ membersV z e (c, x2) = (membersV z e (x1, x2)).filter (gtB c)) := fun c q1 q2 q3 => part_lists q1 q2 q3
  have HIN : Hid (∀ m ∈ membersV z e (x1, x2), m.1 < x2 ∧ x1 < m.2 ∧ m.1 < m.2) := fun m hm => members_in hm
  have HINO := Lib.hid (members_ino z e (x1, x2))
  have HLEN : Hid (q0 = false → (membersV z e (x1, x2)).length ≤ 1000000) := fun k => by have := great_len (hq0.trans k); exact members_len z (by omega) (by omega)
  obtain ⟨mv, hmv⟩ : ∃ mv, membersV z e = mv := ⟨_, rfl⟩
  rw [hmv] at H3 HPART HIN HINO HLEN
  clear hBW HX3 HE HZ h hz hq0 hw hmv
  have HLE := fun G : Gr W => load_event e A1 A2 A3 A4 A5 A6 A7 c1 c2 c3 c4 c5 c6 c7 G.val (w.heap.size + 1) (HB G)
  obtain ⟨start, long, world, again, rule, ex, plus, ch⟩ := e
  unfold ecells at HLE HB hW H0 H3 ⊢
  simp only at *
  obtain ⟨g0, hg0⟩ := Gr.start W
  have E1 := Lib.hid (hW.trans hg0)
  have le : ∀ G : Gr W, (Instr.loadAt 32 (.pointer (some ⟨w.heap.size + 1, 0, none⟩))).run Tryz.prog G.val = .ok (.agg #[.int .i64 start, .int .i64 long, .bool world, .bool again, .int .i64 rule.freq, .int .i64 rule.iv, .int .i64 rule.count, .int .i64 rule.until_, .slice A1 rule.bm.length c1, .slice A2 rule.bd.length c2, .slice A3 rule.bw.length c3, .slice A4 rule.bs.length c4, .int .i64 rule.start, .slice A5 ex.length c5, .slice A6 plus.length c6, .slice A7 ch.length c7]) G.val := HLE
  clear HB hW hg0 HLE
  by_cases t0 : (50 : Int) < z.n
  · have u0 : decide ((50 : Int) < z.n) = true := decide_eq_true t0
    clear H3 HSA HPART HIN HINO HLEN
    as_aux_lemma =>
      go_enter Tryz.func5, Tryz.ntmps5
      go_upto_region 1 with fail
      rw [E1.out]
      go_wp2_with (first | ((with_reducible show wpList _ _ _ _ _ _); refine wpList_load (t := 32) (v := .agg #[.int .i64 start, .int .i64 long, .bool world, .bool again, .int .i64 rule.freq, .int .i64 rule.iv, .int .i64 rule.count, .int .i64 rule.until_, .slice A1 rule.bm.length c1, .slice A2 rule.bd.length c2, .slice A3 rule.bw.length c3, .slice A4 rule.bs.length c4, .int .i64 rule.start, .slice A5 ex.length c5, .slice A6 plus.length c6, .slice A7 ch.length c7]) rfl rfl (le _) ?_; simp only [Act.put, List.setIfInBounds_toArray, List.set_cons_zero, List.set_cons_succ]) | (go_at_call 8; (with_reducible refine (H0.out _).mono ?_); rintro q w' ⟨rfl, hb⟩; obtain ⟨g', rfl⟩ := Gr.on _ hb; clear hb) | (go_at_call 9; (with_reducible refine (HF.out _).mono ?_); rintro q w' ⟨rfl, hb⟩; obtain ⟨g', rfl⟩ := Gr.on _ hb; clear hb))
      go_ret
      exact ⟨rfl, HG.out _⟩
  have u0 : decide ((50 : Int) < z.n) = false := decide_eq_false t0
  cases q0 with
  | true =>
    clear H3 HSA HPART HIN HINO HLEN
    as_aux_lemma =>
      go_enter Tryz.func5, Tryz.ntmps5
      go_upto_region 1 with fail
      rw [E1.out]
      go_wp2_with (first | ((with_reducible show wpList _ _ _ _ _ _); refine wpList_load (t := 32) (v := .agg #[.int .i64 start, .int .i64 long, .bool world, .bool again, .int .i64 rule.freq, .int .i64 rule.iv, .int .i64 rule.count, .int .i64 rule.until_, .slice A1 rule.bm.length c1, .slice A2 rule.bd.length c2, .slice A3 rule.bw.length c3, .slice A4 rule.bs.length c4, .int .i64 rule.start, .slice A5 ex.length c5, .slice A6 plus.length c6, .slice A7 ch.length c7]) rfl rfl (le _) ?_; simp only [Act.put, List.setIfInBounds_toArray, List.set_cons_zero, List.set_cons_succ]) | (go_at_call 8; (with_reducible refine (H0.out _).mono ?_); rintro q w' ⟨rfl, hb⟩; obtain ⟨g', rfl⟩ := Gr.on _ hb; clear hb) | (go_at_call 9; (with_reducible refine (HF.out _).mono ?_); rintro q w' ⟨rfl, hb⟩; obtain ⟨g', rfl⟩ := Gr.on _ hb; clear hb))
      go_ret
      exact ⟨rfl, HG.out _⟩
  | false =>
  replace H3 := Lib.hid (H3.out rfl)
  replace HLEN := Lib.hid (HLEN.out rfl)
  by_cases t2 : x2 ≤ x1
  · have u2 : decide (x2 ≤ x1) = true := decide_eq_true t2
    clear H3 HSA HPART HIN HINO HLEN
    as_aux_lemma =>
      go_enter Tryz.func5, Tryz.ntmps5
      go_upto_region 1 with fail
      rw [E1.out]
      go_wp2_with (first | ((with_reducible show wpList _ _ _ _ _ _); refine wpList_load (t := 32) (v := .agg #[.int .i64 start, .int .i64 long, .bool world, .bool again, .int .i64 rule.freq, .int .i64 rule.iv, .int .i64 rule.count, .int .i64 rule.until_, .slice A1 rule.bm.length c1, .slice A2 rule.bd.length c2, .slice A3 rule.bw.length c3, .slice A4 rule.bs.length c4, .int .i64 rule.start, .slice A5 ex.length c5, .slice A6 plus.length c6, .slice A7 ch.length c7]) rfl rfl (le _) ?_; simp only [Act.put, List.setIfInBounds_toArray, List.set_cons_zero, List.set_cons_succ]) | (go_at_call 8; (with_reducible refine (H0.out _).mono ?_); rintro q w' ⟨rfl, hb⟩; obtain ⟨g', rfl⟩ := Gr.on _ hb; clear hb) | (go_at_call 9; (with_reducible refine (HF.out _).mono ?_); rintro q w' ⟨rfl, hb⟩; obtain ⟨g', rfl⟩ := Gr.on _ hb; clear hb))
      go_ret
      exact ⟨rfl, HG.out _⟩
  have u2 : decide (x2 ≤ x1) = false := decide_eq_false t2
  by_cases t3 : x1 < -1099511627776
  · have u3 : decide (x1 < -1099511627776) = true := decide_eq_true t3
    clear H3 HSA HPART HIN HINO HLEN
    as_aux_lemma =>
      go_enter Tryz.func5, Tryz.ntmps5
      go_upto_region 1 with fail
      rw [E1.out]
      go_wp2_with (first | ((with_reducible show wpList _ _ _ _ _ _); refine wpList_load (t := 32) (v := .agg #[.int .i64 start, .int .i64 long, .bool world, .bool again, .int .i64 rule.freq, .int .i64 rule.iv, .int .i64 rule.count, .int .i64 rule.until_, .slice A1 rule.bm.length c1, .slice A2 rule.bd.length c2, .slice A3 rule.bw.length c3, .slice A4 rule.bs.length c4, .int .i64 rule.start, .slice A5 ex.length c5, .slice A6 plus.length c6, .slice A7 ch.length c7]) rfl rfl (le _) ?_; simp only [Act.put, List.setIfInBounds_toArray, List.set_cons_zero, List.set_cons_succ]) | (go_at_call 8; (with_reducible refine (H0.out _).mono ?_); rintro q w' ⟨rfl, hb⟩; obtain ⟨g', rfl⟩ := Gr.on _ hb; clear hb) | (go_at_call 9; (with_reducible refine (HF.out _).mono ?_); rintro q w' ⟨rfl, hb⟩; obtain ⟨g', rfl⟩ := Gr.on _ hb; clear hb))
      go_ret
      exact ⟨rfl, HG.out _⟩
  have u3 : decide (x1 < -1099511627776) = false := decide_eq_false t3
  by_cases t4 : 1099511627776 < x2
  · have u4 : decide (1099511627776 < x2) = true := decide_eq_true t4
    clear H3 HSA HPART HIN HINO HLEN
    as_aux_lemma =>
      go_enter Tryz.func5, Tryz.ntmps5
      go_upto_region 1 with fail
      rw [E1.out]
      go_wp2_with (first | ((with_reducible show wpList _ _ _ _ _ _); refine wpList_load (t := 32) (v := .agg #[.int .i64 start, .int .i64 long, .bool world, .bool again, .int .i64 rule.freq, .int .i64 rule.iv, .int .i64 rule.count, .int .i64 rule.until_, .slice A1 rule.bm.length c1, .slice A2 rule.bd.length c2, .slice A3 rule.bw.length c3, .slice A4 rule.bs.length c4, .int .i64 rule.start, .slice A5 ex.length c5, .slice A6 plus.length c6, .slice A7 ch.length c7]) rfl rfl (le _) ?_; simp only [Act.put, List.setIfInBounds_toArray, List.set_cons_zero, List.set_cons_succ]) | (go_at_call 8; (with_reducible refine (H0.out _).mono ?_); rintro q w' ⟨rfl, hb⟩; obtain ⟨g', rfl⟩ := Gr.on _ hb; clear hb) | (go_at_call 9; (with_reducible refine (HF.out _).mono ?_); rintro q w' ⟨rfl, hb⟩; obtain ⟨g', rfl⟩ := Gr.on _ hb; clear hb))
      go_ret
      exact ⟨rfl, HG.out _⟩
  have u4 : decide (1099511627776 < x2) = false := decide_eq_false t4
  have hws : IntKind.i64.wrap (x2 - x1) = x2 - x1 := by rw [IntKind.wrap_i64]; omega
  by_cases t5 : 528480 < x2 - x1
  · have u5 : decide (528480 < x2 - x1) = true := decide_eq_true t5
    clear H3 HSA HPART HIN HINO HLEN
    as_aux_lemma =>
      go_enter Tryz.func5, Tryz.ntmps5
      go_upto_region 1 with fail
      rw [E1.out]
      go_wp2_with (first | ((with_reducible show wpList _ _ _ _ _ _); refine wpList_load (t := 32) (v := .agg #[.int .i64 start, .int .i64 long, .bool world, .bool again, .int .i64 rule.freq, .int .i64 rule.iv, .int .i64 rule.count, .int .i64 rule.until_, .slice A1 rule.bm.length c1, .slice A2 rule.bd.length c2, .slice A3 rule.bw.length c3, .slice A4 rule.bs.length c4, .int .i64 rule.start, .slice A5 ex.length c5, .slice A6 plus.length c6, .slice A7 ch.length c7]) rfl rfl (le _) ?_; simp only [Act.put, List.setIfInBounds_toArray, List.set_cons_zero, List.set_cons_succ]) | (go_at_call 8; (with_reducible refine (H0.out _).mono ?_); rintro q w' ⟨rfl, hb⟩; obtain ⟨g', rfl⟩ := Gr.on _ hb; clear hb) | (go_at_call 9; (with_reducible refine (HF.out _).mono ?_); rintro q w' ⟨rfl, hb⟩; obtain ⟨g', rfl⟩ := Gr.on _ hb; clear hb))
      go_ret
      exact ⟨rfl, HG.out _⟩
  have u5 : decide (528480 < x2 - x1) = false := decide_eq_false t5
  by_cases t6 : x2 - x1 < 2
  · have u6 : decide (x2 - x1 < 2) = true := decide_eq_true t6
    clear H3 HSA HPART HIN HINO HLEN
    as_aux_lemma =>
      go_enter Tryz.func5, Tryz.ntmps5
      go_upto_region 1 with fail
      rw [E1.out]
      go_wp2_with (first | ((with_reducible show wpList _ _ _ _ _ _); refine wpList_load (t := 32) (v := .agg #[.int .i64 start, .int .i64 long, .bool world, .bool again, .int .i64 rule.freq, .int .i64 rule.iv, .int .i64 rule.count, .int .i64 rule.until_, .slice A1 rule.bm.length c1, .slice A2 rule.bd.length c2, .slice A3 rule.bw.length c3, .slice A4 rule.bs.length c4, .int .i64 rule.start, .slice A5 ex.length c5, .slice A6 plus.length c6, .slice A7 ch.length c7]) rfl rfl (le _) ?_; simp only [Act.put, List.setIfInBounds_toArray, List.set_cons_zero, List.set_cons_succ]) | (go_at_call 8; (with_reducible refine (H0.out _).mono ?_); rintro q w' ⟨rfl, hb⟩; obtain ⟨g', rfl⟩ := Gr.on _ hb; clear hb) | (go_at_call 9; (with_reducible refine (HF.out _).mono ?_); rintro q w' ⟨rfl, hb⟩; obtain ⟨g', rfl⟩ := Gr.on _ hb; clear hb))
      go_ret
      exact ⟨rfl, HG.out _⟩
  have u6 : decide (x2 - x1 < 2) = false := decide_eq_false t6
  have hwa : IntKind.i64.wrap a = a := by rw [IntKind.wrap_i64]; omega
  have hw1 : IntKind.i64.wrap (x1 + 1) = x1 + 1 := by rw [IntKind.wrap_i64]; omega
  have hw2 : IntKind.i64.wrap (x2 - x1 - 1) = x2 - x1 - 1 := by rw [IntKind.wrap_i64]; omega
  have hne : ¬ x2 - x1 - 1 = 0 := by omega
  have hneb : (x2 - x1 - 1 == 0) = false := by simpa using hne
  have htm : 0 ≤ a.tmod (x2 - x1 - 1) ∧ a.tmod (x2 - x1 - 1) < x2 - x1 - 1 := by
    rw [Int.tmod_eq_emod_of_nonneg ha.1]
    exact ⟨Int.emod_nonneg _ hne, Int.emod_lt_of_pos _ (by omega)⟩
  have hw3 : IntKind.i64.wrap (a.tmod (x2 - x1 - 1)) = a.tmod (x2 - x1 - 1) := by rw [IntKind.wrap_i64]; omega
  have hcut : ∃ cut : Int, x1 + 1 + a.tmod (x2 - x1 - 1) = cut := ⟨_, rfl⟩
  obtain ⟨cut, hcut⟩ := hcut
  have hw4 : IntKind.i64.wrap cut = cut := by rw [IntKind.wrap_i64]; omega
  have hc1 : x1 < cut := by omega
  have hc2 : cut < x2 := by omega
  have HC1 := Lib.hid hc1
  have HC2 := Lib.hid hc2
  have HM := Lib.hid (H3.out x1 x2 hx1 hx2)
  have HMa := Lib.hid (H3.out x1 cut hx1 (by omega))
  have HMb := Lib.hid (H3.out cut x2 (by omega) hx2)
  have hwin : winP (x1, x2) := ⟨by show x1 < x2; omega, by show x2 - x1 ≤ 528480; omega⟩
  have hPA := (HPART.out cut hwin hc1 hc2).1
  have hPB := (HPART.out cut hwin hc1 hc2).2
  obtain ⟨L, hL⟩ : ∃ L, mv (x1, x2) = L := ⟨_, rfl⟩
  rw [hL] at HM hPA hPB HIN HINO HLEN
  rw [hPA] at HMa
  rw [hPB] at HMb
  have HCNT := Lib.hid (parts_count cut L (fun s hs => (HIN.out s hs).2.2))
  obtain ⟨La, hLa⟩ : ∃ La, L.filter (ltB cut) = La := ⟨_, rfl⟩
  obtain ⟨Lb, hLb⟩ : ∃ Lb, L.filter (gtB cut) = Lb := ⟨_, rfl⟩
  rw [hLa, hLb] at HCNT
  rw [hLa] at HMa
  rw [hLb] at HMb
  have HLA := Lib.hid hLa
  clear hPA hPB hLa hLb hL HPART H3 hwin htm ha hx1 hx2 hne hc1 hc2
  obtain ⟨i0, hi0, hq0, hq1, hq2⟩ := info_parts span_info
  go_enter Tryz.func5, Tryz.ntmps5
  go_upto_region 1 with fail
  rw [E1.out]
  go_wp2_with (first | ((with_reducible show wpList _ _ _ _ _ _); refine wpList_load (t := 32) (v := .agg #[.int .i64 start, .int .i64 long, .bool world, .bool again, .int .i64 rule.freq, .int .i64 rule.iv, .int .i64 rule.count, .int .i64 rule.until_, .slice A1 rule.bm.length c1, .slice A2 rule.bd.length c2, .slice A3 rule.bw.length c3, .slice A4 rule.bs.length c4, .int .i64 rule.start, .slice A5 ex.length c5, .slice A6 plus.length c6, .slice A7 ch.length c7]) rfl rfl (le _) ?_; simp only [Act.put, List.setIfInBounds_toArray, List.set_cons_zero, List.set_cons_succ]) | (go_at_call 8; (with_reducible refine (H0.out _).mono ?_); rintro q w' ⟨rfl, hb⟩; obtain ⟨g', rfl⟩ := Gr.on _ hb; clear hb) | (go_at_call 9; (with_reducible refine (HF.out _).mono ?_); rintro q w' ⟨rfl, hb⟩; obtain ⟨g', rfl⟩ := Gr.on _ hb; clear hb))
  go_quiet (fail)
  go_upto_region 4 with fail
  obtain ⟨g4, hg4⟩ := g'.on (drewN_below _ nq)
  rw [hg4]
  clear hg4
  go_wp2_with ((with_reducible show wpList _ _ _ _ _ _); refine wpList_load (t := 32) (v := .agg #[.int .i64 start, .int .i64 long, .bool world, .bool again, .int .i64 rule.freq, .int .i64 rule.iv, .int .i64 rule.count, .int .i64 rule.until_, .slice A1 rule.bm.length c1, .slice A2 rule.bd.length c2, .slice A3 rule.bw.length c3, .slice A4 rule.bs.length c4, .int .i64 rule.start, .slice A5 ex.length c5, .slice A6 plus.length c6, .slice A7 ch.length c7]) rfl rfl (le _) ?_; simp only [Act.put, List.setIfInBounds_toArray, List.set_cons_zero, List.set_cons_succ])
  go_at_call 13
  with_reducible refine (HM.out _ (Gr.ok _)).mono ?_
  rintro q w3 ⟨Am, cm, rfl, hsm, hb⟩
  obtain ⟨g5, rfl⟩ := Gr.on _ hb
  have HSM : Hid (∀ g : Gr g5.val, Sl g.val Am L.length cm (sv L)) := fun g => hsm.below g.ok (Nat.le_refl _)
  clear hb hsm
  go_wp2
  refine wp_region_lexO (fun V => Below g5.val.heap.size g5.val V) (fun k => [6, 13].contains k) [0, 1, 2, 3, 4, 5, 7, 8, 9, 10, 11, 12, 6, 13, 14, 15] rfl (by kernel_rfl) (by kernel_rfl) (by kernel_rfl) (fun _ _ _ _ _ h => h) (drewN_below _ 1) ?_
  generalize hVV : World.drew _ = V
  have hS0 : Below g5.val.heap.size g5.val V := by rw [← hVV]; exact drewN_below _ 1
  clear hVV
  repeat (first
    | (refine wpHo_yes (v := .agg #[.int .i64 start, .int .i64 long, .bool world, .bool again, .int .i64 rule.freq, .int .i64 rule.iv, .int .i64 rule.count, .int .i64 rule.until_, .slice A1 rule.bm.length c1, .slice A2 rule.bd.length c2, .slice A3 rule.bw.length c3, .slice A4 rule.bs.length c4, .int .i64 rule.start, .slice A5 ex.length c5, .slice A6 plus.length c6, .slice A7 ch.length c7]) rfl rfl rfl (fun w' hS => exec_load (t := 32) rfl (le ⟨w', g5.ok.trans (hS.mono g5.size)⟩)) ?_; simp only [List.getElem_toArray, List.getElem_cons_succ, List.getElem_cons_zero, Act.put, List.setIfInBounds_toArray, List.set_cons_zero, List.set_cons_succ])
    | (refine wpHo_yes (v := ?_) rfl rfl rfl (fun w' hS => ?_) ?_; rotate_left; (have hT := g5.ok.trans (hS.mono g5.size); have f0 := z0 ⟨w', hT⟩; have f1 := z1 ⟨w', hT⟩; have f2 : World.cell? w' ⟨w.heap.size + 1 + 1, 0, none⟩ = some (.int .i64 x1) := w0 ⟨w', hT⟩; have f3 : World.cell? w' ⟨w.heap.size + 1 + 1, 0 + 1, none⟩ = some (.int .i64 x2) := w1 ⟨w', hT⟩; have f4 := w0 ⟨w', hT⟩; have f5 := w1 ⟨w', hT⟩; go_simp; with_reducible rfl); (try simp only [List.getElem_toArray, List.getElem_cons_succ, List.getElem_cons_zero, Act.put, List.setIfInBounds_toArray, List.set_cons_zero, List.set_cons_succ]))
    | (refine wpHo_callYes rfl rfl rfl (fun K hK => ?_); go_simp; (first
      | (go_at_call 13; (with_reducible refine (HMa.out _ (g5.ok.trans (hS0.mono g5.size))).mono ?_); rintro q w3 ⟨Aa, ca, rfl, hsa, hb⟩; have hS0 := hS0.trans (hb.mono hS0.size); have HSA1 := Lib.hid hsa; clear hb hsa; refine hK.out _ _ hS0 (fun _ => ?_))
      | (go_at_call 13; (with_reducible refine (HMb.out _ (g5.ok.trans (hS0.mono g5.size))).mono ?_); rintro q w3 ⟨Ab, cb, rfl, hsb, hb⟩; have HSA1 := Lib.hid (HSA1.out.below hb (Nat.le_refl _)); have hS0 := hS0.trans (hb.mono hS0.size); clear hb hsb; refine hK.out _ _ hS0 (fun _ => ?_))); (try simp only [List.getElem_toArray, List.getElem_cons_succ, List.getElem_cons_zero, Act.put, List.setIfInBounds_toArray, List.set_cons_zero, List.set_cons_succ]); clear hK K))
  have hBC := g5.ok.trans (hS0.mono g5.size)
  have HUP : Hid (∀ G : Gr w3, ∃ G' : Gr W, G.val = G'.val) := fun G => ⟨⟨G.val, hBC.trans (G.ok.mono hBC.size)⟩, rfl⟩
  replace HSM : Hid (∀ g : Gr w3, Sl g.val Am L.length cm (sv L)) := fun g => HSM.out ⟨g.val, hS0.trans (g.ok.mono hS0.size)⟩
  have HSLA : Hid (∀ g : Gr w3, Sl g.val Aa La.length ca (sv La)) := fun g => HSA1.out.gr g
  have v0 : ∀ G : Gr w3, G.val.cell? ⟨w.heap.size + 1 + 1, 0, none⟩ = some (.int .i64 x1) := fun G => by obtain ⟨G', hG'⟩ := HUP.out G; rw [hG']; exact w0 G'
  have v1 : ∀ G : Gr w3, G.val.cell? ⟨w.heap.size + 1 + 1, 1, none⟩ = some (.int .i64 x2) := fun G => by obtain ⟨G', hG'⟩ := HUP.out G; rw [hG']; exact w1 G'
  replace w0 : ∀ G : Gr w3, G.val.cell? ⟨w.heap.size + 2, 0, none⟩ = some (.int .i64 x1) := v0
  replace w1 : ∀ G : Gr w3, G.val.cell? ⟨w.heap.size + 2, 1, none⟩ = some (.int .i64 x2) := v1
  replace HG : Hid (∀ g : Gr w3, Below w.heap.size w g.val) := fun g => by obtain ⟨G', hG'⟩ := HUP.out g; rw [hG']; exact HG.out G'
  replace HF : Hid (∀ g : Gr w3, Calls Tryz.prog 9 #[] g.val fun q w' => q = .returned (.bool true) ∧ Below g.val.heap.size g.val w') := fun g => by obtain ⟨G', hG'⟩ := HUP.out g; rw [hG']; exact HF.out G'
  have hLz : (L.length : Int) ≤ 9223372036854775807 := by have := HLEN.out; omega
  clear hBC HUP HSA1 hS0 le z0 z1 HM HMa HMb H0 E1
  show Exit.then _ _ _ _ _
  go_wp2
  go_loopw [13, 14, 94] (fun s13 s14 s94 wr => ∃ (i n : Nat) (P : List Spn) (v : Value) (g : Gr w3), wr = g.val ∧ i ≤ L.length ∧ s94 = .int .i64 i ∧ v = s13 ∧ s14 = .int .i64 n ∧ Hid (wr.ownsRow w3.heap.size 34 2 v P.length (sv P)) ∧ Hid (P = (L.take i).filter (ltB cut)) ∧ Hid (n = ((L.take i).filter (bothB cut)).length)) (fun _ _ s94 _ => L.length - (intOf s94).toNat)
  case atStart => exact ⟨0, 0, [], _, ⟨w3, Below.refl _ _⟩, rfl, Nat.zero_le _, rfl, rfl, rfl, World.ownsRow_nil _ _ _ _, rfl, rfl⟩
  case round =>
    obtain ⟨i, n, P, v13, g, rfl, hi, rfl, rfl, rfl, HO, HP, HN⟩ := hrel
    by_cases hlt : i < L.length
    · have hiz : (i : Int) < L.length := by omega
      obtain ⟨s, ha⟩ : ∃ s, L[i]? = some s := ⟨_, List.getElem?_eq_getElem hlt⟩
      obtain ⟨m1, m2⟩ := s
      obtain ⟨b, off, rfl, hbs, hce⟩ := (HSM.out ⟨w3, Below.refl _ _⟩).spanG ha
      have d0 : g.val.cell? ⟨b, off + i * 2, none⟩ = some (.int .i64 m1) := (hce g).1
      have d1 : g.val.cell? ⟨b, off + i * 2 + 1, none⟩ = some (.int .i64 m2) := (hce g).2
      clear hce hbs
      have HPL : Hid (P.length ≤ i) := by
        show _ ≤ _
        rw [HP.out]
        exact Nat.le_trans (List.length_filter_le _ _) (by rw [List.length_take]; omega)
      have HNL : n ≤ i := by
        rw [HN.out]
        exact Nat.le_trans (List.length_filter_le _ _) (by rw [List.length_take]; omega)
      have hnz : (n : Int) ≤ 1000000 := by have := HLEN.out; omega
      have hmx : P.length + 1 ≤ maxLen := by
        have h1 := HPL.out
        have h2 := HLEN.out
        have : P.length + 1 ≤ 9223372036854775807 := by omega
        exact this
      have hby : (P.length + 1) * 16 ≤ 140737488355328 := by have h1 := HPL.out; have h2 := HLEN.out; omega
      clear HNL
      by_cases k1 : m1 < cut
      · have e1 : decide (m1 < cut) = true := decide_eq_true k1
        by_cases k2 : cut < m2
        · have e2 : decide (cut < m2) = true := decide_eq_true k2
          as_aux_lemma =>
            have HN1 : Hid (n + 1 = ((L.take (i + 1)).filter (bothB cut)).length) := by
              show _ = _
              rw [List.take_add_one, ha, List.filter_append, List.length_append, ← HN.out]
              simp [List.filter_cons, bothB, e1, e2]
            have HP1 : Hid (P ++ [(m1, m2)] = (L.take (i + 1)).filter (ltB cut)) := by
              show _ = _
              rw [List.take_add_one, ha, List.filter_append, ← HP.out]
              simp [List.filter_cons, ltB, e1]
            clear HP HN ha HSA HCNT HLA HINO HIN
            go_upto_region 11 with fail
            obtain ⟨g4, hg4⟩ : ∃ g4 : Gr w3, g.val.alloc (.cells #[.int .i64 m1, .int .i64 m2] 34) = g4.val := g.up0
            have HO4 : Hid (g4.val.ownsRow w3.heap.size 34 2 v13 P.length (sv P)) := by rw [← hg4]; exact HO.out.alloc _
            have r0 : g4.val.cell? ⟨g.val.heap.size, 0, none⟩ = some (.int .i64 m1) := by rw [← hg4]; simp [go_sem]
            have r1 : g4.val.cell? ⟨g.val.heap.size, 1, none⟩ = some (.int .i64 m2) := by rw [← hg4]; simp [go_sem]
            rw [hg4]
            clear hg4 HO d0 d1
            have HGS := Lib.hid g4.size
            go_wp2_with (refine wpList_append_lies _ rfl _ _ _ (by rfl) w3.heap.size 34 i0 _ 2 16 Tryz.underlying38 hi0 hq0 hq1 hq2 rfl (by decide) v13 P.length _ (by rfl) (HO4.out.alloc _) ⟨g4.val.heap.size, 0, none⟩ 1 1 [.int .i64 m1, .int .i64 m2] (by rfl) (by rfl) (World.news_of_block (cs := #[.int .i64 m1, .int .i64 m2]) (t := 34) (fr := (0, 0)) (heap_alloc_new _ _)) (by simp [Value.oneCell']) (Nat.lt_succ_self 0) hmx hby (by simp; have := HGS.out; omega) _ rfl ?_; intro gg cap2 w5 hown5 hgr5 hat5 hlt5)
            have hB6 : Below w3.heap.size w3 w5 := (g4.ok.alloc HGS.out _).grown hgr5 (by simp; have := HGS.out; omega) (fun kk hk => (HO4.out.lt kk hk).1)
            have HO6 : Hid (w5.ownsRow w3.heap.size 34 2 (.slice (some ⟨gg, 0, none⟩) (P.length + 1) cap2) (P ++ [(m1, m2)]).length (sv (P ++ [(m1, m2)]))) := by show World.ownsRow _ _ _ _ _ _ _; rw [sv_app, List.length_append]; exact hown5
            obtain ⟨g6, rfl⟩ := Gr.of hB6
            clear hown5 hgr5 hat5 hB6 hlt5
            go_roundw
            case rel => exact ⟨i + 1, n + 1, P ++ [(m1, m2)], _, g6, rfl, hlt, by go_num, rfl, by go_num, HO6, HP1, HN1⟩
            case measure => simp [intOf]; omega
        · have e2 : decide (cut < m2) = false := decide_eq_false k2
          as_aux_lemma =>
            have HN1 : Hid (n = ((L.take (i + 1)).filter (bothB cut)).length) := by
              show _ = _
              rw [List.take_add_one, ha, List.filter_append, List.length_append, ← HN.out]
              simp [List.filter_cons, bothB, e1, e2]
            have HP1 : Hid (P ++ [(m1, m2)] = (L.take (i + 1)).filter (ltB cut)) := by
              show _ = _
              rw [List.take_add_one, ha, List.filter_append, ← HP.out]
              simp [List.filter_cons, ltB, e1]
            clear HP HN ha HSA HCNT HLA HINO HIN
            go_upto_region 11 with fail
            obtain ⟨g4, hg4⟩ : ∃ g4 : Gr w3, g.val.alloc (.cells #[.int .i64 m1, .int .i64 m2] 34) = g4.val := g.up0
            have HO4 : Hid (g4.val.ownsRow w3.heap.size 34 2 v13 P.length (sv P)) := by rw [← hg4]; exact HO.out.alloc _
            have r0 : g4.val.cell? ⟨g.val.heap.size, 0, none⟩ = some (.int .i64 m1) := by rw [← hg4]; simp [go_sem]
            have r1 : g4.val.cell? ⟨g.val.heap.size, 1, none⟩ = some (.int .i64 m2) := by rw [← hg4]; simp [go_sem]
            rw [hg4]
            clear hg4 HO d0 d1
            have HGS := Lib.hid g4.size
            go_wp2_with (refine wpList_append_lies _ rfl _ _ _ (by rfl) w3.heap.size 34 i0 _ 2 16 Tryz.underlying38 hi0 hq0 hq1 hq2 rfl (by decide) v13 P.length _ (by rfl) (HO4.out.alloc _) ⟨g4.val.heap.size, 0, none⟩ 1 1 [.int .i64 m1, .int .i64 m2] (by rfl) (by rfl) (World.news_of_block (cs := #[.int .i64 m1, .int .i64 m2]) (t := 34) (fr := (0, 0)) (heap_alloc_new _ _)) (by simp [Value.oneCell']) (Nat.lt_succ_self 0) hmx hby (by simp; have := HGS.out; omega) _ rfl ?_; intro gg cap2 w5 hown5 hgr5 hat5 hlt5)
            have hB6 : Below w3.heap.size w3 w5 := (g4.ok.alloc HGS.out _).grown hgr5 (by simp; have := HGS.out; omega) (fun kk hk => (HO4.out.lt kk hk).1)
            have HO6 : Hid (w5.ownsRow w3.heap.size 34 2 (.slice (some ⟨gg, 0, none⟩) (P.length + 1) cap2) (P ++ [(m1, m2)]).length (sv (P ++ [(m1, m2)]))) := by show World.ownsRow _ _ _ _ _ _ _; rw [sv_app, List.length_append]; exact hown5
            obtain ⟨g6, rfl⟩ := Gr.of hB6
            clear hown5 hgr5 hat5 hB6 hlt5
            go_roundw
            case rel => exact ⟨i + 1, n, P ++ [(m1, m2)], _, g6, rfl, hlt, by go_num, rfl, by go_num, HO6, HP1, HN1⟩
            case measure => simp [intOf]; omega
      · have e1 : decide (m1 < cut) = false := decide_eq_false k1
        as_aux_lemma =>
          have HN1 : Hid (n = ((L.take (i + 1)).filter (bothB cut)).length) := by
            show _ = _
            rw [List.take_add_one, ha, List.filter_append, List.length_append, ← HN.out]
            simp [List.filter_cons, bothB, e1]
          have HP1 : Hid (P = (L.take (i + 1)).filter (ltB cut)) := by
            show _ = _
            rw [List.take_add_one, ha, List.filter_append, ← HP.out]
            simp [List.filter_cons, ltB, e1]
          clear HP HN ha HSA HCNT HLA HINO HIN
          go_upto_region 11 with fail
          obtain ⟨g4, hg4⟩ : ∃ g4 : Gr w3, g.val.alloc (.cells #[.int .i64 m1, .int .i64 m2] 34) = g4.val := g.up0
          have HO4 : Hid (g4.val.ownsRow w3.heap.size 34 2 v13 P.length (sv P)) := by rw [← hg4]; exact HO.out.alloc _
          have r0 : g4.val.cell? ⟨g.val.heap.size, 0, none⟩ = some (.int .i64 m1) := by rw [← hg4]; simp [go_sem]
          have r1 : g4.val.cell? ⟨g.val.heap.size, 1, none⟩ = some (.int .i64 m2) := by rw [← hg4]; simp [go_sem]
          rw [hg4]
          clear hg4 HO d0 d1
          go_wp2_with fail
          go_roundw
          case rel => exact ⟨i + 1, n, P, v13, g4, rfl, hlt, by go_num, rfl, by go_num, HO4, HP1, HN1⟩
          case measure => simp [intOf]; omega
    · obtain rfl : i = L.length := by omega
      have hPL : P = La := by rw [HP.out, List.take_length]; exact HLA.out
      have HCN : Hid (La.length + Lb.length = L.length + n) := by show _ = _; rw [HN.out, List.take_length]; exact HCNT.out
      have hnz : (n : Int) ≤ 1000000 := by
        have h1 := HN.out
        have h2 := List.length_filter_le (bothB cut) L
        have h3 := HLEN.out
        rw [List.take_length] at h1
        omega
      rw [hPL] at HO
      obtain ⟨Av, cv, rfl, hsv⟩ := Sl.of_own HO.out
      have HSV := Lib.hid hsv
      have hsm : (La.length : Int) + (Lb.length : Int) ≤ 2000000 := by have h1 := HCN.out; have h2 := HLEN.out; omega
      have hwA : IntKind.i64.wrap ((La.length : Int) + (Lb.length : Int)) = (La.length : Int) + (Lb.length : Int) := by rw [IntKind.wrap_i64]; omega
      have hwB : IntKind.i64.wrap ((L.length : Int) + (n : Int)) = (L.length : Int) + (n : Int) := by have h2 := HLEN.out; rw [IntKind.wrap_i64]; omega
      have hsb : ((La.length : Int) + (Lb.length : Int) != (L.length : Int) + (n : Int)) = false := by have h1 := HCN.out; simp; omega
      clear hPL HP HN HO hsv HCNT HLA
      go_wp2_with fail
      have HS2 : Hid (∀ g : Gr w3, Sl g.val Av La.length cv (sv La) → Calls Tryz.prog 12 #[.slice Aa La.length ca, .slice Av La.length cv] g.val fun e w' => e = .returned (.bool true) ∧ Below g.val.heap.size g.val w') := fun g hv => by
        have := HSA.out _ _ _ _ _ _ _ (HSLA.out g) hv
        rwa [show decide (La = La) = true from decide_eq_true rfl] at this
      go_at_call 12
      with_reducible refine (HS2.out g HSV.out).mono ?_
      rintro q w7 ⟨rfl, hb⟩
      obtain ⟨g7, rfl⟩ := g.on hb
      clear hb HSV HS2 HSA HSLA HCN hsm hwA hwB hsb hnz
      go_wp2_with fail
      go_loopw [137] (fun s137 wr => ∃ (i : Nat) (g : Gr w3), wr = g.val ∧ i ≤ L.length ∧ s137 = .int .i64 i) (fun s137 _ => L.length - (intOf s137).toNat)
      case atStart => exact ⟨0, g7, rfl, Nat.zero_le _, rfl⟩
      case round =>
        obtain ⟨i, g, rfl, hi, rfl⟩ := hrel
        by_cases hlt : i < L.length
        · have hiz : (i : Int) < L.length := by omega
          obtain ⟨s, ha⟩ : ∃ s, L[i]? = some s := ⟨_, List.getElem?_eq_getElem hlt⟩
          have hin := HIN.out s (List.mem_of_getElem? ha)
          have hst : i = 0 ∨ ∃ j p, i = j + 1 ∧ L[j]? = some p ∧ (p.1 < s.1 ∨ (p.1 = s.1 ∧ p.2 ≤ s.2)) := by
            cases i with
            | zero => exact .inl rfl
            | succ j =>
              have h1 := ino_step HINO.out hlt
              refine .inr ⟨j, L[j], rfl, List.getElem?_eq_getElem (by omega), ?_⟩
              have h2 : s = L[j + 1] := by rw [List.getElem?_eq_getElem hlt] at ha; exact (Option.some.inj ha).symm
              rw [h2]
              exact h1
          obtain ⟨m1, m2⟩ := s
          simp only at hin hst
          have hsl := HSM.out ⟨w3, Below.refl _ _⟩
          obtain ⟨b, off, rfl, hbs, hce⟩ := hsl.spanG ha
          have d0 : g.val.cell? ⟨b, off + i * 2, none⟩ = some (.int .i64 m1) := (hce g).1
          have d1 : g.val.cell? ⟨b, off + i * 2 + 1, none⟩ = some (.int .i64 m2) := (hce g).2
          have n1 : decide (x2 ≤ m1) = false := decide_eq_false (by omega)
          have n2 : decide (m2 ≤ x1) = false := decide_eq_false (by omega)
          have n3 : decide (m2 ≤ m1) = false := decide_eq_false (by omega)
          clear hce hbs hin ha HINO HIN HSM
          rcases hst with h0 | ⟨j, ⟨p1, p2⟩, hij, hj, hpp⟩
          · have n4 : decide ((0 : Int) < (i : Int)) = false := decide_eq_false (by omega)
            have n7 : decide (0 < i) = false := decide_eq_false (by omega)
            clear h0 hsl
            as_aux_lemma =>
              go_upto_region 21 with fail
              obtain ⟨g8, hg8⟩ : ∃ g8 : Gr w3, g.val.alloc (.cells #[.int .i64 m1, .int .i64 m2] 34) = g8.val := g.up0
              have r0 : g8.val.cell? ⟨g.val.heap.size, 0, none⟩ = some (.int .i64 m1) := by rw [← hg8]; simp [go_sem]
              have r1 : g8.val.cell? ⟨g.val.heap.size, 1, none⟩ = some (.int .i64 m2) := by rw [← hg8]; simp [go_sem]
              have y0 := v0 g8
              have y1 := v1 g8
              rw [hg8]
              clear hg8 d0 d1 v0 v1 w0 w1
              go_quiet (fail)
              obtain ⟨g9, hg9⟩ := g8.on (drewN_below _ nq)
              rw [hg9]
              clear hg9
              go_wp2_with fail
              go_roundw
              case rel => exact ⟨i + 1, g9, rfl, hlt, by go_num⟩
              case measure => simp [intOf]; omega
          · have n8 : 0 < i := by omega
            have n4 : decide ((0 : Int) < (i : Int)) = true := decide_eq_true (by omega)
            have n7 : decide (0 < i) = true := decide_eq_true n8
            have hwj : IntKind.i64.wrap ((i : Int) - 1) = (j : Int) := by rw [IntKind.wrap_i64]; omega
            have hjz : (j : Int) < L.length := by omega
            obtain ⟨b2, off2, hE, _, hce2⟩ := hsl.spanG hj
            simp only [Option.some.injEq, Addr.mk.injEq, and_true] at hE
            obtain ⟨rfl, rfl⟩ := hE
            simp only at hce2 hpp
            clear hsl hj hij
            rcases hpp with h1 | ⟨h1, h2⟩
            · have n5 : decide (m1 < p1) = false := decide_eq_false (by omega)
              have n6 : (p1 == m1) = false := by simp; omega
              clear h1
              as_aux_lemma =>
                go_upto_region 21 with fail
                obtain ⟨g8, hg8⟩ : ∃ g8 : Gr w3, g.val.alloc (.cells #[.int .i64 m1, .int .i64 m2] 34) = g8.val := g.up0
                have r0 : g8.val.cell? ⟨g.val.heap.size, 0, none⟩ = some (.int .i64 m1) := by rw [← hg8]; simp [go_sem]
                have r1 : g8.val.cell? ⟨g.val.heap.size, 1, none⟩ = some (.int .i64 m2) := by rw [← hg8]; simp [go_sem]
                have y0 := v0 g8
                have y1 := v1 g8
                have t0 : g8.val.cell? ⟨b, off + j * 2, none⟩ = some (.int .i64 p1) := (hce2 g8).1
                have t1 : g8.val.cell? ⟨b, off + j * 2 + 1, none⟩ = some (.int .i64 p2) := (hce2 g8).2
                clear hce2
                rw [hg8]
                clear hg8 d0 d1 v0 v1 w0 w1
                go_quiet (fail)
                obtain ⟨g9, hg9⟩ := g8.on (drewN_below _ nq)
                rw [hg9]
                clear hg9
                go_wp2_with fail
                go_roundw
                case rel => exact ⟨i + 1, g9, rfl, hlt, by go_num⟩
                case measure => simp [intOf]; omega
            · subst h1
              have n5 : decide (p1 < p1) = false := decide_eq_false (by omega)
              have n6 : decide (m2 < p2) = false := decide_eq_false (by omega)
              clear h2
              as_aux_lemma =>
                go_upto_region 21 with fail
                obtain ⟨g8, hg8⟩ : ∃ g8 : Gr w3, g.val.alloc (.cells #[.int .i64 p1, .int .i64 m2] 34) = g8.val := g.up0
                have r0 : g8.val.cell? ⟨g.val.heap.size, 0, none⟩ = some (.int .i64 p1) := by rw [← hg8]; simp [go_sem]
                have r1 : g8.val.cell? ⟨g.val.heap.size, 1, none⟩ = some (.int .i64 m2) := by rw [← hg8]; simp [go_sem]
                have y0 := v0 g8
                have y1 := v1 g8
                have t0 : g8.val.cell? ⟨b, off + j * 2, none⟩ = some (.int .i64 p1) := (hce2 g8).1
                have t1 : g8.val.cell? ⟨b, off + j * 2 + 1, none⟩ = some (.int .i64 p2) := (hce2 g8).2
                clear hce2
                rw [hg8]
                clear hg8 d0 d1 v0 v1 w0 w1
                go_quiet (fail)
                obtain ⟨g9, hg9⟩ := g8.on (drewN_below _ nq)
                rw [hg9]
                clear hg9
                go_wp2_with fail
                go_roundw
                case rel => exact ⟨i + 1, g9, rfl, hlt, by go_num⟩
                case measure => simp [intOf]; omega
        · obtain rfl : i = L.length := by omega
          go_wp2_with fail
          go_at_call 9
          with_reducible refine (HF.out _).mono ?_
          rintro q w' ⟨rfl, hb⟩
          obtain ⟨g', rfl⟩ := Gr.on _ hb
          clear hb
          go_wp2_with fail
          go_ret
          exact ⟨rfl, HG.out _⟩
end Go.Proofs.YtfjmofefciopmaaGreat
end
