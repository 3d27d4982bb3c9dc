import Derived.Test.YtdhinjbkfffpeaaGreatYOJ
/- Contracts of the program's rules: the same ones. -/
section
namespace Go.Proofs.YtdhinjbkfffpeaaGreat
open Go.ChangeShapes Go.WideShapes Go.ChangeAt Go.RowKit Qr Ck Sp
theorem eqI_any (a b : List Int) (A B : Option Addr) (c d : Nat) (w : World) (ha : Sl w A a.length c (iv a)) (hb : Sl w B b.length d (iv b)) :
    Calls Tryz.prog 79 #[.slice A a.length c, .slice B b.length d] w fun e w' => e = .returned (.bool (decide (a = b))) ∧ Below w.heap.size w w' := by
  have hlc : a.length ≤ 9223372036854775807 := Nat.le_trans ha.le ha.cap
  have HA := Lib.hid ha
  have HB := Lib.hid hb
  clear ha hb
  obtain ⟨r, hr⟩ : ∃ r, decide (a = b) = r := ⟨_, rfl⟩
  rw [hr]
  by_cases hl : a.length = b.length
  · have hlb : ((a.length : Int) != (b.length : Int)) = false := by simp; omega
    have HR : Hid (decide (a.drop 0 = b.drop 0) = r) := hr
    have HL := Lib.hid hl
    have hbc : b.length ≤ 9223372036854775807 := by omega
    clear hr hl
    go_enter Tryz.func79, Tryz.ntmps79
    go_wp2
    go_loopw [13] (fun s13 wr => ∃ (i : Nat) (g : Gr w), wr = g.val ∧ i ≤ a.length ∧ s13 = .int .i64 i ∧ Hid (decide (a.drop i = b.drop i) = r)) (fun s13 _ => a.length - (intOf s13).toNat)
    case atStart => exact ⟨0, ⟨w, Below.refl _ _⟩, rfl, Nat.zero_le _, rfl, HR⟩
    case round =>
      obtain ⟨i, g, rfl, hi, rfl, HI⟩ := hrel
      by_cases hlt : i < a.length
      · have hltb : i < b.length := by rw [← HL.out]; exact hlt
        have hiz : (i : Int) < a.length := by omega
        have hib : (i : Int) < b.length := by omega
        obtain ⟨p, off, rfl, hp, hc1⟩ := HA.out.intG (List.getElem?_eq_getElem hlt)
        obtain ⟨q, off2, rfl, hq, hd1⟩ := HB.out.intG (List.getElem?_eq_getElem hltb)
        have c1 := hc1 g
        have d1 := hd1 g
        clear hc1 hd1
        have hst : Hid (decide (a[i] = b[i] ∧ a.drop (i + 1) = b.drop (i + 1)) = r) := by show _ = _; rw [← HI.out, decide_eq_decide, drop_step hlt, drop_step hltb, List.cons.injEq]
        clear HI
        generalize a[i] = x at *
        generalize b[i] = u at *
        by_cases h1 : x = u
        · have h1b : (x != u) = false := by simpa using h1
          have E : Hid (decide (a.drop (i + 1) = b.drop (i + 1)) = r) := by show _ = _; rw [← hst.out, decide_eq_decide]; exact ⟨fun h => ⟨h1, h⟩, fun h => h.2⟩
          clear hst
          subst h1
          go_wp2_with fail
          try (go_region; go_wp2_with fail)
          go_roundw
          case rel => first | exact ⟨i + 1, ⟨g.val.drew, g.ok.drew⟩, rfl, hlt, by go_num, E⟩ | exact ⟨i + 1, g, rfl, hlt, by go_num, E⟩
          case measure => simp [intOf]; omega
        · have h1b : (x != u) = true := by simpa using h1
          have E : Hid (r = false) := by show _ = _; rw [← hst.out, decide_eq_false_iff_not]; exact fun h => h1 h.1
          clear hst
          go_wp2_with fail
          try (go_region; go_wp2_with fail)
          go_ret
          first | exact ⟨ret_bool E.out.symm, g.ok.drew⟩ | exact ⟨ret_bool E.out.symm, g.ok⟩
      · obtain rfl : i = a.length := by omega
        have E : Hid (r = true) := by show _ = _; rw [← HI.out, decide_eq_true_eq, List.drop_of_length_le (Nat.le_refl _), List.drop_of_length_le (by rw [HL.out]; exact Nat.le_refl _)]
        go_wp2_with fail
        go_ret
        exact ⟨ret_bool E.out.symm, g.ok⟩
  · have hlb : ((a.length : Int) != (b.length : Int)) = true := by simp; omega
    have E : Hid (r = false) := by show _ = _; rw [← hr, decide_eq_false_iff_not]; exact fun h => hl (by rw [h])
    clear hr
    go_enter Tryz.func79, Tryz.ntmps79
    go_wp2
    go_ret
    exact ⟨ret_bool E.out.symm, Below.refl _ _⟩
theorem eqD_any (a b : List Spn) (A B : Option Addr) (c d : Nat) (w : World) (ha : Sl w A a.length c (sv a)) (hb : Sl w B b.length d (sv b)) :
    Calls Tryz.prog 126 #[.slice A a.length c, .slice B b.length d] w fun e w' => e = .returned (.bool (decide (a = b))) ∧ Below w.heap.size w w' := by
  have hlc : a.length ≤ 9223372036854775807 := Nat.le_trans ha.le ha.cap
  have HA := Lib.hid ha
  have HB := Lib.hid hb
  clear ha hb
  obtain ⟨r, hr⟩ : ∃ r, decide (a = b) = r := ⟨_, rfl⟩
  rw [hr]
  by_cases hl : a.length = b.length
  · have hlb : ((a.length : Int) != (b.length : Int)) = false := by simp; omega
    have HR : Hid (decide (a.drop 0 = b.drop 0) = r) := hr
    have HL := Lib.hid hl
    have hbc : b.length ≤ 9223372036854775807 := by omega
    clear hr hl
    go_enter Tryz.func126, Tryz.ntmps126
    go_wp2
    go_loopw [13] (fun s13 wr => ∃ (i : Nat) (g : Gr w), wr = g.val ∧ i ≤ a.length ∧ s13 = .int .i64 i ∧ Hid (decide (a.drop i = b.drop i) = r)) (fun s13 _ => a.length - (intOf s13).toNat)
    case atStart => exact ⟨0, ⟨w, Below.refl _ _⟩, rfl, Nat.zero_le _, rfl, HR⟩
    case round =>
      obtain ⟨i, g, rfl, hi, rfl, HI⟩ := hrel
      by_cases hlt : i < a.length
      · have hltb : i < b.length := by rw [← HL.out]; exact hlt
        have hiz : (i : Int) < a.length := by omega
        have hib : (i : Int) < b.length := by omega
        obtain ⟨p, off, rfl, hp, hc1⟩ := HA.out.spanG (List.getElem?_eq_getElem hlt)
        obtain ⟨q, off2, rfl, hq, hd1⟩ := HB.out.spanG (List.getElem?_eq_getElem hltb)
        obtain ⟨c1, c2⟩ := hc1 g
        obtain ⟨d1, d2⟩ := hd1 g
        clear hc1 hd1
        have hst : Hid (decide (a[i] = b[i] ∧ a.drop (i + 1) = b.drop (i + 1)) = r) := by show _ = _; rw [← HI.out, decide_eq_decide, drop_step hlt, drop_step hltb, List.cons.injEq]
        clear HI
        generalize a[i] = x at *
        generalize b[i] = u at *
        obtain ⟨x1, x2⟩ := x
        obtain ⟨u1, u2⟩ := u
        simp only [Prod.mk.injEq] at c1 c2 d1 d2 hst
        by_cases h1 : x1 = u1 ∧ x2 = u2
        · have E : Hid (decide (a.drop (i + 1) = b.drop (i + 1)) = r) := by show _ = _; rw [← hst.out, decide_eq_decide]; exact ⟨fun h => ⟨h1, h⟩, fun h => h.2⟩
          clear hst
          obtain ⟨h1, h2⟩ := h1
          subst h1 h2
          go_wp2_with fail
          try (go_region; go_wp2_with fail)
          go_roundw
          case rel => first | exact ⟨i + 1, ⟨g.val.drew, g.ok.drew⟩, rfl, hlt, by go_num, E⟩ | exact ⟨i + 1, g, rfl, hlt, by go_num, E⟩
          case measure => simp [intOf]; omega
        · have E : Hid (r = false) := by show _ = _; rw [← hst.out, decide_eq_false_iff_not]; exact fun h => h1 h.1
          clear hst
          by_cases h2 : x1 = u1
          · have h3 : ¬ x2 = u2 := fun h => h1 ⟨h2, h⟩
            subst h2
            clear h1
            go_wp2_with fail
            try (go_region; go_wp2_with fail)
            go_ret
            first | exact ⟨ret_bool E.out.symm, g.ok.drew⟩ | exact ⟨ret_bool E.out.symm, g.ok⟩
          · clear h1
            go_wp2_with fail
            try (go_region; go_wp2_with fail)
            go_ret
            first | exact ⟨ret_bool E.out.symm, g.ok.drew⟩ | exact ⟨ret_bool E.out.symm, g.ok⟩
      · obtain rfl : i = a.length := by omega
        have E : Hid (r = true) := by show _ = _; rw [← HI.out, decide_eq_true_eq, List.drop_of_length_le (Nat.le_refl _), List.drop_of_length_le (by rw [HL.out]; exact Nat.le_refl _)]
        go_wp2_with fail
        go_ret
        exact ⟨ret_bool E.out.symm, g.ok⟩
  · have hlb : ((a.length : Int) != (b.length : Int)) = true := by simp; omega
    have E : Hid (r = false) := by show _ = _; rw [← hr, decide_eq_false_iff_not]; exact fun h => hl (by rw [h])
    clear hr
    go_enter Tryz.func126, Tryz.ntmps126
    go_wp2
    go_ret
    exact ⟨ret_bool E.out.symm, Below.refl _ _⟩
end Go.Proofs.YtdhinjbkfffpeaaGreat
end
section
namespace Go.Proofs.YtdhinjbkfffpeaaGreat
open Go.ChangeShapes Go.WideShapes Go.ChangeAt Go.RowKit Qr Ck Sp
set_option maxRecDepth 100000 in
set_option maxHeartbeats 4000000 in
theorem same9_any (a b : R) (A1 A2 A3 A4 : Option Addr) (c1 c2 c3 c4 : Nat) (B1 B2 B3 B4 : Option Addr) (d1 d2 d3 d4 : Nat) (w : World) (ha : RAt w a A1 A2 A3 A4 c1 c2 c3 c4) (hb : RAt w b B1 B2 B3 B4 d1 d2 d3 d4) :
    Calls Tryz.prog 80 #[.agg (rcells a A1 A2 A3 A4 c1 c2 c3 c4), .agg (rcells b B1 B2 B3 B4 d1 d2 d3 d4)] w fun e w' => e = .returned (.bool (sameB a b)) ∧ Below w.heap.size w w' := by
  have hl3 : a.bw.length ≤ 9223372036854775807 := Nat.le_trans ha.s3.le ha.s3.cap
  have hm3 : b.bw.length ≤ 9223372036854775807 := Nat.le_trans hb.s3.le hb.s3.cap
  have HAb := fun (g : Gr ((w.alloc (.cells (rcells a A1 A2 A3 A4 c1 c2 c3 c4) 60)).alloc (.cells (rcells b B1 B2 B3 B4 d1 d2 d3 d4) 60))) (k : Nat) (v : Value) (h : (rcells a A1 A2 A3 A4 c1 c2 c3 c4)[k]? = some v) => (show g.val.cell? ⟨w.heap.size, k, none⟩ = some v from cell_old (box_at h ⟨_, (Below.refl _ (w.alloc (.cells (rcells a A1 A2 A3 A4 c1 c2 c3 c4) 60))).alloc (Nat.le_refl _) (.cells (rcells b B1 B2 B3 B4 d1 d2 d3 d4) 60)⟩) g.ok)
  have HBb := fun (g : Gr ((w.alloc (.cells (rcells a A1 A2 A3 A4 c1 c2 c3 c4) 60)).alloc (.cells (rcells b B1 B2 B3 B4 d1 d2 d3 d4) 60))) (k : Nat) (v : Value) (h : (rcells b B1 B2 B3 B4 d1 d2 d3 d4)[k]? = some v) => (show g.val.cell? ⟨w.heap.size + 1, k, none⟩ = some v from by have := box_at (w := w.alloc (.cells (rcells a A1 A2 A3 A4 c1 c2 c3 c4) 60)) h g; simpa using this)
  have HI1 := Lib.hid (fun g : Gr ((w.alloc (.cells (rcells a A1 A2 A3 A4 c1 c2 c3 c4) 60)).alloc (.cells (rcells b B1 B2 B3 B4 d1 d2 d3 d4) 60)) => eqI_any a.bm b.bm A1 B1 c1 d1 g.val (((ha.s1.alloc _).alloc _).gr g) (((hb.s1.alloc _).alloc _).gr g))
  have HI2 := Lib.hid (fun g : Gr ((w.alloc (.cells (rcells a A1 A2 A3 A4 c1 c2 c3 c4) 60)).alloc (.cells (rcells b B1 B2 B3 B4 d1 d2 d3 d4) 60)) => eqI_any a.bd b.bd A2 B2 c2 d2 g.val (((ha.s2.alloc _).alloc _).gr g) (((hb.s2.alloc _).alloc _).gr g))
  have HI3 := Lib.hid (fun g : Gr ((w.alloc (.cells (rcells a A1 A2 A3 A4 c1 c2 c3 c4) 60)).alloc (.cells (rcells b B1 B2 B3 B4 d1 d2 d3 d4) 60)) => eqD_any a.bw b.bw A3 B3 c3 d3 g.val (((ha.s3.alloc _).alloc _).gr g) (((hb.s3.alloc _).alloc _).gr g))
  have HI4 := Lib.hid (fun g : Gr ((w.alloc (.cells (rcells a A1 A2 A3 A4 c1 c2 c3 c4) 60)).alloc (.cells (rcells b B1 B2 B3 B4 d1 d2 d3 d4) 60)) => eqI_any a.bs b.bs A4 B4 c4 d4 g.val (((ha.s4.alloc _).alloc _).gr g) (((hb.s4.alloc _).alloc _).gr g))
  have HA := Lib.hid ((ha.s3.alloc (.cells (rcells a A1 A2 A3 A4 c1 c2 c3 c4) 60)).alloc (.cells (rcells b B1 B2 B3 B4 d1 d2 d3 d4) 60))
  have HB := Lib.hid ((hb.s3.alloc (.cells (rcells a A1 A2 A3 A4 c1 c2 c3 c4) 60)).alloc (.cells (rcells b B1 B2 B3 B4 d1 d2 d3 d4) 60))
  have hbel2 : ∀ g : Gr ((w.alloc (.cells (rcells a A1 A2 A3 A4 c1 c2 c3 c4) 60)).alloc (.cells (rcells b B1 B2 B3 B4 d1 d2 d3 d4) 60)), Below w.heap.size w g.val := fun g => ((Below.refl _ w).alloc (Nat.le_refl _) (.cells (rcells a A1 A2 A3 A4 c1 c2 c3 c4) 60)).trans (((Below.refl _ (w.alloc (.cells (rcells a A1 A2 A3 A4 c1 c2 c3 c4) 60))).alloc (Nat.le_refl _) (.cells (rcells b B1 B2 B3 B4 d1 d2 d3 d4) 60)).trans (g.ok.mono (by simp)) |>.mono (by simp))
  have HBEL := Lib.hid hbel2
  clear hbel2
  obtain ⟨q, hq⟩ : ∃ q, sameB a b = q := ⟨_, rfl⟩
  have HQ : Hid (q = true ↔ sameP a b) := by show _ ↔ _; rw [← hq]; unfold sameB; exact decide_eq_true_iff
  rw [hq]
  clear hq ha hb
  unfold sameP at HQ
  have a0' := fun g => HAb g 0 _ rfl
  have b0' := fun g => HBb g 0 _ rfl
  have a1' := fun g => HAb g 1 _ rfl
  have b1' := fun g => HBb g 1 _ rfl
  have a2' := fun g => HAb g 2 _ rfl
  have b2' := fun g => HBb g 2 _ rfl
  have a3' := fun g => HAb g 3 _ rfl
  have b3' := fun g => HBb g 3 _ rfl
  have a4' := fun g => HAb g 4 _ rfl
  have b4' := fun g => HBb g 4 _ rfl
  have a5' := fun g => HAb g 5 _ rfl
  have b5' := fun g => HBb g 5 _ rfl
  have a6' := fun g => HAb g 6 _ rfl
  have b6' := fun g => HBb g 6 _ rfl
  have a7' := fun g => HAb g 7 _ rfl
  have b7' := fun g => HBb g 7 _ rfl
  have a8' := fun g => HAb g 8 _ rfl
  have b8' := fun g => HBb g 8 _ rfl
  clear HAb HBb
  obtain ⟨f1, f2, f3, f4, bm, bd, bw, bs, f5⟩ := a
  obtain ⟨g1, g2, g3, g4, em, ed, ew, es, g5⟩ := b
  unfold rcells at *
  simp only at *
  by_cases k0 : f1 = g1
  rotate_left
  · have E : Hid (q = false) := q_no HQ.out (fun h => k0 h.1)
    have kb : (f1 == g1) = false := by simpa using k0
    go_enter Tryz.func80, Tryz.ntmps80
    go_wp2_with fail
    go_ret
    exact ⟨ret_bool E.out.symm, HBEL.out ⟨_, Below.refl _ _⟩⟩
  subst k0
  by_cases k1 : f2 = g2
  rotate_left
  · have E : Hid (q = false) := q_no HQ.out (fun h => k1 h.2.1)
    have kb : (f2 == g2) = false := by simpa using k1
    go_enter Tryz.func80, Tryz.ntmps80
    go_wp2_with fail
    go_ret
    exact ⟨ret_bool E.out.symm, HBEL.out ⟨_, Below.refl _ _⟩⟩
  subst k1
  by_cases k2 : f3 = g3
  rotate_left
  · have E : Hid (q = false) := q_no HQ.out (fun h => k2 h.2.2.1)
    have kb : (f3 == g3) = false := by simpa using k2
    go_enter Tryz.func80, Tryz.ntmps80
    go_wp2_with fail
    go_ret
    exact ⟨ret_bool E.out.symm, HBEL.out ⟨_, Below.refl _ _⟩⟩
  subst k2
  by_cases k3 : f4 = g4
  rotate_left
  · have E : Hid (q = false) := q_no HQ.out (fun h => k3 h.2.2.2.1)
    have kb : (f4 == g4) = false := by simpa using k3
    go_enter Tryz.func80, Tryz.ntmps80
    go_wp2_with fail
    go_ret
    exact ⟨ret_bool E.out.symm, HBEL.out ⟨_, Below.refl _ _⟩⟩
  subst k3
  by_cases k4 : f5 = g5
  rotate_left
  · have E : Hid (q = false) := q_no HQ.out (fun h => k4 h.2.2.2.2.1)
    have kb : (f5 == g5) = false := by simpa using k4
    go_enter Tryz.func80, Tryz.ntmps80
    go_wp2_with fail
    go_ret
    exact ⟨ret_bool E.out.symm, HBEL.out ⟨_, Below.refl _ _⟩⟩
  subst k4
  go_enter Tryz.func80, Tryz.ntmps80
  by_cases e0 : bm = em
  rotate_left
  · have E : Hid (q = false) := q_no HQ.out (fun h => e0 h.2.2.2.2.2.2.1)
    have H0 := Lib.hid (HI1.out ⟨_, Below.refl _ _⟩)
    rw [decide_eq_false e0] at H0
    go_wp2_with fail
    go_at_call 79
    refine H0.out.mono ?_
    rintro e w' ⟨rfl, hb⟩
    obtain ⟨g, rfl⟩ := Gr.of hb
    clear hb
    go_wp2_with fail
    go_ret
    exact ⟨ret_bool E.out.symm, HBEL.out g⟩
  have E0 := Lib.hid e0
  have H0 := Lib.hid (HI1.out ⟨_, Below.refl _ _⟩)
  rw [decide_eq_true e0] at H0
  clear e0
  go_wp2_with fail
  go_at_call 79
  refine H0.out.mono ?_
  rintro e w' ⟨rfl, hb⟩
  obtain ⟨g, rfl⟩ := Gr.of hb
  clear hb
  by_cases e1 : bd = ed
  rotate_left
  · have E : Hid (q = false) := q_no HQ.out (fun h => e1 h.2.2.2.2.2.2.2.1)
    have H1 := Lib.hid (HI2.out g)
    rw [decide_eq_false e1] at H1
    have u5 := a5' g
    have v5 := b5' g
    go_wp2_with fail
    go_at_call 79
    refine H1.out.mono ?_
    rintro e w' ⟨rfl, hb⟩
    obtain ⟨g, rfl⟩ := g.on hb
    clear hb
    go_wp2_with fail
    go_ret
    exact ⟨ret_bool E.out.symm, HBEL.out g⟩
  have E1 := Lib.hid e1
  have H1 := Lib.hid (HI2.out g)
  rw [decide_eq_true e1] at H1
  clear e1
  have u5 := a5' g
  have v5 := b5' g
  go_wp2_with fail
  go_at_call 79
  refine H1.out.mono ?_
  rintro e w' ⟨rfl, hb⟩
  obtain ⟨g, rfl⟩ := g.on hb
  clear hb
  by_cases e2 : bw = ew
  rotate_left
  · have E : Hid (q = false) := q_no HQ.out (fun h => e2 h.2.2.2.2.2.1)
    have H2 := Lib.hid (HI3.out g)
    rw [decide_eq_false e2] at H2
    have u6 := a6' g
    have v6 := b6' g
    go_wp2_with fail
    go_at_call 126
    refine H2.out.mono ?_
    rintro e w' ⟨rfl, hb⟩
    obtain ⟨g, rfl⟩ := g.on hb
    clear hb
    go_wp2_with fail
    go_ret
    exact ⟨ret_bool E.out.symm, HBEL.out g⟩
  have E2 := Lib.hid e2
  have H2 := Lib.hid (HI3.out g)
  rw [decide_eq_true e2] at H2
  clear e2
  have u6 := a6' g
  have v6 := b6' g
  go_wp2_with fail
  go_at_call 126
  refine H2.out.mono ?_
  rintro e w' ⟨rfl, hb⟩
  obtain ⟨g, rfl⟩ := g.on hb
  clear hb
  by_cases e3 : bs = es
  rotate_left
  · have E : Hid (q = false) := q_no HQ.out (fun h => e3 h.2.2.2.2.2.2.2.2)
    have H3 := Lib.hid (HI4.out g)
    rw [decide_eq_false e3] at H3
    have u7 := a7' g
    have v7 := b7' g
    go_wp2_with fail
    go_at_call 79
    refine H3.out.mono ?_
    rintro e w' ⟨rfl, hb⟩
    obtain ⟨g, rfl⟩ := g.on hb
    clear hb
    go_wp2_with fail
    go_ret
    exact ⟨ret_bool E.out.symm, HBEL.out g⟩
  have E3 := Lib.hid e3
  have H3 := Lib.hid (HI4.out g)
  rw [decide_eq_true e3] at H3
  clear e3
  have u7 := a7' g
  have v7 := b7' g
  go_wp2_with fail
  go_at_call 79
  refine H3.out.mono ?_
  rintro e w' ⟨rfl, hb⟩
  obtain ⟨g, rfl⟩ := g.on hb
  clear hb
  have E : Hid (q = true) := HQ.out.2 ⟨trivial, trivial, trivial, trivial, trivial, E2.out, E0.out, E1.out, E3.out⟩
  go_wp2_with fail
  go_ret
  exact ⟨ret_bool E.out.symm, HBEL.out g⟩
end Go.Proofs.YtdhinjbkfffpeaaGreat
end
