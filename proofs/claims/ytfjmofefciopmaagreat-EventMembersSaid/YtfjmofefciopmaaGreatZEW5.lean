import Derived.Test.YtfjmofefciopmaaGreatZEW4
import Derived.Deep.Cut
/- Contract: may an event be, the document's: its changes, and all. -/
section
namespace Go.Proofs.YtfjmofefciopmaaGreat
open Go.ChangeShapes Go.WideShapes Go.ChangeAt Go.RowKit Go.Joins Sp Ev Qr
set_option maxRecDepth 100000 in
set_option maxHeartbeats 8000000 in
theorem rmay11_loop (e : Evt) (A1 A2 A3 A4 A5 A6 A7 : Option Addr) (c1 c2 c3 c4 c5 c6 c7 : Nat) (hs : stampB e.start = true) (h1 : 1 ≤ e.long) (h2 : e.long ≤ 10080) (ha : e.again = true) (w1 : e.world = false) (w2 : mayB e.rule = true) (w3 : rowB e.ex = true) (w4 : rowB e.plus = true) (w5 : e.ch.length ≤ 50) (w : World) (hx : e.ex.length ≤ 1000000) (hp : e.plus.length ≤ 1000000) (h : EAt w e A1 A2 A3 A4 A5 A6 A7 c1 c2 c3 c4 c5 c6 c7) :
    Calls Tryz.prog 11 #[.agg (ecells e A1 A2 A3 A4 A5 A6 A7 c1 c2 c3 c4 c5 c6 c7)] w fun q w' => q = .returned (.bool (mayEB e)) ∧ Below w.heap.size w w' := by
  obtain ⟨W1, hW1⟩ : ∃ W1, w.alloc (.cells (ecells e A1 A2 A3 A4 A5 A6 A7 c1 c2 c3 c4 c5 c6 c7) 32) = W1 := ⟨_, rfl⟩
  have hB1 : Below w.heap.size w W1 := by rw [← hW1]; exact (Below.refl _ _).alloc (Nat.le_refl _) _
  have hbx : W1.heap[w.heap.size]? = some (.cells (ecells e A1 A2 A3 A4 A5 A6 A7 c1 c2 c3 c4 c5 c6 c7) 32 (0, 0)) := by rw [← hW1]; exact heap_alloc_new _ _
  have HBX : Hid (∀ (G : Gr W1) (k : Nat) (v : Value), (ecells e A1 A2 A3 A4 A5 A6 A7 c1 c2 c3 c4 c5 c6 c7)[k]? = some v → G.val.cell? ⟨w.heap.size, k, none⟩ = some v) := fun G k v hv => cell_old (blk_cell hbx hv) G.ok
  have HWG : Hid (∀ G : Gr W1, Below w.heap.size w G.val) := fun G => hB1.trans (G.ok.mono hB1.size)
  have E1 := Lib.hid hW1
  have HSt := Lib.hid (rstamp11_any e.start W1)
  obtain ⟨g0, hg0⟩ : ∃ g0 : Gr W1, W1 = g0.val := ⟨⟨W1, Below.refl _ _⟩, rfl⟩
  have HG0 := Lib.hid hg0
  have HMy : Hid (∀ G : Gr W1, Calls Tryz.prog 33 #[.agg (rcells e.rule A1 A2 A3 A4 c1 c2 c3 c4)] G.val fun q w2 => q = .returned (.bool (mayB e.rule)) ∧ Below G.val.heap.size G.val w2) := fun G => rmay9_any e.rule A1 A2 A3 A4 c1 c2 c3 c4 G.val (h.below (HWG.out G)).r
  unfold rcells at HMy
  have HRe : Hid (∀ G : Gr W1, Calls Tryz.prog 34 #[.slice A5 e.ex.length c5] G.val fun q w2 => q = .returned (.bool (rowB e.ex)) ∧ Below G.val.heap.size G.val w2) := fun G => rrow11_any e.ex A5 c5 G.val hx (h.below (HWG.out G)).s5
  have HRp : Hid (∀ G : Gr W1, Calls Tryz.prog 34 #[.slice A6 e.plus.length c6] G.val fun q w2 => q = .returned (.bool (rowB e.plus)) ∧ Below G.val.heap.size G.val w2) := fun G => rrow11_any e.plus A6 c6 G.val hp (h.below (HWG.out G)).s6
  have d1 : decide (e.long < 1) = false := decide_eq_false (by omega)
  have d2 : decide (10080 < e.long) = false := decide_eq_false (by omega)
  rw [hs] at HSt
  rw [w2] at HMy
  rw [w3] at HRe
  rw [w4] at HRp
  have d5 : decide ((50 : Int) < e.ch.length) = false := decide_eq_false (by omega)
  have HS7 : Hid (∀ G : Gr W1, Sl G.val A7 e.ch.length c7 (tv e.ch)) := fun G => by have := (h.below (HWG.out G)).s7; rwa [cv_tv] at this
  have HYES : Hid ((∀ i, i < e.ch.length → okC e.ch i) → mayEB e = true) := fun q => decide_eq_true ⟨hs, h1, h2, (fun k => by rw [ha] at k; cases k), fun _ => ⟨w1, w2, w3, w4, w5, q⟩⟩
  have HNO : Hid (∀ i, i < e.ch.length → ¬ okC e.ch i → mayEB e = false) := fun i hi q => decide_eq_false fun k => q ((k.2.2.2.2 ha).2.2.2.2.2 i hi)
  obtain ⟨r, hr⟩ : ∃ r, mayEB e = r := ⟨_, rfl⟩
  rw [hr] at HYES HNO ⊢
  clear hr
  have hST : Hid (∀ (v : Int) (b : Bool) (w' : World) (n : Nat), stampB v = b → Calls Tryz.prog 31 #[.int .i64 v] (w'.drewN n) fun e w2 => e = .returned (.bool b) ∧ ∃ m, w2 = w'.drewN m) := fun v b w' n hb => Calls.quiet_of_same ((rstamp11_any v _).mono fun _ _ ⟨h1, h2⟩ => ⟨by rw [← hb]; exact h1, h2.symm⟩)
  have hlz : (e.ch.length : Int) ≤ 9223372036854775807 := by omega
  have b0 := HBX.out g0 0 (.int .i64 e.start) rfl
  have b1 := HBX.out g0 1 (.int .i64 e.long) rfl
  have b2 := HBX.out g0 2 (.bool e.world) rfl
  have b3 := HBX.out g0 3 (.bool e.again) rfl
  have b4 := HBX.out g0 4 (.int .i64 e.rule.freq) rfl
  have b5 := HBX.out g0 5 (.int .i64 e.rule.iv) rfl
  have b6 := HBX.out g0 6 (.int .i64 e.rule.count) rfl
  have b7 := HBX.out g0 7 (.int .i64 e.rule.until_) rfl
  have b8 := HBX.out g0 8 (.slice A1 e.rule.bm.length c1) rfl
  have b9 := HBX.out g0 9 (.slice A2 e.rule.bd.length c2) rfl
  have b10 := HBX.out g0 10 (.slice A3 e.rule.bw.length c3) rfl
  have b11 := HBX.out g0 11 (.slice A4 e.rule.bs.length c4) rfl
  have b12 := HBX.out g0 12 (.int .i64 e.rule.start) rfl
  rw [ha] at b3
  rw [w1] at b2
  clear h hW1 hB1 hbx hg0
  clear hs h1 h2
  unfold ecells at E1
  unfold ecells
  rw [ha, w1] at E1 ⊢
  clear ha w1
  go_enter Tryz.func11, Tryz.ntmps11
  go_upto_region 1 with fail
  rw [E1.out]
  rw [HG0.out]
  rw [HG0.out] at HSt
  go_wp2_with fail
  go_at_call 31
  refine HSt.out.mono ?_
  rintro q w' ⟨rfl, rfl⟩
  go_wp2_with fail
  go_at_call 33
  refine (HMy.out g0).mono ?_
  rintro q w2 ⟨rfl, hb⟩
  obtain ⟨g, rfl⟩ := g0.on hb
  clear hb b0 b1 b2 b3 b4 b5 b6 b7 b8 b9 b10 b11 b12
  have b13 := HBX.out g 13 (.slice A5 e.ex.length c5) rfl
  go_wp2_with fail
  go_at_call 34
  refine (HRe.out g).mono ?_
  rintro q w2 ⟨rfl, hb⟩
  obtain ⟨g, rfl⟩ := g.on hb
  clear hb b13
  have b14 := HBX.out g 14 (.slice A6 e.plus.length c6) rfl
  go_wp2_with fail
  go_at_call 34
  refine (HRp.out g).mono ?_
  rintro q w2 ⟨rfl, hb⟩
  obtain ⟨g, rfl⟩ := g.on hb
  clear hb b14
  have b15 := HBX.out g 15 (.slice A7 e.ch.length c7) rfl
  go_wp2_with fail
  clear b15 w2 w3 w4
  go_loopw [73] (fun s73 wr => ∃ (k : Nat) (g : Gr W1), wr = g.val ∧ k ≤ e.ch.length ∧ s73 = .int .i64 k ∧ Hid (∀ i, i < k → okC e.ch i)) (fun s73 _ => e.ch.length - (intOf s73).toNat)
  case atStart => exact ⟨0, g, rfl, Nat.zero_le _, rfl, fun i hi => absurd hi (Nat.not_lt_zero _)⟩
  case round =>
    obtain ⟨k, g, rfl, hk, rfl, HF⟩ := hrel
    have b15 := HBX.out g 15 (.slice A7 e.ch.length c7) rfl
    by_cases hlt : k < e.ch.length
    · have hkz : (k : Int) < e.ch.length := by omega
      obtain ⟨c, hc⟩ : ∃ c, e.ch[k]? = some c := ⟨_, List.getElem?_eq_getElem hlt⟩
      have HX : Hid (e.ch.getD k (0, 0, 0) = c) := by show _ = _; rw [List.getD_eq_getElem?_getD, hc]; rfl
      obtain ⟨b, off, rfl, hbs, q1, q2, q3⟩ := (HS7.out g).shift hc
      obtain ⟨at_, st, lg⟩ := c
      simp only at q1 q2 q3
      obtain ⟨gA, hgA⟩ := g.up0 (o := .cells #[.int .i64 at_, .int .i64 st, .int .i64 lg] 47)
      go_upto_region 11 with fail
      have p0 : gA.val.cell? ⟨g.val.heap.size, 0, none⟩ = some (.int .i64 at_) := by rw [← hgA]; simp [go_sem]
      have p1 : gA.val.cell? ⟨g.val.heap.size, 1, none⟩ = some (.int .i64 st) := by rw [← hgA]; simp [go_sem]
      have p2 : gA.val.cell? ⟨g.val.heap.size, 2, none⟩ = some (.int .i64 lg) := by rw [← hgA]; simp [go_sem]
      have HGA := Lib.hid hgA
      obtain ⟨bb, hbb⟩ : ∃ bb, g.val.heap.size = bb := ⟨_, rfl⟩
      rw [hbb] at p0 p1 p2 ⊢
      clear hbb b15 q1 q2 q3
      have b15 := HBX.out gA 15 (.slice (some ⟨b, off, none⟩) e.ch.length c7) rfl
      have HNO2 : Hid (¬ (stampB at_ = true ∧ stampB st = true ∧ 0 ≤ lg ∧ lg ≤ 10080 ∧ (0 < k → (e.ch.getD (k - 1) (0, 0, 0)).1 < at_)) → r = false) := fun q => HNO.out k hlt (fun p => q (by unfold okC at p; rw [HX.out] at p; exact p))
      cases s1 : stampB at_ with
      | false =>
        have HS1 := Lib.hid (fun w' n => hST.out at_ false w' n s1)
        have HS2 := HS1
        have E : Hid (r = false) := HNO2.out (fun q => by rw [s1] at q; cases q.1)
        clear hgA hc
        go_wp2_with fail
        go_quiet ((go_at_call 31; first | exact HS1.out _ _ | exact HS2.out _ _))
        go_wp2_with fail
        go_ret
        exact ⟨ret_bool E.out.symm, (HWG.out gA).trans (Below.mono (drewN_below _ _) (HWG.out gA).size)⟩
      | true =>
        have HS1 := Lib.hid (fun w' n => hST.out at_ true w' n s1)
        cases s2 : stampB st with
        | false =>
          have HS2 := Lib.hid (fun w' n => hST.out st false w' n s2)
          have E : Hid (r = false) := HNO2.out (fun q => by rw [s2] at q; cases q.2.1)
          clear hgA hc
          go_wp2_with fail
          go_quiet ((go_at_call 31; first | exact HS1.out _ _ | exact HS2.out _ _))
          go_wp2_with fail
          go_ret
          exact ⟨ret_bool E.out.symm, (HWG.out gA).trans (Below.mono (drewN_below _ _) (HWG.out gA).size)⟩
        | true =>
          have HS2 := Lib.hid (fun w' n => hST.out st true w' n s2)
          by_cases e3 : lg < 0
          · have e3b : decide (lg < 0) = true := decide_eq_true e3
            have E : Hid (r = false) := HNO2.out (fun q => by have := q.2.2.1; omega)
            clear hgA hc
            go_wp2_with fail
            go_quiet ((go_at_call 31; first | exact HS1.out _ _ | exact HS2.out _ _))
            go_wp2_with fail
            go_ret
            exact ⟨ret_bool E.out.symm, (HWG.out gA).trans (Below.mono (drewN_below _ _) (HWG.out gA).size)⟩
          have e3b : decide (lg < 0) = false := decide_eq_false e3
          by_cases e4 : 10080 < lg
          · have e4b : decide (10080 < lg) = true := decide_eq_true e4
            have E : Hid (r = false) := HNO2.out (fun q => by have := q.2.2.2.1; omega)
            clear hgA hc
            go_wp2_with fail
            go_quiet ((go_at_call 31; first | exact HS1.out _ _ | exact HS2.out _ _))
            go_wp2_with fail
            go_ret
            exact ⟨ret_bool E.out.symm, (HWG.out gA).trans (Below.mono (drewN_below _ _) (HWG.out gA).size)⟩
          have e4b : decide (10080 < lg) = false := decide_eq_false e4
          rcases Nat.eq_zero_or_pos k with rfl | hk0
          · have HN : Hid (∀ i, i < 0 + 1 → okC e.ch i) := fun i hi => by
              obtain rfl : i = 0 := by omega
              unfold okC; rw [HX.out]; exact ⟨s1, s2, by show 0 ≤ lg; omega, by show lg ≤ 10080; omega, fun h => absurd h (Nat.lt_irrefl _)⟩
            clear hgA hc
            go_wp2_with fail
            go_quiet ((go_at_call 31; first | exact HS1.out _ _ | exact HS2.out _ _))
            obtain ⟨g4, hg4⟩ : ∃ g4 : Gr W1, gA.val.drewN nq = g4.val := gA.on (drewN_below _ _)
            rw [hg4]
            clear hg4
            go_wp2_with fail
            go_roundw
            case rel => exact ⟨1, g4, rfl, hlt, by first | rfl | go_num, HN.out⟩
            case measure => simp [intOf]; omega
          · obtain ⟨j, rfl⟩ : ∃ j, k = j + 1 := ⟨k - 1, by omega⟩
            obtain ⟨d, hd⟩ : ∃ d, e.ch[j]? = some d := ⟨_, List.getElem?_eq_getElem (by omega)⟩
            have HY : Hid (e.ch.getD (j + 1 - 1) (0, 0, 0) = d) := by show _ = _; rw [Nat.add_sub_cancel, List.getD_eq_getElem?_getD, hd]; rfl
            obtain ⟨b2, off2, hB7, _, r1, _, _⟩ := (HS7.out gA).shift hd
            obtain ⟨rfl, rfl⟩ : b = b2 ∧ off = off2 := by simpa using hB7
            obtain ⟨y, y2, y3⟩ := d
            simp only at r1
            rw [HY.out] at HNO2
            have hj : (j : Int) < e.ch.length := by omega
            have e5 : decide ((0 : Int) < (j : Int) + 1) = true := decide_eq_true (by omega)
            have e6 : (0 : Int) < (j : Int) + 1 := by omega
            clear hB7 hd
            by_cases e7 : at_ ≤ y
            · have e7b : decide (at_ ≤ y) = true := decide_eq_true e7
              have E : Hid (r = false) := HNO2.out (fun q => by have := q.2.2.2.2 (by omega); simp only at this; omega)
              clear hgA hc
              go_wp2_with fail
              go_quiet ((go_at_call 31; first | exact HS1.out _ _ | exact HS2.out _ _))
              go_wp2_with fail
              go_ret
              exact ⟨ret_bool E.out.symm, (HWG.out gA).trans (Below.mono (drewN_below _ _) (HWG.out gA).size)⟩
            · have e7b : decide (at_ ≤ y) = false := decide_eq_false e7
              have HN : Hid (∀ i, i < j + 1 + 1 → okC e.ch i) := fun i hi => by
                by_cases e : i = j + 1
                · subst e; unfold okC; rw [HX.out, HY.out]; exact ⟨s1, s2, by show 0 ≤ lg; omega, by show lg ≤ 10080; omega, fun _ => by show y < at_; omega⟩
                · exact HF.out i (by omega)
              clear hgA hc
              go_wp2_with fail
              go_quiet ((go_at_call 31; first | exact HS1.out _ _ | exact HS2.out _ _))
              obtain ⟨g4, hg4⟩ : ∃ g4 : Gr W1, gA.val.drewN nq = g4.val := gA.on (drewN_below _ _)
              rw [hg4]
              clear hg4
              go_wp2_with fail
              go_roundw
              case rel => exact ⟨j + 1 + 1, g4, rfl, hlt, by first | rfl | go_num, HN.out⟩
              case measure => simp [intOf]; omega
    · obtain rfl : k = e.ch.length := by omega
      have E : Hid (r = true) := HYES.out HF.out
      go_wp2_with fail
      go_ret
      exact ⟨ret_bool E.out.symm, HWG.out g⟩
theorem rmay11_any (e : Evt) (A1 A2 A3 A4 A5 A6 A7 : Option Addr) (c1 c2 c3 c4 c5 c6 c7 : Nat) (w : World) (hx : e.ex.length ≤ 1000000) (hp : e.plus.length ≤ 1000000) (h : EAt w e A1 A2 A3 A4 A5 A6 A7 c1 c2 c3 c4 c5 c6 c7) :
    Calls Tryz.prog 11 #[.agg (ecells e A1 A2 A3 A4 A5 A6 A7 c1 c2 c3 c4 c5 c6 c7)] w fun q w' => q = .returned (.bool (mayEB e)) ∧ Below w.heap.size w w' := by
  by_cases hbad : stampB e.start = false ∨ e.long < 1 ∨ 10080 < e.long
  · exact rmay11_bad e A1 A2 A3 A4 A5 A6 A7 c1 c2 c3 c4 c5 c6 c7 hbad w hx hp h
  have hs : stampB e.start = true := by cases q : stampB e.start with | true => rfl | false => exact absurd (.inl q) hbad
  have h1 : 1 ≤ e.long := by omega
  have h2 : e.long ≤ 10080 := by omega
  cases ha : e.again with
  | false => exact rmay11_once e A1 A2 A3 A4 A5 A6 A7 c1 c2 c3 c4 c5 c6 c7 hs h1 h2 ha w hx hp h
  | true =>
    by_cases hb : e.world = true ∨ mayB e.rule = false ∨ rowB e.ex = false ∨ rowB e.plus = false ∨ 50 < e.ch.length
    · exact rmay11_head e A1 A2 A3 A4 A5 A6 A7 c1 c2 c3 c4 c5 c6 c7 hs h1 h2 ha hb w hx hp h
    have w1 : e.world = false := by cases q : e.world with | false => rfl | true => exact absurd (.inl q) hb
    have w2 : mayB e.rule = true := by cases q : mayB e.rule with | true => rfl | false => exact absurd (.inr (.inl q)) hb
    have w3 : rowB e.ex = true := by cases q : rowB e.ex with | true => rfl | false => exact absurd (.inr (.inr (.inl q))) hb
    have w4 : rowB e.plus = true := by cases q : rowB e.plus with | true => rfl | false => exact absurd (.inr (.inr (.inr (.inl q)))) hb
    exact rmay11_loop e A1 A2 A3 A4 A5 A6 A7 c1 c2 c3 c4 c5 c6 c7 hs h1 h2 ha w1 w2 w3 w4 (by omega) w hx hp h
end Go.Proofs.YtfjmofefciopmaaGreat
end
