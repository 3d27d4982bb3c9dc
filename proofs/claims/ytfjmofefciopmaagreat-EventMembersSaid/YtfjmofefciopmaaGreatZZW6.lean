import Derived.Test.YtfjmofefciopmaaGreatZMW
import Derived.Test.YtfjmofefciopmaaGreatZMA
/- Contract: the document's minute of a local time, going through all minutes about it. -/
section
namespace Go.Proofs.YtfjmofefciopmaaGreat
open Go.ChangeShapes Go.WideShapes Go.ChangeAt Go.RowKit Zn
def badV : Value := .agg #[.int .i64 0, .int .i64 0, .bool true]
set_option maxHeartbeats 1000000 in
theorem rutc_far (w : World) (A : Option Addr) (z : Z) (c : Nat) (l : Int) (hw : ZWf z) (hz : ZAt w A z) (h : mayB z = false ∨ (mayB z = true ∧ l < -900) ∨ (mayB z = true ∧ 158311620 < l)) :
    Calls Tryz.prog 17 #[.agg #[.int .i64 z.base, .slice A z.n c], .int .i64 l] w fun e w' => e = .returned badV ∧ Below w.heap.size w w' := by
  have HC := Lib.hid (rzmay_any _ A z c hw ((hz.alloc (.cells #[.int .i64 z.base, .slice A z.n c] 24)).alloc (.cells #[.int .i64 0, .int .i64 0, .bool false] 49)))
  have HB := Lib.hid ((Below.refl w.heap.size w).alloc (Nat.le_refl _) (.cells #[.int .i64 z.base, .slice A z.n c] 24))
  have hO : OutAt ((w.alloc (.cells #[.int .i64 z.base, .slice A z.n c] 24)).alloc (.cells #[.int .i64 0, .int .i64 0, .bool false] 49)) (w.heap.size + 1) 49 (.int .i64 0) (.int .i64 0) (.bool false) := by
    have := OutAt.new (w.alloc (.cells #[.int .i64 z.base, .slice A z.n c] 24)) 49 (.int .i64 0) (.int .i64 0) (.bool false)
    simpa using this
  obtain ⟨r0, r1, r2, rf⟩ := hO.lay
  clear hw hz hO
  rcases h with h | ⟨h, h2⟩ | ⟨h, h2⟩
  · go_enter Tryz.func17, Tryz.ntmps17
    go_wp2_with (go_at_call 18; (with_reducible refine HC.out.mono ?_); rintro e w' ⟨rfl, hb⟩; obtain ⟨g, rfl⟩ := Gr.of hb; clear hb)
    exact bodyPost_ret (v := badV) (by simp [results, Tryz.results17, go_sem, r0, r1, r2, rf, badV]) rfl ⟨rfl, below_set3 ((HB.out.alloc (by simp) _).trans (g.ok.mono (by simp; omega))) (Nat.le_succ _) _ _ _⟩
  · go_enter Tryz.func17, Tryz.ntmps17
    go_wp2_with (go_at_call 18; (with_reducible refine HC.out.mono ?_); rintro e w' ⟨rfl, hb⟩; obtain ⟨g, rfl⟩ := Gr.of hb; clear hb)
    exact bodyPost_ret (v := badV) (by simp [results, Tryz.results17, go_sem, r0, r1, r2, rf, badV]) rfl ⟨rfl, below_set3 ((HB.out.alloc (by simp) _).trans (g.ok.mono (by simp; omega))) (Nat.le_succ _) _ _ _⟩
  · go_enter Tryz.func17, Tryz.ntmps17
    go_wp2_with (go_at_call 18; (with_reducible refine HC.out.mono ?_); rintro e w' ⟨rfl, hb⟩; obtain ⟨g, rfl⟩ := Gr.of hb; clear hb)
    exact bodyPost_ret (v := badV) (by simp [results, Tryz.results17, go_sem, r0, r1, r2, rf, badV]) rfl ⟨rfl, below_set3 ((HB.out.alloc (by simp) _).trans (g.ok.mono (by simp; omega))) (Nat.le_succ _) _ _ _⟩
def outV (z : Z) (l : Int) : Value := if 0 ≤ atI z l ∧ atI z l ≤ 158310720 then .agg #[.int .i64 (atI z l), .int .i64 (kI z l), .bool false] else badV
set_option maxRecDepth 100000 in
set_option maxHeartbeats 4000000 in
theorem rutc_in (w : World) (A : Option Addr) (z : Z) (c : Nat) (l : Int) (hw : ZWf z) (hz : ZAt w A z) (hp : mayP z) (hl1 : -900 ≤ l) (hl2 : l ≤ 158311620) :
    Calls Tryz.prog 17 #[.agg #[.int .i64 z.base, .slice A z.n c], .int .i64 l] w fun e w' => e = .returned (outV z l) ∧ Below w.heap.size w w' := by
  have hZ2 := (hz.alloc (.cells #[.int .i64 z.base, .slice A z.n c] 24)).alloc (.cells #[.int .i64 0, .int .i64 0, .bool false] 49)
  have HC := Lib.hid (rzmay_any _ A z c hw hZ2)
  have hB2 : Below w.heap.size w ((w.alloc (.cells #[.int .i64 z.base, .slice A z.n c] 24)).alloc (.cells #[.int .i64 0, .int .i64 0, .bool false] 49)) := ((Below.refl w.heap.size w).alloc (Nat.le_refl _) _).alloc (by simp) _
  have hO : OutAt ((w.alloc (.cells #[.int .i64 z.base, .slice A z.n c] 24)).alloc (.cells #[.int .i64 0, .int .i64 0, .bool false] 49)) (w.heap.size + 1) 49 (.int .i64 0) (.int .i64 0) (.bool false) := by
    have := OutAt.new (w.alloc (.cells #[.int .i64 z.base, .slice A z.n c] 24)) 49 (.int .i64 0) (.int .i64 0) (.bool false)
    simpa using this
  have hF0 : ((w.alloc (.cells #[.int .i64 z.base, .slice A z.n c] 24)).alloc (.cells #[.int .i64 0, .int .i64 0, .bool false] 49)).cell? ⟨w.heap.size, 0, none⟩ = some (.int .i64 z.base) := by simp [go_sem]
  have hF1 : ((w.alloc (.cells #[.int .i64 z.base, .slice A z.n c] 24)).alloc (.cells #[.int .i64 0, .int .i64 0, .bool false] 49)).cell? ⟨w.heap.size, 1, none⟩ = some (.slice A z.n c) := by simp [go_sem]
  have hm : mayB z = true := may_iff.2 hp
  have HP := Lib.hid hp
  have HL : z.n ≤ 9223372036854775807 := hw.2.1
  have HS := Lib.hid (comes2 hp l)
  have HLT := Lib.hid (kind_lt (z := z) (l := l))
  have A1 := at_bd hp l
  have HU2 := Lib.hid (u2_bd hp (l := l))
  have HOB := Lib.hid (off_bd hp)
  obtain ⟨V, hV⟩ : ∃ V, V = outV z l := ⟨_, rfl⟩
  rw [← hV]
  have HV := Lib.hid hV
  clear hV hw hz hp
  go_enter Tryz.func17, Tryz.ntmps17
  go_wp2_with (go_at_call 18; (with_reducible refine HC.out.mono ?_); rintro e w' ⟨rfl, hb⟩; obtain ⟨g0, rfl⟩ := Gr.of hb; clear hb)
  have G1 := Lib.hid (cell_old hF0 g0.ok)
  have G2 := Lib.hid (cell_old hF1 g0.ok)
  have G3 := Lib.hid (hO.up g0.ok)
  have G4 := Lib.hid (hB2.trans (g0.ok.mono hB2.size))
  have G5 := Lib.hid (hZ2.below g0.ok)
  have G6 : w.heap.size + 1 < g0.val.heap.size := G3.out.lt
  clear hF0 hF1 hO hB2 hZ2 HC
  generalize g0.val = wa at *
  clear g0
  go_loopw [6, 7] (fun s6 s7 wr => ∃ u : Int, l - 900 ≤ u ∧ u ≤ l + 901 ∧ s7 = .int .i64 u ∧ s6 = .int .i64 (manyI (kI z l) (atI z l) (u2I z l) u) ∧ Below wa.heap.size wa wr ∧ OutAt wr wa.heap.size 49 (.int .i64 (fstI (kI z l) (atI z l) u)) (.int .i64 1) (.bool false)) (fun _ s7 _ => (l + 901 - intOf s7).toNat)
  case atStart =>
    obtain ⟨e1, e2⟩ := many_start (k := kI z l) (u1 := atI z l) (u2 := u2I z l) (u := l - 900) A1.1 (fun h => (HU2.out h).1)
    exact ⟨l - 900, by omega, by omega, rfl, by rw [e1], (Below.refl _ _).alloc (Nat.le_refl _) _, by rw [e2]; exact OutAt.new _ _ _ _ _⟩
  case round =>
    obtain ⟨u, hu1, hu2, rfl, rfl, hB, hO⟩ := hrel
    have F0 := cell_old G1.out hB
    have F1 := cell_old G2.out hB
    have HZ := Lib.hid (G5.out.below hB)
    have HB := Lib.hid hB
    have HO := Lib.hid hO
    obtain ⟨O0, O1, O2, OF⟩ := hO.lay
    obtain ⟨m1, m2⟩ := many_bd (kI z l) (atI z l) (u2I z l) u
    have ⟨b1, b2⟩ := HOB.out u
    clear hB hO
    by_cases hlt : u ≤ l + 900
    · by_cases hS : u + off z u = l
      · have sol := (HS.out u).1 hS
        have hSb : (u + off z u == l) = true := by simpa using hS
        by_cases h0 : manyI (kI z l) (atI z l) (u2I z l) u = 0
        · have N := Lib.hid (many_first HLT.out sol h0)
          have h0b : (manyI (kI z l) (atI z l) (u2I z l) u == 0) = true := by simpa using h0
          clear hS sol
          go_wp2_with (go_at_call 46; (with_reducible refine (roffs_any _ _ z c u HL HZ.out).mono ?_); rintro e w' ⟨rfl, hb⟩; obtain ⟨g, rfl⟩ := Gr.of hb; clear hb)
          go_roundw
          case rel =>
            exact ⟨u + 1, by omega, by omega, rfl, by rw [N.out.1], (HB.out.trans (g.ok.mono HB.out.size)).setCell (Nat.le_refl _) _, by rw [N.out.2]; exact (HO.out.up g.ok).set0 _⟩
          case measure => simp [intOf]; omega
        · have N := Lib.hid (many_more HLT.out sol h0)
          have h0b : (manyI (kI z l) (atI z l) (u2I z l) u == 0) = false := by simpa using h0
          clear hS sol h0
          go_wp2_with (go_at_call 46; (with_reducible refine (roffs_any _ _ z c u HL HZ.out).mono ?_); rintro e w' ⟨rfl, hb⟩; obtain ⟨g, rfl⟩ := Gr.of hb; clear hb)
          go_roundw
          case rel =>
            exact ⟨u + 1, by omega, by omega, rfl, by rw [N.out.1], HB.out.trans (g.ok.mono HB.out.size), by rw [N.out.2]; exact HO.out.up g.ok⟩
          case measure => simp [intOf]; omega
      · have N := Lib.hid (many_no (fun h => hS ((HS.out u).2 h)))
        have hSb : (u + off z u == l) = false := by simpa using hS
        clear hS
        go_wp2_with (go_at_call 46; (with_reducible refine (roffs_any _ _ z c u HL HZ.out).mono ?_); rintro e w' ⟨rfl, hb⟩; obtain ⟨g, rfl⟩ := Gr.of hb; clear hb)
        go_roundw
        case rel =>
          exact ⟨u + 1, by omega, by omega, rfl, by rw [N.out.1], HB.out.trans (g.ok.mono HB.out.size), by rw [N.out.2]; exact HO.out.up g.ok⟩
        case measure => simp [intOf]; omega
    · obtain rfl : u = l + 901 := by omega
      obtain ⟨e1, e2⟩ := many_end (k := kI z l) (u1 := atI z l) (u2 := u2I z l) (u := l + 901) (by omega) (fun h => by have := (HU2.out h).2; omega)
      have GS := Lib.hid (gap_start (z := z) (l := l))
      have Ow := HO.out.cells
      have Of := HO.out.free
      have S1 : ∀ v, (wr.setCell ⟨wa.heap.size, 1, none⟩ v).cell? ⟨w.heap.size, 1, none⟩ = some (.slice A z.n c) := fun v => (World.cell?_setCell_other wr _ _ v (fun e => by injection e with e1; omega)).trans F1
      have S2 : ∀ v v', ((wr.setCell ⟨wa.heap.size, 1, none⟩ v).setCell ⟨wa.heap.size, 1, none⟩ v').cell? ⟨w.heap.size, 1, none⟩ = some (.slice A z.n c) := fun v v' => (World.cell?_setCell_other _ _ _ v' (fun e => by injection e with e1; omega)).trans (S1 v)
      clear O0 O1 O2 OF
      rcases kinds z l with hk | hk | hk
      · have e3 : manyI (kI z l) (atI z l) (u2I z l) (l + 901) = 1 := by rw [e1, if_neg (by omega), if_neg (by omega)]
        have E4 : Hid (fstI (kI z l) (atI z l) (l + 901) = gapI z l 0) := by show _ = _; rw [e2, GS.out]
        have HK := Lib.hid hk
        clear e1 e2 hk
        go_wp2_with fail
        go_loopw [53] (fun s wq => ∃ i : Nat, i ≤ z.n ∧ s = .int .i64 i ∧ Below wa.heap.size wa wq ∧ OutAt wq wa.heap.size 49 (.int .i64 (gapI z l i)) (.int .i64 0) (.bool false)) (fun s _ => z.n - (intOf s).toNat)
        case atStart =>
          refine ⟨0, Nat.zero_le _, rfl, HB.out.setCell (Nat.le_refl _) _, ?_⟩
          rw [← E4.out]; exact (HO.out.set1 _)
        case round =>
          obtain ⟨i, hi, rfl, hB, hO⟩ := hrel
          have F0 := cell_old G1.out hB
          have F1 := cell_old G2.out hB
          have HZ := Lib.hid (G5.out.below hB)
          have HB := Lib.hid hB
          have HO := Lib.hid hO
          have Ow := hO.cells
          have Of := hO.free
          clear hB hO
          by_cases hlt : i < z.n
          · obtain ⟨b, off, rfl, hb, g1, g2⟩ := HZ.out.at_ hlt
            have hiz : (i : Int) < (z.n : Int) := by omega
            obtain ⟨t1, t2⟩ := t_bd HP.out hlt
            obtain ⟨o1, o2⟩ := o_bd HP.out hlt
            obtain ⟨p1, p2⟩ := ah_bd HP.out i (by omega)
            have N := Lib.hid (gap_ne (z := z) (l := l) (i := i) (by have := HK.out; omega))
            cases i with
            | zero =>
              rw [show ((0 : Nat) : Int) = 0 from rfl]
              rw [Nat.zero_mul, Nat.add_zero] at g1 g2
              go_wp2_with fail
              go_quiet (fail)
              go_wp2_with fail
              go_roundw
              case rel => exact ⟨1, by omega, rfl, HB.out.trans ((drewN_below _ _).mono HB.out.size), by rw [N.out]; exact HO.out.up (drewN_below _ _)⟩
              case measure => simp [intOf]; omega
            | succ j =>
              obtain ⟨b', off', hbo, hb', g3, g4⟩ := HZ.out.at_ (i := j) (by omega)
              obtain ⟨rfl, rfl⟩ : b = b' ∧ off = off' := by simpa using hbo
              rw [show ((j + 1 : Nat) : Int) = (j : Int) + 1 by omega] at hiz ⊢
              have hjz : (j : Int) < (z.n : Int) := by omega
              go_wp2_with fail
              go_quiet (fail)
              go_wp2_with fail
              go_roundw
              case rel => exact ⟨j + 1 + 1, by omega, by congr 1, HB.out.trans ((drewN_below _ _).mono HB.out.size), by rw [N.out]; exact HO.out.up (drewN_below _ _)⟩
              case measure => simp [intOf]; omega
          · obtain rfl : i = z.n := by omega
            have HR := G3.out.below HB.out G6
            have Rw := HR.cells
            have Rf := HR.free
            clear HR
            rw [gap_end] at Ow
            by_cases hr : 0 ≤ atI z l ∧ atI z l ≤ 158310720
            · have EV := Lib.hid (show V = .agg #[.int .i64 (atI z l), .int .i64 0, .bool false] by rw [HV.out]; unfold outV; rw [if_pos hr, HK.out])
              go_wp2_with fail
              exact bodyPost_ret (v := .agg #[.int .i64 (atI z l), .int .i64 0, .bool false]) (by simp [results, Tryz.results17, go_sem, Rw, Rf]) rfl ⟨by rw [EV.out], below_set3 (G4.out.trans (HB.out.mono G4.out.size)) (Nat.le_succ _) _ _ _⟩
            · have EV := Lib.hid (show V = badV by rw [HV.out]; unfold outV; rw [if_neg hr])
              rcases (show atI z l < 0 ∨ 158310720 < atI z l by omega) with hr2 | hr2
              all_goals
                clear hr
                go_wp2_with fail
                exact bodyPost_ret (v := badV) (by simp [results, Tryz.results17, go_sem, Rw, Rf, badV]) rfl ⟨by rw [EV.out], below_set3 (G4.out.trans (HB.out.mono G4.out.size)) (Nat.le_succ _) _ _ _⟩
      · have e3 : manyI (kI z l) (atI z l) (u2I z l) (l + 901) = 0 := by rw [e1, if_pos hk]
        have E4 : Hid (fstI (kI z l) (atI z l) (l + 901) = gapI z l 0) := by show _ = _; rw [e2, GS.out]
        have HK := Lib.hid hk
        clear e1 e2 hk
        go_wp2_with fail
        go_loopw [53] (fun s wq => ∃ i : Nat, i ≤ z.n ∧ s = .int .i64 i ∧ Below wa.heap.size wa wq ∧ OutAt wq wa.heap.size 49 (.int .i64 (gapI z l i)) (.int .i64 1) (.bool false)) (fun s _ => z.n - (intOf s).toNat)
        case atStart =>
          refine ⟨0, Nat.zero_le _, rfl, HB.out, ?_⟩
          rw [← E4.out]; exact HO.out
        case round =>
          obtain ⟨i, hi, rfl, hB, hO⟩ := hrel
          have F0 := cell_old G1.out hB
          have F1 := cell_old G2.out hB
          have HZ := Lib.hid (G5.out.below hB)
          have HB := Lib.hid hB
          have HO := Lib.hid hO
          have Ow := hO.cells
          have Of := hO.free
          clear hB hO
          by_cases hlt : i < z.n
          · obtain ⟨b, off, rfl, hb, g1, g2⟩ := HZ.out.at_ hlt
            have hiz : (i : Int) < (z.n : Int) := by omega
            obtain ⟨t1, t2⟩ := t_bd HP.out hlt
            obtain ⟨o1, o2⟩ := o_bd HP.out hlt
            obtain ⟨p1, p2⟩ := ah_bd HP.out i (by omega)
            have N := gap_no HP.out (l := l) hlt
            have Y := gap_yes HP.out (l := l) hlt HK.out
            cases i with
            | zero =>
              rw [show ((0 : Nat) : Int) = 0 from rfl]
              rw [Nat.zero_mul, Nat.add_zero] at g1 g2
              rw [show ah z 0 = z.base from rfl] at p1 p2 N Y
              by_cases d1 : z.t 0 + z.base ≤ l
              · by_cases d2 : l < z.t 0 + z.o 0
                · have Y' := Lib.hid (Y ⟨d1, d2⟩)
                  clear Y N
                  go_wp2_with fail
                  go_quiet (fail)
                  go_wp2_with fail
                  go_roundw
                  case rel => exact ⟨1, by omega, rfl, (HB.out.trans ((drewN_below _ _).mono HB.out.size)).setCell (Nat.le_refl _) _, by rw [Y'.out]; exact (HO.out.up (drewN_below _ _)).set0 _⟩
                  case measure => simp [intOf]; omega
                · have N' := N (fun h => d2 h.2)
                  have N' := Lib.hid N'
                  have d3 : decide (l < z.t 0 + z.o 0) = false := by simp; omega
                  clear Y N
                  go_wp2_with fail
                  go_quiet (fail)
                  go_wp2_with fail
                  go_roundw
                  case rel => exact ⟨1, by omega, rfl, HB.out.trans ((drewN_below _ _).mono HB.out.size), by rw [N'.out]; exact HO.out.up (drewN_below _ _)⟩
                  case measure => simp [intOf]; omega
              · have N' := N (fun h => d1 h.1)
                have N' := Lib.hid N'
                have d3 : decide (z.t 0 + z.base ≤ l) = false := by simp; omega
                clear Y N
                go_wp2_with fail
                go_quiet (fail)
                go_wp2_with fail
                go_roundw
                case rel => exact ⟨1, by omega, rfl, HB.out.trans ((drewN_below _ _).mono HB.out.size), by rw [N'.out]; exact HO.out.up (drewN_below _ _)⟩
                case measure => simp [intOf]; omega
            | succ j =>
              obtain ⟨b', off', hbo, hb', g3, g4⟩ := HZ.out.at_ (i := j) (by omega)
              obtain ⟨rfl, rfl⟩ : b = b' ∧ off = off' := by simpa using hbo
              rw [show ((j + 1 : Nat) : Int) = (j : Int) + 1 by omega] at hiz ⊢
              have hjz : (j : Int) < (z.n : Int) := by omega
              rw [show ah z (j + 1) = z.o j from rfl] at p1 p2 N Y
              by_cases d1 : z.t (j + 1) + z.o j ≤ l
              · by_cases d2 : l < z.t (j + 1) + z.o (j + 1)
                · have Y' := Lib.hid (Y ⟨d1, d2⟩)
                  clear Y N
                  go_wp2_with fail
                  go_quiet (fail)
                  go_wp2_with fail
                  go_roundw
                  case rel => exact ⟨j + 1 + 1, by omega, by congr 1, (HB.out.trans ((drewN_below _ _).mono HB.out.size)).setCell (Nat.le_refl _) _, by rw [Y'.out]; exact (HO.out.up (drewN_below _ _)).set0 _⟩
                  case measure => simp [intOf]; omega
                · have N' := N (fun h => d2 h.2)
                  have N' := Lib.hid N'
                  have d3 : decide (l < z.t (j + 1) + z.o (j + 1)) = false := by simp; omega
                  clear Y N
                  go_wp2_with fail
                  go_quiet (fail)
                  go_wp2_with fail
                  go_roundw
                  case rel => exact ⟨j + 1 + 1, by omega, by congr 1, HB.out.trans ((drewN_below _ _).mono HB.out.size), by rw [N'.out]; exact HO.out.up (drewN_below _ _)⟩
                  case measure => simp [intOf]; omega
              · have N' := N (fun h => d1 h.1)
                have N' := Lib.hid N'
                have d3 : decide (z.t (j + 1) + z.o j ≤ l) = false := by simp; omega
                clear Y N
                go_wp2_with fail
                go_quiet (fail)
                go_wp2_with fail
                go_roundw
                case rel => exact ⟨j + 1 + 1, by omega, by congr 1, HB.out.trans ((drewN_below _ _).mono HB.out.size), by rw [N'.out]; exact HO.out.up (drewN_below _ _)⟩
                case measure => simp [intOf]; omega
          · obtain rfl : i = z.n := by omega
            have HR := G3.out.below HB.out G6
            have Rw := HR.cells
            have Rf := HR.free
            clear HR
            rw [gap_end] at Ow
            by_cases hr : 0 ≤ atI z l ∧ atI z l ≤ 158310720
            · have EV := Lib.hid (show V = .agg #[.int .i64 (atI z l), .int .i64 1, .bool false] by rw [HV.out]; unfold outV; rw [if_pos hr, HK.out])
              go_wp2_with fail
              exact bodyPost_ret (v := .agg #[.int .i64 (atI z l), .int .i64 1, .bool false]) (by simp [results, Tryz.results17, go_sem, Rw, Rf]) rfl ⟨by rw [EV.out], below_set3 (G4.out.trans (HB.out.mono G4.out.size)) (Nat.le_succ _) _ _ _⟩
            · have EV := Lib.hid (show V = badV by rw [HV.out]; unfold outV; rw [if_neg hr])
              rcases (show atI z l < 0 ∨ 158310720 < atI z l by omega) with hr2 | hr2
              all_goals
                clear hr
                go_wp2_with fail
                exact bodyPost_ret (v := badV) (by simp [results, Tryz.results17, go_sem, Rw, Rf, badV]) rfl ⟨by rw [EV.out], below_set3 (G4.out.trans (HB.out.mono G4.out.size)) (Nat.le_succ _) _ _ _⟩
      · have e3 : manyI (kI z l) (atI z l) (u2I z l) (l + 901) = 2 := by rw [e1, if_neg (by omega), if_pos hk]
        have E4 : Hid (fstI (kI z l) (atI z l) (l + 901) = gapI z l 0) := by show _ = _; rw [e2, GS.out]
        have HK := Lib.hid hk
        clear e1 e2 hk
        go_wp2_with fail
        go_loopw [53] (fun s wq => ∃ i : Nat, i ≤ z.n ∧ s = .int .i64 i ∧ Below wa.heap.size wa wq ∧ OutAt wq wa.heap.size 49 (.int .i64 (gapI z l i)) (.int .i64 2) (.bool false)) (fun s _ => z.n - (intOf s).toNat)
        case atStart =>
          refine ⟨0, Nat.zero_le _, rfl, (HB.out.setCell (Nat.le_refl _) _).setCell (Nat.le_refl _) _, ?_⟩
          rw [← E4.out]; exact ((HO.out.set1 _).set1 _)
        case round =>
          obtain ⟨i, hi, rfl, hB, hO⟩ := hrel
          have F0 := cell_old G1.out hB
          have F1 := cell_old G2.out hB
          have HZ := Lib.hid (G5.out.below hB)
          have HB := Lib.hid hB
          have HO := Lib.hid hO
          have Ow := hO.cells
          have Of := hO.free
          clear hB hO
          by_cases hlt : i < z.n
          · obtain ⟨b, off, rfl, hb, g1, g2⟩ := HZ.out.at_ hlt
            have hiz : (i : Int) < (z.n : Int) := by omega
            obtain ⟨t1, t2⟩ := t_bd HP.out hlt
            obtain ⟨o1, o2⟩ := o_bd HP.out hlt
            obtain ⟨p1, p2⟩ := ah_bd HP.out i (by omega)
            have N := Lib.hid (gap_ne (z := z) (l := l) (i := i) (by have := HK.out; omega))
            cases i with
            | zero =>
              rw [show ((0 : Nat) : Int) = 0 from rfl]
              rw [Nat.zero_mul, Nat.add_zero] at g1 g2
              go_wp2_with fail
              go_quiet (fail)
              go_wp2_with fail
              go_roundw
              case rel => exact ⟨1, by omega, rfl, HB.out.trans ((drewN_below _ _).mono HB.out.size), by rw [N.out]; exact HO.out.up (drewN_below _ _)⟩
              case measure => simp [intOf]; omega
            | succ j =>
              obtain ⟨b', off', hbo, hb', g3, g4⟩ := HZ.out.at_ (i := j) (by omega)
              obtain ⟨rfl, rfl⟩ : b = b' ∧ off = off' := by simpa using hbo
              rw [show ((j + 1 : Nat) : Int) = (j : Int) + 1 by omega] at hiz ⊢
              have hjz : (j : Int) < (z.n : Int) := by omega
              go_wp2_with fail
              go_quiet (fail)
              go_wp2_with fail
              go_roundw
              case rel => exact ⟨j + 1 + 1, by omega, by congr 1, HB.out.trans ((drewN_below _ _).mono HB.out.size), by rw [N.out]; exact HO.out.up (drewN_below _ _)⟩
              case measure => simp [intOf]; omega
          · obtain rfl : i = z.n := by omega
            have HR := G3.out.below HB.out G6
            have Rw := HR.cells
            have Rf := HR.free
            clear HR
            rw [gap_end] at Ow
            by_cases hr : 0 ≤ atI z l ∧ atI z l ≤ 158310720
            · have EV := Lib.hid (show V = .agg #[.int .i64 (atI z l), .int .i64 2, .bool false] by rw [HV.out]; unfold outV; rw [if_pos hr, HK.out])
              go_wp2_with fail
              exact bodyPost_ret (v := .agg #[.int .i64 (atI z l), .int .i64 2, .bool false]) (by simp [results, Tryz.results17, go_sem, Rw, Rf]) rfl ⟨by rw [EV.out], below_set3 (G4.out.trans (HB.out.mono G4.out.size)) (Nat.le_succ _) _ _ _⟩
            · have EV := Lib.hid (show V = badV by rw [HV.out]; unfold outV; rw [if_neg hr])
              rcases (show atI z l < 0 ∨ 158310720 < atI z l by omega) with hr2 | hr2
              all_goals
                clear hr
                go_wp2_with fail
                exact bodyPost_ret (v := badV) (by simp [results, Tryz.results17, go_sem, Rw, Rf, badV]) rfl ⟨by rw [EV.out], below_set3 (G4.out.trans (HB.out.mono G4.out.size)) (Nat.le_succ _) _ _ _⟩
end Go.Proofs.YtfjmofefciopmaaGreat
end
