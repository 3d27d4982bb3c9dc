import Derived.Test.YtfjmofefciopmaaGreatZMD
import Derived.Deep.RegionHeld3
/- Contracts of the document's rules: days; whether a rule may be. -/
section
namespace Go.Proofs.YtfjmofefciopmaaGreat
open Go.ChangeShapes Go.WideShapes Go.ChangeAt Go.RowKit Qr Ck
set_option maxRecDepth 100000 in
set_option maxHeartbeats 2000000 in
theorem rdays_any (r : R) (A1 A2 A3 A4 : Option Addr) (c1 c2 c3 c4 : Nat) (w : World) (hf : -1000000 ≤ r.freq ∧ r.freq ≤ 1000000) (hs : RAt w r A1 A2 A3 A4 c1 c2 c3 c4) :
    Calls Tryz.prog 63 #[.agg (rcells r A1 A2 A3 A4 c1 c2 c3 c4)] w fun e w' => e = .returned (.bool (daysB r)) ∧ Below w.heap.size w w' := by
  have hl1 : r.bm.length ≤ 9223372036854775807 := Nat.le_trans hs.s1.le hs.s1.cap
  have hl3 : r.bw.length ≤ 9223372036854775807 := Nat.le_trans hs.s3.le hs.s3.cap
  have HB0 := Lib.hid (box_at (w := w) (C := rcells r A1 A2 A3 A4 c1 c2 c3 c4) (t := 28) (k := 0) rfl)
  have HB4 := Lib.hid (box_at (w := w) (C := rcells r A1 A2 A3 A4 c1 c2 c3 c4) (t := 28) (k := 4) rfl)
  have HB6 := Lib.hid (box_at (w := w) (C := rcells r A1 A2 A3 A4 c1 c2 c3 c4) (t := 28) (k := 6) rfl)
  have HS := Lib.hid (hs.s3.alloc (.cells (rcells r A1 A2 A3 A4 c1 c2 c3 c4) 28))
  have HY := Lib.hid (fun h => daysB_iff (r := r) |>.2 h)
  have HN := Lib.hid (fun (i : Nat) (hi : i < r.bw.length) (h : ¬ okD r.freq (!r.bm.isEmpty) r.bw i) => daysB_no hi h)
  have hme := isEmpty_len r.bm
  obtain ⟨q, hq⟩ : ∃ q, daysB r = q := ⟨_, rfl⟩
  rw [hq] at HY HN ⊢
  clear hq hs
  unfold rcells at *
  obtain ⟨freq, iv_, count, until_, bm, bd, bw, bs, start⟩ := r
  simp only at *
  generalize (!bm.isEmpty) = me at *
  go_enter Tryz.func63, Tryz.ntmps63
  go_wp2_with fail
  go_loopw [8] (fun s8 wr => ∃ (i : Nat) (g : Gr (w.alloc (.cells #[.int .i64 freq, .int .i64 iv_, .int .i64 count, .int .i64 until_, .slice A1 bm.length c1, .slice A2 bd.length c2, .slice A3 bw.length c3, .slice A4 bs.length c4, .int .i64 start] 28))), wr = g.val ∧ i ≤ bw.length ∧ s8 = .int .i64 i ∧ Hid (∀ j, j < i → okD freq me bw j)) (fun s8 _ => bw.length - (intOf s8).toNat)
  case atStart => exact ⟨0, ⟨_, Below.refl _ _⟩, rfl, Nat.zero_le _, rfl, fun j hj => absurd hj (Nat.not_lt_zero _)⟩
  case round =>
    obtain ⟨i, g, rfl, hi, rfl, HI⟩ := hrel
    by_cases hlt : i < bw.length
    · have hiz : (i : Int) < bw.length := by omega
      obtain ⟨p, off, rfl, hp, hcell⟩ := HS.out.spanG (List.getElem?_eq_getElem hlt)
      have c1' := (hcell g).1
      have c2' := (hcell g).2
      have c3' := fun o : Obj => (cell_old (hcell g).1 ((Below.refl _ g.val).alloc (Nat.le_refl _) o))
      have c4' := fun o : Obj => (cell_old (hcell g).2 ((Below.refl _ g.val).alloc (Nat.le_refl _) o))
      have b0 := HB0.out g
      have b6 := HB6.out g
      have b0' := fun o : Obj => (cell_old (HB0.out g) ((Below.refl _ g.val).alloc (Nat.le_refl _) o))
      have b4' := fun o : Obj => (cell_old (HB4.out g) ((Below.refl _ g.val).alloc (Nat.le_refl _) o))
      have b6' := fun o : Obj => (cell_old (HB6.out g) ((Below.refl _ g.val).alloc (Nat.le_refl _) o))
      have hx : bw.getD i (0, 0) = bw[i] := getD_at hlt _
      have hrange := HN.out i hlt
      clear hcell
      have hok : okD freq me bw i ↔ 0 ≤ bw[i].2 ∧ bw[i].2 ≤ 6 ∧ -5 ≤ bw[i].1 ∧ bw[i].1 ≤ 5 ∧ (bw[i].1 = 0 ∨ (3 ≤ freq ∧ (freq ≠ 4 ∨ me = true))) ∧ (i = 0 ∨ (bw.getD (i - 1) (0, 0)).1 < bw[i].1 ∨ ((bw.getD (i - 1) (0, 0)).1 = bw[i].1 ∧ (bw.getD (i - 1) (0, 0)).2 < bw[i].2)) := by unfold okD; simp only [hx]
      generalize bw[i] = d at *
      obtain ⟨n, y⟩ := d
      simp only at c1' c2' c3' c4' hok
      have HOK := Lib.hid hok
      have HME := Lib.hid hme
      clear hok hme
      by_cases f1 : y < 0
      · have E : Hid (q = false) := hrange (fun h => by have := (HOK.out.1 h).1; omega)
        clear hrange hx
        go_wp2_with fail
        go_ret
        exact ⟨ret_bool E.out.symm, below_of g⟩
      by_cases f2 : 6 < y
      · have E : Hid (q = false) := hrange (fun h => by have := (HOK.out.1 h).2.1; omega)
        clear hrange hx
        go_wp2_with fail
        go_ret
        exact ⟨ret_bool E.out.symm, below_of g⟩
      by_cases f3 : n < -5
      · have E : Hid (q = false) := hrange (fun h => by have := (HOK.out.1 h).2.2.1; omega)
        clear hrange hx
        go_wp2_with fail
        go_ret
        exact ⟨ret_bool E.out.symm, below_of g⟩
      by_cases f4 : 5 < n
      · have E : Hid (q = false) := hrange (fun h => by have := (HOK.out.1 h).2.2.2.1; omega)
        clear hrange hx
        go_wp2_with fail
        go_ret
        exact ⟨ret_bool E.out.symm, below_of g⟩
      have hK : (n ≠ 0 ∧ freq < 3) ∨ (n ≠ 0 ∧ ¬ freq < 3 ∧ freq = 4 ∧ bm.length = 0) ∨ (n = 0 ∨ (3 ≤ freq ∧ (freq ≠ 4 ∨ me = true))) := by
        by_cases k1 : n = 0
        · exact .inr (.inr (.inl k1))
        · by_cases k2 : freq < 3
          · exact .inl ⟨k1, k2⟩
          · by_cases k3 : freq = 4
            · by_cases k4 : bm.length = 0
              · exact .inr (.inl ⟨k1, k2, k3, k4⟩)
              · exact .inr (.inr (.inr ⟨by omega, .inr (HME.out.2 (by omega))⟩))
            · exact .inr (.inr (.inr ⟨by omega, .inl k3⟩))
      rcases hK with ⟨k1, k2⟩ | ⟨k1, k2, k3, k4⟩ | hK
      · have E : Hid (q = false) := hrange (fun h => by have := (HOK.out.1 h).2.2.2.2.1; omega)
        have d1 : (n == 0) = false := beq_false_of_ne k1
        have d1' : (n != 0) = true := by simpa using k1
        have d2 : decide (freq < 3) = true := decide_eq_true k2
        clear hrange hx
        go_wp2_with fail
        go_ret
        exact ⟨ret_bool E.out.symm, below_of g⟩
      · have E : Hid (q = false) := hrange (fun h => by
          rcases (HOK.out.1 h).2.2.2.2.1 with h | ⟨_, h | h⟩
          · exact k1 h
          · exact h k3
          · have := HME.out.1 h; omega)
        have d1 : (n == 0) = false := beq_false_of_ne k1
        have d2 : decide (freq < 3) = false := decide_eq_false k2
        have d1' : (n != 0) = true := by simpa using k1
        have d4 : ((bm.length : Int) == 0) = true := by rw [k4]; rfl
        clear k4
        subst k3
        clear hrange hx
        go_wp2_with fail
        go_ret
        exact ⟨ret_bool E.out.symm, below_of g⟩
      have hD : (n = 0) ∨ (¬ n = 0 ∧ (n == 0) = false ∧ (n != 0) = true ∧ ¬ freq < 3 ∧ ¬ freq = 4 ∧ (freq == 4) = false) ∨ (¬ n = 0 ∧ (n == 0) = false ∧ (n != 0) = true ∧ freq = 4 ∧ ((bm.length : Int) == 0) = false) := by
        by_cases k1 : n = 0
        · exact .inl k1
        · have k1' : (n != 0) = true := by simpa using k1
          obtain ⟨h3, h4⟩ : 3 ≤ freq ∧ (freq ≠ 4 ∨ me = true) := by rcases hK with h | h; exact absurd h k1; exact h
          by_cases k3 : freq = 4
          · have : me = true := by rcases h4 with h | h; exact absurd k3 h; exact h
            have := HME.out.1 this
            exact .inr (.inr ⟨k1, beq_false_of_ne k1, k1', k3, beq_false_of_ne (by omega)⟩)
          · exact .inr (.inl ⟨k1, beq_false_of_ne k1, k1', by omega, k3, beq_false_of_ne k3⟩)
      have HK := Lib.hid hK
      clear hK
      cases i with
      | zero =>
        have E : Hid (∀ j, j < 0 + 1 → okD freq me bw j) := by
          intro j hj
          obtain rfl : j = 0 := by omega
          exact HOK.out.2 ⟨by omega, by omega, by omega, by omega, HK.out, .inl rfl⟩
        rw [Nat.zero_mul, Nat.add_zero] at c1' c2' c3' c4'
        rcases hD with rfl | ⟨k1, d1, d2, d3, d4, d5⟩ | ⟨k1, d1, d2, rfl, d4⟩
        all_goals
          clear hrange hx
          go_wp2_with fail
          go_region
          go_wp2_with fail
          go_roundw
          case rel => exact ⟨_ + 1, ⟨_, ((g.ok.alloc g.ok.size _).drew)⟩, rfl, hlt, by go_num, E⟩
          case measure => simp [intOf]; omega
      | succ k =>
        obtain ⟨p', off', e', _, hcell'⟩ := HS.out.spanG (List.getElem?_eq_getElem (show k < bw.length by omega))
        obtain ⟨rfl, rfl⟩ : p = p' ∧ off = off' := by simpa using e'
        have e3' := fun o : Obj => (cell_old (hcell' g).1 ((Below.refl _ g.val).alloc (Nat.le_refl _) o))
        have e4' := fun o : Obj => (cell_old (hcell' g).2 ((Below.refl _ g.val).alloc (Nat.le_refl _) o))
        have hy : bw.getD k (0, 0) = bw[k] := getD_at (by omega) _
        have hok2 := HOK.out
        rw [Nat.add_sub_cancel, hy] at hok2
        generalize bw[k] = d at *
        obtain ⟨pn, py⟩ := d
        simp only at e3' e4' hok2
        have HOK2 := Lib.hid hok2
        clear hcell' e' hok2 HOK hy
        have hk1 : ((k + 1 : Nat) : Int) - 1 = k := by omega
        by_cases f5 : n < pn ∨ (pn = n ∧ y ≤ py)
        · have E : Hid (q = false) := hrange (fun h => by have := (HOK2.out.1 h).2.2.2.2.2; omega)
          have hF : (decide (n < pn) = true) ∨ (decide (n < pn) = false ∧ (pn == n) = true ∧ decide (y ≤ py) = true) := by
            rcases f5 with h | ⟨h, h2⟩
            · exact .inl (decide_eq_true h)
            · exact .inr ⟨decide_eq_false (by omega), by simpa using h, decide_eq_true h2⟩
          clear f5
          rcases hF with g1 | ⟨g1, g2, g3⟩
          all_goals
            rcases hD with rfl | ⟨k1, d1, d2, d3, d4, d5⟩ | ⟨k1, d1, d2, rfl, d4⟩
            all_goals
              clear hrange hx
              go_wp2_with fail
              go_region
              go_wp2_with fail
              go_ret
              exact ⟨ret_bool E.out.symm, below_ofD g _⟩
        · have E : Hid (∀ j, j < k + 1 + 1 → okD freq me bw j) := by
            intro j hj
            by_cases hj2 : j < k + 1
            · exact HI.out j hj2
            · obtain rfl : j = k + 1 := by omega
              exact HOK2.out.2 ⟨by omega, by omega, by omega, by omega, HK.out, .inr (by omega)⟩
          have hF : (decide (n < pn) = false ∧ (pn == n) = false) ∨ (decide (n < pn) = false ∧ (pn == n) = true ∧ decide (y ≤ py) = false) := by
            by_cases h : pn = n
            · exact .inr ⟨decide_eq_false (by omega), by simpa using h, decide_eq_false (by omega)⟩
            · exact .inl ⟨decide_eq_false (by omega), beq_false_of_ne h⟩
          clear f5
          rcases hF with ⟨g1, g2⟩ | ⟨g1, g2, g3⟩
          all_goals
            rcases hD with rfl | ⟨k1, d1, d2, d3, d4, d5⟩ | ⟨k1, d1, d2, rfl, d4⟩
            all_goals
              clear hrange hx
              go_wp2_with fail
              go_region
              go_wp2_with fail
              go_roundw
              case rel => exact ⟨_ + 1, ⟨_, ((g.ok.alloc g.ok.size _).drew)⟩, rfl, hlt, by go_num, E⟩
              case measure => simp [intOf]; omega
    · obtain rfl : i = bw.length := by omega
      have E : Hid (q = true) := HY.out HI.out
      go_wp2_with fail
      go_ret
      exact ⟨ret_bool E.out.symm, g.below1⟩
end Go.Proofs.YtfjmofefciopmaaGreat
end
