import Derived.Test.YtfjmofefciopmaaGreatZMT
/- Contract of the document's times: is a day as a rule with a start's day says. -/
section
namespace Go.Proofs.YtfjmofefciopmaaGreat
open Go.ChangeShapes Go.WideShapes Go.ChangeAt Go.RowKit Go.Joins Qr Tm Cal
theorem ne_of_len {α : Type} {l : List α} (h : 0 < l.length) : l ≠ [] := fun e => by rw [e] at h; simp at h
theorem nil_of_len {α : Type} {l : List α} (h : ¬ 0 < l.length) : l = [] := List.eq_nil_of_length_eq_zero (by omega)
set_option maxRecDepth 100000 in
set_option maxHeartbeats 8000000 in
theorem rright10_any (r : R) (A1 A2 A3 A4 : Option Addr) (c1 c2 c3 c4 : Nat) (s t : Dt) (hs : inDt s) (ht : inDt t) (hd : t.d ≤ lenI t.y t.m) (w : World) (hr : RAt w r A1 A2 A3 A4 c1 c2 c3 c4) :
    Calls Tryz.prog 84 #[.agg (rcells r A1 A2 A3 A4 c1 c2 c3 c4), dv s, dv t] w fun e w' => e = .returned (.bool (rightB r s t)) ∧ Below w.heap.size w w' := by
  obtain ⟨W3, hW3⟩ : ∃ W3, ((w.alloc (.cells (rcells r A1 A2 A3 A4 c1 c2 c3 c4) 28)).alloc (.cells (dcells s) 109)).alloc (.cells (dcells t) 109) = W3 := ⟨_, rfl⟩
  have E3 := Lib.hid hW3
  have hL : Below w.heap.size w W3 := by rw [← hW3]; exact (((Below.refl _ w).alloc (Nat.le_refl _) _).alloc (by simp) _).alloc (by simp; omega) _
  have B1 : W3.heap[w.heap.size]? = some (.cells (rcells r A1 A2 A3 A4 c1 c2 c3 c4) 28 (0, 0)) := by
    rw [← hW3, heap_alloc_old _ _ (by simp; omega), heap_alloc_old _ _ (by simp), heap_alloc_new]
  have B2 : W3.heap[w.heap.size + 1]? = some (.cells (dcells s) 109 (0, 0)) := by
    rw [← hW3, heap_alloc_old _ _ (by simp), show w.heap.size + 1 = (w.alloc (.cells (rcells r A1 A2 A3 A4 c1 c2 c3 c4) 28)).heap.size by simp, heap_alloc_new]
  have B3 : W3.heap[w.heap.size + 1 + 1]? = some (.cells (dcells t) 109 (0, 0)) := by
    rw [← hW3, show w.heap.size + 1 + 1 = ((w.alloc (.cells (rcells r A1 A2 A3 A4 c1 c2 c3 c4) 28)).alloc (.cells (dcells s) 109)).heap.size by simp, heap_alloc_new]
  have HL := Lib.hid hL
  have HB1 := Lib.hid B1
  have HB2 := Lib.hid B2
  have HB3 := Lib.hid B3
  have HS : Hid (∀ w', Below w.heap.size w w' → RAt w' r A1 A2 A3 A4 c1 c2 c3 c4) := fun w' h => hr.below h (Nat.le_refl _)
  have hl1 : r.bm.length ≤ 9223372036854775807 := Nat.le_trans hr.s1.le hr.s1.cap
  have hl2 : r.bd.length ≤ 9223372036854775807 := Nat.le_trans hr.s2.le hr.s2.cap
  have hl3 : r.bw.length ≤ 9223372036854775807 := Nat.le_trans hr.s3.le hr.s3.cap
  obtain ⟨q, hq⟩ : ∃ q, rightB r s t = q := ⟨_, rfl⟩
  rw [hq]
  have HQ := Lib.hid hq
  clear hq hW3 hL B1 B2 B3 hr
  -- the callees
  have HH1 : Hid (∀ w', Below w.heap.size w w' → Calls Tryz.prog 111 #[.slice A1 r.bm.length c1, .int .i64 t.m] w' fun e w2 => e = .returned (.bool (memB r.bm t.m)) ∧ w' = w2) := fun w' h => rhas10_any r.bm A1 c1 t.m w' (HS.out w' h).s1
  have HH2 : Hid (∀ (n : Int) w', Below w.heap.size w w' → Calls Tryz.prog 111 #[.slice A2 r.bd.length c2, .int .i64 n] w' fun e w2 => e = .returned (.bool (memB r.bd n)) ∧ w' = w2) := fun n w' h => rhas10_any r.bd A2 c2 n w' (HS.out w' h).s2
  have HN : Hid (∀ w', Below w.heap.size w w' → Calls Tryz.prog 112 #[.slice A3 r.bw.length c3, dv t] w' fun e w2 => e = .returned (.bool (nthB r.bw t)) ∧ Below w'.heap.size w' w2) := fun w' h => rnth10_any r.bw A3 c3 t ht hd w' (HS.out w' h).s3
  have HLen : Hid (∀ w', Calls Tryz.prog 110 #[.int .i64 t.y, .int .i64 t.m] w' fun e w2 => e = .returned (.int .i64 (lenI t.y t.m)) ∧ Below w'.heap.size w' w2) := fun w' => rlength_any t.y t.m w'
  have hlen := len_bd t.y t.m
  obtain ⟨freq, iv, count, until_, bm, bd, bw, bs, start⟩ := r
  obtain ⟨sn, sy, sm, sd, sw⟩ := s
  obtain ⟨tn, ty, tm, td, tw⟩ := t
  unfold inDt at hs ht
  simp only at hs ht hd hl1 hl2 hl3 HQ HH1 HH2 HN HLen hlen HB1 HB2 HB3
  unfold rcells at E3
  unfold dcells at E3
  unfold rcells at HB1
  unfold dcells at HB2 HB3
  unfold dv dcells at HN
  have HQ' : Hid (rightB ⟨freq, iv, count, until_, bm, bd, bw, bs, start⟩ ⟨sn, sy, sm, sd, sw⟩ ⟨tn, ty, tm, td, tw⟩ = (if bm ≠ [] ∧ memB bm tm = false then false
  else if bd ≠ [] ∧ memB bd td = false ∧ memB bd (td - lenI ty tm - 1) = false then false
  else if bw ≠ [] then nthB bw ⟨tn, ty, tm, td, tw⟩
  else if freq = 2 then decide (tw = sw)
  else if bd ≠ [] ∨ freq = 1 then true
  else if td ≠ sd then false
  else decide (freq = 3 ∨ bm ≠ [] ∨ tm = sm))) := rfl
  rw [HQ.out] at HQ'
  clear HQ
  have HD1 := Lib.hid (HH2.out td)
  have HD2 := Lib.hid (HH2.out (td - lenI ty tm - 1))
  clear HH2
  generalize lenI ty tm = L at *
  generalize memB bm tm = b1 at *
  generalize memB bd td = b2 at *
  generalize memB bd (td - L - 1) = b3 at *
  generalize nthB bw ⟨tn, ty, tm, td, tw⟩ = b4 at *
  have hwl : IntKind.i64.wrap (td - L) = td - L := by rw [IntKind.wrap_i64]; omega
  have hwl2 : IntKind.i64.wrap (td - L - 1) = td - L - 1 := by rw [IntKind.wrap_i64]; omega
  have r4 := blk_cell HB1.out (i := 4) rfl
  have t2 := blk_cell HB3.out (i := 2) rfl
  have t1 := blk_cell HB3.out (i := 1) rfl
  -- by month
  have m1 : (0 < bm.length ∧ b1 = false) ∨ (0 < bm.length ∧ b1 = true) ∨ ¬ 0 < bm.length := by
    rcases Nat.eq_zero_or_pos bm.length with h | h
    · exact .inr (.inr (by omega))
    · cases b1
      · exact .inl ⟨h, rfl⟩
      · exact .inr (.inl ⟨h, rfl⟩)
  unfold dv dcells rcells
  rcases m1 with ⟨k1, rfl⟩ | ⟨k1, rfl⟩ | k1
  · have E : Hid (q = false) := by show _ = _; rw [HQ'.out, if_pos ⟨ne_of_len k1, rfl⟩]
    have k1z : (0 : Int) < bm.length := by omega
    go_enter Tryz.func84, Tryz.ntmps84
    go_upto_region 1 with fail
    rw [E3.out]
    go_wp2_with fail
    go_at_call 111; refine (HH1.out W3 HL.out).mono ?_; rintro e w' ⟨rfl, rfl⟩
    go_wp2_with fail
    go_ret
    exact ⟨ret_bool E.out.symm, HL.out⟩
  · have n1 : ¬ (bm ≠ [] ∧ true = false) := by simp
    rw [if_neg n1] at HQ'
    have k1z : (0 : Int) < bm.length := by omega
    go_enter Tryz.func84, Tryz.ntmps84
    go_upto_region 1 with fail
    rw [E3.out]
    go_wp2_with fail
    go_at_call 111; refine (HH1.out W3 HL.out).mono ?_; rintro e w' ⟨rfl, rfl⟩
    go_wp2_with fail
    go_at_call 110; refine (HLen.out W3).mono ?_; rintro e w4 ⟨rfl, hb4⟩
    have HL4 : Hid (Below w.heap.size w w4) := HL.out.trans (hb4.mono HL.out.size)
    have g1 := blk_below HB1.out hb4
    have g2 := blk_below HB2.out hb4
    have g3 := blk_below HB3.out hb4
    have R0 := blk_cell g1 (i := 0) rfl
    have R4 := blk_cell g1 (i := 4) rfl
    have R5 := blk_cell g1 (i := 5) rfl
    have R6 := blk_cell g1 (i := 6) rfl
    have S2 := blk_cell g2 (i := 2) rfl
    have S3 := blk_cell g2 (i := 3) rfl
    have S4 := blk_cell g2 (i := 4) rfl
    have T0 := blk_cell g3 (i := 0) rfl
    have T1 := blk_cell g3 (i := 1) rfl
    have T2 := blk_cell g3 (i := 2) rfl
    have T3 := blk_cell g3 (i := 3) rfl
    have T4 := blk_cell g3 (i := 4) rfl
    clear g1 g2 g3 hb4 r4 t2 t1 HB1 HB2 HB3 E3 HLen HH1
    have m2 : (0 < bd.length ∧ b2 = true) ∨ (0 < bd.length ∧ b2 = false ∧ b3 = true) ∨ (0 < bd.length ∧ b2 = false ∧ b3 = false) ∨ ¬ 0 < bd.length := by
      rcases Nat.eq_zero_or_pos bd.length with h | h
      · exact .inr (.inr (.inr (by omega)))
      · cases b2
        · cases b3
          · exact .inr (.inr (.inl ⟨h, rfl, rfl⟩))
          · exact .inr (.inl ⟨h, rfl, rfl⟩)
        · exact .inl ⟨h, rfl⟩
    rcases m2 with ⟨k2, rfl⟩ | ⟨k2, rfl, rfl⟩ | ⟨k2, rfl, rfl⟩ | k2
    · have n2 : ¬ (bd ≠ [] ∧ true = false ∧ b3 = false) := by simp
      rw [if_neg n2] at HQ'
      have k2z : (0 : Int) < bd.length := by omega
      by_cases k3 : 0 < bw.length
      · rw [if_pos (ne_of_len k3)] at HQ'
        have E := HQ'
        have k3z : (0 : Int) < bw.length := by omega
        go_wp2_with fail
        go_at_call 111; refine (HD1.out w4 HL4.out).mono ?_; rintro e w' ⟨rfl, rfl⟩
        go_wp2_with fail
        go_at_call 112; refine (HN.out w4 HL4.out).mono ?_; rintro e w5 ⟨rfl, hb5⟩
        go_wp2_with fail
        go_ret
        exact ⟨ret_bool E.out.symm, HL4.out.trans (hb5.mono HL4.out.size)⟩
      · rw [if_neg (fun h => h (nil_of_len k3))] at HQ'
        have k3z : ¬ (0 : Int) < bw.length := by omega
        by_cases k4 : freq = 2
        · rw [if_pos k4] at HQ'
          have E := HQ'
          clear HQ'
          subst k4
          go_wp2_with fail
          go_at_call 111; refine (HD1.out w4 HL4.out).mono ?_; rintro e w' ⟨rfl, rfl⟩
          go_wp2_with fail
          go_ret
          exact ⟨ret_bool (by rw [E.out]; first | rfl | (rw [Bool.eq_iff_iff]; simp)), HL4.out⟩
        · rw [if_neg k4] at HQ'
          have k4b : (freq == 2) = false := beq_false_of_ne k4
          rw [if_pos (.inl (ne_of_len k2))] at HQ'
          have E := HQ'
          clear HQ' k4
          go_wp2_with fail
          go_at_call 111; refine (HD1.out w4 HL4.out).mono ?_; rintro e w' ⟨rfl, rfl⟩
          go_wp2_with fail
          go_ret
          exact ⟨ret_bool E.out.symm, HL4.out⟩
    · have n2 : ¬ (bd ≠ [] ∧ false = false ∧ true = false) := by simp
      rw [if_neg n2] at HQ'
      have k2z : (0 : Int) < bd.length := by omega
      by_cases k3 : 0 < bw.length
      · rw [if_pos (ne_of_len k3)] at HQ'
        have E := HQ'
        have k3z : (0 : Int) < bw.length := by omega
        go_wp2_with fail
        go_at_call 111; refine (HD1.out w4 HL4.out).mono ?_; rintro e w' ⟨rfl, rfl⟩
        go_wp2_with fail
        go_at_call 111; refine (HD2.out w4 HL4.out).mono ?_; rintro e w' ⟨rfl, rfl⟩
        go_wp2_with fail
        go_at_call 112; refine (HN.out w4 HL4.out).mono ?_; rintro e w5 ⟨rfl, hb5⟩
        go_wp2_with fail
        go_ret
        exact ⟨ret_bool E.out.symm, HL4.out.trans (hb5.mono HL4.out.size)⟩
      · rw [if_neg (fun h => h (nil_of_len k3))] at HQ'
        have k3z : ¬ (0 : Int) < bw.length := by omega
        by_cases k4 : freq = 2
        · rw [if_pos k4] at HQ'
          have E := HQ'
          clear HQ'
          subst k4
          go_wp2_with fail
          go_at_call 111; refine (HD1.out w4 HL4.out).mono ?_; rintro e w' ⟨rfl, rfl⟩
          go_wp2_with fail
          go_at_call 111; refine (HD2.out w4 HL4.out).mono ?_; rintro e w' ⟨rfl, rfl⟩
          go_wp2_with fail
          go_ret
          exact ⟨ret_bool (by rw [E.out]; first | rfl | (rw [Bool.eq_iff_iff]; simp)), HL4.out⟩
        · rw [if_neg k4] at HQ'
          have k4b : (freq == 2) = false := beq_false_of_ne k4
          rw [if_pos (.inl (ne_of_len k2))] at HQ'
          have E := HQ'
          clear HQ' k4
          go_wp2_with fail
          go_at_call 111; refine (HD1.out w4 HL4.out).mono ?_; rintro e w' ⟨rfl, rfl⟩
          go_wp2_with fail
          go_at_call 111; refine (HD2.out w4 HL4.out).mono ?_; rintro e w' ⟨rfl, rfl⟩
          go_wp2_with fail
          go_ret
          exact ⟨ret_bool E.out.symm, HL4.out⟩
    · have E : Hid (q = false) := by show _ = _; rw [HQ'.out, if_pos ⟨ne_of_len k2, rfl, rfl⟩]
      have k2z : (0 : Int) < bd.length := by omega
      go_wp2_with fail
      go_at_call 111; refine (HD1.out w4 HL4.out).mono ?_; rintro e w' ⟨rfl, rfl⟩
      go_wp2_with fail
      go_at_call 111; refine (HD2.out w4 HL4.out).mono ?_; rintro e w' ⟨rfl, rfl⟩
      go_wp2_with fail
      go_ret
      exact ⟨ret_bool E.out.symm, HL4.out⟩
    · have n2 : ¬ (bd ≠ [] ∧ b2 = false ∧ b3 = false) := by intro h; exact h.1 (nil_of_len k2)
      rw [if_neg n2] at HQ'
      have k2z : ¬ (0 : Int) < bd.length := by omega
      by_cases k3 : 0 < bw.length
      · rw [if_pos (ne_of_len k3)] at HQ'
        have E := HQ'
        have k3z : (0 : Int) < bw.length := by omega
        go_wp2_with fail
        go_at_call 112; refine (HN.out w4 HL4.out).mono ?_; rintro e w5 ⟨rfl, hb5⟩
        go_wp2_with fail
        go_ret
        exact ⟨ret_bool E.out.symm, HL4.out.trans (hb5.mono HL4.out.size)⟩
      · rw [if_neg (fun h => h (nil_of_len k3))] at HQ'
        have k3z : ¬ (0 : Int) < bw.length := by omega
        by_cases k4 : freq = 2
        · rw [if_pos k4] at HQ'
          have E := HQ'
          clear HQ'
          subst k4
          go_wp2_with fail
          go_ret
          exact ⟨ret_bool (by rw [E.out]; first | rfl | (rw [Bool.eq_iff_iff]; simp)), HL4.out⟩
        · rw [if_neg k4] at HQ'
          have k4b : (freq == 2) = false := beq_false_of_ne k4
          by_cases k5 : freq = 1
          · rw [if_pos (.inr k5)] at HQ'
            have E := HQ'
            clear HQ' k4 k4b
            subst k5
            go_wp2_with fail
            go_ret
            exact ⟨ret_bool E.out.symm, HL4.out⟩
          · rw [if_neg (fun h => h.elim (fun h => h (nil_of_len k2)) k5)] at HQ'
            have k5b : (freq == 1) = false := beq_false_of_ne k5
            by_cases k6 : td = sd
            · rw [if_neg (fun h => h k6)] at HQ'
              have k6b : (td != sd) = false := by simpa using k6
              by_cases k7 : freq = 3
              · have E : Hid (q = true) := by show _ = _; rw [HQ'.out]; simp [k7]
                clear HQ' k4 k5 k4b k5b
                subst k7
                subst k6
                go_wp2_with fail
                go_ret
                exact ⟨ret_bool E.out.symm, HL4.out⟩
              · have E : Hid (q = true) := by show _ = _; rw [HQ'.out]; simp [ne_of_len k1]
                have k7b : (freq == 3) = false := beq_false_of_ne k7
                clear HQ' k4 k5 k7
                subst k6
                go_wp2_with fail
                go_ret
                exact ⟨ret_bool E.out.symm, HL4.out⟩
            · rw [if_pos k6] at HQ'
              have E := HQ'
              have k6b : (td != sd) = true := by simpa using k6
              clear HQ' k4 k5 k6
              go_wp2_with fail
              go_ret
              exact ⟨ret_bool E.out.symm, HL4.out⟩
  · have n1 : ¬ (bm ≠ [] ∧ b1 = false) := by intro h; exact h.1 (nil_of_len k1)
    rw [if_neg n1] at HQ'
    have k1z : ¬ (0 : Int) < bm.length := by omega
    go_enter Tryz.func84, Tryz.ntmps84
    go_upto_region 1 with fail
    rw [E3.out]
    go_wp2_with fail
    go_at_call 110; refine (HLen.out W3).mono ?_; rintro e w4 ⟨rfl, hb4⟩
    have HL4 : Hid (Below w.heap.size w w4) := HL.out.trans (hb4.mono HL.out.size)
    have g1 := blk_below HB1.out hb4
    have g2 := blk_below HB2.out hb4
    have g3 := blk_below HB3.out hb4
    have R0 := blk_cell g1 (i := 0) rfl
    have R4 := blk_cell g1 (i := 4) rfl
    have R5 := blk_cell g1 (i := 5) rfl
    have R6 := blk_cell g1 (i := 6) rfl
    have S2 := blk_cell g2 (i := 2) rfl
    have S3 := blk_cell g2 (i := 3) rfl
    have S4 := blk_cell g2 (i := 4) rfl
    have T0 := blk_cell g3 (i := 0) rfl
    have T1 := blk_cell g3 (i := 1) rfl
    have T2 := blk_cell g3 (i := 2) rfl
    have T3 := blk_cell g3 (i := 3) rfl
    have T4 := blk_cell g3 (i := 4) rfl
    clear g1 g2 g3 hb4 r4 t2 t1 HB1 HB2 HB3 E3 HLen HH1
    have m2 : (0 < bd.length ∧ b2 = true) ∨ (0 < bd.length ∧ b2 = false ∧ b3 = true) ∨ (0 < bd.length ∧ b2 = false ∧ b3 = false) ∨ ¬ 0 < bd.length := by
      rcases Nat.eq_zero_or_pos bd.length with h | h
      · exact .inr (.inr (.inr (by omega)))
      · cases b2
        · cases b3
          · exact .inr (.inr (.inl ⟨h, rfl, rfl⟩))
          · exact .inr (.inl ⟨h, rfl, rfl⟩)
        · exact .inl ⟨h, rfl⟩
    rcases m2 with ⟨k2, rfl⟩ | ⟨k2, rfl, rfl⟩ | ⟨k2, rfl, rfl⟩ | k2
    · have n2 : ¬ (bd ≠ [] ∧ true = false ∧ b3 = false) := by simp
      rw [if_neg n2] at HQ'
      have k2z : (0 : Int) < bd.length := by omega
      by_cases k3 : 0 < bw.length
      · rw [if_pos (ne_of_len k3)] at HQ'
        have E := HQ'
        have k3z : (0 : Int) < bw.length := by omega
        go_wp2_with fail
        go_at_call 111; refine (HD1.out w4 HL4.out).mono ?_; rintro e w' ⟨rfl, rfl⟩
        go_wp2_with fail
        go_at_call 112; refine (HN.out w4 HL4.out).mono ?_; rintro e w5 ⟨rfl, hb5⟩
        go_wp2_with fail
        go_ret
        exact ⟨ret_bool E.out.symm, HL4.out.trans (hb5.mono HL4.out.size)⟩
      · rw [if_neg (fun h => h (nil_of_len k3))] at HQ'
        have k3z : ¬ (0 : Int) < bw.length := by omega
        by_cases k4 : freq = 2
        · rw [if_pos k4] at HQ'
          have E := HQ'
          clear HQ'
          subst k4
          go_wp2_with fail
          go_at_call 111; refine (HD1.out w4 HL4.out).mono ?_; rintro e w' ⟨rfl, rfl⟩
          go_wp2_with fail
          go_ret
          exact ⟨ret_bool (by rw [E.out]; first | rfl | (rw [Bool.eq_iff_iff]; simp)), HL4.out⟩
        · rw [if_neg k4] at HQ'
          have k4b : (freq == 2) = false := beq_false_of_ne k4
          rw [if_pos (.inl (ne_of_len k2))] at HQ'
          have E := HQ'
          clear HQ' k4
          go_wp2_with fail
          go_at_call 111; refine (HD1.out w4 HL4.out).mono ?_; rintro e w' ⟨rfl, rfl⟩
          go_wp2_with fail
          go_ret
          exact ⟨ret_bool E.out.symm, HL4.out⟩
    · have n2 : ¬ (bd ≠ [] ∧ false = false ∧ true = false) := by simp
      rw [if_neg n2] at HQ'
      have k2z : (0 : Int) < bd.length := by omega
      by_cases k3 : 0 < bw.length
      · rw [if_pos (ne_of_len k3)] at HQ'
        have E := HQ'
        have k3z : (0 : Int) < bw.length := by omega
        go_wp2_with fail
        go_at_call 111; refine (HD1.out w4 HL4.out).mono ?_; rintro e w' ⟨rfl, rfl⟩
        go_wp2_with fail
        go_at_call 111; refine (HD2.out w4 HL4.out).mono ?_; rintro e w' ⟨rfl, rfl⟩
        go_wp2_with fail
        go_at_call 112; refine (HN.out w4 HL4.out).mono ?_; rintro e w5 ⟨rfl, hb5⟩
        go_wp2_with fail
        go_ret
        exact ⟨ret_bool E.out.symm, HL4.out.trans (hb5.mono HL4.out.size)⟩
      · rw [if_neg (fun h => h (nil_of_len k3))] at HQ'
        have k3z : ¬ (0 : Int) < bw.length := by omega
        by_cases k4 : freq = 2
        · rw [if_pos k4] at HQ'
          have E := HQ'
          clear HQ'
          subst k4
          go_wp2_with fail
          go_at_call 111; refine (HD1.out w4 HL4.out).mono ?_; rintro e w' ⟨rfl, rfl⟩
          go_wp2_with fail
          go_at_call 111; refine (HD2.out w4 HL4.out).mono ?_; rintro e w' ⟨rfl, rfl⟩
          go_wp2_with fail
          go_ret
          exact ⟨ret_bool (by rw [E.out]; first | rfl | (rw [Bool.eq_iff_iff]; simp)), HL4.out⟩
        · rw [if_neg k4] at HQ'
          have k4b : (freq == 2) = false := beq_false_of_ne k4
          rw [if_pos (.inl (ne_of_len k2))] at HQ'
          have E := HQ'
          clear HQ' k4
          go_wp2_with fail
          go_at_call 111; refine (HD1.out w4 HL4.out).mono ?_; rintro e w' ⟨rfl, rfl⟩
          go_wp2_with fail
          go_at_call 111; refine (HD2.out w4 HL4.out).mono ?_; rintro e w' ⟨rfl, rfl⟩
          go_wp2_with fail
          go_ret
          exact ⟨ret_bool E.out.symm, HL4.out⟩
    · have E : Hid (q = false) := by show _ = _; rw [HQ'.out, if_pos ⟨ne_of_len k2, rfl, rfl⟩]
      have k2z : (0 : Int) < bd.length := by omega
      go_wp2_with fail
      go_at_call 111; refine (HD1.out w4 HL4.out).mono ?_; rintro e w' ⟨rfl, rfl⟩
      go_wp2_with fail
      go_at_call 111; refine (HD2.out w4 HL4.out).mono ?_; rintro e w' ⟨rfl, rfl⟩
      go_wp2_with fail
      go_ret
      exact ⟨ret_bool E.out.symm, HL4.out⟩
    · have n2 : ¬ (bd ≠ [] ∧ b2 = false ∧ b3 = false) := by intro h; exact h.1 (nil_of_len k2)
      rw [if_neg n2] at HQ'
      have k2z : ¬ (0 : Int) < bd.length := by omega
      by_cases k3 : 0 < bw.length
      · rw [if_pos (ne_of_len k3)] at HQ'
        have E := HQ'
        have k3z : (0 : Int) < bw.length := by omega
        go_wp2_with fail
        go_at_call 112; refine (HN.out w4 HL4.out).mono ?_; rintro e w5 ⟨rfl, hb5⟩
        go_wp2_with fail
        go_ret
        exact ⟨ret_bool E.out.symm, HL4.out.trans (hb5.mono HL4.out.size)⟩
      · rw [if_neg (fun h => h (nil_of_len k3))] at HQ'
        have k3z : ¬ (0 : Int) < bw.length := by omega
        by_cases k4 : freq = 2
        · rw [if_pos k4] at HQ'
          have E := HQ'
          clear HQ'
          subst k4
          go_wp2_with fail
          go_ret
          exact ⟨ret_bool (by rw [E.out]; first | rfl | (rw [Bool.eq_iff_iff]; simp)), HL4.out⟩
        · rw [if_neg k4] at HQ'
          have k4b : (freq == 2) = false := beq_false_of_ne k4
          by_cases k5 : freq = 1
          · rw [if_pos (.inr k5)] at HQ'
            have E := HQ'
            clear HQ' k4 k4b
            subst k5
            go_wp2_with fail
            go_ret
            exact ⟨ret_bool E.out.symm, HL4.out⟩
          · rw [if_neg (fun h => h.elim (fun h => h (nil_of_len k2)) k5)] at HQ'
            have k5b : (freq == 1) = false := beq_false_of_ne k5
            by_cases k6 : td = sd
            · rw [if_neg (fun h => h k6)] at HQ'
              have k6b : (td != sd) = false := by simpa using k6
              by_cases k7 : freq = 3
              · have E : Hid (q = true) := by show _ = _; rw [HQ'.out]; simp [k7]
                clear HQ' k4 k5 k4b k5b
                subst k7
                subst k6
                go_wp2_with fail
                go_ret
                exact ⟨ret_bool E.out.symm, HL4.out⟩
              · have E : Hid (q = decide (tm = sm)) := by show _ = _; rw [HQ'.out]; simp [nil_of_len k1, k7]
                have k7b : (freq == 3) = false := beq_false_of_ne k7
                clear HQ' k4 k5 k7
                subst k6
                go_wp2_with fail
                go_ret
                exact ⟨ret_bool (by rw [E.out]; first | rfl | (rw [Bool.eq_iff_iff]; simp)), HL4.out⟩
            · rw [if_pos k6] at HQ'
              have E := HQ'
              have k6b : (td != sd) = true := by simpa using k6
              clear HQ' k4 k5 k6
              go_wp2_with fail
              go_ret
              exact ⟨ret_bool E.out.symm, HL4.out⟩
end Go.Proofs.YtfjmofefciopmaaGreat
end
