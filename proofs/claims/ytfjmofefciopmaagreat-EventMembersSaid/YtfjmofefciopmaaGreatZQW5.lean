import Derived.Test.YtfjmofefciopmaaGreatZQW4
/- Contract of the document's rules: whether one may be. -/
section
namespace Go.Proofs.YtfjmofefciopmaaGreat
open Go.ChangeShapes Go.WideShapes Go.ChangeAt Go.RowKit Qr Ck
theorem q_no {q : Bool} {P : Prop} (h : q = true ↔ P) (hn : ¬ P) : q = false := by
  cases q with
  | false => rfl
  | true => exact absurd (h.1 rfl) hn
theorem len0 {α : Type} {l : List α} : l = [] ↔ l.length = 0 := by cases l <;> simp
set_option maxRecDepth 100000 in
set_option maxHeartbeats 4000000 in
theorem rmay9_any (r : R) (A1 A2 A3 A4 : Option Addr) (c1 c2 c3 c4 : Nat) (w : World) (hs : RAt w r A1 A2 A3 A4 c1 c2 c3 c4) :
    Calls Tryz.prog 33 #[.agg (rcells r A1 A2 A3 A4 c1 c2 c3 c4)] w fun e w' => e = .returned (.bool (mayB r)) ∧ Below w.heap.size w w' := by
  have hl1 : r.bm.length ≤ 9223372036854775807 := Nat.le_trans hs.s1.le hs.s1.cap
  have hl2 : r.bd.length ≤ 9223372036854775807 := Nat.le_trans hs.s2.le hs.s2.cap
  have hl3 : r.bw.length ≤ 9223372036854775807 := Nat.le_trans hs.s3.le hs.s3.cap
  have hl4 : r.bs.length ≤ 9223372036854775807 := Nat.le_trans hs.s4.le hs.s4.cap
  have hbox := fun (g : Gr (w.alloc (.cells (rcells r A1 A2 A3 A4 c1 c2 c3 c4) 28))) (k : Nat) (v : Value) (h : (rcells r A1 A2 A3 A4 c1 c2 c3 c4)[k]? = some v) => box_at h g
  have HR1 := Lib.hid (fun g : Gr (w.alloc (.cells (rcells r A1 A2 A3 A4 c1 c2 c3 c4) 28)) => rrow_any r.bm A1 c1 12 false g.val (by omega) ((hs.s1.alloc _).gr g))
  have HR2 := Lib.hid (fun g : Gr (w.alloc (.cells (rcells r A1 A2 A3 A4 c1 c2 c3 c4) 28)) => rrow_any r.bd A2 c2 31 true g.val (by omega) ((hs.s2.alloc _).gr g))
  have HR3 := Lib.hid (fun g : Gr (w.alloc (.cells (rcells r A1 A2 A3 A4 c1 c2 c3 c4) 28)) => rrow_any r.bs A4 c4 366 true g.val (by omega) ((hs.s4.alloc _).gr g))
  have HR4 := Lib.hid (fun (hf : -1000000 ≤ r.freq ∧ r.freq ≤ 1000000) (g : Gr (w.alloc (.cells (rcells r A1 A2 A3 A4 c1 c2 c3 c4) 28))) => rdays_any r A1 A2 A3 A4 c1 c2 c3 c4 g.val hf (hs.below (B := w.heap.size) g.below1 (Nat.le_refl _)))
  obtain ⟨q, hq⟩ : ∃ q, mayB r = q := ⟨_, rfl⟩
  have HQ : Hid (q = true ↔ mayP r) := by show _ ↔ _; rw [← hq]; unfold mayB; exact decide_eq_true_iff
  rw [hq]
  clear hq hs
  unfold mayP at HQ
  have B0 := fun g => hbox g 0 _ rfl
  have B1 := fun g => hbox g 1 _ rfl
  have B2 := fun g => hbox g 2 _ rfl
  have B3 := fun g => hbox g 3 _ rfl
  have B4 := fun g => hbox g 4 _ rfl
  have B5 := fun g => hbox g 5 _ rfl
  have B6 := fun g => hbox g 6 _ rfl
  have B7 := fun g => hbox g 7 _ rfl
  have B8 := fun g => hbox g 8 _ rfl
  clear hbox
  obtain ⟨freq, iv_, count, until_, bm, bd, bw, bs, start⟩ := r
  unfold rcells at *
  simp only at *
  generalize hx1 : rowB 12 false bm = X1 at *
  generalize hx2 : rowB 31 true bd = X2 at *
  generalize hx3 : rowB 366 true bs = X3 at *
  generalize hx4 : daysB ⟨freq, iv_, count, until_, bm, bd, bw, bs, start⟩ = X4 at *
  clear hx1 hx2 hx3 hx4
  simp only [ne_eq, len0] at HQ
  generalize bm.length = n1 at *
  generalize bd.length = n2 at *
  generalize bw.length = n3 at *
  generalize bs.length = n4 at *
  by_cases f0 : freq < 1
  · have E : Hid (q = false) := q_no HQ.out (by intro h; have := h.1; omega)
    go_enter Tryz.func33, Tryz.ntmps33
    go_wp2_with fail
    go_ret
    exact ⟨ret_bool E.out.symm, (Below.refl _ _).alloc (Nat.le_refl _) _⟩
  by_cases f1 : 4 < freq
  · have E : Hid (q = false) := q_no HQ.out (by intro h; have := h.1; omega)
    go_enter Tryz.func33, Tryz.ntmps33
    go_wp2_with fail
    go_ret
    exact ⟨ret_bool E.out.symm, (Below.refl _ _).alloc (Nat.le_refl _) _⟩
  by_cases f2 : iv_ < 1
  · have E : Hid (q = false) := q_no HQ.out (by intro h; have := h.1; omega)
    go_enter Tryz.func33, Tryz.ntmps33
    go_wp2_with fail
    go_ret
    exact ⟨ret_bool E.out.symm, (Below.refl _ _).alloc (Nat.le_refl _) _⟩
  by_cases f3 : 999 < iv_
  · have E : Hid (q = false) := q_no HQ.out (by intro h; have := h.1; omega)
    go_enter Tryz.func33, Tryz.ntmps33
    go_wp2_with fail
    go_ret
    exact ⟨ret_bool E.out.symm, (Below.refl _ _).alloc (Nat.le_refl _) _⟩
  by_cases f4 : count < 0
  · have E : Hid (q = false) := q_no HQ.out (by intro h; have := h.1; omega)
    go_enter Tryz.func33, Tryz.ntmps33
    go_wp2_with fail
    go_ret
    exact ⟨ret_bool E.out.symm, (Below.refl _ _).alloc (Nat.le_refl _) _⟩
  by_cases f5 : 5000 < count
  · have E : Hid (q = false) := q_no HQ.out (by intro h; have := h.1; omega)
    go_enter Tryz.func33, Tryz.ntmps33
    go_wp2_with fail
    go_ret
    exact ⟨ret_bool E.out.symm, (Below.refl _ _).alloc (Nat.le_refl _) _⟩
  by_cases f6 : start < 0
  · have E : Hid (q = false) := q_no HQ.out (by intro h; have := h.1; omega)
    go_enter Tryz.func33, Tryz.ntmps33
    go_wp2_with fail
    go_ret
    exact ⟨ret_bool E.out.symm, (Below.refl _ _).alloc (Nat.le_refl _) _⟩
  by_cases f7 : 6 < start
  · have E : Hid (q = false) := q_no HQ.out (by intro h; have := h.1; omega)
    go_enter Tryz.func33, Tryz.ntmps33
    go_wp2_with fail
    go_ret
    exact ⟨ret_bool E.out.symm, (Below.refl _ _).alloc (Nat.le_refl _) _⟩
  by_cases u : until_ ≠ -1 ∧ (until_ < 0 ∨ 158310720 ≤ until_ ∨ 0 < count)
  · have E : Hid (q = false) := q_no HQ.out (by intro h; have := h.2.1; omega)
    have hu : (¬ until_ = -1 ∧ (until_ != -1) = true ∧ until_ < 0) ∨ (¬ until_ = -1 ∧ (until_ != -1) = true ∧ ¬ until_ < 0 ∧ 158310720 ≤ until_) ∨ (¬ until_ = -1 ∧ (until_ != -1) = true ∧ ¬ until_ < 0 ∧ ¬ 158310720 ≤ until_ ∧ 0 < count) := by
      obtain ⟨u1, u2⟩ := u
      have u1' : (until_ != -1) = true := by simpa using u1
      by_cases k1 : until_ < 0
      · exact .inl ⟨u1, u1', k1⟩
      · by_cases k2 : 158310720 ≤ until_
        · exact .inr (.inl ⟨u1, u1', k1, k2⟩)
        · exact .inr (.inr ⟨u1, u1', k1, k2, by omega⟩)
    clear u
    rcases hu with ⟨u1, u2, u3⟩ | ⟨u1, u2, u3, u4⟩ | ⟨u1, u2, u3, u4, u5⟩
    all_goals
      go_enter Tryz.func33, Tryz.ntmps33
      go_wp2_with fail
      go_ret
      exact ⟨ret_bool E.out.symm, (Below.refl _ _).alloc (Nat.le_refl _) _⟩
  have hU : until_ = -1 ∨ (¬ until_ = -1 ∧ (until_ != -1) = true ∧ ¬ until_ < 0 ∧ ¬ 158310720 ≤ until_ ∧ ¬ 0 < count) := by
    by_cases k : until_ = -1
    · exact .inl k
    · exact .inr ⟨k, by simpa using k, by omega, by omega, by omega⟩
  have HM1 : Hid ((1 ≤ freq ∧ freq ≤ 4 ∧ 1 ≤ iv_ ∧ iv_ ≤ 999 ∧ 0 ≤ count ∧ count ≤ 5000 ∧ 0 ≤ start ∧ start ≤ 6) ∧ (until_ = -1 ∨ 0 ≤ until_ ∧ until_ < 158310720 ∧ count ≤ 0)) := ⟨by omega, by omega⟩
  clear u
  have hF : (¬ freq = 2 ∧ (freq == 2) = false) ∨ freq = 2 := by
    by_cases k : freq = 2
    · exact .inr k
    · exact .inl ⟨k, beq_false_of_ne k⟩
  have HF := Lib.hid hF
  clear hF
  have HR4' := Lib.hid (HR4.out (by omega))
  clear HR4
  rcases hU with rfl | ⟨u1, u2, u3, u4, u5⟩
  all_goals
    go_enter Tryz.func33, Tryz.ntmps33
    go_wp2_with fail
    obtain ⟨g, hg⟩ := Gr.start (w.alloc (.cells #[.int .i64 freq, .int .i64 iv_, .int .i64 count, .int .i64 _, .slice A1 n1 c1, .slice A2 n2 c2, .slice A3 n3 c3, .slice A4 n4 c4, .int .i64 start] 28))
    rw [hg]
    clear hg
    go_at_call 62
    refine (HR1.out g).mono ?_
    rintro e w' ⟨rfl, hb⟩
    obtain ⟨g, rfl⟩ := g.on hb
    clear hb
    cases X1 with
    | false =>
      have E : Hid (q = false) := q_no HQ.out (by intro h; exact absurd h.2.2.1.1 (by simp))
      go_wp2_with fail
      go_ret
      exact ⟨ret_bool E.out.symm, g.below1⟩
    | true =>
      go_wp2_with fail
      go_at_call 62
      refine (HR2.out g).mono ?_
      rintro e w' ⟨rfl, hb⟩
      obtain ⟨g, rfl⟩ := g.on hb
      clear hb
      cases X2 with
      | false =>
        have E : Hid (q = false) := q_no HQ.out (by intro h; exact absurd h.2.2.1.2.1 (by simp))
        go_wp2_with fail
        go_ret
        exact ⟨ret_bool E.out.symm, g.below1⟩
      | true =>
        go_wp2_with fail
        go_at_call 62
        refine (HR3.out g).mono ?_
        rintro e w' ⟨rfl, hb⟩
        obtain ⟨g, rfl⟩ := g.on hb
        clear hb
        cases X3 with
        | false =>
          have E : Hid (q = false) := q_no HQ.out (by intro h; exact absurd h.2.2.1.2.2.1 (by simp))
          go_wp2_with fail
          go_ret
          exact ⟨ret_bool E.out.symm, g.below1⟩
        | true =>
          go_wp2_with fail
          go_at_call 63
          refine (HR4'.out g).mono ?_
          rintro e w' ⟨rfl, hb⟩
          obtain ⟨g, rfl⟩ := g.on hb
          clear hb
          cases X4 with
          | false =>
            have E : Hid (q = false) := q_no HQ.out (by intro h; exact absurd h.2.2.1.2.2.2 (by simp))
            go_wp2_with fail
            go_ret
            exact ⟨ret_bool E.out.symm, g.below1⟩
          | true =>
            have hM : (freq = 2 ∧ 0 < n2) ∨ ((¬ freq = 2 ∧ (freq == 2) = false) ∨ (freq = 2 ∧ n2 = 0)) := by
              rcases HF.out with k | k
              · exact .inr (.inl k)
              · by_cases k2 : 0 < n2
                · exact .inl ⟨k, k2⟩
                · exact .inr (.inr ⟨k, by omega⟩)
            have hM5 : (n4 = 0) ∨ (((n4 : Int) == 0) = false ∧ ¬ (n4 : Int) = 0 ∧ (0 : Int) < n1) ∨ (((n4 : Int) == 0) = false ∧ ¬ (n4 : Int) = 0 ∧ n1 = 0 ∧ (0 : Int) < n2) ∨ (((n4 : Int) == 0) = false ∧ ¬ (n4 : Int) = 0 ∧ n1 = 0 ∧ n2 = 0 ∧ (0 : Int) < n3) ∨ (((n4 : Int) == 0) = false ∧ ¬ (n4 : Int) = 0 ∧ n1 = 0 ∧ n2 = 0 ∧ n3 = 0) := by
              by_cases a1 : n4 = 0
              · exact .inl a1
              · have a1' : ((n4 : Int) == 0) = false := beq_false_of_ne (by omega)
                have a1'' : ¬ (n4 : Int) = 0 := by omega
                by_cases a2 : 0 < n1
                · exact .inr (.inl ⟨a1', a1'', by omega⟩)
                · by_cases a3 : 0 < n2
                  · exact .inr (.inr (.inl ⟨a1', a1'', by omega, by omega⟩))
                  · by_cases a4 : 0 < n3
                    · exact .inr (.inr (.inr (.inl ⟨a1', a1'', by omega, by omega, by omega⟩)))
                    · exact .inr (.inr (.inr (.inr ⟨a1', a1'', by omega, by omega, by omega⟩)))
            have HM5 := Lib.hid hM5
            clear hM5
            rcases hM with ⟨k1, k2⟩ | hM
            · have E : Hid (q = false) := q_no HQ.out (by intro h; have := h.2.2.2.1; omega)
              have k3 : (0 : Int) < n2 := by omega
              subst k1
              go_wp2_with fail
              go_ret
              exact ⟨ret_bool E.out.symm, g.below1⟩
            have hq2 : ((n4 = 0 ∨ 0 < n1 ∨ 0 < n2 ∨ 0 < n3) → Hid (q = true)) ∧ (¬ (n4 = 0 ∨ 0 < n1 ∨ 0 < n2 ∨ 0 < n3) → Hid (q = false)) := by
              obtain ⟨m1, m2⟩ := HM1.out
              have k4 : ¬ freq = 2 ∨ n2 = 0 := by rcases hM with k | k; exact .inl k.1; exact .inr k.2
              exact ⟨fun h => HQ.out.2 ⟨m1, m2, by simp, k4, by omega⟩, fun h => q_no HQ.out (fun h2 => by have := h2.2.2.2.2; omega)⟩
            rcases hM with ⟨k1, k2⟩ | ⟨k1, k2⟩
            · rcases HM5.out with rfl | ⟨a1, a2, a3⟩ | ⟨a1, a2, rfl, a4⟩ | ⟨a1, a2, rfl, rfl, a5⟩ | ⟨a1, a2, rfl, rfl, rfl⟩
              · have E := hq2.1 (by omega)
                clear hq2
                go_wp2_with fail
                go_ret
                first | exact ⟨ret_bool E.out.symm, g.below1⟩ | exact ⟨ret_bool ((decide_eq_true (by omega)).trans E.out.symm), g.below1⟩
              · have E := hq2.1 (by omega)
                clear hq2
                go_wp2_with fail
                go_ret
                first | exact ⟨ret_bool E.out.symm, g.below1⟩ | exact ⟨ret_bool ((decide_eq_true (by omega)).trans E.out.symm), g.below1⟩
              · have E := hq2.1 (by omega)
                clear hq2
                go_wp2_with fail
                go_ret
                first | exact ⟨ret_bool E.out.symm, g.below1⟩ | exact ⟨ret_bool ((decide_eq_true (by omega)).trans E.out.symm), g.below1⟩
              · have E := hq2.1 (by omega)
                clear hq2
                go_wp2_with fail
                go_ret
                first | exact ⟨ret_bool E.out.symm, g.below1⟩ | exact ⟨ret_bool ((decide_eq_true (by omega)).trans E.out.symm), g.below1⟩
              · have E := hq2.2 (by omega)
                clear hq2
                go_wp2_with fail
                go_ret
                first | exact ⟨ret_bool E.out.symm, g.below1⟩ | exact ⟨ret_bool ((decide_eq_true (by omega)).trans E.out.symm), g.below1⟩
            · subst k1
              subst k2
              rcases HM5.out with rfl | ⟨a1, a2, a3⟩ | ⟨a1, a2, rfl, a4⟩ | ⟨a1, a2, rfl, _, a5⟩ | ⟨a1, a2, rfl, _, rfl⟩
              · have E := hq2.1 (by omega)
                clear hq2
                go_wp2_with fail
                go_ret
                first | exact ⟨ret_bool E.out.symm, g.below1⟩ | exact ⟨ret_bool ((decide_eq_true (by omega)).trans E.out.symm), g.below1⟩
              · have E := hq2.1 (by omega)
                clear hq2
                go_wp2_with fail
                go_ret
                first | exact ⟨ret_bool E.out.symm, g.below1⟩ | exact ⟨ret_bool ((decide_eq_true (by omega)).trans E.out.symm), g.below1⟩
              · exact absurd a4 (by omega)
              · have E := hq2.1 (by omega)
                clear hq2
                go_wp2_with fail
                go_ret
                first | exact ⟨ret_bool E.out.symm, g.below1⟩ | exact ⟨ret_bool ((decide_eq_true (by omega)).trans E.out.symm), g.below1⟩
              · have E := hq2.2 (by omega)
                clear hq2
                go_wp2_with fail
                go_ret
                first | exact ⟨ret_bool E.out.symm, g.below1⟩ | exact ⟨ret_bool ((decide_eq_true (by omega)).trans E.out.symm), g.below1⟩
end Go.Proofs.YtfjmofefciopmaaGreat
end
