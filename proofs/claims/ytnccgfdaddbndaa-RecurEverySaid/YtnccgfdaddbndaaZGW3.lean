import Derived.Test.YtnccgfdaddbndaaZGW2
/- Contracts of the program's rules: what a rule may end with, which days it may have. -/
section
namespace Go.Proofs.Ytnccgfdaddbndaa
open Go.ChangeShapes Go.WideShapes Go.ChangeAt Go.RowKit Qr Ck

/-- A rule's box, spelt out. -/
def rc9 (fq iv_ ct un : Int) (A1 A2 A3 A4 : Option Addr) (n1 n2 n3 n4 c1 c2 c3 c4 : Nat) (st : Int) : Array Value :=
  #[.int .i64 fq, .int .i64 iv_, .int .i64 ct, .int .i64 un, .slice A1 n1 c1, .slice A2 n2 c2, .slice A3 n3 c3, .slice A4 n4 c4, .int .i64 st]
theorem rc9_of (r : R) (A1 A2 A3 A4 : Option Addr) (c1 c2 c3 c4 : Nat) : rcells r A1 A2 A3 A4 c1 c2 c3 c4 = rc9 r.freq r.iv r.count r.until_ A1 A2 A3 A4 r.bm.length r.bd.length r.bw.length r.bs.length c1 c2 c3 c4 r.start := rfl
section
variable (fq iv_ ct un : Int) (A1 A2 A3 A4 : Option Addr) (n1 n2 n3 n4 c1 c2 c3 c4 : Nat) (st : Int)
theorem below1 (w : World) (o : Obj) : Below w.heap.size w (w.alloc o) := (Below.refl _ w).alloc (Nat.le_refl _) o

def endB (un ct : Int) : Bool := if un = -1 then fromB 0 ct 5000 else decide (0 ≤ un) && (decide (un < 158310720) && decide (ct = 0))
theorem mayEnd_any (w : World) :
    Calls Try.prog 34 #[.agg (rc9 fq iv_ ct un A1 A2 A3 A4 n1 n2 n3 n4 c1 c2 c3 c4 st)] w fun e w' => e = .returned (.bool (endB un ct)) ∧ Below w.heap.size w w' := by
  obtain ⟨q, hq⟩ : ∃ q, endB un ct = q := ⟨_, rfl⟩
  rw [hq]
  unfold rc9
  have HB := Lib.hid (below1 w)
  by_cases h1 : un = -1
  · subst h1
    have HF := Lib.hid (fun w => isFrom_any 0 ct 5000 w)
    have E : Hid (fromB 0 ct 5000 = q) := hq
    clear hq
    rw [E.out] at HF
    go_enter Try.func34, Try.ntmps34
    go_wp2_with (go_at_call 33; (with_reducible refine (HF.out _).mono ?_); rintro e w' ⟨rfl, rfl⟩)
    go_ret
    exact ⟨ret_bool rfl, HB.out _⟩
  · have h1b : (un == -1) = false := by simpa using h1
    have E : Hid ((decide (0 ≤ un) && (decide (un < 158310720) && decide (ct = 0))) = q) := by show _ = _; rw [← hq]; unfold endB; rw [if_neg h1]
    clear hq
    by_cases h2 : 0 ≤ un
    · by_cases h3 : un < 158310720
      · by_cases h4 : ct = 0
        · have E' : Hid (q = true) := by show _ = _; rw [← E.out]; simp [h2, h3, h4]
          subst h4
          go_enter Try.func34, Try.ntmps34
          go_wp2
          go_ret
          exact ⟨ret_bool E'.out.symm, HB.out _⟩
        · have E' : Hid (q = false) := by show _ = _; rw [← E.out]; simp [h4]
          have h4b : (ct == 0) = false := by simpa using h4
          go_enter Try.func34, Try.ntmps34
          go_wp2
          go_ret
          exact ⟨ret_bool E'.out.symm, HB.out _⟩
      · have E' : Hid (q = false) := by show _ = _; rw [← E.out]; simp [h3]
        have h3b : decide (un < 158310720) = false := decide_eq_false h3
        go_enter Try.func34, Try.ntmps34
        go_wp2
        go_ret
        exact ⟨ret_bool E'.out.symm, HB.out _⟩
    · have E' : Hid (q = false) := by show _ = _; rw [← E.out]; simp [h2]
      have h2b : decide (0 ≤ un) = false := decide_eq_false h2
      go_enter Try.func34, Try.ntmps34
      go_wp2
      go_ret
      exact ⟨ret_bool E'.out.symm, HB.out _⟩

def monthsB (fq : Int) (n1 : Nat) : Bool := decide (fq = 3) || (decide (fq = 4) && decide (0 < n1))
theorem hasMonths_any (w : World) :
    Calls Try.prog 54 #[.agg (rc9 fq iv_ ct un A1 A2 A3 A4 n1 n2 n3 n4 c1 c2 c3 c4 st)] w fun e w' => e = .returned (.bool (monthsB fq n1)) ∧ Below w.heap.size w w' := by
  obtain ⟨q, hq⟩ : ∃ q, monthsB fq n1 = q := ⟨_, rfl⟩
  rw [hq]
  unfold rc9
  have HB := Lib.hid (below1 w)
  by_cases h1 : fq = 3
  · have E' : Hid (q = true) := by show _ = _; rw [← hq]; unfold monthsB; simp [h1]
    subst h1
    clear hq
    go_enter Try.func54, Try.ntmps54
    go_wp2
    go_ret
    exact ⟨ret_bool E'.out.symm, HB.out _⟩
  · have h1b : (fq == 3) = false := by simpa using h1
    by_cases h2 : fq = 4
    · by_cases h3 : 0 < n1
      · have E' : Hid (q = true) := by show _ = _; rw [← hq]; unfold monthsB; simp [h2, h3]
        subst h2
        clear hq
        have h3b : decide ((0 : Int) < n1) = true := decide_eq_true (by omega)
        go_enter Try.func54, Try.ntmps54
        go_wp2
        go_ret
        exact ⟨ret_bool E'.out.symm, HB.out _⟩
      · have E' : Hid (q = false) := by show _ = _; rw [← hq]; unfold monthsB; simp [h2, h3]
        subst h2
        clear hq
        have h3b : decide ((0 : Int) < n1) = false := decide_eq_false (by omega)
        go_enter Try.func54, Try.ntmps54
        go_wp2
        go_ret
        exact ⟨ret_bool E'.out.symm, HB.out _⟩
    · have E' : Hid (q = false) := by show _ = _; rw [← hq]; unfold monthsB; simp [h1, h2]
      have h2b : (fq == 4) = false := by simpa using h2
      clear hq
      go_enter Try.func54, Try.ntmps54
      go_wp2
      go_ret
      exact ⟨ret_bool E'.out.symm, HB.out _⟩

def saysB (n1 n2 n3 : Nat) : Bool := decide (0 < n1) || (decide (0 < n2) || decide (0 < n3))
theorem saysDays_any (w : World) :
    Calls Try.prog 43 #[.agg (rc9 fq iv_ ct un A1 A2 A3 A4 n1 n2 n3 n4 c1 c2 c3 c4 st)] w fun e w' => e = .returned (.bool (saysB n1 n2 n3)) ∧ Below w.heap.size w w' := by
  obtain ⟨q, hq⟩ : ∃ q, saysB n1 n2 n3 = q := ⟨_, rfl⟩
  rw [hq]
  unfold rc9
  have HB := Lib.hid (below1 w)
  by_cases h1 : 0 < n1
  · have E' : Hid (q = true) := by show _ = _; rw [← hq]; unfold saysB; simp [h1]
    have h1b : decide ((0 : Int) < n1) = true := decide_eq_true (by omega)
    clear hq
    go_enter Try.func43, Try.ntmps43
    go_wp2
    go_ret
    exact ⟨ret_bool E'.out.symm, HB.out _⟩
  · have h1b : decide ((0 : Int) < n1) = false := decide_eq_false (by omega)
    by_cases h2 : 0 < n2
    · have E' : Hid (q = true) := by show _ = _; rw [← hq]; unfold saysB; simp [h2]
      have h2b : decide ((0 : Int) < n2) = true := decide_eq_true (by omega)
      clear hq
      go_enter Try.func43, Try.ntmps43
      go_wp2
      go_ret
      exact ⟨ret_bool E'.out.symm, HB.out _⟩
    · have h2b : decide ((0 : Int) < n2) = false := decide_eq_false (by omega)
      by_cases h3 : 0 < n3
      · have E' : Hid (q = true) := by show _ = _; rw [← hq]; unfold saysB; simp [h3]
        have h3b : decide ((0 : Int) < n3) = true := decide_eq_true (by omega)
        clear hq
        go_enter Try.func43, Try.ntmps43
        go_wp2
        go_ret
        exact ⟨ret_bool E'.out.symm, HB.out _⟩
      · have E' : Hid (q = false) := by show _ = _; rw [← hq]; unfold saysB; simp [h1, h2, h3]
        have h3b : decide ((0 : Int) < n3) = false := decide_eq_false (by omega)
        clear hq
        go_enter Try.func43, Try.ntmps43
        go_wp2
        go_ret
        exact ⟨ret_bool E'.out.symm, HB.out _⟩

/-- May a rule have a day? -/
def dayB (fq : Int) (n1 : Nat) (d : Int × Int) : Bool := fromB 0 d.2 6 && (decide (d.1 = 0) || (monthsB fq n1 && placeB 5 d.1))
set_option maxHeartbeats 2000000 in
theorem dayMay_any (d : Int × Int) (w : World) :
    Calls Try.prog 42 #[.agg (rc9 fq iv_ ct un A1 A2 A3 A4 n1 n2 n3 n4 c1 c2 c3 c4 st), .agg #[.int .i64 d.1, .int .i64 d.2]] w fun e w' => e = .returned (.bool (dayB fq n1 d)) ∧ Below w.heap.size w w' := by
  obtain ⟨q, hq⟩ : ∃ q, dayB fq n1 d = q := ⟨_, rfl⟩
  rw [hq]
  obtain ⟨x, y⟩ := d
  have HFR := Lib.hid (fun w => isFrom_any 0 y 6 w)
  have HMO := Lib.hid (fun w => hasMonths_any fq iv_ ct un A1 A2 A3 A4 n1 n2 n3 n4 c1 c2 c3 c4 st w)
  unfold rc9 at *
  simp only
  obtain ⟨W, hW⟩ : ∃ W, (w.alloc (.cells #[.int .i64 fq, .int .i64 iv_, .int .i64 ct, .int .i64 un, .slice A1 n1 c1, .slice A2 n2 c2, .slice A3 n3 c3, .slice A4 n4 c4, .int .i64 st] 25)).alloc (.cells #[.int .i64 x, .int .i64 y] 58) = W := ⟨_, rfl⟩
  have HW := Lib.hid hW
  have BW : Hid (Below w.heap.size w W) := by show Below _ _ _; rw [← hW]; exact ((Below.refl _ w).alloc (Nat.le_refl _) _).alloc (by simp) _
  have CR : Hid (∀ g : Gr W, ∀ k v, (rc9 fq iv_ ct un A1 A2 A3 A4 n1 n2 n3 n4 c1 c2 c3 c4 st)[k]? = some v → g.val.cell? ⟨w.heap.size, k, none⟩ = some v) := by
    intro g k v h
    refine cell_old (w := W) ?_ g.ok
    rw [← hW]
    exact cell_old (box_at (w := w) (t := 25) h ⟨_, Below.refl _ _⟩) ((Below.refl _ _).alloc (Nat.le_refl _) _)
  have CD : Hid (∀ g : Gr W, ∀ k v, (#[.int .i64 x, .int .i64 y] : Array Value)[k]? = some v → g.val.cell? ⟨w.heap.size + 1, k, none⟩ = some v) := by
    intro g k v h
    refine cell_old (w := W) ?_ g.ok
    rw [← hW]
    have := box_at (w := w.alloc (.cells (rc9 fq iv_ ct un A1 A2 A3 A4 n1 n2 n3 n4 c1 c2 c3 c4 st) 25)) (t := 58) h ⟨_, Below.refl _ _⟩
    simpa [rc9] using this
  clear hW
  have d1 : W.cell? ⟨w.heap.size + 1, 1, none⟩ = some (.int .i64 y) := CD.out ⟨W, Below.refl _ _⟩ 1 _ rfl
  by_cases h1 : fromB 0 y 6 = true
  · rw [h1] at HFR
    by_cases h2 : x = 0
    · have E' : Hid (q = true) := by show _ = _; rw [← hq]; unfold dayB; simp [h1, h2]
      clear hq h1
      subst h2
      have e00 : W.cell? ⟨w.heap.size + 1, 0, none⟩ = some (.int .i64 0) := CD.out ⟨W, Below.refl _ _⟩ 0 _ rfl
      go_enter Try.func42, Try.ntmps42
      go_upto_region 1 with fail
      rw [HW.out]
      go_upto_region 3 with (go_at_call 33; (with_reducible refine (HFR.out _).mono ?_); rintro e w' ⟨rfl, rfl⟩)
      go_quiet (fail)
      obtain ⟨g2, hg2⟩ : ∃ g2 : Gr W, W.drewN nq = g2.val := ⟨⟨_, drewN_below _ _⟩, rfl⟩
      rw [hg2]
      go_wp2
      go_ret
      exact ⟨ret_bool E'.out.symm, BW.out.trans (g2.ok.mono BW.out.size)⟩
    · have h2b : (x == 0) = false := by simpa using h2
      have e00 : W.cell? ⟨w.heap.size + 1, 0, none⟩ = some (.int .i64 x) := CD.out ⟨W, Below.refl _ _⟩ 0 _ rfl
      have HL : Hid (∀ g : Gr W, g.val.cell? ⟨w.heap.size + 1, 0, none⟩ = some (.int .i64 x) ∧ g.val.cell? ⟨w.heap.size, 0, none⟩ = some (.int .i64 fq) ∧ g.val.cell? ⟨w.heap.size, 0 + 1, none⟩ = some (.int .i64 iv_) ∧ g.val.cell? ⟨w.heap.size, 0 + 2, none⟩ = some (.int .i64 ct) ∧ g.val.cell? ⟨w.heap.size, 0 + 3, none⟩ = some (.int .i64 un) ∧ g.val.cell? ⟨w.heap.size, 0 + 4, none⟩ = some (.slice A1 n1 c1) ∧ g.val.cell? ⟨w.heap.size, 0 + 5, none⟩ = some (.slice A2 n2 c2) ∧ g.val.cell? ⟨w.heap.size, 0 + 6, none⟩ = some (.slice A3 n3 c3) ∧ g.val.cell? ⟨w.heap.size, 0 + 7, none⟩ = some (.slice A4 n4 c4) ∧ g.val.cell? ⟨w.heap.size, 0 + 8, none⟩ = some (.int .i64 st)) := fun g =>
        ⟨CD.out g 0 _ rfl, CR.out g 0 _ rfl, CR.out g 1 _ rfl, CR.out g 2 _ rfl, CR.out g 3 _ rfl, CR.out g 4 _ rfl, CR.out g 5 _ rfl, CR.out g 6 _ rfl, CR.out g 7 _ rfl, CR.out g 8 _ rfl⟩
      obtain ⟨m, hm⟩ : ∃ m, monthsB fq n1 = m := ⟨_, rfl⟩
      have HMm := Lib.hid hm
      rw [hm] at HMO
      clear hm
      cases m with
      | false =>
        have E' : Hid (q = false) := by show _ = _; rw [← hq]; unfold dayB; rw [h1, HMm.out]; simp [h2]
        clear hq h1
        go_enter Try.func42, Try.ntmps42
        go_upto_region 1 with fail
        rw [HW.out]
        go_upto_region 3 with (go_at_call 33; (with_reducible refine (HFR.out _).mono ?_); rintro e w' ⟨rfl, rfl⟩)
        have L0 := fun g : Gr W => (HL.out g).1
        have L1 := fun g : Gr W => (HL.out g).2.1
        have L2 := fun g : Gr W => (HL.out g).2.2.1
        have L3 := fun g : Gr W => (HL.out g).2.2.2.1
        have L4 := fun g : Gr W => (HL.out g).2.2.2.2.1
        have L5 := fun g : Gr W => (HL.out g).2.2.2.2.2.1
        have L6 := fun g : Gr W => (HL.out g).2.2.2.2.2.2.1
        have L7 := fun g : Gr W => (HL.out g).2.2.2.2.2.2.2.1
        have L8 := fun g : Gr W => (HL.out g).2.2.2.2.2.2.2.2.1
        have L9 := fun g : Gr W => (HL.out g).2.2.2.2.2.2.2.2.2
        refine Gr.region (by kernel_rfl) (by kernel_rfl) (Gr.draw0 _) ?_
        repeat (go_big_quiet_step ((go_at_call 54; exact Gr.calls _ (HMO.out _))))
        refine wpQuiet_nil ?_
        rintro _ ⟨g2, rfl⟩
        have HG : Hid (Below w.heap.size w g2.val) := BW.out.trans (g2.ok.mono BW.out.size)
        go_wp2
        go_ret
        exact ⟨ret_bool E'.out.symm, HG.out⟩
      | true =>
        have HP := Lib.hid (fun (b : Nat) (w : World) hc => isPlace1_any 5 x b w (by omega) hc)
        have HI := Lib.hid (fun (w : World) => isPlace_any 5 w)
        have E' : Hid (placeB 5 x = q) := by show _ = _; rw [← hq]; unfold dayB; rw [h1, HMm.out]; simp [h2]
        rw [E'.out] at HP
        clear hq h1
        go_enter Try.func42, Try.ntmps42
        go_upto_region 1 with fail
        rw [HW.out]
        go_upto_region 3 with (go_at_call 33; (with_reducible refine (HFR.out _).mono ?_); rintro e w' ⟨rfl, rfl⟩)
        go_region_held3 (fun w' => w'.cell? ⟨w.heap.size + 1, 0, none⟩ = some (.int .i64 x) ∧ w'.cell? ⟨w.heap.size, 0, none⟩ = some (.int .i64 fq) ∧ w'.cell? ⟨w.heap.size, 0 + 1, none⟩ = some (.int .i64 iv_) ∧ w'.cell? ⟨w.heap.size, 0 + 2, none⟩ = some (.int .i64 ct) ∧ w'.cell? ⟨w.heap.size, 0 + 3, none⟩ = some (.int .i64 un) ∧ w'.cell? ⟨w.heap.size, 0 + 4, none⟩ = some (.slice A1 n1 c1) ∧ w'.cell? ⟨w.heap.size, 0 + 5, none⟩ = some (.slice A2 n2 c2) ∧ w'.cell? ⟨w.heap.size, 0 + 6, none⟩ = some (.slice A3 n3 c3) ∧ w'.cell? ⟨w.heap.size, 0 + 7, none⟩ = some (.slice A4 n4 c4) ∧ w'.cell? ⟨w.heap.size, 0 + 8, none⟩ = some (.int .i64 st))
          (first | exact HL.out ⟨_, (drew_below W)⟩ | exact HL.out ⟨_, (drew_below W).trans hb4⟩ | exact HL.out ⟨_, ((drew_below W).trans hb4).trans ((below1 w4 _).mono ((drew_below W).trans hb4).size)⟩)
          (first
            | (go_at_call 54; refine (HMO.out _).mono ?_; rintro e w4 ⟨rfl, hb4⟩)
            | (go_at_call 38; refine (HI.out _).mono ?_; rintro e w5 ⟨rfl, rfl⟩)
            | (go_at_call 53; refine (HP.out _ _ (by simp [go_sem])).mono ?_; rintro e w6 ⟨rfl, rfl⟩))
        have HG : Hid (Below w.heap.size w w4) := BW.out.trans (((drew_below W).trans hb4).mono BW.out.size)
        have HG2 := Lib.hid (fun o : Obj => HG.out.trans ((below1 w4 o).mono HG.out.size))
        go_wp2
        go_ret
        exact ⟨ret_bool rfl, HG2.out _⟩
  · have h1' : fromB 0 y 6 = false := by simpa using h1
    have E' : Hid (q = false) := by show _ = _; rw [← hq]; unfold dayB; simp [h1']
    rw [h1'] at HFR
    clear hq h1 h1'
    go_enter Try.func42, Try.ntmps42
    go_upto_region 1 with fail
    rw [HW.out]
    go_wp2_with (go_at_call 33; (with_reducible refine (HFR.out _).mono ?_); rintro e w' ⟨rfl, rfl⟩)
    go_ret
    exact ⟨ret_bool E'.out.symm, BW.out⟩
end
end Go.Proofs.Ytnccgfdaddbndaa
end
