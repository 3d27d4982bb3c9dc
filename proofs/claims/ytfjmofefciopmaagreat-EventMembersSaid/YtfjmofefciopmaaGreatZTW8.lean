import Derived.Test.YtfjmofefciopmaaGreatZTW7
import Derived.Test.YtfjmofefciopmaaGreatZQW5
import Derived.BigQuiet
import Derived.Deep.QuietTactic
/- Contract of the document's times. -/
section
namespace Go.Proofs.YtfjmofefciopmaaGreat
open Go.ChangeShapes Go.WideShapes Go.ChangeAt Go.RowKit Go.Joins Qr Tm Cal
set_option maxRecDepth 100000 in
set_option maxHeartbeats 8000000 in
theorem rtimes_any (r : R) (A1 A2 A3 A4 : Option Addr) (c1 c2 c3 c4 : Nat) (start below : Int) (hstart : -9223372036854775808 ≤ start ∧ start ≤ 9223372036854775807) (w : World) (hr : RAt w r A1 A2 A3 A4 c1 c2 c3 c4) (hm : Qr.mayP r) (h0 : 0 ≤ start) (h1 : start < 158310720) :
  Calls Tryz.prog 43 #[.agg (rcells r A1 A2 A3 A4 c1 c2 c3 c4), .int .i64 start, .int .i64 below] w (RetIO (timesL r start below) w) := by
 have hru := Rule1.of hm
 have hiv : 1 ≤ r.iv ∧ r.iv ≤ 999 := by have := hm.1; omega
 obtain ⟨sn, hsn⟩ : ∃ sn : Nat, start / 1440 = sn := ⟨(start / 1440).toNat, by omega⟩
 have hsn2 : sn ≤ 109937 := by omega
 have hs := dt_bd (n := sn) (by omega)
 have hsin : inDt (dt sn) := hs
 have hbg : 0 ≤ beg r (dt sn) ∧ beg r (dt sn) ≤ sn := by
  have hd := dt_in hsn2
  have hn := dt_n sn
  have hst := hru.start
  unfold beg
  have hnum : 0 ≤ numI (dt sn).y 1 1 ∧ numI (dt sn).y 1 1 ≤ sn := by
   have a := hd.1
   have c := cum_bd (dt sn).y (dt sn).m
   have y0 := ys_bd (dt sn).y a.1 (by have := a.2.1; omega)
   have e := hd.2
   unfold numI at e ⊢
   rw [cum_one]
   have := a.2.2.1
   omega
  have hmon : 0 ≤ (dt sn).n - (dt sn).d + 1 := by
   have a := hd.1
   have c := cum_bd (dt sn).y (dt sn).m
   have y0 := ys_bd (dt sn).y a.1 (by have := a.2.1; omega)
   have e := hd.2
   unfold numI at e
   rw [hn]; omega
  have := hd.1.2.2.1
  repeat' split
  all_goals omega
 obtain ⟨bg, hbe⟩ : ∃ bg : Nat, beg r (dt sn) = bg := ⟨(beg r (dt sn)).toNat, by omega⟩
 have hrun : timesL r start below = run r (dt sn) start below (109939 - bg) bg [] [] 0 := by
  unfold timesL
  rw [if_pos ⟨hm, h0, h1⟩, hsn, Int.toNat_natCast, hbe, Int.toNat_natCast]
 obtain ⟨res, hres⟩ : ∃ res, timesL r start below = res := ⟨_, rfl⟩
 rw [hres] at hrun ⊢
 obtain ⟨rn, hrn⟩ : ∃ rn : Nat → List Int → List Int → Int → List Int, rn = fun n out l last => run r (dt sn) start below (109939 - n) n out l last := ⟨_, rfl⟩
 have HR0 : Hid (∀ out l last, rn 109939 out l last = out) := fun out l last => by rw [hrn]; rfl
 have HRN : Hid (∀ n out l last, n ≤ 109938 → ¬ flush r (dt sn) n last → rn n out l last = rn (n + 1) out (if good r (dt sn) n then l ++ [(n : Int)] else l) last) := fun n out l last hn hf => by
  rw [hrn]; show run r (dt sn) start below (109939 - n) n out l last = _
  rw [show 109939 - n = (109939 - (n + 1)) + 1 by omega, run_no hf]
 have HRR : Hid (∀ n out l last, n ≤ 109938 → flush r (dt sn) n last → below ≤ (n : Int) → rn n out l last = addAll r (dt sn) start below out (keptL r l)) := fun n out l last hn hf hb => by
  rw [hrn]; show run r (dt sn) start below (109939 - n) n out l last = _
  rw [show 109939 - n = (109939 - (n + 1)) + 1 by omega, run_ret hf hb]
 have HRG0 : Hid (∀ n out l last, n ≤ 109938 → flush r (dt sn) n last → ¬ below ≤ (n : Int) → rn n out l last = rn (n + 1) (addAll r (dt sn) start below out (keptL r l)) (if good r (dt sn) n then [(n : Int)] else []) (if n < 109938 then per r (dt sn) (dt n) else 0)) := fun n out l last hn hf hb => by
  rw [hrn]; show run r (dt sn) start below (109939 - n) n out l last = _
  rw [show 109939 - n = (109939 - (n + 1)) + 1 by omega, run_go hf hb]
 have HRUN : Hid (rn bg [] [] 0 = res) := by show _ = _; rw [hrn, hrun]
 clear hrn
 have HM : Hid (∀ w', Below w.heap.size w w' → Calls Tryz.prog 33 #[.agg (rcells r A1 A2 A3 A4 c1 c2 c3 c4)] w' fun e w2 => e = .returned (.bool true) ∧ Below w'.heap.size w' w2) := fun w' hb => by
  have := rmay9_any r A1 A2 A3 A4 c1 c2 c3 c4 w' (hr.below hb (Nat.le_refl _))
  rw [show Qr.mayB r = true from decide_eq_true hm] at this
  exact this
 have HOf1 : Hid (∀ w', Calls Tryz.prog 79 #[.int .i64 sn] w' fun e w2 => e = .returned (dv (dt sn)) ∧ Below w'.heap.size w' w2) := fun w' => rof10_any sn hsn2 w'
 have HOf2 : Hid (∀ w', Calls Tryz.prog 79 #[.int .i64 bg] w' fun e w2 => e = .returned (dv (dt bg)) ∧ Below w'.heap.size w' w2) := fun w' => rof10_any bg (by omega) w'
 have HBeg : Hid (∀ w', Calls Tryz.prog 80 #[.agg (rcells r A1 A2 A3 A4 c1 c2 c3 c4), dv (dt sn)] w' fun e w2 => e = .returned (.int .i64 bg) ∧ Below w'.heap.size w' w2) := fun w' => by
  have := rbegin10_any r A1 A2 A3 A4 c1 c2 c3 c4 (dt sn) hru hsin (dt_in hsn2).1.2.1 w'
  rwa [hbe] at this
 have hq1 : start.tdiv 1440 = (sn : Int) := by rw [Int.tdiv_eq_ediv_of_nonneg h0, hsn]
 have hq2 : start.tmod 1440 = start % 1440 := Int.tmod_eq_emod_of_nonneg h0
 have HR : Hid (∀ w', Below w.heap.size w w' → RAt w' r A1 A2 A3 A4 c1 c2 c3 c4) := fun w' hb => hr.below hb (Nat.le_refl _)
 obtain ⟨W2, hW2⟩ : ∃ W2, (w.alloc (.cells (rcells r A1 A2 A3 A4 c1 c2 c3 c4) 28)).alloc (.cells #[] 2) = W2 := ⟨_, rfl⟩
 have E2 := Lib.hid hW2
 have hL2 : Below w.heap.size w W2 := by rw [← hW2]; exact ((Below.refl _ w).alloc (Nat.le_refl _) _).alloc (by simp) _
 have hB2 : W2.heap[w.heap.size]? = some (.cells (rcells r A1 A2 A3 A4 c1 c2 c3 c4) 28 (0, 0)) := by rw [← hW2, heap_alloc_old _ _ (by simp), heap_alloc_new]
 have hO2 : W2.heap[w.heap.size + 1]? = some (.cells #[] 2 (0, 0)) := by
  rw [← hW2, show w.heap.size + 1 = (w.alloc (.cells (rcells r A1 A2 A3 A4 c1 c2 c3 c4) 28)).heap.size by simp, heap_alloc_new]
 have HL2 := Lib.hid hL2
 have HB2 := Lib.hid hB2
 have HO2 := Lib.hid hO2
 have R0 := blk_cell hB2 (i := 0) (v := .int .i64 r.freq) rfl
 have R1 := blk_cell hB2 (i := 1) (v := .int .i64 r.iv) rfl
 have R2 := blk_cell hB2 (i := 2) (v := .int .i64 r.count) rfl
 have R3 := blk_cell hB2 (i := 3) (v := .int .i64 r.until_) rfl
 have R4 := blk_cell hB2 (i := 4) (v := .slice A1 r.bm.length c1) rfl
 have R5 := blk_cell hB2 (i := 5) (v := .slice A2 r.bd.length c2) rfl
 have R6 := blk_cell hB2 (i := 6) (v := .slice A3 r.bw.length c3) rfl
 have R7 := blk_cell hB2 (i := 7) (v := .slice A4 r.bs.length c4) rfl
 have R8 := blk_cell hB2 (i := 8) (v := .int .i64 r.start) rfl
 clear hW2 hL2 hB2 hO2 hrun hres hr hm
 unfold rcells at E2
 unfold rcells
 go_enter Tryz.func43, Tryz.ntmps43
 go_upto_region 2 with fail
 rw [E2.out]
 go_wp2_with fail
 go_at_call 33
 refine (HM.out W2 HL2.out).mono ?_
 rintro e w3 ⟨rfl, hb3⟩
 go_wp2_with fail
 go_at_call 79
 refine (HOf1.out w3).mono ?_
 rintro e w4 ⟨rfl, hb4⟩
 obtain ⟨W5, hW5⟩ : ∃ W5, (w4.alloc (.cells (dcells (dt sn)) 109)).alloc (.cells #[] 3) = W5 := ⟨_, rfl⟩
 have hb24 : Below W2.heap.size W2 w4 := hb3.trans (hb4.mono hb3.size)
 have hb45 : Below w4.heap.size w4 W5 := by rw [← hW5]; exact ((Below.refl _ _).alloc (Nat.le_refl _) _).alloc (by simp) _
 have hb25 : Below W2.heap.size W2 W5 := hb24.trans (hb45.mono hb24.size)
 have hR5 := blk_below HB2.out hb25
 have hO5 := blk_below HO2.out hb25
 have hS5 : W5.heap[w4.heap.size]? = some (.cells (dcells (dt sn)) 109 (0, 0)) := by rw [← hW5, heap_alloc_old _ _ (by simp), heap_alloc_new]
 have hL5 : W5.heap[w4.heap.size + 1]? = some (.cells #[] 3 (0, 0)) := by
  rw [← hW5, show w4.heap.size + 1 = (w4.alloc (.cells (dcells (dt sn)) 109)).heap.size by simp, heap_alloc_new]
 have HB25 := Lib.hid hb25
 have HW4 : Hid (W2.heap.size ≤ w4.heap.size) := hb24.size
 have HR5 := Lib.hid hR5
 have HO5 := Lib.hid hO5
 have HS5 := Lib.hid hS5
 have HL5 := Lib.hid hL5
 have E5 := Lib.hid hW5
 clear R0 R1 R2 R3 R4 R5 R6 R7 R8 HM HOf1 E2 hb3 hb4 hb24 hb45 hb25 hW5
 have R0 := blk_cell hR5 (i := 0) (v := .int .i64 r.freq) rfl
 have R1 := blk_cell hR5 (i := 1) (v := .int .i64 r.iv) rfl
 have R2 := blk_cell hR5 (i := 2) (v := .int .i64 r.count) rfl
 have R3 := blk_cell hR5 (i := 3) (v := .int .i64 r.until_) rfl
 have R4 := blk_cell hR5 (i := 4) (v := .slice A1 r.bm.length c1) rfl
 have R5 := blk_cell hR5 (i := 5) (v := .slice A2 r.bd.length c2) rfl
 have R6 := blk_cell hR5 (i := 6) (v := .slice A3 r.bw.length c3) rfl
 have R7 := blk_cell hR5 (i := 7) (v := .slice A4 r.bs.length c4) rfl
 have R8 := blk_cell hR5 (i := 8) (v := .int .i64 r.start) rfl
 have S0 := blk_cell hS5 (i := 0) (v := .int .i64 (dt sn).n) rfl
 have S1 := blk_cell hS5 (i := 1) (v := .int .i64 (dt sn).y) rfl
 have S2 := blk_cell hS5 (i := 2) (v := .int .i64 (dt sn).m) rfl
 have S3 := blk_cell hS5 (i := 3) (v := .int .i64 (dt sn).d) rfl
 have S4 := blk_cell hS5 (i := 4) (v := .int .i64 (dt sn).w) rfl
 clear hR5 hO5 hS5 hL5
 unfold dv dcells at HBeg
 unfold dcells at E5
 unfold dv dcells
 go_upto_region 7 with fail
 rw [E5.out]
 go_wp2_with fail
 go_at_call 80
 refine (HBeg.out W5).mono ?_
 rintro e w6 ⟨rfl, hb6⟩
 go_wp2_with fail
 go_at_call 79
 refine (HOf2.out w6).mono ?_
 rintro e w7 ⟨rfl, hb7⟩
 have hb57 : Below W5.heap.size W5 w7 := hb6.trans (hb7.mono hb6.size)
 obtain ⟨W8, hW8⟩ : ∃ W8, w7.alloc (.cells (dcells (dt bg)) 109) = W8 := ⟨_, rfl⟩
 have hb58 : Below W5.heap.size W5 W8 := by rw [← hW8]; exact hb57.alloc hb57.size _
 have T0 : TSt w W8 (rcells r A1 A2 A3 A4 c1 c2 c3 c4) w.heap.size w4.heap.size (w.heap.size + 1) 0 (w4.heap.size + 1) 0 w7.heap.size (dt sn) (dt bg) [] [] := by
  have q1 := HL2.out.size
  have q2 := HW4.out
  have q3 := heap_lt' HL5.out
  have q4 := heap_lt' HO2.out
  have q5 := hb57.size
  refine ⟨(HL2.out.trans (HB25.out.mono HL2.out.size)).trans (hb58.mono (Nat.le_trans HL2.out.size HB25.out.size)), blk_below HR5.out hb58, blk_below HS5.out hb58, by rw [← hW8, heap_alloc_new], ⟨rfl, .inr ⟨w.heap.size + 1, 0, #[], rfl, by omega, blk_below HO5.out hb58, Nat.le_refl _, by decide, rfl, rfl⟩⟩, ⟨rfl, .inr ⟨w4.heap.size + 1, 0, #[], rfl, by omega, blk_below HL5.out hb58, Nat.le_refl _, by decide, rfl, rfl⟩⟩, ⟨by omega, by omega, by omega, by omega⟩, ⟨by omega, by omega, by omega⟩, by omega⟩
 have HT0 := Lib.hid T0
 have HDB : Hid (w7.heap.size ≠ w.heap.size ∧ w7.heap.size ≠ w4.heap.size) := by
  have q1 := HL2.out.size
  have q2 := HW4.out
  have q3 := heap_lt' HL5.out
  have q4 := heap_lt' HO2.out
  have q5 := hb57.size
  exact ⟨by omega, by omega⟩
 have HNE : Hid (w.heap.size < w4.heap.size) := by show _ < _; have := heap_lt' HO2.out; have := HW4.out; omega
 have E8 := Lib.hid hW8
 generalize w4.heap.size = sb at *
 clear R0 R1 R2 R3 R4 R5 R6 R7 R8 S0 S1 S2 S3 S4 HBeg HOf2 E5 HR5 HO5 HS5 HL5 hb6 hb7 hb57 hb58 hW8 T0 HB25 HL2 HB2 HO2 HW4
 unfold dv dcells
 -- THE LOOP
 go_wp2_with fail
 obtain ⟨i0, hi0, p0, p1, p2⟩ := info_parts int_info10
 obtain ⟨j0, hj0, t0, t1, t2⟩ := info_parts int64_info10
 have HRt : Hid (∀ (n : Nat), n ≤ 109937 → ∀ w', Below w.heap.size w w' → Calls Tryz.prog 84 #[.agg (rcells r A1 A2 A3 A4 c1 c2 c3 c4), dv (dt sn), dv (dt n)] w' fun e w2 => e = .returned (.bool (rightB r (dt sn) (dt n))) ∧ Below w'.heap.size w' w2) := fun n hn w' hb => rright10_any r A1 A2 A3 A4 c1 c2 c3 c4 (dt sn) (dt n) hsin (dt_bd (by omega)) (dt_in hn).1.2.2.2 w' (HR.out w' hb)
 have HK : Hid (∀ (l : List Int) (A : Option Addr) (c : Nat) w', l.length ≤ 1000000 → Below w.heap.size w w' → Sl w' A l.length c (iv l) → Calls Tryz.prog 83 #[.agg (rcells r A1 A2 A3 A4 c1 c2 c3 c4), .slice A l.length c] w' (RetK A (keptL r l) w')) := fun l A c w' hl hb hs => rkept10_any r A1 A2 A3 A4 c1 c2 c3 c4 l A c hl w' (HR.out w' hb) hs
 have HPer : Hid (∀ (n : Nat), n ≤ 109938 → bg ≤ n → ∀ w', Calls Tryz.prog 82 #[.agg (rcells r A1 A2 A3 A4 c1 c2 c3 c4), dv (dt sn), dv (dt n)] w' fun e w2 => e = .returned (.int .i64 (per r (dt sn) (dt n))) ∧ Below w'.heap.size w' w2) := fun n hn hb w' => rperiod10_any r A1 A2 A3 A4 c1 c2 c3 c4 (dt sn) (dt n) hru hsin (dt_bd hn) (fun h2 => by
  have e : beg r (dt sn) = max 0 ((dt sn).n - ((dt sn).w - r.start + 7) % 7) := by unfold beg; rw [if_neg (by omega), if_pos h2]
  rw [hbe] at e
  rw [dt_n]
  omega) w'
 have HNx : Hid (∀ (n : Nat), n ≤ 109938 → ∀ w', Calls Tryz.prog 81 #[dv (dt n)] w' fun e w2 => e = .returned (dv (nx (dt n))) ∧ Below w'.heap.size w' w2) := fun n hn w' => rnext10_any (dt n) (dt_bd hn) w'
 unfold dv dcells rcells at HRt HPer
 unfold rcells at HK
 unfold dv dcells at HNx
 unfold dcells at E8
 rw [E8.out]
 generalize w7.heap.size = db at *
 clear E8
 go_loopw [7, 9, 10, 11] (fun s7 s9 s10 s11 wr => ∃ (n : Nat) (out l : List Int) (last : Int) (ob ocap lb lcap db : Nat) (t : Dt), n ≤ 109939 ∧ s7 = .slice (some ⟨ob, 0, none⟩) out.length ocap ∧ s9 = .slice (some ⟨lb, 0, none⟩) l.length lcap ∧ s10 = .int .i64 last ∧ s11 = .pointer (some ⟨db, 0, none⟩) ∧ Hid (TSt w wr (rcells r A1 A2 A3 A4 c1 c2 c3 c4) w.heap.size sb ob ocap lb lcap db (dt sn) t out l) ∧ Hid (t.n = n ∧ (n ≤ 109938 → t = dt n) ∧ db ≠ w.heap.size ∧ db ≠ sb) ∧ bg ≤ n ∧ out.length + l.length ≤ n ∧ Hid (∀ x ∈ l, 0 ≤ x ∧ x ≤ 109938) ∧ Hid (rn n out l last = res)) (fun _ _ _ s11 wr => 109940 - dayOf s11 wr)
 case atStart => exact ⟨bg, [], [], 0, w.heap.size + 1, 0, sb + 1, 0, db, dt bg, by omega, rfl, rfl, rfl, rfl, HT0.out, ⟨dt_n bg, fun _ => rfl, HDB.out.1, HDB.out.2⟩, Nat.le_refl _, by simp, (fun x hx => by cases hx), HRUN.out⟩
 case round =>
  obtain ⟨n, out, l, last, ob, ocap, lb, lcap, db, t, hn, rfl, rfl, rfl, rfl, HT, HX, hbn, hln, HMEM, HI⟩ := hrel
  by_cases h38 : n ≤ 109938
  ·obtain rfl : t = dt n := HX.out.2.1 h38
   have hnn : (dt n).n = (n : Int) := dt_n n
   have h38z : (n : Int) ≤ 109938 := by omega
   have R0 := blk_cell HT.out.hr (i := 0) (v := .int .i64 r.freq) rfl
   have R1 := blk_cell HT.out.hr (i := 1) (v := .int .i64 r.iv) rfl
   have R2 := blk_cell HT.out.hr (i := 2) (v := .int .i64 r.count) rfl
   have R3 := blk_cell HT.out.hr (i := 3) (v := .int .i64 r.until_) rfl
   have R4 := blk_cell HT.out.hr (i := 4) (v := .slice A1 r.bm.length c1) rfl
   have R5 := blk_cell HT.out.hr (i := 5) (v := .slice A2 r.bd.length c2) rfl
   have R6 := blk_cell HT.out.hr (i := 6) (v := .slice A3 r.bw.length c3) rfl
   have R7 := blk_cell HT.out.hr (i := 7) (v := .slice A4 r.bs.length c4) rfl
   have R8 := blk_cell HT.out.hr (i := 8) (v := .int .i64 r.start) rfl
   have S0 := blk_cell HT.out.hs (i := 0) (v := .int .i64 (dt sn).n) rfl
   have S1 := blk_cell HT.out.hs (i := 1) (v := .int .i64 (dt sn).y) rfl
   have S2 := blk_cell HT.out.hs (i := 2) (v := .int .i64 (dt sn).m) rfl
   have S3 := blk_cell HT.out.hs (i := 3) (v := .int .i64 (dt sn).d) rfl
   have S4 := blk_cell HT.out.hs (i := 4) (v := .int .i64 (dt sn).w) rfl
   have D0 := blk_cell HT.out.hd (i := 0) (v := .int .i64 (dt n).n) rfl
   have D1 := blk_cell HT.out.hd (i := 1) (v := .int .i64 (dt n).y) rfl
   have D2 := blk_cell HT.out.hd (i := 2) (v := .int .i64 (dt n).m) rfl
   have D3 := blk_cell HT.out.hd (i := 3) (v := .int .i64 (dt n).d) rfl
   have D4 := blk_cell HT.out.hd (i := 4) (v := .int .i64 (dt n).w) rfl
   rw [hnn] at D0
   have hday : dayOf (.pointer (some ⟨db, 0, none⟩)) wr = n := by rw [dayOf_at D0]; simp
   have HDAY := Lib.hid hday
   clear hday
   by_cases h37 : n < 109938
   ·have h37z : (n : Int) < 109938 := by omega
    have hne38 : ((n : Int) == 109938) = false := beq_false_of_ne (by omega)
    have hpb := per_bd (r := r) (s := dt sn) (n := n) hru hsin h38
    have HP := Lib.hid (HPer.out n h38 hbn)
    rw [hnn] at HP
    obtain ⟨p, hp⟩ : ∃ p, per r (dt sn) (dt n) = p := ⟨_, rfl⟩
    rw [hp] at HP hpb
    have HPE := Lib.hid hp
    clear hp
    go_wp2_with fail
    go_at_call 82
    refine (HP.out wr).mono ?_
    rintro e wp ⟨rfl, hbp⟩
    have TP := Lib.hid (HT.out.below hbp)
    clear hbp
    clear R0 R1 R2 R3 R4 R5 R6 R7 R8 S0 S1 S2 S3 S4 D0 D1 D2 D3 D4
    have R0 := blk_cell TP.out.hr (i := 0) (v := .int .i64 r.freq) rfl
    have R1 := blk_cell TP.out.hr (i := 1) (v := .int .i64 r.iv) rfl
    have R2 := blk_cell TP.out.hr (i := 2) (v := .int .i64 r.count) rfl
    have R3 := blk_cell TP.out.hr (i := 3) (v := .int .i64 r.until_) rfl
    have R4 := blk_cell TP.out.hr (i := 4) (v := .slice A1 r.bm.length c1) rfl
    have R5 := blk_cell TP.out.hr (i := 5) (v := .slice A2 r.bd.length c2) rfl
    have R6 := blk_cell TP.out.hr (i := 6) (v := .slice A3 r.bw.length c3) rfl
    have R7 := blk_cell TP.out.hr (i := 7) (v := .slice A4 r.bs.length c4) rfl
    have R8 := blk_cell TP.out.hr (i := 8) (v := .int .i64 r.start) rfl
    have S0 := blk_cell TP.out.hs (i := 0) (v := .int .i64 (dt sn).n) rfl
    have S1 := blk_cell TP.out.hs (i := 1) (v := .int .i64 (dt sn).y) rfl
    have S2 := blk_cell TP.out.hs (i := 2) (v := .int .i64 (dt sn).m) rfl
    have S3 := blk_cell TP.out.hs (i := 3) (v := .int .i64 (dt sn).d) rfl
    have S4 := blk_cell TP.out.hs (i := 4) (v := .int .i64 (dt sn).w) rfl
    have D0 := blk_cell TP.out.hd (i := 0) (v := .int .i64 (dt n).n) rfl
    have D1 := blk_cell TP.out.hd (i := 1) (v := .int .i64 (dt n).y) rfl
    have D2 := blk_cell TP.out.hd (i := 2) (v := .int .i64 (dt n).m) rfl
    have D3 := blk_cell TP.out.hd (i := 3) (v := .int .i64 (dt n).d) rfl
    have D4 := blk_cell TP.out.hd (i := 4) (v := .int .i64 (dt n).w) rfl
    rw [hnn] at D0
    have HRG := Lib.hid (HRt.out n (by omega))
    rw [hnn] at HRG
    by_cases hf : p = last
    ·subst hf
     have hfb : (p != p) = false := by simp
     have HIN : Hid (rn (n + 1) out (if good r (dt sn) n then l ++ [(n : Int)] else l) p = res) := by
      show _ = _; rw [← HI.out]; exact (HRN.out n out l p h38 (flush_not h37 HPE.out)).symm
     by_cases hg : p % r.iv = 0
     ·have hgz : (p.tmod r.iv == 0) = true := by rw [rem_zero]; simpa using hg
      go_upto_region 26 with fail
      go_wp2_with fail
      go_at_call 84
      refine (HRG.out wp TP.out.fr).mono ?_
      rintro e wq ⟨rfl, hbq⟩
      have TR := Lib.hid (TP.out.below hbq)
      clear hbq
      clear R0 R1 R2 R3 R4 R5 R6 R7 R8 S0 S1 S2 S3 S4 D0 D1 D2 D3 D4
      have R0 := blk_cell TR.out.hr (i := 0) (v := .int .i64 r.freq) rfl
      have R1 := blk_cell TR.out.hr (i := 1) (v := .int .i64 r.iv) rfl
      have R2 := blk_cell TR.out.hr (i := 2) (v := .int .i64 r.count) rfl
      have R3 := blk_cell TR.out.hr (i := 3) (v := .int .i64 r.until_) rfl
      have R4 := blk_cell TR.out.hr (i := 4) (v := .slice A1 r.bm.length c1) rfl
      have R5 := blk_cell TR.out.hr (i := 5) (v := .slice A2 r.bd.length c2) rfl
      have R6 := blk_cell TR.out.hr (i := 6) (v := .slice A3 r.bw.length c3) rfl
      have R7 := blk_cell TR.out.hr (i := 7) (v := .slice A4 r.bs.length c4) rfl
      have R8 := blk_cell TR.out.hr (i := 8) (v := .int .i64 r.start) rfl
      have S0 := blk_cell TR.out.hs (i := 0) (v := .int .i64 (dt sn).n) rfl
      have S1 := blk_cell TR.out.hs (i := 1) (v := .int .i64 (dt sn).y) rfl
      have S2 := blk_cell TR.out.hs (i := 2) (v := .int .i64 (dt sn).m) rfl
      have S3 := blk_cell TR.out.hs (i := 3) (v := .int .i64 (dt sn).d) rfl
      have S4 := blk_cell TR.out.hs (i := 4) (v := .int .i64 (dt sn).w) rfl
      have D0 := blk_cell TR.out.hd (i := 0) (v := .int .i64 (dt n).n) rfl
      have D1 := blk_cell TR.out.hd (i := 1) (v := .int .i64 (dt n).y) rfl
      have D2 := blk_cell TR.out.hd (i := 2) (v := .int .i64 (dt n).m) rfl
      have D3 := blk_cell TR.out.hd (i := 3) (v := .int .i64 (dt n).d) rfl
      have D4 := blk_cell TR.out.hd (i := 4) (v := .int .i64 (dt n).w) rfl
      rw [hnn] at D0
      cases hrb : rightB r (dt sn) (dt n) with
      | true =>
       have hgo : good r (dt sn) n := ⟨h37, by rw [HPE.out]; exact hg, hrb⟩
       rw [if_pos hgo] at HIN
       have hax1 : l.length + 1 ≤ maxLen := by unfold maxLen; first | omega | (simp; omega)
       have hax2 : (l.length + 1) * 8 ≤ 140737488355328 := by first | omega | (simp; omega)
       have HAX3 : Hid (w.heap.size ≤ (wq.alloc (.cells #[.int .i64 (n : Int)] 3)).heap.size) := by show _ ≤ _; simp; exact Nat.le_trans TR.out.fr.size (Nat.le_succ _)
       go_upto_region 28 with (refine wpList_append_lies _ rfl _ _ _ (by rfl) w.heap.size 3 i0 _ 1 8 Tryz.underlying25 hi0 p0 p1 p2 rfl (by decide) (.slice (some ⟨lb, 0, none⟩) l.length lcap) l.length (iv l) (by rfl) (TR.out.hl.alloc _) ⟨wq.heap.size, 0, none⟩ 1 1 [.int .i64 (n : Int)] (by rfl) (by rfl) (World.news_of_block (cs := #[.int .i64 (n : Int)]) (t := 3) (fr := (0, 0)) (heap_alloc_new _ _)) (by simp [Value.oneCell']) (Nat.lt_succ_self 0) hax1 hax2 HAX3.out _ rfl ?_; intro gg cap2 w3 hown3 hgr3 hat3 hlt3)
       have TA := Lib.hid (TR.out.addL hgr3 hown3 hat3)
       clear hgr3 hown3 hat3
       clear R0 R1 R2 R3 R4 R5 R6 R7 R8 S0 S1 S2 S3 S4 D0 D1 D2 D3 D4
       have R0 := blk_cell TA.out.hr (i := 0) (v := .int .i64 r.freq) rfl
       have R1 := blk_cell TA.out.hr (i := 1) (v := .int .i64 r.iv) rfl
       have R2 := blk_cell TA.out.hr (i := 2) (v := .int .i64 r.count) rfl
       have R3 := blk_cell TA.out.hr (i := 3) (v := .int .i64 r.until_) rfl
       have R4 := blk_cell TA.out.hr (i := 4) (v := .slice A1 r.bm.length c1) rfl
       have R5 := blk_cell TA.out.hr (i := 5) (v := .slice A2 r.bd.length c2) rfl
       have R6 := blk_cell TA.out.hr (i := 6) (v := .slice A3 r.bw.length c3) rfl
       have R7 := blk_cell TA.out.hr (i := 7) (v := .slice A4 r.bs.length c4) rfl
       have R8 := blk_cell TA.out.hr (i := 8) (v := .int .i64 r.start) rfl
       have S0 := blk_cell TA.out.hs (i := 0) (v := .int .i64 (dt sn).n) rfl
       have S1 := blk_cell TA.out.hs (i := 1) (v := .int .i64 (dt sn).y) rfl
       have S2 := blk_cell TA.out.hs (i := 2) (v := .int .i64 (dt sn).m) rfl
       have S3 := blk_cell TA.out.hs (i := 3) (v := .int .i64 (dt sn).d) rfl
       have S4 := blk_cell TA.out.hs (i := 4) (v := .int .i64 (dt sn).w) rfl
       have D0 := blk_cell TA.out.hd (i := 0) (v := .int .i64 (dt n).n) rfl
       have D1 := blk_cell TA.out.hd (i := 1) (v := .int .i64 (dt n).y) rfl
       have D2 := blk_cell TA.out.hd (i := 2) (v := .int .i64 (dt n).m) rfl
       have D3 := blk_cell TA.out.hd (i := 3) (v := .int .i64 (dt n).d) rfl
       have D4 := blk_cell TA.out.hd (i := 4) (v := .int .i64 (dt n).w) rfl
       rw [hnn] at D0
       go_upto_region 9 with fail
       have TN := Lib.hid TA.out.newD
       have hne1 : w3.heap.size ≠ w.heap.size := by have := heap_lt' TA.out.hr; omega
       have hne2 : w3.heap.size ≠ sb := by have := heap_lt' TA.out.hs; omega
       obtain ⟨wz, hwz⟩ : ∃ wz, w3.alloc (.cells (dcells (dt n)) 109) = wz := ⟨_, rfl⟩
       rw [hwz] at TN
       have HWZ := Lib.hid hwz
       clear hwz
       unfold dcells at HWZ
       rw [hnn] at HWZ
       rw [HWZ.out]
       obtain ⟨db2, hdb2⟩ : ∃ db2, w3.heap.size = db2 := ⟨_, rfl⟩
       rw [hdb2] at TN hne1 hne2 ⊢
       clear R0 R1 R2 R3 R4 R5 R6 R7 R8 S0 S1 S2 S3 S4 D0 D1 D2 D3 D4
       have R0 := blk_cell TN.out.hr (i := 0) (v := .int .i64 r.freq) rfl
       have R1 := blk_cell TN.out.hr (i := 1) (v := .int .i64 r.iv) rfl
       have R2 := blk_cell TN.out.hr (i := 2) (v := .int .i64 r.count) rfl
       have R3 := blk_cell TN.out.hr (i := 3) (v := .int .i64 r.until_) rfl
       have R4 := blk_cell TN.out.hr (i := 4) (v := .slice A1 r.bm.length c1) rfl
       have R5 := blk_cell TN.out.hr (i := 5) (v := .slice A2 r.bd.length c2) rfl
       have R6 := blk_cell TN.out.hr (i := 6) (v := .slice A3 r.bw.length c3) rfl
       have R7 := blk_cell TN.out.hr (i := 7) (v := .slice A4 r.bs.length c4) rfl
       have R8 := blk_cell TN.out.hr (i := 8) (v := .int .i64 r.start) rfl
       have S0 := blk_cell TN.out.hs (i := 0) (v := .int .i64 (dt sn).n) rfl
       have S1 := blk_cell TN.out.hs (i := 1) (v := .int .i64 (dt sn).y) rfl
       have S2 := blk_cell TN.out.hs (i := 2) (v := .int .i64 (dt sn).m) rfl
       have S3 := blk_cell TN.out.hs (i := 3) (v := .int .i64 (dt sn).d) rfl
       have S4 := blk_cell TN.out.hs (i := 4) (v := .int .i64 (dt sn).w) rfl
       have D0 := blk_cell TN.out.hd (i := 0) (v := .int .i64 (dt n).n) rfl
       have D1 := blk_cell TN.out.hd (i := 1) (v := .int .i64 (dt n).y) rfl
       have D2 := blk_cell TN.out.hd (i := 2) (v := .int .i64 (dt n).m) rfl
       have D3 := blk_cell TN.out.hd (i := 3) (v := .int .i64 (dt n).d) rfl
       have D4 := blk_cell TN.out.hd (i := 4) (v := .int .i64 (dt n).w) rfl
       rw [hnn] at D0
       have HNX := Lib.hid (HNx.out n h38 wz)
       rw [hnn] at HNX
       go_wp2_with fail
       go_at_call 81
       refine HNX.out.mono ?_
       rintro e wn ⟨rfl, hbnx⟩
       have TM := Lib.hid (TN.out.below hbnx)
       clear hbnx
       clear R0 R1 R2 R3 R4 R5 R6 R7 R8 S0 S1 S2 S3 S4 D0 D1 D2 D3 D4
       have R0 := blk_cell TM.out.hr (i := 0) (v := .int .i64 r.freq) rfl
       have R1 := blk_cell TM.out.hr (i := 1) (v := .int .i64 r.iv) rfl
       have R2 := blk_cell TM.out.hr (i := 2) (v := .int .i64 r.count) rfl
       have R3 := blk_cell TM.out.hr (i := 3) (v := .int .i64 r.until_) rfl
       have R4 := blk_cell TM.out.hr (i := 4) (v := .slice A1 r.bm.length c1) rfl
       have R5 := blk_cell TM.out.hr (i := 5) (v := .slice A2 r.bd.length c2) rfl
       have R6 := blk_cell TM.out.hr (i := 6) (v := .slice A3 r.bw.length c3) rfl
       have R7 := blk_cell TM.out.hr (i := 7) (v := .slice A4 r.bs.length c4) rfl
       have R8 := blk_cell TM.out.hr (i := 8) (v := .int .i64 r.start) rfl
       have S0 := blk_cell TM.out.hs (i := 0) (v := .int .i64 (dt sn).n) rfl
       have S1 := blk_cell TM.out.hs (i := 1) (v := .int .i64 (dt sn).y) rfl
       have S2 := blk_cell TM.out.hs (i := 2) (v := .int .i64 (dt sn).m) rfl
       have S3 := blk_cell TM.out.hs (i := 3) (v := .int .i64 (dt sn).d) rfl
       have S4 := blk_cell TM.out.hs (i := 4) (v := .int .i64 (dt sn).w) rfl
       have D0 := blk_cell TM.out.hd (i := 0) (v := .int .i64 (dt n).n) rfl
       have D1 := blk_cell TM.out.hd (i := 1) (v := .int .i64 (dt n).y) rfl
       have D2 := blk_cell TM.out.hd (i := 2) (v := .int .i64 (dt n).m) rfl
       have D3 := blk_cell TM.out.hd (i := 3) (v := .int .i64 (dt n).d) rfl
       have D4 := blk_cell TM.out.hd (i := 4) (v := .int .i64 (dt n).w) rfl
       rw [hnn] at D0
       have DF := blk_free TM.out.hd
       go_wp2_with fail
       have TE := TM.out.setD hne1 hne2 (nx (dt n))
       have hnn2 : (nx (dt n)).n = ((n + 1 : Nat) : Int) := by rw [nx_n, hnn]; rfl
       have hcell := blk_cell TE.hd (i := 0) (v := .int .i64 (nx (dt n)).n) rfl
       have hday2 : dayOf (.pointer (some ⟨db2, 0, none⟩)) (chain5 wn db2 (.int .i64 (nx (dt n)).n) (.int .i64 (nx (dt n)).y) (.int .i64 (nx (dt n)).m) (.int .i64 (nx (dt n)).d) (.int .i64 (nx (dt n)).w)) = n + 1 := by rw [dayOf_at hcell, hnn2]; simp
       unfold chain5 at hday2
       clear hcell
       go_roundw
       case rel => exact ⟨n + 1, out, (l ++ [(n : Int)]), p, ob, ocap, gg, cap2, db2, nx (dt n), by omega, rfl, by simp, rfl, rfl, TE, ⟨hnn2, fun h => nx_dt (by omega), hne1, hne2⟩, by omega, by simp; omega, (fun x hx => (List.mem_append.1 hx).elim (HMEM.out x) (fun hx => by rw [show x = (n : Int) by simpa using hx]; omega)), HIN.out⟩
       case measure => rw [HDAY.out, hday2]; omega
      | false =>
       have hng : ¬ good r (dt sn) n := fun h => by have := h.2.2; rw [hrb] at this; cases this
       rw [if_neg hng] at HIN
       go_upto_region 9 with fail
       have TN := Lib.hid TR.out.newD
       have hne1 : wq.heap.size ≠ w.heap.size := by have := heap_lt' TR.out.hr; omega
       have hne2 : wq.heap.size ≠ sb := by have := heap_lt' TR.out.hs; omega
       obtain ⟨wz, hwz⟩ : ∃ wz, wq.alloc (.cells (dcells (dt n)) 109) = wz := ⟨_, rfl⟩
       rw [hwz] at TN
       have HWZ := Lib.hid hwz
       clear hwz
       unfold dcells at HWZ
       rw [hnn] at HWZ
       rw [HWZ.out]
       obtain ⟨db2, hdb2⟩ : ∃ db2, wq.heap.size = db2 := ⟨_, rfl⟩
       rw [hdb2] at TN hne1 hne2 ⊢
       clear R0 R1 R2 R3 R4 R5 R6 R7 R8 S0 S1 S2 S3 S4 D0 D1 D2 D3 D4
       have R0 := blk_cell TN.out.hr (i := 0) (v := .int .i64 r.freq) rfl
       have R1 := blk_cell TN.out.hr (i := 1) (v := .int .i64 r.iv) rfl
       have R2 := blk_cell TN.out.hr (i := 2) (v := .int .i64 r.count) rfl
       have R3 := blk_cell TN.out.hr (i := 3) (v := .int .i64 r.until_) rfl
       have R4 := blk_cell TN.out.hr (i := 4) (v := .slice A1 r.bm.length c1) rfl
       have R5 := blk_cell TN.out.hr (i := 5) (v := .slice A2 r.bd.length c2) rfl
       have R6 := blk_cell TN.out.hr (i := 6) (v := .slice A3 r.bw.length c3) rfl
       have R7 := blk_cell TN.out.hr (i := 7) (v := .slice A4 r.bs.length c4) rfl
       have R8 := blk_cell TN.out.hr (i := 8) (v := .int .i64 r.start) rfl
       have S0 := blk_cell TN.out.hs (i := 0) (v := .int .i64 (dt sn).n) rfl
       have S1 := blk_cell TN.out.hs (i := 1) (v := .int .i64 (dt sn).y) rfl
       have S2 := blk_cell TN.out.hs (i := 2) (v := .int .i64 (dt sn).m) rfl
       have S3 := blk_cell TN.out.hs (i := 3) (v := .int .i64 (dt sn).d) rfl
       have S4 := blk_cell TN.out.hs (i := 4) (v := .int .i64 (dt sn).w) rfl
       have D0 := blk_cell TN.out.hd (i := 0) (v := .int .i64 (dt n).n) rfl
       have D1 := blk_cell TN.out.hd (i := 1) (v := .int .i64 (dt n).y) rfl
       have D2 := blk_cell TN.out.hd (i := 2) (v := .int .i64 (dt n).m) rfl
       have D3 := blk_cell TN.out.hd (i := 3) (v := .int .i64 (dt n).d) rfl
       have D4 := blk_cell TN.out.hd (i := 4) (v := .int .i64 (dt n).w) rfl
       rw [hnn] at D0
       have HNX := Lib.hid (HNx.out n h38 wz)
       rw [hnn] at HNX
       go_wp2_with fail
       go_at_call 81
       refine HNX.out.mono ?_
       rintro e wn ⟨rfl, hbnx⟩
       have TM := Lib.hid (TN.out.below hbnx)
       clear hbnx
       clear R0 R1 R2 R3 R4 R5 R6 R7 R8 S0 S1 S2 S3 S4 D0 D1 D2 D3 D4
       have R0 := blk_cell TM.out.hr (i := 0) (v := .int .i64 r.freq) rfl
       have R1 := blk_cell TM.out.hr (i := 1) (v := .int .i64 r.iv) rfl
       have R2 := blk_cell TM.out.hr (i := 2) (v := .int .i64 r.count) rfl
       have R3 := blk_cell TM.out.hr (i := 3) (v := .int .i64 r.until_) rfl
       have R4 := blk_cell TM.out.hr (i := 4) (v := .slice A1 r.bm.length c1) rfl
       have R5 := blk_cell TM.out.hr (i := 5) (v := .slice A2 r.bd.length c2) rfl
       have R6 := blk_cell TM.out.hr (i := 6) (v := .slice A3 r.bw.length c3) rfl
       have R7 := blk_cell TM.out.hr (i := 7) (v := .slice A4 r.bs.length c4) rfl
       have R8 := blk_cell TM.out.hr (i := 8) (v := .int .i64 r.start) rfl
       have S0 := blk_cell TM.out.hs (i := 0) (v := .int .i64 (dt sn).n) rfl
       have S1 := blk_cell TM.out.hs (i := 1) (v := .int .i64 (dt sn).y) rfl
       have S2 := blk_cell TM.out.hs (i := 2) (v := .int .i64 (dt sn).m) rfl
       have S3 := blk_cell TM.out.hs (i := 3) (v := .int .i64 (dt sn).d) rfl
       have S4 := blk_cell TM.out.hs (i := 4) (v := .int .i64 (dt sn).w) rfl
       have D0 := blk_cell TM.out.hd (i := 0) (v := .int .i64 (dt n).n) rfl
       have D1 := blk_cell TM.out.hd (i := 1) (v := .int .i64 (dt n).y) rfl
       have D2 := blk_cell TM.out.hd (i := 2) (v := .int .i64 (dt n).m) rfl
       have D3 := blk_cell TM.out.hd (i := 3) (v := .int .i64 (dt n).d) rfl
       have D4 := blk_cell TM.out.hd (i := 4) (v := .int .i64 (dt n).w) rfl
       rw [hnn] at D0
       have DF := blk_free TM.out.hd
       go_wp2_with fail
       have TE := TM.out.setD hne1 hne2 (nx (dt n))
       have hnn2 : (nx (dt n)).n = ((n + 1 : Nat) : Int) := by rw [nx_n, hnn]; rfl
       have hcell := blk_cell TE.hd (i := 0) (v := .int .i64 (nx (dt n)).n) rfl
       have hday2 : dayOf (.pointer (some ⟨db2, 0, none⟩)) (chain5 wn db2 (.int .i64 (nx (dt n)).n) (.int .i64 (nx (dt n)).y) (.int .i64 (nx (dt n)).m) (.int .i64 (nx (dt n)).d) (.int .i64 (nx (dt n)).w)) = n + 1 := by rw [dayOf_at hcell, hnn2]; simp
       unfold chain5 at hday2
       clear hcell
       go_roundw
       case rel => exact ⟨n + 1, out, l, p, ob, ocap, lb, lcap, db2, nx (dt n), by omega, rfl, rfl, rfl, rfl, TE, ⟨hnn2, fun h => nx_dt (by omega), hne1, hne2⟩, by omega, by omega, HMEM.out, HIN.out⟩
       case measure => rw [HDAY.out, hday2]; omega
     ·have hgz : (p.tmod r.iv == 0) = false := by rw [rem_zero]; simpa using hg
      have hng : ¬ good r (dt sn) n := fun h => by have := h.2.1; rw [HPE.out] at this; exact hg this
      rw [if_neg hng] at HIN
      go_upto_region 9 with fail
      have TN := Lib.hid TP.out.newD
      have hne1 : wp.heap.size ≠ w.heap.size := by have := heap_lt' TP.out.hr; omega
      have hne2 : wp.heap.size ≠ sb := by have := heap_lt' TP.out.hs; omega
      obtain ⟨wz, hwz⟩ : ∃ wz, wp.alloc (.cells (dcells (dt n)) 109) = wz := ⟨_, rfl⟩
      rw [hwz] at TN
      have HWZ := Lib.hid hwz
      clear hwz
      unfold dcells at HWZ
      rw [hnn] at HWZ
      rw [HWZ.out]
      obtain ⟨db2, hdb2⟩ : ∃ db2, wp.heap.size = db2 := ⟨_, rfl⟩
      rw [hdb2] at TN hne1 hne2 ⊢
      clear R0 R1 R2 R3 R4 R5 R6 R7 R8 S0 S1 S2 S3 S4 D0 D1 D2 D3 D4
      have R0 := blk_cell TN.out.hr (i := 0) (v := .int .i64 r.freq) rfl
      have R1 := blk_cell TN.out.hr (i := 1) (v := .int .i64 r.iv) rfl
      have R2 := blk_cell TN.out.hr (i := 2) (v := .int .i64 r.count) rfl
      have R3 := blk_cell TN.out.hr (i := 3) (v := .int .i64 r.until_) rfl
      have R4 := blk_cell TN.out.hr (i := 4) (v := .slice A1 r.bm.length c1) rfl
      have R5 := blk_cell TN.out.hr (i := 5) (v := .slice A2 r.bd.length c2) rfl
      have R6 := blk_cell TN.out.hr (i := 6) (v := .slice A3 r.bw.length c3) rfl
      have R7 := blk_cell TN.out.hr (i := 7) (v := .slice A4 r.bs.length c4) rfl
      have R8 := blk_cell TN.out.hr (i := 8) (v := .int .i64 r.start) rfl
      have S0 := blk_cell TN.out.hs (i := 0) (v := .int .i64 (dt sn).n) rfl
      have S1 := blk_cell TN.out.hs (i := 1) (v := .int .i64 (dt sn).y) rfl
      have S2 := blk_cell TN.out.hs (i := 2) (v := .int .i64 (dt sn).m) rfl
      have S3 := blk_cell TN.out.hs (i := 3) (v := .int .i64 (dt sn).d) rfl
      have S4 := blk_cell TN.out.hs (i := 4) (v := .int .i64 (dt sn).w) rfl
      have D0 := blk_cell TN.out.hd (i := 0) (v := .int .i64 (dt n).n) rfl
      have D1 := blk_cell TN.out.hd (i := 1) (v := .int .i64 (dt n).y) rfl
      have D2 := blk_cell TN.out.hd (i := 2) (v := .int .i64 (dt n).m) rfl
      have D3 := blk_cell TN.out.hd (i := 3) (v := .int .i64 (dt n).d) rfl
      have D4 := blk_cell TN.out.hd (i := 4) (v := .int .i64 (dt n).w) rfl
      rw [hnn] at D0
      have HNX := Lib.hid (HNx.out n h38 wz)
      rw [hnn] at HNX
      go_wp2_with fail
      go_at_call 81
      refine HNX.out.mono ?_
      rintro e wn ⟨rfl, hbnx⟩
      have TM := Lib.hid (TN.out.below hbnx)
      clear hbnx
      clear R0 R1 R2 R3 R4 R5 R6 R7 R8 S0 S1 S2 S3 S4 D0 D1 D2 D3 D4
      have R0 := blk_cell TM.out.hr (i := 0) (v := .int .i64 r.freq) rfl
      have R1 := blk_cell TM.out.hr (i := 1) (v := .int .i64 r.iv) rfl
      have R2 := blk_cell TM.out.hr (i := 2) (v := .int .i64 r.count) rfl
      have R3 := blk_cell TM.out.hr (i := 3) (v := .int .i64 r.until_) rfl
      have R4 := blk_cell TM.out.hr (i := 4) (v := .slice A1 r.bm.length c1) rfl
      have R5 := blk_cell TM.out.hr (i := 5) (v := .slice A2 r.bd.length c2) rfl
      have R6 := blk_cell TM.out.hr (i := 6) (v := .slice A3 r.bw.length c3) rfl
      have R7 := blk_cell TM.out.hr (i := 7) (v := .slice A4 r.bs.length c4) rfl
      have R8 := blk_cell TM.out.hr (i := 8) (v := .int .i64 r.start) rfl
      have S0 := blk_cell TM.out.hs (i := 0) (v := .int .i64 (dt sn).n) rfl
      have S1 := blk_cell TM.out.hs (i := 1) (v := .int .i64 (dt sn).y) rfl
      have S2 := blk_cell TM.out.hs (i := 2) (v := .int .i64 (dt sn).m) rfl
      have S3 := blk_cell TM.out.hs (i := 3) (v := .int .i64 (dt sn).d) rfl
      have S4 := blk_cell TM.out.hs (i := 4) (v := .int .i64 (dt sn).w) rfl
      have D0 := blk_cell TM.out.hd (i := 0) (v := .int .i64 (dt n).n) rfl
      have D1 := blk_cell TM.out.hd (i := 1) (v := .int .i64 (dt n).y) rfl
      have D2 := blk_cell TM.out.hd (i := 2) (v := .int .i64 (dt n).m) rfl
      have D3 := blk_cell TM.out.hd (i := 3) (v := .int .i64 (dt n).d) rfl
      have D4 := blk_cell TM.out.hd (i := 4) (v := .int .i64 (dt n).w) rfl
      rw [hnn] at D0
      have DF := blk_free TM.out.hd
      go_wp2_with fail
      have TE := TM.out.setD hne1 hne2 (nx (dt n))
      have hnn2 : (nx (dt n)).n = ((n + 1 : Nat) : Int) := by rw [nx_n, hnn]; rfl
      have hcell := blk_cell TE.hd (i := 0) (v := .int .i64 (nx (dt n)).n) rfl
      have hday2 : dayOf (.pointer (some ⟨db2, 0, none⟩)) (chain5 wn db2 (.int .i64 (nx (dt n)).n) (.int .i64 (nx (dt n)).y) (.int .i64 (nx (dt n)).m) (.int .i64 (nx (dt n)).d) (.int .i64 (nx (dt n)).w)) = n + 1 := by rw [dayOf_at hcell, hnn2]; simp
      unfold chain5 at hday2
      clear hcell
      go_roundw
      case rel => exact ⟨n + 1, out, l, p, ob, ocap, lb, lcap, db2, nx (dt n), by omega, rfl, rfl, rfl, rfl, TE, ⟨hnn2, fun h => nx_dt (by omega), hne1, hne2⟩, by omega, by omega, HMEM.out, HIN.out⟩
      case measure => rw [HDAY.out, hday2]; omega
    ·have hfb : (p != last) = true := by simpa using hf
     have hfl := Lib.hid (flush_ne (s := dt sn) h37 HPE.out hf)
     have HKp := Lib.hid (HK.out l (some ⟨lb, 0, none⟩) lcap wp (by omega) TP.out.fr (Sl.own_ TP.out.hl))
     go_wp2_with fail
     go_at_call 83
     refine HKp.out.mono ?_
     rintro e wk ⟨A', c', rfl, hSl, hbk, hA1⟩
     have TK := Lib.hid (TP.out.below hbk)
     have hA2 : ∀ a, A' = some a → a.block ≠ ob := fun a ha => by
      rcases hA1 a ha with e | e
      ·obtain rfl := Option.some.inj e; exact fun h => TP.out.n1.2.2.2 h.symm
      ·have := (TP.out.ho.lt ob rfl).2; omega
     have hk1 := keptL_len r l
     have hk2 : ∀ x ∈ keptL r l, 0 ≤ x ∧ x ≤ 109938 := fun x hx => HMEM.out x (keptL_mem x hx)
     have HKL : Hid (addAll r (dt sn) start below out (keptL r l) = addAll r (dt sn) start below out (keptL r l)) := rfl
     generalize hkl : keptL r l = kl at *
     have HKE := Lib.hid hkl
     have HS2 := Lib.hid hSl
     have HA2 := Lib.hid hA2
     have HK2 := Lib.hid hk2
     clear hkl hSl hbk hA1 hA2 hk2 HKL HKp
     clear R0 R1 R2 R3 R4 R5 R6 R7 R8 S0 S1 S2 S3 S4 D0 D1 D2 D3 D4
     have R0 := blk_cell TK.out.hr (i := 0) (v := .int .i64 r.freq) rfl
     have R1 := blk_cell TK.out.hr (i := 1) (v := .int .i64 r.iv) rfl
     have R2 := blk_cell TK.out.hr (i := 2) (v := .int .i64 r.count) rfl
     have R3 := blk_cell TK.out.hr (i := 3) (v := .int .i64 r.until_) rfl
     have R4 := blk_cell TK.out.hr (i := 4) (v := .slice A1 r.bm.length c1) rfl
     have R5 := blk_cell TK.out.hr (i := 5) (v := .slice A2 r.bd.length c2) rfl
     have R6 := blk_cell TK.out.hr (i := 6) (v := .slice A3 r.bw.length c3) rfl
     have R7 := blk_cell TK.out.hr (i := 7) (v := .slice A4 r.bs.length c4) rfl
     have R8 := blk_cell TK.out.hr (i := 8) (v := .int .i64 r.start) rfl
     have S0 := blk_cell TK.out.hs (i := 0) (v := .int .i64 (dt sn).n) rfl
     have S1 := blk_cell TK.out.hs (i := 1) (v := .int .i64 (dt sn).y) rfl
     have S2 := blk_cell TK.out.hs (i := 2) (v := .int .i64 (dt sn).m) rfl
     have S3 := blk_cell TK.out.hs (i := 3) (v := .int .i64 (dt sn).d) rfl
     have S4 := blk_cell TK.out.hs (i := 4) (v := .int .i64 (dt sn).w) rfl
     have D0 := blk_cell TK.out.hd (i := 0) (v := .int .i64 (dt n).n) rfl
     have D1 := blk_cell TK.out.hd (i := 1) (v := .int .i64 (dt n).y) rfl
     have D2 := blk_cell TK.out.hd (i := 2) (v := .int .i64 (dt n).m) rfl
     have D3 := blk_cell TK.out.hd (i := 3) (v := .int .i64 (dt n).d) rfl
     have D4 := blk_cell TK.out.hd (i := 4) (v := .int .i64 (dt n).w) rfl
     rw [hnn] at D0
     go_wp2_with fail
     go_loopw [7, 62] (fun s7 s62 wr2 => ∃ (i : Nat) (out2 : List Int) (ob2 ocap2 : Nat), i ≤ kl.length ∧ s62 = .int .i64 i ∧ s7 = .slice (some ⟨ob2, 0, none⟩) out2.length ocap2 ∧ Hid (TSt w wr2 (rcells r A1 A2 A3 A4 c1 c2 c3 c4) w.heap.size sb ob2 ocap2 lb lcap db (dt sn) (dt n) out2 l) ∧ Hid (Sl wr2 A' kl.length c' (iv kl)) ∧ Hid (∀ a, A' = some a → a.block ≠ ob2) ∧ out2.length ≤ out.length + i ∧ Hid (addAll r (dt sn) start below out2 (kl.drop i) = addAll r (dt sn) start below out kl)) (fun _ s62 _ => kl.length - (intOf s62).toNat)
     case atStart => exact ⟨0, out, ob, ocap, Nat.zero_le _, rfl, rfl, TK.out, HS2.out, HA2.out, by omega, rfl⟩
     case round =>
      obtain ⟨i, out2, ob2, ocap2, hi, rfl, rfl, TS2, HSL, HAN, hol, HAD⟩ := hrel
      clear R0 R1 R2 R3 R4 R5 R6 R7 R8 S0 S1 S2 S3 S4 D0 D1 D2 D3 D4
      have R0 := blk_cell TS2.out.hr (i := 0) (v := .int .i64 r.freq) rfl
      have R1 := blk_cell TS2.out.hr (i := 1) (v := .int .i64 r.iv) rfl
      have R2 := blk_cell TS2.out.hr (i := 2) (v := .int .i64 r.count) rfl
      have R3 := blk_cell TS2.out.hr (i := 3) (v := .int .i64 r.until_) rfl
      have R4 := blk_cell TS2.out.hr (i := 4) (v := .slice A1 r.bm.length c1) rfl
      have R5 := blk_cell TS2.out.hr (i := 5) (v := .slice A2 r.bd.length c2) rfl
      have R6 := blk_cell TS2.out.hr (i := 6) (v := .slice A3 r.bw.length c3) rfl
      have R7 := blk_cell TS2.out.hr (i := 7) (v := .slice A4 r.bs.length c4) rfl
      have R8 := blk_cell TS2.out.hr (i := 8) (v := .int .i64 r.start) rfl
      have S0 := blk_cell TS2.out.hs (i := 0) (v := .int .i64 (dt sn).n) rfl
      have S1 := blk_cell TS2.out.hs (i := 1) (v := .int .i64 (dt sn).y) rfl
      have S2 := blk_cell TS2.out.hs (i := 2) (v := .int .i64 (dt sn).m) rfl
      have S3 := blk_cell TS2.out.hs (i := 3) (v := .int .i64 (dt sn).d) rfl
      have S4 := blk_cell TS2.out.hs (i := 4) (v := .int .i64 (dt sn).w) rfl
      have D0 := blk_cell TS2.out.hd (i := 0) (v := .int .i64 (dt n).n) rfl
      have D1 := blk_cell TS2.out.hd (i := 1) (v := .int .i64 (dt n).y) rfl
      have D2 := blk_cell TS2.out.hd (i := 2) (v := .int .i64 (dt n).m) rfl
      have D3 := blk_cell TS2.out.hd (i := 3) (v := .int .i64 (dt n).d) rfl
      have D4 := blk_cell TS2.out.hd (i := 4) (v := .int .i64 (dt n).w) rfl
      rw [hnn] at D0
      by_cases hlt : i < kl.length
      ·have hiz : (i : Int) < kl.length := by omega
       have hw1 : IntKind.i64.wrap ((i : Int) + 1) = i + 1 := by rw [IntKind.wrap_i64]; omega
       obtain ⟨x, hx⟩ : ∃ x, kl[i]? = some x := ⟨_, List.getElem?_eq_getElem hlt⟩
       have hxb := HK2.out x (List.mem_of_getElem? hx)
       have HADS := Lib.hid (addAll_step (r := r) (s := dt sn) (start := start) (below := below) (out := out2) hx)
       rw [HAD.out] at HADS
       obtain ⟨pb, po, rfl, hpb, hpc⟩ := HSL.out.intG hx
       have hpx := hpc ⟨wr, Below.refl _ _⟩
       clear hpc hx
       have hw3 : IntKind.i64.wrap (x * 1440) = x * 1440 := by rw [IntKind.wrap_i64]; omega
       have hw4 : IntKind.i64.wrap (x * 1440 + start % 1440) = x * 1440 + start % 1440 := by rw [IntKind.wrap_i64]; omega
       have TD2 := Lib.hid (fun nq => TS2.out.below (drewN_below wr nq))
       have HSD : Hid (∀ nq, Sl (wr.drewN nq) (some ⟨pb, po, none⟩) kl.length c' (iv kl)) := fun nq => HSL.out.below (drewN_below wr nq) (Nat.le_refl _)
       have S0b : wr.cell? ⟨sb, 0, none⟩ = some (.int .i64 (sn : Int)) := by rw [S0, dt_n]
       clear S0
       by_cases e1 : x < (sn : Int)
       ·have hyes := Or.inl (b := below ≤ x ∨ (0 ≤ r.until_ ∧ r.until_ < x * 1440 + start % 1440) ∨ (0 < r.count ∧ (out2.length : Int) = r.count)) e1
        have e1b : decide (x < (sn : Int)) = true := decide_eq_true e1
        have HN2 : Hid (addAll r (dt sn) start below out2 (kl.drop (i + 1)) = addAll r (dt sn) start below out kl) := by show _ = _; rw [HADS.out, addOne_skip (dt_n sn) hyes]
        clear hyes HADS
        go_wp2_with fail
        go_quiet (fail)
        go_wp2_with fail
        go_roundw
        case rel => exact ⟨i + 1, out2, ob2, ocap2, by omega, by go_num, rfl, TD2.out _, HSD.out _, HAN.out, by omega, HN2.out⟩
        case measure => simp [intOf]; omega
       ·have e1b : decide (x < (sn : Int)) = false := decide_eq_false e1
        by_cases e2 : below ≤ x
        ·have hyes : x < (sn : Int) ∨ below ≤ x ∨ (0 ≤ r.until_ ∧ r.until_ < x * 1440 + start % 1440) ∨ (0 < r.count ∧ (out2.length : Int) = r.count) := .inr (.inl e2)
         have e2b : decide (below ≤ x) = true := decide_eq_true e2
         have HN2 : Hid (addAll r (dt sn) start below out2 (kl.drop (i + 1)) = addAll r (dt sn) start below out kl) := by show _ = _; rw [HADS.out, addOne_skip (dt_n sn) hyes]
         clear hyes HADS
         go_wp2_with fail
         go_quiet (fail)
         go_wp2_with fail
         go_roundw
         case rel => exact ⟨i + 1, out2, ob2, ocap2, by omega, by go_num, rfl, TD2.out _, HSD.out _, HAN.out, by omega, HN2.out⟩
         case measure => simp [intOf]; omega
        ·have e2b : decide (below ≤ x) = false := decide_eq_false e2
         have hu : (0 ≤ r.until_ ∧ r.until_ < x * 1440 + start % 1440) ∨ (0 ≤ r.until_ ∧ ¬ r.until_ < x * 1440 + start % 1440) ∨ ¬ 0 ≤ r.until_ := by omega
         have hc : (0 < r.count ∧ (out2.length : Int) = r.count) ∨ (0 < r.count ∧ ¬ (out2.length : Int) = r.count) ∨ ¬ 0 < r.count := by omega
         rcases hu with ⟨e3, e4⟩ | ⟨e3, e4⟩ | e3
         ·have hyes : x < (sn : Int) ∨ below ≤ x ∨ (0 ≤ r.until_ ∧ r.until_ < x * 1440 + start % 1440) ∨ (0 < r.count ∧ (out2.length : Int) = r.count) := .inr (.inr (.inl ⟨e3, e4⟩))
          clear hc
          have HN2 : Hid (addAll r (dt sn) start below out2 (kl.drop (i + 1)) = addAll r (dt sn) start below out kl) := by show _ = _; rw [HADS.out, addOne_skip (dt_n sn) hyes]
          clear hyes HADS
          go_wp2_with fail
          go_quiet (fail)
          go_wp2_with fail
          go_roundw
          case rel => exact ⟨i + 1, out2, ob2, ocap2, by omega, by go_num, rfl, TD2.out _, HSD.out _, HAN.out, by omega, HN2.out⟩
          case measure => simp [intOf]; omega
         ·have hnu : ¬ (0 ≤ r.until_ ∧ r.until_ < x * 1440 + start % 1440) := fun h => e4 h.2
          have e4b : decide (r.until_ < x * 1440 + start % 1440) = false := decide_eq_false e4
          rcases hc with ⟨e5, e6⟩ | ⟨e5, e6⟩ | e5
          ·have hyes : x < (sn : Int) ∨ below ≤ x ∨ (0 ≤ r.until_ ∧ r.until_ < x * 1440 + start % 1440) ∨ (0 < r.count ∧ (out2.length : Int) = r.count) := .inr (.inr (.inr ⟨e5, e6⟩))
           have e6b : ((out2.length : Int) == r.count) = true := by simpa using e6
           clear e6 hnu
           have HN2 : Hid (addAll r (dt sn) start below out2 (kl.drop (i + 1)) = addAll r (dt sn) start below out kl) := by show _ = _; rw [HADS.out, addOne_skip (dt_n sn) hyes]
           clear hyes HADS
           go_wp2_with fail
           go_quiet (fail)
           go_wp2_with fail
           go_roundw
           case rel => exact ⟨i + 1, out2, ob2, ocap2, by omega, by go_num, rfl, TD2.out _, HSD.out _, HAN.out, by omega, HN2.out⟩
           case measure => simp [intOf]; omega
          ·have hno : ¬ (x < (sn : Int) ∨ below ≤ x ∨ (0 ≤ r.until_ ∧ r.until_ < x * 1440 + start % 1440) ∨ (0 < r.count ∧ (out2.length : Int) = r.count)) := fun h => h.elim e1 (fun h => h.elim e2 (fun h => h.elim hnu (fun h => e6 h.2)))
           have e6b : ((out2.length : Int) == r.count) = false := beq_false_of_ne e6
           clear hnu
           have HN2 : Hid (addAll r (dt sn) start below (out2 ++ [x * 1440 + start % 1440]) (kl.drop (i + 1)) = addAll r (dt sn) start below out kl) := by show _ = _; rw [HADS.out, addOne_add (dt_n sn) hno]
           clear hno HADS
           have hax1 : out2.length + 1 ≤ maxLen := by unfold maxLen; omega
           have hax2 : (out2.length + 1) * 8 ≤ 140737488355328 := by omega
           have HAX3 : Hid (∀ nq, w.heap.size ≤ ((wr.drewN nq).alloc (.cells #[.int .i64 (x * 1440 + start % 1440)] 2)).heap.size) := fun nq => by have := (TD2.out nq).fr.size; simp; simp at this; omega
           go_wp2_with fail
           go_quiet (fail)
           go_wp2_with (refine wpList_append_lies _ rfl _ _ _ (by rfl) w.heap.size 2 j0 _ 1 8 Tryz.underlying29 hj0 t0 t1 t2 rfl (by decide) (.slice (some ⟨ob2, 0, none⟩) out2.length ocap2) out2.length (iv out2) (by rfl) ((own_off TS2.out.ho (F := fun _ => False) (.of_below (drewN_below wr _)) (fun _ _ => id)).alloc _) ⟨wr.heap.size, 0, none⟩ 1 1 [.int .i64 (x * 1440 + start % 1440)] (by rfl) (by rfl) (World.news_of_block (cs := #[.int .i64 (x * 1440 + start % 1440)]) (t := 2) (fr := (0, 0)) (heap_alloc_new _ _)) (by simp [Value.oneCell']) (Nat.lt_succ_self 0) hax1 hax2 (HAX3.out _) _ rfl ?_; intro gg cap2 w3 hown3 hgr3 hat3 hlt3)
           obtain ⟨TA2, oA2⟩ := (TD2.out _).addOut hgr3 hown3 hat3
           have hSA := (HSD.out _).off oA2 HAN.out
           have hbl := heap_lt_of_sl HSL.out hlt
           have HAN3 : Hid (∀ a, (some ⟨pb, po, none⟩ : Option Addr) = some a → a.block ≠ gg) := fun a ha => by
            obtain rfl := Option.some.inj ha
            rcases hat3 with e | e
            ·simp [Value.ownBlock] at e; exact fun h => HAN.out _ rfl (by rw [h, e])
            ·simp at e; intro h; simp at h hbl; omega
           go_roundw
           case rel => exact ⟨i + 1, out2 ++ [x * 1440 + start % 1440], gg, cap2, by omega, by go_num, by simp, TA2, hSA, HAN3.out, by simp; omega, HN2.out⟩
           case measure => simp [intOf]; omega
          ·have hno : ¬ (x < (sn : Int) ∨ below ≤ x ∨ (0 ≤ r.until_ ∧ r.until_ < x * 1440 + start % 1440) ∨ (0 < r.count ∧ (out2.length : Int) = r.count)) := fun h => h.elim e1 (fun h => h.elim e2 (fun h => h.elim hnu (fun h => e5 h.1)))
           have e5b : decide (0 < r.count) = false := decide_eq_false e5
           clear hnu
           have HN2 : Hid (addAll r (dt sn) start below (out2 ++ [x * 1440 + start % 1440]) (kl.drop (i + 1)) = addAll r (dt sn) start below out kl) := by show _ = _; rw [HADS.out, addOne_add (dt_n sn) hno]
           clear hno HADS
           have hax1 : out2.length + 1 ≤ maxLen := by unfold maxLen; omega
           have hax2 : (out2.length + 1) * 8 ≤ 140737488355328 := by omega
           have HAX3 : Hid (∀ nq, w.heap.size ≤ ((wr.drewN nq).alloc (.cells #[.int .i64 (x * 1440 + start % 1440)] 2)).heap.size) := fun nq => by have := (TD2.out nq).fr.size; simp; simp at this; omega
           go_wp2_with fail
           go_quiet (fail)
           go_wp2_with (refine wpList_append_lies _ rfl _ _ _ (by rfl) w.heap.size 2 j0 _ 1 8 Tryz.underlying29 hj0 t0 t1 t2 rfl (by decide) (.slice (some ⟨ob2, 0, none⟩) out2.length ocap2) out2.length (iv out2) (by rfl) ((own_off TS2.out.ho (F := fun _ => False) (.of_below (drewN_below wr _)) (fun _ _ => id)).alloc _) ⟨wr.heap.size, 0, none⟩ 1 1 [.int .i64 (x * 1440 + start % 1440)] (by rfl) (by rfl) (World.news_of_block (cs := #[.int .i64 (x * 1440 + start % 1440)]) (t := 2) (fr := (0, 0)) (heap_alloc_new _ _)) (by simp [Value.oneCell']) (Nat.lt_succ_self 0) hax1 hax2 (HAX3.out _) _ rfl ?_; intro gg cap2 w3 hown3 hgr3 hat3 hlt3)
           obtain ⟨TA2, oA2⟩ := (TD2.out _).addOut hgr3 hown3 hat3
           have hSA := (HSD.out _).off oA2 HAN.out
           have hbl := heap_lt_of_sl HSL.out hlt
           have HAN3 : Hid (∀ a, (some ⟨pb, po, none⟩ : Option Addr) = some a → a.block ≠ gg) := fun a ha => by
            obtain rfl := Option.some.inj ha
            rcases hat3 with e | e
            ·simp [Value.ownBlock] at e; exact fun h => HAN.out _ rfl (by rw [h, e])
            ·simp at e; intro h; simp at h hbl; omega
           go_roundw
           case rel => exact ⟨i + 1, out2 ++ [x * 1440 + start % 1440], gg, cap2, by omega, by go_num, by simp, TA2, hSA, HAN3.out, by simp; omega, HN2.out⟩
           case measure => simp [intOf]; omega
         ·have hnu : ¬ (0 ≤ r.until_ ∧ r.until_ < x * 1440 + start % 1440) := fun h => e3 h.1
          have e3b : decide (0 ≤ r.until_) = false := decide_eq_false e3
          rcases hc with ⟨e5, e6⟩ | ⟨e5, e6⟩ | e5
          ·have hyes : x < (sn : Int) ∨ below ≤ x ∨ (0 ≤ r.until_ ∧ r.until_ < x * 1440 + start % 1440) ∨ (0 < r.count ∧ (out2.length : Int) = r.count) := .inr (.inr (.inr ⟨e5, e6⟩))
           have e6b : ((out2.length : Int) == r.count) = true := by simpa using e6
           clear e6 hnu
           have HN2 : Hid (addAll r (dt sn) start below out2 (kl.drop (i + 1)) = addAll r (dt sn) start below out kl) := by show _ = _; rw [HADS.out, addOne_skip (dt_n sn) hyes]
           clear hyes HADS
           go_wp2_with fail
           go_quiet (fail)
           go_wp2_with fail
           go_roundw
           case rel => exact ⟨i + 1, out2, ob2, ocap2, by omega, by go_num, rfl, TD2.out _, HSD.out _, HAN.out, by omega, HN2.out⟩
           case measure => simp [intOf]; omega
          ·have hno : ¬ (x < (sn : Int) ∨ below ≤ x ∨ (0 ≤ r.until_ ∧ r.until_ < x * 1440 + start % 1440) ∨ (0 < r.count ∧ (out2.length : Int) = r.count)) := fun h => h.elim e1 (fun h => h.elim e2 (fun h => h.elim hnu (fun h => e6 h.2)))
           have e6b : ((out2.length : Int) == r.count) = false := beq_false_of_ne e6
           clear hnu
           have HN2 : Hid (addAll r (dt sn) start below (out2 ++ [x * 1440 + start % 1440]) (kl.drop (i + 1)) = addAll r (dt sn) start below out kl) := by show _ = _; rw [HADS.out, addOne_add (dt_n sn) hno]
           clear hno HADS
           have hax1 : out2.length + 1 ≤ maxLen := by unfold maxLen; omega
           have hax2 : (out2.length + 1) * 8 ≤ 140737488355328 := by omega
           have HAX3 : Hid (∀ nq, w.heap.size ≤ ((wr.drewN nq).alloc (.cells #[.int .i64 (x * 1440 + start % 1440)] 2)).heap.size) := fun nq => by have := (TD2.out nq).fr.size; simp; simp at this; omega
           go_wp2_with fail
           go_quiet (fail)
           go_wp2_with (refine wpList_append_lies _ rfl _ _ _ (by rfl) w.heap.size 2 j0 _ 1 8 Tryz.underlying29 hj0 t0 t1 t2 rfl (by decide) (.slice (some ⟨ob2, 0, none⟩) out2.length ocap2) out2.length (iv out2) (by rfl) ((own_off TS2.out.ho (F := fun _ => False) (.of_below (drewN_below wr _)) (fun _ _ => id)).alloc _) ⟨wr.heap.size, 0, none⟩ 1 1 [.int .i64 (x * 1440 + start % 1440)] (by rfl) (by rfl) (World.news_of_block (cs := #[.int .i64 (x * 1440 + start % 1440)]) (t := 2) (fr := (0, 0)) (heap_alloc_new _ _)) (by simp [Value.oneCell']) (Nat.lt_succ_self 0) hax1 hax2 (HAX3.out _) _ rfl ?_; intro gg cap2 w3 hown3 hgr3 hat3 hlt3)
           obtain ⟨TA2, oA2⟩ := (TD2.out _).addOut hgr3 hown3 hat3
           have hSA := (HSD.out _).off oA2 HAN.out
           have hbl := heap_lt_of_sl HSL.out hlt
           have HAN3 : Hid (∀ a, (some ⟨pb, po, none⟩ : Option Addr) = some a → a.block ≠ gg) := fun a ha => by
            obtain rfl := Option.some.inj ha
            rcases hat3 with e | e
            ·simp [Value.ownBlock] at e; exact fun h => HAN.out _ rfl (by rw [h, e])
            ·simp at e; intro h; simp at h hbl; omega
           go_roundw
           case rel => exact ⟨i + 1, out2 ++ [x * 1440 + start % 1440], gg, cap2, by omega, by go_num, by simp, TA2, hSA, HAN3.out, by simp; omega, HN2.out⟩
           case measure => simp [intOf]; omega
          ·have hno : ¬ (x < (sn : Int) ∨ below ≤ x ∨ (0 ≤ r.until_ ∧ r.until_ < x * 1440 + start % 1440) ∨ (0 < r.count ∧ (out2.length : Int) = r.count)) := fun h => h.elim e1 (fun h => h.elim e2 (fun h => h.elim hnu (fun h => e5 h.1)))
           have e5b : decide (0 < r.count) = false := decide_eq_false e5
           clear hnu
           have HN2 : Hid (addAll r (dt sn) start below (out2 ++ [x * 1440 + start % 1440]) (kl.drop (i + 1)) = addAll r (dt sn) start below out kl) := by show _ = _; rw [HADS.out, addOne_add (dt_n sn) hno]
           clear hno HADS
           have hax1 : out2.length + 1 ≤ maxLen := by unfold maxLen; omega
           have hax2 : (out2.length + 1) * 8 ≤ 140737488355328 := by omega
           have HAX3 : Hid (∀ nq, w.heap.size ≤ ((wr.drewN nq).alloc (.cells #[.int .i64 (x * 1440 + start % 1440)] 2)).heap.size) := fun nq => by have := (TD2.out nq).fr.size; simp; simp at this; omega
           go_wp2_with fail
           go_quiet (fail)
           go_wp2_with (refine wpList_append_lies _ rfl _ _ _ (by rfl) w.heap.size 2 j0 _ 1 8 Tryz.underlying29 hj0 t0 t1 t2 rfl (by decide) (.slice (some ⟨ob2, 0, none⟩) out2.length ocap2) out2.length (iv out2) (by rfl) ((own_off TS2.out.ho (F := fun _ => False) (.of_below (drewN_below wr _)) (fun _ _ => id)).alloc _) ⟨wr.heap.size, 0, none⟩ 1 1 [.int .i64 (x * 1440 + start % 1440)] (by rfl) (by rfl) (World.news_of_block (cs := #[.int .i64 (x * 1440 + start % 1440)]) (t := 2) (fr := (0, 0)) (heap_alloc_new _ _)) (by simp [Value.oneCell']) (Nat.lt_succ_self 0) hax1 hax2 (HAX3.out _) _ rfl ?_; intro gg cap2 w3 hown3 hgr3 hat3 hlt3)
           obtain ⟨TA2, oA2⟩ := (TD2.out _).addOut hgr3 hown3 hat3
           have hSA := (HSD.out _).off oA2 HAN.out
           have hbl := heap_lt_of_sl HSL.out hlt
           have HAN3 : Hid (∀ a, (some ⟨pb, po, none⟩ : Option Addr) = some a → a.block ≠ gg) := fun a ha => by
            obtain rfl := Option.some.inj ha
            rcases hat3 with e | e
            ·simp [Value.ownBlock] at e; exact fun h => HAN.out _ rfl (by rw [h, e])
            ·simp at e; intro h; simp at h hbl; omega
           go_roundw
           case rel => exact ⟨i + 1, out2 ++ [x * 1440 + start % 1440], gg, cap2, by omega, by go_num, by simp, TA2, hSA, HAN3.out, by simp; omega, HN2.out⟩
           case measure => simp [intOf]; omega
      ·have hiz : ¬ (i : Int) < kl.length := by omega
       obtain rfl : i = kl.length := by omega
       have HE : Hid (out2 = addAll r (dt sn) start below out kl) := by show _ = _; rw [← HAD.out, List.drop_of_length_le (Nat.le_refl _)]; rfl
       by_cases hb : below ≤ (n : Int)
       ·have HE2 : Hid (res = out2) := by show _ = _; rw [← HI.out, HRR.out n out l last h38 hfl.out (by omega), HKE.out, HE.out]
        go_wp2_with fail
        go_ret
        have ho := TS2.out.ho
        exact ⟨_, _, by rw [HE2.out]; rfl, by rw [HE2.out]; exact ho, TS2.out.fr⟩
       ·have HIN : Hid (rn (n + 1) out2 (if good r (dt sn) n then ([] : List Int) ++ [(n : Int)] else []) p = res) := by
         have h1 := HRG0.out n out l last h38 hfl.out (by omega)
         rw [HI.out, HKE.out, ← HE.out] at h1
         show _ = _; rw [h1, if_pos h37, HPE.out]; rfl
        have TL := Lib.hid TS2.out.newL
        obtain ⟨wl, hwl⟩ : ∃ wl, wr.alloc (.cells #[] 3) = wl := ⟨_, rfl⟩
        rw [hwl] at TL
        have HWL := Lib.hid hwl
        clear hwl
        go_upto_region 25 with fail
        rw [HWL.out]
        clear R0 R1 R2 R3 R4 R5 R6 R7 R8 S0 S1 S2 S3 S4 D0 D1 D2 D3 D4
        have R0 := blk_cell TL.out.hr (i := 0) (v := .int .i64 r.freq) rfl
        have R1 := blk_cell TL.out.hr (i := 1) (v := .int .i64 r.iv) rfl
        have R2 := blk_cell TL.out.hr (i := 2) (v := .int .i64 r.count) rfl
        have R3 := blk_cell TL.out.hr (i := 3) (v := .int .i64 r.until_) rfl
        have R4 := blk_cell TL.out.hr (i := 4) (v := .slice A1 r.bm.length c1) rfl
        have R5 := blk_cell TL.out.hr (i := 5) (v := .slice A2 r.bd.length c2) rfl
        have R6 := blk_cell TL.out.hr (i := 6) (v := .slice A3 r.bw.length c3) rfl
        have R7 := blk_cell TL.out.hr (i := 7) (v := .slice A4 r.bs.length c4) rfl
        have R8 := blk_cell TL.out.hr (i := 8) (v := .int .i64 r.start) rfl
        have S0 := blk_cell TL.out.hs (i := 0) (v := .int .i64 (dt sn).n) rfl
        have S1 := blk_cell TL.out.hs (i := 1) (v := .int .i64 (dt sn).y) rfl
        have S2 := blk_cell TL.out.hs (i := 2) (v := .int .i64 (dt sn).m) rfl
        have S3 := blk_cell TL.out.hs (i := 3) (v := .int .i64 (dt sn).d) rfl
        have S4 := blk_cell TL.out.hs (i := 4) (v := .int .i64 (dt sn).w) rfl
        have D0 := blk_cell TL.out.hd (i := 0) (v := .int .i64 (dt n).n) rfl
        have D1 := blk_cell TL.out.hd (i := 1) (v := .int .i64 (dt n).y) rfl
        have D2 := blk_cell TL.out.hd (i := 2) (v := .int .i64 (dt n).m) rfl
        have D3 := blk_cell TL.out.hd (i := 3) (v := .int .i64 (dt n).d) rfl
        have D4 := blk_cell TL.out.hd (i := 4) (v := .int .i64 (dt n).w) rfl
        rw [hnn] at D0
        have HNIL : Hid (∀ x ∈ ([] : List Int), 0 ≤ x ∧ x ≤ 109938) := fun x hx => by cases hx
        by_cases hg : p % r.iv = 0
        ·have hgz : (p.tmod r.iv == 0) = true := by rw [rem_zero]; simpa using hg
         go_upto_region 26 with fail
         go_wp2_with fail
         go_at_call 84
         refine (HRG.out wl TL.out.fr).mono ?_
         rintro e wq ⟨rfl, hbq⟩
         have TR := Lib.hid (TL.out.below hbq)
         clear hbq
         clear R0 R1 R2 R3 R4 R5 R6 R7 R8 S0 S1 S2 S3 S4 D0 D1 D2 D3 D4
         have R0 := blk_cell TR.out.hr (i := 0) (v := .int .i64 r.freq) rfl
         have R1 := blk_cell TR.out.hr (i := 1) (v := .int .i64 r.iv) rfl
         have R2 := blk_cell TR.out.hr (i := 2) (v := .int .i64 r.count) rfl
         have R3 := blk_cell TR.out.hr (i := 3) (v := .int .i64 r.until_) rfl
         have R4 := blk_cell TR.out.hr (i := 4) (v := .slice A1 r.bm.length c1) rfl
         have R5 := blk_cell TR.out.hr (i := 5) (v := .slice A2 r.bd.length c2) rfl
         have R6 := blk_cell TR.out.hr (i := 6) (v := .slice A3 r.bw.length c3) rfl
         have R7 := blk_cell TR.out.hr (i := 7) (v := .slice A4 r.bs.length c4) rfl
         have R8 := blk_cell TR.out.hr (i := 8) (v := .int .i64 r.start) rfl
         have S0 := blk_cell TR.out.hs (i := 0) (v := .int .i64 (dt sn).n) rfl
         have S1 := blk_cell TR.out.hs (i := 1) (v := .int .i64 (dt sn).y) rfl
         have S2 := blk_cell TR.out.hs (i := 2) (v := .int .i64 (dt sn).m) rfl
         have S3 := blk_cell TR.out.hs (i := 3) (v := .int .i64 (dt sn).d) rfl
         have S4 := blk_cell TR.out.hs (i := 4) (v := .int .i64 (dt sn).w) rfl
         have D0 := blk_cell TR.out.hd (i := 0) (v := .int .i64 (dt n).n) rfl
         have D1 := blk_cell TR.out.hd (i := 1) (v := .int .i64 (dt n).y) rfl
         have D2 := blk_cell TR.out.hd (i := 2) (v := .int .i64 (dt n).m) rfl
         have D3 := blk_cell TR.out.hd (i := 3) (v := .int .i64 (dt n).d) rfl
         have D4 := blk_cell TR.out.hd (i := 4) (v := .int .i64 (dt n).w) rfl
         rw [hnn] at D0
         cases hrb : rightB r (dt sn) (dt n) with
         | true =>
          have hgo : good r (dt sn) n := ⟨h37, by rw [HPE.out]; exact hg, hrb⟩
          rw [if_pos hgo] at HIN
          have hax1 : 0 + 1 ≤ maxLen := by unfold maxLen; first | omega | (simp; omega)
          have hax2 : (0 + 1) * 8 ≤ 140737488355328 := by first | omega | (simp; omega)
          have HAX3 : Hid (w.heap.size ≤ (wq.alloc (.cells #[.int .i64 (n : Int)] 3)).heap.size) := by show _ ≤ _; simp; exact Nat.le_trans TR.out.fr.size (Nat.le_succ _)
          go_upto_region 28 with (refine wpList_append_lies _ rfl _ _ _ (by rfl) w.heap.size 3 i0 _ 1 8 Tryz.underlying25 hi0 p0 p1 p2 rfl (by decide) (.slice (some ⟨wr.heap.size, 0, none⟩) 0 0) 0 (iv ([] : List Int)) (by rfl) (TR.out.hl.alloc _) ⟨wq.heap.size, 0, none⟩ 1 1 [.int .i64 (n : Int)] (by rfl) (by rfl) (World.news_of_block (cs := #[.int .i64 (n : Int)]) (t := 3) (fr := (0, 0)) (heap_alloc_new _ _)) (by simp [Value.oneCell']) (Nat.lt_succ_self 0) hax1 hax2 HAX3.out _ rfl ?_; intro gg cap2 w3 hown3 hgr3 hat3 hlt3)
          have TA := Lib.hid (TR.out.addL hgr3 hown3 hat3)
          clear hgr3 hown3 hat3
          clear R0 R1 R2 R3 R4 R5 R6 R7 R8 S0 S1 S2 S3 S4 D0 D1 D2 D3 D4
          have R0 := blk_cell TA.out.hr (i := 0) (v := .int .i64 r.freq) rfl
          have R1 := blk_cell TA.out.hr (i := 1) (v := .int .i64 r.iv) rfl
          have R2 := blk_cell TA.out.hr (i := 2) (v := .int .i64 r.count) rfl
          have R3 := blk_cell TA.out.hr (i := 3) (v := .int .i64 r.until_) rfl
          have R4 := blk_cell TA.out.hr (i := 4) (v := .slice A1 r.bm.length c1) rfl
          have R5 := blk_cell TA.out.hr (i := 5) (v := .slice A2 r.bd.length c2) rfl
          have R6 := blk_cell TA.out.hr (i := 6) (v := .slice A3 r.bw.length c3) rfl
          have R7 := blk_cell TA.out.hr (i := 7) (v := .slice A4 r.bs.length c4) rfl
          have R8 := blk_cell TA.out.hr (i := 8) (v := .int .i64 r.start) rfl
          have S0 := blk_cell TA.out.hs (i := 0) (v := .int .i64 (dt sn).n) rfl
          have S1 := blk_cell TA.out.hs (i := 1) (v := .int .i64 (dt sn).y) rfl
          have S2 := blk_cell TA.out.hs (i := 2) (v := .int .i64 (dt sn).m) rfl
          have S3 := blk_cell TA.out.hs (i := 3) (v := .int .i64 (dt sn).d) rfl
          have S4 := blk_cell TA.out.hs (i := 4) (v := .int .i64 (dt sn).w) rfl
          have D0 := blk_cell TA.out.hd (i := 0) (v := .int .i64 (dt n).n) rfl
          have D1 := blk_cell TA.out.hd (i := 1) (v := .int .i64 (dt n).y) rfl
          have D2 := blk_cell TA.out.hd (i := 2) (v := .int .i64 (dt n).m) rfl
          have D3 := blk_cell TA.out.hd (i := 3) (v := .int .i64 (dt n).d) rfl
          have D4 := blk_cell TA.out.hd (i := 4) (v := .int .i64 (dt n).w) rfl
          rw [hnn] at D0
          go_upto_region 9 with fail
          have TN := Lib.hid TA.out.newD
          have hne1 : w3.heap.size ≠ w.heap.size := by have := heap_lt' TA.out.hr; omega
          have hne2 : w3.heap.size ≠ sb := by have := heap_lt' TA.out.hs; omega
          obtain ⟨wz, hwz⟩ : ∃ wz, w3.alloc (.cells (dcells (dt n)) 109) = wz := ⟨_, rfl⟩
          rw [hwz] at TN
          have HWZ := Lib.hid hwz
          clear hwz
          unfold dcells at HWZ
          rw [hnn] at HWZ
          rw [HWZ.out]
          obtain ⟨db2, hdb2⟩ : ∃ db2, w3.heap.size = db2 := ⟨_, rfl⟩
          rw [hdb2] at TN hne1 hne2 ⊢
          clear R0 R1 R2 R3 R4 R5 R6 R7 R8 S0 S1 S2 S3 S4 D0 D1 D2 D3 D4
          have R0 := blk_cell TN.out.hr (i := 0) (v := .int .i64 r.freq) rfl
          have R1 := blk_cell TN.out.hr (i := 1) (v := .int .i64 r.iv) rfl
          have R2 := blk_cell TN.out.hr (i := 2) (v := .int .i64 r.count) rfl
          have R3 := blk_cell TN.out.hr (i := 3) (v := .int .i64 r.until_) rfl
          have R4 := blk_cell TN.out.hr (i := 4) (v := .slice A1 r.bm.length c1) rfl
          have R5 := blk_cell TN.out.hr (i := 5) (v := .slice A2 r.bd.length c2) rfl
          have R6 := blk_cell TN.out.hr (i := 6) (v := .slice A3 r.bw.length c3) rfl
          have R7 := blk_cell TN.out.hr (i := 7) (v := .slice A4 r.bs.length c4) rfl
          have R8 := blk_cell TN.out.hr (i := 8) (v := .int .i64 r.start) rfl
          have S0 := blk_cell TN.out.hs (i := 0) (v := .int .i64 (dt sn).n) rfl
          have S1 := blk_cell TN.out.hs (i := 1) (v := .int .i64 (dt sn).y) rfl
          have S2 := blk_cell TN.out.hs (i := 2) (v := .int .i64 (dt sn).m) rfl
          have S3 := blk_cell TN.out.hs (i := 3) (v := .int .i64 (dt sn).d) rfl
          have S4 := blk_cell TN.out.hs (i := 4) (v := .int .i64 (dt sn).w) rfl
          have D0 := blk_cell TN.out.hd (i := 0) (v := .int .i64 (dt n).n) rfl
          have D1 := blk_cell TN.out.hd (i := 1) (v := .int .i64 (dt n).y) rfl
          have D2 := blk_cell TN.out.hd (i := 2) (v := .int .i64 (dt n).m) rfl
          have D3 := blk_cell TN.out.hd (i := 3) (v := .int .i64 (dt n).d) rfl
          have D4 := blk_cell TN.out.hd (i := 4) (v := .int .i64 (dt n).w) rfl
          rw [hnn] at D0
          have HNX := Lib.hid (HNx.out n h38 wz)
          rw [hnn] at HNX
          go_wp2_with fail
          go_at_call 81
          refine HNX.out.mono ?_
          rintro e wn ⟨rfl, hbnx⟩
          have TM := Lib.hid (TN.out.below hbnx)
          clear hbnx
          clear R0 R1 R2 R3 R4 R5 R6 R7 R8 S0 S1 S2 S3 S4 D0 D1 D2 D3 D4
          have R0 := blk_cell TM.out.hr (i := 0) (v := .int .i64 r.freq) rfl
          have R1 := blk_cell TM.out.hr (i := 1) (v := .int .i64 r.iv) rfl
          have R2 := blk_cell TM.out.hr (i := 2) (v := .int .i64 r.count) rfl
          have R3 := blk_cell TM.out.hr (i := 3) (v := .int .i64 r.until_) rfl
          have R4 := blk_cell TM.out.hr (i := 4) (v := .slice A1 r.bm.length c1) rfl
          have R5 := blk_cell TM.out.hr (i := 5) (v := .slice A2 r.bd.length c2) rfl
          have R6 := blk_cell TM.out.hr (i := 6) (v := .slice A3 r.bw.length c3) rfl
          have R7 := blk_cell TM.out.hr (i := 7) (v := .slice A4 r.bs.length c4) rfl
          have R8 := blk_cell TM.out.hr (i := 8) (v := .int .i64 r.start) rfl
          have S0 := blk_cell TM.out.hs (i := 0) (v := .int .i64 (dt sn).n) rfl
          have S1 := blk_cell TM.out.hs (i := 1) (v := .int .i64 (dt sn).y) rfl
          have S2 := blk_cell TM.out.hs (i := 2) (v := .int .i64 (dt sn).m) rfl
          have S3 := blk_cell TM.out.hs (i := 3) (v := .int .i64 (dt sn).d) rfl
          have S4 := blk_cell TM.out.hs (i := 4) (v := .int .i64 (dt sn).w) rfl
          have D0 := blk_cell TM.out.hd (i := 0) (v := .int .i64 (dt n).n) rfl
          have D1 := blk_cell TM.out.hd (i := 1) (v := .int .i64 (dt n).y) rfl
          have D2 := blk_cell TM.out.hd (i := 2) (v := .int .i64 (dt n).m) rfl
          have D3 := blk_cell TM.out.hd (i := 3) (v := .int .i64 (dt n).d) rfl
          have D4 := blk_cell TM.out.hd (i := 4) (v := .int .i64 (dt n).w) rfl
          rw [hnn] at D0
          have DF := blk_free TM.out.hd
          go_wp2_with fail
          have TE := TM.out.setD hne1 hne2 (nx (dt n))
          have hnn2 : (nx (dt n)).n = ((n + 1 : Nat) : Int) := by rw [nx_n, hnn]; rfl
          have hcell := blk_cell TE.hd (i := 0) (v := .int .i64 (nx (dt n)).n) rfl
          have hday2 : dayOf (.pointer (some ⟨db2, 0, none⟩)) (chain5 wn db2 (.int .i64 (nx (dt n)).n) (.int .i64 (nx (dt n)).y) (.int .i64 (nx (dt n)).m) (.int .i64 (nx (dt n)).d) (.int .i64 (nx (dt n)).w)) = n + 1 := by rw [dayOf_at hcell, hnn2]; simp
          unfold chain5 at hday2
          clear hcell
          go_roundw
          case rel => exact ⟨n + 1, out2, (([] : List Int) ++ [(n : Int)]), p, ob2, ocap2, gg, cap2, db2, nx (dt n), by omega, rfl, by simp, rfl, rfl, TE, ⟨hnn2, fun h => nx_dt (by omega), hne1, hne2⟩, by omega, by simp; omega, (fun x hx => (List.mem_append.1 hx).elim (HNIL.out x) (fun hx => by rw [show x = (n : Int) by simpa using hx]; omega)), HIN.out⟩
          case measure => rw [HDAY.out, hday2]; omega
         | false =>
          have hng : ¬ good r (dt sn) n := fun h => by have := h.2.2; rw [hrb] at this; cases this
          rw [if_neg hng] at HIN
          go_upto_region 9 with fail
          have TN := Lib.hid TR.out.newD
          have hne1 : wq.heap.size ≠ w.heap.size := by have := heap_lt' TR.out.hr; omega
          have hne2 : wq.heap.size ≠ sb := by have := heap_lt' TR.out.hs; omega
          obtain ⟨wz, hwz⟩ : ∃ wz, wq.alloc (.cells (dcells (dt n)) 109) = wz := ⟨_, rfl⟩
          rw [hwz] at TN
          have HWZ := Lib.hid hwz
          clear hwz
          unfold dcells at HWZ
          rw [hnn] at HWZ
          rw [HWZ.out]
          obtain ⟨db2, hdb2⟩ : ∃ db2, wq.heap.size = db2 := ⟨_, rfl⟩
          rw [hdb2] at TN hne1 hne2 ⊢
          clear R0 R1 R2 R3 R4 R5 R6 R7 R8 S0 S1 S2 S3 S4 D0 D1 D2 D3 D4
          have R0 := blk_cell TN.out.hr (i := 0) (v := .int .i64 r.freq) rfl
          have R1 := blk_cell TN.out.hr (i := 1) (v := .int .i64 r.iv) rfl
          have R2 := blk_cell TN.out.hr (i := 2) (v := .int .i64 r.count) rfl
          have R3 := blk_cell TN.out.hr (i := 3) (v := .int .i64 r.until_) rfl
          have R4 := blk_cell TN.out.hr (i := 4) (v := .slice A1 r.bm.length c1) rfl
          have R5 := blk_cell TN.out.hr (i := 5) (v := .slice A2 r.bd.length c2) rfl
          have R6 := blk_cell TN.out.hr (i := 6) (v := .slice A3 r.bw.length c3) rfl
          have R7 := blk_cell TN.out.hr (i := 7) (v := .slice A4 r.bs.length c4) rfl
          have R8 := blk_cell TN.out.hr (i := 8) (v := .int .i64 r.start) rfl
          have S0 := blk_cell TN.out.hs (i := 0) (v := .int .i64 (dt sn).n) rfl
          have S1 := blk_cell TN.out.hs (i := 1) (v := .int .i64 (dt sn).y) rfl
          have S2 := blk_cell TN.out.hs (i := 2) (v := .int .i64 (dt sn).m) rfl
          have S3 := blk_cell TN.out.hs (i := 3) (v := .int .i64 (dt sn).d) rfl
          have S4 := blk_cell TN.out.hs (i := 4) (v := .int .i64 (dt sn).w) rfl
          have D0 := blk_cell TN.out.hd (i := 0) (v := .int .i64 (dt n).n) rfl
          have D1 := blk_cell TN.out.hd (i := 1) (v := .int .i64 (dt n).y) rfl
          have D2 := blk_cell TN.out.hd (i := 2) (v := .int .i64 (dt n).m) rfl
          have D3 := blk_cell TN.out.hd (i := 3) (v := .int .i64 (dt n).d) rfl
          have D4 := blk_cell TN.out.hd (i := 4) (v := .int .i64 (dt n).w) rfl
          rw [hnn] at D0
          have HNX := Lib.hid (HNx.out n h38 wz)
          rw [hnn] at HNX
          go_wp2_with fail
          go_at_call 81
          refine HNX.out.mono ?_
          rintro e wn ⟨rfl, hbnx⟩
          have TM := Lib.hid (TN.out.below hbnx)
          clear hbnx
          clear R0 R1 R2 R3 R4 R5 R6 R7 R8 S0 S1 S2 S3 S4 D0 D1 D2 D3 D4
          have R0 := blk_cell TM.out.hr (i := 0) (v := .int .i64 r.freq) rfl
          have R1 := blk_cell TM.out.hr (i := 1) (v := .int .i64 r.iv) rfl
          have R2 := blk_cell TM.out.hr (i := 2) (v := .int .i64 r.count) rfl
          have R3 := blk_cell TM.out.hr (i := 3) (v := .int .i64 r.until_) rfl
          have R4 := blk_cell TM.out.hr (i := 4) (v := .slice A1 r.bm.length c1) rfl
          have R5 := blk_cell TM.out.hr (i := 5) (v := .slice A2 r.bd.length c2) rfl
          have R6 := blk_cell TM.out.hr (i := 6) (v := .slice A3 r.bw.length c3) rfl
          have R7 := blk_cell TM.out.hr (i := 7) (v := .slice A4 r.bs.length c4) rfl
          have R8 := blk_cell TM.out.hr (i := 8) (v := .int .i64 r.start) rfl
          have S0 := blk_cell TM.out.hs (i := 0) (v := .int .i64 (dt sn).n) rfl
          have S1 := blk_cell TM.out.hs (i := 1) (v := .int .i64 (dt sn).y) rfl
          have S2 := blk_cell TM.out.hs (i := 2) (v := .int .i64 (dt sn).m) rfl
          have S3 := blk_cell TM.out.hs (i := 3) (v := .int .i64 (dt sn).d) rfl
          have S4 := blk_cell TM.out.hs (i := 4) (v := .int .i64 (dt sn).w) rfl
          have D0 := blk_cell TM.out.hd (i := 0) (v := .int .i64 (dt n).n) rfl
          have D1 := blk_cell TM.out.hd (i := 1) (v := .int .i64 (dt n).y) rfl
          have D2 := blk_cell TM.out.hd (i := 2) (v := .int .i64 (dt n).m) rfl
          have D3 := blk_cell TM.out.hd (i := 3) (v := .int .i64 (dt n).d) rfl
          have D4 := blk_cell TM.out.hd (i := 4) (v := .int .i64 (dt n).w) rfl
          rw [hnn] at D0
          have DF := blk_free TM.out.hd
          go_wp2_with fail
          have TE := TM.out.setD hne1 hne2 (nx (dt n))
          have hnn2 : (nx (dt n)).n = ((n + 1 : Nat) : Int) := by rw [nx_n, hnn]; rfl
          have hcell := blk_cell TE.hd (i := 0) (v := .int .i64 (nx (dt n)).n) rfl
          have hday2 : dayOf (.pointer (some ⟨db2, 0, none⟩)) (chain5 wn db2 (.int .i64 (nx (dt n)).n) (.int .i64 (nx (dt n)).y) (.int .i64 (nx (dt n)).m) (.int .i64 (nx (dt n)).d) (.int .i64 (nx (dt n)).w)) = n + 1 := by rw [dayOf_at hcell, hnn2]; simp
          unfold chain5 at hday2
          clear hcell
          go_roundw
          case rel => exact ⟨n + 1, out2, ([] : List Int), p, ob2, ocap2, wr.heap.size, 0, db2, nx (dt n), by omega, rfl, rfl, rfl, rfl, TE, ⟨hnn2, fun h => nx_dt (by omega), hne1, hne2⟩, by omega, by simp; omega, HNIL.out, HIN.out⟩
          case measure => rw [HDAY.out, hday2]; omega
        ·have hgz : (p.tmod r.iv == 0) = false := by rw [rem_zero]; simpa using hg
         have hng : ¬ good r (dt sn) n := fun h => by have := h.2.1; rw [HPE.out] at this; exact hg this
         rw [if_neg hng] at HIN
         go_upto_region 9 with fail
         have TN := Lib.hid TL.out.newD
         have hne1 : wl.heap.size ≠ w.heap.size := by have := heap_lt' TL.out.hr; omega
         have hne2 : wl.heap.size ≠ sb := by have := heap_lt' TL.out.hs; omega
         obtain ⟨wz, hwz⟩ : ∃ wz, wl.alloc (.cells (dcells (dt n)) 109) = wz := ⟨_, rfl⟩
         rw [hwz] at TN
         have HWZ := Lib.hid hwz
         clear hwz
         unfold dcells at HWZ
         rw [hnn] at HWZ
         rw [HWZ.out]
         obtain ⟨db2, hdb2⟩ : ∃ db2, wl.heap.size = db2 := ⟨_, rfl⟩
         rw [hdb2] at TN hne1 hne2 ⊢
         clear R0 R1 R2 R3 R4 R5 R6 R7 R8 S0 S1 S2 S3 S4 D0 D1 D2 D3 D4
         have R0 := blk_cell TN.out.hr (i := 0) (v := .int .i64 r.freq) rfl
         have R1 := blk_cell TN.out.hr (i := 1) (v := .int .i64 r.iv) rfl
         have R2 := blk_cell TN.out.hr (i := 2) (v := .int .i64 r.count) rfl
         have R3 := blk_cell TN.out.hr (i := 3) (v := .int .i64 r.until_) rfl
         have R4 := blk_cell TN.out.hr (i := 4) (v := .slice A1 r.bm.length c1) rfl
         have R5 := blk_cell TN.out.hr (i := 5) (v := .slice A2 r.bd.length c2) rfl
         have R6 := blk_cell TN.out.hr (i := 6) (v := .slice A3 r.bw.length c3) rfl
         have R7 := blk_cell TN.out.hr (i := 7) (v := .slice A4 r.bs.length c4) rfl
         have R8 := blk_cell TN.out.hr (i := 8) (v := .int .i64 r.start) rfl
         have S0 := blk_cell TN.out.hs (i := 0) (v := .int .i64 (dt sn).n) rfl
         have S1 := blk_cell TN.out.hs (i := 1) (v := .int .i64 (dt sn).y) rfl
         have S2 := blk_cell TN.out.hs (i := 2) (v := .int .i64 (dt sn).m) rfl
         have S3 := blk_cell TN.out.hs (i := 3) (v := .int .i64 (dt sn).d) rfl
         have S4 := blk_cell TN.out.hs (i := 4) (v := .int .i64 (dt sn).w) rfl
         have D0 := blk_cell TN.out.hd (i := 0) (v := .int .i64 (dt n).n) rfl
         have D1 := blk_cell TN.out.hd (i := 1) (v := .int .i64 (dt n).y) rfl
         have D2 := blk_cell TN.out.hd (i := 2) (v := .int .i64 (dt n).m) rfl
         have D3 := blk_cell TN.out.hd (i := 3) (v := .int .i64 (dt n).d) rfl
         have D4 := blk_cell TN.out.hd (i := 4) (v := .int .i64 (dt n).w) rfl
         rw [hnn] at D0
         have HNX := Lib.hid (HNx.out n h38 wz)
         rw [hnn] at HNX
         go_wp2_with fail
         go_at_call 81
         refine HNX.out.mono ?_
         rintro e wn ⟨rfl, hbnx⟩
         have TM := Lib.hid (TN.out.below hbnx)
         clear hbnx
         clear R0 R1 R2 R3 R4 R5 R6 R7 R8 S0 S1 S2 S3 S4 D0 D1 D2 D3 D4
         have R0 := blk_cell TM.out.hr (i := 0) (v := .int .i64 r.freq) rfl
         have R1 := blk_cell TM.out.hr (i := 1) (v := .int .i64 r.iv) rfl
         have R2 := blk_cell TM.out.hr (i := 2) (v := .int .i64 r.count) rfl
         have R3 := blk_cell TM.out.hr (i := 3) (v := .int .i64 r.until_) rfl
         have R4 := blk_cell TM.out.hr (i := 4) (v := .slice A1 r.bm.length c1) rfl
         have R5 := blk_cell TM.out.hr (i := 5) (v := .slice A2 r.bd.length c2) rfl
         have R6 := blk_cell TM.out.hr (i := 6) (v := .slice A3 r.bw.length c3) rfl
         have R7 := blk_cell TM.out.hr (i := 7) (v := .slice A4 r.bs.length c4) rfl
         have R8 := blk_cell TM.out.hr (i := 8) (v := .int .i64 r.start) rfl
         have S0 := blk_cell TM.out.hs (i := 0) (v := .int .i64 (dt sn).n) rfl
         have S1 := blk_cell TM.out.hs (i := 1) (v := .int .i64 (dt sn).y) rfl
         have S2 := blk_cell TM.out.hs (i := 2) (v := .int .i64 (dt sn).m) rfl
         have S3 := blk_cell TM.out.hs (i := 3) (v := .int .i64 (dt sn).d) rfl
         have S4 := blk_cell TM.out.hs (i := 4) (v := .int .i64 (dt sn).w) rfl
         have D0 := blk_cell TM.out.hd (i := 0) (v := .int .i64 (dt n).n) rfl
         have D1 := blk_cell TM.out.hd (i := 1) (v := .int .i64 (dt n).y) rfl
         have D2 := blk_cell TM.out.hd (i := 2) (v := .int .i64 (dt n).m) rfl
         have D3 := blk_cell TM.out.hd (i := 3) (v := .int .i64 (dt n).d) rfl
         have D4 := blk_cell TM.out.hd (i := 4) (v := .int .i64 (dt n).w) rfl
         rw [hnn] at D0
         have DF := blk_free TM.out.hd
         go_wp2_with fail
         have TE := TM.out.setD hne1 hne2 (nx (dt n))
         have hnn2 : (nx (dt n)).n = ((n + 1 : Nat) : Int) := by rw [nx_n, hnn]; rfl
         have hcell := blk_cell TE.hd (i := 0) (v := .int .i64 (nx (dt n)).n) rfl
         have hday2 : dayOf (.pointer (some ⟨db2, 0, none⟩)) (chain5 wn db2 (.int .i64 (nx (dt n)).n) (.int .i64 (nx (dt n)).y) (.int .i64 (nx (dt n)).m) (.int .i64 (nx (dt n)).d) (.int .i64 (nx (dt n)).w)) = n + 1 := by rw [dayOf_at hcell, hnn2]; simp
         unfold chain5 at hday2
         clear hcell
         go_roundw
         case rel => exact ⟨n + 1, out2, ([] : List Int), p, ob2, ocap2, wr.heap.size, 0, db2, nx (dt n), by omega, rfl, rfl, rfl, rfl, TE, ⟨hnn2, fun h => nx_dt (by omega), hne1, hne2⟩, by omega, by simp; omega, HNIL.out, HIN.out⟩
         case measure => rw [HDAY.out, hday2]; omega
   ·have hne38 : ((n : Int) == 109938) = true := by simp; omega
    have h37z : decide ((n : Int) < 109938) = false := decide_eq_false (by omega)
    have hfl := Lib.hid (flush_end (r := r) (s := dt sn) (last := last) (show n = 109938 by omega))
    by_cases hl0 : last = 0
    ·subst hl0
     have HKp := Lib.hid (HK.out l (some ⟨lb, 0, none⟩) lcap wr (by omega) HT.out.fr (Sl.own_ HT.out.hl))
     go_wp2_with fail
     go_at_call 83
     refine HKp.out.mono ?_
     rintro e wk ⟨A', c', rfl, hSl, hbk, hA1⟩
     have TK := Lib.hid (HT.out.below hbk)
     have hA2 : ∀ a, A' = some a → a.block ≠ ob := fun a ha => by
      rcases hA1 a ha with e | e
      ·obtain rfl := Option.some.inj e; exact fun h => HT.out.n1.2.2.2 h.symm
      ·have := (HT.out.ho.lt ob rfl).2; omega
     have hk1 := keptL_len r l
     have hk2 : ∀ x ∈ keptL r l, 0 ≤ x ∧ x ≤ 109938 := fun x hx => HMEM.out x (keptL_mem x hx)
     have HKL : Hid (addAll r (dt sn) start below out (keptL r l) = addAll r (dt sn) start below out (keptL r l)) := rfl
     generalize hkl : keptL r l = kl at *
     have HKE := Lib.hid hkl
     have HS2 := Lib.hid hSl
     have HA2 := Lib.hid hA2
     have HK2 := Lib.hid hk2
     clear hkl hSl hbk hA1 hA2 hk2 HKL HKp
     clear R0 R1 R2 R3 R4 R5 R6 R7 R8 S0 S1 S2 S3 S4 D0 D1 D2 D3 D4
     have R0 := blk_cell TK.out.hr (i := 0) (v := .int .i64 r.freq) rfl
     have R1 := blk_cell TK.out.hr (i := 1) (v := .int .i64 r.iv) rfl
     have R2 := blk_cell TK.out.hr (i := 2) (v := .int .i64 r.count) rfl
     have R3 := blk_cell TK.out.hr (i := 3) (v := .int .i64 r.until_) rfl
     have R4 := blk_cell TK.out.hr (i := 4) (v := .slice A1 r.bm.length c1) rfl
     have R5 := blk_cell TK.out.hr (i := 5) (v := .slice A2 r.bd.length c2) rfl
     have R6 := blk_cell TK.out.hr (i := 6) (v := .slice A3 r.bw.length c3) rfl
     have R7 := blk_cell TK.out.hr (i := 7) (v := .slice A4 r.bs.length c4) rfl
     have R8 := blk_cell TK.out.hr (i := 8) (v := .int .i64 r.start) rfl
     have S0 := blk_cell TK.out.hs (i := 0) (v := .int .i64 (dt sn).n) rfl
     have S1 := blk_cell TK.out.hs (i := 1) (v := .int .i64 (dt sn).y) rfl
     have S2 := blk_cell TK.out.hs (i := 2) (v := .int .i64 (dt sn).m) rfl
     have S3 := blk_cell TK.out.hs (i := 3) (v := .int .i64 (dt sn).d) rfl
     have S4 := blk_cell TK.out.hs (i := 4) (v := .int .i64 (dt sn).w) rfl
     have D0 := blk_cell TK.out.hd (i := 0) (v := .int .i64 (dt n).n) rfl
     have D1 := blk_cell TK.out.hd (i := 1) (v := .int .i64 (dt n).y) rfl
     have D2 := blk_cell TK.out.hd (i := 2) (v := .int .i64 (dt n).m) rfl
     have D3 := blk_cell TK.out.hd (i := 3) (v := .int .i64 (dt n).d) rfl
     have D4 := blk_cell TK.out.hd (i := 4) (v := .int .i64 (dt n).w) rfl
     rw [hnn] at D0
     go_wp2_with fail
     go_loopw [7, 62] (fun s7 s62 wr2 => ∃ (i : Nat) (out2 : List Int) (ob2 ocap2 : Nat), i ≤ kl.length ∧ s62 = .int .i64 i ∧ s7 = .slice (some ⟨ob2, 0, none⟩) out2.length ocap2 ∧ Hid (TSt w wr2 (rcells r A1 A2 A3 A4 c1 c2 c3 c4) w.heap.size sb ob2 ocap2 lb lcap db (dt sn) (dt n) out2 l) ∧ Hid (Sl wr2 A' kl.length c' (iv kl)) ∧ Hid (∀ a, A' = some a → a.block ≠ ob2) ∧ out2.length ≤ out.length + i ∧ Hid (addAll r (dt sn) start below out2 (kl.drop i) = addAll r (dt sn) start below out kl)) (fun _ s62 _ => kl.length - (intOf s62).toNat)
     case atStart => exact ⟨0, out, ob, ocap, Nat.zero_le _, rfl, rfl, TK.out, HS2.out, HA2.out, by omega, rfl⟩
     case round =>
      obtain ⟨i, out2, ob2, ocap2, hi, rfl, rfl, TS2, HSL, HAN, hol, HAD⟩ := hrel
      clear R0 R1 R2 R3 R4 R5 R6 R7 R8 S0 S1 S2 S3 S4 D0 D1 D2 D3 D4
      have R0 := blk_cell TS2.out.hr (i := 0) (v := .int .i64 r.freq) rfl
      have R1 := blk_cell TS2.out.hr (i := 1) (v := .int .i64 r.iv) rfl
      have R2 := blk_cell TS2.out.hr (i := 2) (v := .int .i64 r.count) rfl
      have R3 := blk_cell TS2.out.hr (i := 3) (v := .int .i64 r.until_) rfl
      have R4 := blk_cell TS2.out.hr (i := 4) (v := .slice A1 r.bm.length c1) rfl
      have R5 := blk_cell TS2.out.hr (i := 5) (v := .slice A2 r.bd.length c2) rfl
      have R6 := blk_cell TS2.out.hr (i := 6) (v := .slice A3 r.bw.length c3) rfl
      have R7 := blk_cell TS2.out.hr (i := 7) (v := .slice A4 r.bs.length c4) rfl
      have R8 := blk_cell TS2.out.hr (i := 8) (v := .int .i64 r.start) rfl
      have S0 := blk_cell TS2.out.hs (i := 0) (v := .int .i64 (dt sn).n) rfl
      have S1 := blk_cell TS2.out.hs (i := 1) (v := .int .i64 (dt sn).y) rfl
      have S2 := blk_cell TS2.out.hs (i := 2) (v := .int .i64 (dt sn).m) rfl
      have S3 := blk_cell TS2.out.hs (i := 3) (v := .int .i64 (dt sn).d) rfl
      have S4 := blk_cell TS2.out.hs (i := 4) (v := .int .i64 (dt sn).w) rfl
      have D0 := blk_cell TS2.out.hd (i := 0) (v := .int .i64 (dt n).n) rfl
      have D1 := blk_cell TS2.out.hd (i := 1) (v := .int .i64 (dt n).y) rfl
      have D2 := blk_cell TS2.out.hd (i := 2) (v := .int .i64 (dt n).m) rfl
      have D3 := blk_cell TS2.out.hd (i := 3) (v := .int .i64 (dt n).d) rfl
      have D4 := blk_cell TS2.out.hd (i := 4) (v := .int .i64 (dt n).w) rfl
      rw [hnn] at D0
      by_cases hlt : i < kl.length
      ·have hiz : (i : Int) < kl.length := by omega
       have hw1 : IntKind.i64.wrap ((i : Int) + 1) = i + 1 := by rw [IntKind.wrap_i64]; omega
       obtain ⟨x, hx⟩ : ∃ x, kl[i]? = some x := ⟨_, List.getElem?_eq_getElem hlt⟩
       have hxb := HK2.out x (List.mem_of_getElem? hx)
       have HADS := Lib.hid (addAll_step (r := r) (s := dt sn) (start := start) (below := below) (out := out2) hx)
       rw [HAD.out] at HADS
       obtain ⟨pb, po, rfl, hpb, hpc⟩ := HSL.out.intG hx
       have hpx := hpc ⟨wr, Below.refl _ _⟩
       clear hpc hx
       have hw3 : IntKind.i64.wrap (x * 1440) = x * 1440 := by rw [IntKind.wrap_i64]; omega
       have hw4 : IntKind.i64.wrap (x * 1440 + start % 1440) = x * 1440 + start % 1440 := by rw [IntKind.wrap_i64]; omega
       have TD2 := Lib.hid (fun nq => TS2.out.below (drewN_below wr nq))
       have HSD : Hid (∀ nq, Sl (wr.drewN nq) (some ⟨pb, po, none⟩) kl.length c' (iv kl)) := fun nq => HSL.out.below (drewN_below wr nq) (Nat.le_refl _)
       have S0b : wr.cell? ⟨sb, 0, none⟩ = some (.int .i64 (sn : Int)) := by rw [S0, dt_n]
       clear S0
       by_cases e1 : x < (sn : Int)
       ·have hyes := Or.inl (b := below ≤ x ∨ (0 ≤ r.until_ ∧ r.until_ < x * 1440 + start % 1440) ∨ (0 < r.count ∧ (out2.length : Int) = r.count)) e1
        have e1b : decide (x < (sn : Int)) = true := decide_eq_true e1
        have HN2 : Hid (addAll r (dt sn) start below out2 (kl.drop (i + 1)) = addAll r (dt sn) start below out kl) := by show _ = _; rw [HADS.out, addOne_skip (dt_n sn) hyes]
        clear hyes HADS
        go_wp2_with fail
        go_quiet (fail)
        go_wp2_with fail
        go_roundw
        case rel => exact ⟨i + 1, out2, ob2, ocap2, by omega, by go_num, rfl, TD2.out _, HSD.out _, HAN.out, by omega, HN2.out⟩
        case measure => simp [intOf]; omega
       ·have e1b : decide (x < (sn : Int)) = false := decide_eq_false e1
        by_cases e2 : below ≤ x
        ·have hyes : x < (sn : Int) ∨ below ≤ x ∨ (0 ≤ r.until_ ∧ r.until_ < x * 1440 + start % 1440) ∨ (0 < r.count ∧ (out2.length : Int) = r.count) := .inr (.inl e2)
         have e2b : decide (below ≤ x) = true := decide_eq_true e2
         have HN2 : Hid (addAll r (dt sn) start below out2 (kl.drop (i + 1)) = addAll r (dt sn) start below out kl) := by show _ = _; rw [HADS.out, addOne_skip (dt_n sn) hyes]
         clear hyes HADS
         go_wp2_with fail
         go_quiet (fail)
         go_wp2_with fail
         go_roundw
         case rel => exact ⟨i + 1, out2, ob2, ocap2, by omega, by go_num, rfl, TD2.out _, HSD.out _, HAN.out, by omega, HN2.out⟩
         case measure => simp [intOf]; omega
        ·have e2b : decide (below ≤ x) = false := decide_eq_false e2
         have hu : (0 ≤ r.until_ ∧ r.until_ < x * 1440 + start % 1440) ∨ (0 ≤ r.until_ ∧ ¬ r.until_ < x * 1440 + start % 1440) ∨ ¬ 0 ≤ r.until_ := by omega
         have hc : (0 < r.count ∧ (out2.length : Int) = r.count) ∨ (0 < r.count ∧ ¬ (out2.length : Int) = r.count) ∨ ¬ 0 < r.count := by omega
         rcases hu with ⟨e3, e4⟩ | ⟨e3, e4⟩ | e3
         ·have hyes : x < (sn : Int) ∨ below ≤ x ∨ (0 ≤ r.until_ ∧ r.until_ < x * 1440 + start % 1440) ∨ (0 < r.count ∧ (out2.length : Int) = r.count) := .inr (.inr (.inl ⟨e3, e4⟩))
          clear hc
          have HN2 : Hid (addAll r (dt sn) start below out2 (kl.drop (i + 1)) = addAll r (dt sn) start below out kl) := by show _ = _; rw [HADS.out, addOne_skip (dt_n sn) hyes]
          clear hyes HADS
          go_wp2_with fail
          go_quiet (fail)
          go_wp2_with fail
          go_roundw
          case rel => exact ⟨i + 1, out2, ob2, ocap2, by omega, by go_num, rfl, TD2.out _, HSD.out _, HAN.out, by omega, HN2.out⟩
          case measure => simp [intOf]; omega
         ·have hnu : ¬ (0 ≤ r.until_ ∧ r.until_ < x * 1440 + start % 1440) := fun h => e4 h.2
          have e4b : decide (r.until_ < x * 1440 + start % 1440) = false := decide_eq_false e4
          rcases hc with ⟨e5, e6⟩ | ⟨e5, e6⟩ | e5
          ·have hyes : x < (sn : Int) ∨ below ≤ x ∨ (0 ≤ r.until_ ∧ r.until_ < x * 1440 + start % 1440) ∨ (0 < r.count ∧ (out2.length : Int) = r.count) := .inr (.inr (.inr ⟨e5, e6⟩))
           have e6b : ((out2.length : Int) == r.count) = true := by simpa using e6
           clear e6 hnu
           have HN2 : Hid (addAll r (dt sn) start below out2 (kl.drop (i + 1)) = addAll r (dt sn) start below out kl) := by show _ = _; rw [HADS.out, addOne_skip (dt_n sn) hyes]
           clear hyes HADS
           go_wp2_with fail
           go_quiet (fail)
           go_wp2_with fail
           go_roundw
           case rel => exact ⟨i + 1, out2, ob2, ocap2, by omega, by go_num, rfl, TD2.out _, HSD.out _, HAN.out, by omega, HN2.out⟩
           case measure => simp [intOf]; omega
          ·have hno : ¬ (x < (sn : Int) ∨ below ≤ x ∨ (0 ≤ r.until_ ∧ r.until_ < x * 1440 + start % 1440) ∨ (0 < r.count ∧ (out2.length : Int) = r.count)) := fun h => h.elim e1 (fun h => h.elim e2 (fun h => h.elim hnu (fun h => e6 h.2)))
           have e6b : ((out2.length : Int) == r.count) = false := beq_false_of_ne e6
           clear hnu
           have HN2 : Hid (addAll r (dt sn) start below (out2 ++ [x * 1440 + start % 1440]) (kl.drop (i + 1)) = addAll r (dt sn) start below out kl) := by show _ = _; rw [HADS.out, addOne_add (dt_n sn) hno]
           clear hno HADS
           have hax1 : out2.length + 1 ≤ maxLen := by unfold maxLen; omega
           have hax2 : (out2.length + 1) * 8 ≤ 140737488355328 := by omega
           have HAX3 : Hid (∀ nq, w.heap.size ≤ ((wr.drewN nq).alloc (.cells #[.int .i64 (x * 1440 + start % 1440)] 2)).heap.size) := fun nq => by have := (TD2.out nq).fr.size; simp; simp at this; omega
           go_wp2_with fail
           go_quiet (fail)
           go_wp2_with (refine wpList_append_lies _ rfl _ _ _ (by rfl) w.heap.size 2 j0 _ 1 8 Tryz.underlying29 hj0 t0 t1 t2 rfl (by decide) (.slice (some ⟨ob2, 0, none⟩) out2.length ocap2) out2.length (iv out2) (by rfl) ((own_off TS2.out.ho (F := fun _ => False) (.of_below (drewN_below wr _)) (fun _ _ => id)).alloc _) ⟨wr.heap.size, 0, none⟩ 1 1 [.int .i64 (x * 1440 + start % 1440)] (by rfl) (by rfl) (World.news_of_block (cs := #[.int .i64 (x * 1440 + start % 1440)]) (t := 2) (fr := (0, 0)) (heap_alloc_new _ _)) (by simp [Value.oneCell']) (Nat.lt_succ_self 0) hax1 hax2 (HAX3.out _) _ rfl ?_; intro gg cap2 w3 hown3 hgr3 hat3 hlt3)
           obtain ⟨TA2, oA2⟩ := (TD2.out _).addOut hgr3 hown3 hat3
           have hSA := (HSD.out _).off oA2 HAN.out
           have hbl := heap_lt_of_sl HSL.out hlt
           have HAN3 : Hid (∀ a, (some ⟨pb, po, none⟩ : Option Addr) = some a → a.block ≠ gg) := fun a ha => by
            obtain rfl := Option.some.inj ha
            rcases hat3 with e | e
            ·simp [Value.ownBlock] at e; exact fun h => HAN.out _ rfl (by rw [h, e])
            ·simp at e; intro h; simp at h hbl; omega
           go_roundw
           case rel => exact ⟨i + 1, out2 ++ [x * 1440 + start % 1440], gg, cap2, by omega, by go_num, by simp, TA2, hSA, HAN3.out, by simp; omega, HN2.out⟩
           case measure => simp [intOf]; omega
          ·have hno : ¬ (x < (sn : Int) ∨ below ≤ x ∨ (0 ≤ r.until_ ∧ r.until_ < x * 1440 + start % 1440) ∨ (0 < r.count ∧ (out2.length : Int) = r.count)) := fun h => h.elim e1 (fun h => h.elim e2 (fun h => h.elim hnu (fun h => e5 h.1)))
           have e5b : decide (0 < r.count) = false := decide_eq_false e5
           clear hnu
           have HN2 : Hid (addAll r (dt sn) start below (out2 ++ [x * 1440 + start % 1440]) (kl.drop (i + 1)) = addAll r (dt sn) start below out kl) := by show _ = _; rw [HADS.out, addOne_add (dt_n sn) hno]
           clear hno HADS
           have hax1 : out2.length + 1 ≤ maxLen := by unfold maxLen; omega
           have hax2 : (out2.length + 1) * 8 ≤ 140737488355328 := by omega
           have HAX3 : Hid (∀ nq, w.heap.size ≤ ((wr.drewN nq).alloc (.cells #[.int .i64 (x * 1440 + start % 1440)] 2)).heap.size) := fun nq => by have := (TD2.out nq).fr.size; simp; simp at this; omega
           go_wp2_with fail
           go_quiet (fail)
           go_wp2_with (refine wpList_append_lies _ rfl _ _ _ (by rfl) w.heap.size 2 j0 _ 1 8 Tryz.underlying29 hj0 t0 t1 t2 rfl (by decide) (.slice (some ⟨ob2, 0, none⟩) out2.length ocap2) out2.length (iv out2) (by rfl) ((own_off TS2.out.ho (F := fun _ => False) (.of_below (drewN_below wr _)) (fun _ _ => id)).alloc _) ⟨wr.heap.size, 0, none⟩ 1 1 [.int .i64 (x * 1440 + start % 1440)] (by rfl) (by rfl) (World.news_of_block (cs := #[.int .i64 (x * 1440 + start % 1440)]) (t := 2) (fr := (0, 0)) (heap_alloc_new _ _)) (by simp [Value.oneCell']) (Nat.lt_succ_self 0) hax1 hax2 (HAX3.out _) _ rfl ?_; intro gg cap2 w3 hown3 hgr3 hat3 hlt3)
           obtain ⟨TA2, oA2⟩ := (TD2.out _).addOut hgr3 hown3 hat3
           have hSA := (HSD.out _).off oA2 HAN.out
           have hbl := heap_lt_of_sl HSL.out hlt
           have HAN3 : Hid (∀ a, (some ⟨pb, po, none⟩ : Option Addr) = some a → a.block ≠ gg) := fun a ha => by
            obtain rfl := Option.some.inj ha
            rcases hat3 with e | e
            ·simp [Value.ownBlock] at e; exact fun h => HAN.out _ rfl (by rw [h, e])
            ·simp at e; intro h; simp at h hbl; omega
           go_roundw
           case rel => exact ⟨i + 1, out2 ++ [x * 1440 + start % 1440], gg, cap2, by omega, by go_num, by simp, TA2, hSA, HAN3.out, by simp; omega, HN2.out⟩
           case measure => simp [intOf]; omega
         ·have hnu : ¬ (0 ≤ r.until_ ∧ r.until_ < x * 1440 + start % 1440) := fun h => e3 h.1
          have e3b : decide (0 ≤ r.until_) = false := decide_eq_false e3
          rcases hc with ⟨e5, e6⟩ | ⟨e5, e6⟩ | e5
          ·have hyes : x < (sn : Int) ∨ below ≤ x ∨ (0 ≤ r.until_ ∧ r.until_ < x * 1440 + start % 1440) ∨ (0 < r.count ∧ (out2.length : Int) = r.count) := .inr (.inr (.inr ⟨e5, e6⟩))
           have e6b : ((out2.length : Int) == r.count) = true := by simpa using e6
           clear e6 hnu
           have HN2 : Hid (addAll r (dt sn) start below out2 (kl.drop (i + 1)) = addAll r (dt sn) start below out kl) := by show _ = _; rw [HADS.out, addOne_skip (dt_n sn) hyes]
           clear hyes HADS
           go_wp2_with fail
           go_quiet (fail)
           go_wp2_with fail
           go_roundw
           case rel => exact ⟨i + 1, out2, ob2, ocap2, by omega, by go_num, rfl, TD2.out _, HSD.out _, HAN.out, by omega, HN2.out⟩
           case measure => simp [intOf]; omega
          ·have hno : ¬ (x < (sn : Int) ∨ below ≤ x ∨ (0 ≤ r.until_ ∧ r.until_ < x * 1440 + start % 1440) ∨ (0 < r.count ∧ (out2.length : Int) = r.count)) := fun h => h.elim e1 (fun h => h.elim e2 (fun h => h.elim hnu (fun h => e6 h.2)))
           have e6b : ((out2.length : Int) == r.count) = false := beq_false_of_ne e6
           clear hnu
           have HN2 : Hid (addAll r (dt sn) start below (out2 ++ [x * 1440 + start % 1440]) (kl.drop (i + 1)) = addAll r (dt sn) start below out kl) := by show _ = _; rw [HADS.out, addOne_add (dt_n sn) hno]
           clear hno HADS
           have hax1 : out2.length + 1 ≤ maxLen := by unfold maxLen; omega
           have hax2 : (out2.length + 1) * 8 ≤ 140737488355328 := by omega
           have HAX3 : Hid (∀ nq, w.heap.size ≤ ((wr.drewN nq).alloc (.cells #[.int .i64 (x * 1440 + start % 1440)] 2)).heap.size) := fun nq => by have := (TD2.out nq).fr.size; simp; simp at this; omega
           go_wp2_with fail
           go_quiet (fail)
           go_wp2_with (refine wpList_append_lies _ rfl _ _ _ (by rfl) w.heap.size 2 j0 _ 1 8 Tryz.underlying29 hj0 t0 t1 t2 rfl (by decide) (.slice (some ⟨ob2, 0, none⟩) out2.length ocap2) out2.length (iv out2) (by rfl) ((own_off TS2.out.ho (F := fun _ => False) (.of_below (drewN_below wr _)) (fun _ _ => id)).alloc _) ⟨wr.heap.size, 0, none⟩ 1 1 [.int .i64 (x * 1440 + start % 1440)] (by rfl) (by rfl) (World.news_of_block (cs := #[.int .i64 (x * 1440 + start % 1440)]) (t := 2) (fr := (0, 0)) (heap_alloc_new _ _)) (by simp [Value.oneCell']) (Nat.lt_succ_self 0) hax1 hax2 (HAX3.out _) _ rfl ?_; intro gg cap2 w3 hown3 hgr3 hat3 hlt3)
           obtain ⟨TA2, oA2⟩ := (TD2.out _).addOut hgr3 hown3 hat3
           have hSA := (HSD.out _).off oA2 HAN.out
           have hbl := heap_lt_of_sl HSL.out hlt
           have HAN3 : Hid (∀ a, (some ⟨pb, po, none⟩ : Option Addr) = some a → a.block ≠ gg) := fun a ha => by
            obtain rfl := Option.some.inj ha
            rcases hat3 with e | e
            ·simp [Value.ownBlock] at e; exact fun h => HAN.out _ rfl (by rw [h, e])
            ·simp at e; intro h; simp at h hbl; omega
           go_roundw
           case rel => exact ⟨i + 1, out2 ++ [x * 1440 + start % 1440], gg, cap2, by omega, by go_num, by simp, TA2, hSA, HAN3.out, by simp; omega, HN2.out⟩
           case measure => simp [intOf]; omega
          ·have hno : ¬ (x < (sn : Int) ∨ below ≤ x ∨ (0 ≤ r.until_ ∧ r.until_ < x * 1440 + start % 1440) ∨ (0 < r.count ∧ (out2.length : Int) = r.count)) := fun h => h.elim e1 (fun h => h.elim e2 (fun h => h.elim hnu (fun h => e5 h.1)))
           have e5b : decide (0 < r.count) = false := decide_eq_false e5
           clear hnu
           have HN2 : Hid (addAll r (dt sn) start below (out2 ++ [x * 1440 + start % 1440]) (kl.drop (i + 1)) = addAll r (dt sn) start below out kl) := by show _ = _; rw [HADS.out, addOne_add (dt_n sn) hno]
           clear hno HADS
           have hax1 : out2.length + 1 ≤ maxLen := by unfold maxLen; omega
           have hax2 : (out2.length + 1) * 8 ≤ 140737488355328 := by omega
           have HAX3 : Hid (∀ nq, w.heap.size ≤ ((wr.drewN nq).alloc (.cells #[.int .i64 (x * 1440 + start % 1440)] 2)).heap.size) := fun nq => by have := (TD2.out nq).fr.size; simp; simp at this; omega
           go_wp2_with fail
           go_quiet (fail)
           go_wp2_with (refine wpList_append_lies _ rfl _ _ _ (by rfl) w.heap.size 2 j0 _ 1 8 Tryz.underlying29 hj0 t0 t1 t2 rfl (by decide) (.slice (some ⟨ob2, 0, none⟩) out2.length ocap2) out2.length (iv out2) (by rfl) ((own_off TS2.out.ho (F := fun _ => False) (.of_below (drewN_below wr _)) (fun _ _ => id)).alloc _) ⟨wr.heap.size, 0, none⟩ 1 1 [.int .i64 (x * 1440 + start % 1440)] (by rfl) (by rfl) (World.news_of_block (cs := #[.int .i64 (x * 1440 + start % 1440)]) (t := 2) (fr := (0, 0)) (heap_alloc_new _ _)) (by simp [Value.oneCell']) (Nat.lt_succ_self 0) hax1 hax2 (HAX3.out _) _ rfl ?_; intro gg cap2 w3 hown3 hgr3 hat3 hlt3)
           obtain ⟨TA2, oA2⟩ := (TD2.out _).addOut hgr3 hown3 hat3
           have hSA := (HSD.out _).off oA2 HAN.out
           have hbl := heap_lt_of_sl HSL.out hlt
           have HAN3 : Hid (∀ a, (some ⟨pb, po, none⟩ : Option Addr) = some a → a.block ≠ gg) := fun a ha => by
            obtain rfl := Option.some.inj ha
            rcases hat3 with e | e
            ·simp [Value.ownBlock] at e; exact fun h => HAN.out _ rfl (by rw [h, e])
            ·simp at e; intro h; simp at h hbl; omega
           go_roundw
           case rel => exact ⟨i + 1, out2 ++ [x * 1440 + start % 1440], gg, cap2, by omega, by go_num, by simp, TA2, hSA, HAN3.out, by simp; omega, HN2.out⟩
           case measure => simp [intOf]; omega
      ·have hiz : ¬ (i : Int) < kl.length := by omega
       obtain rfl : i = kl.length := by omega
       have HE : Hid (out2 = addAll r (dt sn) start below out kl) := by show _ = _; rw [← HAD.out, List.drop_of_length_le (Nat.le_refl _)]; rfl
       by_cases hb : below ≤ (n : Int)
       ·have HE2 : Hid (res = out2) := by show _ = _; rw [← HI.out, HRR.out n out l 0 h38 hfl.out (by omega), HKE.out, HE.out]
        go_wp2_with fail
        go_ret
        have ho := TS2.out.ho
        exact ⟨_, _, by rw [HE2.out]; rfl, by rw [HE2.out]; exact ho, TS2.out.fr⟩
       ·have HIN : Hid (rn (n + 1) out2 (if good r (dt sn) n then ([] : List Int) ++ [(n : Int)] else []) 0 = res) := by
         have h1 := HRG0.out n out l 0 h38 hfl.out (by omega)
         rw [HI.out, HKE.out, ← HE.out] at h1
         show _ = _; rw [h1, if_neg h37]; rfl
        have TL := Lib.hid TS2.out.newL
        obtain ⟨wl, hwl⟩ : ∃ wl, wr.alloc (.cells #[] 3) = wl := ⟨_, rfl⟩
        rw [hwl] at TL
        have HWL := Lib.hid hwl
        clear hwl
        go_upto_region 25 with fail
        rw [HWL.out]
        clear R0 R1 R2 R3 R4 R5 R6 R7 R8 S0 S1 S2 S3 S4 D0 D1 D2 D3 D4
        have R0 := blk_cell TL.out.hr (i := 0) (v := .int .i64 r.freq) rfl
        have R1 := blk_cell TL.out.hr (i := 1) (v := .int .i64 r.iv) rfl
        have R2 := blk_cell TL.out.hr (i := 2) (v := .int .i64 r.count) rfl
        have R3 := blk_cell TL.out.hr (i := 3) (v := .int .i64 r.until_) rfl
        have R4 := blk_cell TL.out.hr (i := 4) (v := .slice A1 r.bm.length c1) rfl
        have R5 := blk_cell TL.out.hr (i := 5) (v := .slice A2 r.bd.length c2) rfl
        have R6 := blk_cell TL.out.hr (i := 6) (v := .slice A3 r.bw.length c3) rfl
        have R7 := blk_cell TL.out.hr (i := 7) (v := .slice A4 r.bs.length c4) rfl
        have R8 := blk_cell TL.out.hr (i := 8) (v := .int .i64 r.start) rfl
        have S0 := blk_cell TL.out.hs (i := 0) (v := .int .i64 (dt sn).n) rfl
        have S1 := blk_cell TL.out.hs (i := 1) (v := .int .i64 (dt sn).y) rfl
        have S2 := blk_cell TL.out.hs (i := 2) (v := .int .i64 (dt sn).m) rfl
        have S3 := blk_cell TL.out.hs (i := 3) (v := .int .i64 (dt sn).d) rfl
        have S4 := blk_cell TL.out.hs (i := 4) (v := .int .i64 (dt sn).w) rfl
        have D0 := blk_cell TL.out.hd (i := 0) (v := .int .i64 (dt n).n) rfl
        have D1 := blk_cell TL.out.hd (i := 1) (v := .int .i64 (dt n).y) rfl
        have D2 := blk_cell TL.out.hd (i := 2) (v := .int .i64 (dt n).m) rfl
        have D3 := blk_cell TL.out.hd (i := 3) (v := .int .i64 (dt n).d) rfl
        have D4 := blk_cell TL.out.hd (i := 4) (v := .int .i64 (dt n).w) rfl
        rw [hnn] at D0
        have HNIL : Hid (∀ x ∈ ([] : List Int), 0 ≤ x ∧ x ≤ 109938) := fun x hx => by cases hx
        have hng : ¬ good r (dt sn) n := fun h => by have := h.1; omega
        rw [if_neg hng] at HIN
        clear h37 hng
        go_upto_region 9 with fail
        have TN := Lib.hid TL.out.newD
        have hne1 : wl.heap.size ≠ w.heap.size := by have := heap_lt' TL.out.hr; omega
        have hne2 : wl.heap.size ≠ sb := by have := heap_lt' TL.out.hs; omega
        obtain ⟨wz, hwz⟩ : ∃ wz, wl.alloc (.cells (dcells (dt n)) 109) = wz := ⟨_, rfl⟩
        rw [hwz] at TN
        have HWZ := Lib.hid hwz
        clear hwz
        unfold dcells at HWZ
        rw [hnn] at HWZ
        rw [HWZ.out]
        obtain ⟨db2, hdb2⟩ : ∃ db2, wl.heap.size = db2 := ⟨_, rfl⟩
        rw [hdb2] at TN hne1 hne2 ⊢
        clear R0 R1 R2 R3 R4 R5 R6 R7 R8 S0 S1 S2 S3 S4 D0 D1 D2 D3 D4
        have R0 := blk_cell TN.out.hr (i := 0) (v := .int .i64 r.freq) rfl
        have R1 := blk_cell TN.out.hr (i := 1) (v := .int .i64 r.iv) rfl
        have R2 := blk_cell TN.out.hr (i := 2) (v := .int .i64 r.count) rfl
        have R3 := blk_cell TN.out.hr (i := 3) (v := .int .i64 r.until_) rfl
        have R4 := blk_cell TN.out.hr (i := 4) (v := .slice A1 r.bm.length c1) rfl
        have R5 := blk_cell TN.out.hr (i := 5) (v := .slice A2 r.bd.length c2) rfl
        have R6 := blk_cell TN.out.hr (i := 6) (v := .slice A3 r.bw.length c3) rfl
        have R7 := blk_cell TN.out.hr (i := 7) (v := .slice A4 r.bs.length c4) rfl
        have R8 := blk_cell TN.out.hr (i := 8) (v := .int .i64 r.start) rfl
        have S0 := blk_cell TN.out.hs (i := 0) (v := .int .i64 (dt sn).n) rfl
        have S1 := blk_cell TN.out.hs (i := 1) (v := .int .i64 (dt sn).y) rfl
        have S2 := blk_cell TN.out.hs (i := 2) (v := .int .i64 (dt sn).m) rfl
        have S3 := blk_cell TN.out.hs (i := 3) (v := .int .i64 (dt sn).d) rfl
        have S4 := blk_cell TN.out.hs (i := 4) (v := .int .i64 (dt sn).w) rfl
        have D0 := blk_cell TN.out.hd (i := 0) (v := .int .i64 (dt n).n) rfl
        have D1 := blk_cell TN.out.hd (i := 1) (v := .int .i64 (dt n).y) rfl
        have D2 := blk_cell TN.out.hd (i := 2) (v := .int .i64 (dt n).m) rfl
        have D3 := blk_cell TN.out.hd (i := 3) (v := .int .i64 (dt n).d) rfl
        have D4 := blk_cell TN.out.hd (i := 4) (v := .int .i64 (dt n).w) rfl
        rw [hnn] at D0
        have HNX := Lib.hid (HNx.out n h38 wz)
        rw [hnn] at HNX
        go_wp2_with fail
        go_at_call 81
        refine HNX.out.mono ?_
        rintro e wn ⟨rfl, hbnx⟩
        have TM := Lib.hid (TN.out.below hbnx)
        clear hbnx
        clear R0 R1 R2 R3 R4 R5 R6 R7 R8 S0 S1 S2 S3 S4 D0 D1 D2 D3 D4
        have R0 := blk_cell TM.out.hr (i := 0) (v := .int .i64 r.freq) rfl
        have R1 := blk_cell TM.out.hr (i := 1) (v := .int .i64 r.iv) rfl
        have R2 := blk_cell TM.out.hr (i := 2) (v := .int .i64 r.count) rfl
        have R3 := blk_cell TM.out.hr (i := 3) (v := .int .i64 r.until_) rfl
        have R4 := blk_cell TM.out.hr (i := 4) (v := .slice A1 r.bm.length c1) rfl
        have R5 := blk_cell TM.out.hr (i := 5) (v := .slice A2 r.bd.length c2) rfl
        have R6 := blk_cell TM.out.hr (i := 6) (v := .slice A3 r.bw.length c3) rfl
        have R7 := blk_cell TM.out.hr (i := 7) (v := .slice A4 r.bs.length c4) rfl
        have R8 := blk_cell TM.out.hr (i := 8) (v := .int .i64 r.start) rfl
        have S0 := blk_cell TM.out.hs (i := 0) (v := .int .i64 (dt sn).n) rfl
        have S1 := blk_cell TM.out.hs (i := 1) (v := .int .i64 (dt sn).y) rfl
        have S2 := blk_cell TM.out.hs (i := 2) (v := .int .i64 (dt sn).m) rfl
        have S3 := blk_cell TM.out.hs (i := 3) (v := .int .i64 (dt sn).d) rfl
        have S4 := blk_cell TM.out.hs (i := 4) (v := .int .i64 (dt sn).w) rfl
        have D0 := blk_cell TM.out.hd (i := 0) (v := .int .i64 (dt n).n) rfl
        have D1 := blk_cell TM.out.hd (i := 1) (v := .int .i64 (dt n).y) rfl
        have D2 := blk_cell TM.out.hd (i := 2) (v := .int .i64 (dt n).m) rfl
        have D3 := blk_cell TM.out.hd (i := 3) (v := .int .i64 (dt n).d) rfl
        have D4 := blk_cell TM.out.hd (i := 4) (v := .int .i64 (dt n).w) rfl
        rw [hnn] at D0
        have DF := blk_free TM.out.hd
        go_wp2_with fail
        have TE := TM.out.setD hne1 hne2 (nx (dt n))
        have hnn2 : (nx (dt n)).n = ((n + 1 : Nat) : Int) := by rw [nx_n, hnn]; rfl
        have hcell := blk_cell TE.hd (i := 0) (v := .int .i64 (nx (dt n)).n) rfl
        have hday2 : dayOf (.pointer (some ⟨db2, 0, none⟩)) (chain5 wn db2 (.int .i64 (nx (dt n)).n) (.int .i64 (nx (dt n)).y) (.int .i64 (nx (dt n)).m) (.int .i64 (nx (dt n)).d) (.int .i64 (nx (dt n)).w)) = n + 1 := by rw [dayOf_at hcell, hnn2]; simp
        unfold chain5 at hday2
        clear hcell
        go_roundw
        case rel => exact ⟨n + 1, out2, ([] : List Int), 0, ob2, ocap2, wr.heap.size, 0, db2, nx (dt n), by omega, rfl, rfl, rfl, rfl, TE, ⟨hnn2, fun h => nx_dt (by omega), hne1, hne2⟩, by omega, by simp; omega, HNIL.out, HIN.out⟩
        case measure => rw [HDAY.out, hday2]; omega
    ·have hfb : ((0 : Int) != last) = true := by simp; omega
     have HKp := Lib.hid (HK.out l (some ⟨lb, 0, none⟩) lcap wr (by omega) HT.out.fr (Sl.own_ HT.out.hl))
     go_wp2_with fail
     go_at_call 83
     refine HKp.out.mono ?_
     rintro e wk ⟨A', c', rfl, hSl, hbk, hA1⟩
     have TK := Lib.hid (HT.out.below hbk)
     have hA2 : ∀ a, A' = some a → a.block ≠ ob := fun a ha => by
      rcases hA1 a ha with e | e
      ·obtain rfl := Option.some.inj e; exact fun h => HT.out.n1.2.2.2 h.symm
      ·have := (HT.out.ho.lt ob rfl).2; omega
     have hk1 := keptL_len r l
     have hk2 : ∀ x ∈ keptL r l, 0 ≤ x ∧ x ≤ 109938 := fun x hx => HMEM.out x (keptL_mem x hx)
     have HKL : Hid (addAll r (dt sn) start below out (keptL r l) = addAll r (dt sn) start below out (keptL r l)) := rfl
     generalize hkl : keptL r l = kl at *
     have HKE := Lib.hid hkl
     have HS2 := Lib.hid hSl
     have HA2 := Lib.hid hA2
     have HK2 := Lib.hid hk2
     clear hkl hSl hbk hA1 hA2 hk2 HKL HKp
     clear R0 R1 R2 R3 R4 R5 R6 R7 R8 S0 S1 S2 S3 S4 D0 D1 D2 D3 D4
     have R0 := blk_cell TK.out.hr (i := 0) (v := .int .i64 r.freq) rfl
     have R1 := blk_cell TK.out.hr (i := 1) (v := .int .i64 r.iv) rfl
     have R2 := blk_cell TK.out.hr (i := 2) (v := .int .i64 r.count) rfl
     have R3 := blk_cell TK.out.hr (i := 3) (v := .int .i64 r.until_) rfl
     have R4 := blk_cell TK.out.hr (i := 4) (v := .slice A1 r.bm.length c1) rfl
     have R5 := blk_cell TK.out.hr (i := 5) (v := .slice A2 r.bd.length c2) rfl
     have R6 := blk_cell TK.out.hr (i := 6) (v := .slice A3 r.bw.length c3) rfl
     have R7 := blk_cell TK.out.hr (i := 7) (v := .slice A4 r.bs.length c4) rfl
     have R8 := blk_cell TK.out.hr (i := 8) (v := .int .i64 r.start) rfl
     have S0 := blk_cell TK.out.hs (i := 0) (v := .int .i64 (dt sn).n) rfl
     have S1 := blk_cell TK.out.hs (i := 1) (v := .int .i64 (dt sn).y) rfl
     have S2 := blk_cell TK.out.hs (i := 2) (v := .int .i64 (dt sn).m) rfl
     have S3 := blk_cell TK.out.hs (i := 3) (v := .int .i64 (dt sn).d) rfl
     have S4 := blk_cell TK.out.hs (i := 4) (v := .int .i64 (dt sn).w) rfl
     have D0 := blk_cell TK.out.hd (i := 0) (v := .int .i64 (dt n).n) rfl
     have D1 := blk_cell TK.out.hd (i := 1) (v := .int .i64 (dt n).y) rfl
     have D2 := blk_cell TK.out.hd (i := 2) (v := .int .i64 (dt n).m) rfl
     have D3 := blk_cell TK.out.hd (i := 3) (v := .int .i64 (dt n).d) rfl
     have D4 := blk_cell TK.out.hd (i := 4) (v := .int .i64 (dt n).w) rfl
     rw [hnn] at D0
     go_wp2_with fail
     go_loopw [7, 62] (fun s7 s62 wr2 => ∃ (i : Nat) (out2 : List Int) (ob2 ocap2 : Nat), i ≤ kl.length ∧ s62 = .int .i64 i ∧ s7 = .slice (some ⟨ob2, 0, none⟩) out2.length ocap2 ∧ Hid (TSt w wr2 (rcells r A1 A2 A3 A4 c1 c2 c3 c4) w.heap.size sb ob2 ocap2 lb lcap db (dt sn) (dt n) out2 l) ∧ Hid (Sl wr2 A' kl.length c' (iv kl)) ∧ Hid (∀ a, A' = some a → a.block ≠ ob2) ∧ out2.length ≤ out.length + i ∧ Hid (addAll r (dt sn) start below out2 (kl.drop i) = addAll r (dt sn) start below out kl)) (fun _ s62 _ => kl.length - (intOf s62).toNat)
     case atStart => exact ⟨0, out, ob, ocap, Nat.zero_le _, rfl, rfl, TK.out, HS2.out, HA2.out, by omega, rfl⟩
     case round =>
      obtain ⟨i, out2, ob2, ocap2, hi, rfl, rfl, TS2, HSL, HAN, hol, HAD⟩ := hrel
      clear R0 R1 R2 R3 R4 R5 R6 R7 R8 S0 S1 S2 S3 S4 D0 D1 D2 D3 D4
      have R0 := blk_cell TS2.out.hr (i := 0) (v := .int .i64 r.freq) rfl
      have R1 := blk_cell TS2.out.hr (i := 1) (v := .int .i64 r.iv) rfl
      have R2 := blk_cell TS2.out.hr (i := 2) (v := .int .i64 r.count) rfl
      have R3 := blk_cell TS2.out.hr (i := 3) (v := .int .i64 r.until_) rfl
      have R4 := blk_cell TS2.out.hr (i := 4) (v := .slice A1 r.bm.length c1) rfl
      have R5 := blk_cell TS2.out.hr (i := 5) (v := .slice A2 r.bd.length c2) rfl
      have R6 := blk_cell TS2.out.hr (i := 6) (v := .slice A3 r.bw.length c3) rfl
      have R7 := blk_cell TS2.out.hr (i := 7) (v := .slice A4 r.bs.length c4) rfl
      have R8 := blk_cell TS2.out.hr (i := 8) (v := .int .i64 r.start) rfl
      have S0 := blk_cell TS2.out.hs (i := 0) (v := .int .i64 (dt sn).n) rfl
      have S1 := blk_cell TS2.out.hs (i := 1) (v := .int .i64 (dt sn).y) rfl
      have S2 := blk_cell TS2.out.hs (i := 2) (v := .int .i64 (dt sn).m) rfl
      have S3 := blk_cell TS2.out.hs (i := 3) (v := .int .i64 (dt sn).d) rfl
      have S4 := blk_cell TS2.out.hs (i := 4) (v := .int .i64 (dt sn).w) rfl
      have D0 := blk_cell TS2.out.hd (i := 0) (v := .int .i64 (dt n).n) rfl
      have D1 := blk_cell TS2.out.hd (i := 1) (v := .int .i64 (dt n).y) rfl
      have D2 := blk_cell TS2.out.hd (i := 2) (v := .int .i64 (dt n).m) rfl
      have D3 := blk_cell TS2.out.hd (i := 3) (v := .int .i64 (dt n).d) rfl
      have D4 := blk_cell TS2.out.hd (i := 4) (v := .int .i64 (dt n).w) rfl
      rw [hnn] at D0
      by_cases hlt : i < kl.length
      ·have hiz : (i : Int) < kl.length := by omega
       have hw1 : IntKind.i64.wrap ((i : Int) + 1) = i + 1 := by rw [IntKind.wrap_i64]; omega
       obtain ⟨x, hx⟩ : ∃ x, kl[i]? = some x := ⟨_, List.getElem?_eq_getElem hlt⟩
       have hxb := HK2.out x (List.mem_of_getElem? hx)
       have HADS := Lib.hid (addAll_step (r := r) (s := dt sn) (start := start) (below := below) (out := out2) hx)
       rw [HAD.out] at HADS
       obtain ⟨pb, po, rfl, hpb, hpc⟩ := HSL.out.intG hx
       have hpx := hpc ⟨wr, Below.refl _ _⟩
       clear hpc hx
       have hw3 : IntKind.i64.wrap (x * 1440) = x * 1440 := by rw [IntKind.wrap_i64]; omega
       have hw4 : IntKind.i64.wrap (x * 1440 + start % 1440) = x * 1440 + start % 1440 := by rw [IntKind.wrap_i64]; omega
       have TD2 := Lib.hid (fun nq => TS2.out.below (drewN_below wr nq))
       have HSD : Hid (∀ nq, Sl (wr.drewN nq) (some ⟨pb, po, none⟩) kl.length c' (iv kl)) := fun nq => HSL.out.below (drewN_below wr nq) (Nat.le_refl _)
       have S0b : wr.cell? ⟨sb, 0, none⟩ = some (.int .i64 (sn : Int)) := by rw [S0, dt_n]
       clear S0
       by_cases e1 : x < (sn : Int)
       ·have hyes := Or.inl (b := below ≤ x ∨ (0 ≤ r.until_ ∧ r.until_ < x * 1440 + start % 1440) ∨ (0 < r.count ∧ (out2.length : Int) = r.count)) e1
        have e1b : decide (x < (sn : Int)) = true := decide_eq_true e1
        have HN2 : Hid (addAll r (dt sn) start below out2 (kl.drop (i + 1)) = addAll r (dt sn) start below out kl) := by show _ = _; rw [HADS.out, addOne_skip (dt_n sn) hyes]
        clear hyes HADS
        go_wp2_with fail
        go_quiet (fail)
        go_wp2_with fail
        go_roundw
        case rel => exact ⟨i + 1, out2, ob2, ocap2, by omega, by go_num, rfl, TD2.out _, HSD.out _, HAN.out, by omega, HN2.out⟩
        case measure => simp [intOf]; omega
       ·have e1b : decide (x < (sn : Int)) = false := decide_eq_false e1
        by_cases e2 : below ≤ x
        ·have hyes : x < (sn : Int) ∨ below ≤ x ∨ (0 ≤ r.until_ ∧ r.until_ < x * 1440 + start % 1440) ∨ (0 < r.count ∧ (out2.length : Int) = r.count) := .inr (.inl e2)
         have e2b : decide (below ≤ x) = true := decide_eq_true e2
         have HN2 : Hid (addAll r (dt sn) start below out2 (kl.drop (i + 1)) = addAll r (dt sn) start below out kl) := by show _ = _; rw [HADS.out, addOne_skip (dt_n sn) hyes]
         clear hyes HADS
         go_wp2_with fail
         go_quiet (fail)
         go_wp2_with fail
         go_roundw
         case rel => exact ⟨i + 1, out2, ob2, ocap2, by omega, by go_num, rfl, TD2.out _, HSD.out _, HAN.out, by omega, HN2.out⟩
         case measure => simp [intOf]; omega
        ·have e2b : decide (below ≤ x) = false := decide_eq_false e2
         have hu : (0 ≤ r.until_ ∧ r.until_ < x * 1440 + start % 1440) ∨ (0 ≤ r.until_ ∧ ¬ r.until_ < x * 1440 + start % 1440) ∨ ¬ 0 ≤ r.until_ := by omega
         have hc : (0 < r.count ∧ (out2.length : Int) = r.count) ∨ (0 < r.count ∧ ¬ (out2.length : Int) = r.count) ∨ ¬ 0 < r.count := by omega
         rcases hu with ⟨e3, e4⟩ | ⟨e3, e4⟩ | e3
         ·have hyes : x < (sn : Int) ∨ below ≤ x ∨ (0 ≤ r.until_ ∧ r.until_ < x * 1440 + start % 1440) ∨ (0 < r.count ∧ (out2.length : Int) = r.count) := .inr (.inr (.inl ⟨e3, e4⟩))
          clear hc
          have HN2 : Hid (addAll r (dt sn) start below out2 (kl.drop (i + 1)) = addAll r (dt sn) start below out kl) := by show _ = _; rw [HADS.out, addOne_skip (dt_n sn) hyes]
          clear hyes HADS
          go_wp2_with fail
          go_quiet (fail)
          go_wp2_with fail
          go_roundw
          case rel => exact ⟨i + 1, out2, ob2, ocap2, by omega, by go_num, rfl, TD2.out _, HSD.out _, HAN.out, by omega, HN2.out⟩
          case measure => simp [intOf]; omega
         ·have hnu : ¬ (0 ≤ r.until_ ∧ r.until_ < x * 1440 + start % 1440) := fun h => e4 h.2
          have e4b : decide (r.until_ < x * 1440 + start % 1440) = false := decide_eq_false e4
          rcases hc with ⟨e5, e6⟩ | ⟨e5, e6⟩ | e5
          ·have hyes : x < (sn : Int) ∨ below ≤ x ∨ (0 ≤ r.until_ ∧ r.until_ < x * 1440 + start % 1440) ∨ (0 < r.count ∧ (out2.length : Int) = r.count) := .inr (.inr (.inr ⟨e5, e6⟩))
           have e6b : ((out2.length : Int) == r.count) = true := by simpa using e6
           clear e6 hnu
           have HN2 : Hid (addAll r (dt sn) start below out2 (kl.drop (i + 1)) = addAll r (dt sn) start below out kl) := by show _ = _; rw [HADS.out, addOne_skip (dt_n sn) hyes]
           clear hyes HADS
           go_wp2_with fail
           go_quiet (fail)
           go_wp2_with fail
           go_roundw
           case rel => exact ⟨i + 1, out2, ob2, ocap2, by omega, by go_num, rfl, TD2.out _, HSD.out _, HAN.out, by omega, HN2.out⟩
           case measure => simp [intOf]; omega
          ·have hno : ¬ (x < (sn : Int) ∨ below ≤ x ∨ (0 ≤ r.until_ ∧ r.until_ < x * 1440 + start % 1440) ∨ (0 < r.count ∧ (out2.length : Int) = r.count)) := fun h => h.elim e1 (fun h => h.elim e2 (fun h => h.elim hnu (fun h => e6 h.2)))
           have e6b : ((out2.length : Int) == r.count) = false := beq_false_of_ne e6
           clear hnu
           have HN2 : Hid (addAll r (dt sn) start below (out2 ++ [x * 1440 + start % 1440]) (kl.drop (i + 1)) = addAll r (dt sn) start below out kl) := by show _ = _; rw [HADS.out, addOne_add (dt_n sn) hno]
           clear hno HADS
           have hax1 : out2.length + 1 ≤ maxLen := by unfold maxLen; omega
           have hax2 : (out2.length + 1) * 8 ≤ 140737488355328 := by omega
           have HAX3 : Hid (∀ nq, w.heap.size ≤ ((wr.drewN nq).alloc (.cells #[.int .i64 (x * 1440 + start % 1440)] 2)).heap.size) := fun nq => by have := (TD2.out nq).fr.size; simp; simp at this; omega
           go_wp2_with fail
           go_quiet (fail)
           go_wp2_with (refine wpList_append_lies _ rfl _ _ _ (by rfl) w.heap.size 2 j0 _ 1 8 Tryz.underlying29 hj0 t0 t1 t2 rfl (by decide) (.slice (some ⟨ob2, 0, none⟩) out2.length ocap2) out2.length (iv out2) (by rfl) ((own_off TS2.out.ho (F := fun _ => False) (.of_below (drewN_below wr _)) (fun _ _ => id)).alloc _) ⟨wr.heap.size, 0, none⟩ 1 1 [.int .i64 (x * 1440 + start % 1440)] (by rfl) (by rfl) (World.news_of_block (cs := #[.int .i64 (x * 1440 + start % 1440)]) (t := 2) (fr := (0, 0)) (heap_alloc_new _ _)) (by simp [Value.oneCell']) (Nat.lt_succ_self 0) hax1 hax2 (HAX3.out _) _ rfl ?_; intro gg cap2 w3 hown3 hgr3 hat3 hlt3)
           obtain ⟨TA2, oA2⟩ := (TD2.out _).addOut hgr3 hown3 hat3
           have hSA := (HSD.out _).off oA2 HAN.out
           have hbl := heap_lt_of_sl HSL.out hlt
           have HAN3 : Hid (∀ a, (some ⟨pb, po, none⟩ : Option Addr) = some a → a.block ≠ gg) := fun a ha => by
            obtain rfl := Option.some.inj ha
            rcases hat3 with e | e
            ·simp [Value.ownBlock] at e; exact fun h => HAN.out _ rfl (by rw [h, e])
            ·simp at e; intro h; simp at h hbl; omega
           go_roundw
           case rel => exact ⟨i + 1, out2 ++ [x * 1440 + start % 1440], gg, cap2, by omega, by go_num, by simp, TA2, hSA, HAN3.out, by simp; omega, HN2.out⟩
           case measure => simp [intOf]; omega
          ·have hno : ¬ (x < (sn : Int) ∨ below ≤ x ∨ (0 ≤ r.until_ ∧ r.until_ < x * 1440 + start % 1440) ∨ (0 < r.count ∧ (out2.length : Int) = r.count)) := fun h => h.elim e1 (fun h => h.elim e2 (fun h => h.elim hnu (fun h => e5 h.1)))
           have e5b : decide (0 < r.count) = false := decide_eq_false e5
           clear hnu
           have HN2 : Hid (addAll r (dt sn) start below (out2 ++ [x * 1440 + start % 1440]) (kl.drop (i + 1)) = addAll r (dt sn) start below out kl) := by show _ = _; rw [HADS.out, addOne_add (dt_n sn) hno]
           clear hno HADS
           have hax1 : out2.length + 1 ≤ maxLen := by unfold maxLen; omega
           have hax2 : (out2.length + 1) * 8 ≤ 140737488355328 := by omega
           have HAX3 : Hid (∀ nq, w.heap.size ≤ ((wr.drewN nq).alloc (.cells #[.int .i64 (x * 1440 + start % 1440)] 2)).heap.size) := fun nq => by have := (TD2.out nq).fr.size; simp; simp at this; omega
           go_wp2_with fail
           go_quiet (fail)
           go_wp2_with (refine wpList_append_lies _ rfl _ _ _ (by rfl) w.heap.size 2 j0 _ 1 8 Tryz.underlying29 hj0 t0 t1 t2 rfl (by decide) (.slice (some ⟨ob2, 0, none⟩) out2.length ocap2) out2.length (iv out2) (by rfl) ((own_off TS2.out.ho (F := fun _ => False) (.of_below (drewN_below wr _)) (fun _ _ => id)).alloc _) ⟨wr.heap.size, 0, none⟩ 1 1 [.int .i64 (x * 1440 + start % 1440)] (by rfl) (by rfl) (World.news_of_block (cs := #[.int .i64 (x * 1440 + start % 1440)]) (t := 2) (fr := (0, 0)) (heap_alloc_new _ _)) (by simp [Value.oneCell']) (Nat.lt_succ_self 0) hax1 hax2 (HAX3.out _) _ rfl ?_; intro gg cap2 w3 hown3 hgr3 hat3 hlt3)
           obtain ⟨TA2, oA2⟩ := (TD2.out _).addOut hgr3 hown3 hat3
           have hSA := (HSD.out _).off oA2 HAN.out
           have hbl := heap_lt_of_sl HSL.out hlt
           have HAN3 : Hid (∀ a, (some ⟨pb, po, none⟩ : Option Addr) = some a → a.block ≠ gg) := fun a ha => by
            obtain rfl := Option.some.inj ha
            rcases hat3 with e | e
            ·simp [Value.ownBlock] at e; exact fun h => HAN.out _ rfl (by rw [h, e])
            ·simp at e; intro h; simp at h hbl; omega
           go_roundw
           case rel => exact ⟨i + 1, out2 ++ [x * 1440 + start % 1440], gg, cap2, by omega, by go_num, by simp, TA2, hSA, HAN3.out, by simp; omega, HN2.out⟩
           case measure => simp [intOf]; omega
         ·have hnu : ¬ (0 ≤ r.until_ ∧ r.until_ < x * 1440 + start % 1440) := fun h => e3 h.1
          have e3b : decide (0 ≤ r.until_) = false := decide_eq_false e3
          rcases hc with ⟨e5, e6⟩ | ⟨e5, e6⟩ | e5
          ·have hyes : x < (sn : Int) ∨ below ≤ x ∨ (0 ≤ r.until_ ∧ r.until_ < x * 1440 + start % 1440) ∨ (0 < r.count ∧ (out2.length : Int) = r.count) := .inr (.inr (.inr ⟨e5, e6⟩))
           have e6b : ((out2.length : Int) == r.count) = true := by simpa using e6
           clear e6 hnu
           have HN2 : Hid (addAll r (dt sn) start below out2 (kl.drop (i + 1)) = addAll r (dt sn) start below out kl) := by show _ = _; rw [HADS.out, addOne_skip (dt_n sn) hyes]
           clear hyes HADS
           go_wp2_with fail
           go_quiet (fail)
           go_wp2_with fail
           go_roundw
           case rel => exact ⟨i + 1, out2, ob2, ocap2, by omega, by go_num, rfl, TD2.out _, HSD.out _, HAN.out, by omega, HN2.out⟩
           case measure => simp [intOf]; omega
          ·have hno : ¬ (x < (sn : Int) ∨ below ≤ x ∨ (0 ≤ r.until_ ∧ r.until_ < x * 1440 + start % 1440) ∨ (0 < r.count ∧ (out2.length : Int) = r.count)) := fun h => h.elim e1 (fun h => h.elim e2 (fun h => h.elim hnu (fun h => e6 h.2)))
           have e6b : ((out2.length : Int) == r.count) = false := beq_false_of_ne e6
           clear hnu
           have HN2 : Hid (addAll r (dt sn) start below (out2 ++ [x * 1440 + start % 1440]) (kl.drop (i + 1)) = addAll r (dt sn) start below out kl) := by show _ = _; rw [HADS.out, addOne_add (dt_n sn) hno]
           clear hno HADS
           have hax1 : out2.length + 1 ≤ maxLen := by unfold maxLen; omega
           have hax2 : (out2.length + 1) * 8 ≤ 140737488355328 := by omega
           have HAX3 : Hid (∀ nq, w.heap.size ≤ ((wr.drewN nq).alloc (.cells #[.int .i64 (x * 1440 + start % 1440)] 2)).heap.size) := fun nq => by have := (TD2.out nq).fr.size; simp; simp at this; omega
           go_wp2_with fail
           go_quiet (fail)
           go_wp2_with (refine wpList_append_lies _ rfl _ _ _ (by rfl) w.heap.size 2 j0 _ 1 8 Tryz.underlying29 hj0 t0 t1 t2 rfl (by decide) (.slice (some ⟨ob2, 0, none⟩) out2.length ocap2) out2.length (iv out2) (by rfl) ((own_off TS2.out.ho (F := fun _ => False) (.of_below (drewN_below wr _)) (fun _ _ => id)).alloc _) ⟨wr.heap.size, 0, none⟩ 1 1 [.int .i64 (x * 1440 + start % 1440)] (by rfl) (by rfl) (World.news_of_block (cs := #[.int .i64 (x * 1440 + start % 1440)]) (t := 2) (fr := (0, 0)) (heap_alloc_new _ _)) (by simp [Value.oneCell']) (Nat.lt_succ_self 0) hax1 hax2 (HAX3.out _) _ rfl ?_; intro gg cap2 w3 hown3 hgr3 hat3 hlt3)
           obtain ⟨TA2, oA2⟩ := (TD2.out _).addOut hgr3 hown3 hat3
           have hSA := (HSD.out _).off oA2 HAN.out
           have hbl := heap_lt_of_sl HSL.out hlt
           have HAN3 : Hid (∀ a, (some ⟨pb, po, none⟩ : Option Addr) = some a → a.block ≠ gg) := fun a ha => by
            obtain rfl := Option.some.inj ha
            rcases hat3 with e | e
            ·simp [Value.ownBlock] at e; exact fun h => HAN.out _ rfl (by rw [h, e])
            ·simp at e; intro h; simp at h hbl; omega
           go_roundw
           case rel => exact ⟨i + 1, out2 ++ [x * 1440 + start % 1440], gg, cap2, by omega, by go_num, by simp, TA2, hSA, HAN3.out, by simp; omega, HN2.out⟩
           case measure => simp [intOf]; omega
          ·have hno : ¬ (x < (sn : Int) ∨ below ≤ x ∨ (0 ≤ r.until_ ∧ r.until_ < x * 1440 + start % 1440) ∨ (0 < r.count ∧ (out2.length : Int) = r.count)) := fun h => h.elim e1 (fun h => h.elim e2 (fun h => h.elim hnu (fun h => e5 h.1)))
           have e5b : decide (0 < r.count) = false := decide_eq_false e5
           clear hnu
           have HN2 : Hid (addAll r (dt sn) start below (out2 ++ [x * 1440 + start % 1440]) (kl.drop (i + 1)) = addAll r (dt sn) start below out kl) := by show _ = _; rw [HADS.out, addOne_add (dt_n sn) hno]
           clear hno HADS
           have hax1 : out2.length + 1 ≤ maxLen := by unfold maxLen; omega
           have hax2 : (out2.length + 1) * 8 ≤ 140737488355328 := by omega
           have HAX3 : Hid (∀ nq, w.heap.size ≤ ((wr.drewN nq).alloc (.cells #[.int .i64 (x * 1440 + start % 1440)] 2)).heap.size) := fun nq => by have := (TD2.out nq).fr.size; simp; simp at this; omega
           go_wp2_with fail
           go_quiet (fail)
           go_wp2_with (refine wpList_append_lies _ rfl _ _ _ (by rfl) w.heap.size 2 j0 _ 1 8 Tryz.underlying29 hj0 t0 t1 t2 rfl (by decide) (.slice (some ⟨ob2, 0, none⟩) out2.length ocap2) out2.length (iv out2) (by rfl) ((own_off TS2.out.ho (F := fun _ => False) (.of_below (drewN_below wr _)) (fun _ _ => id)).alloc _) ⟨wr.heap.size, 0, none⟩ 1 1 [.int .i64 (x * 1440 + start % 1440)] (by rfl) (by rfl) (World.news_of_block (cs := #[.int .i64 (x * 1440 + start % 1440)]) (t := 2) (fr := (0, 0)) (heap_alloc_new _ _)) (by simp [Value.oneCell']) (Nat.lt_succ_self 0) hax1 hax2 (HAX3.out _) _ rfl ?_; intro gg cap2 w3 hown3 hgr3 hat3 hlt3)
           obtain ⟨TA2, oA2⟩ := (TD2.out _).addOut hgr3 hown3 hat3
           have hSA := (HSD.out _).off oA2 HAN.out
           have hbl := heap_lt_of_sl HSL.out hlt
           have HAN3 : Hid (∀ a, (some ⟨pb, po, none⟩ : Option Addr) = some a → a.block ≠ gg) := fun a ha => by
            obtain rfl := Option.some.inj ha
            rcases hat3 with e | e
            ·simp [Value.ownBlock] at e; exact fun h => HAN.out _ rfl (by rw [h, e])
            ·simp at e; intro h; simp at h hbl; omega
           go_roundw
           case rel => exact ⟨i + 1, out2 ++ [x * 1440 + start % 1440], gg, cap2, by omega, by go_num, by simp, TA2, hSA, HAN3.out, by simp; omega, HN2.out⟩
           case measure => simp [intOf]; omega
      ·have hiz : ¬ (i : Int) < kl.length := by omega
       obtain rfl : i = kl.length := by omega
       have HE : Hid (out2 = addAll r (dt sn) start below out kl) := by show _ = _; rw [← HAD.out, List.drop_of_length_le (Nat.le_refl _)]; rfl
       by_cases hb : below ≤ (n : Int)
       ·have HE2 : Hid (res = out2) := by show _ = _; rw [← HI.out, HRR.out n out l last h38 hfl.out (by omega), HKE.out, HE.out]
        go_wp2_with fail
        go_ret
        have ho := TS2.out.ho
        exact ⟨_, _, by rw [HE2.out]; rfl, by rw [HE2.out]; exact ho, TS2.out.fr⟩
       ·have HIN : Hid (rn (n + 1) out2 (if good r (dt sn) n then ([] : List Int) ++ [(n : Int)] else []) 0 = res) := by
         have h1 := HRG0.out n out l last h38 hfl.out (by omega)
         rw [HI.out, HKE.out, ← HE.out] at h1
         show _ = _; rw [h1, if_neg h37]; rfl
        have TL := Lib.hid TS2.out.newL
        obtain ⟨wl, hwl⟩ : ∃ wl, wr.alloc (.cells #[] 3) = wl := ⟨_, rfl⟩
        rw [hwl] at TL
        have HWL := Lib.hid hwl
        clear hwl
        go_upto_region 25 with fail
        rw [HWL.out]
        clear R0 R1 R2 R3 R4 R5 R6 R7 R8 S0 S1 S2 S3 S4 D0 D1 D2 D3 D4
        have R0 := blk_cell TL.out.hr (i := 0) (v := .int .i64 r.freq) rfl
        have R1 := blk_cell TL.out.hr (i := 1) (v := .int .i64 r.iv) rfl
        have R2 := blk_cell TL.out.hr (i := 2) (v := .int .i64 r.count) rfl
        have R3 := blk_cell TL.out.hr (i := 3) (v := .int .i64 r.until_) rfl
        have R4 := blk_cell TL.out.hr (i := 4) (v := .slice A1 r.bm.length c1) rfl
        have R5 := blk_cell TL.out.hr (i := 5) (v := .slice A2 r.bd.length c2) rfl
        have R6 := blk_cell TL.out.hr (i := 6) (v := .slice A3 r.bw.length c3) rfl
        have R7 := blk_cell TL.out.hr (i := 7) (v := .slice A4 r.bs.length c4) rfl
        have R8 := blk_cell TL.out.hr (i := 8) (v := .int .i64 r.start) rfl
        have S0 := blk_cell TL.out.hs (i := 0) (v := .int .i64 (dt sn).n) rfl
        have S1 := blk_cell TL.out.hs (i := 1) (v := .int .i64 (dt sn).y) rfl
        have S2 := blk_cell TL.out.hs (i := 2) (v := .int .i64 (dt sn).m) rfl
        have S3 := blk_cell TL.out.hs (i := 3) (v := .int .i64 (dt sn).d) rfl
        have S4 := blk_cell TL.out.hs (i := 4) (v := .int .i64 (dt sn).w) rfl
        have D0 := blk_cell TL.out.hd (i := 0) (v := .int .i64 (dt n).n) rfl
        have D1 := blk_cell TL.out.hd (i := 1) (v := .int .i64 (dt n).y) rfl
        have D2 := blk_cell TL.out.hd (i := 2) (v := .int .i64 (dt n).m) rfl
        have D3 := blk_cell TL.out.hd (i := 3) (v := .int .i64 (dt n).d) rfl
        have D4 := blk_cell TL.out.hd (i := 4) (v := .int .i64 (dt n).w) rfl
        rw [hnn] at D0
        have HNIL : Hid (∀ x ∈ ([] : List Int), 0 ≤ x ∧ x ≤ 109938) := fun x hx => by cases hx
        have hng : ¬ good r (dt sn) n := fun h => by have := h.1; omega
        rw [if_neg hng] at HIN
        clear h37 hng
        go_upto_region 9 with fail
        have TN := Lib.hid TL.out.newD
        have hne1 : wl.heap.size ≠ w.heap.size := by have := heap_lt' TL.out.hr; omega
        have hne2 : wl.heap.size ≠ sb := by have := heap_lt' TL.out.hs; omega
        obtain ⟨wz, hwz⟩ : ∃ wz, wl.alloc (.cells (dcells (dt n)) 109) = wz := ⟨_, rfl⟩
        rw [hwz] at TN
        have HWZ := Lib.hid hwz
        clear hwz
        unfold dcells at HWZ
        rw [hnn] at HWZ
        rw [HWZ.out]
        obtain ⟨db2, hdb2⟩ : ∃ db2, wl.heap.size = db2 := ⟨_, rfl⟩
        rw [hdb2] at TN hne1 hne2 ⊢
        clear R0 R1 R2 R3 R4 R5 R6 R7 R8 S0 S1 S2 S3 S4 D0 D1 D2 D3 D4
        have R0 := blk_cell TN.out.hr (i := 0) (v := .int .i64 r.freq) rfl
        have R1 := blk_cell TN.out.hr (i := 1) (v := .int .i64 r.iv) rfl
        have R2 := blk_cell TN.out.hr (i := 2) (v := .int .i64 r.count) rfl
        have R3 := blk_cell TN.out.hr (i := 3) (v := .int .i64 r.until_) rfl
        have R4 := blk_cell TN.out.hr (i := 4) (v := .slice A1 r.bm.length c1) rfl
        have R5 := blk_cell TN.out.hr (i := 5) (v := .slice A2 r.bd.length c2) rfl
        have R6 := blk_cell TN.out.hr (i := 6) (v := .slice A3 r.bw.length c3) rfl
        have R7 := blk_cell TN.out.hr (i := 7) (v := .slice A4 r.bs.length c4) rfl
        have R8 := blk_cell TN.out.hr (i := 8) (v := .int .i64 r.start) rfl
        have S0 := blk_cell TN.out.hs (i := 0) (v := .int .i64 (dt sn).n) rfl
        have S1 := blk_cell TN.out.hs (i := 1) (v := .int .i64 (dt sn).y) rfl
        have S2 := blk_cell TN.out.hs (i := 2) (v := .int .i64 (dt sn).m) rfl
        have S3 := blk_cell TN.out.hs (i := 3) (v := .int .i64 (dt sn).d) rfl
        have S4 := blk_cell TN.out.hs (i := 4) (v := .int .i64 (dt sn).w) rfl
        have D0 := blk_cell TN.out.hd (i := 0) (v := .int .i64 (dt n).n) rfl
        have D1 := blk_cell TN.out.hd (i := 1) (v := .int .i64 (dt n).y) rfl
        have D2 := blk_cell TN.out.hd (i := 2) (v := .int .i64 (dt n).m) rfl
        have D3 := blk_cell TN.out.hd (i := 3) (v := .int .i64 (dt n).d) rfl
        have D4 := blk_cell TN.out.hd (i := 4) (v := .int .i64 (dt n).w) rfl
        rw [hnn] at D0
        have HNX := Lib.hid (HNx.out n h38 wz)
        rw [hnn] at HNX
        go_wp2_with fail
        go_at_call 81
        refine HNX.out.mono ?_
        rintro e wn ⟨rfl, hbnx⟩
        have TM := Lib.hid (TN.out.below hbnx)
        clear hbnx
        clear R0 R1 R2 R3 R4 R5 R6 R7 R8 S0 S1 S2 S3 S4 D0 D1 D2 D3 D4
        have R0 := blk_cell TM.out.hr (i := 0) (v := .int .i64 r.freq) rfl
        have R1 := blk_cell TM.out.hr (i := 1) (v := .int .i64 r.iv) rfl
        have R2 := blk_cell TM.out.hr (i := 2) (v := .int .i64 r.count) rfl
        have R3 := blk_cell TM.out.hr (i := 3) (v := .int .i64 r.until_) rfl
        have R4 := blk_cell TM.out.hr (i := 4) (v := .slice A1 r.bm.length c1) rfl
        have R5 := blk_cell TM.out.hr (i := 5) (v := .slice A2 r.bd.length c2) rfl
        have R6 := blk_cell TM.out.hr (i := 6) (v := .slice A3 r.bw.length c3) rfl
        have R7 := blk_cell TM.out.hr (i := 7) (v := .slice A4 r.bs.length c4) rfl
        have R8 := blk_cell TM.out.hr (i := 8) (v := .int .i64 r.start) rfl
        have S0 := blk_cell TM.out.hs (i := 0) (v := .int .i64 (dt sn).n) rfl
        have S1 := blk_cell TM.out.hs (i := 1) (v := .int .i64 (dt sn).y) rfl
        have S2 := blk_cell TM.out.hs (i := 2) (v := .int .i64 (dt sn).m) rfl
        have S3 := blk_cell TM.out.hs (i := 3) (v := .int .i64 (dt sn).d) rfl
        have S4 := blk_cell TM.out.hs (i := 4) (v := .int .i64 (dt sn).w) rfl
        have D0 := blk_cell TM.out.hd (i := 0) (v := .int .i64 (dt n).n) rfl
        have D1 := blk_cell TM.out.hd (i := 1) (v := .int .i64 (dt n).y) rfl
        have D2 := blk_cell TM.out.hd (i := 2) (v := .int .i64 (dt n).m) rfl
        have D3 := blk_cell TM.out.hd (i := 3) (v := .int .i64 (dt n).d) rfl
        have D4 := blk_cell TM.out.hd (i := 4) (v := .int .i64 (dt n).w) rfl
        rw [hnn] at D0
        have DF := blk_free TM.out.hd
        go_wp2_with fail
        have TE := TM.out.setD hne1 hne2 (nx (dt n))
        have hnn2 : (nx (dt n)).n = ((n + 1 : Nat) : Int) := by rw [nx_n, hnn]; rfl
        have hcell := blk_cell TE.hd (i := 0) (v := .int .i64 (nx (dt n)).n) rfl
        have hday2 : dayOf (.pointer (some ⟨db2, 0, none⟩)) (chain5 wn db2 (.int .i64 (nx (dt n)).n) (.int .i64 (nx (dt n)).y) (.int .i64 (nx (dt n)).m) (.int .i64 (nx (dt n)).d) (.int .i64 (nx (dt n)).w)) = n + 1 := by rw [dayOf_at hcell, hnn2]; simp
        unfold chain5 at hday2
        clear hcell
        go_roundw
        case rel => exact ⟨n + 1, out2, ([] : List Int), 0, ob2, ocap2, wr.heap.size, 0, db2, nx (dt n), by omega, rfl, rfl, rfl, rfl, TE, ⟨hnn2, fun h => nx_dt (by omega), hne1, hne2⟩, by omega, by simp; omega, HNIL.out, HIN.out⟩
        case measure => rw [HDAY.out, hday2]; omega
  ·have h39z : ¬ (n : Int) ≤ 109938 := by omega
   have HE : Hid (out = res) := by show _ = _; have := HI.out; rw [show n = 109939 by omega, HR0.out] at this; exact this
   have D0 := blk_cell HT.out.hd (i := 0) (v := .int .i64 t.n) rfl
   rw [HX.out.1] at D0
   go_wp2_with fail
   go_ret
   have ho := HT.out.ho
   exact ⟨_, _, by rw [← HE.out]; rfl, by rw [← HE.out]; exact ho, HT.out.fr⟩
end Go.Proofs.YtfjmofefciopmaaGreat
end
