import Derived.Test.YtnccgfdaddbndaaZNW1
import Derived.Test.YtnccgfdaddbndaaZMN
import Derived.Test.YtnccgfdaddbndaaZMD
/- Contracts of the program's times: a period's first day; a day's period; where to begin. -/
section
namespace Go.Proofs.Ytnccgfdaddbndaa
open Go.ChangeShapes Go.WideShapes Go.ChangeAt Go.RowKit Go.Joins Qr Tm Cal

/-- A course, as cells: the rule's, and its start. -/
def ccells (r : R) (A1 A2 A3 A4 : Option Addr) (c1 c2 c3 c4 : Nat) (s : Int) : Array Value :=
  #[.int .i64 r.freq, .int .i64 r.iv, .int .i64 r.count, .int .i64 r.until_, .slice A1 r.bm.length c1, .slice A2 r.bd.length c2, .slice A3 r.bw.length c3, .slice A4 r.bs.length c4, .int .i64 r.start, .int .i64 s]

set_option maxHeartbeats 1000000 in
theorem bom_any (y m : Int) (hm : 1 ≤ m ∧ m ≤ 12) (w : World) :
    Calls Try.prog 58 #[.int .i64 y, .int .i64 m] w fun e w' => e = .returned (.int .i64 (bom y m)) ∧ Below w.heap.size w w' := by
  obtain ⟨q, hq⟩ : ∃ q, bom y m = q := ⟨_, rfl⟩
  rw [hq]
  have hp := len_pos y m hm.1 hm.2
  by_cases c : 1900 ≤ y ∧ y ≤ 2200
  · have E : Hid (numI y m 1 = q) := by show _ = _; rw [← hq]; unfold bom; rw [if_pos c]
    have HC := Lib.hid (fun w => number_yes y m 1 w ⟨c.1, c.2, by omega, by omega⟩)
    generalize numI y m 1 = z at *
    clear hq hp hm c
    go_enter Try.func58, Try.ntmps58
    go_wp2_with (go_at_call 63; (with_reducible refine (HC.out _).mono ?_); rintro e w' ⟨rfl, hb⟩)
    go_ret
    exact ⟨ret_int E.out, hb⟩
  · have E : Hid (q = 109938) := by show _ = _; rw [← hq]; unfold bom; rw [if_neg c]
    have HC := Lib.hid (fun w => number_no y m 1 w (may_no.2 fun h => c ⟨h.1, h.2.1⟩))
    clear hq hp hm c
    go_enter Try.func58, Try.ntmps58
    go_wp2_with (go_at_call 63; (with_reducible refine (HC.out _).mono ?_); rintro e w' ⟨rfl, hb⟩)
    go_ret
    exact ⟨ret_int E.out.symm, hb⟩

section
variable (r : R) (A1 A2 A3 A4 : Option Addr) (c1 c2 c3 c4 : Nat) (s : Int)
set_option maxRecDepth 100000 in
set_option maxHeartbeats 1000000 in
theorem pbegin_any (p : Int) (ho : Okr r) (hp : 0 ≤ p) (hp2 : p ≤ 1000000) (w : World) :
    Calls Try.prog 50 #[.agg (ccells r A1 A2 A3 A4 c1 c2 c3 c4 s), .int .i64 p] w fun e w' => e = .returned (.int .i64 (bg r p)) ∧ Below w.heap.size w w' := by
  obtain ⟨q, hq⟩ : ∃ q, bg r p = q := ⟨_, rfl⟩
  rw [hq]
  have hf := ho.f
  have hst := ho.s
  have K : ∀ (k : Nat) (v : Value), (ccells r A1 A2 A3 A4 c1 c2 c3 c4 s)[k]? = some v → ∀ g : Gr (w.alloc (.cells (ccells r A1 A2 A3 A4 c1 c2 c3 c4 s) 61)), g.val.cell? ⟨w.heap.size, k, none⟩ = some v := fun k v h g => g.cell1 k v h
  have K0 := K 0 (.int .i64 r.freq) rfl ⟨_, Below.refl _ _⟩
  have K8 := K 8 (.int .i64 r.start) rfl ⟨_, Below.refl _ _⟩
  have HB := Lib.hid ((Below.refl w.heap.size w).alloc (Nat.le_refl _) (.cells (ccells r A1 A2 A3 A4 c1 c2 c3 c4 s) 61))
  have HS : Hid (w.heap.size ≤ (w.alloc (.cells (ccells r A1 A2 A3 A4 c1 c2 c3 c4 s) 61)).heap.size) := by show _ ≤ _; simp
  clear K ho
  obtain ⟨fq, iv_, ct, un, bm, bd, bw, bs, st⟩ := r
  unfold bg at hq
  unfold ccells at *
  simp only at *
  by_cases f1 : fq = 1
  · rw [if_pos f1] at hq
    subst f1
    have E := Lib.hid hq
    clear hq
    go_enter Try.func50, Try.ntmps50
    go_wp2
    go_ret
    exact ⟨ret_int E.out, HB.out⟩
  · rw [if_neg f1] at hq
    have f1b : (fq == 1) = false := beq_false_of_ne f1
    by_cases f2 : fq = 2
    · rw [if_pos f2] at hq
      subst f2
      have E := Lib.hid hq
      have w1 : IntKind.i64.wrap (p - 1) = p - 1 := by rw [IntKind.wrap_i64]; omega
      have w2 : IntKind.i64.wrap ((p - 1) * 7) = (p - 1) * 7 := by rw [IntKind.wrap_i64]; omega
      have w3 : IntKind.i64.wrap ((p - 1) * 7 + st) = (p - 1) * 7 + st := by rw [IntKind.wrap_i64]; omega
      clear hq
      go_enter Try.func50, Try.ntmps50
      go_wp2
      go_ret
      exact ⟨ret_int E.out, HB.out⟩
    · rw [if_neg f2] at hq
      have f2b : (fq == 2) = false := beq_false_of_ne f2
      by_cases f3 : fq = 3
      · rw [if_pos f3] at hq
        subst f3
        have HC := Lib.hid (fun w => bom_any (p / 12) (p % 12 + 1) (by omega) w)
        rw [hq] at HC
        have w1 : p.tdiv 12 = p / 12 := Int.tdiv_eq_ediv_of_nonneg hp
        have w2 : p.tmod 12 = p % 12 := Int.tmod_eq_emod_of_nonneg hp
        have w3 : IntKind.i64.wrap (p / 12) = p / 12 := by rw [IntKind.wrap_i64]; omega
        have w4 : IntKind.i64.wrap (p % 12 + 1) = p % 12 + 1 := by rw [IntKind.wrap_i64]; omega
        clear hq
        go_enter Try.func50, Try.ntmps50
        go_wp2_with (go_at_call 58; (with_reducible refine (HC.out _).mono ?_); rintro e w' ⟨rfl, hb⟩)
        go_ret
        exact ⟨rfl, HB.out.trans (hb.mono HS.out)⟩
      · rw [if_neg f3] at hq
        have f3b : (fq == 3) = false := beq_false_of_ne f3
        have HC := Lib.hid (fun w => bom_any p 1 (by omega) w)
        rw [hq] at HC
        clear hq f1 f2 f3
        go_enter Try.func50, Try.ntmps50
        go_wp2_with (go_at_call 58; (with_reducible refine (HC.out _).mono ?_); rintro e w' ⟨rfl, hb⟩)
        go_ret
        exact ⟨rfl, HB.out.trans (hb.mono HS.out)⟩

set_option maxRecDepth 100000 in
set_option maxHeartbeats 1000000 in
theorem pperiod_any (n : Nat) (hn : n ≤ 109937) (ho : Okr r) (w : World) :
    Calls Try.prog 57 #[.agg (ccells r A1 A2 A3 A4 c1 c2 c3 c4 s), .int .i64 n] w fun e w' => e = .returned (.int .i64 (pp r (dt n))) ∧ Below w.heap.size w w' := by
  obtain ⟨q, hq⟩ : ∃ q, pp r (dt n) = q := ⟨_, rfl⟩
  rw [hq]
  have hst := ho.s
  obtain ⟨hmay, _⟩ := dt_in hn
  have hmm := may_month hmay
  obtain ⟨ay, by_, d1, d2⟩ := hmay
  have hdt : Hid (yOf (n : Int) = (dt n).y ∧ mOf (n : Int) = (dt n).m ∧ dOf (n : Int) = (dt n).d) := by show _ ∧ _; unfold dt; rw [if_pos hn]; exact ⟨rfl, rfl, rfl⟩
  have HD := Lib.hid (fun w => date_yes (n : Int) w (by omega) (by omega))
  obtain ⟨e1, e2, e3⟩ := hdt.out
  rw [e1, e2, e3] at HD
  obtain ⟨W, hW⟩ : ∃ W, w.alloc (.cells (ccells r A1 A2 A3 A4 c1 c2 c3 c4 s) 61) = W := ⟨_, rfl⟩
  have HW := Lib.hid hW
  have BW : Hid (Below w.heap.size w W) := by show Below _ _ _; rw [← hW]; exact (Below.refl _ w).alloc (Nat.le_refl _) _
  have HBK : Hid (W.heap[w.heap.size]? = some (.cells (ccells r A1 A2 A3 A4 c1 c2 c3 c4 s) 61 (0, 0))) := by show _ = _; rw [← hW, heap_alloc_new]
  have hdn := dt_n n
  unfold pp at hq
  rw [hdn] at hq
  obtain ⟨fq, iv_, ct, un, bm, bd, bw, bs, st⟩ := r
  unfold ccells at *
  simp only at *
  clear e1 e2 e3 hdt hW ho hdn
  generalize (dt n).y = y at *
  generalize (dt n).m = m at *
  generalize (dt n).d = d at *
  have way : (fq = 1 ∧ Hid ((n : Int) = q)) ∨ ((fq == 1) = false ∧ fq = 2 ∧ Hid (((n : Int) - st + 7) / 7 = q)) ∨ ((fq == 1) = false ∧ (fq == 2) = false ∧ fq = 3 ∧ Hid (y * 12 + m - 1 = q)) ∨ ((fq == 1) = false ∧ (fq == 2) = false ∧ (fq == 3) = false ∧ Hid (y = q)) := by
    by_cases f1 : fq = 1
    · rw [if_pos f1] at hq; exact .inl ⟨f1, hq⟩
    · rw [if_neg f1] at hq
      by_cases f2 : fq = 2
      · rw [if_pos f2] at hq; exact .inr (.inl ⟨beq_false_of_ne f1, f2, hq⟩)
      · rw [if_neg f2] at hq
        by_cases f3 : fq = 3
        · rw [if_pos f3] at hq; exact .inr (.inr (.inl ⟨beq_false_of_ne f1, beq_false_of_ne f2, f3, hq⟩))
        · rw [if_neg f3] at hq; exact .inr (.inr (.inr ⟨beq_false_of_ne f1, beq_false_of_ne f2, beq_false_of_ne f3, hq⟩))
  clear hq
  have w1 : IntKind.i64.wrap ((n : Int) - st) = n - st := by rw [IntKind.wrap_i64]; omega
  have w2 : IntKind.i64.wrap ((n : Int) - st + 7) = n - st + 7 := by rw [IntKind.wrap_i64]; omega
  have w3 : ((n : Int) - st + 7).tdiv 7 = (n - st + 7) / 7 := Int.tdiv_eq_ediv_of_nonneg (by omega)
  have w4 : IntKind.i64.wrap (((n : Int) - st + 7) / 7) = (n - st + 7) / 7 := by rw [IntKind.wrap_i64]; omega
  have w5 : IntKind.i64.wrap (y * 12) = y * 12 := by rw [IntKind.wrap_i64]; omega
  have w6 : IntKind.i64.wrap (y * 12 + m) = y * 12 + m := by rw [IntKind.wrap_i64]; omega
  have w7 : IntKind.i64.wrap (y * 12 + m - 1) = y * 12 + m - 1 := by rw [IntKind.wrap_i64]; omega
  rcases way with ⟨rfl, E⟩ | ⟨f1, rfl, E⟩ | ⟨f1, f2, rfl, E⟩ | ⟨f1, f2, f3, E⟩
  all_goals
    go_enter Try.func57, Try.ntmps57
    go_upto_region 1 with fail
    rw [HW.out]
    go_upto_region 2 with (go_at_call 46; (with_reducible refine (HD.out _).mono ?_); rintro e w2 ⟨rfl, hb⟩)
    obtain ⟨W2, hW2⟩ : ∃ W2, w2.alloc (.cells #[.int .i64 y, .int .i64 m, .int .i64 d] 37) = W2 := ⟨_, rfl⟩
    rw [hW2]
    have hB2 : Below W.heap.size W W2 := by rw [← hW2]; exact hb.alloc hb.size _
    have D2 : W2.heap[w2.heap.size]? = some (.cells #[.int .i64 y, .int .i64 m, .int .i64 d] 37 (0, 0)) := by rw [← hW2, heap_alloc_new]
    have R2 := blk_below HBK.out hB2
    have d0 := blk_cell D2 (i := 0) rfl
    have d1 := blk_cell D2 (i := 1) rfl
    have r0 := blk_cell R2 (i := 0) rfl
    have r8 := blk_cell R2 (i := 8) rfl
    have HX : Hid (Below w.heap.size w W2) := BW.out.trans (hB2.mono BW.out.size)
    clear hW2 D2 R2 hB2 hb
    go_wp2
    go_ret
    exact ⟨ret_int E.out, HX.out⟩

set_option maxRecDepth 100000 in
set_option maxHeartbeats 1000000 in
theorem pfirst_any (sn fn : Nat) (hs : sn ≤ 109937) (hf : fn ≤ 109937) (hsf : sn ≤ fn) (ho : Okr r) (hc : 0 ≤ r.count) (w : World) :
    Calls Try.prog 49 #[.agg (ccells r A1 A2 A3 A4 c1 c2 c3 c4 sn), .int .i64 fn] w fun e w' => e = .returned (.int .i64 (fstP r (dt sn) fn)) ∧ Below w.heap.size w w' := by
  obtain ⟨q, hq⟩ : ∃ q, fstP r (dt sn) fn = q := ⟨_, rfl⟩
  rw [hq]
  have HP1 := Lib.hid (fun w => pperiod_any r A1 A2 A3 A4 c1 c2 c3 c4 sn sn hs ho w)
  have HP2 := Lib.hid (fun w => pperiod_any r A1 A2 A3 A4 c1 c2 c3 c4 sn fn hf ho w)
  obtain ⟨b1, b2, b3, b4⟩ := fst_low ho hs hf hsf
  have hl := pp_low ho hs
  have hsm := bg_small ho (pp_low ho hf) (by have := (bg_pp ho hf (pp_low ho hf)).2 (Int.le_refl _); omega)
  have hl0 : 0 ≤ lowP r := by unfold lowP; split <;> (try split) <;> (try split) <;> omega
  have hi := ho.i
  have hmod := Int.emod_nonneg (pp r (dt fn) - pp r (dt sn)) (show r.iv ≠ 0 by omega)
  have hmod2 := Int.emod_lt_of_pos (pp r (dt fn) - pp r (dt sn)) (show 0 < r.iv by omega)
  have htm : (pp r (dt fn) - pp r (dt sn)).tmod r.iv = (pp r (dt fn) - pp r (dt sn)) % r.iv := Int.tmod_eq_emod_of_nonneg (by omega)
  have hb1 : pp r (dt sn) ≤ pp r (dt fn) := by omega
  unfold fstP at hq
  rw [Int.toNat_natCast] at hq
  clear b1 b2 b3 b4
  generalize pp r (dt sn) = P1 at *
  generalize pp r (dt fn) = P2 at *
  obtain ⟨W, hW⟩ : ∃ W, w.alloc (.cells (ccells r A1 A2 A3 A4 c1 c2 c3 c4 sn) 61) = W := ⟨_, rfl⟩
  have HW := Lib.hid hW
  have BW : Hid (Below w.heap.size w W) := by show Below _ _ _; rw [← hW]; exact (Below.refl _ w).alloc (Nat.le_refl _) _
  have HBK : Hid (W.heap[w.heap.size]? = some (.cells (ccells r A1 A2 A3 A4 c1 c2 c3 c4 sn) 61 (0, 0))) := by show _ = _; rw [← hW, heap_alloc_new]
  obtain ⟨fq, iv_, ct, un, bm, bd, bw, bs, st⟩ := r
  unfold ccells at *
  simp only at *
  have q0 := blk_cell HBK.out (i := 0) rfl
  have q1 := blk_cell HBK.out (i := 1) rfl
  have q2 := blk_cell HBK.out (i := 2) rfl
  have q3 := blk_cell HBK.out (i := 3) rfl
  have q4 := blk_cell HBK.out (i := 4) rfl
  have q5 := blk_cell HBK.out (i := 5) rfl
  have q6 := blk_cell HBK.out (i := 6) rfl
  have q7 := blk_cell HBK.out (i := 7) rfl
  have q8 := blk_cell HBK.out (i := 8) rfl
  have q9 := blk_cell HBK.out (i := 9) rfl
  clear hW ho
  have w1 : IntKind.i64.wrap (P2 - P1) = P2 - P1 := by rw [IntKind.wrap_i64]; omega
  have w2 : IntKind.i64.wrap (P1 + (P2 - P1)) = P1 + (P2 - P1) := by rw [IntKind.wrap_i64]; omega
  have w3 : IntKind.i64.wrap (P1 + (P2 - P1) - (P2 - P1) % iv_) = P1 + (P2 - P1) - (P2 - P1) % iv_ := by rw [IntKind.wrap_i64]; omega
  have hiv : (iv_ == 0) = false := beq_false_of_ne (by omega)
  by_cases hct : 0 < ct
  · rw [if_pos hct] at hq
    have E := Lib.hid hq
    clear hq
    go_enter Try.func49, Try.ntmps49
    go_upto_region 1 with fail
    rw [HW.out]
    go_wp2_with fail
    go_at_call 57
    refine (HP1.out _).mono ?_
    rintro e w2 ⟨rfl, hb⟩
    have R2 := blk_below HBK.out hb
    have d2 := blk_cell R2 (i := 2) rfl
    clear q0 q1 q2 q3 q4 q5 q6 q7 q8 q9 R2
    go_wp2
    go_ret
    exact ⟨ret_int E.out, BW.out.trans (hb.mono BW.out.size)⟩
  · rw [if_neg hct] at hq
    have hctb : decide (0 < ct) = false := decide_eq_false hct
    have E := Lib.hid hq
    clear hq
    go_enter Try.func49, Try.ntmps49
    go_upto_region 1 with fail
    rw [HW.out]
    go_wp2_with fail
    go_at_call 57
    refine (HP1.out _).mono ?_
    rintro e w2 ⟨rfl, hb⟩
    have R2 := blk_below HBK.out hb
    have H2 := Lib.hid R2
    have d2 := blk_cell R2 (i := 2) rfl
    have HX2 : Hid (Below W.heap.size W w2) := hb
    have l0 := blk_cell R2 (i := 0) rfl
    have l1 := blk_cell R2 (i := 1) rfl
    have l3 := blk_cell R2 (i := 3) rfl
    have l4 := blk_cell R2 (i := 4) rfl
    have l5 := blk_cell R2 (i := 5) rfl
    have l6 := blk_cell R2 (i := 6) rfl
    have l7 := blk_cell R2 (i := 7) rfl
    have l8 := blk_cell R2 (i := 8) rfl
    have l9 := blk_cell R2 (i := 9) rfl
    clear q0 q1 q2 q3 q4 q5 q6 q7 q8 q9 R2 hb
    go_wp2_with fail
    go_at_call 57
    refine (HP2.out _).mono ?_
    rintro e w3 ⟨rfl, hb⟩
    have R3 := blk_below H2.out hb
    have m1 := blk_cell R3 (i := 1) rfl
    have HX3 : Hid (Below w.heap.size w w3) := (BW.out.trans (HX2.out.mono BW.out.size)).trans (hb.mono (Nat.le_trans BW.out.size HX2.out.size))
    clear R3 hb d2 l0 l1 l3 l4 l5 l6 l7 l8 l9
    go_wp2
    go_ret
    exact ⟨ret_int E.out, HX3.out⟩
end
end Go.Proofs.Ytnccgfdaddbndaa
end
