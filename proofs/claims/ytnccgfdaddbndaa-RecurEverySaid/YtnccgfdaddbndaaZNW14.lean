import Derived.Test.YtnccgfdaddbndaaZNW13
import Derived.Test.YtnccgfdaddbndaaZMN
/- Contracts of the program's times: those between two stamps; whether a stamp is one. -/
section
namespace Go.Proofs.Ytnccgfdaddbndaa
open Go.ChangeShapes Go.WideShapes Go.ChangeAt Go.RowKit Go.Joins Qr Tm Cal

section
variable (r : R) (A1 A2 A3 A4 : Option Addr) (c1 c2 c3 c4 : Nat)
theorem pbetween_any (start from_ to most : Int) (hs : -9223372036854775808 ≤ start ∧ start ≤ 9223372036854775807) (hf : -9223372036854775808 ≤ from_ ∧ from_ ≤ 9223372036854775807) (ht : -9223372036854775808 ≤ to ∧ to ≤ 9223372036854775807)
    (hl : r.bm.length ≤ 10000 ∧ r.bd.length ≤ 10000 ∧ r.bw.length ≤ 10000 ∧ r.bs.length ≤ 10000) (w : World) (hr : RAt w r A1 A2 A3 A4 c1 c2 c3 c4) :
    Calls Try.prog 10 #[.agg (rcells r A1 A2 A3 A4 c1 c2 c3 c4), .int .i64 start, .int .i64 from_, .int .i64 to, .int .i64 most] w (RetBt (withinL r start from_ to) most w) :=
  callsIn_wide.1 (pbetween_in r A1 A2 A3 A4 c1 c2 c3 c4 9 (by omega) start from_ to most hs hf ht hl (withinL r start from_ to) rfl (by have := (within_ris r start from_ to).2; omega) w hr)

/-- Whether a stamp is one. -/
noncomputable def hasB10 (r : R) (start at_ : Int) : Bool := decide (0 ≤ at_) && decide (at_ < 158310720) && decide ((withinL r start at_ (at_ + 1)).length = 1)
set_option maxHeartbeats 1000000 in
theorem phas_any (start at_ : Int) (hs : -9223372036854775808 ≤ start ∧ start ≤ 9223372036854775807)
    (hl : r.bm.length ≤ 10000 ∧ r.bd.length ≤ 10000 ∧ r.bw.length ≤ 10000 ∧ r.bs.length ≤ 10000) (w : World) (hr : RAt w r A1 A2 A3 A4 c1 c2 c3 c4) :
    Calls Try.prog 8 #[.agg (rcells r A1 A2 A3 A4 c1 c2 c3 c4), .int .i64 start, .int .i64 at_] w fun e w' => e = .returned (.bool (hasB10 r start at_)) ∧ Below w.heap.size w w' := by
  obtain ⟨q, hq⟩ : ∃ q, hasB10 r start at_ = q := ⟨_, rfl⟩
  rw [hq]
  unfold hasB10 at hq
  obtain ⟨W, hW⟩ : ∃ W, w.alloc (.cells (rcells r A1 A2 A3 A4 c1 c2 c3 c4) 25) = W := ⟨_, rfl⟩
  have HW := Lib.hid hW
  have BW : Hid (Below w.heap.size w W) := by show Below _ _ _; rw [← hW]; exact (Below.refl _ w).alloc (Nat.le_refl _) _
  have q3 : W.heap[w.heap.size]? = some (.cells (rcells r A1 A2 A3 A4 c1 c2 c3 c4) 25 (0, 0)) := by rw [← hW, heap_alloc_new]
  by_cases h1 : at_ < 0
  · have E : Hid (q = false) := by
      show _ = _
      rw [← hq, show decide (0 ≤ at_) = false from decide_eq_false (by omega)]; rfl
    clear hW hq q3 hr
    unfold rcells at *
    go_enter Try.func8, Try.ntmps8
    go_upto_region 1 with fail
    rw [HW.out]
    go_wp2_with fail
    go_ret
    exact ⟨ret_bool E.out.symm, BW.out⟩
  · have h1b : decide (at_ < 0) = false := decide_eq_false h1
    by_cases h2 : 158310720 ≤ at_
    · have E : Hid (q = false) := by
        show _ = _
        rw [← hq, show decide (at_ < 158310720) = false from decide_eq_false (by omega)]; simp
      clear hW hq q3 hr
      unfold rcells at *
      go_enter Try.func8, Try.ntmps8
      go_upto_region 1 with fail
      rw [HW.out]
      go_wp2_with fail
      go_ret
      exact ⟨ret_bool E.out.symm, BW.out⟩
    · have h2b : decide (158310720 ≤ at_) = false := decide_eq_false h2
      have hE : q = decide ((withinL r start at_ (at_ + 1)).length = 1) := by
        rw [← hq, show decide (0 ≤ at_) = true from decide_eq_true (by omega), show decide (at_ < 158310720) = true from decide_eq_true (by omega)]; rfl
      have HB := Lib.hid (pbetween_any r A1 A2 A3 A4 c1 c2 c3 c4 start at_ (at_ + 1) 1 hs (by omega) (by omega) hl W (hr.below BW.out (Nat.le_refl _)))
      generalize withinL r start at_ (at_ + 1) = T at *
      have hw1 : IntKind.i64.wrap (at_ + 1) = at_ + 1 := by rw [IntKind.wrap_i64]; omega
      have HQ := Lib.hid hE
      clear hW hq hr hE
      unfold rcells at *
      have k0 := blk_cell q3 (i := 0) rfl
      have k1 := blk_cell q3 (i := 1) rfl
      have k2 := blk_cell q3 (i := 2) rfl
      have k3 := blk_cell q3 (i := 3) rfl
      have k4 := blk_cell q3 (i := 4) rfl
      have k5 := blk_cell q3 (i := 5) rfl
      have k6 := blk_cell q3 (i := 6) rfl
      have k7 := blk_cell q3 (i := 7) rfl
      have k8 := blk_cell q3 (i := 8) rfl
      clear q3
      go_enter Try.func8, Try.ntmps8
      go_upto_region 1 with fail
      rw [HW.out]
      go_wp2_with fail
      go_at_call 10
      refine HB.out.mono ?_
      rintro e w2 ⟨h, hb⟩
      have HX := Lib.hid (BW.out.trans (hb.mono BW.out.size))
      clear hb k0 k1 k2 k3 k4 k5 k6 k7 k8
      rcases h with ⟨hle, A, c, rfl, hsl⟩ | ⟨hgt, rfl⟩
      · have hll : T.length ≤ 9223372036854775807 := Nat.le_trans hsl.le hsl.cap
        clear hsl hle
        by_cases h3 : T.length = 1
        · have E : Hid (q = true) := by show _ = _; rw [HQ.out, decide_eq_true h3]
          have h3b : ((T.length : Int) == 1) = true := beq_iff_eq.2 (by omega)
          clear HQ h3
          go_wp2_with fail
          go_ret
          exact ⟨ret_bool E.out.symm, HX.out⟩
        · have E : Hid (q = false) := by show _ = _; rw [HQ.out, decide_eq_false h3]
          have h3b : ((T.length : Int) == 1) = false := beq_false_of_ne (by omega)
          clear HQ h3
          go_wp2_with fail
          go_ret
          exact ⟨ret_bool E.out.symm, HX.out⟩
      · have E : Hid (q = false) := by show _ = _; rw [HQ.out, decide_eq_false (by omega)]
        clear HQ hgt
        go_wp2_with fail
        go_ret
        exact ⟨ret_bool E.out.symm, HX.out⟩
end
end Go.Proofs.Ytnccgfdaddbndaa
end
