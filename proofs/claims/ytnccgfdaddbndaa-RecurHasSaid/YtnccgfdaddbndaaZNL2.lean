import Derived.Test.YtnccgfdaddbndaaZNL1
import Derived.Test.YtnccgfdaddbndaaZQW6
import Derived.Test.YtnccgfdaddbndaaZTW9
/- Layer 10's law on whether a stamp is one of the times. -/
section
namespace Go.Proofs.Ytnccgfdaddbndaa
open Go.ChangeShapes Go.WideShapes Go.ChangeAt Go.RowKit Go.Joins Qr Tm Cal

section
variable (r : R) (A1 A2 A3 A4 : Option Addr) (c1 c2 c3 c4 : Nat)
set_option maxRecDepth 100000 in
set_option maxHeartbeats 4000000 in
theorem recurHas_any (start at_ : Int) (hs : -9223372036854775808 ≤ start ∧ start ≤ 9223372036854775807) (ha : -9223372036854775808 ≤ at_ ∧ at_ ≤ 9223372036854775807) (w : World) (hr : RAt w r A1 A2 A3 A4 c1 c2 c3 c4) :
    Calls Try.prog 3 #[.agg (rcells r A1 A2 A3 A4 c1 c2 c3 c4), .int .i64 start, .int .i64 at_] w fun e w' => e = .returned (.bool true) ∧ Below w.heap.size w w' := by
  obtain ⟨W, hW⟩ : ∃ W, w.alloc (.cells (rcells r A1 A2 A3 A4 c1 c2 c3 c4) 25) = W := ⟨_, rfl⟩
  have HW := Lib.hid hW
  have BW : Hid (Below w.heap.size w W) := by show Below _ _ _; rw [← hW]; exact (Below.refl _ w).alloc (Nat.le_refl _) _
  have HBK : Hid (∀ V : World, Below W.heap.size W V → V.heap[w.heap.size]? = some (.cells (rcells r A1 A2 A3 A4 c1 c2 c3 c4) 25 (0, 0))) := fun V h => blk_below (by rw [← hW, heap_alloc_new]) h
  have HR : Hid (∀ V : World, Below W.heap.size W V → RAt V r A1 A2 A3 A4 c1 c2 c3 c4) := fun V h => (hr.below BW.out (Nat.le_refl _)).below h (Nat.le_refl _)
  have HG := Lib.hid (rgreat_any r A1 A2 A3 A4 c1 c2 c3 c4 W (HR.out W (Below.refl _ _)))
  have HFX := Lib.hid (fun w => fixed10_any w)
  obtain ⟨gb, hgb⟩ : ∃ gb, greatB r = gb := ⟨_, rfl⟩
  rw [hgb] at HG
  have q3 := HBK.out W (Below.refl _ _)
  have HHAS : Hid (gb = false → ∀ V : World, Below W.heap.size W V → Calls Try.prog 8 #[.agg (rcells r A1 A2 A3 A4 c1 c2 c3 c4), .int .i64 start, .int .i64 at_] V fun e w' => e = .returned (.bool (hasB10 r start at_)) ∧ Below V.heap.size V w') := fun h V hV => by
    rw [h] at hgb
    unfold greatB at hgb
    have h2 := of_decide_eq_false hgb
    exact phas_any r A1 A2 A3 A4 c1 c2 c3 c4 start at_ hs ⟨by omega, by omega, by omega, by omega⟩ V (HR.out V hV)
  have HTM : Hid (∀ V : World, Below W.heap.size W V → Calls Try.prog 7 #[.agg (rcells r A1 A2 A3 A4 c1 c2 c3 c4), .int .i64 start, .int .i64 (at_ / 1440 + 1)] V (RetI (timesL r start (at_ / 1440 + 1)) V)) := fun V hV => rtimes_all r A1 A2 A3 A4 c1 c2 c3 c4 start (at_ / 1440 + 1) hs V (HR.out V hV)
  obtain ⟨q, hq⟩ : ∃ q, hasB10 r start at_ = q := ⟨_, rfl⟩
  -- where there is none
  have n1 : start < 0 ∨ 158310720 ≤ start → Hid (q = false) := fun h => by
    show _ = _; rw [← hq]; unfold hasB10
    rw [show withinL r start at_ (at_ + 1) = [] by unfold withinL; rw [if_neg (fun h2 => by omega)]]
    simp
  have n2 : at_ < start ∨ 158310720 ≤ at_ → Hid (q = false) := fun h => by
    show _ = _; rw [← hq]; unfold hasB10
    rcases h with h | h
    · rw [has_ahead h]; simp
    · rw [show decide (at_ < 158310720) = false from decide_eq_false (by omega)]; simp
  have n3 : 0 ≤ start → start ≤ at_ → at_ < 158310720 → Hid (memB (timesL r start (at_ / 1440 + 1)) at_ = q) := fun h1 h2 h3 => by
    show _ = _; rw [← hq]; unfold hasB10
    rw [show decide (0 ≤ at_) = true from decide_eq_true (by omega), show decide (at_ < 158310720) = true from decide_eq_true h3, Bool.eq_iff_iff, memB_iff]
    simp only [Bool.true_and, decide_eq_true_eq]
    exact (has_times (by omega) h3 h2).symm
  rw [hq] at HHAS
  clear hW hr hgb hq
  generalize timesL r start (at_ / 1440 + 1) = L at *
  have ways : (gb = true ∨ (gb = false ∧ 0 ≤ start ∧ start < 158310720 ∧ (start + 3600000 < at_ ∨ (¬ start + 3600000 < at_ ∧ at_ < -1099511627776)))) ∨
      (gb = false ∧ (start < 0 ∨ (0 ≤ start ∧ 158310720 ≤ start) ∨ (0 ≤ start ∧ start < 158310720 ∧ ¬ start + 3600000 < at_ ∧ ¬ at_ < -1099511627776 ∧ (at_ < start ∨ (start ≤ at_ ∧ 158310720 ≤ at_) ∨ (start ≤ at_ ∧ at_ < 158310720))))) := by
    have h1 : (0 ≤ start ∧ start < 158310720 ∧ (start + 3600000 < at_ ∨ (¬ start + 3600000 < at_ ∧ at_ < -1099511627776))) ∨ (start < 0 ∨ (0 ≤ start ∧ 158310720 ≤ start) ∨ (0 ≤ start ∧ start < 158310720 ∧ ¬ start + 3600000 < at_ ∧ ¬ at_ < -1099511627776 ∧ (at_ < start ∨ (start ≤ at_ ∧ 158310720 ≤ at_) ∨ (start ≤ at_ ∧ at_ < 158310720)))) := by omega
    cases gb
    · rcases h1 with h1 | h1
      · exact .inl (.inr ⟨rfl, h1⟩)
      · exact .inr ⟨rfl, h1⟩
    · exact .inl (.inl rfl)
  unfold rcells at *
  have k0 := blk_cell q3 (i := 0) rfl
  have k1 := blk_cell q3 (i := 1) rfl
  have k2 := blk_cell q3 (i := 2) rfl
  have k3 := blk_cell q3 (i := 3) rfl
  have k4 := blk_cell q3 (i := 4) rfl
  have k5 := blk_cell q3 (i := 5) rfl
  have k6 := blk_cell q3 (i := 6) rfl
  have k7 := blk_cell q3 (i := 7) rfl
  have k8 := blk_cell q3 (i := 8) rfl
  clear q3
  rcases ways with (rfl | ⟨rfl, s0, s1, a1 | ⟨a1, a2⟩⟩) | ⟨rfl, s0 | ⟨s0, s1⟩ | ⟨s0, s1, a1, a2, a3 | ⟨a3, a4⟩ | ⟨a3, a4⟩⟩⟩
  · -- a great rule
    go_enter Try.func3, Try.ntmps3
    go_upto_region 1 with fail
    rw [HW.out]
    go_wp2_with fail
    go_at_call 5
    refine HG.out.mono ?_
    rintro e w2 ⟨rfl, hb⟩
    clear k0 k1 k2 k3 k4 k5 k6 k7 k8
    go_wp2_with (go_at_call 6; (with_reducible refine (HFX.out _).mono ?_); rintro e w3 ⟨rfl, hb3⟩)
    go_ret
    exact ⟨rfl, BW.out.trans ((hb.trans (hb3.mono hb.size)).mono BW.out.size)⟩
  all_goals try replace HHAS := Lib.hid (HHAS.out rfl)
  · -- far behind the start
    try have b1 : decide (0 ≤ start) = false := decide_eq_false (by omega)
    try have b2 : decide (start < 158310720) = false := decide_eq_false (by omega)
    try have b3 : decide (start + 3600000 < at_) = false := decide_eq_false (by omega)
    try have b4 : decide (at_ < -1099511627776) = false := decide_eq_false (by omega)
    try have b5 : decide (start ≤ at_) = false := decide_eq_false (by omega)
    try have b6 : decide (at_ < 158310720) = false := decide_eq_false (by omega)
    try have hwx : IntKind.i64.wrap (start + 3600000) = start + 3600000 := by rw [IntKind.wrap_i64]; omega
    go_enter Try.func3, Try.ntmps3
    go_upto_region 1 with fail
    rw [HW.out]
    go_wp2_with fail
    go_at_call 5
    refine HG.out.mono ?_
    rintro e w2 ⟨rfl, hb⟩
    clear k0 k1 k2 k3 k4 k5 k6 k7 k8
    go_wp2_with (go_at_call 6; (with_reducible refine (HFX.out _).mono ?_); rintro e w3 ⟨rfl, hb3⟩)
    go_ret
    exact ⟨rfl, BW.out.trans ((hb.trans (hb3.mono hb.size)).mono BW.out.size)⟩
  · -- far ahead of all
    try have b1 : decide (0 ≤ start) = false := decide_eq_false (by omega)
    try have b2 : decide (start < 158310720) = false := decide_eq_false (by omega)
    try have b3 : decide (start + 3600000 < at_) = false := decide_eq_false (by omega)
    try have b4 : decide (at_ < -1099511627776) = false := decide_eq_false (by omega)
    try have b5 : decide (start ≤ at_) = false := decide_eq_false (by omega)
    try have b6 : decide (at_ < 158310720) = false := decide_eq_false (by omega)
    try have hwx : IntKind.i64.wrap (start + 3600000) = start + 3600000 := by rw [IntKind.wrap_i64]; omega
    go_enter Try.func3, Try.ntmps3
    go_upto_region 1 with fail
    rw [HW.out]
    go_wp2_with fail
    go_at_call 5
    refine HG.out.mono ?_
    rintro e w2 ⟨rfl, hb⟩
    clear k0 k1 k2 k3 k4 k5 k6 k7 k8
    go_wp2_with (go_at_call 6; (with_reducible refine (HFX.out _).mono ?_); rintro e w3 ⟨rfl, hb3⟩)
    go_ret
    exact ⟨rfl, BW.out.trans ((hb.trans (hb3.mono hb.size)).mono BW.out.size)⟩
  · have HQ := n1 (.inl s0)
    have HH : Hid (∀ V : World, Below W.heap.size W V → _) := HHAS.out
    rw [HQ.out] at HH
    clear n1 n2 n3 HHAS HTM HQ
    try have b1 : decide (0 ≤ start) = false := decide_eq_false (by omega)
    try have b2 : decide (start < 158310720) = false := decide_eq_false (by omega)
    try have b3 : decide (start + 3600000 < at_) = false := decide_eq_false (by omega)
    try have b4 : decide (at_ < -1099511627776) = false := decide_eq_false (by omega)
    try have b5 : decide (start ≤ at_) = false := decide_eq_false (by omega)
    try have b6 : decide (at_ < 158310720) = false := decide_eq_false (by omega)
    try have hwx : IntKind.i64.wrap (start + 3600000) = start + 3600000 := by rw [IntKind.wrap_i64]; omega
    go_enter Try.func3, Try.ntmps3
    go_upto_region 1 with fail
    rw [HW.out]
    go_wp2_with fail
    go_at_call 5
    refine HG.out.mono ?_
    rintro e w2 ⟨rfl, hb⟩
    clear k0 k1 k2 k3 k4 k5 k6 k7 k8
    go_wp2_with fail
    go_at_call 6
    refine (HFX.out _).mono ?_
    rintro e w3 ⟨rfl, hb3⟩
    have hB3 : Below W.heap.size W w3 := hb.trans (hb3.mono hb.size)
    have k0 := blk_cell (HBK.out w3 hB3) (i := 0) rfl
    have k1 := blk_cell (HBK.out w3 hB3) (i := 1) rfl
    have k2 := blk_cell (HBK.out w3 hB3) (i := 2) rfl
    have k3 := blk_cell (HBK.out w3 hB3) (i := 3) rfl
    have k4 := blk_cell (HBK.out w3 hB3) (i := 4) rfl
    have k5 := blk_cell (HBK.out w3 hB3) (i := 5) rfl
    have k6 := blk_cell (HBK.out w3 hB3) (i := 6) rfl
    have k7 := blk_cell (HBK.out w3 hB3) (i := 7) rfl
    have k8 := blk_cell (HBK.out w3 hB3) (i := 8) rfl
    have HH3 := Lib.hid (HH.out w3 hB3)
    have HX3 := Lib.hid hB3
    clear hb hb3 hB3
    go_wp2_with fail
    go_at_call 8
    refine HH3.out.mono ?_
    rintro e w4 ⟨rfl, hb4⟩
    have HX4 := Lib.hid (BW.out.trans ((HX3.out.trans (hb4.mono HX3.out.size)).mono BW.out.size))
    clear hb4 k0 k1 k2 k3 k4 k5 k6 k7 k8
    go_wp2
    go_ret
    exact ⟨rfl, HX4.out⟩
  · have HQ := n1 (.inr s1)
    have HH : Hid (∀ V : World, Below W.heap.size W V → _) := HHAS.out
    rw [HQ.out] at HH
    clear n1 n2 n3 HHAS HTM HQ
    try have b1 : decide (0 ≤ start) = false := decide_eq_false (by omega)
    try have b2 : decide (start < 158310720) = false := decide_eq_false (by omega)
    try have b3 : decide (start + 3600000 < at_) = false := decide_eq_false (by omega)
    try have b4 : decide (at_ < -1099511627776) = false := decide_eq_false (by omega)
    try have b5 : decide (start ≤ at_) = false := decide_eq_false (by omega)
    try have b6 : decide (at_ < 158310720) = false := decide_eq_false (by omega)
    try have hwx : IntKind.i64.wrap (start + 3600000) = start + 3600000 := by rw [IntKind.wrap_i64]; omega
    go_enter Try.func3, Try.ntmps3
    go_upto_region 1 with fail
    rw [HW.out]
    go_wp2_with fail
    go_at_call 5
    refine HG.out.mono ?_
    rintro e w2 ⟨rfl, hb⟩
    clear k0 k1 k2 k3 k4 k5 k6 k7 k8
    go_wp2_with fail
    go_at_call 6
    refine (HFX.out _).mono ?_
    rintro e w3 ⟨rfl, hb3⟩
    have hB3 : Below W.heap.size W w3 := hb.trans (hb3.mono hb.size)
    have k0 := blk_cell (HBK.out w3 hB3) (i := 0) rfl
    have k1 := blk_cell (HBK.out w3 hB3) (i := 1) rfl
    have k2 := blk_cell (HBK.out w3 hB3) (i := 2) rfl
    have k3 := blk_cell (HBK.out w3 hB3) (i := 3) rfl
    have k4 := blk_cell (HBK.out w3 hB3) (i := 4) rfl
    have k5 := blk_cell (HBK.out w3 hB3) (i := 5) rfl
    have k6 := blk_cell (HBK.out w3 hB3) (i := 6) rfl
    have k7 := blk_cell (HBK.out w3 hB3) (i := 7) rfl
    have k8 := blk_cell (HBK.out w3 hB3) (i := 8) rfl
    have HH3 := Lib.hid (HH.out w3 hB3)
    have HX3 := Lib.hid hB3
    clear hb hb3 hB3
    go_wp2_with fail
    go_at_call 8
    refine HH3.out.mono ?_
    rintro e w4 ⟨rfl, hb4⟩
    have HX4 := Lib.hid (BW.out.trans ((HX3.out.trans (hb4.mono HX3.out.size)).mono BW.out.size))
    clear hb4 k0 k1 k2 k3 k4 k5 k6 k7 k8
    go_wp2
    go_ret
    exact ⟨rfl, HX4.out⟩
  · have HQ := n2 (.inl a3)
    have HH : Hid (∀ V : World, Below W.heap.size W V → _) := HHAS.out
    rw [HQ.out] at HH
    clear n1 n2 n3 HHAS HTM HQ
    try have b1 : decide (0 ≤ start) = false := decide_eq_false (by omega)
    try have b2 : decide (start < 158310720) = false := decide_eq_false (by omega)
    try have b3 : decide (start + 3600000 < at_) = false := decide_eq_false (by omega)
    try have b4 : decide (at_ < -1099511627776) = false := decide_eq_false (by omega)
    try have b5 : decide (start ≤ at_) = false := decide_eq_false (by omega)
    try have b6 : decide (at_ < 158310720) = false := decide_eq_false (by omega)
    try have hwx : IntKind.i64.wrap (start + 3600000) = start + 3600000 := by rw [IntKind.wrap_i64]; omega
    go_enter Try.func3, Try.ntmps3
    go_upto_region 1 with fail
    rw [HW.out]
    go_wp2_with fail
    go_at_call 5
    refine HG.out.mono ?_
    rintro e w2 ⟨rfl, hb⟩
    clear k0 k1 k2 k3 k4 k5 k6 k7 k8
    go_wp2_with fail
    go_at_call 6
    refine (HFX.out _).mono ?_
    rintro e w3 ⟨rfl, hb3⟩
    have hB3 : Below W.heap.size W w3 := hb.trans (hb3.mono hb.size)
    have k0 := blk_cell (HBK.out w3 hB3) (i := 0) rfl
    have k1 := blk_cell (HBK.out w3 hB3) (i := 1) rfl
    have k2 := blk_cell (HBK.out w3 hB3) (i := 2) rfl
    have k3 := blk_cell (HBK.out w3 hB3) (i := 3) rfl
    have k4 := blk_cell (HBK.out w3 hB3) (i := 4) rfl
    have k5 := blk_cell (HBK.out w3 hB3) (i := 5) rfl
    have k6 := blk_cell (HBK.out w3 hB3) (i := 6) rfl
    have k7 := blk_cell (HBK.out w3 hB3) (i := 7) rfl
    have k8 := blk_cell (HBK.out w3 hB3) (i := 8) rfl
    have HH3 := Lib.hid (HH.out w3 hB3)
    have HX3 := Lib.hid hB3
    clear hb hb3 hB3
    go_wp2_with fail
    go_at_call 8
    refine HH3.out.mono ?_
    rintro e w4 ⟨rfl, hb4⟩
    have HX4 := Lib.hid (BW.out.trans ((HX3.out.trans (hb4.mono HX3.out.size)).mono BW.out.size))
    clear hb4 k0 k1 k2 k3 k4 k5 k6 k7 k8
    go_wp2
    go_ret
    exact ⟨rfl, HX4.out⟩
  · have HQ := n2 (.inr a4)
    have HH : Hid (∀ V : World, Below W.heap.size W V → _) := HHAS.out
    rw [HQ.out] at HH
    clear n1 n2 n3 HHAS HTM HQ
    try have b1 : decide (0 ≤ start) = false := decide_eq_false (by omega)
    try have b2 : decide (start < 158310720) = false := decide_eq_false (by omega)
    try have b3 : decide (start + 3600000 < at_) = false := decide_eq_false (by omega)
    try have b4 : decide (at_ < -1099511627776) = false := decide_eq_false (by omega)
    try have b5 : decide (start ≤ at_) = false := decide_eq_false (by omega)
    try have b6 : decide (at_ < 158310720) = false := decide_eq_false (by omega)
    try have hwx : IntKind.i64.wrap (start + 3600000) = start + 3600000 := by rw [IntKind.wrap_i64]; omega
    go_enter Try.func3, Try.ntmps3
    go_upto_region 1 with fail
    rw [HW.out]
    go_wp2_with fail
    go_at_call 5
    refine HG.out.mono ?_
    rintro e w2 ⟨rfl, hb⟩
    clear k0 k1 k2 k3 k4 k5 k6 k7 k8
    go_wp2_with fail
    go_at_call 6
    refine (HFX.out _).mono ?_
    rintro e w3 ⟨rfl, hb3⟩
    have hB3 : Below W.heap.size W w3 := hb.trans (hb3.mono hb.size)
    have k0 := blk_cell (HBK.out w3 hB3) (i := 0) rfl
    have k1 := blk_cell (HBK.out w3 hB3) (i := 1) rfl
    have k2 := blk_cell (HBK.out w3 hB3) (i := 2) rfl
    have k3 := blk_cell (HBK.out w3 hB3) (i := 3) rfl
    have k4 := blk_cell (HBK.out w3 hB3) (i := 4) rfl
    have k5 := blk_cell (HBK.out w3 hB3) (i := 5) rfl
    have k6 := blk_cell (HBK.out w3 hB3) (i := 6) rfl
    have k7 := blk_cell (HBK.out w3 hB3) (i := 7) rfl
    have k8 := blk_cell (HBK.out w3 hB3) (i := 8) rfl
    have HH3 := Lib.hid (HH.out w3 hB3)
    have HX3 := Lib.hid hB3
    clear hb hb3 hB3
    go_wp2_with fail
    go_at_call 8
    refine HH3.out.mono ?_
    rintro e w4 ⟨rfl, hb4⟩
    have HX4 := Lib.hid (BW.out.trans ((HX3.out.trans (hb4.mono HX3.out.size)).mono BW.out.size))
    clear hb4 k0 k1 k2 k3 k4 k5 k6 k7 k8
    go_wp2
    go_ret
    exact ⟨rfl, HX4.out⟩
  · have HN := n3 s0 a3 a4
    have HH : Hid (∀ V : World, Below W.heap.size W V → _) := HHAS.out
    have w1 : at_.tdiv 1440 = at_ / 1440 := Int.tdiv_eq_ediv_of_nonneg (by omega)
    have w2 : IntKind.i64.wrap (at_ / 1440) = at_ / 1440 := by rw [IntKind.wrap_i64]; omega
    have w3 : IntKind.i64.wrap (at_ / 1440 + 1) = at_ / 1440 + 1 := by rw [IntKind.wrap_i64]; omega
    clear n1 n2 n3 HHAS
    try have b1 : decide (0 ≤ start) = false := decide_eq_false (by omega)
    try have b2 : decide (start < 158310720) = false := decide_eq_false (by omega)
    try have b3 : decide (start + 3600000 < at_) = false := decide_eq_false (by omega)
    try have b4 : decide (at_ < -1099511627776) = false := decide_eq_false (by omega)
    try have b5 : decide (start ≤ at_) = false := decide_eq_false (by omega)
    try have b6 : decide (at_ < 158310720) = false := decide_eq_false (by omega)
    try have hwx : IntKind.i64.wrap (start + 3600000) = start + 3600000 := by rw [IntKind.wrap_i64]; omega
    go_enter Try.func3, Try.ntmps3
    go_upto_region 1 with fail
    rw [HW.out]
    go_wp2_with fail
    go_at_call 5
    refine HG.out.mono ?_
    rintro e w2 ⟨rfl, hb⟩
    clear k0 k1 k2 k3 k4 k5 k6 k7 k8
    have HT2 := Lib.hid (HTM.out w2 hb)
    have k0 := blk_cell (HBK.out w2 hb) (i := 0) rfl
    have k1 := blk_cell (HBK.out w2 hb) (i := 1) rfl
    have k2 := blk_cell (HBK.out w2 hb) (i := 2) rfl
    have k3 := blk_cell (HBK.out w2 hb) (i := 3) rfl
    have k4 := blk_cell (HBK.out w2 hb) (i := 4) rfl
    have k5 := blk_cell (HBK.out w2 hb) (i := 5) rfl
    have k6 := blk_cell (HBK.out w2 hb) (i := 6) rfl
    have k7 := blk_cell (HBK.out w2 hb) (i := 7) rfl
    have k8 := blk_cell (HBK.out w2 hb) (i := 8) rfl
    go_wp2_with fail
    go_at_call 7
    refine HT2.out.mono ?_
    rintro e w5 ⟨A, c, rfl, hsl, hb5⟩
    have hB5 : Below W.heap.size W w5 := hb.trans (hb5.mono hb.size)
    have HX5 := Lib.hid hB5
    have HSL := Lib.hid hsl
    have hll : L.length ≤ 9223372036854775807 := Nat.le_trans hsl.le hsl.cap
    have HN0 : Hid ((false || memB (L.drop 0) at_) = q) := HN.out
    clear hsl hb hb5 hB5 k0 k1 k2 k3 k4 k5 k6 k7 k8 HN HT2 HTM
    go_wp2_with fail
    go_loop [7, 53] (fun s7 s53 => ∃ (j : Nat) (b : Bool), s7 = .bool b ∧ s53 = .int .i64 j ∧ j ≤ L.length ∧ Hid ((b || memB (L.drop j) at_) = q)) (fun _ s53 => L.length - (intOf s53).toNat)
    case atStart => exact ⟨0, false, rfl, rfl, Nat.zero_le _, HN0⟩
    case round =>
      obtain ⟨j, b, rfl, rfl, hj, HI⟩ := hrel
      by_cases hlt : j < L.length
      · have hiz : (j : Int) < L.length := by omega
        have hwj : IntKind.i64.wrap ((j : Int) + 1) = j + 1 := by rw [IntKind.wrap_i64]; omega
        obtain ⟨p, off, rfl, _, hc⟩ := HSL.out.intG (List.getElem?_eq_getElem hlt)
        have hc0 := hc ⟨w5, Below.refl _ _⟩
        simp only at hc0
        have HST : Hid ((b || (decide (L[j] = at_) || memB (L.drop (j + 1)) at_)) = q) := by
          show _ = _
          have h := HI.out
          rw [drop_step hlt, memB_cons] at h
          exact h
        clear hc HI
        generalize L[j] = x at *
        cases b with
        | true =>
          have E : Hid ((true || memB (L.drop (j + 1)) at_) = q) := by show _ = _; rw [← HST.out]; simp
          clear HST
          go_wp2_with fail
          go_round
          case rel => exact ⟨j + 1, true, rfl, by go_num, by omega, E⟩
          case measure => simp [intOf]; omega
        | false =>
          by_cases hx : x = at_
          · have hxb : (x == at_) = true := beq_iff_eq.2 hx
            have E : Hid ((true || memB (L.drop (j + 1)) at_) = q) := by show _ = _; rw [← HST.out]; simp [hx]
            clear HST hx
            go_wp2_with fail
            go_round
            case rel => exact ⟨j + 1, true, rfl, by go_num, by omega, E⟩
            case measure => simp [intOf]; omega
          · have hxb : (x == at_) = false := beq_false_of_ne hx
            have E : Hid ((false || memB (L.drop (j + 1)) at_) = q) := by show _ = _; rw [← HST.out]; simp [hx]
            clear HST hx
            go_wp2_with fail
            go_round
            case rel => exact ⟨j + 1, false, rfl, by go_num, by omega, E⟩
            case measure => simp [intOf]; omega
      · have hiz : ¬ (j : Int) < L.length := by omega
        have E : Hid (b = q) := by show _ = _; rw [← HI.out, List.drop_of_length_le (by omega)]; simp [memB_nil]
        have E2 := E.out
        subst E2
        go_wp2_with fail
        go_at_call 6
        refine (HFX.out _).mono ?_
        rintro e w6 ⟨rfl, hb6⟩
        have hB6 : Below W.heap.size W w6 := HX5.out.trans (hb6.mono HX5.out.size)
        have k0 := blk_cell (HBK.out w6 hB6) (i := 0) rfl
        have k1 := blk_cell (HBK.out w6 hB6) (i := 1) rfl
        have k2 := blk_cell (HBK.out w6 hB6) (i := 2) rfl
        have k3 := blk_cell (HBK.out w6 hB6) (i := 3) rfl
        have k4 := blk_cell (HBK.out w6 hB6) (i := 4) rfl
        have k5 := blk_cell (HBK.out w6 hB6) (i := 5) rfl
        have k6 := blk_cell (HBK.out w6 hB6) (i := 6) rfl
        have k7 := blk_cell (HBK.out w6 hB6) (i := 7) rfl
        have k8 := blk_cell (HBK.out w6 hB6) (i := 8) rfl
        have HH3 := Lib.hid (HH.out w6 hB6)
        have HX3 := Lib.hid hB6
        clear hb6 hB6
        go_wp2_with fail
        go_at_call 8
        refine HH3.out.mono ?_
        rintro e w7 ⟨rfl, hb4⟩
        have HX4 := Lib.hid (BW.out.trans ((HX3.out.trans (hb4.mono HX3.out.size)).mono BW.out.size))
        clear hb4 k0 k1 k2 k3 k4 k5 k6 k7 k8
        cases b
        · go_wp2
          go_ret
          exact ⟨rfl, HX4.out⟩
        · go_wp2
          go_ret
          exact ⟨rfl, HX4.out⟩
end
end Go.Proofs.Ytnccgfdaddbndaa
end
