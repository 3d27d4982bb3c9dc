import Derived.Test.YtfjmofefciopmaaGreatZTW8
/- Contract of the document's times: whatever rule and start. -/
section
namespace Go.Proofs.YtfjmofefciopmaaGreat
open Go.ChangeShapes Go.WideShapes Go.ChangeAt Go.RowKit Go.Joins Qr Tm Cal
set_option maxRecDepth 100000 in
set_option maxHeartbeats 4000000 in
theorem rtimes_no (r : R) (A1 A2 A3 A4 : Option Addr) (c1 c2 c3 c4 : Nat) (start below : Int) (hno : ¬ (Qr.mayP r ∧ 0 ≤ start ∧ start < 158310720)) (w : World) (hr : RAt w r A1 A2 A3 A4 c1 c2 c3 c4) :
    Calls Tryz.prog 43 #[.agg (rcells r A1 A2 A3 A4 c1 c2 c3 c4), .int .i64 start, .int .i64 below] w (RetIO [] w) := by
  have HM : Hid (∀ w', Below w.heap.size w w' → Calls Tryz.prog 33 #[.agg (rcells r A1 A2 A3 A4 c1 c2 c3 c4)] w' fun e w2 => e = .returned (.bool (Qr.mayB r)) ∧ Below w'.heap.size w' w2) := fun w' hb => rmay9_any r A1 A2 A3 A4 c1 c2 c3 c4 w' (hr.below hb (Nat.le_refl _))
  obtain ⟨W2, hW2⟩ : ∃ W2, (w.alloc (.cells (rcells r A1 A2 A3 A4 c1 c2 c3 c4) 28)).alloc (.cells #[] 2) = W2 := ⟨_, rfl⟩
  have E2 := Lib.hid hW2
  have hL2 : Below w.heap.size w W2 := by rw [← hW2]; exact ((Below.refl _ w).alloc (Nat.le_refl _) _).alloc (by simp) _
  have hB2 : W2.heap[w.heap.size]? = some (.cells (rcells r A1 A2 A3 A4 c1 c2 c3 c4) 28 (0, 0)) := by rw [← hW2, heap_alloc_old _ _ (by simp), heap_alloc_new]
  have HL2 := Lib.hid hL2
  have HB2 : Hid (∀ w3, Below W2.heap.size W2 w3 → w3.heap[w.heap.size + 1]? = some (.cells #[] 2 (0, 0))) := fun w3 h => by
    rw [h.block _ (show w.heap.size + 1 < W2.heap.size by rw [← hW2]; simp), ← hW2]
    exact (congrArg (fun k => ((w.alloc (.cells (rcells r A1 A2 A3 A4 c1 c2 c3 c4) 28)).alloc (.cells #[] 2)).heap[k]?) (by simp)).trans (heap_alloc_new _ _)
  have R0 := blk_cell hB2 (i := 0) (v := .int .i64 r.freq) rfl
  have R1 := blk_cell hB2 (i := 1) (v := .int .i64 r.iv) rfl
  have R2 := blk_cell hB2 (i := 2) (v := .int .i64 r.count) rfl
  have R3 := blk_cell hB2 (i := 3) (v := .int .i64 r.until_) rfl
  have R4 := blk_cell hB2 (i := 4) (v := .slice A1 r.bm.length c1) rfl
  have R5 := blk_cell hB2 (i := 5) (v := .slice A2 r.bd.length c2) rfl
  have R6 := blk_cell hB2 (i := 6) (v := .slice A3 r.bw.length c3) rfl
  have R7 := blk_cell hB2 (i := 7) (v := .slice A4 r.bs.length c4) rfl
  have R8 := blk_cell hB2 (i := 8) (v := .int .i64 r.start) rfl
  have hz : Qr.mayB r = false ∨ Qr.mayB r = true ∧ decide (start < 0) = true ∨ Qr.mayB r = true ∧ decide (start < 0) = false ∧ decide (158310720 ≤ start) = true := by
    cases hm : Qr.mayB r with
    | false => exact .inl rfl
    | true =>
      have : Qr.mayP r := of_decide_eq_true hm
      by_cases h0 : start < 0
      · exact .inr (.inl ⟨rfl, decide_eq_true h0⟩)
      · exact .inr (.inr ⟨rfl, decide_eq_false h0, decide_eq_true (by
          by_cases h : 158310720 ≤ start
          · exact h
          · exact absurd ⟨this, by omega, by omega⟩ hno)⟩)
  clear hW2 hL2 hB2 hr hno
  generalize Qr.mayB r = mb at *
  unfold rcells at E2 HM
  unfold rcells
  rcases hz with rfl | ⟨rfl, hz⟩ | ⟨rfl, hz, hz2⟩
  all_goals
    go_enter Tryz.func43, Tryz.ntmps43
    go_upto_region 2 with fail
    rw [E2.out]
    go_wp2_with fail
    go_at_call 33
    refine (HM.out W2 HL2.out).mono ?_
    rintro e w3 ⟨rfl, hb3⟩
    have HB3 := Lib.hid hb3
    clear hb3
    go_wp2_with fail
    go_ret
    exact ⟨w.heap.size + 1, 0, rfl, own_mk (cur := #[]) (by simp [iv]) (Nat.le_succ _) (HB2.out w3 HB3.out) (Nat.le_refl _) (Nat.zero_le _) rfl rfl, HL2.out.trans (HB3.out.mono HL2.out.size)⟩
theorem rtimes_own (r : R) (A1 A2 A3 A4 : Option Addr) (c1 c2 c3 c4 : Nat) (start below : Int) (hstart : -9223372036854775808 ≤ start ∧ start ≤ 9223372036854775807) (w : World) (hr : RAt w r A1 A2 A3 A4 c1 c2 c3 c4) :
    Calls Tryz.prog 43 #[.agg (rcells r A1 A2 A3 A4 c1 c2 c3 c4), .int .i64 start, .int .i64 below] w (RetIO (timesL r start below) w) := by
  by_cases h : Qr.mayP r ∧ 0 ≤ start ∧ start < 158310720
  · exact rtimes_any r A1 A2 A3 A4 c1 c2 c3 c4 start below hstart w hr h.1 h.2.1 h.2.2
  · rw [show timesL r start below = [] by unfold timesL; rw [if_neg h]]
    exact rtimes_no r A1 A2 A3 A4 c1 c2 c3 c4 start below h w hr
theorem rtimes_all (r : R) (A1 A2 A3 A4 : Option Addr) (c1 c2 c3 c4 : Nat) (start below : Int) (hstart : -9223372036854775808 ≤ start ∧ start ≤ 9223372036854775807) (w : World) (hr : RAt w r A1 A2 A3 A4 c1 c2 c3 c4) :
    Calls Tryz.prog 43 #[.agg (rcells r A1 A2 A3 A4 c1 c2 c3 c4), .int .i64 start, .int .i64 below] w (RetI (timesL r start below) w) :=
  (rtimes_own r A1 A2 A3 A4 c1 c2 c3 c4 start below hstart w hr).mono fun _ _ h => h.ret
end Go.Proofs.YtfjmofefciopmaaGreat
end
