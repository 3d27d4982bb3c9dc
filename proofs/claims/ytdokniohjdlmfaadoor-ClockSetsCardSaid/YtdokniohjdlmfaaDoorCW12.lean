/- Contract of the program's reading of weekdays. -/
import Derived.Test.YtdokniohjdlmfaaDoorCMath10
namespace Go.Proofs.YtdokniohjdlmfaaDoor
open Go.RowKit Go.Shelf Ck

attribute [local go_sem] Oper.semAt_some

set_option maxRecDepth 100000 in
set_option maxHeartbeats 4000000 in
theorem readwd_in (s : ByteArray) (hsz : s.size ≤ 1000000) (w : World) (hN : Names w) (hE : Env w) :
    CallsIn Fence.wide 9 Tryd.prog 21 #[.string s] w fun e W' => e = .returned (.tuple #[.int .i64 (if wdT (readW s.data.toList : Int) = s.data.toList then (readW s.data.toList : Int) else 0), .bool (decide (wdT (readW s.data.toList : Int) = s.data.toList))]) ∧ Below w.heap.size w W' := by
  obtain ⟨r1, hr1⟩ : ∃ r, (if wdT (readW s.data.toList : Int) = s.data.toList then (readW s.data.toList : Int) else 0) = r := ⟨_, rfl⟩
  obtain ⟨r2, hr2⟩ : ∃ r, decide (wdT (readW s.data.toList : Int) = s.data.toList) = r := ⟨_, rfl⟩
  rw [hr1, hr2]
  have HR1 : Hid ((if wdT (rsN s.data.toList (dl 127 7) : Int) = s.data.toList then (rsN s.data.toList (dl 127 7) : Int) else 0) = r1) := hr1
  have HR2 : Hid (decide (wdT (rsN s.data.toList (dl 127 7) : Int) = s.data.toList) = r2) := hr2
  clear hr1 hr2
  have hsz' : s.size < 4294967281 := by omega
  refine callsIn_of_wp_marks Tryd.func21 rfl trivial ?_ rfl
  simp only [Tryd.ntmps21, List.size_toArray, List.length_cons, List.length_nil, Nat.reduceAdd, Nat.reduceSub, Array.replicate_succ, Array.replicate_zero, List.push_toArray, List.append_toArray, List.nil_append, List.cons_append]
  gi_wp2_with (refine ⟨trivial, ?_⟩; gi_at_call 35; refine (days_in Fence.wide (9 - 1) trivial rfl 127 _).mono ?_; rintro e w' ⟨rfl, rfl⟩)
  have hs0 := cell_new_l w (.string s) 9
  have hs1 := cell_new_l (w.alloc (.cells #[.string s] 9)) (.int .i64 0) 3
  have hb1 := cell_new_l ((w.alloc (.cells #[.string s] 9)).alloc (.cells #[.int .i64 0] 3)) (.int .i64 127) 3
  simp only [World.size_alloc] at hs1 hb1
  have hB0 : Below w.heap.size w (((w.alloc (.cells #[.string s] 9)).alloc (.cells #[.int .i64 0] 3)).alloc (.cells #[.int .i64 127] 3)) := (((Below.refl _ w).alloc (Nat.le_refl _) _).alloc (by simp) _).alloc (by simp; omega) _
  refine wpIn_rangeFunc_ownF rfl (by omega) (gf := 50) (lb := #[.pointer (some ⟨w.heap.size + 1 + 1, 0, none⟩)]) rfl trivial (enters_of Tryd.func50 (by kernel_rfl) rfl)
    (days_stops Fence.wide (9 - 1) trivial rfl (by omega) (w.heap.size + 1 + 1) 127 (by omega) (by omega) _ (by simp) hb1.1) kpC_t (kpC_b (by simp)) (Below.refl _ _) (fun _ => rfl)
    (fun pre W => (W.cell? ⟨w.heap.size, 0, none⟩ = some (.string s) ∧ W.cell? ⟨w.heap.size + 1, 0, none⟩ = some (.int .i64 (rsN s.data.toList pre : Nat)) ∧ W.frozen? ⟨w.heap.size + 1, 0, none⟩ = false) ∧ Below w.heap.size w W)
    (fun _ _ _ => False)
    (OwnFrom.and (Own.from (fun s A B row hs hg hr => ⟨cell_kept hs.1 hg hr, cell_kept hs.2.1 hg hr, (frozen_kept hs.2.1 hg hr).trans hs.2.2⟩) _) (ownFrom_below (Nat.le_refl _) (by simp; omega)))
    (fun _ _ _ _ _ hs _ _ => hs)
    ⟨⟨cell_alloc_l _ (cell_alloc_l _ hs0.1), cell_alloc_l _ hs1.1, frozen_alloc_l _ hs1.1 hs1.2⟩, hB0⟩
    (fun x => { tmps := #[Value.string s, Value.pointer (some { block := w.heap.size, off := 0 }), Value.int IntKind.i64 0, Value.bool false, Value.pointer (some { block := w.heap.size + 1, off := 0 }), .int .i64 (x.val : Int), undef, undef,
      Value.func (Fn.func 50) #[] #[Value.pointer (some { block := w.heap.size + 1 + 1, off := 0 })], .int .i64 (x.val : Int), undef, undef, undef, undef, undef, undef, undef, undef, undef, undef, undef, undef, undef, undef, undef, undef, undef, undef], defers := [] }) ?assign ?body ?done ?stop
  case assign =>
    intro l x W K hK
    gi_wp2
    exact hK
  case body =>
    rintro l pre x W ⟨⟨hc0, hc, hf⟩, hB⟩ hlen
    have hmx : Tryd.prog.follows .mixedOrders = true := by kernel_rfl
    have hRB := rsN_bd s.data.toList pre
    have HR : Hid (rsN s.data.toList (pre ++ [x]) = rsS s.data.toList (rsN s.data.toList pre) x) := rs_snoc _ _ _
    have hbit := or_bit ⟨rsN s.data.toList pre, hRB⟩ x
    obtain ⟨m, hm0⟩ := hE.ml
    have hm : W.cell? ⟨1, 0, none⟩ = some (.int .i64 m) := cell_old hm0 hB
    obtain ⟨x, hx⟩ := x
    simp only at hbit
    have hxz : (x : Int) < 7 := by omega
    have hx0 : (0 : Int) ≤ (x : Int) := by omega
    have hname := hN.below hB x hx
    have hor : bits .or .i64 ((rsN s.data.toList pre : Nat) : Int) (wrap64 (2 ^ x)) = ((rsN s.data.toList pre ||| 2 ^ x : Nat) : Int) := by
      rw [← hbit]; congr 1
      have : x = 0 ∨ x = 1 ∨ x = 2 ∨ x = 3 ∨ x = 4 ∨ x = 5 ∨ x = 6 := by omega
      rcases this with rfl | rfl | rfl | rfl | rfl | rfl | rfl <;> simp [wrap64]
    have hoth : ∀ (v : Value), (W.setCell ⟨w.heap.size + 1, 0, none⟩ v).cell? ⟨w.heap.size + 1 + 1, 0, none⟩ = W.cell? ⟨w.heap.size + 1 + 1, 0, none⟩ := fun v => World.cell?_setCell_other _ _ _ _ (by intro e; have := congrArg Addr.block e; simp at this)
    have hoth0 : ∀ (v : Value), (W.setCell ⟨w.heap.size + 1, 0, none⟩ v).cell? ⟨w.heap.size, 0, none⟩ = W.cell? ⟨w.heap.size, 0, none⟩ := fun v => World.cell?_setCell_other _ _ _ _ (by intro e; have := congrArg Addr.block e; simp at this)
    have hlw : w.heap.size < W.heap.size := World.block_lt_of_cell? _ _ hc0
    have HC := Tryd.strings_Contains s ⟨(nm x).toArray⟩ m W.drew hsz' hm
    rw [show (⟨(nm x).toArray⟩ : ByteArray).data.toList = nm x by simp] at HC
    cases hcon : Lib.contains s.data.toList (nm x) with
    | true =>
      have HE1 : Hid (rsN s.data.toList (pre ++ [⟨x, hx⟩]) = (rsN s.data.toList pre ||| 2 ^ x)) := by show _ = _; rw [HR.out]; unfold rsS; rw [if_pos hcon]
      rw [hcon] at HC
      have HC := Lib.hid HC
      clear HR hcon
      generalize rsN s.data.toList pre = a at *
      gi_wp2
      gi_region_with_o (refine ⟨trivial, ?_⟩; gi_at_call 36; refine (CallsIn.inRound l (callsIn_wide.2 HC.out)).mono ?_; rintro e w' ⟨rfl, rfl⟩)
      all_goals gi_wp2
      all_goals gi_region_o
      all_goals gi_wp2
      all_goals (try go_bits)
      all_goals exact ⟨((KeepsOthers.setCell _ _ _).trans (KeepsOthers.drew _)).trans (KeepsOthers.drew _), hoth _, ⟨(hoth0 _).trans hc0, by rw [HE1.out]; exact (World.cell?_setCell_same' _ _ _ (by rw [hc]; rfl)).trans (congrArg (fun z => some (Value.int .i64 z)) hor), by rw [frozen_drew_own, frozen_drew_own, World.frozen?_setCell]; exact hf⟩, ((hB.setCell (p := ⟨w.heap.size + 1, 0, none⟩) (by simp) _).drew).drew⟩
    | false =>
      have HE1 : Hid (rsN s.data.toList (pre ++ [⟨x, hx⟩]) = rsN s.data.toList pre) := by show _ = _; rw [HR.out]; unfold rsS; rw [if_neg (by rw [hcon]; simp)]
      rw [hcon] at HC
      have HC := Lib.hid HC
      clear HR hcon hbit
      generalize rsN s.data.toList pre = a at *
      gi_wp2
      gi_region_with_o (refine ⟨trivial, ?_⟩; gi_at_call 36; refine (CallsIn.inRound l (callsIn_wide.2 HC.out)).mono ?_; rintro e w' ⟨rfl, rfl⟩)
      all_goals gi_wp2
      all_goals exact ⟨KeepsOthers.drew _, rfl, ⟨hc0, by rw [HE1.out]; exact hc, hf⟩, hB.drew⟩
  case done =>
    rintro D ys W hD rfl ⟨⟨hc0, hc, hf⟩, hB⟩ hK
    have hRB := rsN_bd s.data.toList (dl 127 7)
    have HN2 : Hid (Names W) := hN.below hB
    have HWD := Lib.hid (fun W hN => weekdays_yes ((rsN s.data.toList (dl 127 7) : Nat) : Int) (by omega) (by omega) W hN)
    have hwl : (wdT ((rsN s.data.toList (dl 127 7) : Nat) : Int)).length ≤ 30 := by
      have := wd_len ((rsN s.data.toList (dl 127 7) : Nat) : Int) 7
      unfold wdT; split
      · simp
      · omega
    generalize rsN s.data.toList (dl 127 7) = a at *
    have hDl : D < W.heap.size := (Array.getElem?_eq_some_iff.1 hK).1
    by_cases heq : wdT (a : Int) = s.data.toList
    · have E : Hid (r1 = a ∧ r2 = true) := ⟨by rw [← HR1.out, if_pos heq], by rw [← HR2.out, decide_eq_true heq]⟩
      have hsb : (wdT (a : Int) == s.toList) = true := by rw [ByteArray.toList_eq]; simpa using heq
      clear heq HR1 HR2
      generalize wdT (a : Int) = tx at *
      gi_wp2_with (refine ⟨trivial, ?_⟩; gi_at_call 19; refine (callsIn_wide.2 (HWD.out _ HN2.out)).mono ?_; rintro e w' ⟨rfl, hb⟩; obtain ⟨g, rfl⟩ := Gr.of hb; clear hb; have hk0 := cell_old hc0 g.ok; have hk1 := cell_old hc g.ok; have hKg := (g.ok.block D hDl).trans hK; have hBg := hB.trans (g.ok.mono hB.size))
      refine ⟨by simp, .inl ⟨_, _, rfl, run_takeDeferred hKg, ?_⟩⟩
      exact ⟨_, results_tmp2 rfl _ _ _, by rw [E.out.1, E.out.2]; rfl, hBg.trans (belowK_b (w := w) (Nat.le_refl _) _ D _ _ (by simp at hD; omega) hKg rfl rfl)⟩
    · have E : Hid (r1 = 0 ∧ r2 = false) := ⟨by rw [← HR1.out, if_neg heq], by rw [← HR2.out, decide_eq_false heq]⟩
      have hsb : (wdT (a : Int) == s.toList) = false := by rw [ByteArray.toList_eq]; simpa using heq
      clear heq HR1 HR2
      generalize wdT (a : Int) = tx at *
      gi_wp2_with (refine ⟨trivial, ?_⟩; gi_at_call 19; refine (callsIn_wide.2 (HWD.out _ HN2.out)).mono ?_; rintro e w' ⟨rfl, hb⟩; obtain ⟨g, rfl⟩ := Gr.of hb; clear hb; have hk0 := cell_old hc0 g.ok; have hk1 := cell_old hc g.ok; have hKg := (g.ok.block D hDl).trans hK; have hBg := hB.trans (g.ok.mono hB.size))
      refine ⟨by simp, .inl ⟨_, _, rfl, run_takeDeferred hKg, ?_⟩⟩
      exact ⟨_, results_tmp2 rfl _ _ _, by rw [E.out.1, E.out.2]; rfl, hBg.trans (belowK_b (w := w) (Nat.le_refl _) _ D _ _ (by simp at hD; omega) hKg rfl rfl)⟩
  case stop =>
    rintro D c pre W _ _ h _
    exact h.elim
end Go.Proofs.YtdokniohjdlmfaaDoor
