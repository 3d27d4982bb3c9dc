import Derived.Test.YtdhinjbkfffpeaaGreatZRL16
import Derived.Test.YtdhinjbkfffpeaaGreatZJS3
import Derived.Test.YtdhinjbkfffpeaaGreatZRL16R
/- RecordSame, walked. -/
section
namespace Go.Proofs.YtdhinjbkfffpeaaGreat
open Go.ChangeShapes Go.WideShapes Go.ChangeAt Go.RowKit Go.Joins Sp Fr Pk
theorem ak_info2 (r : Ak) (p : AkP) : (Tryz.prog.info? 65).map (·.size) = some (aCells r p).length := by kernel_rfl
theorem ak_row : (Tryz.prog.underlying 65).map (·.isRow) = some true := by kernel_rfl
theorem load_ak {W V : World} {b : Nat} {r : Ak} {p : AkP} (h : W.heap[b]? = some (.cells (aCells r p).toArray 65 (0, 0))) (hb : Below W.heap.size W V) :
    (Instr.loadAt 65 (.pointer (some ⟨b, 0, none⟩))).run Tryz.prog V = .ok (.agg (aCells r p).toArray) V :=
  load_blk (blk_below h hb) (fun j v hv => by rw [Nat.zero_add, List.getElem?_toArray]; exact hv) ak_row (ak_info2 r p)
theorem same_calls {α : Type} {f : FuncId} {args : Array Value} {w : World} {x y : α} {t : Bool} (ht : t = true ↔ x = y) (h : Calls Tryz.prog f args w fun e w' => ∃ b, e = .returned (.bool b) ∧ (b = true ↔ x = y) ∧ Below w.heap.size w w') :
    Calls Tryz.prog f args w fun e w' => e = .returned (.bool t) ∧ Below w.heap.size w w' :=
  h.mono fun e w' ⟨b, he, hb, hw⟩ => by
    have : b = t := by
      cases b <;> cases t
      · rfl
      · exact absurd (hb.2 (ht.1 rfl)) (by simp)
      · exact absurd (ht.2 (hb.1 rfl)) (by simp)
      · rfl
    exact ⟨by rw [← this]; exact he, hw⟩
set_option maxRecDepth 100000 in
set_option maxHeartbeats 8000000 in
theorem recordSame_any (KP : RecP) (KA : RecAS) (KR : RecRS) (a b : Ak) (pa pb : AkP) (r s : Rp) (pr ps : RpP) (fa : a.Fit0) (fb : b.Fit0) (fr : r.Fit0) (fs : s.Fit0) (w : World) (ha : AkAt w a pa) (hb : AkAt w b pb) (hr : RpAt w r pr) (hs : RpAt w s ps) :
    Calls Tryz.prog 4 #[.agg (aCells a pa).toArray, .agg (aCells b pb).toArray, .agg (rCells r pr).toArray, .agg (rCells s ps).toArray] w fun e w' => e = .returned (.bool true) ∧ Below w.heap.size w w' := by
  have HFX := Lib.hid (fun V : World => fixed16_any KP V)
  obtain ⟨W1, hW1⟩ : ∃ W, w.alloc (.cells (aCells a pa).toArray 65) = W := ⟨_, rfl⟩
  obtain ⟨W2, hW2⟩ : ∃ W, W1.alloc (.cells (aCells b pb).toArray 65) = W := ⟨_, rfl⟩
  obtain ⟨W3, hW3⟩ : ∃ W, W2.alloc (.cells (rCells r pr).toArray 39) = W := ⟨_, rfl⟩
  obtain ⟨W, hW⟩ : ∃ W, W3.alloc (.cells (rCells s ps).toArray 39) = W := ⟨_, rfl⟩
  have b1 : Below w.heap.size w W1 := by rw [← hW1]; exact (Below.refl _ _).alloc (Nat.le_refl _) _
  have b2 : Below W1.heap.size W1 W2 := by rw [← hW2]; exact (Below.refl _ _).alloc (Nat.le_refl _) _
  have b3 : Below W2.heap.size W2 W3 := by rw [← hW3]; exact (Below.refl _ _).alloc (Nat.le_refl _) _
  have b4 : Below W3.heap.size W3 W := by rw [← hW]; exact (Below.refl _ _).alloc (Nat.le_refl _) _
  have k1 : W1.heap[w.heap.size]? = some (.cells (aCells a pa).toArray 65 (0, 0)) := by rw [← hW1]; exact heap_alloc_new _ _
  have k2 : W2.heap[W1.heap.size]? = some (.cells (aCells b pb).toArray 65 (0, 0)) := by rw [← hW2]; exact heap_alloc_new _ _
  have k3 : W3.heap[W2.heap.size]? = some (.cells (rCells r pr).toArray 39 (0, 0)) := by rw [← hW3]; exact heap_alloc_new _ _
  have k4 : W.heap[W3.heap.size]? = some (.cells (rCells s ps).toArray 39 (0, 0)) := by rw [← hW]; exact heap_alloc_new _ _
  have z1 : W1.heap.size = w.heap.size + 1 := by rw [← hW1]; simp
  have z2 : W2.heap.size = w.heap.size + 2 := by rw [← hW2]; simp [z1]
  have z3 : W3.heap.size = w.heap.size + 3 := by rw [← hW3]; simp [z2]
  rw [z1] at k2
  rw [z2] at k3
  rw [z3] at k4
  have hBW : Below w.heap.size w W := bel16 (bel16 (bel16 b1 b2) b3) b4
  have HBW := Lib.hid hBW
  have HLA : Hid (∀ V, Below W.heap.size W V → (Instr.loadAt 65 (.pointer (some ⟨w.heap.size, 0, none⟩))).run Tryz.prog V = .ok (.agg (aCells a pa).toArray) V) := fun V h => load_ak (blk_below (blk_below (blk_below k1 b2) b3) b4) h
  have HLB : Hid (∀ V, Below W.heap.size W V → (Instr.loadAt 65 (.pointer (some ⟨w.heap.size + 1, 0, none⟩))).run Tryz.prog V = .ok (.agg (aCells b pb).toArray) V) := fun V h => load_ak (blk_below (blk_below k2 b3) b4) h
  have HLR : Hid (∀ V, Below W.heap.size W V → (Instr.loadAt 39 (.pointer (some ⟨w.heap.size + 2, 0, none⟩))).run Tryz.prog V = .ok (.agg (rCells r pr).toArray) V) := fun V h => load_rp (blk_below k3 b4) h
  have HLS : Hid (∀ V, Below W.heap.size W V → (Instr.loadAt 39 (.pointer (some ⟨w.heap.size + 3, 0, none⟩))).run Tryz.prog V = .ok (.agg (rCells s ps).toArray) V) := fun V h => load_rp k4 h
  have E1 : Hid ((((w.alloc (.cells (aCells a pa).toArray 65)).alloc (.cells (aCells b pb).toArray 65)).alloc (.cells (rCells r pr).toArray 39)).alloc (.cells (rCells s ps).toArray 39) = W) := by show _ = _; rw [hW1, hW2, hW3, hW]
  have HTA : Hid (∀ V, Below w.heap.size w V → AkAt V a pa) := fun V h => ha.below h
  have HTB : Hid (∀ V, Below w.heap.size w V → AkAt V b pb) := fun V h => hb.below h
  have HTR : Hid (∀ V, Below w.heap.size w V → RpAt V r pr) := fun V h => hr.below h
  have HTS : Hid (∀ V, Below w.heap.size w V → RpAt V s ps) := fun V h => hs.below h
  have HGA := Lib.hid (fun (V : World) (h : Below w.heap.size w V) => rGreatAsk_any a pa (by have := fa.cursor; unfold maxLen at this; omega) V (ha.below h))
  have HGB := Lib.hid (fun (V : World) (h : Below w.heap.size w V) => rGreatAsk_any b pb (by have := fb.cursor; unfold maxLen at this; omega) V (hb.below h))
  have HGR := Lib.hid (fun (V : World) (h : Below w.heap.size w V) => rGreatReply_any r pr (by have := fr.cursor; unfold maxLen at this; omega) V (hr.below h))
  have HGS := Lib.hid (fun (V : World) (h : Below w.heap.size w V) => rGreatReply_any s ps (by have := fs.cursor; unfold maxLen at this; omega) V (hs.below h))
  have FA := Lib.hid fa
  have FB := Lib.hid fb
  have FR := Lib.hid fr
  have FS := Lib.hid fs
  clear hW1 hW2 hW3 hW b1 b2 b3 b4 k1 k2 k3 k4 z1 z2 z3 hBW ha hb hr hs fa fb fr fs
  go_enter Tryz.func4, Tryz.ntmps4
  go_upto_region 1 with fail
  rw [E1.out]
  go_wp2_with (refine wpList_load (t := 65) (v := .agg (aCells a pa).toArray) rfl rfl (HLA.out _ (Below.refl _ _)) ?_; simp only [Act.put, List.setIfInBounds_toArray, List.set_cons_zero, List.set_cons_succ])
  go_at_call 12
  with_reducible refine (HGA.out W HBW.out).mono ?_
  rintro e w1 ⟨g, rfl, hg, hb1⟩
  have HB1 : Hid (Below W.heap.size W w1) := hb1
  have HG := Lib.hid hg
  clear hg hb1
  cases g with
  | true =>
    go_wp2_with fail
    go_at_call 7
    refine (HFX.out _).mono ?_
    rintro e w8 ⟨rfl, hb8⟩
    have HB8 : Hid (Below w.heap.size w w8) := bel16 HBW.out (bel16 HB1.out hb8)
    clear hb8
    go_wp2_with fail
    go_ret
    exact ⟨rfl, HB8.out⟩
  | false =>
    have hng : ¬ greatA16 a := fun k => by have := HG.out.2 k; cases this
    have HNa := Lib.hid hng
    have HFa := Lib.hid (FA.out.fits hng)
    clear hng HG
    go_wp2_with (refine wpList_load (t := 65) (v := .agg (aCells b pb).toArray) rfl rfl (HLB.out _ HB1.out) ?_; simp only [Act.put, List.setIfInBounds_toArray, List.set_cons_zero, List.set_cons_succ])
    go_at_call 12
    with_reducible refine (HGB.out w1 (bel16 HBW.out HB1.out)).mono ?_
    rintro e w2 ⟨g, rfl, hg, hb2⟩
    have HB2 : Hid (Below W.heap.size W w2) := bel16 HB1.out hb2
    have HG := Lib.hid hg
    clear hg hb2
    cases g with
    | true =>
      go_wp2_with fail
      go_at_call 7
      refine (HFX.out _).mono ?_
      rintro e w8 ⟨rfl, hb8⟩
      have HB8 : Hid (Below w.heap.size w w8) := bel16 HBW.out (bel16 HB2.out hb8)
      clear hb8
      go_wp2_with fail
      go_ret
      exact ⟨rfl, HB8.out⟩
    | false =>
      have hng : ¬ greatA16 b := fun k => by have := HG.out.2 k; cases this
      have HNb := Lib.hid hng
      have HFb := Lib.hid (FB.out.fits hng)
      clear hng HG
      go_wp2_with (refine wpList_load (t := 39) (v := .agg (rCells r pr).toArray) rfl rfl (HLR.out _ HB2.out) ?_; simp only [Act.put, List.setIfInBounds_toArray, List.set_cons_zero, List.set_cons_succ])
      go_at_call 6
      with_reducible refine (HGR.out w2 (bel16 HBW.out HB2.out)).mono ?_
      rintro e w3 ⟨g, rfl, hg, hb3⟩
      have HB3 : Hid (Below W.heap.size W w3) := bel16 HB2.out hb3
      have HG := Lib.hid hg
      clear hg hb3
      cases g with
      | true =>
        go_wp2_with fail
        go_at_call 7
        refine (HFX.out _).mono ?_
        rintro e w8 ⟨rfl, hb8⟩
        have HB8 : Hid (Below w.heap.size w w8) := bel16 HBW.out (bel16 HB3.out hb8)
        clear hb8
        go_wp2_with fail
        go_ret
        exact ⟨rfl, HB8.out⟩
      | false =>
        have hng : ¬ greatR16 r := fun k => by have := HG.out.2 k; cases this
        have HNr := Lib.hid hng
        have HFr := Lib.hid (FR.out.fits hng)
        clear hng HG
        go_wp2_with (refine wpList_load (t := 39) (v := .agg (rCells s ps).toArray) rfl rfl (HLS.out _ HB3.out) ?_; simp only [Act.put, List.setIfInBounds_toArray, List.set_cons_zero, List.set_cons_succ])
        go_at_call 6
        with_reducible refine (HGS.out w3 (bel16 HBW.out HB3.out)).mono ?_
        rintro e w4 ⟨g, rfl, hg, hb4⟩
        have HB4 : Hid (Below W.heap.size W w4) := bel16 HB3.out hb4
        have HG := Lib.hid hg
        clear hg hb4
        cases g with
        | true =>
          go_wp2_with fail
          go_at_call 7
          refine (HFX.out _).mono ?_
          rintro e w8 ⟨rfl, hb8⟩
          have HB8 : Hid (Below w.heap.size w w8) := bel16 HBW.out (bel16 HB4.out hb8)
          clear hb8
          go_wp2_with fail
          go_ret
          exact ⟨rfl, HB8.out⟩
        | false =>
          have hng : ¬ greatR16 s := fun k => by have := HG.out.2 k; cases this
          have HNs := Lib.hid hng
          have HFs := Lib.hid (FS.out.fits hng)
          clear hng HG
          obtain ⟨t1, ht1⟩ : ∃ t : Bool, t = true ↔ a = b := by classical exact ⟨decide (a = b), by simp⟩
          obtain ⟨t2, ht2⟩ : ∃ t : Bool, t = true ↔ r = s := by classical exact ⟨decide (r = s), by simp⟩
          have C1 : Hid (∀ (g : Gr w4), Calls Tryz.prog 13 #[.agg (aCells a pa).toArray, .agg (aCells b pb).toArray] g.val fun e w' => e = .returned (.bool t1) ∧ Below g.val.heap.size g.val w') := fun g => same_calls ht1 (KA.same g.val a b pa pb HFa.out HFb.out HNa.out HNb.out (HTA.out _ (bel16 HBW.out (bel16 HB4.out g.ok))) (HTB.out _ (bel16 HBW.out (bel16 HB4.out g.ok))))
          have C2 : Hid (∀ (g : Gr w4), Calls Tryz.prog 14 #[.agg (aCells a pa).toArray, .agg (aCells b pb).toArray] g.val fun e w' => e = .returned (.bool t1) ∧ Below g.val.heap.size g.val w') := fun g => same_calls ht1 (rSameAsk_any a b pa pb g.val (HTA.out _ (bel16 HBW.out (bel16 HB4.out g.ok))) (HTB.out _ (bel16 HBW.out (bel16 HB4.out g.ok))))
          have C3 : Hid (∀ (g : Gr w4), Calls Tryz.prog 15 #[.agg (rCells r pr).toArray, .agg (rCells s ps).toArray] g.val fun e w' => e = .returned (.bool t2) ∧ Below g.val.heap.size g.val w') := fun g => same_calls ht2 (KR.same g.val r s pr ps HFr.out HFs.out HNr.out HNs.out (HTR.out _ (bel16 HBW.out (bel16 HB4.out g.ok))) (HTS.out _ (bel16 HBW.out (bel16 HB4.out g.ok))))
          have C4 : Hid (∀ (g : Gr w4), Calls Tryz.prog 11 #[.agg (rCells r pr).toArray, .agg (rCells s ps).toArray] g.val fun e w' => e = .returned (.bool t2) ∧ Below g.val.heap.size g.val w') := fun g => same_calls ht2 (rSameReply_any r s pr ps g.val (HTR.out _ (bel16 HBW.out (bel16 HB4.out g.ok))) (HTS.out _ (bel16 HBW.out (bel16 HB4.out g.ok))))
          have C5 : Hid (∀ (g : Gr w4), Calls Tryz.prog 13 #[.agg (aCells a pa).toArray, .agg (aCells a pa).toArray] g.val fun e w' => e = .returned (.bool true) ∧ Below g.val.heap.size g.val w') := fun g => same_calls (x := a) (y := a) (by simp) (KA.same g.val a a pa pa HFa.out HFa.out HNa.out HNa.out (HTA.out _ (bel16 HBW.out (bel16 HB4.out g.ok))) (HTA.out _ (bel16 HBW.out (bel16 HB4.out g.ok))))
          have C6 : Hid (∀ (g : Gr w4), Calls Tryz.prog 15 #[.agg (rCells s ps).toArray, .agg (rCells s ps).toArray] g.val fun e w' => e = .returned (.bool true) ∧ Below g.val.heap.size g.val w') := fun g => same_calls (x := s) (y := s) (by simp) (KR.same g.val s s ps ps HFs.out HFs.out HNs.out HNs.out (HTS.out _ (bel16 HBW.out (bel16 HB4.out g.ok))) (HTS.out _ (bel16 HBW.out (bel16 HB4.out g.ok))))
          have HG4 : Hid (∀ (g : Gr w4), Below W.heap.size W g.val) := fun g => bel16 HB4.out g.ok
          clear ht1 ht2
          go_wp2_with fail
          refine Gr.region (w0 := w4) (by kernel_rfl) (by kernel_rfl) (Gr.draw0 _) ?_
          cases t1 <;> cases t2
          all_goals
            repeat (first
              | go_big_quiet_skip
              | (refine wpQuiet_load (t := 65) (v := .agg (aCells a pa).toArray) rfl rfl (by rintro _ ⟨g, rfl⟩; exact HLA.out _ (HG4.out g)) ?_; simp only [Act.put, List.setIfInBounds_toArray, List.set_cons_zero, List.set_cons_succ])
              | (refine wpQuiet_load (t := 65) (v := .agg (aCells b pb).toArray) rfl rfl (by rintro _ ⟨g, rfl⟩; exact HLB.out _ (HG4.out g)) ?_; simp only [Act.put, List.setIfInBounds_toArray, List.set_cons_zero, List.set_cons_succ])
              | (refine wpQuiet_load (t := 39) (v := .agg (rCells r pr).toArray) rfl rfl (by rintro _ ⟨g, rfl⟩; exact HLR.out _ (HG4.out g)) ?_; simp only [Act.put, List.setIfInBounds_toArray, List.set_cons_zero, List.set_cons_succ])
              | (refine wpQuiet_load (t := 39) (v := .agg (rCells s ps).toArray) rfl rfl (by rintro _ ⟨g, rfl⟩; exact HLS.out _ (HG4.out g)) ?_; simp only [Act.put, List.setIfInBounds_toArray, List.set_cons_zero, List.set_cons_succ])
              | go_big_quiet_step ((first
                | (go_at_call 7; exact Gr.calls _ (HFX.out _))
                | (go_at_call 14; with_reducible exact Gr.calls _ (C2.out _))
                | (go_at_call 11; with_reducible exact Gr.calls _ (C4.out _))
                | (go_at_call 13; first | with_reducible exact Gr.calls _ (C1.out _) | with_reducible exact Gr.calls _ (C5.out _))
                | (go_at_call 15; first | with_reducible exact Gr.calls _ (C3.out _) | with_reducible exact Gr.calls _ (C6.out _)))))
            refine wpQuiet_nil ?_
            rintro _ ⟨g, rfl⟩
            have HE : Hid (Below w.heap.size w g.val) := bel16 HBW.out (HG4.out g)
            go_wp2_with fail
            go_ret
            exact ⟨rfl, HE.out⟩
end Go.Proofs.YtdhinjbkfffpeaaGreat
end
