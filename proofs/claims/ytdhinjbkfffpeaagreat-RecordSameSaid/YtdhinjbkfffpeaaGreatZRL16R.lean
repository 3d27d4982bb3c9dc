import Derived.Test.YtdhinjbkfffpeaaGreatZRL16
import Derived.Test.YtdhinjbkfffpeaaGreatZJW5
import Derived.Test.YtdhinjbkfffpeaaGreatZJS3
/- RecordReplies, walked. -/
section
namespace Go.Proofs.YtdhinjbkfffpeaaGreat
open Go.ChangeShapes Go.WideShapes Go.ChangeAt Go.RowKit Go.Joins Sp Fr Pk
theorem rp_info (r : Rp) (p : RpP) : (Tryz.prog.info? 39).map (·.size) = some (rCells r p).toArray.size := by kernel_rfl
theorem rp_info2 (r : Rp) (p : RpP) : (Tryz.prog.info? 39).map (·.size) = some (rCells r p).length := by kernel_rfl
theorem rp_cells1 (r : Rp) (p : RpP) : (rCells r p).toArray.all (·.oneCell') = true := by kernel_rfl
theorem rp_row : (Tryz.prog.underlying 39).map (·.isRow) = some true := by kernel_rfl
theorem alloc_rp (w : World) : (Instr.alloc 39 true (.tuple #[])).run Tryz.prog w = .ok (.pointer (some ⟨w.heap.size, 0, none⟩)) (w.alloc (.cells (rCells noRp noRpP).toArray 39)) := by kernel_rfl
theorem load_rp {W V : World} {b : Nat} {r : Rp} {p : RpP} (h : W.heap[b]? = some (.cells (rCells r p).toArray 39 (0, 0))) (hb : Below W.heap.size W V) :
    (Instr.loadAt 39 (.pointer (some ⟨b, 0, none⟩))).run Tryz.prog V = .ok (.agg (rCells r p).toArray) V :=
  load_blk (blk_below h hb) (fun j v hv => by rw [Nat.zero_add, List.getElem?_toArray]; exact hv) rp_row (rp_info2 r p)
set_option maxRecDepth 100000 in
set_option maxHeartbeats 4000000 in
theorem recordReplies_any (KP : RecP) (KR : RecR) (r : Rp) (p : RpP) (h0 : r.Fit0) (w : World) (hat : RpAt w r p) :
    Calls Tryz.prog 3 #[.agg (rCells r p).toArray] w fun e w' => e = .returned (.bool true) ∧ Below w.heap.size w w' := by
  have HFX := Lib.hid (fun V : World => fixed16_any KP V)
  obtain ⟨W, hW⟩ : ∃ W, w.alloc (.cells (rCells r p).toArray 39) = W := ⟨_, rfl⟩
  have hBW : Below w.heap.size w W := by rw [← hW]; exact (Below.refl _ w).alloc (Nat.le_refl _) _
  have hk : W.heap[w.heap.size]? = some (.cells (rCells r p).toArray 39 (0, 0)) := by rw [← hW]; exact heap_alloc_new _ _
  have HLD : Hid (∀ V, Below W.heap.size W V → (Instr.loadAt 39 (.pointer (some ⟨w.heap.size, 0, none⟩))).run Tryz.prog V = .ok (.agg (rCells r p).toArray) V) := fun V hb => load_rp hk hb
  have HAT : Hid (∀ V, Below w.heap.size w V → RpAt V r p) := fun V hb => hat.below hb
  have HGR := Lib.hid (fun (V : World) (hb : Below w.heap.size w V) => rGreatReply_any r p (by have := h0.cursor; unfold maxLen at this; omega) V (hat.below hb))
  have HBW := Lib.hid hBW
  have E1 := Lib.hid hW
  have H0 := Lib.hid h0
  clear hW hk hat hBW h0
  go_enter Tryz.func3, Tryz.ntmps3
  go_upto_region 1 with fail
  rw [E1.out]
  go_wp2_with (refine wpList_load (t := 39) (v := .agg (rCells r p).toArray) rfl rfl (HLD.out _ (Below.refl _ _)) ?_; simp only [Act.put, List.setIfInBounds_toArray, List.set_cons_zero, List.set_cons_succ])
  go_at_call 6
  with_reducible refine (HGR.out W HBW.out).mono ?_
  rintro e w1 ⟨g, rfl, hg, hb1⟩
  have HB1 : Hid (Below W.heap.size W w1) := hb1
  have HG := Lib.hid hg
  clear hg hb1
  cases g with
  | true =>
    go_wp2_with fail
    go_at_call 7
    refine (HFX.out _).mono ?_
    rintro e w2 ⟨rfl, hb2⟩
    have HB2 : Hid (Below w.heap.size w w2) := bel16 HBW.out (bel16 HB1.out hb2)
    clear hb2
    go_wp2_with fail
    go_ret
    exact ⟨rfl, HB2.out⟩
  | false =>
    have hng : ¬ greatR16 r := fun k => by have := HG.out.2 k; cases this
    have HNG := Lib.hid hng
    have HFit := Lib.hid (H0.out.fits hng)
    clear hng HG
    have HPU := Lib.hid (KR.put w1 r p HFit.out HNG.out (HAT.out w1 (bel16 HBW.out HB1.out)))
    go_wp2_with (refine wpList_load (t := 39) (v := .agg (rCells r p).toArray) rfl rfl (HLD.out _ HB1.out) ?_; simp only [Act.put, List.setIfInBounds_toArray, List.set_cons_zero, List.set_cons_succ])
    go_at_call 8
    with_reducible refine HPU.out.mono ?_
    rintro e w2 ⟨A, d, l, rfl, hl, hs, _, hb2⟩
    have HB2 : Hid (Below W.heap.size W w2) := bel16 HB1.out hb2
    have HS := Lib.hid hs
    have HRE := Lib.hid (rReply_any r p w2 HFit.out (HAT.out w2 (bel16 HBW.out HB2.out)))
    obtain ⟨o, ho⟩ : ∃ o, r.text = o := ⟨_, rfl⟩
    rw [ho] at hl HRE
    rw [ho]
    have HO := Lib.hid ho
    clear hs hb2 HPU ho
    cases o with
    | none =>
      obtain rfl : l = [] := by simpa using hl
      unfold out16 at HRE
      clear hl
      go_wp2_with (refine wpList_load (t := 39) (v := .agg (rCells r p).toArray) rfl rfl (HLD.out _ HB2.out) ?_; simp only [Act.put, List.setIfInBounds_toArray, List.set_cons_zero, List.set_cons_succ])
      go_at_call 9
      with_reducible refine HRE.out.mono ?_
      rintro e w3 ⟨rfl, hb3⟩
      have hcv := conv16 (HS.out.below hb3 (Nat.le_refl _)).bat d 0 rfl
      have HB3 : Hid (Below W.heap.size W w3) := bel16 HB2.out hb3
      clear hb3
      go_wp2_with fail
      go_at_call 7
      refine (HFX.out _).mono ?_
      rintro e w4 ⟨rfl, hb4⟩
      have HB4 : Hid (Below w.heap.size w w4) := bel16 HBW.out (bel16 HB3.out hb4)
      clear hb4
      go_wp2_with fail
      go_ret
      exact ⟨rfl, HB4.out⟩
    | some t =>
      obtain rfl : l = t := by simpa using hl
      unfold out16 at HRE
      clear hl
      have HT := Lib.hid ((rp_text HFit.out l).1 HO.out)
      obtain ⟨n, hn⟩ : ∃ n, l.length = n := ⟨_, rfl⟩
      have HN := Lib.hid hn
      rw [hn]
      go_wp2_with (refine wpList_load (t := 39) (v := .agg (rCells r p).toArray) rfl rfl (HLD.out _ HB2.out) ?_; simp only [Act.put, List.setIfInBounds_toArray, List.set_cons_zero, List.set_cons_succ])
      go_at_call 9
      with_reducible refine HRE.out.mono ?_
      rintro e w3 ⟨rfl, hb3⟩
      have hcv := conv16 (HS.out.below hb3 (Nat.le_refl _)).bat d n hn
      have HB3 : Hid (Below W.heap.size W w3) := bel16 HB2.out hb3
      have HGE : Hid (Calls Tryz.prog 10 #[.slice A n d] w3 fun e w' => ∃ (ok : Bool) (r : Rp) (p : RpP), e = .returned (.tuple #[.agg (rCells r p).toArray, .bool ok]) ∧ RpAt w' r p ∧ Below w3.heap.size w3 w' ∧ (ok = true → r.O ∧ l = r.T ∧ l.length ≤ 65536) ∧ (ok = false → r = noRp ∧ ∀ s : Rp, s.O → l = s.T → ¬ l.length ≤ 65536)) := by
        have := KR.get w3 A d l (by have := HT.out.2.2; omega) (HS.out.below hb3 (Nat.le_refl _))
        show Calls _ _ _ _ _
        rw [← hn]
        exact this
      clear hb3 hn
      go_wp2_with fail
      go_at_call 10
      refine HGE.out.mono ?_
      rintro e w4 ⟨ok, x, px, rfl, hx, hb4, h1, h2⟩
      obtain rfl : ok = true := by
        cases ok with
        | true => rfl
        | false => exact absurd HT.out.2.2 ((h2 rfl).2 r HT.out.1 HT.out.2.1)
      obtain rfl : x = r := rp_one (h1 rfl).1 HT.out.1 (h1 rfl).2.1 HT.out.2.1
      obtain ⟨W5, hW5⟩ : ∃ W5, w4.alloc (.cells (rCells x px).toArray 39) = W5 := ⟨_, rfl⟩
      have hb5 : Below w4.heap.size w4 W5 := by rw [← hW5]; exact (Below.refl _ _).alloc (Nat.le_refl _) _
      have hk5 : W5.heap[w4.heap.size]? = some (.cells (rCells x px).toArray 39 (0, 0)) := by rw [← hW5]; exact heap_alloc_new _ _
      have HB5 : Hid (Below W.heap.size W W5) := bel16 (bel16 HB3.out hb4) hb5
      have HX5 : Hid (∀ V, Below W5.heap.size W5 V → RpAt V x px) := fun V hb => (hx.below hb5).below hb
      have HLX : Hid (∀ V, Below W5.heap.size W5 V → (Instr.loadAt 39 (.pointer (some ⟨w4.heap.size, 0, none⟩))).run Tryz.prog V = .ok (.agg (rCells x px).toArray) V) := fun V hb => load_rp hk5 hb
      have E5 := Lib.hid hW5
      clear hx hb4 h1 h2 hW5 hb5 hk5 hcv
      go_upto_region 10 with (first
        | (refine wpList_alloc (t := 39) (c := (rCells noRp noRpP).toArray) rfl rfl (alloc_rp _) ?_; simp only [Act.put, List.setIfInBounds_toArray, List.set_cons_zero, List.set_cons_succ])
        | (refine wpList_store_new (t := 39) (c' := (rCells x px).toArray) rfl rfl rfl rfl (rp_info _ _) (Option.some.inj ((rp_info _ _).symm.trans (rp_info _ _))) (rp_cells1 _ _) ?_; simp only [Act.put]))
      rw [E5.out]
      go_wp2_with fail
      go_at_call 7
      refine (HFX.out _).mono ?_
      rintro e w6 ⟨rfl, hb6⟩
      have HB6 : Hid (Below W.heap.size W w6) := bel16 HB5.out hb6
      have HL6 := Lib.hid (HLX.out w6 hb6)
      have HSM := Lib.hid (rSameReply_any x x px p w6 (HX5.out w6 hb6) (HAT.out w6 (bel16 HBW.out HB6.out)))
      clear hb6
      go_wp2_with (first
        | (refine wpList_load (t := 39) (v := .agg (rCells x px).toArray) rfl rfl HL6.out ?_; simp only [Act.put, List.setIfInBounds_toArray, List.set_cons_zero, List.set_cons_succ])
        | (refine wpList_load (t := 39) (v := .agg (rCells x p).toArray) rfl rfl (HLD.out _ HB6.out) ?_; simp only [Act.put, List.setIfInBounds_toArray, List.set_cons_zero, List.set_cons_succ]))
      go_at_call 11
      with_reducible refine HSM.out.mono ?_
      rintro e w7 ⟨v, rfl, hv, hb7⟩
      obtain rfl : v = true := hv.2 (by trivial)
      have HB7 : Hid (Below w.heap.size w w7) := bel16 HBW.out (bel16 HB6.out hb7)
      clear hv hb7
      go_wp2_with fail
      go_ret
      exact ⟨rfl, HB7.out⟩
end Go.Proofs.YtdhinjbkfffpeaaGreat
end
