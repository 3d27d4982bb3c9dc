import Derived.Test.YtdhinjbkfffpeaaGreatYRLX
import Derived.Test.YtdhinjbkfffpeaaGreatYJW7
import Derived.Test.YtdhinjbkfffpeaaGreatYJS6
/- RecordStates, walked. -/
section
namespace Go.Proofs.YtdhinjbkfffpeaaGreat
open Go.ChangeShapes Go.WideShapes Go.ChangeAt Go.RowKit Go.Joins Sp Fr Pk
theorem st_info (r : Sta) (p : StaP) : (Tryz.prog.info? 73).map (·.size) = some (staCells r p).toArray.size := by kernel_rfl
theorem st_info2 (r : Sta) (p : StaP) : (Tryz.prog.info? 73).map (·.size) = some (staCells r p).length := by kernel_rfl
theorem st_cells1 (r : Sta) (p : StaP) : (staCells r p).toArray.all (·.oneCell') = true := by kernel_rfl
theorem st_row : (Tryz.prog.underlying 73).map (·.isRow) = some true := by kernel_rfl
def zSta : Sta := ⟨0, [], [], []⟩
def zStaP : StaP := ⟨none, 0, [], none, 0, [], none, 0⟩
theorem alloc_st (w : World) : (Instr.alloc 73 true (.tuple #[])).run Tryz.prog w = .ok (.pointer (some ⟨w.heap.size, 0, none⟩)) (w.alloc (.cells (staCells zSta zStaP).toArray 73)) := by kernel_rfl
theorem load_st {W V : World} {b : Nat} {r : Sta} {p : StaP} (h : W.heap[b]? = some (.cells (staCells r p).toArray 73 (0, 0))) (hb : Below W.heap.size W V) :
    (Instr.loadAt 73 (.pointer (some ⟨b, 0, none⟩))).run Tryz.prog V = .ok (.agg (staCells r p).toArray) V :=
  load_blk (blk_below h hb) (fun j v hv => by rw [Nat.zero_add, List.getElem?_toArray]; exact hv) st_row (st_info2 r p)
theorem same_st {f : FuncId} {args : Array Value} {w : World} {x y : Sta} {t : Bool} (ht : t = true ↔ x = y) (h : Calls Tryz.prog f args w fun e w' => ∃ b, e = .returned (.bool b) ∧ (b = true ↔ x = y) ∧ Below w.heap.size w w') :
    Calls Tryz.prog f args w fun e w' => e = .returned (.bool t) ∧ Below w.heap.size w w' :=
  h.mono fun e w' ⟨b, he, hb, hw⟩ => ⟨by rw [← show b = t from Bool.eq_iff_iff.2 (hb.trans ht.symm)]; exact he, hw⟩
set_option maxRecDepth 100000 in
set_option maxHeartbeats 8000000 in
theorem recordStates_any (KX : ∀ w : World, Calls Tryz.prog 23 #[.agg (aCells exAk noAkP).toArray] w (PutRet exAk.text w)) (KS : RecS) (r o : Sta) (p q : StaP) (fr : r.Fits) (fo : o.Fits) (w : World) (hr : StaAt w r p) (ho : StaAt w o q) :
    Calls Tryz.prog 5 #[.agg (staCells r p).toArray, .agg (staCells o q).toArray] w fun e w' => e = .returned (.bool true) ∧ Below w.heap.size w w' := by
  have HFX := Lib.hid (fun V : World => fixed16x_any KX V)
  obtain ⟨W1, hW1⟩ : ∃ W, w.alloc (.cells (staCells r p).toArray 73) = W := ⟨_, rfl⟩
  obtain ⟨W, hW⟩ : ∃ W, W1.alloc (.cells (staCells o q).toArray 73) = W := ⟨_, rfl⟩
  have b1 : Below w.heap.size w W1 := by rw [← hW1]; exact (Below.refl _ _).alloc (Nat.le_refl _) _
  have b2 : Below W1.heap.size W1 W := by rw [← hW]; exact (Below.refl _ _).alloc (Nat.le_refl _) _
  have k1 : W1.heap[w.heap.size]? = some (.cells (staCells r p).toArray 73 (0, 0)) := by rw [← hW1]; exact heap_alloc_new _ _
  have k2 : W.heap[W1.heap.size]? = some (.cells (staCells o q).toArray 73 (0, 0)) := by rw [← hW]; exact heap_alloc_new _ _
  have z1 : W1.heap.size = w.heap.size + 1 := by rw [← hW1]; simp
  rw [z1] at k2
  have hBW : Below w.heap.size w W := bel16 b1 b2
  have HBW := Lib.hid hBW
  have HLA : Hid (∀ V, Below W.heap.size W V → (Instr.loadAt 73 (.pointer (some ⟨w.heap.size, 0, none⟩))).run Tryz.prog V = .ok (.agg (staCells r p).toArray) V) := fun V h => load_st (blk_below k1 b2) h
  have HLB : Hid (∀ V, Below W.heap.size W V → (Instr.loadAt 73 (.pointer (some ⟨w.heap.size + 1, 0, none⟩))).run Tryz.prog V = .ok (.agg (staCells o q).toArray) V) := fun V h => load_st k2 h
  have E1 : Hid ((w.alloc (.cells (staCells r p).toArray 73)).alloc (.cells (staCells o q).toArray 73) = W) := by show _ = _; rw [hW1, hW]
  have HTA : Hid (∀ V, Below w.heap.size w V → StaAt V r p) := fun V h => hr.below h
  have HTB : Hid (∀ V, Below w.heap.size w V → StaAt V o q) := fun V h => ho.below h
  have HGA := Lib.hid (fun (V : World) (h : Below w.heap.size w V) => rGreatState_any r p V (hr.below h))
  have HGB := Lib.hid (fun (V : World) (h : Below w.heap.size w V) => rGreatState_any o q V (ho.below h))
  have FA := Lib.hid fr
  have FB := Lib.hid fo
  clear hW1 hW b1 b2 k1 k2 z1 hBW hr ho fr fo
  go_enter Tryz.func5, Tryz.ntmps5
  go_upto_region 1 with fail
  rw [E1.out]
  go_wp2_with (refine wpList_load (t := 73) (v := .agg (staCells r p).toArray) rfl rfl (HLA.out _ (Below.refl _ _)) ?_; simp only [Act.put, List.setIfInBounds_toArray, List.set_cons_zero, List.set_cons_succ])
  go_at_call 16
  with_reducible refine (HGA.out W HBW.out).mono ?_
  rintro e w1 ⟨g, rfl, hg, hb1⟩
  have HB1 : Hid (Below W.heap.size W w1) := hb1
  have HG := Lib.hid hg
  clear hg hb1
  cases g with
  | true =>
    go_wp2_with fail
    go_at_call 7
    refine (HFX.out _).mono ?_
    rintro e w8 ⟨rfl, hb8⟩
    have HB8 : Hid (Below w.heap.size w w8) := bel16 HBW.out (bel16 HB1.out hb8)
    clear hb8
    go_wp2_with fail
    go_ret
    exact ⟨rfl, HB8.out⟩
  | false =>
    have hng : ¬ greatSt16 r := fun k => by have := HG.out.2 k; cases this
    have HNa := Lib.hid hng
    clear hng HG
    go_wp2_with (refine wpList_load (t := 73) (v := .agg (staCells o q).toArray) rfl rfl (HLB.out _ HB1.out) ?_; simp only [Act.put, List.setIfInBounds_toArray, List.set_cons_zero, List.set_cons_succ])
    go_at_call 16
    with_reducible refine (HGB.out w1 (bel16 HBW.out HB1.out)).mono ?_
    rintro e w2 ⟨g, rfl, hg, hb2⟩
    have HB2 : Hid (Below W.heap.size W w2) := bel16 HB1.out hb2
    have HG := Lib.hid hg
    clear hg hb2
    cases g with
    | true =>
      go_wp2_with fail
      go_at_call 7
      refine (HFX.out _).mono ?_
      rintro e w8 ⟨rfl, hb8⟩
      have HB8 : Hid (Below w.heap.size w w8) := bel16 HBW.out (bel16 HB2.out hb8)
      clear hb8
      go_wp2_with fail
      go_ret
      exact ⟨rfl, HB8.out⟩
    | false =>
      have hng : ¬ greatSt16 o := fun k => by have := HG.out.2 k; cases this
      have HNb := Lib.hid hng
      clear hng HG
      have HPU := Lib.hid (KS.put w2 r p FA.out HNa.out (HTA.out w2 (bel16 HBW.out HB2.out)))
      go_wp2_with (refine wpList_load (t := 73) (v := .agg (staCells r p).toArray) rfl rfl (HLA.out _ HB2.out) ?_; simp only [Act.put, List.setIfInBounds_toArray, List.set_cons_zero, List.set_cons_succ])
      go_at_call 17
      with_reducible refine HPU.out.mono ?_
      rintro e w3 ⟨A, d, l, rfl, hl, hs, _, hb3⟩
      have HB3 : Hid (Below W.heap.size W w3) := bel16 HB2.out hb3
      have HS := Lib.hid hs
      have HRE := Lib.hid (rState_any r p w3 FA.out HNa.out (HTA.out w3 (bel16 HBW.out HB3.out)))
      obtain ⟨x, hx⟩ : ∃ x, r.text = x := ⟨_, rfl⟩
      rw [hx] at hl HRE
      rw [hx]
      have HX := Lib.hid hx
      clear hs hb3 HPU hx
      obtain ⟨t1, ht1⟩ : ∃ t : Bool, t = true ↔ r = o := by classical exact ⟨decide (r = o), by simp⟩
      cases x with
      | none =>
        obtain rfl : l = [] := by simpa using hl
        unfold out16 at HRE
        clear hl
        go_wp2_with (refine wpList_load (t := 73) (v := .agg (staCells r p).toArray) rfl rfl (HLA.out _ HB3.out) ?_; simp only [Act.put, List.setIfInBounds_toArray, List.set_cons_zero, List.set_cons_succ])
        go_at_call 18
        with_reducible refine HRE.out.mono ?_
        rintro e w4 ⟨rfl, hb4⟩
        have HB4 : Hid (Below W.heap.size W w4) := bel16 HB3.out hb4
        have hs4 := Lib.hid (HS.out.below hb4 (Nat.le_refl _))
        have hcx := fun g : Gr w4 => conv16 ((hs4.out.below g.ok (Nat.le_refl _)).bat) d 0 rfl
        clear hb4 hs4
        go_wp2_with fail
        have C1 : Hid (∀ (g : Gr w4), Calls Tryz.prog 19 #[.agg (staCells r p).toArray, .agg (staCells o q).toArray] g.val fun e w' => e = .returned (.bool t1) ∧ Below g.val.heap.size g.val w') := fun g => same_st ht1 (KS.same g.val r o p q FA.out FB.out HNa.out HNb.out (HTA.out _ (bel16 HBW.out (bel16 HB4.out g.ok))) (HTB.out _ (bel16 HBW.out (bel16 HB4.out g.ok))))
        have C2 : Hid (∀ (g : Gr w4), Calls Tryz.prog 20 #[.agg (staCells r p).toArray, .agg (staCells o q).toArray] g.val fun e w' => e = .returned (.bool t1) ∧ Below g.val.heap.size g.val w') := fun g => same_st ht1 (rSameState_any r o p q g.val (HTA.out _ (bel16 HBW.out (bel16 HB4.out g.ok))) (HTB.out _ (bel16 HBW.out (bel16 HB4.out g.ok))))
        have C3 : Hid (∀ (g : Gr w4), Calls Tryz.prog 19 #[.agg (staCells r p).toArray, .agg (staCells r p).toArray] g.val fun e w' => e = .returned (.bool true) ∧ Below g.val.heap.size g.val w') := fun g => same_st (x := r) (y := r) (by simp) (KS.same g.val r r p p FA.out FA.out HNa.out HNa.out (HTA.out _ (bel16 HBW.out (bel16 HB4.out g.ok))) (HTA.out _ (bel16 HBW.out (bel16 HB4.out g.ok))))
        have HG4 : Hid (∀ (g : Gr w4), Below W.heap.size W g.val) := fun g => bel16 HB4.out g.ok
        clear ht1
        refine Gr.region (w0 := w4) (by kernel_rfl) (by kernel_rfl) (Gr.draw0 _) ?_
        generalize t1 = t1 at *
        have ett : (t1 != t1) = false := by cases t1 <;> rfl
        repeat (first
          | go_big_quiet_skip
          | (refine wpQuiet_load (t := 73) (v := .agg (staCells r p).toArray) rfl rfl (by rintro _ ⟨g, rfl⟩; exact HLA.out _ (HG4.out g)) ?_; simp only [Act.put, List.setIfInBounds_toArray, List.set_cons_zero, List.set_cons_succ])
          | (refine wpQuiet_load (t := 73) (v := .agg (staCells o q).toArray) rfl rfl (by rintro _ ⟨g, rfl⟩; exact HLB.out _ (HG4.out g)) ?_; simp only [Act.put, List.setIfInBounds_toArray, List.set_cons_zero, List.set_cons_succ])
          | go_big_quiet_step ((first
            | (go_at_call 20; with_reducible exact Gr.calls _ (C2.out _))
            | (go_at_call 19; first | with_reducible exact Gr.calls _ (C1.out _) | with_reducible exact Gr.calls _ (C3.out _)))))
        refine wpQuiet_nil ?_
        rintro _ ⟨g, rfl⟩
        have HB5 := Lib.hid (HG4.out g)
        clear C1 C2 C3 HG4 ett hcx
        go_wp2_with fail
        go_at_call 7
        refine (HFX.out _).mono ?_
        rintro e w6 ⟨rfl, hb6⟩
        have HB6 : Hid (Below w.heap.size w w6) := bel16 HBW.out (bel16 HB5.out hb6)
        clear hb6
        go_wp2_with fail
        go_ret
        exact ⟨rfl, HB6.out⟩
      | some t =>
        obtain rfl : l = t := by simpa using hl
        unfold out16 at HRE
        clear hl
        have HT := Lib.hid ((sta_text FA.out l).1 HX.out)
        obtain ⟨n, hn⟩ : ∃ n, l.length = n := ⟨_, rfl⟩
        have HN := Lib.hid hn
        rw [hn]
        clear hn
        go_wp2_with (refine wpList_load (t := 73) (v := .agg (staCells r p).toArray) rfl rfl (HLA.out _ HB3.out) ?_; simp only [Act.put, List.setIfInBounds_toArray, List.set_cons_zero, List.set_cons_succ])
        go_at_call 18
        with_reducible refine HRE.out.mono ?_
        rintro e w4 ⟨rfl, hb4⟩
        have HB4 : Hid (Below W.heap.size W w4) := bel16 HB3.out hb4
        have HS4 := Lib.hid (HS.out.below hb4 (Nat.le_refl _))
        have hcx := fun g : Gr w4 => conv16 ((HS4.out.below g.ok (Nat.le_refl _)).bat) d n HN.out
        clear hb4
        go_wp2_with fail
        have C1 : Hid (∀ (g : Gr w4), Calls Tryz.prog 19 #[.agg (staCells r p).toArray, .agg (staCells o q).toArray] g.val fun e w' => e = .returned (.bool t1) ∧ Below g.val.heap.size g.val w') := fun g => same_st ht1 (KS.same g.val r o p q FA.out FB.out HNa.out HNb.out (HTA.out _ (bel16 HBW.out (bel16 HB4.out g.ok))) (HTB.out _ (bel16 HBW.out (bel16 HB4.out g.ok))))
        have C2 : Hid (∀ (g : Gr w4), Calls Tryz.prog 20 #[.agg (staCells r p).toArray, .agg (staCells o q).toArray] g.val fun e w' => e = .returned (.bool t1) ∧ Below g.val.heap.size g.val w') := fun g => same_st ht1 (rSameState_any r o p q g.val (HTA.out _ (bel16 HBW.out (bel16 HB4.out g.ok))) (HTB.out _ (bel16 HBW.out (bel16 HB4.out g.ok))))
        have C3 : Hid (∀ (g : Gr w4), Calls Tryz.prog 19 #[.agg (staCells r p).toArray, .agg (staCells r p).toArray] g.val fun e w' => e = .returned (.bool true) ∧ Below g.val.heap.size g.val w') := fun g => same_st (x := r) (y := r) (by simp) (KS.same g.val r r p p FA.out FA.out HNa.out HNa.out (HTA.out _ (bel16 HBW.out (bel16 HB4.out g.ok))) (HTA.out _ (bel16 HBW.out (bel16 HB4.out g.ok))))
        have HG4 : Hid (∀ (g : Gr w4), Below W.heap.size W g.val) := fun g => bel16 HB4.out g.ok
        clear ht1
        refine Gr.region (w0 := w4) (by kernel_rfl) (by kernel_rfl) (Gr.draw0 _) ?_
        generalize t1 = t1 at *
        have ett : (t1 != t1) = false := by cases t1 <;> rfl
        repeat (first
          | go_big_quiet_skip
          | (refine wpQuiet_load (t := 73) (v := .agg (staCells r p).toArray) rfl rfl (by rintro _ ⟨g, rfl⟩; exact HLA.out _ (HG4.out g)) ?_; simp only [Act.put, List.setIfInBounds_toArray, List.set_cons_zero, List.set_cons_succ])
          | (refine wpQuiet_load (t := 73) (v := .agg (staCells o q).toArray) rfl rfl (by rintro _ ⟨g, rfl⟩; exact HLB.out _ (HG4.out g)) ?_; simp only [Act.put, List.setIfInBounds_toArray, List.set_cons_zero, List.set_cons_succ])
          | go_big_quiet_step ((first
            | (go_at_call 20; with_reducible exact Gr.calls _ (C2.out _))
            | (go_at_call 19; first | with_reducible exact Gr.calls _ (C1.out _) | with_reducible exact Gr.calls _ (C3.out _)))))
        refine wpQuiet_nil ?_
        rintro _ ⟨g, rfl⟩
        have HB5 := Lib.hid (HG4.out g)
        clear C1 C2 C3 HG4 ett hcx
        have HGE : Hid (Calls Tryz.prog 21 #[.slice A n d] g.val fun e w' => ∃ (ok : Bool) (r : Sta) (p : StaP), e = .returned (.tuple #[.agg (staCells r p).toArray, .bool ok]) ∧ StaAt w' r p ∧ Below g.val.heap.size g.val w' ∧ (ok = true → r.O ∧ l = r.T ∧ l.length ≤ 1048576) ∧ (ok = false → ∀ s : Sta, s.O → l = s.T → ¬ l.length ≤ 1048576)) := by
          have := KS.get g.val A d l (by have := HT.out.2.2; omega) (HS4.out.below g.ok (Nat.le_refl _))
          show Calls _ _ _ _ _
          rw [← HN.out]
          exact this
        go_wp2_with fail
        go_at_call 21
        refine HGE.out.mono ?_
        rintro e w6 ⟨ok, x, px, rfl, hx, hb6, h1, h2⟩
        obtain rfl : ok = true := by
          cases ok with
          | true => rfl
          | false => exact absurd HT.out.2.2 (h2 rfl r HT.out.1 HT.out.2.1)
        have hxr : x = r := sta_one (h1 rfl).1 HT.out.1 (h1 rfl).2.1 HT.out.2.1
        rw [hxr] at hx ⊢
        obtain ⟨W7, hW7⟩ : ∃ W7, w6.alloc (.cells (staCells r px).toArray 73) = W7 := ⟨_, rfl⟩
        have hb7 : Below w6.heap.size w6 W7 := by rw [← hW7]; exact (Below.refl _ _).alloc (Nat.le_refl _) _
        have hk7 : W7.heap[w6.heap.size]? = some (.cells (staCells r px).toArray 73 (0, 0)) := by rw [← hW7]; exact heap_alloc_new _ _
        have HB7 : Hid (Below W.heap.size W W7) := bel16 (bel16 HB5.out hb6) hb7
        have HX7 : Hid (∀ V, Below W7.heap.size W7 V → StaAt V r px) := fun V hb => (hx.below hb7).below hb
        have HLX : Hid (∀ V, Below W7.heap.size W7 V → (Instr.loadAt 73 (.pointer (some ⟨w6.heap.size, 0, none⟩))).run Tryz.prog V = .ok (.agg (staCells r px).toArray) V) := fun V hb => load_st hk7 hb
        have E7 := Lib.hid hW7
        clear hx hb6 h1 h2 hW7 hb7 hk7 hxr HGE
        go_upto_region 10 with (first
          | (refine wpList_alloc (t := 73) (c := (staCells zSta zStaP).toArray) rfl rfl (alloc_st _) ?_; simp only [Act.put, List.setIfInBounds_toArray, List.set_cons_zero, List.set_cons_succ])
          | (refine wpList_store_new (t := 73) (c' := (staCells r px).toArray) rfl rfl rfl rfl (st_info _ _) (Option.some.inj ((st_info _ _).symm.trans (st_info _ _))) (st_cells1 _ _) ?_; simp only [Act.put]))
        rw [E7.out]
        go_wp2_with fail
        go_at_call 7
        refine (HFX.out _).mono ?_
        rintro e w8 ⟨rfl, hb8⟩
        have HB8 : Hid (Below W.heap.size W w8) := bel16 HB7.out hb8
        have HL8 := Lib.hid (HLX.out w8 hb8)
        have HSM := Lib.hid (rSameState_any r r px p w8 (HX7.out w8 hb8) (HTA.out w8 (bel16 HBW.out HB8.out)))
        clear hb8
        go_wp2_with (first
          | (refine wpList_load (t := 73) (v := .agg (staCells r px).toArray) rfl rfl (HL8.out) ?_; simp only [Act.put, List.setIfInBounds_toArray, List.set_cons_zero, List.set_cons_succ])
          | (refine wpList_load (t := 73) (v := .agg (staCells r p).toArray) rfl rfl (HLA.out _ HB8.out) ?_; simp only [Act.put, List.setIfInBounds_toArray, List.set_cons_zero, List.set_cons_succ]))
        go_at_call 20
        with_reducible refine HSM.out.mono ?_
        rintro e w9 ⟨v, rfl, hv, hb9⟩
        obtain rfl : v = true := hv.2 (by trivial)
        have HB9 : Hid (Below w.heap.size w w9) := bel16 HBW.out (bel16 HB8.out hb9)
        clear hv hb9
        go_wp2_with fail
        go_ret
        exact ⟨rfl, HB9.out⟩
end Go.Proofs.YtdhinjbkfffpeaaGreat
end
