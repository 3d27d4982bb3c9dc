import Derived.Test.YtbclfcghacedfaaGreatDoorZGL5
import Derived.Test.YtbclfcghacedfaaGreatDoorZGW19
/- The laws' walks: texts of rules. (Written by gen/gen_gl3.py.) -/
section
namespace Go.Proofs.YtbclfcghacedfaaGreatDoor
open Go.ChangeShapes Go.WideShapes Go.ChangeAt Go.RowKit Go.Joins Qr Ck Sp

theorem text_short {r : R} (hm : mayP r) : (textT r).length ≤ 100000 := by
  have hl := may_lens hm
  obtain ⟨⟨f1, f2, i1, i2, c1, c2, s1, s2⟩, hu, ⟨b1, b2, b3, b4⟩, _, _⟩ := hm
  have L1 := prt_len (nm := [66, 89, 77, 79, 78, 84, 72]) (l := r.bm) (fun x hx => row_bd b1 (by omega) x hx)
  have L2 := prt_len (nm := [66, 89, 77, 79, 78, 84, 72, 68, 65, 89]) (l := r.bd) (fun x hx => row_bd b2 (by omega) x hx)
  have L4 := prt_len (nm := [66, 89, 83, 69, 84, 80, 79, 83]) (l := r.bs) (fun x hx => row_bd b3 (by omega) x hx)
  have L3 : (daysT r.bw).length ≤ 20000 := by
    rw [← rowT_daysT]
    have := rowT_bd (nm := [59, 66, 89, 68, 65, 89, 61]) (f := oneD) (l := r.bw) (k := 10) (fun x hx => oneD_len (daysB_bd b4 x hx))
    simp only [List.length_cons, List.length_nil] at this; omega
  have L5 : (ivT r).length ≤ 18 := by
    have := decI_len (n := r.iv) (by omega) (by omega)
    unfold ivT; split <;> simp; omega
  have L6 : (ctT r).length ≤ 15 := by
    have := decI_len (n := r.count) (by omega) (by omega)
    unfold ctT; split <;> simp; omega
  have L7 : (unT r).length ≤ 100 := by
    unfold unT; split
    · unfold untilT; simp only [List.length_append, List.length_take, List.length_drop, stampT_len, List.length_cons, List.length_nil]; omega
    · simp
  have L8 : (wkT r).length ≤ 8 := by
    have := dayName_len r.start.toNat
    unfold wkT; split <;> simp; omega
  have L9 := freqName_len r.freq.toNat
  simp only [List.length_cons, List.length_nil] at L1 L2 L4
  rw [textT_lens]; omega

set_option maxRecDepth 100000 in
set_option maxHeartbeats 8000000 in
theorem ruleTexts_walk (r : R) (A1 A2 A3 A4 : Option Addr) (c1 c2 c3 c4 : Nat) (w : World) (hs : RAt w r A1 A2 A3 A4 c1 c2 c3 c4) (hE : Env9 w) :
    Calls Tryz.prog 3 #[.agg (rcells r A1 A2 A3 A4 c1 c2 c3 c4)] w fun e w' => e = .returned (.bool true) ∧ Below w.heap.size w w' := by
  have HFX := Lib.hid (fun w hE => fixed9_any w hE)
  have HRA : Hid (∀ g : Gr (w.alloc (.cells (rcells r A1 A2 A3 A4 c1 c2 c3 c4) 25)), RAt g.val r A1 A2 A3 A4 c1 c2 c3 c4) := fun g => hs.below g.below1 (Nat.le_refl _)
  have HE : Hid (∀ g : Gr (w.alloc (.cells (rcells r A1 A2 A3 A4 c1 c2 c3 c4) 25)), Env9 g.val) := fun g => hE.below g.below1
  have HU := Lib.hid (fun (k : Nat) (v : Value) (h : (rcells r A1 A2 A3 A4 c1 c2 c3 c4)[k]? = some v) (g : Gr (w.alloc (.cells (rcells r A1 A2 A3 A4 c1 c2 c3 c4) 25))) => box_at h g)
  have HGR := Lib.hid (fun (V : World) (h : RAt V r A1 A2 A3 A4 c1 c2 c3 c4) => rgreat_any r A1 A2 A3 A4 c1 c2 c3 c4 V h)
  have HMY := Lib.hid (fun (V : World) (h : RAt V r A1 A2 A3 A4 c1 c2 c3 c4) => rmay9_any r A1 A2 A3 A4 c1 c2 c3 c4 V h)
  have HPM := Lib.hid (fun (V : World) (h : RAt V r A1 A2 A3 A4 c1 c2 c3 c4) => pmay_any r A1 A2 A3 A4 c1 c2 c3 c4 V h)
  cases hg : greatB r with
  | true =>
    rw [hg] at HGR
    clear hs hE hg HMY HPM HU
    unfold rcells at *
    go_enter Tryz.func3, Tryz.ntmps3
    go_wp2_with fail
    go_at_call 7
    refine (HGR.out _ (HRA.out ⟨_, Below.refl _ _⟩)).mono ?_
    rintro e w1 ⟨rfl, hb⟩
    obtain ⟨g, rfl⟩ := Gr.of hb
    clear hb
    go_wp2_with fail
    go_at_call 8
    refine (HFX.out _ (HE.out g)).mono ?_
    rintro e w1 ⟨rfl, hb⟩
    obtain ⟨g, rfl⟩ := g.on hb
    clear hb
    go_wp2_with fail
    go_ret
    exact ⟨rfl, g.below1⟩
  | false =>
  rw [hg] at HGR
  cases hmb : mayB r with
  | false =>
    rw [hmb] at HMY HPM
    have HTX := Lib.hid (fun (V : World) (h : RAt V r A1 A2 A3 A4 c1 c2 c3 c4) => text_no r A1 A2 A3 A4 c1 c2 c3 c4 V h hmb)
    clear hs hE hg hmb
    unfold rcells at *
    go_enter Tryz.func3, Tryz.ntmps3
    go_wp2_with fail
    go_at_call 7
    refine (HGR.out _ (HRA.out ⟨_, Below.refl _ _⟩)).mono ?_
    rintro e w1 ⟨rfl, hb⟩
    obtain ⟨g, rfl⟩ := Gr.of hb
    clear hb
    have u0 := HU.out 0 _ rfl g
    have u1 := HU.out 1 _ rfl g
    have u2 := HU.out 2 _ rfl g
    have u3 := HU.out 3 _ rfl g
    have u4 := HU.out 4 _ rfl g
    have u5 := HU.out 5 _ rfl g
    have u6 := HU.out 6 _ rfl g
    have u7 := HU.out 7 _ rfl g
    have u8 := HU.out 8 _ rfl g
    go_wp2_with fail
    go_at_call 9
    refine (HTX.out _ (HRA.out g)).mono ?_
    rintro e w1 ⟨rfl, hb⟩
    obtain ⟨g, rfl⟩ := g.on hb
    clear hb
    clear u0 u1 u2 u3 u4 u5 u6 u7 u8
    go_upto_region 4 with fail
    have u0 := HU.out 0 _ rfl
    have u1 := HU.out 1 _ rfl
    have u2 := HU.out 2 _ rfl
    have u3 := HU.out 3 _ rfl
    have u4 := HU.out 4 _ rfl
    have u5 := HU.out 5 _ rfl
    have u6 := HU.out 6 _ rfl
    have u7 := HU.out 7 _ rfl
    have u8 := HU.out 8 _ rfl
    refine Gr.region (by kernel_rfl) (by kernel_rfl) g.draw ?_
    repeat (go_big_quiet_step ((first
      | (go_at_call 10; exact Gr.calls _ (HPM.out _ (HRA.out _)))
      | (go_at_call 11; exact Gr.calls _ (HMY.out _ (HRA.out _))))))
    refine wpQuiet_nil ?_
    rintro _ ⟨g, rfl⟩
    clear u0 u1 u2 u3 u4 u5 u6 u7 u8
    go_wp2_with fail
    go_at_call 8
    refine (HFX.out _ (HE.out g)).mono ?_
    rintro e w1 ⟨rfl, hb⟩
    obtain ⟨g, rfl⟩ := g.on hb
    clear hb
    go_wp2_with fail
    go_ret
    exact ⟨rfl, g.below1⟩
  | true =>
  rw [hmb] at HMY HPM
  have hm : mayP r := of_decide_eq_true hmb
  have hlen := may_lens hm
  have HTX := Lib.hid (fun (V : World) (h : RAt V r A1 A2 A3 A4 c1 c2 c3 c4) (hE : Env9 V) => text_yes r A1 A2 A3 A4 c1 c2 c3 c4 V h hm hE)
  have HRX := Lib.hid (fun (V : World) (h : RAt V r A1 A2 A3 A4 c1 c2 c3 c4) => rtext_any r A1 A2 A3 A4 c1 c2 c3 c4 V hm ⟨by omega, by omega, by omega, by omega⟩ h)
  have HRD := Lib.hid (fun (V : World) (hE : Env9 V) => read_any (textT r) (text_short hm) V hE)
  rw [readF_text hm] at HRD
  have HS := Lib.hid (fun B1 B2 B3 B4 d1 d2 d3 d4 (V : World) (hb : RAt V r B1 B2 B3 B4 d1 d2 d3 d4) (h : RAt V r A1 A2 A3 A4 c1 c2 c3 c4) => same9_any r r B1 B2 B3 B4 d1 d2 d3 d4 A1 A2 A3 A4 c1 c2 c3 c4 V hb h)
  have HRS := Lib.hid (fun B1 B2 B3 B4 d1 d2 d3 d4 (V : World) (hb : RAt V r B1 B2 B3 B4 d1 d2 d3 d4) (h : RAt V r A1 A2 A3 A4 c1 c2 c3 c4) => rsame9_any r r B1 B2 B3 B4 d1 d2 d3 d4 A1 A2 A3 A4 c1 c2 c3 c4 V hb h)
  have hss : sameB r r = true := decide_eq_true (sameP_iff.2 rfl)
  rw [hss] at HS HRS
  clear hs hE hg hmb hm hlen hss
  generalize textT r = t at *
  unfold rcells at *
  go_enter Tryz.func3, Tryz.ntmps3
  go_wp2_with fail
  go_at_call 7
  refine (HGR.out _ (HRA.out ⟨_, Below.refl _ _⟩)).mono ?_
  rintro e w1 ⟨rfl, hb⟩
  obtain ⟨g, rfl⟩ := Gr.of hb
  clear hb
  have u0 := HU.out 0 _ rfl g
  have u1 := HU.out 1 _ rfl g
  have u2 := HU.out 2 _ rfl g
  have u3 := HU.out 3 _ rfl g
  have u4 := HU.out 4 _ rfl g
  have u5 := HU.out 5 _ rfl g
  have u6 := HU.out 6 _ rfl g
  have u7 := HU.out 7 _ rfl g
  have u8 := HU.out 8 _ rfl g
  go_wp2_with fail
  go_at_call 9
  refine (HTX.out _ (HRA.out g) (HE.out g)).mono ?_
  rintro e w1 ⟨rfl, hb⟩
  obtain ⟨g, rfl⟩ := g.on hb
  clear hb
  clear u0 u1 u2 u3 u4 u5 u6 u7 u8
  go_upto_region 4 with fail
  have u0 := HU.out 0 _ rfl
  have u1 := HU.out 1 _ rfl
  have u2 := HU.out 2 _ rfl
  have u3 := HU.out 3 _ rfl
  have u4 := HU.out 4 _ rfl
  have u5 := HU.out 5 _ rfl
  have u6 := HU.out 6 _ rfl
  have u7 := HU.out 7 _ rfl
  have u8 := HU.out 8 _ rfl
  refine Gr.region (by kernel_rfl) (by kernel_rfl) g.draw ?_
  repeat (go_big_quiet_step ((first
    | (go_at_call 10; exact Gr.calls _ (HPM.out _ (HRA.out _)))
    | (go_at_call 11; exact Gr.calls _ (HMY.out _ (HRA.out _))))))
  refine wpQuiet_nil ?_
  rintro _ ⟨g, rfl⟩
  clear u0 u1 u2 u3 u4 u5 u6 u7 u8
  go_wp2_with fail
  go_at_call 12
  refine (HRD.out _ (HE.out g)).mono ?_
  rintro e w1 ⟨B1, B2, B3, B4, d1, d2, d3, d4, rfl, hra, hb⟩
  obtain ⟨g, rfl⟩ := g.on hb
  clear hb
  have HRB : Hid (∀ g2 : Gr (g.val.alloc (.cells (rcells r B1 B2 B3 B4 d1 d2 d3 d4) 25)), RAt g2.val r B1 B2 B3 B4 d1 d2 d3 d4) := fun g2 => hra.below g2.below1 (Nat.le_refl _)
  have HS1 := Lib.hid (HS.out B1 B2 B3 B4 d1 d2 d3 d4)
  have HRS1 := Lib.hid (HRS.out B1 B2 B3 B4 d1 d2 d3 d4)
  clear hra HS HRS
  unfold rcells at *
  go_wp2_with fail
  go_at_call 8
  refine (HFX.out _ (HE.out (g.upA _))).mono ?_
  rintro e w1 ⟨rfl, hb⟩
  obtain ⟨g2, rfl⟩ := Gr.of hb
  clear hb
  have u0 : g2.val.cell? ⟨w.heap.size, 0, none⟩ = some _ := HU.out 0 _ rfl (g.over g2)
  have u1 : g2.val.cell? ⟨w.heap.size, 1, none⟩ = some _ := HU.out 1 _ rfl (g.over g2)
  have u2 : g2.val.cell? ⟨w.heap.size, 2, none⟩ = some _ := HU.out 2 _ rfl (g.over g2)
  have u3 : g2.val.cell? ⟨w.heap.size, 3, none⟩ = some _ := HU.out 3 _ rfl (g.over g2)
  have u4 : g2.val.cell? ⟨w.heap.size, 4, none⟩ = some _ := HU.out 4 _ rfl (g.over g2)
  have u5 : g2.val.cell? ⟨w.heap.size, 5, none⟩ = some _ := HU.out 5 _ rfl (g.over g2)
  have u6 : g2.val.cell? ⟨w.heap.size, 6, none⟩ = some _ := HU.out 6 _ rfl (g.over g2)
  have u7 : g2.val.cell? ⟨w.heap.size, 7, none⟩ = some _ := HU.out 7 _ rfl (g.over g2)
  have u8 : g2.val.cell? ⟨w.heap.size, 8, none⟩ = some _ := HU.out 8 _ rfl (g.over g2)
  have x0 := box_at (k := 0) rfl g2
  have x1 := box_at (k := 1) rfl g2
  have x2 := box_at (k := 2) rfl g2
  have x3 := box_at (k := 3) rfl g2
  have x4 := box_at (k := 4) rfl g2
  have x5 := box_at (k := 5) rfl g2
  have x6 := box_at (k := 6) rfl g2
  have x7 := box_at (k := 7) rfl g2
  have x8 := box_at (k := 8) rfl g2
  go_wp2_with fail
  go_at_call 13
  refine (HRX.out _ (HRA.out (g.over g2))).mono ?_
  rintro e w1 ⟨rfl, hb⟩
  obtain ⟨g2, rfl⟩ := g2.on hb
  clear hb
  clear u0 u1 u2 u3 u4 u5 u6 u7 u8 x0 x1 x2 x3 x4 x5 x6 x7 x8
  have u0 : g2.val.cell? ⟨w.heap.size, 0, none⟩ = some _ := HU.out 0 _ rfl (g.over g2)
  have u1 : g2.val.cell? ⟨w.heap.size, 1, none⟩ = some _ := HU.out 1 _ rfl (g.over g2)
  have u2 : g2.val.cell? ⟨w.heap.size, 2, none⟩ = some _ := HU.out 2 _ rfl (g.over g2)
  have u3 : g2.val.cell? ⟨w.heap.size, 3, none⟩ = some _ := HU.out 3 _ rfl (g.over g2)
  have u4 : g2.val.cell? ⟨w.heap.size, 4, none⟩ = some _ := HU.out 4 _ rfl (g.over g2)
  have u5 : g2.val.cell? ⟨w.heap.size, 5, none⟩ = some _ := HU.out 5 _ rfl (g.over g2)
  have u6 : g2.val.cell? ⟨w.heap.size, 6, none⟩ = some _ := HU.out 6 _ rfl (g.over g2)
  have u7 : g2.val.cell? ⟨w.heap.size, 7, none⟩ = some _ := HU.out 7 _ rfl (g.over g2)
  have u8 : g2.val.cell? ⟨w.heap.size, 8, none⟩ = some _ := HU.out 8 _ rfl (g.over g2)
  have x0 := box_at (k := 0) rfl g2
  have x1 := box_at (k := 1) rfl g2
  have x2 := box_at (k := 2) rfl g2
  have x3 := box_at (k := 3) rfl g2
  have x4 := box_at (k := 4) rfl g2
  have x5 := box_at (k := 5) rfl g2
  have x6 := box_at (k := 6) rfl g2
  have x7 := box_at (k := 7) rfl g2
  have x8 := box_at (k := 8) rfl g2
  go_wp2_with fail
  go_at_call 14
  refine (HRS1.out _ (HRB.out g2) (HRA.out (g.over g2))).mono ?_
  rintro e w1 ⟨rfl, hb⟩
  obtain ⟨g2, rfl⟩ := g2.on hb
  clear hb
  clear u0 u1 u2 u3 u4 u5 u6 u7 u8 x0 x1 x2 x3 x4 x5 x6 x7 x8
  have u0 : g2.val.cell? ⟨w.heap.size, 0, none⟩ = some _ := HU.out 0 _ rfl (g.over g2)
  have u1 : g2.val.cell? ⟨w.heap.size, 1, none⟩ = some _ := HU.out 1 _ rfl (g.over g2)
  have u2 : g2.val.cell? ⟨w.heap.size, 2, none⟩ = some _ := HU.out 2 _ rfl (g.over g2)
  have u3 : g2.val.cell? ⟨w.heap.size, 3, none⟩ = some _ := HU.out 3 _ rfl (g.over g2)
  have u4 : g2.val.cell? ⟨w.heap.size, 4, none⟩ = some _ := HU.out 4 _ rfl (g.over g2)
  have u5 : g2.val.cell? ⟨w.heap.size, 5, none⟩ = some _ := HU.out 5 _ rfl (g.over g2)
  have u6 : g2.val.cell? ⟨w.heap.size, 6, none⟩ = some _ := HU.out 6 _ rfl (g.over g2)
  have u7 : g2.val.cell? ⟨w.heap.size, 7, none⟩ = some _ := HU.out 7 _ rfl (g.over g2)
  have u8 : g2.val.cell? ⟨w.heap.size, 8, none⟩ = some _ := HU.out 8 _ rfl (g.over g2)
  have x0 := box_at (k := 0) rfl g2
  have x1 := box_at (k := 1) rfl g2
  have x2 := box_at (k := 2) rfl g2
  have x3 := box_at (k := 3) rfl g2
  have x4 := box_at (k := 4) rfl g2
  have x5 := box_at (k := 5) rfl g2
  have x6 := box_at (k := 6) rfl g2
  have x7 := box_at (k := 7) rfl g2
  have x8 := box_at (k := 8) rfl g2
  go_wp2_with fail
  go_at_call 15
  refine (HS1.out _ (HRB.out g2) (HRA.out (g.over g2))).mono ?_
  rintro e w1 ⟨rfl, hb⟩
  obtain ⟨g2, rfl⟩ := g2.on hb
  clear hb
  clear u0 u1 u2 u3 u4 u5 u6 u7 u8 x0 x1 x2 x3 x4 x5 x6 x7 x8
  go_wp2_with fail
  go_ret
  exact ⟨rfl, (g.over g2).below1⟩
end Go.Proofs.YtbclfcghacedfaaGreatDoor
end
