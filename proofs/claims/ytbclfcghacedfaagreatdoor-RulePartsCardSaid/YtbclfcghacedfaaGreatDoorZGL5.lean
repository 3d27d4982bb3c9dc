import Derived.Test.YtbclfcghacedfaaGreatDoorZGL2
import Derived.Test.YtbclfcghacedfaaGreatDoorZQW6
/- The laws' walks: a rule without its rows, and without its end. -/
section
namespace Go.Proofs.YtbclfcghacedfaaGreatDoor
open Go.ChangeShapes Go.WideShapes Go.ChangeAt Go.RowKit Go.Joins Qr Ck Sp

def Gr.upA {w : World} (g : Gr w) (o : Obj) : Gr w := ⟨g.val.alloc o, g.ok.alloc g.ok.size o⟩
def Gr.over {w : World} {o : Obj} (g : Gr w) (g2 : Gr (g.val.alloc o)) : Gr w := ⟨g2.val, g.ok.trans (g2.below1.mono g.ok.size)⟩

theorem less_at {w : World} {r : R} {A1 A2 A3 A4 : Option Addr} {c1 c2 c3 c4 : Nat} (h : RAt w r A1 A2 A3 A4 c1 c2 c3 c4) : RAt w (lessR r) A1 none none none c1 0 0 0 := ⟨h.s1, Sl.none_ _, Sl.none_ _, Sl.none_ _⟩
theorem open_at {w : World} {r : R} {A1 A2 A3 A4 : Option Addr} {c1 c2 c3 c4 : Nat} (h : RAt w r A1 A2 A3 A4 c1 c2 c3 c4) : RAt w (openR r) A1 A2 A3 A4 c1 c2 c3 c4 := ⟨h.s1, h.s2, h.s3, h.s4⟩
theorem sameB_of {a b : R} {d : Bool} (h : d = true ↔ a ≠ b) : sameB a b = !d := by
  cases d with
  | true => exact decide_eq_false (fun hs => h.1 rfl (sameP_iff.1 hs))
  | false => exact decide_eq_true (sameP_iff.2 (Classical.byContradiction fun hn => by cases h.2 hn))

set_option maxRecDepth 100000 in
set_option maxHeartbeats 8000000 in
theorem ruleParts_walk (r : R) (A1 A2 A3 A4 : Option Addr) (c1 c2 c3 c4 : Nat) (w : World) (hs : RAt w r A1 A2 A3 A4 c1 c2 c3 c4) (hE : Env9 w) :
    Calls Tryz.prog 6 #[.agg (rcells r A1 A2 A3 A4 c1 c2 c3 c4)] w fun e w' => e = .returned (.bool true) ∧ Below w.heap.size w w' := by
  have HFX := Lib.hid (fun w hE => fixed9_any w hE)
  have HRA : Hid (∀ g : Gr (w.alloc (.cells (rcells r A1 A2 A3 A4 c1 c2 c3 c4) 25)), RAt g.val r A1 A2 A3 A4 c1 c2 c3 c4) := fun g => hs.below g.below1 (Nat.le_refl _)
  have HE : Hid (∀ g : Gr (w.alloc (.cells (rcells r A1 A2 A3 A4 c1 c2 c3 c4) 25)), Env9 g.val) := fun g => hE.below g.below1
  have HU := Lib.hid (fun (k : Nat) (v : Value) (h : (rcells r A1 A2 A3 A4 c1 c2 c3 c4)[k]? = some v) (g : Gr (w.alloc (.cells (rcells r A1 A2 A3 A4 c1 c2 c3 c4) 25))) => box_at h g)
  have HGR := Lib.hid (fun (V : World) (h : RAt V r A1 A2 A3 A4 c1 c2 c3 c4) => rgreat_any r A1 A2 A3 A4 c1 c2 c3 c4 V h)
  have HMY := Lib.hid (fun (V : World) (h : RAt V r A1 A2 A3 A4 c1 c2 c3 c4) => rmay9_any r A1 A2 A3 A4 c1 c2 c3 c4 V h)
  cases hg : greatB r with
  | true =>
    rw [hg] at HGR
    clear hs hE hg HMY HU
    unfold rcells at *
    go_enter Tryz.func6, Tryz.ntmps6
    go_wp2_with fail
    go_at_call 7
    refine (HGR.out _ (HRA.out ⟨_, Below.refl _ _⟩)).mono ?_
    rintro e w1 ⟨rfl, hb⟩
    obtain ⟨g, rfl⟩ := Gr.of hb
    clear hb
    go_wp2_with fail
    go_at_call 8
    refine (HFX.out _ (HE.out g)).mono ?_
    rintro e w1 ⟨rfl, hb⟩
    obtain ⟨g, rfl⟩ := g.on hb
    clear hb
    go_wp2_with fail
    go_ret
    exact ⟨rfl, g.below1⟩
  | false =>
  rw [hg] at HGR
  cases hmb : mayB r with
  | false =>
    rw [hmb] at HMY
    clear hs hE hg hmb
    unfold rcells at *
    go_enter Tryz.func6, Tryz.ntmps6
    go_wp2_with fail
    go_at_call 7
    refine (HGR.out _ (HRA.out ⟨_, Below.refl _ _⟩)).mono ?_
    rintro e w1 ⟨rfl, hb⟩
    obtain ⟨g, rfl⟩ := Gr.of hb
    clear hb
    have u0 := HU.out 0 _ rfl g
    have u1 := HU.out 1 _ rfl g
    have u2 := HU.out 2 _ rfl g
    have u3 := HU.out 3 _ rfl g
    have u4 := HU.out 4 _ rfl g
    have u5 := HU.out 5 _ rfl g
    have u6 := HU.out 6 _ rfl g
    have u7 := HU.out 7 _ rfl g
    have u8 := HU.out 8 _ rfl g
    go_wp2_with fail
    go_at_call 11
    refine (HMY.out _ (HRA.out g)).mono ?_
    rintro e w1 ⟨rfl, hb⟩
    obtain ⟨g, rfl⟩ := g.on hb
    clear hb
    go_wp2_with fail
    go_at_call 8
    refine (HFX.out _ (HE.out g)).mono ?_
    rintro e w1 ⟨rfl, hb⟩
    obtain ⟨g, rfl⟩ := g.on hb
    clear hb
    go_wp2_with fail
    go_ret
    exact ⟨rfl, g.below1⟩
  | true =>
  rw [hmb] at HMY
  have hm : mayP r := of_decide_eq_true hmb
  have hll := less_len (r := r)
  have hol := open_len hm
  have HT0 := Lib.hid (fun (V : World) (h : RAt V r A1 A2 A3 A4 c1 c2 c3 c4) (hE : Env9 V) => text_yes r A1 A2 A3 A4 c1 c2 c3 c4 V h hm hE)
  have HT1 := Lib.hid (fun (V : World) (h : RAt V r A1 A2 A3 A4 c1 c2 c3 c4) (hE : Env9 V) => text_yes (lessR r) A1 none none none c1 0 0 0 V (less_at h) (may_less hm) hE)
  have HT2 := Lib.hid (fun (V : World) (h : RAt V r A1 A2 A3 A4 c1 c2 c3 c4) (hE : Env9 V) => text_yes (openR r) A1 A2 A3 A4 c1 c2 c3 c4 V (open_at h) (may_open hm) hE)
  have HS1 := Lib.hid (fun (V : World) (h : RAt V r A1 A2 A3 A4 c1 c2 c3 c4) => rsame9_any (lessR r) r A1 none none none c1 0 0 0 A1 A2 A3 A4 c1 c2 c3 c4 V (less_at h) h)
  have HS2 := Lib.hid (fun (V : World) (h : RAt V r A1 A2 A3 A4 c1 c2 c3 c4) => rsame9_any (openR r) r A1 A2 A3 A4 c1 c2 c3 c4 A1 A2 A3 A4 c1 c2 c3 c4 V (open_at h) h)
  have hs1 : sameB (lessR r) r = !decide ((textT (lessR r)).length < (textT r).length) := sameB_of (by rw [decide_eq_true_eq]; exact hll.2)
  have hs2 : sameB (openR r) r = !decide ((textT (openR r)).length < (textT r).length) := sameB_of (by rw [decide_eq_true_eq]; exact hol.2)
  rw [hs1] at HS1
  rw [hs2] at HS2
  have hq1 := hll.1
  have hq2 := hol.1
  clear hll hol hs1 hs2 hm hmb hg hs hE
  generalize textT (lessR r) = t1 at *
  generalize textT (openR r) = t2 at *
  generalize textT r = t0 at *
  have hz1 : (t1.length : Int) ≤ t0.length := by omega
  have hz2 : (t2.length : Int) ≤ t0.length := by omega
  obtain ⟨d1, hd1⟩ : ∃ d, decide ((t1.length : Int) < t0.length) = d := ⟨_, rfl⟩
  obtain ⟨d2, hd2⟩ : ∃ d, decide ((t2.length : Int) < t0.length) = d := ⟨_, rfl⟩
  have e1 : decide (t1.length < t0.length) = d1 := by rw [← hd1, decide_eq_decide]; omega
  have e2 : decide (t2.length < t0.length) = d2 := by rw [← hd2, decide_eq_decide]; omega
  rw [e1] at HS1
  rw [e2] at HS2
  clear hq1 hq2
  unfold rcells lessR openR at *
  simp only [List.length_nil] at HT1 HS1
  go_enter Tryz.func6, Tryz.ntmps6
  go_wp2_with fail
  go_at_call 7
  refine (HGR.out _ (HRA.out ⟨_, Below.refl _ _⟩)).mono ?_
  rintro e w1 ⟨rfl, hb⟩
  obtain ⟨g, rfl⟩ := Gr.of hb
  clear hb
  have u0 := HU.out 0 _ rfl g
  have u1 := HU.out 1 _ rfl g
  have u2 := HU.out 2 _ rfl g
  have u3 := HU.out 3 _ rfl g
  have u4 := HU.out 4 _ rfl g
  have u5 := HU.out 5 _ rfl g
  have u6 := HU.out 6 _ rfl g
  have u7 := HU.out 7 _ rfl g
  have u8 := HU.out 8 _ rfl g
  go_wp2_with fail
  go_at_call 11
  refine (HMY.out _ (HRA.out g)).mono ?_
  rintro e w1 ⟨rfl, hb⟩
  obtain ⟨g, rfl⟩ := g.on hb
  clear hb
  clear u0 u1 u2 u3 u4 u5 u6 u7 u8
  have u0 := HU.out 0 _ rfl g
  have u1 := HU.out 1 _ rfl g
  have u2 := HU.out 2 _ rfl g
  have u3 := HU.out 3 _ rfl g
  have u4 := HU.out 4 _ rfl g
  have u5 := HU.out 5 _ rfl g
  have u6 := HU.out 6 _ rfl g
  have u7 := HU.out 7 _ rfl g
  have u8 := HU.out 8 _ rfl g
  go_wp2_with fail
  go_at_call 9
  refine (HT0.out _ (HRA.out g) (HE.out g)).mono ?_
  rintro e w1 ⟨rfl, hb⟩
  obtain ⟨g, rfl⟩ := g.on hb
  clear hb
  clear u0 u1 u2 u3 u4 u5 u6 u7 u8
  have u0 := HU.out 0 _ rfl g
  have u1 := HU.out 1 _ rfl g
  have u2 := HU.out 2 _ rfl g
  have u3 := HU.out 3 _ rfl g
  have u4 := HU.out 4 _ rfl g
  have u5 := HU.out 5 _ rfl g
  have u6 := HU.out 6 _ rfl g
  have u7 := HU.out 7 _ rfl g
  have u8 := HU.out 8 _ rfl g
  go_wp2_with fail
  go_at_call 9
  refine (HT1.out _ (HRA.out (g.upA _)) (HE.out (g.upA _))).mono ?_
  rintro e w1 ⟨rfl, hb⟩
  obtain ⟨g2, rfl⟩ := Gr.of hb
  clear hb
  clear u0 u1 u2 u3 u4 u5 u6 u7 u8
  have u0 : g2.val.cell? ⟨w.heap.size, 0, none⟩ = some _ := HU.out 0 _ rfl (g.over g2)
  have u1 : g2.val.cell? ⟨w.heap.size, 1, none⟩ = some _ := HU.out 1 _ rfl (g.over g2)
  have u2 : g2.val.cell? ⟨w.heap.size, 2, none⟩ = some _ := HU.out 2 _ rfl (g.over g2)
  have u3 : g2.val.cell? ⟨w.heap.size, 3, none⟩ = some _ := HU.out 3 _ rfl (g.over g2)
  have u4 : g2.val.cell? ⟨w.heap.size, 4, none⟩ = some _ := HU.out 4 _ rfl (g.over g2)
  have u5 : g2.val.cell? ⟨w.heap.size, 5, none⟩ = some _ := HU.out 5 _ rfl (g.over g2)
  have u6 : g2.val.cell? ⟨w.heap.size, 6, none⟩ = some _ := HU.out 6 _ rfl (g.over g2)
  have u7 : g2.val.cell? ⟨w.heap.size, 7, none⟩ = some _ := HU.out 7 _ rfl (g.over g2)
  have u8 : g2.val.cell? ⟨w.heap.size, 8, none⟩ = some _ := HU.out 8 _ rfl (g.over g2)
  have x0 := box_at (k := 0) rfl g2
  have x1 := box_at (k := 1) rfl g2
  have x2 := box_at (k := 2) rfl g2
  have x3 := box_at (k := 3) rfl g2
  have x4 := box_at (k := 4) rfl g2
  have x5 := box_at (k := 5) rfl g2
  have x6 := box_at (k := 6) rfl g2
  have x7 := box_at (k := 7) rfl g2
  have x8 := box_at (k := 8) rfl g2
  go_wp2_with fail
  go_at_call 9
  refine (HT2.out _ (HRA.out ((g.over g2).upA _)) (HE.out ((g.over g2).upA _))).mono ?_
  rintro e w1 ⟨rfl, hb⟩
  obtain ⟨g3, rfl⟩ := Gr.of hb
  clear hb
  clear u0 u1 u2 u3 u4 u5 u6 u7 u8 x0 x1 x2 x3 x4 x5 x6 x7 x8
  cases d1 <;> cases d2 <;> simp only [decide_eq_true_eq, decide_eq_false_iff_not] at hd1 hd2 e1 e2
  all_goals
    go_wp2_with fail
    go_at_call 8
    refine (HFX.out _ (HE.out ((g.over g2).over g3))).mono ?_
    rintro e w1 ⟨rfl, hb⟩
    obtain ⟨g3, rfl⟩ := g3.on hb
    clear hb
    have u0 : g3.val.cell? ⟨w.heap.size, 0, none⟩ = some _ := HU.out 0 _ rfl ((g.over g2).over g3)
    have u1 : g3.val.cell? ⟨w.heap.size, 1, none⟩ = some _ := HU.out 1 _ rfl ((g.over g2).over g3)
    have u2 : g3.val.cell? ⟨w.heap.size, 2, none⟩ = some _ := HU.out 2 _ rfl ((g.over g2).over g3)
    have u3 : g3.val.cell? ⟨w.heap.size, 3, none⟩ = some _ := HU.out 3 _ rfl ((g.over g2).over g3)
    have u4 : g3.val.cell? ⟨w.heap.size, 4, none⟩ = some _ := HU.out 4 _ rfl ((g.over g2).over g3)
    have u5 : g3.val.cell? ⟨w.heap.size, 5, none⟩ = some _ := HU.out 5 _ rfl ((g.over g2).over g3)
    have u6 : g3.val.cell? ⟨w.heap.size, 6, none⟩ = some _ := HU.out 6 _ rfl ((g.over g2).over g3)
    have u7 : g3.val.cell? ⟨w.heap.size, 7, none⟩ = some _ := HU.out 7 _ rfl ((g.over g2).over g3)
    have u8 : g3.val.cell? ⟨w.heap.size, 8, none⟩ = some _ := HU.out 8 _ rfl ((g.over g2).over g3)
    have x0 : g3.val.cell? ⟨g.val.heap.size, 0, none⟩ = some _ := box_at (k := 0) rfl (g2.over g3)
    have x1 : g3.val.cell? ⟨g.val.heap.size, 1, none⟩ = some _ := box_at (k := 1) rfl (g2.over g3)
    have x2 : g3.val.cell? ⟨g.val.heap.size, 2, none⟩ = some _ := box_at (k := 2) rfl (g2.over g3)
    have x3 : g3.val.cell? ⟨g.val.heap.size, 3, none⟩ = some _ := box_at (k := 3) rfl (g2.over g3)
    have x4 : g3.val.cell? ⟨g.val.heap.size, 4, none⟩ = some _ := box_at (k := 4) rfl (g2.over g3)
    have x5 : g3.val.cell? ⟨g.val.heap.size, 5, none⟩ = some _ := box_at (k := 5) rfl (g2.over g3)
    have x6 : g3.val.cell? ⟨g.val.heap.size, 6, none⟩ = some _ := box_at (k := 6) rfl (g2.over g3)
    have x7 : g3.val.cell? ⟨g.val.heap.size, 7, none⟩ = some _ := box_at (k := 7) rfl (g2.over g3)
    have x8 : g3.val.cell? ⟨g.val.heap.size, 8, none⟩ = some _ := box_at (k := 8) rfl (g2.over g3)
    go_wp2_with fail
    go_at_call 14
    refine (HS1.out _ (HRA.out ((g.over g2).over g3))).mono ?_
    rintro e w1 ⟨rfl, hb⟩
    obtain ⟨g3, rfl⟩ := g3.on hb
    clear hb
    clear u0 u1 u2 u3 u4 u5 u6 u7 u8 x0 x1 x2 x3 x4 x5 x6 x7 x8
    have u0 : g3.val.cell? ⟨w.heap.size, 0, none⟩ = some _ := HU.out 0 _ rfl ((g.over g2).over g3)
    have u1 : g3.val.cell? ⟨w.heap.size, 1, none⟩ = some _ := HU.out 1 _ rfl ((g.over g2).over g3)
    have u2 : g3.val.cell? ⟨w.heap.size, 2, none⟩ = some _ := HU.out 2 _ rfl ((g.over g2).over g3)
    have u3 : g3.val.cell? ⟨w.heap.size, 3, none⟩ = some _ := HU.out 3 _ rfl ((g.over g2).over g3)
    have u4 : g3.val.cell? ⟨w.heap.size, 4, none⟩ = some _ := HU.out 4 _ rfl ((g.over g2).over g3)
    have u5 : g3.val.cell? ⟨w.heap.size, 5, none⟩ = some _ := HU.out 5 _ rfl ((g.over g2).over g3)
    have u6 : g3.val.cell? ⟨w.heap.size, 6, none⟩ = some _ := HU.out 6 _ rfl ((g.over g2).over g3)
    have u7 : g3.val.cell? ⟨w.heap.size, 7, none⟩ = some _ := HU.out 7 _ rfl ((g.over g2).over g3)
    have u8 : g3.val.cell? ⟨w.heap.size, 8, none⟩ = some _ := HU.out 8 _ rfl ((g.over g2).over g3)
    have x0 : g3.val.cell? ⟨g2.val.heap.size, 0, none⟩ = some _ := box_at (k := 0) rfl (g3)
    have x1 : g3.val.cell? ⟨g2.val.heap.size, 1, none⟩ = some _ := box_at (k := 1) rfl (g3)
    have x2 : g3.val.cell? ⟨g2.val.heap.size, 2, none⟩ = some _ := box_at (k := 2) rfl (g3)
    have x3 : g3.val.cell? ⟨g2.val.heap.size, 3, none⟩ = some _ := box_at (k := 3) rfl (g3)
    have x4 : g3.val.cell? ⟨g2.val.heap.size, 4, none⟩ = some _ := box_at (k := 4) rfl (g3)
    have x5 : g3.val.cell? ⟨g2.val.heap.size, 5, none⟩ = some _ := box_at (k := 5) rfl (g3)
    have x6 : g3.val.cell? ⟨g2.val.heap.size, 6, none⟩ = some _ := box_at (k := 6) rfl (g3)
    have x7 : g3.val.cell? ⟨g2.val.heap.size, 7, none⟩ = some _ := box_at (k := 7) rfl (g3)
    have x8 : g3.val.cell? ⟨g2.val.heap.size, 8, none⟩ = some _ := box_at (k := 8) rfl (g3)
    go_wp2_with fail
    go_at_call 14
    refine (HS2.out _ (HRA.out ((g.over g2).over g3))).mono ?_
    rintro e w1 ⟨rfl, hb⟩
    obtain ⟨g3, rfl⟩ := g3.on hb
    clear hb
    go_wp2_with fail
    go_ret
    exact ⟨rfl, ((g.over g2).over g3).below1⟩
end Go.Proofs.YtbclfcghacedfaaGreatDoor
end
