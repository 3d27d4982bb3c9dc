/- The statement HoursMore, walked. -/
import Derived.Test.YtkfmigpdmolmaaaHL5
import Derived.Test.YtkfmigpdmolmaaaHP4
import Derived.Deep.Cut
namespace Go.Proofs.Ytkfmigpdmolmaaa
open Go.ChangeShapes Go.WideShapes Go.ChangeAt Go.RowKit Go.Joins Hr Zn Sp

set_option maxRecDepth 100000 in
set_option maxHeartbeats 8000000 in
theorem hoursMore_any (z : Z) (A : Option Addr) (c : Nat) (h : H) (A1 A2 : Option Addr) (c1 c2 : Nat) (x1 x2 x3 off utc : Int) (hzw : ZWf z) (w : World) (hz : ZAt w A z) (hs : HAt w h A1 A2 c1 c2) :
    Calls Try.prog 6 #[.agg #[.int .i64 z.base, .slice A z.n c], .agg #[.slice A1 h.shifts.length c1, .slice A2 h.off.length c2], .agg #[.int .i64 x1, .int .i64 x2, .int .i64 x3], .int .i64 off, .int .i64 utc] w fun e w' => e = .returned (.bool true) ∧ Below w.heap.size w w' := by
  obtain ⟨W1, hW1⟩ : ∃ W1, ((w.alloc (.cells #[.int .i64 z.base, .slice A z.n c] 24)).alloc (.cells #[.slice A1 h.shifts.length c1, .slice A2 h.off.length c2] 28)).alloc (.cells #[.int .i64 x1, .int .i64 x2, .int .i64 x3] 44) = W1 := ⟨_, rfl⟩
  have hW0 : Below w.heap.size w W1 := by rw [← hW1]; exact (((Below.refl _ _).alloc (Nat.le_refl _) _).alloc (by simp) _).alloc (by simp; omega) _
  have hG : ∀ V : World, Below W1.heap.size W1 V → Below w.heap.size w V := fun V q => hW0.trans (q.mono hW0.size)
  have HGR := Lib.hid (fun G : Gr W1 => great12_any z A c h A1 A2 c1 c2 hzw.2.1 (Nat.le_trans hs.s1.le hs.s1.cap) (Nat.le_trans hs.s2.le hs.s2.cap) G.val)
  have HFX := Lib.hid (fun G : Gr W1 => fixed12_any G.val)
  have HM2 := Lib.hid (fun G : Gr W1 => rmay12_any h A1 A2 c1 c2 G.val (hs.below (hG _ G.ok)))
  have HMX := Lib.hid (fun (h' : H) (B1 B2 : Option Addr) (d1 d2 : Nat) (G : World) (hs' : HAt G h' B1 B2 d1 d2) => rmay12_any h' B1 B2 d1 d2 G hs')
  have HWX := Lib.hid (fun (h' : H) (B1 B2 : Option Addr) (d1 d2 : Nat) (G : Gr W1) (hs' : HAt G.val h' B1 B2 d1 d2) => pworks_any z A c h' B1 B2 d1 d2 utc G.val hzw (hz.below (hG _ G.ok)) hs')
  have HHS := Lib.hid (fun G : Gr W1 => hs.below (hG _ G.ok))
  have HZ0 : Hid (∀ V : World, Below W1.heap.size W1 V → V.cell? ⟨w.heap.size, 0, none⟩ = some (.int .i64 z.base) ∧ V.cell? ⟨w.heap.size, 1, none⟩ = some (.slice A z.n c) ∧ V.cell? ⟨w.heap.size + 1, 0, none⟩ = some (.slice A1 h.shifts.length c1) ∧ V.cell? ⟨w.heap.size + 1, 1, none⟩ = some (.slice A2 h.off.length c2) ∧ V.cell? ⟨w.heap.size + 2, 0, none⟩ = some (.int .i64 x1) ∧ V.cell? ⟨w.heap.size + 2, 1, none⟩ = some (.int .i64 x2) ∧ V.cell? ⟨w.heap.size + 2, 2, none⟩ = some (.int .i64 x3)) := fun V hV => by
    refine ⟨cell_old ?_ hV, cell_old ?_ hV, cell_old ?_ hV, cell_old ?_ hV, cell_old ?_ hV, cell_old ?_ hV, cell_old ?_ hV⟩
    all_goals (rw [← hW1]; simp [go_sem])
  have HG := Lib.hid hG
  have E1 := Lib.hid hW1
  obtain ⟨k1, k2, k3, k4, k5, k6, k7⟩ := HZ0.out W1 (Below.refl _ _)
  have HMI := Lib.hid (Iff.intro (fun q : Hr.mayH h => may_yes q) (fun q : mayHB h = true => of_decide_eq_true q))
  clear hW1 hW0 hG hs hz hzw
  obtain ⟨bh, hbh⟩ : ∃ bh, mayHB h = bh := ⟨_, rfl⟩
  rw [hbh] at HM2 HMI
  have hways : decide (8 < z.n ∨ 20 < h.shifts.length ∨ 100 < h.off.length) = true ∨ decide (8 < z.n ∨ 20 < h.shifts.length ∨ 100 < h.off.length) = false ∧ bh = false ∨ decide (8 < z.n ∨ 20 < h.shifts.length ∨ 100 < h.off.length) = false ∧ bh = true := by
    cases decide (8 < z.n ∨ 20 < h.shifts.length ∨ 100 < h.off.length) <;> cases bh <;> simp
  have HBH := Lib.hid hbh
  clear hbh
  rcases hways with q | ⟨q, rfl⟩ | ⟨q, rfl⟩
  · rw [q] at HGR
    clear q
    go_enter Try.func6, Try.ntmps6
    go_upto_region 1 with fail
    rw [E1.out]
    go_wp2_with fail
    go_at_call 8
    refine (HGR.out ⟨W1, Below.refl _ _⟩).mono ?_
    rintro e w2 ⟨rfl, hb⟩
    obtain ⟨g, rfl⟩ : ∃ g : Gr W1, w2 = g.val := ⟨⟨w2, hb⟩, rfl⟩
    clear hb
    go_wp2_with fail
    go_at_call 9
    refine (HFX.out g).mono ?_
    rintro e w2 ⟨rfl, hb⟩
    obtain ⟨g2, rfl⟩ := g.on hb
    clear hb
    go_wp2_with fail
    go_ret
    exact ⟨rfl, HG.out _ g2.ok⟩
  · rw [q] at HGR
    clear q
    go_enter Try.func6, Try.ntmps6
    go_upto_region 1 with fail
    rw [E1.out]
    go_wp2_with fail
    go_at_call 8
    refine (HGR.out ⟨W1, Below.refl _ _⟩).mono ?_
    rintro e w2 ⟨rfl, hb⟩
    obtain ⟨g, rfl⟩ : ∃ g : Gr W1, w2 = g.val := ⟨⟨w2, hb⟩, rfl⟩
    clear hb k1 k2 k3 k4 k5 k6 k7
    obtain ⟨k1, k2, k3, k4, k5, k6, k7⟩ := HZ0.out _ g.ok
    go_wp2_with fail
    go_at_call 11
    refine (HM2.out g).mono ?_
    rintro e w2 ⟨rfl, hb⟩
    obtain ⟨g, rfl⟩ := g.on hb
    clear hb k1 k2 k3 k4 k5 k6 k7
    obtain ⟨k1, k2, k3, k4, k5, k6, k7⟩ := HZ0.out _ g.ok
    go_wp2_with fail
    go_at_call 9
    refine (HFX.out g).mono ?_
    rintro e w2 ⟨rfl, hb⟩
    obtain ⟨g2, rfl⟩ := g.on hb
    clear hb
    go_wp2_with fail
    go_ret
    exact ⟨rfl, HG.out _ g2.ok⟩
  · rw [q] at HGR
    clear q
    go_enter Try.func6, Try.ntmps6
    go_upto_region 1 with fail
    rw [E1.out]
    go_wp2_with fail
    go_at_call 8
    refine (HGR.out ⟨W1, Below.refl _ _⟩).mono ?_
    rintro e w2 ⟨rfl, hb⟩
    obtain ⟨g, rfl⟩ : ∃ g : Gr W1, w2 = g.val := ⟨⟨w2, hb⟩, rfl⟩
    clear hb k1 k2 k3 k4 k5 k6 k7
    obtain ⟨k1, k2, k3, k4, k5, k6, k7⟩ := HZ0.out _ g.ok
    go_wp2_with fail
    go_at_call 11
    refine (HM2.out g).mono ?_
    rintro e w2 ⟨rfl, hb⟩
    obtain ⟨g, rfl⟩ := g.on hb
    clear hb k1 k2 k3 k4 k5 k6 k7
    obtain ⟨k1, k2, k3, k4, k5, k6, k7⟩ := HZ0.out _ g.ok
    go_wp2_with fail
    have hm : Hr.mayH h := of_decide_eq_true HBH.out
    have HH := Lib.hid hm
    have hl10 : h.shifts.length ≤ 10 := hm.1
    have hl60 : h.off.length ≤ 60 := hm.2.1
    clear hm HMI HM2 HGR
    obtain ⟨i0, hi0, hq0, hq1, hq2⟩ := info_parts shift_info
    have HSLV : Hid (∀ V : World, Below W1.heap.size W1 V → Sl V A1 h.shifts.length c1 (tv h.shifts)) := fun V q => (HHS.out ⟨V, q⟩).s1
    have HKP : Hid (∀ V : World, Below W1.heap.size W1 V → V.cell? ⟨w.heap.size + 1, 0, none⟩ = some (.slice A1 h.shifts.length c1) ∧ V.cell? ⟨w.heap.size + 1, 1, none⟩ = some (.slice A2 h.off.length c2) ∧ V.cell? ⟨w.heap.size + 2, 0, none⟩ = some (.int .i64 x1) ∧ V.cell? ⟨w.heap.size + 2, 1, none⟩ = some (.int .i64 x2) ∧ V.cell? ⟨w.heap.size + 2, 2, none⟩ = some (.int .i64 x3)) := fun V q => (HZ0.out V q).2.2
    have ht1 := Lib.hid (tv_one (l := h.shifts))
    have hmx1 : 0 + h.shifts.length ≤ maxLen := by unfold maxLen; omega
    have hby1 : (0 + h.shifts.length) * 24 ≤ 140737488355328 := by omega
    have hmx2 : 0 + h.shifts.length + 1 ≤ maxLen := by unfold maxLen; omega
    have hby2 : (0 + h.shifts.length + 1) * 24 ≤ 140737488355328 := by omega
    have HGO := Lib.hid g.ok
    have HGS := Lib.hid g.size
    clear k1 k2 k3 k4 k5 k6 k7
    go_cut [11] from 25 (fun s11 wc => ∃ (nb : Nat) (B1 : Option Addr) (cm : Nat) (G : Gr W1), wc = G.val ∧ s11 = .pointer (some ⟨nb, 0, none⟩) ∧ Hid (W1.heap.size ≤ nb ∧ G.val.heap[nb]? = some (.cells #[.slice B1 (h.shifts.length + 1) cm, .slice A2 h.off.length c2] 28 (0, 0))) ∧ Hid (Sl G.val B1 (h.shifts.length + 1) cm (tv (h.shifts ++ [(x1, x2, x3)]))))
    case first =>
      go_region_held3 (fun V => V.cell? ⟨w.heap.size + 1, 0, none⟩ = some (.slice A1 h.shifts.length c1) ∧ V.cell? ⟨w.heap.size + 1, 1, none⟩ = some (.slice A2 h.off.length c2) ∧ V.cell? ⟨w.heap.size + 2, 0, none⟩ = some (.int .i64 x1) ∧ V.cell? ⟨w.heap.size + 2, 1, none⟩ = some (.int .i64 x2) ∧ V.cell? ⟨w.heap.size + 2, 2, none⟩ = some (.int .i64 x3))
        ((refine HKP.out _ ?_; (repeat (first | exact HBB.out | exact HBA.out | exact HGO.out | refine Below.drew ?_ | refine below_al ?_ _ | (refine Below.setCell ?_ ?_ _; rotate_left; (focus (have q1 := HGS.out; have q2 := HBA.out.size; have q3 := HBB.out.size; (simp <;> omega); done)))))))
        (first
          | ((refine step_append_sl (by rfl) _ _ _ (by rfl) g.val.heap.size 44 i0 _ 3 24 Try.underlying25 hi0 hq0 hq1 hq2 rfl (by decide) _ 0 [] (by rfl) (own_mk (by simp) (by omega) (by (repeat (first | (refine heap_new_at _ _ _ ?_; (focus (simp [World.drew]; done))) | rw [drew_heap] | (rw [heap_alloc_old]; rotate_left; (focus ((simp [World.drew] <;> omega); done)))))) (Nat.le_refl _) (by decide) rfl rfl) A1 h.shifts.length c1 (tv h.shifts) (by rfl) (HSLV.out _ (by (repeat (first | exact HBB.out | exact HBA.out | exact HGO.out | refine Below.drew ?_ | refine below_al ?_ _ | (refine Below.setCell ?_ ?_ _; rotate_left; (focus (have q1 := HGS.out; have q2 := HBA.out.size; have q3 := HBB.out.size; (simp <;> omega); done))))))) (tv_len _) ht1.out hmx1 hby1 (by simp [World.drew] <;> omega) ?_); intro v1 w1 hown1 hgr1 hat1; have HBA : Hid (Below W1.heap.size W1 w1) := Below.grown (by (repeat (first | exact HBB.out | exact HBA.out | exact HGO.out | refine Below.drew ?_ | refine below_al ?_ _ | (refine Below.setCell ?_ ?_ _; rotate_left; (focus (have q1 := HGS.out; have q2 := HBA.out.size; have q3 := HBB.out.size; (simp <;> omega); done)))))) hgr1 (by have := HGS.out; simp [World.drew] <;> omega) (fun kk hk => by simp [Value.ownBlock] at hk; have := HGS.out; omega))
          | ((refine step_append_lies _ (by rfl) _ _ _ (by rfl) g.val.heap.size 44 i0 _ 3 24 Try.underlying25 hi0 hq0 hq1 hq2 rfl (by decide) v1 (0 + h.shifts.length) _ (by rfl) (by first | exact hown1 | exact own_keep hown1 (by (repeat (first | exact Below.refl _ _ | refine below_al ?_ _)))) _ 1 1 [.int .i64 x1, .int .i64 x2, .int .i64 x3] (by rfl) (by rfl) (World.news_of_block (cs := #[.int .i64 x1, .int .i64 x2, .int .i64 x3]) (t := 44) (fr := (0, 0)) (by (repeat (first | (refine heap_new_at _ _ _ ?_; (focus (simp [World.drew]; done))) | rw [drew_heap] | (rw [hgr1.block]; rotate_left; (focus (have hz1 := hgr1.size; (simp [World.drew] at hz1 ⊢ <;> omega); done)); (focus ((simp [Value.ownBlock] <;> omega); done))) | (rw [heap_alloc_old]; rotate_left; (focus (have hz1 := hgr1.size; (simp [World.drew] at hz1 ⊢ <;> omega); done))))))) (by simp [Value.oneCell']) (Nat.lt_succ_self 0) hmx2 hby2 (by have h1 := HGS.out; have h2 := hgr1.size; simp [World.drew] at h2 ⊢ <;> omega) _ rfl ?_); intro gg cap2 w2 hown2 hgr2 hat2 hlt2; have HBB : Hid (Below W1.heap.size W1 w2) := Below.grown (by (repeat (first | exact HBB.out | exact HBA.out | exact HGO.out | refine Below.drew ?_ | refine below_al ?_ _ | (refine Below.setCell ?_ ?_ _; rotate_left; (focus (have q1 := HGS.out; have q2 := HBA.out.size; have q3 := HBB.out.size; (simp <;> omega); done)))))) hgr2 (by have h1 := HBA.out.size; simp <;> omega) (fun kk hk => (by have h1 := (hown1.lt kk hk).1; have h2 := HGS.out; omega)); have HOW := Lib.hid (more_own hown2); (first | (refine (have hbx : w2.heap[g.val.heap.size]? = some (.cells #[.slice none 0 0, .slice none 0 0] 28 (0, 0)) := ?_; ?_); (focus ((repeat (first | (refine heap_new_at _ _ _ ?_; (focus (simp [World.drew]; done))) | rw [drew_heap] | (rw [hgr2.block]; rotate_left; (focus (have hz1 := hgr1.size; have hz2 := hgr2.size; (simp [World.drew] at hz1 hz2 ⊢ <;> omega); done)); (focus (intro e; have h5 := (hown1.lt _ e.symm).2; have hz1 := hgr1.size; rcases hat1 with q | q <;> (rw [q] at e; simp [Value.ownBlock, World.drew] at e hz1 h5 <;> omega); done))) | (rw [hgr1.block]; rotate_left; (focus (have hz1 := hgr1.size; have hz2 := hgr2.size; (simp [World.drew] at hz1 hz2 ⊢ <;> omega); done)); (focus ((simp [Value.ownBlock] <;> omega); done))) | (rw [heap_alloc_old]; rotate_left; (focus (have hz1 := hgr1.size; have hz2 := hgr2.size; (simp [World.drew] at hz1 hz2 ⊢ <;> omega); done))))); done)); have cbx0 : w2.cell? ⟨g.val.heap.size, 0, none⟩ = some (.slice none 0 0) := blk_cell hbx rfl; have cbx1 : w2.cell? ⟨g.val.heap.size, 1, none⟩ = some (.slice none 0 0) := blk_cell hbx rfl; have cbxf : ∀ i, w2.frozen? ⟨g.val.heap.size, i, none⟩ = false := fun i => blk_free hbx i; have HBX := Lib.hid hbx; have HNB : Hid (W1.heap.size ≤ g.val.heap.size) := (by have q1 := HGS.out; have q2 := HBA.out.size; show _ ≤ _; omega); clear hbx) | skip); (first | (refine (have hbx : w2.heap[(g.val.heap.size + 1)]? = some (.cells #[.slice none 0 0, .slice none 0 0] 28 (0, 0)) := ?_; ?_); (focus ((repeat (first | (refine heap_new_at _ _ _ ?_; (focus (simp [World.drew]; done))) | rw [drew_heap] | (rw [hgr2.block]; rotate_left; (focus (have hz1 := hgr1.size; have hz2 := hgr2.size; (simp [World.drew] at hz1 hz2 ⊢ <;> omega); done)); (focus (intro e; have h5 := (hown1.lt _ e.symm).2; have hz1 := hgr1.size; rcases hat1 with q | q <;> (rw [q] at e; simp [Value.ownBlock, World.drew] at e hz1 h5 <;> omega); done))) | (rw [hgr1.block]; rotate_left; (focus (have hz1 := hgr1.size; have hz2 := hgr2.size; (simp [World.drew] at hz1 hz2 ⊢ <;> omega); done)); (focus ((simp [Value.ownBlock] <;> omega); done))) | (rw [heap_alloc_old]; rotate_left; (focus (have hz1 := hgr1.size; have hz2 := hgr2.size; (simp [World.drew] at hz1 hz2 ⊢ <;> omega); done))))); done)); have cbx0 : w2.cell? ⟨(g.val.heap.size + 1), 0, none⟩ = some (.slice none 0 0) := blk_cell hbx rfl; have cbx1 : w2.cell? ⟨(g.val.heap.size + 1), 1, none⟩ = some (.slice none 0 0) := blk_cell hbx rfl; have cbxf : ∀ i, w2.frozen? ⟨(g.val.heap.size + 1), i, none⟩ = false := fun i => blk_free hbx i; have HBX := Lib.hid hbx; have HNB : Hid (W1.heap.size ≤ (g.val.heap.size + 1)) := (by have q1 := HGS.out; have q2 := HBA.out.size; show _ ≤ _; omega); clear hbx) | skip); (first | (refine (have hbx : w2.heap[(g.val.heap.size + 1 + 1)]? = some (.cells #[.slice none 0 0, .slice none 0 0] 28 (0, 0)) := ?_; ?_); (focus ((repeat (first | (refine heap_new_at _ _ _ ?_; (focus (simp [World.drew]; done))) | rw [drew_heap] | (rw [hgr2.block]; rotate_left; (focus (have hz1 := hgr1.size; have hz2 := hgr2.size; (simp [World.drew] at hz1 hz2 ⊢ <;> omega); done)); (focus (intro e; have h5 := (hown1.lt _ e.symm).2; have hz1 := hgr1.size; rcases hat1 with q | q <;> (rw [q] at e; simp [Value.ownBlock, World.drew] at e hz1 h5 <;> omega); done))) | (rw [hgr1.block]; rotate_left; (focus (have hz1 := hgr1.size; have hz2 := hgr2.size; (simp [World.drew] at hz1 hz2 ⊢ <;> omega); done)); (focus ((simp [Value.ownBlock] <;> omega); done))) | (rw [heap_alloc_old]; rotate_left; (focus (have hz1 := hgr1.size; have hz2 := hgr2.size; (simp [World.drew] at hz1 hz2 ⊢ <;> omega); done))))); done)); have cbx0 : w2.cell? ⟨(g.val.heap.size + 1 + 1), 0, none⟩ = some (.slice none 0 0) := blk_cell hbx rfl; have cbx1 : w2.cell? ⟨(g.val.heap.size + 1 + 1), 1, none⟩ = some (.slice none 0 0) := blk_cell hbx rfl; have cbxf : ∀ i, w2.frozen? ⟨(g.val.heap.size + 1 + 1), i, none⟩ = false := fun i => blk_free hbx i; have HBX := Lib.hid hbx; have HNB : Hid (W1.heap.size ≤ (g.val.heap.size + 1 + 1)) := (by have q1 := HGS.out; have q2 := HBA.out.size; show _ ≤ _; omega); clear hbx) | skip); (first | (refine (have hbx : w2.heap[w1.heap.size]? = some (.cells #[.slice none 0 0, .slice none 0 0] 28 (0, 0)) := ?_; ?_); (focus ((repeat (first | (refine heap_new_at _ _ _ ?_; (focus (simp [World.drew]; done))) | rw [drew_heap] | (rw [hgr2.block]; rotate_left; (focus (have hz1 := hgr1.size; have hz2 := hgr2.size; (simp [World.drew] at hz1 hz2 ⊢ <;> omega); done)); (focus (intro e; have h5 := (hown1.lt _ e.symm).2; have hz1 := hgr1.size; rcases hat1 with q | q <;> (rw [q] at e; simp [Value.ownBlock, World.drew] at e hz1 h5 <;> omega); done))) | (rw [hgr1.block]; rotate_left; (focus (have hz1 := hgr1.size; have hz2 := hgr2.size; (simp [World.drew] at hz1 hz2 ⊢ <;> omega); done)); (focus ((simp [Value.ownBlock] <;> omega); done))) | (rw [heap_alloc_old]; rotate_left; (focus (have hz1 := hgr1.size; have hz2 := hgr2.size; (simp [World.drew] at hz1 hz2 ⊢ <;> omega); done))))); done)); have cbx0 : w2.cell? ⟨w1.heap.size, 0, none⟩ = some (.slice none 0 0) := blk_cell hbx rfl; have cbx1 : w2.cell? ⟨w1.heap.size, 1, none⟩ = some (.slice none 0 0) := blk_cell hbx rfl; have cbxf : ∀ i, w2.frozen? ⟨w1.heap.size, i, none⟩ = false := fun i => blk_free hbx i; have HBX := Lib.hid hbx; have HNB : Hid (W1.heap.size ≤ w1.heap.size) := (by have q1 := HGS.out; have q2 := HBA.out.size; show _ ≤ _; omega); clear hbx) | skip); (first | (refine (have hbx : w2.heap[(w1.heap.size + 1)]? = some (.cells #[.slice none 0 0, .slice none 0 0] 28 (0, 0)) := ?_; ?_); (focus ((repeat (first | (refine heap_new_at _ _ _ ?_; (focus (simp [World.drew]; done))) | rw [drew_heap] | (rw [hgr2.block]; rotate_left; (focus (have hz1 := hgr1.size; have hz2 := hgr2.size; (simp [World.drew] at hz1 hz2 ⊢ <;> omega); done)); (focus (intro e; have h5 := (hown1.lt _ e.symm).2; have hz1 := hgr1.size; rcases hat1 with q | q <;> (rw [q] at e; simp [Value.ownBlock, World.drew] at e hz1 h5 <;> omega); done))) | (rw [hgr1.block]; rotate_left; (focus (have hz1 := hgr1.size; have hz2 := hgr2.size; (simp [World.drew] at hz1 hz2 ⊢ <;> omega); done)); (focus ((simp [Value.ownBlock] <;> omega); done))) | (rw [heap_alloc_old]; rotate_left; (focus (have hz1 := hgr1.size; have hz2 := hgr2.size; (simp [World.drew] at hz1 hz2 ⊢ <;> omega); done))))); done)); have cbx0 : w2.cell? ⟨(w1.heap.size + 1), 0, none⟩ = some (.slice none 0 0) := blk_cell hbx rfl; have cbx1 : w2.cell? ⟨(w1.heap.size + 1), 1, none⟩ = some (.slice none 0 0) := blk_cell hbx rfl; have cbxf : ∀ i, w2.frozen? ⟨(w1.heap.size + 1), i, none⟩ = false := fun i => blk_free hbx i; have HBX := Lib.hid hbx; have HNB : Hid (W1.heap.size ≤ (w1.heap.size + 1)) := (by have q1 := HGS.out; have q2 := HBA.out.size; show _ ≤ _; omega); clear hbx) | skip)))
      all_goals
        go_wp2_with fail
        go_meet
        case rel =>
          first
          | (have fin := more_fin (y := .slice A2 h.off.length c2) HBB.out HNB.out HBX.out HOW.out; exact ⟨_, _, _, ⟨_, fin.1⟩, rfl, rfl, ⟨HNB.out, fin.2.1⟩, fin.2.2⟩)
          | exact ⟨_, _, _, ⟨_, below_al HBB.out _⟩, rfl, rfl, ⟨HBB.out.size, heap_new_at _ _ _ rfl⟩, Sl.own_ (own_keep HOW.out (below_al (Below.refl _ _) _))⟩
    case rest =>
      obtain ⟨nb, B1, cm, G, rfl, rfl, HNB, HSM⟩ := hcut
      have hN1 := HNB.out.1
      have hN2 := HNB.out.2
      have hlm : (h.shifts ++ [(x1, x2, x3)]).length = h.shifts.length + 1 := by simp
      obtain ⟨mo, hmo⟩ : ∃ mo : H, (⟨h.shifts ++ [(x1, x2, x3)], h.off⟩ : H) = mo := ⟨_, rfl⟩
      have hat : ∀ V : World, Below G.val.heap.size G.val V → Sl V B1 (h.shifts.length + 1) cm (tv (h.shifts ++ [(x1, x2, x3)])) := fun V q => HSM.out.below q (Nat.le_refl _)
      have HMM : Hid (∀ g2 : Gr G.val, Calls Try.prog 11 #[.agg #[.slice B1 (h.shifts.length + 1) cm, .slice A2 h.off.length c2]] g2.val fun e w' => e = .returned (.bool (mayHB mo)) ∧ Below g2.val.heap.size g2.val w') := fun g2 => by
        have := HMX.out mo B1 A2 cm c2 g2.val ⟨by rw [← hmo]; simp only; rw [hlm]; exact hat _ g2.ok, by rw [← hmo]; exact (HHS.out ⟨_, G.ok.trans (g2.ok.mono G.size)⟩).s2⟩
        rw [← hmo] at this ⊢
        simp only at this
        rwa [hlm] at this
      have HMW : Hid (∀ g2 : Gr G.val, Calls Try.prog 16 #[.agg #[.int .i64 z.base, .slice A z.n c], .agg #[.slice B1 (h.shifts.length + 1) cm, .slice A2 h.off.length c2], .int .i64 utc] g2.val fun e w' => e = .returned (.bool (mayHB mo && mayB z && worksB mo (Zn.off z) utc)) ∧ Below g2.val.heap.size g2.val w') := fun g2 => by
        have := HWX.out mo B1 A2 cm c2 ⟨_, G.ok.trans (g2.ok.mono G.size)⟩ ⟨by rw [← hmo]; simp only; rw [hlm]; exact hat _ g2.ok, by rw [← hmo]; exact (HHS.out ⟨_, G.ok.trans (g2.ok.mono G.size)⟩).s2⟩
        rw [← hmo] at this ⊢
        simp only at this
        rwa [hlm] at this
      have HWH : Hid (∀ g2 : Gr W1, Calls Try.prog 16 #[.agg #[.int .i64 z.base, .slice A z.n c], .agg #[.slice A1 h.shifts.length c1, .slice A2 h.off.length c2], .int .i64 utc] g2.val fun e w' => e = .returned (.bool (mayB z && worksB h (Zn.off z) utc)) ∧ Below g2.val.heap.size g2.val w') := fun g2 => by
        have := HWX.out h A1 A2 c1 c2 g2 (HHS.out g2)
        rw [HBH.out, Bool.true_and] at this
        exact this
      have HMO : Hid (mayHB mo = true → (mayB z && worksB h (Zn.off z) utc) = true → (mayHB mo && mayB z && worksB mo (Zn.off z) utc) = true) := fun q1 q2 => by
        rw [Bool.and_eq_true] at q2
        rw [q1, q2.1, ← hmo, works_more q2.2]; rfl
      clear hmo hat
      obtain ⟨wh, hwh⟩ : ∃ wh, (mayB z && worksB h (Zn.off z) utc) = wh := ⟨_, rfl⟩
      have HWHE := Lib.hid hwh
      rw [hwh] at HWH HMO
      clear hwh
      generalize (mayHB mo && mayB z && worksB mo (Zn.off z) utc) = wm at *
      generalize mayHB mo = bm at *
      go_upto_region 4 with fail
      go_cut [49] from 35 (fun s49 wc => s49 = .bool false ∧ ∃ G2 : Gr G.val, wc = G2.val)
      case first =>
        obtain ⟨k1, k2, k3, k4, k5, k6, k7⟩ := HZ0.out _ G.ok
        have m0 : ∀ g2 : Gr G.val, g2.val.cell? ⟨nb, 0, none⟩ = some (.slice B1 (h.shifts.length + 1) cm) ∧ g2.val.cell? ⟨nb, 1, none⟩ = some (.slice A2 h.off.length c2) := fun g2 => ⟨cell_old (blk_cell hN2 rfl) g2.ok, cell_old (blk_cell hN2 rfl) g2.ok⟩
        have HM0 := Lib.hid m0
        obtain ⟨m1, m2⟩ := m0 ⟨_, Below.refl _ _⟩
        simp only at m1 m2
        have HGO := Lib.hid G.ok
        clear m0
        have hways : bm = false ∨ bm = true ∧ wh = false ∨ bm = true ∧ wh = true := by cases bm <;> cases wh <;> simp
        rcases hways with rfl | ⟨rfl, rfl⟩ | ⟨rfl, rfl⟩
        · go_wp2_with fail
          go_at_call 11
          refine (HMM.out ⟨_, Below.refl _ _⟩).mono ?_
          rintro e w2 ⟨rfl, hb⟩
          obtain ⟨g2, rfl⟩ : ∃ g2 : Gr G.val, w2 = g2.val := ⟨⟨w2, hb⟩, rfl⟩
          clear hb k1 k2 k3 k4 k5 k6 k7
          go_wp2_with fail
          go_meet
          case rel => exact ⟨rfl, g2, rfl⟩
        all_goals
          try have hwm := HMO.out rfl rfl
          try subst hwm
          go_wp2_with fail
          go_at_call 11
          refine (HMM.out ⟨_, Below.refl _ _⟩).mono ?_
          rintro e w2 ⟨rfl, hb⟩
          obtain ⟨g2, rfl⟩ : ∃ g2 : Gr G.val, w2 = g2.val := ⟨⟨w2, hb⟩, rfl⟩
          clear hb k1 k2 k3 k4 k5 k6 k7
          obtain ⟨k1, k2, k3, k4, k5, k6, k7⟩ := HZ0.out _ (HGO.out.trans (g2.ok.mono HGO.out.size))
          go_wp2_with fail
          go_at_call 16
          refine (HWH.out ⟨_, HGO.out.trans (g2.ok.mono HGO.out.size)⟩).mono ?_
          rintro e w2 ⟨rfl, hb⟩
          obtain ⟨g2, rfl⟩ : ∃ g3 : Gr G.val, w2 = g3.val := Gr.on g2 hb
          clear hb k1 k2 k3 k4 k5 k6 k7 m1 m2
          obtain ⟨k1, k2, k3, k4, k5, k6, k7⟩ := HZ0.out _ (HGO.out.trans (g2.ok.mono HGO.out.size))
          obtain ⟨m1, m2⟩ := HM0.out g2
          go_wp2_with fail
          try (
            go_at_call 16
            refine (HMW.out g2).mono ?_
            rintro e w2 ⟨rfl, hb⟩
            obtain ⟨g2, rfl⟩ : ∃ g3 : Gr G.val, w2 = g3.val := Gr.on g2 hb
            clear hb
            go_wp2_with fail)
          go_meet
          case rel => exact ⟨rfl, g2, rfl⟩
      case rest =>
        obtain ⟨rfl, G2, rfl⟩ := hcut
        obtain ⟨G3, hG3⟩ : ∃ G3 : Gr W1, G2.val = G3.val := ⟨⟨_, G.ok.trans (G2.ok.mono G.size)⟩, rfl⟩
        rw [hG3]
        clear hG3 hN2 hN1 hlm HNB HSM HMM HMW HMO
        obtain ⟨i1, hj0, hr0, hr1, hr2⟩ := info_parts int_info12
        obtain ⟨k1, k2, k3, k4, k5, k6, k7⟩ := HZ0.out _ G3.ok
        have HGO := Lib.hid G3.ok
        have HBW : Hid (∀ wr : World, Below G3.val.heap.size G3.val wr → Below W1.heap.size W1 wr) := fun wr q => HGO.out.trans (q.mono HGO.out.size)
        have hoz : (h.off.length : Int) ≤ 60 := by omega
        go_upto_region 7 with fail
        obtain ⟨W6, hW6⟩ : ∃ W6, G3.val.alloc (.cells #[.slice A1 h.shifts.length c1, .slice none 0 0] 28) = W6 := ⟨_, rfl⟩
        have HL0 : Hid (Ls G3.val G3.val.heap.size A1 h.shifts.length c1 (.slice none 0 0) [] W6) := by
          rw [← hW6]
          exact ⟨heap_alloc_new _ _, World.ownsRow_nil _ _ _ _, (Below.refl _ _).alloc (Nat.le_refl _) _⟩
        rw [hW6]
        clear hW6 k1 k2 k3 k4 k5 k6 k7
        obtain ⟨k1, k2, k3, k4, k5, k6, k7⟩ := HZ0.out _ (HBW.out _ HL0.out.bel)
        go_wp2_with fail
        clear k1 k2 k3 k4 k5 k6 k7
        go_loopw [13, 56] (fun s13 s56 wr => ∃ (k : Nat) (pt : Bool) (P : List Int) (Av : Option Addr) (cv : Nat), s56 = .int .i64 k ∧ s13 = .bool pt ∧ k ≤ h.off.length ∧ Hid (Ls G3.val G3.val.heap.size A1 h.shifts.length c1 (.slice Av P.length cv) P wr) ∧ Hid (∀ x, x ∈ h.off.take k → x ∈ P) ∧ Hid (P.length ≤ 2 * k)) (fun _ s56 _ => h.off.length - (intOf s56).toNat)
        case atStart => exact ⟨0, false, [], none, 0, rfl, rfl, Nat.zero_le _, HL0.out, (fun x hx => by simp at hx), Nat.le_refl _⟩
        case round =>
          obtain ⟨k, pt, P, Av, cv, rfl, rfl, hk, HL, HP, HPL0⟩ := hrel
          have HPL : Hid (P.length ≤ 200) := by show _ ≤ _; have := HPL0.out; omega
          by_cases hlt : k < h.off.length
          · have hkz : (k : Int) < h.off.length := by omega
            have hwk : IntKind.i64.wrap ((k : Int) + 1) = k + 1 := by rw [IntKind.wrap_i64]; omega
            obtain ⟨y, hy⟩ : ∃ y, h.off[k]? = some y := ⟨_, List.getElem?_eq_getElem hlt⟩
            have HTK : Hid (∀ x, x ∈ h.off.take (k + 1) → x ∈ h.off.take k ∨ x = y) := fun x hx => by
              rw [List.take_add_one, hy] at hx
              rcases List.mem_append.1 hx with q | q
              · exact .inl q
              · exact .inr (by simpa using q)
            obtain ⟨ob, oo, rfl, _, hce⟩ := ((HHS.out ⟨_, HBW.out _ HL.out.bel⟩).s2).intG hy
            have g1 := hce ⟨_, Below.refl _ _⟩
            simp only at g1
            clear hce hy
            have hways : (pt = true ∨ pt = false ∧ decide (off < y) = false) ∨ pt = false ∧ decide (off < y) = true := by cases pt <;> cases decide (off < y) <;> simp
            rcases hways with hways | ⟨rfl, hc⟩
            · rcases hways with rfl | ⟨rfl, hc⟩
              all_goals
                have b1 : wr.cell? ⟨G3.val.heap.size, 1, none⟩ = some (.slice Av P.length cv) := blk_cell HL.out.box rfl
                have hmxP : P.length + 1 ≤ maxLen := by have := HPL.out; unfold maxLen; omega
                have hbyP : (P.length + 1) * 8 ≤ 140737488355328 := by have := HPL.out; omega
                have HGZ : Hid (G3.val.heap.size < wr.heap.size) := heap_lt HL.out.box
                go_upto_region 15 with (refine wpList_append_lies _ rfl _ _ _ (by rfl) (G3.val.heap.size + 1) 3 i1 _ 1 8 Try.underlying26 hj0 hr0 hr1 hr2 rfl (by decide) (.slice Av P.length cv) P.length _ (by rfl) (own_keep HL.out.own (below_al (Below.refl _ _) _)) ⟨wr.heap.size, 0, none⟩ 1 1 [.int .i64 y] (by rfl) (by rfl) (World.news_of_block (cs := #[.int .i64 y]) (t := 3) (fr := (0, 0)) (heap_alloc_new _ _)) (by simp [Value.oneCell']) (Nat.lt_succ_self 0) hmxP hbyP (by have := HGZ.out; simp; omega) _ rfl ?_; intro gg cap2 w5 hown5 hgr5 hat5 hlt5; obtain ⟨cc, cf, L5⟩ := Ls.step HL.out hown5 hgr5)
                obtain ⟨V2, hV⟩ : ∃ V, w5.setCell ⟨G3.val.heap.size, 1, none⟩ (.slice (some ⟨gg, 0, none⟩) (P.length + 1) cap2) = V := ⟨_, rfl⟩
                rw [hV] at L5 ⊢
                have HP2 : Hid (∀ q, q ∈ P ∨ q = y → q ∈ P ++ [y]) := fun q hq => by rcases hq with hq | hq <;> simp [hq]
                have HPL2 : Hid ((P ++ [y]).length = P.length + 1) := by show _ = _; simp
                have HL2 := Lib.hid L5
                clear hV hown5 hgr5 hat5 hlt5 cc cf L5 b1 hmxP hbyP HGZ
                obtain ⟨P2, hP2⟩ : ∃ PN, P ++ [y] = PN := ⟨_, rfl⟩
                rw [hP2] at HL2 HP2 HPL2
                clear hP2
                clear g1
                go_wp2_with fail
                go_roundw
                case rel => exact ⟨k + 1, _, P2, _, _, by go_num, rfl, hlt, HL2, fun x hx => HP2.out x ((HTK.out x hx).imp (HP.out x) id), by show _ ≤ _; have q1 := HPL0.out; have q2 := HPL2.out; omega⟩
                case measure => simp [intOf]; omega
            · skip
              have b1 : wr.cell? ⟨G3.val.heap.size, 1, none⟩ = some (.slice Av P.length cv) := blk_cell HL.out.box rfl
              have hmxP : P.length + 1 ≤ maxLen := by have := HPL.out; unfold maxLen; omega
              have hbyP : (P.length + 1) * 8 ≤ 140737488355328 := by have := HPL.out; omega
              have HGZ : Hid (G3.val.heap.size < wr.heap.size) := heap_lt HL.out.box
              go_upto_region 13 with (refine wpList_append_lies _ rfl _ _ _ (by rfl) (G3.val.heap.size + 1) 3 i1 _ 1 8 Try.underlying26 hj0 hr0 hr1 hr2 rfl (by decide) (.slice Av P.length cv) P.length _ (by rfl) (own_keep HL.out.own (below_al (Below.refl _ _) _)) ⟨wr.heap.size, 0, none⟩ 1 1 [.int .i64 off] (by rfl) (by rfl) (World.news_of_block (cs := #[.int .i64 off]) (t := 3) (fr := (0, 0)) (heap_alloc_new _ _)) (by simp [Value.oneCell']) (Nat.lt_succ_self 0) hmxP hbyP (by have := HGZ.out; simp; omega) _ rfl ?_; intro gg cap2 w5 hown5 hgr5 hat5 hlt5; obtain ⟨cc, cf, L5⟩ := Ls.step HL.out hown5 hgr5)
              obtain ⟨V2, hV⟩ : ∃ V, w5.setCell ⟨G3.val.heap.size, 1, none⟩ (.slice (some ⟨gg, 0, none⟩) (P.length + 1) cap2) = V := ⟨_, rfl⟩
              rw [hV] at L5 ⊢
              have HP2 : Hid (∀ q, q ∈ P ∨ q = off → q ∈ P ++ [off]) := fun q hq => by rcases hq with hq | hq <;> simp [hq]
              have HPL2 : Hid ((P ++ [off]).length = P.length + 1) := by show _ = _; simp
              have HL2 := Lib.hid L5
              clear hV hown5 hgr5 hat5 hlt5 cc cf L5 b1 hmxP hbyP HGZ
              obtain ⟨P2, hP2⟩ : ∃ PN, P ++ [off] = PN := ⟨_, rfl⟩
              rw [hP2] at HL2 HP2 HPL2
              clear hP2
              have HPL3 : Hid (P2.length ≤ 210) := by show _ ≤ _; have q1 := HPL.out; have q2 := HPL2.out; omega
              clear g1
              have b1 : V2.cell? ⟨G3.val.heap.size, 1, none⟩ = some (.slice (some ⟨gg, 0, none⟩) P2.length cap2) := blk_cell HL2.out.box rfl
              have hmxP : P2.length + 1 ≤ maxLen := by have := HPL3.out; unfold maxLen; omega
              have hbyP : (P2.length + 1) * 8 ≤ 140737488355328 := by have := HPL3.out; omega
              have HGZ : Hid (G3.val.heap.size < V2.heap.size) := heap_lt HL2.out.box
              go_upto_region 15 with (refine wpList_append_lies _ rfl _ _ _ (by rfl) (G3.val.heap.size + 1) 3 i1 _ 1 8 Try.underlying26 hj0 hr0 hr1 hr2 rfl (by decide) (.slice (some ⟨gg, 0, none⟩) P2.length cap2) P2.length _ (by rfl) (own_keep HL2.out.own (below_al (Below.refl _ _) _)) ⟨V2.heap.size, 0, none⟩ 1 1 [.int .i64 y] (by rfl) (by rfl) (World.news_of_block (cs := #[.int .i64 y]) (t := 3) (fr := (0, 0)) (heap_alloc_new _ _)) (by simp [Value.oneCell']) (Nat.lt_succ_self 0) hmxP hbyP (by have := HGZ.out; simp; omega) _ rfl ?_; intro gh cap4 w5 hown5 hgr5 hat5 hlt5; obtain ⟨cc, cf, L5⟩ := Ls.step HL2.out hown5 hgr5)
              obtain ⟨V4, hV⟩ : ∃ V, w5.setCell ⟨G3.val.heap.size, 1, none⟩ (.slice (some ⟨gh, 0, none⟩) (P2.length + 1) cap4) = V := ⟨_, rfl⟩
              rw [hV] at L5 ⊢
              have HP4 : Hid (∀ q, q ∈ P2 ∨ q = y → q ∈ P2 ++ [y]) := fun q hq => by rcases hq with hq | hq <;> simp [hq]
              have HPL4 : Hid ((P2 ++ [y]).length = P2.length + 1) := by show _ = _; simp
              have HL4 := Lib.hid L5
              clear hV hown5 hgr5 hat5 hlt5 cc cf L5 b1 hmxP hbyP HGZ
              obtain ⟨P4, hP2⟩ : ∃ PN, P2 ++ [y] = PN := ⟨_, rfl⟩
              rw [hP2] at HL4 HP4 HPL4
              clear hP2
              go_wp2_with fail
              go_roundw
              case rel => exact ⟨k + 1, _, P4, _, _, by go_num, rfl, hlt, HL4, fun x hx => HP4.out x ((HTK.out x hx).imp (fun q => HP2.out x (.inl (HP.out x q))) id), by show _ ≤ _; have q1 := HPL0.out; have q2 := HPL2.out; have q3 := HPL4.out; omega⟩
              case measure => simp [intOf]; omega
          · obtain rfl : k = h.off.length := by omega
            rw [List.take_length] at HP
            cases pt with
            | true =>
              go_upto_region 18 with fail
              have HB18 : Hid (Below W1.heap.size W1 wr) := HBW.out _ HL.out.bel
              have HSL8 : Hid (∀ V : World, Below wr.heap.size wr V → Sl V Av P.length cv (iv P)) := fun V q => (own_is HL.out.own).below q (Nat.le_refl _)
              have HB8 : Hid (∀ V : World, Below wr.heap.size wr V → V.cell? ⟨G3.val.heap.size, 0, none⟩ = some (.slice A1 h.shifts.length c1) ∧ V.cell? ⟨G3.val.heap.size, 1, none⟩ = some (.slice Av P.length cv)) := fun V q => ⟨cell_old (blk_cell HL.out.box rfl) q, cell_old (blk_cell HL.out.box rfl) q⟩
              have HML : Hid (∀ V : World, Below wr.heap.size wr V → Calls Try.prog 11 #[.agg #[.slice A1 h.shifts.length c1, .slice Av P.length cv]] V fun e w' => e = .returned (.bool (mayHB ⟨h.shifts, P⟩)) ∧ Below V.heap.size V w') := fun V q =>
                HMX.out ⟨h.shifts, P⟩ A1 Av c1 cv V ⟨(HHS.out ⟨V, HB18.out.trans (q.mono HB18.out.size)⟩).s1, HSL8.out V q⟩
              have HWL : Hid (∀ V : World, Below wr.heap.size wr V → Calls Try.prog 16 #[.agg #[.int .i64 z.base, .slice A z.n c], .agg #[.slice A1 h.shifts.length c1, .slice Av P.length cv], .int .i64 utc] V fun e w' => e = .returned (.bool (mayHB ⟨h.shifts, P⟩ && mayB z && worksB ⟨h.shifts, P⟩ (Zn.off z) utc)) ∧ Below V.heap.size V w') := fun V q =>
                HWX.out ⟨h.shifts, P⟩ A1 Av c1 cv ⟨V, HB18.out.trans (q.mono HB18.out.size)⟩ ⟨(HHS.out ⟨V, HB18.out.trans (q.mono HB18.out.size)⟩).s1, HSL8.out V q⟩
              have HIM : Hid (mayHB ⟨h.shifts, P⟩ = true → (mayHB ⟨h.shifts, P⟩ && mayB z && worksB ⟨h.shifts, P⟩ (Zn.off z) utc) = true → wh = true) := fun _ q2 => by
                rw [Bool.and_eq_true, Bool.and_eq_true] at q2
                rw [← HWHE.out, q2.1.2, works_less (P := P) (fun x hx => HP.out x hx) q2.2]; rfl
              generalize (mayHB ⟨h.shifts, P⟩ && mayB z && worksB ⟨h.shifts, P⟩ (Zn.off z) utc) = wl at *
              generalize mayHB ⟨h.shifts, P⟩ = bl at *
              have HGW : Hid (∀ G : Gr wr, Below W1.heap.size W1 G.val) := fun G => HB18.out.trans (G.ok.mono HB18.out.size)
              have hways : bl = false ∨ bl = true ∧ wl = false ∨ bl = true ∧ wl = true := by cases bl <;> cases wl <;> simp
              rcases hways with rfl | ⟨rfl, rfl⟩ | ⟨rfl, rfl⟩
              all_goals
                try have hwh := HIM.out rfl rfl
                try subst hwh
                go_wp2_with fail
                go_at_call 9
                refine (HFX.out ⟨wr, HB18.out⟩).mono ?_
                rintro e w2 ⟨rfl, hb⟩
                obtain ⟨g9, rfl⟩ : ∃ g9 : Gr wr, w2 = g9.val := ⟨⟨w2, hb⟩, rfl⟩
                clear hb
                obtain ⟨b1, b2⟩ := HB8.out _ g9.ok
                obtain ⟨k1, k2, k3, k4, k5, k6, k7⟩ := HZ0.out _ (HGW.out g9)
                go_wp2_with fail
                go_at_call 11
                refine (HML.out _ g9.ok).mono ?_
                rintro e w2 ⟨rfl, hb⟩
                obtain ⟨g9, rfl⟩ : ∃ g8 : Gr wr, w2 = g8.val := Gr.on g9 hb
                clear hb b1 b2 k1 k2 k3 k4 k5 k6 k7
                obtain ⟨b1, b2⟩ := HB8.out _ g9.ok
                obtain ⟨k1, k2, k3, k4, k5, k6, k7⟩ := HZ0.out _ (HGW.out g9)
                go_wp2_with fail
                try (
                  go_at_call 16
                  refine (HWL.out _ g9.ok).mono ?_
                  rintro e w2 ⟨rfl, hb⟩
                  obtain ⟨g9, rfl⟩ : ∃ g8 : Gr wr, w2 = g8.val := Gr.on g9 hb
                  clear hb b1 b2 k1 k2 k3 k4 k5 k6 k7
                  obtain ⟨b1, b2⟩ := HB8.out _ g9.ok
                  obtain ⟨k1, k2, k3, k4, k5, k6, k7⟩ := HZ0.out _ (HGW.out g9)
                  go_wp2_with fail
                  try (
                    go_at_call 16
                    refine (HWH.out ⟨_, HGW.out g9⟩).mono ?_
                    rintro e w2 ⟨rfl, hb⟩
                    obtain ⟨g9, rfl⟩ : ∃ g8 : Gr wr, w2 = g8.val := Gr.on g9 hb
                    clear hb
                    go_wp2_with fail))
                go_ret
                exact ⟨rfl, HG.out _ (HGW.out g9)⟩
            | false =>
              have b1 : wr.cell? ⟨G3.val.heap.size, 1, none⟩ = some (.slice Av P.length cv) := blk_cell HL.out.box rfl
              have hmxP : P.length + 1 ≤ maxLen := by have := HPL.out; unfold maxLen; omega
              have hbyP : (P.length + 1) * 8 ≤ 140737488355328 := by have := HPL.out; omega
              have HGZ : Hid (G3.val.heap.size < wr.heap.size) := heap_lt HL.out.box
              go_upto_region 18 with (refine wpList_append_lies _ rfl _ _ _ (by rfl) (G3.val.heap.size + 1) 3 i1 _ 1 8 Try.underlying26 hj0 hr0 hr1 hr2 rfl (by decide) (.slice Av P.length cv) P.length _ (by rfl) (own_keep HL.out.own (below_al (Below.refl _ _) _)) ⟨wr.heap.size, 0, none⟩ 1 1 [.int .i64 off] (by rfl) (by rfl) (World.news_of_block (cs := #[.int .i64 off]) (t := 3) (fr := (0, 0)) (heap_alloc_new _ _)) (by simp [Value.oneCell']) (Nat.lt_succ_self 0) hmxP hbyP (by have := HGZ.out; simp; omega) _ rfl ?_; intro gg cap2 w5 hown5 hgr5 hat5 hlt5; obtain ⟨cc, cf, L5⟩ := Ls.step HL.out hown5 hgr5)
              obtain ⟨V2, hV⟩ : ∃ V, w5.setCell ⟨G3.val.heap.size, 1, none⟩ (.slice (some ⟨gg, 0, none⟩) (P.length + 1) cap2) = V := ⟨_, rfl⟩
              rw [hV] at L5 ⊢
              have HP2 : Hid (∀ q, q ∈ P ∨ q = off → q ∈ P ++ [off]) := fun q hq => by rcases hq with hq | hq <;> simp [hq]
              have HPL2 : Hid ((P ++ [off]).length = P.length + 1) := by show _ = _; simp
              have HL2 := Lib.hid L5
              clear hV hown5 hgr5 hat5 hlt5 cc cf L5 b1 hmxP hbyP HGZ
              obtain ⟨P2, hP2⟩ : ∃ PN, P ++ [off] = PN := ⟨_, rfl⟩
              rw [hP2] at HL2 HP2 HPL2
              clear hP2
              have HB18 : Hid (Below W1.heap.size W1 V2) := HBW.out _ HL2.out.bel
              have HSL8 : Hid (∀ V : World, Below V2.heap.size V2 V → Sl V (some ⟨gg, 0, none⟩) P2.length cap2 (iv P2)) := fun V q => (own_is HL2.out.own).below q (Nat.le_refl _)
              have HB8 : Hid (∀ V : World, Below V2.heap.size V2 V → V.cell? ⟨G3.val.heap.size, 0, none⟩ = some (.slice A1 h.shifts.length c1) ∧ V.cell? ⟨G3.val.heap.size, 1, none⟩ = some (.slice (some ⟨gg, 0, none⟩) P2.length cap2)) := fun V q => ⟨cell_old (blk_cell HL2.out.box rfl) q, cell_old (blk_cell HL2.out.box rfl) q⟩
              have HML : Hid (∀ V : World, Below V2.heap.size V2 V → Calls Try.prog 11 #[.agg #[.slice A1 h.shifts.length c1, .slice (some ⟨gg, 0, none⟩) P2.length cap2]] V fun e w' => e = .returned (.bool (mayHB ⟨h.shifts, P2⟩)) ∧ Below V.heap.size V w') := fun V q =>
                HMX.out ⟨h.shifts, P2⟩ A1 (some ⟨gg, 0, none⟩) c1 cap2 V ⟨(HHS.out ⟨V, HB18.out.trans (q.mono HB18.out.size)⟩).s1, HSL8.out V q⟩
              have HWL : Hid (∀ V : World, Below V2.heap.size V2 V → Calls Try.prog 16 #[.agg #[.int .i64 z.base, .slice A z.n c], .agg #[.slice A1 h.shifts.length c1, .slice (some ⟨gg, 0, none⟩) P2.length cap2], .int .i64 utc] V fun e w' => e = .returned (.bool (mayHB ⟨h.shifts, P2⟩ && mayB z && worksB ⟨h.shifts, P2⟩ (Zn.off z) utc)) ∧ Below V.heap.size V w') := fun V q =>
                HWX.out ⟨h.shifts, P2⟩ A1 (some ⟨gg, 0, none⟩) c1 cap2 ⟨V, HB18.out.trans (q.mono HB18.out.size)⟩ ⟨(HHS.out ⟨V, HB18.out.trans (q.mono HB18.out.size)⟩).s1, HSL8.out V q⟩
              have HIM : Hid (mayHB ⟨h.shifts, P2⟩ = true → (mayHB ⟨h.shifts, P2⟩ && mayB z && worksB ⟨h.shifts, P2⟩ (Zn.off z) utc) = true → wh = true) := fun _ q2 => by
                rw [Bool.and_eq_true, Bool.and_eq_true] at q2
                rw [← HWHE.out, q2.1.2, works_less (P := P2) (fun x hx => HP2.out x (.inl (HP.out x hx))) q2.2]; rfl
              generalize (mayHB ⟨h.shifts, P2⟩ && mayB z && worksB ⟨h.shifts, P2⟩ (Zn.off z) utc) = wl at *
              generalize mayHB ⟨h.shifts, P2⟩ = bl at *
              have HGW : Hid (∀ G : Gr V2, Below W1.heap.size W1 G.val) := fun G => HB18.out.trans (G.ok.mono HB18.out.size)
              have hways : bl = false ∨ bl = true ∧ wl = false ∨ bl = true ∧ wl = true := by cases bl <;> cases wl <;> simp
              rcases hways with rfl | ⟨rfl, rfl⟩ | ⟨rfl, rfl⟩
              all_goals
                try have hwh := HIM.out rfl rfl
                try subst hwh
                go_wp2_with fail
                go_at_call 9
                refine (HFX.out ⟨V2, HB18.out⟩).mono ?_
                rintro e w2 ⟨rfl, hb⟩
                obtain ⟨g9, rfl⟩ : ∃ g9 : Gr V2, w2 = g9.val := ⟨⟨w2, hb⟩, rfl⟩
                clear hb
                obtain ⟨b1, b2⟩ := HB8.out _ g9.ok
                obtain ⟨k1, k2, k3, k4, k5, k6, k7⟩ := HZ0.out _ (HGW.out g9)
                go_wp2_with fail
                go_at_call 11
                refine (HML.out _ g9.ok).mono ?_
                rintro e w2 ⟨rfl, hb⟩
                obtain ⟨g9, rfl⟩ : ∃ g8 : Gr V2, w2 = g8.val := Gr.on g9 hb
                clear hb b1 b2 k1 k2 k3 k4 k5 k6 k7
                obtain ⟨b1, b2⟩ := HB8.out _ g9.ok
                obtain ⟨k1, k2, k3, k4, k5, k6, k7⟩ := HZ0.out _ (HGW.out g9)
                go_wp2_with fail
                try (
                  go_at_call 16
                  refine (HWL.out _ g9.ok).mono ?_
                  rintro e w2 ⟨rfl, hb⟩
                  obtain ⟨g9, rfl⟩ : ∃ g8 : Gr V2, w2 = g8.val := Gr.on g9 hb
                  clear hb b1 b2 k1 k2 k3 k4 k5 k6 k7
                  obtain ⟨b1, b2⟩ := HB8.out _ g9.ok
                  obtain ⟨k1, k2, k3, k4, k5, k6, k7⟩ := HZ0.out _ (HGW.out g9)
                  go_wp2_with fail
                  try (
                    go_at_call 16
                    refine (HWH.out ⟨_, HGW.out g9⟩).mono ?_
                    rintro e w2 ⟨rfl, hb⟩
                    obtain ⟨g9, rfl⟩ : ∃ g8 : Gr V2, w2 = g8.val := Gr.on g9 hb
                    clear hb
                    go_wp2_with fail))
                go_ret
                exact ⟨rfl, HG.out _ (HGW.out g9)⟩
end Go.Proofs.Ytkfmigpdmolmaaa
