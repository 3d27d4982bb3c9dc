import Derived.Test.YtnccgfdaddbndaaZNW2
import Derived.Test.YtnccgfdaddbndaaZMB
import Derived.Test.YtnccgfdaddbndaaZMD
/- Contract of the program's times: is a day as a rule's rows say. -/
section
namespace Go.Proofs.Ytnccgfdaddbndaa
open Go.ChangeShapes Go.WideShapes Go.ChangeAt Go.RowKit Go.Joins Qr Tm Cal

def callsA (k : Nat) : Bool := [9, 22, 37, 38].contains k
noncomputable def opsA : List Oper := match Try.f59.body with | some (.seq _ (.seq _ (.seq _ (.seq (.region _ ops _) _)))) => ops.toList | _ => []
theorem opsA_len : opsA.length = 42 := by kernel_rfl
theorem heldA : Region.heldB .any opsA.toArray callsA opsA.length 0 (Array.replicate opsA.length false) = true := by kernel_rfl

theorem nthB_on (l : List (Int × Int)) (t : Dt) (k up dn : Int) (hk : k = t.w) (hu : up = (t.d + 6) / 7) (hd : dn = (lenI t.y t.m - t.d) / 7 + 1) : l.any (onB k up dn) = nthB l t := by
  unfold nthB; congr 1; funext x; unfold onB nthOne; rw [hk, hu, hd]

set_option maxRecDepth 100000 in
set_option maxHeartbeats 8000000 in
theorem pas_any (r : R) (A1 A2 A3 A4 : Option Addr) (c1 c2 c3 c4 : Nat) (n : Nat) (hn : n ≤ 109937) (hb2 : r.bd.length ≤ 10000) (hp : r.bd.Pairwise (· ≤ ·)) (w : World) (hr : RAt w r A1 A2 A3 A4 c1 c2 c3 c4) :
    Calls Try.prog 59 #[.agg (rcells r A1 A2 A3 A4 c1 c2 c3 c4), .int .i64 n] w fun e w' => e = .returned (.bool (asB r (dt n))) ∧ Below w.heap.size w w' := by
  obtain ⟨hmay, _⟩ := dt_in hn
  have hmm := may_month hmay
  have hwk := dt_w n
  have hlen := len_bd (dt n).y (dt n).m
  obtain ⟨ay, by_, d1, d2⟩ := hmay
  have hdt : Hid (yOf (n : Int) = (dt n).y ∧ mOf (n : Int) = (dt n).m ∧ dOf (n : Int) = (dt n).d) := by show _ ∧ _; unfold dt; rw [if_pos hn]; exact ⟨rfl, rfl, rfl⟩
  have HD := Lib.hid (fun w => date_yes (n : Int) w (by omega) (by omega))
  obtain ⟨W, hW⟩ : ∃ W, w.alloc (.cells (rcells r A1 A2 A3 A4 c1 c2 c3 c4) 25) = W := ⟨_, rfl⟩
  have HW := Lib.hid hW
  have BW : Hid (Below w.heap.size w W) := by show Below _ _ _; rw [← hW]; exact (Below.refl _ w).alloc (Nat.le_refl _) _
  have HBK : Hid (W.heap[w.heap.size]? = some (.cells (rcells r A1 A2 A3 A4 c1 c2 c3 c4) 25 (0, 0))) := by show _ = _; rw [← hW, heap_alloc_new]
  have hrW : RAt W r A1 A2 A3 A4 c1 c2 c3 c4 := hr.below BW.out (Nat.le_refl _)
  have H1 : Hid (0 < r.bm.length → ∀ V, Below W.heap.size W V → Calls Try.prog 64 #[.slice A1 r.bm.length c1, .int .i64 (dt n).m] V fun e w' => e = .returned (.bool (memB r.bm (dt n).m)) ∧ Below V.heap.size V w') := fun h V hV => pcontains_any r.bm A1 c1 _ h V (hrW.below hV (Nat.le_refl _)).s1
  have H2 : Hid (0 < r.bd.length → ∀ V, Below W.heap.size W V → Calls Try.prog 60 #[.slice A2 r.bd.length c2, .int .i64 (dt n).d, .int .i64 (lenI (dt n).y (dt n).m)] V fun e w' => e = .returned (.bool (plB r.bd (dt n).d (lenI (dt n).y (dt n).m))) ∧ Below V.heap.size V w') :=
    fun h V hV => plc_any r.bd A2 c2 _ _ h hb2 hp (by omega) (by omega) V (hrW.below hV (Nat.le_refl _)).s2
  have H3 : Hid (∀ V, Calls Try.prog 66 #[.int .i64 n, .int .i64 (dt n).d, .int .i64 (lenI (dt n).y (dt n).m)] V fun e w' => e = .returned (.func (.func 72) #[] #[.pointer (some ⟨V.heap.size, 0, none⟩), .pointer (some ⟨V.heap.size + 1, 0, none⟩), .pointer (some ⟨V.heap.size + 2, 0, none⟩)]) ∧ w' = box3 V ((n : Int) % 7) (((dt n).d - 1) / 7 + 1) ((lenI (dt n).y (dt n).m - (dt n).d) / 7 + 1)) :=
    fun V => isOn_any n (dt n).d (lenI (dt n).y (dt n).m) (by omega) (by omega) d2 V
  have H4 : Hid (∀ V, Below W.heap.size W V → Calls Try.prog 65 #[.slice A3 r.bw.length c3, .func (.func 72) #[] #[.pointer (some ⟨V.heap.size, 0, none⟩), .pointer (some ⟨V.heap.size + 1, 0, none⟩), .pointer (some ⟨V.heap.size + 2, 0, none⟩)]]
      (box3 V ((n : Int) % 7) (((dt n).d - 1) / 7 + 1) ((lenI (dt n).y (dt n).m - (dt n).d) / 7 + 1)) fun e w' => e = .returned (.bool (nthB r.bw (dt n))) ∧ Below (box3 V ((n : Int) % 7) (((dt n).d - 1) / 7 + 1) ((lenI (dt n).y (dt n).m - (dt n).d) / 7 + 1)).heap.size (box3 V ((n : Int) % 7) (((dt n).d - 1) / 7 + 1) ((lenI (dt n).y (dt n).m - (dt n).d) / 7 + 1)) w') :=
    fun V hV => by
      have h := pcontF_any r.bw A3 c3 ((n : Int) % 7) (((dt n).d - 1) / 7 + 1) ((lenI (dt n).y (dt n).m - (dt n).d) / 7 + 1) V.heap.size (by omega) (box3 V ((n : Int) % 7) (((dt n).d - 1) / 7 + 1) ((lenI (dt n).y (dt n).m - (dt n).d) / 7 + 1))
        (((hrW.below hV (Nat.le_refl _)).s3).below (box3_below V _ _ _) (Nat.le_refl _)) (box3_new V _ _ _)
      rw [nthB_on r.bw (dt n) _ _ _ hwk.symm (by omega) rfl] at h
      exact h
  have HL := Lib.hid (fun w => length_any (dt n).y (dt n).m w)
  obtain ⟨q, hq⟩ : ∃ q, asB r (dt n) = q := ⟨_, rfl⟩
  have hQ : q = (((r.bm.length == 0) || memB r.bm (dt n).m) && ((r.bd.length == 0) || plB r.bd (dt n).d (lenI (dt n).y (dt n).m)) && ((r.bw.length == 0) || nthB r.bw (dt n))) := by
    show q = ((decide (r.bm.length = 0) || memB r.bm (dt n).m) && (decide (r.bd.length = 0) || plB r.bd (dt n).d (lenI (dt n).y (dt n).m)) && (decide (r.bw.length = 0) || nthB r.bw (dt n)))
    rw [← hq]; unfold asB
    have e : ∀ {α : Type} (l : List α), (l = []) = (l.length = 0) := fun l => propext List.length_eq_zero_iff.symm
    simp only [e]
  have HQ := Lib.hid hQ
  rw [hq]
  clear hr hrW hW hq hQ hp hb2 hwk
  obtain ⟨e1, e2, e3⟩ := hdt.out
  rw [e1, e2, e3] at HD
  unfold rcells at HW HBK
  clear e1 e2 e3 hdt
  have l1 := Nat.eq_zero_or_pos r.bm.length
  have l2 := Nat.eq_zero_or_pos r.bd.length
  have l3 := Nat.eq_zero_or_pos r.bw.length
  unfold rcells
  generalize memB r.bm (dt n).m = b1 at *
  generalize plB r.bd (dt n).d (lenI (dt n).y (dt n).m) = b2 at *
  generalize nthB r.bw (dt n) = b3 at *
  generalize lenI (dt n).y (dt n).m = L at *
  generalize (dt n).y = y at *
  generalize (dt n).m = m at *
  generalize (dt n).d = d at *
  generalize (n : Int) % 7 = k7 at *
  generalize (d - 1) / 7 + 1 = up at *
  generalize (L - d) / 7 + 1 = dn at *
  obtain ⟨fq, iv_, ct, un, bm, bd, bw, bs, st⟩ := r
  simp only at *
  generalize bm.length = n1 at *
  generalize bd.length = n2 at *
  generalize bw.length = n3 at *
  generalize bs.length = n4 at *
  have ways : ((0 < n1 ∧ b1 = false) ∨ ((n1 = 0 ∨ (0 < n1 ∧ b1 = true)) ∧ 0 < n2 ∧ b2 = false)) ∨ ((n1 = 0 ∨ (0 < n1 ∧ b1 = true)) ∧ (n2 = 0 ∨ (0 < n2 ∧ b2 = true)) ∧ (n3 = 0 ∨ (0 < n3 ∧ b3 = true) ∨ (0 < n3 ∧ b3 = false))) := by
    cases b1 <;> cases b2 <;> cases b3 <;> simp <;> omega
  rcases ways with (⟨g1, rfl⟩ | ⟨g1 | ⟨g1, rfl⟩, g2, rfl⟩) | ⟨g1 | ⟨g1, rfl⟩, g2 | ⟨g2, rfl⟩, g3 | ⟨g3, rfl⟩ | ⟨g3, rfl⟩⟩
  all_goals
    try (have z1 : ((n1 : Int) == 0) = false := beq_false_of_ne (by omega); have y1 : (n1 == 0) = false := beq_false_of_ne (by omega))
    try (have z1 : ((n1 : Int) == 0) = true := beq_iff_eq.2 (by omega); have y1 : (n1 == 0) = true := beq_iff_eq.2 (by omega))
    try (have z2 : ((n2 : Int) == 0) = false := beq_false_of_ne (by omega); have y2 : (n2 == 0) = false := beq_false_of_ne (by omega))
    try (have z2 : ((n2 : Int) == 0) = true := beq_iff_eq.2 (by omega); have y2 : (n2 == 0) = true := beq_iff_eq.2 (by omega))
    try (have z3 : ((n3 : Int) == 0) = false := beq_false_of_ne (by omega); have y3 : (n3 == 0) = false := beq_false_of_ne (by omega))
    try (have z3 : ((n3 : Int) == 0) = true := beq_iff_eq.2 (by omega); have y3 : (n3 == 0) = true := beq_iff_eq.2 (by omega))
    try replace H1 := Lib.hid (H1.out (by assumption))
    try replace H2 := Lib.hid (H2.out (by assumption))
    clear l1 l2 l3
    try clear g1
    try clear g2
    try clear g3
    go_enter Try.func59, Try.ntmps59
    go_upto_region 1 with fail
    rw [HW.out]
    go_upto_region 2 with (go_at_call 46; (with_reducible refine (HD.out _).mono ?_); rintro e w2 ⟨rfl, hb⟩)
    obtain ⟨W2, hW2⟩ : ∃ W2, w2.alloc (.cells #[.int .i64 y, .int .i64 m, .int .i64 d] 37) = W2 := ⟨_, rfl⟩
    rw [hW2]
    have hB2 : Below W.heap.size W W2 := by rw [← hW2]; exact hb.alloc hb.size _
    have D2 : W2.heap[w2.heap.size]? = some (.cells #[.int .i64 y, .int .i64 m, .int .i64 d] 37 (0, 0)) := by rw [← hW2, heap_alloc_new]
    have R2 := blk_below HBK.out hB2
    have d0 := blk_cell D2 (i := 0) rfl
    have dm := blk_cell D2 (i := 1) rfl
    have D2h := Lib.hid D2
    have R2h := Lib.hid R2
    have B2h := Lib.hid hB2
    clear hW2 D2 R2 hB2 hb
    go_upto_region 3 with (go_at_call 56; (with_reducible refine (HL.out _).mono ?_); rintro e w3 ⟨rfl, rfl⟩)
    clear d0 dm
    have hS0 : Below W2.heap.size W2 W2.drew := drew_below W2
    have HR0 : Hid (∀ V, Below W2.heap.size W2 V → Below W.heap.size W V) := fun V h => B2h.out.trans (h.mono B2h.out.size)
    have HKR : Hid (∀ V, Below W2.heap.size W2 V → V.cell? ⟨w.heap.size, 4, none⟩ = some (.slice A1 n1 c1) ∧ V.cell? ⟨w.heap.size, 5, none⟩ = some (.slice A2 n2 c2) ∧ V.cell? ⟨w.heap.size, 6, none⟩ = some (.slice A3 n3 c3)) := fun V h => ⟨blk_cell (blk_below R2h.out h) rfl, blk_cell (blk_below R2h.out h) rfl, blk_cell (blk_below R2h.out h) rfl⟩
    have HKD : Hid (∀ V, Below W2.heap.size W2 V → V.cell? ⟨w2.heap.size, 0, none⟩ = some (.int .i64 y) ∧ V.cell? ⟨w2.heap.size, 1, none⟩ = some (.int .i64 m) ∧ V.cell? ⟨w2.heap.size, 2, none⟩ = some (.int .i64 d)) := fun V h => ⟨blk_cell (blk_below D2h.out h) rfl, blk_cell (blk_below D2h.out h) rfl, blk_cell (blk_below D2h.out h) rfl⟩
    refine wp_region_lexH (fun V => Below W2.heap.size W2 V) callsA (by kernel_rfl) (by kernel_rfl) heldA (fun _ _ _ _ _ h => h) hS0 ?_
    generalize W2.drew = V at *
    repeat (first
      | (refine wpH_no rfl rfl ?_; simp only [Act.put, List.setIfInBounds_toArray, List.set_cons_zero, List.set_cons_succ])
      | (refine wpH_callNo rfl rfl hS0 ?_; simp only [Act.put, List.setIfInBounds_toArray, List.set_cons_zero, List.set_cons_succ])
      | (refine wpH_yes (v := ?_) rfl rfl (fun w' hS => ?_) ?_; rotate_left; (obtain ⟨b4, b5, b6⟩ := HKR.out _ hS; obtain ⟨t0, t1, t2⟩ := HKD.out _ hS; go_simp; with_reducible rfl); (try simp only [Act.put, List.setIfInBounds_toArray, List.set_cons_zero, List.set_cons_succ]))
      | (refine wpH_callYes rfl rfl (fun K hK => ?_); go_simp; (first
        | (go_at_call 64; (with_reducible refine (H1.out _ (HR0.out _ hS0)).mono ?_); rintro e w3 ⟨rfl, hb⟩; have hS0 := hS0.trans (hb.mono hS0.size); clear hb; refine hK.out _ _ hS0 (fun _ => ?_))
        | (go_at_call 60; (with_reducible refine (H2.out _ (HR0.out _ hS0)).mono ?_); rintro e w3 ⟨rfl, hb⟩; have hS0 := hS0.trans (hb.mono hS0.size); clear hb; refine hK.out _ _ hS0 (fun _ => ?_))
        | (go_at_call 66; (with_reducible refine (H3.out _).mono ?_); rintro e w3 ⟨rfl, rfl⟩; have hP0 := HR0.out _ hS0; have hS0 := hS0.trans ((box3_below _ k7 up dn).mono hS0.size); refine hK.out _ _ hS0 (fun _ => ?_))
        | (go_at_call 65; (with_reducible refine (H4.out _ hP0).mono ?_); rintro e w3 ⟨rfl, hb⟩; have hS0 := hS0.trans (hb.mono hS0.size); clear hb; refine hK.out _ _ hS0 (fun _ => ?_))); (try simp only [Act.put, List.setIfInBounds_toArray, List.set_cons_zero, List.set_cons_succ]); clear hK K))
    have HX : Hid (Below w.heap.size w _) := BW.out.trans ((HR0.out _ hS0).mono BW.out.size)
    clear hS0
    show Exit.then _ _ _ _ _
    go_wp2
    go_ret
    exact ⟨ret_bool (by rw [HQ.out]; (try rw [y1]); (try rw [y2]); (try rw [y3]); simp), HX.out⟩
end Go.Proofs.Ytnccgfdaddbndaa
end
