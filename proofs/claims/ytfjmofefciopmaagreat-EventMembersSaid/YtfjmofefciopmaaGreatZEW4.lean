import Derived.Test.YtfjmofefciopmaaGreatZMX
import Derived.Test.YtfjmofefciopmaaGreatZQW7
import Derived.Test.YtfjmofefciopmaaGreatZHW1
/- Contract: may an event be, the document's. -/
section
namespace Go.Proofs.YtfjmofefciopmaaGreat
open Go.ChangeShapes Go.WideShapes Go.ChangeAt Go.RowKit Go.Joins Sp Ev Qr
def R0 : R := ⟨0, 0, 0, 0, [], [], [], [], 0⟩
def okC (l : List (Int × Int × Int)) (i : Nat) : Prop := stampB (l.getD i (0, 0, 0)).1 = true ∧ stampB (l.getD i (0, 0, 0)).2.1 = true ∧ 0 ≤ (l.getD i (0, 0, 0)).2.2 ∧ (l.getD i (0, 0, 0)).2.2 ≤ 10080 ∧ (0 < i → (l.getD (i - 1) (0, 0, 0)).1 < (l.getD i (0, 0, 0)).1)
instance (l : List (Int × Int × Int)) (i : Nat) : Decidable (okC l i) := by unfold okC; infer_instance
def mayE (e : Evt) : Prop := stampB e.start = true ∧ 1 ≤ e.long ∧ e.long ≤ 10080 ∧ (e.again = false → sameB e.rule R0 = true ∧ e.ex.length = 0 ∧ e.plus.length = 0 ∧ e.ch.length = 0) ∧ (e.again = true → e.world = false ∧ mayB e.rule = true ∧ rowB e.ex = true ∧ rowB e.plus = true ∧ e.ch.length ≤ 50 ∧ ∀ i, i < e.ch.length → okC e.ch i)
instance (e : Evt) : Decidable (mayE e) := by unfold mayE; infer_instance
def mayEB (e : Evt) : Bool := decide (mayE e)
theorem cv_tv : ∀ l, cv l = tv l
  | [] => rfl
  | s :: r => by simp [cv, tv, cv_tv r]
set_option maxRecDepth 100000 in
set_option maxHeartbeats 4000000 in
theorem rmay11_bad (e : Evt) (A1 A2 A3 A4 A5 A6 A7 : Option Addr) (c1 c2 c3 c4 c5 c6 c7 : Nat) (hbad : stampB e.start = false ∨ e.long < 1 ∨ 10080 < e.long) (w : World) (hx : e.ex.length ≤ 1000000) (hp : e.plus.length ≤ 1000000) (h : EAt w e A1 A2 A3 A4 A5 A6 A7 c1 c2 c3 c4 c5 c6 c7) :
    Calls Tryz.prog 11 #[.agg (ecells e A1 A2 A3 A4 A5 A6 A7 c1 c2 c3 c4 c5 c6 c7)] w fun q w' => q = .returned (.bool (mayEB e)) ∧ Below w.heap.size w w' := by
  obtain ⟨W1, hW1⟩ : ∃ W1, w.alloc (.cells (ecells e A1 A2 A3 A4 A5 A6 A7 c1 c2 c3 c4 c5 c6 c7) 32) = W1 := ⟨_, rfl⟩
  have hB1 : Below w.heap.size w W1 := by rw [← hW1]; exact (Below.refl _ _).alloc (Nat.le_refl _) _
  have hbx : W1.heap[w.heap.size]? = some (.cells (ecells e A1 A2 A3 A4 A5 A6 A7 c1 c2 c3 c4 c5 c6 c7) 32 (0, 0)) := by rw [← hW1]; exact heap_alloc_new _ _
  have HBX : Hid (∀ (G : Gr W1) (k : Nat) (v : Value), (ecells e A1 A2 A3 A4 A5 A6 A7 c1 c2 c3 c4 c5 c6 c7)[k]? = some v → G.val.cell? ⟨w.heap.size, k, none⟩ = some v) := fun G k v hv => cell_old (blk_cell hbx hv) G.ok
  have HWG : Hid (∀ G : Gr W1, Below w.heap.size w G.val) := fun G => hB1.trans (G.ok.mono hB1.size)
  have E1 := Lib.hid hW1
  have HSt := Lib.hid (rstamp11_any e.start W1)
  obtain ⟨g0, hg0⟩ : ∃ g0 : Gr W1, W1 = g0.val := ⟨⟨W1, Below.refl _ _⟩, rfl⟩
  have HG0 := Lib.hid hg0
  have E : Hid (mayEB e = false) := decide_eq_false fun k => by
    rcases hbad with q | q | q
    · rw [k.1] at q; cases q
    · have := k.2.1; omega
    · have := k.2.2.1; omega
  have hways : stampB e.start = false ∨ stampB e.start = true ∧ decide (e.long < 1) = true ∨ stampB e.start = true ∧ decide (e.long < 1) = false ∧ decide (10080 < e.long) = true := by
    cases hs : stampB e.start with
    | false => exact .inl rfl
    | true =>
      by_cases h1 : e.long < 1
      · exact .inr (.inl ⟨rfl, decide_eq_true h1⟩)
      · exact .inr (.inr ⟨rfl, decide_eq_false h1, decide_eq_true (by rcases hbad with q | q | q; rw [hs] at q; cases q; omega; exact q)⟩)
  have b0 := HBX.out g0 0 (.int .i64 e.start) rfl
  have b1 := HBX.out g0 1 (.int .i64 e.long) rfl
  clear h hW1 hB1 hbx hg0
  clear hbad
  rcases hways with e1 | ⟨e1, e2⟩ | ⟨e1, e2, e3⟩
  all_goals
    rw [e1] at HSt
    clear e1
    unfold ecells at E1
    unfold ecells
    go_enter Tryz.func11, Tryz.ntmps11
    go_upto_region 1 with fail
    rw [E1.out]
    rw [HG0.out]
    rw [HG0.out] at HSt
    go_wp2_with fail
    go_at_call 31
    refine HSt.out.mono ?_
    rintro q w' ⟨rfl, rfl⟩
    go_wp2_with fail
    go_ret
    exact ⟨ret_bool E.out.symm, HWG.out g0⟩
set_option maxRecDepth 100000 in
set_option maxHeartbeats 4000000 in
theorem rmay11_once (e : Evt) (A1 A2 A3 A4 A5 A6 A7 : Option Addr) (c1 c2 c3 c4 c5 c6 c7 : Nat) (hs : stampB e.start = true) (h1 : 1 ≤ e.long) (h2 : e.long ≤ 10080) (ha : e.again = false) (w : World) (hx : e.ex.length ≤ 1000000) (hp : e.plus.length ≤ 1000000) (h : EAt w e A1 A2 A3 A4 A5 A6 A7 c1 c2 c3 c4 c5 c6 c7) :
    Calls Tryz.prog 11 #[.agg (ecells e A1 A2 A3 A4 A5 A6 A7 c1 c2 c3 c4 c5 c6 c7)] w fun q w' => q = .returned (.bool (mayEB e)) ∧ Below w.heap.size w w' := by
  obtain ⟨W1, hW1⟩ : ∃ W1, w.alloc (.cells (ecells e A1 A2 A3 A4 A5 A6 A7 c1 c2 c3 c4 c5 c6 c7) 32) = W1 := ⟨_, rfl⟩
  have hB1 : Below w.heap.size w W1 := by rw [← hW1]; exact (Below.refl _ _).alloc (Nat.le_refl _) _
  have hbx : W1.heap[w.heap.size]? = some (.cells (ecells e A1 A2 A3 A4 A5 A6 A7 c1 c2 c3 c4 c5 c6 c7) 32 (0, 0)) := by rw [← hW1]; exact heap_alloc_new _ _
  have HBX : Hid (∀ (G : Gr W1) (k : Nat) (v : Value), (ecells e A1 A2 A3 A4 A5 A6 A7 c1 c2 c3 c4 c5 c6 c7)[k]? = some v → G.val.cell? ⟨w.heap.size, k, none⟩ = some v) := fun G k v hv => cell_old (blk_cell hbx hv) G.ok
  have HWG : Hid (∀ G : Gr W1, Below w.heap.size w G.val) := fun G => hB1.trans (G.ok.mono hB1.size)
  have E1 := Lib.hid hW1
  have HSt := Lib.hid (rstamp11_any e.start W1)
  obtain ⟨g0, hg0⟩ : ∃ g0 : Gr W1, W1 = g0.val := ⟨⟨W1, Below.refl _ _⟩, rfl⟩
  have HG0 := Lib.hid hg0
  have d1 : decide (e.long < 1) = false := decide_eq_false (by omega)
  have d2 : decide (10080 < e.long) = false := decide_eq_false (by omega)
  rw [hs] at HSt
  have HSa := Lib.hid (rsame9_any e.rule R0 A1 A2 A3 A4 c1 c2 c3 c4 none none none none 0 0 0 0 W1 (h.below hB1).r ⟨Sl.none_ _, Sl.none_ _, Sl.none_ _, Sl.none_ _⟩)
  rw [hg0] at HSa
  unfold rcells R0 at HSa
  have E : Hid (mayEB e = (sameB e.rule R0 && ((e.ex.length : Int) == 0) && ((e.plus.length : Int) == 0) && ((e.ch.length : Int) == 0))) := by
    show _ = _
    rw [Bool.eq_iff_iff]
    unfold mayEB
    simp only [decide_eq_true_eq, Bool.and_eq_true, beq_iff_eq]
    constructor
    · rintro ⟨_, _, _, k, _⟩; have := k ha; exact ⟨⟨⟨this.1, by omega⟩, by omega⟩, by omega⟩
    · rintro ⟨⟨⟨k1, k2⟩, k3⟩, k4⟩; exact ⟨hs, h1, h2, fun _ => ⟨k1, by omega, by omega, by omega⟩, fun q => by rw [ha] at q; cases q⟩
  obtain ⟨r, hr⟩ : ∃ r, mayEB e = r := ⟨_, rfl⟩
  rw [hr]
  rw [hr] at E
  have hsm : ∀ x : R, sameB e.rule x = sameB e.rule x := fun _ => rfl
  clear hsm
  unfold R0 at E
  generalize sameB e.rule ⟨0, 0, 0, 0, [], [], [], [], 0⟩ = sm at *
  simp only [List.length_nil] at HSa
  have b0 := HBX.out g0 0 (.int .i64 e.start) rfl
  have b1 := HBX.out g0 1 (.int .i64 e.long) rfl
  have b2 := HBX.out g0 2 (.bool e.world) rfl
  have b3 := HBX.out g0 3 (.bool e.again) rfl
  have b4 := HBX.out g0 4 (.int .i64 e.rule.freq) rfl
  have b5 := HBX.out g0 5 (.int .i64 e.rule.iv) rfl
  have b6 := HBX.out g0 6 (.int .i64 e.rule.count) rfl
  have b7 := HBX.out g0 7 (.int .i64 e.rule.until_) rfl
  have b8 := HBX.out g0 8 (.slice A1 e.rule.bm.length c1) rfl
  have b9 := HBX.out g0 9 (.slice A2 e.rule.bd.length c2) rfl
  have b10 := HBX.out g0 10 (.slice A3 e.rule.bw.length c3) rfl
  have b11 := HBX.out g0 11 (.slice A4 e.rule.bs.length c4) rfl
  have b12 := HBX.out g0 12 (.int .i64 e.rule.start) rfl
  rw [ha] at b3
  clear h hW1 hB1 hbx hg0
  clear hs h1 h2
  unfold ecells at E1
  unfold ecells
  rw [ha] at E1 ⊢
  clear ha
  go_enter Tryz.func11, Tryz.ntmps11
  go_upto_region 1 with fail
  rw [E1.out]
  rw [HG0.out]
  rw [HG0.out] at HSt
  go_wp2_with fail
  go_at_call 31
  refine HSt.out.mono ?_
  rintro q w' ⟨rfl, rfl⟩
  go_wp2_with fail
  go_at_call 32
  refine HSa.out.mono ?_
  rintro q w2 ⟨rfl, hb⟩
  obtain ⟨g, rfl⟩ := g0.on hb
  clear hb b0 b1 b2 b3 b4 b5 b6 b7 b8 b9 b10 b11 b12
  have b13 := HBX.out g 13 (.slice A5 e.ex.length c5) rfl
  have b14 := HBX.out g 14 (.slice A6 e.plus.length c6) rfl
  have b15 := HBX.out g 15 (.slice A7 e.ch.length c7) rfl
  have hw : sm = false ∨ sm = true ∧ ((e.ex.length : Int) == 0) = false ∨ sm = true ∧ ((e.ex.length : Int) == 0) = true ∧ ((e.plus.length : Int) == 0) = false ∨ sm = true ∧ ((e.ex.length : Int) == 0) = true ∧ ((e.plus.length : Int) == 0) = true := by cases sm <;> cases ((e.ex.length : Int) == 0) <;> cases ((e.plus.length : Int) == 0) <;> simp
  rcases hw with rfl | ⟨rfl, q1⟩ | ⟨rfl, q1, q2⟩ | ⟨rfl, q1, q2⟩
  all_goals
    go_wp2_with fail
    go_ret
    refine ⟨ret_bool ?_, HWG.out g⟩
    rw [E.out]
    first | rfl | (rw [q1]; rfl) | (rw [q1, q2]; rfl) | (rw [q1, q2]; simp)
set_option maxRecDepth 100000 in
set_option maxHeartbeats 8000000 in
theorem rmay11_head (e : Evt) (A1 A2 A3 A4 A5 A6 A7 : Option Addr) (c1 c2 c3 c4 c5 c6 c7 : Nat) (hs : stampB e.start = true) (h1 : 1 ≤ e.long) (h2 : e.long ≤ 10080) (ha : e.again = true) (hbad : e.world = true ∨ mayB e.rule = false ∨ rowB e.ex = false ∨ rowB e.plus = false ∨ 50 < e.ch.length) (w : World) (hx : e.ex.length ≤ 1000000) (hp : e.plus.length ≤ 1000000) (h : EAt w e A1 A2 A3 A4 A5 A6 A7 c1 c2 c3 c4 c5 c6 c7) :
    Calls Tryz.prog 11 #[.agg (ecells e A1 A2 A3 A4 A5 A6 A7 c1 c2 c3 c4 c5 c6 c7)] w fun q w' => q = .returned (.bool (mayEB e)) ∧ Below w.heap.size w w' := by
  obtain ⟨W1, hW1⟩ : ∃ W1, w.alloc (.cells (ecells e A1 A2 A3 A4 A5 A6 A7 c1 c2 c3 c4 c5 c6 c7) 32) = W1 := ⟨_, rfl⟩
  have hB1 : Below w.heap.size w W1 := by rw [← hW1]; exact (Below.refl _ _).alloc (Nat.le_refl _) _
  have hbx : W1.heap[w.heap.size]? = some (.cells (ecells e A1 A2 A3 A4 A5 A6 A7 c1 c2 c3 c4 c5 c6 c7) 32 (0, 0)) := by rw [← hW1]; exact heap_alloc_new _ _
  have HBX : Hid (∀ (G : Gr W1) (k : Nat) (v : Value), (ecells e A1 A2 A3 A4 A5 A6 A7 c1 c2 c3 c4 c5 c6 c7)[k]? = some v → G.val.cell? ⟨w.heap.size, k, none⟩ = some v) := fun G k v hv => cell_old (blk_cell hbx hv) G.ok
  have HWG : Hid (∀ G : Gr W1, Below w.heap.size w G.val) := fun G => hB1.trans (G.ok.mono hB1.size)
  have E1 := Lib.hid hW1
  have HSt := Lib.hid (rstamp11_any e.start W1)
  obtain ⟨g0, hg0⟩ : ∃ g0 : Gr W1, W1 = g0.val := ⟨⟨W1, Below.refl _ _⟩, rfl⟩
  have HG0 := Lib.hid hg0
  have HMy : Hid (∀ G : Gr W1, Calls Tryz.prog 33 #[.agg (rcells e.rule A1 A2 A3 A4 c1 c2 c3 c4)] G.val fun q w2 => q = .returned (.bool (mayB e.rule)) ∧ Below G.val.heap.size G.val w2) := fun G => rmay9_any e.rule A1 A2 A3 A4 c1 c2 c3 c4 G.val (h.below (HWG.out G)).r
  unfold rcells at HMy
  have HRe : Hid (∀ G : Gr W1, Calls Tryz.prog 34 #[.slice A5 e.ex.length c5] G.val fun q w2 => q = .returned (.bool (rowB e.ex)) ∧ Below G.val.heap.size G.val w2) := fun G => rrow11_any e.ex A5 c5 G.val hx (h.below (HWG.out G)).s5
  have HRp : Hid (∀ G : Gr W1, Calls Tryz.prog 34 #[.slice A6 e.plus.length c6] G.val fun q w2 => q = .returned (.bool (rowB e.plus)) ∧ Below G.val.heap.size G.val w2) := fun G => rrow11_any e.plus A6 c6 G.val hp (h.below (HWG.out G)).s6
  have d1 : decide (e.long < 1) = false := decide_eq_false (by omega)
  have d2 : decide (10080 < e.long) = false := decide_eq_false (by omega)
  rw [hs] at HSt
  have E : Hid (mayEB e = false) := decide_eq_false fun k => by
    have k2 := k.2.2.2.2 ha
    rcases hbad with q | q | q | q | q
    · rw [k2.1] at q; cases q
    · rw [k2.2.1] at q; cases q
    · rw [k2.2.2.1] at q; cases q
    · rw [k2.2.2.2.1] at q; cases q
    · have := k2.2.2.2.2.1; omega
  have hways : e.world = true ∨ e.world = false ∧ mayB e.rule = false ∨ e.world = false ∧ mayB e.rule = true ∧ rowB e.ex = false ∨ e.world = false ∧ mayB e.rule = true ∧ rowB e.ex = true ∧ rowB e.plus = false ∨ e.world = false ∧ mayB e.rule = true ∧ rowB e.ex = true ∧ rowB e.plus = true ∧ decide ((50 : Int) < e.ch.length) = true := by
    cases q1 : e.world <;> cases q2 : mayB e.rule <;> cases q3 : rowB e.ex <;> cases q4 : rowB e.plus <;> simp [q1, q2, q3, q4] at hbad ⊢
    omega
  clear hbad
  rcases hways with w1 | ⟨w1, w2⟩ | ⟨w1, w2, w3⟩ | ⟨w1, w2, w3, w4⟩ | ⟨w1, w2, w3, w4, w5⟩
  · skip
    have b0 := HBX.out g0 0 (.int .i64 e.start) rfl
    have b1 := HBX.out g0 1 (.int .i64 e.long) rfl
    have b2 := HBX.out g0 2 (.bool e.world) rfl
    have b3 := HBX.out g0 3 (.bool e.again) rfl
    rw [ha] at b3
    rw [w1] at b2
    clear h hW1 hB1 hbx hg0
    clear hs h1 h2
    unfold ecells at E1
    unfold ecells
    rw [ha, w1] at E1 ⊢
    clear ha w1
    go_enter Tryz.func11, Tryz.ntmps11
    go_upto_region 1 with fail
    rw [E1.out]
    rw [HG0.out]
    rw [HG0.out] at HSt
    go_wp2_with fail
    go_at_call 31
    refine HSt.out.mono ?_
    rintro q w' ⟨rfl, rfl⟩
    go_wp2_with fail
    go_ret
    exact ⟨ret_bool E.out.symm, HWG.out g0⟩
  · rw [w2] at HMy
    have b0 := HBX.out g0 0 (.int .i64 e.start) rfl
    have b1 := HBX.out g0 1 (.int .i64 e.long) rfl
    have b2 := HBX.out g0 2 (.bool e.world) rfl
    have b3 := HBX.out g0 3 (.bool e.again) rfl
    have b4 := HBX.out g0 4 (.int .i64 e.rule.freq) rfl
    have b5 := HBX.out g0 5 (.int .i64 e.rule.iv) rfl
    have b6 := HBX.out g0 6 (.int .i64 e.rule.count) rfl
    have b7 := HBX.out g0 7 (.int .i64 e.rule.until_) rfl
    have b8 := HBX.out g0 8 (.slice A1 e.rule.bm.length c1) rfl
    have b9 := HBX.out g0 9 (.slice A2 e.rule.bd.length c2) rfl
    have b10 := HBX.out g0 10 (.slice A3 e.rule.bw.length c3) rfl
    have b11 := HBX.out g0 11 (.slice A4 e.rule.bs.length c4) rfl
    have b12 := HBX.out g0 12 (.int .i64 e.rule.start) rfl
    rw [ha] at b3
    rw [w1] at b2
    clear h hW1 hB1 hbx hg0
    clear hs h1 h2
    unfold ecells at E1
    unfold ecells
    rw [ha, w1] at E1 ⊢
    clear ha w1
    go_enter Tryz.func11, Tryz.ntmps11
    go_upto_region 1 with fail
    rw [E1.out]
    rw [HG0.out]
    rw [HG0.out] at HSt
    go_wp2_with fail
    go_at_call 31
    refine HSt.out.mono ?_
    rintro q w' ⟨rfl, rfl⟩
    go_wp2_with fail
    go_at_call 33
    refine (HMy.out g0).mono ?_
    rintro q w2 ⟨rfl, hb⟩
    obtain ⟨g, rfl⟩ := g0.on hb
    clear hb b0 b1 b2 b3 b4 b5 b6 b7 b8 b9 b10 b11 b12
    go_wp2_with fail
    go_ret
    exact ⟨ret_bool E.out.symm, HWG.out g⟩
  · rw [w2] at HMy
    rw [w3] at HRe
    have b0 := HBX.out g0 0 (.int .i64 e.start) rfl
    have b1 := HBX.out g0 1 (.int .i64 e.long) rfl
    have b2 := HBX.out g0 2 (.bool e.world) rfl
    have b3 := HBX.out g0 3 (.bool e.again) rfl
    have b4 := HBX.out g0 4 (.int .i64 e.rule.freq) rfl
    have b5 := HBX.out g0 5 (.int .i64 e.rule.iv) rfl
    have b6 := HBX.out g0 6 (.int .i64 e.rule.count) rfl
    have b7 := HBX.out g0 7 (.int .i64 e.rule.until_) rfl
    have b8 := HBX.out g0 8 (.slice A1 e.rule.bm.length c1) rfl
    have b9 := HBX.out g0 9 (.slice A2 e.rule.bd.length c2) rfl
    have b10 := HBX.out g0 10 (.slice A3 e.rule.bw.length c3) rfl
    have b11 := HBX.out g0 11 (.slice A4 e.rule.bs.length c4) rfl
    have b12 := HBX.out g0 12 (.int .i64 e.rule.start) rfl
    rw [ha] at b3
    rw [w1] at b2
    clear h hW1 hB1 hbx hg0
    clear hs h1 h2
    unfold ecells at E1
    unfold ecells
    rw [ha, w1] at E1 ⊢
    clear ha w1
    go_enter Tryz.func11, Tryz.ntmps11
    go_upto_region 1 with fail
    rw [E1.out]
    rw [HG0.out]
    rw [HG0.out] at HSt
    go_wp2_with fail
    go_at_call 31
    refine HSt.out.mono ?_
    rintro q w' ⟨rfl, rfl⟩
    go_wp2_with fail
    go_at_call 33
    refine (HMy.out g0).mono ?_
    rintro q w2 ⟨rfl, hb⟩
    obtain ⟨g, rfl⟩ := g0.on hb
    clear hb b0 b1 b2 b3 b4 b5 b6 b7 b8 b9 b10 b11 b12
    have b13 := HBX.out g 13 (.slice A5 e.ex.length c5) rfl
    go_wp2_with fail
    go_at_call 34
    refine (HRe.out g).mono ?_
    rintro q w2 ⟨rfl, hb⟩
    obtain ⟨g, rfl⟩ := g.on hb
    clear hb b13
    go_wp2_with fail
    go_ret
    exact ⟨ret_bool E.out.symm, HWG.out g⟩
  · rw [w2] at HMy
    rw [w3] at HRe
    rw [w4] at HRp
    have b0 := HBX.out g0 0 (.int .i64 e.start) rfl
    have b1 := HBX.out g0 1 (.int .i64 e.long) rfl
    have b2 := HBX.out g0 2 (.bool e.world) rfl
    have b3 := HBX.out g0 3 (.bool e.again) rfl
    have b4 := HBX.out g0 4 (.int .i64 e.rule.freq) rfl
    have b5 := HBX.out g0 5 (.int .i64 e.rule.iv) rfl
    have b6 := HBX.out g0 6 (.int .i64 e.rule.count) rfl
    have b7 := HBX.out g0 7 (.int .i64 e.rule.until_) rfl
    have b8 := HBX.out g0 8 (.slice A1 e.rule.bm.length c1) rfl
    have b9 := HBX.out g0 9 (.slice A2 e.rule.bd.length c2) rfl
    have b10 := HBX.out g0 10 (.slice A3 e.rule.bw.length c3) rfl
    have b11 := HBX.out g0 11 (.slice A4 e.rule.bs.length c4) rfl
    have b12 := HBX.out g0 12 (.int .i64 e.rule.start) rfl
    rw [ha] at b3
    rw [w1] at b2
    clear h hW1 hB1 hbx hg0
    clear hs h1 h2
    unfold ecells at E1
    unfold ecells
    rw [ha, w1] at E1 ⊢
    clear ha w1
    go_enter Tryz.func11, Tryz.ntmps11
    go_upto_region 1 with fail
    rw [E1.out]
    rw [HG0.out]
    rw [HG0.out] at HSt
    go_wp2_with fail
    go_at_call 31
    refine HSt.out.mono ?_
    rintro q w' ⟨rfl, rfl⟩
    go_wp2_with fail
    go_at_call 33
    refine (HMy.out g0).mono ?_
    rintro q w2 ⟨rfl, hb⟩
    obtain ⟨g, rfl⟩ := g0.on hb
    clear hb b0 b1 b2 b3 b4 b5 b6 b7 b8 b9 b10 b11 b12
    have b13 := HBX.out g 13 (.slice A5 e.ex.length c5) rfl
    go_wp2_with fail
    go_at_call 34
    refine (HRe.out g).mono ?_
    rintro q w2 ⟨rfl, hb⟩
    obtain ⟨g, rfl⟩ := g.on hb
    clear hb b13
    have b14 := HBX.out g 14 (.slice A6 e.plus.length c6) rfl
    go_wp2_with fail
    go_at_call 34
    refine (HRp.out g).mono ?_
    rintro q w2 ⟨rfl, hb⟩
    obtain ⟨g, rfl⟩ := g.on hb
    clear hb b14
    go_wp2_with fail
    go_ret
    exact ⟨ret_bool E.out.symm, HWG.out g⟩
  · rw [w2] at HMy
    rw [w3] at HRe
    rw [w4] at HRp
    have b0 := HBX.out g0 0 (.int .i64 e.start) rfl
    have b1 := HBX.out g0 1 (.int .i64 e.long) rfl
    have b2 := HBX.out g0 2 (.bool e.world) rfl
    have b3 := HBX.out g0 3 (.bool e.again) rfl
    have b4 := HBX.out g0 4 (.int .i64 e.rule.freq) rfl
    have b5 := HBX.out g0 5 (.int .i64 e.rule.iv) rfl
    have b6 := HBX.out g0 6 (.int .i64 e.rule.count) rfl
    have b7 := HBX.out g0 7 (.int .i64 e.rule.until_) rfl
    have b8 := HBX.out g0 8 (.slice A1 e.rule.bm.length c1) rfl
    have b9 := HBX.out g0 9 (.slice A2 e.rule.bd.length c2) rfl
    have b10 := HBX.out g0 10 (.slice A3 e.rule.bw.length c3) rfl
    have b11 := HBX.out g0 11 (.slice A4 e.rule.bs.length c4) rfl
    have b12 := HBX.out g0 12 (.int .i64 e.rule.start) rfl
    rw [ha] at b3
    rw [w1] at b2
    clear h hW1 hB1 hbx hg0
    clear hs h1 h2
    unfold ecells at E1
    unfold ecells
    rw [ha, w1] at E1 ⊢
    clear ha w1
    go_enter Tryz.func11, Tryz.ntmps11
    go_upto_region 1 with fail
    rw [E1.out]
    rw [HG0.out]
    rw [HG0.out] at HSt
    go_wp2_with fail
    go_at_call 31
    refine HSt.out.mono ?_
    rintro q w' ⟨rfl, rfl⟩
    go_wp2_with fail
    go_at_call 33
    refine (HMy.out g0).mono ?_
    rintro q w2 ⟨rfl, hb⟩
    obtain ⟨g, rfl⟩ := g0.on hb
    clear hb b0 b1 b2 b3 b4 b5 b6 b7 b8 b9 b10 b11 b12
    have b13 := HBX.out g 13 (.slice A5 e.ex.length c5) rfl
    go_wp2_with fail
    go_at_call 34
    refine (HRe.out g).mono ?_
    rintro q w2 ⟨rfl, hb⟩
    obtain ⟨g, rfl⟩ := g.on hb
    clear hb b13
    have b14 := HBX.out g 14 (.slice A6 e.plus.length c6) rfl
    go_wp2_with fail
    go_at_call 34
    refine (HRp.out g).mono ?_
    rintro q w2 ⟨rfl, hb⟩
    obtain ⟨g, rfl⟩ := g.on hb
    clear hb b14
    have b15 := HBX.out g 15 (.slice A7 e.ch.length c7) rfl
    go_wp2_with fail
    go_ret
    exact ⟨ret_bool E.out.symm, HWG.out g⟩
end Go.Proofs.YtfjmofefciopmaaGreat
end
