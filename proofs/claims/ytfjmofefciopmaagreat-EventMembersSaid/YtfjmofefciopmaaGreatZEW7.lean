import Derived.Test.YtfjmofefciopmaaGreatZEW5
import Derived.Test.YtfjmofefciopmaaGreatZMX
import Derived.Test.YtfjmofefciopmaaGreatZTW9
/- Contract: the members of an event that meet a window, the document's. -/
section
namespace Go.Proofs.YtfjmofefciopmaaGreat
open Go.ChangeShapes Go.WideShapes Go.ChangeAt Go.RowKit Go.Joins Sp Ev Qr
def changedB (ch : List (Int × Int × Int)) (at_ : Int) : Bool := ch.any fun c => decide (c.1 = at_)
theorem changedB_take (l : List (Int × Int × Int)) (k : Nat) (x : Int) (c : Int × Int × Int) (h : l[k]? = some c) : changedB (l.take (k + 1)) x = (changedB (l.take k) x || decide (c.1 = x)) := by
  have hl := (List.getElem?_eq_some_iff.1 h).1
  rw [List.take_add_one, h]; simp [changedB]
def plusAll : List Int → List Int → List Int
  | ts, [] => ts
  | ts, p :: ps => plusAll (if Tm.memB ts p then ts else ts ++ [p]) ps
theorem plusAll_len : ∀ (ps ts : List Int), (plusAll ts ps).length ≤ ts.length + ps.length
  | [], ts => by simp [plusAll]
  | p :: ps, ts => by
    have h1 := plusAll_len ps (if Tm.memB ts p then ts else ts ++ [p])
    have h2 : (if Tm.memB ts p then ts else ts ++ [p]).length ≤ ts.length + 1 := by split <;> simp
    show (plusAll (if Tm.memB ts p then ts else ts ++ [p]) ps).length ≤ _
    rw [List.length_cons]; omega
noncomputable def timesE (e : Evt) (x2 : Int) : List Int := if e.again then plusAll (Tm.timesL e.rule e.start ((x2 + 2000).tdiv 1440 + 1)) e.plus else [e.start]
noncomputable def stepT (z : Zn.Z) (e : Evt) (x : Spn) (out : List Spn) (at_ : Int) : List Spn := if changedB e.ch at_ = true ∨ Tm.memB e.ex at_ = true ∨ at_ < x.1 - 20000 ∨ x.2 + 2000 < at_ then out else memberL out z at_ e.long x
noncomputable def stepC (z : Zn.Z) (e : Evt) (x : Spn) (out : List Spn) (c : Int × Int × Int) : List Spn := if atB e c.1 then memberL out z c.2.1 c.2.2 x else out
def goodW (x : Spn) : Prop := x.1 < x.2 ∧ -1000000000000 ≤ x.1 ∧ x.2 ≤ 1000000000000 ∧ x.2 - x.1 ≤ 528480
instance (x : Spn) : Decidable (goodW x) := by unfold goodW; infer_instance
open Classical in
noncomputable def membersL (z : Zn.Z) (e : Evt) (x : Spn) : List Spn :=
  if mayE e ∧ Zn.mayP z ∧ goodW x then
    if e.world = true then (if e.start < x.2 ∧ x.1 < e.start + e.long then [(e.start, e.start + e.long)] else [])
    else e.ch.foldl (stepC z e x) ((timesE e x.2).foldl (stepT z e x) [])
  else []
theorem memberL_len (l : List Spn) (z : Zn.Z) (a g : Int) (x : Spn) : (memberL l z a g x).length ≤ l.length + 1 := by
  unfold memberL
  split
  · omega
  · split
    · omega
    · rw [putL_len]; omega
theorem sl_empty (w : World) (b : Nat) : Sl w (some ⟨b, 0, none⟩) 0 0 (sv []) := ⟨Nat.le_refl _, Nat.zero_le _, (fun h => by cases h), fun h => absurd h (by simp [sv])⟩
set_option maxRecDepth 100000 in
set_option maxHeartbeats 8000000 in
theorem rmembers_no (z : Zn.Z) (Z : Option Addr) (cz : Nat) (e : Evt) (A1 A2 A3 A4 A5 A6 A7 : Option Addr) (c1 c2 c3 c4 c5 c6 c7 : Nat) (x1 x2 : Int) (w : World) (hw : ZWf z) (hz : ZAt w Z z) (h : EAt w e A1 A2 A3 A4 A5 A6 A7 c1 c2 c3 c4 c5 c6 c7) (hxl : e.ex.length ≤ 1000000) (hpl : e.plus.length ≤ 1000000) (hno : ¬ (mayE e ∧ Zn.mayP z ∧ goodW (x1, x2))) (hx1 : -9223372036854775808 ≤ x1 ∧ x1 ≤ 9223372036854775807) (hx2 : -9223372036854775808 ≤ x2 ∧ x2 ≤ 9223372036854775807) :
    Calls Tryz.prog 14 #[.agg #[.int .i64 z.base, .slice Z z.n cz], .agg (ecells e A1 A2 A3 A4 A5 A6 A7 c1 c2 c3 c4 c5 c6 c7), .agg #[.int .i64 x1, .int .i64 x2]] w (RetS [] w) := by
  obtain ⟨W1, hW1⟩ : ∃ W1, ((w.alloc (.cells #[.int .i64 z.base, .slice Z z.n cz] 24)).alloc (.cells (ecells e A1 A2 A3 A4 A5 A6 A7 c1 c2 c3 c4 c5 c6 c7) 32)).alloc (.cells #[.int .i64 x1, .int .i64 x2] 34) = W1 := ⟨_, rfl⟩
  have hsz : W1.heap.size = w.heap.size + 3 := by rw [← hW1]; simp
  have hB1 : Below w.heap.size w W1 := by rw [← hW1]; exact (((Below.refl _ _).alloc (Nat.le_refl _) _).alloc (by simp) _).alloc (by simp; omega) _
  have hbx : W1.heap[w.heap.size + 1]? = some (.cells (ecells e A1 A2 A3 A4 A5 A6 A7 c1 c2 c3 c4 c5 c6 c7) 32 (0, 0)) := by
    rw [← hW1, heap_alloc_old _ _ (by simp)]
    exact (congrArg (fun k => ((w.alloc (.cells #[.int .i64 z.base, .slice Z z.n cz] 24)).alloc (.cells (ecells e A1 A2 A3 A4 A5 A6 A7 c1 c2 c3 c4 c5 c6 c7) 32)).heap[k]?) (by simp)).trans (heap_alloc_new _ _)
  have HBX : Hid (∀ (G : Gr W1) (k : Nat) (v : Value), (ecells e A1 A2 A3 A4 A5 A6 A7 c1 c2 c3 c4 c5 c6 c7)[k]? = some v → G.val.cell? ⟨w.heap.size + 1, k, none⟩ = some v) := fun G k v hv => cell_old (blk_cell hbx hv) G.ok
  have HZ0 : Hid (∀ G : Gr W1, G.val.cell? ⟨w.heap.size, 0, none⟩ = some (.int .i64 z.base) ∧ G.val.cell? ⟨w.heap.size, 1, none⟩ = some (.slice Z z.n cz) ∧ G.val.cell? ⟨w.heap.size + 2, 0, none⟩ = some (.int .i64 x1) ∧ G.val.cell? ⟨w.heap.size + 2, 1, none⟩ = some (.int .i64 x2)) := fun G => by
    refine ⟨cell_old ?_ G.ok, cell_old ?_ G.ok, cell_old ?_ G.ok, cell_old ?_ G.ok⟩
    all_goals (rw [← hW1]; simp [go_sem])
  have HWG : Hid (∀ G : Gr W1, Below w.heap.size w G.val) := fun G => hB1.trans (G.ok.mono hB1.size)
  have hG0 : ∃ G : Gr W1, W1.alloc (.cells #[] 34) = G.val := ⟨⟨_, (Below.refl _ _).alloc (Nat.le_refl _) _⟩, rfl⟩
  obtain ⟨G0, hG0⟩ := hG0
  have E1 : Hid ((((w.alloc (.cells #[.int .i64 z.base, .slice Z z.n cz] 24)).alloc (.cells (ecells e A1 A2 A3 A4 A5 A6 A7 c1 c2 c3 c4 c5 c6 c7) 32)).alloc (.cells #[.int .i64 x1, .int .i64 x2] 34)).alloc (.cells #[] 34) = G0.val) := by show _ = _; rw [hW1]; exact hG0
  have HMy : Hid (∀ G : Gr W1, Calls Tryz.prog 11 #[.agg (ecells e A1 A2 A3 A4 A5 A6 A7 c1 c2 c3 c4 c5 c6 c7)] G.val fun q w2 => q = .returned (.bool (mayEB e)) ∧ Below G.val.heap.size G.val w2) := fun G => rmay11_any e A1 A2 A3 A4 A5 A6 A7 c1 c2 c3 c4 c5 c6 c7 G.val hxl hpl (h.below (HWG.out G))
  have HZy : Hid (∀ G : Gr W1, Calls Tryz.prog 18 #[.agg #[.int .i64 z.base, .slice Z z.n cz]] G.val fun q w2 => q = .returned (.bool (Zn.mayB z)) ∧ Below G.val.heap.size G.val w2) := fun G => rzmay_any G.val Z z cz hw (hz.below (HWG.out G))
  have HSZ := Lib.hid hsz
  have hways : mayEB e = false ∨ mayEB e = true ∧ Zn.mayB z = false ∨ mayEB e = true ∧ Zn.mayB z = true ∧ (decide (x2 ≤ x1) = true ∨ decide (x2 ≤ x1) = false ∧ decide (x1 < -1000000000000) = true ∨ decide (x2 ≤ x1) = false ∧ decide (x1 < -1000000000000) = false ∧ decide (1000000000000 < x2) = true ∨ decide (x2 ≤ x1) = false ∧ decide (x1 < -1000000000000) = false ∧ decide (1000000000000 < x2) = false ∧ decide (528480 < x2 - x1) = true ∧ IntKind.i64.wrap (x2 - x1) = x2 - x1) := by
    cases h1 : mayEB e with
    | false => exact .inl rfl
    | true =>
      cases h2 : Zn.mayB z with
      | false => exact .inr (.inl ⟨rfl, rfl⟩)
      | true =>
        refine .inr (.inr ⟨rfl, rfl, ?_⟩)
        by_cases g1 : x2 ≤ x1
        · exact .inl (decide_eq_true g1)
        by_cases g2 : x1 < -1000000000000
        · exact .inr (.inl ⟨decide_eq_false g1, decide_eq_true g2⟩)
        by_cases g3 : 1000000000000 < x2
        · exact .inr (.inr (.inl ⟨decide_eq_false g1, decide_eq_false g2, decide_eq_true g3⟩))
        refine .inr (.inr (.inr ⟨decide_eq_false g1, decide_eq_false g2, decide_eq_false g3, decide_eq_true ?_, by rw [IntKind.wrap_i64]; omega⟩))
        by_cases g4 : 528480 < x2 - x1
        · exact g4
        · exact absurd ⟨of_decide_eq_true h1, Zn.may_iff.1 h2, by unfold goodW; simp only; omega⟩ hno
  clear hW1 hsz hB1 hbx hG0 h hz hw hno hx1 hx2
  generalize mayEB e = mb at *
  generalize Zn.mayB z = zb at *
  unfold ecells at E1 HMy
  unfold ecells
  rcases hways with rfl | ⟨rfl, rfl⟩ | ⟨rfl, rfl, q1 | ⟨q1, q2⟩ | ⟨q1, q2, q3⟩ | ⟨q1, q2, q3, q4, q5⟩⟩
  case inl =>
    go_enter Tryz.func14, Tryz.ntmps14
    go_upto_region 2 with fail
    rw [E1.out]
    have b0 := HBX.out G0 0 (.int .i64 e.start) rfl
    have b1 := HBX.out G0 1 (.int .i64 e.long) rfl
    have b2 := HBX.out G0 2 (.bool e.world) rfl
    have b3 := HBX.out G0 3 (.bool e.again) rfl
    have b4 := HBX.out G0 4 (.int .i64 e.rule.freq) rfl
    have b5 := HBX.out G0 5 (.int .i64 e.rule.iv) rfl
    have b6 := HBX.out G0 6 (.int .i64 e.rule.count) rfl
    have b7 := HBX.out G0 7 (.int .i64 e.rule.until_) rfl
    have b8 := HBX.out G0 8 (.slice A1 e.rule.bm.length c1) rfl
    have b9 := HBX.out G0 9 (.slice A2 e.rule.bd.length c2) rfl
    have b10 := HBX.out G0 10 (.slice A3 e.rule.bw.length c3) rfl
    have b11 := HBX.out G0 11 (.slice A4 e.rule.bs.length c4) rfl
    have b12 := HBX.out G0 12 (.int .i64 e.rule.start) rfl
    have b13 := HBX.out G0 13 (.slice A5 e.ex.length c5) rfl
    have b14 := HBX.out G0 14 (.slice A6 e.plus.length c6) rfl
    have b15 := HBX.out G0 15 (.slice A7 e.ch.length c7) rfl
    go_wp2_with fail
    go_at_call 11
    refine (HMy.out G0).mono ?_
    rintro q w2 ⟨rfl, hb⟩
    obtain ⟨g, rfl⟩ := G0.on hb
    clear hb b0 b1 b2 b3 b4 b5 b6 b7 b8 b9 b10 b11 b12 b13 b14 b15
    obtain ⟨k1, k2, k3, k4⟩ := HZ0.out g
    go_wp2_with fail
    go_ret
    exact ⟨some ⟨w.heap.size + 3, 0, none⟩, 0, rfl, sl_empty _ _, HWG.out g⟩
  all_goals
    go_enter Tryz.func14, Tryz.ntmps14
    go_upto_region 2 with fail
    rw [E1.out]
    have b0 := HBX.out G0 0 (.int .i64 e.start) rfl
    have b1 := HBX.out G0 1 (.int .i64 e.long) rfl
    have b2 := HBX.out G0 2 (.bool e.world) rfl
    have b3 := HBX.out G0 3 (.bool e.again) rfl
    have b4 := HBX.out G0 4 (.int .i64 e.rule.freq) rfl
    have b5 := HBX.out G0 5 (.int .i64 e.rule.iv) rfl
    have b6 := HBX.out G0 6 (.int .i64 e.rule.count) rfl
    have b7 := HBX.out G0 7 (.int .i64 e.rule.until_) rfl
    have b8 := HBX.out G0 8 (.slice A1 e.rule.bm.length c1) rfl
    have b9 := HBX.out G0 9 (.slice A2 e.rule.bd.length c2) rfl
    have b10 := HBX.out G0 10 (.slice A3 e.rule.bw.length c3) rfl
    have b11 := HBX.out G0 11 (.slice A4 e.rule.bs.length c4) rfl
    have b12 := HBX.out G0 12 (.int .i64 e.rule.start) rfl
    have b13 := HBX.out G0 13 (.slice A5 e.ex.length c5) rfl
    have b14 := HBX.out G0 14 (.slice A6 e.plus.length c6) rfl
    have b15 := HBX.out G0 15 (.slice A7 e.ch.length c7) rfl
    go_wp2_with fail
    go_at_call 11
    refine (HMy.out G0).mono ?_
    rintro q w2 ⟨rfl, hb⟩
    obtain ⟨g, rfl⟩ := G0.on hb
    clear hb b0 b1 b2 b3 b4 b5 b6 b7 b8 b9 b10 b11 b12 b13 b14 b15
    obtain ⟨k1, k2, k3, k4⟩ := HZ0.out g
    go_wp2_with fail
    go_at_call 18
    refine (HZy.out g).mono ?_
    rintro q w2 ⟨rfl, hb⟩
    obtain ⟨g, rfl⟩ := g.on hb
    clear hb k1 k2 k3 k4
    obtain ⟨k1, k2, k3, k4⟩ := HZ0.out g
    go_wp2_with fail
    go_ret
    exact ⟨some ⟨w.heap.size + 3, 0, none⟩, 0, rfl, sl_empty _ _, HWG.out g⟩
set_option maxRecDepth 100000 in
set_option maxHeartbeats 8000000 in
theorem rmembers_world (z : Zn.Z) (Z : Option Addr) (cz : Nat) (e : Evt) (A1 A2 A3 A4 A5 A6 A7 : Option Addr) (c1 c2 c3 c4 c5 c6 c7 : Nat) (x1 x2 : Int) (w : World) (hw : ZWf z) (hz : ZAt w Z z) (h : EAt w e A1 A2 A3 A4 A5 A6 A7 c1 c2 c3 c4 c5 c6 c7) (hxl : e.ex.length ≤ 1000000) (hpl : e.plus.length ≤ 1000000) (hm : mayE e) (hzm : Zn.mayP z) (hgw : goodW (x1, x2)) (hwo : e.world = true) :
    Calls Tryz.prog 14 #[.agg #[.int .i64 z.base, .slice Z z.n cz], .agg (ecells e A1 A2 A3 A4 A5 A6 A7 c1 c2 c3 c4 c5 c6 c7), .agg #[.int .i64 x1, .int .i64 x2]] w (RetS (if e.start < x2 ∧ x1 < e.start + e.long then [(e.start, e.start + e.long)] else []) w) := by
  obtain ⟨i0, hi0, hq0, hq1, hq2⟩ := info_parts span_info
  obtain ⟨W1, hW1⟩ : ∃ W1, ((w.alloc (.cells #[.int .i64 z.base, .slice Z z.n cz] 24)).alloc (.cells (ecells e A1 A2 A3 A4 A5 A6 A7 c1 c2 c3 c4 c5 c6 c7) 32)).alloc (.cells #[.int .i64 x1, .int .i64 x2] 34) = W1 := ⟨_, rfl⟩
  have hsz : W1.heap.size = w.heap.size + 3 := by rw [← hW1]; simp
  have hB1 : Below w.heap.size w W1 := by rw [← hW1]; exact (((Below.refl _ _).alloc (Nat.le_refl _) _).alloc (by simp) _).alloc (by simp; omega) _
  have hbx : W1.heap[w.heap.size + 1]? = some (.cells (ecells e A1 A2 A3 A4 A5 A6 A7 c1 c2 c3 c4 c5 c6 c7) 32 (0, 0)) := by
    rw [← hW1, heap_alloc_old _ _ (by simp)]
    exact (congrArg (fun k => ((w.alloc (.cells #[.int .i64 z.base, .slice Z z.n cz] 24)).alloc (.cells (ecells e A1 A2 A3 A4 A5 A6 A7 c1 c2 c3 c4 c5 c6 c7) 32)).heap[k]?) (by simp)).trans (heap_alloc_new _ _)
  have HBX : Hid (∀ (G : Gr W1) (k : Nat) (v : Value), (ecells e A1 A2 A3 A4 A5 A6 A7 c1 c2 c3 c4 c5 c6 c7)[k]? = some v → G.val.cell? ⟨w.heap.size + 1, k, none⟩ = some v) := fun G k v hv => cell_old (blk_cell hbx hv) G.ok
  have HZ0 : Hid (∀ G : Gr W1, G.val.cell? ⟨w.heap.size, 0, none⟩ = some (.int .i64 z.base) ∧ G.val.cell? ⟨w.heap.size, 1, none⟩ = some (.slice Z z.n cz) ∧ G.val.cell? ⟨w.heap.size + 2, 0, none⟩ = some (.int .i64 x1) ∧ G.val.cell? ⟨w.heap.size + 2, 1, none⟩ = some (.int .i64 x2)) := fun G => by
    refine ⟨cell_old ?_ G.ok, cell_old ?_ G.ok, cell_old ?_ G.ok, cell_old ?_ G.ok⟩
    all_goals (rw [← hW1]; simp [go_sem])
  have HWG : Hid (∀ G : Gr W1, Below w.heap.size w G.val) := fun G => hB1.trans (G.ok.mono hB1.size)
  have hG0 : ∃ G : Gr W1, W1.alloc (.cells #[] 34) = G.val := ⟨⟨_, (Below.refl _ _).alloc (Nat.le_refl _) _⟩, rfl⟩
  obtain ⟨G0, hG0⟩ := hG0
  have E1 : Hid ((((w.alloc (.cells #[.int .i64 z.base, .slice Z z.n cz] 24)).alloc (.cells (ecells e A1 A2 A3 A4 A5 A6 A7 c1 c2 c3 c4 c5 c6 c7) 32)).alloc (.cells #[.int .i64 x1, .int .i64 x2] 34)).alloc (.cells #[] 34) = G0.val) := by show _ = _; rw [hW1]; exact hG0
  have HMy : Hid (∀ G : Gr W1, Calls Tryz.prog 11 #[.agg (ecells e A1 A2 A3 A4 A5 A6 A7 c1 c2 c3 c4 c5 c6 c7)] G.val fun q w2 => q = .returned (.bool (mayEB e)) ∧ Below G.val.heap.size G.val w2) := fun G => rmay11_any e A1 A2 A3 A4 A5 A6 A7 c1 c2 c3 c4 c5 c6 c7 G.val hxl hpl (h.below (HWG.out G))
  have HZy : Hid (∀ G : Gr W1, Calls Tryz.prog 18 #[.agg #[.int .i64 z.base, .slice Z z.n cz]] G.val fun q w2 => q = .returned (.bool (Zn.mayB z)) ∧ Below G.val.heap.size G.val w2) := fun G => rzmay_any G.val Z z cz hw (hz.below (HWG.out G))
  have HSZ := Lib.hid hsz
  have hst : 0 ≤ e.start ∧ e.start < 158310720 := by have := hm.1; unfold stampB at this; simpa using this
  have hlg : 1 ≤ e.long ∧ e.long ≤ 10080 := ⟨hm.2.1, hm.2.2.1⟩
  obtain ⟨g1, g2, g3, g4⟩ := hgw
  simp only at g1 g2 g3 g4
  have q1 : decide (x2 ≤ x1) = false := decide_eq_false (by omega)
  have q2 : decide (x1 < -1000000000000) = false := decide_eq_false (by omega)
  have q3 : decide (1000000000000 < x2) = false := decide_eq_false (by omega)
  have q4 : decide (528480 < x2 - x1) = false := decide_eq_false (by omega)
  have q5 : IntKind.i64.wrap (x2 - x1) = x2 - x1 := by rw [IntKind.wrap_i64]; omega
  have q6 : IntKind.i64.wrap (e.start + e.long) = e.start + e.long := by rw [IntKind.wrap_i64]; omega
  rw [show mayEB e = true from decide_eq_true hm] at HMy
  rw [Zn.may_iff.2 hzm] at HZy
  have hO0 := World.ownsRow_made (base := W1.heap.size) (e := 34) (size := 2) W1 #[] 0 (Nat.le_refl _) (by decide) rfl
  rw [hG0] at hO0
  have HO0 := Lib.hid hO0
  have hways : decide (e.start < x2) = false ∨ decide (e.start < x2) = true ∧ decide (x1 < e.start + e.long) = false ∨ decide (e.start < x2) = true ∧ decide (x1 < e.start + e.long) = true := by
    cases decide (e.start < x2) <;> cases decide (x1 < e.start + e.long) <;> simp
  obtain ⟨r, hr⟩ : ∃ r, (if e.start < x2 ∧ x1 < e.start + e.long then [(e.start, e.start + e.long)] else []) = r := ⟨_, rfl⟩
  have HR := Lib.hid hr
  rw [hr]
  clear hW1 hsz hB1 hbx hG0 h hz hw hr hO0 g1 g2 g3 g4 hm hzm hst hlg
  unfold ecells at E1 HMy
  unfold ecells
  rw [hwo] at E1 HMy ⊢
  rcases hways with p1 | ⟨p1, p2⟩ | ⟨p1, p2⟩
  case inr.inr =>
    go_enter Tryz.func14, Tryz.ntmps14
    go_upto_region 2 with fail
    rw [E1.out]
    have b0 := HBX.out G0 0 (.int .i64 e.start) rfl
    have b1 := HBX.out G0 1 (.int .i64 e.long) rfl
    have b2 := HBX.out G0 2 (.bool e.world) rfl
    rw [hwo] at b2
    have b3 := HBX.out G0 3 (.bool e.again) rfl
    have b4 := HBX.out G0 4 (.int .i64 e.rule.freq) rfl
    have b5 := HBX.out G0 5 (.int .i64 e.rule.iv) rfl
    have b6 := HBX.out G0 6 (.int .i64 e.rule.count) rfl
    have b7 := HBX.out G0 7 (.int .i64 e.rule.until_) rfl
    have b8 := HBX.out G0 8 (.slice A1 e.rule.bm.length c1) rfl
    have b9 := HBX.out G0 9 (.slice A2 e.rule.bd.length c2) rfl
    have b10 := HBX.out G0 10 (.slice A3 e.rule.bw.length c3) rfl
    have b11 := HBX.out G0 11 (.slice A4 e.rule.bs.length c4) rfl
    have b12 := HBX.out G0 12 (.int .i64 e.rule.start) rfl
    have b13 := HBX.out G0 13 (.slice A5 e.ex.length c5) rfl
    have b14 := HBX.out G0 14 (.slice A6 e.plus.length c6) rfl
    have b15 := HBX.out G0 15 (.slice A7 e.ch.length c7) rfl
    go_wp2_with fail
    go_at_call 11
    refine (HMy.out G0).mono ?_
    rintro q w2 ⟨rfl, hb⟩
    have HB2 := Lib.hid hb
    obtain ⟨g, rfl⟩ := G0.on hb
    clear hb b0 b1 b2 b3 b4 b5 b6 b7 b8 b9 b10 b11 b12 b13 b14 b15
    obtain ⟨k1, k2, k3, k4⟩ := HZ0.out g
    go_wp2_with fail
    go_at_call 18
    refine (HZy.out g).mono ?_
    rintro q w2 ⟨rfl, hb⟩
    have HB3 := Lib.hid hb
    obtain ⟨g, rfl⟩ := g.on hb
    clear hb k1 k2 k3 k4
    obtain ⟨k1, k2, k3, k4⟩ := HZ0.out g
    have b0 := HBX.out g 0 (.int .i64 e.start) rfl
    have b1 := HBX.out g 1 (.int .i64 e.long) rfl
    have b2 := HBX.out g 2 (.bool e.world) rfl
    rw [hwo] at b2
    have HO1 : Hid (g.val.ownsRow W1.heap.size 34 2 (.slice (some ⟨w.heap.size + 3, 0, none⟩) 0 0) 0 (sv [])) := by
      show World.ownsRow _ _ _ _ _ _ _
      have := own_off (own_off HO0.out (F := fun _ => False) (.of_below HB2.out) (fun _ _ => id)) (F := fun _ => False) (.of_below HB3.out) (fun _ _ => id)
      rw [← HSZ.out]; exact this
    have hmx : 0 + 1 ≤ maxLen := by decide
    have hby : (0 + 1) * 16 ≤ 140737488355328 := by decide
    have HGS := Lib.hid g.size
    go_wp2_with (refine wpList_append_lies _ rfl _ _ _ (by rfl) W1.heap.size 34 i0 _ 2 16 Tryz.underlying38 hi0 hq0 hq1 hq2 rfl (by decide) (.slice (some ⟨w.heap.size + 3, 0, none⟩) 0 0) 0 _ (by rfl) (HO1.out.alloc _) ⟨g.val.heap.size, 0, none⟩ 1 1 [.int .i64 e.start, .int .i64 (e.start + e.long)] (by rfl) (by rfl) (World.news_of_block (cs := #[.int .i64 e.start, .int .i64 (e.start + e.long)]) (t := 34) (fr := (0, 0)) (heap_alloc_new _ _)) (by simp [Value.oneCell']) (Nat.lt_succ_self 0) hmx hby (by simp; have := HGS.out; omega) _ rfl ?_; intro gg cap2 w5 hown3 hgr3 hat3 hlt3)
    have hB3 : Below W1.heap.size W1 w5 := (g.ok.alloc HGS.out _).grown hgr3 (by simp; have := HGS.out; omega) (fun kk hk => (HO1.out.lt kk hk).1)
    have HO3 : Hid (w5.ownsRow W1.heap.size 34 2 (.slice (some ⟨gg, 0, none⟩) 1 cap2) 1 (sv [(e.start, e.start + e.long)])) := hown3
    obtain ⟨g3, rfl⟩ := Gr.of hB3
    have HRR : Hid (r = [(e.start, e.start + e.long)]) := by show _ = _; rw [← HR.out, if_pos ⟨of_decide_eq_true p1, of_decide_eq_true p2⟩]
    clear hown3 hgr3 hat3 hB3
    go_wp2_with fail
    go_ret
    rw [HRR.out]
    exact ⟨_, _, rfl, Sl.own_ HO3.out, HWG.out g3⟩
  case inl =>
    go_enter Tryz.func14, Tryz.ntmps14
    go_upto_region 2 with fail
    rw [E1.out]
    have b0 := HBX.out G0 0 (.int .i64 e.start) rfl
    have b1 := HBX.out G0 1 (.int .i64 e.long) rfl
    have b2 := HBX.out G0 2 (.bool e.world) rfl
    rw [hwo] at b2
    have b3 := HBX.out G0 3 (.bool e.again) rfl
    have b4 := HBX.out G0 4 (.int .i64 e.rule.freq) rfl
    have b5 := HBX.out G0 5 (.int .i64 e.rule.iv) rfl
    have b6 := HBX.out G0 6 (.int .i64 e.rule.count) rfl
    have b7 := HBX.out G0 7 (.int .i64 e.rule.until_) rfl
    have b8 := HBX.out G0 8 (.slice A1 e.rule.bm.length c1) rfl
    have b9 := HBX.out G0 9 (.slice A2 e.rule.bd.length c2) rfl
    have b10 := HBX.out G0 10 (.slice A3 e.rule.bw.length c3) rfl
    have b11 := HBX.out G0 11 (.slice A4 e.rule.bs.length c4) rfl
    have b12 := HBX.out G0 12 (.int .i64 e.rule.start) rfl
    have b13 := HBX.out G0 13 (.slice A5 e.ex.length c5) rfl
    have b14 := HBX.out G0 14 (.slice A6 e.plus.length c6) rfl
    have b15 := HBX.out G0 15 (.slice A7 e.ch.length c7) rfl
    go_wp2_with fail
    go_at_call 11
    refine (HMy.out G0).mono ?_
    rintro q w2 ⟨rfl, hb⟩
    obtain ⟨g, rfl⟩ := G0.on hb
    clear hb b0 b1 b2 b3 b4 b5 b6 b7 b8 b9 b10 b11 b12 b13 b14 b15
    obtain ⟨k1, k2, k3, k4⟩ := HZ0.out g
    go_wp2_with fail
    go_at_call 18
    refine (HZy.out g).mono ?_
    rintro q w2 ⟨rfl, hb⟩
    obtain ⟨g, rfl⟩ := g.on hb
    clear hb k1 k2 k3 k4
    obtain ⟨k1, k2, k3, k4⟩ := HZ0.out g
    have b0 := HBX.out g 0 (.int .i64 e.start) rfl
    have b1 := HBX.out g 1 (.int .i64 e.long) rfl
    have b2 := HBX.out g 2 (.bool e.world) rfl
    rw [hwo] at b2
    have HRR : Hid (r = []) := by show _ = _; rw [← HR.out, if_neg (fun q => by have := of_decide_eq_false p1; simp at *; omega)]
    go_wp2_with fail
    go_ret
    rw [HRR.out]
    exact ⟨some ⟨w.heap.size + 3, 0, none⟩, 0, rfl, sl_empty _ _, HWG.out g⟩
  case inr.inl =>
    go_enter Tryz.func14, Tryz.ntmps14
    go_upto_region 2 with fail
    rw [E1.out]
    have b0 := HBX.out G0 0 (.int .i64 e.start) rfl
    have b1 := HBX.out G0 1 (.int .i64 e.long) rfl
    have b2 := HBX.out G0 2 (.bool e.world) rfl
    rw [hwo] at b2
    have b3 := HBX.out G0 3 (.bool e.again) rfl
    have b4 := HBX.out G0 4 (.int .i64 e.rule.freq) rfl
    have b5 := HBX.out G0 5 (.int .i64 e.rule.iv) rfl
    have b6 := HBX.out G0 6 (.int .i64 e.rule.count) rfl
    have b7 := HBX.out G0 7 (.int .i64 e.rule.until_) rfl
    have b8 := HBX.out G0 8 (.slice A1 e.rule.bm.length c1) rfl
    have b9 := HBX.out G0 9 (.slice A2 e.rule.bd.length c2) rfl
    have b10 := HBX.out G0 10 (.slice A3 e.rule.bw.length c3) rfl
    have b11 := HBX.out G0 11 (.slice A4 e.rule.bs.length c4) rfl
    have b12 := HBX.out G0 12 (.int .i64 e.rule.start) rfl
    have b13 := HBX.out G0 13 (.slice A5 e.ex.length c5) rfl
    have b14 := HBX.out G0 14 (.slice A6 e.plus.length c6) rfl
    have b15 := HBX.out G0 15 (.slice A7 e.ch.length c7) rfl
    go_wp2_with fail
    go_at_call 11
    refine (HMy.out G0).mono ?_
    rintro q w2 ⟨rfl, hb⟩
    obtain ⟨g, rfl⟩ := G0.on hb
    clear hb b0 b1 b2 b3 b4 b5 b6 b7 b8 b9 b10 b11 b12 b13 b14 b15
    obtain ⟨k1, k2, k3, k4⟩ := HZ0.out g
    go_wp2_with fail
    go_at_call 18
    refine (HZy.out g).mono ?_
    rintro q w2 ⟨rfl, hb⟩
    obtain ⟨g, rfl⟩ := g.on hb
    clear hb k1 k2 k3 k4
    obtain ⟨k1, k2, k3, k4⟩ := HZ0.out g
    have b0 := HBX.out g 0 (.int .i64 e.start) rfl
    have b1 := HBX.out g 1 (.int .i64 e.long) rfl
    have b2 := HBX.out g 2 (.bool e.world) rfl
    rw [hwo] at b2
    have HRR : Hid (r = []) := by show _ = _; rw [← HR.out, if_neg (fun q => by have := of_decide_eq_false p2; simp at *; omega)]
    go_wp2_with fail
    go_ret
    rw [HRR.out]
    exact ⟨some ⟨w.heap.size + 3, 0, none⟩, 0, rfl, sl_empty _ _, HWG.out g⟩
set_option maxRecDepth 100000 in
set_option maxHeartbeats 16000000 in
theorem rmembers_all (z : Zn.Z) (Z : Option Addr) (cz : Nat) (e : Evt) (A1 A2 A3 A4 A5 A6 A7 : Option Addr) (c1 c2 c3 c4 c5 c6 c7 : Nat) (x1 x2 : Int) (w : World) (hw : ZWf z) (hz : ZAt w Z z) (h : EAt w e A1 A2 A3 A4 A5 A6 A7 c1 c2 c3 c4 c5 c6 c7) (hxl : e.ex.length ≤ 1000000) (hpl : e.plus.length ≤ 1000000) (hm : mayE e) (hzm : Zn.mayP z) (hgw : goodW (x1, x2)) (hwo : e.world = false) :
    Calls Tryz.prog 14 #[.agg #[.int .i64 z.base, .slice Z z.n cz], .agg (ecells e A1 A2 A3 A4 A5 A6 A7 c1 c2 c3 c4 c5 c6 c7), .agg #[.int .i64 x1, .int .i64 x2]] w (RetS (e.ch.foldl (stepC z e (x1, x2)) ((timesE e x2).foldl (stepT z e (x1, x2)) [])) w) := by
  obtain ⟨j0, hj0, t0, t1, t2⟩ := info_parts int64_info10
  obtain ⟨W1, hW1⟩ : ∃ W1, ((w.alloc (.cells #[.int .i64 z.base, .slice Z z.n cz] 24)).alloc (.cells (ecells e A1 A2 A3 A4 A5 A6 A7 c1 c2 c3 c4 c5 c6 c7) 32)).alloc (.cells #[.int .i64 x1, .int .i64 x2] 34) = W1 := ⟨_, rfl⟩
  have hsz : W1.heap.size = w.heap.size + 3 := by rw [← hW1]; simp
  have hB1 : Below w.heap.size w W1 := by rw [← hW1]; exact (((Below.refl _ _).alloc (Nat.le_refl _) _).alloc (by simp) _).alloc (by simp; omega) _
  have hbx : W1.heap[w.heap.size + 1]? = some (.cells (ecells e A1 A2 A3 A4 A5 A6 A7 c1 c2 c3 c4 c5 c6 c7) 32 (0, 0)) := by
    rw [← hW1, heap_alloc_old _ _ (by simp)]
    exact (congrArg (fun k => ((w.alloc (.cells #[.int .i64 z.base, .slice Z z.n cz] 24)).alloc (.cells (ecells e A1 A2 A3 A4 A5 A6 A7 c1 c2 c3 c4 c5 c6 c7) 32)).heap[k]?) (by simp)).trans (heap_alloc_new _ _)
  have HBX : Hid (∀ (G : Gr W1) (k : Nat) (v : Value), (ecells e A1 A2 A3 A4 A5 A6 A7 c1 c2 c3 c4 c5 c6 c7)[k]? = some v → G.val.cell? ⟨w.heap.size + 1, k, none⟩ = some v) := fun G k v hv => cell_old (blk_cell hbx hv) G.ok
  have HZ0 : Hid (∀ G : Gr W1, G.val.cell? ⟨w.heap.size, 0, none⟩ = some (.int .i64 z.base) ∧ G.val.cell? ⟨w.heap.size, 1, none⟩ = some (.slice Z z.n cz) ∧ G.val.cell? ⟨w.heap.size + 2, 0, none⟩ = some (.int .i64 x1) ∧ G.val.cell? ⟨w.heap.size + 2, 1, none⟩ = some (.int .i64 x2)) := fun G => by
    refine ⟨cell_old ?_ G.ok, cell_old ?_ G.ok, cell_old ?_ G.ok, cell_old ?_ G.ok⟩
    all_goals (rw [← hW1]; simp [go_sem])
  have HWG : Hid (∀ G : Gr W1, Below w.heap.size w G.val) := fun G => hB1.trans (G.ok.mono hB1.size)
  have hG0 : ∃ G : Gr W1, W1.alloc (.cells #[] 34) = G.val := ⟨⟨_, (Below.refl _ _).alloc (Nat.le_refl _) _⟩, rfl⟩
  obtain ⟨G0, hG0⟩ := hG0
  have E1 : Hid ((((w.alloc (.cells #[.int .i64 z.base, .slice Z z.n cz] 24)).alloc (.cells (ecells e A1 A2 A3 A4 A5 A6 A7 c1 c2 c3 c4 c5 c6 c7) 32)).alloc (.cells #[.int .i64 x1, .int .i64 x2] 34)).alloc (.cells #[] 34) = G0.val) := by show _ = _; rw [hW1]; exact hG0
  have HMy : Hid (∀ G : Gr W1, Calls Tryz.prog 11 #[.agg (ecells e A1 A2 A3 A4 A5 A6 A7 c1 c2 c3 c4 c5 c6 c7)] G.val fun q w2 => q = .returned (.bool (mayEB e)) ∧ Below G.val.heap.size G.val w2) := fun G => rmay11_any e A1 A2 A3 A4 A5 A6 A7 c1 c2 c3 c4 c5 c6 c7 G.val hxl hpl (h.below (HWG.out G))
  have HZy : Hid (∀ G : Gr W1, Calls Tryz.prog 18 #[.agg #[.int .i64 z.base, .slice Z z.n cz]] G.val fun q w2 => q = .returned (.bool (Zn.mayB z)) ∧ Below G.val.heap.size G.val w2) := fun G => rzmay_any G.val Z z cz hw (hz.below (HWG.out G))
  have HSZ := Lib.hid hsz
  have hst : 0 ≤ e.start ∧ e.start < 158310720 := by have := hm.1; unfold stampB at this; simpa using this
  have hlg : 1 ≤ e.long ∧ e.long ≤ 10080 := ⟨hm.2.1, hm.2.2.1⟩
  obtain ⟨g1, g2, g3, g4⟩ := hgw
  simp only at g1 g2 g3 g4
  have q1 : decide (x2 ≤ x1) = false := decide_eq_false (by omega)
  have q2 : decide (x1 < -1000000000000) = false := decide_eq_false (by omega)
  have q3 : decide (1000000000000 < x2) = false := decide_eq_false (by omega)
  have q4 : decide (528480 < x2 - x1) = false := decide_eq_false (by omega)
  have q5 : IntKind.i64.wrap (x2 - x1) = x2 - x1 := by rw [IntKind.wrap_i64]; omega
  have q6 : IntKind.i64.wrap (x2 + 2000) = x2 + 2000 := by rw [IntKind.wrap_i64]; omega
  have q7 : IntKind.i64.wrap (x1 - 20000) = x1 - 20000 := by rw [IntKind.wrap_i64]; omega
  have hdiv : -1000000000000 ≤ (x2 + 2000).tdiv 1440 ∧ (x2 + 2000).tdiv 1440 ≤ 1000000000000 := by
    rcases Int.le_total 0 (x2 + 2000) with h | h
    · rw [Int.tdiv_eq_ediv_of_nonneg h]; omega
    · obtain ⟨k, hk⟩ : ∃ k : Int, x2 + 2000 = -k := ⟨-(x2 + 2000), by omega⟩
      rw [hk, Int.neg_tdiv, Int.tdiv_eq_ediv_of_nonneg (by omega)]; omega
  have q9 : IntKind.i64.wrap ((x2 + 2000).tdiv 1440) = (x2 + 2000).tdiv 1440 := by rw [IntKind.wrap_i64]; omega
  have q8 : IntKind.i64.wrap ((x2 + 2000).tdiv 1440 + 1) = (x2 + 2000).tdiv 1440 + 1 := by rw [IntKind.wrap_i64]; omega
  have hch : e.ch.length ≤ 50 ∧ e.plus.length ≤ 50 := by
    cases ha : e.again with
    | false => have := hm.2.2.2.1 ha; omega
    | true =>
      have := hm.2.2.2.2 ha
      exact ⟨this.2.2.2.2.1, (of_decide_eq_true this.2.2.2.1 : rowP e.plus).2⟩
  have HOK : Hid (∀ (i : Nat) (c : Int × Int × Int), e.ch[i]? = some c → 0 ≤ c.2.2 ∧ c.2.2 ≤ 10080) := fun i c hc => by
    have hi := (List.getElem?_eq_some_iff.1 hc).1
    cases ha : e.again with
    | false => have := (hm.2.2.2.1 ha).2.2.2; omega
    | true =>
      have := (hm.2.2.2.2 ha).2.2.2.2.2 i hi
      unfold okC at this
      rw [List.getD_eq_getElem?_getD, hc] at this
      exact ⟨this.2.2.1, this.2.2.2.1⟩
  rw [show mayEB e = true from decide_eq_true hm] at HMy
  rw [Zn.may_iff.2 hzm] at HZy
  have HS5 : Hid (∀ G : Gr W1, Sl G.val A5 e.ex.length c5 (iv e.ex)) := fun G => (h.below (HWG.out G)).s5
  have HS6 : Hid (∀ G : Gr W1, Sl G.val A6 e.plus.length c6 (iv e.plus)) := fun G => (h.below (HWG.out G)).s6
  have HS7 : Hid (∀ G : Gr W1, Sl G.val A7 e.ch.length c7 (tv e.ch)) := fun G => by have := (h.below (HWG.out G)).s7; rwa [cv_tv] at this
  have HTm : Hid (∀ G : Gr W1, Calls Tryz.prog 43 #[.agg (rcells e.rule A1 A2 A3 A4 c1 c2 c3 c4), .int .i64 e.start, .int .i64 ((x2 + 2000).tdiv 1440 + 1)] G.val (RetIO (Tm.timesL e.rule e.start ((x2 + 2000).tdiv 1440 + 1)) G.val)) := fun G => rtimes_own e.rule A1 A2 A3 A4 c1 c2 c3 c4 e.start _ (by omega) G.val (h.below (HWG.out G)).r
  have HIn : Hid (∀ (G : Gr W1) (l : List Int) (A : Option Addr) (c : Nat) (v : Int), l.length ≤ 1000000 → Sl G.val A l.length c (iv l) → Calls Tryz.prog 44 #[.slice A l.length c, .int .i64 v] G.val fun q w' => q = .returned (.bool (Tm.memB l v)) ∧ G.val = w') := fun G l A c v hl hs => rin11_any l v A c G.val hl hs
  have HAt : Hid (∀ (G : Gr W1) (v : Int), Calls Tryz.prog 15 #[.agg (ecells e A1 A2 A3 A4 A5 A6 A7 c1 c2 c3 c4 c5 c6 c7), .int .i64 v] G.val fun q w' => q = .returned (.bool (atB e v)) ∧ Below G.val.heap.size G.val w') := fun G v => rat11_any e A1 A2 A3 A4 A5 A6 A7 c1 c2 c3 c4 c5 c6 c7 v G.val (by omega) hxl hpl (h.below (HWG.out G))
  have HMe : Hid (∀ (G : Gr W1) (l : List Spn) (A : Option Addr) (c : Nat) (a lo : Int), l.length ≤ 1000000 → 0 ≤ lo ∧ lo ≤ 10080 → Sl G.val A l.length c (sv l) → Calls Tryz.prog 45 #[.slice A l.length c, .agg #[.int .i64 z.base, .slice Z z.n cz], .int .i64 a, .int .i64 lo, .agg #[.int .i64 x1, .int .i64 x2]] G.val (RetS (memberL l z a lo (x1, x2)) G.val)) := fun G l A c a lo hl hlo hs => rmember_any l A c z Z cz a lo (x1, x2) G.val hl (by omega) hw hzm (hz.below (HWG.out G)) hs
  obtain ⟨ts, hts⟩ : ∃ ts, timesE e x2 = ts := ⟨_, rfl⟩
  have HTS0 : Hid ((if e.again then plusAll (Tm.timesL e.rule e.start ((x2 + 2000).tdiv 1440 + 1)) e.plus else [e.start]) = ts) := hts
  have HTL : Hid ((Tm.timesL e.rule e.start ((x2 + 2000).tdiv 1440 + 1)).length ≤ 109939) := timesL_len _ _ _
  have hlen : ts.length ≤ 110000 := by
    rw [← HTS0.out]
    split
    · have h1 := plusAll_len e.plus (Tm.timesL e.rule e.start ((x2 + 2000).tdiv 1440 + 1)); have h2 := HTL.out; omega
    · simp
  obtain ⟨sT, hsT⟩ : ∃ sT, stepT z e (x1, x2) = sT := ⟨_, rfl⟩
  obtain ⟨sC, hsC⟩ : ∃ sC, stepC z e (x1, x2) = sC := ⟨_, rfl⟩
  have HsT : Hid (∀ o a, sT o a = if changedB e.ch a = true ∨ Tm.memB e.ex a = true ∨ a < x1 - 20000 ∨ x2 + 2000 < a then o else memberL o z a e.long (x1, x2)) := fun o a => by rw [← hsT]; rfl
  have HsC : Hid (∀ o c, sC o c = if atB e c.1 then memberL o z c.2.1 c.2.2 (x1, x2) else o) := fun o c => by rw [← hsC]; rfl
  rw [hts, hsT, hsC]
  obtain ⟨r1, hr1⟩ : ∃ r1, ts.foldl sT [] = r1 := ⟨_, rfl⟩
  have HR1 := Lib.hid hr1
  rw [hr1]
  obtain ⟨r, hr⟩ : ∃ r, e.ch.foldl sC r1 = r := ⟨_, rfl⟩
  have HR := Lib.hid hr
  rw [hr]
  generalize Tm.timesL e.rule e.start ((x2 + 2000).tdiv 1440 + 1) = tl at *
  have HDV := Lib.hid hdiv
  clear hW1 hsz hB1 hbx hG0 h hz hw hr hr1 g1 g2 g3 g4 hm hzm hst hts hsT hsC hdiv
  unfold ecells at E1 HMy HAt
  unfold ecells
  unfold rcells at HTm
  rw [hwo] at E1 HMy HAt ⊢
  go_enter Tryz.func14, Tryz.ntmps14
  go_upto_region 2 with fail
  rw [E1.out]
  have b0 := HBX.out G0 0 (.int .i64 e.start) rfl
  have b1 := HBX.out G0 1 (.int .i64 e.long) rfl
  have b2 := HBX.out G0 2 (.bool e.world) rfl
  rw [hwo] at b2
  have b3 := HBX.out G0 3 (.bool e.again) rfl
  have b4 := HBX.out G0 4 (.int .i64 e.rule.freq) rfl
  have b5 := HBX.out G0 5 (.int .i64 e.rule.iv) rfl
  have b6 := HBX.out G0 6 (.int .i64 e.rule.count) rfl
  have b7 := HBX.out G0 7 (.int .i64 e.rule.until_) rfl
  have b8 := HBX.out G0 8 (.slice A1 e.rule.bm.length c1) rfl
  have b9 := HBX.out G0 9 (.slice A2 e.rule.bd.length c2) rfl
  have b10 := HBX.out G0 10 (.slice A3 e.rule.bw.length c3) rfl
  have b11 := HBX.out G0 11 (.slice A4 e.rule.bs.length c4) rfl
  have b12 := HBX.out G0 12 (.int .i64 e.rule.start) rfl
  have b13 := HBX.out G0 13 (.slice A5 e.ex.length c5) rfl
  have b14 := HBX.out G0 14 (.slice A6 e.plus.length c6) rfl
  have b15 := HBX.out G0 15 (.slice A7 e.ch.length c7) rfl
  go_wp2_with fail
  go_at_call 11
  refine (HMy.out G0).mono ?_
  rintro q w2 ⟨rfl, hb⟩
  obtain ⟨g, rfl⟩ := G0.on hb
  clear hb b0 b1 b2 b3 b4 b5 b6 b7 b8 b9 b10 b11 b12 b13 b14 b15
  obtain ⟨k1, k2, k3, k4⟩ := HZ0.out g
  go_wp2_with fail
  go_at_call 18
  refine (HZy.out g).mono ?_
  rintro q w2 ⟨rfl, hb⟩
  obtain ⟨g, rfl⟩ := g.on hb
  clear hb k1 k2 k3 k4
  obtain ⟨k1, k2, k3, k4⟩ := HZ0.out g
  have b2 := HBX.out g 2 (.bool e.world) rfl
  rw [hwo] at b2
  go_upto_region 8 with fail
  clear k1 k2 k3 k4
  obtain ⟨g2, hg2⟩ := g.up0 (o := .cells #[.int .i64 e.start] 2)
  have HSL : Hid (Sl g2.val (some ⟨g.val.heap.size, 0, none⟩) 1 1 (iv [e.start])) := by show Sl _ _ _ _ _; rw [← hg2]; exact Sl.new g.val (iv [e.start]) 1 2 (0, 0) (by decide)
  have b0 := HBX.out g 0 (.int .i64 e.start) rfl
  obtain ⟨ag, hag⟩ : ∃ ag, e.again = ag := ⟨_, rfl⟩
  have HAG := Lib.hid hag
  have b3 : g2.val.cell? ⟨w.heap.size + 1, 3, none⟩ = some (.bool ag) := by rw [← hag]; exact HBX.out g2 3 (.bool e.again) rfl
  clear hag
  go_upto_if 83 with fail
  clear hg2 b0 b3
  go_cut [8] from 15 (fun s8 wx => ∃ (At : Option Addr) (ct : Nat) (g : Gr W1), wx = g.val ∧ s8 = .slice At ts.length ct ∧ Hid (Sl g.val At ts.length ct (iv ts)))
  case first =>
    as_aux_lemma =>
    cases ag with
    | false =>
      have HTE : Hid ([e.start] = ts) := by show _ = _; rw [← HTS0.out, HAG.out]; rfl
      go_wp2_with fail
      go_meet
      case rel => exact ⟨some ⟨g.val.heap.size, 0, none⟩, 1, g2, rfl, by rw [← HTE.out]; rfl, by rw [← HTE.out]; exact HSL.out⟩
    | true =>
      have HTE : Hid (plusAll tl e.plus = ts) := by show _ = _; rw [← HTS0.out, HAG.out]; rfl
      have b0 := HBX.out g2 0 (.int .i64 e.start) rfl
      have b4 := HBX.out g2 4 (.int .i64 e.rule.freq) rfl
      have b5 := HBX.out g2 5 (.int .i64 e.rule.iv) rfl
      have b6 := HBX.out g2 6 (.int .i64 e.rule.count) rfl
      have b7 := HBX.out g2 7 (.int .i64 e.rule.until_) rfl
      have b8 := HBX.out g2 8 (.slice A1 e.rule.bm.length c1) rfl
      have b9 := HBX.out g2 9 (.slice A2 e.rule.bd.length c2) rfl
      have b10 := HBX.out g2 10 (.slice A3 e.rule.bw.length c3) rfl
      have b11 := HBX.out g2 11 (.slice A4 e.rule.bs.length c4) rfl
      have b12 := HBX.out g2 12 (.int .i64 e.rule.start) rfl
      have k4 := (HZ0.out g2).2.2.2
      go_wp2_with fail
      go_at_call 43
      refine (HTm.out g2).mono ?_
      rintro q w2 ⟨gt, ct, rfl, ho, hb⟩
      have HO : Hid (w2.ownsRow W1.heap.size 2 1 (.slice (some ⟨gt, 0, none⟩) tl.length ct) tl.length (iv tl)) := ownsRow_base ho fun k hk => Nat.le_trans g2.size (ho.lt k hk).1
      obtain ⟨g3, rfl⟩ := g2.on hb
      clear hb ho k4 b0 b4 b5 b6 b7 b8 b9 b10 b11 b12
      have b14 := HBX.out g3 14 (.slice A6 e.plus.length c6) rfl
      go_wp2_with fail
      go_loopw [8, 97] (fun s8 s97 wr => ∃ (k : Nat) (tq : List Int) (gt ct : Nat) (g : Gr W1), wr = g.val ∧ k ≤ e.plus.length ∧ s97 = .int .i64 k ∧ s8 = .slice (some ⟨gt, 0, none⟩) tq.length ct ∧ Hid (g.val.ownsRow W1.heap.size 2 1 (.slice (some ⟨gt, 0, none⟩) tq.length ct) tq.length (iv tq)) ∧ Hid (plusAll tq (e.plus.drop k) = ts) ∧ Hid (tq.length ≤ 109939 + k)) (fun _ s97 _ => e.plus.length - (intOf s97).toNat)
      case atStart => exact ⟨0, tl, gt, ct, g3, rfl, Nat.zero_le _, rfl, rfl, HO.out, by show _ = _; rw [List.drop_zero]; exact HTE.out, HTL.out⟩
      case round =>
        obtain ⟨k, tq, gt, ct, g, rfl, hk, rfl, rfl, HO, HI, HQ⟩ := hrel
        clear b14
        have hql := HQ.out
        have b14 := HBX.out g 14 (.slice A6 e.plus.length c6) rfl
        by_cases hlt : k < e.plus.length
        · have hkz : (k : Int) < e.plus.length := by omega
          have hkb : decide ((k : Int) < e.plus.length) = true := decide_eq_true hkz
          obtain ⟨p, hp⟩ : ∃ p, e.plus[k]? = some p := ⟨_, List.getElem?_eq_getElem hlt⟩
          obtain ⟨b, off, rfl, _, hc⟩ := (HS6.out g).at_ (iv_at hp)
          have HC := Lib.hid (HIn.out g tq (some ⟨gt, 0, none⟩) ct p (by omega) (Sl.own_ HO.out))
          have hds : e.plus.drop k = p :: e.plus.drop (k + 1) := by rw [drop_step hlt]; congr 1; exact Option.some.inj ((List.getElem?_eq_getElem hlt).symm.trans hp)
          have HI2 : Hid (plusAll (if Tm.memB tq p then tq else tq ++ [p]) (e.plus.drop (k + 1)) = ts) := by show _ = _; rw [← HI.out, hds]; rfl
          clear hp hds
          cases hb : Tm.memB tq p with
          | true =>
            rw [hb] at HC HI2
            go_wp2_with fail
            go_at_call 44
            refine HC.out.mono ?_
            rintro q w' ⟨rfl, rfl⟩
            go_wp2_with fail
            go_roundw
            case rel => exact ⟨k + 1, tq, gt, ct, g, rfl, hlt, by go_num, rfl, HO.out, HI2.out, by show _ ≤ _; omega⟩
            case measure => simp [intOf]; omega
          | false =>
            rw [hb] at HC HI2
            have hmx : tq.length + 1 ≤ maxLen := by unfold maxLen; omega
            have hby : (tq.length + 1) * 8 ≤ 140737488355328 := by omega
            have HGS := Lib.hid g.size
            go_wp2_with fail
            go_at_call 44
            refine HC.out.mono ?_
            rintro q w' ⟨rfl, rfl⟩
            go_wp2_with (refine wpList_append_lies _ rfl _ _ _ (by rfl) W1.heap.size 2 j0 _ 1 8 Tryz.underlying29 hj0 t0 t1 t2 rfl (by decide) (.slice (some ⟨gt, 0, none⟩) tq.length ct) tq.length (iv tq) (by rfl) (HO.out.alloc _) ⟨g.val.heap.size, 0, none⟩ 1 1 [.int .i64 p] (by rfl) (by rfl) (World.news_of_block (cs := #[.int .i64 p]) (t := 2) (fr := (0, 0)) (heap_alloc_new _ _)) (by simp [Value.oneCell']) (Nat.lt_succ_self 0) hmx hby (by simp; have := HGS.out; omega) _ rfl ?_; intro gg cap2 w5 hown3 hgr3 hat3 hlt3)
            have hB3 : Below W1.heap.size W1 w5 := (g.ok.alloc HGS.out _).grown hgr3 (by simp; have := HGS.out; omega) (fun kk hk => (HO.out.lt kk hk).1)
            have HO3 : Hid (w5.ownsRow W1.heap.size 2 1 (.slice (some ⟨gg, 0, none⟩) (tq ++ [p]).length cap2) (tq ++ [p]).length (iv (tq ++ [p]))) := by show World.ownsRow _ _ _ _ _ _ _; rw [iv_app, List.length_append]; exact hown3
            obtain ⟨g3, rfl⟩ := Gr.of hB3
            clear hown3 hgr3 hat3 hB3
            go_wp2_with fail
            go_roundw
            case rel => exact ⟨k + 1, tq ++ [p], gg, cap2, g3, rfl, hlt, by go_num, by simp, HO3.out, HI2.out, by show _ ≤ _; simp; omega⟩
            case measure => simp [intOf]; omega
        · obtain rfl : k = e.plus.length := by omega
          have E : Hid (tq = ts) := by show _ = _; rw [← HI.out, List.drop_of_length_le (Nat.le_refl _)]; rfl
          go_wp2_with fail
          go_meet
          case rel => exact ⟨_, _, g, rfl, by rw [E.out], by have := Sl.own_ HO.out; rw [E.out] at this; exact this⟩
  case rest =>
    obtain ⟨At, ct, g, rfl, rfl, HSL⟩ := hcut
    have hlz : (ts.length : Int) ≤ 9223372036854775807 := by omega
    go_wp2_with fail
    go_loopw [7, 119] (fun s7 s119 wr => ∃ (k : Nat) (o : List Spn) (A : Option Addr) (c : Nat) (g : Gr W1), wr = g.val ∧ k ≤ ts.length ∧ s119 = .int .i64 k ∧ s7 = .slice A o.length c ∧ Hid (Sl g.val A o.length c (sv o)) ∧ Hid (Sl g.val At ts.length ct (iv ts)) ∧ Hid ((ts.drop k).foldl sT o = r1) ∧ Hid (o.length ≤ k)) (fun _ s119 _ => ts.length - (intOf s119).toNat)
    case atStart => exact ⟨0, [], some ⟨w.heap.size + 3, 0, none⟩, 0, g, rfl, Nat.zero_le _, rfl, rfl, sl_empty _ _, HSL.out, by show _ = _; rw [List.drop_zero]; exact HR1.out, Nat.le_refl _⟩
    case round =>
      obtain ⟨k, o, A, c, g, rfl, hk, rfl, rfl, HSo, HSL, HI, HOL⟩ := hrel
      by_cases hlt : k < ts.length
      · have hkz : (k : Int) < ts.length := by omega
        obtain ⟨t, ht⟩ : ∃ t, ts[k]? = some t := ⟨_, List.getElem?_eq_getElem hlt⟩
        obtain ⟨b, off, rfl, _, hc⟩ := HSL.out.at_ (iv_at ht)
        have hds : ts.drop k = t :: ts.drop (k + 1) := by rw [drop_step hlt]; congr 1; exact Option.some.inj ((List.getElem?_eq_getElem hlt).symm.trans ht)
        have HI2 : Hid ((ts.drop (k + 1)).foldl sT (sT o t) = r1) := by show _ = _; rw [← HI.out, hds]; rfl
        have HST := Lib.hid (HsT.out o t)
        have hol := HOL.out
        have b15 := HBX.out g 15 (.slice A7 e.ch.length c7) rfl
        clear ht hds
        go_wp2_with fail
        clear b15 hc
        go_loopw [12, 129] (fun s12 s129 wr => ∃ (j : Nat) (bb : Bool), wr = g.val ∧ j ≤ e.ch.length ∧ s129 = .int .i64 j ∧ s12 = .bool bb ∧ Hid (bb = changedB (e.ch.take j) t)) (fun _ s129 _ => e.ch.length - (intOf s129).toNat)
        case atStart => exact ⟨0, false, rfl, Nat.zero_le _, rfl, rfl, rfl⟩
        case round =>
          obtain ⟨j, bb, rfl, hj, rfl, rfl, HBB⟩ := hrel
          have b15 := HBX.out g 15 (.slice A7 e.ch.length c7) rfl
          by_cases hlj : j < e.ch.length
          · have hjz : (j : Int) < e.ch.length := by omega
            obtain ⟨cc, hcc⟩ : ∃ cc, e.ch[j]? = some cc := ⟨_, List.getElem?_eq_getElem hlj⟩
            obtain ⟨b7, off7, rfl, _, p1, _, _⟩ := (HS7.out g).shift hcc
            have HTK := Lib.hid (changedB_take e.ch j t cc hcc)
            clear hcc
            cases bb with
            | true =>
              as_aux_lemma =>
              go_wp2_with fail
              go_roundw
              case rel => exact ⟨j + 1, true, by first | trivial | rfl, hlj, by go_num, rfl, by show _ = _; rw [HTK.out, ← HBB.out]; rfl⟩
              case measure => simp [intOf]; omega
            | false =>
              as_aux_lemma =>
              obtain ⟨ca, cb, cd⟩ := cc
              simp only at p1 HTK
              by_cases he : ca = t
              · subst he
                go_wp2_with fail
                go_roundw
                case rel => exact ⟨j + 1, true, by first | trivial | rfl, hlj, by go_num, by simp, by show _ = _; rw [HTK.out, decide_eq_true rfl, Bool.or_true]⟩
                case measure => simp [intOf]; omega
              · have heb : (ca == t) = false := by simpa using he
                have HE := Lib.hid he
                clear he
                go_wp2_with fail
                go_roundw
                case rel => exact ⟨j + 1, false, by first | trivial | rfl, hlj, by go_num, rfl, by show _ = _; rw [HTK.out, ← HBB.out, decide_eq_false HE.out]; rfl⟩
                case measure => simp [intOf]; omega
          · obtain rfl : j = e.ch.length := by omega
            have HB2 : Hid (bb = changedB e.ch t) := by show _ = _; rw [HBB.out, List.take_of_length_le (Nat.le_refl _)]
            clear b15
            have b13 := HBX.out g 13 (.slice A5 e.ex.length c5) rfl
            have HC := Lib.hid (HIn.out g e.ex A5 c5 t hxl (HS5.out g))
            obtain ⟨k1, k2, k3, k4⟩ := HZ0.out g
            have hways : bb = true ∨ bb = false ∧ Tm.memB e.ex t = true ∨ bb = false ∧ Tm.memB e.ex t = false ∧ decide (t < x1 - 20000) = true ∨ bb = false ∧ Tm.memB e.ex t = false ∧ decide (t < x1 - 20000) = false ∧ decide (x2 + 2000 < t) = true ∨ bb = false ∧ Tm.memB e.ex t = false ∧ decide (t < x1 - 20000) = false ∧ decide (x2 + 2000 < t) = false := by
              cases bb <;> cases Tm.memB e.ex t <;> cases decide (t < x1 - 20000) <;> cases decide (x2 + 2000 < t) <;> simp
            have HSK : Hid (bb = true ∨ Tm.memB e.ex t = true ∨ decide (t < x1 - 20000) = true ∨ decide (x2 + 2000 < t) = true → sT o t = o) := fun q => by rw [HST.out, if_pos]; rw [HB2.out] at q; exact q.imp id (Or.imp id (Or.imp of_decide_eq_true of_decide_eq_true))
            have HGO : Hid (bb = false → Tm.memB e.ex t = false → decide (t < x1 - 20000) = false → decide (x2 + 2000 < t) = false → sT o t = memberL o z t e.long (x1, x2)) := fun q1 q2 q3 q4 => by
              rw [HST.out, if_neg]
              rw [HB2.out] at q1
              rintro (q | q | q | q)
              · rw [q1] at q; cases q
              · rw [q2] at q; cases q
              · exact of_decide_eq_false q3 q
              · exact of_decide_eq_false q4 q
            generalize Tm.memB e.ex t = mx at *
            rcases hways with rfl | ⟨rfl, rfl⟩ | ⟨rfl, rfl, d1⟩ | ⟨rfl, rfl, d1, d2⟩ | ⟨rfl, rfl, d1, d2⟩
            case inl =>
              as_aux_lemma =>
              have HI3 : Hid ((ts.drop (k + 1)).foldl sT o = r1) := by show _ = _; have := HI2.out; rw [HSK.out (by simp)] at this; exact this
              go_wp2_with fail
              go_roundw
              case rel => exact ⟨k + 1, o, A, c, g, rfl, hlt, by go_num, rfl, HSo.out, HSL.out, HI3.out, by show _ ≤ _; omega⟩
              case measure => simp [intOf]; omega
            case inr.inr.inr.inr =>
              as_aux_lemma =>
              have hme := HGO.out rfl rfl d1 d2
              rw [hme] at HI2
              have HC2 := Lib.hid (HMe.out g o A c t e.long (by omega) (by omega) HSo.out)
              have b1 := HBX.out g 1 (.int .i64 e.long) rfl
              have HML := Lib.hid (memberL_len o z t e.long (x1, x2))
              clear hme
              go_wp2_with fail
              go_at_call 44
              refine HC.out.mono ?_
              rintro q w' ⟨rfl, rfl⟩
              go_wp2_with fail
              go_at_call 45
              refine HC2.out.mono ?_
              rintro q w2 ⟨A', c', rfl, hs, hb⟩
              have HS2 := Lib.hid hs
              have HL2 := Lib.hid (HSL.out.below hb (Nat.le_refl _))
              obtain ⟨g2, hg2⟩ := g.on hb
              rw [hg2] at HS2 HL2 ⊢
              clear hs hb hg2 b1 b13 k1 k2 k3 k4
              go_wp2_with fail
              go_roundw
              case rel => exact ⟨k + 1, _, A', c', g2, rfl, hlt, by go_num, rfl, HS2.out, HL2.out, HI2.out, by show _ ≤ _; have := HML.out; omega⟩
              case measure => simp [intOf]; omega
            all_goals
              as_aux_lemma =>
              have HI3 : Hid ((ts.drop (k + 1)).foldl sT o = r1) := by show _ = _; have := HI2.out; rw [HSK.out (by first | exact .inr (.inl rfl) | exact .inr (.inr (.inl d1)) | exact .inr (.inr (.inr d2)))] at this; exact this
              go_wp2_with fail
              go_at_call 44
              refine HC.out.mono ?_
              rintro q w' ⟨rfl, rfl⟩
              go_wp2_with fail
              go_roundw
              case rel => exact ⟨k + 1, o, A, c, g, rfl, hlt, by go_num, rfl, HSo.out, HSL.out, HI3.out, by show _ ≤ _; omega⟩
              case measure => simp [intOf]; omega
      · obtain rfl : k = ts.length := by omega
        have HE1 : Hid (o = r1) := by show _ = _; rw [← HI.out, List.drop_of_length_le (Nat.le_refl _)]; rfl
        have b15 := HBX.out g 15 (.slice A7 e.ch.length c7) rfl
        have hol := HOL.out
        go_wp2_with fail
        clear b15
        go_loopw [7, 176] (fun s7 s176 wr => ∃ (k : Nat) (o : List Spn) (A : Option Addr) (c : Nat) (g : Gr W1), wr = g.val ∧ k ≤ e.ch.length ∧ s176 = .int .i64 k ∧ s7 = .slice A o.length c ∧ Hid (Sl g.val A o.length c (sv o)) ∧ Hid ((e.ch.drop k).foldl sC o = r) ∧ Hid (o.length ≤ 110000 + k)) (fun _ s176 _ => e.ch.length - (intOf s176).toNat)
        case atStart => exact ⟨0, o, A, c, g, rfl, Nat.zero_le _, rfl, rfl, HSo.out, by show _ = _; rw [List.drop_zero, HE1.out]; exact HR.out, by show _ ≤ _; omega⟩
        case round =>
          clear hol
          obtain ⟨k, o, A, c, g, rfl, hk, rfl, rfl, HSo, HI, HOL⟩ := hrel
          have hol := HOL.out
          by_cases hlt : k < e.ch.length
          · have hkz : (k : Int) < e.ch.length := by omega
            obtain ⟨cc, hcc⟩ : ∃ cc, e.ch[k]? = some cc := ⟨_, List.getElem?_eq_getElem hlt⟩
            have hok := HOK.out k cc hcc
            obtain ⟨b7, off7, rfl, hlt7, _⟩ := (HS7.out g).shift hcc
            have HCH : Hid (∀ G : Gr g.val, G.val.cell? ⟨b7, off7 + k * 3, none⟩ = some (.int .i64 cc.1) ∧ G.val.cell? ⟨b7, off7 + k * 3 + 1, none⟩ = some (.int .i64 cc.2.1) ∧ G.val.cell? ⟨b7, off7 + k * 3 + 2, none⟩ = some (.int .i64 cc.2.2)) := fun G => by
              obtain ⟨_, _, hbb, _, p1, p2, p3⟩ := (HS7.out g).shift hcc
              obtain ⟨rfl, rfl⟩ : b7 = _ ∧ off7 = _ := by simpa using hbb
              exact ⟨cell_old p1 G.ok, cell_old p2 G.ok, cell_old p3 G.ok⟩
            have hds : e.ch.drop k = cc :: e.ch.drop (k + 1) := by rw [drop_step hlt]; congr 1; exact Option.some.inj ((List.getElem?_eq_getElem hlt).symm.trans hcc)
            have HI2 : Hid ((e.ch.drop (k + 1)).foldl sC (sC o cc) = r) := by show _ = _; rw [← HI.out, hds]; rfl
            have HST := Lib.hid (HsC.out o cc)
            have HUP : Hid (∀ G : Gr g.val, ∃ G1 : Gr W1, G.val = G1.val) := fun G => ⟨⟨G.val, g.ok.trans (G.ok.mono g.size)⟩, rfl⟩
            clear hcc hds hlt7
            obtain ⟨ca, cb, cd⟩ := cc
            simp only at HCH HI2 HST hok
            have HA : Hid (∀ G : Gr g.val, Calls Tryz.prog 15 #[.agg #[.int .i64 e.start, .int .i64 e.long, .bool e.world, .bool e.again, .int .i64 e.rule.freq, .int .i64 e.rule.iv, .int .i64 e.rule.count, .int .i64 e.rule.until_, .slice A1 e.rule.bm.length c1, .slice A2 e.rule.bd.length c2, .slice A3 e.rule.bw.length c3, .slice A4 e.rule.bs.length c4, .int .i64 e.rule.start, .slice A5 e.ex.length c5, .slice A6 e.plus.length c6, .slice (some ⟨b7, off7, none⟩) e.ch.length c7], .int .i64 ca] G.val fun q w' => q = .returned (.bool (atB e ca)) ∧ Below G.val.heap.size G.val w') := fun G => by
              obtain ⟨G1, hG1⟩ := HUP.out G
              rw [hG1, hwo]
              exact HAt.out G1 ca
            have HBG : Hid (∀ (G : Gr g.val) (k : Nat) (v : Value), (#[.int .i64 e.start, .int .i64 e.long, .bool e.world, .bool e.again, .int .i64 e.rule.freq, .int .i64 e.rule.iv, .int .i64 e.rule.count, .int .i64 e.rule.until_, .slice A1 e.rule.bm.length c1, .slice A2 e.rule.bd.length c2, .slice A3 e.rule.bw.length c3, .slice A4 e.rule.bs.length c4, .int .i64 e.rule.start, .slice A5 e.ex.length c5, .slice A6 e.plus.length c6, .slice (some ⟨b7, off7, none⟩) e.ch.length c7] : Array Value)[k]? = some v → G.val.cell? ⟨w.heap.size + 1, k, none⟩ = some v) := fun G k v hv => by
              obtain ⟨G1, hG1⟩ := HUP.out G
              rw [hG1]
              exact HBX.out G1 k v hv
            have B0 := fun G : Gr g.val => HBG.out G 0 (.int .i64 e.start) rfl
            have B1 := fun G : Gr g.val => HBG.out G 1 (.int .i64 e.long) rfl
            have B2 := fun G : Gr g.val => HBG.out G 2 (.bool e.world) rfl
            have B3 := fun G : Gr g.val => HBG.out G 3 (.bool e.again) rfl
            have B4 := fun G : Gr g.val => HBG.out G 4 (.int .i64 e.rule.freq) rfl
            have B5 := fun G : Gr g.val => HBG.out G 5 (.int .i64 e.rule.iv) rfl
            have B6 := fun G : Gr g.val => HBG.out G 6 (.int .i64 e.rule.count) rfl
            have B7 := fun G : Gr g.val => HBG.out G 7 (.int .i64 e.rule.until_) rfl
            have B8 := fun G : Gr g.val => HBG.out G 8 (.slice A1 e.rule.bm.length c1) rfl
            have B9 := fun G : Gr g.val => HBG.out G 9 (.slice A2 e.rule.bd.length c2) rfl
            have B10 := fun G : Gr g.val => HBG.out G 10 (.slice A3 e.rule.bw.length c3) rfl
            have B11 := fun G : Gr g.val => HBG.out G 11 (.slice A4 e.rule.bs.length c4) rfl
            have B12 := fun G : Gr g.val => HBG.out G 12 (.int .i64 e.rule.start) rfl
            have B13 := fun G : Gr g.val => HBG.out G 13 (.slice A5 e.ex.length c5) rfl
            have B14 := fun G : Gr g.val => HBG.out G 14 (.slice A6 e.plus.length c6) rfl
            have B15 := fun G : Gr g.val => HBG.out G 15 (.slice (some ⟨b7, off7, none⟩) e.ch.length c7) rfl
            have D0 := fun G : Gr g.val => (HCH.out G).1
            rw [hwo] at HA
            simp only [hwo] at B2
            cases hat : atB e ca with
            | false =>
              as_aux_lemma =>
              rw [hat] at HST HA
              have HI3 : Hid ((e.ch.drop (k + 1)).foldl sC o = r) := by show _ = _; have := HI2.out; rw [HST.out] at this; exact this
              go_wp2_with fail
              refine Gr.region (by kernel_rfl) (by kernel_rfl) (Gr.draw0 _) ?_
              repeat (go_big_quiet_step ((go_at_call 15; exact Gr.calls _ (HA.out _))))
              refine wpQuiet_nil ?_
              rintro _ ⟨g2, rfl⟩
              have HS2 := Lib.hid (HSo.out.below g2.ok (Nat.le_refl _))
              obtain ⟨g3, hg3⟩ := HUP.out g2
              rw [hg3] at HS2 ⊢
              clear B0 B1 B2 B3 B4 B5 B6 B7 B8 B9 B10 B11 B12 B13 B14 B15 D0 hg3
              go_wp2_with fail
              go_roundw
              case rel => exact ⟨k + 1, o, A, c, g3, rfl, hlt, by go_num, rfl, HS2.out, HI3.out, by show _ ≤ _; omega⟩
              case measure => simp [intOf]; omega
            | true =>
              as_aux_lemma =>
              rw [hat] at HST HA
              have HI3 : Hid ((e.ch.drop (k + 1)).foldl sC (memberL o z cb cd (x1, x2)) = r) := by show _ = _; have := HI2.out; rw [HST.out] at this; exact this
              have HML := Lib.hid (memberL_len o z cb cd (x1, x2))
              go_wp2_with fail
              refine Gr.region (by kernel_rfl) (by kernel_rfl) (Gr.draw0 _) ?_
              repeat (go_big_quiet_step ((go_at_call 15; exact Gr.calls _ (HA.out _))))
              refine wpQuiet_nil ?_
              rintro _ ⟨g2, rfl⟩
              have HS2 := Lib.hid (HSo.out.below g2.ok (Nat.le_refl _))
              have hp2 := (HCH.out g2).2.1
              have hp3 := (HCH.out g2).2.2
              obtain ⟨g3, hg3⟩ := HUP.out g2
              rw [hg3] at HS2 hp2 hp3 ⊢
              have HC2 := Lib.hid (fun (G : Gr g3.val) => show Calls Tryz.prog 45 #[.slice A o.length c, .agg #[.int .i64 z.base, .slice Z z.n cz], .int .i64 cb, .int .i64 cd, .agg #[.int .i64 x1, .int .i64 x2]] G.val (RetS (memberL o z cb cd (x1, x2)) G.val) from HMe.out ⟨G.val, g3.ok.trans (G.ok.mono g3.size)⟩ o A c cb cd (by omega) (by omega) (HS2.out.below G.ok (Nat.le_refl _)))
              have HK : Hid (∀ w', Below g3.val.heap.size g3.val w' → w'.cell? ⟨w.heap.size, 0, none⟩ = some (.int .i64 z.base) ∧ w'.cell? ⟨w.heap.size, 1, none⟩ = some (.slice Z z.n cz) ∧ w'.cell? ⟨w.heap.size + 2, 0, none⟩ = some (.int .i64 x1) ∧ w'.cell? ⟨w.heap.size + 2, 1, none⟩ = some (.int .i64 x2) ∧ w'.cell? ⟨w.heap.size + 1, 15, none⟩ = some (.slice (some ⟨b7, off7, none⟩) e.ch.length c7) ∧ w'.cell? ⟨b7, off7 + k * 3 + 1, none⟩ = some (.int .i64 cb) ∧ w'.cell? ⟨b7, off7 + k * 3 + 2, none⟩ = some (.int .i64 cd)) := fun w' hb => by
                obtain ⟨k1, k2, k3, k4⟩ := HZ0.out ⟨w', g3.ok.trans (hb.mono g3.size)⟩
                exact ⟨k1, k2, k3, k4, HBX.out ⟨w', g3.ok.trans (hb.mono g3.size)⟩ 15 _ rfl, cell_old hp2 hb, cell_old hp3 hb⟩
              clear B0 B1 B2 B3 B4 B5 B6 B7 B8 B9 B10 B11 B12 B13 B14 B15 D0 hg3 hp2 hp3
              go_wp2_with fail
              go_region_held3 (fun w' => w'.cell? ⟨w.heap.size, 0, none⟩ = some (.int .i64 z.base) ∧ w'.cell? ⟨w.heap.size, 1, none⟩ = some (.slice Z z.n cz) ∧ w'.cell? ⟨w.heap.size + 2, 0, none⟩ = some (.int .i64 x1) ∧ w'.cell? ⟨w.heap.size + 2, 1, none⟩ = some (.int .i64 x2) ∧ w'.cell? ⟨w.heap.size + 1, 15, none⟩ = some (.slice (some ⟨b7, off7, none⟩) e.ch.length c7) ∧ w'.cell? ⟨b7, off7 + k * 3 + 1, none⟩ = some (.int .i64 cb) ∧ w'.cell? ⟨b7, off7 + k * 3 + 2, none⟩ = some (.int .i64 cd))
                (first | exact HK.out _ (Below.refl _ _).drew | exact HK.out _ hbq)
                ((go_at_call 45; refine (HC2.out ⟨_, (Below.refl _ _).drew⟩).mono ?_; rintro q wq ⟨A', c', rfl, hsq, hbq0⟩; have hbq : Below g3.val.heap.size g3.val wq := (drew_below g3.val).trans hbq0))
              all_goals
                have HS3 := Lib.hid hsq
                obtain ⟨g4, hg4⟩ := g3.on hbq
                rw [hg4] at HS3 ⊢
                clear hsq hbq hbq0 hg4
                go_wp2_with fail
                go_roundw
                case rel => exact ⟨k + 1, _, A', c', g4, rfl, hlt, by go_num, rfl, HS3.out, HI3.out, by show _ ≤ _; have := HML.out; omega⟩
                case measure => simp [intOf]; omega
          · obtain rfl : k = e.ch.length := by omega
            have HE2 : Hid (o = r) := by show _ = _; rw [← HI.out, List.drop_of_length_le (Nat.le_refl _)]; rfl
            go_wp2_with fail
            go_ret
            rw [← HE2.out]
            exact ⟨_, _, rfl, HSo.out, HWG.out g⟩
theorem rmembers_any (z : Zn.Z) (Z : Option Addr) (cz : Nat) (e : Evt) (A1 A2 A3 A4 A5 A6 A7 : Option Addr) (c1 c2 c3 c4 c5 c6 c7 : Nat) (x1 x2 : Int) (w : World) (hw : ZWf z) (hz : ZAt w Z z) (h : EAt w e A1 A2 A3 A4 A5 A6 A7 c1 c2 c3 c4 c5 c6 c7) (hxl : e.ex.length ≤ 1000000) (hpl : e.plus.length ≤ 1000000) (hx1 : -9223372036854775808 ≤ x1 ∧ x1 ≤ 9223372036854775807) (hx2 : -9223372036854775808 ≤ x2 ∧ x2 ≤ 9223372036854775807) :
    Calls Tryz.prog 14 #[.agg #[.int .i64 z.base, .slice Z z.n cz], .agg (ecells e A1 A2 A3 A4 A5 A6 A7 c1 c2 c3 c4 c5 c6 c7), .agg #[.int .i64 x1, .int .i64 x2]] w (RetS (membersL z e (x1, x2)) w) := by
  unfold membersL
  by_cases hg : mayE e ∧ Zn.mayP z ∧ goodW (x1, x2)
  · rw [if_pos hg]
    cases hwo : e.world with
    | true => rw [if_pos rfl]; exact rmembers_world z Z cz e A1 A2 A3 A4 A5 A6 A7 c1 c2 c3 c4 c5 c6 c7 x1 x2 w hw hz h hxl hpl hg.1 hg.2.1 hg.2.2 hwo
    | false => rw [if_neg (by simp)]; exact rmembers_all z Z cz e A1 A2 A3 A4 A5 A6 A7 c1 c2 c3 c4 c5 c6 c7 x1 x2 w hw hz h hxl hpl hg.1 hg.2.1 hg.2.2 hwo
  · rw [if_neg hg]; exact rmembers_no z Z cz e A1 A2 A3 A4 A5 A6 A7 c1 c2 c3 c4 c5 c6 c7 x1 x2 w hw hz h hxl hpl hg hx1 hx2
end Go.Proofs.YtfjmofefciopmaaGreat
end
