import Derived.BigQuiet
import Derived.Deep.QuietTactic
import Derived.Deep.Cut
import Derived.Deep.AppendLies
import Derived.Test.YtdhinjbkfffpeaaGreatYOA
import Derived.Test.YtdhinjbkfffpeaaGreatYJS1
import Derived.Test.YtdhinjbkfffpeaaGreatYMB
/- Contracts of the document's records: is more there than is gone through? -/
section
namespace Go.Proofs.YtdhinjbkfffpeaaGreat
open Go.ChangeShapes Go.WideShapes Go.ChangeAt Go.RowKit Sp
def greatQ16 (a : Qy) : Prop := 80 < (a.must).length ∨ 40 < (a.may).length ∨ 60 < (a.apart).length ∨ 30 < (a.prefer).length
set_option maxRecDepth 100000 in
set_option maxHeartbeats 4000000 in
theorem rgreatQuery_any (a : Qy) (p : QyP) (w : World) (ha : QyAt w a p) :
    Calls Tryz.prog 36 #[.agg (qCells a p).toArray] w fun e w' => ∃ r, e = .returned (.bool r) ∧ (r = true ↔ greatQ16 a) ∧ Below w.heap.size w w' := by
  obtain ⟨r, hr⟩ : ∃ r : Bool, r = true ↔ greatQ16 a := by classical exact ⟨decide (greatQ16 a), by simp⟩
  suffices h : Calls Tryz.prog 36 #[.agg (qCells a p).toArray] w fun e w' => e = .returned (.bool r) ∧ Below w.heap.size w w' from h.mono fun e w' h => ⟨r, h.1, hr, h.2⟩
  unfold greatQ16 at hr
  unfold qCells
  simp only [List.toArray]
  obtain ⟨W, hW⟩ : ∃ W, w.alloc (.cells #[.int .i64 a.win.1, .int .i64 a.win.2, .int .i64 a.long, .int .i64 a.grid, .slice p.A1 a.must.length p.c1, .slice p.A2 a.may.length p.c2, .int .i64 a.seats, .slice p.A3 a.apart.length p.c3, .slice p.A4 a.prefer.length p.c4] 33) = W := ⟨_, rfl⟩
  have hBW : Below w.heap.size w W := by rw [← hW]; exact (Below.refl _ w).alloc (Nat.le_refl _) _
  have HG : Hid (∀ g : Gr W, Below w.heap.size w g.val) := fun g => hBW.trans (g.ok.mono hBW.size)
  have HA : Hid (∀ (g : Gr W) (k : Nat) (v : Value), (#[.int .i64 a.win.1, .int .i64 a.win.2, .int .i64 a.long, .int .i64 a.grid, .slice p.A1 a.must.length p.c1, .slice p.A2 a.may.length p.c2, .int .i64 a.seats, .slice p.A3 a.apart.length p.c3, .slice p.A4 a.prefer.length p.c4] : Array Value)[k]? = some v → g.val.cell? ⟨w.heap.size, k, none⟩ = some v) := fun g k v hv => cell_old (by rw [← hW]; exact blk_cell (cs := #[.int .i64 a.win.1, .int .i64 a.win.2, .int .i64 a.long, .int .i64 a.grid, .slice p.A1 a.must.length p.c1, .slice p.A2 a.may.length p.c2, .int .i64 a.seats, .slice p.A3 a.apart.length p.c3, .slice p.A4 a.prefer.length p.c4]) (t := 33) (heap_alloc_new _ _) hv) g.ok
  have E1 := Lib.hid hW
  have HR := Lib.hid hr
  have HAt := Lib.hid ha
  clear hW hBW hr ha
  have fa4 := HA.out ⟨W, Below.refl _ _⟩ 4 (.slice p.A1 a.must.length p.c1) rfl
  have fa5 := HA.out ⟨W, Below.refl _ _⟩ 5 (.slice p.A2 a.may.length p.c2) rfl
  have fa7 := HA.out ⟨W, Below.refl _ _⟩ 7 (.slice p.A3 a.apart.length p.c3) rfl
  have fa8 := HA.out ⟨W, Below.refl _ _⟩ 8 (.slice p.A4 a.prefer.length p.c4) rfl
  try simp only at fa4 fa5 fa7 fa8
  by_cases h0 : 80 < (a.must).length
  · have eb0 : decide ((80 : Int) < (a.must.length : Int)) = true := decide_eq_true (by omega)
    have E : Hid (r = true) := HR.out.2 (Or.inl h0)
    clear h0
    go_enter Tryz.func36, Tryz.ntmps36
    go_upto_region 1 with fail
    rw [E1.out]
    go_wp2_with fail
    go_ret
    exact ⟨ret_bool E.out.symm, HG.out ⟨W, Below.refl _ _⟩⟩
  have eb0 : decide ((80 : Int) < (a.must.length : Int)) = false := decide_eq_false (by omega)
  have HN0 := Lib.hid h0
  clear h0
  by_cases h1 : 40 < (a.may).length
  · have eb1 : decide ((40 : Int) < (a.may.length : Int)) = true := decide_eq_true (by omega)
    have E : Hid (r = true) := HR.out.2 (Or.inr (Or.inl h1))
    clear h1
    go_enter Tryz.func36, Tryz.ntmps36
    go_upto_region 1 with fail
    rw [E1.out]
    go_wp2_with fail
    go_ret
    exact ⟨ret_bool E.out.symm, HG.out ⟨W, Below.refl _ _⟩⟩
  have eb1 : decide ((40 : Int) < (a.may.length : Int)) = false := decide_eq_false (by omega)
  have HN1 := Lib.hid h1
  clear h1
  by_cases h2 : 60 < (a.apart).length
  · have eb2 : decide ((60 : Int) < (a.apart.length : Int)) = true := decide_eq_true (by omega)
    have E : Hid (r = true) := HR.out.2 (Or.inr (Or.inr (Or.inl h2)))
    clear h2
    go_enter Tryz.func36, Tryz.ntmps36
    go_upto_region 1 with fail
    rw [E1.out]
    go_wp2_with fail
    go_ret
    exact ⟨ret_bool E.out.symm, HG.out ⟨W, Below.refl _ _⟩⟩
  have eb2 : decide ((60 : Int) < (a.apart.length : Int)) = false := decide_eq_false (by omega)
  have HN2 := Lib.hid h2
  clear h2
  by_cases h3 : 30 < (a.prefer).length
  · have eb3 : decide ((30 : Int) < (a.prefer.length : Int)) = true := decide_eq_true (by omega)
    have E : Hid (r = true) := HR.out.2 (Or.inr (Or.inr (Or.inr h3)))
    clear h3
    go_enter Tryz.func36, Tryz.ntmps36
    go_upto_region 1 with fail
    rw [E1.out]
    go_wp2_with fail
    go_ret
    exact ⟨ret_bool E.out.symm, HG.out ⟨W, Below.refl _ _⟩⟩
  have eb3 : decide ((30 : Int) < (a.prefer.length : Int)) = false := decide_eq_false (by omega)
  have HN3 := Lib.hid h3
  clear h3
  have E : Hid (r = false) := Bool.eq_false_iff.2 fun k => (HR.out.1 k).elim HN0.out (fun k => k.elim HN1.out (fun k => k.elim HN2.out HN3.out))
  go_enter Tryz.func36, Tryz.ntmps36
  go_upto_region 1 with fail
  rw [E1.out]
  go_wp2_with fail
  go_ret
  exact ⟨ret_bool E.out.symm, HG.out ⟨W, Below.refl _ _⟩⟩
def greatE16 (a : Evt) : Prop := 80 < (a.ex).length ∨ 80 < (a.plus).length ∨ 80 < (a.ch).length ∨ 100 < (a.rule.bm).length ∨ 100 < (a.rule.bd).length ∨ 200 < (a.rule.bw).length ∨ 500 < (a.rule.bs).length
set_option maxRecDepth 100000 in
set_option maxHeartbeats 4000000 in
theorem rGreatEvent_any (a : Evt) (p : EvP) (w : World) (ha : EvAt w a p) :
    Calls Tryz.prog 35 #[.agg (eCells a p).toArray] w fun e w' => ∃ r, e = .returned (.bool r) ∧ (r = true ↔ greatE16 a) ∧ Below w.heap.size w w' := by
  obtain ⟨r, hr⟩ : ∃ r : Bool, r = true ↔ greatE16 a := by classical exact ⟨decide (greatE16 a), by simp⟩
  suffices h : Calls Tryz.prog 35 #[.agg (eCells a p).toArray] w fun e w' => e = .returned (.bool r) ∧ Below w.heap.size w w' from h.mono fun e w' h => ⟨r, h.1, hr, h.2⟩
  unfold greatE16 at hr
  unfold eCells
  simp only [List.toArray]
  obtain ⟨W, hW⟩ : ∃ W, w.alloc (.cells #[.int .i64 a.start, .int .i64 a.long, .bool a.world, .bool a.again, .int .i64 a.rule.freq, .int .i64 a.rule.iv, .int .i64 a.rule.count, .int .i64 a.rule.until_, .slice p.A1 a.rule.bm.length p.c1, .slice p.A2 a.rule.bd.length p.c2, .slice p.A3 a.rule.bw.length p.c3, .slice p.A4 a.rule.bs.length p.c4, .int .i64 a.rule.start, .slice p.A5 a.ex.length p.c5, .slice p.A6 a.plus.length p.c6, .slice p.A7 a.ch.length p.c7] 63) = W := ⟨_, rfl⟩
  have hBW : Below w.heap.size w W := by rw [← hW]; exact (Below.refl _ w).alloc (Nat.le_refl _) _
  have HG : Hid (∀ g : Gr W, Below w.heap.size w g.val) := fun g => hBW.trans (g.ok.mono hBW.size)
  have HA : Hid (∀ (g : Gr W) (k : Nat) (v : Value), (#[.int .i64 a.start, .int .i64 a.long, .bool a.world, .bool a.again, .int .i64 a.rule.freq, .int .i64 a.rule.iv, .int .i64 a.rule.count, .int .i64 a.rule.until_, .slice p.A1 a.rule.bm.length p.c1, .slice p.A2 a.rule.bd.length p.c2, .slice p.A3 a.rule.bw.length p.c3, .slice p.A4 a.rule.bs.length p.c4, .int .i64 a.rule.start, .slice p.A5 a.ex.length p.c5, .slice p.A6 a.plus.length p.c6, .slice p.A7 a.ch.length p.c7] : Array Value)[k]? = some v → g.val.cell? ⟨w.heap.size, k, none⟩ = some v) := fun g k v hv => cell_old (by rw [← hW]; exact blk_cell (cs := #[.int .i64 a.start, .int .i64 a.long, .bool a.world, .bool a.again, .int .i64 a.rule.freq, .int .i64 a.rule.iv, .int .i64 a.rule.count, .int .i64 a.rule.until_, .slice p.A1 a.rule.bm.length p.c1, .slice p.A2 a.rule.bd.length p.c2, .slice p.A3 a.rule.bw.length p.c3, .slice p.A4 a.rule.bs.length p.c4, .int .i64 a.rule.start, .slice p.A5 a.ex.length p.c5, .slice p.A6 a.plus.length p.c6, .slice p.A7 a.ch.length p.c7]) (t := 63) (heap_alloc_new _ _) hv) g.ok
  have E1 := Lib.hid hW
  have HR := Lib.hid hr
  have HAt := Lib.hid ha
  clear hW hBW hr ha
  have fa8 := HA.out ⟨W, Below.refl _ _⟩ 8 (.slice p.A1 a.rule.bm.length p.c1) rfl
  have fa9 := HA.out ⟨W, Below.refl _ _⟩ 9 (.slice p.A2 a.rule.bd.length p.c2) rfl
  have fa10 := HA.out ⟨W, Below.refl _ _⟩ 10 (.slice p.A3 a.rule.bw.length p.c3) rfl
  have fa11 := HA.out ⟨W, Below.refl _ _⟩ 11 (.slice p.A4 a.rule.bs.length p.c4) rfl
  have fa13 := HA.out ⟨W, Below.refl _ _⟩ 13 (.slice p.A5 a.ex.length p.c5) rfl
  have fa14 := HA.out ⟨W, Below.refl _ _⟩ 14 (.slice p.A6 a.plus.length p.c6) rfl
  have fa15 := HA.out ⟨W, Below.refl _ _⟩ 15 (.slice p.A7 a.ch.length p.c7) rfl
  try simp only at fa8 fa9 fa10 fa11 fa13 fa14 fa15
  by_cases h0 : 80 < (a.ex).length
  · have eb0 : decide ((80 : Int) < (a.ex.length : Int)) = true := decide_eq_true (by omega)
    have E : Hid (r = true) := HR.out.2 (Or.inl h0)
    clear h0
    go_enter Tryz.func35, Tryz.ntmps35
    go_upto_region 1 with fail
    rw [E1.out]
    go_wp2_with fail
    go_ret
    exact ⟨ret_bool E.out.symm, HG.out ⟨W, Below.refl _ _⟩⟩
  have eb0 : decide ((80 : Int) < (a.ex.length : Int)) = false := decide_eq_false (by omega)
  have HN0 := Lib.hid h0
  clear h0
  by_cases h1 : 80 < (a.plus).length
  · have eb1 : decide ((80 : Int) < (a.plus.length : Int)) = true := decide_eq_true (by omega)
    have E : Hid (r = true) := HR.out.2 (Or.inr (Or.inl h1))
    clear h1
    go_enter Tryz.func35, Tryz.ntmps35
    go_upto_region 1 with fail
    rw [E1.out]
    go_wp2_with fail
    go_ret
    exact ⟨ret_bool E.out.symm, HG.out ⟨W, Below.refl _ _⟩⟩
  have eb1 : decide ((80 : Int) < (a.plus.length : Int)) = false := decide_eq_false (by omega)
  have HN1 := Lib.hid h1
  clear h1
  by_cases h2 : 80 < (a.ch).length
  · have eb2 : decide ((80 : Int) < (a.ch.length : Int)) = true := decide_eq_true (by omega)
    have E : Hid (r = true) := HR.out.2 (Or.inr (Or.inr (Or.inl h2)))
    clear h2
    go_enter Tryz.func35, Tryz.ntmps35
    go_upto_region 1 with fail
    rw [E1.out]
    go_wp2_with fail
    go_ret
    exact ⟨ret_bool E.out.symm, HG.out ⟨W, Below.refl _ _⟩⟩
  have eb2 : decide ((80 : Int) < (a.ch.length : Int)) = false := decide_eq_false (by omega)
  have HN2 := Lib.hid h2
  clear h2
  by_cases h3 : 100 < (a.rule.bm).length
  · have eb3 : decide ((100 : Int) < (a.rule.bm.length : Int)) = true := decide_eq_true (by omega)
    have E : Hid (r = true) := HR.out.2 (Or.inr (Or.inr (Or.inr (Or.inl h3))))
    clear h3
    go_enter Tryz.func35, Tryz.ntmps35
    go_upto_region 1 with fail
    rw [E1.out]
    go_wp2_with fail
    go_ret
    exact ⟨ret_bool E.out.symm, HG.out ⟨W, Below.refl _ _⟩⟩
  have eb3 : decide ((100 : Int) < (a.rule.bm.length : Int)) = false := decide_eq_false (by omega)
  have HN3 := Lib.hid h3
  clear h3
  by_cases h4 : 100 < (a.rule.bd).length
  · have eb4 : decide ((100 : Int) < (a.rule.bd.length : Int)) = true := decide_eq_true (by omega)
    have E : Hid (r = true) := HR.out.2 (Or.inr (Or.inr (Or.inr (Or.inr (Or.inl h4)))))
    clear h4
    go_enter Tryz.func35, Tryz.ntmps35
    go_upto_region 1 with fail
    rw [E1.out]
    go_wp2_with fail
    go_ret
    exact ⟨ret_bool E.out.symm, HG.out ⟨W, Below.refl _ _⟩⟩
  have eb4 : decide ((100 : Int) < (a.rule.bd.length : Int)) = false := decide_eq_false (by omega)
  have HN4 := Lib.hid h4
  clear h4
  by_cases h5 : 200 < (a.rule.bw).length
  · have eb5 : decide ((200 : Int) < (a.rule.bw.length : Int)) = true := decide_eq_true (by omega)
    have E : Hid (r = true) := HR.out.2 (Or.inr (Or.inr (Or.inr (Or.inr (Or.inr (Or.inl h5))))))
    clear h5
    go_enter Tryz.func35, Tryz.ntmps35
    go_upto_region 1 with fail
    rw [E1.out]
    go_wp2_with fail
    go_ret
    exact ⟨ret_bool E.out.symm, HG.out ⟨W, Below.refl _ _⟩⟩
  have eb5 : decide ((200 : Int) < (a.rule.bw.length : Int)) = false := decide_eq_false (by omega)
  have HN5 := Lib.hid h5
  clear h5
  by_cases h6 : 500 < (a.rule.bs).length
  · have eb6 : decide ((500 : Int) < (a.rule.bs.length : Int)) = true := decide_eq_true (by omega)
    have E : Hid (r = true) := HR.out.2 (Or.inr (Or.inr (Or.inr (Or.inr (Or.inr (Or.inr h6))))))
    clear h6
    go_enter Tryz.func35, Tryz.ntmps35
    go_upto_region 1 with fail
    rw [E1.out]
    go_wp2_with fail
    go_ret
    exact ⟨ret_bool E.out.symm, HG.out ⟨W, Below.refl _ _⟩⟩
  have eb6 : decide ((500 : Int) < (a.rule.bs.length : Int)) = false := decide_eq_false (by omega)
  have HN6 := Lib.hid h6
  clear h6
  have E : Hid (r = false) := Bool.eq_false_iff.2 fun k => (HR.out.1 k).elim HN0.out (fun k => k.elim HN1.out (fun k => k.elim HN2.out (fun k => k.elim HN3.out (fun k => k.elim HN4.out (fun k => k.elim HN5.out HN6.out)))))
  go_enter Tryz.func35, Tryz.ntmps35
  go_upto_region 1 with fail
  rw [E1.out]
  go_wp2_with fail
  go_ret
  exact ⟨ret_bool E.out.symm, HG.out ⟨W, Below.refl _ _⟩⟩
def greatS16 (a : Stg) : Prop := 100 < (a.turns).length ∨ 30 < (a.shifts).length ∨ 100 < (a.off).length
set_option maxRecDepth 100000 in
set_option maxHeartbeats 4000000 in
theorem rGreatSettings_any (a : Stg) (p : StgP) (w : World) (ha : StgAt w a p) :
    Calls Tryz.prog 34 #[.agg (sCells a p).toArray] w fun e w' => ∃ r, e = .returned (.bool r) ∧ (r = true ↔ greatS16 a) ∧ Below w.heap.size w w' := by
  obtain ⟨r, hr⟩ : ∃ r : Bool, r = true ↔ greatS16 a := by classical exact ⟨decide (greatS16 a), by simp⟩
  suffices h : Calls Tryz.prog 34 #[.agg (sCells a p).toArray] w fun e w' => e = .returned (.bool r) ∧ Below w.heap.size w w' from h.mono fun e w' h => ⟨r, h.1, hr, h.2⟩
  unfold greatS16 at hr
  unfold sCells
  simp only [List.toArray]
  obtain ⟨W, hW⟩ : ∃ W, w.alloc (.cells #[.int .i64 a.base, .slice p.A1 a.turns.length p.c1, .slice p.A2 a.shifts.length p.c2, .slice p.A3 a.off.length p.c3, .int .i64 a.before, .int .i64 a.after] 57) = W := ⟨_, rfl⟩
  have hBW : Below w.heap.size w W := by rw [← hW]; exact (Below.refl _ w).alloc (Nat.le_refl _) _
  have HG : Hid (∀ g : Gr W, Below w.heap.size w g.val) := fun g => hBW.trans (g.ok.mono hBW.size)
  have HA : Hid (∀ (g : Gr W) (k : Nat) (v : Value), (#[.int .i64 a.base, .slice p.A1 a.turns.length p.c1, .slice p.A2 a.shifts.length p.c2, .slice p.A3 a.off.length p.c3, .int .i64 a.before, .int .i64 a.after] : Array Value)[k]? = some v → g.val.cell? ⟨w.heap.size, k, none⟩ = some v) := fun g k v hv => cell_old (by rw [← hW]; exact blk_cell (cs := #[.int .i64 a.base, .slice p.A1 a.turns.length p.c1, .slice p.A2 a.shifts.length p.c2, .slice p.A3 a.off.length p.c3, .int .i64 a.before, .int .i64 a.after]) (t := 57) (heap_alloc_new _ _) hv) g.ok
  have E1 := Lib.hid hW
  have HR := Lib.hid hr
  have HAt := Lib.hid ha
  clear hW hBW hr ha
  have fa1 := HA.out ⟨W, Below.refl _ _⟩ 1 (.slice p.A1 a.turns.length p.c1) rfl
  have fa2 := HA.out ⟨W, Below.refl _ _⟩ 2 (.slice p.A2 a.shifts.length p.c2) rfl
  have fa3 := HA.out ⟨W, Below.refl _ _⟩ 3 (.slice p.A3 a.off.length p.c3) rfl
  try simp only at fa1 fa2 fa3
  by_cases h0 : 100 < (a.turns).length
  · have eb0 : decide ((100 : Int) < (a.turns.length : Int)) = true := decide_eq_true (by omega)
    have E : Hid (r = true) := HR.out.2 (Or.inl h0)
    clear h0
    go_enter Tryz.func34, Tryz.ntmps34
    go_upto_region 1 with fail
    rw [E1.out]
    go_wp2_with fail
    go_ret
    exact ⟨ret_bool E.out.symm, HG.out ⟨W, Below.refl _ _⟩⟩
  have eb0 : decide ((100 : Int) < (a.turns.length : Int)) = false := decide_eq_false (by omega)
  have HN0 := Lib.hid h0
  clear h0
  by_cases h1 : 30 < (a.shifts).length
  · have eb1 : decide ((30 : Int) < (a.shifts.length : Int)) = true := decide_eq_true (by omega)
    have E : Hid (r = true) := HR.out.2 (Or.inr (Or.inl h1))
    clear h1
    go_enter Tryz.func34, Tryz.ntmps34
    go_upto_region 1 with fail
    rw [E1.out]
    go_wp2_with fail
    go_ret
    exact ⟨ret_bool E.out.symm, HG.out ⟨W, Below.refl _ _⟩⟩
  have eb1 : decide ((30 : Int) < (a.shifts.length : Int)) = false := decide_eq_false (by omega)
  have HN1 := Lib.hid h1
  clear h1
  by_cases h2 : 100 < (a.off).length
  · have eb2 : decide ((100 : Int) < (a.off.length : Int)) = true := decide_eq_true (by omega)
    have E : Hid (r = true) := HR.out.2 (Or.inr (Or.inr h2))
    clear h2
    go_enter Tryz.func34, Tryz.ntmps34
    go_upto_region 1 with fail
    rw [E1.out]
    go_wp2_with fail
    go_ret
    exact ⟨ret_bool E.out.symm, HG.out ⟨W, Below.refl _ _⟩⟩
  have eb2 : decide ((100 : Int) < (a.off.length : Int)) = false := decide_eq_false (by omega)
  have HN2 := Lib.hid h2
  clear h2
  have E : Hid (r = false) := Bool.eq_false_iff.2 fun k => (HR.out.1 k).elim HN0.out (fun k => k.elim HN1.out HN2.out)
  go_enter Tryz.func34, Tryz.ntmps34
  go_upto_region 1 with fail
  rw [E1.out]
  go_wp2_with fail
  go_ret
  exact ⟨ret_bool E.out.symm, HG.out ⟨W, Below.refl _ _⟩⟩
def greatP16 (a : Pl) : Prop := greatQ16 a.query ∨ 80 < (a.slots).length ∨ 300 < (a.votes).length
set_option maxRecDepth 100000 in
set_option maxHeartbeats 4000000 in
theorem rGreatPoll_any (a : Pl) (p : PlP) (w : World) (ha : PlAt w a p) :
    Calls Tryz.prog 22 #[.agg (pCells a p).toArray] w fun e w' => ∃ r, e = .returned (.bool r) ∧ (r = true ↔ greatP16 a) ∧ Below w.heap.size w w' := by
  obtain ⟨r, hr⟩ : ∃ r : Bool, r = true ↔ greatP16 a := by classical exact ⟨decide (greatP16 a), by simp⟩
  suffices h : Calls Tryz.prog 22 #[.agg (pCells a p).toArray] w fun e w' => e = .returned (.bool r) ∧ Below w.heap.size w w' from h.mono fun e w' h => ⟨r, h.1, hr, h.2⟩
  unfold greatP16 at hr
  unfold pCells qCells
  simp only [List.cons_append, List.nil_append, List.toArray]
  obtain ⟨W, hW⟩ : ∃ W, w.alloc (.cells #[.int .u32 (a.id : Int), .int .u32 (a.owner : Int), .int .i64 a.query.win.1, .int .i64 a.query.win.2, .int .i64 a.query.long, .int .i64 a.query.grid, .slice p.q.A1 a.query.must.length p.q.c1, .slice p.q.A2 a.query.may.length p.q.c2, .int .i64 a.query.seats, .slice p.q.A3 a.query.apart.length p.q.c3, .slice p.q.A4 a.query.prefer.length p.q.c4, .slice p.A1 a.slots.length p.c1, .slice p.A2 a.votes.length p.c2, .int .i64 a.until_, .int .i64 a.state, .int .i64 a.winner] 37) = W := ⟨_, rfl⟩
  have hBW : Below w.heap.size w W := by rw [← hW]; exact (Below.refl _ w).alloc (Nat.le_refl _) _
  have HG : Hid (∀ g : Gr W, Below w.heap.size w g.val) := fun g => hBW.trans (g.ok.mono hBW.size)
  have HA : Hid (∀ (g : Gr W) (k : Nat) (v : Value), (#[.int .u32 (a.id : Int), .int .u32 (a.owner : Int), .int .i64 a.query.win.1, .int .i64 a.query.win.2, .int .i64 a.query.long, .int .i64 a.query.grid, .slice p.q.A1 a.query.must.length p.q.c1, .slice p.q.A2 a.query.may.length p.q.c2, .int .i64 a.query.seats, .slice p.q.A3 a.query.apart.length p.q.c3, .slice p.q.A4 a.query.prefer.length p.q.c4, .slice p.A1 a.slots.length p.c1, .slice p.A2 a.votes.length p.c2, .int .i64 a.until_, .int .i64 a.state, .int .i64 a.winner] : Array Value)[k]? = some v → g.val.cell? ⟨w.heap.size, k, none⟩ = some v) := fun g k v hv => cell_old (by rw [← hW]; exact blk_cell (cs := #[.int .u32 (a.id : Int), .int .u32 (a.owner : Int), .int .i64 a.query.win.1, .int .i64 a.query.win.2, .int .i64 a.query.long, .int .i64 a.query.grid, .slice p.q.A1 a.query.must.length p.q.c1, .slice p.q.A2 a.query.may.length p.q.c2, .int .i64 a.query.seats, .slice p.q.A3 a.query.apart.length p.q.c3, .slice p.q.A4 a.query.prefer.length p.q.c4, .slice p.A1 a.slots.length p.c1, .slice p.A2 a.votes.length p.c2, .int .i64 a.until_, .int .i64 a.state, .int .i64 a.winner]) (t := 37) (heap_alloc_new _ _) hv) g.ok
  have E1 := Lib.hid hW
  have HR := Lib.hid hr
  have HAt := Lib.hid ha
  clear hW hBW hr ha
  have fa2 := HA.out ⟨W, Below.refl _ _⟩ 2 (.int .i64 a.query.win.1) rfl
  have fa3 := HA.out ⟨W, Below.refl _ _⟩ 3 (.int .i64 a.query.win.2) rfl
  have fa4 := HA.out ⟨W, Below.refl _ _⟩ 4 (.int .i64 a.query.long) rfl
  have fa5 := HA.out ⟨W, Below.refl _ _⟩ 5 (.int .i64 a.query.grid) rfl
  have fa6 := HA.out ⟨W, Below.refl _ _⟩ 6 (.slice p.q.A1 a.query.must.length p.q.c1) rfl
  have fa7 := HA.out ⟨W, Below.refl _ _⟩ 7 (.slice p.q.A2 a.query.may.length p.q.c2) rfl
  have fa8 := HA.out ⟨W, Below.refl _ _⟩ 8 (.int .i64 a.query.seats) rfl
  have fa9 := HA.out ⟨W, Below.refl _ _⟩ 9 (.slice p.q.A3 a.query.apart.length p.q.c3) rfl
  have fa10 := HA.out ⟨W, Below.refl _ _⟩ 10 (.slice p.q.A4 a.query.prefer.length p.q.c4) rfl
  try simp only at fa2 fa3 fa4 fa5 fa6 fa7 fa8 fa9 fa10
  go_enter Tryz.func22, Tryz.ntmps22
  go_upto_region 1 with fail
  rw [E1.out]
  go_wp2_with fail
  go_at_call 36
  refine (rgreatQuery_any (a.query) p.q _ (HAt.out.q.below (HG.out ⟨W, Below.refl _ _⟩))).mono ?_
  rintro e w0 ⟨v0, rfl, hv0, hb0⟩
  obtain ⟨g0, rfl⟩ := Gr.on ⟨W, Below.refl _ _⟩ hb0
  clear hb0 fa2 fa3 fa4 fa5 fa6 fa7 fa8 fa9 fa10
  have fa11 := HA.out g0 11 (.slice p.A1 a.slots.length p.c1) rfl
  have fa12 := HA.out g0 12 (.slice p.A2 a.votes.length p.c2) rfl
  try simp only at fa11 fa12
  cases v0 with
  | true =>
    have E : Hid (r = true) := HR.out.2 (Or.inl (hv0.1 rfl))
    clear hv0
    go_wp2_with fail
    go_ret
    exact ⟨ret_bool E.out.symm, HG.out g0⟩
  | false =>
    have HN0 : Hid (¬ (greatQ16 a.query)) := fun k => by have := hv0.2 k; cases this
    clear hv0
    by_cases h1 : 80 < (a.slots).length
    · have eb1 : decide ((80 : Int) < (a.slots.length : Int)) = true := decide_eq_true (by omega)
      have E : Hid (r = true) := HR.out.2 (Or.inr (Or.inl h1))
      clear h1
      go_wp2_with fail
      go_ret
      exact ⟨ret_bool E.out.symm, HG.out g0⟩
    have eb1 : decide ((80 : Int) < (a.slots.length : Int)) = false := decide_eq_false (by omega)
    have HN1 := Lib.hid h1
    clear h1
    by_cases h2 : 300 < (a.votes).length
    · have eb2 : decide ((300 : Int) < (a.votes.length : Int)) = true := decide_eq_true (by omega)
      have E : Hid (r = true) := HR.out.2 (Or.inr (Or.inr h2))
      clear h2
      go_wp2_with fail
      go_ret
      exact ⟨ret_bool E.out.symm, HG.out g0⟩
    have eb2 : decide ((300 : Int) < (a.votes.length : Int)) = false := decide_eq_false (by omega)
    have HN2 := Lib.hid h2
    clear h2
    have E : Hid (r = false) := Bool.eq_false_iff.2 fun k => (HR.out.1 k).elim HN0.out (fun k => k.elim HN1.out HN2.out)
    go_wp2_with fail
    go_ret
    exact ⟨ret_bool E.out.symm, HG.out g0⟩
def greatA16 (a : Ak) : Prop := greatS16 a.settings ∨ greatE16 a.event ∨ greatQ16 a.query ∨ 200 < (a.cursor).length
end Go.Proofs.YtdhinjbkfffpeaaGreat
end
