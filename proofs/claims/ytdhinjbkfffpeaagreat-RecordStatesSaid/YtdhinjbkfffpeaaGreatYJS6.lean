import Derived.BigQuiet
import Derived.Deep.QuietTactic
import Derived.Deep.Cut
import Derived.Deep.AppendLies
import Derived.Test.YtdhinjbkfffpeaaGreatYOA
import Derived.Test.YtdhinjbkfffpeaaGreatYJS2
/- Contracts of the document's records: whether users, states are the same. -/
section
namespace Go.Proofs.YtdhinjbkfffpeaaGreat
open Go.ChangeShapes Go.WideShapes Go.ChangeAt Go.RowKit Sp
theorem Us.same_iff (i0 : Nat) (s0 : Stg) (v0 : Nat) (l0 : List (Nat × Evt)) (i1 : Nat) (s1 : Stg) (v1 : Nat) (l1 : List (Nat × Evt)) :
  (⟨i0, s0, v0, l0⟩ : Us) = ⟨i1, s1, v1, l1⟩ ↔ i0 = i1 ∧ v0 = v1 ∧ s0 = s1 ∧ l0.length = l1.length ∧ l0 = l1 := by
 constructor
 ·intro h; injection h with h1 h2 h3 h4; subst h4; exact ⟨h1, h3, h2, rfl, rfl⟩
 ·rintro ⟨rfl, rfl, rfl, _, rfl⟩; rfl
set_option maxRecDepth 100000 in
set_option maxHeartbeats 4000000 in
theorem rSameUser_any (a b : Us) (p q : UsP) (w : World) (ha : UsAt w a p) (hb : UsAt w b q) :
  Calls Tryz.prog 54 #[.agg (uCells a p).toArray, .agg (uCells b q).toArray] w fun e w' => ∃ r, e = .returned (.bool r) ∧ (r = true ↔ a = b) ∧ Below w.heap.size w w' := by
 obtain ⟨r, hr⟩ : ∃ r : Bool, r = true ↔ a = b := by classical exact ⟨decide (a = b), by simp⟩
 suffices h : Calls Tryz.prog 54 #[.agg (uCells a p).toArray, .agg (uCells b q).toArray] w fun e w' => e = .returned (.bool r) ∧ Below w.heap.size w w' from h.mono fun e w' h => ⟨r, h.1, hr, h.2⟩
 obtain ⟨i0, s0, v0, l0⟩ := a
 obtain ⟨i1, s1, v1, l1⟩ := b
 obtain ⟨sa, A1, ca, pa⟩ := p
 obtain ⟨sb, B1, cb, pb⟩ := q
 rw [Us.same_iff] at hr
 obtain ⟨ha1, ha2⟩ := ha
 obtain ⟨hb1, hb2⟩ := hb
 unfold uCells sCells
 simp only [List.cons_append, List.nil_append, List.toArray] at *
 have hl1 := len_le16 ha2.s
 have HSC : Hid (∀ g : World, Below w.heap.size w g → Calls Tryz.prog 40 #[.agg (sCells s0 sa).toArray, .agg (sCells s1 sb).toArray] g fun e w' => ∃ r, e = .returned (.bool r) ∧ (r = true ↔ s0 = s1) ∧ Below g.heap.size g w') := fun g hb' => rSameSettings_any s0 s1 sa sb g (ha1.below hb') (hb1.below hb')
 unfold sCells at HSC
 simp only [List.toArray] at HSC
 have HRa : Hid (∀ wr, Below w.heap.size w wr → RowsAt enC (fun w x p => EvAt w x.2 p) wr A1 ca l0 pa) := fun wr hb' => ha2.below (fun _ _ _ _ h hb => EvAt.below h hb) hb'
 have HRb : Hid (∀ wr, Below w.heap.size w wr → RowsAt enC (fun w x p => EvAt w x.2 p) wr B1 cb l1 pb) := fun wr hb' => hb2.below (fun _ _ _ _ h hb => EvAt.below h hb) hb'
 clear ha1 ha2 hb1 hb2
 obtain ⟨W, hW⟩ : ∃ W, (w.alloc (.cells #[.int .u32 (i0 : Int), .int .i64 s0.base, .slice sa.A1 s0.turns.length sa.c1, .slice sa.A2 s0.shifts.length sa.c2, .slice sa.A3 s0.off.length sa.c3, .int .i64 s0.before, .int .i64 s0.after, .int .u64 (v0 : Int), .slice A1 l0.length ca] 105)).alloc (.cells #[.int .u32 (i1 : Int), .int .i64 s1.base, .slice sb.A1 s1.turns.length sb.c1, .slice sb.A2 s1.shifts.length sb.c2, .slice sb.A3 s1.off.length sb.c3, .int .i64 s1.before, .int .i64 s1.after, .int .u64 (v1 : Int), .slice B1 l1.length cb] 105) = W := ⟨_, rfl⟩
 have hBW : Below w.heap.size w W := by rw [← hW]; exact ((Below.refl _ w).alloc (Nat.le_refl _) _).alloc (by simp) _
 have HG : Hid (∀ g : Gr W, Below w.heap.size w g.val) := fun g => hBW.trans (g.ok.mono hBW.size)
 have HA : Hid (∀ (g : Gr W) (k : Nat) (v : Value), (#[.int .u32 (i0 : Int), .int .i64 s0.base, .slice sa.A1 s0.turns.length sa.c1, .slice sa.A2 s0.shifts.length sa.c2, .slice sa.A3 s0.off.length sa.c3, .int .i64 s0.before, .int .i64 s0.after, .int .u64 (v0 : Int), .slice A1 l0.length ca] : Array Value)[k]? = some v → g.val.cell? ⟨w.heap.size, k, none⟩ = some v) := fun g k v hv => cell_old (by rw [← hW]; exact blk_cell (cs := #[.int .u32 (i0 : Int), .int .i64 s0.base, .slice sa.A1 s0.turns.length sa.c1, .slice sa.A2 s0.shifts.length sa.c2, .slice sa.A3 s0.off.length sa.c3, .int .i64 s0.before, .int .i64 s0.after, .int .u64 (v0 : Int), .slice A1 l0.length ca]) (t := 105) (by rw [heap_alloc_old _ _ (by simp)]; exact heap_alloc_new _ _) hv) g.ok
 have HB : Hid (∀ (g : Gr W) (k : Nat) (v : Value), (#[.int .u32 (i1 : Int), .int .i64 s1.base, .slice sb.A1 s1.turns.length sb.c1, .slice sb.A2 s1.shifts.length sb.c2, .slice sb.A3 s1.off.length sb.c3, .int .i64 s1.before, .int .i64 s1.after, .int .u64 (v1 : Int), .slice B1 l1.length cb] : Array Value)[k]? = some v → g.val.cell? ⟨w.heap.size + 1, k, none⟩ = some v) := fun g k v hv => cell_old (by rw [← hW]; exact blk_cell (cs := #[.int .u32 (i1 : Int), .int .i64 s1.base, .slice sb.A1 s1.turns.length sb.c1, .slice sb.A2 s1.shifts.length sb.c2, .slice sb.A3 s1.off.length sb.c3, .int .i64 s1.before, .int .i64 s1.after, .int .u64 (v1 : Int), .slice B1 l1.length cb]) (t := 105) (heap_alloc_new2 _ _ _) hv) g.ok
 have E1 := Lib.hid hW
 clear hW hBW
 have HR := Lib.hid hr
 clear hr
 have fa0 := HA.out ⟨W, Below.refl _ _⟩ 0 (.int .u32 (i0 : Int)) rfl
 have fb0 := HB.out ⟨W, Below.refl _ _⟩ 0 (.int .u32 (i1 : Int)) rfl
 have fa1 := HA.out ⟨W, Below.refl _ _⟩ 1 (.int .i64 s0.base) rfl
 have fb1 := HB.out ⟨W, Below.refl _ _⟩ 1 (.int .i64 s1.base) rfl
 have fa2 := HA.out ⟨W, Below.refl _ _⟩ 2 (.slice sa.A1 s0.turns.length sa.c1) rfl
 have fb2 := HB.out ⟨W, Below.refl _ _⟩ 2 (.slice sb.A1 s1.turns.length sb.c1) rfl
 have fa3 := HA.out ⟨W, Below.refl _ _⟩ 3 (.slice sa.A2 s0.shifts.length sa.c2) rfl
 have fb3 := HB.out ⟨W, Below.refl _ _⟩ 3 (.slice sb.A2 s1.shifts.length sb.c2) rfl
 have fa4 := HA.out ⟨W, Below.refl _ _⟩ 4 (.slice sa.A3 s0.off.length sa.c3) rfl
 have fb4 := HB.out ⟨W, Below.refl _ _⟩ 4 (.slice sb.A3 s1.off.length sb.c3) rfl
 have fa5 := HA.out ⟨W, Below.refl _ _⟩ 5 (.int .i64 s0.before) rfl
 have fb5 := HB.out ⟨W, Below.refl _ _⟩ 5 (.int .i64 s1.before) rfl
 have fa6 := HA.out ⟨W, Below.refl _ _⟩ 6 (.int .i64 s0.after) rfl
 have fb6 := HB.out ⟨W, Below.refl _ _⟩ 6 (.int .i64 s1.after) rfl
 have fa7 := HA.out ⟨W, Below.refl _ _⟩ 7 (.int .u64 (v0 : Int)) rfl
 have fb7 := HB.out ⟨W, Below.refl _ _⟩ 7 (.int .u64 (v1 : Int)) rfl
 try simp only at fa0 fb0 fa1 fb1 fa2 fb2 fa3 fb3 fa4 fb4 fa5 fb5 fa6 fb6 fa7 fb7
 by_cases h0 : i0 = i1
 rotate_left
 ·have eb0 : ((i0 : Int) != (i1 : Int)) = true := by simp; omega
  have eb0' : (i0 == i1) = false := by simpa using h0
  have E : Hid (r = false) := Bool.eq_false_iff.2 fun k => h0 (HR.out.1 k).1
  go_enter Tryz.func54, Tryz.ntmps54
  go_upto_region 1 with fail
  rw [E1.out]
  go_wp2_with fail
  go_ret
  exact ⟨ret_bool E.out.symm, HG.out ⟨W, Below.refl _ _⟩⟩
 subst h0
 by_cases h1 : v0 = v1
 rotate_left
 ·have eb1 : ((v0 : Int) != (v1 : Int)) = true := by simp; omega
  have eb1' : (v0 == v1) = false := by simpa using h1
  have E : Hid (r = false) := Bool.eq_false_iff.2 fun k => h1 (HR.out.1 k).2.1
  go_enter Tryz.func54, Tryz.ntmps54
  go_upto_region 1 with fail
  rw [E1.out]
  go_wp2_with fail
  go_ret
  exact ⟨ret_bool E.out.symm, HG.out ⟨W, Below.refl _ _⟩⟩
 subst h1
 go_enter Tryz.func54, Tryz.ntmps54
 go_upto_region 1 with fail
 rw [E1.out]
 go_wp2_with fail
 go_at_call 40
 refine (HSC.out _ (HG.out ⟨W, Below.refl _ _⟩)).mono ?_
 rintro e w2 ⟨v2, rfl, hv2, hb2⟩
 obtain ⟨g2, rfl⟩ := Gr.on ⟨W, Below.refl _ _⟩ hb2
 clear hb2
 clear fa0 fb0 fa1 fb1 fa2 fb2 fa3 fb3 fa4 fb4 fa5 fb5 fa6 fb6 fa7 fb7
 have fa8 := HA.out g2 8 (.slice A1 l0.length ca) rfl
 have fb8 := HB.out g2 8 (.slice B1 l1.length cb) rfl
 try simp only at fa8 fb8
 cases v2 with
 | false =>
  have hn2 : ¬ (s0 = s1) := fun k => by simpa using hv2.2 k
  have E : Hid (r = false) := Bool.eq_false_iff.2 fun k => hn2 (HR.out.1 k).2.2.1
  go_wp2_with fail
  go_ret
  exact ⟨ret_bool E.out.symm, HG.out g2⟩
 | true =>
  have HC2 : Hid (s0 = s1) := hv2.1 rfl
  clear hv2
  by_cases h3 : l0.length = l1.length
  rotate_left
  ·have eb3 : ((l0.length : Int) != (l1.length : Int)) = true := by simp; omega
   have E : Hid (r = false) := Bool.eq_false_iff.2 fun k => h3 (HR.out.1 k).2.2.2.1
   go_wp2_with fail
   go_ret
   exact ⟨ret_bool E.out.symm, HG.out g2⟩
  have eb3 : ((l0.length : Int) != (l1.length : Int)) = false := by simp; omega
  have HL3 := Lib.hid h3
  clear h3
  go_wp2_with fail
  clear fa8 fb8
  go_loopw [38] (fun s wr => ∃ (i : Nat) (g : Gr W), wr = g.val ∧ i ≤ l0.length ∧ s = .int .i64 i ∧ Hid (l0.take i = l1.take i)) (fun s _ => l0.length - (intOf s).toNat)
  case atStart => exact ⟨0, g2, rfl, Nat.zero_le _, rfl, rfl⟩
  case round =>
   obtain ⟨i, g, rfl, hi, rfl, HI⟩ := hrel
   by_cases hlt : i < l0.length
   ·have hltb : i < l1.length := by rw [← HL3.out]; exact hlt
    have hiz : (i : Int) < l0.length := by omega
    have hib : (i : Int) < l1.length := by omega
    obtain ⟨x, hx⟩ : ∃ x, l0[i]? = some x := ⟨_, List.getElem?_eq_getElem hlt⟩
    obtain ⟨y, hy⟩ : ∃ y, l1[i]? = some y := ⟨_, List.getElem?_eq_getElem hltb⟩
    have HN : Hid (x ≠ y → ¬ (l0 = l1)) := fun h k => h (Option.some.inj (hx.symm.trans ((congrArg (fun l => l[i]?) k).trans hy)))
    have HT : Hid (x = y → l0.take (i + 1) = l1.take (i + 1)) := fun h => by rw [List.take_add_one, List.take_add_one, HI.out, hx, hy, h]
    have fa8 := HA.out g 8 (.slice A1 l0.length ca) rfl
    have fb8 := HB.out g 8 (.slice B1 l1.length cb) rfl
    try simp only at fa8 fb8
    obtain ⟨px, bb0, off0, _, hA0, _, hx1, hc⟩ := (HRa.out g.val (HG.out g)).at enC_len (by decide) hx
    obtain ⟨py, bb1, off1, _, hB0, _, hy1, hd⟩ := (HRb.out g.val (HG.out g)).at enC_len (by decide) hy
    rw [hA0] at fa8
    rw [hB0] at fb8
    have FA := fun g' : Gr g.val => cell_old fa8 g'.ok
    have FB := fun g' : Gr g.val => cell_old fb8 g'.ok
    clear hx hy hA0 hB0 fa8 fb8
    have X0 : ∀ g' : Gr g.val, g'.val.cell? ⟨bb0, off0 + i * 17, none⟩ = some (.int .u32 (x.1 : Int)) := fun g' => hc g' 0 _ rfl
    have Y0 : ∀ g' : Gr g.val, g'.val.cell? ⟨bb1, off1 + i * 17, none⟩ = some (.int .u32 (y.1 : Int)) := fun g' => hd g' 0 _ rfl
    have X1 : ∀ g' : Gr g.val, g'.val.cell? ⟨bb0, off0 + i * 17 + 1, none⟩ = some (.int .i64 x.2.start) := fun g' => by have := hc g' 1 _ rfl; rwa [← Nat.add_assoc] at this
    have Y1 : ∀ g' : Gr g.val, g'.val.cell? ⟨bb1, off1 + i * 17 + 1, none⟩ = some (.int .i64 y.2.start) := fun g' => by have := hd g' 1 _ rfl; rwa [← Nat.add_assoc] at this
    have X2 : ∀ g' : Gr g.val, g'.val.cell? ⟨bb0, off0 + i * 17 + 2, none⟩ = some (.int .i64 x.2.long) := fun g' => by have := hc g' 2 _ rfl; rwa [← Nat.add_assoc] at this
    have Y2 : ∀ g' : Gr g.val, g'.val.cell? ⟨bb1, off1 + i * 17 + 2, none⟩ = some (.int .i64 y.2.long) := fun g' => by have := hd g' 2 _ rfl; rwa [← Nat.add_assoc] at this
    have X3 : ∀ g' : Gr g.val, g'.val.cell? ⟨bb0, off0 + i * 17 + 3, none⟩ = some (.bool x.2.world) := fun g' => by have := hc g' 3 _ rfl; rwa [← Nat.add_assoc] at this
    have Y3 : ∀ g' : Gr g.val, g'.val.cell? ⟨bb1, off1 + i * 17 + 3, none⟩ = some (.bool y.2.world) := fun g' => by have := hd g' 3 _ rfl; rwa [← Nat.add_assoc] at this
    have X4 : ∀ g' : Gr g.val, g'.val.cell? ⟨bb0, off0 + i * 17 + 4, none⟩ = some (.bool x.2.again) := fun g' => by have := hc g' 4 _ rfl; rwa [← Nat.add_assoc] at this
    have Y4 : ∀ g' : Gr g.val, g'.val.cell? ⟨bb1, off1 + i * 17 + 4, none⟩ = some (.bool y.2.again) := fun g' => by have := hd g' 4 _ rfl; rwa [← Nat.add_assoc] at this
    have X5 : ∀ g' : Gr g.val, g'.val.cell? ⟨bb0, off0 + i * 17 + 5, none⟩ = some (.int .i64 x.2.rule.freq) := fun g' => by have := hc g' 5 _ rfl; rwa [← Nat.add_assoc] at this
    have Y5 : ∀ g' : Gr g.val, g'.val.cell? ⟨bb1, off1 + i * 17 + 5, none⟩ = some (.int .i64 y.2.rule.freq) := fun g' => by have := hd g' 5 _ rfl; rwa [← Nat.add_assoc] at this
    have X6 : ∀ g' : Gr g.val, g'.val.cell? ⟨bb0, off0 + i * 17 + 6, none⟩ = some (.int .i64 x.2.rule.iv) := fun g' => by have := hc g' 6 _ rfl; rwa [← Nat.add_assoc] at this
    have Y6 : ∀ g' : Gr g.val, g'.val.cell? ⟨bb1, off1 + i * 17 + 6, none⟩ = some (.int .i64 y.2.rule.iv) := fun g' => by have := hd g' 6 _ rfl; rwa [← Nat.add_assoc] at this
    have X7 : ∀ g' : Gr g.val, g'.val.cell? ⟨bb0, off0 + i * 17 + 7, none⟩ = some (.int .i64 x.2.rule.count) := fun g' => by have := hc g' 7 _ rfl; rwa [← Nat.add_assoc] at this
    have Y7 : ∀ g' : Gr g.val, g'.val.cell? ⟨bb1, off1 + i * 17 + 7, none⟩ = some (.int .i64 y.2.rule.count) := fun g' => by have := hd g' 7 _ rfl; rwa [← Nat.add_assoc] at this
    have X8 : ∀ g' : Gr g.val, g'.val.cell? ⟨bb0, off0 + i * 17 + 8, none⟩ = some (.int .i64 x.2.rule.until_) := fun g' => by have := hc g' 8 _ rfl; rwa [← Nat.add_assoc] at this
    have Y8 : ∀ g' : Gr g.val, g'.val.cell? ⟨bb1, off1 + i * 17 + 8, none⟩ = some (.int .i64 y.2.rule.until_) := fun g' => by have := hd g' 8 _ rfl; rwa [← Nat.add_assoc] at this
    have X9 : ∀ g' : Gr g.val, g'.val.cell? ⟨bb0, off0 + i * 17 + 9, none⟩ = some (.slice px.A1 x.2.rule.bm.length px.c1) := fun g' => by have := hc g' 9 _ rfl; rwa [← Nat.add_assoc] at this
    have Y9 : ∀ g' : Gr g.val, g'.val.cell? ⟨bb1, off1 + i * 17 + 9, none⟩ = some (.slice py.A1 y.2.rule.bm.length py.c1) := fun g' => by have := hd g' 9 _ rfl; rwa [← Nat.add_assoc] at this
    have X10 : ∀ g' : Gr g.val, g'.val.cell? ⟨bb0, off0 + i * 17 + 10, none⟩ = some (.slice px.A2 x.2.rule.bd.length px.c2) := fun g' => by have := hc g' 10 _ rfl; rwa [← Nat.add_assoc] at this
    have Y10 : ∀ g' : Gr g.val, g'.val.cell? ⟨bb1, off1 + i * 17 + 10, none⟩ = some (.slice py.A2 y.2.rule.bd.length py.c2) := fun g' => by have := hd g' 10 _ rfl; rwa [← Nat.add_assoc] at this
    have X11 : ∀ g' : Gr g.val, g'.val.cell? ⟨bb0, off0 + i * 17 + 11, none⟩ = some (.slice px.A3 x.2.rule.bw.length px.c3) := fun g' => by have := hc g' 11 _ rfl; rwa [← Nat.add_assoc] at this
    have Y11 : ∀ g' : Gr g.val, g'.val.cell? ⟨bb1, off1 + i * 17 + 11, none⟩ = some (.slice py.A3 y.2.rule.bw.length py.c3) := fun g' => by have := hd g' 11 _ rfl; rwa [← Nat.add_assoc] at this
    have X12 : ∀ g' : Gr g.val, g'.val.cell? ⟨bb0, off0 + i * 17 + 12, none⟩ = some (.slice px.A4 x.2.rule.bs.length px.c4) := fun g' => by have := hc g' 12 _ rfl; rwa [← Nat.add_assoc] at this
    have Y12 : ∀ g' : Gr g.val, g'.val.cell? ⟨bb1, off1 + i * 17 + 12, none⟩ = some (.slice py.A4 y.2.rule.bs.length py.c4) := fun g' => by have := hd g' 12 _ rfl; rwa [← Nat.add_assoc] at this
    have X13 : ∀ g' : Gr g.val, g'.val.cell? ⟨bb0, off0 + i * 17 + 13, none⟩ = some (.int .i64 x.2.rule.start) := fun g' => by have := hc g' 13 _ rfl; rwa [← Nat.add_assoc] at this
    have Y13 : ∀ g' : Gr g.val, g'.val.cell? ⟨bb1, off1 + i * 17 + 13, none⟩ = some (.int .i64 y.2.rule.start) := fun g' => by have := hd g' 13 _ rfl; rwa [← Nat.add_assoc] at this
    have X14 : ∀ g' : Gr g.val, g'.val.cell? ⟨bb0, off0 + i * 17 + 14, none⟩ = some (.slice px.A5 x.2.ex.length px.c5) := fun g' => by have := hc g' 14 _ rfl; rwa [← Nat.add_assoc] at this
    have Y14 : ∀ g' : Gr g.val, g'.val.cell? ⟨bb1, off1 + i * 17 + 14, none⟩ = some (.slice py.A5 y.2.ex.length py.c5) := fun g' => by have := hd g' 14 _ rfl; rwa [← Nat.add_assoc] at this
    have X15 : ∀ g' : Gr g.val, g'.val.cell? ⟨bb0, off0 + i * 17 + 15, none⟩ = some (.slice px.A6 x.2.plus.length px.c6) := fun g' => by have := hc g' 15 _ rfl; rwa [← Nat.add_assoc] at this
    have Y15 : ∀ g' : Gr g.val, g'.val.cell? ⟨bb1, off1 + i * 17 + 15, none⟩ = some (.slice py.A6 y.2.plus.length py.c6) := fun g' => by have := hd g' 15 _ rfl; rwa [← Nat.add_assoc] at this
    have X16 : ∀ g' : Gr g.val, g'.val.cell? ⟨bb0, off0 + i * 17 + 16, none⟩ = some (.slice px.A7 x.2.ch.length px.c7) := fun g' => by have := hc g' 16 _ rfl; rwa [← Nat.add_assoc] at this
    have Y16 : ∀ g' : Gr g.val, g'.val.cell? ⟨bb1, off1 + i * 17 + 16, none⟩ = some (.slice py.A7 y.2.ch.length py.c7) := fun g' => by have := hd g' 16 _ rfl; rwa [← Nat.add_assoc] at this
    obtain ⟨s, hs⟩ : ∃ s : Bool, s = true ↔ x.2 = y.2 := by classical exact ⟨decide (x.2 = y.2), by simp⟩
    have HCa : Hid (∀ g' : Gr g.val, Calls Tryz.prog 41 #[.agg (eCells (x.2) px).toArray, .agg (eCells (y.2) py).toArray] g'.val fun e w' => e = .returned (.bool s) ∧ Below g'.val.heap.size g'.val w') := fun g' => (rSameEvent_any (x.2) (y.2) px py g'.val (EvAt.below hx1 g'.ok) (EvAt.below hy1 g'.ok)).mono fun e w' ⟨r', h1, h2, h3⟩ => ⟨by rw [h1, show r' = s from Bool.eq_iff_iff.2 (h2.trans hs.symm)], h3⟩
    unfold eCells at HCa
    simp only [List.cons_append, List.nil_append, List.toArray] at HCa
    clear hc hd hx1 hy1
    have HSs := Lib.hid hs
    clear hs
    by_cases h0 : x.1 = y.1
    rotate_left
    ·have eb0 : ((x.1 : Int) != (y.1 : Int)) = true := by simp; omega
     have ec0 : ¬ ((x.1 : Int) = (y.1 : Int)) := by omega
     have ed0 : (x.1 == y.1) = false := by simpa using h0
     as_aux_lemma =>
     have E : Hid (r = false) := Bool.eq_false_iff.2 fun k => HN.out (fun h => h0 (congrArg Prod.fst h)) (HR.out.1 k).2.2.2.2
     clear HN HT HI
     go_wp2_with fail
     refine Gr.region (w0 := g.val) (by kernel_rfl) (by kernel_rfl) (Gr.draw0 _) ?_
     repeat (go_big_quiet_step (fail))
     refine wpQuiet_nil ?_
     rintro _ ⟨g2, rfl⟩
     obtain ⟨g3, hg3⟩ := g.on g2.ok
     rw [hg3]
     clear FA FB X0 Y0 X1 Y1 X2 Y2 X3 Y3 X4 Y4 X5 Y5 X6 Y6 X7 Y7 X8 Y8 X9 Y9 X10 Y10 X11 Y11 X12 Y12 X13 Y13 X14 Y14 X15 Y15 X16 Y16 HCa
     go_wp2_with fail
     go_ret
     exact ⟨ret_bool E.out.symm, HG.out g3⟩
    have eb0 : ((x.1 : Int) != (y.1 : Int)) = false := by simp; omega
    have H0 := Lib.hid h0
    clear h0
    cases s with
    | false =>
     as_aux_lemma =>
     have E : Hid (r = false) := Bool.eq_false_iff.2 fun k => HN.out (fun h => by have := HSs.out.2 (congrArg Prod.snd h); cases this) (HR.out.1 k).2.2.2.2
     clear HN HT HI
     go_wp2_with fail
     refine Gr.region (w0 := g.val) (by kernel_rfl) (by kernel_rfl) (Gr.draw0 _) ?_
     repeat (go_big_quiet_step (fail))
     go_big_quiet_step ((go_at_call 41; exact Gr.calls _ (HCa.out _)))
     repeat (go_big_quiet_step (fail))
     refine wpQuiet_nil ?_
     rintro _ ⟨g2, rfl⟩
     obtain ⟨g3, hg3⟩ := g.on g2.ok
     rw [hg3]
     clear FA FB X0 Y0 X1 Y1 X2 Y2 X3 Y3 X4 Y4 X5 Y5 X6 Y6 X7 Y7 X8 Y8 X9 Y9 X10 Y10 X11 Y11 X12 Y12 X13 Y13 X14 Y14 X15 Y15 X16 Y16 HCa
     go_wp2_with fail
     go_ret
     exact ⟨ret_bool E.out.symm, HG.out g3⟩
    | true =>
     as_aux_lemma =>
     have HI2 := Lib.hid (HT.out (Prod.ext H0.out (HSs.out.1 rfl)))
     clear HN HT HI
     go_wp2_with fail
     refine Gr.region (w0 := g.val) (by kernel_rfl) (by kernel_rfl) (Gr.draw0 _) ?_
     repeat (go_big_quiet_step (fail))
     go_big_quiet_step ((go_at_call 41; exact Gr.calls _ (HCa.out _)))
     repeat (go_big_quiet_step (fail))
     refine wpQuiet_nil ?_
     rintro _ ⟨g2, rfl⟩
     obtain ⟨g3, hg3⟩ := g.on g2.ok
     rw [hg3]
     clear FA FB X0 Y0 X1 Y1 X2 Y2 X3 Y3 X4 Y4 X5 Y5 X6 Y6 X7 Y7 X8 Y8 X9 Y9 X10 Y10 X11 Y11 X12 Y12 X13 Y13 X14 Y14 X15 Y15 X16 Y16 HCa
     go_wp2_with fail
     go_roundw
     case rel => exact ⟨i + 1, g3, rfl, hlt, by go_num, HI2.out⟩
     case measure => simp [intOf]; omega
   ·obtain rfl : i = l0.length := by omega
    have HC4 : Hid (l0 = l1) := by have := HI.out; rw [List.take_length, HL3.out, List.take_length] at this; exact this
    clear HI
    have E : Hid (r = true) := HR.out.2 ⟨(by first | rfl | trivial), (by first | rfl | trivial), HC2.out, HL3.out, HC4.out⟩
    go_wp2_with fail
    go_ret
    exact ⟨ret_bool E.out.symm, HG.out g⟩
theorem Sta.same_iff (k0 : Int) (u0 : List Us) (o0 : List Pl) (d0 : List (Nat × Nat × Nat)) (k1 : Int) (u1 : List Us) (o1 : List Pl) (d1 : List (Nat × Nat × Nat)) :
  (⟨k0, u0, o0, d0⟩ : Sta) = ⟨k1, u1, o1, d1⟩ ↔ k0 = k1 ∧ u0.length = u1.length ∧ o0.length = o1.length ∧ d0.length = d1.length ∧ u0 = u1 ∧ o0 = o1 ∧ d0 = d1 := by
 constructor
 ·intro h; injection h with h1 h2 h3 h4; subst h2 h3 h4; exact ⟨h1, rfl, rfl, rfl, rfl, rfl, rfl⟩
 ·rintro ⟨rfl, _, _, _, rfl, rfl, rfl⟩; rfl
set_option maxRecDepth 100000 in
set_option maxHeartbeats 4000000 in
theorem rSameState_any (a b : Sta) (p q : StaP) (w : World) (ha : StaAt w a p) (hb : StaAt w b q) :
  Calls Tryz.prog 20 #[.agg (staCells a p).toArray, .agg (staCells b q).toArray] w fun e w' => ∃ r, e = .returned (.bool r) ∧ (r = true ↔ a = b) ∧ Below w.heap.size w w' := by
 obtain ⟨r, hr⟩ : ∃ r : Bool, r = true ↔ a = b := by classical exact ⟨decide (a = b), by simp⟩
 suffices h : Calls Tryz.prog 20 #[.agg (staCells a p).toArray, .agg (staCells b q).toArray] w fun e w' => e = .returned (.bool r) ∧ Below w.heap.size w w' from h.mono fun e w' h => ⟨r, h.1, hr, h.2⟩
 obtain ⟨k0, u0, o0, d0⟩ := a
 obtain ⟨k1, u1, o1, d1⟩ := b
 obtain ⟨A1, e1, ua, A2, e2, pa, A3, e3⟩ := p
 obtain ⟨B1, f1, ub, B2, f2, pb, B3, f3⟩ := q
 rw [Sta.same_iff] at hr
 obtain ⟨ha1, ha2, ha3⟩ := ha
 obtain ⟨hb1, hb2, hb3⟩ := hb
 unfold staCells
 simp only [List.toArray] at *
 have hl1 := len_le16 ha1.s
 have hl2 := len_le16 ha2.s
 have hl3 := len_le16 ha3
 have HUa : Hid (∀ wr, Below w.heap.size w wr → RowsAt usC UsAt wr A1 e1 u0 ua) := fun wr hb' => ha1.below (fun _ _ _ _ h hb => UsAt.below h hb) hb'
 have HUb : Hid (∀ wr, Below w.heap.size w wr → RowsAt usC UsAt wr B1 f1 u1 ub) := fun wr hb' => hb1.below (fun _ _ _ _ h hb => UsAt.below h hb) hb'
 have HPa : Hid (∀ wr, Below w.heap.size w wr → RowsAt plC PlAt wr A2 e2 o0 pa) := fun wr hb' => ha2.below (fun _ _ _ _ h hb => PlAt.below h hb) hb'
 have HPb : Hid (∀ wr, Below w.heap.size w wr → RowsAt plC PlAt wr B2 f2 o1 pb) := fun wr hb' => hb2.below (fun _ _ _ _ h hb => PlAt.below h hb) hb'
 have HDa : Hid (∀ wr, Below w.heap.size w wr → Sl wr A3 d0.length e3 (kv u4 d0)) := fun wr hb' => ha3.below hb' (Nat.le_refl _)
 have HDb : Hid (∀ wr, Below w.heap.size w wr → Sl wr B3 d1.length f3 (kv u4 d1)) := fun wr hb' => hb3.below hb' (Nat.le_refl _)
 clear ha1 ha2 ha3 hb1 hb2 hb3
 obtain ⟨W, hW⟩ : ∃ W, (w.alloc (.cells #[.int .i64 k0, .slice A1 u0.length e1, .slice A2 o0.length e2, .slice A3 d0.length e3] 73)).alloc (.cells #[.int .i64 k1, .slice B1 u1.length f1, .slice B2 o1.length f2, .slice B3 d1.length f3] 73) = W := ⟨_, rfl⟩
 have hBW : Below w.heap.size w W := by rw [← hW]; exact ((Below.refl _ w).alloc (Nat.le_refl _) _).alloc (by simp) _
 have HG : Hid (∀ g : Gr W, Below w.heap.size w g.val) := fun g => hBW.trans (g.ok.mono hBW.size)
 have HA : Hid (∀ (g : Gr W) (k : Nat) (v : Value), (#[.int .i64 k0, .slice A1 u0.length e1, .slice A2 o0.length e2, .slice A3 d0.length e3] : Array Value)[k]? = some v → g.val.cell? ⟨w.heap.size, k, none⟩ = some v) := fun g k v hv => cell_old (by rw [← hW]; exact blk_cell (cs := #[.int .i64 k0, .slice A1 u0.length e1, .slice A2 o0.length e2, .slice A3 d0.length e3]) (t := 73) (by rw [heap_alloc_old _ _ (by simp)]; exact heap_alloc_new _ _) hv) g.ok
 have HB : Hid (∀ (g : Gr W) (k : Nat) (v : Value), (#[.int .i64 k1, .slice B1 u1.length f1, .slice B2 o1.length f2, .slice B3 d1.length f3] : Array Value)[k]? = some v → g.val.cell? ⟨w.heap.size + 1, k, none⟩ = some v) := fun g k v hv => cell_old (by rw [← hW]; exact blk_cell (cs := #[.int .i64 k1, .slice B1 u1.length f1, .slice B2 o1.length f2, .slice B3 d1.length f3]) (t := 73) (heap_alloc_new2 _ _ _) hv) g.ok
 have E1 := Lib.hid hW
 clear hW hBW
 have HR := Lib.hid hr
 clear hr
 have fa0 := HA.out ⟨W, Below.refl _ _⟩ 0 (.int .i64 k0) rfl
 have fb0 := HB.out ⟨W, Below.refl _ _⟩ 0 (.int .i64 k1) rfl
 have fa1 := HA.out ⟨W, Below.refl _ _⟩ 1 (.slice A1 u0.length e1) rfl
 have fb1 := HB.out ⟨W, Below.refl _ _⟩ 1 (.slice B1 u1.length f1) rfl
 have fa2 := HA.out ⟨W, Below.refl _ _⟩ 2 (.slice A2 o0.length e2) rfl
 have fb2 := HB.out ⟨W, Below.refl _ _⟩ 2 (.slice B2 o1.length f2) rfl
 have fa3 := HA.out ⟨W, Below.refl _ _⟩ 3 (.slice A3 d0.length e3) rfl
 have fb3 := HB.out ⟨W, Below.refl _ _⟩ 3 (.slice B3 d1.length f3) rfl
 try simp only at fa0 fb0 fa1 fb1 fa2 fb2 fa3 fb3
 by_cases h0 : k0 = k1
 rotate_left
 ·have eb0 : (k0 != k1) = true := by simpa using h0
  have ec0 : (k0 == k1) = false := by simpa using h0
  have E : Hid (r = false) := Bool.eq_false_iff.2 fun k => h0 (HR.out.1 k).1
  go_enter Tryz.func20, Tryz.ntmps20
  go_upto_region 1 with fail
  rw [E1.out]
  go_wp2_with fail
  go_ret
  exact ⟨ret_bool E.out.symm, HG.out ⟨W, Below.refl _ _⟩⟩
 subst h0
 by_cases h1 : u0.length = u1.length
 rotate_left
 ·have eb1 : ((u0.length : Int) != (u1.length : Int)) = true := by simp; omega
  have E : Hid (r = false) := Bool.eq_false_iff.2 fun k => h1 (HR.out.1 k).2.1
  go_enter Tryz.func20, Tryz.ntmps20
  go_upto_region 1 with fail
  rw [E1.out]
  go_wp2_with fail
  go_ret
  exact ⟨ret_bool E.out.symm, HG.out ⟨W, Below.refl _ _⟩⟩
 have eb1 : ((u0.length : Int) != (u1.length : Int)) = false := by simp; omega
 have HL1 := Lib.hid h1
 clear h1
 by_cases h2 : o0.length = o1.length
 rotate_left
 ·have eb2 : ((o0.length : Int) != (o1.length : Int)) = true := by simp; omega
  have E : Hid (r = false) := Bool.eq_false_iff.2 fun k => h2 (HR.out.1 k).2.2.1
  go_enter Tryz.func20, Tryz.ntmps20
  go_upto_region 1 with fail
  rw [E1.out]
  go_wp2_with fail
  go_ret
  exact ⟨ret_bool E.out.symm, HG.out ⟨W, Below.refl _ _⟩⟩
 have eb2 : ((o0.length : Int) != (o1.length : Int)) = false := by simp; omega
 have HL2 := Lib.hid h2
 clear h2
 by_cases h3 : d0.length = d1.length
 rotate_left
 ·have eb3 : ((d0.length : Int) != (d1.length : Int)) = true := by simp; omega
  have E : Hid (r = false) := Bool.eq_false_iff.2 fun k => h3 (HR.out.1 k).2.2.2.1
  go_enter Tryz.func20, Tryz.ntmps20
  go_upto_region 1 with fail
  rw [E1.out]
  go_wp2_with fail
  go_ret
  exact ⟨ret_bool E.out.symm, HG.out ⟨W, Below.refl _ _⟩⟩
 have eb3 : ((d0.length : Int) != (d1.length : Int)) = false := by simp; omega
 have HL3 := Lib.hid h3
 clear h3
 go_enter Tryz.func20, Tryz.ntmps20
 go_upto_region 1 with fail
 rw [E1.out]
 go_wp2_with fail
 clear fa0 fb0 fa1 fb1 fa2 fb2 fa3 fb3
 go_loopw [43] (fun s wr => ∃ (i : Nat) (g : Gr W), wr = g.val ∧ i ≤ u0.length ∧ s = .int .i64 i ∧ Hid (u0.take i = u1.take i)) (fun s _ => u0.length - (intOf s).toNat)
 case atStart => exact ⟨0, ⟨W, Below.refl _ _⟩, rfl, Nat.zero_le _, rfl, rfl⟩
 case round =>
  obtain ⟨i, g, rfl, hi, rfl, HI⟩ := hrel
  by_cases hlt : i < u0.length
  ·have hltb : i < u1.length := by rw [← HL1.out]; exact hlt
   have hiz : (i : Int) < u0.length := by omega
   have hib : (i : Int) < u1.length := by omega
   obtain ⟨x, hx⟩ : ∃ x, u0[i]? = some x := ⟨_, List.getElem?_eq_getElem hlt⟩
   obtain ⟨y, hy⟩ : ∃ y, u1[i]? = some y := ⟨_, List.getElem?_eq_getElem hltb⟩
   have HN : Hid (x ≠ y → ¬ (u0 = u1)) := fun h k => h (Option.some.inj (hx.symm.trans ((congrArg (fun l => l[i]?) k).trans hy)))
   have HT : Hid (x = y → u0.take (i + 1) = u1.take (i + 1)) := fun h => by rw [List.take_add_one, List.take_add_one, HI.out, hx, hy, h]
   have fa1 := HA.out g 1 (.slice A1 u0.length e1) rfl
   have fb1 := HB.out g 1 (.slice B1 u1.length f1) rfl
   try simp only at fa1 fb1
   obtain ⟨px, bb0, off0, _, hA0, _, hx1, hc⟩ := (HUa.out g.val (HG.out g)).at usC_len (by decide) hx
   obtain ⟨py, bb1, off1, _, hB0, _, hy1, hd⟩ := (HUb.out g.val (HG.out g)).at usC_len (by decide) hy
   rw [hA0] at fa1
   rw [hB0] at fb1
   have FA := fun g' : Gr g.val => cell_old fa1 g'.ok
   have FB := fun g' : Gr g.val => cell_old fb1 g'.ok
   clear hx hy hA0 hB0 fa1 fb1
   have X0 : ∀ g' : Gr g.val, g'.val.cell? ⟨bb0, off0 + i * 9, none⟩ = some (.int .u32 (x.id : Int)) := fun g' => hc g' 0 _ rfl
   have Y0 : ∀ g' : Gr g.val, g'.val.cell? ⟨bb1, off1 + i * 9, none⟩ = some (.int .u32 (y.id : Int)) := fun g' => hd g' 0 _ rfl
   have X1 : ∀ g' : Gr g.val, g'.val.cell? ⟨bb0, off0 + i * 9 + 1, none⟩ = some (.int .i64 x.settings.base) := fun g' => by have := hc g' 1 _ rfl; rwa [← Nat.add_assoc] at this
   have Y1 : ∀ g' : Gr g.val, g'.val.cell? ⟨bb1, off1 + i * 9 + 1, none⟩ = some (.int .i64 y.settings.base) := fun g' => by have := hd g' 1 _ rfl; rwa [← Nat.add_assoc] at this
   have X2 : ∀ g' : Gr g.val, g'.val.cell? ⟨bb0, off0 + i * 9 + 2, none⟩ = some (.slice px.s.A1 x.settings.turns.length px.s.c1) := fun g' => by have := hc g' 2 _ rfl; rwa [← Nat.add_assoc] at this
   have Y2 : ∀ g' : Gr g.val, g'.val.cell? ⟨bb1, off1 + i * 9 + 2, none⟩ = some (.slice py.s.A1 y.settings.turns.length py.s.c1) := fun g' => by have := hd g' 2 _ rfl; rwa [← Nat.add_assoc] at this
   have X3 : ∀ g' : Gr g.val, g'.val.cell? ⟨bb0, off0 + i * 9 + 3, none⟩ = some (.slice px.s.A2 x.settings.shifts.length px.s.c2) := fun g' => by have := hc g' 3 _ rfl; rwa [← Nat.add_assoc] at this
   have Y3 : ∀ g' : Gr g.val, g'.val.cell? ⟨bb1, off1 + i * 9 + 3, none⟩ = some (.slice py.s.A2 y.settings.shifts.length py.s.c2) := fun g' => by have := hd g' 3 _ rfl; rwa [← Nat.add_assoc] at this
   have X4 : ∀ g' : Gr g.val, g'.val.cell? ⟨bb0, off0 + i * 9 + 4, none⟩ = some (.slice px.s.A3 x.settings.off.length px.s.c3) := fun g' => by have := hc g' 4 _ rfl; rwa [← Nat.add_assoc] at this
   have Y4 : ∀ g' : Gr g.val, g'.val.cell? ⟨bb1, off1 + i * 9 + 4, none⟩ = some (.slice py.s.A3 y.settings.off.length py.s.c3) := fun g' => by have := hd g' 4 _ rfl; rwa [← Nat.add_assoc] at this
   have X5 : ∀ g' : Gr g.val, g'.val.cell? ⟨bb0, off0 + i * 9 + 5, none⟩ = some (.int .i64 x.settings.before) := fun g' => by have := hc g' 5 _ rfl; rwa [← Nat.add_assoc] at this
   have Y5 : ∀ g' : Gr g.val, g'.val.cell? ⟨bb1, off1 + i * 9 + 5, none⟩ = some (.int .i64 y.settings.before) := fun g' => by have := hd g' 5 _ rfl; rwa [← Nat.add_assoc] at this
   have X6 : ∀ g' : Gr g.val, g'.val.cell? ⟨bb0, off0 + i * 9 + 6, none⟩ = some (.int .i64 x.settings.after) := fun g' => by have := hc g' 6 _ rfl; rwa [← Nat.add_assoc] at this
   have Y6 : ∀ g' : Gr g.val, g'.val.cell? ⟨bb1, off1 + i * 9 + 6, none⟩ = some (.int .i64 y.settings.after) := fun g' => by have := hd g' 6 _ rfl; rwa [← Nat.add_assoc] at this
   have X7 : ∀ g' : Gr g.val, g'.val.cell? ⟨bb0, off0 + i * 9 + 7, none⟩ = some (.int .u64 (x.version : Int)) := fun g' => by have := hc g' 7 _ rfl; rwa [← Nat.add_assoc] at this
   have Y7 : ∀ g' : Gr g.val, g'.val.cell? ⟨bb1, off1 + i * 9 + 7, none⟩ = some (.int .u64 (y.version : Int)) := fun g' => by have := hd g' 7 _ rfl; rwa [← Nat.add_assoc] at this
   have X8 : ∀ g' : Gr g.val, g'.val.cell? ⟨bb0, off0 + i * 9 + 8, none⟩ = some (.slice px.A1 x.events.length px.c1) := fun g' => by have := hc g' 8 _ rfl; rwa [← Nat.add_assoc] at this
   have Y8 : ∀ g' : Gr g.val, g'.val.cell? ⟨bb1, off1 + i * 9 + 8, none⟩ = some (.slice py.A1 y.events.length py.c1) := fun g' => by have := hd g' 8 _ rfl; rwa [← Nat.add_assoc] at this
   obtain ⟨s, hs⟩ : ∃ s : Bool, s = true ↔ x = y := by classical exact ⟨decide (x = y), by simp⟩
   have HCa : Hid (∀ g' : Gr g.val, Calls Tryz.prog 54 #[.agg (uCells (x) px).toArray, .agg (uCells (y) py).toArray] g'.val fun e w' => e = .returned (.bool s) ∧ Below g'.val.heap.size g'.val w') := fun g' => (rSameUser_any (x) (y) px py g'.val (UsAt.below hx1 g'.ok) (UsAt.below hy1 g'.ok)).mono fun e w' ⟨r', h1, h2, h3⟩ => ⟨by rw [h1, show r' = s from Bool.eq_iff_iff.2 (h2.trans hs.symm)], h3⟩
   unfold uCells sCells at HCa
   simp only [List.cons_append, List.nil_append, List.toArray] at HCa
   clear hc hd hx1 hy1
   have HSs := Lib.hid hs
   clear hs
   cases s with
   | false =>
    as_aux_lemma =>
    have E : Hid (r = false) := Bool.eq_false_iff.2 fun k => HN.out (fun h => by have := HSs.out.2 h; cases this) (HR.out.1 k).2.2.2.2.1
    clear HN HT HI
    go_wp2_with fail
    refine Gr.region (w0 := g.val) (by kernel_rfl) (by kernel_rfl) (Gr.draw0 _) ?_
    repeat (go_big_quiet_step (fail))
    go_big_quiet_step ((go_at_call 54; exact Gr.calls _ (HCa.out _)))
    repeat (go_big_quiet_step (fail))
    refine wpQuiet_nil ?_
    rintro _ ⟨g2, rfl⟩
    obtain ⟨g3, hg3⟩ := g.on g2.ok
    rw [hg3]
    clear FA FB X0 Y0 X1 Y1 X2 Y2 X3 Y3 X4 Y4 X5 Y5 X6 Y6 X7 Y7 X8 Y8 HCa
    go_wp2_with fail
    go_ret
    exact ⟨ret_bool E.out.symm, HG.out g3⟩
   | true =>
    as_aux_lemma =>
    have HI2 := Lib.hid (HT.out (HSs.out.1 rfl))
    clear HN HT HI
    go_wp2_with fail
    refine Gr.region (w0 := g.val) (by kernel_rfl) (by kernel_rfl) (Gr.draw0 _) ?_
    repeat (go_big_quiet_step (fail))
    go_big_quiet_step ((go_at_call 54; exact Gr.calls _ (HCa.out _)))
    repeat (go_big_quiet_step (fail))
    refine wpQuiet_nil ?_
    rintro _ ⟨g2, rfl⟩
    obtain ⟨g3, hg3⟩ := g.on g2.ok
    rw [hg3]
    clear FA FB X0 Y0 X1 Y1 X2 Y2 X3 Y3 X4 Y4 X5 Y5 X6 Y6 X7 Y7 X8 Y8 HCa
    go_wp2_with fail
    go_roundw
    case rel => exact ⟨i + 1, g3, rfl, hlt, by go_num, HI2.out⟩
    case measure => simp [intOf]; omega
  ·obtain rfl : i = u0.length := by omega
   have HC4 : Hid (u0 = u1) := by have := HI.out; rw [List.take_length, HL1.out, List.take_length] at this; exact this
   clear HI
   have fa2 := HA.out g 2 (.slice A2 o0.length e2) rfl
   have fb2 := HB.out g 2 (.slice B2 o1.length f2) rfl
   try simp only at fa2 fb2
   go_wp2_with fail
   clear fa2 fb2
   go_loopw [62] (fun s wr => ∃ (i : Nat) (g : Gr W), wr = g.val ∧ i ≤ o0.length ∧ s = .int .i64 i ∧ Hid (o0.take i = o1.take i)) (fun s _ => o0.length - (intOf s).toNat)
   case atStart => exact ⟨0, g, rfl, Nat.zero_le _, rfl, rfl⟩
   case round =>
    obtain ⟨i, g, rfl, hi, rfl, HI⟩ := hrel
    by_cases hlt : i < o0.length
    ·have hltb : i < o1.length := by rw [← HL2.out]; exact hlt
     have hiz : (i : Int) < o0.length := by omega
     have hib : (i : Int) < o1.length := by omega
     obtain ⟨x, hx⟩ : ∃ x, o0[i]? = some x := ⟨_, List.getElem?_eq_getElem hlt⟩
     obtain ⟨y, hy⟩ : ∃ y, o1[i]? = some y := ⟨_, List.getElem?_eq_getElem hltb⟩
     have HN : Hid (x ≠ y → ¬ (o0 = o1)) := fun h k => h (Option.some.inj (hx.symm.trans ((congrArg (fun l => l[i]?) k).trans hy)))
     have HT : Hid (x = y → o0.take (i + 1) = o1.take (i + 1)) := fun h => by rw [List.take_add_one, List.take_add_one, HI.out, hx, hy, h]
     have fa2 := HA.out g 2 (.slice A2 o0.length e2) rfl
     have fb2 := HB.out g 2 (.slice B2 o1.length f2) rfl
     try simp only at fa2 fb2
     obtain ⟨px, bb0, off0, _, hA0, _, hx1, hc⟩ := (HPa.out g.val (HG.out g)).at plC_len (by decide) hx
     obtain ⟨py, bb1, off1, _, hB0, _, hy1, hd⟩ := (HPb.out g.val (HG.out g)).at plC_len (by decide) hy
     rw [hA0] at fa2
     rw [hB0] at fb2
     have FA := fun g' : Gr g.val => cell_old fa2 g'.ok
     have FB := fun g' : Gr g.val => cell_old fb2 g'.ok
     clear hx hy hA0 hB0 fa2 fb2
     have X0 : ∀ g' : Gr g.val, g'.val.cell? ⟨bb0, off0 + i * 16, none⟩ = some (.int .u32 (x.id : Int)) := fun g' => hc g' 0 _ rfl
     have Y0 : ∀ g' : Gr g.val, g'.val.cell? ⟨bb1, off1 + i * 16, none⟩ = some (.int .u32 (y.id : Int)) := fun g' => hd g' 0 _ rfl
     have X1 : ∀ g' : Gr g.val, g'.val.cell? ⟨bb0, off0 + i * 16 + 1, none⟩ = some (.int .u32 (x.owner : Int)) := fun g' => by have := hc g' 1 _ rfl; rwa [← Nat.add_assoc] at this
     have Y1 : ∀ g' : Gr g.val, g'.val.cell? ⟨bb1, off1 + i * 16 + 1, none⟩ = some (.int .u32 (y.owner : Int)) := fun g' => by have := hd g' 1 _ rfl; rwa [← Nat.add_assoc] at this
     have X2 : ∀ g' : Gr g.val, g'.val.cell? ⟨bb0, off0 + i * 16 + 2, none⟩ = some (.int .i64 x.query.win.1) := fun g' => by have := hc g' 2 _ rfl; rwa [← Nat.add_assoc] at this
     have Y2 : ∀ g' : Gr g.val, g'.val.cell? ⟨bb1, off1 + i * 16 + 2, none⟩ = some (.int .i64 y.query.win.1) := fun g' => by have := hd g' 2 _ rfl; rwa [← Nat.add_assoc] at this
     have X3 : ∀ g' : Gr g.val, g'.val.cell? ⟨bb0, off0 + i * 16 + 3, none⟩ = some (.int .i64 x.query.win.2) := fun g' => by have := hc g' 3 _ rfl; rwa [← Nat.add_assoc] at this
     have Y3 : ∀ g' : Gr g.val, g'.val.cell? ⟨bb1, off1 + i * 16 + 3, none⟩ = some (.int .i64 y.query.win.2) := fun g' => by have := hd g' 3 _ rfl; rwa [← Nat.add_assoc] at this
     have X4 : ∀ g' : Gr g.val, g'.val.cell? ⟨bb0, off0 + i * 16 + 4, none⟩ = some (.int .i64 x.query.long) := fun g' => by have := hc g' 4 _ rfl; rwa [← Nat.add_assoc] at this
     have Y4 : ∀ g' : Gr g.val, g'.val.cell? ⟨bb1, off1 + i * 16 + 4, none⟩ = some (.int .i64 y.query.long) := fun g' => by have := hd g' 4 _ rfl; rwa [← Nat.add_assoc] at this
     have X5 : ∀ g' : Gr g.val, g'.val.cell? ⟨bb0, off0 + i * 16 + 5, none⟩ = some (.int .i64 x.query.grid) := fun g' => by have := hc g' 5 _ rfl; rwa [← Nat.add_assoc] at this
     have Y5 : ∀ g' : Gr g.val, g'.val.cell? ⟨bb1, off1 + i * 16 + 5, none⟩ = some (.int .i64 y.query.grid) := fun g' => by have := hd g' 5 _ rfl; rwa [← Nat.add_assoc] at this
     have X6 : ∀ g' : Gr g.val, g'.val.cell? ⟨bb0, off0 + i * 16 + 6, none⟩ = some (.slice px.q.A1 x.query.must.length px.q.c1) := fun g' => by have := hc g' 6 _ rfl; rwa [← Nat.add_assoc] at this
     have Y6 : ∀ g' : Gr g.val, g'.val.cell? ⟨bb1, off1 + i * 16 + 6, none⟩ = some (.slice py.q.A1 y.query.must.length py.q.c1) := fun g' => by have := hd g' 6 _ rfl; rwa [← Nat.add_assoc] at this
     have X7 : ∀ g' : Gr g.val, g'.val.cell? ⟨bb0, off0 + i * 16 + 7, none⟩ = some (.slice px.q.A2 x.query.may.length px.q.c2) := fun g' => by have := hc g' 7 _ rfl; rwa [← Nat.add_assoc] at this
     have Y7 : ∀ g' : Gr g.val, g'.val.cell? ⟨bb1, off1 + i * 16 + 7, none⟩ = some (.slice py.q.A2 y.query.may.length py.q.c2) := fun g' => by have := hd g' 7 _ rfl; rwa [← Nat.add_assoc] at this
     have X8 : ∀ g' : Gr g.val, g'.val.cell? ⟨bb0, off0 + i * 16 + 8, none⟩ = some (.int .i64 x.query.seats) := fun g' => by have := hc g' 8 _ rfl; rwa [← Nat.add_assoc] at this
     have Y8 : ∀ g' : Gr g.val, g'.val.cell? ⟨bb1, off1 + i * 16 + 8, none⟩ = some (.int .i64 y.query.seats) := fun g' => by have := hd g' 8 _ rfl; rwa [← Nat.add_assoc] at this
     have X9 : ∀ g' : Gr g.val, g'.val.cell? ⟨bb0, off0 + i * 16 + 9, none⟩ = some (.slice px.q.A3 x.query.apart.length px.q.c3) := fun g' => by have := hc g' 9 _ rfl; rwa [← Nat.add_assoc] at this
     have Y9 : ∀ g' : Gr g.val, g'.val.cell? ⟨bb1, off1 + i * 16 + 9, none⟩ = some (.slice py.q.A3 y.query.apart.length py.q.c3) := fun g' => by have := hd g' 9 _ rfl; rwa [← Nat.add_assoc] at this
     have X10 : ∀ g' : Gr g.val, g'.val.cell? ⟨bb0, off0 + i * 16 + 10, none⟩ = some (.slice px.q.A4 x.query.prefer.length px.q.c4) := fun g' => by have := hc g' 10 _ rfl; rwa [← Nat.add_assoc] at this
     have Y10 : ∀ g' : Gr g.val, g'.val.cell? ⟨bb1, off1 + i * 16 + 10, none⟩ = some (.slice py.q.A4 y.query.prefer.length py.q.c4) := fun g' => by have := hd g' 10 _ rfl; rwa [← Nat.add_assoc] at this
     have X11 : ∀ g' : Gr g.val, g'.val.cell? ⟨bb0, off0 + i * 16 + 11, none⟩ = some (.slice px.A1 x.slots.length px.c1) := fun g' => by have := hc g' 11 _ rfl; rwa [← Nat.add_assoc] at this
     have Y11 : ∀ g' : Gr g.val, g'.val.cell? ⟨bb1, off1 + i * 16 + 11, none⟩ = some (.slice py.A1 y.slots.length py.c1) := fun g' => by have := hd g' 11 _ rfl; rwa [← Nat.add_assoc] at this
     have X12 : ∀ g' : Gr g.val, g'.val.cell? ⟨bb0, off0 + i * 16 + 12, none⟩ = some (.slice px.A2 x.votes.length px.c2) := fun g' => by have := hc g' 12 _ rfl; rwa [← Nat.add_assoc] at this
     have Y12 : ∀ g' : Gr g.val, g'.val.cell? ⟨bb1, off1 + i * 16 + 12, none⟩ = some (.slice py.A2 y.votes.length py.c2) := fun g' => by have := hd g' 12 _ rfl; rwa [← Nat.add_assoc] at this
     have X13 : ∀ g' : Gr g.val, g'.val.cell? ⟨bb0, off0 + i * 16 + 13, none⟩ = some (.int .i64 x.until_) := fun g' => by have := hc g' 13 _ rfl; rwa [← Nat.add_assoc] at this
     have Y13 : ∀ g' : Gr g.val, g'.val.cell? ⟨bb1, off1 + i * 16 + 13, none⟩ = some (.int .i64 y.until_) := fun g' => by have := hd g' 13 _ rfl; rwa [← Nat.add_assoc] at this
     have X14 : ∀ g' : Gr g.val, g'.val.cell? ⟨bb0, off0 + i * 16 + 14, none⟩ = some (.int .i64 x.state) := fun g' => by have := hc g' 14 _ rfl; rwa [← Nat.add_assoc] at this
     have Y14 : ∀ g' : Gr g.val, g'.val.cell? ⟨bb1, off1 + i * 16 + 14, none⟩ = some (.int .i64 y.state) := fun g' => by have := hd g' 14 _ rfl; rwa [← Nat.add_assoc] at this
     have X15 : ∀ g' : Gr g.val, g'.val.cell? ⟨bb0, off0 + i * 16 + 15, none⟩ = some (.int .i64 x.winner) := fun g' => by have := hc g' 15 _ rfl; rwa [← Nat.add_assoc] at this
     have Y15 : ∀ g' : Gr g.val, g'.val.cell? ⟨bb1, off1 + i * 16 + 15, none⟩ = some (.int .i64 y.winner) := fun g' => by have := hd g' 15 _ rfl; rwa [← Nat.add_assoc] at this
     obtain ⟨s, hs⟩ : ∃ s : Bool, s = true ↔ x = y := by classical exact ⟨decide (x = y), by simp⟩
     have HCa : Hid (∀ g' : Gr g.val, Calls Tryz.prog 32 #[.agg (pCells (x) px).toArray, .agg (pCells (y) py).toArray] g'.val fun e w' => e = .returned (.bool s) ∧ Below g'.val.heap.size g'.val w') := fun g' => (rSamePoll_any (x) (y) px py g'.val (PlAt.below hx1 g'.ok) (PlAt.below hy1 g'.ok)).mono fun e w' ⟨r', h1, h2, h3⟩ => ⟨by rw [h1, show r' = s from Bool.eq_iff_iff.2 (h2.trans hs.symm)], h3⟩
     unfold pCells qCells at HCa
     simp only [List.cons_append, List.nil_append, List.toArray] at HCa
     clear hc hd hx1 hy1
     have HSs := Lib.hid hs
     clear hs
     cases s with
     | false =>
      as_aux_lemma =>
      have E : Hid (r = false) := Bool.eq_false_iff.2 fun k => HN.out (fun h => by have := HSs.out.2 h; cases this) (HR.out.1 k).2.2.2.2.2.1
      clear HN HT HI
      go_wp2_with fail
      refine Gr.region (w0 := g.val) (by kernel_rfl) (by kernel_rfl) (Gr.draw0 _) ?_
      repeat (go_big_quiet_step (fail))
      go_big_quiet_step ((go_at_call 32; exact Gr.calls _ (HCa.out _)))
      repeat (go_big_quiet_step (fail))
      refine wpQuiet_nil ?_
      rintro _ ⟨g2, rfl⟩
      obtain ⟨g3, hg3⟩ := g.on g2.ok
      rw [hg3]
      clear FA FB X0 Y0 X1 Y1 X2 Y2 X3 Y3 X4 Y4 X5 Y5 X6 Y6 X7 Y7 X8 Y8 X9 Y9 X10 Y10 X11 Y11 X12 Y12 X13 Y13 X14 Y14 X15 Y15 HCa
      go_wp2_with fail
      go_ret
      exact ⟨ret_bool E.out.symm, HG.out g3⟩
     | true =>
      as_aux_lemma =>
      have HI2 := Lib.hid (HT.out (HSs.out.1 rfl))
      clear HN HT HI
      go_wp2_with fail
      refine Gr.region (w0 := g.val) (by kernel_rfl) (by kernel_rfl) (Gr.draw0 _) ?_
      repeat (go_big_quiet_step (fail))
      go_big_quiet_step ((go_at_call 32; exact Gr.calls _ (HCa.out _)))
      repeat (go_big_quiet_step (fail))
      refine wpQuiet_nil ?_
      rintro _ ⟨g2, rfl⟩
      obtain ⟨g3, hg3⟩ := g.on g2.ok
      rw [hg3]
      clear FA FB X0 Y0 X1 Y1 X2 Y2 X3 Y3 X4 Y4 X5 Y5 X6 Y6 X7 Y7 X8 Y8 X9 Y9 X10 Y10 X11 Y11 X12 Y12 X13 Y13 X14 Y14 X15 Y15 HCa
      go_wp2_with fail
      go_roundw
      case rel => exact ⟨i + 1, g3, rfl, hlt, by go_num, HI2.out⟩
      case measure => simp [intOf]; omega
    ·obtain rfl : i = o0.length := by omega
     have HC5 : Hid (o0 = o1) := by have := HI.out; rw [List.take_length, HL2.out, List.take_length] at this; exact this
     clear HI
     have fa3 := HA.out g 3 (.slice A3 d0.length e3) rfl
     have fb3 := HB.out g 3 (.slice B3 d1.length f3) rfl
     try simp only at fa3 fb3
     go_wp2_with fail
     clear fa3 fb3
     go_loopw [81] (fun s wr => ∃ (i : Nat) (g : Gr W), wr = g.val ∧ i ≤ d0.length ∧ s = .int .i64 i ∧ Hid (d0.take i = d1.take i)) (fun s _ => d0.length - (intOf s).toNat)
     case atStart => exact ⟨0, g, rfl, Nat.zero_le _, rfl, rfl⟩
     case round =>
      obtain ⟨i, g, rfl, hi, rfl, HI⟩ := hrel
      by_cases hlt : i < d0.length
      ·have hltb : i < d1.length := by rw [← HL3.out]; exact hlt
       have hiz : (i : Int) < d0.length := by omega
       have hib : (i : Int) < d1.length := by omega
       obtain ⟨x, hx⟩ : ∃ x, d0[i]? = some x := ⟨_, List.getElem?_eq_getElem hlt⟩
       obtain ⟨y, hy⟩ : ∃ y, d1[i]? = some y := ⟨_, List.getElem?_eq_getElem hltb⟩
       have HN : Hid (x ≠ y → ¬ (d0 = d1)) := fun h k => h (Option.some.inj (hx.symm.trans ((congrArg (fun l => l[i]?) k).trans hy)))
       have HT : Hid (x = y → d0.take (i + 1) = d1.take (i + 1)) := fun h => by rw [List.take_add_one, List.take_add_one, HI.out, hx, hy, h]
       have fa3 := HA.out g 3 (.slice A3 d0.length e3) rfl
       have fb3 := HB.out g 3 (.slice B3 d1.length f3) rfl
       try simp only at fa3 fb3
       obtain ⟨b0, off0, hA0, _, hc⟩ := (HDa.out g.val (HG.out g)).u4G hx
       obtain ⟨b1, off1, hB0, _, hd⟩ := (HDb.out g.val (HG.out g)).u4G hy
       rw [hA0] at fa3
       rw [hB0] at fb3
       clear hx hy hA0 hB0
       obtain ⟨x0, x1, x2⟩ := x
       obtain ⟨y0, y1, y2⟩ := y
       obtain ⟨c0, c1, c2⟩ := hc ⟨_, Below.refl _ _⟩
       obtain ⟨d0, d1, d2⟩ := hd ⟨_, Below.refl _ _⟩
       simp only at c0 c1 c2 d0 d1 d2
       clear hc hd
       by_cases h0 : x0 = y0
       rotate_left
       ·have eb0 : ((x0 : Int) != (y0 : Int)) = true := by simp; omega
        have eb0' : (x0 == y0) = false := by simpa using h0
        have ec0 : ¬ ((x0 : Int) = (y0 : Int)) := by omega
        have E : Hid (r = false) := Bool.eq_false_iff.2 fun k => HN.out (fun h => h0 (Prod.mk.inj h).1) (HR.out.1 k).2.2.2.2.2.2
        clear HN HT HI
        go_wp2_with fail
        go_region
        go_wp2_with fail
        go_ret
        exact ⟨ret_bool E.out.symm, (HG.out g).drew⟩
       subst h0
       by_cases h1 : x1 = y1
       rotate_left
       ·have eb1 : ((x1 : Int) != (y1 : Int)) = true := by simp; omega
        have eb1' : (x1 == y1) = false := by simpa using h1
        have ec1 : ¬ ((x1 : Int) = (y1 : Int)) := by omega
        have E : Hid (r = false) := Bool.eq_false_iff.2 fun k => HN.out (fun h => h1 (Prod.mk.inj (Prod.mk.inj h).2).1) (HR.out.1 k).2.2.2.2.2.2
        clear HN HT HI
        go_wp2_with fail
        go_region
        go_wp2_with fail
        go_ret
        exact ⟨ret_bool E.out.symm, (HG.out g).drew⟩
       subst h1
       by_cases h2 : x2 = y2
       rotate_left
       ·have eb2 : ((x2 : Int) != (y2 : Int)) = true := by simp; omega
        have eb2' : (x2 == y2) = false := by simpa using h2
        have ec2 : ¬ ((x2 : Int) = (y2 : Int)) := by omega
        have E : Hid (r = false) := Bool.eq_false_iff.2 fun k => HN.out (fun h => h2 (Prod.mk.inj (Prod.mk.inj h).2).2) (HR.out.1 k).2.2.2.2.2.2
        clear HN HT HI
        go_wp2_with fail
        go_region
        go_wp2_with fail
        go_ret
        exact ⟨ret_bool E.out.symm, (HG.out g).drew⟩
       subst h2
       have HI2 := Lib.hid (HT.out rfl)
       clear HN HT HI
       go_wp2_with fail
       go_region
       go_wp2_with fail
       go_roundw
       case rel => exact ⟨i + 1, ⟨g.val.drew, g.ok.drew⟩, rfl, hlt, by go_num, HI2.out⟩
       case measure => simp [intOf]; omega
      ·obtain rfl : i = d0.length := by omega
       have HC6 : Hid (d0 = d1) := by have := HI.out; rw [List.take_length, HL3.out, List.take_length] at this; exact this
       clear HI
       have E : Hid (r = true) := HR.out.2 ⟨(by first | rfl | trivial), HL1.out, HL2.out, HL3.out, HC4.out, HC5.out, HC6.out⟩
       go_wp2_with fail
       go_ret
       exact ⟨ret_bool E.out.symm, HG.out g⟩
end Go.Proofs.YtdhinjbkfffpeaaGreat
end
