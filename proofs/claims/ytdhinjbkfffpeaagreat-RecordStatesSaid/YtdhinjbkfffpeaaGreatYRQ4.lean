import Derived.Test.YtdhinjbkfffpeaaGreatYRQ3
/- Contracts of the program's records: whether requests are the same. -/
section
namespace Go.Proofs.YtdhinjbkfffpeaaGreat
open Go.ChangeShapes Go.WideShapes Go.ChangeAt Go.RowKit Go.Joins Sp Qr
theorem Ak.sameP_iff (k0 : Int) (c0 : Nat) (n0 : Nat) (u0 : Nat) (i0 : Nat) (s0 : Stg) (e0 : Evt) (q0 : Qy) (x0 : List UInt8) (m0 : Int) (p0 : Nat) (t0 : Int) (y0 : Bool) (l0 : Int) (k1 : Int) (c1 : Nat) (n1 : Nat) (u1 : Nat) (i1 : Nat) (s1 : Stg) (e1 : Evt) (q1 : Qy) (x1 : List UInt8) (m1 : Int) (p1 : Nat) (t1 : Int) (y1 : Bool) (l1 : Int) :
  (⟨k0, c0, n0, u0, i0, s0, e0, q0, x0, m0, p0, t0, y0, l0⟩ : Ak) = ⟨k1, c1, n1, u1, i1, s1, e1, q1, x1, m1, p1, t1, y1, l1⟩ ↔ k0 = k1 ∧ c0 = c1 ∧ n0 = n1 ∧ u0 = u1 ∧ i0 = i1 ∧ p0 = p1 ∧ x0 = x1 ∧ m0 = m1 ∧ t0 = t1 ∧ y0 = y1 ∧ l0 = l1 ∧ s0 = s1 ∧ e0 = e1 ∧ q0 = q1 := by
 constructor
 ·intro h; injection h with hk hc hn hu hi hs he hq hx hm hp ht hy hl; exact ⟨hk, hc, hn, hu, hi, hp, hx, hm, ht, hy, hl, hs, he, hq⟩
 ·rintro ⟨rfl, rfl, rfl, rfl, rfl, rfl, rfl, rfl, rfl, rfl, rfl, rfl, rfl, rfl⟩; rfl
set_option maxRecDepth 100000 in
set_option maxHeartbeats 40000000 in
theorem rSameAskP_any (a b : Ak) (p q : AkP) (w : World) (ha : AkAt w a p) (hb : AkAt w b q) :
  Calls Tryz.prog 13 #[.agg (aCells a p).toArray, .agg (aCells b q).toArray] w fun e w' => ∃ r, e = .returned (.bool r) ∧ (r = true ↔ a = b) ∧ Below w.heap.size w w' := by
 obtain ⟨r, hr⟩ : ∃ r : Bool, r = true ↔ a = b := by classical exact ⟨decide (a = b), by simp⟩
 suffices h : Calls Tryz.prog 13 #[.agg (aCells a p).toArray, .agg (aCells b q).toArray] w fun e w' => e = .returned (.bool r) ∧ Below w.heap.size w w' from h.mono fun e w' h => ⟨r, h.1, hr, h.2⟩
 obtain ⟨k0, c0, n0, u0, i0, s0, e0, q0, x0, m0, p0, t0, y0, l0⟩ := a
 obtain ⟨k1, c1, n1, u1, i1, s1, e1, q1, x1, m1, p1, t1, y1, l1⟩ := b
 obtain ⟨sa, ea, qa⟩ := p
 obtain ⟨sb, eb, qb⟩ := q
 rw [Ak.sameP_iff] at hr
 obtain ⟨ha1, ha2, ha3⟩ := ha
 obtain ⟨hb1, hb2, hb3⟩ := hb
 unfold aCells sCells eCells qCells
 simp only [List.cons_append, List.nil_append, List.toArray] at *
 have HSC : Hid (∀ g : World, Below w.heap.size w g → Calls Tryz.prog 37 #[.agg (sCells s0 sa).toArray, .agg (sCells s1 sb).toArray] g fun e w' => ∃ r, e = .returned (.bool r) ∧ (r = true ↔ s0 = s1) ∧ Below g.heap.size g w') := fun g hb' => rSameSettingsP_any s0 s1 sa sb g (ha1.below hb') (hb1.below hb')
 unfold sCells at HSC
 simp only [List.toArray] at HSC
 have HEC : Hid (∀ g : World, Below w.heap.size w g → Calls Tryz.prog 38 #[.agg (eCells e0 ea).toArray, .agg (eCells e1 eb).toArray] g fun e w' => ∃ r, e = .returned (.bool r) ∧ (r = true ↔ e0 = e1) ∧ Below g.heap.size g w') := fun g hb' => rSameEventP_any e0 e1 ea eb g (EvAt.below ha2 hb') (EvAt.below hb2 hb')
 unfold eCells at HEC
 simp only [List.toArray] at HEC
 have HQC : Hid (∀ g : World, Below w.heap.size w g → Calls Tryz.prog 39 #[.agg (qCells q0 qa).toArray, .agg (qCells q1 qb).toArray] g fun e w' => ∃ r, e = .returned (.bool r) ∧ (r = true ↔ q0 = q1) ∧ Below g.heap.size g w') := fun g hb' => rSameQueryP_any q0 q1 qa qb g (ha3.below hb') (hb3.below hb')
 unfold qCells at HQC
 simp only [List.toArray] at HQC
 clear ha1 ha2 ha3 hb1 hb2 hb3
 obtain ⟨W, hW⟩ : ∃ W, (w.alloc (.cells #[.int .i64 k0, .int .u32 (c0 : Int), .int .u64 (n0 : Int), .int .u32 (u0 : Int), .int .u32 (i0 : Int), .int .i64 s0.base, .slice sa.A1 s0.turns.length sa.c1, .slice sa.A2 s0.shifts.length sa.c2, .slice sa.A3 s0.off.length sa.c3, .int .i64 s0.before, .int .i64 s0.after, .int .i64 e0.start, .int .i64 e0.long, .bool e0.world, .bool e0.again, .int .i64 e0.rule.freq, .int .i64 e0.rule.iv, .int .i64 e0.rule.count, .int .i64 e0.rule.until_, .slice ea.A1 e0.rule.bm.length ea.c1, .slice ea.A2 e0.rule.bd.length ea.c2, .slice ea.A3 e0.rule.bw.length ea.c3, .slice ea.A4 e0.rule.bs.length ea.c4, .int .i64 e0.rule.start, .slice ea.A5 e0.ex.length ea.c5, .slice ea.A6 e0.plus.length ea.c6, .slice ea.A7 e0.ch.length ea.c7, .int .i64 q0.win.1, .int .i64 q0.win.2, .int .i64 q0.long, .int .i64 q0.grid, .slice qa.A1 q0.must.length qa.c1, .slice qa.A2 q0.may.length qa.c2, .int .i64 q0.seats, .slice qa.A3 q0.apart.length qa.c3, .slice qa.A4 q0.prefer.length qa.c4, .string ⟨x0.toArray⟩, .int .i64 m0, .int .u32 (p0 : Int), .int .i64 t0, .bool y0, .int .i64 l0] 65)).alloc (.cells #[.int .i64 k1, .int .u32 (c1 : Int), .int .u64 (n1 : Int), .int .u32 (u1 : Int), .int .u32 (i1 : Int), .int .i64 s1.base, .slice sb.A1 s1.turns.length sb.c1, .slice sb.A2 s1.shifts.length sb.c2, .slice sb.A3 s1.off.length sb.c3, .int .i64 s1.before, .int .i64 s1.after, .int .i64 e1.start, .int .i64 e1.long, .bool e1.world, .bool e1.again, .int .i64 e1.rule.freq, .int .i64 e1.rule.iv, .int .i64 e1.rule.count, .int .i64 e1.rule.until_, .slice eb.A1 e1.rule.bm.length eb.c1, .slice eb.A2 e1.rule.bd.length eb.c2, .slice eb.A3 e1.rule.bw.length eb.c3, .slice eb.A4 e1.rule.bs.length eb.c4, .int .i64 e1.rule.start, .slice eb.A5 e1.ex.length eb.c5, .slice eb.A6 e1.plus.length eb.c6, .slice eb.A7 e1.ch.length eb.c7, .int .i64 q1.win.1, .int .i64 q1.win.2, .int .i64 q1.long, .int .i64 q1.grid, .slice qb.A1 q1.must.length qb.c1, .slice qb.A2 q1.may.length qb.c2, .int .i64 q1.seats, .slice qb.A3 q1.apart.length qb.c3, .slice qb.A4 q1.prefer.length qb.c4, .string ⟨x1.toArray⟩, .int .i64 m1, .int .u32 (p1 : Int), .int .i64 t1, .bool y1, .int .i64 l1] 65) = W := ⟨_, rfl⟩
 have hBW : Below w.heap.size w W := by rw [← hW]; exact ((Below.refl _ w).alloc (Nat.le_refl _) _).alloc (by simp) _
 have HG : Hid (∀ g : Gr W, Below w.heap.size w g.val) := fun g => hBW.trans (g.ok.mono hBW.size)
 have HA : Hid (∀ (g : Gr W) (k : Nat) (v : Value), (#[.int .i64 k0, .int .u32 (c0 : Int), .int .u64 (n0 : Int), .int .u32 (u0 : Int), .int .u32 (i0 : Int), .int .i64 s0.base, .slice sa.A1 s0.turns.length sa.c1, .slice sa.A2 s0.shifts.length sa.c2, .slice sa.A3 s0.off.length sa.c3, .int .i64 s0.before, .int .i64 s0.after, .int .i64 e0.start, .int .i64 e0.long, .bool e0.world, .bool e0.again, .int .i64 e0.rule.freq, .int .i64 e0.rule.iv, .int .i64 e0.rule.count, .int .i64 e0.rule.until_, .slice ea.A1 e0.rule.bm.length ea.c1, .slice ea.A2 e0.rule.bd.length ea.c2, .slice ea.A3 e0.rule.bw.length ea.c3, .slice ea.A4 e0.rule.bs.length ea.c4, .int .i64 e0.rule.start, .slice ea.A5 e0.ex.length ea.c5, .slice ea.A6 e0.plus.length ea.c6, .slice ea.A7 e0.ch.length ea.c7, .int .i64 q0.win.1, .int .i64 q0.win.2, .int .i64 q0.long, .int .i64 q0.grid, .slice qa.A1 q0.must.length qa.c1, .slice qa.A2 q0.may.length qa.c2, .int .i64 q0.seats, .slice qa.A3 q0.apart.length qa.c3, .slice qa.A4 q0.prefer.length qa.c4, .string ⟨x0.toArray⟩, .int .i64 m0, .int .u32 (p0 : Int), .int .i64 t0, .bool y0, .int .i64 l0] : Array Value)[k]? = some v → g.val.cell? ⟨w.heap.size, k, none⟩ = some v) := fun g k v hv => cell_old (by rw [← hW]; exact blk_cell (cs := #[.int .i64 k0, .int .u32 (c0 : Int), .int .u64 (n0 : Int), .int .u32 (u0 : Int), .int .u32 (i0 : Int), .int .i64 s0.base, .slice sa.A1 s0.turns.length sa.c1, .slice sa.A2 s0.shifts.length sa.c2, .slice sa.A3 s0.off.length sa.c3, .int .i64 s0.before, .int .i64 s0.after, .int .i64 e0.start, .int .i64 e0.long, .bool e0.world, .bool e0.again, .int .i64 e0.rule.freq, .int .i64 e0.rule.iv, .int .i64 e0.rule.count, .int .i64 e0.rule.until_, .slice ea.A1 e0.rule.bm.length ea.c1, .slice ea.A2 e0.rule.bd.length ea.c2, .slice ea.A3 e0.rule.bw.length ea.c3, .slice ea.A4 e0.rule.bs.length ea.c4, .int .i64 e0.rule.start, .slice ea.A5 e0.ex.length ea.c5, .slice ea.A6 e0.plus.length ea.c6, .slice ea.A7 e0.ch.length ea.c7, .int .i64 q0.win.1, .int .i64 q0.win.2, .int .i64 q0.long, .int .i64 q0.grid, .slice qa.A1 q0.must.length qa.c1, .slice qa.A2 q0.may.length qa.c2, .int .i64 q0.seats, .slice qa.A3 q0.apart.length qa.c3, .slice qa.A4 q0.prefer.length qa.c4, .string ⟨x0.toArray⟩, .int .i64 m0, .int .u32 (p0 : Int), .int .i64 t0, .bool y0, .int .i64 l0]) (t := 65) (by rw [heap_alloc_old _ _ (by simp)]; exact heap_alloc_new _ _) hv) g.ok
 have HB : Hid (∀ (g : Gr W) (k : Nat) (v : Value), (#[.int .i64 k1, .int .u32 (c1 : Int), .int .u64 (n1 : Int), .int .u32 (u1 : Int), .int .u32 (i1 : Int), .int .i64 s1.base, .slice sb.A1 s1.turns.length sb.c1, .slice sb.A2 s1.shifts.length sb.c2, .slice sb.A3 s1.off.length sb.c3, .int .i64 s1.before, .int .i64 s1.after, .int .i64 e1.start, .int .i64 e1.long, .bool e1.world, .bool e1.again, .int .i64 e1.rule.freq, .int .i64 e1.rule.iv, .int .i64 e1.rule.count, .int .i64 e1.rule.until_, .slice eb.A1 e1.rule.bm.length eb.c1, .slice eb.A2 e1.rule.bd.length eb.c2, .slice eb.A3 e1.rule.bw.length eb.c3, .slice eb.A4 e1.rule.bs.length eb.c4, .int .i64 e1.rule.start, .slice eb.A5 e1.ex.length eb.c5, .slice eb.A6 e1.plus.length eb.c6, .slice eb.A7 e1.ch.length eb.c7, .int .i64 q1.win.1, .int .i64 q1.win.2, .int .i64 q1.long, .int .i64 q1.grid, .slice qb.A1 q1.must.length qb.c1, .slice qb.A2 q1.may.length qb.c2, .int .i64 q1.seats, .slice qb.A3 q1.apart.length qb.c3, .slice qb.A4 q1.prefer.length qb.c4, .string ⟨x1.toArray⟩, .int .i64 m1, .int .u32 (p1 : Int), .int .i64 t1, .bool y1, .int .i64 l1] : Array Value)[k]? = some v → g.val.cell? ⟨w.heap.size + 1, k, none⟩ = some v) := fun g k v hv => cell_old (by rw [← hW]; exact blk_cell (cs := #[.int .i64 k1, .int .u32 (c1 : Int), .int .u64 (n1 : Int), .int .u32 (u1 : Int), .int .u32 (i1 : Int), .int .i64 s1.base, .slice sb.A1 s1.turns.length sb.c1, .slice sb.A2 s1.shifts.length sb.c2, .slice sb.A3 s1.off.length sb.c3, .int .i64 s1.before, .int .i64 s1.after, .int .i64 e1.start, .int .i64 e1.long, .bool e1.world, .bool e1.again, .int .i64 e1.rule.freq, .int .i64 e1.rule.iv, .int .i64 e1.rule.count, .int .i64 e1.rule.until_, .slice eb.A1 e1.rule.bm.length eb.c1, .slice eb.A2 e1.rule.bd.length eb.c2, .slice eb.A3 e1.rule.bw.length eb.c3, .slice eb.A4 e1.rule.bs.length eb.c4, .int .i64 e1.rule.start, .slice eb.A5 e1.ex.length eb.c5, .slice eb.A6 e1.plus.length eb.c6, .slice eb.A7 e1.ch.length eb.c7, .int .i64 q1.win.1, .int .i64 q1.win.2, .int .i64 q1.long, .int .i64 q1.grid, .slice qb.A1 q1.must.length qb.c1, .slice qb.A2 q1.may.length qb.c2, .int .i64 q1.seats, .slice qb.A3 q1.apart.length qb.c3, .slice qb.A4 q1.prefer.length qb.c4, .string ⟨x1.toArray⟩, .int .i64 m1, .int .u32 (p1 : Int), .int .i64 t1, .bool y1, .int .i64 l1]) (t := 65) (heap_alloc_new2 _ _ _) hv) g.ok
 have E1 := Lib.hid hW
 clear hW hBW
 have HR := Lib.hid hr
 clear hr
 by_cases h0 : k0 = k1
 rotate_left
 ·have eb0 : (k0 != k1) = true := by simpa using h0
  have ec0 : (k0 == k1) = false := by simpa using h0
  have E : Hid (r = false) := Bool.eq_false_iff.2 fun k => h0 (HR.out.1 k).1
  go_enter Tryz.func13, Tryz.ntmps13
  go_wp2_with fail
  go_ret
  exact ⟨ret_bool E.out.symm, by have := HG.out ⟨W, Below.refl _ _⟩; rw [← E1.out] at this; exact this⟩
 subst h0
 by_cases h1 : c0 = c1
 rotate_left
 ·have eb1 : ((c0 : Int) != (c1 : Int)) = true := by simp; omega
  have eb1' : (c0 == c1) = false := by simpa using h1
  have E : Hid (r = false) := Bool.eq_false_iff.2 fun k => h1 (HR.out.1 k).2.1
  go_enter Tryz.func13, Tryz.ntmps13
  go_wp2_with fail
  go_ret
  exact ⟨ret_bool E.out.symm, by have := HG.out ⟨W, Below.refl _ _⟩; rw [← E1.out] at this; exact this⟩
 subst h1
 by_cases h2 : n0 = n1
 rotate_left
 ·have eb2 : ((n0 : Int) != (n1 : Int)) = true := by simp; omega
  have eb2' : (n0 == n1) = false := by simpa using h2
  have E : Hid (r = false) := Bool.eq_false_iff.2 fun k => h2 (HR.out.1 k).2.2.1
  go_enter Tryz.func13, Tryz.ntmps13
  go_wp2_with fail
  go_ret
  exact ⟨ret_bool E.out.symm, by have := HG.out ⟨W, Below.refl _ _⟩; rw [← E1.out] at this; exact this⟩
 subst h2
 by_cases h3 : u0 = u1
 rotate_left
 ·have eb3 : ((u0 : Int) != (u1 : Int)) = true := by simp; omega
  have eb3' : (u0 == u1) = false := by simpa using h3
  have E : Hid (r = false) := Bool.eq_false_iff.2 fun k => h3 (HR.out.1 k).2.2.2.1
  go_enter Tryz.func13, Tryz.ntmps13
  go_wp2_with fail
  go_ret
  exact ⟨ret_bool E.out.symm, by have := HG.out ⟨W, Below.refl _ _⟩; rw [← E1.out] at this; exact this⟩
 subst h3
 by_cases h4 : i0 = i1
 rotate_left
 ·have eb4 : ((i0 : Int) != (i1 : Int)) = true := by simp; omega
  have eb4' : (i0 == i1) = false := by simpa using h4
  have E : Hid (r = false) := Bool.eq_false_iff.2 fun k => h4 (HR.out.1 k).2.2.2.2.1
  go_enter Tryz.func13, Tryz.ntmps13
  go_wp2_with fail
  go_ret
  exact ⟨ret_bool E.out.symm, by have := HG.out ⟨W, Below.refl _ _⟩; rw [← E1.out] at this; exact this⟩
 subst h4
 by_cases h5 : p0 = p1
 rotate_left
 ·have eb5 : ((p0 : Int) != (p1 : Int)) = true := by simp; omega
  have eb5' : (p0 == p1) = false := by simpa using h5
  have E : Hid (r = false) := Bool.eq_false_iff.2 fun k => h5 (HR.out.1 k).2.2.2.2.2.1
  go_enter Tryz.func13, Tryz.ntmps13
  go_wp2_with fail
  go_ret
  exact ⟨ret_bool E.out.symm, by have := HG.out ⟨W, Below.refl _ _⟩; rw [← E1.out] at this; exact this⟩
 subst h5
 by_cases h6 : x0 = x1
 rotate_left
 ·have eb6 : (x0 != x1) = true := by simpa using h6
  have ec6 : (x0 == x1) = false := by simpa using h6
  have E : Hid (r = false) := Bool.eq_false_iff.2 fun k => h6 (HR.out.1 k).2.2.2.2.2.2.1
  go_enter Tryz.func13, Tryz.ntmps13
  go_wp2_with fail
  go_ret
  exact ⟨ret_bool E.out.symm, by have := HG.out ⟨W, Below.refl _ _⟩; rw [← E1.out] at this; exact this⟩
 subst h6
 by_cases h7 : m0 = m1
 rotate_left
 ·have eb7 : (m0 != m1) = true := by simpa using h7
  have ec7 : (m0 == m1) = false := by simpa using h7
  have E : Hid (r = false) := Bool.eq_false_iff.2 fun k => h7 (HR.out.1 k).2.2.2.2.2.2.2.1
  go_enter Tryz.func13, Tryz.ntmps13
  go_wp2_with fail
  go_ret
  exact ⟨ret_bool E.out.symm, by have := HG.out ⟨W, Below.refl _ _⟩; rw [← E1.out] at this; exact this⟩
 subst h7
 by_cases h8 : t0 = t1
 rotate_left
 ·have eb8 : (t0 != t1) = true := by simpa using h8
  have ec8 : (t0 == t1) = false := by simpa using h8
  have E : Hid (r = false) := Bool.eq_false_iff.2 fun k => h8 (HR.out.1 k).2.2.2.2.2.2.2.2.1
  go_enter Tryz.func13, Tryz.ntmps13
  go_wp2_with fail
  go_ret
  exact ⟨ret_bool E.out.symm, by have := HG.out ⟨W, Below.refl _ _⟩; rw [← E1.out] at this; exact this⟩
 subst h8
 by_cases h9 : y0 = y1
 rotate_left
 ·have E : Hid (r = false) := Bool.eq_false_iff.2 fun k => h9 (HR.out.1 k).2.2.2.2.2.2.2.2.2.1
  have hw : y0 = true ∧ y1 = false ∨ y0 = false ∧ y1 = true := by clear E; revert h9; cases y0 <;> cases y1 <;> simp
  clear h9
  rcases hw with ⟨rfl, rfl⟩ | ⟨rfl, rfl⟩
  all_goals
   go_enter Tryz.func13, Tryz.ntmps13
   go_wp2_with fail
   go_ret
   exact ⟨ret_bool E.out.symm, by have := HG.out ⟨W, Below.refl _ _⟩; rw [← E1.out] at this; exact this⟩
 subst h9
 by_cases h10 : l0 = l1
 rotate_left
 ·have eb10 : (l0 != l1) = true := by simpa using h10
  have ec10 : (l0 == l1) = false := by simpa using h10
  have E : Hid (r = false) := Bool.eq_false_iff.2 fun k => h10 (HR.out.1 k).2.2.2.2.2.2.2.2.2.2.1
  go_enter Tryz.func13, Tryz.ntmps13
  go_wp2_with fail
  go_ret
  exact ⟨ret_bool E.out.symm, by have := HG.out ⟨W, Below.refl _ _⟩; rw [← E1.out] at this; exact this⟩
 subst h10
 go_enter Tryz.func13, Tryz.ntmps13
 go_wp2_with fail
 go_at_call 37
 rw [E1.out]
 refine (HSC.out _ (HG.out ⟨W, Below.refl _ _⟩)).mono ?_
 rintro e w11 ⟨v11, rfl, hv11, hb11⟩
 obtain ⟨g11, rfl⟩ := Gr.on ⟨W, Below.refl _ _⟩ hb11
 clear hb11
 have fa11 := HA.out g11 11 (.int .i64 e0.start) rfl
 have fb11 := HB.out g11 11 (.int .i64 e1.start) rfl
 have fa12 := HA.out g11 12 (.int .i64 e0.long) rfl
 have fb12 := HB.out g11 12 (.int .i64 e1.long) rfl
 have fa13 := HA.out g11 13 (.bool e0.world) rfl
 have fb13 := HB.out g11 13 (.bool e1.world) rfl
 have fa14 := HA.out g11 14 (.bool e0.again) rfl
 have fb14 := HB.out g11 14 (.bool e1.again) rfl
 have fa15 := HA.out g11 15 (.int .i64 e0.rule.freq) rfl
 have fb15 := HB.out g11 15 (.int .i64 e1.rule.freq) rfl
 have fa16 := HA.out g11 16 (.int .i64 e0.rule.iv) rfl
 have fb16 := HB.out g11 16 (.int .i64 e1.rule.iv) rfl
 have fa17 := HA.out g11 17 (.int .i64 e0.rule.count) rfl
 have fb17 := HB.out g11 17 (.int .i64 e1.rule.count) rfl
 have fa18 := HA.out g11 18 (.int .i64 e0.rule.until_) rfl
 have fb18 := HB.out g11 18 (.int .i64 e1.rule.until_) rfl
 have fa19 := HA.out g11 19 (.slice ea.A1 e0.rule.bm.length ea.c1) rfl
 have fb19 := HB.out g11 19 (.slice eb.A1 e1.rule.bm.length eb.c1) rfl
 have fa20 := HA.out g11 20 (.slice ea.A2 e0.rule.bd.length ea.c2) rfl
 have fb20 := HB.out g11 20 (.slice eb.A2 e1.rule.bd.length eb.c2) rfl
 have fa21 := HA.out g11 21 (.slice ea.A3 e0.rule.bw.length ea.c3) rfl
 have fb21 := HB.out g11 21 (.slice eb.A3 e1.rule.bw.length eb.c3) rfl
 have fa22 := HA.out g11 22 (.slice ea.A4 e0.rule.bs.length ea.c4) rfl
 have fb22 := HB.out g11 22 (.slice eb.A4 e1.rule.bs.length eb.c4) rfl
 have fa23 := HA.out g11 23 (.int .i64 e0.rule.start) rfl
 have fb23 := HB.out g11 23 (.int .i64 e1.rule.start) rfl
 have fa24 := HA.out g11 24 (.slice ea.A5 e0.ex.length ea.c5) rfl
 have fb24 := HB.out g11 24 (.slice eb.A5 e1.ex.length eb.c5) rfl
 have fa25 := HA.out g11 25 (.slice ea.A6 e0.plus.length ea.c6) rfl
 have fb25 := HB.out g11 25 (.slice eb.A6 e1.plus.length eb.c6) rfl
 have fa26 := HA.out g11 26 (.slice ea.A7 e0.ch.length ea.c7) rfl
 have fb26 := HB.out g11 26 (.slice eb.A7 e1.ch.length eb.c7) rfl
 try simp only at fa11 fb11 fa12 fb12 fa13 fb13 fa14 fb14 fa15 fb15 fa16 fb16 fa17 fb17 fa18 fb18 fa19 fb19 fa20 fb20 fa21 fb21 fa22 fb22 fa23 fb23 fa24 fb24 fa25 fb25 fa26 fb26
 cases v11 with
 | false =>
  have hn11 : ¬ (s0 = s1) := fun k => by simpa using hv11.2 k
  have E : Hid (r = false) := Bool.eq_false_iff.2 fun k => hn11 (HR.out.1 k).2.2.2.2.2.2.2.2.2.2.2.1
  go_wp2_with fail
  go_ret
  exact ⟨ret_bool E.out.symm, HG.out g11⟩
 | true =>
  have HC11 : Hid (s0 = s1) := hv11.1 rfl
  clear hv11
  go_wp2_with fail
  go_at_call 38
  refine (HEC.out _ (HG.out g11)).mono ?_
  rintro e w12 ⟨v12, rfl, hv12, hb12⟩
  obtain ⟨g12, rfl⟩ := Gr.on g11 hb12
  clear hb12
  clear fa11 fb11 fa12 fb12 fa13 fb13 fa14 fb14 fa15 fb15 fa16 fb16 fa17 fb17 fa18 fb18 fa19 fb19 fa20 fb20 fa21 fb21 fa22 fb22 fa23 fb23 fa24 fb24 fa25 fb25 fa26 fb26
  have fa27 := HA.out g12 27 (.int .i64 q0.win.1) rfl
  have fb27 := HB.out g12 27 (.int .i64 q1.win.1) rfl
  have fa28 := HA.out g12 28 (.int .i64 q0.win.2) rfl
  have fb28 := HB.out g12 28 (.int .i64 q1.win.2) rfl
  have fa29 := HA.out g12 29 (.int .i64 q0.long) rfl
  have fb29 := HB.out g12 29 (.int .i64 q1.long) rfl
  have fa30 := HA.out g12 30 (.int .i64 q0.grid) rfl
  have fb30 := HB.out g12 30 (.int .i64 q1.grid) rfl
  have fa31 := HA.out g12 31 (.slice qa.A1 q0.must.length qa.c1) rfl
  have fb31 := HB.out g12 31 (.slice qb.A1 q1.must.length qb.c1) rfl
  have fa32 := HA.out g12 32 (.slice qa.A2 q0.may.length qa.c2) rfl
  have fb32 := HB.out g12 32 (.slice qb.A2 q1.may.length qb.c2) rfl
  have fa33 := HA.out g12 33 (.int .i64 q0.seats) rfl
  have fb33 := HB.out g12 33 (.int .i64 q1.seats) rfl
  have fa34 := HA.out g12 34 (.slice qa.A3 q0.apart.length qa.c3) rfl
  have fb34 := HB.out g12 34 (.slice qb.A3 q1.apart.length qb.c3) rfl
  have fa35 := HA.out g12 35 (.slice qa.A4 q0.prefer.length qa.c4) rfl
  have fb35 := HB.out g12 35 (.slice qb.A4 q1.prefer.length qb.c4) rfl
  try simp only at fa27 fb27 fa28 fb28 fa29 fb29 fa30 fb30 fa31 fb31 fa32 fb32 fa33 fb33 fa34 fb34 fa35 fb35
  cases v12 with
  | false =>
   have hn12 : ¬ (e0 = e1) := fun k => by simpa using hv12.2 k
   have E : Hid (r = false) := Bool.eq_false_iff.2 fun k => hn12 (HR.out.1 k).2.2.2.2.2.2.2.2.2.2.2.2.1
   go_wp2_with fail
   go_ret
   exact ⟨ret_bool E.out.symm, HG.out g12⟩
  | true =>
   have HC12 : Hid (e0 = e1) := hv12.1 rfl
   clear hv12
   go_wp2_with fail
   go_at_call 39
   refine (HQC.out _ (HG.out g12)).mono ?_
   rintro e w13 ⟨v13, rfl, hv13, hb13⟩
   obtain ⟨g13, rfl⟩ := Gr.on g12 hb13
   clear hb13
   clear fa27 fb27 fa28 fb28 fa29 fb29 fa30 fb30 fa31 fb31 fa32 fb32 fa33 fb33 fa34 fb34 fa35 fb35
   cases v13 with
   | false =>
    have hn13 : ¬ (q0 = q1) := fun k => by simpa using hv13.2 k
    have E : Hid (r = false) := Bool.eq_false_iff.2 fun k => hn13 (HR.out.1 k).2.2.2.2.2.2.2.2.2.2.2.2.2
    go_wp2_with fail
    go_ret
    exact ⟨ret_bool E.out.symm, HG.out g13⟩
   | true =>
    have HC13 : Hid (q0 = q1) := hv13.1 rfl
    clear hv13
    have E : Hid (r = true) := HR.out.2 ⟨(by first | rfl | trivial), (by first | rfl | trivial), (by first | rfl | trivial), (by first | rfl | trivial), (by first | rfl | trivial), (by first | rfl | trivial), (by first | rfl | trivial), (by first | rfl | trivial), (by first | rfl | trivial), (by first | rfl | trivial), (by first | rfl | trivial), HC11.out, HC12.out, HC13.out⟩
    go_wp2_with fail
    go_ret
    exact ⟨ret_bool E.out.symm, HG.out g13⟩
end Go.Proofs.YtdhinjbkfffpeaaGreat
end
