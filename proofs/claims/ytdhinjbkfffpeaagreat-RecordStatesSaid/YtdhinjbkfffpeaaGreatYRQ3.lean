import Derived.Test.YtdhinjbkfffpeaaGreatYON
/- Contracts of the program's records: whether polls, replies are the same. -/
section
namespace Go.Proofs.YtdhinjbkfffpeaaGreat
open Go.ChangeShapes Go.WideShapes Go.ChangeAt Go.RowKit Go.Joins Sp Qr
theorem Pl.sameP_iff (i0 o0 : Nat) (q0 : Qy) (s0 : List Int) (v0 : List (Nat × Int)) (u0 t0 w0 : Int) (i1 o1 : Nat) (q1 : Qy) (s1 : List Int) (v1 : List (Nat × Int)) (u1_ t1 w1 : Int) :
  (⟨i0, o0, q0, s0, v0, u0, t0, w0⟩ : Pl) = ⟨i1, o1, q1, s1, v1, u1_, t1, w1⟩ ↔ i0 = i1 ∧ o0 = o1 ∧ u0 = u1_ ∧ t0 = t1 ∧ w0 = w1 ∧ q0 = q1 ∧ s0 = s1 ∧ v0 = v1 := by
 constructor
 ·intro h; injection h with h1 h2 h3 h4 h5 h6 h7 h8; exact ⟨h1, h2, h6, h7, h8, h3, h4, h5⟩
 ·rintro ⟨rfl, rfl, rfl, rfl, rfl, rfl, rfl, rfl⟩; rfl
set_option maxRecDepth 100000 in
set_option maxHeartbeats 4000000 in
theorem rSamePollP_any (a b : Pl) (p q : PlP) (w : World) (ha : PlAt w a p) (hb : PlAt w b q) :
  Calls Tryz.prog 44 #[.agg (pCells a p).toArray, .agg (pCells b q).toArray] w fun e w' => ∃ r, e = .returned (.bool r) ∧ (r = true ↔ a = b) ∧ Below w.heap.size w w' := by
 obtain ⟨r, hr⟩ : ∃ r : Bool, r = true ↔ a = b := by classical exact ⟨decide (a = b), by simp⟩
 suffices h : Calls Tryz.prog 44 #[.agg (pCells a p).toArray, .agg (pCells b q).toArray] w fun e w' => e = .returned (.bool r) ∧ Below w.heap.size w w' from h.mono fun e w' h => ⟨r, h.1, hr, h.2⟩
 obtain ⟨i0, o0, q0, s0, v0, m0, t0, n0⟩ := a
 obtain ⟨i1, o1, q1, s1, v1, m1, t1, n1⟩ := b
 obtain ⟨qa, A1, A2, c1, c2⟩ := p
 obtain ⟨qb, B1, B2, d1, d2⟩ := q
 rw [Pl.sameP_iff] at hr
 obtain ⟨haq, ha1, ha2⟩ := ha
 obtain ⟨hbq, hb1, hb2⟩ := hb
 unfold pCells qCells
 simp only [List.cons_append, List.nil_append, List.toArray] at *
 have HQC : Hid (∀ g : World, Below w.heap.size w g → Calls Tryz.prog 39 #[.agg (qCells q0 qa).toArray, .agg (qCells q1 qb).toArray] g fun e w' => ∃ r, e = .returned (.bool r) ∧ (r = true ↔ q0 = q1) ∧ Below g.heap.size g w') := fun g hb' => rSameQueryP_any q0 q1 qa qb g (haq.below hb') (hbq.below hb')
 unfold qCells at HQC
 simp only [List.toArray] at HQC
 have HSa1 : Hid (∀ wr, Below w.heap.size w wr → Sl wr A1 s0.length c1 (iv s0)) := fun wr hb' => ha1.below hb' (Nat.le_refl _)
 have HSa2 : Hid (∀ wr, Below w.heap.size w wr → Sl wr A2 v0.length c2 (kv u2 v0)) := fun wr hb' => ha2.below hb' (Nat.le_refl _)
 have HSb1 : Hid (∀ wr, Below w.heap.size w wr → Sl wr B1 s1.length d1 (iv s1)) := fun wr hb' => hb1.below hb' (Nat.le_refl _)
 have HSb2 : Hid (∀ wr, Below w.heap.size w wr → Sl wr B2 v1.length d2 (kv u2 v1)) := fun wr hb' => hb2.below hb' (Nat.le_refl _)
 clear haq hbq ha1 ha2 hb1 hb2
 obtain ⟨W, hW⟩ : ∃ W, (w.alloc (.cells #[.int .u32 (i0 : Int), .int .u32 (o0 : Int), .int .i64 q0.win.1, .int .i64 q0.win.2, .int .i64 q0.long, .int .i64 q0.grid, .slice qa.A1 q0.must.length qa.c1, .slice qa.A2 q0.may.length qa.c2, .int .i64 q0.seats, .slice qa.A3 q0.apart.length qa.c3, .slice qa.A4 q0.prefer.length qa.c4, .slice A1 s0.length c1, .slice A2 v0.length c2, .int .i64 m0, .int .i64 t0, .int .i64 n0] 37)).alloc (.cells #[.int .u32 (i1 : Int), .int .u32 (o1 : Int), .int .i64 q1.win.1, .int .i64 q1.win.2, .int .i64 q1.long, .int .i64 q1.grid, .slice qb.A1 q1.must.length qb.c1, .slice qb.A2 q1.may.length qb.c2, .int .i64 q1.seats, .slice qb.A3 q1.apart.length qb.c3, .slice qb.A4 q1.prefer.length qb.c4, .slice B1 s1.length d1, .slice B2 v1.length d2, .int .i64 m1, .int .i64 t1, .int .i64 n1] 37) = W := ⟨_, rfl⟩
 have hBW : Below w.heap.size w W := by rw [← hW]; exact ((Below.refl _ w).alloc (Nat.le_refl _) _).alloc (by simp) _
 have HG : Hid (∀ g : Gr W, Below w.heap.size w g.val) := fun g => hBW.trans (g.ok.mono hBW.size)
 have HA : Hid (∀ (g : Gr W) (k : Nat) (v : Value), (#[.int .u32 (i0 : Int), .int .u32 (o0 : Int), .int .i64 q0.win.1, .int .i64 q0.win.2, .int .i64 q0.long, .int .i64 q0.grid, .slice qa.A1 q0.must.length qa.c1, .slice qa.A2 q0.may.length qa.c2, .int .i64 q0.seats, .slice qa.A3 q0.apart.length qa.c3, .slice qa.A4 q0.prefer.length qa.c4, .slice A1 s0.length c1, .slice A2 v0.length c2, .int .i64 m0, .int .i64 t0, .int .i64 n0] : Array Value)[k]? = some v → g.val.cell? ⟨w.heap.size, k, none⟩ = some v) := fun g k v hv => cell_old (by rw [← hW]; exact blk_cell (cs := #[.int .u32 (i0 : Int), .int .u32 (o0 : Int), .int .i64 q0.win.1, .int .i64 q0.win.2, .int .i64 q0.long, .int .i64 q0.grid, .slice qa.A1 q0.must.length qa.c1, .slice qa.A2 q0.may.length qa.c2, .int .i64 q0.seats, .slice qa.A3 q0.apart.length qa.c3, .slice qa.A4 q0.prefer.length qa.c4, .slice A1 s0.length c1, .slice A2 v0.length c2, .int .i64 m0, .int .i64 t0, .int .i64 n0]) (t := 37) (by rw [heap_alloc_old _ _ (by simp)]; exact heap_alloc_new _ _) hv) g.ok
 have HB : Hid (∀ (g : Gr W) (k : Nat) (v : Value), (#[.int .u32 (i1 : Int), .int .u32 (o1 : Int), .int .i64 q1.win.1, .int .i64 q1.win.2, .int .i64 q1.long, .int .i64 q1.grid, .slice qb.A1 q1.must.length qb.c1, .slice qb.A2 q1.may.length qb.c2, .int .i64 q1.seats, .slice qb.A3 q1.apart.length qb.c3, .slice qb.A4 q1.prefer.length qb.c4, .slice B1 s1.length d1, .slice B2 v1.length d2, .int .i64 m1, .int .i64 t1, .int .i64 n1] : Array Value)[k]? = some v → g.val.cell? ⟨w.heap.size + 1, k, none⟩ = some v) := fun g k v hv => cell_old (by rw [← hW]; exact blk_cell (cs := #[.int .u32 (i1 : Int), .int .u32 (o1 : Int), .int .i64 q1.win.1, .int .i64 q1.win.2, .int .i64 q1.long, .int .i64 q1.grid, .slice qb.A1 q1.must.length qb.c1, .slice qb.A2 q1.may.length qb.c2, .int .i64 q1.seats, .slice qb.A3 q1.apart.length qb.c3, .slice qb.A4 q1.prefer.length qb.c4, .slice B1 s1.length d1, .slice B2 v1.length d2, .int .i64 m1, .int .i64 t1, .int .i64 n1]) (t := 37) (heap_alloc_new2 _ _ _) hv) g.ok
 have E1 := Lib.hid hW
 clear hW hBW
 have HR := Lib.hid hr
 clear hr
 have fa0 := HA.out ⟨W, Below.refl _ _⟩ 0 (.int .u32 (i0 : Int)) rfl
 have fb0 := HB.out ⟨W, Below.refl _ _⟩ 0 (.int .u32 (i1 : Int)) rfl
 have fa1 := HA.out ⟨W, Below.refl _ _⟩ 1 (.int .u32 (o0 : Int)) rfl
 have fb1 := HB.out ⟨W, Below.refl _ _⟩ 1 (.int .u32 (o1 : Int)) rfl
 have fa2 := HA.out ⟨W, Below.refl _ _⟩ 2 (.int .i64 q0.win.1) rfl
 have fb2 := HB.out ⟨W, Below.refl _ _⟩ 2 (.int .i64 q1.win.1) rfl
 have fa3 := HA.out ⟨W, Below.refl _ _⟩ 3 (.int .i64 q0.win.2) rfl
 have fb3 := HB.out ⟨W, Below.refl _ _⟩ 3 (.int .i64 q1.win.2) rfl
 have fa4 := HA.out ⟨W, Below.refl _ _⟩ 4 (.int .i64 q0.long) rfl
 have fb4 := HB.out ⟨W, Below.refl _ _⟩ 4 (.int .i64 q1.long) rfl
 have fa5 := HA.out ⟨W, Below.refl _ _⟩ 5 (.int .i64 q0.grid) rfl
 have fb5 := HB.out ⟨W, Below.refl _ _⟩ 5 (.int .i64 q1.grid) rfl
 have fa6 := HA.out ⟨W, Below.refl _ _⟩ 6 (.slice qa.A1 q0.must.length qa.c1) rfl
 have fb6 := HB.out ⟨W, Below.refl _ _⟩ 6 (.slice qb.A1 q1.must.length qb.c1) rfl
 have fa7 := HA.out ⟨W, Below.refl _ _⟩ 7 (.slice qa.A2 q0.may.length qa.c2) rfl
 have fb7 := HB.out ⟨W, Below.refl _ _⟩ 7 (.slice qb.A2 q1.may.length qb.c2) rfl
 have fa8 := HA.out ⟨W, Below.refl _ _⟩ 8 (.int .i64 q0.seats) rfl
 have fb8 := HB.out ⟨W, Below.refl _ _⟩ 8 (.int .i64 q1.seats) rfl
 have fa9 := HA.out ⟨W, Below.refl _ _⟩ 9 (.slice qa.A3 q0.apart.length qa.c3) rfl
 have fb9 := HB.out ⟨W, Below.refl _ _⟩ 9 (.slice qb.A3 q1.apart.length qb.c3) rfl
 have fa10 := HA.out ⟨W, Below.refl _ _⟩ 10 (.slice qa.A4 q0.prefer.length qa.c4) rfl
 have fb10 := HB.out ⟨W, Below.refl _ _⟩ 10 (.slice qb.A4 q1.prefer.length qb.c4) rfl
 have fa13 := HA.out ⟨W, Below.refl _ _⟩ 13 (.int .i64 m0) rfl
 have fb13 := HB.out ⟨W, Below.refl _ _⟩ 13 (.int .i64 m1) rfl
 have fa14 := HA.out ⟨W, Below.refl _ _⟩ 14 (.int .i64 t0) rfl
 have fb14 := HB.out ⟨W, Below.refl _ _⟩ 14 (.int .i64 t1) rfl
 have fa15 := HA.out ⟨W, Below.refl _ _⟩ 15 (.int .i64 n0) rfl
 have fb15 := HB.out ⟨W, Below.refl _ _⟩ 15 (.int .i64 n1) rfl
 try simp only at fa0 fb0 fa1 fb1 fa2 fb2 fa3 fb3 fa4 fb4 fa5 fb5 fa6 fb6 fa7 fb7 fa8 fb8 fa9 fb9 fa10 fb10 fa13 fb13 fa14 fb14 fa15 fb15
 by_cases h0 : i0 = i1
 rotate_left
 ·have eb0 : ((i0 : Int) != (i1 : Int)) = true := by simp; omega
  have eb0' : (i0 == i1) = false := by simpa using h0
  have E : Hid (r = false) := Bool.eq_false_iff.2 fun k => h0 (HR.out.1 k).1
  go_enter Tryz.func44, Tryz.ntmps44
  go_upto_region 1 with fail
  rw [E1.out]
  go_wp2_with fail
  go_ret
  exact ⟨ret_bool E.out.symm, HG.out ⟨W, Below.refl _ _⟩⟩
 subst h0
 by_cases h1 : o0 = o1
 rotate_left
 ·have eb1 : ((o0 : Int) != (o1 : Int)) = true := by simp; omega
  have eb1' : (o0 == o1) = false := by simpa using h1
  have E : Hid (r = false) := Bool.eq_false_iff.2 fun k => h1 (HR.out.1 k).2.1
  go_enter Tryz.func44, Tryz.ntmps44
  go_upto_region 1 with fail
  rw [E1.out]
  go_wp2_with fail
  go_ret
  exact ⟨ret_bool E.out.symm, HG.out ⟨W, Below.refl _ _⟩⟩
 subst h1
 by_cases h2 : m0 = m1
 rotate_left
 ·have eb2 : (m0 != m1) = true := by simpa using h2
  have ec2 : (m0 == m1) = false := by simpa using h2
  have E : Hid (r = false) := Bool.eq_false_iff.2 fun k => h2 (HR.out.1 k).2.2.1
  go_enter Tryz.func44, Tryz.ntmps44
  go_upto_region 1 with fail
  rw [E1.out]
  go_wp2_with fail
  go_ret
  exact ⟨ret_bool E.out.symm, HG.out ⟨W, Below.refl _ _⟩⟩
 subst h2
 by_cases h3 : t0 = t1
 rotate_left
 ·have eb3 : (t0 != t1) = true := by simpa using h3
  have ec3 : (t0 == t1) = false := by simpa using h3
  have E : Hid (r = false) := Bool.eq_false_iff.2 fun k => h3 (HR.out.1 k).2.2.2.1
  go_enter Tryz.func44, Tryz.ntmps44
  go_upto_region 1 with fail
  rw [E1.out]
  go_wp2_with fail
  go_ret
  exact ⟨ret_bool E.out.symm, HG.out ⟨W, Below.refl _ _⟩⟩
 subst h3
 by_cases h4 : n0 = n1
 rotate_left
 ·have eb4 : (n0 != n1) = true := by simpa using h4
  have ec4 : (n0 == n1) = false := by simpa using h4
  have E : Hid (r = false) := Bool.eq_false_iff.2 fun k => h4 (HR.out.1 k).2.2.2.2.1
  go_enter Tryz.func44, Tryz.ntmps44
  go_upto_region 1 with fail
  rw [E1.out]
  go_wp2_with fail
  go_ret
  exact ⟨ret_bool E.out.symm, HG.out ⟨W, Below.refl _ _⟩⟩
 subst h4
 go_enter Tryz.func44, Tryz.ntmps44
 go_upto_region 1 with fail
 rw [E1.out]
 go_wp2_with fail
 go_at_call 39
 refine (HQC.out _ (HG.out ⟨W, Below.refl _ _⟩)).mono ?_
 rintro e w5 ⟨v5, rfl, hv5, hb5⟩
 obtain ⟨g5, rfl⟩ := Gr.on ⟨W, Below.refl _ _⟩ hb5
 clear hb5
 clear fa0 fb0 fa1 fb1 fa2 fb2 fa3 fb3 fa4 fb4 fa5 fb5 fa6 fb6 fa7 fb7 fa8 fb8 fa9 fb9 fa10 fb10 fa13 fb13 fa14 fb14 fa15 fb15
 have fa11 := HA.out g5 11 (.slice A1 s0.length c1) rfl
 have fb11 := HB.out g5 11 (.slice B1 s1.length d1) rfl
 try simp only at fa11 fb11
 cases v5 with
 | false =>
  have hn5 : ¬ (q0 = q1) := fun k => by simpa using hv5.2 k
  have E : Hid (r = false) := Bool.eq_false_iff.2 fun k => hn5 (HR.out.1 k).2.2.2.2.2.1
  go_wp2_with fail
  go_ret
  exact ⟨ret_bool E.out.symm, HG.out g5⟩
 | true =>
  have HC5 : Hid (q0 = q1) := hv5.1 rfl
  clear hv5
  go_wp2_with fail
  go_at_call 81
  refine (eqLo_any s0 s1 A1 B1 c1 d1 _ (HSa1.out _ (HG.out g5)) (HSb1.out _ (HG.out g5))).mono ?_
  rintro e w6 ⟨rfl, hb6⟩
  obtain ⟨g6, rfl⟩ := Gr.on g5 hb6
  clear hb6
  have hv6 : decide (s0 = s1) = true ↔ s0 = s1 := by simp
  generalize decide (s0 = s1) = v6 at *
  clear fa11 fb11
  have fa12 := HA.out g6 12 (.slice A2 v0.length c2) rfl
  have fb12 := HB.out g6 12 (.slice B2 v1.length d2) rfl
  try simp only at fa12 fb12
  cases v6 with
  | false =>
   have hn6 : ¬ (s0 = s1) := fun k => by simpa using hv6.2 k
   have E : Hid (r = false) := Bool.eq_false_iff.2 fun k => hn6 (HR.out.1 k).2.2.2.2.2.2.1
   go_wp2_with fail
   go_ret
   exact ⟨ret_bool E.out.symm, HG.out g6⟩
  | true =>
   have HC6 : Hid (s0 = s1) := hv6.1 rfl
   clear hv6
   go_wp2_with fail
   go_at_call 89
   refine (eqVo_any v0 v1 A2 B2 c2 d2 _ (HSa2.out _ (HG.out g6)) (HSb2.out _ (HG.out g6))).mono ?_
   rintro e w7 ⟨rfl, hb7⟩
   obtain ⟨g7, rfl⟩ := Gr.on g6 hb7
   clear hb7
   have hv7 : decide (v0 = v1) = true ↔ v0 = v1 := by simp
   generalize decide (v0 = v1) = v7 at *
   clear fa12 fb12
   cases v7 with
   | false =>
    have hn7 : ¬ (v0 = v1) := fun k => by simpa using hv7.2 k
    have E : Hid (r = false) := Bool.eq_false_iff.2 fun k => hn7 (HR.out.1 k).2.2.2.2.2.2.2
    go_wp2_with fail
    go_ret
    exact ⟨ret_bool E.out.symm, HG.out g7⟩
   | true =>
    have HC7 : Hid (v0 = v1) := hv7.1 rfl
    clear hv7
    have E : Hid (r = true) := HR.out.2 ⟨(by first | rfl | trivial), (by first | rfl | trivial), (by first | rfl | trivial), (by first | rfl | trivial), (by first | rfl | trivial), HC5.out, HC6.out, HC7.out⟩
    go_wp2_with fail
    go_ret
    exact ⟨ret_bool E.out.symm, HG.out g7⟩
theorem Rp.sameP_iff (e0 : Int) (v0 : Nat) (s0 : List (Int × Int × Int)) (x0 : List UInt8) (p0 : Pl) (e1 : Int) (v1 : Nat) (s1 : List (Int × Int × Int)) (x1 : List UInt8) (p1 : Pl) :
  (⟨e0, v0, s0, x0, p0⟩ : Rp) = ⟨e1, v1, s1, x1, p1⟩ ↔ e0 = e1 ∧ v0 = v1 ∧ x0 = x1 ∧ s0 = s1 ∧ p0 = p1 := by
 constructor
 ·intro h; injection h with h1 h2 h3 h4 h5; exact ⟨h1, h2, h4, h3, h5⟩
 ·rintro ⟨rfl, rfl, rfl, rfl, rfl⟩; rfl
end Go.Proofs.YtdhinjbkfffpeaaGreat
end
