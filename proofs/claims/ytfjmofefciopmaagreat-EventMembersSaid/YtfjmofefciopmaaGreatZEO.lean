import Derived.Test.YtfjmofefciopmaaGreatZRO
import Derived.Test.YtfjmofefciopmaaGreatZEW4
import Derived.ChangeArms
/- An event that came in, opened: its numbers, its rule, its rows; a span. -/
section
namespace Go.Proofs.YtfjmofefciopmaaGreat
open Go.ChangeShapes Go.WideShapes Go.ChangeAt Go.RowKit Go.Joins Go.Deep Qr Ck Sp
section
variable {H : Type} {enc : TypeId × Value → H} {P : Program} {w : World} {base : Nat} {spare : Nat → Bool} {held : Bool}
theorem rule_cells {t ti td : TypeId} {f0 f1 f2 f3 f4 f5 f6 f7 f8 k0 k1 : Field} (hs : P.underlying t = some (.struct #[f0, f1, f2, f3, f4, f5, f6, f7, f8])) (hone : oneCellFields P #[f0, f1, f2, f3, f4, f5, f6, f7, f8] = true) (hC : P.cellsOf t = 9)
    (u0 : P.underlying f0.type = some (.int .i64)) (u1 : P.underlying f1.type = some (.int .i64)) (u2 : P.underlying f2.type = some (.int .i64)) (u3 : P.underlying f3.type = some (.int .i64)) (u8 : P.underlying f8.type = some (.int .i64))
    (u4 : P.underlying f4.type = some (.slice ti)) (u5 : P.underlying f5.type = some (.slice ti)) (u6 : P.underlying f6.type = some (.slice td)) (u7 : P.underlying f7.type = some (.slice ti))
    (ui : P.underlying ti = some (.int .i64)) (ci : P.cellsOf ti = 1) (ud : P.underlying td = some (.struct #[k0, k1])) (hone2 : oneCellFields P #[k0, k1] = true) (cd : P.cellsOf td = 2) (v0 : P.underlying k0.type = some (.int .i64)) (v1 : P.underlying k1.type = some (.int .i64))
    {fuel : Nat} {cs : List Value} {x : DataW H × List MemPlace} (hf : DataW.trod enc P w base spare held fuel t cs = some x) :
    ∃ (q : R) (A1 A2 A3 A4 : Option Addr) (c1 c2 c3 c4 : Nat), cs = (rcells q A1 A2 A3 A4 c1 c2 c3 c4).toList ∧ RAt w q A1 A2 A3 A4 c1 c2 c3 c4 := by
  obtain ⟨xs, m, _, _, hl, hlen, hg⟩ := DataW.trod_struct hs hf
  rw [hC] at hl
  match cs, hl, xs, hlen with
  | [c0, c1, c2, c3, c4, c5, c6, c7, c8], _, [y0, y1, y2, y3, y4, y5, y6, y7, y8], _ =>
    have g0 := hg 0 f0 rfl
    have g1 := hg 1 f1 rfl
    have g2 := hg 2 f2 rfl
    have g3 := hg 3 f3 rfl
    have g4 := hg 4 f4 rfl
    have g5 := hg 5 f5 rfl
    have g6 := hg 6 f6 rfl
    have g7 := hg 7 f7 rfl
    have g8 := hg 8 f8 rfl
    rw [(hone_of hone 0 f0 rfl).1, (hone_of hone 0 f0 rfl).2] at g0
    rw [(hone_of hone 1 f1 rfl).1, (hone_of hone 1 f1 rfl).2] at g1
    rw [(hone_of hone 2 f2 rfl).1, (hone_of hone 2 f2 rfl).2] at g2
    rw [(hone_of hone 3 f3 rfl).1, (hone_of hone 3 f3 rfl).2] at g3
    rw [(hone_of hone 4 f4 rfl).1, (hone_of hone 4 f4 rfl).2] at g4
    rw [(hone_of hone 5 f5 rfl).1, (hone_of hone 5 f5 rfl).2] at g5
    rw [(hone_of hone 6 f6 rfl).1, (hone_of hone 6 f6 rfl).2] at g6
    rw [(hone_of hone 7 f7 rfl).1, (hone_of hone 7 f7 rfl).2] at g7
    rw [(hone_of hone 8 f8 rfl).1, (hone_of hone 8 f8 rfl).2] at g8
    obtain ⟨x0, e0, _, _⟩ := DataW.trod_int u0 (cs := [c0]) (x := y0) g0
    obtain ⟨x1, e1, _, _⟩ := DataW.trod_int u1 (cs := [c1]) (x := y1) g1
    obtain ⟨x2, e2, _, _⟩ := DataW.trod_int u2 (cs := [c2]) (x := y2) g2
    obtain ⟨x3, e3, _, _⟩ := DataW.trod_int u3 (cs := [c3]) (x := y3) g3
    obtain ⟨x8, e8, _, _⟩ := DataW.trod_int u8 (cs := [c8]) (x := y8) g8
    simp only [List.cons.injEq, and_true] at e0 e1 e2 e3 e8
    obtain ⟨A1, n1, l1, e4, s1⟩ := intsSl (v := c4) (x := y4) u4 ui ci g4
    obtain ⟨A2, n2, l2, e5, s2⟩ := intsSl (v := c5) (x := y5) u5 ui ci g5
    obtain ⟨A3, n3, l3, e6, s3⟩ := pairsSl (v := c6) (x := y6) u6 ud hone2 cd v0 v1 g6
    obtain ⟨A4, n4, l4, e7, s4⟩ := intsSl (v := c7) (x := y7) u7 ui ci g7
    subst e0 e1 e2 e3 e4 e5 e6 e7 e8
    exact ⟨⟨x0, x1, x2, x3, l1, l2, l3, l4, x8⟩, A1, A2, A3, A4, n1, n2, n3, n4, rfl, ⟨s1, s2, s3, s4⟩⟩
theorem triplesSl {ts t : TypeId} {f0 f1 f2 : Field} {fuel : Nat} {v : Value} {x : DataW H × List MemPlace} (hts : P.underlying ts = some (.slice t)) (hs : P.underlying t = some (.struct #[f0, f1, f2])) (hone : oneCellFields P #[f0, f1, f2] = true) (hC : P.cellsOf t = 3)
    (u0 : P.underlying f0.type = some (.int .i64)) (u1 : P.underlying f1.type = some (.int .i64)) (u2 : P.underlying f2.type = some (.int .i64))
    (h : DataW.trod enc P w base spare held fuel ts [v] = some x) : ∃ (A : Option Addr) (c : Nat) (l : List (Int × Int × Int)), v = .slice A l.length c ∧ Sl w A l.length c (cv l) := by
  rcases open_slice hts h with ⟨hcs, _⟩ | ⟨a, len, cap, m, n, D, Pl, hcs, _, hl, hm, hmm, _, hx⟩
  · simp only [List.cons.injEq, and_true] at hcs
    exact ⟨none, 0, [], hcs, Sl.none_ _⟩
  · simp only [List.cons.injEq, and_true] at hcs
    subst hcs
    have hlm : len ≤ m := by rw [hmm]; split <;> omega
    have each : ∀ i, ∃ o : Int × Int × Int, i < len → w.cell? (a.add (i * 3)) = some (.int .i64 o.1) ∧ w.cell? (a.add (i * 3 + 1)) = some (.int .i64 o.2.1) ∧ w.cell? (a.add (i * 3 + 2)) = some (.int .i64 o.2.2) := by
      intro i
      by_cases hi : i < len
      · obtain ⟨cs', hc, ht'⟩ := hx i (by omega)
        rw [hC] at hc
        obtain ⟨_, hcl, hat⟩ := World.cells?_some hc
        obtain ⟨xs, k, _, _, hl2, hlen2, hg⟩ := DataW.trod_struct hs ht'
        rw [hC] at hl2
        match cs', hl2, xs, hlen2 with
        | [c0, c1, c2], _, [y0, y1, y2], _ =>
          have g0 := hg 0 f0 rfl
          have g1 := hg 1 f1 rfl
          have g2 := hg 2 f2 rfl
          rw [(hone_of hone 0 f0 rfl).1, (hone_of hone 0 f0 rfl).2] at g0
          rw [(hone_of hone 1 f1 rfl).1, (hone_of hone 1 f1 rfl).2] at g1
          rw [(hone_of hone 2 f2 rfl).1, (hone_of hone 2 f2 rfl).2] at g2
          obtain ⟨x0, e0, _, _⟩ := DataW.trod_int u0 (cs := [c0]) (x := y0) g0
          obtain ⟨x1, e1, _, _⟩ := DataW.trod_int u1 (cs := [c1]) (x := y1) g1
          obtain ⟨x2, e2, _, _⟩ := DataW.trod_int u2 (cs := [c2]) (x := y2) g2
          simp only [List.cons.injEq, and_true] at e0 e1 e2
          subst e0 e1 e2
          refine ⟨(x0, x1, x2), fun _ => ⟨?_, ?_, ?_⟩⟩
          · have := hat 0 (by omega); simpa [Go.Deep.add_add] using this
          · have := hat 1 (by omega); simpa [Go.Deep.add_add] using this
          · have := hat 2 (by omega); simpa [Go.Deep.add_add] using this
      · exact ⟨(0, 0, 0), fun h => absurd h hi⟩
    have hch : ∃ f : Nat → Int × Int × Int, ∀ i, i < len → w.cell? (a.add (i * 3)) = some (.int .i64 (f i).1) ∧ w.cell? (a.add (i * 3 + 1)) = some (.int .i64 (f i).2.1) ∧ w.cell? (a.add (i * 3 + 2)) = some (.int .i64 (f i).2.2) := ⟨fun i => (each i).choose, fun i => (each i).choose_spec⟩
    obtain ⟨f, hf⟩ := hch
    have hlen : ((List.range len).map f).length = len := by simp
    refine ⟨some a, cap, (List.range len).map f, by rw [hlen], ⟨by rw [hlen]; exact hl, hm, (fun h => by cases h), fun hn => ?_⟩⟩
    rw [cv_tv, tv_len, hlen] at hn
    have h0 : 0 < len := by omega
    obtain ⟨b, off, spot⟩ := a
    have q0 := (hf 0 h0).1
    have hspot : spot = none := by simpa [Addr.add] using World.cell?_spot q0
    subst hspot
    refine ⟨b, off, rfl, by have := World.block_lt_of_cell? _ _ q0; simpa [Addr.add] using this, fun i u hi => ?_⟩
    rw [cv_tv] at hi
    have hil : i < len * 3 := by have := (List.getElem?_eq_some_iff.1 hi).1; rwa [tv_len, hlen] at this
    have hq : i / 3 < len := by omega
    have hk := tv_at (l := (List.range len).map f) (i := i / 3) (s := f (i / 3)) (by simp [hq])
    obtain ⟨z0, z1, z2⟩ := hf (i / 3) hq
    rw [Addr.add_lit] at z0 z1 z2
    have h3 : i % 3 = 0 ∨ i % 3 = 1 ∨ i % 3 = 2 := by omega
    rcases h3 with h2 | h2 | h2
    · have e : i / 3 * 3 = i := by omega
      rw [e, hi] at hk
      rw [e] at z0
      rw [z0, ← hk.1]
    · have e : i / 3 * 3 + 1 = i := by omega
      rw [e, hi] at hk
      rw [e] at z1
      rw [z1, ← hk.2.1]
    · have e : i / 3 * 3 + 2 = i := by omega
      rw [e, hi] at hk
      rw [e] at z2
      rw [z2, ← hk.2.2]
theorem open_event {t : TypeId} {f0 f1 f2 f3 f4 f5 f6 f7 r0 r1 r2 r3 r4 r5 r6 r7 r8 k0 k1 m0 m1 m2 : Field} {ti td tc te : TypeId} (hs : P.underlying t = some (.struct #[f0, f1, f2, f3, f4, f5, f6, f7])) (hC : P.cellsOf t = 16)
    (o0 : f0.offset = 0 ∧ P.cellsOf f0.type = 1) (o1 : f1.offset = 1 ∧ P.cellsOf f1.type = 1) (o2 : f2.offset = 2 ∧ P.cellsOf f2.type = 1) (o3 : f3.offset = 3 ∧ P.cellsOf f3.type = 1) (o4 : f4.offset = 4 ∧ P.cellsOf f4.type = 9) (o5 : f5.offset = 13 ∧ P.cellsOf f5.type = 1) (o6 : f6.offset = 14 ∧ P.cellsOf f6.type = 1) (o7 : f7.offset = 15 ∧ P.cellsOf f7.type = 1)
    (v0 : P.underlying f0.type = some (.int .i64)) (v1 : P.underlying f1.type = some (.int .i64)) (v2 : P.underlying f2.type = some .bool) (v3 : P.underlying f3.type = some .bool)
    (v5 : P.underlying f5.type = some (.slice te)) (v6 : P.underlying f6.type = some (.slice te)) (v7 : P.underlying f7.type = some (.slice tc)) (ue : P.underlying te = some (.int .i64)) (ce : P.cellsOf te = 1)
    (uc : P.underlying tc = some (.struct #[m0, m1, m2])) (hone3 : oneCellFields P #[m0, m1, m2] = true) (cc : P.cellsOf tc = 3) (w0 : P.underlying m0.type = some (.int .i64)) (w1 : P.underlying m1.type = some (.int .i64)) (w2 : P.underlying m2.type = some (.int .i64))
    (hr : P.underlying f4.type = some (.struct #[r0, r1, r2, r3, r4, r5, r6, r7, r8])) (hone : oneCellFields P #[r0, r1, r2, r3, r4, r5, r6, r7, r8] = true) (hC9 : P.cellsOf f4.type = 9)
    (u0 : P.underlying r0.type = some (.int .i64)) (u1 : P.underlying r1.type = some (.int .i64)) (u2 : P.underlying r2.type = some (.int .i64)) (u3 : P.underlying r3.type = some (.int .i64)) (u8 : P.underlying r8.type = some (.int .i64))
    (u4 : P.underlying r4.type = some (.slice ti)) (u5 : P.underlying r5.type = some (.slice ti)) (u6 : P.underlying r6.type = some (.slice td)) (u7 : P.underlying r7.type = some (.slice ti))
    (ui : P.underlying ti = some (.int .i64)) (ci : P.cellsOf ti = 1) (ud : P.underlying td = some (.struct #[k0, k1])) (hone2 : oneCellFields P #[k0, k1] = true) (cd : P.cellsOf td = 2) (x0 : P.underlying k0.type = some (.int .i64)) (x1 : P.underlying k1.type = some (.int .i64))
    {r : Reach} {b0 : Nat} {v : Value} {dd : DataW H} {p : List MemPlace} (hv : Value.okWide P w r b0 t v) (h : DataW.Trod enc P w base spare held t v dd p) :
    ∃ (e : Evt) (A1 A2 A3 A4 A5 A6 A7 : Option Addr) (c1 c2 c3 c4 c5 c6 c7 : Nat), v = .agg (ecells e A1 A2 A3 A4 A5 A6 A7 c1 c2 c3 c4 c5 c6 c7) ∧ EAt w e A1 A2 A3 A4 A5 A6 A7 c1 c2 c3 c4 c5 c6 c7 ∧ (-9223372036854775808 ≤ e.start ∧ e.start ≤ 9223372036854775807) := by
  obtain ⟨cs, rfl, _⟩ := okWide_struct hs hv
  obtain ⟨fuel, hf⟩ := h
  obtain ⟨xs, m, _, _, hl, hlen, hg⟩ := DataW.trod_struct hs hf
  rw [hC] at hl
  obtain ⟨cs⟩ := cs
  have hcs : (Value.cells (.agg ⟨cs⟩)).toList = cs := by simp [Value.cells]
  rw [hcs] at hl hg
  match cs, hl, xs, hlen with
  | [c0, c1, c2, c3, c4, c5, c6, c7, c8, c9, c10, c11, c12, c13, c14, c15], _, [y0, y1, y2, y3, y4, y5, y6, y7], _ =>
    have g0 := hg 0 f0 rfl
    rw [o0.1, o0.2] at g0
    have g1 := hg 1 f1 rfl
    rw [o1.1, o1.2] at g1
    have g2 := hg 2 f2 rfl
    rw [o2.1, o2.2] at g2
    have g3 := hg 3 f3 rfl
    rw [o3.1, o3.2] at g3
    have g4 := hg 4 f4 rfl
    rw [o4.1, o4.2] at g4
    have g5 := hg 5 f5 rfl
    rw [o5.1, o5.2] at g5
    have g6 := hg 6 f6 rfl
    rw [o6.1, o6.2] at g6
    have g7 := hg 7 f7 rfl
    rw [o7.1, o7.2] at g7
    obtain ⟨z0, e0, _, wf0⟩ := DataW.trod_int v0 (cs := [c0]) (x := y0) g0
    obtain ⟨z1, e1, _, _⟩ := DataW.trod_int v1 (cs := [c1]) (x := y1) g1
    obtain ⟨z2, e2, _⟩ := DataW.trod_bool v2 (cs := [c2]) (x := y2) g2
    obtain ⟨z3, e3, _⟩ := DataW.trod_bool v3 (cs := [c3]) (x := y3) g3
    obtain ⟨q, A1, A2, A3, A4, n1, n2, n3, n4, eq, hra⟩ := rule_cells hr hone hC9 u0 u1 u2 u3 u8 u4 u5 u6 u7 ui ci ud hone2 cd x0 x1 (cs := [c4, c5, c6, c7, c8, c9, c10, c11, c12]) (x := y4) g4
    obtain ⟨A5, n5, l5, e5, s5⟩ := intsSl (v := c13) (x := y5) v5 ue ce g5
    obtain ⟨A6, n6, l6, e6, s6⟩ := intsSl (v := c14) (x := y6) v6 ue ce g6
    obtain ⟨A7, n7, l7, e7, s7⟩ := triplesSl (v := c15) (x := y7) v7 uc hone3 cc w0 w1 w2 g7
    simp only [List.cons.injEq, and_true] at e0 e1 e2 e3
    unfold rcells at eq
    simp only [List.cons.injEq, and_true] at eq
    obtain ⟨rfl, rfl, rfl, rfl, rfl, rfl, rfl, rfl, rfl⟩ := eq
    subst e0 e1 e2 e3 e5 e6 e7
    exact ⟨⟨z0, z1, z2, z3, q, l5, l6, l7⟩, A1, A2, A3, A4, A5, A6, A7, n1, n2, n3, n4, n5, n6, n7, rfl, ⟨hra, s5, s6, s7⟩, bounds_i64 wf0⟩
theorem open_span {t : TypeId} {f0 f1 : Field} (hs : P.underlying t = some (.struct #[f0, f1])) (hone : oneCellFields P #[f0, f1] = true) (hC : P.cellsOf t = 2) (u0 : P.underlying f0.type = some (.int .i64)) (u1 : P.underlying f1.type = some (.int .i64))
    {r : Reach} {b0 : Nat} {v : Value} {dd : DataW H} {p : List MemPlace} (hv : Value.okWide P w r b0 t v) (h : DataW.Trod enc P w base spare held t v dd p) :
    ∃ x1 x2 : Int, v = .agg #[.int .i64 x1, .int .i64 x2] ∧ (-9223372036854775808 ≤ x1 ∧ x1 ≤ 9223372036854775807) ∧ (-9223372036854775808 ≤ x2 ∧ x2 ≤ 9223372036854775807) := by
  obtain ⟨cs, rfl, _⟩ := okWide_struct hs hv
  obtain ⟨fuel, hf⟩ := h
  obtain ⟨xs, m, _, _, hl, hlen, hg⟩ := DataW.trod_struct hs hf
  rw [hC] at hl
  obtain ⟨cs⟩ := cs
  have hcs : (Value.cells (.agg ⟨cs⟩)).toList = cs := by simp [Value.cells]
  rw [hcs] at hl hg
  match cs, hl, xs, hlen with
  | [c0, c1], _, [y0, y1], _ =>
    have g0 := hg 0 f0 rfl
    have g1 := hg 1 f1 rfl
    rw [(hone_of hone 0 f0 rfl).1, (hone_of hone 0 f0 rfl).2] at g0
    rw [(hone_of hone 1 f1 rfl).1, (hone_of hone 1 f1 rfl).2] at g1
    obtain ⟨z0, e0, _, wf0⟩ := DataW.trod_int u0 (cs := [c0]) (x := y0) g0
    obtain ⟨z1, e1, _, wf1⟩ := DataW.trod_int u1 (cs := [c1]) (x := y1) g1
    simp only [List.cons.injEq, and_true] at e0 e1
    subst e0 e1
    exact ⟨z0, z1, rfl, bounds_i64 wf0, bounds_i64 wf1⟩
end
end Go.Proofs.YtfjmofefciopmaaGreat
end
