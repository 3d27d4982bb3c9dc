import Derived.Test.YtgmcacmdiiogmaaZNL
import Derived.Test.YtgmcacmdiiogmaaZCUB
import Derived.Test.YtgmcacmdiiogmaaZCV2
/- Operations, moves, rows of rows of spans that came in, opened. -/
section
namespace Go.Proofs.Ytgmcacmdiiogmaa
open Go.ChangeShapes Go.WideShapes Go.ChangeAt Go.RowKit Go.Joins Go.Deep Sp

section
variable {H : Type} {enc : TypeId × Value → H} {P : Program} {w : World} {base : Nat} {spare : Nat → Bool} {held : Bool}
set_option maxRecDepth 100000 in
theorem span_read {t : TypeId} {f0 f1 : Field} (hs : P.underlying t = some (.struct #[f0, f1])) (hone : oneCellFields P #[f0, f1] = true) (hC : P.cellsOf t = 2) (u0 : P.underlying f0.type = some (.int .i64)) (u1 : P.underlying f1.type = some (.int .i64))
    {n : Nat} {cs : List Value} {y : DataW H × List MemPlace} (h : DataW.trod enc P w base spare held n t cs = some y) : ∃ x1 x2 : Int, cs = [.int .i64 x1, .int .i64 x2] ∧ Int64P x1 ∧ Int64P x2 := by
  obtain ⟨xs, m, _, _, hl, hlen, hg⟩ := DataW.trod_struct hs h
  rw [hC] at hl
  match cs, hl, xs, hlen with
  | [c0, c1], _, [y0, y1], _ =>
    have g0 := hg 0 f0 rfl
    have g1 := hg 1 f1 rfl
    rw [(hone_of hone 0 f0 rfl).1, (hone_of hone 0 f0 rfl).2] at g0
    rw [(hone_of hone 1 f1 rfl).1, (hone_of hone 1 f1 rfl).2] at g1
    obtain ⟨x0, e0, _, b0⟩ := DataW.trod_int u0 (cs := [c0]) (x := y0) g0
    obtain ⟨x1, e1, _, b1⟩ := DataW.trod_int u1 (cs := [c1]) (x := y1) g1
    simp only [List.cons.injEq, and_true] at e0 e1
    subst e0 e1
    exact ⟨x0, x1, rfl, bounds_i64 b0, bounds_i64 b1⟩
set_option maxRecDepth 100000 in
theorem op14_read {t ts : TypeId} {f0 f1 f2 f3 f4 f5 k0 k1 : Field} (hs : P.underlying t = some (.struct #[f0, f1, f2, f3, f4, f5])) (hC : P.cellsOf t = 7)
    (o0 : f0.offset = 0 ∧ P.cellsOf f0.type = 1) (o1 : f1.offset = 1 ∧ P.cellsOf f1.type = 1) (o2 : f2.offset = 2 ∧ P.cellsOf f2.type = 1) (o3 : f3.offset = 3 ∧ P.cellsOf f3.type = 2) (o4 : f4.offset = 5 ∧ P.cellsOf f4.type = 1) (o5 : f5.offset = 6 ∧ P.cellsOf f5.type = 1)
    (u0 : P.underlying f0.type = some (.int .i64)) (u1 : P.underlying f1.type = some (.slice ts)) (u2 : P.underlying f2.type = some (.int .i64)) (u4 : P.underlying f4.type = some (.int .i64)) (u5 : P.underlying f5.type = some (.int .i64))
    (us : P.underlying ts = some (.struct #[k0, k1])) (hone : oneCellFields P #[k0, k1] = true) (hC2 : P.cellsOf ts = 2) (v0 : P.underlying k0.type = some (.int .i64)) (v1 : P.underlying k1.type = some (.int .i64)) (u3 : f3.type = ts)
    {n : Nat} {cs : List Value} {y : DataW H × List MemPlace} (h : DataW.trod enc P w base spare held n t cs = some y) : ∃ (o : Op14) (Ai : Option Addr) (di : Nat), cs = o.cells Ai di ∧ o.Ok ∧ Sl w Ai o.l.length di (sv o.l) := by
  obtain ⟨xs, m, _, _, hl, hlen, hg⟩ := DataW.trod_struct hs h
  rw [hC] at hl
  match cs, hl, xs, hlen with
  | [c0, c1, c2, c3, c4, c5, c6], _, [y0, y1, y2, y3, y4, y5], _ =>
    have g0 := hg 0 f0 rfl
    have g1 := hg 1 f1 rfl
    have g2 := hg 2 f2 rfl
    have g3 := hg 3 f3 rfl
    have g4 := hg 4 f4 rfl
    have g5 := hg 5 f5 rfl
    rw [o0.1, o0.2] at g0
    rw [o1.1, o1.2] at g1
    rw [o2.1, o2.2] at g2
    rw [o3.1, o3.2] at g3
    rw [o4.1, o4.2] at g4
    rw [o5.1, o5.2] at g5
    obtain ⟨x0, e0, _, b0⟩ := DataW.trod_int u0 (cs := [c0]) (x := y0) g0
    obtain ⟨A1, n1, l1, e1, s1, i1⟩ := spansSl (v := c1) (x := y1) u1 us hone hC2 v0 v1 g1
    obtain ⟨x2, e2, _, b2⟩ := DataW.trod_int u2 (cs := [c2]) (x := y2) g2
    rw [u3] at g3
    obtain ⟨w1, w2, e3, q1, q2⟩ := span_read us hone hC2 v0 v1 (cs := [c3, c4]) (y := y3) g3
    obtain ⟨x4, e4, _, b4⟩ := DataW.trod_int u4 (cs := [c5]) (x := y4) g4
    obtain ⟨x5, e5, _, b5⟩ := DataW.trod_int u5 (cs := [c6]) (x := y5) g5
    simp only [List.cons.injEq, and_true] at e0 e2 e3 e4 e5
    obtain ⟨rfl, rfl⟩ := e3
    subst e0 e1 e2 e4 e5
    exact ⟨⟨x0, l1, x2, w1, w2, x4, x5⟩, A1, n1, rfl, ⟨bounds_i64 b2, q1, q2, bounds_i64 b4, bounds_i64 b5, i1⟩, s1⟩
set_option maxRecDepth 100000 in
theorem movesSl {ts t : TypeId} {f0 f1 : Field} {fuel : Nat} {v : Value} {x : DataW H × List MemPlace} (hts : P.underlying ts = some (.slice t)) (hs : P.underlying t = some (.struct #[f0, f1])) (hone : oneCellFields P #[f0, f1] = true) (hC : P.cellsOf t = 2)
    (u0 : P.underlying f0.type = some .bool) (u1 : P.underlying f1.type = some (.int .i64))
    (h : DataW.trod enc P w base spare held fuel ts [v] = some x) : ∃ (A : Option Addr) (c : Nat) (l : List (Bool × Int)), v = .slice A l.length c ∧ Sl w A l.length c (mvv l) ∧ ∀ s ∈ l, Int64P s.2 := by
  rcases open_slice hts h with ⟨hcs, _⟩ | ⟨a, len, cap, m, n, D, Pl, hcs, _, hl, hm, hmm, _, hx⟩
  · simp only [List.cons.injEq, and_true] at hcs
    exact ⟨none, 0, [], hcs, Sl.none_ _, fun s hs => by cases hs⟩
  · simp only [List.cons.injEq, and_true] at hcs
    subst hcs
    have hlm : len ≤ m := by rw [hmm]; split <;> omega
    have each : ∀ i, ∃ o : Bool × Int, i < len → w.cell? (a.add (i * 2)) = some (.bool o.1) ∧ w.cell? (a.add (i * 2 + 1)) = some (.int .i64 o.2) ∧ Int64P o.2 := by
      intro i
      by_cases hi : i < len
      · obtain ⟨cs', hc, ht'⟩ := hx i (by omega)
        rw [hC] at hc
        obtain ⟨_, hcl, hat⟩ := World.cells?_some hc
        obtain ⟨xs, k, _, _, hl2, hlen2, hg⟩ := DataW.trod_struct hs ht'
        rw [hC] at hl2
        match cs', hl2, xs, hlen2 with
        | [c0, c1], _, [y0, y1], _ =>
          have g0 := hg 0 f0 rfl
          have g1 := hg 1 f1 rfl
          rw [(hone_of hone 0 f0 rfl).1, (hone_of hone 0 f0 rfl).2] at g0
          rw [(hone_of hone 1 f1 rfl).1, (hone_of hone 1 f1 rfl).2] at g1
          obtain ⟨x0, e0, _⟩ := DataW.trod_bool u0 (cs := [c0]) (x := y0) g0
          obtain ⟨x1, e1, _, wf1⟩ := DataW.trod_int u1 (cs := [c1]) (x := y1) g1
          simp only [List.cons.injEq, and_true] at e0 e1
          subst e0 e1
          refine ⟨(x0, x1), fun _ => ⟨?_, ?_, bounds_i64 wf1⟩⟩
          · have := hat 0 (by omega); simpa [Go.Deep.add_add] using this
          · have := hat 1 (by omega); simpa [Go.Deep.add_add] using this
      · exact ⟨(false, 0), fun h => absurd h hi⟩
    have hch : ∃ f : Nat → Bool × Int, ∀ i, i < len → w.cell? (a.add (i * 2)) = some (.bool (f i).1) ∧ w.cell? (a.add (i * 2 + 1)) = some (.int .i64 (f i).2) ∧ Int64P (f i).2 := ⟨fun i => (each i).choose, fun i => (each i).choose_spec⟩
    obtain ⟨f, hf⟩ := hch
    have hlen : ((List.range len).map f).length = len := by simp
    refine ⟨some a, cap, (List.range len).map f, by rw [hlen], ⟨by rw [hlen]; exact hl, hm, (fun h => by cases h), fun hn => ?_⟩, fun s hs => ?_⟩
    rotate_left
    · obtain ⟨i, hi, rfl⟩ := List.mem_map.1 hs
      have := hf i (List.mem_range.1 hi)
      exact this.2.2
    rw [mvv_len, hlen] at hn
    have h0 : 0 < len := by omega
    obtain ⟨b, off, spot⟩ := a
    have q0 := (hf 0 h0).1
    have hspot : spot = none := by simpa [Addr.add] using World.cell?_spot q0
    subst hspot
    refine ⟨b, off, rfl, by have := World.block_lt_of_cell? _ _ q0; simpa [Addr.add] using this, fun i u hi => ?_⟩
    have hil : i < len * 2 := by have := (List.getElem?_eq_some_iff.1 hi).1; rwa [mvv_len, hlen] at this
    have hq : i / 2 < len := by omega
    have hk := mvv_at (l := (List.range len).map f) (i := i / 2) (s := f (i / 2)) (by simp [hq])
    obtain ⟨z0, z1, _⟩ := hf (i / 2) hq
    rw [Addr.add_lit] at z0 z1
    rcases Nat.mod_two_eq_zero_or_one i with h2 | h2
    · have e : i / 2 * 2 = i := by omega
      rw [e, hi] at hk
      rw [e] at z0
      rw [z0, ← hk.1]
    · have e : i / 2 * 2 + 1 = i := by omega
      rw [e, hi] at hk
      rw [e] at z1
      rw [z1, ← hk.2]

set_option maxRecDepth 100000 in
theorem rowsSs {tss ts t : TypeId} {f0 f1 : Field} {fuel : Nat} {v : Value} {x : DataW H × List MemPlace} (htt : P.underlying tss = some (.slice ts)) (hCs : P.cellsOf ts = 1) (hts : P.underlying ts = some (.slice t)) (hs : P.underlying t = some (.struct #[f0, f1])) (hone : oneCellFields P #[f0, f1] = true) (hC : P.cellsOf t = 2)
    (u0 : P.underlying f0.type = some (.int .i64)) (u1 : P.underlying f1.type = some (.int .i64))
    (h : DataW.trod enc P w base spare held fuel tss [v] = some x) : ∃ (A : Option Addr) (c : Nat) (ls : List (List Spn)), v = .slice A ls.length c ∧ SsAt w A ls ∧ (∀ l ∈ ls, In64 l) ∧ (ls.length : Int) ≤ 9223372036854775807 := by
  rcases open_slice htt h with ⟨hcs, _⟩ | ⟨a, len, cap, m, n, D, Pl, hcs, _, hl, hm, hmm, _, hx⟩
  · simp only [List.cons.injEq, and_true] at hcs
    exact ⟨none, 0, [], hcs, fun h => absurd h (by simp), (fun l hl => by cases hl), by simp⟩
  · simp only [List.cons.injEq, and_true] at hcs
    subst hcs
    have hlm : len ≤ m := by rw [hmm]; split <;> omega
    have each : ∀ i, ∃ (l : List Spn) (Ai : Option Addr) (di : Nat), i < len → w.cell? (a.add i) = some (.slice Ai l.length di) ∧ Sl w Ai l.length di (sv l) ∧ In64 l := by
      intro i
      by_cases hi : i < len
      · obtain ⟨cs', hc, ht'⟩ := hx i (by omega)
        rw [hCs] at hc
        obtain ⟨_, hcl, hat⟩ := World.cells?_some hc
        match cs', hcl with
        | [c0], _ =>
          obtain ⟨Ai, di, l, rfl, h1, h2⟩ := spansSl hts hs hone hC u0 u1 ht'
          refine ⟨l, Ai, di, fun _ => ⟨?_, h1, h2⟩⟩
          have := hat 0 (by omega)
          simpa [Go.Deep.add_add] using this
      · exact ⟨[], none, 0, fun h => absurd h hi⟩
    have hch : ∃ f : Nat → List Spn × Option Addr × Nat, ∀ i, i < len → w.cell? (a.add i) = some (.slice (f i).2.1 (f i).1.length (f i).2.2) ∧ Sl w (f i).2.1 (f i).1.length (f i).2.2 (sv (f i).1) ∧ In64 (f i).1 :=
      ⟨fun i => ((each i).choose, (each i).choose_spec.choose, (each i).choose_spec.choose_spec.choose), fun i => (each i).choose_spec.choose_spec.choose_spec⟩
    obtain ⟨f, hf⟩ := hch
    have hlen : ((List.range len).map fun i => (f i).1).length = len := by simp
    refine ⟨some a, cap, (List.range len).map fun i => (f i).1, by rw [hlen], fun hn => ?_, fun l hl' => ?_, by rw [hlen]; unfold maxLen at hm; omega⟩
    · rw [hlen] at hn
      obtain ⟨b, off, spot⟩ := a
      have q0 := (hf 0 hn).1
      have hspot : spot = none := by simpa [Addr.add] using World.cell?_spot q0
      subst hspot
      refine ⟨b, off, rfl, by have := World.block_lt_of_cell? _ _ q0; simpa [Addr.add] using this, fun i l hi => ?_⟩
      have hil : i < len := by have := (List.getElem?_eq_some_iff.1 hi).1; simpa using this
      obtain rfl : (f i).1 = l := by simpa [hil] using hi
      refine ⟨(f i).2.1, (f i).2.2, ?_, (hf i hil).2.1⟩
      have := (hf i hil).1
      rw [Addr.add_lit] at this
      exact this
    · obtain ⟨i, hi, rfl⟩ := List.mem_map.1 hl'
      exact (hf i (by simpa using hi)).2.2
end
section
variable {H : Type} {enc : TypeId × Value → H} {w : World} {base : Nat} {spare : Nat → Bool} {held : Bool}
set_option maxRecDepth 100000 in
/-- Operations that came in. -/
theorem open_ops14 {r : Reach} {b0 : Nat} {v : Value} {d : DataW H} {p : List MemPlace} (hv : Value.okWide Try.prog w r b0 22 v) (h : DataW.Trod enc Try.prog w base spare held 22 v d p) :
    ∃ (A : Option Addr) (c : Nat) (l : List Op14), v = .slice A l.length c ∧ OpsAt w A l ∧ (∀ o ∈ l, o.Ok) ∧ (l.length : Int) ≤ 9223372036854775807 := by
  have hts := Try.underlying22
  have hC : Try.prog.cellsOf 53 = 7 := by kernel_rfl
  obtain ⟨a1, len, cap, rfl⟩ := okWide_slice hts hv
  obtain ⟨fuel, hf⟩ := h
  rcases open_slice hts hf with ⟨hcs, _⟩ | ⟨a, len', cap', m, n, D, Pl, hcs, _, hl, hm, hmm, _, hx⟩
  · simp [Value.cells] at hcs
    obtain ⟨rfl, rfl, rfl⟩ := hcs
    exact ⟨none, 0, [], rfl, fun h => absurd h (by simp), (fun o ho => by cases ho), by simp⟩
  · simp [Value.cells] at hcs
    obtain ⟨rfl, rfl, rfl⟩ := hcs
    have hlm : len ≤ m := by rw [hmm]; split <;> omega
    have each : ∀ i, ∃ (o : Op14) (Ai : Option Addr) (di : Nat), i < len → o.Ok ∧ Sl w Ai o.l.length di (sv o.l) ∧ ∀ j v, (o.cells Ai di)[j]? = some v → w.cell? (a.add (i * 7 + j)) = some v := by
      intro i
      by_cases hi : i < len
      · obtain ⟨cs', hc, ht'⟩ := hx i (by omega)
        rw [hC] at hc
        obtain ⟨_, hcl, hat⟩ := World.cells?_some hc
        obtain ⟨o, Ai, di, rfl, ho, hsl⟩ := op14_read Try.underlying53 hC ⟨by kernel_rfl, by kernel_rfl⟩ ⟨by kernel_rfl, by kernel_rfl⟩ ⟨by kernel_rfl, by kernel_rfl⟩ ⟨by kernel_rfl, by kernel_rfl⟩ ⟨by kernel_rfl, by kernel_rfl⟩ ⟨by kernel_rfl, by kernel_rfl⟩ Try.underlying3 Try.underlying28 Try.underlying3 Try.underlying2 Try.underlying2 Try.underlying33 (by kernel_rfl) (by kernel_rfl) Try.underlying2 Try.underlying2 rfl ht'
        refine ⟨o, Ai, di, fun _ => ⟨ho, hsl, fun j v hj => ?_⟩⟩
        have hj7 : j < 7 := by have := (List.getElem?_eq_some_iff.1 hj).1; simpa [Op14.cells] using this
        rw [← Go.Deep.add_add, hat j hj7, hj]
      · exact ⟨⟨0, [], 0, 0, 0, 0, 0⟩, none, 0, fun h => absurd h hi⟩
    have hch : ∃ f : Nat → Op14 × Option Addr × Nat, ∀ i, i < len → (f i).1.Ok ∧ Sl w (f i).2.1 (f i).1.l.length (f i).2.2 (sv (f i).1.l) ∧ ∀ j v, ((f i).1.cells (f i).2.1 (f i).2.2)[j]? = some v → w.cell? (a.add (i * 7 + j)) = some v :=
      ⟨fun i => ((each i).choose, (each i).choose_spec.choose, (each i).choose_spec.choose_spec.choose), fun i => (each i).choose_spec.choose_spec.choose_spec⟩
    obtain ⟨f, hf⟩ := hch
    have hlen : ((List.range len).map fun i => (f i).1).length = len := by simp
    refine ⟨some a, cap, (List.range len).map fun i => (f i).1, by rw [hlen], fun hn => ?_, fun o ho => ?_, by rw [hlen]; unfold maxLen at hm; omega⟩
    · rw [hlen] at hn
      obtain ⟨b, off, spot⟩ := a
      have q0 := (hf 0 hn).2.2 0 _ rfl
      have hspot : spot = none := by simpa [Addr.add] using World.cell?_spot q0
      subst hspot
      refine ⟨b, off, rfl, by have := World.block_lt_of_cell? _ _ q0; simpa [Addr.add] using this, fun i o hi => ?_⟩
      have hil : i < len := by have := (List.getElem?_eq_some_iff.1 hi).1; simpa using this
      obtain rfl : (f i).1 = o := by simpa [hil] using hi
      refine ⟨(f i).2.1, (f i).2.2, (hf i hil).2.1, fun j v hj => ?_⟩
      have := (hf i hil).2.2 j v hj
      rw [Addr.add_lit, ← Nat.add_assoc] at this
      exact this
    · obtain ⟨i, hi, rfl⟩ := List.mem_map.1 ho
      exact (hf i (by simpa using hi)).1
set_option maxRecDepth 100000 in
/-- Moves that came in. -/
theorem open_moves {r : Reach} {b0 : Nat} {v : Value} {d : DataW H} {p : List MemPlace} (hv : Value.okWide Try.prog w r b0 38 v) (h : DataW.Trod enc Try.prog w base spare held 38 v d p) :
    ∃ (A : Option Addr) (c : Nat) (l : List (Bool × Int)), v = .slice A l.length c ∧ Sl w A l.length c (mvv l) ∧ ∀ m ∈ l, Int64P m.2 := by
  obtain ⟨A0, n0, c0, rfl⟩ := okWide_slice Try.underlying38 hv
  obtain ⟨fuel, hf⟩ := h
  obtain ⟨A, c, l, e, hs⟩ := movesSl (v := .slice A0 n0 c0) Try.underlying38 Try.underlying40 (by kernel_rfl) (by kernel_rfl) Try.underlying4 Try.underlying2 (by simpa [Value.cells] using hf)
  exact ⟨A, c, l, e, hs⟩
set_option maxRecDepth 100000 in
/-- Rows of rows of spans that came in. -/
theorem open_rows14 {r : Reach} {b0 : Nat} {v : Value} {d : DataW H} {p : List MemPlace} (hv : Value.okWide Try.prog w r b0 44 v) (h : DataW.Trod enc Try.prog w base spare held 44 v d p) :
    ∃ (A : Option Addr) (c : Nat) (ls : List (List Spn)), v = .slice A ls.length c ∧ SsAt w A ls ∧ (∀ l ∈ ls, In64 l) ∧ (ls.length : Int) ≤ 9223372036854775807 := by
  obtain ⟨A0, n0, c0, rfl⟩ := okWide_slice Try.underlying44 hv
  obtain ⟨fuel, hf⟩ := h
  obtain ⟨A, c, l, e, hs⟩ := rowsSs (v := .slice A0 n0 c0) Try.underlying44 (by kernel_rfl) Try.underlying28 Try.underlying33 (by kernel_rfl) (by kernel_rfl) Try.underlying2 Try.underlying2 (by simpa [Value.cells] using hf)
  exact ⟨A, c, l, e, hs⟩
end
end Go.Proofs.Ytgmcacmdiiogmaa
end
