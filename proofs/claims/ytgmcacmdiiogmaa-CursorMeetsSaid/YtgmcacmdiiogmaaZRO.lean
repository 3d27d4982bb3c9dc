import Derived.Test.YtgmcacmdiiogmaaRows
import Derived.Test.YtgmcacmdiiogmaaZMD
import Derived.Deep.Slices
import Derived.Deep.SlicePairs
import Derived.Deep.Fields
import Derived.ProofKit
import Derived.OpenShut
import Derived.ChangeSlices
import Derived.Lib.SmallJoins
/- A rule that came in, opened: its numbers, its rows. -/
section
namespace Go.Proofs.Ytgmcacmdiiogmaa
open Go.ChangeShapes Go.WideShapes Go.ChangeAt Go.RowKit Go.Joins Go.Deep Qr Ck

section
variable {H : Type} {enc : TypeId × Value → H} {P : Program} {w : World} {base : Nat} {spare : Nat → Bool} {held : Bool}
theorem intsSl {t e : TypeId} {fuel : Nat} {v : Value} {x : DataW H × List MemPlace} (ht : P.underlying t = some (.slice e)) (he : P.underlying e = some (.int .i64)) (hce : P.cellsOf e = 1)
    (h : DataW.trod enc P w base spare held fuel t [v] = some x) : ∃ (A : Option Addr) (c : Nat) (l : List Int), v = .slice A l.length c ∧ Sl w A l.length c (iv l) := by
  rcases open_ints ht he hce h with ⟨hcs, _⟩ | ⟨a, len, cap, zs, hcs, _, hl, hm, hz, _, hcell, _⟩
  · simp only [List.cons.injEq, and_true] at hcs
    exact ⟨none, 0, [], hcs, Sl.none_ _⟩
  · simp only [List.cons.injEq, and_true] at hcs
    subst hcs
    have hlz : len ≤ zs.length := by rw [hz]; split <;> omega
    have hlen : (zs.take len).length = len := by simp; omega
    refine ⟨some a, cap, zs.take len, by rw [hlen], ⟨by rw [hlen]; exact hl, hm, (fun h => by cases h), fun hn => ?_⟩⟩
    rw [iv_len, hlen] at hn
    obtain ⟨b, off, spot⟩ := a
    have q0 := hcell 0 (by omega)
    have hspot : spot = none := by simpa [Addr.add] using World.cell?_spot q0
    subst hspot
    refine ⟨b, off, rfl, by have := World.block_lt_of_cell? _ _ q0; simpa [Addr.add] using this, fun i u hi => ?_⟩
    have hil : i < len := by have := (List.getElem?_eq_some_iff.1 hi).1; rwa [iv_len, hlen] at this
    have hc := hcell i (by omega)
    rw [Addr.add_lit] at hc
    rw [hc]
    have : (iv (zs.take len))[i]? = some (.int .i64 (zs.getD i 0)) := by
      refine iv_at ?_
      rw [List.getElem?_take_of_lt hil, List.getElem?_eq_getElem (by omega)]
      simp [List.getD, List.getElem?_eq_getElem (show i < zs.length by omega)]
    rw [← this, hi]

theorem pairsSl {ts t : TypeId} {f0 f1 : Field} {fuel : Nat} {v : Value} {x : DataW H × List MemPlace} (hts : P.underlying ts = some (.slice t)) (hs : P.underlying t = some (.struct #[f0, f1])) (hone : oneCellFields P #[f0, f1] = true) (hC : P.cellsOf t = 2)
    (u0 : P.underlying f0.type = some (.int .i64)) (u1 : P.underlying f1.type = some (.int .i64))
    (h : DataW.trod enc P w base spare held fuel ts [v] = some x) : ∃ (A : Option Addr) (c : Nat) (l : List (Int × Int)), v = .slice A l.length c ∧ Sl w A l.length c (sv l) := by
  rcases open_slice hts h with ⟨hcs, _⟩ | ⟨a, len, cap, m, n, D, Pl, hcs, _, hl, hm, hmm, _, hx⟩
  · simp only [List.cons.injEq, and_true] at hcs
    exact ⟨none, 0, [], hcs, Sl.none_ _⟩
  · simp only [List.cons.injEq, and_true] at hcs
    subst hcs
    have hlm : len ≤ m := by rw [hmm]; split <;> omega
    have each : ∀ i, ∃ o : Int × Int, i < len → w.cell? (a.add (i * 2)) = some (.int .i64 o.1) ∧ w.cell? (a.add (i * 2 + 1)) = some (.int .i64 o.2) := by
      intro i
      by_cases hi : i < len
      · obtain ⟨cs', hc, ht'⟩ := hx i (by omega)
        rw [hC] at hc
        obtain ⟨_, hcl, hat⟩ := World.cells?_some hc
        obtain ⟨xs, k, _, _, hl2, hlen2, hg⟩ := DataW.trod_struct hs ht'
        rw [hC] at hl2
        match cs', hl2, xs, hlen2 with
        | [c0, c1], _, [y0, y1], _ =>
          have g0 := hg 0 f0 rfl
          have g1 := hg 1 f1 rfl
          rw [(hone_of hone 0 f0 rfl).1, (hone_of hone 0 f0 rfl).2] at g0
          rw [(hone_of hone 1 f1 rfl).1, (hone_of hone 1 f1 rfl).2] at g1
          obtain ⟨x0, e0, _, _⟩ := DataW.trod_int u0 (cs := [c0]) (x := y0) g0
          obtain ⟨x1, e1, _, _⟩ := DataW.trod_int u1 (cs := [c1]) (x := y1) g1
          simp only [List.cons.injEq, and_true] at e0 e1
          subst e0 e1
          refine ⟨(x0, x1), fun _ => ⟨?_, ?_⟩⟩
          · have := hat 0 (by omega); simpa [Go.Deep.add_add] using this
          · have := hat 1 (by omega); simpa [Go.Deep.add_add] using this
      · exact ⟨(0, 0), fun h => absurd h hi⟩
    have hch : ∃ f : Nat → Int × Int, ∀ i, i < len → w.cell? (a.add (i * 2)) = some (.int .i64 (f i).1) ∧ w.cell? (a.add (i * 2 + 1)) = some (.int .i64 (f i).2) := ⟨fun i => (each i).choose, fun i => (each i).choose_spec⟩
    obtain ⟨f, hf⟩ := hch
    have hlen : ((List.range len).map f).length = len := by simp
    refine ⟨some a, cap, (List.range len).map f, by rw [hlen], ⟨by rw [hlen]; exact hl, hm, (fun h => by cases h), fun hn => ?_⟩⟩
    rw [sv_len, hlen] at hn
    have h0 : 0 < len := by omega
    obtain ⟨b, off, spot⟩ := a
    have q0 := (hf 0 h0).1
    have hspot : spot = none := by simpa [Addr.add] using World.cell?_spot q0
    subst hspot
    refine ⟨b, off, rfl, by have := World.block_lt_of_cell? _ _ q0; simpa [Addr.add] using this, fun i u hi => ?_⟩
    have hil : i < len * 2 := by have := (List.getElem?_eq_some_iff.1 hi).1; rwa [sv_len, hlen] at this
    have hq : i / 2 < len := by omega
    have hk := sv_at (l := (List.range len).map f) (i := i / 2) (s := f (i / 2)) (by simp [hq])
    obtain ⟨z0, z1⟩ := hf (i / 2) hq
    rw [Addr.add_lit] at z0 z1
    rcases Nat.mod_two_eq_zero_or_one i with h2 | h2
    · have e : i / 2 * 2 = i := by omega
      rw [e, hi] at hk
      rw [e] at z0
      rw [z0, ← hk.1]
    · have e : i / 2 * 2 + 1 = i := by omega
      rw [e, hi] at hk
      rw [e] at z1
      rw [z1, ← hk.2]

/-- A rule that came in. -/
theorem open_rule {t ti td : TypeId} {f0 f1 f2 f3 f4 f5 f6 f7 f8 k0 k1 : Field} (hs : P.underlying t = some (.struct #[f0, f1, f2, f3, f4, f5, f6, f7, f8])) (hone : oneCellFields P #[f0, f1, f2, f3, f4, f5, f6, f7, f8] = true) (hC : P.cellsOf t = 9)
    (u0 : P.underlying f0.type = some (.int .i64)) (u1 : P.underlying f1.type = some (.int .i64)) (u2 : P.underlying f2.type = some (.int .i64)) (u3 : P.underlying f3.type = some (.int .i64)) (u8 : P.underlying f8.type = some (.int .i64))
    (u4 : P.underlying f4.type = some (.slice ti)) (u5 : P.underlying f5.type = some (.slice ti)) (u6 : P.underlying f6.type = some (.slice td)) (u7 : P.underlying f7.type = some (.slice ti))
    (ui : P.underlying ti = some (.int .i64)) (ci : P.cellsOf ti = 1) (ud : P.underlying td = some (.struct #[k0, k1])) (hone2 : oneCellFields P #[k0, k1] = true) (cd : P.cellsOf td = 2) (v0 : P.underlying k0.type = some (.int .i64)) (v1 : P.underlying k1.type = some (.int .i64))
    {r : Reach} {b0 : Nat} {v : Value} {dd : DataW H} {p : List MemPlace} (hv : Value.okWide P w r b0 t v) (h : DataW.Trod enc P w base spare held t v dd p) :
    ∃ (q : R) (A1 A2 A3 A4 : Option Addr) (c1 c2 c3 c4 : Nat), v = .agg (rcells q A1 A2 A3 A4 c1 c2 c3 c4) ∧ RAt w q A1 A2 A3 A4 c1 c2 c3 c4 := by
  obtain ⟨cs, rfl, _⟩ := okWide_struct hs hv
  obtain ⟨fuel, hf⟩ := h
  obtain ⟨xs, m, _, _, hl, hlen, hg⟩ := DataW.trod_struct hs hf
  rw [hC] at hl
  obtain ⟨cs⟩ := cs
  have hcs : (Value.cells (.agg ⟨cs⟩)).toList = cs := by simp [Value.cells]
  rw [hcs] at hl hg
  match cs, hl, xs, hlen with
  | [c0, c1, c2, c3, c4, c5, c6, c7, c8], _, [y0, y1, y2, y3, y4, y5, y6, y7, y8], _ =>
    have g0 := hg 0 f0 rfl
    have g1 := hg 1 f1 rfl
    have g2 := hg 2 f2 rfl
    have g3 := hg 3 f3 rfl
    have g4 := hg 4 f4 rfl
    have g5 := hg 5 f5 rfl
    have g6 := hg 6 f6 rfl
    have g7 := hg 7 f7 rfl
    have g8 := hg 8 f8 rfl
    rw [(hone_of hone 0 f0 rfl).1, (hone_of hone 0 f0 rfl).2] at g0
    rw [(hone_of hone 1 f1 rfl).1, (hone_of hone 1 f1 rfl).2] at g1
    rw [(hone_of hone 2 f2 rfl).1, (hone_of hone 2 f2 rfl).2] at g2
    rw [(hone_of hone 3 f3 rfl).1, (hone_of hone 3 f3 rfl).2] at g3
    rw [(hone_of hone 4 f4 rfl).1, (hone_of hone 4 f4 rfl).2] at g4
    rw [(hone_of hone 5 f5 rfl).1, (hone_of hone 5 f5 rfl).2] at g5
    rw [(hone_of hone 6 f6 rfl).1, (hone_of hone 6 f6 rfl).2] at g6
    rw [(hone_of hone 7 f7 rfl).1, (hone_of hone 7 f7 rfl).2] at g7
    rw [(hone_of hone 8 f8 rfl).1, (hone_of hone 8 f8 rfl).2] at g8
    obtain ⟨x0, e0, _, _⟩ := DataW.trod_int u0 (cs := [c0]) (x := y0) g0
    obtain ⟨x1, e1, _, _⟩ := DataW.trod_int u1 (cs := [c1]) (x := y1) g1
    obtain ⟨x2, e2, _, _⟩ := DataW.trod_int u2 (cs := [c2]) (x := y2) g2
    obtain ⟨x3, e3, _, _⟩ := DataW.trod_int u3 (cs := [c3]) (x := y3) g3
    obtain ⟨x8, e8, _, _⟩ := DataW.trod_int u8 (cs := [c8]) (x := y8) g8
    simp only [List.cons.injEq, and_true] at e0 e1 e2 e3 e8
    obtain ⟨A1, n1, l1, e4, s1⟩ := intsSl (v := c4) (x := y4) u4 ui ci g4
    obtain ⟨A2, n2, l2, e5, s2⟩ := intsSl (v := c5) (x := y5) u5 ui ci g5
    obtain ⟨A3, n3, l3, e6, s3⟩ := pairsSl (v := c6) (x := y6) u6 ud hone2 cd v0 v1 g6
    obtain ⟨A4, n4, l4, e7, s4⟩ := intsSl (v := c7) (x := y7) u7 ui ci g7
    subst e0 e1 e2 e3 e4 e5 e6 e7 e8
    exact ⟨⟨x0, x1, x2, x3, l1, l2, l3, l4, x8⟩, A1, A2, A3, A4, n1, n2, n3, n4, rfl, ⟨s1, s2, s3, s4⟩⟩
end
end Go.Proofs.Ytgmcacmdiiogmaa
end
