import Derived.Test.YtibnbpiachdmdaaZRO
import Derived.Test.YtibnbpiachdmdaaZHW1
import Derived.Test.YtibnbpiachdmdaaZNA
/- Rows of three numbers, and spans, that came in, opened. -/
section
namespace Go.Proofs.Ytibnbpiachdmdaa
open Go.ChangeShapes Go.WideShapes Go.ChangeAt Go.RowKit Go.Joins Go.Deep
section
variable {H : Type} {enc : TypeId × Value → H} {P : Program} {w : World} {base : Nat} {spare : Nat → Bool} {held : Bool}
end
end Go.Proofs.Ytibnbpiachdmdaa
end
/- A row of spans that came in, opened. -/
section
namespace Go.Proofs.Ytibnbpiachdmdaa
open Go.ChangeShapes Go.WideShapes Go.ChangeAt Go.RowKit Go.Joins Go.Deep Sp
section
variable {H : Type} {enc : TypeId × Value → H} {P : Program} {w : World} {base : Nat} {spare : Nat → Bool} {held : Bool}
theorem spansSl {ts t : TypeId} {f0 f1 : Field} {fuel : Nat} {v : Value} {x : DataW H × List MemPlace} (hts : P.underlying ts = some (.slice t)) (hs : P.underlying t = some (.struct #[f0, f1])) (hone : oneCellFields P #[f0, f1] = true) (hC : P.cellsOf t = 2)
    (u0 : P.underlying f0.type = some (.int .i64)) (u1 : P.underlying f1.type = some (.int .i64))
    (h : DataW.trod enc P w base spare held fuel ts [v] = some x) : ∃ (A : Option Addr) (c : Nat) (l : List (Int × Int)), v = .slice A l.length c ∧ Sl w A l.length c (sv l) ∧ In64 l := by
  rcases open_slice hts h with ⟨hcs, _⟩ | ⟨a, len, cap, m, n, D, Pl, hcs, _, hl, hm, hmm, _, hx⟩
  · simp only [List.cons.injEq, and_true] at hcs
    exact ⟨none, 0, [], hcs, Sl.none_ _, fun s hs => by cases hs⟩
  · simp only [List.cons.injEq, and_true] at hcs
    subst hcs
    have hlm : len ≤ m := by rw [hmm]; split <;> omega
    have each : ∀ i, ∃ o : Int × Int, i < len → w.cell? (a.add (i * 2)) = some (.int .i64 o.1) ∧ w.cell? (a.add (i * 2 + 1)) = some (.int .i64 o.2) ∧ (-9223372036854775808 ≤ o.1 ∧ o.1 ≤ 9223372036854775807) ∧ (-9223372036854775808 ≤ o.2 ∧ o.2 ≤ 9223372036854775807) := by
      intro i
      by_cases hi : i < len
      · obtain ⟨cs', hc, ht'⟩ := hx i (by omega)
        rw [hC] at hc
        obtain ⟨_, hcl, hat⟩ := World.cells?_some hc
        obtain ⟨xs, k, _, _, hl2, hlen2, hg⟩ := DataW.trod_struct hs ht'
        rw [hC] at hl2
        match cs', hl2, xs, hlen2 with
        | [c0, c1], _, [y0, y1], _ =>
          have g0 := hg 0 f0 rfl
          have g1 := hg 1 f1 rfl
          rw [(hone_of hone 0 f0 rfl).1, (hone_of hone 0 f0 rfl).2] at g0
          rw [(hone_of hone 1 f1 rfl).1, (hone_of hone 1 f1 rfl).2] at g1
          obtain ⟨x0, e0, _, wf0⟩ := DataW.trod_int u0 (cs := [c0]) (x := y0) g0
          obtain ⟨x1, e1, _, wf1⟩ := DataW.trod_int u1 (cs := [c1]) (x := y1) g1
          simp only [List.cons.injEq, and_true] at e0 e1
          subst e0 e1
          refine ⟨(x0, x1), fun _ => ⟨?_, ?_, bounds_i64 wf0, bounds_i64 wf1⟩⟩
          · have := hat 0 (by omega); simpa [Go.Deep.add_add] using this
          · have := hat 1 (by omega); simpa [Go.Deep.add_add] using this
      · exact ⟨(0, 0), fun h => absurd h hi⟩
    have hch : ∃ f : Nat → Int × Int, ∀ i, i < len → w.cell? (a.add (i * 2)) = some (.int .i64 (f i).1) ∧ w.cell? (a.add (i * 2 + 1)) = some (.int .i64 (f i).2) ∧ (-9223372036854775808 ≤ (f i).1 ∧ (f i).1 ≤ 9223372036854775807) ∧ (-9223372036854775808 ≤ (f i).2 ∧ (f i).2 ≤ 9223372036854775807) := ⟨fun i => (each i).choose, fun i => (each i).choose_spec⟩
    obtain ⟨f, hf⟩ := hch
    have hlen : ((List.range len).map f).length = len := by simp
    refine ⟨some a, cap, (List.range len).map f, by rw [hlen], ⟨by rw [hlen]; exact hl, hm, (fun h => by cases h), fun hn => ?_⟩, fun s hs => ?_⟩
    rotate_left
    · obtain ⟨i, hi, rfl⟩ := List.mem_map.1 hs
      have := hf i (List.mem_range.1 hi)
      exact ⟨this.2.2.1, this.2.2.2⟩
    rw [sv_len, hlen] at hn
    have h0 : 0 < len := by omega
    obtain ⟨b, off, spot⟩ := a
    have q0 := (hf 0 h0).1
    have hspot : spot = none := by simpa [Addr.add] using World.cell?_spot q0
    subst hspot
    refine ⟨b, off, rfl, by have := World.block_lt_of_cell? _ _ q0; simpa [Addr.add] using this, fun i u hi => ?_⟩
    have hil : i < len * 2 := by have := (List.getElem?_eq_some_iff.1 hi).1; rwa [sv_len, hlen] at this
    have hq : i / 2 < len := by omega
    have hk := sv_at (l := (List.range len).map f) (i := i / 2) (s := f (i / 2)) (by simp [hq])
    obtain ⟨z0, z1, _, _⟩ := hf (i / 2) hq
    rw [Addr.add_lit] at z0 z1
    rcases Nat.mod_two_eq_zero_or_one i with h2 | h2
    · have e : i / 2 * 2 = i := by omega
      rw [e, hi] at hk
      rw [e] at z0
      rw [z0, ← hk.1]
    · have e : i / 2 * 2 + 1 = i := by omega
      rw [e, hi] at hk
      rw [e] at z1
      rw [z1, ← hk.2]
end
set_option maxRecDepth 100000 in
theorem open_spans {K : Type} {enc : TypeId × Value → K} {W : World} {base b0 : Nat} {spare : Nat → Bool} {held : Bool} {r : Reach} {v : Value} {d : DataW K} {p : List MemPlace}
    (hv : Value.okWide Try.prog W r b0 22 v) (h : DataW.Trod enc Try.prog W base spare held 22 v d p) :
    ∃ (A : Option Addr) (c : Nat) (l : List Spn), v = .slice A l.length c ∧ Sl W A l.length c (sv l) ∧ In64 l := by
  obtain ⟨A0, n0, c0, rfl⟩ := okWide_slice Try.underlying22 hv
  obtain ⟨fuel, hf⟩ := h
  obtain ⟨A, c, l, e, hs⟩ := spansSl (v := .slice A0 n0 c0) Try.underlying22 Try.underlying26 (by kernel_rfl) (by kernel_rfl) Try.underlying2 Try.underlying2 (by simpa [Value.cells] using hf)
  exact ⟨A, c, l, e, hs⟩
end Go.Proofs.Ytibnbpiachdmdaa
end
