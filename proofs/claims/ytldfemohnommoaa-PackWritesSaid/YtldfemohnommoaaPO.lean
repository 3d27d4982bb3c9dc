/- What is told to a writer, as the laws' inputs: opened. -/
import Derived.Test.YtldfemohnommoaaRows
import Derived.Test.YtldfemohnommoaaKV
import Derived.Deep.Slices
import Derived.Deep.Fields
import Derived.ProofKit
import Derived.OpenShut
import Derived.Lib.SmallJoins
namespace Go.Proofs.Ytldfemohnommoaa
open Go.ChangeShapes Go.WideShapes Go.ChangeAt Go.RowKit Go.Joins Go.Deep

/-- A thing: its kind, a number, a signed one, a text, a flag. -/
structure Op8 where
  k : Int
  n : Nat
  s : Int
  t : ByteArray
  f : Bool
def Op8.cells (o : Op8) : List Value := [.int .i64 o.k, .int .u64 o.n, .int .i64 o.s, .string o.t, .bool o.f]
theorem Op8.len (o : Op8) : o.cells.length = 5 := rfl
structure Op8.Ok (o : Op8) : Prop where
  k : -9223372036854775808 ≤ o.k ∧ o.k ≤ 9223372036854775807
  n : o.n < 18446744073709551616
  s : -9223372036854775808 ≤ o.s ∧ o.s ≤ 9223372036854775807
  t : o.t.size ≤ maxLen

section
variable {H : Type} {enc : TypeId × Value → H} {P : Program} {w : World} {base : Nat} {spare : Nat → Bool} {held : Bool}
theorem op8_read {t : TypeId} {f0 f1 f2 f3 f4 : Field} (hs : P.underlying t = some (.struct #[f0, f1, f2, f3, f4])) (hone : oneCellFields P #[f0, f1, f2, f3, f4] = true) (hC : P.cellsOf t = 5)
    (u0 : P.underlying f0.type = some (.int .i64)) (u1 : P.underlying f1.type = some (.int .u64)) (u2 : P.underlying f2.type = some (.int .i64)) (u3 : P.underlying f3.type = some .string) (u4 : P.underlying f4.type = some .bool)
    {n : Nat} {cs : List Value} {y : DataW H × List MemPlace} (h : DataW.trod enc P w base spare held n t cs = some y) : ∃ o : Op8, cs = o.cells ∧ o.Ok := by
  obtain ⟨xs, m, _, _, hl, hlen, hg⟩ := DataW.trod_struct hs h
  rw [hC] at hl
  match cs, hl, xs, hlen with
  | [c0, c1, c2, c3, c4], _, [y0, y1, y2, y3, y4], _ =>
    have g0 := hg 0 f0 rfl
    have g1 := hg 1 f1 rfl
    have g2 := hg 2 f2 rfl
    have g3 := hg 3 f3 rfl
    have g4 := hg 4 f4 rfl
    rw [(hone_of hone 0 f0 rfl).1, (hone_of hone 0 f0 rfl).2] at g0
    rw [(hone_of hone 1 f1 rfl).1, (hone_of hone 1 f1 rfl).2] at g1
    rw [(hone_of hone 2 f2 rfl).1, (hone_of hone 2 f2 rfl).2] at g2
    rw [(hone_of hone 3 f3 rfl).1, (hone_of hone 3 f3 rfl).2] at g3
    rw [(hone_of hone 4 f4 rfl).1, (hone_of hone 4 f4 rfl).2] at g4
    obtain ⟨x0, e0, _, b0⟩ := DataW.trod_int u0 (cs := [c0]) (x := y0) g0
    obtain ⟨x1, e1, _, b1⟩ := DataW.trod_int u1 (cs := [c1]) (x := y1) g1
    obtain ⟨x2, e2, _, b2⟩ := DataW.trod_int u2 (cs := [c2]) (x := y2) g2
    obtain ⟨x3, e3, _, b3⟩ := DataW.trod_string u3 (cs := [c3]) (x := y3) g3
    obtain ⟨x4, e4, _⟩ := DataW.trod_bool u4 (cs := [c4]) (x := y4) g4
    simp only [List.cons.injEq, and_true] at e0 e1 e2 e3 e4
    subst e0 e1 e2 e3 e4
    have h1 := bounds_u64 b1
    obtain ⟨k1, rfl⟩ : ∃ k : Nat, x1 = (k : Int) := ⟨x1.toNat, by omega⟩
    have hk : k1 < 18446744073709551616 := by omega
    exact ⟨⟨x0, k1, x2, x3, x4⟩, rfl, bounds_i64 b0, hk, bounds_i64 b2, b3⟩
/-- A thing that came in. -/
theorem open_op8 {t : TypeId} {f0 f1 f2 f3 f4 : Field} (hs : P.underlying t = some (.struct #[f0, f1, f2, f3, f4])) (hone : oneCellFields P #[f0, f1, f2, f3, f4] = true) (hC : P.cellsOf t = 5)
    (u0 : P.underlying f0.type = some (.int .i64)) (u1 : P.underlying f1.type = some (.int .u64)) (u2 : P.underlying f2.type = some (.int .i64)) (u3 : P.underlying f3.type = some .string) (u4 : P.underlying f4.type = some .bool)
    {r : Reach} {b0 : Nat} {v : Value} {d : DataW H} {p : List MemPlace} (hv : Value.okWide P w r b0 t v) (h : DataW.Trod enc P w base spare held t v d p) :
    ∃ o : Op8, v = .agg o.cells.toArray ∧ o.Ok := by
  obtain ⟨cs, rfl, _⟩ := okWide_struct hs hv
  obtain ⟨fuel, hf⟩ := h
  obtain ⟨o, e, ho⟩ := op8_read hs hone hC u0 u1 u2 u3 u4 hf
  exact ⟨o, by rw [← e]; simp [Value.cells], ho⟩
/-- A row of things that came in. -/
theorem open_op8s {ts t : TypeId} {f0 f1 f2 f3 f4 : Field} (hts : P.underlying ts = some (.slice t)) (hs : P.underlying t = some (.struct #[f0, f1, f2, f3, f4])) (hone : oneCellFields P #[f0, f1, f2, f3, f4] = true) (hC : P.cellsOf t = 5)
    (u0 : P.underlying f0.type = some (.int .i64)) (u1 : P.underlying f1.type = some (.int .u64)) (u2 : P.underlying f2.type = some (.int .i64)) (u3 : P.underlying f3.type = some .string) (u4 : P.underlying f4.type = some .bool)
    {r : Reach} {b0 : Nat} {v : Value} {d : DataW H} {p : List MemPlace} (hv : Value.okWide P w r b0 ts v) (h : DataW.Trod enc P w base spare held ts v d p) :
    ∃ (A : Option Addr) (c : Nat) (l : List Op8), v = .slice A l.length c ∧ Sl w A l.length c (kv Op8.cells l) ∧ ∀ o ∈ l, o.Ok := by
  obtain ⟨a1, len, cap, rfl⟩ := okWide_slice hts hv
  obtain ⟨fuel, hf⟩ := h
  rcases open_slice hts hf with ⟨hcs, _⟩ | ⟨a, len', cap', m, n, D, Pl, hcs, _, hl, hm, hmm, _, hx⟩
  · simp [Value.cells] at hcs
    obtain ⟨rfl, rfl, rfl⟩ := hcs
    exact ⟨none, 0, [], rfl, Sl.none_ _, fun o ho => by cases ho⟩
  · simp [Value.cells] at hcs
    obtain ⟨rfl, rfl, rfl⟩ := hcs
    have hlm : len ≤ m := by rw [hmm]; split <;> omega
    have each : ∀ i, ∃ o : Op8, i < len → o.Ok ∧ ∀ j v, o.cells[j]? = some v → w.cell? (a.add (i * 5 + j)) = some v := by
      intro i
      by_cases hi : i < len
      · obtain ⟨cs', hc, ht'⟩ := hx i (by omega)
        rw [hC] at hc
        obtain ⟨_, hcl, hat⟩ := World.cells?_some hc
        obtain ⟨o, rfl, ho⟩ := op8_read hs hone hC u0 u1 u2 u3 u4 ht'
        refine ⟨o, fun _ => ⟨ho, fun j v hj => ?_⟩⟩
        have hj5 : j < 5 := by have := (List.getElem?_eq_some_iff.1 hj).1; rwa [Op8.len] at this
        rw [← Go.Deep.add_add, hat j hj5, hj]
      · exact ⟨⟨0, 0, 0, ⟨#[]⟩, false⟩, fun h => absurd h hi⟩
    have hch : ∃ f : Nat → Op8, ∀ i, i < len → (f i).Ok ∧ ∀ j v, (f i).cells[j]? = some v → w.cell? (a.add (i * 5 + j)) = some v := ⟨fun i => (each i).choose, fun i => (each i).choose_spec⟩
    obtain ⟨f, hf⟩ := hch
    have hlen : ((List.range len).map f).length = len := by simp
    refine ⟨some a, cap, (List.range len).map f, by rw [hlen], ⟨by rw [hlen]; exact hl, hm, (fun h => by cases h), fun hn => ?_⟩, fun o ho => ?_⟩
    · rw [kv_len Op8.len, hlen] at hn
      have h0 : 0 < len := by omega
      obtain ⟨b, off, spot⟩ := a
      have q0 := (hf 0 h0).2 0 _ rfl
      have hspot : spot = none := by simpa [Addr.add] using World.cell?_spot q0
      subst hspot
      refine ⟨b, off, rfl, by have := World.block_lt_of_cell? _ _ q0; simpa [Addr.add] using this, fun i v hi => ?_⟩
      have hil : i < len * 5 := by have := (List.getElem?_eq_some_iff.1 hi).1; rwa [kv_len Op8.len, hlen] at this
      have hq : i / 5 < len := by omega
      have hr : i % 5 < 5 := Nat.mod_lt _ (by omega)
      obtain ⟨u, hu⟩ : ∃ u, (f (i / 5)).cells[i % 5]? = some u := ⟨_, List.getElem?_eq_getElem (by rw [Op8.len]; exact hr)⟩
      have hk := kv_at Op8.len (l := (List.range len).map f) (i := i / 5) (j := i % 5) (x := f (i / 5)) (v := u) (by simp [hq]) hu
      rw [show i / 5 * 5 + i % 5 = i by omega, hi] at hk
      obtain rfl := Option.some.inj hk
      have := (hf (i / 5) hq).2 (i % 5) v hu
      rw [show i / 5 * 5 + i % 5 = i by omega, Addr.add_lit] at this
      exact this
    · obtain ⟨i, hi, rfl⟩ := List.mem_map.1 ho
      exact (hf i (by simpa using hi)).1
end
end Go.Proofs.Ytldfemohnommoaa
