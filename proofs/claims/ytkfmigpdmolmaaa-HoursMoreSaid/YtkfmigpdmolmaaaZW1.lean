/- Contracts of the zones' small functions: what is added ahead of a turn, closures, the halving search. -/
import Derived.Test.YtkfmigpdmolmaaaRows
import Derived.Test.YtkfmigpdmolmaaaZMath
import Derived.Test.YtkfmigpdmolmaaaKit3
import Derived.Deep.LoopGhost
import Derived.Deep.QuietTactic
import Derived.BigQuiet
import Derived.Lib.Hide
namespace Go.Proofs.Ytkfmigpdmolmaaa
open Go.ChangeShapes Go.WideShapes Go.ChangeAt Go.RowKit Zn

/-- A slice's turns, as a zone's. -/
def ZAt (w : World) (A : Option Addr) (z : Z) : Prop :=
  0 < z.n → ∃ b off, A = some ⟨b, off, none⟩ ∧ b < w.heap.size ∧ ∀ i, i < z.n → w.cell? ⟨b, off + i * 2, none⟩ = some (.int .i64 (z.t i)) ∧ w.cell? ⟨b, off + i * 2 + 1, none⟩ = some (.int .i64 (z.o i))
theorem ZAt.at_ {w : World} {A : Option Addr} {z : Z} (h : ZAt w A z) {i : Nat} (hi : i < z.n) : ∃ b off, A = some ⟨b, off, none⟩ ∧ b < w.heap.size ∧ w.cell? ⟨b, off + i * 2, none⟩ = some (.int .i64 (z.t i)) ∧ w.cell? ⟨b, off + i * 2 + 1, none⟩ = some (.int .i64 (z.o i)) := by
  obtain ⟨b, off, e, hb, hc⟩ := h (by omega)
  exact ⟨b, off, e, hb, hc i hi⟩
theorem ZAt.below {w w' : World} {A : Option Addr} {z : Z} (h : ZAt w A z) (hb : Below w.heap.size w w') : ZAt w' A z := by
  intro hn
  obtain ⟨b, off, e, hlt, hc⟩ := h hn
  refine ⟨b, off, e, Nat.lt_of_lt_of_le hlt hb.size, fun i hi => ?_⟩
  rw [hb.cell (p := ⟨b, off + i * 2, none⟩) hlt, hb.cell (p := ⟨b, off + i * 2 + 1, none⟩) hlt]
  exact hc i hi



theorem mayAdd_any (x : Int) (w : World) :
    Calls Try.prog 39 #[.int .i64 x] w fun e w' => e = .returned (.bool (decide (-900 ≤ x ∧ x ≤ 900))) ∧ w = w' := by
  by_cases h1 : -900 ≤ x
  · by_cases h2 : x ≤ 900
    · rw [show decide (-900 ≤ x ∧ x ≤ 900) = true by simp [h1, h2]]
      go_enter Try.func39, Try.ntmps39
      go_wp2
      go_ret
      exact ⟨rfl, rfl⟩
    · rw [show decide (-900 ≤ x ∧ x ≤ 900) = false by simp; omega]
      go_enter Try.func39, Try.ntmps39
      go_wp2
      go_ret
      exact ⟨rfl, rfl⟩
  · rw [show decide (-900 ≤ x ∧ x ≤ 900) = false by simp; omega]
    go_enter Try.func39, Try.ntmps39
    go_wp2
    go_ret
    exact ⟨rfl, rfl⟩

theorem inTime_any (x : Int) (w : World) :
    Calls Try.prog 40 #[.int .i64 x] w fun e w' => e = .returned (.bool (decide (0 ≤ x ∧ x ≤ 158310720))) ∧ w = w' := by
  by_cases h1 : 0 ≤ x
  · by_cases h2 : x ≤ 158310720
    · rw [show decide (0 ≤ x ∧ x ≤ 158310720) = true by simp [h1, h2]]
      go_enter Try.func40, Try.ntmps40
      go_wp2
      go_ret
      exact ⟨rfl, rfl⟩
    · rw [show decide (0 ≤ x ∧ x ≤ 158310720) = false by simp; omega]
      go_enter Try.func40, Try.ntmps40
      go_wp2
      go_ret
      exact ⟨rfl, rfl⟩
  · rw [show decide (0 ≤ x ∧ x ≤ 158310720) = false by simp; omega]
    go_enter Try.func40, Try.ntmps40
    go_wp2
    go_ret
    exact ⟨rfl, rfl⟩

theorem ahead_any (w : World) (A : Option Addr) (z : Z) (c p : Nat) (hp : p ≤ z.n) (hn : z.n ≤ 1000) (hz : ZAt w A z) :
    Calls Try.prog 46 #[.agg #[.int .i64 z.base, .slice A z.n c], .int .i64 p] w fun e w' => e = .returned (.int .i64 (ah z p)) ∧ Below w.heap.size w w' := by
  cases p with
  | zero =>
    show Calls Try.prog 46 #[.agg #[.int .i64 z.base, .slice A z.n c], .int .i64 0] w fun e w' => e = .returned (.int .i64 z.base) ∧ Below w.heap.size w w'
    clear hz
    go_enter Try.func46, Try.ntmps46
    go_wp2
    go_ret
    exact ⟨rfl, (Below.refl _ _).alloc (Nat.le_refl _) _⟩
  | succ p =>
    obtain ⟨b, off, rfl, hb, h1, h2⟩ := hz.at_ (i := p) (by omega)
    clear hz
    rw [show ((p + 1 : Nat) : Int) = (p : Int) + 1 by omega, show ah z (p + 1) = z.o p from rfl]
    go_enter Try.func46, Try.ntmps46
    go_wp2
    go_ret
    exact ⟨rfl, (Below.refl _ _).alloc (Nat.le_refl _) _⟩

theorem fbc_any (w : World) (A : Option Addr) (z : Z) (c i zb ub : Nat) (u : Int) (hi : i < z.n) (hn : z.n ≤ 1000) (hz : ZAt w A z)
    (h1 : w.cell? ⟨zb, 1, none⟩ = some (.slice A z.n c)) (hu : w.cell? ⟨ub, 0, none⟩ = some (.int .i64 u)) :
    Calls Try.prog 60 (#[.int .i64 i] ++ #[.pointer (some ⟨zb, 0, none⟩), .pointer (some ⟨ub, 0, none⟩)]) w fun e w' => e = .returned (.bool (decide (u < z.t i))) ∧ Below w.heap.size w w' := by
  obtain ⟨b, off, rfl, hb, g1, g2⟩ := hz.at_ hi
  clear hz
  have hiz : (i : Int) < (z.n : Int) := by omega
  go_enter Try.func60, Try.ntmps60
  go_wp2
  go_quiet (fail)
  go_wp2
  go_ret
  exact ⟨rfl, drewN_below _ _⟩

/-- sort.Search, with that closure: the first place at which it says yes. -/
theorem search_fb (cb : Array Value) (n : Nat) (p : Nat → Bool) (r : Nat) (w : World) (hsz : n ≤ 1000) (hr : r ≤ n) (h0 : ∀ i, i < r → p i = false) (h1 : ∀ i, r ≤ i → i < n → p i = true)
    (hf : ∀ (g : Gr w) (i : Nat), i < n → Calls Try.prog 60 (#[.int .i64 i] ++ cb) g.val fun e w' => e = .returned (.bool (p i)) ∧ Below g.val.heap.size g.val w') :
    Calls Try.prog 59 #[.int .i64 n, .func (.func 60) #[] cb] w fun e w' => e = .returned (.int .i64 r) ∧ Below w.heap.size w w' := by
  have HF := Lib.hid hf
  have H0 := Lib.hid h0
  have H1 := Lib.hid h1
  clear hf h0 h1
  go_enter Try.func59, Try.ntmps59
  go_wp2
  go_loopw [5, 6] (fun s5 s6 wr => ∃ (g : Gr w) (lo hi : Nat), wr = g.val ∧ s5 = .int .i64 lo ∧ s6 = .int .i64 hi ∧ lo ≤ r ∧ r ≤ hi ∧ hi ≤ n) (fun s5 s6 _ => (intOf s6 - intOf s5).toNat)
  case atStart => exact ⟨⟨w, Below.refl _ _⟩, 0, n, rfl, rfl, rfl, Nat.zero_le _, hr, Nat.le_refl _⟩
  case round =>
    obtain ⟨g, lo, hi, rfl, rfl, rfl, hlr, hrh, hin⟩ := hrel
    by_cases hlt : lo < hi
    · have hc := HF.out g ((lo + hi) / 2) (by omega)
      rw [show (((lo + hi) / 2 : Nat) : Int) = ((lo : Int) + (hi : Int)) / 2 by omega] at hc
      by_cases hp : r ≤ (lo + hi) / 2
      · rw [H1.out _ hp (by omega)] at hc
        go_wp2_with (go_at_call 60; refine hc.mono ?_; rintro e w' ⟨rfl, hb⟩; obtain ⟨g', rfl⟩ := g.on hb; clear hb)
        go_roundw
        case rel => exact ⟨g', lo, (lo + hi) / 2, rfl, rfl, by rw [show ((lo : Int) + (hi : Int)) / 2 = (((lo + hi) / 2 : Nat) : Int) by omega], hlr, hp, by omega⟩
        case measure => simp [intOf]; omega
      · rw [H0.out _ (by omega)] at hc
        go_wp2_with (go_at_call 60; refine hc.mono ?_; rintro e w' ⟨rfl, hb⟩; obtain ⟨g', rfl⟩ := g.on hb; clear hb)
        go_roundw
        case rel => exact ⟨g', (lo + hi) / 2 + 1, hi, rfl, by rw [show ((lo : Int) + (hi : Int)) / 2 + 1 = (((lo + hi) / 2 + 1 : Nat) : Int) by omega], rfl, by omega, hrh, hin⟩
        case measure => simp [intOf]; omega
    · obtain rfl : lo = hi := by omega
      obtain rfl : lo = r := by omega
      go_wp2
      go_ret
      exact ⟨rfl, g.ok⟩
end Go.Proofs.Ytkfmigpdmolmaaa
