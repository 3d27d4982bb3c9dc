/- Contracts: may a zone be; the program's and the document's. -/
import Derived.Test.YtkfmigpdmolmaaaZW2
namespace Go.Proofs.Ytkfmigpdmolmaaa
open Go.ChangeShapes Go.WideShapes Go.ChangeAt Go.RowKit Zn

/-- A zone whose numbers are int64s. -/
def ZWf (z : Z) : Prop := (-9223372036854775808 ≤ z.base ∧ z.base ≤ 9223372036854775807) ∧ z.n ≤ 9223372036854775807 ∧ ∀ i, i < z.n → (-9223372036854775808 ≤ z.t i ∧ z.t i ≤ 9223372036854775807) ∧ (-9223372036854775808 ≤ z.o i ∧ z.o i ≤ 9223372036854775807)





set_option maxHeartbeats 2000000 in
theorem zmay_any (w : World) (A : Option Addr) (z : Z) (c : Nat) (hw : ZWf z) (hz : ZAt w A z) :
    Calls Try.prog 21 #[.agg #[.int .i64 z.base, .slice A z.n c]] w fun e w' => e = .returned (.bool (mayB z)) ∧ Below w.heap.size w w' := by
  by_cases h1 : -900 ≤ z.base ∧ z.base ≤ 900
  · by_cases h2 : z.n ≤ 700
    · have HZ := Lib.hid (Gr.layZ hz (.cells #[.int .i64 z.base, .slice A z.n c] 24))
      have HW := Lib.hid hw
      obtain ⟨F0, F1⟩ := Gr.lay2 w (.int .i64 z.base) (.slice A z.n c) 24
      have F1A := Gr.cellA F1
      have hd : decide (-900 ≤ z.base ∧ z.base ≤ 900) = true := by simp; exact h1
      obtain ⟨r, hr⟩ : ∃ r, mayB z = r := ⟨_, rfl⟩
      rw [hr]
      have HR := Lib.hid hr
      clear hz hw hr
      go_enter Try.func21, Try.ntmps21
      go_wp2_with (go_at_call 39; (with_reducible refine (mayAdd_any _ _).mono ?_); rintro e w' ⟨rfl, rfl⟩)
      go_loopw [18] (fun s wr => ∃ (g : Gr (w.alloc (.cells #[.int .i64 z.base, .slice A z.n c] 24))) (k : Nat), wr = g.val ∧ s = .int .i64 k ∧ k ≤ z.n ∧ Hid (∀ i, i < k → okT z i)) (fun s _ => (z.n - (intOf s).toNat))
      case atStart => exact ⟨⟨_, Below.refl _ _⟩, 0, rfl, rfl, Nat.zero_le _, fun i hi => absurd hi (Nat.not_lt_zero _)⟩
      case round =>
        obtain ⟨g, k, rfl, rfl, hk, HO⟩ := hrel
        by_cases hlt : k < z.n
        · obtain ⟨b, off, rfl, hb, g1, g2⟩ := (HZ.out g).at_ hlt
          obtain ⟨⟨w1, w2⟩, w3, w4⟩ := HW.out.2.2 k hlt
          by_cases d1 : -900 ≤ z.o k ∧ z.o k ≤ 900
          · by_cases d2 : 0 ≤ z.t k ∧ z.t k ≤ 158310720
            · have e1 : decide (-900 ≤ z.o k ∧ z.o k ≤ 900) = true := by simp; exact d1
              have e2 : decide (0 ≤ z.t k ∧ z.t k ≤ 158310720) = true := by simp; exact d2
              rcases Nat.eq_zero_or_pos k with rfl | hk0
              · rw [Nat.zero_mul, Nat.add_zero] at g1 g2
                go_wp2_with (first
                  | (go_at_call 39; (with_reducible refine (mayAdd_any _ _).mono ?_); rintro e w' ⟨rfl, rfl⟩)
                  | (go_at_call 40; (with_reducible refine (inTime_any _ _).mono ?_); rintro e w' ⟨rfl, rfl⟩))
                go_quiet (fail)
                go_wp2
                go_roundw
                case rel =>
                  obtain ⟨g', hg'⟩ := g.up2 (o := .cells #[.int .i64 (z.t 0), .int .i64 (z.o 0)] 59) nq
                  refine ⟨g', 1, hg', rfl, hlt, fun i hi => ?_⟩
                  obtain rfl : i = 0 := by omega
                  exact ⟨d1.1, d1.2, d2.1, d2.2, fun h => absurd h (Nat.lt_irrefl _)⟩
                case measure => simp [intOf]; omega
              · obtain ⟨j, rfl⟩ : ∃ j, k = j + 1 := ⟨k - 1, by omega⟩
                obtain ⟨b', off', hbo, hb', g3, g4⟩ := (HZ.out g).at_ (i := j) (by omega)
                obtain ⟨rfl, rfl⟩ : b = b' ∧ off = off' := by simpa using hbo
                have T1 : Hid (okT z j) := HO.out j (by omega)
                have t1 := T1.out.2.2.1
                have t2 := T1.out.2.2.2.1
                have hj : (j : Int) < (z.n : Int) := by omega
                have e5 : (0 : Int) < (j : Int) + 1 := by omega
                go_wp2_with (first
                  | (go_at_call 39; (with_reducible refine (mayAdd_any _ _).mono ?_); rintro e w' ⟨rfl, rfl⟩)
                  | (go_at_call 40; (with_reducible refine (inTime_any _ _).mono ?_); rintro e w' ⟨rfl, rfl⟩))
                have g3a : ∀ o, (g.val.alloc o).cell? ⟨b, off + j * 2, none⟩ = some (.int .i64 (z.t j)) := fun o => cell_old g3 ((Below.refl _ _).alloc (Nat.le_refl _) o)
                by_cases d3 : z.t (j + 1) - z.t j < 2880
                · go_quiet (fail)
                  go_wp2
                  go_ret
                  exact ⟨ret_bool (by rw [← HR.out, may_no.2 (fun h => by have := (h.2.2.2 (j + 1) hlt).2.2.2.2 (by omega); simp at this; omega)]), (g.below1.alloc g.below1.size _).trans (Below.mono (drewN_below _ _) (by simp; have := g.below1.size; omega))⟩
                · have d4 : decide (z.t (j + 1) - z.t j < 2880) = false := by simp; omega
                  go_quiet (fail)
                  go_wp2
                  go_roundw
                  case rel =>
                    obtain ⟨g', hg'⟩ := g.up2 (o := .cells #[.int .i64 (z.t (j + 1)), .int .i64 (z.o (j + 1))] 59) nq
                    refine ⟨g', j + 1 + 1, hg', by congr 1, hlt, fun i hi => ?_⟩
                    by_cases e : i = j + 1
                    · subst e; exact ⟨d1.1, d1.2, d2.1, d2.2, fun _ => by simp; omega⟩
                    · exact HO.out i (by omega)
                  case measure => simp [intOf]; omega
            · have e1 : decide (-900 ≤ z.o k ∧ z.o k ≤ 900) = true := by simp; exact d1
              have e2 : decide (0 ≤ z.t k ∧ z.t k ≤ 158310720) = false := by simp; omega
              go_wp2_with (first
                | (go_at_call 39; (with_reducible refine (mayAdd_any _ _).mono ?_); rintro e w' ⟨rfl, rfl⟩)
                | (go_at_call 40; (with_reducible refine (inTime_any _ _).mono ?_); rintro e w' ⟨rfl, rfl⟩))
              go_ret
              exact ⟨ret_bool (by rw [← HR.out, may_no.2 (fun h => d2 ⟨(h.2.2.2 k hlt).2.2.1, (h.2.2.2 k hlt).2.2.2.1⟩)]), g.below1.alloc g.below1.size _⟩
          · have e1 : decide (-900 ≤ z.o k ∧ z.o k ≤ 900) = false := by simp; omega
            go_wp2_with (first
              | (go_at_call 39; (with_reducible refine (mayAdd_any _ _).mono ?_); rintro e w' ⟨rfl, rfl⟩)
              | (go_at_call 40; (with_reducible refine (inTime_any _ _).mono ?_); rintro e w' ⟨rfl, rfl⟩))
            go_ret
            exact ⟨ret_bool (by rw [← HR.out, may_no.2 (fun h => d1 ⟨(h.2.2.2 k hlt).1, (h.2.2.2 k hlt).2.1⟩)]), g.below1.alloc g.below1.size _⟩
        · obtain rfl : k = z.n := by omega
          go_wp2_with fail
          go_ret
          exact ⟨ret_bool (by rw [← HR.out, may_iff.2 ⟨h1.1, h1.2, h2, HO.out⟩]), g.below1⟩
    · rw [may_no.2 (fun h => h2 h.2.2.1)]
      have hd : decide (-900 ≤ z.base ∧ z.base ≤ 900) = true := by simp; exact h1
      have hn := hw.2.1
      clear hz hw
      go_enter Try.func21, Try.ntmps21
      go_wp2_with (go_at_call 39; (with_reducible refine (mayAdd_any _ _).mono ?_); rintro e w' ⟨rfl, rfl⟩)
      go_ret
      exact ⟨rfl, (Below.refl _ _).alloc (Nat.le_refl _) _⟩
  · rw [may_no.2 (fun h => h1 ⟨h.1, h.2.1⟩)]
    have hd : decide (-900 ≤ z.base ∧ z.base ≤ 900) = false := by simp; omega
    clear hz hw
    go_enter Try.func21, Try.ntmps21
    go_wp2_with (go_at_call 39; (with_reducible refine (mayAdd_any _ _).mono ?_); rintro e w' ⟨rfl, rfl⟩)
    go_ret
    exact ⟨rfl, (Below.refl _ _).alloc (Nat.le_refl _) _⟩

def lastI (z : Z) : Nat → Int
  | 0 => -2880
  | k + 1 => z.t k

set_option maxHeartbeats 2000000 in
theorem rzmay_any (w : World) (A : Option Addr) (z : Z) (c : Nat) (hw : ZWf z) (hz : ZAt w A z) :
    Calls Try.prog 13 #[.agg #[.int .i64 z.base, .slice A z.n c]] w fun e w' => e = .returned (.bool (mayB z)) ∧ Below w.heap.size w w' := by
  have wb1 := hw.1.1
  have wb2 := hw.1.2
  have wn := hw.2.1
  by_cases h0 : z.base < -900
  · rw [may_no.2 (fun h => by have := h.1; omega)]
    clear hz hw
    go_enter Try.func13, Try.ntmps13
    go_wp2_with fail
    go_ret
    exact ⟨rfl, (Below.refl _ _).alloc (Nat.le_refl _) _⟩
  by_cases h1 : 900 < z.base
  · rw [may_no.2 (fun h => by have := h.2.1; omega)]
    clear hz hw
    go_enter Try.func13, Try.ntmps13
    go_wp2_with fail
    go_ret
    exact ⟨rfl, (Below.refl _ _).alloc (Nat.le_refl _) _⟩
  by_cases h2 : 700 < z.n
  · rw [may_no.2 (fun h => by have := h.2.2.1; omega)]
    clear hz hw
    go_enter Try.func13, Try.ntmps13
    go_wp2_with fail
    go_ret
    exact ⟨rfl, (Below.refl _ _).alloc (Nat.le_refl _) _⟩
  have HZ := Lib.hid (Gr.layZ hz (.cells #[.int .i64 z.base, .slice A z.n c] 24))
  have HW := Lib.hid hw
  obtain ⟨F0, F1⟩ := Gr.lay2 w (.int .i64 z.base) (.slice A z.n c) 24
  obtain ⟨r, hr⟩ : ∃ r, mayB z = r := ⟨_, rfl⟩
  rw [hr]
  have HR := Lib.hid hr
  clear hz hw hr
  go_enter Try.func13, Try.ntmps13
  go_wp2_with fail
  go_loopw [3, 23] (fun s3 s wr => ∃ (g : Gr (w.alloc (.cells #[.int .i64 z.base, .slice A z.n c] 24))) (k : Nat), wr = g.val ∧ s3 = .int .i64 (lastI z k) ∧ s = .int .i64 k ∧ k ≤ z.n ∧ Hid (∀ i, i < k → okT z i)) (fun _ s _ => (z.n - (intOf s).toNat))
  case atStart => exact ⟨⟨_, Below.refl _ _⟩, 0, rfl, rfl, rfl, Nat.zero_le _, fun i hi => absurd hi (Nat.not_lt_zero _)⟩
  case round =>
    obtain ⟨g, k, rfl, rfl, rfl, hk, HO⟩ := hrel
    by_cases hlt : k < z.n
    · obtain ⟨b, off, rfl, hb, g1, g2⟩ := (HZ.out g).at_ hlt
      obtain ⟨⟨w1, w2⟩, w3, w4⟩ := HW.out.2.2 k hlt
      have hkz : (k : Int) < (z.n : Int) := by omega
      obtain ⟨l1, l2⟩ : -2880 ≤ lastI z k ∧ lastI z k ≤ 158310720 := by
        cases k with
        | zero => exact ⟨Int.le_refl _, by show (-2880 : Int) ≤ _; omega⟩
        | succ j => have := HO.out j (by omega); exact ⟨by show _ ≤ z.t j; have := this.2.2.1; omega, this.2.2.2.1⟩
      have LL : Hid (okT z k → 2880 ≤ z.t k - lastI z k) := by
        intro h
        cases k with
        | zero => have := h.2.2.1; show _ ≤ z.t 0 - (-2880); omega
        | succ j => exact h.2.2.2.2 (by omega)
      have LR : Hid (2880 ≤ z.t k - lastI z k → 0 < k → 2880 ≤ z.t k - z.t (k - 1)) := by
        intro h h0
        cases k with
        | zero => exact absurd h0 (Nat.lt_irrefl _)
        | succ j => exact h
      have LS : Hid (lastI z (k + 1) = z.t k) := rfl
      generalize lastI z k = la at *
      by_cases d1 : z.o k < -900
      · go_wp2_with fail
        go_ret
        exact ⟨ret_bool (by rw [← HR.out, may_no.2 (fun h => by have := (h.2.2.2 k hlt).1; omega)]), g.below1.alloc g.below1.size _⟩
      by_cases d2 : 900 < z.o k
      · go_wp2_with fail
        go_ret
        exact ⟨ret_bool (by rw [← HR.out, may_no.2 (fun h => by have := (h.2.2.2 k hlt).2.1; omega)]), g.below1.alloc g.below1.size _⟩
      by_cases d3 : z.t k < 0
      · go_wp2_with fail
        go_ret
        exact ⟨ret_bool (by rw [← HR.out, may_no.2 (fun h => by have := (h.2.2.2 k hlt).2.2.1; omega)]), g.below1.alloc g.below1.size _⟩
      by_cases d4 : 158310720 < z.t k
      · go_wp2_with fail
        go_ret
        exact ⟨ret_bool (by rw [← HR.out, may_no.2 (fun h => by have := (h.2.2.2 k hlt).2.2.2.1; omega)]), g.below1.alloc g.below1.size _⟩
      by_cases d5 : z.t k - la < 2880
      · go_wp2_with fail
        go_ret
        exact ⟨ret_bool (by rw [← HR.out, may_no.2 (fun h => by have := LL.out (h.2.2.2 k hlt); omega)]), g.below1.alloc g.below1.size _⟩
      go_wp2_with fail
      go_roundw
      case rel =>
        obtain ⟨g', hg'⟩ := g.up0 (o := .cells #[.int .i64 (z.t k), .int .i64 (z.o k)] 59)
        refine ⟨g', k + 1, hg', by rw [LS.out], by go_num, hlt, fun i hi => ?_⟩
        by_cases e : i = k
        · subst e; exact ⟨by omega, by omega, by omega, by omega, LR.out (by omega)⟩
        · exact HO.out i (by omega)
      case measure => simp [intOf]; omega
    · obtain rfl : k = z.n := by omega
      go_wp2_with fail
      go_ret
      exact ⟨ret_bool (by rw [← HR.out, may_iff.2 ⟨by omega, by omega, by omega, HO.out⟩]), g.below1⟩
end Go.Proofs.Ytkfmigpdmolmaaa
