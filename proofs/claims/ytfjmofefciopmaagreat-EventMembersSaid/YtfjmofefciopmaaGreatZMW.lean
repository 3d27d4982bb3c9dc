import Derived.Test.YtfjmofefciopmaaGreatRows
import Derived.Test.YtfjmofefciopmaaGreatZMA
import Derived.Test.YtfjmofefciopmaaGreatZMB
import Derived.Deep.LoopGhost
import Derived.Deep.QuietTactic
import Derived.BigQuiet
import Derived.Lib.Hide
/- Contracts of the zones' small functions: what is added ahead of a turn, closures, the halving search. -/
section
namespace Go.Proofs.YtfjmofefciopmaaGreat
open Go.ChangeShapes Go.WideShapes Go.ChangeAt Go.RowKit Zn
def ZAt (w : World) (A : Option Addr) (z : Z) : Prop :=
  0 < z.n → ∃ b off, A = some ⟨b, off, none⟩ ∧ b < w.heap.size ∧ ∀ i, i < z.n → w.cell? ⟨b, off + i * 2, none⟩ = some (.int .i64 (z.t i)) ∧ w.cell? ⟨b, off + i * 2 + 1, none⟩ = some (.int .i64 (z.o i))
theorem ZAt.at_ {w : World} {A : Option Addr} {z : Z} (h : ZAt w A z) {i : Nat} (hi : i < z.n) : ∃ b off, A = some ⟨b, off, none⟩ ∧ b < w.heap.size ∧ w.cell? ⟨b, off + i * 2, none⟩ = some (.int .i64 (z.t i)) ∧ w.cell? ⟨b, off + i * 2 + 1, none⟩ = some (.int .i64 (z.o i)) := by
  obtain ⟨b, off, e, hb, hc⟩ := h (by omega)
  exact ⟨b, off, e, hb, hc i hi⟩
theorem ZAt.below {w w' : World} {A : Option Addr} {z : Z} (h : ZAt w A z) (hb : Below w.heap.size w w') : ZAt w' A z := by
  intro hn
  obtain ⟨b, off, e, hlt, hc⟩ := h hn
  refine ⟨b, off, e, Nat.lt_of_lt_of_le hlt hb.size, fun i hi => ?_⟩
  rw [hb.cell (p := ⟨b, off + i * 2, none⟩) hlt, hb.cell (p := ⟨b, off + i * 2 + 1, none⟩) hlt]
  exact hc i hi
theorem mayAdd_any (x : Int) (w : World) :
    Calls Tryz.prog 64 #[.int .i64 x] w fun e w' => e = .returned (.bool (decide (-900 ≤ x ∧ x ≤ 900))) ∧ w = w' := by
  by_cases h1 : -900 ≤ x
  · by_cases h2 : x ≤ 900
    · rw [show decide (-900 ≤ x ∧ x ≤ 900) = true by simp [h1, h2]]
      go_enter Tryz.func64, Tryz.ntmps64
      go_wp2
      go_ret
      exact ⟨rfl, rfl⟩
    · rw [show decide (-900 ≤ x ∧ x ≤ 900) = false by simp; omega]
      go_enter Tryz.func64, Tryz.ntmps64
      go_wp2
      go_ret
      exact ⟨rfl, rfl⟩
  · rw [show decide (-900 ≤ x ∧ x ≤ 900) = false by simp; omega]
    go_enter Tryz.func64, Tryz.ntmps64
    go_wp2
    go_ret
    exact ⟨rfl, rfl⟩
theorem inTime_any (x : Int) (w : World) :
    Calls Tryz.prog 65 #[.int .i64 x] w fun e w' => e = .returned (.bool (decide (0 ≤ x ∧ x ≤ 158310720))) ∧ w = w' := by
  by_cases h1 : 0 ≤ x
  · by_cases h2 : x ≤ 158310720
    · rw [show decide (0 ≤ x ∧ x ≤ 158310720) = true by simp [h1, h2]]
      go_enter Tryz.func65, Tryz.ntmps65
      go_wp2
      go_ret
      exact ⟨rfl, rfl⟩
    · rw [show decide (0 ≤ x ∧ x ≤ 158310720) = false by simp; omega]
      go_enter Tryz.func65, Tryz.ntmps65
      go_wp2
      go_ret
      exact ⟨rfl, rfl⟩
  · rw [show decide (0 ≤ x ∧ x ≤ 158310720) = false by simp; omega]
    go_enter Tryz.func65, Tryz.ntmps65
    go_wp2
    go_ret
    exact ⟨rfl, rfl⟩
theorem ahead_any (w : World) (A : Option Addr) (z : Z) (c p : Nat) (hp : p ≤ z.n) (hn : z.n ≤ 1000) (hz : ZAt w A z) :
    Calls Tryz.prog 95 #[.agg #[.int .i64 z.base, .slice A z.n c], .int .i64 p] w fun e w' => e = .returned (.int .i64 (ah z p)) ∧ Below w.heap.size w w' := by
  cases p with
  | zero =>
    show Calls Tryz.prog 95 #[.agg #[.int .i64 z.base, .slice A z.n c], .int .i64 0] w fun e w' => e = .returned (.int .i64 z.base) ∧ Below w.heap.size w w'
    clear hz
    go_enter Tryz.func95, Tryz.ntmps95
    go_wp2
    go_ret
    exact ⟨rfl, (Below.refl _ _).alloc (Nat.le_refl _) _⟩
  | succ p =>
    obtain ⟨b, off, rfl, hb, h1, h2⟩ := hz.at_ (i := p) (by omega)
    clear hz
    rw [show ((p + 1 : Nat) : Int) = (p : Int) + 1 by omega, show ah z (p + 1) = z.o p from rfl]
    go_enter Tryz.func95, Tryz.ntmps95
    go_wp2
    go_ret
    exact ⟨rfl, (Below.refl _ _).alloc (Nat.le_refl _) _⟩
theorem search_np (cb : Array Value) (n : Nat) (p : Nat → Bool) (r : Nat) (w : World) (hsz : n ≤ 1000) (hr : r ≤ n) (h0 : ∀ i, i < r → p i = false) (h1 : ∀ i, r ≤ i → i < n → p i = true)
    (hf : ∀ (g : Gr w) (i : Nat), i < n → Calls Tryz.prog 128 (#[.int .i64 i] ++ cb) g.val fun e w' => e = .returned (.bool (p i)) ∧ Below g.val.heap.size g.val w') :
    Calls Tryz.prog 127 #[.int .i64 n, .func (.func 128) #[] cb] w fun e w' => e = .returned (.int .i64 r) ∧ Below w.heap.size w w' := by
  have HF := Lib.hid hf
  have H0 := Lib.hid h0
  have H1 := Lib.hid h1
  clear hf h0 h1
  go_enter Tryz.func127, Tryz.ntmps127
  go_wp2
  go_loopw [5, 6] (fun s5 s6 wr => ∃ (g : Gr w) (lo hi : Nat), wr = g.val ∧ s5 = .int .i64 lo ∧ s6 = .int .i64 hi ∧ lo ≤ r ∧ r ≤ hi ∧ hi ≤ n) (fun s5 s6 _ => (intOf s6 - intOf s5).toNat)
  case atStart => exact ⟨⟨w, Below.refl _ _⟩, 0, n, rfl, rfl, rfl, Nat.zero_le _, hr, Nat.le_refl _⟩
  case round =>
    obtain ⟨g, lo, hi, rfl, rfl, rfl, hlr, hrh, hin⟩ := hrel
    by_cases hlt : lo < hi
    · have hc := HF.out g ((lo + hi) / 2) (by omega)
      rw [show (((lo + hi) / 2 : Nat) : Int) = ((lo : Int) + (hi : Int)) / 2 by omega] at hc
      by_cases hp : r ≤ (lo + hi) / 2
      · rw [H1.out _ hp (by omega)] at hc
        go_wp2_with (go_at_call 128; refine hc.mono ?_; rintro e w' ⟨rfl, hb⟩; obtain ⟨g', rfl⟩ := g.on hb; clear hb)
        go_roundw
        case rel => exact ⟨g', lo, (lo + hi) / 2, rfl, rfl, by rw [show ((lo : Int) + (hi : Int)) / 2 = (((lo + hi) / 2 : Nat) : Int) by omega], hlr, hp, by omega⟩
        case measure => simp [intOf]; omega
      · rw [H0.out _ (by omega)] at hc
        go_wp2_with (go_at_call 128; refine hc.mono ?_; rintro e w' ⟨rfl, hb⟩; obtain ⟨g', rfl⟩ := g.on hb; clear hb)
        go_roundw
        case rel => exact ⟨g', (lo + hi) / 2 + 1, hi, rfl, by rw [show ((lo : Int) + (hi : Int)) / 2 + 1 = (((lo + hi) / 2 + 1 : Nat) : Int) by omega], rfl, by omega, hrh, hin⟩
        case measure => simp [intOf]; omega
    · obtain rfl : lo = hi := by omega
      obtain rfl : lo = r := by omega
      go_wp2
      go_ret
      exact ⟨rfl, g.ok⟩
end Go.Proofs.YtfjmofefciopmaaGreat
end
section
namespace Go.Proofs.YtfjmofefciopmaaGreat
open Go.ChangeShapes Go.WideShapes Go.ChangeAt Go.RowKit Zn
theorem Gr.layZ {w : World} {A : Option Addr} {z : Z} (h : ZAt w A z) (o : Obj) : ∀ g : Gr (w.alloc o), ZAt g.val A z := fun g => h.below g.below1
set_option maxHeartbeats 1000000 in
theorem clocks_any (w : World) (A : Option Addr) (z : Z) (c p : Nat) (hp : p < z.n) (hm : mayP z) (hz : ZAt w A z) :
    Calls Tryz.prog 129 #[.agg #[.int .i64 z.base, .slice A z.n c], .int .i64 p] w fun e w' => e = .returned (.tuple #[.int .i64 (z.t p + ah z p), .int .i64 (z.t p + z.o p)]) ∧ Below w.heap.size w w' := by
  obtain ⟨b, off, rfl, hb, h1, h2⟩ := hz.at_ hp
  have hn := hm.2.2.1
  have ⟨b1, b2⟩ := ah_bd hm p (by omega)
  have ⟨b3, b4⟩ := o_bd hm hp
  have ⟨b5, b6⟩ := t_bd hm hp
  have e1 := Gr.layOld h1 (.cells #[.int .i64 z.base, .slice (some ⟨b, off, none⟩) z.n c] 24)
  have e2 := Gr.layOld h2 (.cells #[.int .i64 z.base, .slice (some ⟨b, off, none⟩) z.n c] 24)
  obtain ⟨e3, e4⟩ := Gr.lay2 w (.int .i64 z.base) (.slice (some ⟨b, off, none⟩) z.n c) 24
  have HZ := Lib.hid (Gr.layZ hz (.cells #[.int .i64 z.base, .slice (some ⟨b, off, none⟩) z.n c] 24))
  clear hz
  have hiz : (p : Int) < (z.n : Int) := by omega
  have hp' : p ≤ z.n := by omega
  have hn' : z.n ≤ 1000 := by omega
  clear hm
  go_enter Tryz.func129, Tryz.ntmps129
  go_wp2
  refine Gr.region (by kernel_rfl) (by kernel_rfl) (Gr.draw0 _) ?_
  repeat (go_big_quiet_step ((go_at_call 95; exact Gr.calls _ (ahead_any _ _ z c p hp' hn' (HZ.out _)))))
  refine wpQuiet_nil ?_
  rintro _ ⟨g, rfl⟩
  go_wp2
  go_ret2
  exact ⟨rfl, g.below1⟩
theorem npc_any (w : World) (A : Option Addr) (z : Z) (c i zb ub : Nat) (l : Int) (hi : i < z.n) (hm : mayP z) (hz : ZAt w A z)
    (h0 : w.cell? ⟨zb, 0, none⟩ = some (.int .i64 z.base)) (h1 : w.cell? ⟨zb, 1, none⟩ = some (.slice A z.n c)) (hu : w.cell? ⟨ub, 0, none⟩ = some (.int .i64 l)) :
    Calls Tryz.prog 128 (#[.int .i64 i] ++ #[.pointer (some ⟨zb, 0, none⟩), .pointer (some ⟨ub, 0, none⟩)]) w fun e w' => e = .returned (.bool (npB z l i)) ∧ Below w.heap.size w w' := by
  have HC := Lib.hid (clocks_any w A z c i hi hm hz)
  have HU := fun (g : Gr w) => cell_old hu g.ok
  have ⟨b1, b2⟩ := ah_bd hm i (by omega)
  have ⟨b3, b4⟩ := o_bd hm hi
  have ⟨b5, b6⟩ := t_bd hm hi
  clear hm hz
  unfold npB
  go_enter Tryz.func128, Tryz.ntmps128
  go_wp2_with (go_at_call 129; (with_reducible refine HC.out.mono ?_); rintro e w' ⟨rfl, hb⟩; obtain ⟨g, rfl⟩ := Gr.of hb; clear hb)
  all_goals go_ret
  all_goals refine ⟨?_, g.ok⟩
  all_goals simp_all
theorem np_any (w : World) (A : Option Addr) (z : Z) (c : Nat) (l : Int) (hm : mayP z) (hz : ZAt w A z) :
    Calls Tryz.prog 94 #[.agg #[.int .i64 z.base, .slice A z.n c], .int .i64 l] w fun e w' => e = .returned (.int .i64 (np z l)) ∧ Below w.heap.size w w' := by
  obtain ⟨W0, hW0⟩ : ∃ W0, W0 = (w.alloc (.cells #[.int .i64 z.base, .slice A z.n c] 24)).alloc (.cells #[.int .i64 l] 2) := ⟨_, rfl⟩
  have hB : Below w.heap.size w W0 := by rw [hW0]; exact ((Below.refl _ w).alloc (Nat.le_refl _) _).alloc (by simp) _
  have hn := hm.2.2.1
  have c0 : W0.cell? ⟨w.heap.size, 0, none⟩ = some (.int .i64 z.base) := by rw [hW0]; simp [go_sem]
  have c1 : W0.cell? ⟨w.heap.size, 1, none⟩ = some (.slice A z.n c) := by rw [hW0]; simp [go_sem]
  have c2 : W0.cell? ⟨w.heap.size + 1, 0, none⟩ = some (.int .i64 l) := by rw [hW0]; simp [go_sem]
  have HS := search_np #[.pointer (some ⟨w.heap.size, 0, none⟩), .pointer (some ⟨w.heap.size + 1, 0, none⟩)] z.n (npB z l) (np z l) W0 (by omega) (np_le z l)
    (fun i hi => np_none hi) (fun i hi hin => np_all hm hi hin)
    (fun g i hi => npc_any g.val A z c i w.heap.size (w.heap.size + 1) l hi hm (hz.below (hB.trans (g.ok.mono hB.size))) (cell_old c0 g.ok) (cell_old c1 g.ok) (cell_old c2 g.ok))
  clear hz c0 c1 c2
  have HB := Lib.hid hB
  clear hB
  go_enter Tryz.func94, Tryz.ntmps94
  go_wp2_with (go_at_call 127; rw [← hW0]; refine HS.mono ?_; rintro e w' ⟨rfl, hb⟩)
  go_ret
  exact ⟨rfl, HB.out.trans (hb.mono HB.out.size)⟩
theorem standing_any (w : World) (A : Option Addr) (z : Z) (c p : Nat) (l : Int) (hp : p ≤ z.n) (hm : mayP z) (hz : ZAt w A z) :
    Calls Tryz.prog 96 #[.agg #[.int .i64 z.base, .slice A z.n c], .int .i64 p, .int .i64 l] w fun e w' => e = .returned (.int .i64 (kindI z l p)) ∧ Below w.heap.size w w' := by
  have hn := hm.2.2.1
  have HZ := Gr.layZ hz (.cells #[.int .i64 z.base, .slice A z.n c] 24)
  by_cases h : p = z.n
  · rw [show kindI z l p = 0 by unfold kindI; rw [if_pos h]]
    clear hz HZ hm
    have h' : ((p : Int) == (z.n : Int)) = true := by simp; omega
    go_enter Tryz.func96, Tryz.ntmps96
    go_wp2
    go_ret
    exact ⟨rfl, (Below.refl _ _).alloc (Nat.le_refl _) _⟩
  · have HC := Lib.hid (fun (g : Gr (w.alloc (.cells #[.int .i64 z.base, .slice A z.n c] 24))) => clocks_any g.val A z c p (by omega) hm (HZ g))
    have ⟨b1, b2⟩ := ah_bd hm p (by omega)
    have ⟨b3, b4⟩ := o_bd hm (p := p) (by omega)
    have ⟨b5, b6⟩ := t_bd hm (p := p) (by omega)
    have h' : ((p : Int) == (z.n : Int)) = false := by simp; omega
    obtain ⟨g0, hg0⟩ := Gr.start (w.alloc (.cells #[.int .i64 z.base, .slice A z.n c] 24))
    have HC0 := Lib.hid (HC.out g0)
    rw [← hg0] at HC0
    clear hm hz HZ HC hg0 g0
    have KI : Hid (kindI z l p = if z.t p + ah z p ≤ l then 1 else if z.t p + z.o p ≤ l then 2 else 0) := by show _ = _; unfold kindI; rw [if_neg h]
    by_cases d1 : z.t p + ah z p ≤ l
    · rw [show kindI z l p = 1 by rw [KI.out, if_pos d1]]
      clear KI
      go_enter Tryz.func96, Tryz.ntmps96
      go_wp2_with (go_at_call 129; (with_reducible refine HC0.out.mono ?_); rintro e w' ⟨rfl, hb⟩; obtain ⟨g, rfl⟩ := Gr.of hb; clear hb)
      go_ret
      exact ⟨rfl, g.below1⟩
    · by_cases d2 : z.t p + z.o p ≤ l
      · rw [show kindI z l p = 2 by rw [KI.out, if_neg d1, if_pos d2]]
        clear KI
        go_enter Tryz.func96, Tryz.ntmps96
        go_wp2_with (go_at_call 129; (with_reducible refine HC0.out.mono ?_); rintro e w' ⟨rfl, hb⟩; obtain ⟨g, rfl⟩ := Gr.of hb; clear hb)
        go_ret
        exact ⟨rfl, g.below1⟩
      · rw [show kindI z l p = 0 by rw [KI.out, if_neg d1, if_neg d2]]
        clear KI
        go_enter Tryz.func96, Tryz.ntmps96
        go_wp2_with (go_at_call 129; (with_reducible refine HC0.out.mono ?_); rintro e w' ⟨rfl, hb⟩; obtain ⟨g, rfl⟩ := Gr.of hb; clear hb)
        go_ret
        exact ⟨rfl, g.below1⟩
end Go.Proofs.YtfjmofefciopmaaGreat
end
section
namespace Go.Proofs.YtfjmofefciopmaaGreat
open Go.ChangeShapes Go.WideShapes Go.ChangeAt Go.RowKit Zn
def ZWf (z : Z) : Prop := (-9223372036854775808 ≤ z.base ∧ z.base ≤ 9223372036854775807) ∧ z.n ≤ 9223372036854775807 ∧ ∀ i, i < z.n → (-9223372036854775808 ≤ z.t i ∧ z.t i ≤ 9223372036854775807) ∧ (-9223372036854775808 ≤ z.o i ∧ z.o i ≤ 9223372036854775807)
set_option maxHeartbeats 2000000 in
theorem zmay_any (w : World) (A : Option Addr) (z : Z) (c : Nat) (hw : ZWf z) (hz : ZAt w A z) :
    Calls Tryz.prog 35 #[.agg #[.int .i64 z.base, .slice A z.n c]] w fun e w' => e = .returned (.bool (mayB z)) ∧ Below w.heap.size w w' := by
  by_cases h1 : -900 ≤ z.base ∧ z.base ≤ 900
  · by_cases h2 : z.n ≤ 700
    · have HZ := Lib.hid (Gr.layZ hz (.cells #[.int .i64 z.base, .slice A z.n c] 24))
      have HW := Lib.hid hw
      obtain ⟨F0, F1⟩ := Gr.lay2 w (.int .i64 z.base) (.slice A z.n c) 24
      have F1A := Gr.cellA F1
      have hd : decide (-900 ≤ z.base ∧ z.base ≤ 900) = true := by simp; exact h1
      obtain ⟨r, hr⟩ : ∃ r, mayB z = r := ⟨_, rfl⟩
      rw [hr]
      have HR := Lib.hid hr
      clear hz hw hr
      go_enter Tryz.func35, Tryz.ntmps35
      go_wp2_with (go_at_call 64; (with_reducible refine (mayAdd_any _ _).mono ?_); rintro e w' ⟨rfl, rfl⟩)
      go_loopw [18] (fun s wr => ∃ (g : Gr (w.alloc (.cells #[.int .i64 z.base, .slice A z.n c] 24))) (k : Nat), wr = g.val ∧ s = .int .i64 k ∧ k ≤ z.n ∧ Hid (∀ i, i < k → okT z i)) (fun s _ => (z.n - (intOf s).toNat))
      case atStart => exact ⟨⟨_, Below.refl _ _⟩, 0, rfl, rfl, Nat.zero_le _, fun i hi => absurd hi (Nat.not_lt_zero _)⟩
      case round =>
        obtain ⟨g, k, rfl, rfl, hk, HO⟩ := hrel
        by_cases hlt : k < z.n
        · obtain ⟨b, off, rfl, hb, g1, g2⟩ := (HZ.out g).at_ hlt
          obtain ⟨⟨w1, w2⟩, w3, w4⟩ := HW.out.2.2 k hlt
          by_cases d1 : -900 ≤ z.o k ∧ z.o k ≤ 900
          · by_cases d2 : 0 ≤ z.t k ∧ z.t k ≤ 158310720
            · have e1 : decide (-900 ≤ z.o k ∧ z.o k ≤ 900) = true := by simp; exact d1
              have e2 : decide (0 ≤ z.t k ∧ z.t k ≤ 158310720) = true := by simp; exact d2
              rcases Nat.eq_zero_or_pos k with rfl | hk0
              · rw [Nat.zero_mul, Nat.add_zero] at g1 g2
                go_wp2_with (first
                  | (go_at_call 64; (with_reducible refine (mayAdd_any _ _).mono ?_); rintro e w' ⟨rfl, rfl⟩)
                  | (go_at_call 65; (with_reducible refine (inTime_any _ _).mono ?_); rintro e w' ⟨rfl, rfl⟩))
                go_quiet (fail)
                go_wp2
                go_roundw
                case rel =>
                  obtain ⟨g', hg'⟩ := g.up2 (o := .cells #[.int .i64 (z.t 0), .int .i64 (z.o 0)] 75) nq
                  refine ⟨g', 1, hg', rfl, hlt, fun i hi => ?_⟩
                  obtain rfl : i = 0 := by omega
                  exact ⟨d1.1, d1.2, d2.1, d2.2, fun h => absurd h (Nat.lt_irrefl _)⟩
                case measure => simp [intOf]; omega
              · obtain ⟨j, rfl⟩ : ∃ j, k = j + 1 := ⟨k - 1, by omega⟩
                obtain ⟨b', off', hbo, hb', g3, g4⟩ := (HZ.out g).at_ (i := j) (by omega)
                obtain ⟨rfl, rfl⟩ : b = b' ∧ off = off' := by simpa using hbo
                have T1 : Hid (okT z j) := HO.out j (by omega)
                have t1 := T1.out.2.2.1
                have t2 := T1.out.2.2.2.1
                have hj : (j : Int) < (z.n : Int) := by omega
                have e5 : (0 : Int) < (j : Int) + 1 := by omega
                go_wp2_with (first
                  | (go_at_call 64; (with_reducible refine (mayAdd_any _ _).mono ?_); rintro e w' ⟨rfl, rfl⟩)
                  | (go_at_call 65; (with_reducible refine (inTime_any _ _).mono ?_); rintro e w' ⟨rfl, rfl⟩))
                have g3a : ∀ o, (g.val.alloc o).cell? ⟨b, off + j * 2, none⟩ = some (.int .i64 (z.t j)) := fun o => cell_old g3 ((Below.refl _ _).alloc (Nat.le_refl _) o)
                by_cases d3 : z.t (j + 1) - z.t j < 2880
                · go_quiet (fail)
                  go_wp2
                  go_ret
                  exact ⟨ret_bool (by rw [← HR.out, may_no.2 (fun h => by have := (h.2.2.2 (j + 1) hlt).2.2.2.2 (by omega); simp at this; omega)]), (g.below1.alloc g.below1.size _).trans (Below.mono (drewN_below _ _) (by simp; have := g.below1.size; omega))⟩
                · have d4 : decide (z.t (j + 1) - z.t j < 2880) = false := by simp; omega
                  go_quiet (fail)
                  go_wp2
                  go_roundw
                  case rel =>
                    obtain ⟨g', hg'⟩ := g.up2 (o := .cells #[.int .i64 (z.t (j + 1)), .int .i64 (z.o (j + 1))] 75) nq
                    refine ⟨g', j + 1 + 1, hg', by congr 1, hlt, fun i hi => ?_⟩
                    by_cases e : i = j + 1
                    · subst e; exact ⟨d1.1, d1.2, d2.1, d2.2, fun _ => by simp; omega⟩
                    · exact HO.out i (by omega)
                  case measure => simp [intOf]; omega
            · have e1 : decide (-900 ≤ z.o k ∧ z.o k ≤ 900) = true := by simp; exact d1
              have e2 : decide (0 ≤ z.t k ∧ z.t k ≤ 158310720) = false := by simp; omega
              go_wp2_with (first
                | (go_at_call 64; (with_reducible refine (mayAdd_any _ _).mono ?_); rintro e w' ⟨rfl, rfl⟩)
                | (go_at_call 65; (with_reducible refine (inTime_any _ _).mono ?_); rintro e w' ⟨rfl, rfl⟩))
              go_ret
              exact ⟨ret_bool (by rw [← HR.out, may_no.2 (fun h => d2 ⟨(h.2.2.2 k hlt).2.2.1, (h.2.2.2 k hlt).2.2.2.1⟩)]), g.below1.alloc g.below1.size _⟩
          · have e1 : decide (-900 ≤ z.o k ∧ z.o k ≤ 900) = false := by simp; omega
            go_wp2_with (first
              | (go_at_call 64; (with_reducible refine (mayAdd_any _ _).mono ?_); rintro e w' ⟨rfl, rfl⟩)
              | (go_at_call 65; (with_reducible refine (inTime_any _ _).mono ?_); rintro e w' ⟨rfl, rfl⟩))
            go_ret
            exact ⟨ret_bool (by rw [← HR.out, may_no.2 (fun h => d1 ⟨(h.2.2.2 k hlt).1, (h.2.2.2 k hlt).2.1⟩)]), g.below1.alloc g.below1.size _⟩
        · obtain rfl : k = z.n := by omega
          go_wp2_with fail
          go_ret
          exact ⟨ret_bool (by rw [← HR.out, may_iff.2 ⟨h1.1, h1.2, h2, HO.out⟩]), g.below1⟩
    · rw [may_no.2 (fun h => h2 h.2.2.1)]
      have hd : decide (-900 ≤ z.base ∧ z.base ≤ 900) = true := by simp; exact h1
      have hn := hw.2.1
      clear hz hw
      go_enter Tryz.func35, Tryz.ntmps35
      go_wp2_with (go_at_call 64; (with_reducible refine (mayAdd_any _ _).mono ?_); rintro e w' ⟨rfl, rfl⟩)
      go_ret
      exact ⟨rfl, (Below.refl _ _).alloc (Nat.le_refl _) _⟩
  · rw [may_no.2 (fun h => h1 ⟨h.1, h.2.1⟩)]
    have hd : decide (-900 ≤ z.base ∧ z.base ≤ 900) = false := by simp; omega
    clear hz hw
    go_enter Tryz.func35, Tryz.ntmps35
    go_wp2_with (go_at_call 64; (with_reducible refine (mayAdd_any _ _).mono ?_); rintro e w' ⟨rfl, rfl⟩)
    go_ret
    exact ⟨rfl, (Below.refl _ _).alloc (Nat.le_refl _) _⟩
def lastI (z : Z) : Nat → Int
  | 0 => -2880
  | k + 1 => z.t k
set_option maxHeartbeats 2000000 in
theorem rzmay_any (w : World) (A : Option Addr) (z : Z) (c : Nat) (hw : ZWf z) (hz : ZAt w A z) :
    Calls Tryz.prog 18 #[.agg #[.int .i64 z.base, .slice A z.n c]] w fun e w' => e = .returned (.bool (mayB z)) ∧ Below w.heap.size w w' := by
  have wb1 := hw.1.1
  have wb2 := hw.1.2
  have wn := hw.2.1
  by_cases h0 : z.base < -900
  · rw [may_no.2 (fun h => by have := h.1; omega)]
    clear hz hw
    go_enter Tryz.func18, Tryz.ntmps18
    go_wp2_with fail
    go_ret
    exact ⟨rfl, (Below.refl _ _).alloc (Nat.le_refl _) _⟩
  by_cases h1 : 900 < z.base
  · rw [may_no.2 (fun h => by have := h.2.1; omega)]
    clear hz hw
    go_enter Tryz.func18, Tryz.ntmps18
    go_wp2_with fail
    go_ret
    exact ⟨rfl, (Below.refl _ _).alloc (Nat.le_refl _) _⟩
  by_cases h2 : 700 < z.n
  · rw [may_no.2 (fun h => by have := h.2.2.1; omega)]
    clear hz hw
    go_enter Tryz.func18, Tryz.ntmps18
    go_wp2_with fail
    go_ret
    exact ⟨rfl, (Below.refl _ _).alloc (Nat.le_refl _) _⟩
  have HZ := Lib.hid (Gr.layZ hz (.cells #[.int .i64 z.base, .slice A z.n c] 24))
  have HW := Lib.hid hw
  obtain ⟨F0, F1⟩ := Gr.lay2 w (.int .i64 z.base) (.slice A z.n c) 24
  obtain ⟨r, hr⟩ : ∃ r, mayB z = r := ⟨_, rfl⟩
  rw [hr]
  have HR := Lib.hid hr
  clear hz hw hr
  go_enter Tryz.func18, Tryz.ntmps18
  go_wp2_with fail
  go_loopw [3, 23] (fun s3 s wr => ∃ (g : Gr (w.alloc (.cells #[.int .i64 z.base, .slice A z.n c] 24))) (k : Nat), wr = g.val ∧ s3 = .int .i64 (lastI z k) ∧ s = .int .i64 k ∧ k ≤ z.n ∧ Hid (∀ i, i < k → okT z i)) (fun _ s _ => (z.n - (intOf s).toNat))
  case atStart => exact ⟨⟨_, Below.refl _ _⟩, 0, rfl, rfl, rfl, Nat.zero_le _, fun i hi => absurd hi (Nat.not_lt_zero _)⟩
  case round =>
    obtain ⟨g, k, rfl, rfl, rfl, hk, HO⟩ := hrel
    by_cases hlt : k < z.n
    · obtain ⟨b, off, rfl, hb, g1, g2⟩ := (HZ.out g).at_ hlt
      obtain ⟨⟨w1, w2⟩, w3, w4⟩ := HW.out.2.2 k hlt
      have hkz : (k : Int) < (z.n : Int) := by omega
      obtain ⟨l1, l2⟩ : -2880 ≤ lastI z k ∧ lastI z k ≤ 158310720 := by
        cases k with
        | zero => exact ⟨Int.le_refl _, by show (-2880 : Int) ≤ _; omega⟩
        | succ j => have := HO.out j (by omega); exact ⟨by show _ ≤ z.t j; have := this.2.2.1; omega, this.2.2.2.1⟩
      have LL : Hid (okT z k → 2880 ≤ z.t k - lastI z k) := by
        intro h
        cases k with
        | zero => have := h.2.2.1; show _ ≤ z.t 0 - (-2880); omega
        | succ j => exact h.2.2.2.2 (by omega)
      have LR : Hid (2880 ≤ z.t k - lastI z k → 0 < k → 2880 ≤ z.t k - z.t (k - 1)) := by
        intro h h0
        cases k with
        | zero => exact absurd h0 (Nat.lt_irrefl _)
        | succ j => exact h
      have LS : Hid (lastI z (k + 1) = z.t k) := rfl
      generalize lastI z k = la at *
      by_cases d1 : z.o k < -900
      · go_wp2_with fail
        go_ret
        exact ⟨ret_bool (by rw [← HR.out, may_no.2 (fun h => by have := (h.2.2.2 k hlt).1; omega)]), g.below1.alloc g.below1.size _⟩
      by_cases d2 : 900 < z.o k
      · go_wp2_with fail
        go_ret
        exact ⟨ret_bool (by rw [← HR.out, may_no.2 (fun h => by have := (h.2.2.2 k hlt).2.1; omega)]), g.below1.alloc g.below1.size _⟩
      by_cases d3 : z.t k < 0
      · go_wp2_with fail
        go_ret
        exact ⟨ret_bool (by rw [← HR.out, may_no.2 (fun h => by have := (h.2.2.2 k hlt).2.2.1; omega)]), g.below1.alloc g.below1.size _⟩
      by_cases d4 : 158310720 < z.t k
      · go_wp2_with fail
        go_ret
        exact ⟨ret_bool (by rw [← HR.out, may_no.2 (fun h => by have := (h.2.2.2 k hlt).2.2.2.1; omega)]), g.below1.alloc g.below1.size _⟩
      by_cases d5 : z.t k - la < 2880
      · go_wp2_with fail
        go_ret
        exact ⟨ret_bool (by rw [← HR.out, may_no.2 (fun h => by have := LL.out (h.2.2.2 k hlt); omega)]), g.below1.alloc g.below1.size _⟩
      go_wp2_with fail
      go_roundw
      case rel =>
        obtain ⟨g', hg'⟩ := g.up0 (o := .cells #[.int .i64 (z.t k), .int .i64 (z.o k)] 75)
        refine ⟨g', k + 1, hg', by rw [LS.out], by go_num, hlt, fun i hi => ?_⟩
        by_cases e : i = k
        · subst e; exact ⟨by omega, by omega, by omega, by omega, LR.out (by omega)⟩
        · exact HO.out i (by omega)
      case measure => simp [intOf]; omega
    · obtain rfl : k = z.n := by omega
      go_wp2_with fail
      go_ret
      exact ⟨ret_bool (by rw [← HR.out, may_iff.2 ⟨by omega, by omega, by omega, HO.out⟩]), g.below1⟩
end Go.Proofs.YtfjmofefciopmaaGreat
end
section
namespace Go.Proofs.YtfjmofefciopmaaGreat
open Go.ChangeShapes Go.WideShapes Go.ChangeAt Go.RowKit Zn
theorem ZAt.alloc {w : World} {A : Option Addr} {z : Z} (h : ZAt w A z) (o : Obj) : ZAt (w.alloc o) A z := h.below ((Below.refl _ _).alloc (Nat.le_refl _) o)
def inB (u : Int) : Bool := decide (0 ≤ u ∧ u ≤ 158310720)
theorem inTime_b (x : Int) (w : World) :
    Calls Tryz.prog 65 #[.int .i64 x] w fun e w' => e = .returned (.bool (inB x)) ∧ w = w' := inTime_any x w
theorem roffs_any (w : World) (A : Option Addr) (z : Z) (c : Nat) (u : Int) (hn : z.n ≤ 9223372036854775807) (hz : ZAt w A z) :
    Calls Tryz.prog 46 #[.agg #[.int .i64 z.base, .slice A z.n c], .int .i64 u] w fun e w' => e = .returned (.int .i64 (off z u)) ∧ Below w.heap.size w w' := by
  have HZ := Lib.hid (hz.alloc (.cells #[.int .i64 z.base, .slice A z.n c] 24))
  clear hz
  have OT : Hid (off z u = offTo z u z.n) := rfl
  obtain ⟨r, hr⟩ : ∃ r, off z u = r := ⟨_, rfl⟩
  rw [hr]
  rw [hr] at OT
  clear hr
  go_enter Tryz.func46, Tryz.ntmps46
  go_wp2
  go_loop [5, 12] (fun s5 s => ∃ k : Nat, s5 = .int .i64 (offTo z u k) ∧ s = .int .i64 k ∧ k ≤ z.n) (fun _ s => (z.n - (intOf s).toNat))
  case atStart => exact ⟨0, rfl, rfl, Nat.zero_le _⟩
  case round =>
    obtain ⟨k, rfl, rfl, hk⟩ := hrel
    by_cases hlt : k < z.n
    · obtain ⟨b, off, rfl, hb, g1, g2⟩ := HZ.out.at_ hlt
      have hkz : (k : Int) < (z.n : Int) := by omega
      have LS : Hid (offTo z u (k + 1) = if z.t k ≤ u then z.o k else offTo z u k) := rfl
      by_cases d : z.t k ≤ u
      · go_wp2
        go_round
        case rel => exact ⟨k + 1, by rw [LS.out, if_pos d], by go_num, hlt⟩
        case measure => simp [intOf]; omega
      · go_wp2
        go_round
        case rel => exact ⟨k + 1, by rw [LS.out, if_neg d], by go_num, hlt⟩
        case measure => simp [intOf]; omega
    · obtain rfl : k = z.n := by omega
      go_wp2
      go_ret
      exact ⟨ret_int (by rw [OT.out]), (Below.refl _ _).alloc (Nat.le_refl _) _⟩
end Go.Proofs.YtfjmofefciopmaaGreat
end
section
namespace Go.Proofs.YtfjmofefciopmaaGreat
open Go.ChangeShapes Go.WideShapes Go.ChangeAt Go.RowKit Zn
set_option maxHeartbeats 1000000 in
theorem utc_yes (w : World) (A : Option Addr) (z : Z) (c : Nat) (l : Int) (hw : ZWf z) (hz : ZAt w A z) (h : hasP z l) :
    Calls Tryz.prog 74 #[.agg #[.int .i64 z.base, .slice A z.n c], .int .i64 l] w fun e w' => e = .returned (.tuple #[.int .i64 (atI z l), .int .i64 (kindI z l (np z l)), .bool true]) ∧ Below w.heap.size w w' := by
  obtain ⟨l1, l2, hp, a1, a2⟩ := h
  have HC := Lib.hid (zmay_any _ A z c hw (hz.alloc (.cells #[.int .i64 z.base, .slice A z.n c] 24)))
  have HZ := Lib.hid (Gr.layZ hz (.cells #[.int .i64 z.base, .slice A z.n c] 24))
  obtain ⟨F0, F1⟩ := Gr.lay2 w (.int .i64 z.base) (.slice A z.n c) 24
  have hm : mayB z = true := may_iff.2 hp
  have HP := Lib.hid hp
  have hn : z.n ≤ 1000 := by have := hp.2.2.1; omega
  have hi : inB (l - ah z (np z l)) = true := by unfold inB; unfold atI at a1 a2; simp; omega
  have ⟨o1, o2⟩ := ah_bd hp (np z l) (np_le z l)
  unfold atI at a1 a2 ⊢
  clear hz hw hp
  go_enter Tryz.func74, Tryz.ntmps74
  go_wp2_with (first
    | (go_at_call 35; (with_reducible refine HC.out.mono ?_); rintro e w' ⟨rfl, hb⟩; obtain ⟨g, rfl⟩ := Gr.of hb; clear hb)
    | (go_at_call 94; (with_reducible refine (np_any _ _ z c l HP.out (HZ.out _)).mono ?_); rintro e w' ⟨rfl, hb⟩; obtain ⟨g2, rfl⟩ := g.on hb; clear hb)
    | (go_at_call 95; (with_reducible refine (ahead_any _ _ z c (np z l) (np_le z l) hn (HZ.out _)).mono ?_); rintro e w' ⟨rfl, hb⟩; obtain ⟨g3, rfl⟩ := g2.on hb; clear hb)
    | (go_at_call 65; (with_reducible refine (inTime_b _ _).mono ?_); rintro e w' ⟨rfl, rfl⟩)
    | (go_at_call 96; (with_reducible refine (standing_any _ _ z c (np z l) l (np_le z l) HP.out (HZ.out _)).mono ?_); rintro e w' ⟨rfl, hb⟩; obtain ⟨g4, rfl⟩ := g3.on hb; clear hb))
  go_ret3
  exact ⟨rfl, g4.below1⟩
set_option maxHeartbeats 1000000 in
theorem utc_no (w : World) (A : Option Addr) (z : Z) (c : Nat) (l : Int) (hw : ZWf z) (hz : ZAt w A z) (h : ¬ hasP z l) :
    Calls Tryz.prog 74 #[.agg #[.int .i64 z.base, .slice A z.n c], .int .i64 l] w fun e w' => e = .returned (.tuple #[.int .i64 0, .int .i64 0, .bool false]) ∧ Below w.heap.size w w' := by
  by_cases l1 : l < -900
  · clear hz hw h
    go_enter Tryz.func74, Tryz.ntmps74
    go_wp2_with fail
    go_ret3
    exact ⟨rfl, (Below.refl _ _).alloc (Nat.le_refl _) _⟩
  by_cases l2 : 158311620 < l
  · clear hz hw h
    go_enter Tryz.func74, Tryz.ntmps74
    go_wp2_with fail
    go_ret3
    exact ⟨rfl, (Below.refl _ _).alloc (Nat.le_refl _) _⟩
  have HC := Lib.hid (zmay_any _ A z c hw (hz.alloc (.cells #[.int .i64 z.base, .slice A z.n c] 24)))
  cases hm : mayB z with
  | false =>
    clear hz hw h
    go_enter Tryz.func74, Tryz.ntmps74
    go_wp2_with (go_at_call 35; (with_reducible refine HC.out.mono ?_); rintro e w' ⟨rfl, hb⟩; obtain ⟨g, rfl⟩ := Gr.of hb; clear hb)
    go_ret3
    exact ⟨rfl, g.below1⟩
  | true =>
    have hp := may_iff.1 hm
    have HZ := Lib.hid (Gr.layZ hz (.cells #[.int .i64 z.base, .slice A z.n c] 24))
    obtain ⟨F0, F1⟩ := Gr.lay2 w (.int .i64 z.base) (.slice A z.n c) 24
    have hi : inB (l - ah z (np z l)) = false := by
      unfold inB; simp; intro h3
      have : ¬ atI z l ≤ 158310720 := fun h4 => h ⟨by omega, by omega, hp, by unfold atI; omega, h4⟩
      unfold atI at this; omega
    have HP := Lib.hid hp
    have hn : z.n ≤ 1000 := by have := hp.2.2.1; omega
    have ⟨o1, o2⟩ := ah_bd hp (np z l) (np_le z l)
    clear hz hw hp h
    go_enter Tryz.func74, Tryz.ntmps74
    go_wp2_with (first
      | (go_at_call 35; (with_reducible refine HC.out.mono ?_); rintro e w' ⟨rfl, hb⟩; obtain ⟨g, rfl⟩ := Gr.of hb; clear hb)
      | (go_at_call 94; (with_reducible refine (np_any _ _ z c l HP.out (HZ.out _)).mono ?_); rintro e w' ⟨rfl, hb⟩; obtain ⟨g2, rfl⟩ := g.on hb; clear hb)
      | (go_at_call 95; (with_reducible refine (ahead_any _ _ z c (np z l) (np_le z l) hn (HZ.out _)).mono ?_); rintro e w' ⟨rfl, hb⟩; obtain ⟨g3, rfl⟩ := g2.on hb; clear hb)
      | (go_at_call 65; (with_reducible refine (inTime_b _ _).mono ?_); rintro e w' ⟨rfl, rfl⟩))
    go_ret3
    exact ⟨rfl, g3.below1⟩
end Go.Proofs.YtfjmofefciopmaaGreat
end
