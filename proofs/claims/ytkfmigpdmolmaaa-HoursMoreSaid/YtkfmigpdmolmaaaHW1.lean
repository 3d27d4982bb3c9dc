/- Hours in memory; contract: may hours be, the document's. -/
import Derived.Test.YtkfmigpdmolmaaaRows
import Derived.Test.YtkfmigpdmolmaaaSK
import Derived.Test.YtkfmigpdmolmaaaHMath
import Derived.BigQuiet
import Derived.Deep.QuietTactic
namespace Go.Proofs.Ytkfmigpdmolmaaa
open Go.ChangeShapes Go.WideShapes Go.ChangeAt Go.RowKit Hr

/-- Shifts as cells. -/
def tv : List (Int × Int × Int) → List Value
  | [] => []
  | s :: r => .int .i64 s.1 :: .int .i64 s.2.1 :: .int .i64 s.2.2 :: tv r
theorem tv_len (l : List (Int × Int × Int)) : (tv l).length = l.length * 3 := by induction l with | nil => rfl | cons s r ih => simp [tv, ih]; omega
theorem tv_at : ∀ {l : List (Int × Int × Int)} {i : Nat} {s : Int × Int × Int}, l[i]? = some s → (tv l)[i * 3]? = some (.int .i64 s.1) ∧ (tv l)[i * 3 + 1]? = some (.int .i64 s.2.1) ∧ (tv l)[i * 3 + 2]? = some (.int .i64 s.2.2)
  | x :: r, 0, s, h => by obtain rfl : x = s := by simpa using h
                          exact ⟨rfl, rfl, rfl⟩
  | x :: r, i + 1, s, h => by
    have ih := tv_at (l := r) (i := i) (s := s) (by simpa using h)
    rw [show (i + 1) * 3 = i * 3 + 1 + 1 + 1 by omega]
    exact ⟨by simpa [tv] using ih.1, by simpa [tv] using ih.2.1, by simpa [tv] using ih.2.2⟩
theorem Sl.shift {w : World} {A : Option Addr} {n c : Nat} {l : List (Int × Int × Int)} (h : Sl w A n c (tv l)) {i : Nat} {s : Int × Int × Int} (hi : l[i]? = some s) :
    ∃ b off, A = some ⟨b, off, none⟩ ∧ b < w.heap.size ∧ w.cell? ⟨b, off + i * 3, none⟩ = some (.int .i64 s.1) ∧ w.cell? ⟨b, off + i * 3 + 1, none⟩ = some (.int .i64 s.2.1) ∧ w.cell? ⟨b, off + i * 3 + 2, none⟩ = some (.int .i64 s.2.2) := by
  obtain ⟨h1, h2, h3⟩ := tv_at hi
  have hl := (List.getElem?_eq_some_iff.1 h1).1
  obtain ⟨b, off, e, hlt, hc⟩ := h.on (by omega)
  exact ⟨b, off, e, hlt, hc _ _ h1, by rw [Nat.add_assoc]; exact hc _ _ h2, by rw [Nat.add_assoc]; exact hc _ _ h3⟩
/-- Hours in memory. -/
structure HAt (w : World) (h : H) (A1 A2 : Option Addr) (c1 c2 : Nat) : Prop where
  s1 : Sl w A1 h.shifts.length c1 (tv h.shifts)
  s2 : Sl w A2 h.off.length c2 (iv h.off)
theorem HAt.below {w w' : World} {h : H} {A1 A2 : Option Addr} {c1 c2 : Nat} (k : HAt w h A1 A2 c1 c2) (hb : Below w.heap.size w w') : HAt w' h A1 A2 c1 c2 := ⟨k.s1.below hb (Nat.le_refl _), k.s2.below hb (Nat.le_refl _)⟩

set_option maxRecDepth 100000 in
set_option maxHeartbeats 4000000 in
theorem rmay12_any (h : H) (A1 A2 : Option Addr) (c1 c2 : Nat) (w : World) (hs : HAt w h A1 A2 c1 c2) :
    Calls Try.prog 11 #[.agg #[.slice A1 h.shifts.length c1, .slice A2 h.off.length c2]] w fun e w' => e = .returned (.bool (mayHB h)) ∧ Below w.heap.size w w' := by
  have hl1 : (h.shifts.length : Int) ≤ 9223372036854775807 := by have := hs.s1.le; have := hs.s1.cap; unfold maxLen at this; omega
  have hl2 : (h.off.length : Int) ≤ 9223372036854775807 := by have := hs.s2.le; have := hs.s2.cap; unfold maxLen at this; omega
  obtain ⟨F0, F1⟩ := Gr.lay2 w (.slice A1 h.shifts.length c1) (.slice A2 h.off.length c2) 28
  have F0A := Gr.cellA F0
  by_cases hb : 10 < h.shifts.length ∨ 60 < h.off.length
  · have E := Lib.hid (may_no (h := h) (fun k => by have := k.1; have := k.2.1; omega))
    have hz : decide ((10 : Int) < h.shifts.length) = true ∨ decide ((10 : Int) < h.shifts.length) = false ∧ decide ((60 : Int) < h.off.length) = true := by
      by_cases h1 : 10 < h.shifts.length
      · exact .inl (decide_eq_true (by omega))
      · exact .inr ⟨decide_eq_false (by omega), decide_eq_true (by omega)⟩
    clear hb hs
    rcases hz with hz | ⟨hz, hz2⟩
    all_goals
      go_enter Try.func11, Try.ntmps11
      go_wp2_with fail
      go_ret
      exact ⟨ret_bool E.out.symm, (Below.refl _ _).alloc (Nat.le_refl _) _⟩
  have hz1 : decide ((10 : Int) < h.shifts.length) = false := decide_eq_false (by omega)
  have hz2 : decide ((60 : Int) < h.off.length) = false := decide_eq_false (by omega)
  have h10 : h.shifts.length ≤ 10 := by omega
  have h60 : h.off.length ≤ 60 := by omega
  have HS := Lib.hid hs
  obtain ⟨r, hr⟩ : ∃ r, mayHB h = r := ⟨_, rfl⟩
  rw [hr]
  have HR := Lib.hid hr
  clear hs hr hb
  go_enter Try.func11, Try.ntmps11
  go_wp2_with fail
  go_loopw [19] (fun s wr => ∃ (g : Gr (w.alloc (.cells #[.slice A1 h.shifts.length c1, .slice A2 h.off.length c2] 28))) (k : Nat), wr = g.val ∧ s = .int .i64 k ∧ k ≤ h.shifts.length ∧ Hid (∀ s ∈ h.shifts.take k, okS s)) (fun s _ => (h.shifts.length - (intOf s).toNat))
  case atStart => exact ⟨⟨_, Below.refl _ _⟩, 0, rfl, rfl, Nat.zero_le _, fun s hs => by simp at hs⟩
  case round =>
    obtain ⟨g, k, rfl, rfl, hk, HO⟩ := hrel
    by_cases hlt : k < h.shifts.length
    · have hkz : (k : Int) < h.shifts.length := by omega
      obtain ⟨s, hs⟩ : ∃ s, h.shifts[k]? = some s := ⟨_, List.getElem?_eq_getElem hlt⟩
      obtain ⟨b, off, rfl, hbs, g1, g2, g3⟩ := (HS.out.below g.below1).s1.shift hs
      have HMm := Lib.hid (List.mem_of_getElem? hs)
      have HT : Hid (h.shifts.take (k + 1) = h.shifts.take k ++ [s]) := by show _ = _; rw [List.take_add_one, hs]; rfl
      clear hs
      obtain ⟨d, f, t⟩ := s
      simp only at g1 g2 g3
      have hways : (d < 1) ∨ (¬ d < 1 ∧ 127 < d) ∨ (¬ d < 1 ∧ ¬ 127 < d ∧ f < 0) ∨ (¬ d < 1 ∧ ¬ 127 < d ∧ ¬ f < 0 ∧ t ≤ f) ∨ (¬ d < 1 ∧ ¬ 127 < d ∧ ¬ f < 0 ∧ ¬ t ≤ f ∧ 1440 < t) ∨ (¬ d < 1 ∧ ¬ 127 < d ∧ ¬ f < 0 ∧ ¬ t ≤ f ∧ ¬ 1440 < t) := by omega
      rcases hways with e1 | ⟨e1, e2⟩ | ⟨e1, e2, e3⟩ | ⟨e1, e2, e3, e4⟩ | ⟨e1, e2, e3, e4, e5⟩ | ⟨e1, e2, e3, e4, e5⟩
      case inr.inr.inr.inr.inr =>
        have HN : Hid (∀ s ∈ h.shifts.take (k + 1), okS s) := fun s hs => by
          rw [HT.out] at hs
          rcases List.mem_append.1 hs with q | q
          · exact HO.out s q
          · obtain rfl : s = (d, f, t) := by simpa using q
            exact ⟨by show 1 ≤ d; omega, by show d ≤ 127; omega, by show 0 ≤ f; omega, by show f < t; omega, by show t ≤ 1440; omega⟩
        go_wp2_with fail
        go_roundw
        case rel =>
          obtain ⟨g', hg'⟩ := g.up0 (o := .cells #[.int .i64 d, .int .i64 f, .int .i64 t] 44)
          exact ⟨g', k + 1, hg', by go_num, hlt, HN.out⟩
        case measure => simp [intOf]; omega
      all_goals
        have E : Hid (r = false) := by
          show _ = _
          rw [← HR.out]
          refine may_no fun q => ?_
          have q2 := q.2.2.1 _ HMm.out
          unfold okS at q2
          simp only at q2
          omega
        go_wp2_with fail
        go_ret
        exact ⟨ret_bool E.out.symm, (g.below1.alloc g.below1.size _)⟩
    · obtain rfl : k = h.shifts.length := by omega
      rw [List.take_length] at HO
      have HSH := Lib.hid HO.out
      clear HO
      go_wp2_with fail
      go_loopw [56] (fun s wr => ∃ (g : Gr (w.alloc (.cells #[.slice A1 h.shifts.length c1, .slice A2 h.off.length c2] 28))) (k : Nat), wr = g.val ∧ s = .int .i64 k ∧ k ≤ h.off.length ∧ Hid (∀ i, i < k → okO h.off i)) (fun s _ => (h.off.length - (intOf s).toNat))
      case atStart => exact ⟨g, 0, rfl, rfl, Nat.zero_le _, fun i hi => absurd hi (Nat.not_lt_zero _)⟩
      case round =>
        obtain ⟨g, k, rfl, rfl, hk, HO⟩ := hrel
        by_cases hlt : k < h.off.length
        · have hkz : (k : Int) < h.off.length := by omega
          obtain ⟨x, hx⟩ : ∃ x, h.off[k]? = some x := ⟨_, List.getElem?_eq_getElem hlt⟩
          have HX : Hid (h.off.getD k 0 = x) := by show _ = _; rw [List.getD_eq_getElem?_getD, hx]; rfl
          obtain ⟨b, off, rfl, hbs, hce⟩ := (HS.out.below g.below1).s2.intG hx
          have g1 := hce ⟨_, Below.refl _ _⟩
          simp only at g1
          have HNO : Hid ((x < 0 ∨ 109937 < x ∨ 0 < k ∧ x ≤ h.off.getD (k - 1) 0) → r = false) := fun q => by
            rw [← HR.out]
            refine may_no fun p => ?_
            have p2 := p.2.2.2 k hlt
            unfold okO at p2
            rw [HX.out] at p2
            rcases q with q | q | q
            · omega
            · omega
            · have := p2.2.2 q.1; omega
          by_cases e1 : x < 0
          · have E : Hid (r = false) := HNO.out (.inl e1)
            have e1b : decide (x < 0) = true := decide_eq_true e1
            go_wp2_with fail
            go_quiet (fail)
            go_wp2_with fail
            go_ret
            exact ⟨ret_bool E.out.symm, g.below1.trans (Below.mono (drewN_below _ _) (by have := g.below1.size; omega))⟩
          have e1b : decide (x < 0) = false := decide_eq_false e1
          by_cases e2 : 109937 < x
          · have E : Hid (r = false) := HNO.out (.inr (.inl e2))
            go_wp2_with fail
            go_quiet (fail)
            go_wp2_with fail
            go_ret
            exact ⟨ret_bool E.out.symm, g.below1.trans (Below.mono (drewN_below _ _) (by have := g.below1.size; omega))⟩
          have e2b : decide (109937 < x) = false := decide_eq_false e2
          rcases Nat.eq_zero_or_pos k with rfl | hk0
          · have HN : Hid (∀ i, i < 0 + 1 → okO h.off i) := fun i hi => by
              obtain rfl : i = 0 := by omega
              unfold okO; rw [HX.out]; exact ⟨by omega, by omega, fun h => absurd h (Nat.lt_irrefl _)⟩
            have g2 : g.val.cell? ⟨b, off, none⟩ = some (.int .i64 x) := by simpa using g1
            go_wp2_with fail
            go_quiet (fail)
            go_wp2_with fail
            go_roundw
            case rel =>
              obtain ⟨g', hg'⟩ : ∃ g' : Gr (w.alloc (.cells #[.slice A1 h.shifts.length c1, .slice (some ⟨b, off, none⟩) h.off.length c2] 28)), g.val.drewN nq = g'.val := g.on (drewN_below _ _)
              exact ⟨g', 1, hg', rfl, hlt, HN.out⟩
            case measure => simp [intOf]; omega
          · obtain ⟨j, rfl⟩ : ∃ j, k = j + 1 := ⟨k - 1, by omega⟩
            obtain ⟨y, hy⟩ : ∃ y, h.off[j]? = some y := ⟨_, List.getElem?_eq_getElem (by omega)⟩
            have HY : Hid (h.off.getD (j + 1 - 1) 0 = y) := by show _ = _; rw [Nat.add_sub_cancel, List.getD_eq_getElem?_getD, hy]; rfl
            obtain ⟨b', off', hbo, hb', hce'⟩ := (HS.out.below g.below1).s2.intG hy
            obtain ⟨rfl, rfl⟩ : b = b' ∧ off = off' := by simpa using hbo
            have g2 := hce' ⟨_, Below.refl _ _⟩
            simp only at g2
            rw [HY.out] at HNO
            have hj : (j : Int) < h.off.length := by omega
            have e5 : decide ((0 : Int) < (j : Int) + 1) = true := decide_eq_true (by omega)
            have e6 : (0 : Int) < (j : Int) + 1 := by omega
            clear hce hce' hx hy hbo
            by_cases e3 : x ≤ y
            · have E : Hid (r = false) := HNO.out (.inr (.inr ⟨by omega, e3⟩))
              go_wp2_with fail
              go_quiet (fail)
              go_wp2_with fail
              go_ret
              exact ⟨ret_bool E.out.symm, g.below1.trans (Below.mono (drewN_below _ _) (by have := g.below1.size; omega))⟩
            · have e3b : decide (x ≤ y) = false := decide_eq_false e3
              have HN : Hid (∀ i, i < j + 1 + 1 → okO h.off i) := fun i hi => by
                by_cases e : i = j + 1
                · subst e; unfold okO; rw [HX.out, HY.out]; exact ⟨by omega, by omega, fun _ => by omega⟩
                · exact HO.out i (by omega)
              go_wp2_with fail
              go_quiet (fail)
              go_wp2_with fail
              go_roundw
              case rel =>
                obtain ⟨g', hg'⟩ : ∃ g' : Gr (w.alloc (.cells #[.slice A1 h.shifts.length c1, .slice (some ⟨b, off, none⟩) h.off.length c2] 28)), g.val.drewN nq = g'.val := g.on (drewN_below _ _)
                exact ⟨g', j + 1 + 1, hg', by go_num, hlt, HN.out⟩
              case measure => simp [intOf]; omega
        · obtain rfl : k = h.off.length := by omega
          have E : Hid (r = true) := by show _ = _; rw [← HR.out]; exact may_yes ⟨h10, h60, HSH.out, HO.out⟩
          go_wp2_with fail
          go_ret
          exact ⟨ret_bool E.out.symm, g.below1⟩
end Go.Proofs.Ytkfmigpdmolmaaa
