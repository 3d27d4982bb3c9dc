/- What the statements on hours share: the spans of any window; the chapter's example; whether more is asked than is gone through. -/
import Derived.Test.YtkfmigpdmolmaaaHP8
import Derived.Test.YtkfmigpdmolmaaaHMath4
namespace Go.Proofs.Ytkfmigpdmolmaaa
open Go.ChangeShapes Go.WideShapes Go.ChangeAt Go.RowKit Go.Joins Hr Zn Sp

/-- A minute is worked, and hours, zone, and window may be. -/
def spansB (z : Z) (h : H) (a b : Int) (x : Int) : Bool := mayHB h && mayB z && decide (winP12 a b) && worksB h (Zn.off z) x
theorem spansB_yes {z : Z} {h : H} {a b : Int} (hm : Hr.mayH h) (hp : mayP z) (hw : winP12 a b) : spansB z h a b = worksB h (Zn.off z) := by
  funext x; unfold spansB; rw [may_yes hm, may_iff.2 hp, decide_eq_true hw]; rfl
theorem spansB_no {z : Z} {h : H} {a b : Int} (hn : ¬ (Hr.mayH h ∧ mayP z ∧ winP12 a b)) (x : Int) : spansB z h a b x = false := by
  unfold spansB
  by_cases q1 : Hr.mayH h
  · by_cases q2 : mayP z
    · rw [decide_eq_false (fun q3 : winP12 a b => hn ⟨q1, q2, q3⟩)]; simp
    · rw [Zn.may_no.2 q2]; simp
  · rw [Hr.may_no q1]; rfl
theorem pspans_any (z : Z) (A : Option Addr) (c : Nat) (h : H) (A1 A2 : Option Addr) (c1 c2 : Nat) (a b : Int) (w : World) (ha : -9223372036854775808 ≤ a ∧ a ≤ 9223372036854775807) (hb : -9223372036854775808 ≤ b ∧ b ≤ 9223372036854775807)
    (hzw : ZWf z) (hz : ZAt w A z) (hs : HAt w h A1 A2 c1 c2) :
    Calls Try.prog 12 #[.agg #[.int .i64 z.base, .slice A z.n c], .agg #[.slice A1 h.shifts.length c1, .slice A2 h.off.length c2], .agg #[.int .i64 a, .int .i64 b]] w (RetW a b (spansB z h a b) w) := by
  by_cases hg : Hr.mayH h ∧ mayP z ∧ winP12 a b
  · rw [spansB_yes hg.1 hg.2.1 hg.2.2]
    exact pspans_yes z A c h A1 A2 c1 c2 a b w ha hb hg.1 hg.2.1 hg.2.2 hzw hz hs
  · refine (pspans_no z A c h A1 A2 c1 c2 a b w ha hb hg hzw hz hs).mono fun e w' he => ⟨[], he, trivial, fun x => ⟨fun q => absurd q (has_nil x), fun q => ?_⟩⟩
    rw [spansB_no hg] at q; exact absurd q.2.2 (by simp)

set_option maxRecDepth 100000 in
set_option maxHeartbeats 2000000 in
theorem fixed12_any (w : World) : Calls Try.prog 9 #[] w fun e w' => e = .returned (.bool true) ∧ Below w.heap.size w w' := by
  obtain ⟨W1, hW1⟩ : ∃ W1, w.alloc (.cells #[.int .i64 31, .int .i64 540, .int .i64 1020] 44) = W1 := ⟨_, rfl⟩
  have hB : Below w.heap.size w W1 := by rw [← hW1]; exact (Below.refl _ _).alloc (Nat.le_refl _) _
  have hs1 : Sl W1 (some ⟨w.heap.size, 0, none⟩) 1 1 (tv hX.shifts) := by
    rw [← hW1]; exact Sl.new w (tv hX.shifts) 1 44 (0, 0) (by decide)
  have hP := pspans_any zX none 0 hX (some ⟨w.heap.size, 0, none⟩) none 1 0 0 10080 W1 (by decide) (by decide) ⟨by decide, by decide, fun i hi => absurd hi (Nat.not_lt_zero _)⟩ (fun hi => absurd hi (Nat.lt_irrefl _)) ⟨hs1, Sl.none_ _⟩
  rw [spansB_yes hX_may zX_may (by decide)] at hP
  have HP : Hid (Calls Try.prog 12 #[.agg #[.int .i64 0, .slice none 0 0], .agg #[.slice (some ⟨w.heap.size, 0, none⟩) 1 1, .slice none 0 0], .agg #[.int .i64 0, .int .i64 10080]] W1 fun e w' => ∃ A c, e = .returned (.slice A 5 c) ∧ Sl w' A 5 c (sv lX) ∧ Below W1.heap.size W1 w') := by
    refine hP.mono ?_
    rintro e w' ⟨l, hr, hf, hx⟩
    obtain rfl := hX_row hf hx
    exact hr
  have E1 := Lib.hid hW1
  have HB := Lib.hid hB
  clear hP hs1 hW1 hB
  go_enter Try.func9, Try.ntmps9
  go_wp2_with fail
  go_at_call 12
  rw [E1.out]
  refine HP.out.mono ?_
  rintro e w2 ⟨A, c, rfl, hsl, hb⟩
  obtain ⟨b, off, rfl, hbs, g1, g2⟩ := Sl.span (l := lX) (i := 0) (s := (540, 1020)) hsl rfl
  simp only [Nat.zero_mul, Nat.add_zero, Nat.zero_add] at g1 g2
  go_wp2_with fail
  go_ret
  exact ⟨rfl, HB.out.trans (hb.mono HB.out.size)⟩

set_option maxHeartbeats 2000000 in
theorem great12_any (z : Z) (A : Option Addr) (c : Nat) (h : H) (A1 A2 : Option Addr) (c1 c2 : Nat) (hn : z.n ≤ 9223372036854775807) (hl1 : h.shifts.length ≤ 9223372036854775807) (hl2 : h.off.length ≤ 9223372036854775807) (w : World) :
    Calls Try.prog 8 #[.agg #[.int .i64 z.base, .slice A z.n c], .agg #[.slice A1 h.shifts.length c1, .slice A2 h.off.length c2]] w fun e w' => e = .returned (.bool (decide (8 < z.n ∨ 20 < h.shifts.length ∨ 100 < h.off.length))) ∧ Below w.heap.size w w' := by
  obtain ⟨r, hr⟩ : ∃ r, decide (8 < z.n ∨ 20 < h.shifts.length ∨ 100 < h.off.length) = r := ⟨_, rfl⟩
  rw [hr]
  have hz1 : (z.n : Int) ≤ 9223372036854775807 := by omega
  have hz2 : (h.shifts.length : Int) ≤ 9223372036854775807 := by omega
  have hz3 : (h.off.length : Int) ≤ 9223372036854775807 := by omega
  have hways : decide ((8 : Int) < z.n) = true ∧ r = true ∨ decide ((8 : Int) < z.n) = false ∧ decide ((20 : Int) < h.shifts.length) = true ∧ r = true ∨ decide ((8 : Int) < z.n) = false ∧ decide ((20 : Int) < h.shifts.length) = false ∧ decide ((100 : Int) < h.off.length) = r := by
    by_cases q1 : 8 < z.n
    · exact .inl ⟨decide_eq_true (by omega), by rw [← hr]; exact decide_eq_true (.inl q1)⟩
    · by_cases q2 : 20 < h.shifts.length
      · exact .inr (.inl ⟨decide_eq_false (by omega), decide_eq_true (by omega), by rw [← hr]; exact decide_eq_true (.inr (.inl q2))⟩)
      · refine .inr (.inr ⟨decide_eq_false (by omega), decide_eq_false (by omega), ?_⟩)
        rw [← hr, Bool.eq_iff_iff, decide_eq_true_eq, decide_eq_true_eq]; omega
  generalize z.n = n0 at *
  generalize h.shifts.length = n1 at *
  generalize h.off.length = n2 at *
  clear hr hn hl1 hl2
  rcases hways with ⟨h1, rfl⟩ | ⟨h1, h2, rfl⟩ | ⟨h1, h2, h3⟩
  all_goals
    go_enter Try.func8, Try.ntmps8
    go_wp2_with fail
    go_ret
    exact ⟨rfl, ((Below.refl _ _).alloc (Nat.le_refl _) _).alloc (by simp) _⟩
end Go.Proofs.Ytkfmigpdmolmaaa
