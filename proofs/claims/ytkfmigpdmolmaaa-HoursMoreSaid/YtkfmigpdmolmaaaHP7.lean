/- Contract of the program's hours: the minutes of a window that are worked. -/
import Derived.Test.YtkfmigpdmolmaaaHP4
import Derived.Test.YtkfmigpdmolmaaaHP6
import Derived.Test.YtkfmigpdmolmaaaRHo
import Derived.Test.YtkfmigpdmolmaaaHW3
namespace Go.Proofs.Ytkfmigpdmolmaaa
open Go.ChangeShapes Go.WideShapes Go.ChangeAt Go.RowKit Go.Joins Hr Zn Sp

theorem u64_diff12 {x y : Int} (hx : -9223372036854775808 ≤ x ∧ x ≤ 9223372036854775807) (hy : -9223372036854775808 ≤ y ∧ y ≤ 9223372036854775807) (h : x < y) : IntKind.u64.wrap (IntKind.u64.wrap y - IntKind.u64.wrap x) = y - x := by
  rw [IntKind.wrap_u64, IntKind.wrap_u64, IntKind.wrap_u64]; omega
def winP12 (a b : Int) : Prop := a < b ∧ b - a ≤ 527040
instance (a b : Int) : Decidable (winP12 a b) := by unfold winP12; infer_instance
theorem pwinMay_any (a b : Int) (ha : -9223372036854775808 ≤ a ∧ a ≤ 9223372036854775807) (hb : -9223372036854775808 ≤ b ∧ b ≤ 9223372036854775807) (w : World) :
    Calls Try.prog 22 #[.agg #[.int .i64 a, .int .i64 b]] w fun e w' => e = .returned (.bool (decide (winP12 a b))) ∧ Below w.heap.size w w' := by
  obtain ⟨r, hr⟩ : ∃ r, decide (winP12 a b) = r := ⟨_, rfl⟩
  rw [hr]
  by_cases h1 : a < b
  · have h1b : decide (a < b) = true := decide_eq_true h1
    have hd := u64_diff12 ha hb h1
    have E : Hid (r = decide (b - a ≤ 527040)) := by
      show _ = _; rw [← hr, Bool.eq_iff_iff, decide_eq_true_eq, decide_eq_true_eq]; unfold winP12
      exact ⟨fun q => q.2, fun q => ⟨h1, q⟩⟩
    clear hr
    go_enter Try.func22, Try.ntmps22
    go_wp2_with fail
    go_ret
    exact ⟨ret_bool E.out.symm, (Below.refl _ _).alloc (Nat.le_refl _) _⟩
  · have h1b : decide (a < b) = false := decide_eq_false h1
    have E : Hid (r = false) := by show _ = _; rw [← hr]; exact decide_eq_false fun q => h1 q.1
    clear hr
    go_enter Try.func22, Try.ntmps22
    go_wp2_with fail
    go_ret
    exact ⟨ret_bool E.out.symm, (Below.refl _ _).alloc (Nat.le_refl _) _⟩

set_option maxRecDepth 100000 in
set_option maxHeartbeats 4000000 in
theorem pspans_no (z : Z) (A : Option Addr) (c : Nat) (h : H) (A1 A2 : Option Addr) (c1 c2 : Nat) (a b : Int) (w : World) (ha : -9223372036854775808 ≤ a ∧ a ≤ 9223372036854775807) (hb : -9223372036854775808 ≤ b ∧ b ≤ 9223372036854775807)
    (hn : ¬ (Hr.mayH h ∧ mayP z ∧ winP12 a b)) (hzw : ZWf z) (hz : ZAt w A z) (hs : HAt w h A1 A2 c1 c2) :
    Calls Try.prog 12 #[.agg #[.int .i64 z.base, .slice A z.n c], .agg #[.slice A1 h.shifts.length c1, .slice A2 h.off.length c2], .agg #[.int .i64 a, .int .i64 b]] w (RetS [] w) := by
  obtain ⟨W1, hW1⟩ : ∃ W1, ((w.alloc (.cells #[.int .i64 z.base, .slice A z.n c] 24)).alloc (.cells #[.slice A1 h.shifts.length c1, .slice A2 h.off.length c2] 28)).alloc (.cells #[.int .i64 a, .int .i64 b] 30) = W1 := ⟨_, rfl⟩
  have hW0 : Below w.heap.size w W1 := by rw [← hW1]; exact (((Below.refl _ _).alloc (Nat.le_refl _) _).alloc (by simp) _).alloc (by simp; omega) _
  have hZ0 : ∀ G : Gr W1, G.val.cell? ⟨w.heap.size, 0, none⟩ = some (.int .i64 z.base) ∧ G.val.cell? ⟨w.heap.size, 1, none⟩ = some (.slice A z.n c) ∧ G.val.cell? ⟨w.heap.size + 1, 0, none⟩ = some (.slice A1 h.shifts.length c1) ∧ G.val.cell? ⟨w.heap.size + 1, 1, none⟩ = some (.slice A2 h.off.length c2) ∧ G.val.cell? ⟨w.heap.size + 2, 0, none⟩ = some (.int .i64 a) ∧ G.val.cell? ⟨w.heap.size + 2, 1, none⟩ = some (.int .i64 b) := fun G => by
    refine ⟨cell_old ?_ G.ok, cell_old ?_ G.ok, cell_old ?_ G.ok, cell_old ?_ G.ok, cell_old ?_ G.ok, cell_old ?_ G.ok⟩
    all_goals (rw [← hW1]; simp [go_sem])
  have HM := Lib.hid (fun G : Gr W1 => pmay12_any h A1 A2 c1 c2 G.val (hs.below (hW0.trans (G.ok.mono hW0.size))))
  have HZ := Lib.hid (fun G : Gr W1 => zmay_any G.val A z c hzw (hz.below (hW0.trans (G.ok.mono hW0.size))))
  have HW := Lib.hid (fun w : World => pwinMay_any a b ha hb w)
  have HZ0 := Lib.hid hZ0
  have E1 := Lib.hid hW1
  have HW0 := Lib.hid hW0
  obtain ⟨k1, k2, k3, k4, k5, k6⟩ := hZ0 ⟨W1, Below.refl _ _⟩
  simp only at k1 k2 k3 k4 k5 k6
  have hways : mayHB h = false ∨ mayHB h = true ∧ Zn.mayB z = false ∨ mayHB h = true ∧ Zn.mayB z = true ∧ decide (winP12 a b) = false := by
    by_cases q : Hr.mayH h
    · by_cases q2 : mayP z
      · exact .inr (.inr ⟨may_yes q, may_iff.2 q2, decide_eq_false fun p => hn ⟨q, q2, p⟩⟩)
      · exact .inr (.inl ⟨may_yes q, Zn.may_no.2 q2⟩)
    · exact .inl (may_no q)
  have HEND : Hid (∀ G : Gr W1, RetS [] w (.returned (.slice none 0 0)) G.val) := fun G => ⟨none, 0, rfl, Sl.none_ _, hW0.trans (G.ok.mono hW0.size)⟩
  clear hn hz hs hW1 hW0 hZ0 ha hb
  generalize mayHB h = b1 at *
  generalize Zn.mayB z = b2 at *
  generalize decide (winP12 a b) = b3 at *
  rcases hways with rfl | ⟨rfl, rfl⟩ | ⟨rfl, rfl, rfl⟩
  all_goals
    go_enter Try.func12, Try.ntmps12
    go_upto_region 1 with fail
    rw [E1.out]
    go_wp2_with fail
    go_at_call 10
    refine (HM.out ⟨W1, Below.refl _ _⟩).mono ?_
    rintro e w2 ⟨rfl, hb⟩
    obtain ⟨g, rfl⟩ := Gr.of hb
    clear hb k1 k2 k3 k4 k5 k6
    obtain ⟨k1, k2, k3, k4, k5, k6⟩ := HZ0.out g
    go_wp2_with fail
    try (
      go_at_call 21
      refine (HZ.out g).mono ?_
      rintro e w3 ⟨rfl, hb⟩
      obtain ⟨g, rfl⟩ := g.on hb
      clear hb k1 k2 k3 k4 k5 k6
      obtain ⟨k1, k2, k3, k4, k5, k6⟩ := HZ0.out g
      go_wp2_with fail
      try (
        go_at_call 22
        refine (HW.out g.val).mono ?_
        rintro e w4 ⟨rfl, hb⟩
        obtain ⟨g, rfl⟩ := g.on hb
        clear hb k1 k2 k3 k4 k5 k6
        go_wp2_with fail))
    go_ret
    exact HEND.out _
end Go.Proofs.Ytkfmigpdmolmaaa
