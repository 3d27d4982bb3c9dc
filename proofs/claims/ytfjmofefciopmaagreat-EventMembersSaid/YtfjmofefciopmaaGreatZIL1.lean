import Derived.Test.YtfjmofefciopmaaGreatZIW10
import Derived.Test.YtfjmofefciopmaaGreatZMJ
/- Layer 11's laws: the chapter's example, asked of the program. -/
section
namespace Go.Proofs.YtfjmofefciopmaaGreat
open Go.ChangeShapes Go.WideShapes Go.ChangeAt Go.RowKit Go.Joins Sp Ev Qr
def zN : Zn.Z := ⟨0, 0, fun _ => 0, fun _ => 0⟩
theorem zN_wf : ZWf zN := ⟨by decide, by decide, fun i h => absurd h (Nat.not_lt_zero _)⟩
theorem zN_may : Zn.mayP zN := by decide
set_option maxRecDepth 100000 in
set_option maxHeartbeats 2000000 in
theorem fixed11_any (w : World) : Calls Tryz.prog 9 #[] w fun e w' => e = .returned (.bool true) ∧ Below w.heap.size w w' := by
  have HM : Hid (∀ (V : World) (b : Nat), Sl V (some ⟨b, 0, none⟩) 1 1 (cv [(2040, 2040, 0)]) → Calls Tryz.prog 13 #[.agg #[.int .i64 0, .slice none 0 0], .agg (ecells e0 none none none none none none (some ⟨b, 0, none⟩) 0 0 0 0 0 0 1), .agg #[.int .i64 0, .int .i64 4320]] V
      fun e w' => (∃ A c, e = .returned (.slice A 2 c) ∧ Sl w' A 2 c (sv [(600, 630), (3480, 3510)])) ∧ Below V.heap.size V w') := fun V b hs => by
    have h := pmembers_any zN none 0 e0 none none none none none none (some ⟨b, 0, none⟩) 0 0 0 0 0 0 1 0 4320 zN_wf (by decide) (by decide) (by decide) (by decide) (by omega) (by omega) V (fun h => absurd h (Nat.lt_irrefl 0)) ⟨⟨Sl.none_ _, Sl.none_ _, Sl.none_ _, Sl.none_ _⟩, Sl.none_ _, Sl.none_ _, hs⟩
    rw [e0_members rfl rfl zN_may] at h
    refine Calls.mono h ?_
    rintro e w' ⟨A, c, rfl, hsl, hb⟩
    exact ⟨⟨A, c, rfl, hsl⟩, hb⟩
  unfold ecells e0 dR at HM
  simp only [List.length_nil, List.length_cons, Nat.zero_add] at HM
  obtain ⟨W1, hW1⟩ : ∃ W1, (w.alloc (.cells #[.int .i64 2040, .int .i64 2040, .int .i64 0] 47)) = W1 := ⟨_, rfl⟩
  have hs1 : Sl W1 (some ⟨w.heap.size, 0, none⟩) 1 1 (cv [(2040, 2040, 0)]) := by
    rw [← hW1]
    have := Sl.new w (cv [(2040, 2040, 0)]) 1 47 (0, 0) (by decide)
    exact this
  have HS1 : Hid (∀ V, Below W1.heap.size W1 V → Sl V (some ⟨w.heap.size, 0, none⟩) 1 1 (cv [(2040, 2040, 0)])) := fun V hb => hs1.below hb (Nat.le_refl _)
  have HBW : Hid (Below w.heap.size w W1) := by show Below _ _ _; rw [← hW1]; exact (Below.refl _ w).alloc (Nat.le_refl _) _
  have E1 := Lib.hid hW1
  clear hs1 hW1
  go_enter Tryz.func9, Tryz.ntmps9
  go_wp2_with fail
  go_at_call 13
  refine (HM.out _ _ (HS1.out _ (by rw [← E1.out]; exact (Below.refl _ _).alloc (Nat.le_refl _) _))).mono ?_
  rintro e w2 ⟨⟨A, c, rfl, hs⟩, hb⟩
  have HX : Hid (Below w.heap.size w w2) := (((Below.refl _ w).alloc (Nat.le_refl _) _).alloc (by simp) _).trans (hb.mono (by simp; omega))
  obtain ⟨p, off, rfl, _, q1⟩ := hs.spanG (i := 0) (s := (600, 630)) rfl
  obtain ⟨p', off', e', _, q2⟩ := hs.spanG (i := 1) (s := (3480, 3510)) rfl
  cases e'
  obtain ⟨y0, y1⟩ := q1 ⟨w2, Below.refl _ _⟩
  obtain ⟨y2, y3⟩ := q2 ⟨w2, Below.refl _ _⟩
  simp only [Nat.zero_mul, Nat.one_mul, Nat.add_zero] at y0 y1 y2 y3
  clear hs hb q1 q2 HM HS1 HBW E1
  go_wp2_with fail
  go_ret
  exact ⟨rfl, HX.out⟩
end Go.Proofs.YtfjmofefciopmaaGreat
end
