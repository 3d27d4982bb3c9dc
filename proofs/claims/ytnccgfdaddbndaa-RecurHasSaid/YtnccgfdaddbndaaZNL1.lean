import Derived.Test.YtnccgfdaddbndaaZNW14
import Derived.Test.YtnccgfdaddbndaaZMC
/- Layer 10's laws: the chapter's example, asked of the program. -/
section
namespace Go.Proofs.Ytnccgfdaddbndaa
open Go.ChangeShapes Go.WideShapes Go.ChangeAt Go.RowKit Go.Joins Qr Tm Cal

set_option maxRecDepth 100000 in
set_option maxHeartbeats 1000000 in
theorem fixed10_any (w : World) : Calls Try.prog 6 #[] w fun e w' => e = .returned (.bool true) ∧ Below w.heap.size w w' := by
  have HN := Lib.hid (fun w => rnumber_yes 2026 1 31 w ex_num.1)
  rw [ex_num.2] at HN
  have HB : Hid (∀ V : World, Calls Try.prog 10 #[.agg #[.int .i64 3, .int .i64 1, .int .i64 0, .int .i64 (-1), .slice none 0 0, .slice (some ⟨V.heap.size, 0, none⟩) 1 1, .slice none 0 0, .slice none 0 0, .int .i64 0], .int .i64 66313440, .int .i64 0, .int .i64 66443040, .int .i64 9] (V.alloc (.cells #[.int .i64 31] 3))
      fun e w' => (∃ A c, e = .returned (.tuple #[.slice A 2 c, .bool true]) ∧ Sl w' A 2 c (iv [66313440, 66398400])) ∧ Below (V.alloc (.cells #[.int .i64 31] 3)).heap.size (V.alloc (.cells #[.int .i64 31] 3)) w') := by
    intro V
    have hr : RAt (V.alloc (.cells #[.int .i64 31] 3)) exR none (some ⟨V.heap.size, 0, none⟩) none none 0 1 0 0 :=
      ⟨Sl.none_ _, Sl.new V [.int .i64 31] 1 3 (0, 0) (by decide), Sl.none_ _, Sl.none_ _⟩
    have h := pbetween_any exR none (some ⟨V.heap.size, 0, none⟩) none none 0 1 0 0 66313440 0 66443040 9 (by omega) (by omega) (by omega) (by decide) _ hr
    refine Calls.mono h ?_
    rintro e w' ⟨h1 | h1, hb⟩
    · obtain ⟨_, A, c, rfl, hs⟩ := h1
      rw [ex_within] at hs
      exact ⟨⟨A, c, by rw [ex_within]; rfl, hs⟩, hb⟩
    · have := h1.1
      rw [ex_within] at this
      simp at this
      omega
  go_enter Try.func6, Try.ntmps6
  go_wp2_with fail
  go_at_call 11
  refine (HN.out _).mono ?_
  rintro e w1 ⟨rfl, hb⟩
  have HB1 := Lib.hid hb
  clear hb
  go_wp2_with fail
  go_at_call 10
  refine (HB.out _).mono ?_
  rintro e w2 ⟨⟨A, c, rfl, hs⟩, hb⟩
  have HX : Hid (Below w.heap.size w w2) := (HB1.out.alloc HB1.out.size _).trans (hb.mono (by have := HB1.out.size; simp; omega))
  obtain ⟨p, off, rfl, _, q1⟩ := hs.intG (i := 0) (x := 66313440) rfl
  obtain ⟨p', off', e', _, q2⟩ := hs.intG (i := 1) (x := 66398400) rfl
  cases e'
  have z1 := q1 ⟨w2, Below.refl _ _⟩
  have z2 := q2 ⟨w2, Below.refl _ _⟩
  simp only [Nat.add_zero] at z1 z2
  clear hs hb q1 q2 HB HN HB1
  go_wp2_with fail
  go_ret
  exact ⟨rfl, HX.out⟩
end Go.Proofs.Ytnccgfdaddbndaa
end
