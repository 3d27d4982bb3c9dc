/- The laws' walks: the chapter's example. -/
import Derived.Test.YtjjmbndknjjjjaaDoorFW5
import Derived.Deep.RegionHeld3
namespace Go.Proofs.YtjjmbndknjjjjaaDoor
open Go.ChangeShapes Go.WideShapes Go.ChangeAt Go.RowKit Go.Joins Fr

def z16 : List UInt8 := List.replicate 16 0
theorem made16 : ∀ w' : World, (Instr.makeSlice 23 (.int .i64 16) (.int .i64 16)).run Tryd.prog w' = .ok (.slice (some ⟨w'.heap.size, 0, none⟩) 16 16) (w'.alloc (.cells (bl z16).toArray 5)) := fun w' => by
  obtain ⟨i0, hi0, hq0, hq1, hq2⟩ := info_parts u8_info
  rw [run_make (P := Tryd.prog) w' 23 5 i0 _ Tryd.underlying23 hi0 hq0 .i64 .i64 16 16 (by omega) (by omega) (by rw [hq2]; omega) (by omega), hq1]
  rw [show (Int.toNat 16 * 1) = 16 from rfl, show (Value.int .u8 0).cells = #[Value.int .u8 0] from rfl, madeBytes]
  rfl
theorem fixed6_any (w : World) (hH : Halves w) :
    Calls Tryd.prog 8 #[] w fun e w' => e = .returned (.bool true) ∧ Below w.heap.size w w' := by
  obtain ⟨cs, hcs⟩ : ∃ cs, (bl z16).toArray = cs := ⟨_, rfl⟩
  have hmk := made16
  rw [hcs] at hmk
  have hB : ∀ w' : World, BAt (w'.alloc (.cells cs 5)) (some ⟨w'.heap.size, 0, none⟩) z16 := fun w' => by rw [← hcs]; exact BAt.new w' z16 5 (0, 0)
  have HG := Lib.hid (get_any 1 0 16 z16 (some ⟨w.heap.size, 0, none⟩) 16 (by decide) (by decide) rfl (Nat.le_refl _) (by decide) (w.alloc (.cells cs 5)) (hB w) (hH.alloc _))
  have hno : getB 1 0 z16 = false := by decide +kernel
  have HN := Lib.hid (fun w' : World => gen_any z16 16 (some ⟨w'.heap.size, 0, none⟩) 16 rfl (Nat.le_refl _) (by decide) (w'.alloc (.cells cs 5)) (hB w'))
  rw [show rd4 (z16.drop 4) = 0 by decide +kernel] at HN
  clear hB hcs hH
  go_enter Tryd.func8, Tryd.ntmps8
  go_wp2_with fail
  go_at_call 11
  refine HG.out.mono ?_
  rintro e w1 (⟨_, rfl, hb⟩ | ⟨h, _⟩)
  case inr => rw [hno] at h; cases h
  obtain ⟨g, rfl⟩ := Gr.of hb
  clear hb
  go_wp2_with fail
  go_at_call 12
  refine (HN.out _).mono ?_
  rintro e w1 ⟨rfl, hb⟩
  go_wp2_with fail
  go_ret
  exact ⟨rfl, g.below1.trans ((((Below.refl _ _).alloc (Nat.le_refl _) _).trans (hb.mono (by simp))).mono (Nat.le_trans (by simp) g.size))⟩
end Go.Proofs.YtjjmbndknjjjjaaDoor
