/- Contracts: the places of turns, clocks at a turn, how a local time stands. -/
import Derived.Test.YtkfmigpdmolmaaaZW1
namespace Go.Proofs.Ytkfmigpdmolmaaa
open Go.ChangeShapes Go.WideShapes Go.ChangeAt Go.RowKit Zn

theorem Gr.layZ {w : World} {A : Option Addr} {z : Z} (h : ZAt w A z) (o : Obj) : ∀ g : Gr (w.alloc o), ZAt g.val A z := fun g => h.below g.below1

theorem fb_any (w : World) (A : Option Addr) (z : Z) (c : Nat) (u : Int) (hm : mayP z) (hz : ZAt w A z) :
    Calls Try.prog 44 #[.agg #[.int .i64 z.base, .slice A z.n c], .int .i64 u] w fun e w' => e = .returned (.int .i64 (fb z u)) ∧ Below w.heap.size w w' := by
  obtain ⟨W0, hW0⟩ : ∃ W0, W0 = (w.alloc (.cells #[.int .i64 z.base, .slice A z.n c] 24)).alloc (.cells #[.int .i64 u] 2) := ⟨_, rfl⟩
  have hB : Below w.heap.size w W0 := by rw [hW0]; exact ((Below.refl _ w).alloc (Nat.le_refl _) _).alloc (by simp) _
  have hn := hm.2.2.1
  have c1 : W0.cell? ⟨w.heap.size, 1, none⟩ = some (.slice A z.n c) := by rw [hW0]; simp [go_sem]
  have c2 : W0.cell? ⟨w.heap.size + 1, 0, none⟩ = some (.int .i64 u) := by rw [hW0]; simp [go_sem]
  have HS := search_fb #[.pointer (some ⟨w.heap.size, 0, none⟩), .pointer (some ⟨w.heap.size + 1, 0, none⟩)] z.n (fun i => decide (u < z.t i)) (fb z u) W0 (by omega) (fb_le z u)
    (fun i hi => by have := fb_no hi; simp; omega) (fun i hi hin => by have := fb_all hm hi hin; simpa using this)
    (fun g i hi => fbc_any g.val A z c i w.heap.size (w.heap.size + 1) u hi (by omega) (hz.below (hB.trans (g.ok.mono hB.size))) (cell_old c1 g.ok) (cell_old c2 g.ok))
  clear hz c1 c2
  have HB := Lib.hid hB
  clear hB
  go_enter Try.func44, Try.ntmps44
  go_wp2_with (go_at_call 59; rw [← hW0]; refine HS.mono ?_; rintro e w' ⟨rfl, hb⟩)
  go_ret
  exact ⟨rfl, HB.out.trans (hb.mono HB.out.size)⟩
end Go.Proofs.Ytkfmigpdmolmaaa
