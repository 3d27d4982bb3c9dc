import Derived.Test.YtbclfcghacedfaaGreatDoorZGW17
/- The laws' walks: the chapter's example. -/
section
namespace Go.Proofs.YtbclfcghacedfaaGreatDoor
open Go.ChangeShapes Go.WideShapes Go.ChangeAt Go.RowKit Go.Joins Qr Ck Sp

def rF : R := { freq := 3, iv := 1, count := 0, until_ := -1, bm := [], bd := [], bw := [(-1, 4)], bs := [], start := 0 }
theorem rF_may : mayP rF := by decide +kernel
theorem rF_text : textT rF = [70, 82, 69, 81, 61, 77, 79, 78, 84, 72, 76, 89, 59, 66, 89, 68, 65, 89, 61, 45, 49, 70, 82] := by decide +kernel
theorem rF_read : readF [70, 82, 69, 81, 61, 77, 79, 78, 84, 72, 76, 89, 59, 66, 89, 68, 65, 89, 61, 45, 49, 70, 82] = some rF := by
  rw [← rF_text]; exact readF_text rF_may

set_option maxRecDepth 100000 in
set_option maxHeartbeats 4000000 in
theorem fixed9_any (w : World) (hE : Env9 w) : Calls Tryz.prog 8 #[] w fun e w' => e = .returned (.bool true) ∧ Below w.heap.size w w' := by
  have HR := Lib.hid (read_any [70, 82, 69, 81, 61, 77, 79, 78, 84, 72, 76, 89, 59, 66, 89, 68, 65, 89, 61, 45, 49, 70, 82] (by decide) w hE)
  rw [rF_read] at HR
  clear hE
  go_enter Tryz.func8, Tryz.ntmps8
  go_wp2_with fail
  go_at_call 12
  refine HR.out.mono ?_
  rintro e w1 ⟨A1, A2, A3, A4, c1, c2, c3, c4, rfl, hra, hb⟩
  have B1 := Lib.hid hb
  obtain ⟨p, off, rfl, hp, hc⟩ := (hra.s3.alloc (.cells (rcells rF A1 A2 A3 A4 c1 c2 c3 c4) 25)).spanG (i := 0) (s := (-1, 4)) rfl
  have hx := hc ⟨_, Below.refl _ _⟩
  clear hc hra hb
  obtain ⟨x1, x2⟩ := hx
  unfold rcells rF at *
  simp only [List.length_cons, List.length_nil, Nat.zero_mul, Nat.add_zero, Nat.zero_add] at *
  go_wp2_with fail
  go_ret
  exact ⟨rfl, B1.out.alloc B1.out.size _⟩
end Go.Proofs.YtbclfcghacedfaaGreatDoor
end
