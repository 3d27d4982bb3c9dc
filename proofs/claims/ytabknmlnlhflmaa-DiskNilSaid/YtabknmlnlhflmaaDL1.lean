/- The laws' walks: a nil disk; the chapter's example. -/
import Derived.Test.YtabknmlnlhflmaaDW8
namespace Go.Proofs.Ytabknmlnlhflmaa
open Go.ChangeShapes Go.WideShapes Go.ChangeAt Go.RowKit Go.Joins Dm

set_option maxRecDepth 100000 in
set_option maxHeartbeats 2000000 in
theorem fixed5_any (w : World) :
    Calls Try.prog 8 #[] w fun e w' => e = .returned (.bool true) ∧ Below w.heap.size w w' := by
  have HN := Lib.hid (disk_new_any 4 (by omega) w)
  rw [show (min (max (4 : Int) 0) 4194304).toNat = 4 by decide] at HN
  go_enter Try.func8, Try.ntmps8
  go_wp2_with fail
  go_at_call 17
  refine HN.out.mono ?_
  rintro e w1 ⟨D, F, rfl, h1, b1, f1⟩
  obtain ⟨W1, hW1⟩ : ∃ W1, w1.alloc (.cells #[.int .u8 5, .int .u8 6] 5) = W1 := ⟨_, rfl⟩
  have E1 := Lib.hid hW1
  have bb : BAt W1 (some ⟨w1.heap.size, 0, none⟩) [5, 6] := by rw [← hW1]; exact BAt.new w1 [5, 6] 5 (0, 0)
  have h1' : DiskAt W1 D (Dk.new 4) F := by rw [← hW1]; exact h1.below ((Below.refl _ _).alloc (Nat.le_refl _) _)
  have o1 : Off F w W1 := by rw [← hW1]; exact (Off.of_below b1).alloc _
  have HW := Lib.hid (disk_write_any D _ F 1 (by omega) _ 2 [5, 6] (by decide) (by decide) (fun h => by cases h) (by decide) W1 h1' bb)
  have O1 := Lib.hid o1
  have I1 := Lib.hid f1
  clear h1 b1 f1 bb h1' o1 hW1
  go_wp2_with fail
  rw [E1.out]
  go_at_call 11
  refine HW.out.mono ?_
  rintro e w2 ⟨rfl, F2, h2, o2, i2⟩
  have HF := Lib.hid (disk_fall_any D _ F2 1 (by omega) w2 h2)
  have O2 := Lib.hid (O1.out.trans o2 fun b hb => .inl hb)
  have I2 : Hid (∀ b, F2 b → w.heap.size ≤ b) := fun b hb => (i2 b hb).elim (I1.out b) fun h => Nat.le_trans O1.out.size h
  clear h2 o2 i2
  go_wp2_with fail
  go_at_call 4
  refine HF.out.mono ?_
  rintro e w3 ⟨rfl, F3, h3, o3, i3⟩
  have HBk := Lib.hid (disk_back_any D _ F3 w3 h3)
  have O3 := Lib.hid (O2.out.trans o3 fun b hb => .inr (I2.out b hb))
  have I3 : Hid (∀ b, F3 b → w.heap.size ≤ b) := fun b hb => (i3 b hb).elim (I2.out b) fun h => Nat.le_trans O2.out.size h
  clear h3 o3 i3
  go_wp2_with fail
  go_at_call 6
  refine HBk.out.mono ?_
  rintro e w4 ⟨rfl, F4, h4, o4, i4⟩
  have hR := disk_read_ok D _ F4 0 4 w4 h4 (by decide) (by decide)
  rw [show (((fallD ((Dk.new 4).write 1 [5, 6]).2 1).back.seen.drop 0).take 4) = [0, 5, 0, 0] by decide] at hR
  have HR := Lib.hid hR
  have O4 := Lib.hid (O3.out.trans o4 fun b hb => .inr (I3.out b hb))
  clear h4 o4 i4 hR
  go_wp2_with fail
  go_at_call 7
  refine HR.out.mono ?_
  rintro e w5 ⟨A, c, rfl, hf⟩
  have hcv := hf.at_.1.conv (P := Try.prog) c (src := 22) (dst := 9) (e := 5) (by kernel_rfl) (by kernel_rfl) (by kernel_rfl)
  have HB := Lib.hid (O4.out.trans' (Off.of_below hf.below))
  simp only [List.length_cons, List.length_nil, Nat.reduceAdd] at hcv
  clear hf
  go_wp2_with fail
  go_ret
  exact ⟨rfl, HB.out.toBelow (Nat.le_refl _) I1.out⟩

set_option maxRecDepth 100000 in
set_option maxHeartbeats 2000000 in
theorem diskNil_walk (a n : Int) (l : List UInt8) (A : Option Addr) (c : Nat) (w : World) :
    Calls Try.prog 3 #[.int .i64 a, .int .i64 n, .slice A l.length c] w fun e w' => e = .returned (.bool true) ∧ Below w.heap.size w w' := by
  have H1 := Lib.hid (disk_fall_nil n w)
  have H2 := Lib.hid (disk_fuse_nil a n w)
  have H3 := Lib.hid (disk_back_nil w)
  have H4 := Lib.hid (disk_read_nil a n w)
  have H5 := Lib.hid (fixed5_any w)
  go_enter Try.func3, Try.ntmps3
  go_wp2_with fail
  go_at_call 4
  refine H1.out.mono ?_
  rintro e w' ⟨rfl, rfl⟩
  go_wp2_with fail
  go_at_call 5
  refine H2.out.mono ?_
  rintro e w' ⟨rfl, rfl⟩
  go_wp2_with fail
  go_at_call 6
  refine H3.out.mono ?_
  rintro e w' ⟨rfl, rfl⟩
  go_wp2_with fail
  go_at_call 7
  refine H4.out.mono ?_
  rintro e w' ⟨rfl, rfl⟩
  go_wp2_with fail
  go_at_call 8
  refine H5.out.mono ?_
  rintro e w1 ⟨rfl, hb⟩
  go_wp2_with fail
  go_at_call 9
  refine (disk_size_nil w1).mono ?_
  rintro e w' ⟨rfl, rfl⟩
  go_wp2_with fail
  go_at_call 10
  refine (disk_on_nil w1).mono ?_
  rintro e w' ⟨rfl, rfl⟩
  go_wp2_with fail
  go_at_call 11
  refine (disk_write_nil a A l.length c w1).mono ?_
  rintro e w' ⟨rfl, rfl⟩
  go_wp2_with fail
  go_at_call 12
  refine (disk_sync_nil w1).mono ?_
  rintro e w' ⟨rfl, rfl⟩
  go_wp2_with fail
  go_ret
  exact ⟨rfl, hb⟩
end Go.Proofs.Ytabknmlnlhflmaa
