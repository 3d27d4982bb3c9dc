import Derived.Test.YtdhinjbkfffpeaaGreatYPW1
import Derived.Test.YtdhinjbkfffpeaaGreatYQL
import Derived.Deep.Cut
import Derived.Test.YtdhinjbkfffpeaaGreatYOA
import Derived.Test.YtdhinjbkfffpeaaGreatYMB
/- Contracts of the document's records: numbers, texts and flags behind bytes. -/
section
namespace Go.Proofs.YtdhinjbkfffpeaaGreat
open Go.ChangeShapes Go.WideShapes Go.ChangeAt Go.RowKit Fr Pk
structure Bb where
 s : List UInt8
 bad : Bool
def Bb.ok (b : Bb) (n : Nat) : Prop := b.s.length + n ≤ 4611686018427387904
def Bb.N (b : Bb) (n most : Int) : Bb := if n < 0 ∨ most < n then ⟨b.s, true⟩ else ⟨b.s ++ numT n.toNat, b.bad⟩
def Bb.Z (b : Bb) (n least most : Int) : Bb := ⟨b.s ++ numT (zig n), b.bad || decide (n < least) || decide (most < n)⟩
def Bb.M (b : Bb) (n : Int) : Bb := ⟨b.s ++ numT (zig n), b.bad⟩
def Bb.U (b : Bb) (n : Nat) : Bb := ⟨b.s ++ numT n, b.bad⟩
def Bb.F (b : Bb) (is : Bool) : Bb := ⟨b.s ++ flagT is, b.bad⟩
def Bb.T (b : Bb) (s : List UInt8) (most : Int) : Bb := ⟨b.s ++ textT s, b.bad || decide (most < s.length)⟩
theorem zig_lt {n : Int} (h : -9223372036854775808 ≤ n ∧ n ≤ 9223372036854775807) : zig n < 18446744073709551616 := by unfold zig; split <;> omega
theorem Bb.N_ok {b : Bb} {n most : Int} {k : Nat} (hn : n ≤ 9223372036854775807) (h : b.ok (k + 10)) : (b.N n most).ok k := by
 unfold Bb.ok Bb.N at *
 split
 ·simp only; omega
 ·have := num_len10 (n := n.toNat) (by omega); simp only [List.length_append]; omega
theorem Bb.Z_ok {b : Bb} {n least most : Int} {k : Nat} (hn : -9223372036854775808 ≤ n ∧ n ≤ 9223372036854775807) (h : b.ok (k + 10)) : (b.Z n least most).ok k := by
 unfold Bb.ok Bb.Z at *
 have := num_len10 (n := zig n) (zig_lt hn); simp only [List.length_append]; omega
theorem Bb.M_ok {b : Bb} {n : Int} {k : Nat} (hn : -9223372036854775808 ≤ n ∧ n ≤ 9223372036854775807) (h : b.ok (k + 10)) : (b.M n).ok k := by
 unfold Bb.ok Bb.M at *
 have := num_len10 (n := zig n) (zig_lt hn); simp only [List.length_append]; omega
theorem Bb.U_ok {b : Bb} {n : Nat} {k : Nat} (hn : n < 18446744073709551616) (h : b.ok (k + 10)) : (b.U n).ok k := by
 unfold Bb.ok Bb.U at *
 have := num_len10 hn; simp only [List.length_append]; omega
theorem Bb.F_ok {b : Bb} {is : Bool} {k : Nat} (h : b.ok (k + 10)) : (b.F is).ok k := by
 unfold Bb.ok Bb.F at *
 have : (flagT is).length ≤ 1 := by cases is <;> simp [flagT]
 simp only [List.length_append]; omega
set_option maxRecDepth 100000 in
set_option maxHeartbeats 2000000 in
theorem rbN_any (b : Bb) (n most : Int) (hn : n ≤ 9223372036854775807) (hl : b.ok 10) (w : World) :
  Calls Tryz.prog 26 #[.agg #[.string ⟨b.s.toArray⟩, .bool b.bad], .int .i64 n, .int .i64 most] w fun e w' => e = .returned (.agg #[.string ⟨(b.N n most).s.toArray⟩, .bool (b.N n most).bad]) ∧ Below w.heap.size w w' := by
 obtain ⟨s, bad⟩ := b
 unfold Bb.ok at hl
 simp only at hl
 obtain ⟨W1, hW1⟩ : ∃ W1, (w.alloc (.cells #[.string ⟨s.toArray⟩, .bool bad] 85)).alloc (.cells #[.string ⟨#[]⟩, .bool false] 85) = W1 := ⟨_, rfl⟩
 have E1 := Lib.hid hW1
 have HW : Hid (∀ g : Gr W1, Below w.heap.size w g.val) := fun g => by
  have : Below w.heap.size w W1 := by rw [← hW1]; exact ((Below.refl _ _).alloc (Nat.le_refl _) _).alloc (by simp) _
  exact this.trans (g.ok.mono this.size)
 have HC : Hid (∀ g : Gr W1, g.val.cell? ⟨w.heap.size, 0, none⟩ = some (.string ⟨s.toArray⟩) ∧ g.val.cell? ⟨w.heap.size, 1, none⟩ = some (.bool bad)) := fun g => by
  refine ⟨cell_old ?_ g.ok, cell_old ?_ g.ok⟩
  all_goals (rw [← hW1]; simp [go_sem])
 have HR : Hid (∀ g : Gr W1, g.val.heap[w.heap.size + 1]? = some (.cells #[.string ⟨#[]⟩, .bool false] 85 (0, 0))) := fun g => by
  refine blk_below ?_ g.ok
  rw [← hW1]
  exact heap_alloc_new2 _ _ _
 obtain ⟨g0, hg0⟩ : ∃ g : Gr W1, W1 = g.val := ⟨⟨W1, Below.refl _ _⟩, rfl⟩
 have E2 := Lib.hid hg0
 clear hW1 hg0
 by_cases h0 : n < 0 ∨ most < n
 ·have hd : decide (n < 0) = true ∨ decide (n < 0) = false ∧ decide (most < n) = true := by
   by_cases h : n < 0
   ·exact .inl (decide_eq_true h)
   ·exact .inr ⟨decide_eq_false h, decide_eq_true (h0.resolve_left h)⟩
  rw [show Bb.N ⟨s, bad⟩ n most = ⟨s, true⟩ from if_pos h0]
  have HZ := two_set (HR.out g0) (.string ⟨s.toArray⟩) (.bool true)
  have z0 := blk_cell HZ (i := 0) rfl
  have z1 := blk_cell HZ (i := 1) rfl
  clear HZ
  obtain ⟨c0, c1⟩ := HC.out g0
  have r0 := blk_cell (HR.out g0) (i := 0) rfl
  have r1 := blk_cell (HR.out g0) (i := 1) rfl
  have rf := blk_free (HR.out g0)
  clear h0
  rcases hd with d0 | ⟨d0, d1⟩
  all_goals
   go_enter Tryz.func26, Tryz.ntmps26
   go_upto_region 1 with fail
   rw [E1.out, E2.out]
   go_wp2_with fail
   exact bodyPost_ret (v := .agg #[.string ⟨s.toArray⟩, .bool true]) (by simp [results, Tryz.results26, go_sem, z0, z1]) rfl ⟨rfl, ((HW.out g0).setCell (p := ⟨w.heap.size + 1, 0, none⟩) (Nat.le_succ _) _).setCell (p := ⟨w.heap.size + 1, 1, none⟩) (Nat.le_succ _) _⟩
 ·have d0 : decide (n < 0) = false := decide_eq_false (by omega)
  have d1 : decide (most < n) = false := decide_eq_false (by omega)
  have hz : 0 ≤ n := by omega
  obtain ⟨k, rfl⟩ : ∃ k : Nat, n = k := ⟨n.toNat, by omega⟩
  have HN := Lib.hid (fun (g : Gr W1) => rnum_any k (by omega) g.val)
  rw [show Bb.N ⟨s, bad⟩ k most = ⟨s ++ numT k, bad⟩ from if_neg h0]
  have hl2 := num_len10 (n := k) (by omega)
  have hw1 : IntKind.u64.wrap (k : Int) = k := by rw [IntKind.wrap_u64]; omega
  have C0 := fun g : Gr W1 => (HC.out g).1
  have C1 := fun g : Gr W1 => (HC.out g).2
  generalize numT k = t at *
  clear h0 hn
  go_enter Tryz.func26, Tryz.ntmps26
  go_upto_region 1 with fail
  rw [E1.out, E2.out]
  go_wp2_with fail
  refine Gr.region_last (w0 := W1) (m := 9) (by kernel_rfl) (by kernel_rfl) (Gr.draw g0) ?_
  simp only [List.take]
  repeat (go_big_quiet_step (fail))
  go_big_quiet_step ((go_at_call 68; exact Gr.calls _ (HN.out _)))
  repeat (go_big_quiet_step (fail))
  refine wpQuiet_nil ?_
  rintro _ ⟨g, rfl⟩
  refine wpOp_last (o := _) rfl ?_
  have HZ := two_set (HR.out g) (.string (ByteArray.mk s.toArray ++ ByteArray.mk t.toArray)) (.bool bad)
  have z0 := blk_cell HZ (i := 0) rfl
  have z1 := blk_cell HZ (i := 1) rfl
  have r0 := blk_cell (HR.out g) (i := 0) rfl
  have r1 := blk_cell (HR.out g) (i := 1) rfl
  have rf := blk_free (HR.out g)
  clear HZ
  go_simp
  go_wp2_with fail
  exact bodyPost_ret (v := .agg #[.string (ByteArray.mk s.toArray ++ ByteArray.mk t.toArray), .bool bad]) (by simp [results, Tryz.results26, go_sem, z0, z1]) rfl ⟨by rw [← ByteArray.mk_append_mk], ((HW.out g).setCell (p := ⟨w.heap.size + 1, 0, none⟩) (Nat.le_succ _) _).setCell (p := ⟨w.heap.size + 1, 1, none⟩) (Nat.le_succ _) _⟩
set_option maxRecDepth 100000 in
set_option maxHeartbeats 2000000 in
theorem rbZ_any (b : Bb) (n least most : Int) (hn : -9223372036854775808 ≤ n ∧ n ≤ 9223372036854775807) (hl : b.ok 10) (w : World) :
  Calls Tryz.prog 96 #[.agg #[.string ⟨b.s.toArray⟩, .bool b.bad], .int .i64 n, .int .i64 least, .int .i64 most] w fun e w' => e = .returned (.agg #[.string ⟨(b.Z n least most).s.toArray⟩, .bool (b.Z n least most).bad]) ∧ Below w.heap.size w w' := by
 obtain ⟨s, bad⟩ := b
 unfold Bb.ok at hl
 simp only at hl
 obtain ⟨W1, hW1⟩ : ∃ W1, (w.alloc (.cells #[.string ⟨s.toArray⟩, .bool bad] 85)).alloc (.cells #[.string ⟨#[]⟩, .bool false] 85) = W1 := ⟨_, rfl⟩
 have E1 := Lib.hid hW1
 have HW : Hid (∀ g : Gr W1, Below w.heap.size w g.val) := fun g => by
  have : Below w.heap.size w W1 := by rw [← hW1]; exact ((Below.refl _ _).alloc (Nat.le_refl _) _).alloc (by simp) _
  exact this.trans (g.ok.mono this.size)
 have HC : Hid (∀ g : Gr W1, g.val.cell? ⟨w.heap.size, 0, none⟩ = some (.string ⟨s.toArray⟩) ∧ g.val.cell? ⟨w.heap.size, 1, none⟩ = some (.bool bad)) := fun g => by
  refine ⟨cell_old ?_ g.ok, cell_old ?_ g.ok⟩
  all_goals (rw [← hW1]; simp [go_sem])
 have HR : Hid (∀ g : Gr W1, g.val.heap[w.heap.size + 1]? = some (.cells #[.string ⟨#[]⟩, .bool false] 85 (0, 0))) := fun g => by
  refine blk_below ?_ g.ok
  rw [← hW1]
  exact heap_alloc_new2 _ _ _
 obtain ⟨g0, hg0⟩ : ∃ g : Gr W1, W1 = g.val := ⟨⟨W1, Below.refl _ _⟩, rfl⟩
 have E2 := Lib.hid hg0
 clear hW1 hg0
 have HN := Lib.hid (fun (g : Gr W1) => rsigned_any n hn.1 hn.2 g.val)
 have hl2 := num_len10 (n := zig n) (zig_lt hn)
 have C0 := fun g : Gr W1 => (HC.out g).1
 unfold Bb.Z
 simp only
 generalize numT (zig n) = t at *
 have hd : bad = true ∨ bad = false ∧ decide (n < least) = true ∨ bad = false ∧ decide (n < least) = false ∧ decide (most < n) = true ∨ bad = false ∧ decide (n < least) = false ∧ decide (most < n) = false := by
  cases bad <;> cases decide (n < least) <;> cases decide (most < n) <;> simp
 clear hn
 rcases hd with rfl | ⟨rfl, d0⟩ | ⟨rfl, d0, d1⟩ | ⟨rfl, d0, d1⟩
 ·have C1 := fun g : Gr W1 => (HC.out g).2
  go_enter Tryz.func96, Tryz.ntmps96
  go_upto_region 1 with fail
  rw [E1.out, E2.out]
  go_wp2_with fail
  refine Gr.region_last (w0 := W1) (m := 18) (by kernel_rfl) (by kernel_rfl) (Gr.draw g0) ?_
  simp only [List.take]
  repeat (go_big_quiet_step (fail))
  go_big_quiet_step ((go_at_call 69; exact Gr.calls _ (HN.out _)))
  repeat (go_big_quiet_step (fail))
  refine wpQuiet_nil ?_
  rintro _ ⟨g, rfl⟩
  refine wpOp_last (o := _) rfl ?_
  have HZ := two_set (HR.out g) (.string (ByteArray.mk s.toArray ++ ByteArray.mk t.toArray)) (.bool true)
  have z0 := blk_cell HZ (i := 0) rfl
  have z1 := blk_cell HZ (i := 1) rfl
  have r0 := blk_cell (HR.out g) (i := 0) rfl
  have r1 := blk_cell (HR.out g) (i := 1) rfl
  have rf := blk_free (HR.out g)
  clear HZ
  go_simp
  go_wp2_with fail
  exact bodyPost_ret (v := .agg #[.string (ByteArray.mk s.toArray ++ ByteArray.mk t.toArray), .bool true]) (by simp [results, Tryz.results96, go_sem, z0, z1]) rfl ⟨by rw [← ByteArray.mk_append_mk, Bool.true_or, Bool.true_or], ((HW.out g).setCell (p := ⟨w.heap.size + 1, 0, none⟩) (Nat.le_succ _) _).setCell (p := ⟨w.heap.size + 1, 1, none⟩) (Nat.le_succ _) _⟩
 ·have C1 := fun g : Gr W1 => (HC.out g).2
  go_enter Tryz.func96, Tryz.ntmps96
  go_upto_region 1 with fail
  rw [E1.out, E2.out]
  go_wp2_with fail
  refine Gr.region_last (w0 := W1) (m := 18) (by kernel_rfl) (by kernel_rfl) (Gr.draw g0) ?_
  simp only [List.take]
  repeat (go_big_quiet_step (fail))
  go_big_quiet_step ((go_at_call 69; exact Gr.calls _ (HN.out _)))
  repeat (go_big_quiet_step (fail))
  refine wpQuiet_nil ?_
  rintro _ ⟨g, rfl⟩
  refine wpOp_last (o := _) rfl ?_
  have HZ := two_set (HR.out g) (.string (ByteArray.mk s.toArray ++ ByteArray.mk t.toArray)) (.bool true)
  have z0 := blk_cell HZ (i := 0) rfl
  have z1 := blk_cell HZ (i := 1) rfl
  have r0 := blk_cell (HR.out g) (i := 0) rfl
  have r1 := blk_cell (HR.out g) (i := 1) rfl
  have rf := blk_free (HR.out g)
  clear HZ
  go_simp
  go_wp2_with fail
  exact bodyPost_ret (v := .agg #[.string (ByteArray.mk s.toArray ++ ByteArray.mk t.toArray), .bool true]) (by simp [results, Tryz.results96, go_sem, z0, z1]) rfl ⟨by rw [← ByteArray.mk_append_mk, d0, Bool.or_true, Bool.true_or], ((HW.out g).setCell (p := ⟨w.heap.size + 1, 0, none⟩) (Nat.le_succ _) _).setCell (p := ⟨w.heap.size + 1, 1, none⟩) (Nat.le_succ _) _⟩
 ·have C1 := fun g : Gr W1 => (HC.out g).2
  go_enter Tryz.func96, Tryz.ntmps96
  go_upto_region 1 with fail
  rw [E1.out, E2.out]
  go_wp2_with fail
  refine Gr.region_last (w0 := W1) (m := 18) (by kernel_rfl) (by kernel_rfl) (Gr.draw g0) ?_
  simp only [List.take]
  repeat (go_big_quiet_step (fail))
  go_big_quiet_step ((go_at_call 69; exact Gr.calls _ (HN.out _)))
  repeat (go_big_quiet_step (fail))
  refine wpQuiet_nil ?_
  rintro _ ⟨g, rfl⟩
  refine wpOp_last (o := _) rfl ?_
  have HZ := two_set (HR.out g) (.string (ByteArray.mk s.toArray ++ ByteArray.mk t.toArray)) (.bool true)
  have z0 := blk_cell HZ (i := 0) rfl
  have z1 := blk_cell HZ (i := 1) rfl
  have r0 := blk_cell (HR.out g) (i := 0) rfl
  have r1 := blk_cell (HR.out g) (i := 1) rfl
  have rf := blk_free (HR.out g)
  clear HZ
  go_simp
  go_wp2_with fail
  exact bodyPost_ret (v := .agg #[.string (ByteArray.mk s.toArray ++ ByteArray.mk t.toArray), .bool true]) (by simp [results, Tryz.results96, go_sem, z0, z1]) rfl ⟨by rw [← ByteArray.mk_append_mk, d0, d1, Bool.or_true], ((HW.out g).setCell (p := ⟨w.heap.size + 1, 0, none⟩) (Nat.le_succ _) _).setCell (p := ⟨w.heap.size + 1, 1, none⟩) (Nat.le_succ _) _⟩
 ·have C1 := fun g : Gr W1 => (HC.out g).2
  go_enter Tryz.func96, Tryz.ntmps96
  go_upto_region 1 with fail
  rw [E1.out, E2.out]
  go_wp2_with fail
  refine Gr.region_last (w0 := W1) (m := 18) (by kernel_rfl) (by kernel_rfl) (Gr.draw g0) ?_
  simp only [List.take]
  repeat (go_big_quiet_step (fail))
  go_big_quiet_step ((go_at_call 69; exact Gr.calls _ (HN.out _)))
  repeat (go_big_quiet_step (fail))
  refine wpQuiet_nil ?_
  rintro _ ⟨g, rfl⟩
  refine wpOp_last (o := _) rfl ?_
  have HZ := two_set (HR.out g) (.string (ByteArray.mk s.toArray ++ ByteArray.mk t.toArray)) (.bool false)
  have z0 := blk_cell HZ (i := 0) rfl
  have z1 := blk_cell HZ (i := 1) rfl
  have r0 := blk_cell (HR.out g) (i := 0) rfl
  have r1 := blk_cell (HR.out g) (i := 1) rfl
  have rf := blk_free (HR.out g)
  clear HZ
  go_simp
  go_wp2_with fail
  exact bodyPost_ret (v := .agg #[.string (ByteArray.mk s.toArray ++ ByteArray.mk t.toArray), .bool false]) (by simp [results, Tryz.results96, go_sem, z0, z1]) rfl ⟨by rw [← ByteArray.mk_append_mk, d0, d1, Bool.or_false, Bool.or_false], ((HW.out g).setCell (p := ⟨w.heap.size + 1, 0, none⟩) (Nat.le_succ _) _).setCell (p := ⟨w.heap.size + 1, 1, none⟩) (Nat.le_succ _) _⟩
set_option maxRecDepth 100000 in
set_option maxHeartbeats 2000000 in
theorem rbM_any (b : Bb) (n : Int) (hn : -9223372036854775808 ≤ n ∧ n ≤ 9223372036854775807) (hl : b.ok 10) (w : World) :
  Calls Tryz.prog 28 #[.agg #[.string ⟨b.s.toArray⟩, .bool b.bad], .int .i64 n] w fun e w' => e = .returned (.agg #[.string ⟨(b.M n).s.toArray⟩, .bool (b.M n).bad]) ∧ Below w.heap.size w w' := by
 obtain ⟨s, bad⟩ := b
 unfold Bb.ok at hl
 simp only at hl
 obtain ⟨W1, hW1⟩ : ∃ W1, (w.alloc (.cells #[.string ⟨s.toArray⟩, .bool bad] 85)).alloc (.cells #[.string ⟨#[]⟩, .bool false] 85) = W1 := ⟨_, rfl⟩
 have E1 := Lib.hid hW1
 have HW : Hid (∀ g : Gr W1, Below w.heap.size w g.val) := fun g => by
  have : Below w.heap.size w W1 := by rw [← hW1]; exact ((Below.refl _ _).alloc (Nat.le_refl _) _).alloc (by simp) _
  exact this.trans (g.ok.mono this.size)
 have HC : Hid (∀ g : Gr W1, g.val.cell? ⟨w.heap.size, 0, none⟩ = some (.string ⟨s.toArray⟩) ∧ g.val.cell? ⟨w.heap.size, 1, none⟩ = some (.bool bad)) := fun g => by
  refine ⟨cell_old ?_ g.ok, cell_old ?_ g.ok⟩
  all_goals (rw [← hW1]; simp [go_sem])
 have HR : Hid (∀ g : Gr W1, g.val.heap[w.heap.size + 1]? = some (.cells #[.string ⟨#[]⟩, .bool false] 85 (0, 0))) := fun g => by
  refine blk_below ?_ g.ok
  rw [← hW1]
  exact heap_alloc_new2 _ _ _
 obtain ⟨g0, hg0⟩ : ∃ g : Gr W1, W1 = g.val := ⟨⟨W1, Below.refl _ _⟩, rfl⟩
 have E2 := Lib.hid hg0
 clear hW1 hg0
 have HN := Lib.hid (fun (g : Gr W1) => rsigned_any n hn.1 hn.2 g.val)
 have hl2 := num_len10 (n := zig n) (zig_lt hn)
 have C0 := fun g : Gr W1 => (HC.out g).1
 have C1 := fun g : Gr W1 => (HC.out g).2
 unfold Bb.M
 simp only
 generalize numT (zig n) = t at *
 clear hn
 go_enter Tryz.func28, Tryz.ntmps28
 go_upto_region 1 with fail
 rw [E1.out, E2.out]
 go_wp2_with fail
 refine Gr.region_last (w0 := W1) (m := 8) (by kernel_rfl) (by kernel_rfl) (Gr.draw g0) ?_
 simp only [List.take]
 repeat (go_big_quiet_step (fail))
 go_big_quiet_step ((go_at_call 69; exact Gr.calls _ (HN.out _)))
 repeat (go_big_quiet_step (fail))
 refine wpQuiet_nil ?_
 rintro _ ⟨g, rfl⟩
 refine wpOp_last (o := _) rfl ?_
 have HZ := two_set (HR.out g) (.string (ByteArray.mk s.toArray ++ ByteArray.mk t.toArray)) (.bool bad)
 have z0 := blk_cell HZ (i := 0) rfl
 have z1 := blk_cell HZ (i := 1) rfl
 have r0 := blk_cell (HR.out g) (i := 0) rfl
 have r1 := blk_cell (HR.out g) (i := 1) rfl
 have rf := blk_free (HR.out g)
 clear HZ
 go_simp
 go_wp2_with fail
 exact bodyPost_ret (v := .agg #[.string (ByteArray.mk s.toArray ++ ByteArray.mk t.toArray), .bool bad]) (by simp [results, Tryz.results28, go_sem, z0, z1]) rfl ⟨by rw [← ByteArray.mk_append_mk], ((HW.out g).setCell (p := ⟨w.heap.size + 1, 0, none⟩) (Nat.le_succ _) _).setCell (p := ⟨w.heap.size + 1, 1, none⟩) (Nat.le_succ _) _⟩
set_option maxRecDepth 100000 in
set_option maxHeartbeats 2000000 in
theorem rbU_any (b : Bb) (n : Nat) (hn : n < 18446744073709551616) (hl : b.ok 10) (w : World) :
  Calls Tryz.prog 27 #[.agg #[.string ⟨b.s.toArray⟩, .bool b.bad], .int .u64 n] w fun e w' => e = .returned (.agg #[.string ⟨(b.U n).s.toArray⟩, .bool (b.U n).bad]) ∧ Below w.heap.size w w' := by
 obtain ⟨s, bad⟩ := b
 unfold Bb.ok at hl
 simp only at hl
 obtain ⟨W1, hW1⟩ : ∃ W1, (w.alloc (.cells #[.string ⟨s.toArray⟩, .bool bad] 85)).alloc (.cells #[.string ⟨#[]⟩, .bool false] 85) = W1 := ⟨_, rfl⟩
 have E1 := Lib.hid hW1
 have HW : Hid (∀ g : Gr W1, Below w.heap.size w g.val) := fun g => by
  have : Below w.heap.size w W1 := by rw [← hW1]; exact ((Below.refl _ _).alloc (Nat.le_refl _) _).alloc (by simp) _
  exact this.trans (g.ok.mono this.size)
 have HC : Hid (∀ g : Gr W1, g.val.cell? ⟨w.heap.size, 0, none⟩ = some (.string ⟨s.toArray⟩) ∧ g.val.cell? ⟨w.heap.size, 1, none⟩ = some (.bool bad)) := fun g => by
  refine ⟨cell_old ?_ g.ok, cell_old ?_ g.ok⟩
  all_goals (rw [← hW1]; simp [go_sem])
 have HR : Hid (∀ g : Gr W1, g.val.heap[w.heap.size + 1]? = some (.cells #[.string ⟨#[]⟩, .bool false] 85 (0, 0))) := fun g => by
  refine blk_below ?_ g.ok
  rw [← hW1]
  exact heap_alloc_new2 _ _ _
 obtain ⟨g0, hg0⟩ : ∃ g : Gr W1, W1 = g.val := ⟨⟨W1, Below.refl _ _⟩, rfl⟩
 have E2 := Lib.hid hg0
 clear hW1 hg0
 have HN := Lib.hid (fun (g : Gr W1) => rnum_any n hn g.val)
 have hl2 := num_len10 hn
 have C0 := fun g : Gr W1 => (HC.out g).1
 have C1 := fun g : Gr W1 => (HC.out g).2
 unfold Bb.U
 simp only
 generalize numT n = t at *
 clear hn
 go_enter Tryz.func27, Tryz.ntmps27
 go_upto_region 1 with fail
 rw [E1.out, E2.out]
 go_wp2_with fail
 refine Gr.region_last (w0 := W1) (m := 8) (by kernel_rfl) (by kernel_rfl) (Gr.draw g0) ?_
 simp only [List.take]
 repeat (go_big_quiet_step (fail))
 go_big_quiet_step ((go_at_call 68; exact Gr.calls _ (HN.out _)))
 repeat (go_big_quiet_step (fail))
 refine wpQuiet_nil ?_
 rintro _ ⟨g, rfl⟩
 refine wpOp_last (o := _) rfl ?_
 have HZ := two_set (HR.out g) (.string (ByteArray.mk s.toArray ++ ByteArray.mk t.toArray)) (.bool bad)
 have z0 := blk_cell HZ (i := 0) rfl
 have z1 := blk_cell HZ (i := 1) rfl
 have r0 := blk_cell (HR.out g) (i := 0) rfl
 have r1 := blk_cell (HR.out g) (i := 1) rfl
 have rf := blk_free (HR.out g)
 clear HZ
 go_simp
 go_wp2_with fail
 exact bodyPost_ret (v := .agg #[.string (ByteArray.mk s.toArray ++ ByteArray.mk t.toArray), .bool bad]) (by simp [results, Tryz.results27, go_sem, z0, z1]) rfl ⟨by rw [← ByteArray.mk_append_mk], ((HW.out g).setCell (p := ⟨w.heap.size + 1, 0, none⟩) (Nat.le_succ _) _).setCell (p := ⟨w.heap.size + 1, 1, none⟩) (Nat.le_succ _) _⟩
set_option maxRecDepth 100000 in
set_option maxHeartbeats 2000000 in
theorem rbF_any (b : Bb) (is : Bool)  (hl : b.ok 10) (w : World) :
  Calls Tryz.prog 30 #[.agg #[.string ⟨b.s.toArray⟩, .bool b.bad], .bool is] w fun e w' => e = .returned (.agg #[.string ⟨(b.F is).s.toArray⟩, .bool (b.F is).bad]) ∧ Below w.heap.size w w' := by
 obtain ⟨s, bad⟩ := b
 unfold Bb.ok at hl
 simp only at hl
 obtain ⟨W1, hW1⟩ : ∃ W1, (w.alloc (.cells #[.string ⟨s.toArray⟩, .bool bad] 85)).alloc (.cells #[.string ⟨#[]⟩, .bool false] 85) = W1 := ⟨_, rfl⟩
 have E1 := Lib.hid hW1
 have HW : Hid (∀ g : Gr W1, Below w.heap.size w g.val) := fun g => by
  have : Below w.heap.size w W1 := by rw [← hW1]; exact ((Below.refl _ _).alloc (Nat.le_refl _) _).alloc (by simp) _
  exact this.trans (g.ok.mono this.size)
 have HC : Hid (∀ g : Gr W1, g.val.cell? ⟨w.heap.size, 0, none⟩ = some (.string ⟨s.toArray⟩) ∧ g.val.cell? ⟨w.heap.size, 1, none⟩ = some (.bool bad)) := fun g => by
  refine ⟨cell_old ?_ g.ok, cell_old ?_ g.ok⟩
  all_goals (rw [← hW1]; simp [go_sem])
 have HR : Hid (∀ g : Gr W1, g.val.heap[w.heap.size + 1]? = some (.cells #[.string ⟨#[]⟩, .bool false] 85 (0, 0))) := fun g => by
  refine blk_below ?_ g.ok
  rw [← hW1]
  exact heap_alloc_new2 _ _ _
 obtain ⟨g0, hg0⟩ : ∃ g : Gr W1, W1 = g.val := ⟨⟨W1, Below.refl _ _⟩, rfl⟩
 have E2 := Lib.hid hg0
 clear hW1 hg0
 have HN := Lib.hid (fun (g : Gr W1) => rflag_any is g.val)
 have hl2 := (show (flagT is).length ≤ 1 by cases is <;> simp [flagT])
 have C0 := fun g : Gr W1 => (HC.out g).1
 have C1 := fun g : Gr W1 => (HC.out g).2
 unfold Bb.F
 simp only
 generalize flagT is = t at *
 go_enter Tryz.func30, Tryz.ntmps30
 go_upto_region 1 with fail
 rw [E1.out, E2.out]
 go_wp2_with fail
 refine Gr.region_last (w0 := W1) (m := 8) (by kernel_rfl) (by kernel_rfl) (Gr.draw g0) ?_
 simp only [List.take]
 repeat (go_big_quiet_step (fail))
 go_big_quiet_step ((go_at_call 71; exact Gr.calls_same _ (HN.out _)))
 repeat (go_big_quiet_step (fail))
 refine wpQuiet_nil ?_
 rintro _ ⟨g, rfl⟩
 refine wpOp_last (o := _) rfl ?_
 have HZ := two_set (HR.out g) (.string (ByteArray.mk s.toArray ++ ByteArray.mk t.toArray)) (.bool bad)
 have z0 := blk_cell HZ (i := 0) rfl
 have z1 := blk_cell HZ (i := 1) rfl
 have r0 := blk_cell (HR.out g) (i := 0) rfl
 have r1 := blk_cell (HR.out g) (i := 1) rfl
 have rf := blk_free (HR.out g)
 clear HZ
 go_simp
 go_wp2_with fail
 exact bodyPost_ret (v := .agg #[.string (ByteArray.mk s.toArray ++ ByteArray.mk t.toArray), .bool bad]) (by simp [results, Tryz.results30, go_sem, z0, z1]) rfl ⟨by rw [← ByteArray.mk_append_mk], ((HW.out g).setCell (p := ⟨w.heap.size + 1, 0, none⟩) (Nat.le_succ _) _).setCell (p := ⟨w.heap.size + 1, 1, none⟩) (Nat.le_succ _) _⟩
end Go.Proofs.YtdhinjbkfffpeaaGreat
end
section
namespace Go.Proofs.YtdhinjbkfffpeaaGreat
open Go.ChangeShapes Go.WideShapes Go.ChangeAt Go.RowKit Fr Pk
structure Acc (W1 wr : World) (B : Nat) (b : Bb) : Prop where
 off : Off (fun k => k = B) W1 wr
 blk : wr.heap[B]? = some (.cells #[.string ⟨b.s.toArray⟩, .bool b.bad] 85 (0, 0))
theorem Acc.step /- 85 -/ {W1 wr : World} {B : Nat} {b : Bb} (h : Acc W1 wr B b) (g : Gr wr) (b' : Bb) : Acc W1 ((g.val.setCell ⟨B, 0, none⟩ (.string ⟨b'.s.toArray⟩)).setCell ⟨B, 1, none⟩ (.bool b'.bad)) B b' :=
 ⟨((h.off.trans' (.of_below g.ok)).setCell (b := B) (.inl rfl) _).setCell (b := B) (.inl rfl) _, two_set (blk_below h.blk g.ok) _ _⟩
theorem Acc.cells /- 85 -/ {W1 wr : World} {B : Nat} {b : Bb} (h : Acc W1 wr B b) (g : Gr wr) : g.val.cell? ⟨B, 0, none⟩ = some (.string ⟨b.s.toArray⟩) ∧ g.val.cell? ⟨B, 1, none⟩ = some (.bool b.bad) :=
 ⟨blk_cell (blk_below h.blk g.ok) (i := 0) rfl, blk_cell (blk_below h.blk g.ok) (i := 1) rfl⟩
theorem Acc.free /- 85 -/ {W1 wr : World} {B : Nat} {b : Bb} (h : Acc W1 wr B b) (g : Gr wr) : ∀ i, g.val.frozen? ⟨B, i, none⟩ = false := blk_free (blk_below h.blk g.ok)
theorem Acc.below /- 85 -/ {w W1 wr : World} {B : Nat} {b : Bb} (h : Acc W1 wr B b) (hb : Below w.heap.size w W1) (hB : w.heap.size ≤ B) : Below w.heap.size w wr := hb.trans (h.off.toBelow hb.size fun _ e => by subst e; exact hB)
def Bb.small (b : Bb) (l : List Int) : Bb := l.foldl (fun b x => b.Z x (-400) 400) (b.N l.length 400)
def okI (l : List Int) : Prop := ∀ x ∈ l, -9223372036854775808 ≤ x ∧ x ≤ 9223372036854775807
set_option maxRecDepth 100000 in
set_option maxHeartbeats 2000000 in
theorem rbsmall_any (b : Bb) (l : List Int) (A : Option Addr) (c : Nat) (w : World) (hi : okI l) (h : Sl w A l.length c (iv l)) (hl : b.ok (l.length * 10 + 10)) :
  Calls Tryz.prog 98 #[.agg #[.string ⟨b.s.toArray⟩, .bool b.bad], .slice A l.length c] w fun e w' => e = .returned (.agg #[.string ⟨(b.small l).s.toArray⟩, .bool (b.small l).bad]) ∧ Below w.heap.size w w' := by
 obtain ⟨W1, hW1⟩ : ∃ W1, (w.alloc (.cells #[.string ⟨b.s.toArray⟩, .bool b.bad] 85)).alloc (.cells #[.string ⟨#[]⟩, .bool false] 85) = W1 := ⟨_, rfl⟩
 have E1 := Lib.hid hW1
 have HW : Hid (Below w.heap.size w W1) := by show Below _ _ _; rw [← hW1]; exact ((Below.refl _ _).alloc (Nat.le_refl _) _).alloc (by simp) _
 have HA0 : Hid (Acc W1 W1 w.heap.size b) := ⟨Off.refl _ _, by rw [← hW1, heap_alloc_old _ _ (by simp), heap_alloc_new]⟩
 have HR : Hid (W1.heap[w.heap.size + 1]? = some (.cells #[.string ⟨#[]⟩, .bool false] 85 (0, 0))) := by show _ = _; rw [← hW1]; exact heap_alloc_new2 _ _ _
 have HS : Hid (∀ wr, Below w.heap.size w wr → Sl wr A l.length c (iv l)) := fun wr hb => h.below hb (Nat.le_refl _)
 obtain ⟨g0, hg0⟩ : ∃ g : Gr W1, W1 = g.val := ⟨⟨W1, Below.refl _ _⟩, rfl⟩
 have hcap := h.cap
 have hle := h.le
 have hlz : (l.length : Int) ≤ 9223372036854775807 := by unfold maxLen at hcap; omega
 obtain ⟨c0, c1⟩ := HA0.out.cells g0
 have HN := Lib.hid (rbN_any b l.length 400 hlz (by unfold Bb.ok at hl ⊢; omega) W1)
 obtain ⟨st, hst⟩ : ∃ st : Bb → Int → Bb, (fun b x => b.Z x (-400) 400) = st := ⟨_, rfl⟩
 have HST : Hid (∀ b x, st b x = b.Z x (-400) 400) := fun b x => by rw [← hst]
 obtain ⟨r, hr⟩ : ∃ r, b.small l = r := ⟨_, rfl⟩
 have HRR : Hid (l.foldl st (b.N l.length 400) = r) := by rw [← hst]; exact hr
 have HOK : Hid ((b.N l.length 400).ok (l.length * 10)) := Bb.N_ok hlz hl
 have HI := Lib.hid hi
 rw [hr]
 generalize b.N l.length 400 = b1 at *
 rw [← hg0] at c0 c1
 clear hW1 hr hst hl h hi hg0
 go_enter Tryz.func98, Tryz.ntmps98
 go_upto_region 1 with fail
 rw [E1.out]
 go_wp2_with fail
 go_at_call 26
 refine HN.out.mono ?_
 rintro e w2 ⟨rfl, hb⟩
 obtain ⟨g, rfl⟩ := Gr.of hb
 obtain ⟨r0, r1⟩ := HA0.out.cells g
 have rf := HA0.out.free g
 have HA := Lib.hid (HA0.out.step g b1)
 clear hb c0 c1
 go_wp2_with fail
 clear r0 r1 rf
 go_loopw [12] (fun s12 wr => ∃ (k : Nat) (b' : Bb), s12 = .int .i64 k ∧ k ≤ l.length ∧ Hid (Acc W1 wr w.heap.size b') ∧ Hid ((l.drop k).foldl st b' = r) ∧ Hid (b'.ok ((l.length - k) * 10))) (fun s12 _ => l.length - (intOf s12).toNat)
 case atStart => exact ⟨0, b1, rfl, Nat.zero_le _, HA.out, by show _ = _; rw [List.drop_zero]; exact HRR.out, by show Bb.ok _ _; rw [Nat.sub_zero]; exact HOK.out⟩
 case round =>
  obtain ⟨k, b', rfl, hk, HAr, HF, HO⟩ := hrel
  have HB := Lib.hid (HAr.out.below HW.out (Nat.le_refl _))
  by_cases hlt : k < l.length
  ·have hkz : (k : Int) < l.length := by omega
   obtain ⟨x, hx⟩ : ∃ x, l[k]? = some x := ⟨_, List.getElem?_eq_getElem hlt⟩
   have hxb := HI.out x (List.mem_of_getElem? hx)
   have HSr := Lib.hid (HS.out wr HB.out)
   obtain ⟨b0, off, rfl, _, hc⟩ := HSr.out.intG hx
   have hds : l.drop k = x :: l.drop (k + 1) := by rw [drop_step hlt]; congr 1; exact Option.some.inj ((List.getElem?_eq_getElem hlt).symm.trans hx)
   have HF2 : Hid ((l.drop (k + 1)).foldl st (b'.Z x (-400) 400) = r) := by show _ = _; rw [← HF.out, hds, ← HST.out]; rfl
   have hokZ : b'.ok ((l.length - (k + 1)) * 10 + 10) := by have := HO.out; unfold Bb.ok at this ⊢; omega
   have HO2 : Hid ((b'.Z x (-400) 400).ok ((l.length - (k + 1)) * 10)) := Bb.Z_ok hxb hokZ
   have HZ := Lib.hid (fun (g : Gr wr) => rbZ_any b' x (-400) 400 hxb (by unfold Bb.ok at hokZ ⊢; omega) g.val)
   have C0 := fun g : Gr wr => (HAr.out.cells g).1
   have C1 := fun g : Gr wr => (HAr.out.cells g).2
   clear hx hds hxb hokZ
   go_wp2_with fail
   refine Gr.region_last (w0 := wr) (m := 6) (by kernel_rfl) (by kernel_rfl) (Gr.draw0 _) ?_
   simp only [List.take]
   repeat (go_big_quiet_step (fail))
   go_big_quiet_step ((go_at_call 96; exact Gr.calls _ (HZ.out _)))
   repeat (go_big_quiet_step (fail))
   refine wpQuiet_nil ?_
   rintro _ ⟨g, rfl⟩
   refine wpOp_last (o := _) rfl ?_
   have r0 := C0 g
   have r1 := C1 g
   have rf := HAr.out.free g
   have HA2 := Lib.hid (HAr.out.step g (b'.Z x (-400) 400))
   clear C0 C1 hc
   go_simp
   clear r0 r1 rf
   go_wp2_with fail
   go_roundw
   case rel => exact ⟨k + 1, _, by go_num, hlt, HA2.out, HF2.out, HO2.out⟩
   case measure => simp [intOf]; omega
  ·obtain rfl : k = l.length := by omega
   have HE : Hid (b' = r) := by show _ = _; rw [← HF.out, List.drop_of_length_le (Nat.le_refl _)]; rfl
   obtain ⟨c0, c1⟩ := HAr.out.cells ⟨wr, Below.refl _ _⟩
   have hR := HAr.out.off.heap HR.out (by omega)
   have r0 := blk_cell hR (i := 0) rfl
   have r1 := blk_cell hR (i := 1) rfl
   have rf := blk_free hR
   have HZ := two_set hR (.string ⟨b'.s.toArray⟩) (.bool b'.bad)
   have z0 := blk_cell HZ (i := 0) rfl
   have z1 := blk_cell HZ (i := 1) rfl
   clear hR HZ
   simp only at c0 c1
   go_wp2_with fail
   exact bodyPost_ret (v := .agg #[.string ⟨b'.s.toArray⟩, .bool b'.bad]) (by simp [results, Tryz.results98, go_sem, z0, z1]) rfl ⟨by rw [HE.out], (HB.out.setCell (p := ⟨w.heap.size + 1, 0, none⟩) (Nat.le_succ _) _).setCell (p := ⟨w.heap.size + 1, 1, none⟩) (Nat.le_succ _) _⟩
theorem Bb.ok_le {b : Bb} {n m : Nat} (h : b.ok n) (hm : m ≤ n) : b.ok m := by unfold Bb.ok at *; omega
theorem fold_ok {α : Type} {f : Bb → α → Bb} {C : Nat} : ∀ (l : List α) (b : Bb) (k : Nat), (∀ b x k, x ∈ l → b.ok (k + C) → (f b x).ok k) → b.ok (k + l.length * C) → (l.foldl f b).ok k
 | [], b, k, _, h => by simpa using h
 | x :: l, b, k, hf, h => by
  refine fold_ok l (f b x) k (fun b y k hy => hf b y k (List.mem_cons_of_mem _ hy)) (hf b x _ (List.mem_cons_self ..) ?_)
  rw [List.length_cons, Nat.succ_mul] at h
  rwa [Nat.add_assoc]
theorem Bb.small_ok {b : Bb} {l : List Int} {k : Nat} (hi : okI l) (h : b.ok (k + (l.length * 10 + 10))) : (b.small l).ok k := by
 have hz : (l.length : Int) ≤ 9223372036854775807 := by unfold Bb.ok at h; omega
 exact fold_ok l _ k (fun b x k hx h => Bb.Z_ok (hi x hx) h) (Bb.N_ok hz (by rwa [Nat.add_assoc]))
def Bb.stampsS (b : Bb) (x : Int) : Bb := b.M x
def Bb.stamps (b : Bb) (l : List (Int)) (most : Int) : Bb := l.foldl Bb.stampsS (b.N l.length most)
set_option maxRecDepth 100000 in
set_option maxHeartbeats 2000000 in
theorem rbstamps_any (b : Bb) (l : List (Int)) (most : Int) (A : Option Addr) (c : Nat) (w : World) (hi : okI l) (h : Sl w A l.length c (iv l)) (hl : b.ok (l.length * 10 + 10)) :
  Calls Tryz.prog 73 #[.agg #[.string ⟨b.s.toArray⟩, .bool b.bad], .slice A l.length c, .int .i64 most] w fun e w' => e = .returned (.agg #[.string ⟨(b.stamps l most).s.toArray⟩, .bool (b.stamps l most).bad]) ∧ Below w.heap.size w w' := by
 obtain ⟨W1, hW1⟩ : ∃ W1, (w.alloc (.cells #[.string ⟨b.s.toArray⟩, .bool b.bad] 85)).alloc (.cells #[.string ⟨#[]⟩, .bool false] 85) = W1 := ⟨_, rfl⟩
 have E1 := Lib.hid hW1
 have HW : Hid (Below w.heap.size w W1) := by show Below _ _ _; rw [← hW1]; exact ((Below.refl _ _).alloc (Nat.le_refl _) _).alloc (by simp <;> omega) _
 have HAx : Hid (Acc W1 W1 w.heap.size b) := ⟨Off.refl _ _, by rw [← hW1, heap_alloc_old _ _ (by simp <;> omega), heap_alloc_new]⟩
 obtain ⟨RB, hRB⟩ : ∃ RB, RB = w.heap.size + 1 := ⟨_, rfl⟩
 have HR : Hid (W1.heap[RB]? = some (.cells #[.string ⟨#[]⟩, .bool false] 85 (0, 0))) := by show _ = _; rw [hRB, ← hW1]; exact heap_alloc_new2 _ _ _ 
 have HB : Hid (Below w.heap.size w W1) := HW
 clear hW1
 have HS : Hid (∀ wr, Below w.heap.size w wr → Sl wr A l.length c (iv l)) := fun wr hb => h.below hb (Nat.le_refl _)
 have hcap := h.cap
 have hle := h.le
 have hlz : (l.length : Int) ≤ 9223372036854775807 := by unfold maxLen at hcap; omega
 have HI := Lib.hid hi
 obtain ⟨r, hr⟩ : ∃ r, b.stamps l most = r := ⟨_, rfl⟩
 have HF : Hid (l.foldl Bb.stampsS (b.N l.length most) = r) := hr
 rw [hr]
 have HOx : Hid (b.ok (0 + l.length * 10 + 10)) := by show Bb.ok _ _; unfold Bb.ok at hl ⊢; omega
 clear hr hl h hi
 go_enter Tryz.func73, Tryz.ntmps73
 go_upto_region 1 with fail
 rw [E1.out]
 have o0 : (b).ok ((0 + l.length * 10) + 10) := HOx.out
 have o1 : ((b).N (l.length) most).ok (0 + l.length * 10) := Bb.N_ok hlz o0
 have HZ0 := Lib.hid (fun (g : Gr W1) => rbN_any (b) (l.length) most hlz (Bb.ok_le o0 (Nat.le_add_left _ _)) g.val)
 have HO2 := Lib.hid o1
 have C0 := fun g : Gr W1 => (HAx.out.cells g).1
 have C1 := fun g : Gr W1 => (HAx.out.cells g).2
 clear o0 o1
 have d0 := C0 ⟨W1, Below.refl _ _⟩
 have d1 := C1 ⟨W1, Below.refl _ _⟩
 simp only at d0 d1 
 go_wp2_with fail
 go_at_call 26
 refine (HZ0.out ⟨W1, Below.refl _ _⟩).mono ?_
 rintro e w2 ⟨rfl, hb⟩
 obtain ⟨g, rfl⟩ := Gr.of hb
 clear hb d0 d1 
 have r0 := C0 g
 have r1 := C1 g
 have rf := HAx.out.free g
 have HA2 := Lib.hid (HAx.out.step g ((b).N (l.length) most))
 clear C0 C1  
 go_wp2_with fail
 clear r0 r1 rf
 clear HAx HOx
 have HAx := Lib.hid HA2.out
 have HOx := Lib.hid HO2.out
 clear HA2 HO2
 go_loopw [15] (fun si wr => ∃ (k : Nat) (b' : Bb), si = .int .i64 k ∧ k ≤ (l).length ∧ Hid (Acc W1 wr w.heap.size b') ∧ Hid ((((l).drop k).foldl Bb.stampsS b') = r) ∧ Hid (b'.ok (0 + ((l).length - k) * 10))) (fun si _ => (l).length - (intOf si).toNat)
 case atStart => exact ⟨0, _, rfl, Nat.zero_le _, HAx.out, by show _ = _; rw [List.drop_zero]; exact HF.out, by show Bb.ok _ _; rw [Nat.sub_zero]; exact HOx.out⟩
 case round =>
  clear HAx HOx HF
  obtain ⟨k, b', rfl, hk, HA, HF, HO⟩ := hrel
  have HB := Lib.hid (HA.out.below HW.out (Nat.le_refl _))
  by_cases hlt : k < (l).length
  ·have hkz : (k : Int) < (l).length := by omega
   obtain ⟨x, hx⟩ : ∃ x, (l)[k]? = some x := ⟨_, List.getElem?_eq_getElem hlt⟩
   have hxb := HI.out x (List.mem_of_getElem? hx)
   have hds : (l).drop k = x :: (l).drop (k + 1) := by rw [drop_step hlt]; congr 1; exact Option.some.inj ((List.getElem?_eq_getElem hlt).symm.trans hx)
   have HF2 : Hid ((((l).drop (k + 1)).foldl Bb.stampsS ((b').M (x))) = r) := by show _ = _; rw [← HF.out, hds]; rfl
   have HOr : Hid (b'.ok ((0 + ((l).length - (k + 1)) * 10) + 10)) := by have := HO.out; show Bb.ok _ _; unfold Bb.ok at this ⊢; omega
   obtain ⟨b0, off, rfl, _, hc⟩ := (HS.out wr HB.out).intG hx
   have E0 := hc
   have o0 : (b').ok ((0 + ((l).length - (k + 1)) * 10) + 10) := HOr.out
   have o1 : ((b').M (x)).ok (0 + ((l).length - (k + 1)) * 10) := Bb.M_ok hxb o0
   have HZ0 := Lib.hid (fun (g : Gr wr) => rbM_any (b') (x)  hxb (Bb.ok_le o0 (Nat.le_add_left _ _)) g.val)
   have HO2 := Lib.hid o1
   have C0 := fun g : Gr wr => (HA.out.cells g).1
   have C1 := fun g : Gr wr => (HA.out.cells g).2
   clear o0 o1
   clear hx hds hxb hc
   go_wp2_with fail
   refine Gr.region_last (w0 := wr) (m := 6) (by kernel_rfl) (by kernel_rfl) (Gr.draw0 _) ?_
   simp only [List.take]
   repeat (go_big_quiet_step (fail))
   go_big_quiet_step ((go_at_call 28; exact Gr.calls _ (HZ0.out _)))
   repeat (go_big_quiet_step (fail))
   refine wpQuiet_nil ?_
   rintro _ ⟨g, rfl⟩
   refine wpOp_last (o := _) rfl ?_
   have r0 := C0 g
   have r1 := C1 g
   have rf := HA.out.free g
   have HA2 := Lib.hid (HA.out.step g ((b').M (x)))
   clear C0 C1  E0 
   go_simp
   clear r0 r1 rf
   go_wp2_with fail
   go_roundw
   case rel => exact ⟨k + 1, _, by go_num, hlt, HA2.out, HF2.out, HO2.out⟩
   case measure => simp [intOf]; omega
  ·obtain rfl : k = (l).length := by omega
   have HF3 : Hid (b' = r) := by show _ = _; rw [← HF.out, List.drop_of_length_le (Nat.le_refl _)]; rfl
   have HOx : Hid (b'.ok 0) := by have := HO.out; show Bb.ok _ _; rw [Nat.sub_self, Nat.zero_mul] at this; exact this
   clear HF HO
   have HF := Lib.hid HF3.out
   clear HF3
   have HAx := Lib.hid HA.out
   obtain ⟨c0, c1⟩ := HA.out.cells ⟨wr, Below.refl _ _⟩
   have hR := HA.out.off.heap HR.out (by omega)
   have r0 := blk_cell hR (i := 0) rfl
   have r1 := blk_cell hR (i := 1) rfl
   have rf := blk_free hR
   have HZ := two_set hR (.string ⟨b'.s.toArray⟩) (.bool b'.bad)
   have z0 := blk_cell HZ (i := 0) rfl
   have z1 := blk_cell HZ (i := 1) rfl
   clear hR HZ
   simp only at c0 c1
   rw [hRB] at r0 r1 rf z0 z1
   go_wp2_with fail
   exact bodyPost_ret (v := .agg #[.string ⟨b'.s.toArray⟩, .bool b'.bad]) (by simp [results, Tryz.results73, go_sem, z0, z1]) rfl ⟨by rw [← show b' = r from HF.out], (HB.out.setCell (p := ⟨w.heap.size + 1, 0, none⟩) (Nat.le_succ _) _).setCell (p := ⟨w.heap.size + 1, 1, none⟩) (Nat.le_succ _) _⟩
theorem Bb.stamps_ok {b : Bb} {l : List Int} {most : Int} {k : Nat} (hi : okI l) (h : b.ok (k + (l.length * 10 + 10))) : (b.stamps l most).ok k := by
 have hz : (l.length : Int) ≤ 9223372036854775807 := by unfold Bb.ok at h; omega
 exact fold_ok l _ k (fun b x k hx h => Bb.M_ok (hi x hx) h) (Bb.N_ok hz (by rwa [Nat.add_assoc]))
def okT (l : List (Int × Int × Int)) : Prop := ∀ x ∈ l, I64 x.1 ∧ I64 x.2.1 ∧ I64 x.2.2
def Bb.shiftsS (b : Bb) (x : Int × Int × Int) : Bb := ((b.N x.1 127).N x.2.1 1440).N x.2.2 1440
def Bb.shifts (b : Bb) (l : List (Int × Int × Int)) (most : Int) : Bb := l.foldl Bb.shiftsS (b.N l.length most)
set_option maxRecDepth 100000 in
set_option maxHeartbeats 2000000 in
theorem rbshifts_any (b : Bb) (l : List (Int × Int × Int)) (most : Int) (A : Option Addr) (c : Nat) (w : World) (hi : okT l) (h : Sl w A l.length c (tv l)) (hl : b.ok (l.length * 30 + 10)) :
  Calls Tryz.prog 97 #[.agg #[.string ⟨b.s.toArray⟩, .bool b.bad], .slice A l.length c, .int .i64 most] w fun e w' => e = .returned (.agg #[.string ⟨(b.shifts l most).s.toArray⟩, .bool (b.shifts l most).bad]) ∧ Below w.heap.size w w' := by
 obtain ⟨W1, hW1⟩ : ∃ W1, (w.alloc (.cells #[.string ⟨b.s.toArray⟩, .bool b.bad] 85)).alloc (.cells #[.string ⟨#[]⟩, .bool false] 85) = W1 := ⟨_, rfl⟩
 have E1 := Lib.hid hW1
 have HW : Hid (Below w.heap.size w W1) := by show Below _ _ _; rw [← hW1]; exact ((Below.refl _ _).alloc (Nat.le_refl _) _).alloc (by simp <;> omega) _
 have HAx : Hid (Acc W1 W1 w.heap.size b) := ⟨Off.refl _ _, by rw [← hW1, heap_alloc_old _ _ (by simp <;> omega), heap_alloc_new]⟩
 obtain ⟨RB, hRB⟩ : ∃ RB, RB = w.heap.size + 1 := ⟨_, rfl⟩
 have HR : Hid (W1.heap[RB]? = some (.cells #[.string ⟨#[]⟩, .bool false] 85 (0, 0))) := by show _ = _; rw [hRB, ← hW1]; exact heap_alloc_new2 _ _ _ 
 have HB : Hid (Below w.heap.size w W1) := HW
 clear hW1
 have HS : Hid (∀ wr, Below w.heap.size w wr → Sl wr A l.length c (tv l)) := fun wr hb => h.below hb (Nat.le_refl _)
 have hcap := h.cap
 have hle := h.le
 have hlz : (l.length : Int) ≤ 9223372036854775807 := by unfold maxLen at hcap; omega
 have HI := Lib.hid hi
 obtain ⟨r, hr⟩ : ∃ r, b.shifts l most = r := ⟨_, rfl⟩
 have HF : Hid (l.foldl Bb.shiftsS (b.N l.length most) = r) := hr
 rw [hr]
 have HOx : Hid (b.ok (0 + l.length * 30 + 10)) := by show Bb.ok _ _; unfold Bb.ok at hl ⊢; omega
 clear hr hl h hi
 go_enter Tryz.func97, Tryz.ntmps97
 go_upto_region 1 with fail
 rw [E1.out]
 have o0 : (b).ok ((0 + l.length * 30) + 10) := HOx.out
 have o1 : ((b).N (l.length) most).ok (0 + l.length * 30) := Bb.N_ok hlz o0
 have HZ0 := Lib.hid (fun (g : Gr W1) => rbN_any (b) (l.length) most hlz (Bb.ok_le o0 (Nat.le_add_left _ _)) g.val)
 have HO2 := Lib.hid o1
 have C0 := fun g : Gr W1 => (HAx.out.cells g).1
 have C1 := fun g : Gr W1 => (HAx.out.cells g).2
 clear o0 o1
 have d0 := C0 ⟨W1, Below.refl _ _⟩
 have d1 := C1 ⟨W1, Below.refl _ _⟩
 simp only at d0 d1 
 go_wp2_with fail
 go_at_call 26
 refine (HZ0.out ⟨W1, Below.refl _ _⟩).mono ?_
 rintro e w2 ⟨rfl, hb⟩
 obtain ⟨g, rfl⟩ := Gr.of hb
 clear hb d0 d1 
 have r0 := C0 g
 have r1 := C1 g
 have rf := HAx.out.free g
 have HA2 := Lib.hid (HAx.out.step g ((b).N (l.length) most))
 clear C0 C1  
 go_wp2_with fail
 clear r0 r1 rf
 clear HAx HOx
 have HAx := Lib.hid HA2.out
 have HOx := Lib.hid HO2.out
 clear HA2 HO2
 go_loopw [15] (fun si wr => ∃ (k : Nat) (b' : Bb), si = .int .i64 k ∧ k ≤ (l).length ∧ Hid (Acc W1 wr w.heap.size b') ∧ Hid ((((l).drop k).foldl Bb.shiftsS b') = r) ∧ Hid (b'.ok (0 + ((l).length - k) * 30))) (fun si _ => (l).length - (intOf si).toNat)
 case atStart => exact ⟨0, _, rfl, Nat.zero_le _, HAx.out, by show _ = _; rw [List.drop_zero]; exact HF.out, by show Bb.ok _ _; rw [Nat.sub_zero]; exact HOx.out⟩
 case round =>
  clear HAx HOx HF
  obtain ⟨k, b', rfl, hk, HA, HF, HO⟩ := hrel
  have HB := Lib.hid (HA.out.below HW.out (Nat.le_refl _))
  by_cases hlt : k < (l).length
  ·have hkz : (k : Int) < (l).length := by omega
   obtain ⟨x, hx⟩ : ∃ x, (l)[k]? = some x := ⟨_, List.getElem?_eq_getElem hlt⟩
   have hxb := HI.out x (List.mem_of_getElem? hx)
   have hds : (l).drop k = x :: (l).drop (k + 1) := by rw [drop_step hlt]; congr 1; exact Option.some.inj ((List.getElem?_eq_getElem hlt).symm.trans hx)
   have HF2 : Hid ((((l).drop (k + 1)).foldl Bb.shiftsS ((((b').N (x.1) 127).N (x.2.1) 1440).N (x.2.2) 1440)) = r) := by show _ = _; rw [← HF.out, hds]; rfl
   have HOr : Hid (b'.ok ((((0 + ((l).length - (k + 1)) * 30) + 10) + 10) + 10)) := by have := HO.out; show Bb.ok _ _; unfold Bb.ok at this ⊢; omega
   obtain ⟨b0, off, rfl, _, hc⟩ := (HS.out wr HB.out).tG hx
   have E0 := fun g => (hc g).1
   have E1 := fun g => (hc g).2.1
   have E2 := fun g => (hc g).2.2
   have o0 : (b').ok ((((0 + ((l).length - (k + 1)) * 30) + 10) + 10) + 10) := HOr.out
   have o1 : ((b').N (x.1) 127).ok (((0 + ((l).length - (k + 1)) * 30) + 10) + 10) := Bb.N_ok hxb.1.2 o0
   have o2 : (((b').N (x.1) 127).N (x.2.1) 1440).ok ((0 + ((l).length - (k + 1)) * 30) + 10) := Bb.N_ok hxb.2.1.2 o1
   have o3 : ((((b').N (x.1) 127).N (x.2.1) 1440).N (x.2.2) 1440).ok (0 + ((l).length - (k + 1)) * 30) := Bb.N_ok hxb.2.2.2 o2
   have HZ0 := Lib.hid (fun (g : Gr wr) => rbN_any (b') (x.1) 127 hxb.1.2 (Bb.ok_le o0 (Nat.le_add_left _ _)) g.val)
   have HZ1 := Lib.hid (fun (g : Gr wr) => rbN_any ((b').N (x.1) 127) (x.2.1) 1440 hxb.2.1.2 (Bb.ok_le o1 (Nat.le_add_left _ _)) g.val)
   have HZ2 := Lib.hid (fun (g : Gr wr) => rbN_any (((b').N (x.1) 127).N (x.2.1) 1440) (x.2.2) 1440 hxb.2.2.2 (Bb.ok_le o2 (Nat.le_add_left _ _)) g.val)
   have HO2 := Lib.hid o3
   have C0 := fun g : Gr wr => (HA.out.cells g).1
   have C1 := fun g : Gr wr => (HA.out.cells g).2
   clear o0 o1 o2 o3
   clear hx hds hxb hc
   go_wp2_with fail
   refine Gr.region_last (w0 := wr) (m := 19) (by kernel_rfl) (by kernel_rfl) (Gr.draw0 _) ?_
   simp only [List.take]
   repeat (go_big_quiet_step (fail))
   go_big_quiet_step ((go_at_call 26; exact Gr.calls _ (HZ0.out _)))
   repeat (go_big_quiet_step (fail))
   go_big_quiet_step ((go_at_call 26; exact Gr.calls _ (HZ1.out _)))
   repeat (go_big_quiet_step (fail))
   go_big_quiet_step ((go_at_call 26; exact Gr.calls _ (HZ2.out _)))
   repeat (go_big_quiet_step (fail))
   refine wpQuiet_nil ?_
   rintro _ ⟨g, rfl⟩
   refine wpOp_last (o := _) rfl ?_
   have r0 := C0 g
   have r1 := C1 g
   have rf := HA.out.free g
   have HA2 := Lib.hid (HA.out.step g ((((b').N (x.1) 127).N (x.2.1) 1440).N (x.2.2) 1440))
   clear C0 C1  E0 E1 E2 
   go_simp
   clear r0 r1 rf
   go_wp2_with fail
   go_roundw
   case rel => exact ⟨k + 1, _, by go_num, hlt, HA2.out, HF2.out, HO2.out⟩
   case measure => simp [intOf]; omega
  ·obtain rfl : k = (l).length := by omega
   have HF3 : Hid (b' = r) := by show _ = _; rw [← HF.out, List.drop_of_length_le (Nat.le_refl _)]; rfl
   have HOx : Hid (b'.ok 0) := by have := HO.out; show Bb.ok _ _; rw [Nat.sub_self, Nat.zero_mul] at this; exact this
   clear HF HO
   have HF := Lib.hid HF3.out
   clear HF3
   have HAx := Lib.hid HA.out
   obtain ⟨c0, c1⟩ := HA.out.cells ⟨wr, Below.refl _ _⟩
   have hR := HA.out.off.heap HR.out (by omega)
   have r0 := blk_cell hR (i := 0) rfl
   have r1 := blk_cell hR (i := 1) rfl
   have rf := blk_free hR
   have HZ := two_set hR (.string ⟨b'.s.toArray⟩) (.bool b'.bad)
   have z0 := blk_cell HZ (i := 0) rfl
   have z1 := blk_cell HZ (i := 1) rfl
   clear hR HZ
   simp only at c0 c1
   rw [hRB] at r0 r1 rf z0 z1
   go_wp2_with fail
   exact bodyPost_ret (v := .agg #[.string ⟨b'.s.toArray⟩, .bool b'.bad]) (by simp [results, Tryz.results97, go_sem, z0, z1]) rfl ⟨by rw [← show b' = r from HF.out], (HB.out.setCell (p := ⟨w.heap.size + 1, 0, none⟩) (Nat.le_succ _) _).setCell (p := ⟨w.heap.size + 1, 1, none⟩) (Nat.le_succ _) _⟩
theorem Bb.shifts_ok {b : Bb} {l : List (Int × Int × Int)} {most : Int} {k : Nat} (hi : okT l) (h : b.ok (k + (l.length * 30 + 10))) : (b.shifts l most).ok k := by
 have hz : (l.length : Int) ≤ 9223372036854775807 := by unfold Bb.ok at h; omega
 refine fold_ok l _ k (C := 30) (fun b x k hx h => ?_) (Bb.N_ok hz (by rwa [Nat.add_assoc]))
 exact Bb.N_ok (hi x hx).2.2.2 (Bb.N_ok (hi x hx).2.1.2 (Bb.N_ok (hi x hx).1.2 h))
end Go.Proofs.YtdhinjbkfffpeaaGreat
end
section
namespace Go.Proofs.YtdhinjbkfffpeaaGreat
open Go.ChangeShapes Go.WideShapes Go.ChangeAt Go.RowKit Go.Joins Sp Fr Pk
def Bb.SetT (b : Bb) (x : Spn) : Bb := (b.M x.1).Z x.2 (-900) 900
def Bb.SetO (b : Bb) (x : Int) : Bb := b.N x 109937
def Bb.Set3 (s : Stg) (b : Bb) : Bb := (b.N s.before 240).N s.after 240
def Bb.Set2 (s : Stg) (b : Bb) : Bb := Bb.Set3 s (s.off.foldl Bb.SetO ((b.shifts s.shifts 10).N s.off.length 60))
def Bb.Settings (b : Bb) (s : Stg) : Bb := Bb.Set2 s (s.turns.foldl Bb.SetT ((b.Z s.base (-900) 900).N s.turns.length 700))
def Stg.cost (s : Stg) : Nat := s.turns.length * 20 + s.shifts.length * 30 + s.off.length * 10 + 60
def Bb.QyM (b : Bb) (x : Nat) : Bb := b.U x
def Bb.QyW (b : Bb) (x : Nat × Int) : Bb := (b.U x.1).N x.2 1000
def Bb.QyA (b : Bb) (x : Nat × Nat) : Bb := (b.U x.1).U x.2
def Bb.Qy4 (q : Qy) (b : Bb) : Bb := b.shifts q.prefer 8
def Bb.Qy3 (q : Qy) (b : Bb) : Bb := Bb.Qy4 q (q.apart.foldl Bb.QyA ((b.N q.seats 100).N q.apart.length 32))
def Bb.Qy2 (q : Qy) (b : Bb) : Bb := Bb.Qy3 q (q.may.foldl Bb.QyW (b.N q.may.length 16))
def Bb.Query (b : Bb) (q : Qy) : Bb := Bb.Qy2 q (q.must.foldl Bb.QyM (((((b.M q.win.1).M q.win.2).N q.long 10080).N q.grid 1440).N q.must.length 64))
def Qy.cost (q : Qy) : Nat := q.must.length * 10 + q.may.length * 20 + q.apart.length * 20 + q.prefer.length * 30 + 90
def Bb.PlV (b : Bb) (x : Nat × Int) : Bb := (b.U x.1).N x.2 40
def Bb.Pl2 (o : Pl) (b : Bb) : Bb := ((b.M o.until_).N o.state 4).N o.winner 40
def Bb.Poll (b : Bb) (o : Pl) : Bb := Bb.Pl2 o (o.votes.foldl Bb.PlV (((((b.U o.id).U o.owner).Query o.query).stamps o.slots 40).N o.votes.length 4096))
def Pl.cost (o : Pl) : Nat := o.query.cost + o.slots.length * 10 + o.votes.length * 20 + 70
theorem len_le {w : World} {A : Option Addr} {n c : Nat} {xs : List Value} (h : Sl w A n c xs) : (n : Int) ≤ 9223372036854775807 := by have h1 := h.le; have h2 := h.cap; unfold maxLen at h2; omega
set_option maxRecDepth 100000 in
set_option maxHeartbeats 4000000 in
theorem rbSettings_any (b : Bb) (s : Stg) (p : StgP) (w : World) (hf : s.Fits) (h : StgAt w s p) (hl : b.ok s.cost) :
  Calls Tryz.prog 47 #[.agg #[.string ⟨b.s.toArray⟩, .bool b.bad], .agg (sCells s p).toArray] w fun e w' => e = .returned (.agg #[.string ⟨(b.Settings s).s.toArray⟩, .bool (b.Settings s).bad]) ∧ Below w.heap.size w w' := by
 obtain ⟨A1, A2, A3, c1, c2, c3⟩ := p
 unfold sCells
 simp only [List.toArray]
 obtain ⟨W1, hW1⟩ : ∃ W1, ((w.alloc (.cells #[.string ⟨b.s.toArray⟩, .bool b.bad] 85)).alloc (.cells #[.int .i64 s.base, .slice A1 s.turns.length c1, .slice A2 s.shifts.length c2, .slice A3 s.off.length c3, .int .i64 s.before, .int .i64 s.after] 57)).alloc (.cells #[.string ⟨#[]⟩, .bool false] 85) = W1 := ⟨_, rfl⟩
 have E1 := Lib.hid hW1
 have HW : Hid (Below w.heap.size w W1) := by show Below _ _ _; rw [← hW1]; exact (((Below.refl _ _).alloc (Nat.le_refl _) _).alloc (by simp <;> omega) _).alloc (by simp <;> omega) _
 have HAx : Hid (Acc W1 W1 w.heap.size b) := ⟨Off.refl _ _, by rw [← hW1, heap_alloc_old _ _ (by simp <;> omega), heap_alloc_old _ _ (by simp <;> omega), heap_alloc_new]⟩
 obtain ⟨RB, hRB⟩ : ∃ RB, RB = w.heap.size + 2 := ⟨_, rfl⟩
 have HR : Hid (W1.heap[RB]? = some (.cells #[.string ⟨#[]⟩, .bool false] 85 (0, 0))) := by show _ = _; rw [hRB, ← hW1]; exact heap_alloc_new3 _ _ _ _ 
 have HB : Hid (Below w.heap.size w W1) := HW
 have HPs : Hid (∀ (wr : World) (bq : Bb), Acc W1 wr w.heap.size bq → ∀ (g : Gr wr) (k : Nat) (v : Value), (#[.int .i64 s.base, .slice A1 s.turns.length c1, .slice A2 s.shifts.length c2, .slice A3 s.off.length c3, .int .i64 s.before, .int .i64 s.after] : Array Value)[k]? = some v → g.val.cell? ⟨w.heap.size + 1, k, none⟩ = some v) := fun wr bq ha g k v hv => by
  refine cell_old (ha.off.cell (blk_cell (cs := #[.int .i64 s.base, .slice A1 s.turns.length c1, .slice A2 s.shifts.length c2, .slice A3 s.off.length c3, .int .i64 s.before, .int .i64 s.after]) (t := 57) ?_ hv) (by omega)) g.ok
  rw [← hW1, heap_alloc_old _ _ (by simp <;> omega)]
  exact heap_alloc_new2 _ _ _ 
 clear hW1
 have HS1 : Hid (∀ wr, Below w.heap.size w wr → Sl wr A1 s.turns.length c1 (sv s.turns)) := fun wr hb => h.s1.below hb (Nat.le_refl _)
 have HS2 : Hid (∀ wr, Below w.heap.size w wr → Sl wr A2 s.shifts.length c2 (tv s.shifts)) := fun wr hb => h.s2.below hb (Nat.le_refl _)
 have HS3 : Hid (∀ wr, Below w.heap.size w wr → Sl wr A3 s.off.length c3 (iv s.off)) := fun wr hb => h.s3.below hb (Nat.le_refl _)
 have hz1 := len_le h.s1
 have hz2 := len_le h.s2
 have hz3 := len_le h.s3
 obtain ⟨r, hr⟩ : ∃ r, b.Settings s = r := ⟨_, rfl⟩
 have HF : Hid (b.Settings s = r) := hr
 rw [hr]
 have HFit := Lib.hid hf
 have HOx : Hid (b.ok ((((((((0 + 10) + 10) + s.off.length * 10) + 10) + ((s.shifts).length * 30 + 10)) + s.turns.length * 20) + 10) + 10)) := by show Bb.ok _ _; unfold Bb.ok at hl ⊢; unfold Stg.cost at hl; omega
 clear hr hl h hf
 go_enter Tryz.func47, Tryz.ntmps47
 go_upto_region 1 with fail
 rw [E1.out]
 have o0 : (b).ok ((((((((0 + 10) + 10) + s.off.length * 10) + 10) + ((s.shifts).length * 30 + 10)) + s.turns.length * 20) + 10) + 10) := HOx.out
 have o1 : ((b).Z (s.base) (-900) 900).ok (((((((0 + 10) + 10) + s.off.length * 10) + 10) + ((s.shifts).length * 30 + 10)) + s.turns.length * 20) + 10) := Bb.Z_ok HFit.out.base o0
 have o2 : (((b).Z (s.base) (-900) 900).N (s.turns.length) 700).ok ((((((0 + 10) + 10) + s.off.length * 10) + 10) + ((s.shifts).length * 30 + 10)) + s.turns.length * 20) := Bb.N_ok hz1 o1
 have HZ0 := Lib.hid (fun (g : Gr W1) => rbZ_any (b) (s.base) (-900) 900 HFit.out.base (Bb.ok_le o0 (Nat.le_add_left _ _)) g.val)
 have HZ1 := Lib.hid (fun (g : Gr W1) => rbN_any ((b).Z (s.base) (-900) 900) (s.turns.length) 700 hz1 (Bb.ok_le o1 (Nat.le_add_left _ _)) g.val)
 have HO2 := Lib.hid o2
 have C0 := fun g : Gr W1 => (HAx.out.cells g).1
 have C1 := fun g : Gr W1 => (HAx.out.cells g).2
 have Ps_0 := fun g : Gr W1 => HPs.out W1 _ HAx.out g 0 (.int .i64 s.base) rfl
 have Ps_1 := fun g : Gr W1 => HPs.out W1 _ HAx.out g 1 (.slice A1 s.turns.length c1) rfl
 clear o0 o1 o2
 refine Gr.region_last (w0 := W1) (m := 10) (by kernel_rfl) (by kernel_rfl) (Gr.draw0 _) ?_
 simp only [List.take]
 repeat (go_big_quiet_step (fail))
 go_big_quiet_step ((go_at_call 96; exact Gr.calls _ (HZ0.out _)))
 repeat (go_big_quiet_step (fail))
 go_big_quiet_step ((go_at_call 26; exact Gr.calls _ (HZ1.out _)))
 repeat (go_big_quiet_step (fail))
 refine wpQuiet_nil ?_
 rintro _ ⟨g, rfl⟩
 refine wpOp_last (o := _) rfl ?_
 have r0 := C0 g
 have r1 := C1 g
 have rf := HAx.out.free g
 have HA2 := Lib.hid (HAx.out.step g (((b).Z (s.base) (-900) 900).N (s.turns.length) 700))
 clear C0 C1 Ps_0 Ps_1 
 go_simp
 clear r0 r1 rf
 obtain ⟨w1, hw1⟩ : ∃ x, ((g.val.setCell ⟨w.heap.size, 0, none⟩ (.string ⟨(((b).Z (s.base) (-900) 900).N (s.turns.length) 700).s.toArray⟩)).setCell ⟨w.heap.size, 1, none⟩ (.bool (((b).Z (s.base) (-900) 900).N (s.turns.length) 700).bad)) = x := ⟨_, rfl⟩
 rw [hw1] at HA2 ⊢
 clear hw1
 have HAw1 := Lib.hid HA2.out
 have HOw1 := Lib.hid HO2.out
 clear HA2 HO2
 have qs_1 := HPs.out w1 _ HAw1.out ⟨w1, Below.refl _ _⟩ 1 (.slice A1 s.turns.length c1) rfl
 simp only at qs_1
 go_wp2_with fail
 clear qs_1
 clear HAx HOx
 have HAx := Lib.hid HAw1.out
 have HOx := Lib.hid HOw1.out
 clear HAw1 HOw1
 go_loopw [21] (fun si wr => ∃ (k : Nat) (b' : Bb), si = .int .i64 k ∧ k ≤ (s.turns).length ∧ Hid (Acc W1 wr w.heap.size b') ∧ Hid (Bb.Set2 s (((s.turns).drop k).foldl Bb.SetT b') = r) ∧ Hid (b'.ok ((((((0 + 10) + 10) + s.off.length * 10) + 10) + ((s.shifts).length * 30 + 10)) + ((s.turns).length - k) * 20))) (fun si _ => (s.turns).length - (intOf si).toNat)
 case atStart => exact ⟨0, _, rfl, Nat.zero_le _, HAx.out, by show _ = _; rw [List.drop_zero]; exact HF.out, by show Bb.ok _ _; rw [Nat.sub_zero]; exact HOx.out⟩
 case round =>
  clear HAx HOx HF
  obtain ⟨k, b', rfl, hk, HA, HF, HO⟩ := hrel
  have HB := Lib.hid (HA.out.below HW.out (Nat.le_refl _))
  by_cases hlt : k < (s.turns).length
  ·have hkz : (k : Int) < (s.turns).length := by omega
   obtain ⟨x, hx⟩ : ∃ x, (s.turns)[k]? = some x := ⟨_, List.getElem?_eq_getElem hlt⟩
   have hxb := HFit.out.turns x (List.mem_of_getElem? hx)
   have ds_1 := HPs.out wr _ HA.out ⟨wr, Below.refl _ _⟩ 1 (.slice A1 s.turns.length c1) rfl
   simp only at ds_1
   have hds : (s.turns).drop k = x :: (s.turns).drop (k + 1) := by rw [drop_step hlt]; congr 1; exact Option.some.inj ((List.getElem?_eq_getElem hlt).symm.trans hx)
   have HF2 : Hid (Bb.Set2 s (((s.turns).drop (k + 1)).foldl Bb.SetT (((b').M (x.1)).Z (x.2) (-900) 900)) = r) := by show _ = _; rw [← HF.out, hds]; rfl
   have HOr : Hid (b'.ok ((((((((0 + 10) + 10) + s.off.length * 10) + 10) + ((s.shifts).length * 30 + 10)) + ((s.turns).length - (k + 1)) * 20) + 10) + 10)) := by have := HO.out; show Bb.ok _ _; unfold Bb.ok at this ⊢; omega
   obtain ⟨b0, off, rfl, _, hc⟩ := (HS1.out wr HB.out).spanG hx
   have E0 := fun g => (hc g).1
   have E1 := fun g => (hc g).2
   have o0 : (b').ok ((((((((0 + 10) + 10) + s.off.length * 10) + 10) + ((s.shifts).length * 30 + 10)) + ((s.turns).length - (k + 1)) * 20) + 10) + 10) := HOr.out
   have o1 : ((b').M (x.1)).ok (((((((0 + 10) + 10) + s.off.length * 10) + 10) + ((s.shifts).length * 30 + 10)) + ((s.turns).length - (k + 1)) * 20) + 10) := Bb.M_ok hxb.1 o0
   have o2 : (((b').M (x.1)).Z (x.2) (-900) 900).ok ((((((0 + 10) + 10) + s.off.length * 10) + 10) + ((s.shifts).length * 30 + 10)) + ((s.turns).length - (k + 1)) * 20) := Bb.Z_ok hxb.2 o1
   have HZ0 := Lib.hid (fun (g : Gr wr) => rbM_any (b') (x.1)  hxb.1 (Bb.ok_le o0 (Nat.le_add_left _ _)) g.val)
   have HZ1 := Lib.hid (fun (g : Gr wr) => rbZ_any ((b').M (x.1)) (x.2) (-900) 900 hxb.2 (Bb.ok_le o1 (Nat.le_add_left _ _)) g.val)
   have HO2 := Lib.hid o2
   have C0 := fun g : Gr wr => (HA.out.cells g).1
   have C1 := fun g : Gr wr => (HA.out.cells g).2
   have Ps_1 := fun g : Gr wr => HPs.out wr _ HA.out g 1 (.slice (some ⟨b0, off, none⟩) s.turns.length c1) rfl
   clear o0 o1 o2
   clear hx hds hxb hc
   go_wp2_with fail
   refine Gr.region_last (w0 := wr) (m := 17) (by kernel_rfl) (by kernel_rfl) (Gr.draw0 _) ?_
   simp only [List.take]
   repeat (go_big_quiet_step (fail))
   go_big_quiet_step ((go_at_call 28; exact Gr.calls _ (HZ0.out _)))
   repeat (go_big_quiet_step (fail))
   go_big_quiet_step ((go_at_call 96; exact Gr.calls _ (HZ1.out _)))
   repeat (go_big_quiet_step (fail))
   refine wpQuiet_nil ?_
   rintro _ ⟨g, rfl⟩
   refine wpOp_last (o := _) rfl ?_
   have r0 := C0 g
   have r1 := C1 g
   have rf := HA.out.free g
   have HA2 := Lib.hid (HA.out.step g (((b').M (x.1)).Z (x.2) (-900) 900))
   clear C0 C1 Ps_1 E0 E1 ds_1
   go_simp
   clear r0 r1 rf
   go_wp2_with fail
   go_roundw
   case rel => exact ⟨k + 1, _, by go_num, hlt, HA2.out, HF2.out, HO2.out⟩
   case measure => simp [intOf]; omega
  ·obtain rfl : k = (s.turns).length := by omega
   have HF3 : Hid (Bb.Set2 s b' = r) := by show _ = _; rw [← HF.out, List.drop_of_length_le (Nat.le_refl _)]; rfl
   have HOx : Hid (b'.ok (((((0 + 10) + 10) + s.off.length * 10) + 10) + ((s.shifts).length * 30 + 10))) := by have := HO.out; show Bb.ok _ _; rw [Nat.sub_self, Nat.zero_mul] at this; exact this
   clear HF HO
   have HF := Lib.hid HF3.out
   clear HF3
   have HAx := Lib.hid HA.out
   go_wp2_with fail
   have o0 : (b').ok (((((0 + 10) + 10) + s.off.length * 10) + 10) + ((s.shifts).length * 30 + 10)) := HOx.out
   have o1 : ((b').shifts (s.shifts) 10).ok ((((0 + 10) + 10) + s.off.length * 10) + 10) := Bb.shifts_ok HFit.out.shifts o0
   have o2 : (((b').shifts (s.shifts) 10).N (s.off.length) 60).ok (((0 + 10) + 10) + s.off.length * 10) := Bb.N_ok hz3 o1
   have HZ0 := Lib.hid (fun (g : Gr wr) => rbshifts_any (b') (s.shifts) 10 A2 c2 g.val HFit.out.shifts (HS2.out g.val (HB.out.trans (g.ok.mono HB.out.size))) (Bb.ok_le o0 (Nat.le_add_left _ _)))
   have HZ1 := Lib.hid (fun (g : Gr wr) => rbN_any ((b').shifts (s.shifts) 10) (s.off.length) 60 hz3 (Bb.ok_le o1 (Nat.le_add_left _ _)) g.val)
   have HO2 := Lib.hid o2
   have C0 := fun g : Gr wr => (HA.out.cells g).1
   have C1 := fun g : Gr wr => (HA.out.cells g).2
   have Ps_2 := fun g : Gr wr => HPs.out wr _ HA.out g 2 (.slice A2 s.shifts.length c2) rfl
   have Ps_3 := fun g : Gr wr => HPs.out wr _ HA.out g 3 (.slice A3 s.off.length c3) rfl
   clear o0 o1 o2
   refine Gr.region_last (w0 := wr) (m := 10) (by kernel_rfl) (by kernel_rfl) (Gr.draw0 _) ?_
   simp only [List.take]
   repeat (go_big_quiet_step (fail))
   go_big_quiet_step ((go_at_call 97; exact Gr.calls _ (HZ0.out _)))
   repeat (go_big_quiet_step (fail))
   go_big_quiet_step ((go_at_call 26; exact Gr.calls _ (HZ1.out _)))
   repeat (go_big_quiet_step (fail))
   refine wpQuiet_nil ?_
   rintro _ ⟨g, rfl⟩
   refine wpOp_last (o := _) rfl ?_
   have r0 := C0 g
   have r1 := C1 g
   have rf := HA.out.free g
   have HA2 := Lib.hid (HA.out.step g (((b').shifts (s.shifts) 10).N (s.off.length) 60))
   clear C0 C1 Ps_2 Ps_3 
   go_simp
   clear r0 r1 rf
   obtain ⟨w2, hw2⟩ : ∃ x, ((g.val.setCell ⟨w.heap.size, 0, none⟩ (.string ⟨(((b').shifts (s.shifts) 10).N (s.off.length) 60).s.toArray⟩)).setCell ⟨w.heap.size, 1, none⟩ (.bool (((b').shifts (s.shifts) 10).N (s.off.length) 60).bad)) = x := ⟨_, rfl⟩
   rw [hw2] at HA2 ⊢
   clear hw2
   have HAw2 := Lib.hid HA2.out
   have HOw2 := Lib.hid HO2.out
   clear HA2 HO2
   have qs_3 := HPs.out w2 _ HAw2.out ⟨w2, Below.refl _ _⟩ 3 (.slice A3 s.off.length c3) rfl
   simp only at qs_3
   go_wp2_with fail
   clear qs_3
   clear HAx HOx
   have HAx := Lib.hid HAw2.out
   have HOx := Lib.hid HOw2.out
   clear HAw2 HOw2
   go_loopw [56] (fun si wr => ∃ (k : Nat) (b' : Bb), si = .int .i64 k ∧ k ≤ (s.off).length ∧ Hid (Acc W1 wr w.heap.size b') ∧ Hid (Bb.Set3 s (((s.off).drop k).foldl Bb.SetO b') = r) ∧ Hid (b'.ok (((0 + 10) + 10) + ((s.off).length - k) * 10))) (fun si _ => (s.off).length - (intOf si).toNat)
   case atStart => exact ⟨0, _, rfl, Nat.zero_le _, HAx.out, by show _ = _; rw [List.drop_zero]; exact HF.out, by show Bb.ok _ _; rw [Nat.sub_zero]; exact HOx.out⟩
   case round =>
    clear HAx HOx HF
    obtain ⟨k, b', rfl, hk, HA, HF, HO⟩ := hrel
    have HB := Lib.hid (HA.out.below HW.out (Nat.le_refl _))
    by_cases hlt : k < (s.off).length
    ·have hkz : (k : Int) < (s.off).length := by omega
     obtain ⟨x, hx⟩ : ∃ x, (s.off)[k]? = some x := ⟨_, List.getElem?_eq_getElem hlt⟩
     have hxb := HFit.out.off x (List.mem_of_getElem? hx)
     have ds_3 := HPs.out wr _ HA.out ⟨wr, Below.refl _ _⟩ 3 (.slice A3 s.off.length c3) rfl
     simp only at ds_3
     have hds : (s.off).drop k = x :: (s.off).drop (k + 1) := by rw [drop_step hlt]; congr 1; exact Option.some.inj ((List.getElem?_eq_getElem hlt).symm.trans hx)
     have HF2 : Hid (Bb.Set3 s (((s.off).drop (k + 1)).foldl Bb.SetO ((b').N (x) 109937)) = r) := by show _ = _; rw [← HF.out, hds]; rfl
     have HOr : Hid (b'.ok ((((0 + 10) + 10) + ((s.off).length - (k + 1)) * 10) + 10)) := by have := HO.out; show Bb.ok _ _; unfold Bb.ok at this ⊢; omega
     obtain ⟨b0, off, rfl, _, hc⟩ := (HS3.out wr HB.out).intG hx
     have E0 := hc
     have o0 : (b').ok ((((0 + 10) + 10) + ((s.off).length - (k + 1)) * 10) + 10) := HOr.out
     have o1 : ((b').N (x) 109937).ok (((0 + 10) + 10) + ((s.off).length - (k + 1)) * 10) := Bb.N_ok hxb.2 o0
     have HZ0 := Lib.hid (fun (g : Gr wr) => rbN_any (b') (x) 109937 hxb.2 (Bb.ok_le o0 (Nat.le_add_left _ _)) g.val)
     have HO2 := Lib.hid o1
     have C0 := fun g : Gr wr => (HA.out.cells g).1
     have C1 := fun g : Gr wr => (HA.out.cells g).2
     have Ps_3 := fun g : Gr wr => HPs.out wr _ HA.out g 3 (.slice (some ⟨b0, off, none⟩) s.off.length c3) rfl
     clear o0 o1
     clear hx hds hxb hc
     go_wp2_with fail
     refine Gr.region_last (w0 := wr) (m := 8) (by kernel_rfl) (by kernel_rfl) (Gr.draw0 _) ?_
     simp only [List.take]
     repeat (go_big_quiet_step (fail))
     go_big_quiet_step ((go_at_call 26; exact Gr.calls _ (HZ0.out _)))
     repeat (go_big_quiet_step (fail))
     refine wpQuiet_nil ?_
     rintro _ ⟨g, rfl⟩
     refine wpOp_last (o := _) rfl ?_
     have r0 := C0 g
     have r1 := C1 g
     have rf := HA.out.free g
     have HA2 := Lib.hid (HA.out.step g ((b').N (x) 109937))
     clear C0 C1 Ps_3 E0 ds_3
     go_simp
     clear r0 r1 rf
     go_wp2_with fail
     go_roundw
     case rel => exact ⟨k + 1, _, by go_num, hlt, HA2.out, HF2.out, HO2.out⟩
     case measure => simp [intOf]; omega
    ·obtain rfl : k = (s.off).length := by omega
     have HF3 : Hid (Bb.Set3 s b' = r) := by show _ = _; rw [← HF.out, List.drop_of_length_le (Nat.le_refl _)]; rfl
     have HOx : Hid (b'.ok ((0 + 10) + 10)) := by have := HO.out; show Bb.ok _ _; rw [Nat.sub_self, Nat.zero_mul] at this; exact this
     clear HF HO
     have HF := Lib.hid HF3.out
     clear HF3
     have HAx := Lib.hid HA.out
     go_wp2_with fail
     have o0 : (b').ok ((0 + 10) + 10) := HOx.out
     have o1 : ((b').N (s.before) 240).ok (0 + 10) := Bb.N_ok HFit.out.before.2 o0
     have o2 : (((b').N (s.before) 240).N (s.after) 240).ok 0 := Bb.N_ok HFit.out.after.2 o1
     have HZ0 := Lib.hid (fun (g : Gr wr) => rbN_any (b') (s.before) 240 HFit.out.before.2 (Bb.ok_le o0 (Nat.le_add_left _ _)) g.val)
     have HZ1 := Lib.hid (fun (g : Gr wr) => rbN_any ((b').N (s.before) 240) (s.after) 240 HFit.out.after.2 (Bb.ok_le o1 (Nat.le_add_left _ _)) g.val)
     have HO2 := Lib.hid o2
     have C0 := fun g : Gr wr => (HA.out.cells g).1
     have C1 := fun g : Gr wr => (HA.out.cells g).2
     have Ps_4 := fun g : Gr wr => HPs.out wr _ HA.out g 4 (.int .i64 s.before) rfl
     have Ps_5 := fun g : Gr wr => HPs.out wr _ HA.out g 5 (.int .i64 s.after) rfl
     clear o0 o1 o2
     refine Gr.region_last (w0 := wr) (m := 7) (by kernel_rfl) (by kernel_rfl) (Gr.draw0 _) ?_
     simp only [List.take]
     repeat (go_big_quiet_step (fail))
     go_big_quiet_step ((go_at_call 26; exact Gr.calls _ (HZ0.out _)))
     repeat (go_big_quiet_step (fail))
     go_big_quiet_step ((go_at_call 26; exact Gr.calls _ (HZ1.out _)))
     repeat (go_big_quiet_step (fail))
     refine wpQuiet_nil ?_
     rintro _ ⟨g, rfl⟩
     refine wpOp_last (o := _) rfl ?_
     have hR := blk_below (HA.out.off.heap HR.out (by omega)) g.ok
     have HBg := Lib.hid (HB.out.trans (g.ok.mono HB.out.size))
     have r0 := blk_cell hR (i := 0) rfl
     have r1 := blk_cell hR (i := 1) rfl
     have rf := blk_free hR
     have HZ := two_set hR (.string ⟨(((b').N (s.before) 240).N (s.after) 240).s.toArray⟩) (.bool (((b').N (s.before) 240).N (s.after) 240).bad)
     have z0 := blk_cell HZ (i := 0) rfl
     have z1 := blk_cell HZ (i := 1) rfl
     clear hR HZ C0 C1 Ps_4 Ps_5
     rw [hRB] at r0 r1 rf z0 z1
     go_simp
     go_wp2_with fail
     exact bodyPost_ret (v := .agg #[.string ⟨(((b').N (s.before) 240).N (s.after) 240).s.toArray⟩, .bool (((b').N (s.before) 240).N (s.after) 240).bad]) (by simp [results, Tryz.results47, go_sem, z0, z1]) rfl ⟨by rw [← show ((b').N (s.before) 240).N (s.after) 240 = r from HF.out], (HBg.out.setCell (p := ⟨w.heap.size + 2, 0, none⟩) (Nat.le_add_right _ _) _).setCell (p := ⟨w.heap.size + 2, 1, none⟩) (Nat.le_add_right _ _) _⟩
set_option maxRecDepth 100000 in
set_option maxHeartbeats 4000000 in
theorem rbQuery_any (b : Bb) (q : Qy) (p : QyP) (w : World) (hf : q.Fits) (h : QyAt w q p) (hl : b.ok q.cost) :
  Calls Tryz.prog 72 #[.agg #[.string ⟨b.s.toArray⟩, .bool b.bad], .agg (qCells q p).toArray] w fun e w' => e = .returned (.agg #[.string ⟨(b.Query q).s.toArray⟩, .bool (b.Query q).bad]) ∧ Below w.heap.size w w' := by
 obtain ⟨A1, A2, A3, A4, c1, c2, c3, c4⟩ := p
 unfold qCells
 simp only [List.toArray]
 obtain ⟨W1, hW1⟩ : ∃ W1, ((w.alloc (.cells #[.string ⟨b.s.toArray⟩, .bool b.bad] 85)).alloc (.cells #[.int .i64 q.win.1, .int .i64 q.win.2, .int .i64 q.long, .int .i64 q.grid, .slice A1 q.must.length c1, .slice A2 q.may.length c2, .int .i64 q.seats, .slice A3 q.apart.length c3, .slice A4 q.prefer.length c4] 33)).alloc (.cells #[.string ⟨#[]⟩, .bool false] 85) = W1 := ⟨_, rfl⟩
 have E1 := Lib.hid hW1
 have HW : Hid (Below w.heap.size w W1) := by show Below _ _ _; rw [← hW1]; exact (((Below.refl _ _).alloc (Nat.le_refl _) _).alloc (by simp <;> omega) _).alloc (by simp <;> omega) _
 have HAx : Hid (Acc W1 W1 w.heap.size b) := ⟨Off.refl _ _, by rw [← hW1, heap_alloc_old _ _ (by simp <;> omega), heap_alloc_old _ _ (by simp <;> omega), heap_alloc_new]⟩
 obtain ⟨RB, hRB⟩ : ∃ RB, RB = w.heap.size + 2 := ⟨_, rfl⟩
 have HR : Hid (W1.heap[RB]? = some (.cells #[.string ⟨#[]⟩, .bool false] 85 (0, 0))) := by show _ = _; rw [hRB, ← hW1]; exact heap_alloc_new3 _ _ _ _ 
 have HB : Hid (Below w.heap.size w W1) := HW
 have HPq : Hid (∀ (wr : World) (bq : Bb), Acc W1 wr w.heap.size bq → ∀ (g : Gr wr) (k : Nat) (v : Value), (#[.int .i64 q.win.1, .int .i64 q.win.2, .int .i64 q.long, .int .i64 q.grid, .slice A1 q.must.length c1, .slice A2 q.may.length c2, .int .i64 q.seats, .slice A3 q.apart.length c3, .slice A4 q.prefer.length c4] : Array Value)[k]? = some v → g.val.cell? ⟨w.heap.size + 1, k, none⟩ = some v) := fun wr bq ha g k v hv => by
  refine cell_old (ha.off.cell (blk_cell (cs := #[.int .i64 q.win.1, .int .i64 q.win.2, .int .i64 q.long, .int .i64 q.grid, .slice A1 q.must.length c1, .slice A2 q.may.length c2, .int .i64 q.seats, .slice A3 q.apart.length c3, .slice A4 q.prefer.length c4]) (t := 33) ?_ hv) (by omega)) g.ok
  rw [← hW1, heap_alloc_old _ _ (by simp <;> omega)]
  exact heap_alloc_new2 _ _ _ 
 clear hW1
 have HS1 : Hid (∀ wr, Below w.heap.size w wr → Sl wr A1 q.must.length c1 (kv u1 q.must)) := fun wr hb => h.s1.below hb (Nat.le_refl _)
 have HS2 : Hid (∀ wr, Below w.heap.size w wr → Sl wr A2 q.may.length c2 (kv u2 q.may)) := fun wr hb => h.s2.below hb (Nat.le_refl _)
 have HS3 : Hid (∀ wr, Below w.heap.size w wr → Sl wr A3 q.apart.length c3 (kv u3 q.apart)) := fun wr hb => h.s3.below hb (Nat.le_refl _)
 have HS4 : Hid (∀ wr, Below w.heap.size w wr → Sl wr A4 q.prefer.length c4 (tv q.prefer)) := fun wr hb => h.s4.below hb (Nat.le_refl _)
 have hz1 := len_le h.s1
 have hz2 := len_le h.s2
 have hz3 := len_le h.s3
 have hz4 := len_le h.s4
 obtain ⟨r, hr⟩ : ∃ r, b.Query q = r := ⟨_, rfl⟩
 have HF : Hid (b.Query q = r) := hr
 rw [hr]
 have HFit := Lib.hid hf
 have HOx : Hid (b.ok ((((((((((((0 + ((q.prefer).length * 30 + 10)) + q.apart.length * 20) + 10) + 10) + q.may.length * 20) + 10) + q.must.length * 10) + 10) + 10) + 10) + 10) + 10)) := by show Bb.ok _ _; unfold Bb.ok at hl ⊢; unfold Qy.cost at hl; omega
 clear hr hl h hf
 go_enter Tryz.func72, Tryz.ntmps72
 go_upto_region 1 with fail
 rw [E1.out]
 have o0 : (b).ok ((((((((((((0 + ((q.prefer).length * 30 + 10)) + q.apart.length * 20) + 10) + 10) + q.may.length * 20) + 10) + q.must.length * 10) + 10) + 10) + 10) + 10) + 10) := HOx.out
 have o1 : ((b).M (q.win.1)).ok (((((((((((0 + ((q.prefer).length * 30 + 10)) + q.apart.length * 20) + 10) + 10) + q.may.length * 20) + 10) + q.must.length * 10) + 10) + 10) + 10) + 10) := Bb.M_ok HFit.out.win.1 o0
 have o2 : (((b).M (q.win.1)).M (q.win.2)).ok ((((((((((0 + ((q.prefer).length * 30 + 10)) + q.apart.length * 20) + 10) + 10) + q.may.length * 20) + 10) + q.must.length * 10) + 10) + 10) + 10) := Bb.M_ok HFit.out.win.2 o1
 have o3 : ((((b).M (q.win.1)).M (q.win.2)).N (q.long) 10080).ok (((((((((0 + ((q.prefer).length * 30 + 10)) + q.apart.length * 20) + 10) + 10) + q.may.length * 20) + 10) + q.must.length * 10) + 10) + 10) := Bb.N_ok HFit.out.long.2 o2
 have o4 : (((((b).M (q.win.1)).M (q.win.2)).N (q.long) 10080).N (q.grid) 1440).ok ((((((((0 + ((q.prefer).length * 30 + 10)) + q.apart.length * 20) + 10) + 10) + q.may.length * 20) + 10) + q.must.length * 10) + 10) := Bb.N_ok HFit.out.grid.2 o3
 have o5 : ((((((b).M (q.win.1)).M (q.win.2)).N (q.long) 10080).N (q.grid) 1440).N (q.must.length) 64).ok (((((((0 + ((q.prefer).length * 30 + 10)) + q.apart.length * 20) + 10) + 10) + q.may.length * 20) + 10) + q.must.length * 10) := Bb.N_ok hz1 o4
 have HZ0 := Lib.hid (fun (g : Gr W1) => rbM_any (b) (q.win.1)  HFit.out.win.1 (Bb.ok_le o0 (Nat.le_add_left _ _)) g.val)
 have HZ1 := Lib.hid (fun (g : Gr W1) => rbM_any ((b).M (q.win.1)) (q.win.2)  HFit.out.win.2 (Bb.ok_le o1 (Nat.le_add_left _ _)) g.val)
 have HZ2 := Lib.hid (fun (g : Gr W1) => rbN_any (((b).M (q.win.1)).M (q.win.2)) (q.long) 10080 HFit.out.long.2 (Bb.ok_le o2 (Nat.le_add_left _ _)) g.val)
 have HZ3 := Lib.hid (fun (g : Gr W1) => rbN_any ((((b).M (q.win.1)).M (q.win.2)).N (q.long) 10080) (q.grid) 1440 HFit.out.grid.2 (Bb.ok_le o3 (Nat.le_add_left _ _)) g.val)
 have HZ4 := Lib.hid (fun (g : Gr W1) => rbN_any (((((b).M (q.win.1)).M (q.win.2)).N (q.long) 10080).N (q.grid) 1440) (q.must.length) 64 hz1 (Bb.ok_le o4 (Nat.le_add_left _ _)) g.val)
 have HO2 := Lib.hid o5
 have C0 := fun g : Gr W1 => (HAx.out.cells g).1
 have C1 := fun g : Gr W1 => (HAx.out.cells g).2
 have Pq_0 := fun g : Gr W1 => HPq.out W1 _ HAx.out g 0 (.int .i64 q.win.1) rfl
 have Pq_1 := fun g : Gr W1 => HPq.out W1 _ HAx.out g 1 (.int .i64 q.win.2) rfl
 have Pq_2 := fun g : Gr W1 => HPq.out W1 _ HAx.out g 2 (.int .i64 q.long) rfl
 have Pq_3 := fun g : Gr W1 => HPq.out W1 _ HAx.out g 3 (.int .i64 q.grid) rfl
 have Pq_4 := fun g : Gr W1 => HPq.out W1 _ HAx.out g 4 (.slice A1 q.must.length c1) rfl
 clear o0 o1 o2 o3 o4 o5
 refine Gr.region_last (w0 := W1) (m := 19) (by kernel_rfl) (by kernel_rfl) (Gr.draw0 _) ?_
 simp only [List.take]
 repeat (go_big_quiet_step (fail))
 go_big_quiet_step ((go_at_call 28; exact Gr.calls _ (HZ0.out _)))
 repeat (go_big_quiet_step (fail))
 go_big_quiet_step ((go_at_call 28; exact Gr.calls _ (HZ1.out _)))
 repeat (go_big_quiet_step (fail))
 go_big_quiet_step ((go_at_call 26; exact Gr.calls _ (HZ2.out _)))
 repeat (go_big_quiet_step (fail))
 go_big_quiet_step ((go_at_call 26; exact Gr.calls _ (HZ3.out _)))
 repeat (go_big_quiet_step (fail))
 go_big_quiet_step ((go_at_call 26; exact Gr.calls _ (HZ4.out _)))
 repeat (go_big_quiet_step (fail))
 refine wpQuiet_nil ?_
 rintro _ ⟨g, rfl⟩
 refine wpOp_last (o := _) rfl ?_
 have r0 := C0 g
 have r1 := C1 g
 have rf := HAx.out.free g
 have HA2 := Lib.hid (HAx.out.step g ((((((b).M (q.win.1)).M (q.win.2)).N (q.long) 10080).N (q.grid) 1440).N (q.must.length) 64))
 clear C0 C1 Pq_0 Pq_1 Pq_2 Pq_3 Pq_4 
 go_simp
 clear r0 r1 rf
 obtain ⟨w1, hw1⟩ : ∃ x, ((g.val.setCell ⟨w.heap.size, 0, none⟩ (.string ⟨((((((b).M (q.win.1)).M (q.win.2)).N (q.long) 10080).N (q.grid) 1440).N (q.must.length) 64).s.toArray⟩)).setCell ⟨w.heap.size, 1, none⟩ (.bool ((((((b).M (q.win.1)).M (q.win.2)).N (q.long) 10080).N (q.grid) 1440).N (q.must.length) 64).bad)) = x := ⟨_, rfl⟩
 rw [hw1] at HA2 ⊢
 clear hw1
 have HAw1 := Lib.hid HA2.out
 have HOw1 := Lib.hid HO2.out
 clear HA2 HO2
 have qq_4 := HPq.out w1 _ HAw1.out ⟨w1, Below.refl _ _⟩ 4 (.slice A1 q.must.length c1) rfl
 simp only at qq_4
 go_wp2_with fail
 clear qq_4
 clear HAx HOx
 have HAx := Lib.hid HAw1.out
 have HOx := Lib.hid HOw1.out
 clear HAw1 HOw1
 go_loopw [30] (fun si wr => ∃ (k : Nat) (b' : Bb), si = .int .i64 k ∧ k ≤ (q.must).length ∧ Hid (Acc W1 wr w.heap.size b') ∧ Hid (Bb.Qy2 q (((q.must).drop k).foldl Bb.QyM b') = r) ∧ Hid (b'.ok (((((((0 + ((q.prefer).length * 30 + 10)) + q.apart.length * 20) + 10) + 10) + q.may.length * 20) + 10) + ((q.must).length - k) * 10))) (fun si _ => (q.must).length - (intOf si).toNat)
 case atStart => exact ⟨0, _, rfl, Nat.zero_le _, HAx.out, by show _ = _; rw [List.drop_zero]; exact HF.out, by show Bb.ok _ _; rw [Nat.sub_zero]; exact HOx.out⟩
 case round =>
  clear HAx HOx HF
  obtain ⟨k, b', rfl, hk, HA, HF, HO⟩ := hrel
  have HB := Lib.hid (HA.out.below HW.out (Nat.le_refl _))
  by_cases hlt : k < (q.must).length
  ·have hkz : (k : Int) < (q.must).length := by omega
   obtain ⟨x, hx⟩ : ∃ x, (q.must)[k]? = some x := ⟨_, List.getElem?_eq_getElem hlt⟩
   have hxb := HFit.out.must x (List.mem_of_getElem? hx)
   have dq_4 := HPq.out wr _ HA.out ⟨wr, Below.refl _ _⟩ 4 (.slice A1 q.must.length c1) rfl
   simp only at dq_4
   have hds : (q.must).drop k = x :: (q.must).drop (k + 1) := by rw [drop_step hlt]; congr 1; exact Option.some.inj ((List.getElem?_eq_getElem hlt).symm.trans hx)
   have HF2 : Hid (Bb.Qy2 q (((q.must).drop (k + 1)).foldl Bb.QyM ((b').U (x))) = r) := by show _ = _; rw [← HF.out, hds]; rfl
   have HOr : Hid (b'.ok ((((((((0 + ((q.prefer).length * 30 + 10)) + q.apart.length * 20) + 10) + 10) + q.may.length * 20) + 10) + ((q.must).length - (k + 1)) * 10) + 10)) := by have := HO.out; show Bb.ok _ _; unfold Bb.ok at this ⊢; omega
   obtain ⟨b0, off, rfl, _, hc⟩ := (HS1.out wr HB.out).uG hx
   have hxu : x < 18446744073709551616 := by have := hxb; unfold U32 at this; omega
   have hwu : IntKind.u64.wrap ((x : Nat) : Int) = (x : Nat) := by rw [IntKind.wrap_u64]; omega
   have E0 := hc
   have o0 : (b').ok ((((((((0 + ((q.prefer).length * 30 + 10)) + q.apart.length * 20) + 10) + 10) + q.may.length * 20) + 10) + ((q.must).length - (k + 1)) * 10) + 10) := HOr.out
   have o1 : ((b').U (x)).ok (((((((0 + ((q.prefer).length * 30 + 10)) + q.apart.length * 20) + 10) + 10) + q.may.length * 20) + 10) + ((q.must).length - (k + 1)) * 10) := Bb.U_ok hxu o0
   have HZ0 := Lib.hid (fun (g : Gr wr) => rbU_any (b') (x)  hxu (Bb.ok_le o0 (Nat.le_add_left _ _)) g.val)
   have HO2 := Lib.hid o1
   have C0 := fun g : Gr wr => (HA.out.cells g).1
   have C1 := fun g : Gr wr => (HA.out.cells g).2
   have Pq_4 := fun g : Gr wr => HPq.out wr _ HA.out g 4 (.slice (some ⟨b0, off, none⟩) q.must.length c1) rfl
   clear o0 o1
   clear hx hds hxb hc
   go_wp2_with fail
   refine Gr.region_last (w0 := wr) (m := 8) (by kernel_rfl) (by kernel_rfl) (Gr.draw0 _) ?_
   simp only [List.take]
   repeat (go_big_quiet_step (fail))
   go_big_quiet_step ((go_at_call 27; exact Gr.calls _ (HZ0.out _)))
   repeat (go_big_quiet_step (fail))
   refine wpQuiet_nil ?_
   rintro _ ⟨g, rfl⟩
   refine wpOp_last (o := _) rfl ?_
   have r0 := C0 g
   have r1 := C1 g
   have rf := HA.out.free g
   have HA2 := Lib.hid (HA.out.step g ((b').U (x)))
   clear C0 C1 Pq_4 E0 dq_4
   go_simp
   clear r0 r1 rf
   go_wp2_with fail
   go_roundw
   case rel => exact ⟨k + 1, _, by go_num, hlt, HA2.out, HF2.out, HO2.out⟩
   case measure => simp [intOf]; omega
  ·obtain rfl : k = (q.must).length := by omega
   have HF3 : Hid (Bb.Qy2 q b' = r) := by show _ = _; rw [← HF.out, List.drop_of_length_le (Nat.le_refl _)]; rfl
   have HOx : Hid (b'.ok ((((((0 + ((q.prefer).length * 30 + 10)) + q.apart.length * 20) + 10) + 10) + q.may.length * 20) + 10)) := by have := HO.out; show Bb.ok _ _; rw [Nat.sub_self, Nat.zero_mul] at this; exact this
   clear HF HO
   have HF := Lib.hid HF3.out
   clear HF3
   have HAx := Lib.hid HA.out
   have o0 : (b').ok ((((((0 + ((q.prefer).length * 30 + 10)) + q.apart.length * 20) + 10) + 10) + q.may.length * 20) + 10) := HOx.out
   have o1 : ((b').N (q.may.length) 16).ok (((((0 + ((q.prefer).length * 30 + 10)) + q.apart.length * 20) + 10) + 10) + q.may.length * 20) := Bb.N_ok hz2 o0
   have HZ0 := Lib.hid (fun (g : Gr wr) => rbN_any (b') (q.may.length) 16 hz2 (Bb.ok_le o0 (Nat.le_add_left _ _)) g.val)
   have HO2 := Lib.hid o1
   have C0 := fun g : Gr wr => (HA.out.cells g).1
   have C1 := fun g : Gr wr => (HA.out.cells g).2
   have Pq_5 := fun g : Gr wr => HPq.out wr _ HA.out g 5 (.slice A2 q.may.length c2) rfl
   clear o0 o1
   have d0 := C0 ⟨wr, Below.refl _ _⟩
   have d1 := C1 ⟨wr, Below.refl _ _⟩
   have dPq_5 := Pq_5 ⟨wr, Below.refl _ _⟩
   simp only at d0 d1 dPq_5
   go_wp2_with fail
   go_at_call 26
   refine (HZ0.out ⟨wr, Below.refl _ _⟩).mono ?_
   rintro e w2 ⟨rfl, hb⟩
   obtain ⟨g, rfl⟩ := Gr.of hb
   clear hb d0 d1 dPq_5
   have r0 := C0 g
   have r1 := C1 g
   have rf := HA.out.free g
   have HA2 := Lib.hid (HA.out.step g ((b').N (q.may.length) 16))
   clear C0 C1 Pq_5 
   go_upto_region 8 with fail
   clear r0 r1 rf
   obtain ⟨w2, hw2⟩ : ∃ x, ((g.val.setCell ⟨w.heap.size, 0, none⟩ (.string ⟨((b').N (q.may.length) 16).s.toArray⟩)).setCell ⟨w.heap.size, 1, none⟩ (.bool ((b').N (q.may.length) 16).bad)) = x := ⟨_, rfl⟩
   rw [hw2] at HA2 ⊢
   clear hw2
   have HAw2 := Lib.hid HA2.out
   have HOw2 := Lib.hid HO2.out
   clear HA2 HO2
   have qq_5 := HPq.out w2 _ HAw2.out ⟨w2, Below.refl _ _⟩ 5 (.slice A2 q.may.length c2) rfl
   simp only at qq_5
   go_wp2_with fail
   clear qq_5
   clear HAx HOx
   have HAx := Lib.hid HAw2.out
   have HOx := Lib.hid HOw2.out
   clear HAw2 HOw2
   go_loopw [50] (fun si wr => ∃ (k : Nat) (b' : Bb), si = .int .i64 k ∧ k ≤ (q.may).length ∧ Hid (Acc W1 wr w.heap.size b') ∧ Hid (Bb.Qy3 q (((q.may).drop k).foldl Bb.QyW b') = r) ∧ Hid (b'.ok (((((0 + ((q.prefer).length * 30 + 10)) + q.apart.length * 20) + 10) + 10) + ((q.may).length - k) * 20))) (fun si _ => (q.may).length - (intOf si).toNat)
   case atStart => exact ⟨0, _, rfl, Nat.zero_le _, HAx.out, by show _ = _; rw [List.drop_zero]; exact HF.out, by show Bb.ok _ _; rw [Nat.sub_zero]; exact HOx.out⟩
   case round =>
    clear HAx HOx HF
    obtain ⟨k, b', rfl, hk, HA, HF, HO⟩ := hrel
    have HB := Lib.hid (HA.out.below HW.out (Nat.le_refl _))
    by_cases hlt : k < (q.may).length
    ·have hkz : (k : Int) < (q.may).length := by omega
     obtain ⟨x, hx⟩ : ∃ x, (q.may)[k]? = some x := ⟨_, List.getElem?_eq_getElem hlt⟩
     have hxb := HFit.out.may x (List.mem_of_getElem? hx)
     have dq_5 := HPq.out wr _ HA.out ⟨wr, Below.refl _ _⟩ 5 (.slice A2 q.may.length c2) rfl
     simp only at dq_5
     have hds : (q.may).drop k = x :: (q.may).drop (k + 1) := by rw [drop_step hlt]; congr 1; exact Option.some.inj ((List.getElem?_eq_getElem hlt).symm.trans hx)
     have HF2 : Hid (Bb.Qy3 q (((q.may).drop (k + 1)).foldl Bb.QyW (((b').U (x.1)).N (x.2) 1000)) = r) := by show _ = _; rw [← HF.out, hds]; rfl
     have HOr : Hid (b'.ok (((((((0 + ((q.prefer).length * 30 + 10)) + q.apart.length * 20) + 10) + 10) + ((q.may).length - (k + 1)) * 20) + 10) + 10)) := by have := HO.out; show Bb.ok _ _; unfold Bb.ok at this ⊢; omega
     obtain ⟨b0, off, rfl, _, hc⟩ := (HS2.out wr HB.out).upG hx
     have hxu : x.1 < 18446744073709551616 := by have := hxb.1; unfold U32 at this; omega
     have hwu : IntKind.u64.wrap ((x.1 : Nat) : Int) = (x.1 : Nat) := by rw [IntKind.wrap_u64]; omega
     have E0 := fun g => (hc g).1
     have E1 := fun g => (hc g).2
     have o0 : (b').ok (((((((0 + ((q.prefer).length * 30 + 10)) + q.apart.length * 20) + 10) + 10) + ((q.may).length - (k + 1)) * 20) + 10) + 10) := HOr.out
     have o1 : ((b').U (x.1)).ok ((((((0 + ((q.prefer).length * 30 + 10)) + q.apart.length * 20) + 10) + 10) + ((q.may).length - (k + 1)) * 20) + 10) := Bb.U_ok hxu o0
     have o2 : (((b').U (x.1)).N (x.2) 1000).ok (((((0 + ((q.prefer).length * 30 + 10)) + q.apart.length * 20) + 10) + 10) + ((q.may).length - (k + 1)) * 20) := Bb.N_ok hxb.2.2 o1
     have HZ0 := Lib.hid (fun (g : Gr wr) => rbU_any (b') (x.1)  hxu (Bb.ok_le o0 (Nat.le_add_left _ _)) g.val)
     have HZ1 := Lib.hid (fun (g : Gr wr) => rbN_any ((b').U (x.1)) (x.2) 1000 hxb.2.2 (Bb.ok_le o1 (Nat.le_add_left _ _)) g.val)
     have HO2 := Lib.hid o2
     have C0 := fun g : Gr wr => (HA.out.cells g).1
     have C1 := fun g : Gr wr => (HA.out.cells g).2
     have Pq_5 := fun g : Gr wr => HPq.out wr _ HA.out g 5 (.slice (some ⟨b0, off, none⟩) q.may.length c2) rfl
     clear o0 o1 o2
     clear hx hds hxb hc
     go_wp2_with fail
     refine Gr.region_last (w0 := wr) (m := 16) (by kernel_rfl) (by kernel_rfl) (Gr.draw0 _) ?_
     simp only [List.take]
     repeat (go_big_quiet_step (fail))
     go_big_quiet_step ((go_at_call 27; exact Gr.calls _ (HZ0.out _)))
     repeat (go_big_quiet_step (fail))
     go_big_quiet_step ((go_at_call 26; exact Gr.calls _ (HZ1.out _)))
     repeat (go_big_quiet_step (fail))
     refine wpQuiet_nil ?_
     rintro _ ⟨g, rfl⟩
     refine wpOp_last (o := _) rfl ?_
     have r0 := C0 g
     have r1 := C1 g
     have rf := HA.out.free g
     have HA2 := Lib.hid (HA.out.step g (((b').U (x.1)).N (x.2) 1000))
     clear C0 C1 Pq_5 E0 E1 dq_5
     go_simp
     clear r0 r1 rf
     go_wp2_with fail
     go_roundw
     case rel => exact ⟨k + 1, _, by go_num, hlt, HA2.out, HF2.out, HO2.out⟩
     case measure => simp [intOf]; omega
    ·obtain rfl : k = (q.may).length := by omega
     have HF3 : Hid (Bb.Qy3 q b' = r) := by show _ = _; rw [← HF.out, List.drop_of_length_le (Nat.le_refl _)]; rfl
     have HOx : Hid (b'.ok ((((0 + ((q.prefer).length * 30 + 10)) + q.apart.length * 20) + 10) + 10)) := by have := HO.out; show Bb.ok _ _; rw [Nat.sub_self, Nat.zero_mul] at this; exact this
     clear HF HO
     have HF := Lib.hid HF3.out
     clear HF3
     have HAx := Lib.hid HA.out
     go_wp2_with fail
     have o0 : (b').ok ((((0 + ((q.prefer).length * 30 + 10)) + q.apart.length * 20) + 10) + 10) := HOx.out
     have o1 : ((b').N (q.seats) 100).ok (((0 + ((q.prefer).length * 30 + 10)) + q.apart.length * 20) + 10) := Bb.N_ok HFit.out.seats.2 o0
     have o2 : (((b').N (q.seats) 100).N (q.apart.length) 32).ok ((0 + ((q.prefer).length * 30 + 10)) + q.apart.length * 20) := Bb.N_ok hz3 o1
     have HZ0 := Lib.hid (fun (g : Gr wr) => rbN_any (b') (q.seats) 100 HFit.out.seats.2 (Bb.ok_le o0 (Nat.le_add_left _ _)) g.val)
     have HZ1 := Lib.hid (fun (g : Gr wr) => rbN_any ((b').N (q.seats) 100) (q.apart.length) 32 hz3 (Bb.ok_le o1 (Nat.le_add_left _ _)) g.val)
     have HO2 := Lib.hid o2
     have C0 := fun g : Gr wr => (HA.out.cells g).1
     have C1 := fun g : Gr wr => (HA.out.cells g).2
     have Pq_6 := fun g : Gr wr => HPq.out wr _ HA.out g 6 (.int .i64 q.seats) rfl
     have Pq_7 := fun g : Gr wr => HPq.out wr _ HA.out g 7 (.slice A3 q.apart.length c3) rfl
     clear o0 o1 o2
     refine Gr.region_last (w0 := wr) (m := 8) (by kernel_rfl) (by kernel_rfl) (Gr.draw0 _) ?_
     simp only [List.take]
     repeat (go_big_quiet_step (fail))
     go_big_quiet_step ((go_at_call 26; exact Gr.calls _ (HZ0.out _)))
     repeat (go_big_quiet_step (fail))
     go_big_quiet_step ((go_at_call 26; exact Gr.calls _ (HZ1.out _)))
     repeat (go_big_quiet_step (fail))
     refine wpQuiet_nil ?_
     rintro _ ⟨g, rfl⟩
     refine wpOp_last (o := _) rfl ?_
     have r0 := C0 g
     have r1 := C1 g
     have rf := HA.out.free g
     have HA2 := Lib.hid (HA.out.step g (((b').N (q.seats) 100).N (q.apart.length) 32))
     clear C0 C1 Pq_6 Pq_7 
     go_simp
     clear r0 r1 rf
     obtain ⟨w3, hw3⟩ : ∃ x, ((g.val.setCell ⟨w.heap.size, 0, none⟩ (.string ⟨(((b').N (q.seats) 100).N (q.apart.length) 32).s.toArray⟩)).setCell ⟨w.heap.size, 1, none⟩ (.bool (((b').N (q.seats) 100).N (q.apart.length) 32).bad)) = x := ⟨_, rfl⟩
     rw [hw3] at HA2 ⊢
     clear hw3
     have HAw3 := Lib.hid HA2.out
     have HOw3 := Lib.hid HO2.out
     clear HA2 HO2
     have qq_7 := HPq.out w3 _ HAw3.out ⟨w3, Below.refl _ _⟩ 7 (.slice A3 q.apart.length c3) rfl
     simp only at qq_7
     go_wp2_with fail
     clear qq_7
     clear HAx HOx
     have HAx := Lib.hid HAw3.out
     have HOx := Lib.hid HOw3.out
     clear HAw3 HOw3
     go_loopw [81] (fun si wr => ∃ (k : Nat) (b' : Bb), si = .int .i64 k ∧ k ≤ (q.apart).length ∧ Hid (Acc W1 wr w.heap.size b') ∧ Hid (Bb.Qy4 q (((q.apart).drop k).foldl Bb.QyA b') = r) ∧ Hid (b'.ok ((0 + ((q.prefer).length * 30 + 10)) + ((q.apart).length - k) * 20))) (fun si _ => (q.apart).length - (intOf si).toNat)
     case atStart => exact ⟨0, _, rfl, Nat.zero_le _, HAx.out, by show _ = _; rw [List.drop_zero]; exact HF.out, by show Bb.ok _ _; rw [Nat.sub_zero]; exact HOx.out⟩
     case round =>
      clear HAx HOx HF
      obtain ⟨k, b', rfl, hk, HA, HF, HO⟩ := hrel
      have HB := Lib.hid (HA.out.below HW.out (Nat.le_refl _))
      by_cases hlt : k < (q.apart).length
      ·have hkz : (k : Int) < (q.apart).length := by omega
       obtain ⟨x, hx⟩ : ∃ x, (q.apart)[k]? = some x := ⟨_, List.getElem?_eq_getElem hlt⟩
       have hxb := HFit.out.apart x (List.mem_of_getElem? hx)
       have dq_7 := HPq.out wr _ HA.out ⟨wr, Below.refl _ _⟩ 7 (.slice A3 q.apart.length c3) rfl
       simp only at dq_7
       have hds : (q.apart).drop k = x :: (q.apart).drop (k + 1) := by rw [drop_step hlt]; congr 1; exact Option.some.inj ((List.getElem?_eq_getElem hlt).symm.trans hx)
       have HF2 : Hid (Bb.Qy4 q (((q.apart).drop (k + 1)).foldl Bb.QyA (((b').U (x.1)).U (x.2))) = r) := by show _ = _; rw [← HF.out, hds]; rfl
       have HOr : Hid (b'.ok ((((0 + ((q.prefer).length * 30 + 10)) + ((q.apart).length - (k + 1)) * 20) + 10) + 10)) := by have := HO.out; show Bb.ok _ _; unfold Bb.ok at this ⊢; omega
       obtain ⟨b0, off, rfl, _, hc⟩ := (HS3.out wr HB.out).uuG hx
       have hxu1 : x.1 < 18446744073709551616 := by have := hxb.1; unfold U32 at this; omega
       have hwu1 : IntKind.u64.wrap ((x.1 : Nat) : Int) = (x.1 : Nat) := by rw [IntKind.wrap_u64]; omega
       have hxu2 : x.2 < 18446744073709551616 := by have := hxb.2; unfold U32 at this; omega
       have hwu2 : IntKind.u64.wrap ((x.2 : Nat) : Int) = (x.2 : Nat) := by rw [IntKind.wrap_u64]; omega
       have E0 := fun g => (hc g).1
       have E1 := fun g => (hc g).2
       have o0 : (b').ok ((((0 + ((q.prefer).length * 30 + 10)) + ((q.apart).length - (k + 1)) * 20) + 10) + 10) := HOr.out
       have o1 : ((b').U (x.1)).ok (((0 + ((q.prefer).length * 30 + 10)) + ((q.apart).length - (k + 1)) * 20) + 10) := Bb.U_ok hxu1 o0
       have o2 : (((b').U (x.1)).U (x.2)).ok ((0 + ((q.prefer).length * 30 + 10)) + ((q.apart).length - (k + 1)) * 20) := Bb.U_ok hxu2 o1
       have HZ0 := Lib.hid (fun (g : Gr wr) => rbU_any (b') (x.1)  hxu1 (Bb.ok_le o0 (Nat.le_add_left _ _)) g.val)
       have HZ1 := Lib.hid (fun (g : Gr wr) => rbU_any ((b').U (x.1)) (x.2)  hxu2 (Bb.ok_le o1 (Nat.le_add_left _ _)) g.val)
       have HO2 := Lib.hid o2
       have C0 := fun g : Gr wr => (HA.out.cells g).1
       have C1 := fun g : Gr wr => (HA.out.cells g).2
       have Pq_7 := fun g : Gr wr => HPq.out wr _ HA.out g 7 (.slice (some ⟨b0, off, none⟩) q.apart.length c3) rfl
       clear o0 o1 o2
       clear hx hds hxb hc
       go_wp2_with fail
       refine Gr.region_last (w0 := wr) (m := 17) (by kernel_rfl) (by kernel_rfl) (Gr.draw0 _) ?_
       simp only [List.take]
       repeat (go_big_quiet_step (fail))
       go_big_quiet_step ((go_at_call 27; exact Gr.calls _ (HZ0.out _)))
       repeat (go_big_quiet_step (fail))
       go_big_quiet_step ((go_at_call 27; exact Gr.calls _ (HZ1.out _)))
       repeat (go_big_quiet_step (fail))
       refine wpQuiet_nil ?_
       rintro _ ⟨g, rfl⟩
       refine wpOp_last (o := _) rfl ?_
       have r0 := C0 g
       have r1 := C1 g
       have rf := HA.out.free g
       have HA2 := Lib.hid (HA.out.step g (((b').U (x.1)).U (x.2)))
       clear C0 C1 Pq_7 E0 E1 dq_7
       go_simp
       clear r0 r1 rf
       go_wp2_with fail
       go_roundw
       case rel => exact ⟨k + 1, _, by go_num, hlt, HA2.out, HF2.out, HO2.out⟩
       case measure => simp [intOf]; omega
      ·obtain rfl : k = (q.apart).length := by omega
       have HF3 : Hid (Bb.Qy4 q b' = r) := by show _ = _; rw [← HF.out, List.drop_of_length_le (Nat.le_refl _)]; rfl
       have HOx : Hid (b'.ok (0 + ((q.prefer).length * 30 + 10))) := by have := HO.out; show Bb.ok _ _; rw [Nat.sub_self, Nat.zero_mul] at this; exact this
       clear HF HO
       have HF := Lib.hid HF3.out
       clear HF3
       have HAx := Lib.hid HA.out
       have o0 : (b').ok (0 + ((q.prefer).length * 30 + 10)) := HOx.out
       have o1 : ((b').shifts (q.prefer) 8).ok 0 := Bb.shifts_ok HFit.out.prefer o0
       have HZ0 := Lib.hid (fun (g : Gr wr) => rbshifts_any (b') (q.prefer) 8 A4 c4 g.val HFit.out.prefer (HS4.out g.val (HB.out.trans (g.ok.mono HB.out.size))) (Bb.ok_le o0 (Nat.le_add_left _ _)))
       have HO2 := Lib.hid o1
       have C0 := fun g : Gr wr => (HA.out.cells g).1
       have C1 := fun g : Gr wr => (HA.out.cells g).2
       have Pq_8 := fun g : Gr wr => HPq.out wr _ HA.out g 8 (.slice A4 q.prefer.length c4) rfl
       clear o0 o1
       have d0 := C0 ⟨wr, Below.refl _ _⟩
       have d1 := C1 ⟨wr, Below.refl _ _⟩
       have dPq_8 := Pq_8 ⟨wr, Below.refl _ _⟩
       simp only at d0 d1 dPq_8
       go_wp2_with fail
       go_at_call 97
       refine (HZ0.out ⟨wr, Below.refl _ _⟩).mono ?_
       rintro e w2 ⟨rfl, hb⟩
       obtain ⟨g, rfl⟩ := Gr.of hb
       clear hb d0 d1 dPq_8
       have hR := blk_below (HA.out.off.heap HR.out (by omega)) g.ok
       have HBg := Lib.hid (HB.out.trans (g.ok.mono HB.out.size))
       have r0 := blk_cell hR (i := 0) rfl
       have r1 := blk_cell hR (i := 1) rfl
       have rf := blk_free hR
       have HZ := two_set hR (.string ⟨((b').shifts (q.prefer) 8).s.toArray⟩) (.bool ((b').shifts (q.prefer) 8).bad)
       have z0 := blk_cell HZ (i := 0) rfl
       have z1 := blk_cell HZ (i := 1) rfl
       clear hR HZ C0 C1 Pq_8
       rw [hRB] at r0 r1 rf z0 z1
       go_wp2_with fail
       exact bodyPost_ret (v := .agg #[.string ⟨((b').shifts (q.prefer) 8).s.toArray⟩, .bool ((b').shifts (q.prefer) 8).bad]) (by simp [results, Tryz.results72, go_sem, z0, z1]) rfl ⟨by rw [← show (b').shifts (q.prefer) 8 = r from HF.out], (HBg.out.setCell (p := ⟨w.heap.size + 2, 0, none⟩) (Nat.le_add_right _ _) _).setCell (p := ⟨w.heap.size + 2, 1, none⟩) (Nat.le_add_right _ _) _⟩
theorem Bb.Query_ok {b : Bb} {q : Qy} {k : Nat} (hf : q.Fits) (h : b.ok (k + q.cost)) : (b.Query q).ok k := by
 have hb := h
 unfold Bb.ok Qy.cost at hb
 have z1 : (q.must.length : Int) ≤ 9223372036854775807 := by omega
 have z2 : (q.may.length : Int) ≤ 9223372036854775807 := by omega
 have z3 : (q.apart.length : Int) ≤ 9223372036854775807 := by omega
 have h0 : b.ok (k + (q.prefer.length * 30 + 10) + q.apart.length * 20 + 10 + 10 + q.may.length * 20 + 10 + q.must.length * 10 + 10 + 10 + 10 + 10 + 10) := by unfold Bb.ok; omega
 have h1 := Bb.N_ok (most := 64) z1 (Bb.N_ok (most := 1440) hf.grid.2 (Bb.N_ok (most := 10080) hf.long.2 (Bb.M_ok hf.win.2 (Bb.M_ok hf.win.1 h0))))
 have h2 := fold_ok (f := Bb.QyM) (C := 10) q.must _ _ (fun b x k hx h => Bb.U_ok (by have := hf.must x hx; unfold U32 at this; omega) h) h1
 have h3 := fold_ok (f := Bb.QyW) (C := 20) q.may _ _ (fun b x k hx h => Bb.N_ok (hf.may x hx).2.2 (Bb.U_ok (by have := (hf.may x hx).1; unfold U32 at this; omega) h)) (Bb.N_ok (most := 16) z2 h2)
 have h4 := fold_ok (f := Bb.QyA) (C := 20) q.apart _ _ (fun b x k hx h => Bb.U_ok (by have := (hf.apart x hx).2; unfold U32 at this; omega) (Bb.U_ok (by have := (hf.apart x hx).1; unfold U32 at this; omega) h)) (Bb.N_ok (most := 32) z3 (Bb.N_ok (most := 100) hf.seats.2 h3))
 exact Bb.shifts_ok hf.prefer h4
set_option maxRecDepth 100000 in
set_option maxHeartbeats 4000000 in
theorem rbPoll_any (b : Bb) (o : Pl) (p : PlP) (w : World) (hf : o.Fits) (h : PlAt w o p) (hl : b.ok o.cost) :
  Calls Tryz.prog 31 #[.agg #[.string ⟨b.s.toArray⟩, .bool b.bad], .agg (pCells o p).toArray] w fun e w' => e = .returned (.agg #[.string ⟨(b.Poll o).s.toArray⟩, .bool (b.Poll o).bad]) ∧ Below w.heap.size w w' := by
 obtain ⟨q, A1, A2, c1, c2⟩ := p
 unfold pCells qCells
 simp only [List.cons_append, List.nil_append, List.toArray]
 obtain ⟨W1, hW1⟩ : ∃ W1, ((w.alloc (.cells #[.string ⟨b.s.toArray⟩, .bool b.bad] 85)).alloc (.cells #[.int .u32 (o.id : Int), .int .u32 (o.owner : Int), .int .i64 o.query.win.1, .int .i64 o.query.win.2, .int .i64 o.query.long, .int .i64 o.query.grid, .slice q.A1 o.query.must.length q.c1, .slice q.A2 o.query.may.length q.c2, .int .i64 o.query.seats, .slice q.A3 o.query.apart.length q.c3, .slice q.A4 o.query.prefer.length q.c4, .slice A1 o.slots.length c1, .slice A2 o.votes.length c2, .int .i64 o.until_, .int .i64 o.state, .int .i64 o.winner] 37)).alloc (.cells #[.string ⟨#[]⟩, .bool false] 85) = W1 := ⟨_, rfl⟩
 have E1 := Lib.hid hW1
 have HW : Hid (Below w.heap.size w W1) := by show Below _ _ _; rw [← hW1]; exact (((Below.refl _ _).alloc (Nat.le_refl _) _).alloc (by simp <;> omega) _).alloc (by simp <;> omega) _
 have HAx : Hid (Acc W1 W1 w.heap.size b) := ⟨Off.refl _ _, by rw [← hW1, heap_alloc_old _ _ (by simp <;> omega), heap_alloc_old _ _ (by simp <;> omega), heap_alloc_new]⟩
 obtain ⟨RB, hRB⟩ : ∃ RB, RB = w.heap.size + 2 := ⟨_, rfl⟩
 have HR : Hid (W1.heap[RB]? = some (.cells #[.string ⟨#[]⟩, .bool false] 85 (0, 0))) := by show _ = _; rw [hRB, ← hW1]; exact heap_alloc_new3 _ _ _ _ 
 have HB : Hid (Below w.heap.size w W1) := HW
 have HPo : Hid (∀ (wr : World) (bq : Bb), Acc W1 wr w.heap.size bq → ∀ (g : Gr wr) (k : Nat) (v : Value), (#[.int .u32 (o.id : Int), .int .u32 (o.owner : Int), .int .i64 o.query.win.1, .int .i64 o.query.win.2, .int .i64 o.query.long, .int .i64 o.query.grid, .slice q.A1 o.query.must.length q.c1, .slice q.A2 o.query.may.length q.c2, .int .i64 o.query.seats, .slice q.A3 o.query.apart.length q.c3, .slice q.A4 o.query.prefer.length q.c4, .slice A1 o.slots.length c1, .slice A2 o.votes.length c2, .int .i64 o.until_, .int .i64 o.state, .int .i64 o.winner] : Array Value)[k]? = some v → g.val.cell? ⟨w.heap.size + 1, k, none⟩ = some v) := fun wr bq ha g k v hv => by
  refine cell_old (ha.off.cell (blk_cell (cs := #[.int .u32 (o.id : Int), .int .u32 (o.owner : Int), .int .i64 o.query.win.1, .int .i64 o.query.win.2, .int .i64 o.query.long, .int .i64 o.query.grid, .slice q.A1 o.query.must.length q.c1, .slice q.A2 o.query.may.length q.c2, .int .i64 o.query.seats, .slice q.A3 o.query.apart.length q.c3, .slice q.A4 o.query.prefer.length q.c4, .slice A1 o.slots.length c1, .slice A2 o.votes.length c2, .int .i64 o.until_, .int .i64 o.state, .int .i64 o.winner]) (t := 37) ?_ hv) (by omega)) g.ok
  rw [← hW1, heap_alloc_old _ _ (by simp <;> omega)]
  exact heap_alloc_new2 _ _ _ 
 clear hW1
 have HQ : Hid (∀ wr, Below w.heap.size w wr → QyAt wr o.query q) := fun wr hb => h.q.below hb
 have HS1 : Hid (∀ wr, Below w.heap.size w wr → Sl wr A1 o.slots.length c1 (iv o.slots)) := fun wr hb => h.s1.below hb (Nat.le_refl _)
 have HS2 : Hid (∀ wr, Below w.heap.size w wr → Sl wr A2 o.votes.length c2 (kv u2 o.votes)) := fun wr hb => h.s2.below hb (Nat.le_refl _)
 have hz1 := len_le h.s1
 have hz2 := len_le h.s2
 have hid : o.id < 18446744073709551616 := by have := hf.id; unfold U32 at this; omega
 have how : o.owner < 18446744073709551616 := by have := hf.owner; unfold U32 at this; omega
 have hwi : IntKind.u64.wrap ((o.id : Nat) : Int) = (o.id : Nat) := by rw [IntKind.wrap_u64]; omega
 have hwo : IntKind.u64.wrap ((o.owner : Nat) : Int) = (o.owner : Nat) := by rw [IntKind.wrap_u64]; omega
 obtain ⟨r, hr⟩ : ∃ r, b.Poll o = r := ⟨_, rfl⟩
 have HF : Hid (b.Poll o = r) := hr
 rw [hr]
 have HFit := Lib.hid hf
 have HOx : Hid (b.ok (((((((((0 + 10) + 10) + 10) + o.votes.length * 20) + 10) + ((o.slots).length * 10 + 10)) + (o.query).cost) + 10) + 10)) := by show Bb.ok _ _; unfold Bb.ok at hl ⊢; unfold Pl.cost at hl; omega
 clear hr hl h hf
 go_enter Tryz.func31, Tryz.ntmps31
 go_upto_region 1 with fail
 rw [E1.out]
 have o0 : (b).ok (((((((((0 + 10) + 10) + 10) + o.votes.length * 20) + 10) + ((o.slots).length * 10 + 10)) + (o.query).cost) + 10) + 10) := HOx.out
 have o1 : ((b).U (o.id)).ok ((((((((0 + 10) + 10) + 10) + o.votes.length * 20) + 10) + ((o.slots).length * 10 + 10)) + (o.query).cost) + 10) := Bb.U_ok hid o0
 have o2 : (((b).U (o.id)).U (o.owner)).ok (((((((0 + 10) + 10) + 10) + o.votes.length * 20) + 10) + ((o.slots).length * 10 + 10)) + (o.query).cost) := Bb.U_ok how o1
 have o3 : ((((b).U (o.id)).U (o.owner)).Query (o.query)).ok ((((((0 + 10) + 10) + 10) + o.votes.length * 20) + 10) + ((o.slots).length * 10 + 10)) := Bb.Query_ok HFit.out.query o2
 have o4 : (((((b).U (o.id)).U (o.owner)).Query (o.query)).stamps (o.slots) 40).ok (((((0 + 10) + 10) + 10) + o.votes.length * 20) + 10) := Bb.stamps_ok HFit.out.slots o3
 have o5 : ((((((b).U (o.id)).U (o.owner)).Query (o.query)).stamps (o.slots) 40).N (o.votes.length) 4096).ok ((((0 + 10) + 10) + 10) + o.votes.length * 20) := Bb.N_ok hz2 o4
 have HZ0 := Lib.hid (fun (g : Gr W1) => rbU_any (b) (o.id)  hid (Bb.ok_le o0 (Nat.le_add_left _ _)) g.val)
 have HZ1 := Lib.hid (fun (g : Gr W1) => rbU_any ((b).U (o.id)) (o.owner)  how (Bb.ok_le o1 (Nat.le_add_left _ _)) g.val)
 have HZ2 := Lib.hid (fun (g : Gr W1) => rbQuery_any (((b).U (o.id)).U (o.owner)) (o.query) q g.val HFit.out.query (HQ.out g.val (HB.out.trans (g.ok.mono HB.out.size))) (Bb.ok_le o2 (Nat.le_add_left _ _)))
 have HZ3 := Lib.hid (fun (g : Gr W1) => rbstamps_any ((((b).U (o.id)).U (o.owner)).Query (o.query)) (o.slots) 40 A1 c1 g.val HFit.out.slots (HS1.out g.val (HB.out.trans (g.ok.mono HB.out.size))) (Bb.ok_le o3 (Nat.le_add_left _ _)))
 have HZ4 := Lib.hid (fun (g : Gr W1) => rbN_any (((((b).U (o.id)).U (o.owner)).Query (o.query)).stamps (o.slots) 40) (o.votes.length) 4096 hz2 (Bb.ok_le o4 (Nat.le_add_left _ _)) g.val)
 have HO2 := Lib.hid o5
 have C0 := fun g : Gr W1 => (HAx.out.cells g).1
 have C1 := fun g : Gr W1 => (HAx.out.cells g).2
 have Po_0 := fun g : Gr W1 => HPo.out W1 _ HAx.out g 0 (.int .u32 (o.id : Int)) rfl
 have Po_1 := fun g : Gr W1 => HPo.out W1 _ HAx.out g 1 (.int .u32 (o.owner : Int)) rfl
 have Po_2 := fun g : Gr W1 => HPo.out W1 _ HAx.out g 2 (.int .i64 o.query.win.1) rfl
 have Po_3 := fun g : Gr W1 => HPo.out W1 _ HAx.out g 3 (.int .i64 o.query.win.2) rfl
 have Po_4 := fun g : Gr W1 => HPo.out W1 _ HAx.out g 4 (.int .i64 o.query.long) rfl
 have Po_5 := fun g : Gr W1 => HPo.out W1 _ HAx.out g 5 (.int .i64 o.query.grid) rfl
 have Po_6 := fun g : Gr W1 => HPo.out W1 _ HAx.out g 6 (.slice q.A1 o.query.must.length q.c1) rfl
 have Po_7 := fun g : Gr W1 => HPo.out W1 _ HAx.out g 7 (.slice q.A2 o.query.may.length q.c2) rfl
 have Po_8 := fun g : Gr W1 => HPo.out W1 _ HAx.out g 8 (.int .i64 o.query.seats) rfl
 have Po_9 := fun g : Gr W1 => HPo.out W1 _ HAx.out g 9 (.slice q.A3 o.query.apart.length q.c3) rfl
 have Po_10 := fun g : Gr W1 => HPo.out W1 _ HAx.out g 10 (.slice q.A4 o.query.prefer.length q.c4) rfl
 have Po_11 := fun g : Gr W1 => HPo.out W1 _ HAx.out g 11 (.slice A1 o.slots.length c1) rfl
 have Po_12 := fun g : Gr W1 => HPo.out W1 _ HAx.out g 12 (.slice A2 o.votes.length c2) rfl
 clear o0 o1 o2 o3 o4 o5
 unfold qCells at HZ2
 simp only [List.toArray] at HZ2
 refine Gr.region_last (w0 := W1) (m := 19) (by kernel_rfl) (by kernel_rfl) (Gr.draw0 _) ?_
 simp only [List.take]
 repeat (go_big_quiet_step (fail))
 go_big_quiet_step ((go_at_call 27; exact Gr.calls _ (HZ0.out _)))
 repeat (go_big_quiet_step (fail))
 go_big_quiet_step ((go_at_call 27; exact Gr.calls _ (HZ1.out _)))
 repeat (go_big_quiet_step (fail))
 go_big_quiet_step ((go_at_call 72; exact Gr.calls _ (HZ2.out _)))
 repeat (go_big_quiet_step (fail))
 go_big_quiet_step ((go_at_call 73; exact Gr.calls _ (HZ3.out _)))
 repeat (go_big_quiet_step (fail))
 go_big_quiet_step ((go_at_call 26; exact Gr.calls _ (HZ4.out _)))
 repeat (go_big_quiet_step (fail))
 refine wpQuiet_nil ?_
 rintro _ ⟨g, rfl⟩
 refine wpOp_last (o := _) rfl ?_
 have r0 := C0 g
 have r1 := C1 g
 have rf := HAx.out.free g
 have HA2 := Lib.hid (HAx.out.step g ((((((b).U (o.id)).U (o.owner)).Query (o.query)).stamps (o.slots) 40).N (o.votes.length) 4096))
 clear C0 C1 Po_0 Po_1 Po_2 Po_3 Po_4 Po_5 Po_6 Po_7 Po_8 Po_9 Po_10 Po_11 Po_12 
 go_simp
 clear r0 r1 rf
 obtain ⟨w1, hw1⟩ : ∃ x, ((g.val.setCell ⟨w.heap.size, 0, none⟩ (.string ⟨((((((b).U (o.id)).U (o.owner)).Query (o.query)).stamps (o.slots) 40).N (o.votes.length) 4096).s.toArray⟩)).setCell ⟨w.heap.size, 1, none⟩ (.bool ((((((b).U (o.id)).U (o.owner)).Query (o.query)).stamps (o.slots) 40).N (o.votes.length) 4096).bad)) = x := ⟨_, rfl⟩
 rw [hw1] at HA2 ⊢
 clear hw1
 have HAw1 := Lib.hid HA2.out
 have HOw1 := Lib.hid HO2.out
 clear HA2 HO2
 have qo_12 := HPo.out w1 _ HAw1.out ⟨w1, Below.refl _ _⟩ 12 (.slice A2 o.votes.length c2) rfl
 simp only at qo_12
 go_wp2_with fail
 clear qo_12
 clear HAx HOx
 have HAx := Lib.hid HAw1.out
 have HOx := Lib.hid HOw1.out
 clear HAw1 HOw1
 go_loopw [28] (fun si wr => ∃ (k : Nat) (b' : Bb), si = .int .i64 k ∧ k ≤ (o.votes).length ∧ Hid (Acc W1 wr w.heap.size b') ∧ Hid (Bb.Pl2 o (((o.votes).drop k).foldl Bb.PlV b') = r) ∧ Hid (b'.ok ((((0 + 10) + 10) + 10) + ((o.votes).length - k) * 20))) (fun si _ => (o.votes).length - (intOf si).toNat)
 case atStart => exact ⟨0, _, rfl, Nat.zero_le _, HAx.out, by show _ = _; rw [List.drop_zero]; exact HF.out, by show Bb.ok _ _; rw [Nat.sub_zero]; exact HOx.out⟩
 case round =>
  clear HAx HOx HF
  obtain ⟨k, b', rfl, hk, HA, HF, HO⟩ := hrel
  have HB := Lib.hid (HA.out.below HW.out (Nat.le_refl _))
  by_cases hlt : k < (o.votes).length
  ·have hkz : (k : Int) < (o.votes).length := by omega
   obtain ⟨x, hx⟩ : ∃ x, (o.votes)[k]? = some x := ⟨_, List.getElem?_eq_getElem hlt⟩
   have hxb := HFit.out.votes x (List.mem_of_getElem? hx)
   have do_12 := HPo.out wr _ HA.out ⟨wr, Below.refl _ _⟩ 12 (.slice A2 o.votes.length c2) rfl
   simp only at do_12
   have hds : (o.votes).drop k = x :: (o.votes).drop (k + 1) := by rw [drop_step hlt]; congr 1; exact Option.some.inj ((List.getElem?_eq_getElem hlt).symm.trans hx)
   have HF2 : Hid (Bb.Pl2 o (((o.votes).drop (k + 1)).foldl Bb.PlV (((b').U (x.1)).N (x.2) 40)) = r) := by show _ = _; rw [← HF.out, hds]; rfl
   have HOr : Hid (b'.ok ((((((0 + 10) + 10) + 10) + ((o.votes).length - (k + 1)) * 20) + 10) + 10)) := by have := HO.out; show Bb.ok _ _; unfold Bb.ok at this ⊢; omega
   obtain ⟨b0, off, rfl, _, hc⟩ := (HS2.out wr HB.out).upG hx
   have hxu : x.1 < 18446744073709551616 := by have := hxb.1; unfold U32 at this; omega
   have hwu : IntKind.u64.wrap ((x.1 : Nat) : Int) = (x.1 : Nat) := by rw [IntKind.wrap_u64]; omega
   have E0 := fun g => (hc g).1
   have E1 := fun g => (hc g).2
   have o0 : (b').ok ((((((0 + 10) + 10) + 10) + ((o.votes).length - (k + 1)) * 20) + 10) + 10) := HOr.out
   have o1 : ((b').U (x.1)).ok (((((0 + 10) + 10) + 10) + ((o.votes).length - (k + 1)) * 20) + 10) := Bb.U_ok hxu o0
   have o2 : (((b').U (x.1)).N (x.2) 40).ok ((((0 + 10) + 10) + 10) + ((o.votes).length - (k + 1)) * 20) := Bb.N_ok hxb.2.2 o1
   have HZ0 := Lib.hid (fun (g : Gr wr) => rbU_any (b') (x.1)  hxu (Bb.ok_le o0 (Nat.le_add_left _ _)) g.val)
   have HZ1 := Lib.hid (fun (g : Gr wr) => rbN_any ((b').U (x.1)) (x.2) 40 hxb.2.2 (Bb.ok_le o1 (Nat.le_add_left _ _)) g.val)
   have HO2 := Lib.hid o2
   have C0 := fun g : Gr wr => (HA.out.cells g).1
   have C1 := fun g : Gr wr => (HA.out.cells g).2
   have Po_12 := fun g : Gr wr => HPo.out wr _ HA.out g 12 (.slice (some ⟨b0, off, none⟩) o.votes.length c2) rfl
   clear o0 o1 o2
   clear hx hds hxb hc
   go_wp2_with fail
   refine Gr.region_last (w0 := wr) (m := 16) (by kernel_rfl) (by kernel_rfl) (Gr.draw0 _) ?_
   simp only [List.take]
   repeat (go_big_quiet_step (fail))
   go_big_quiet_step ((go_at_call 27; exact Gr.calls _ (HZ0.out _)))
   repeat (go_big_quiet_step (fail))
   go_big_quiet_step ((go_at_call 26; exact Gr.calls _ (HZ1.out _)))
   repeat (go_big_quiet_step (fail))
   refine wpQuiet_nil ?_
   rintro _ ⟨g, rfl⟩
   refine wpOp_last (o := _) rfl ?_
   have r0 := C0 g
   have r1 := C1 g
   have rf := HA.out.free g
   have HA2 := Lib.hid (HA.out.step g (((b').U (x.1)).N (x.2) 40))
   clear C0 C1 Po_12 E0 E1 do_12
   go_simp
   clear r0 r1 rf
   go_wp2_with fail
   go_roundw
   case rel => exact ⟨k + 1, _, by go_num, hlt, HA2.out, HF2.out, HO2.out⟩
   case measure => simp [intOf]; omega
  ·obtain rfl : k = (o.votes).length := by omega
   have HF3 : Hid (Bb.Pl2 o b' = r) := by show _ = _; rw [← HF.out, List.drop_of_length_le (Nat.le_refl _)]; rfl
   have HOx : Hid (b'.ok (((0 + 10) + 10) + 10)) := by have := HO.out; show Bb.ok _ _; rw [Nat.sub_self, Nat.zero_mul] at this; exact this
   clear HF HO
   have HF := Lib.hid HF3.out
   clear HF3
   have HAx := Lib.hid HA.out
   go_wp2_with fail
   have o0 : (b').ok (((0 + 10) + 10) + 10) := HOx.out
   have o1 : ((b').M (o.until_)).ok ((0 + 10) + 10) := Bb.M_ok HFit.out.until_ o0
   have o2 : (((b').M (o.until_)).N (o.state) 4).ok (0 + 10) := Bb.N_ok HFit.out.state.2 o1
   have o3 : ((((b').M (o.until_)).N (o.state) 4).N (o.winner) 40).ok 0 := Bb.N_ok HFit.out.winner.2 o2
   have HZ0 := Lib.hid (fun (g : Gr wr) => rbM_any (b') (o.until_)  HFit.out.until_ (Bb.ok_le o0 (Nat.le_add_left _ _)) g.val)
   have HZ1 := Lib.hid (fun (g : Gr wr) => rbN_any ((b').M (o.until_)) (o.state) 4 HFit.out.state.2 (Bb.ok_le o1 (Nat.le_add_left _ _)) g.val)
   have HZ2 := Lib.hid (fun (g : Gr wr) => rbN_any (((b').M (o.until_)).N (o.state) 4) (o.winner) 40 HFit.out.winner.2 (Bb.ok_le o2 (Nat.le_add_left _ _)) g.val)
   have HO2 := Lib.hid o3
   have C0 := fun g : Gr wr => (HA.out.cells g).1
   have C1 := fun g : Gr wr => (HA.out.cells g).2
   have Po_13 := fun g : Gr wr => HPo.out wr _ HA.out g 13 (.int .i64 o.until_) rfl
   have Po_14 := fun g : Gr wr => HPo.out wr _ HA.out g 14 (.int .i64 o.state) rfl
   have Po_15 := fun g : Gr wr => HPo.out wr _ HA.out g 15 (.int .i64 o.winner) rfl
   clear o0 o1 o2 o3
   refine Gr.region_last (w0 := wr) (m := 10) (by kernel_rfl) (by kernel_rfl) (Gr.draw0 _) ?_
   simp only [List.take]
   repeat (go_big_quiet_step (fail))
   go_big_quiet_step ((go_at_call 28; exact Gr.calls _ (HZ0.out _)))
   repeat (go_big_quiet_step (fail))
   go_big_quiet_step ((go_at_call 26; exact Gr.calls _ (HZ1.out _)))
   repeat (go_big_quiet_step (fail))
   go_big_quiet_step ((go_at_call 26; exact Gr.calls _ (HZ2.out _)))
   repeat (go_big_quiet_step (fail))
   refine wpQuiet_nil ?_
   rintro _ ⟨g, rfl⟩
   refine wpOp_last (o := _) rfl ?_
   have hR := blk_below (HA.out.off.heap HR.out (by omega)) g.ok
   have HBg := Lib.hid (HB.out.trans (g.ok.mono HB.out.size))
   have r0 := blk_cell hR (i := 0) rfl
   have r1 := blk_cell hR (i := 1) rfl
   have rf := blk_free hR
   have HZ := two_set hR (.string ⟨((((b').M (o.until_)).N (o.state) 4).N (o.winner) 40).s.toArray⟩) (.bool ((((b').M (o.until_)).N (o.state) 4).N (o.winner) 40).bad)
   have z0 := blk_cell HZ (i := 0) rfl
   have z1 := blk_cell HZ (i := 1) rfl
   clear hR HZ C0 C1 Po_13 Po_14 Po_15
   rw [hRB] at r0 r1 rf z0 z1
   go_simp
   go_wp2_with fail
   exact bodyPost_ret (v := .agg #[.string ⟨((((b').M (o.until_)).N (o.state) 4).N (o.winner) 40).s.toArray⟩, .bool ((((b').M (o.until_)).N (o.state) 4).N (o.winner) 40).bad]) (by simp [results, Tryz.results31, go_sem, z0, z1]) rfl ⟨by rw [← show (((b').M (o.until_)).N (o.state) 4).N (o.winner) 40 = r from HF.out], (HBg.out.setCell (p := ⟨w.heap.size + 2, 0, none⟩) (Nat.le_add_right _ _) _).setCell (p := ⟨w.heap.size + 2, 1, none⟩) (Nat.le_add_right _ _) _⟩
theorem Bb.Poll_ok {b : Bb} {o : Pl} {k : Nat} (hf : o.Fits) (h : b.ok (k + o.cost)) : (b.Poll o).ok k := by
 have hb := h
 unfold Bb.ok Pl.cost at hb
 have z1 : (o.votes.length : Int) ≤ 9223372036854775807 := by omega
 have h0 : b.ok (k + 10 + 10 + 10 + o.votes.length * 20 + 10 + (o.slots.length * 10 + 10) + o.query.cost + 10 + 10) := by unfold Bb.ok; omega
 have h1 := Bb.N_ok (most := 4096) z1 (Bb.stamps_ok (most := 40) hf.slots (Bb.Query_ok hf.query (Bb.U_ok (n := o.owner) (by have := hf.owner; unfold U32 at this; omega) (Bb.U_ok (n := o.id) (by have := hf.id; unfold U32 at this; omega) h0))))
 have h2 := fold_ok (f := Bb.PlV) (C := 20) o.votes _ _ (fun b x k hx h => Bb.N_ok (hf.votes x hx).2.2 (Bb.U_ok (by have := (hf.votes x hx).1; unfold U32 at this; omega) h)) h1
 exact Bb.N_ok hf.winner.2 (Bb.N_ok hf.state.2 (Bb.M_ok hf.until_ h2))
theorem Bb.Settings_ok {b : Bb} {s : Stg} {k : Nat} (hf : s.Fits) (h : b.ok (k + s.cost)) : (b.Settings s).ok k := by
 have hb := h
 unfold Bb.ok Stg.cost at hb
 have z1 : (s.turns.length : Int) ≤ 9223372036854775807 := by omega
 have z2 : (s.off.length : Int) ≤ 9223372036854775807 := by omega
 have h0 : b.ok (k + 10 + 10 + s.off.length * 10 + 10 + (s.shifts.length * 30 + 10) + s.turns.length * 20 + 10 + 10) := by unfold Bb.ok; omega
 have h1 := Bb.N_ok (most := 700) z1 (Bb.Z_ok (least := -900) (most := 900) hf.base h0)
 have h2 := fold_ok (f := Bb.SetT) (C := 20) s.turns _ _ (fun b x k hx h => Bb.Z_ok (hf.turns x hx).2 (Bb.M_ok (hf.turns x hx).1 h)) h1
 have h3 := fold_ok (f := Bb.SetO) (C := 10) s.off _ _ (fun b x k hx h => Bb.N_ok (hf.off x hx).2 h) (Bb.N_ok (most := 60) z2 (Bb.shifts_ok (most := 10) hf.shifts h2))
 exact Bb.N_ok hf.after.2 (Bb.N_ok hf.before.2 h3)
end Go.Proofs.YtdhinjbkfffpeaaGreat
end
section
namespace Go.Proofs.YtdhinjbkfffpeaaGreat
open Go.ChangeShapes Go.WideShapes Go.ChangeAt Go.RowKit Go.Joins Sp Fr Pk
def chain9 (W : World) (b : Nat) (v0 v1 v2 v3 v4 v5 v6 v7 v8 : Value) : World := (((((((((W.setCell ⟨b, 0, none⟩ v0).setCell ⟨b, 1, none⟩ v1).setCell ⟨b, 2, none⟩ v2).setCell ⟨b, 3, none⟩ v3).setCell ⟨b, 4, none⟩ v4).setCell ⟨b, 5, none⟩ v5).setCell ⟨b, 6, none⟩ v6).setCell ⟨b, 7, none⟩ v7).setCell ⟨b, 8, none⟩ v8)
theorem chain9_blk {W : World} {b : Nat} {t : TypeId} {x0 x1 x2 x3 x4 x5 x6 x7 x8 : Value} (h : W.heap[b]? = some (.cells #[x0, x1, x2, x3, x4, x5, x6, x7, x8] t (0, 0))) (v0 v1 v2 v3 v4 v5 v6 v7 v8 : Value) : (chain9 W b v0 v1 v2 v3 v4 v5 v6 v7 v8).heap[b]? = some (.cells #[v0, v1, v2, v3, v4, v5, v6, v7, v8] t (0, 0)) := by
 have := (block_setCell (i := 8) (block_setCell (i := 7) (block_setCell (i := 6) (block_setCell (i := 5) (block_setCell (i := 4) (block_setCell (i := 3) (block_setCell (i := 2) (block_setCell (i := 1) (block_setCell (i := 0) h v0) v1) v2) v3) v4) v5) v6) v7) v8)
 simpa [chain9] using this
theorem chain9_off {F : Nat → Prop} {w W : World} {b : Nat} (h : Off F w W) (hb : w.heap.size ≤ b) (v0 v1 v2 v3 v4 v5 v6 v7 v8 : Value) : Off F w (chain9 W b v0 v1 v2 v3 v4 v5 v6 v7 v8) := (((((((((h.setCell (b := b) (i := 0) (.inr hb) v0).setCell (b := b) (i := 1) (.inr hb) v1).setCell (b := b) (i := 2) (.inr hb) v2).setCell (b := b) (i := 3) (.inr hb) v3).setCell (b := b) (i := 4) (.inr hb) v4).setCell (b := b) (i := 5) (.inr hb) v5).setCell (b := b) (i := 6) (.inr hb) v6).setCell (b := b) (i := 7) (.inr hb) v7).setCell (b := b) (i := 8) (.inr hb) v8)
def Bb.EvD (b : Bb) (x : Spn) : Bb := (b.Z x.1 (-5) 5).N x.2 6
def Bb.EvC (b : Bb) (x : Int × Int × Int) : Bb := ((b.M x.1).M x.2.1).N x.2.2 10080
def Bb.Ev2 (e : Evt) (b : Bb) : Bb := e.ch.foldl Bb.EvC (((((b.small e.rule.bs).N e.rule.start 6).stamps e.ex 50).stamps e.plus 50).N e.ch.length 50)
def Bb.Ev1 (e : Evt) (b : Bb) : Bb := Bb.Ev2 e (e.rule.bw.foldl Bb.EvD (((((((b.N e.rule.freq 4).N e.rule.iv 999).N e.rule.count 5000).M e.rule.until_).small e.rule.bm).small e.rule.bd).N e.rule.bw.length 400))
def Bb.Event (b : Bb) (e : Evt) : Bb := if e.again = true then Bb.Ev1 e (((b.M e.start).N e.long 10080).F e.again) else (((b.M e.start).N e.long 10080).F e.again).F e.world
def Evt.cost (e : Evt) : Nat := (e.rule.bm.length + e.rule.bd.length + e.rule.bs.length + e.ex.length + e.plus.length) * 10 + e.rule.bw.length * 20 + e.ch.length * 30 + 160
set_option maxRecDepth 100000 in
set_option maxHeartbeats 4000000 in
theorem rbEvent_once (b : Bb) (e : Evt) (p : EvP) (w : World) (ha : e.again = false) (hf : e.Fits) (h : EvAt w e p) (hl : b.ok e.cost) :
  Calls Tryz.prog 48 #[.agg #[.string ⟨b.s.toArray⟩, .bool b.bad], .agg (eCells e p).toArray] w fun q w' => q = .returned (.agg #[.string ⟨(b.Event e).s.toArray⟩, .bool (b.Event e).bad]) ∧ Below w.heap.size w w' := by
 obtain ⟨A1, A2, A3, A4, A5, A6, A7, c1, c2, c3, c4, c5, c6, c7⟩ := p
 unfold EvAt at h
 unfold eCells
 dsimp only at h ⊢
 obtain ⟨W1, hW1⟩ : ∃ W1, ((w.alloc (.cells #[.string ⟨b.s.toArray⟩, .bool b.bad] 85)).alloc (.cells #[.int .i64 e.start, .int .i64 e.long, .bool e.world, .bool e.again, .int .i64 e.rule.freq, .int .i64 e.rule.iv, .int .i64 e.rule.count, .int .i64 e.rule.until_, .slice A1 e.rule.bm.length c1, .slice A2 e.rule.bd.length c2, .slice A3 e.rule.bw.length c3, .slice A4 e.rule.bs.length c4, .int .i64 e.rule.start, .slice A5 e.ex.length c5, .slice A6 e.plus.length c6, .slice A7 e.ch.length c7] 63)).alloc (.cells #[.string ⟨#[]⟩, .bool false] 85) = W1 := ⟨_, rfl⟩
 have E1 := Lib.hid hW1
 have HW : Hid (Below w.heap.size w W1) := by show Below _ _ _; rw [← hW1]; exact (((Below.refl _ _).alloc (Nat.le_refl _) _).alloc (by simp <;> omega) _).alloc (by simp <;> omega) _
 have HAx : Hid (Acc W1 W1 w.heap.size b) := ⟨Off.refl _ _, by rw [← hW1, heap_alloc_old _ _ (by simp <;> omega), heap_alloc_old _ _ (by simp <;> omega), heap_alloc_new]⟩
 obtain ⟨RB, hRB⟩ : ∃ RB, RB = w.heap.size + 2 := ⟨_, rfl⟩
 have HR : Hid (W1.heap[RB]? = some (.cells #[.string ⟨#[]⟩, .bool false] 85 (0, 0))) := by show _ = _; rw [hRB, ← hW1]; exact heap_alloc_new3 _ _ _ _ 
 have HB : Hid (Below w.heap.size w W1) := HW
 have HPe : Hid (∀ (wr : World) (bq : Bb), Acc W1 wr w.heap.size bq → ∀ (g : Gr wr) (k : Nat) (v : Value), (#[.int .i64 e.start, .int .i64 e.long, .bool e.world, .bool e.again, .int .i64 e.rule.freq, .int .i64 e.rule.iv, .int .i64 e.rule.count, .int .i64 e.rule.until_, .slice A1 e.rule.bm.length c1, .slice A2 e.rule.bd.length c2, .slice A3 e.rule.bw.length c3, .slice A4 e.rule.bs.length c4, .int .i64 e.rule.start, .slice A5 e.ex.length c5, .slice A6 e.plus.length c6, .slice A7 e.ch.length c7] : Array Value)[k]? = some v → g.val.cell? ⟨w.heap.size + 1, k, none⟩ = some v) := fun wr bq ha g k v hv => by
  refine cell_old (ha.off.cell (blk_cell (cs := #[.int .i64 e.start, .int .i64 e.long, .bool e.world, .bool e.again, .int .i64 e.rule.freq, .int .i64 e.rule.iv, .int .i64 e.rule.count, .int .i64 e.rule.until_, .slice A1 e.rule.bm.length c1, .slice A2 e.rule.bd.length c2, .slice A3 e.rule.bw.length c3, .slice A4 e.rule.bs.length c4, .int .i64 e.rule.start, .slice A5 e.ex.length c5, .slice A6 e.plus.length c6, .slice A7 e.ch.length c7]) (t := 63) ?_ hv) (by omega)) g.ok
  rw [← hW1, heap_alloc_old _ _ (by simp <;> omega)]
  exact heap_alloc_new2 _ _ _ 
 clear hW1
 have HS1 : Hid (∀ wr, Below w.heap.size w wr → Sl wr A1 e.rule.bm.length c1 (iv e.rule.bm)) := fun wr hb => h.r.s1.below hb (Nat.le_refl _)
 have hz1 := len_le h.r.s1
 have HS2 : Hid (∀ wr, Below w.heap.size w wr → Sl wr A2 e.rule.bd.length c2 (iv e.rule.bd)) := fun wr hb => h.r.s2.below hb (Nat.le_refl _)
 have hz2 := len_le h.r.s2
 have HS3 : Hid (∀ wr, Below w.heap.size w wr → Sl wr A3 e.rule.bw.length c3 (sv e.rule.bw)) := fun wr hb => h.r.s3.below hb (Nat.le_refl _)
 have hz3 := len_le h.r.s3
 have HS4 : Hid (∀ wr, Below w.heap.size w wr → Sl wr A4 e.rule.bs.length c4 (iv e.rule.bs)) := fun wr hb => h.r.s4.below hb (Nat.le_refl _)
 have hz4 := len_le h.r.s4
 have HS5 : Hid (∀ wr, Below w.heap.size w wr → Sl wr A5 e.ex.length c5 (iv e.ex)) := fun wr hb => h.s5.below hb (Nat.le_refl _)
 have hz5 := len_le h.s5
 have HS6 : Hid (∀ wr, Below w.heap.size w wr → Sl wr A6 e.plus.length c6 (iv e.plus)) := fun wr hb => h.s6.below hb (Nat.le_refl _)
 have hz6 := len_le h.s6
 have HS7 : Hid (∀ wr, Below w.heap.size w wr → Sl wr A7 e.ch.length c7 (tv e.ch)) := fun wr hb => by have := h.s7.below hb (Nat.le_refl _); rwa [cv_tv'] at this
 have hz7 := len_le h.s7
 obtain ⟨r, hr⟩ : ∃ r, b.Event e = r := ⟨_, rfl⟩
 have HF : Hid ((((b.M e.start).N e.long 10080).F e.again).F e.world = r) := by show _ = _; rw [← hr]; unfold Bb.Event; rw [ha]; rfl
 rw [hr]
 have HFit := Lib.hid hf
 have Hha := Lib.hid ha
 clear ha
 have HOx : Hid (b.ok ((((0 + 10) + 10) + 10) + 10)) := by show Bb.ok _ _; unfold Bb.ok at hl ⊢; unfold Evt.cost at hl; omega
 clear hr hl h hf
 go_enter Tryz.func48, Tryz.ntmps48
 go_upto_region 1 with fail
 rw [E1.out]
 have o0 : (b).ok ((((0 + 10) + 10) + 10) + 10) := HOx.out
 have o1 : ((b).M (e.start)).ok (((0 + 10) + 10) + 10) := Bb.M_ok HFit.out.start o0
 have o2 : (((b).M (e.start)).N (e.long) 10080).ok ((0 + 10) + 10) := Bb.N_ok HFit.out.long.2 o1
 have o3 : ((((b).M (e.start)).N (e.long) 10080).F (e.again)).ok (0 + 10) := Bb.F_ok o2
 have HZ0 := Lib.hid (fun (g : Gr W1) => rbM_any (b) (e.start)  HFit.out.start (Bb.ok_le o0 (Nat.le_add_left _ _)) g.val)
 have HZ1 := Lib.hid (fun (g : Gr W1) => rbN_any ((b).M (e.start)) (e.long) 10080 HFit.out.long.2 (Bb.ok_le o1 (Nat.le_add_left _ _)) g.val)
 have HZ2 := Lib.hid (fun (g : Gr W1) => rbF_any (((b).M (e.start)).N (e.long) 10080) (e.again)   (Bb.ok_le o2 (Nat.le_add_left _ _)) g.val)
 have HO2 := Lib.hid o3
 have C0 := fun g : Gr W1 => (HAx.out.cells g).1
 have C1 := fun g : Gr W1 => (HAx.out.cells g).2
 have Pe_0 := fun g : Gr W1 => HPe.out W1 _ HAx.out g 0 (.int .i64 e.start) rfl
 have Pe_1 := fun g : Gr W1 => HPe.out W1 _ HAx.out g 1 (.int .i64 e.long) rfl
 have Pe_3 := fun g : Gr W1 => HPe.out W1 _ HAx.out g 3 (.bool e.again) rfl
 clear o0 o1 o2 o3
 refine Gr.region_last (w0 := W1) (m := 10) (by kernel_rfl) (by kernel_rfl) (Gr.draw0 _) ?_
 simp only [List.take]
 repeat (go_big_quiet_step (fail))
 go_big_quiet_step ((go_at_call 28; exact Gr.calls _ (HZ0.out _)))
 repeat (go_big_quiet_step (fail))
 go_big_quiet_step ((go_at_call 26; exact Gr.calls _ (HZ1.out _)))
 repeat (go_big_quiet_step (fail))
 go_big_quiet_step ((go_at_call 30; exact Gr.calls _ (HZ2.out _)))
 repeat (go_big_quiet_step (fail))
 refine wpQuiet_nil ?_
 rintro _ ⟨g, rfl⟩
 refine wpOp_last (o := _) rfl ?_
 have r0 := C0 g
 have r1 := C1 g
 have rf := HAx.out.free g
 have HA2 := Lib.hid (HAx.out.step g ((((b).M (e.start)).N (e.long) 10080).F (e.again)))
 clear C0 C1 Pe_0 Pe_1 Pe_3 
 go_simp
 clear r0 r1 rf
 obtain ⟨w1, hw1⟩ : ∃ x, ((g.val.setCell ⟨w.heap.size, 0, none⟩ (.string ⟨((((b).M (e.start)).N (e.long) 10080).F (e.again)).s.toArray⟩)).setCell ⟨w.heap.size, 1, none⟩ (.bool ((((b).M (e.start)).N (e.long) 10080).F (e.again)).bad)) = x := ⟨_, rfl⟩
 rw [hw1] at HA2 ⊢
 clear hw1
 have HAw1 := Lib.hid HA2.out
 have HOw1 := Lib.hid HO2.out
 clear HA2 HO2
 have qe_3 := HPe.out w1 _ HAw1.out ⟨w1, Below.refl _ _⟩ 3 (.bool e.again) rfl
 simp only at qe_3
 rw [Hha.out] at qe_3
 go_upto_region 3 with fail
 clear qe_3
 clear HAx HOx
 have HAx := Lib.hid HAw1.out
 have HOx := Lib.hid HOw1.out
 clear HAw1 HOw1
 have HB1 := Lib.hid (HAx.out.below HW.out (Nat.le_refl _))
 clear HB
 have HB := Lib.hid HB1.out
 have o0 : ((((b).M (e.start)).N (e.long) 10080).F (e.again)).ok (0 + 10) := HOx.out
 have o1 : (((((b).M (e.start)).N (e.long) 10080).F (e.again)).F (e.world)).ok 0 := Bb.F_ok o0
 have HZ0 := Lib.hid (fun (g : Gr w1) => rbF_any ((((b).M (e.start)).N (e.long) 10080).F (e.again)) (e.world)   (Bb.ok_le o0 (Nat.le_add_left _ _)) g.val)
 have HO2 := Lib.hid o1
 have C0 := fun g : Gr w1 => (HAx.out.cells g).1
 have C1 := fun g : Gr w1 => (HAx.out.cells g).2
 have Pe_2 := fun g : Gr w1 => HPe.out w1 _ HAx.out g 2 (.bool e.world) rfl
 clear o0 o1
 have d0 := C0 ⟨w1, Below.refl _ _⟩
 have d1 := C1 ⟨w1, Below.refl _ _⟩
 have dPe_2 := Pe_2 ⟨w1, Below.refl _ _⟩
 simp only at d0 d1 dPe_2
 go_wp2_with fail
 go_at_call 30
 refine (HZ0.out ⟨w1, Below.refl _ _⟩).mono ?_
 rintro e w2 ⟨rfl, hb⟩
 obtain ⟨g, rfl⟩ := Gr.of hb
 clear hb d0 d1 dPe_2
 have hR := blk_below (HAx.out.off.heap HR.out (by omega)) g.ok
 have HBg := Lib.hid (HB.out.trans (g.ok.mono HB.out.size))
 have r0 := blk_cell hR (i := 0) rfl
 have r1 := blk_cell hR (i := 1) rfl
 have rf := blk_free hR
 have HZ := two_set hR (.string ⟨(((((b).M (e.start)).N (e.long) 10080).F (e.again)).F (e.world)).s.toArray⟩) (.bool (((((b).M (e.start)).N (e.long) 10080).F (e.again)).F (e.world)).bad)
 have z0 := blk_cell HZ (i := 0) rfl
 have z1 := blk_cell HZ (i := 1) rfl
 clear hR HZ C0 C1 Pe_2
 rw [hRB] at r0 r1 rf z0 z1
 go_wp2_with fail
 exact bodyPost_ret (v := .agg #[.string ⟨(((((b).M (e.start)).N (e.long) 10080).F (e.again)).F (e.world)).s.toArray⟩, .bool (((((b).M (e.start)).N (e.long) 10080).F (e.again)).F (e.world)).bad]) (by simp [results, Tryz.results48, go_sem, z0, z1]) rfl ⟨by rw [← show ((((b).M (e.start)).N (e.long) 10080).F (e.again)).F (e.world) = r from HF.out], (HBg.out.setCell (p := ⟨w.heap.size + 2, 0, none⟩) (Nat.le_add_right _ _) _).setCell (p := ⟨w.heap.size + 2, 1, none⟩) (Nat.le_add_right _ _) _⟩
set_option maxRecDepth 100000 in
set_option maxHeartbeats 4000000 in
theorem rbEvent_again (b : Bb) (e : Evt) (p : EvP) (w : World) (ha : e.again = true) (hf : e.Fits) (h : EvAt w e p) (hl : b.ok e.cost) :
  Calls Tryz.prog 48 #[.agg #[.string ⟨b.s.toArray⟩, .bool b.bad], .agg (eCells e p).toArray] w fun q w' => q = .returned (.agg #[.string ⟨(b.Event e).s.toArray⟩, .bool (b.Event e).bad]) ∧ Below w.heap.size w w' := by
 obtain ⟨A1, A2, A3, A4, A5, A6, A7, c1, c2, c3, c4, c5, c6, c7⟩ := p
 unfold EvAt at h
 unfold eCells
 dsimp only at h ⊢
 obtain ⟨W1, hW1⟩ : ∃ W1, ((w.alloc (.cells #[.string ⟨b.s.toArray⟩, .bool b.bad] 85)).alloc (.cells #[.int .i64 e.start, .int .i64 e.long, .bool e.world, .bool e.again, .int .i64 e.rule.freq, .int .i64 e.rule.iv, .int .i64 e.rule.count, .int .i64 e.rule.until_, .slice A1 e.rule.bm.length c1, .slice A2 e.rule.bd.length c2, .slice A3 e.rule.bw.length c3, .slice A4 e.rule.bs.length c4, .int .i64 e.rule.start, .slice A5 e.ex.length c5, .slice A6 e.plus.length c6, .slice A7 e.ch.length c7] 63)).alloc (.cells #[.string ⟨#[]⟩, .bool false] 85) = W1 := ⟨_, rfl⟩
 have E1 := Lib.hid hW1
 have HW : Hid (Below w.heap.size w W1) := by show Below _ _ _; rw [← hW1]; exact (((Below.refl _ _).alloc (Nat.le_refl _) _).alloc (by simp <;> omega) _).alloc (by simp <;> omega) _
 have HAx : Hid (Acc W1 W1 w.heap.size b) := ⟨Off.refl _ _, by rw [← hW1, heap_alloc_old _ _ (by simp <;> omega), heap_alloc_old _ _ (by simp <;> omega), heap_alloc_new]⟩
 obtain ⟨RB, hRB⟩ : ∃ RB, RB = w.heap.size + 2 := ⟨_, rfl⟩
 have HR : Hid (W1.heap[RB]? = some (.cells #[.string ⟨#[]⟩, .bool false] 85 (0, 0))) := by show _ = _; rw [hRB, ← hW1]; exact heap_alloc_new3 _ _ _ _ 
 have HB : Hid (Below w.heap.size w W1) := HW
 have HPe : Hid (∀ (wr : World) (bq : Bb), Acc W1 wr w.heap.size bq → ∀ (g : Gr wr) (k : Nat) (v : Value), (#[.int .i64 e.start, .int .i64 e.long, .bool e.world, .bool e.again, .int .i64 e.rule.freq, .int .i64 e.rule.iv, .int .i64 e.rule.count, .int .i64 e.rule.until_, .slice A1 e.rule.bm.length c1, .slice A2 e.rule.bd.length c2, .slice A3 e.rule.bw.length c3, .slice A4 e.rule.bs.length c4, .int .i64 e.rule.start, .slice A5 e.ex.length c5, .slice A6 e.plus.length c6, .slice A7 e.ch.length c7] : Array Value)[k]? = some v → g.val.cell? ⟨w.heap.size + 1, k, none⟩ = some v) := fun wr bq ha g k v hv => by
  refine cell_old (ha.off.cell (blk_cell (cs := #[.int .i64 e.start, .int .i64 e.long, .bool e.world, .bool e.again, .int .i64 e.rule.freq, .int .i64 e.rule.iv, .int .i64 e.rule.count, .int .i64 e.rule.until_, .slice A1 e.rule.bm.length c1, .slice A2 e.rule.bd.length c2, .slice A3 e.rule.bw.length c3, .slice A4 e.rule.bs.length c4, .int .i64 e.rule.start, .slice A5 e.ex.length c5, .slice A6 e.plus.length c6, .slice A7 e.ch.length c7]) (t := 63) ?_ hv) (by omega)) g.ok
  rw [← hW1, heap_alloc_old _ _ (by simp <;> omega)]
  exact heap_alloc_new2 _ _ _ 
 clear hW1
 have HS1 : Hid (∀ wr, Below w.heap.size w wr → Sl wr A1 e.rule.bm.length c1 (iv e.rule.bm)) := fun wr hb => h.r.s1.below hb (Nat.le_refl _)
 have hz1 := len_le h.r.s1
 have HS2 : Hid (∀ wr, Below w.heap.size w wr → Sl wr A2 e.rule.bd.length c2 (iv e.rule.bd)) := fun wr hb => h.r.s2.below hb (Nat.le_refl _)
 have hz2 := len_le h.r.s2
 have HS3 : Hid (∀ wr, Below w.heap.size w wr → Sl wr A3 e.rule.bw.length c3 (sv e.rule.bw)) := fun wr hb => h.r.s3.below hb (Nat.le_refl _)
 have hz3 := len_le h.r.s3
 have HS4 : Hid (∀ wr, Below w.heap.size w wr → Sl wr A4 e.rule.bs.length c4 (iv e.rule.bs)) := fun wr hb => h.r.s4.below hb (Nat.le_refl _)
 have hz4 := len_le h.r.s4
 have HS5 : Hid (∀ wr, Below w.heap.size w wr → Sl wr A5 e.ex.length c5 (iv e.ex)) := fun wr hb => h.s5.below hb (Nat.le_refl _)
 have hz5 := len_le h.s5
 have HS6 : Hid (∀ wr, Below w.heap.size w wr → Sl wr A6 e.plus.length c6 (iv e.plus)) := fun wr hb => h.s6.below hb (Nat.le_refl _)
 have hz6 := len_le h.s6
 have HS7 : Hid (∀ wr, Below w.heap.size w wr → Sl wr A7 e.ch.length c7 (tv e.ch)) := fun wr hb => by have := h.s7.below hb (Nat.le_refl _); rwa [cv_tv'] at this
 have hz7 := len_le h.s7
 obtain ⟨r, hr⟩ : ∃ r, b.Event e = r := ⟨_, rfl⟩
 have HF : Hid (Bb.Ev1 e (((b.M e.start).N e.long 10080).F e.again) = r) := by show _ = _; rw [← hr]; unfold Bb.Event; rw [ha]; rfl
 rw [hr]
 have HFit := Lib.hid hf
 have Hha := Lib.hid ha
 clear ha
 have HOx : Hid (b.ok (((((((((((((((((0 + e.ch.length * 30) + 10) + ((e.plus).length * 10 + 10)) + ((e.ex).length * 10 + 10)) + 10) + ((e.rule.bs).length * 10 + 10)) + e.rule.bw.length * 20) + 10) + ((e.rule.bd).length * 10 + 10)) + ((e.rule.bm).length * 10 + 10)) + 10) + 10) + 10) + 10) + 10) + 10) + 10)) := by show Bb.ok _ _; unfold Bb.ok at hl ⊢; unfold Evt.cost at hl; omega
 clear hr hl h hf
 go_enter Tryz.func48, Tryz.ntmps48
 go_upto_region 1 with fail
 rw [E1.out]
 have o0 : (b).ok (((((((((((((((((0 + e.ch.length * 30) + 10) + ((e.plus).length * 10 + 10)) + ((e.ex).length * 10 + 10)) + 10) + ((e.rule.bs).length * 10 + 10)) + e.rule.bw.length * 20) + 10) + ((e.rule.bd).length * 10 + 10)) + ((e.rule.bm).length * 10 + 10)) + 10) + 10) + 10) + 10) + 10) + 10) + 10) := HOx.out
 have o1 : ((b).M (e.start)).ok ((((((((((((((((0 + e.ch.length * 30) + 10) + ((e.plus).length * 10 + 10)) + ((e.ex).length * 10 + 10)) + 10) + ((e.rule.bs).length * 10 + 10)) + e.rule.bw.length * 20) + 10) + ((e.rule.bd).length * 10 + 10)) + ((e.rule.bm).length * 10 + 10)) + 10) + 10) + 10) + 10) + 10) + 10) := Bb.M_ok HFit.out.start o0
 have o2 : (((b).M (e.start)).N (e.long) 10080).ok (((((((((((((((0 + e.ch.length * 30) + 10) + ((e.plus).length * 10 + 10)) + ((e.ex).length * 10 + 10)) + 10) + ((e.rule.bs).length * 10 + 10)) + e.rule.bw.length * 20) + 10) + ((e.rule.bd).length * 10 + 10)) + ((e.rule.bm).length * 10 + 10)) + 10) + 10) + 10) + 10) + 10) := Bb.N_ok HFit.out.long.2 o1
 have o3 : ((((b).M (e.start)).N (e.long) 10080).F (e.again)).ok ((((((((((((((0 + e.ch.length * 30) + 10) + ((e.plus).length * 10 + 10)) + ((e.ex).length * 10 + 10)) + 10) + ((e.rule.bs).length * 10 + 10)) + e.rule.bw.length * 20) + 10) + ((e.rule.bd).length * 10 + 10)) + ((e.rule.bm).length * 10 + 10)) + 10) + 10) + 10) + 10) := Bb.F_ok o2
 have HZ0 := Lib.hid (fun (g : Gr W1) => rbM_any (b) (e.start)  HFit.out.start (Bb.ok_le o0 (Nat.le_add_left _ _)) g.val)
 have HZ1 := Lib.hid (fun (g : Gr W1) => rbN_any ((b).M (e.start)) (e.long) 10080 HFit.out.long.2 (Bb.ok_le o1 (Nat.le_add_left _ _)) g.val)
 have HZ2 := Lib.hid (fun (g : Gr W1) => rbF_any (((b).M (e.start)).N (e.long) 10080) (e.again)   (Bb.ok_le o2 (Nat.le_add_left _ _)) g.val)
 have HO2 := Lib.hid o3
 have C0 := fun g : Gr W1 => (HAx.out.cells g).1
 have C1 := fun g : Gr W1 => (HAx.out.cells g).2
 have Pe_0 := fun g : Gr W1 => HPe.out W1 _ HAx.out g 0 (.int .i64 e.start) rfl
 have Pe_1 := fun g : Gr W1 => HPe.out W1 _ HAx.out g 1 (.int .i64 e.long) rfl
 have Pe_3 := fun g : Gr W1 => HPe.out W1 _ HAx.out g 3 (.bool e.again) rfl
 clear o0 o1 o2 o3
 refine Gr.region_last (w0 := W1) (m := 10) (by kernel_rfl) (by kernel_rfl) (Gr.draw0 _) ?_
 simp only [List.take]
 repeat (go_big_quiet_step (fail))
 go_big_quiet_step ((go_at_call 28; exact Gr.calls _ (HZ0.out _)))
 repeat (go_big_quiet_step (fail))
 go_big_quiet_step ((go_at_call 26; exact Gr.calls _ (HZ1.out _)))
 repeat (go_big_quiet_step (fail))
 go_big_quiet_step ((go_at_call 30; exact Gr.calls _ (HZ2.out _)))
 repeat (go_big_quiet_step (fail))
 refine wpQuiet_nil ?_
 rintro _ ⟨g, rfl⟩
 refine wpOp_last (o := _) rfl ?_
 have r0 := C0 g
 have r1 := C1 g
 have rf := HAx.out.free g
 have HA2 := Lib.hid (HAx.out.step g ((((b).M (e.start)).N (e.long) 10080).F (e.again)))
 clear C0 C1 Pe_0 Pe_1 Pe_3 
 go_simp
 clear r0 r1 rf
 obtain ⟨w1, hw1⟩ : ∃ x, ((g.val.setCell ⟨w.heap.size, 0, none⟩ (.string ⟨((((b).M (e.start)).N (e.long) 10080).F (e.again)).s.toArray⟩)).setCell ⟨w.heap.size, 1, none⟩ (.bool ((((b).M (e.start)).N (e.long) 10080).F (e.again)).bad)) = x := ⟨_, rfl⟩
 rw [hw1] at HA2 ⊢
 clear hw1
 have HAw1 := Lib.hid HA2.out
 have HOw1 := Lib.hid HO2.out
 clear HA2 HO2
 have qe_3 := HPe.out w1 _ HAw1.out ⟨w1, Below.refl _ _⟩ 3 (.bool e.again) rfl
 simp only at qe_3
 rw [Hha.out] at qe_3
 have qe_4 := HPe.out w1 _ HAw1.out ⟨w1, Below.refl _ _⟩ 4 (.int .i64 e.rule.freq) rfl
 have qe_5 := HPe.out w1 _ HAw1.out ⟨w1, Below.refl _ _⟩ 5 (.int .i64 e.rule.iv) rfl
 have qe_6 := HPe.out w1 _ HAw1.out ⟨w1, Below.refl _ _⟩ 6 (.int .i64 e.rule.count) rfl
 have qe_7 := HPe.out w1 _ HAw1.out ⟨w1, Below.refl _ _⟩ 7 (.int .i64 e.rule.until_) rfl
 have qe_8 := HPe.out w1 _ HAw1.out ⟨w1, Below.refl _ _⟩ 8 (.slice A1 e.rule.bm.length c1) rfl
 have qe_9 := HPe.out w1 _ HAw1.out ⟨w1, Below.refl _ _⟩ 9 (.slice A2 e.rule.bd.length c2) rfl
 have qe_10 := HPe.out w1 _ HAw1.out ⟨w1, Below.refl _ _⟩ 10 (.slice A3 e.rule.bw.length c3) rfl
 have qe_11 := HPe.out w1 _ HAw1.out ⟨w1, Below.refl _ _⟩ 11 (.slice A4 e.rule.bs.length c4) rfl
 have qe_12 := HPe.out w1 _ HAw1.out ⟨w1, Below.refl _ _⟩ 12 (.int .i64 e.rule.start) rfl
 simp only at qe_4 qe_5 qe_6 qe_7 qe_8 qe_9 qe_10 qe_11 qe_12
 obtain ⟨wz, hwz⟩ : ∃ x, w1.alloc (.cells #[.int .i64 0, .int .i64 0, .int .i64 0, .int .i64 0, .slice none 0 0, .slice none 0 0, .slice none 0 0, .slice none 0 0, .int .i64 0] 60) = x := ⟨_, rfl⟩
 have hzb : wz.heap[w1.heap.size]? = some (.cells #[.int .i64 0, .int .i64 0, .int .i64 0, .int .i64 0, .slice none 0 0, .slice none 0 0, .slice none 0 0, .slice none 0 0, .int .i64 0] 60 (0, 0)) := by rw [← hwz]; exact heap_alloc_new _ _
 have z0 := blk_cell hzb (i := 0) rfl
 have z1 := blk_cell hzb (i := 1) rfl
 have z2 := blk_cell hzb (i := 2) rfl
 have z3 := blk_cell hzb (i := 3) rfl
 have z4 := blk_cell hzb (i := 4) rfl
 have z5 := blk_cell hzb (i := 5) rfl
 have z6 := blk_cell hzb (i := 6) rfl
 have z7 := blk_cell hzb (i := 7) rfl
 have z8 := blk_cell hzb (i := 8) rfl
 have zf := blk_free hzb
 have HWZ := Lib.hid hwz
 have HZB := Lib.hid hzb
 clear hzb
 go_upto_region 5 with fail
 have hqb := chain9_blk HZB.out (.int .i64 e.rule.freq) (.int .i64 e.rule.iv) (.int .i64 e.rule.count) (.int .i64 e.rule.until_) (.slice A1 e.rule.bm.length c1) (.slice A2 e.rule.bd.length c2) (.slice A3 e.rule.bw.length c3) (.slice A4 e.rule.bs.length c4) (.int .i64 e.rule.start)
 have ho : Off (fun _ => False) w1 (chain9 wz w1.heap.size (.int .i64 e.rule.freq) (.int .i64 e.rule.iv) (.int .i64 e.rule.count) (.int .i64 e.rule.until_) (.slice A1 e.rule.bm.length c1) (.slice A2 e.rule.bd.length c2) (.slice A3 e.rule.bw.length c3) (.slice A4 e.rule.bs.length c4) (.int .i64 e.rule.start)) := chain9_off (by rw [← HWZ.out]; exact (Off.refl _ w1).alloc _) (Nat.le_refl _) _ _ _ _ _ _ _ _ _
 obtain ⟨wq, hwq⟩ : ∃ x, chain9 wz w1.heap.size (.int .i64 e.rule.freq) (.int .i64 e.rule.iv) (.int .i64 e.rule.count) (.int .i64 e.rule.until_) (.slice A1 e.rule.bm.length c1) (.slice A2 e.rule.bd.length c2) (.slice A3 e.rule.bw.length c3) (.slice A4 e.rule.bs.length c4) (.int .i64 e.rule.start) = x := ⟨_, rfl⟩
 rw [hwq] at hqb ho
 unfold chain9 at hwq
 rw [hwq]
 have hB1 := HAw1.out.below HW.out (Nat.le_refl _)
 have hlt : w.heap.size < w1.heap.size := by have h1 := heap_lt' HR.out; have h2 := HAw1.out.off.size; omega
 have HWn : Hid (Below w.heap.size w wq) := hB1.trans (ho.toBelow hB1.size (fun _ h => h.elim))
 have HRn : Hid (wq.heap[RB]? = some (.cells #[.string ⟨#[]⟩, .bool false] 85 (0, 0))) := ho.heap (HAw1.out.off.heap HR.out (by omega)) id
 have HPn : Hid (∀ (wr : World) (bq : Bb), Acc wq wr w.heap.size bq → ∀ (g : Gr wr) (k : Nat) (v : Value), (#[.int .i64 e.start, .int .i64 e.long, .bool e.world, .bool e.again, .int .i64 e.rule.freq, .int .i64 e.rule.iv, .int .i64 e.rule.count, .int .i64 e.rule.until_, .slice A1 e.rule.bm.length c1, .slice A2 e.rule.bd.length c2, .slice A3 e.rule.bw.length c3, .slice A4 e.rule.bs.length c4, .int .i64 e.rule.start, .slice A5 e.ex.length c5, .slice A6 e.plus.length c6, .slice A7 e.ch.length c7] : Array Value)[k]? = some v → g.val.cell? ⟨w.heap.size + 1, k, none⟩ = some v) := fun wr bq hc g k v hv =>
  cell_old (hc.off.cell (ho.cell (HPe.out w1 _ HAw1.out ⟨w1, Below.refl _ _⟩ k v hv) id) (by omega)) g.ok
 have HPr : Hid (∀ (wr : World) (bq : Bb), Acc wq wr w.heap.size bq → ∀ (g : Gr wr) (k : Nat) (v : Value), (#[.int .i64 e.rule.freq, .int .i64 e.rule.iv, .int .i64 e.rule.count, .int .i64 e.rule.until_, .slice A1 e.rule.bm.length c1, .slice A2 e.rule.bd.length c2, .slice A3 e.rule.bw.length c3, .slice A4 e.rule.bs.length c4, .int .i64 e.rule.start] : Array Value)[k]? = some v → g.val.cell? ⟨w1.heap.size, k, none⟩ = some v) := fun wr bq hc g k v hv =>
  cell_old (hc.off.cell (blk_cell hqb hv) (by omega)) g.ok
 have HAn : Hid (Acc wq wq w.heap.size ((((b).M (e.start)).N (e.long) 10080).F (e.again))) := ⟨Off.refl _ _, ho.heap HAw1.out.blk id⟩
 have HOn := Lib.hid HOw1.out
 clear hwz hwq hqb ho hB1 hlt HW HR HPe HB HAx HOx HAw1 HOw1 HWZ HZB zf z0 z1 z2 z3 z4 z5 z6 z7 z8 qe_3 qe_4 qe_5 qe_6 qe_7 qe_8 qe_9 qe_10 qe_11 qe_12
 have HW := HWn
 have HB := HWn
 have HR := HRn
 have HPe := HPn
 have HAx := HAn
 have HOx := HOn
 clear HWn HRn HPn HAn HOn
 have HF1 : Hid (Bb.Ev1 e ((((b).M (e.start)).N (e.long) 10080).F (e.again)) = r) := HF
 clear HF
 have HF := HF1
 clear HF1
 obtain ⟨bq, hbq⟩ : ∃ x, (((b).M (e.start)).N (e.long) 10080).F (e.again) = x := ⟨_, rfl⟩
 rw [hbq] at HF HAx HOx
 clear hbq
 have o0 : (bq).ok ((((((((((((((0 + e.ch.length * 30) + 10) + ((e.plus).length * 10 + 10)) + ((e.ex).length * 10 + 10)) + 10) + ((e.rule.bs).length * 10 + 10)) + e.rule.bw.length * 20) + 10) + ((e.rule.bd).length * 10 + 10)) + ((e.rule.bm).length * 10 + 10)) + 10) + 10) + 10) + 10) := HOx.out
 have o1 : ((bq).N (e.rule.freq) 4).ok (((((((((((((0 + e.ch.length * 30) + 10) + ((e.plus).length * 10 + 10)) + ((e.ex).length * 10 + 10)) + 10) + ((e.rule.bs).length * 10 + 10)) + e.rule.bw.length * 20) + 10) + ((e.rule.bd).length * 10 + 10)) + ((e.rule.bm).length * 10 + 10)) + 10) + 10) + 10) := Bb.N_ok HFit.out.freq.2 o0
 have o2 : (((bq).N (e.rule.freq) 4).N (e.rule.iv) 999).ok ((((((((((((0 + e.ch.length * 30) + 10) + ((e.plus).length * 10 + 10)) + ((e.ex).length * 10 + 10)) + 10) + ((e.rule.bs).length * 10 + 10)) + e.rule.bw.length * 20) + 10) + ((e.rule.bd).length * 10 + 10)) + ((e.rule.bm).length * 10 + 10)) + 10) + 10) := Bb.N_ok HFit.out.iv.2 o1
 have o3 : ((((bq).N (e.rule.freq) 4).N (e.rule.iv) 999).N (e.rule.count) 5000).ok (((((((((((0 + e.ch.length * 30) + 10) + ((e.plus).length * 10 + 10)) + ((e.ex).length * 10 + 10)) + 10) + ((e.rule.bs).length * 10 + 10)) + e.rule.bw.length * 20) + 10) + ((e.rule.bd).length * 10 + 10)) + ((e.rule.bm).length * 10 + 10)) + 10) := Bb.N_ok HFit.out.count.2 o2
 have o4 : (((((bq).N (e.rule.freq) 4).N (e.rule.iv) 999).N (e.rule.count) 5000).M (e.rule.until_)).ok ((((((((((0 + e.ch.length * 30) + 10) + ((e.plus).length * 10 + 10)) + ((e.ex).length * 10 + 10)) + 10) + ((e.rule.bs).length * 10 + 10)) + e.rule.bw.length * 20) + 10) + ((e.rule.bd).length * 10 + 10)) + ((e.rule.bm).length * 10 + 10)) := Bb.M_ok HFit.out.until_ o3
 have o5 : ((((((bq).N (e.rule.freq) 4).N (e.rule.iv) 999).N (e.rule.count) 5000).M (e.rule.until_)).small (e.rule.bm)).ok (((((((((0 + e.ch.length * 30) + 10) + ((e.plus).length * 10 + 10)) + ((e.ex).length * 10 + 10)) + 10) + ((e.rule.bs).length * 10 + 10)) + e.rule.bw.length * 20) + 10) + ((e.rule.bd).length * 10 + 10)) := Bb.small_ok HFit.out.bm o4
 have o6 : (((((((bq).N (e.rule.freq) 4).N (e.rule.iv) 999).N (e.rule.count) 5000).M (e.rule.until_)).small (e.rule.bm)).small (e.rule.bd)).ok ((((((((0 + e.ch.length * 30) + 10) + ((e.plus).length * 10 + 10)) + ((e.ex).length * 10 + 10)) + 10) + ((e.rule.bs).length * 10 + 10)) + e.rule.bw.length * 20) + 10) := Bb.small_ok HFit.out.bd o5
 have o7 : ((((((((bq).N (e.rule.freq) 4).N (e.rule.iv) 999).N (e.rule.count) 5000).M (e.rule.until_)).small (e.rule.bm)).small (e.rule.bd)).N (e.rule.bw.length) 400).ok (((((((0 + e.ch.length * 30) + 10) + ((e.plus).length * 10 + 10)) + ((e.ex).length * 10 + 10)) + 10) + ((e.rule.bs).length * 10 + 10)) + e.rule.bw.length * 20) := Bb.N_ok hz3 o6
 have HZ0 := Lib.hid (fun (g : Gr wq) => rbN_any (bq) (e.rule.freq) 4 HFit.out.freq.2 (Bb.ok_le o0 (Nat.le_add_left _ _)) g.val)
 have HZ1 := Lib.hid (fun (g : Gr wq) => rbN_any ((bq).N (e.rule.freq) 4) (e.rule.iv) 999 HFit.out.iv.2 (Bb.ok_le o1 (Nat.le_add_left _ _)) g.val)
 have HZ2 := Lib.hid (fun (g : Gr wq) => rbN_any (((bq).N (e.rule.freq) 4).N (e.rule.iv) 999) (e.rule.count) 5000 HFit.out.count.2 (Bb.ok_le o2 (Nat.le_add_left _ _)) g.val)
 have HZ3 := Lib.hid (fun (g : Gr wq) => rbM_any ((((bq).N (e.rule.freq) 4).N (e.rule.iv) 999).N (e.rule.count) 5000) (e.rule.until_)  HFit.out.until_ (Bb.ok_le o3 (Nat.le_add_left _ _)) g.val)
 have HZ4 := Lib.hid (fun (g : Gr wq) => rbsmall_any (((((bq).N (e.rule.freq) 4).N (e.rule.iv) 999).N (e.rule.count) 5000).M (e.rule.until_)) (e.rule.bm) A1 c1 g.val HFit.out.bm (HS1.out g.val (HB.out.trans (g.ok.mono HB.out.size))) (Bb.ok_le o4 (Nat.le_add_left _ _)))
 have HZ5 := Lib.hid (fun (g : Gr wq) => rbsmall_any ((((((bq).N (e.rule.freq) 4).N (e.rule.iv) 999).N (e.rule.count) 5000).M (e.rule.until_)).small (e.rule.bm)) (e.rule.bd) A2 c2 g.val HFit.out.bd (HS2.out g.val (HB.out.trans (g.ok.mono HB.out.size))) (Bb.ok_le o5 (Nat.le_add_left _ _)))
 have HZ6 := Lib.hid (fun (g : Gr wq) => rbN_any (((((((bq).N (e.rule.freq) 4).N (e.rule.iv) 999).N (e.rule.count) 5000).M (e.rule.until_)).small (e.rule.bm)).small (e.rule.bd)) (e.rule.bw.length) 400 hz3 (Bb.ok_le o6 (Nat.le_add_left _ _)) g.val)
 have HO2 := Lib.hid o7
 have C0 := fun g : Gr wq => (HAx.out.cells g).1
 have C1 := fun g : Gr wq => (HAx.out.cells g).2
 have Pr_0 := fun g : Gr wq => HPr.out wq _ HAx.out g 0 (.int .i64 e.rule.freq) rfl
 have Pr_1 := fun g : Gr wq => HPr.out wq _ HAx.out g 1 (.int .i64 e.rule.iv) rfl
 have Pr_2 := fun g : Gr wq => HPr.out wq _ HAx.out g 2 (.int .i64 e.rule.count) rfl
 have Pr_3 := fun g : Gr wq => HPr.out wq _ HAx.out g 3 (.int .i64 e.rule.until_) rfl
 have Pr_4 := fun g : Gr wq => HPr.out wq _ HAx.out g 4 (.slice A1 e.rule.bm.length c1) rfl
 have Pr_5 := fun g : Gr wq => HPr.out wq _ HAx.out g 5 (.slice A2 e.rule.bd.length c2) rfl
 have Pr_6 := fun g : Gr wq => HPr.out wq _ HAx.out g 6 (.slice A3 e.rule.bw.length c3) rfl
 clear o0 o1 o2 o3 o4 o5 o6 o7
 refine Gr.region_last (w0 := wq) (m := 23) (by kernel_rfl) (by kernel_rfl) (Gr.draw0 _) ?_
 simp only [List.take]
 repeat (go_big_quiet_step (fail))
 go_big_quiet_step ((go_at_call 26; exact Gr.calls _ (HZ0.out _)))
 repeat (go_big_quiet_step (fail))
 go_big_quiet_step ((go_at_call 26; exact Gr.calls _ (HZ1.out _)))
 repeat (go_big_quiet_step (fail))
 go_big_quiet_step ((go_at_call 26; exact Gr.calls _ (HZ2.out _)))
 repeat (go_big_quiet_step (fail))
 go_big_quiet_step ((go_at_call 28; exact Gr.calls _ (HZ3.out _)))
 repeat (go_big_quiet_step (fail))
 go_big_quiet_step ((go_at_call 98; exact Gr.calls _ (HZ4.out _)))
 repeat (go_big_quiet_step (fail))
 go_big_quiet_step ((go_at_call 98; exact Gr.calls _ (HZ5.out _)))
 repeat (go_big_quiet_step (fail))
 go_big_quiet_step ((go_at_call 26; exact Gr.calls _ (HZ6.out _)))
 repeat (go_big_quiet_step (fail))
 refine wpQuiet_nil ?_
 rintro _ ⟨g, rfl⟩
 refine wpOp_last (o := _) rfl ?_
 have r0 := C0 g
 have r1 := C1 g
 have rf := HAx.out.free g
 have HA2 := Lib.hid (HAx.out.step g ((((((((bq).N (e.rule.freq) 4).N (e.rule.iv) 999).N (e.rule.count) 5000).M (e.rule.until_)).small (e.rule.bm)).small (e.rule.bd)).N (e.rule.bw.length) 400))
 clear C0 C1 Pr_0 Pr_1 Pr_2 Pr_3 Pr_4 Pr_5 Pr_6 
 go_simp
 clear r0 r1 rf
 obtain ⟨w2, hw2⟩ : ∃ x, ((g.val.setCell ⟨w.heap.size, 0, none⟩ (.string ⟨((((((((bq).N (e.rule.freq) 4).N (e.rule.iv) 999).N (e.rule.count) 5000).M (e.rule.until_)).small (e.rule.bm)).small (e.rule.bd)).N (e.rule.bw.length) 400).s.toArray⟩)).setCell ⟨w.heap.size, 1, none⟩ (.bool ((((((((bq).N (e.rule.freq) 4).N (e.rule.iv) 999).N (e.rule.count) 5000).M (e.rule.until_)).small (e.rule.bm)).small (e.rule.bd)).N (e.rule.bw.length) 400).bad)) = x := ⟨_, rfl⟩
 rw [hw2] at HA2 ⊢
 clear hw2
 have HAw2 := Lib.hid HA2.out
 have HOw2 := Lib.hid HO2.out
 clear HA2 HO2
 have qr_6 := HPr.out w2 _ HAw2.out ⟨w2, Below.refl _ _⟩ 6 (.slice A3 e.rule.bw.length c3) rfl
 simp only at qr_6
 go_wp2_with fail
 clear qr_6
 clear HAx HOx
 have HAx := Lib.hid HAw2.out
 have HOx := Lib.hid HOw2.out
 clear HAw2 HOw2
 go_loopw [53] (fun si wr => ∃ (k : Nat) (b' : Bb), si = .int .i64 k ∧ k ≤ (e.rule.bw).length ∧ Hid (Acc wq wr w.heap.size b') ∧ Hid (Bb.Ev2 e (((e.rule.bw).drop k).foldl Bb.EvD b') = r) ∧ Hid (b'.ok (((((((0 + e.ch.length * 30) + 10) + ((e.plus).length * 10 + 10)) + ((e.ex).length * 10 + 10)) + 10) + ((e.rule.bs).length * 10 + 10)) + ((e.rule.bw).length - k) * 20))) (fun si _ => (e.rule.bw).length - (intOf si).toNat)
 case atStart => exact ⟨0, _, rfl, Nat.zero_le _, HAx.out, by show _ = _; rw [List.drop_zero]; exact HF.out, by show Bb.ok _ _; rw [Nat.sub_zero]; exact HOx.out⟩
 case round =>
  clear HAx HOx HF
  obtain ⟨k, b', rfl, hk, HA, HF, HO⟩ := hrel
  have HB := Lib.hid (HA.out.below HW.out (Nat.le_refl _))
  by_cases hlt : k < (e.rule.bw).length
  ·have hkz : (k : Int) < (e.rule.bw).length := by omega
   obtain ⟨x, hx⟩ : ∃ x, (e.rule.bw)[k]? = some x := ⟨_, List.getElem?_eq_getElem hlt⟩
   have hxb := HFit.out.bw x (List.mem_of_getElem? hx)
   have dr_6 := HPr.out wr _ HA.out ⟨wr, Below.refl _ _⟩ 6 (.slice A3 e.rule.bw.length c3) rfl
   simp only at dr_6
   have hds : (e.rule.bw).drop k = x :: (e.rule.bw).drop (k + 1) := by rw [drop_step hlt]; congr 1; exact Option.some.inj ((List.getElem?_eq_getElem hlt).symm.trans hx)
   have HF2 : Hid (Bb.Ev2 e (((e.rule.bw).drop (k + 1)).foldl Bb.EvD (((b').Z (x.1) (-5) 5).N (x.2) 6)) = r) := by show _ = _; rw [← HF.out, hds]; rfl
   have HOr : Hid (b'.ok (((((((((0 + e.ch.length * 30) + 10) + ((e.plus).length * 10 + 10)) + ((e.ex).length * 10 + 10)) + 10) + ((e.rule.bs).length * 10 + 10)) + ((e.rule.bw).length - (k + 1)) * 20) + 10) + 10)) := by have := HO.out; show Bb.ok _ _; unfold Bb.ok at this ⊢; omega
   obtain ⟨b0, off, rfl, _, hc⟩ := (HS3.out wr HB.out).spanG hx
   have E0 := fun g => (hc g).1
   have E1 := fun g => (hc g).2
   have o0 : (b').ok (((((((((0 + e.ch.length * 30) + 10) + ((e.plus).length * 10 + 10)) + ((e.ex).length * 10 + 10)) + 10) + ((e.rule.bs).length * 10 + 10)) + ((e.rule.bw).length - (k + 1)) * 20) + 10) + 10) := HOr.out
   have o1 : ((b').Z (x.1) (-5) 5).ok ((((((((0 + e.ch.length * 30) + 10) + ((e.plus).length * 10 + 10)) + ((e.ex).length * 10 + 10)) + 10) + ((e.rule.bs).length * 10 + 10)) + ((e.rule.bw).length - (k + 1)) * 20) + 10) := Bb.Z_ok hxb.1 o0
   have o2 : (((b').Z (x.1) (-5) 5).N (x.2) 6).ok (((((((0 + e.ch.length * 30) + 10) + ((e.plus).length * 10 + 10)) + ((e.ex).length * 10 + 10)) + 10) + ((e.rule.bs).length * 10 + 10)) + ((e.rule.bw).length - (k + 1)) * 20) := Bb.N_ok hxb.2.2 o1
   have HZ0 := Lib.hid (fun (g : Gr wr) => rbZ_any (b') (x.1) (-5) 5 hxb.1 (Bb.ok_le o0 (Nat.le_add_left _ _)) g.val)
   have HZ1 := Lib.hid (fun (g : Gr wr) => rbN_any ((b').Z (x.1) (-5) 5) (x.2) 6 hxb.2.2 (Bb.ok_le o1 (Nat.le_add_left _ _)) g.val)
   have HO2 := Lib.hid o2
   have C0 := fun g : Gr wr => (HA.out.cells g).1
   have C1 := fun g : Gr wr => (HA.out.cells g).2
   have Pr_6 := fun g : Gr wr => HPr.out wr _ HA.out g 6 (.slice (some ⟨b0, off, none⟩) e.rule.bw.length c3) rfl
   clear o0 o1 o2
   clear hx hds hxb hc
   go_wp2_with fail
   refine Gr.region_last (w0 := wr) (m := 15) (by kernel_rfl) (by kernel_rfl) (Gr.draw0 _) ?_
   simp only [List.take]
   repeat (go_big_quiet_step (fail))
   go_big_quiet_step ((go_at_call 96; exact Gr.calls _ (HZ0.out _)))
   repeat (go_big_quiet_step (fail))
   go_big_quiet_step ((go_at_call 26; exact Gr.calls _ (HZ1.out _)))
   repeat (go_big_quiet_step (fail))
   refine wpQuiet_nil ?_
   rintro _ ⟨g, rfl⟩
   refine wpOp_last (o := _) rfl ?_
   have r0 := C0 g
   have r1 := C1 g
   have rf := HA.out.free g
   have HA2 := Lib.hid (HA.out.step g (((b').Z (x.1) (-5) 5).N (x.2) 6))
   clear C0 C1 Pr_6 E0 E1 dr_6
   go_simp
   clear r0 r1 rf
   go_wp2_with fail
   go_roundw
   case rel => exact ⟨k + 1, _, by go_num, hlt, HA2.out, HF2.out, HO2.out⟩
   case measure => simp [intOf]; omega
  ·obtain rfl : k = (e.rule.bw).length := by omega
   have HF3 : Hid (Bb.Ev2 e b' = r) := by show _ = _; rw [← HF.out, List.drop_of_length_le (Nat.le_refl _)]; rfl
   have HOx : Hid (b'.ok ((((((0 + e.ch.length * 30) + 10) + ((e.plus).length * 10 + 10)) + ((e.ex).length * 10 + 10)) + 10) + ((e.rule.bs).length * 10 + 10))) := by have := HO.out; show Bb.ok _ _; rw [Nat.sub_self, Nat.zero_mul] at this; exact this
   clear HF HO
   have HF := Lib.hid HF3.out
   clear HF3
   have HAx := Lib.hid HA.out
   go_wp2_with fail
   have o0 : (b').ok ((((((0 + e.ch.length * 30) + 10) + ((e.plus).length * 10 + 10)) + ((e.ex).length * 10 + 10)) + 10) + ((e.rule.bs).length * 10 + 10)) := HOx.out
   have o1 : ((b').small (e.rule.bs)).ok (((((0 + e.ch.length * 30) + 10) + ((e.plus).length * 10 + 10)) + ((e.ex).length * 10 + 10)) + 10) := Bb.small_ok HFit.out.bs o0
   have o2 : (((b').small (e.rule.bs)).N (e.rule.start) 6).ok ((((0 + e.ch.length * 30) + 10) + ((e.plus).length * 10 + 10)) + ((e.ex).length * 10 + 10)) := Bb.N_ok HFit.out.rstart.2 o1
   have o3 : ((((b').small (e.rule.bs)).N (e.rule.start) 6).stamps (e.ex) 50).ok (((0 + e.ch.length * 30) + 10) + ((e.plus).length * 10 + 10)) := Bb.stamps_ok HFit.out.ex o2
   have o4 : (((((b').small (e.rule.bs)).N (e.rule.start) 6).stamps (e.ex) 50).stamps (e.plus) 50).ok ((0 + e.ch.length * 30) + 10) := Bb.stamps_ok HFit.out.plus o3
   have o5 : ((((((b').small (e.rule.bs)).N (e.rule.start) 6).stamps (e.ex) 50).stamps (e.plus) 50).N (e.ch.length) 50).ok (0 + e.ch.length * 30) := Bb.N_ok hz7 o4
   have HZ0 := Lib.hid (fun (g : Gr wr) => rbsmall_any (b') (e.rule.bs) A4 c4 g.val HFit.out.bs (HS4.out g.val (HB.out.trans (g.ok.mono HB.out.size))) (Bb.ok_le o0 (Nat.le_add_left _ _)))
   have HZ1 := Lib.hid (fun (g : Gr wr) => rbN_any ((b').small (e.rule.bs)) (e.rule.start) 6 HFit.out.rstart.2 (Bb.ok_le o1 (Nat.le_add_left _ _)) g.val)
   have HZ2 := Lib.hid (fun (g : Gr wr) => rbstamps_any (((b').small (e.rule.bs)).N (e.rule.start) 6) (e.ex) 50 A5 c5 g.val HFit.out.ex (HS5.out g.val (HB.out.trans (g.ok.mono HB.out.size))) (Bb.ok_le o2 (Nat.le_add_left _ _)))
   have HZ3 := Lib.hid (fun (g : Gr wr) => rbstamps_any ((((b').small (e.rule.bs)).N (e.rule.start) 6).stamps (e.ex) 50) (e.plus) 50 A6 c6 g.val HFit.out.plus (HS6.out g.val (HB.out.trans (g.ok.mono HB.out.size))) (Bb.ok_le o3 (Nat.le_add_left _ _)))
   have HZ4 := Lib.hid (fun (g : Gr wr) => rbN_any (((((b').small (e.rule.bs)).N (e.rule.start) 6).stamps (e.ex) 50).stamps (e.plus) 50) (e.ch.length) 50 hz7 (Bb.ok_le o4 (Nat.le_add_left _ _)) g.val)
   have HO2 := Lib.hid o5
   have C0 := fun g : Gr wr => (HA.out.cells g).1
   have C1 := fun g : Gr wr => (HA.out.cells g).2
   have Pr_7 := fun g : Gr wr => HPr.out wr _ HA.out g 7 (.slice A4 e.rule.bs.length c4) rfl
   have Pr_8 := fun g : Gr wr => HPr.out wr _ HA.out g 8 (.int .i64 e.rule.start) rfl
   have Pe_13 := fun g : Gr wr => HPe.out wr _ HA.out g 13 (.slice A5 e.ex.length c5) rfl
   have Pe_14 := fun g : Gr wr => HPe.out wr _ HA.out g 14 (.slice A6 e.plus.length c6) rfl
   have Pe_15 := fun g : Gr wr => HPe.out wr _ HA.out g 15 (.slice A7 e.ch.length c7) rfl
   clear o0 o1 o2 o3 o4 o5
   refine Gr.region_last (w0 := wr) (m := 17) (by kernel_rfl) (by kernel_rfl) (Gr.draw0 _) ?_
   simp only [List.take]
   repeat (go_big_quiet_step (fail))
   go_big_quiet_step ((go_at_call 98; exact Gr.calls _ (HZ0.out _)))
   repeat (go_big_quiet_step (fail))
   go_big_quiet_step ((go_at_call 26; exact Gr.calls _ (HZ1.out _)))
   repeat (go_big_quiet_step (fail))
   go_big_quiet_step ((go_at_call 73; exact Gr.calls _ (HZ2.out _)))
   repeat (go_big_quiet_step (fail))
   go_big_quiet_step ((go_at_call 73; exact Gr.calls _ (HZ3.out _)))
   repeat (go_big_quiet_step (fail))
   go_big_quiet_step ((go_at_call 26; exact Gr.calls _ (HZ4.out _)))
   repeat (go_big_quiet_step (fail))
   refine wpQuiet_nil ?_
   rintro _ ⟨g, rfl⟩
   refine wpOp_last (o := _) rfl ?_
   have r0 := C0 g
   have r1 := C1 g
   have rf := HA.out.free g
   have HA2 := Lib.hid (HA.out.step g ((((((b').small (e.rule.bs)).N (e.rule.start) 6).stamps (e.ex) 50).stamps (e.plus) 50).N (e.ch.length) 50))
   clear C0 C1 Pr_7 Pr_8 Pe_13 Pe_14 Pe_15 
   go_simp
   clear r0 r1 rf
   obtain ⟨w3, hw3⟩ : ∃ x, ((g.val.setCell ⟨w.heap.size, 0, none⟩ (.string ⟨((((((b').small (e.rule.bs)).N (e.rule.start) 6).stamps (e.ex) 50).stamps (e.plus) 50).N (e.ch.length) 50).s.toArray⟩)).setCell ⟨w.heap.size, 1, none⟩ (.bool ((((((b').small (e.rule.bs)).N (e.rule.start) 6).stamps (e.ex) 50).stamps (e.plus) 50).N (e.ch.length) 50).bad)) = x := ⟨_, rfl⟩
   rw [hw3] at HA2 ⊢
   clear hw3
   have HAw3 := Lib.hid HA2.out
   have HOw3 := Lib.hid HO2.out
   clear HA2 HO2
   have qe_15 := HPe.out w3 _ HAw3.out ⟨w3, Below.refl _ _⟩ 15 (.slice A7 e.ch.length c7) rfl
   simp only at qe_15
   go_wp2_with fail
   clear qe_15
   clear HAx HOx
   have HAx := Lib.hid HAw3.out
   have HOx := Lib.hid HOw3.out
   clear HAw3 HOw3
   go_loopw [92] (fun si wr => ∃ (k : Nat) (b' : Bb), si = .int .i64 k ∧ k ≤ (e.ch).length ∧ Hid (Acc wq wr w.heap.size b') ∧ Hid ((((e.ch).drop k).foldl Bb.EvC b') = r) ∧ Hid (b'.ok (0 + ((e.ch).length - k) * 30))) (fun si _ => (e.ch).length - (intOf si).toNat)
   case atStart => exact ⟨0, _, rfl, Nat.zero_le _, HAx.out, by show _ = _; rw [List.drop_zero]; exact HF.out, by show Bb.ok _ _; rw [Nat.sub_zero]; exact HOx.out⟩
   case round =>
    clear HAx HOx HF
    obtain ⟨k, b', rfl, hk, HA, HF, HO⟩ := hrel
    have HB := Lib.hid (HA.out.below HW.out (Nat.le_refl _))
    by_cases hlt : k < (e.ch).length
    ·have hkz : (k : Int) < (e.ch).length := by omega
     obtain ⟨x, hx⟩ : ∃ x, (e.ch)[k]? = some x := ⟨_, List.getElem?_eq_getElem hlt⟩
     have hxb := HFit.out.ch x (List.mem_of_getElem? hx)
     have de_15 := HPe.out wr _ HA.out ⟨wr, Below.refl _ _⟩ 15 (.slice A7 e.ch.length c7) rfl
     simp only at de_15
     have hds : (e.ch).drop k = x :: (e.ch).drop (k + 1) := by rw [drop_step hlt]; congr 1; exact Option.some.inj ((List.getElem?_eq_getElem hlt).symm.trans hx)
     have HF2 : Hid ((((e.ch).drop (k + 1)).foldl Bb.EvC ((((b').M (x.1)).M (x.2.1)).N (x.2.2) 10080)) = r) := by show _ = _; rw [← HF.out, hds]; rfl
     have HOr : Hid (b'.ok ((((0 + ((e.ch).length - (k + 1)) * 30) + 10) + 10) + 10)) := by have := HO.out; show Bb.ok _ _; unfold Bb.ok at this ⊢; omega
     obtain ⟨b0, off, rfl, _, hc⟩ := (HS7.out wr HB.out).tG hx
     have E0 := fun g => (hc g).1
     have E1 := fun g => (hc g).2.1
     have E2 := fun g => (hc g).2.2
     have o0 : (b').ok ((((0 + ((e.ch).length - (k + 1)) * 30) + 10) + 10) + 10) := HOr.out
     have o1 : ((b').M (x.1)).ok (((0 + ((e.ch).length - (k + 1)) * 30) + 10) + 10) := Bb.M_ok hxb.1 o0
     have o2 : (((b').M (x.1)).M (x.2.1)).ok ((0 + ((e.ch).length - (k + 1)) * 30) + 10) := Bb.M_ok hxb.2.1 o1
     have o3 : ((((b').M (x.1)).M (x.2.1)).N (x.2.2) 10080).ok (0 + ((e.ch).length - (k + 1)) * 30) := Bb.N_ok hxb.2.2.2 o2
     have HZ0 := Lib.hid (fun (g : Gr wr) => rbM_any (b') (x.1)  hxb.1 (Bb.ok_le o0 (Nat.le_add_left _ _)) g.val)
     have HZ1 := Lib.hid (fun (g : Gr wr) => rbM_any ((b').M (x.1)) (x.2.1)  hxb.2.1 (Bb.ok_le o1 (Nat.le_add_left _ _)) g.val)
     have HZ2 := Lib.hid (fun (g : Gr wr) => rbN_any (((b').M (x.1)).M (x.2.1)) (x.2.2) 10080 hxb.2.2.2 (Bb.ok_le o2 (Nat.le_add_left _ _)) g.val)
     have HO2 := Lib.hid o3
     have C0 := fun g : Gr wr => (HA.out.cells g).1
     have C1 := fun g : Gr wr => (HA.out.cells g).2
     have Pe_15 := fun g : Gr wr => HPe.out wr _ HA.out g 15 (.slice (some ⟨b0, off, none⟩) e.ch.length c7) rfl
     clear o0 o1 o2 o3
     clear hx hds hxb hc
     go_wp2_with fail
     refine Gr.region_last (w0 := wr) (m := 22) (by kernel_rfl) (by kernel_rfl) (Gr.draw0 _) ?_
     simp only [List.take]
     repeat (go_big_quiet_step (fail))
     go_big_quiet_step ((go_at_call 28; exact Gr.calls _ (HZ0.out _)))
     repeat (go_big_quiet_step (fail))
     go_big_quiet_step ((go_at_call 28; exact Gr.calls _ (HZ1.out _)))
     repeat (go_big_quiet_step (fail))
     go_big_quiet_step ((go_at_call 26; exact Gr.calls _ (HZ2.out _)))
     repeat (go_big_quiet_step (fail))
     refine wpQuiet_nil ?_
     rintro _ ⟨g, rfl⟩
     refine wpOp_last (o := _) rfl ?_
     have r0 := C0 g
     have r1 := C1 g
     have rf := HA.out.free g
     have HA2 := Lib.hid (HA.out.step g ((((b').M (x.1)).M (x.2.1)).N (x.2.2) 10080))
     clear C0 C1 Pe_15 E0 E1 E2 de_15
     go_simp
     clear r0 r1 rf
     go_wp2_with fail
     go_roundw
     case rel => exact ⟨k + 1, _, by go_num, hlt, HA2.out, HF2.out, HO2.out⟩
     case measure => simp [intOf]; omega
    ·obtain rfl : k = (e.ch).length := by omega
     have HF3 : Hid (b' = r) := by show _ = _; rw [← HF.out, List.drop_of_length_le (Nat.le_refl _)]; rfl
     have HOx : Hid (b'.ok 0) := by have := HO.out; show Bb.ok _ _; rw [Nat.sub_self, Nat.zero_mul] at this; exact this
     clear HF HO
     have HF := Lib.hid HF3.out
     clear HF3
     have HAx := Lib.hid HA.out
     obtain ⟨c0, c1⟩ := HA.out.cells ⟨wr, Below.refl _ _⟩
     have hR := HA.out.off.heap HR.out (by omega)
     have r0 := blk_cell hR (i := 0) rfl
     have r1 := blk_cell hR (i := 1) rfl
     have rf := blk_free hR
     have HZ := two_set hR (.string ⟨b'.s.toArray⟩) (.bool b'.bad)
     have z0 := blk_cell HZ (i := 0) rfl
     have z1 := blk_cell HZ (i := 1) rfl
     clear hR HZ
     simp only at c0 c1
     rw [hRB] at r0 r1 rf z0 z1
     go_wp2_with fail
     exact bodyPost_ret (v := .agg #[.string ⟨b'.s.toArray⟩, .bool b'.bad]) (by simp [results, Tryz.results48, go_sem, z0, z1]) rfl ⟨by rw [← show b' = r from HF.out], (HB.out.setCell (p := ⟨w.heap.size + 2, 0, none⟩) (Nat.le_add_right _ _) _).setCell (p := ⟨w.heap.size + 2, 1, none⟩) (Nat.le_add_right _ _) _⟩
theorem rbEvent_any (b : Bb) (e : Evt) (p : EvP) (w : World) (hf : e.Fits) (h : EvAt w e p) (hl : b.ok e.cost) :
  Calls Tryz.prog 48 #[.agg #[.string ⟨b.s.toArray⟩, .bool b.bad], .agg (eCells e p).toArray] w fun q w' => q = .returned (.agg #[.string ⟨(b.Event e).s.toArray⟩, .bool (b.Event e).bad]) ∧ Below w.heap.size w w' := by
 cases ha : e.again with
 | false => exact rbEvent_once b e p w ha hf h hl
 | true => exact rbEvent_again b e p w ha hf h hl
theorem Bb.Event_ok {b : Bb} {e : Evt} {k : Nat} (hf : e.Fits) (h : b.ok (k + e.cost)) : (b.Event e).ok k := by
 have hb := h
 unfold Bb.ok Evt.cost at hb
 have z1 : (e.rule.bw.length : Int) ≤ 9223372036854775807 := by omega
 have z2 : (e.ch.length : Int) ≤ 9223372036854775807 := by omega
 have h0 : b.ok (k + e.ch.length * 30 + 10 + (e.plus.length * 10 + 10) + (e.ex.length * 10 + 10) + 10 + (e.rule.bs.length * 10 + 10) + e.rule.bw.length * 20 + 10 + (e.rule.bd.length * 10 + 10) + (e.rule.bm.length * 10 + 10) + 10 + 10 + 10 + 10 + 10 + 10 + 10) := by unfold Bb.ok; omega
 have h1 := Bb.F_ok (is := e.again) (Bb.N_ok (most := 10080) hf.long.2 (Bb.M_ok hf.start h0))
 unfold Bb.Event
 split
 ·have h2 := Bb.N_ok (most := 400) z1 (Bb.small_ok hf.bd (Bb.small_ok hf.bm (Bb.M_ok hf.until_ (Bb.N_ok (most := 5000) hf.count.2 (Bb.N_ok (most := 999) hf.iv.2 (Bb.N_ok (most := 4) hf.freq.2 h1))))))
  have h3 := fold_ok (f := Bb.EvD) (C := 20) e.rule.bw _ _ (fun b x k hx h => Bb.N_ok (hf.bw x hx).2.2 (Bb.Z_ok (hf.bw x hx).1 h)) h2
  have h4 := Bb.N_ok (most := 50) z2 (Bb.stamps_ok (most := 50) hf.plus (Bb.stamps_ok (most := 50) hf.ex (Bb.N_ok (most := 6) hf.rstart.2 (Bb.small_ok hf.bs h3))))
  exact fold_ok (f := Bb.EvC) (C := 30) e.ch _ _ (fun b x k hx h => Bb.N_ok (hf.ch x hx).2.2.2 (Bb.M_ok (hf.ch x hx).2.1 (Bb.M_ok (hf.ch x hx).1 h))) h4
 ·exact Bb.F_ok (Bb.ok_le h1 (by omega))
end Go.Proofs.YtdhinjbkfffpeaaGreat
end
