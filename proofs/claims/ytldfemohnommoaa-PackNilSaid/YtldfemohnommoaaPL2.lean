/- The laws' walks: a nil writer and a nil reader; how many bytes a number has; one way. -/
import Derived.Test.YtldfemohnommoaaPL1
import Derived.Deep.Cut
namespace Go.Proofs.Ytldfemohnommoaa
open Go.ChangeShapes Go.WideShapes Go.ChangeAt Go.RowKit Go.Joins Fr Pk

set_option maxRecDepth 100000 in
set_option maxHeartbeats 2000000 in
theorem packNil_walk (o : Op8) (w : World) :
    Calls Try.prog 5 #[.agg #[.int .i64 o.k, .int .u64 o.n, .int .i64 o.s, .string o.t, .bool o.f]] w fun e w' => e = .returned (.bool true) ∧ Below w.heap.size w w' := by
  obtain ⟨k, n, s, t, f⟩ := o
  obtain ⟨W1, hW1⟩ : ∃ W1, w.alloc (.cells #[.int .i64 k, .int .u64 n, .int .i64 s, .string t, .bool f] 28) = W1 := ⟨_, rfl⟩
  have hb1 : Below w.heap.size w W1 := by rw [← hW1]; exact (Below.refl _ _).alloc (Nat.le_refl _) _
  have hblk : W1.heap[w.heap.size]? = some (.cells #[.int .i64 k, .int .u64 n, .int .i64 s, .string t, .bool f] 28 (0, 0)) := by rw [← hW1]; exact heap_alloc_new _ _
  have hcell : ∀ (g : Gr W1) (i : Nat) (v : Value), (#[Value.int .i64 k, .int .u64 n, .int .i64 s, .string t, .bool f] : Array Value)[i]? = some v → g.val.cell? ⟨w.heap.size, i, none⟩ = some v := fun g i v hv => cell_old (by simp [World.cell?, hblk, hv]) g.ok
  have c1 := fun g => hcell g 1 (.int .u64 n) rfl
  have c2 := fun g => hcell g 2 (.int .i64 s) rfl
  have c3 := fun g => hcell g 3 (.string t) rfl
  have c4 := fun g => hcell g 4 (.bool f) rfl
  have d1 := c1 ⟨W1, Below.refl _ _⟩
  have d2 := c2 ⟨W1, Below.refl _ _⟩
  have d3 := c3 ⟨W1, Below.refl _ _⟩
  have d4 := c4 ⟨W1, Below.refl _ _⟩
  have HB := Lib.hid hb1
  have E1 := Lib.hid hW1
  have HF := Lib.hid (fixed8_any W1)
  clear hcell hblk hb1 hW1
  go_enter Try.func5, Try.ntmps5
  go_upto_region 1 with fail
  rw [E1.out]
  go_wp2_with fail
  go_at_call 10
  refine (wr_number_nil _ _).mono ?_
  rintro e w' ⟨rfl, rfl⟩
  go_wp2_with fail
  go_at_call 12
  refine (wr_signed_nil _ _).mono ?_
  rintro e w' ⟨rfl, rfl⟩
  go_wp2_with fail
  go_at_call 14
  refine (wr_text_nil _ _).mono ?_
  rintro e w' ⟨rfl, rfl⟩
  go_wp2_with fail
  go_at_call 16
  refine (wr_flag_nil _ _).mono ?_
  rintro e w' ⟨rfl, rfl⟩
  go_wp2_with fail
  go_at_call 8
  refine HF.out.mono ?_
  rintro e w2 ⟨rfl, hb⟩
  obtain ⟨g, rfl⟩ := Gr.of hb
  clear hb
  go_wp2_with fail
  go_at_call 18
  refine (wr_bytes_nil _).mono ?_
  rintro e w' ⟨rfl, rfl⟩
  go_wp2_with fail
  go_at_call 20
  refine (rd_number_nil _ _).mono ?_
  rintro e w' ⟨rfl, rfl⟩
  go_wp2_with fail
  go_at_call 21
  refine (rd_signed_nil _).mono ?_
  rintro e w' ⟨rfl, rfl⟩
  go_wp2_with fail
  go_at_call 22
  refine (rd_text_nil _ _).mono ?_
  rintro e w' ⟨rfl, rfl⟩
  go_wp2_with fail
  go_at_call 23
  refine (rd_flag_nil _).mono ?_
  rintro e w' ⟨rfl, rfl⟩
  go_wp2_with fail
  go_at_call 25
  refine (rd_end_nil _).mono ?_
  rintro e w' ⟨rfl, rfl⟩
  go_wp2_with fail
  go_at_call 24
  refine (rd_bad_nil _).mono ?_
  rintro e w' ⟨rfl, rfl⟩
  go_wp2_with fail
  go_ret
  exact ⟨rfl, HB.out.trans (g.ok.mono HB.out.size)⟩
end Go.Proofs.Ytldfemohnommoaa
