/- The laws' walks: the chapter's example; a nil writer and a nil reader; how many bytes a number has; one way. -/
import Derived.Test.YtldfemohnommoaaPV2
import Derived.Test.YtldfemohnommoaaPV4
import Derived.Test.YtldfemohnommoaaPO
namespace Go.Proofs.Ytldfemohnommoaa
open Go.ChangeShapes Go.WideShapes Go.ChangeAt Go.RowKit Go.Joins Fr Pk

theorem WrTo.toBelow {w w' : World} {D B : Nat} {l : List UInt8} {F : Nat → Prop} (h : WrTo w w' D l F) (hB : B ≤ w.heap.size) (hF : ∀ b, F b → B ≤ b) : Below B w w' := by
  obtain ⟨F', _, o, _⟩ := h
  exact o.toBelow hB hF
theorem num300 : numT 300 = [172, 2] := by rw [num_great (by decide), num_small (by decide)]; rfl
theorem rd1280 : rdNum 1000 (some [128, 0]) = (0, none) := by decide

set_option maxRecDepth 100000 in
set_option maxHeartbeats 2000000 in
theorem fixed8_any (w : World) :
    Calls Try.prog 8 #[] w fun e w' => e = .returned (.bool true) ∧ Below w.heap.size w w' := by
  have HN := Lib.hid (wr_new w)
  go_enter Try.func8, Try.ntmps8
  go_wp2_with fail
  go_at_call 9
  refine HN.out.mono ?_
  rintro e w1 ⟨D, F, rfl, h1, b1, f1⟩
  have HW := Lib.hid (wr_number_any D 300 (by omega) [] F (by simp) w1 h1)
  rw [List.nil_append, num300] at HW
  have B1 := Lib.hid b1
  have F1 := Lib.hid f1
  clear h1 b1 f1
  go_wp2_with fail
  go_at_call 10
  refine HW.out.mono ?_
  rintro e w2 ⟨rfl, hT⟩
  have B2 : Hid (Below w.heap.size w w2) := B1.out.trans (hT.toBelow B1.out.size F1.out)
  obtain ⟨F2, h2, _, _⟩ := hT
  have HB := Lib.hid (wr_bytes_any D [172, 2] F2 (by decide) w2 h2)
  clear h2
  go_wp2_with fail
  go_at_call 18
  refine HB.out.mono ?_
  rintro e w3 hR
  obtain ⟨A3, c3, rfl, hf⟩ := hR.fresh
  obtain ⟨b, off, rfl, _, hc⟩ := hf.at_.1 (by decide)
  have B3 : Hid (Below w.heap.size w w3) := B2.out.trans (hf.below.mono B2.out.size)
  have q0 := hc 0 172 rfl
  have q1 := hc 1 2 rfl
  have hb0 : Hid (∀ w' : World, Below w3.heap.size w3 w' → w'.cell? ⟨b, off, none⟩ = some (.int .u8 172) ∧ w'.cell? ⟨b, off + 1, none⟩ = some (.int .u8 2)) := fun w' hb => ⟨cell_old q0 hb, cell_old q1 hb⟩
  simp only [List.length_cons, List.length_nil, Nat.reduceAdd]
  clear hf hR hc q0 q1
  obtain ⟨W4, hW4⟩ : ∃ W4, w3.alloc (.cells #[.int .u8 128, .int .u8 0] 5) = W4 := ⟨_, rfl⟩
  have E4 := Lib.hid hW4
  have b4 : Below w3.heap.size w3 W4 := by rw [← hW4]; exact (Below.refl _ _).alloc (Nat.le_refl _) _
  have hB4 : BAt W4 (some ⟨w3.heap.size, 0, none⟩) [128, 0] := by rw [← hW4]; exact BAt.new w3 [128, 0] 5 (0, 0)
  have HR := Lib.hid (rd_new (some ⟨w3.heap.size, 0, none⟩) 2 [128, 0] (by decide) (by decide) (fun h => by cases h) (by decide) W4 hB4)
  have B4 := Lib.hid b4
  clear hW4 b4 hB4
  go_wp2_with fail
  rw [E4.out]
  go_at_call 19
  refine HR.out.mono ?_
  rintro e w5 ⟨R, G, rfl, h5, b5, f5⟩
  have B5 : Hid (Below w3.heap.size w3 w5) := B4.out.trans (b5.mono B4.out.size)
  have B6 : Hid (Below w.heap.size w w5) := B3.out.trans (B5.out.mono B3.out.size)
  obtain ⟨q0, q1⟩ := hb0.out w5 B5.out
  have HN2 := Lib.hid (rd_number R 1000 (by omega) _ G w5 h5)
  rw [rd1280] at HN2
  have F5 : Hid (∀ b, G b → w.heap.size ≤ b) := fun b hb => Nat.le_trans B3.out.size (Nat.le_trans B4.out.size (f5 b hb))
  clear h5 b5 f5
  go_wp2_with fail
  go_at_call 20
  refine HN2.out.mono ?_
  rintro e w6 ⟨rfl, hT⟩
  have B7 : Hid (Below w.heap.size w w6) := B6.out.trans (hT.toBelow B6.out.size F5.out)
  have HBd := Lib.hid (rd_bad R _ G w6 hT.1)
  clear hT
  go_wp2_with fail
  go_at_call 24
  refine HBd.out.mono ?_
  rintro e w' ⟨rfl, rfl⟩
  go_wp2_with fail
  go_ret
  exact ⟨rfl, B7.out⟩
end Go.Proofs.Ytldfemohnommoaa
