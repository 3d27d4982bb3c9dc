import Derived.Test.YtibnbpiachdmdaaZEP2
import Derived.Test.YtibnbpiachdmdaaZNI
/- Contracts of the program's pickers: one of a stream. -/
section
namespace Go.Proofs.Ytibnbpiachdmdaa
open Go.ChangeShapes Go.WideShapes Go.ChangeAt Go.RowKit Go.Joins Sp
/-- A picker was made. -/
def PickRet (w : World) (c : Value) (E : Int → Prop) (F : Nat → Prop) (e : Ending) (w' : World) : Prop :=
  ∃ P F', e = .returned P ∧ PkA w' c P E F' ∧ (∀ b, F' b → F b ∨ w.heap.size ≤ b) ∧ Below w.heap.size w w'
set_option maxRecDepth 100000 in
set_option maxHeartbeats 4000000 in
theorem ppick_any (w : World) (c p : Value) (L : List Spn) (q : Nat) (F : Nat → Prop) (a g : Int) (_ha : Int64P a) (_hg : Int64P g) (h : StL w c p L q F) :
    Calls Try.prog 10 #[p, .int .i64 a, .int .i64 g] w (PickRet w c (Est L (kN a) (kN g)) F) := by
  obtain ⟨pa, rfl⟩ := h.ptr
  have hka : 1 ≤ kN a ∧ kN a ≤ 1099511627776 := by unfold kN; omega
  have hkg : 1 ≤ kN g ∧ kN g ≤ 1099511627776 := by unfold kN; omega
  obtain ⟨W1, hW1⟩ : ∃ W1, w.alloc (.cells #[.int .i64 (-9223372036854775808), .int .i64 (-9223372036854775808)] 26) = W1 := ⟨_, rfl⟩
  have hb1 : Below w.heap.size w W1 := by rw [← hW1]; exact (Below.refl _ w).alloc (Nat.le_refl _) _
  have hx1 : W1.heap[w.heap.size]? = some (.cells #[.int .i64 (-9223372036854775808), .int .i64 (-9223372036854775808)] 26 (0, 0)) := by rw [← hW1]; exact heap_alloc_new _ _
  have HH := Lib.hid (fun (n : Int) (V : World) => pheld_any n V)
  have HSM : Hid (w.heap.size < W1.heap.size) := heap_lt hx1
  have HX : Hid (∀ G : Gr W1, G.val.cell? ⟨w.heap.size, 0, none⟩ = some (.int .i64 (-9223372036854775808)) ∧ G.val.cell? ⟨w.heap.size, 1, none⟩ = some (.int .i64 (-9223372036854775808))) := fun G =>
    ⟨blk_cell (blk_below hx1 G.ok) (i := 0) rfl, blk_cell (blk_below hx1 G.ok) (i := 1) rfl⟩
  have HST : Hid (∀ G : Gr W1, Calls Try.prog 16 #[.pointer pa, .int .i64 (kN a)] G.val (MkRet c (startsL L (kN a)) q 1 (fun i x => i = 0 ∧ F x) G.val)) := fun G =>
    pstarts14_any G.val c (.pointer pa) L q F (kN a) (by unfold Int64P; omega) (h.off (G := fun _ => False) (.of_below (hb1.trans (G.ok.mono hb1.size))) fun _ _ => id)
  have HE : Hid (∀ (w0 w2 : World) (qa : Option Addr), Below W1.heap.size W1 w0 → StL w2 c (.pointer qa) (startsL L (kN a)) q (NewF w0 w2 1 fun i x => i = 0 ∧ F x) → Below w0.heap.size w0 w2 → 
      PickRet w c (Est L (kN a) (kN g)) F (.returned (.pointer (some ⟨w2.heap.size, 0, none⟩))) (w2.alloc (.cells #[.pointer qa, .int .i64 (kN g), .int .i64 (-9223372036854775808), .int .i64 (-9223372036854775808)] 47))) := by
    intro w0 w2 qa hb0 hs hb2
    have hbw0 := hb1.trans (hb0.mono hb1.size)
    have hbw2 := hbw0.trans (hb2.mono hbw0.size)
    have hal : Below w2.heap.size w2 (w2.alloc (.cells #[.pointer qa, .int .i64 (kN g), .int .i64 (-9223372036854775808), .int .i64 (-9223372036854775808)] 47)) := (Below.refl _ w2).alloc (Nat.le_refl _) _
    have hls := hs.lt
    refine ⟨_, fun b => NewF w0 w2 1 (fun i x => i = 0 ∧ F x) b ∨ b = w2.heap.size, rfl, .inr ⟨w2.heap.size, qa, startsL L (kN a), q, _, kN g, -9223372036854775808, -9223372036854775808, rfl, heap_alloc_new _ _, .inr rfl, fun hx => by have := hls _ hx; omega, fun k hk => .inl hk, fun k hk => ?_, hs.off (G := fun _ => False) (.of_below hal) fun _ _ => id, hkg, by unfold Int64P; omega, by unfold Int64P; omega, fun x => ?_⟩, fun b hb => ?_, hbw2.trans (hal.mono hbw2.size)⟩
    · rcases hk with hk | rfl
      · have := hls _ hk; have := hal.size; omega
      · simp
    · have e1 : max 1 (kN a) = kN a := by omega
      have hh := startsL_has L (kN a) x
      rw [e1] at hh
      unfold Est
      rw [← hh]
      constructor
      · rintro ⟨q1, q2⟩
        obtain ⟨s, hs1, s1, s2⟩ := q2
        have := hs.2.1 s hs1
        exact ⟨q1, by omega, .inr ⟨s, hs1, s1, s2⟩⟩
      · rintro ⟨q1, q2, q3⟩
        exact ⟨q1, q3.elim (fun h => by omega) id⟩
    · rcases hb with (⟨_, _, _, hb⟩ | ⟨hb, _⟩) | rfl
      · exact .inl hb
      · right; have := hbw0.size; omega
      · right; exact hbw2.size
  have HA : Hid (Below W1.heap.size W1 W1.drew) := drew_below W1
  clear h hb1 hx1 hka hkg
  go_enter Try.func10, Try.ntmps10
  go_upto_region 2 with fail
  try rw [hW1]
  clear hW1
  obtain ⟨e0, e1⟩ := HX.out ⟨W1.drew, HA.out⟩
  go_region_with (first
    | (go_at_call 17; refine (HH.out _ _).mono ?_; rintro e w' ⟨rfl, rfl⟩)
    | (go_at_call 16; refine (HST.out ⟨_, HA.out⟩).mono ?_; rintro e w' ⟨p, rfl, hs, hb⟩; obtain ⟨qa, rfl⟩ := hs.ptr; obtain ⟨f0, f1⟩ := HX.out ⟨w', HA.out.trans (hb.mono HA.out.size)⟩))
  all_goals
    go_wp2_with fail
    go_ret
    exact HE.out _ _ qa HA.out hs hb
end Go.Proofs.Ytibnbpiachdmdaa
end
