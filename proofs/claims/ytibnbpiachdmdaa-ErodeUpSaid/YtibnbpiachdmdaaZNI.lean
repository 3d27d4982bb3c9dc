import Derived.Test.YtibnbpiachdmdaaZNG
/- Contracts of the program's streams: one is grown; its starts. -/
section
namespace Go.Proofs.Ytibnbpiachdmdaa
open Go.ChangeShapes Go.WideShapes Go.ChangeAt Go.RowKit Go.Joins Sp
/-- What the making of a stream of one other leaves, once cells of its own are put. -/
theorem one_made {w w' : World} {c p : Value} {L L' : List Spn} {n : Nat} {F : Nat → Prop} {b : Nat} {o : Ob} {K : Int → Prop} {A : Option Addr} {d : Nat} (h : StL w c p L n F) (hb : Below w.heap.size w w') (hs : Sl w' A 1 d [p]) (hA : ∀ a, A = some a → a.block ≠ b ∧ w.heap.size ≤ a.block ∧ a.block < w'.heap.size) (hbn : w.heap.size ≤ b)
    (hk : w'.heap[b]? = some (.cells o.cs 54 (0, 0))) (hok : o.Ok) (hu : o.unt = -9223372036854775808) (hba : o.ba = A ∧ o.bn = 1 ∧ o.bc = d) (hf : form L') (h64 : In64 L') (his : ∀ x, has L' x ↔ o.lo ≤ x ∧ x < o.hi ∧ K x)
    (hkd : ∀ lv, Kids (Rof (Lv c lv)) w' b o.ba o.bn o.bc [p] (fun _ x => has L x) (-9223372036854775808) n (NewF w w' 1 fun i x => i = 0 ∧ F x) → Kd (Rof (Lv c lv)) w' b o c K (-9223372036854775808) n (NewF w w' 1 fun i x => i = 0 ∧ F x)) :
    MkRet c L' n 1 (fun i x => i = 0 ∧ F x) w (.returned (.pointer (some ⟨b, 0, none⟩))) w' := by
  obtain ⟨lv, hkk⟩ := kid_of h (b := b) hs hA hbn hb
  exact ⟨_, rfl, StL.of_node (lv := lv) hb (fun i x _ hx => h.lt x hx.2) hk hbn hok hu hf h64 his (hkd lv (by rw [hba.1, hba.2.1, hba.2.2]; exact hkk)), hb⟩
set_option maxRecDepth 100000 in
set_option maxHeartbeats 8000000 in
theorem pstarts14_any (w : World) (c p : Value) (L : List Spn) (n : Nat) (F : Nat → Prop) (a : Int) (ha : Int64P a) (h : StL w c p L n F) :
    Calls Try.prog 16 #[p, .int .i64 a] w (MkRet c (startsL L a) n 1 (fun i x => i = 0 ∧ F x) w) := by
  obtain ⟨pa, rfl⟩ := h.ptr
  obtain ⟨lo, hi, r1, r2, r3, hro⟩ := h.roomOf
  obtain ⟨l1, l2⟩ := r1
  obtain ⟨i1, i2⟩ := r2
  obtain ⟨z, hz, z1, z2, z3, z4⟩ := max_forms a 1
  obtain ⟨a1, a2⟩ := ha
  have e1 : IntKind.i64.wrap (z - 1) = z - 1 := by rw [IntKind.wrap_i64]; omega
  obtain ⟨hi2, hh2⟩ : ∃ v, max hi (-9223372036854775808 + (z - 1)) - (z - 1) = v := ⟨_, rfl⟩
  have HLS := Lib.hid (fun w : World => pless_any hi (z - 1) ⟨i1, i2⟩ (by omega) w)
  rw [hh2] at HLS
  have HRO := Lib.hid (hro ⟨w, Below.refl _ _⟩)
  have HST := Lib.hid h
  have HE : Hid (∀ (w' : World) (b : Nat) (A : Option Addr) (d : Nat), Below w.heap.size w w' → Sl w' A 1 d [.pointer pa] → (∀ a, A = some a → a.block ≠ b ∧ w.heap.size ≤ a.block ∧ a.block < w'.heap.size) → w.heap.size ≤ b → w'.heap[b]? = some (.cells ({ ob0 5 lo hi2 A 1 d with lg := z } : Ob).cs 54 (0, 0)) →
      MkRet c (startsL L a) n 1 (fun i x => i = 0 ∧ F x) w (.returned (.pointer (some ⟨b, 0, none⟩))) w') := by
    intro w' b A d hb hs hA hbn hk
    have ho := ob0_ok (kd := 5) (lo := lo) (hi := hi2) (A := A) (n := 1) (d := d) ⟨l1, l2⟩ (by unfold Int64P; omega)
    have his : ∀ x, has (startsL L a) x ↔ lo ≤ x ∧ x < hi2 ∧ ∀ y, x ≤ y → y < x + z → has L y := fun x => by
      rw [startsL_has, show max 1 a = z by omega]
      refine ⟨fun hx => ?_, fun hx => hx.2.2⟩
      have q1 := r3 x (hx x (by omega) (by omega))
      have q2 := r3 (x + z - 1) (hx _ (by omega) (by omega))
      exact ⟨q1.1, by omega, hx⟩
    refine one_made (L' := startsL L a) (K := fun x => ∀ y, x ≤ y → y < x + z → has L y) h hb hs hA hbn hk ⟨ho.lo, ho.hi, ho.unt, ho.h1, ho.h2, ho.ah, ho.be, by unfold Int64P; simp only; omega, ho.gn⟩ rfl ⟨rfl, rfl, rfl⟩ (startsL_form L a) (form_bd (startsL_form L a) fun x hx => ?_) his fun lv hkk => .starts _ (fun x => has L x) rfl hkk (by show 1 ≤ z; omega) (fun x => Iff.rfl) fun y h1 h2 => ?_
    · have := (his x).1 hx; omega
    · have g1 : (-9223372036854775808 : Int) ≤ y := h1
      have g2 : y < (-9223372036854775808 : Int) := h2
      omega
  have hzb : 1 ≤ z ∧ z ≤ 9223372036854775807 := by omega
  clear hro h r3 hh2
  have HZ := Lib.hid hz
  go_enter Try.func16, Try.ntmps16
  go_wp2_with fail
  go_at_call 23
  refine HRO.out.mono ?_
  rintro e w1 ⟨rfl, hb1⟩
  obtain ⟨W2, hW2⟩ : ∃ W2, w1.alloc (.cells #[.int .i64 lo, .int .i64 hi] 26) = W2 := ⟨_, rfl⟩
  have hb2 : Below w1.heap.size w1 W2 := by rw [← hW2]; exact (Below.refl _ _).alloc (Nat.le_refl _) _
  have hbx2 : W2.heap[w1.heap.size]? = some (.cells #[.int .i64 lo, .int .i64 hi] 26 (0, 0)) := by rw [← hW2]; exact heap_alloc_new _ _
  have hb02 : Below w.heap.size w W2 := hb1.trans (hb2.mono hb1.size)
  have hbs : w.heap.size ≤ w1.heap.size := hb1.size
  have e0 : _ = some (Value.int .i64 lo) := blk_cell hbx2 (i := 0) rfl
  have e2 : _ = some (Value.int .i64 hi) := blk_cell hbx2 (i := 1) rfl
  have ef := blk_free hbx2
  obtain ⟨W3, hW3⟩ : ∃ W3, W2.setCell ⟨w1.heap.size, 1, none⟩ (.int .i64 hi2) = W3 := ⟨_, rfl⟩
  have hbx3 : W3.heap[w1.heap.size]? = some (.cells #[.int .i64 lo, .int .i64 hi2] 26 (0, 0)) := by
    rw [← hW3]
    simpa using block_setCell hbx2 (i := 1) (.int .i64 hi2)
  have hb03 : Below w.heap.size w W3 := by rw [← hW3]; exact hb02.setCell (p := ⟨w1.heap.size, 1, none⟩) hbs _
  have f0 : _ = some (Value.int .i64 lo) := blk_cell hbx3 (i := 0) rfl
  have f1 : _ = some (Value.int .i64 hi2) := blk_cell hbx3 (i := 1) rfl
  have hs4 : Sl (W3.alloc (.cells #[.pointer pa] 32)) (some ⟨W3.heap.size, 0, none⟩) 1 1 [.pointer pa] := Sl.new W3 [.pointer pa] 1 32 (0, 0) (by decide)
  have hb04 : Below w.heap.size w (W3.alloc (.cells #[.pointer pa] 32)) := hb03.alloc hb03.size _
  have HM := Lib.hid (pmade_any 5 lo hi2 [.pointer pa] (some ⟨W3.heap.size, 0, none⟩) 1 (by simp) (by simp [Value.oneCell']) _ hs4)
  have HB4 := Lib.hid hb04
  clear hb1 hb2 hbx2 hb02 hbx3 hb03 hs4 hb04
  go_upto_region 3 with fail
  try rw [hW2]
  clear hW2
  go_wp2_with fail
  go_at_call 24
  refine (HLS.out _).mono ?_
  rintro e w3 ⟨rfl, rfl⟩
  go_upto_region 4 with fail
  try rw [hW3]
  clear hW3 e0 e2 ef
  go_wp2_with fail
  go_at_call 18
  refine HM.out.mono ?_
  rintro e w5 ⟨b, A, d, rfl, hk, hs, hA, hbn, hbe⟩
  have hk6 := block_setCell hk (i := 12) (.int .i64 z)
  have c12 : _ = some (Value.int .i64 0) := blk_cell hk (i := 12) rfl
  have cf := blk_free hk
  have HR : Hid (MkRet c (startsL L a) n 1 (fun i x => i = 0 ∧ F x) w (.returned (.pointer (some ⟨b, 0, none⟩))) (w5.setCell ⟨b, 12, none⟩ (.int .i64 z))) := by
    have ho : Off (fun x => x = b) w5 (w5.setCell ⟨b, 12, none⟩ (.int .i64 z)) := (Off.refl (fun x => x = b) w5).setCell (b := b) (.inl rfl) _
    have hbn' := Nat.le_trans HB4.out.size hbn
    exact HE.out _ b A d ((HB4.out.trans (hbe.mono HB4.out.size)).setCell (p := ⟨b, 12, none⟩) hbn' _) (sl_off hs ho fun a e => (hA a e).1) (fun a e => ⟨(hA a e).1, Nat.le_trans HB4.out.size (hA a e).2.1, Nat.lt_of_lt_of_le (hA a e).2.2 ho.size⟩) hbn' hk6
  clear hk hs hA hbn hbe hk6
  go_wp2_with fail
  go_ret
  exact HR.out
end Go.Proofs.Ytibnbpiachdmdaa
end
