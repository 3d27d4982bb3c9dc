import Derived.BigQuiet
import Derived.Deep.QuietTactic
import Derived.Deep.Cut
import Derived.Deep.AppendLies
import Derived.Test.YtdhinjbkfffpeaaGreatYOA
import Derived.Test.YtdhinjbkfffpeaaGreatYJS1
import Derived.Test.YtdhinjbkfffpeaaGreatYMB
import Derived.Test.YtdhinjbkfffpeaaGreatYOJ
/- Contracts of the document's records: whether settings, events, queries, polls are the same. -/
section
namespace Go.Proofs.YtdhinjbkfffpeaaGreat
open Go.ChangeShapes Go.WideShapes Go.ChangeAt Go.RowKit Sp
theorem Stg.same_iff (b0 : Int) (t0 : List Spn) (s0 : List (Int × Int × Int)) (o0 : List Int) (e0 f0 b1 : Int) (t1 : List Spn) (s1 : List (Int × Int × Int)) (o1 : List Int) (e1 f1 : Int) :
  (⟨b0, t0, s0, o0, e0, f0⟩ : Stg) = ⟨b1, t1, s1, o1, e1, f1⟩ ↔ b0 = b1 ∧ t0.length = t1.length ∧ e0 = e1 ∧ f0 = f1 ∧ t0 = t1 ∧ s0 = s1 ∧ o0 = o1 := by
 constructor
 ·intro h; injection h with h1 h2 h3 h4 h5 h6; subst h2; exact ⟨h1, rfl, h5, h6, rfl, h3, h4⟩
 ·rintro ⟨rfl, _, rfl, rfl, rfl, rfl, rfl⟩; rfl
set_option maxRecDepth 100000 in
set_option maxHeartbeats 4000000 in
theorem rSameSettings_any (a b : Stg) (p q : StgP) (w : World) (ha : StgAt w a p) (hb : StgAt w b q) :
  Calls Tryz.prog 40 #[.agg (sCells a p).toArray, .agg (sCells b q).toArray] w fun e w' => ∃ r, e = .returned (.bool r) ∧ (r = true ↔ a = b) ∧ Below w.heap.size w w' := by
 obtain ⟨r, hr⟩ : ∃ r : Bool, r = true ↔ a = b := by classical exact ⟨decide (a = b), by simp⟩
 suffices h : Calls Tryz.prog 40 #[.agg (sCells a p).toArray, .agg (sCells b q).toArray] w fun e w' => e = .returned (.bool r) ∧ Below w.heap.size w w' from h.mono fun e w' h => ⟨r, h.1, hr, h.2⟩
 obtain ⟨b0, t0, s0, o0, e0, f0⟩ := a
 obtain ⟨b1, t1, s1, o1, e1, f1⟩ := b
 obtain ⟨A1, A2, A3, c1, c2, c3⟩ := p
 obtain ⟨B1, B2, B3, d1, d2, d3⟩ := q
 rw [Stg.same_iff] at hr
 obtain ⟨ha1, ha2, ha3⟩ := ha
 obtain ⟨hb1, hb2, hb3⟩ := hb
 unfold sCells
 simp only [List.toArray] at *
 have hl1 := len_le16 ha1
 have HSa1 : Hid (∀ wr, Below w.heap.size w wr → Sl wr A1 t0.length c1 (sv t0)) := fun wr hb' => ha1.below hb' (Nat.le_refl _)
 have HSb1 : Hid (∀ wr, Below w.heap.size w wr → Sl wr B1 t1.length d1 (sv t1)) := fun wr hb' => hb1.below hb' (Nat.le_refl _)
 have HSa2 : Hid (∀ wr, Below w.heap.size w wr → Sl wr A2 s0.length c2 (tv s0)) := fun wr hb' => ha2.below hb' (Nat.le_refl _)
 have HSb2 : Hid (∀ wr, Below w.heap.size w wr → Sl wr B2 s1.length d2 (tv s1)) := fun wr hb' => hb2.below hb' (Nat.le_refl _)
 have HSa3 : Hid (∀ wr, Below w.heap.size w wr → Sl wr A3 o0.length c3 (iv o0)) := fun wr hb' => ha3.below hb' (Nat.le_refl _)
 have HSb3 : Hid (∀ wr, Below w.heap.size w wr → Sl wr B3 o1.length d3 (iv o1)) := fun wr hb' => hb3.below hb' (Nat.le_refl _)
 clear ha1 ha2 ha3 hb1 hb2 hb3
 obtain ⟨W, hW⟩ : ∃ W, (w.alloc (.cells #[.int .i64 b0, .slice A1 t0.length c1, .slice A2 s0.length c2, .slice A3 o0.length c3, .int .i64 e0, .int .i64 f0] 57)).alloc (.cells #[.int .i64 b1, .slice B1 t1.length d1, .slice B2 s1.length d2, .slice B3 o1.length d3, .int .i64 e1, .int .i64 f1] 57) = W := ⟨_, rfl⟩
 have hBW : Below w.heap.size w W := by rw [← hW]; exact ((Below.refl _ w).alloc (Nat.le_refl _) _).alloc (by simp) _
 have HG : Hid (∀ g : Gr W, Below w.heap.size w g.val) := fun g => hBW.trans (g.ok.mono hBW.size)
 have HA : Hid (∀ (g : Gr W) (k : Nat) (v : Value), (#[.int .i64 b0, .slice A1 t0.length c1, .slice A2 s0.length c2, .slice A3 o0.length c3, .int .i64 e0, .int .i64 f0] : Array Value)[k]? = some v → g.val.cell? ⟨w.heap.size, k, none⟩ = some v) := fun g k v hv => cell_old (by rw [← hW]; exact blk_cell (cs := #[.int .i64 b0, .slice A1 t0.length c1, .slice A2 s0.length c2, .slice A3 o0.length c3, .int .i64 e0, .int .i64 f0]) (t := 57) (by rw [heap_alloc_old _ _ (by simp)]; exact heap_alloc_new _ _) hv) g.ok
 have HB : Hid (∀ (g : Gr W) (k : Nat) (v : Value), (#[.int .i64 b1, .slice B1 t1.length d1, .slice B2 s1.length d2, .slice B3 o1.length d3, .int .i64 e1, .int .i64 f1] : Array Value)[k]? = some v → g.val.cell? ⟨w.heap.size + 1, k, none⟩ = some v) := fun g k v hv => cell_old (by rw [← hW]; exact blk_cell (cs := #[.int .i64 b1, .slice B1 t1.length d1, .slice B2 s1.length d2, .slice B3 o1.length d3, .int .i64 e1, .int .i64 f1]) (t := 57) (heap_alloc_new2 _ _ _) hv) g.ok
 have E1 := Lib.hid hW
 clear hW hBW
 have HR := Lib.hid hr
 clear hr
 have fa0 := HA.out ⟨W, Below.refl _ _⟩ 0 (.int .i64 b0) rfl
 have fb0 := HB.out ⟨W, Below.refl _ _⟩ 0 (.int .i64 b1) rfl
 have fa1 := HA.out ⟨W, Below.refl _ _⟩ 1 (.slice A1 t0.length c1) rfl
 have fb1 := HB.out ⟨W, Below.refl _ _⟩ 1 (.slice B1 t1.length d1) rfl
 have fa4 := HA.out ⟨W, Below.refl _ _⟩ 4 (.int .i64 e0) rfl
 have fb4 := HB.out ⟨W, Below.refl _ _⟩ 4 (.int .i64 e1) rfl
 have fa5 := HA.out ⟨W, Below.refl _ _⟩ 5 (.int .i64 f0) rfl
 have fb5 := HB.out ⟨W, Below.refl _ _⟩ 5 (.int .i64 f1) rfl
 try simp only at fa0 fb0 fa1 fb1 fa4 fb4 fa5 fb5
 by_cases h0 : b0 = b1
 rotate_left
 ·have eb0 : (b0 != b1) = true := by simpa using h0
  have E : Hid (r = false) := Bool.eq_false_iff.2 fun k => h0 (HR.out.1 k).1
  go_enter Tryz.func40, Tryz.ntmps40
  go_upto_region 1 with fail
  rw [E1.out]
  go_wp2_with fail
  go_ret
  exact ⟨ret_bool E.out.symm, HG.out ⟨W, Below.refl _ _⟩⟩
 subst h0
 by_cases h1 : t0.length = t1.length
 rotate_left
 ·have eb1 : ((t0.length : Int) != (t1.length : Int)) = true := by simp; omega
  have E : Hid (r = false) := Bool.eq_false_iff.2 fun k => h1 (HR.out.1 k).2.1
  go_enter Tryz.func40, Tryz.ntmps40
  go_upto_region 1 with fail
  rw [E1.out]
  go_wp2_with fail
  go_ret
  exact ⟨ret_bool E.out.symm, HG.out ⟨W, Below.refl _ _⟩⟩
 have eb1 : ((t0.length : Int) != (t1.length : Int)) = false := by simp; omega
 have HL1 := Lib.hid h1
 clear h1
 by_cases h2 : e0 = e1
 rotate_left
 ·have eb2 : (e0 != e1) = true := by simpa using h2
  have E : Hid (r = false) := Bool.eq_false_iff.2 fun k => h2 (HR.out.1 k).2.2.1
  go_enter Tryz.func40, Tryz.ntmps40
  go_upto_region 1 with fail
  rw [E1.out]
  go_wp2_with fail
  go_ret
  exact ⟨ret_bool E.out.symm, HG.out ⟨W, Below.refl _ _⟩⟩
 subst h2
 by_cases h3 : f0 = f1
 rotate_left
 ·have eb3 : (f0 != f1) = true := by simpa using h3
  have E : Hid (r = false) := Bool.eq_false_iff.2 fun k => h3 (HR.out.1 k).2.2.2.1
  go_enter Tryz.func40, Tryz.ntmps40
  go_upto_region 1 with fail
  rw [E1.out]
  go_wp2_with fail
  go_ret
  exact ⟨ret_bool E.out.symm, HG.out ⟨W, Below.refl _ _⟩⟩
 subst h3
 go_enter Tryz.func40, Tryz.ntmps40
 go_upto_region 1 with fail
 rw [E1.out]
 go_wp2_with fail
 clear fa0 fb0 fa1 fb1 fa4 fb4 fa5 fb5
 go_loopw [42] (fun s wr => ∃ (i : Nat) (g : Gr W), wr = g.val ∧ i ≤ t0.length ∧ s = .int .i64 i ∧ Hid (t0.take i = t1.take i)) (fun s _ => t0.length - (intOf s).toNat)
 case atStart => exact ⟨0, ⟨W, Below.refl _ _⟩, rfl, Nat.zero_le _, rfl, rfl⟩
 case round =>
  obtain ⟨i, g, rfl, hi, rfl, HI⟩ := hrel
  by_cases hlt : i < t0.length
  ·have hltb : i < t1.length := by rw [← HL1.out]; exact hlt
   have hiz : (i : Int) < t0.length := by omega
   have hib : (i : Int) < t1.length := by omega
   obtain ⟨x, hx⟩ : ∃ x, t0[i]? = some x := ⟨_, List.getElem?_eq_getElem hlt⟩
   obtain ⟨y, hy⟩ : ∃ y, t1[i]? = some y := ⟨_, List.getElem?_eq_getElem hltb⟩
   have HN : Hid (x ≠ y → ¬ (t0 = t1)) := fun h k => h (Option.some.inj (hx.symm.trans ((congrArg (fun l => l[i]?) k).trans hy)))
   have HT : Hid (x = y → t0.take (i + 1) = t1.take (i + 1)) := fun h => by rw [List.take_add_one, List.take_add_one, HI.out, hx, hy, h]
   have fa1 := HA.out g 1 (.slice A1 t0.length c1) rfl
   have fb1 := HB.out g 1 (.slice B1 t1.length d1) rfl
   try simp only at fa1 fb1
   obtain ⟨b0, off0, hA0, _, hc⟩ := (HSa1.out g.val (HG.out g)).spanG hx
   obtain ⟨b1, off1, hB0, _, hd⟩ := (HSb1.out g.val (HG.out g)).spanG hy
   rw [hA0] at fa1
   rw [hB0] at fb1
   clear hx hy hA0 hB0
   obtain ⟨x0, x1⟩ := x
   obtain ⟨y0, y1⟩ := y
   obtain ⟨c0, c1⟩ := hc ⟨_, Below.refl _ _⟩
   obtain ⟨d0, d1⟩ := hd ⟨_, Below.refl _ _⟩
   simp only at c0 c1 d0 d1
   clear hc hd
   by_cases h0 : x0 = y0
   rotate_left
   ·have E : Hid (r = false) := Bool.eq_false_iff.2 fun k => HN.out (fun h => h0 (Prod.mk.inj h).1) (HR.out.1 k).2.2.2.2.1
    clear HN HT HI
    go_wp2_with fail
    go_region
    go_wp2_with fail
    go_ret
    exact ⟨ret_bool E.out.symm, (HG.out g).drew⟩
   subst h0
   by_cases h1 : x1 = y1
   rotate_left
   ·have E : Hid (r = false) := Bool.eq_false_iff.2 fun k => HN.out (fun h => h1 (Prod.mk.inj h).2) (HR.out.1 k).2.2.2.2.1
    clear HN HT HI
    go_wp2_with fail
    go_region
    go_wp2_with fail
    go_ret
    exact ⟨ret_bool E.out.symm, (HG.out g).drew⟩
   subst h1
   have HI2 := Lib.hid (HT.out rfl)
   clear HN HT HI
   go_wp2_with fail
   go_region
   go_wp2_with fail
   go_roundw
   case rel => exact ⟨i + 1, ⟨g.val.drew, g.ok.drew⟩, rfl, hlt, by go_num, HI2.out⟩
   case measure => simp [intOf]; omega
  ·obtain rfl : i = t0.length := by omega
   have HC4 : Hid (t0 = t1) := by have := HI.out; rw [List.take_length, HL1.out, List.take_length] at this; exact this
   clear HI
   have fa2 := HA.out g 2 (.slice A2 s0.length c2) rfl
   have fb2 := HB.out g 2 (.slice B2 s1.length d2) rfl
   have fa3 := HA.out g 3 (.slice A3 o0.length c3) rfl
   have fb3 := HB.out g 3 (.slice B3 o1.length d3) rfl
   try simp only at fa2 fb2 fa3 fb3
   go_wp2_with fail
   go_at_call 86
   refine (rshiftsSame16_any s0 s1 A2 B2 c2 d2 g.val (HSa2.out _ (HG.out g)) (HSb2.out _ (HG.out g))).mono ?_
   rintro e w5 ⟨rfl, hb5⟩
   obtain ⟨g5, rfl⟩ := Gr.on g hb5
   clear hb5
   have hv5 : decide (s0 = s1) = true ↔ s0 = s1 := by simp
   generalize decide (s0 = s1) = v5 at *
   clear fa2 fb2 fa3 fb3
   have fa2 := HA.out g5 2 (.slice A2 s0.length c2) rfl
   have fb2 := HB.out g5 2 (.slice B2 s1.length d2) rfl
   have fa3 := HA.out g5 3 (.slice A3 o0.length c3) rfl
   have fb3 := HB.out g5 3 (.slice B3 o1.length d3) rfl
   try simp only at fa2 fb2 fa3 fb3
   cases v5 with
   | false =>
    have hn5 : ¬ (s0 = s1) := fun k => by simpa using hv5.2 k
    have E : Hid (r = false) := Bool.eq_false_iff.2 fun k => hn5 (HR.out.1 k).2.2.2.2.2.1
    go_wp2_with fail
    go_ret
    exact ⟨ret_bool E.out.symm, HG.out g5⟩
   | true =>
    have HC5 : Hid (s0 = s1) := hv5.1 rfl
    clear hv5
    go_wp2_with fail
    go_at_call 87
    refine (rints16_any o0 o1 A3 B3 c3 d3 g5.val (HSa3.out _ (HG.out g5)) (HSb3.out _ (HG.out g5))).mono ?_
    rintro e w6 ⟨rfl, hb6⟩
    obtain ⟨g6, rfl⟩ := Gr.on g5 hb6
    clear hb6
    have hv6 : decide (o0 = o1) = true ↔ o0 = o1 := by simp
    generalize decide (o0 = o1) = v6 at *
    clear fa2 fb2 fa3 fb3
    have E : Hid (r = v6) := Bool.eq_iff_iff.2 ⟨fun k => hv6.2 (HR.out.1 k).2.2.2.2.2.2, fun k => HR.out.2 ⟨(by first | rfl | trivial), HL1.out, (by first | rfl | trivial), (by first | rfl | trivial), HC4.out, HC5.out, hv6.1 k⟩⟩
    clear hv6
    go_wp2_with fail
    go_ret
    exact ⟨ret_bool E.out.symm, HG.out g6⟩
theorem Evt.same_iff (a0 b0 : Int) (w0 g0 : Bool) (r0 : Qr.R) (x0 p0 : List Int) (k0 : List (Int × Int × Int)) (a1 b1 : Int) (w1 g1 : Bool) (r1 : Qr.R) (x1 p1 : List Int) (k1 : List (Int × Int × Int)) :
  (⟨a0, b0, w0, g0, r0, x0, p0, k0⟩ : Evt) = ⟨a1, b1, w1, g1, r1, x1, p1, k1⟩ ↔ a0 = a1 ∧ b0 = b1 ∧ g0 = g1 ∧ w0 = w1 ∧ k0.length = k1.length ∧ k0 = k1 ∧ r0 = r1 ∧ x0 = x1 ∧ p0 = p1 := by
 constructor
 ·intro h; injection h with h1 h2 h3 h4 h5 h6 h7 h8; subst h8; exact ⟨h1, h2, h4, h3, rfl, rfl, h5, h6, h7⟩
 ·rintro ⟨rfl, rfl, rfl, rfl, _, rfl, rfl, rfl, rfl⟩; rfl
set_option maxRecDepth 100000 in
set_option maxHeartbeats 4000000 in
theorem rSameEvent_any (a b : Evt) (p q : EvP) (w : World) (ha : EvAt w a p) (hb : EvAt w b q) :
  Calls Tryz.prog 41 #[.agg (eCells a p).toArray, .agg (eCells b q).toArray] w fun e w' => ∃ r, e = .returned (.bool r) ∧ (r = true ↔ a = b) ∧ Below w.heap.size w w' := by
 obtain ⟨r, hr⟩ : ∃ r : Bool, r = true ↔ a = b := by classical exact ⟨decide (a = b), by simp⟩
 suffices h : Calls Tryz.prog 41 #[.agg (eCells a p).toArray, .agg (eCells b q).toArray] w fun e w' => e = .returned (.bool r) ∧ Below w.heap.size w w' from h.mono fun e w' h => ⟨r, h.1, hr, h.2⟩
 obtain ⟨a0, b0, w0, g0, r0, x0, p0, k0⟩ := a
 obtain ⟨a1, b1, w1, g1, r1, x1, p1, k1⟩ := b
 obtain ⟨A1, A2, A3, A4, A5, A6, A7, c1, c2, c3, c4, c5, c6, c7⟩ := p
 obtain ⟨B1, B2, B3, B4, B5, B6, B7, d1, d2, d3, d4, d5, d6, d7⟩ := q
 rw [Evt.same_iff] at hr
 obtain ⟨har, ha5, ha6, ha7⟩ := ha
 obtain ⟨hbr, hb5, hb6, hb7⟩ := hb
 rw [cv_tv'] at ha7 hb7
 unfold eCells
 simp only [List.toArray] at *
 have hl1 := len_le16 ha7
 have HRa : Hid (∀ wr, Below w.heap.size w wr → RAt wr r0 A1 A2 A3 A4 c1 c2 c3 c4) := fun wr hb' => har.below hb' (Nat.le_refl _)
 have HRb : Hid (∀ wr, Below w.heap.size w wr → RAt wr r1 B1 B2 B3 B4 d1 d2 d3 d4) := fun wr hb' => hbr.below hb' (Nat.le_refl _)
 have HSa5 : Hid (∀ wr, Below w.heap.size w wr → Sl wr A5 x0.length c5 (iv x0)) := fun wr hb' => ha5.below hb' (Nat.le_refl _)
 have HSb5 : Hid (∀ wr, Below w.heap.size w wr → Sl wr B5 x1.length d5 (iv x1)) := fun wr hb' => hb5.below hb' (Nat.le_refl _)
 have HSa6 : Hid (∀ wr, Below w.heap.size w wr → Sl wr A6 p0.length c6 (iv p0)) := fun wr hb' => ha6.below hb' (Nat.le_refl _)
 have HSb6 : Hid (∀ wr, Below w.heap.size w wr → Sl wr B6 p1.length d6 (iv p1)) := fun wr hb' => hb6.below hb' (Nat.le_refl _)
 have HSa7 : Hid (∀ wr, Below w.heap.size w wr → Sl wr A7 k0.length c7 (tv k0)) := fun wr hb' => ha7.below hb' (Nat.le_refl _)
 have HSb7 : Hid (∀ wr, Below w.heap.size w wr → Sl wr B7 k1.length d7 (tv k1)) := fun wr hb' => hb7.below hb' (Nat.le_refl _)
 clear har hbr ha5 ha6 ha7 hb5 hb6 hb7
 obtain ⟨W, hW⟩ : ∃ W, (w.alloc (.cells #[.int .i64 a0, .int .i64 b0, .bool w0, .bool g0, .int .i64 r0.freq, .int .i64 r0.iv, .int .i64 r0.count, .int .i64 r0.until_, .slice A1 r0.bm.length c1, .slice A2 r0.bd.length c2, .slice A3 r0.bw.length c3, .slice A4 r0.bs.length c4, .int .i64 r0.start, .slice A5 x0.length c5, .slice A6 p0.length c6, .slice A7 k0.length c7] 63)).alloc (.cells #[.int .i64 a1, .int .i64 b1, .bool w1, .bool g1, .int .i64 r1.freq, .int .i64 r1.iv, .int .i64 r1.count, .int .i64 r1.until_, .slice B1 r1.bm.length d1, .slice B2 r1.bd.length d2, .slice B3 r1.bw.length d3, .slice B4 r1.bs.length d4, .int .i64 r1.start, .slice B5 x1.length d5, .slice B6 p1.length d6, .slice B7 k1.length d7] 63) = W := ⟨_, rfl⟩
 have hBW : Below w.heap.size w W := by rw [← hW]; exact ((Below.refl _ w).alloc (Nat.le_refl _) _).alloc (by simp) _
 have HG : Hid (∀ g : Gr W, Below w.heap.size w g.val) := fun g => hBW.trans (g.ok.mono hBW.size)
 have HA : Hid (∀ (g : Gr W) (k : Nat) (v : Value), (#[.int .i64 a0, .int .i64 b0, .bool w0, .bool g0, .int .i64 r0.freq, .int .i64 r0.iv, .int .i64 r0.count, .int .i64 r0.until_, .slice A1 r0.bm.length c1, .slice A2 r0.bd.length c2, .slice A3 r0.bw.length c3, .slice A4 r0.bs.length c4, .int .i64 r0.start, .slice A5 x0.length c5, .slice A6 p0.length c6, .slice A7 k0.length c7] : Array Value)[k]? = some v → g.val.cell? ⟨w.heap.size, k, none⟩ = some v) := fun g k v hv => cell_old (by rw [← hW]; exact blk_cell (cs := #[.int .i64 a0, .int .i64 b0, .bool w0, .bool g0, .int .i64 r0.freq, .int .i64 r0.iv, .int .i64 r0.count, .int .i64 r0.until_, .slice A1 r0.bm.length c1, .slice A2 r0.bd.length c2, .slice A3 r0.bw.length c3, .slice A4 r0.bs.length c4, .int .i64 r0.start, .slice A5 x0.length c5, .slice A6 p0.length c6, .slice A7 k0.length c7]) (t := 63) (by rw [heap_alloc_old _ _ (by simp)]; exact heap_alloc_new _ _) hv) g.ok
 have HB : Hid (∀ (g : Gr W) (k : Nat) (v : Value), (#[.int .i64 a1, .int .i64 b1, .bool w1, .bool g1, .int .i64 r1.freq, .int .i64 r1.iv, .int .i64 r1.count, .int .i64 r1.until_, .slice B1 r1.bm.length d1, .slice B2 r1.bd.length d2, .slice B3 r1.bw.length d3, .slice B4 r1.bs.length d4, .int .i64 r1.start, .slice B5 x1.length d5, .slice B6 p1.length d6, .slice B7 k1.length d7] : Array Value)[k]? = some v → g.val.cell? ⟨w.heap.size + 1, k, none⟩ = some v) := fun g k v hv => cell_old (by rw [← hW]; exact blk_cell (cs := #[.int .i64 a1, .int .i64 b1, .bool w1, .bool g1, .int .i64 r1.freq, .int .i64 r1.iv, .int .i64 r1.count, .int .i64 r1.until_, .slice B1 r1.bm.length d1, .slice B2 r1.bd.length d2, .slice B3 r1.bw.length d3, .slice B4 r1.bs.length d4, .int .i64 r1.start, .slice B5 x1.length d5, .slice B6 p1.length d6, .slice B7 k1.length d7]) (t := 63) (heap_alloc_new2 _ _ _) hv) g.ok
 have E1 := Lib.hid hW
 clear hW hBW
 have HR := Lib.hid hr
 clear hr
 have fa0 := HA.out ⟨W, Below.refl _ _⟩ 0 (.int .i64 a0) rfl
 have fb0 := HB.out ⟨W, Below.refl _ _⟩ 0 (.int .i64 a1) rfl
 have fa1 := HA.out ⟨W, Below.refl _ _⟩ 1 (.int .i64 b0) rfl
 have fb1 := HB.out ⟨W, Below.refl _ _⟩ 1 (.int .i64 b1) rfl
 have fa2 := HA.out ⟨W, Below.refl _ _⟩ 2 (.bool w0) rfl
 have fb2 := HB.out ⟨W, Below.refl _ _⟩ 2 (.bool w1) rfl
 have fa3 := HA.out ⟨W, Below.refl _ _⟩ 3 (.bool g0) rfl
 have fb3 := HB.out ⟨W, Below.refl _ _⟩ 3 (.bool g1) rfl
 have fa15 := HA.out ⟨W, Below.refl _ _⟩ 15 (.slice A7 k0.length c7) rfl
 have fb15 := HB.out ⟨W, Below.refl _ _⟩ 15 (.slice B7 k1.length d7) rfl
 try simp only at fa0 fb0 fa1 fb1 fa2 fb2 fa3 fb3 fa15 fb15
 by_cases h0 : a0 = a1
 rotate_left
 ·have eb0 : (a0 != a1) = true := by simpa using h0
  have E : Hid (r = false) := Bool.eq_false_iff.2 fun k => h0 (HR.out.1 k).1
  go_enter Tryz.func41, Tryz.ntmps41
  go_upto_region 1 with fail
  rw [E1.out]
  go_wp2_with fail
  go_ret
  exact ⟨ret_bool E.out.symm, HG.out ⟨W, Below.refl _ _⟩⟩
 subst h0
 by_cases h1 : b0 = b1
 rotate_left
 ·have eb1 : (b0 != b1) = true := by simpa using h1
  have E : Hid (r = false) := Bool.eq_false_iff.2 fun k => h1 (HR.out.1 k).2.1
  go_enter Tryz.func41, Tryz.ntmps41
  go_upto_region 1 with fail
  rw [E1.out]
  go_wp2_with fail
  go_ret
  exact ⟨ret_bool E.out.symm, HG.out ⟨W, Below.refl _ _⟩⟩
 subst h1
 by_cases h2 : g0 = g1
 rotate_left
 ·have E : Hid (r = false) := Bool.eq_false_iff.2 fun k => h2 (HR.out.1 k).2.2.1
  have hw : g0 = true ∧ g1 = false ∨ g0 = false ∧ g1 = true := by clear E; revert h2; cases g0 <;> cases g1 <;> simp
  clear h2
  rcases hw with ⟨rfl, rfl⟩ | ⟨rfl, rfl⟩
  all_goals
   go_enter Tryz.func41, Tryz.ntmps41
   go_upto_region 1 with fail
   rw [E1.out]
   go_wp2_with fail
   go_ret
   exact ⟨ret_bool E.out.symm, HG.out ⟨W, Below.refl _ _⟩⟩
 subst h2
 by_cases h3 : w0 = w1
 rotate_left
 ·have E : Hid (r = false) := Bool.eq_false_iff.2 fun k => h3 (HR.out.1 k).2.2.2.1
  have hw : w0 = true ∧ w1 = false ∨ w0 = false ∧ w1 = true := by clear E; revert h3; cases w0 <;> cases w1 <;> simp
  clear h3
  rcases hw with ⟨rfl, rfl⟩ | ⟨rfl, rfl⟩
  all_goals
   go_enter Tryz.func41, Tryz.ntmps41
   go_upto_region 1 with fail
   rw [E1.out]
   go_wp2_with fail
   go_ret
   exact ⟨ret_bool E.out.symm, HG.out ⟨W, Below.refl _ _⟩⟩
 subst h3
 by_cases h4 : k0.length = k1.length
 rotate_left
 ·have eb4 : ((k0.length : Int) != (k1.length : Int)) = true := by simp; omega
  have E : Hid (r = false) := Bool.eq_false_iff.2 fun k => h4 (HR.out.1 k).2.2.2.2.1
  go_enter Tryz.func41, Tryz.ntmps41
  go_upto_region 1 with fail
  rw [E1.out]
  go_wp2_with fail
  go_ret
  exact ⟨ret_bool E.out.symm, HG.out ⟨W, Below.refl _ _⟩⟩
 have eb4 : ((k0.length : Int) != (k1.length : Int)) = false := by simp; omega
 have HL4 := Lib.hid h4
 clear h4
 go_enter Tryz.func41, Tryz.ntmps41
 go_upto_region 1 with fail
 rw [E1.out]
 go_wp2_with fail
 clear fa0 fb0 fa1 fb1 fa2 fb2 fa3 fb3 fa15 fb15
 go_loopw [44] (fun s wr => ∃ (i : Nat) (g : Gr W), wr = g.val ∧ i ≤ k0.length ∧ s = .int .i64 i ∧ Hid (k0.take i = k1.take i)) (fun s _ => k0.length - (intOf s).toNat)
 case atStart => exact ⟨0, ⟨W, Below.refl _ _⟩, rfl, Nat.zero_le _, rfl, rfl⟩
 case round =>
  obtain ⟨i, g, rfl, hi, rfl, HI⟩ := hrel
  by_cases hlt : i < k0.length
  ·have hltb : i < k1.length := by rw [← HL4.out]; exact hlt
   have hiz : (i : Int) < k0.length := by omega
   have hib : (i : Int) < k1.length := by omega
   obtain ⟨x, hx⟩ : ∃ x, k0[i]? = some x := ⟨_, List.getElem?_eq_getElem hlt⟩
   obtain ⟨y, hy⟩ : ∃ y, k1[i]? = some y := ⟨_, List.getElem?_eq_getElem hltb⟩
   have HN : Hid (x ≠ y → ¬ (k0 = k1)) := fun h k => h (Option.some.inj (hx.symm.trans ((congrArg (fun l => l[i]?) k).trans hy)))
   have HT : Hid (x = y → k0.take (i + 1) = k1.take (i + 1)) := fun h => by rw [List.take_add_one, List.take_add_one, HI.out, hx, hy, h]
   have fa15 := HA.out g 15 (.slice A7 k0.length c7) rfl
   have fb15 := HB.out g 15 (.slice B7 k1.length d7) rfl
   try simp only at fa15 fb15
   obtain ⟨b0, off0, hA0, _, hc⟩ := (HSa7.out g.val (HG.out g)).tG hx
   obtain ⟨b1, off1, hB0, _, hd⟩ := (HSb7.out g.val (HG.out g)).tG hy
   rw [hA0] at fa15
   rw [hB0] at fb15
   clear hx hy hA0 hB0
   obtain ⟨x0, x1, x2⟩ := x
   obtain ⟨y0, y1, y2⟩ := y
   obtain ⟨c0, c1, c2⟩ := hc ⟨_, Below.refl _ _⟩
   obtain ⟨d0, d1, d2⟩ := hd ⟨_, Below.refl _ _⟩
   simp only at c0 c1 c2 d0 d1 d2
   clear hc hd
   by_cases h0 : x0 = y0
   rotate_left
   ·have E : Hid (r = false) := Bool.eq_false_iff.2 fun k => HN.out (fun h => h0 (Prod.mk.inj h).1) (HR.out.1 k).2.2.2.2.2.1
    clear HN HT HI
    go_wp2_with fail
    go_region
    go_wp2_with fail
    go_ret
    exact ⟨ret_bool E.out.symm, (HG.out g).drew⟩
   subst h0
   by_cases h1 : x1 = y1
   rotate_left
   ·have E : Hid (r = false) := Bool.eq_false_iff.2 fun k => HN.out (fun h => h1 (Prod.mk.inj (Prod.mk.inj h).2).1) (HR.out.1 k).2.2.2.2.2.1
    clear HN HT HI
    go_wp2_with fail
    go_region
    go_wp2_with fail
    go_ret
    exact ⟨ret_bool E.out.symm, (HG.out g).drew⟩
   subst h1
   by_cases h2 : x2 = y2
   rotate_left
   ·have E : Hid (r = false) := Bool.eq_false_iff.2 fun k => HN.out (fun h => h2 (Prod.mk.inj (Prod.mk.inj h).2).2) (HR.out.1 k).2.2.2.2.2.1
    clear HN HT HI
    go_wp2_with fail
    go_region
    go_wp2_with fail
    go_ret
    exact ⟨ret_bool E.out.symm, (HG.out g).drew⟩
   subst h2
   have HI2 := Lib.hid (HT.out rfl)
   clear HN HT HI
   go_wp2_with fail
   go_region
   go_wp2_with fail
   go_roundw
   case rel => exact ⟨i + 1, ⟨g.val.drew, g.ok.drew⟩, rfl, hlt, by go_num, HI2.out⟩
   case measure => simp [intOf]; omega
  ·obtain rfl : i = k0.length := by omega
   have HC5 : Hid (k0 = k1) := by have := HI.out; rw [List.take_length, HL4.out, List.take_length] at this; exact this
   clear HI
   have fa4 := HA.out g 4 (.int .i64 r0.freq) rfl
   have fb4 := HB.out g 4 (.int .i64 r1.freq) rfl
   have fa5 := HA.out g 5 (.int .i64 r0.iv) rfl
   have fb5 := HB.out g 5 (.int .i64 r1.iv) rfl
   have fa6 := HA.out g 6 (.int .i64 r0.count) rfl
   have fb6 := HB.out g 6 (.int .i64 r1.count) rfl
   have fa7 := HA.out g 7 (.int .i64 r0.until_) rfl
   have fb7 := HB.out g 7 (.int .i64 r1.until_) rfl
   have fa8 := HA.out g 8 (.slice A1 r0.bm.length c1) rfl
   have fb8 := HB.out g 8 (.slice B1 r1.bm.length d1) rfl
   have fa9 := HA.out g 9 (.slice A2 r0.bd.length c2) rfl
   have fb9 := HB.out g 9 (.slice B2 r1.bd.length d2) rfl
   have fa10 := HA.out g 10 (.slice A3 r0.bw.length c3) rfl
   have fb10 := HB.out g 10 (.slice B3 r1.bw.length d3) rfl
   have fa11 := HA.out g 11 (.slice A4 r0.bs.length c4) rfl
   have fb11 := HB.out g 11 (.slice B4 r1.bs.length d4) rfl
   have fa12 := HA.out g 12 (.int .i64 r0.start) rfl
   have fb12 := HB.out g 12 (.int .i64 r1.start) rfl
   have fa13 := HA.out g 13 (.slice A5 x0.length c5) rfl
   have fb13 := HB.out g 13 (.slice B5 x1.length d5) rfl
   have fa14 := HA.out g 14 (.slice A6 p0.length c6) rfl
   have fb14 := HB.out g 14 (.slice B6 p1.length d6) rfl
   try simp only at fa4 fb4 fa5 fb5 fa6 fb6 fa7 fb7 fa8 fb8 fa9 fb9 fa10 fb10 fa11 fb11 fa12 fb12 fa13 fb13 fa14 fb14
   go_wp2_with fail
   go_at_call 88
   refine (rsame9_any r0 r1 A1 A2 A3 A4 c1 c2 c3 c4 B1 B2 B3 B4 d1 d2 d3 d4 g.val (HRa.out _ (HG.out g)) (HRb.out _ (HG.out g))).mono ?_
   rintro e w6 ⟨rfl, hb6⟩
   obtain ⟨g6, rfl⟩ := Gr.on g hb6
   clear hb6
   have hv6 : sameB r0 r1 = true ↔ r0 = r1 := by simp[sameB, sameP_iff]
   generalize sameB r0 r1 = v6 at *
   clear fa4 fb4 fa5 fb5 fa6 fb6 fa7 fb7 fa8 fb8 fa9 fb9 fa10 fb10 fa11 fb11 fa12 fb12 fa13 fb13 fa14 fb14
   have fa4 := HA.out g6 4 (.int .i64 r0.freq) rfl
   have fb4 := HB.out g6 4 (.int .i64 r1.freq) rfl
   have fa5 := HA.out g6 5 (.int .i64 r0.iv) rfl
   have fb5 := HB.out g6 5 (.int .i64 r1.iv) rfl
   have fa6 := HA.out g6 6 (.int .i64 r0.count) rfl
   have fb6 := HB.out g6 6 (.int .i64 r1.count) rfl
   have fa7 := HA.out g6 7 (.int .i64 r0.until_) rfl
   have fb7 := HB.out g6 7 (.int .i64 r1.until_) rfl
   have fa8 := HA.out g6 8 (.slice A1 r0.bm.length c1) rfl
   have fb8 := HB.out g6 8 (.slice B1 r1.bm.length d1) rfl
   have fa9 := HA.out g6 9 (.slice A2 r0.bd.length c2) rfl
   have fb9 := HB.out g6 9 (.slice B2 r1.bd.length d2) rfl
   have fa10 := HA.out g6 10 (.slice A3 r0.bw.length c3) rfl
   have fb10 := HB.out g6 10 (.slice B3 r1.bw.length d3) rfl
   have fa11 := HA.out g6 11 (.slice A4 r0.bs.length c4) rfl
   have fb11 := HB.out g6 11 (.slice B4 r1.bs.length d4) rfl
   have fa12 := HA.out g6 12 (.int .i64 r0.start) rfl
   have fb12 := HB.out g6 12 (.int .i64 r1.start) rfl
   have fa13 := HA.out g6 13 (.slice A5 x0.length c5) rfl
   have fb13 := HB.out g6 13 (.slice B5 x1.length d5) rfl
   have fa14 := HA.out g6 14 (.slice A6 p0.length c6) rfl
   have fb14 := HB.out g6 14 (.slice B6 p1.length d6) rfl
   try simp only at fa4 fb4 fa5 fb5 fa6 fb6 fa7 fb7 fa8 fb8 fa9 fb9 fa10 fb10 fa11 fb11 fa12 fb12 fa13 fb13 fa14 fb14
   cases v6 with
   | false =>
    have hn6 : ¬ (r0 = r1) := fun k => by simpa using hv6.2 k
    have E : Hid (r = false) := Bool.eq_false_iff.2 fun k => hn6 (HR.out.1 k).2.2.2.2.2.2.1
    go_wp2_with fail
    go_ret
    exact ⟨ret_bool E.out.symm, HG.out g6⟩
   | true =>
    have HC6 : Hid (r0 = r1) := hv6.1 rfl
    clear hv6
    go_wp2_with fail
    go_at_call 74
    refine (rlongs16_any x0 x1 A5 B5 c5 d5 g6.val (HSa5.out _ (HG.out g6)) (HSb5.out _ (HG.out g6))).mono ?_
    rintro e w7 ⟨rfl, hb7⟩
    obtain ⟨g7, rfl⟩ := Gr.on g6 hb7
    clear hb7
    have hv7 : decide (x0 = x1) = true ↔ x0 = x1 := by simp
    generalize decide (x0 = x1) = v7 at *
    clear fa4 fb4 fa5 fb5 fa6 fb6 fa7 fb7 fa8 fb8 fa9 fb9 fa10 fb10 fa11 fb11 fa12 fb12 fa13 fb13 fa14 fb14
    have fa4 := HA.out g7 4 (.int .i64 r0.freq) rfl
    have fb4 := HB.out g7 4 (.int .i64 r1.freq) rfl
    have fa5 := HA.out g7 5 (.int .i64 r0.iv) rfl
    have fb5 := HB.out g7 5 (.int .i64 r1.iv) rfl
    have fa6 := HA.out g7 6 (.int .i64 r0.count) rfl
    have fb6 := HB.out g7 6 (.int .i64 r1.count) rfl
    have fa7 := HA.out g7 7 (.int .i64 r0.until_) rfl
    have fb7 := HB.out g7 7 (.int .i64 r1.until_) rfl
    have fa8 := HA.out g7 8 (.slice A1 r0.bm.length c1) rfl
    have fb8 := HB.out g7 8 (.slice B1 r1.bm.length d1) rfl
    have fa9 := HA.out g7 9 (.slice A2 r0.bd.length c2) rfl
    have fb9 := HB.out g7 9 (.slice B2 r1.bd.length d2) rfl
    have fa10 := HA.out g7 10 (.slice A3 r0.bw.length c3) rfl
    have fb10 := HB.out g7 10 (.slice B3 r1.bw.length d3) rfl
    have fa11 := HA.out g7 11 (.slice A4 r0.bs.length c4) rfl
    have fb11 := HB.out g7 11 (.slice B4 r1.bs.length d4) rfl
    have fa12 := HA.out g7 12 (.int .i64 r0.start) rfl
    have fb12 := HB.out g7 12 (.int .i64 r1.start) rfl
    have fa13 := HA.out g7 13 (.slice A5 x0.length c5) rfl
    have fb13 := HB.out g7 13 (.slice B5 x1.length d5) rfl
    have fa14 := HA.out g7 14 (.slice A6 p0.length c6) rfl
    have fb14 := HB.out g7 14 (.slice B6 p1.length d6) rfl
    try simp only at fa4 fb4 fa5 fb5 fa6 fb6 fa7 fb7 fa8 fb8 fa9 fb9 fa10 fb10 fa11 fb11 fa12 fb12 fa13 fb13 fa14 fb14
    cases v7 with
    | false =>
     have hn7 : ¬ (x0 = x1) := fun k => by simpa using hv7.2 k
     have E : Hid (r = false) := Bool.eq_false_iff.2 fun k => hn7 (HR.out.1 k).2.2.2.2.2.2.2.1
     go_wp2_with fail
     go_ret
     exact ⟨ret_bool E.out.symm, HG.out g7⟩
    | true =>
     have HC7 : Hid (x0 = x1) := hv7.1 rfl
     clear hv7
     go_wp2_with fail
     go_at_call 74
     refine (rlongs16_any p0 p1 A6 B6 c6 d6 g7.val (HSa6.out _ (HG.out g7)) (HSb6.out _ (HG.out g7))).mono ?_
     rintro e w8 ⟨rfl, hb8⟩
     obtain ⟨g8, rfl⟩ := Gr.on g7 hb8
     clear hb8
     have hv8 : decide (p0 = p1) = true ↔ p0 = p1 := by simp
     generalize decide (p0 = p1) = v8 at *
     clear fa4 fb4 fa5 fb5 fa6 fb6 fa7 fb7 fa8 fb8 fa9 fb9 fa10 fb10 fa11 fb11 fa12 fb12 fa13 fb13 fa14 fb14
     have E : Hid (r = v8) := Bool.eq_iff_iff.2 ⟨fun k => hv8.2 (HR.out.1 k).2.2.2.2.2.2.2.2, fun k => HR.out.2 ⟨(by first | rfl | trivial), (by first | rfl | trivial), (by first | rfl | trivial), (by first | rfl | trivial), HL4.out, HC5.out, HC6.out, HC7.out, hv8.1 k⟩⟩
     clear hv8
     go_wp2_with fail
     go_ret
     exact ⟨ret_bool E.out.symm, HG.out g8⟩
theorem Qy.same_iff (u0 v0 l0 g0 : Int) (m0 : List Nat) (y0 : List (Nat × Int)) (s0 : Int) (a0 : List (Nat × Nat)) (p0 : List (Int × Int × Int)) (u1 v1 l1 g1 : Int) (m1 : List Nat) (y1 : List (Nat × Int)) (s1 : Int) (a1 : List (Nat × Nat)) (p1 : List (Int × Int × Int)) :
  (⟨(u0, v0), l0, g0, m0, y0, s0, a0, p0⟩ : Qy) = ⟨(u1, v1), l1, g1, m1, y1, s1, a1, p1⟩ ↔ (u0, v0) = (u1, v1) ∧ l0 = l1 ∧ g0 = g1 ∧ s0 = s1 ∧ m0.length = m1.length ∧ y0.length = y1.length ∧ a0.length = a1.length ∧ m0 = m1 ∧ y0 = y1 ∧ a0 = a1 ∧ p0 = p1 := by
 constructor
 ·intro h; injection h with h1 h2 h3 h4 h5 h6 h7 h8; subst h4 h5 h7; exact ⟨h1, h2, h3, h6, rfl, rfl, rfl, rfl, rfl, rfl, h8⟩
 ·rintro ⟨h, rfl, rfl, rfl, _, _, _, rfl, rfl, rfl, rfl⟩; rw [h]
set_option maxRecDepth 100000 in
set_option maxHeartbeats 4000000 in
theorem rSameQuery_any (a b : Qy) (p q : QyP) (w : World) (ha : QyAt w a p) (hb : QyAt w b q) :
  Calls Tryz.prog 42 #[.agg (qCells a p).toArray, .agg (qCells b q).toArray] w fun e w' => ∃ r, e = .returned (.bool r) ∧ (r = true ↔ a = b) ∧ Below w.heap.size w w' := by
 obtain ⟨r, hr⟩ : ∃ r : Bool, r = true ↔ a = b := by classical exact ⟨decide (a = b), by simp⟩
 suffices h : Calls Tryz.prog 42 #[.agg (qCells a p).toArray, .agg (qCells b q).toArray] w fun e w' => e = .returned (.bool r) ∧ Below w.heap.size w w' from h.mono fun e w' h => ⟨r, h.1, hr, h.2⟩
 obtain ⟨⟨f0, j0⟩, l0, g0, m0, y0, s0, a0, p0⟩ := a
 obtain ⟨⟨f1, j1⟩, l1, g1, m1, y1, s1, a1, p1⟩ := b
 obtain ⟨A1, A2, A3, A4, c1, c2, c3, c4⟩ := p
 obtain ⟨B1, B2, B3, B4, d1, d2, d3, d4⟩ := q
 rw [Qy.same_iff] at hr
 obtain ⟨ha1, ha2, ha3, ha4⟩ := ha
 obtain ⟨hb1, hb2, hb3, hb4⟩ := hb
 unfold qCells
 simp only [List.toArray] at *
 have hl1 := len_le16 ha1
 have hl2 := len_le16 ha2
 have hl3 := len_le16 ha3
 have HSa1 : Hid (∀ wr, Below w.heap.size w wr → Sl wr A1 m0.length c1 (kv u1 m0)) := fun wr hb' => ha1.below hb' (Nat.le_refl _)
 have HSa2 : Hid (∀ wr, Below w.heap.size w wr → Sl wr A2 y0.length c2 (kv u2 y0)) := fun wr hb' => ha2.below hb' (Nat.le_refl _)
 have HSa3 : Hid (∀ wr, Below w.heap.size w wr → Sl wr A3 a0.length c3 (kv u3 a0)) := fun wr hb' => ha3.below hb' (Nat.le_refl _)
 have HSa4 : Hid (∀ wr, Below w.heap.size w wr → Sl wr A4 p0.length c4 (tv p0)) := fun wr hb' => ha4.below hb' (Nat.le_refl _)
 have HSb1 : Hid (∀ wr, Below w.heap.size w wr → Sl wr B1 m1.length d1 (kv u1 m1)) := fun wr hb' => hb1.below hb' (Nat.le_refl _)
 have HSb2 : Hid (∀ wr, Below w.heap.size w wr → Sl wr B2 y1.length d2 (kv u2 y1)) := fun wr hb' => hb2.below hb' (Nat.le_refl _)
 have HSb3 : Hid (∀ wr, Below w.heap.size w wr → Sl wr B3 a1.length d3 (kv u3 a1)) := fun wr hb' => hb3.below hb' (Nat.le_refl _)
 have HSb4 : Hid (∀ wr, Below w.heap.size w wr → Sl wr B4 p1.length d4 (tv p1)) := fun wr hb' => hb4.below hb' (Nat.le_refl _)
 clear ha1 ha2 ha3 ha4 hb1 hb2 hb3 hb4
 obtain ⟨W, hW⟩ : ∃ W, (w.alloc (.cells #[.int .i64 f0, .int .i64 j0, .int .i64 l0, .int .i64 g0, .slice A1 m0.length c1, .slice A2 y0.length c2, .int .i64 s0, .slice A3 a0.length c3, .slice A4 p0.length c4] 33)).alloc (.cells #[.int .i64 f1, .int .i64 j1, .int .i64 l1, .int .i64 g1, .slice B1 m1.length d1, .slice B2 y1.length d2, .int .i64 s1, .slice B3 a1.length d3, .slice B4 p1.length d4] 33) = W := ⟨_, rfl⟩
 have hBW : Below w.heap.size w W := by rw [← hW]; exact ((Below.refl _ w).alloc (Nat.le_refl _) _).alloc (by simp) _
 have HG : Hid (∀ g : Gr W, Below w.heap.size w g.val) := fun g => hBW.trans (g.ok.mono hBW.size)
 have HA : Hid (∀ (g : Gr W) (k : Nat) (v : Value), (#[.int .i64 f0, .int .i64 j0, .int .i64 l0, .int .i64 g0, .slice A1 m0.length c1, .slice A2 y0.length c2, .int .i64 s0, .slice A3 a0.length c3, .slice A4 p0.length c4] : Array Value)[k]? = some v → g.val.cell? ⟨w.heap.size, k, none⟩ = some v) := fun g k v hv => cell_old (by rw [← hW]; exact blk_cell (cs := #[.int .i64 f0, .int .i64 j0, .int .i64 l0, .int .i64 g0, .slice A1 m0.length c1, .slice A2 y0.length c2, .int .i64 s0, .slice A3 a0.length c3, .slice A4 p0.length c4]) (t := 33) (by rw [heap_alloc_old _ _ (by simp)]; exact heap_alloc_new _ _) hv) g.ok
 have HB : Hid (∀ (g : Gr W) (k : Nat) (v : Value), (#[.int .i64 f1, .int .i64 j1, .int .i64 l1, .int .i64 g1, .slice B1 m1.length d1, .slice B2 y1.length d2, .int .i64 s1, .slice B3 a1.length d3, .slice B4 p1.length d4] : Array Value)[k]? = some v → g.val.cell? ⟨w.heap.size + 1, k, none⟩ = some v) := fun g k v hv => cell_old (by rw [← hW]; exact blk_cell (cs := #[.int .i64 f1, .int .i64 j1, .int .i64 l1, .int .i64 g1, .slice B1 m1.length d1, .slice B2 y1.length d2, .int .i64 s1, .slice B3 a1.length d3, .slice B4 p1.length d4]) (t := 33) (heap_alloc_new2 _ _ _) hv) g.ok
 have E1 := Lib.hid hW
 clear hW hBW
 have HR := Lib.hid hr
 clear hr
 have fa0 := HA.out ⟨W, Below.refl _ _⟩ 0 (.int .i64 f0) rfl
 have fb0 := HB.out ⟨W, Below.refl _ _⟩ 0 (.int .i64 f1) rfl
 have fa1 := HA.out ⟨W, Below.refl _ _⟩ 1 (.int .i64 j0) rfl
 have fb1 := HB.out ⟨W, Below.refl _ _⟩ 1 (.int .i64 j1) rfl
 have fa2 := HA.out ⟨W, Below.refl _ _⟩ 2 (.int .i64 l0) rfl
 have fb2 := HB.out ⟨W, Below.refl _ _⟩ 2 (.int .i64 l1) rfl
 have fa3 := HA.out ⟨W, Below.refl _ _⟩ 3 (.int .i64 g0) rfl
 have fb3 := HB.out ⟨W, Below.refl _ _⟩ 3 (.int .i64 g1) rfl
 have fa4 := HA.out ⟨W, Below.refl _ _⟩ 4 (.slice A1 m0.length c1) rfl
 have fb4 := HB.out ⟨W, Below.refl _ _⟩ 4 (.slice B1 m1.length d1) rfl
 have fa5 := HA.out ⟨W, Below.refl _ _⟩ 5 (.slice A2 y0.length c2) rfl
 have fb5 := HB.out ⟨W, Below.refl _ _⟩ 5 (.slice B2 y1.length d2) rfl
 have fa6 := HA.out ⟨W, Below.refl _ _⟩ 6 (.int .i64 s0) rfl
 have fb6 := HB.out ⟨W, Below.refl _ _⟩ 6 (.int .i64 s1) rfl
 have fa7 := HA.out ⟨W, Below.refl _ _⟩ 7 (.slice A3 a0.length c3) rfl
 have fb7 := HB.out ⟨W, Below.refl _ _⟩ 7 (.slice B3 a1.length d3) rfl
 try simp only at fa0 fb0 fa1 fb1 fa2 fb2 fa3 fb3 fa4 fb4 fa5 fb5 fa6 fb6 fa7 fb7
 by_cases h0_0 : f0 = f1
 rotate_left
 ·have E : Hid (r = false) := Bool.eq_false_iff.2 fun k => (fun h => h0_0 (Prod.mk.inj h).1) (HR.out.1 k).1
  go_enter Tryz.func42, Tryz.ntmps42
  go_upto_region 1 with fail
  rw [E1.out]
  go_wp2_with fail
  go_ret
  exact ⟨ret_bool E.out.symm, HG.out ⟨W, Below.refl _ _⟩⟩
 subst h0_0
 by_cases h0_1 : j0 = j1
 rotate_left
 ·have E : Hid (r = false) := Bool.eq_false_iff.2 fun k => (fun h => h0_1 (Prod.mk.inj h).2) (HR.out.1 k).1
  go_enter Tryz.func42, Tryz.ntmps42
  go_upto_region 1 with fail
  rw [E1.out]
  go_wp2_with fail
  go_ret
  exact ⟨ret_bool E.out.symm, HG.out ⟨W, Below.refl _ _⟩⟩
 subst h0_1
 by_cases h1 : l0 = l1
 rotate_left
 ·have eb1 : (l0 != l1) = true := by simpa using h1
  have E : Hid (r = false) := Bool.eq_false_iff.2 fun k => h1 (HR.out.1 k).2.1
  go_enter Tryz.func42, Tryz.ntmps42
  go_upto_region 1 with fail
  rw [E1.out]
  go_wp2_with fail
  go_ret
  exact ⟨ret_bool E.out.symm, HG.out ⟨W, Below.refl _ _⟩⟩
 subst h1
 by_cases h2 : g0 = g1
 rotate_left
 ·have eb2 : (g0 != g1) = true := by simpa using h2
  have E : Hid (r = false) := Bool.eq_false_iff.2 fun k => h2 (HR.out.1 k).2.2.1
  go_enter Tryz.func42, Tryz.ntmps42
  go_upto_region 1 with fail
  rw [E1.out]
  go_wp2_with fail
  go_ret
  exact ⟨ret_bool E.out.symm, HG.out ⟨W, Below.refl _ _⟩⟩
 subst h2
 by_cases h3 : s0 = s1
 rotate_left
 ·have eb3 : (s0 != s1) = true := by simpa using h3
  have E : Hid (r = false) := Bool.eq_false_iff.2 fun k => h3 (HR.out.1 k).2.2.2.1
  go_enter Tryz.func42, Tryz.ntmps42
  go_upto_region 1 with fail
  rw [E1.out]
  go_wp2_with fail
  go_ret
  exact ⟨ret_bool E.out.symm, HG.out ⟨W, Below.refl _ _⟩⟩
 subst h3
 by_cases h4 : m0.length = m1.length
 rotate_left
 ·have eb4 : ((m0.length : Int) != (m1.length : Int)) = true := by simp; omega
  have E : Hid (r = false) := Bool.eq_false_iff.2 fun k => h4 (HR.out.1 k).2.2.2.2.1
  go_enter Tryz.func42, Tryz.ntmps42
  go_upto_region 1 with fail
  rw [E1.out]
  go_wp2_with fail
  go_ret
  exact ⟨ret_bool E.out.symm, HG.out ⟨W, Below.refl _ _⟩⟩
 have eb4 : ((m0.length : Int) != (m1.length : Int)) = false := by simp; omega
 have HL4 := Lib.hid h4
 clear h4
 by_cases h5 : y0.length = y1.length
 rotate_left
 ·have eb5 : ((y0.length : Int) != (y1.length : Int)) = true := by simp; omega
  have E : Hid (r = false) := Bool.eq_false_iff.2 fun k => h5 (HR.out.1 k).2.2.2.2.2.1
  go_enter Tryz.func42, Tryz.ntmps42
  go_upto_region 1 with fail
  rw [E1.out]
  go_wp2_with fail
  go_ret
  exact ⟨ret_bool E.out.symm, HG.out ⟨W, Below.refl _ _⟩⟩
 have eb5 : ((y0.length : Int) != (y1.length : Int)) = false := by simp; omega
 have HL5 := Lib.hid h5
 clear h5
 by_cases h6 : a0.length = a1.length
 rotate_left
 ·have eb6 : ((a0.length : Int) != (a1.length : Int)) = true := by simp; omega
  have E : Hid (r = false) := Bool.eq_false_iff.2 fun k => h6 (HR.out.1 k).2.2.2.2.2.2.1
  go_enter Tryz.func42, Tryz.ntmps42
  go_upto_region 1 with fail
  rw [E1.out]
  go_wp2_with fail
  go_ret
  exact ⟨ret_bool E.out.symm, HG.out ⟨W, Below.refl _ _⟩⟩
 have eb6 : ((a0.length : Int) != (a1.length : Int)) = false := by simp; omega
 have HL6 := Lib.hid h6
 clear h6
 go_enter Tryz.func42, Tryz.ntmps42
 go_upto_region 1 with fail
 rw [E1.out]
 go_wp2_with fail
 clear fa0 fb0 fa1 fb1 fa2 fb2 fa3 fb3 fa4 fb4 fa5 fb5 fa6 fb6 fa7 fb7
 go_loopw [64] (fun s wr => ∃ (i : Nat) (g : Gr W), wr = g.val ∧ i ≤ m0.length ∧ s = .int .i64 i ∧ Hid (m0.take i = m1.take i)) (fun s _ => m0.length - (intOf s).toNat)
 case atStart => exact ⟨0, ⟨W, Below.refl _ _⟩, rfl, Nat.zero_le _, rfl, rfl⟩
 case round =>
  obtain ⟨i, g, rfl, hi, rfl, HI⟩ := hrel
  by_cases hlt : i < m0.length
  ·have hltb : i < m1.length := by rw [← HL4.out]; exact hlt
   have hiz : (i : Int) < m0.length := by omega
   have hib : (i : Int) < m1.length := by omega
   obtain ⟨x, hx⟩ : ∃ x, m0[i]? = some x := ⟨_, List.getElem?_eq_getElem hlt⟩
   obtain ⟨y, hy⟩ : ∃ y, m1[i]? = some y := ⟨_, List.getElem?_eq_getElem hltb⟩
   have HN : Hid (x ≠ y → ¬ (m0 = m1)) := fun h k => h (Option.some.inj (hx.symm.trans ((congrArg (fun l => l[i]?) k).trans hy)))
   have HT : Hid (x = y → m0.take (i + 1) = m1.take (i + 1)) := fun h => by rw [List.take_add_one, List.take_add_one, HI.out, hx, hy, h]
   have fa4 := HA.out g 4 (.slice A1 m0.length c1) rfl
   have fb4 := HB.out g 4 (.slice B1 m1.length d1) rfl
   try simp only at fa4 fb4
   obtain ⟨b0, off0, hA0, _, hc⟩ := (HSa1.out g.val (HG.out g)).uG hx
   obtain ⟨b1, off1, hB0, _, hd⟩ := (HSb1.out g.val (HG.out g)).uG hy
   rw [hA0] at fa4
   rw [hB0] at fb4
   clear hx hy hA0 hB0
   have c1 := hc ⟨_, Below.refl _ _⟩
   have d1 := hd ⟨_, Below.refl _ _⟩
   try simp only at c1 d1
   clear hc hd
   by_cases h0 : x = y
   rotate_left
   ·have eb0 : ((x : Int) != (y : Int)) = true := by simp; omega
    have eb0' : (x == y) = false := by simpa using h0
    have ec0 : ¬ ((x : Int) = (y : Int)) := by omega
    have E : Hid (r = false) := Bool.eq_false_iff.2 fun k => HN.out h0 (HR.out.1 k).2.2.2.2.2.2.2.1
    clear HN HT HI
    go_wp2_with fail
    go_region
    go_wp2_with fail
    go_ret
    exact ⟨ret_bool E.out.symm, (HG.out g).drew⟩
   subst h0
   have HI2 := Lib.hid (HT.out rfl)
   clear HN HT HI
   go_wp2_with fail
   go_region
   go_wp2_with fail
   go_roundw
   case rel => exact ⟨i + 1, ⟨g.val.drew, g.ok.drew⟩, rfl, hlt, by go_num, HI2.out⟩
   case measure => simp [intOf]; omega
  ·obtain rfl : i = m0.length := by omega
   have HC7 : Hid (m0 = m1) := by have := HI.out; rw [List.take_length, HL4.out, List.take_length] at this; exact this
   clear HI
   have fa5 := HA.out g 5 (.slice A2 y0.length c2) rfl
   have fb5 := HB.out g 5 (.slice B2 y1.length d2) rfl
   try simp only at fa5 fb5
   go_wp2_with fail
   clear fa5 fb5
   go_loopw [82] (fun s wr => ∃ (i : Nat) (g : Gr W), wr = g.val ∧ i ≤ y0.length ∧ s = .int .i64 i ∧ Hid (y0.take i = y1.take i)) (fun s _ => y0.length - (intOf s).toNat)
   case atStart => exact ⟨0, g, rfl, Nat.zero_le _, rfl, rfl⟩
   case round =>
    obtain ⟨i, g, rfl, hi, rfl, HI⟩ := hrel
    by_cases hlt : i < y0.length
    ·have hltb : i < y1.length := by rw [← HL5.out]; exact hlt
     have hiz : (i : Int) < y0.length := by omega
     have hib : (i : Int) < y1.length := by omega
     obtain ⟨x, hx⟩ : ∃ x, y0[i]? = some x := ⟨_, List.getElem?_eq_getElem hlt⟩
     obtain ⟨y, hy⟩ : ∃ y, y1[i]? = some y := ⟨_, List.getElem?_eq_getElem hltb⟩
     have HN : Hid (x ≠ y → ¬ (y0 = y1)) := fun h k => h (Option.some.inj (hx.symm.trans ((congrArg (fun l => l[i]?) k).trans hy)))
     have HT : Hid (x = y → y0.take (i + 1) = y1.take (i + 1)) := fun h => by rw [List.take_add_one, List.take_add_one, HI.out, hx, hy, h]
     have fa5 := HA.out g 5 (.slice A2 y0.length c2) rfl
     have fb5 := HB.out g 5 (.slice B2 y1.length d2) rfl
     try simp only at fa5 fb5
     obtain ⟨b0, off0, hA0, _, hc⟩ := (HSa2.out g.val (HG.out g)).upG hx
     obtain ⟨b1, off1, hB0, _, hd⟩ := (HSb2.out g.val (HG.out g)).upG hy
     rw [hA0] at fa5
     rw [hB0] at fb5
     clear hx hy hA0 hB0
     obtain ⟨x0, x1⟩ := x
     obtain ⟨y0, y1⟩ := y
     obtain ⟨c0, c1⟩ := hc ⟨_, Below.refl _ _⟩
     obtain ⟨d0, d1⟩ := hd ⟨_, Below.refl _ _⟩
     simp only at c0 c1 d0 d1
     clear hc hd
     by_cases h0 : x0 = y0
     rotate_left
     ·have eb0 : ((x0 : Int) != (y0 : Int)) = true := by simp; omega
      have eb0' : (x0 == y0) = false := by simpa using h0
      have ec0 : ¬ ((x0 : Int) = (y0 : Int)) := by omega
      have E : Hid (r = false) := Bool.eq_false_iff.2 fun k => HN.out (fun h => h0 (Prod.mk.inj h).1) (HR.out.1 k).2.2.2.2.2.2.2.2.1
      clear HN HT HI
      go_wp2_with fail
      go_region
      go_wp2_with fail
      go_ret
      exact ⟨ret_bool E.out.symm, (HG.out g).drew⟩
     subst h0
     by_cases h1 : x1 = y1
     rotate_left
     ·have E : Hid (r = false) := Bool.eq_false_iff.2 fun k => HN.out (fun h => h1 (Prod.mk.inj h).2) (HR.out.1 k).2.2.2.2.2.2.2.2.1
      clear HN HT HI
      go_wp2_with fail
      go_region
      go_wp2_with fail
      go_ret
      exact ⟨ret_bool E.out.symm, (HG.out g).drew⟩
     subst h1
     have HI2 := Lib.hid (HT.out rfl)
     clear HN HT HI
     go_wp2_with fail
     go_region
     go_wp2_with fail
     go_roundw
     case rel => exact ⟨i + 1, ⟨g.val.drew, g.ok.drew⟩, rfl, hlt, by go_num, HI2.out⟩
     case measure => simp [intOf]; omega
    ·obtain rfl : i = y0.length := by omega
     have HC8 : Hid (y0 = y1) := by have := HI.out; rw [List.take_length, HL5.out, List.take_length] at this; exact this
     clear HI
     have fa7 := HA.out g 7 (.slice A3 a0.length c3) rfl
     have fb7 := HB.out g 7 (.slice B3 a1.length d3) rfl
     try simp only at fa7 fb7
     go_wp2_with fail
     clear fa7 fb7
     go_loopw [100] (fun s wr => ∃ (i : Nat) (g : Gr W), wr = g.val ∧ i ≤ a0.length ∧ s = .int .i64 i ∧ Hid (a0.take i = a1.take i)) (fun s _ => a0.length - (intOf s).toNat)
     case atStart => exact ⟨0, g, rfl, Nat.zero_le _, rfl, rfl⟩
     case round =>
      obtain ⟨i, g, rfl, hi, rfl, HI⟩ := hrel
      by_cases hlt : i < a0.length
      ·have hltb : i < a1.length := by rw [← HL6.out]; exact hlt
       have hiz : (i : Int) < a0.length := by omega
       have hib : (i : Int) < a1.length := by omega
       obtain ⟨x, hx⟩ : ∃ x, a0[i]? = some x := ⟨_, List.getElem?_eq_getElem hlt⟩
       obtain ⟨y, hy⟩ : ∃ y, a1[i]? = some y := ⟨_, List.getElem?_eq_getElem hltb⟩
       have HN : Hid (x ≠ y → ¬ (a0 = a1)) := fun h k => h (Option.some.inj (hx.symm.trans ((congrArg (fun l => l[i]?) k).trans hy)))
       have HT : Hid (x = y → a0.take (i + 1) = a1.take (i + 1)) := fun h => by rw [List.take_add_one, List.take_add_one, HI.out, hx, hy, h]
       have fa7 := HA.out g 7 (.slice A3 a0.length c3) rfl
       have fb7 := HB.out g 7 (.slice B3 a1.length d3) rfl
       try simp only at fa7 fb7
       obtain ⟨b0, off0, hA0, _, hc⟩ := (HSa3.out g.val (HG.out g)).uuG hx
       obtain ⟨b1, off1, hB0, _, hd⟩ := (HSb3.out g.val (HG.out g)).uuG hy
       rw [hA0] at fa7
       rw [hB0] at fb7
       clear hx hy hA0 hB0
       obtain ⟨x0, x1⟩ := x
       obtain ⟨y0, y1⟩ := y
       obtain ⟨c0, c1⟩ := hc ⟨_, Below.refl _ _⟩
       obtain ⟨d0, d1⟩ := hd ⟨_, Below.refl _ _⟩
       simp only at c0 c1 d0 d1
       clear hc hd
       by_cases h0 : x0 = y0
       rotate_left
       ·have eb0 : ((x0 : Int) != (y0 : Int)) = true := by simp; omega
        have eb0' : (x0 == y0) = false := by simpa using h0
        have ec0 : ¬ ((x0 : Int) = (y0 : Int)) := by omega
        have E : Hid (r = false) := Bool.eq_false_iff.2 fun k => HN.out (fun h => h0 (Prod.mk.inj h).1) (HR.out.1 k).2.2.2.2.2.2.2.2.2.1
        clear HN HT HI
        go_wp2_with fail
        go_region
        go_wp2_with fail
        go_ret
        exact ⟨ret_bool E.out.symm, (HG.out g).drew⟩
       subst h0
       by_cases h1 : x1 = y1
       rotate_left
       ·have eb1 : ((x1 : Int) != (y1 : Int)) = true := by simp; omega
        have eb1' : (x1 == y1) = false := by simpa using h1
        have ec1 : ¬ ((x1 : Int) = (y1 : Int)) := by omega
        have E : Hid (r = false) := Bool.eq_false_iff.2 fun k => HN.out (fun h => h1 (Prod.mk.inj h).2) (HR.out.1 k).2.2.2.2.2.2.2.2.2.1
        clear HN HT HI
        go_wp2_with fail
        go_region
        go_wp2_with fail
        go_ret
        exact ⟨ret_bool E.out.symm, (HG.out g).drew⟩
       subst h1
       have HI2 := Lib.hid (HT.out rfl)
       clear HN HT HI
       go_wp2_with fail
       go_region
       go_wp2_with fail
       go_roundw
       case rel => exact ⟨i + 1, ⟨g.val.drew, g.ok.drew⟩, rfl, hlt, by go_num, HI2.out⟩
       case measure => simp [intOf]; omega
      ·obtain rfl : i = a0.length := by omega
       have HC9 : Hid (a0 = a1) := by have := HI.out; rw [List.take_length, HL6.out, List.take_length] at this; exact this
       clear HI
       have fa8 := HA.out g 8 (.slice A4 p0.length c4) rfl
       have fb8 := HB.out g 8 (.slice B4 p1.length d4) rfl
       try simp only at fa8 fb8
       go_wp2_with fail
       go_at_call 86
       refine (rshiftsSame16_any p0 p1 A4 B4 c4 d4 g.val (HSa4.out _ (HG.out g)) (HSb4.out _ (HG.out g))).mono ?_
       rintro e w10 ⟨rfl, hb10⟩
       obtain ⟨g10, rfl⟩ := Gr.on g hb10
       clear hb10
       have hv10 : decide (p0 = p1) = true ↔ p0 = p1 := by simp
       generalize decide (p0 = p1) = v10 at *
       clear fa8 fb8
       have E : Hid (r = v10) := Bool.eq_iff_iff.2 ⟨fun k => hv10.2 (HR.out.1 k).2.2.2.2.2.2.2.2.2.2, fun k => HR.out.2 ⟨(by first | rfl | trivial), (by first | rfl | trivial), (by first | rfl | trivial), (by first | rfl | trivial), HL4.out, HL5.out, HL6.out, HC7.out, HC8.out, HC9.out, hv10.1 k⟩⟩
       clear hv10
       go_wp2_with fail
       go_ret
       exact ⟨ret_bool E.out.symm, HG.out g10⟩
theorem Pl.same_iff (i0 o0 : Nat) (q0 : Qy) (s0 : List Int) (v0 : List (Nat × Int)) (u0 t0 w0 : Int) (i1 o1 : Nat) (q1 : Qy) (s1 : List Int) (v1 : List (Nat × Int)) (u1_ t1 w1 : Int) :
  (⟨i0, o0, q0, s0, v0, u0, t0, w0⟩ : Pl) = ⟨i1, o1, q1, s1, v1, u1_, t1, w1⟩ ↔ i0 = i1 ∧ o0 = o1 ∧ q0 = q1 ∧ s0 = s1 ∧ v0.length = v1.length ∧ u0 = u1_ ∧ t0 = t1 ∧ w0 = w1 ∧ v0 = v1 := by
 constructor
 ·intro h; injection h with h1 h2 h3 h4 h5 h6 h7 h8; subst h5; exact ⟨h1, h2, h3, h4, rfl, h6, h7, h8, rfl⟩
 ·rintro ⟨rfl, rfl, rfl, rfl, _, rfl, rfl, rfl, rfl⟩; rfl
set_option maxRecDepth 100000 in
set_option maxHeartbeats 4000000 in
theorem rSamePoll_any (a b : Pl) (p q : PlP) (w : World) (ha : PlAt w a p) (hb : PlAt w b q) :
  Calls Tryz.prog 32 #[.agg (pCells a p).toArray, .agg (pCells b q).toArray] w fun e w' => ∃ r, e = .returned (.bool r) ∧ (r = true ↔ a = b) ∧ Below w.heap.size w w' := by
 obtain ⟨r, hr⟩ : ∃ r : Bool, r = true ↔ a = b := by classical exact ⟨decide (a = b), by simp⟩
 suffices h : Calls Tryz.prog 32 #[.agg (pCells a p).toArray, .agg (pCells b q).toArray] w fun e w' => e = .returned (.bool r) ∧ Below w.heap.size w w' from h.mono fun e w' h => ⟨r, h.1, hr, h.2⟩
 obtain ⟨i0, o0, q0, s0, v0, m0, t0, n0⟩ := a
 obtain ⟨i1, o1, q1, s1, v1, m1, t1, n1⟩ := b
 obtain ⟨qa, A1, A2, c1, c2⟩ := p
 obtain ⟨qb, B1, B2, d1, d2⟩ := q
 rw [Pl.same_iff] at hr
 obtain ⟨haq, ha1, ha2⟩ := ha
 obtain ⟨hbq, hb1, hb2⟩ := hb
 unfold pCells qCells
 simp only [List.cons_append, List.nil_append, List.toArray] at *
 have hl1 := len_le16 ha2
 have HQC : Hid (∀ g : World, Below w.heap.size w g → Calls Tryz.prog 42 #[.agg (qCells q0 qa).toArray, .agg (qCells q1 qb).toArray] g fun e w' => ∃ r, e = .returned (.bool r) ∧ (r = true ↔ q0 = q1) ∧ Below g.heap.size g w') := fun g hb' => rSameQuery_any q0 q1 qa qb g (haq.below hb') (hbq.below hb')
 unfold qCells at HQC
 simp only [List.toArray] at HQC
 have HSa1 : Hid (∀ wr, Below w.heap.size w wr → Sl wr A1 s0.length c1 (iv s0)) := fun wr hb' => ha1.below hb' (Nat.le_refl _)
 have HSa2 : Hid (∀ wr, Below w.heap.size w wr → Sl wr A2 v0.length c2 (kv u2 v0)) := fun wr hb' => ha2.below hb' (Nat.le_refl _)
 have HSb1 : Hid (∀ wr, Below w.heap.size w wr → Sl wr B1 s1.length d1 (iv s1)) := fun wr hb' => hb1.below hb' (Nat.le_refl _)
 have HSb2 : Hid (∀ wr, Below w.heap.size w wr → Sl wr B2 v1.length d2 (kv u2 v1)) := fun wr hb' => hb2.below hb' (Nat.le_refl _)
 clear haq hbq ha1 ha2 hb1 hb2
 obtain ⟨W, hW⟩ : ∃ W, (w.alloc (.cells #[.int .u32 (i0 : Int), .int .u32 (o0 : Int), .int .i64 q0.win.1, .int .i64 q0.win.2, .int .i64 q0.long, .int .i64 q0.grid, .slice qa.A1 q0.must.length qa.c1, .slice qa.A2 q0.may.length qa.c2, .int .i64 q0.seats, .slice qa.A3 q0.apart.length qa.c3, .slice qa.A4 q0.prefer.length qa.c4, .slice A1 s0.length c1, .slice A2 v0.length c2, .int .i64 m0, .int .i64 t0, .int .i64 n0] 37)).alloc (.cells #[.int .u32 (i1 : Int), .int .u32 (o1 : Int), .int .i64 q1.win.1, .int .i64 q1.win.2, .int .i64 q1.long, .int .i64 q1.grid, .slice qb.A1 q1.must.length qb.c1, .slice qb.A2 q1.may.length qb.c2, .int .i64 q1.seats, .slice qb.A3 q1.apart.length qb.c3, .slice qb.A4 q1.prefer.length qb.c4, .slice B1 s1.length d1, .slice B2 v1.length d2, .int .i64 m1, .int .i64 t1, .int .i64 n1] 37) = W := ⟨_, rfl⟩
 have hBW : Below w.heap.size w W := by rw [← hW]; exact ((Below.refl _ w).alloc (Nat.le_refl _) _).alloc (by simp) _
 have HG : Hid (∀ g : Gr W, Below w.heap.size w g.val) := fun g => hBW.trans (g.ok.mono hBW.size)
 have HA : Hid (∀ (g : Gr W) (k : Nat) (v : Value), (#[.int .u32 (i0 : Int), .int .u32 (o0 : Int), .int .i64 q0.win.1, .int .i64 q0.win.2, .int .i64 q0.long, .int .i64 q0.grid, .slice qa.A1 q0.must.length qa.c1, .slice qa.A2 q0.may.length qa.c2, .int .i64 q0.seats, .slice qa.A3 q0.apart.length qa.c3, .slice qa.A4 q0.prefer.length qa.c4, .slice A1 s0.length c1, .slice A2 v0.length c2, .int .i64 m0, .int .i64 t0, .int .i64 n0] : Array Value)[k]? = some v → g.val.cell? ⟨w.heap.size, k, none⟩ = some v) := fun g k v hv => cell_old (by rw [← hW]; exact blk_cell (cs := #[.int .u32 (i0 : Int), .int .u32 (o0 : Int), .int .i64 q0.win.1, .int .i64 q0.win.2, .int .i64 q0.long, .int .i64 q0.grid, .slice qa.A1 q0.must.length qa.c1, .slice qa.A2 q0.may.length qa.c2, .int .i64 q0.seats, .slice qa.A3 q0.apart.length qa.c3, .slice qa.A4 q0.prefer.length qa.c4, .slice A1 s0.length c1, .slice A2 v0.length c2, .int .i64 m0, .int .i64 t0, .int .i64 n0]) (t := 37) (by rw [heap_alloc_old _ _ (by simp)]; exact heap_alloc_new _ _) hv) g.ok
 have HB : Hid (∀ (g : Gr W) (k : Nat) (v : Value), (#[.int .u32 (i1 : Int), .int .u32 (o1 : Int), .int .i64 q1.win.1, .int .i64 q1.win.2, .int .i64 q1.long, .int .i64 q1.grid, .slice qb.A1 q1.must.length qb.c1, .slice qb.A2 q1.may.length qb.c2, .int .i64 q1.seats, .slice qb.A3 q1.apart.length qb.c3, .slice qb.A4 q1.prefer.length qb.c4, .slice B1 s1.length d1, .slice B2 v1.length d2, .int .i64 m1, .int .i64 t1, .int .i64 n1] : Array Value)[k]? = some v → g.val.cell? ⟨w.heap.size + 1, k, none⟩ = some v) := fun g k v hv => cell_old (by rw [← hW]; exact blk_cell (cs := #[.int .u32 (i1 : Int), .int .u32 (o1 : Int), .int .i64 q1.win.1, .int .i64 q1.win.2, .int .i64 q1.long, .int .i64 q1.grid, .slice qb.A1 q1.must.length qb.c1, .slice qb.A2 q1.may.length qb.c2, .int .i64 q1.seats, .slice qb.A3 q1.apart.length qb.c3, .slice qb.A4 q1.prefer.length qb.c4, .slice B1 s1.length d1, .slice B2 v1.length d2, .int .i64 m1, .int .i64 t1, .int .i64 n1]) (t := 37) (heap_alloc_new2 _ _ _) hv) g.ok
 have E1 := Lib.hid hW
 clear hW hBW
 have HR := Lib.hid hr
 clear hr
 have fa0 := HA.out ⟨W, Below.refl _ _⟩ 0 (.int .u32 (i0 : Int)) rfl
 have fb0 := HB.out ⟨W, Below.refl _ _⟩ 0 (.int .u32 (i1 : Int)) rfl
 have fa1 := HA.out ⟨W, Below.refl _ _⟩ 1 (.int .u32 (o0 : Int)) rfl
 have fb1 := HB.out ⟨W, Below.refl _ _⟩ 1 (.int .u32 (o1 : Int)) rfl
 have fa2 := HA.out ⟨W, Below.refl _ _⟩ 2 (.int .i64 q0.win.1) rfl
 have fb2 := HB.out ⟨W, Below.refl _ _⟩ 2 (.int .i64 q1.win.1) rfl
 have fa3 := HA.out ⟨W, Below.refl _ _⟩ 3 (.int .i64 q0.win.2) rfl
 have fb3 := HB.out ⟨W, Below.refl _ _⟩ 3 (.int .i64 q1.win.2) rfl
 have fa4 := HA.out ⟨W, Below.refl _ _⟩ 4 (.int .i64 q0.long) rfl
 have fb4 := HB.out ⟨W, Below.refl _ _⟩ 4 (.int .i64 q1.long) rfl
 have fa5 := HA.out ⟨W, Below.refl _ _⟩ 5 (.int .i64 q0.grid) rfl
 have fb5 := HB.out ⟨W, Below.refl _ _⟩ 5 (.int .i64 q1.grid) rfl
 have fa6 := HA.out ⟨W, Below.refl _ _⟩ 6 (.slice qa.A1 q0.must.length qa.c1) rfl
 have fb6 := HB.out ⟨W, Below.refl _ _⟩ 6 (.slice qb.A1 q1.must.length qb.c1) rfl
 have fa7 := HA.out ⟨W, Below.refl _ _⟩ 7 (.slice qa.A2 q0.may.length qa.c2) rfl
 have fb7 := HB.out ⟨W, Below.refl _ _⟩ 7 (.slice qb.A2 q1.may.length qb.c2) rfl
 have fa8 := HA.out ⟨W, Below.refl _ _⟩ 8 (.int .i64 q0.seats) rfl
 have fb8 := HB.out ⟨W, Below.refl _ _⟩ 8 (.int .i64 q1.seats) rfl
 have fa9 := HA.out ⟨W, Below.refl _ _⟩ 9 (.slice qa.A3 q0.apart.length qa.c3) rfl
 have fb9 := HB.out ⟨W, Below.refl _ _⟩ 9 (.slice qb.A3 q1.apart.length qb.c3) rfl
 have fa10 := HA.out ⟨W, Below.refl _ _⟩ 10 (.slice qa.A4 q0.prefer.length qa.c4) rfl
 have fb10 := HB.out ⟨W, Below.refl _ _⟩ 10 (.slice qb.A4 q1.prefer.length qb.c4) rfl
 have fa11 := HA.out ⟨W, Below.refl _ _⟩ 11 (.slice A1 s0.length c1) rfl
 have fb11 := HB.out ⟨W, Below.refl _ _⟩ 11 (.slice B1 s1.length d1) rfl
 have fa12 := HA.out ⟨W, Below.refl _ _⟩ 12 (.slice A2 v0.length c2) rfl
 have fb12 := HB.out ⟨W, Below.refl _ _⟩ 12 (.slice B2 v1.length d2) rfl
 have fa13 := HA.out ⟨W, Below.refl _ _⟩ 13 (.int .i64 m0) rfl
 have fb13 := HB.out ⟨W, Below.refl _ _⟩ 13 (.int .i64 m1) rfl
 have fa14 := HA.out ⟨W, Below.refl _ _⟩ 14 (.int .i64 t0) rfl
 have fb14 := HB.out ⟨W, Below.refl _ _⟩ 14 (.int .i64 t1) rfl
 have fa15 := HA.out ⟨W, Below.refl _ _⟩ 15 (.int .i64 n0) rfl
 have fb15 := HB.out ⟨W, Below.refl _ _⟩ 15 (.int .i64 n1) rfl
 try simp only at fa0 fb0 fa1 fb1 fa2 fb2 fa3 fb3 fa4 fb4 fa5 fb5 fa6 fb6 fa7 fb7 fa8 fb8 fa9 fb9 fa10 fb10 fa11 fb11 fa12 fb12 fa13 fb13 fa14 fb14 fa15 fb15
 by_cases h0 : i0 = i1
 rotate_left
 ·have eb0 : ((i0 : Int) != (i1 : Int)) = true := by simp; omega
  have eb0' : (i0 == i1) = false := by simpa using h0
  have E : Hid (r = false) := Bool.eq_false_iff.2 fun k => h0 (HR.out.1 k).1
  go_enter Tryz.func32, Tryz.ntmps32
  go_upto_region 1 with fail
  rw [E1.out]
  go_wp2_with fail
  go_ret
  exact ⟨ret_bool E.out.symm, HG.out ⟨W, Below.refl _ _⟩⟩
 subst h0
 by_cases h1 : o0 = o1
 rotate_left
 ·have eb1 : ((o0 : Int) != (o1 : Int)) = true := by simp; omega
  have eb1' : (o0 == o1) = false := by simpa using h1
  have E : Hid (r = false) := Bool.eq_false_iff.2 fun k => h1 (HR.out.1 k).2.1
  go_enter Tryz.func32, Tryz.ntmps32
  go_upto_region 1 with fail
  rw [E1.out]
  go_wp2_with fail
  go_ret
  exact ⟨ret_bool E.out.symm, HG.out ⟨W, Below.refl _ _⟩⟩
 subst h1
 go_enter Tryz.func32, Tryz.ntmps32
 go_upto_region 1 with fail
 rw [E1.out]
 go_wp2_with fail
 go_at_call 42
 refine (HQC.out _ (HG.out ⟨W, Below.refl _ _⟩)).mono ?_
 rintro e w2 ⟨v2, rfl, hv2, hb2⟩
 obtain ⟨g2, rfl⟩ := Gr.on ⟨W, Below.refl _ _⟩ hb2
 clear hb2
 clear fa0 fb0 fa1 fb1 fa2 fb2 fa3 fb3 fa4 fb4 fa5 fb5 fa6 fb6 fa7 fb7 fa8 fb8 fa9 fb9 fa10 fb10 fa11 fb11 fa12 fb12 fa13 fb13 fa14 fb14 fa15 fb15
 have fa0 := HA.out g2 0 (.int .u32 (i0 : Int)) rfl
 have fb0 := HB.out g2 0 (.int .u32 (i0 : Int)) rfl
 have fa1 := HA.out g2 1 (.int .u32 (o0 : Int)) rfl
 have fb1 := HB.out g2 1 (.int .u32 (o0 : Int)) rfl
 have fa2 := HA.out g2 2 (.int .i64 q0.win.1) rfl
 have fb2 := HB.out g2 2 (.int .i64 q1.win.1) rfl
 have fa3 := HA.out g2 3 (.int .i64 q0.win.2) rfl
 have fb3 := HB.out g2 3 (.int .i64 q1.win.2) rfl
 have fa4 := HA.out g2 4 (.int .i64 q0.long) rfl
 have fb4 := HB.out g2 4 (.int .i64 q1.long) rfl
 have fa5 := HA.out g2 5 (.int .i64 q0.grid) rfl
 have fb5 := HB.out g2 5 (.int .i64 q1.grid) rfl
 have fa6 := HA.out g2 6 (.slice qa.A1 q0.must.length qa.c1) rfl
 have fb6 := HB.out g2 6 (.slice qb.A1 q1.must.length qb.c1) rfl
 have fa7 := HA.out g2 7 (.slice qa.A2 q0.may.length qa.c2) rfl
 have fb7 := HB.out g2 7 (.slice qb.A2 q1.may.length qb.c2) rfl
 have fa8 := HA.out g2 8 (.int .i64 q0.seats) rfl
 have fb8 := HB.out g2 8 (.int .i64 q1.seats) rfl
 have fa9 := HA.out g2 9 (.slice qa.A3 q0.apart.length qa.c3) rfl
 have fb9 := HB.out g2 9 (.slice qb.A3 q1.apart.length qb.c3) rfl
 have fa10 := HA.out g2 10 (.slice qa.A4 q0.prefer.length qa.c4) rfl
 have fb10 := HB.out g2 10 (.slice qb.A4 q1.prefer.length qb.c4) rfl
 have fa11 := HA.out g2 11 (.slice A1 s0.length c1) rfl
 have fb11 := HB.out g2 11 (.slice B1 s1.length d1) rfl
 have fa12 := HA.out g2 12 (.slice A2 v0.length c2) rfl
 have fb12 := HB.out g2 12 (.slice B2 v1.length d2) rfl
 have fa13 := HA.out g2 13 (.int .i64 m0) rfl
 have fb13 := HB.out g2 13 (.int .i64 m1) rfl
 have fa14 := HA.out g2 14 (.int .i64 t0) rfl
 have fb14 := HB.out g2 14 (.int .i64 t1) rfl
 have fa15 := HA.out g2 15 (.int .i64 n0) rfl
 have fb15 := HB.out g2 15 (.int .i64 n1) rfl
 try simp only at fa0 fb0 fa1 fb1 fa2 fb2 fa3 fb3 fa4 fb4 fa5 fb5 fa6 fb6 fa7 fb7 fa8 fb8 fa9 fb9 fa10 fb10 fa11 fb11 fa12 fb12 fa13 fb13 fa14 fb14 fa15 fb15
 cases v2 with
 | false =>
  have hn2 : ¬ (q0 = q1) := fun k => by simpa using hv2.2 k
  have E : Hid (r = false) := Bool.eq_false_iff.2 fun k => hn2 (HR.out.1 k).2.2.1
  go_wp2_with fail
  go_ret
  exact ⟨ret_bool E.out.symm, HG.out g2⟩
 | true =>
  have HC2 : Hid (q0 = q1) := hv2.1 rfl
  clear hv2
  go_wp2_with fail
  go_at_call 74
  refine (rlongs16_any s0 s1 A1 B1 c1 d1 g2.val (HSa1.out _ (HG.out g2)) (HSb1.out _ (HG.out g2))).mono ?_
  rintro e w3 ⟨rfl, hb3⟩
  obtain ⟨g3, rfl⟩ := Gr.on g2 hb3
  clear hb3
  have hv3 : decide (s0 = s1) = true ↔ s0 = s1 := by simp
  generalize decide (s0 = s1) = v3 at *
  clear fa0 fb0 fa1 fb1 fa2 fb2 fa3 fb3 fa4 fb4 fa5 fb5 fa6 fb6 fa7 fb7 fa8 fb8 fa9 fb9 fa10 fb10 fa11 fb11 fa12 fb12 fa13 fb13 fa14 fb14 fa15 fb15
  have fa0 := HA.out g3 0 (.int .u32 (i0 : Int)) rfl
  have fb0 := HB.out g3 0 (.int .u32 (i0 : Int)) rfl
  have fa1 := HA.out g3 1 (.int .u32 (o0 : Int)) rfl
  have fb1 := HB.out g3 1 (.int .u32 (o0 : Int)) rfl
  have fa2 := HA.out g3 2 (.int .i64 q0.win.1) rfl
  have fb2 := HB.out g3 2 (.int .i64 q1.win.1) rfl
  have fa3 := HA.out g3 3 (.int .i64 q0.win.2) rfl
  have fb3 := HB.out g3 3 (.int .i64 q1.win.2) rfl
  have fa4 := HA.out g3 4 (.int .i64 q0.long) rfl
  have fb4 := HB.out g3 4 (.int .i64 q1.long) rfl
  have fa5 := HA.out g3 5 (.int .i64 q0.grid) rfl
  have fb5 := HB.out g3 5 (.int .i64 q1.grid) rfl
  have fa6 := HA.out g3 6 (.slice qa.A1 q0.must.length qa.c1) rfl
  have fb6 := HB.out g3 6 (.slice qb.A1 q1.must.length qb.c1) rfl
  have fa7 := HA.out g3 7 (.slice qa.A2 q0.may.length qa.c2) rfl
  have fb7 := HB.out g3 7 (.slice qb.A2 q1.may.length qb.c2) rfl
  have fa8 := HA.out g3 8 (.int .i64 q0.seats) rfl
  have fb8 := HB.out g3 8 (.int .i64 q1.seats) rfl
  have fa9 := HA.out g3 9 (.slice qa.A3 q0.apart.length qa.c3) rfl
  have fb9 := HB.out g3 9 (.slice qb.A3 q1.apart.length qb.c3) rfl
  have fa10 := HA.out g3 10 (.slice qa.A4 q0.prefer.length qa.c4) rfl
  have fb10 := HB.out g3 10 (.slice qb.A4 q1.prefer.length qb.c4) rfl
  have fa11 := HA.out g3 11 (.slice A1 s0.length c1) rfl
  have fb11 := HB.out g3 11 (.slice B1 s1.length d1) rfl
  have fa12 := HA.out g3 12 (.slice A2 v0.length c2) rfl
  have fb12 := HB.out g3 12 (.slice B2 v1.length d2) rfl
  have fa13 := HA.out g3 13 (.int .i64 m0) rfl
  have fb13 := HB.out g3 13 (.int .i64 m1) rfl
  have fa14 := HA.out g3 14 (.int .i64 t0) rfl
  have fb14 := HB.out g3 14 (.int .i64 t1) rfl
  have fa15 := HA.out g3 15 (.int .i64 n0) rfl
  have fb15 := HB.out g3 15 (.int .i64 n1) rfl
  try simp only at fa0 fb0 fa1 fb1 fa2 fb2 fa3 fb3 fa4 fb4 fa5 fb5 fa6 fb6 fa7 fb7 fa8 fb8 fa9 fb9 fa10 fb10 fa11 fb11 fa12 fb12 fa13 fb13 fa14 fb14 fa15 fb15
  cases v3 with
  | false =>
   have hn3 : ¬ (s0 = s1) := fun k => by simpa using hv3.2 k
   have E : Hid (r = false) := Bool.eq_false_iff.2 fun k => hn3 (HR.out.1 k).2.2.2.1
   go_wp2_with fail
   go_ret
   exact ⟨ret_bool E.out.symm, HG.out g3⟩
  | true =>
   have HC3 : Hid (s0 = s1) := hv3.1 rfl
   clear hv3
   by_cases h4 : v0.length = v1.length
   rotate_left
   ·have eb4 : ((v0.length : Int) != (v1.length : Int)) = true := by simp; omega
    have E : Hid (r = false) := Bool.eq_false_iff.2 fun k => h4 (HR.out.1 k).2.2.2.2.1
    go_wp2_with fail
    go_ret
    exact ⟨ret_bool E.out.symm, HG.out g3⟩
   have eb4 : ((v0.length : Int) != (v1.length : Int)) = false := by simp; omega
   have HL4 := Lib.hid h4
   clear h4
   by_cases h5 : m0 = m1
   rotate_left
   ·have eb5 : (m0 != m1) = true := by simpa using h5
    have E : Hid (r = false) := Bool.eq_false_iff.2 fun k => h5 (HR.out.1 k).2.2.2.2.2.1
    go_wp2_with fail
    go_ret
    exact ⟨ret_bool E.out.symm, HG.out g3⟩
   subst h5
   by_cases h6 : t0 = t1
   rotate_left
   ·have eb6 : (t0 != t1) = true := by simpa using h6
    have E : Hid (r = false) := Bool.eq_false_iff.2 fun k => h6 (HR.out.1 k).2.2.2.2.2.2.1
    go_wp2_with fail
    go_ret
    exact ⟨ret_bool E.out.symm, HG.out g3⟩
   subst h6
   by_cases h7 : n0 = n1
   rotate_left
   ·have eb7 : (n0 != n1) = true := by simpa using h7
    have E : Hid (r = false) := Bool.eq_false_iff.2 fun k => h7 (HR.out.1 k).2.2.2.2.2.2.2.1
    go_wp2_with fail
    go_ret
    exact ⟨ret_bool E.out.symm, HG.out g3⟩
   subst h7
   go_wp2_with fail
   clear fa0 fb0 fa1 fb1 fa2 fb2 fa3 fb3 fa4 fb4 fa5 fb5 fa6 fb6 fa7 fb7 fa8 fb8 fa9 fb9 fa10 fb10 fa11 fb11 fa12 fb12 fa13 fb13 fa14 fb14 fa15 fb15
   go_loopw [67] (fun s wr => ∃ (i : Nat) (g : Gr W), wr = g.val ∧ i ≤ v0.length ∧ s = .int .i64 i ∧ Hid (v0.take i = v1.take i)) (fun s _ => v0.length - (intOf s).toNat)
   case atStart => exact ⟨0, g3, rfl, Nat.zero_le _, rfl, rfl⟩
   case round =>
    obtain ⟨i, g, rfl, hi, rfl, HI⟩ := hrel
    by_cases hlt : i < v0.length
    ·have hltb : i < v1.length := by rw [← HL4.out]; exact hlt
     have hiz : (i : Int) < v0.length := by omega
     have hib : (i : Int) < v1.length := by omega
     obtain ⟨x, hx⟩ : ∃ x, v0[i]? = some x := ⟨_, List.getElem?_eq_getElem hlt⟩
     obtain ⟨y, hy⟩ : ∃ y, v1[i]? = some y := ⟨_, List.getElem?_eq_getElem hltb⟩
     have HN : Hid (x ≠ y → ¬ (v0 = v1)) := fun h k => h (Option.some.inj (hx.symm.trans ((congrArg (fun l => l[i]?) k).trans hy)))
     have HT : Hid (x = y → v0.take (i + 1) = v1.take (i + 1)) := fun h => by rw [List.take_add_one, List.take_add_one, HI.out, hx, hy, h]
     have fa12 := HA.out g 12 (.slice A2 v0.length c2) rfl
     have fb12 := HB.out g 12 (.slice B2 v1.length d2) rfl
     try simp only at fa12 fb12
     obtain ⟨b0, off0, hA0, _, hc⟩ := (HSa2.out g.val (HG.out g)).upG hx
     obtain ⟨b1, off1, hB0, _, hd⟩ := (HSb2.out g.val (HG.out g)).upG hy
     rw [hA0] at fa12
     rw [hB0] at fb12
     clear hx hy hA0 hB0
     obtain ⟨x0, x1⟩ := x
     obtain ⟨y0, y1⟩ := y
     obtain ⟨c0, c1⟩ := hc ⟨_, Below.refl _ _⟩
     obtain ⟨d0, d1⟩ := hd ⟨_, Below.refl _ _⟩
     simp only at c0 c1 d0 d1
     clear hc hd
     by_cases h0 : x0 = y0
     rotate_left
     ·have eb0 : ((x0 : Int) != (y0 : Int)) = true := by simp; omega
      have eb0' : (x0 == y0) = false := by simpa using h0
      have ec0 : ¬ ((x0 : Int) = (y0 : Int)) := by omega
      have E : Hid (r = false) := Bool.eq_false_iff.2 fun k => HN.out (fun h => h0 (Prod.mk.inj h).1) (HR.out.1 k).2.2.2.2.2.2.2.2
      clear HN HT HI
      go_wp2_with fail
      go_region
      go_wp2_with fail
      go_ret
      exact ⟨ret_bool E.out.symm, (HG.out g).drew⟩
     subst h0
     by_cases h1 : x1 = y1
     rotate_left
     ·have E : Hid (r = false) := Bool.eq_false_iff.2 fun k => HN.out (fun h => h1 (Prod.mk.inj h).2) (HR.out.1 k).2.2.2.2.2.2.2.2
      clear HN HT HI
      go_wp2_with fail
      go_region
      go_wp2_with fail
      go_ret
      exact ⟨ret_bool E.out.symm, (HG.out g).drew⟩
     subst h1
     have HI2 := Lib.hid (HT.out rfl)
     clear HN HT HI
     go_wp2_with fail
     go_region
     go_wp2_with fail
     go_roundw
     case rel => exact ⟨i + 1, ⟨g.val.drew, g.ok.drew⟩, rfl, hlt, by go_num, HI2.out⟩
     case measure => simp [intOf]; omega
    ·obtain rfl : i = v0.length := by omega
     have HC8 : Hid (v0 = v1) := by have := HI.out; rw [List.take_length, HL4.out, List.take_length] at this; exact this
     clear HI
     have E : Hid (r = true) := HR.out.2 ⟨(by first | rfl | trivial), (by first | rfl | trivial), HC2.out, HC3.out, HL4.out, (by first | rfl | trivial), (by first | rfl | trivial), (by first | rfl | trivial), HC8.out⟩
     go_wp2_with fail
     go_ret
     exact ⟨ret_bool E.out.symm, HG.out g⟩
end Go.Proofs.YtdhinjbkfffpeaaGreat
end
