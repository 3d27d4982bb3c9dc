import Derived.Test.YtdhinjbkfffpeaaGreatYRQ3
import Derived.Test.YtdhinjbkfffpeaaGreatYBlk2
import Derived.Test.YtdhinjbkfffpeaaGreatYJRK
/- Contracts of the program's records: whether entries, users are the same. -/
section
namespace Go.Proofs.YtdhinjbkfffpeaaGreat
open Go.ChangeShapes Go.WideShapes Go.ChangeAt Go.RowKit Go.Joins Sp Qr
def enCq (x : Nat × Evt) (p : EvP) : List Value := enC (x, p)
def EnAtq (w : World) (x : Nat × Evt) (p : EvP) : Prop := EvAt w x.2 p
theorem En.sameP_iff (i0 : Nat) (e0 : Evt) (i1 : Nat) (e1 : Evt) : ((i0, e0) : Nat × Evt) = (i1, e1) ↔ i0 = i1 ∧ e0 = e1 := by rw [Prod.mk.injEq]
set_option maxRecDepth 100000 in
set_option maxHeartbeats 4000000 in
theorem rSameEntryP_any (a b : Nat × Evt) (p q : EvP) (w : World) (ha : EnAtq w a p) (hb : EnAtq w b q) :
  Calls Tryz.prog 100 #[.agg (enCq a p).toArray, .agg (enCq b q).toArray] w fun e w' => ∃ r, e = .returned (.bool r) ∧ (r = true ↔ a = b) ∧ Below w.heap.size w w' := by
 obtain ⟨r, hr⟩ : ∃ r : Bool, r = true ↔ a = b := by classical exact ⟨decide (a = b), by simp⟩
 suffices h : Calls Tryz.prog 100 #[.agg (enCq a p).toArray, .agg (enCq b q).toArray] w fun e w' => e = .returned (.bool r) ∧ Below w.heap.size w w' from h.mono fun e w' h => ⟨r, h.1, hr, h.2⟩
 obtain ⟨i0, e0⟩ := a
 obtain ⟨i1, e1⟩ := b
 rw [En.sameP_iff] at hr
 unfold EnAtq at ha hb
 unfold enCq enC eCells
 simp only [List.toArray] at *
 have HEC : Hid (∀ g : World, Below w.heap.size w g → Calls Tryz.prog 38 #[.agg (eCells e0 p).toArray, .agg (eCells e1 q).toArray] g fun e w' => ∃ r, e = .returned (.bool r) ∧ (r = true ↔ e0 = e1) ∧ Below g.heap.size g w') := fun g hb' => rSameEventP_any e0 e1 p q g (EvAt.below ha hb') (EvAt.below hb hb')
 unfold eCells at HEC
 simp only [List.toArray] at HEC
 clear ha hb
 obtain ⟨W, hW⟩ : ∃ W, (w.alloc (.cells #[.int .u32 (i0 : Int), .int .i64 e0.start, .int .i64 e0.long, .bool e0.world, .bool e0.again, .int .i64 e0.rule.freq, .int .i64 e0.rule.iv, .int .i64 e0.rule.count, .int .i64 e0.rule.until_, .slice p.A1 e0.rule.bm.length p.c1, .slice p.A2 e0.rule.bd.length p.c2, .slice p.A3 e0.rule.bw.length p.c3, .slice p.A4 e0.rule.bs.length p.c4, .int .i64 e0.rule.start, .slice p.A5 e0.ex.length p.c5, .slice p.A6 e0.plus.length p.c6, .slice p.A7 e0.ch.length p.c7] 107)).alloc (.cells #[.int .u32 (i1 : Int), .int .i64 e1.start, .int .i64 e1.long, .bool e1.world, .bool e1.again, .int .i64 e1.rule.freq, .int .i64 e1.rule.iv, .int .i64 e1.rule.count, .int .i64 e1.rule.until_, .slice q.A1 e1.rule.bm.length q.c1, .slice q.A2 e1.rule.bd.length q.c2, .slice q.A3 e1.rule.bw.length q.c3, .slice q.A4 e1.rule.bs.length q.c4, .int .i64 e1.rule.start, .slice q.A5 e1.ex.length q.c5, .slice q.A6 e1.plus.length q.c6, .slice q.A7 e1.ch.length q.c7] 107) = W := ⟨_, rfl⟩
 have hBW : Below w.heap.size w W := by rw [← hW]; exact ((Below.refl _ w).alloc (Nat.le_refl _) _).alloc (by simp) _
 have HG : Hid (∀ g : Gr W, Below w.heap.size w g.val) := fun g => hBW.trans (g.ok.mono hBW.size)
 have HA : Hid (∀ (g : Gr W) (k : Nat) (v : Value), (#[.int .u32 (i0 : Int), .int .i64 e0.start, .int .i64 e0.long, .bool e0.world, .bool e0.again, .int .i64 e0.rule.freq, .int .i64 e0.rule.iv, .int .i64 e0.rule.count, .int .i64 e0.rule.until_, .slice p.A1 e0.rule.bm.length p.c1, .slice p.A2 e0.rule.bd.length p.c2, .slice p.A3 e0.rule.bw.length p.c3, .slice p.A4 e0.rule.bs.length p.c4, .int .i64 e0.rule.start, .slice p.A5 e0.ex.length p.c5, .slice p.A6 e0.plus.length p.c6, .slice p.A7 e0.ch.length p.c7] : Array Value)[k]? = some v → g.val.cell? ⟨w.heap.size, k, none⟩ = some v) := fun g k v hv => cell_old (by rw [← hW]; exact blk_cell (cs := #[.int .u32 (i0 : Int), .int .i64 e0.start, .int .i64 e0.long, .bool e0.world, .bool e0.again, .int .i64 e0.rule.freq, .int .i64 e0.rule.iv, .int .i64 e0.rule.count, .int .i64 e0.rule.until_, .slice p.A1 e0.rule.bm.length p.c1, .slice p.A2 e0.rule.bd.length p.c2, .slice p.A3 e0.rule.bw.length p.c3, .slice p.A4 e0.rule.bs.length p.c4, .int .i64 e0.rule.start, .slice p.A5 e0.ex.length p.c5, .slice p.A6 e0.plus.length p.c6, .slice p.A7 e0.ch.length p.c7]) (t := 107) (by rw [heap_alloc_old _ _ (by simp)]; exact heap_alloc_new _ _) hv) g.ok
 have HB : Hid (∀ (g : Gr W) (k : Nat) (v : Value), (#[.int .u32 (i1 : Int), .int .i64 e1.start, .int .i64 e1.long, .bool e1.world, .bool e1.again, .int .i64 e1.rule.freq, .int .i64 e1.rule.iv, .int .i64 e1.rule.count, .int .i64 e1.rule.until_, .slice q.A1 e1.rule.bm.length q.c1, .slice q.A2 e1.rule.bd.length q.c2, .slice q.A3 e1.rule.bw.length q.c3, .slice q.A4 e1.rule.bs.length q.c4, .int .i64 e1.rule.start, .slice q.A5 e1.ex.length q.c5, .slice q.A6 e1.plus.length q.c6, .slice q.A7 e1.ch.length q.c7] : Array Value)[k]? = some v → g.val.cell? ⟨w.heap.size + 1, k, none⟩ = some v) := fun g k v hv => cell_old (by rw [← hW]; exact blk_cell (cs := #[.int .u32 (i1 : Int), .int .i64 e1.start, .int .i64 e1.long, .bool e1.world, .bool e1.again, .int .i64 e1.rule.freq, .int .i64 e1.rule.iv, .int .i64 e1.rule.count, .int .i64 e1.rule.until_, .slice q.A1 e1.rule.bm.length q.c1, .slice q.A2 e1.rule.bd.length q.c2, .slice q.A3 e1.rule.bw.length q.c3, .slice q.A4 e1.rule.bs.length q.c4, .int .i64 e1.rule.start, .slice q.A5 e1.ex.length q.c5, .slice q.A6 e1.plus.length q.c6, .slice q.A7 e1.ch.length q.c7]) (t := 107) (heap_alloc_new2 _ _ _) hv) g.ok
 have E1 := Lib.hid hW
 clear hW hBW
 have HR := Lib.hid hr
 clear hr
 have fa0 := HA.out ⟨W, Below.refl _ _⟩ 0 (.int .u32 (i0 : Int)) rfl
 have fb0 := HB.out ⟨W, Below.refl _ _⟩ 0 (.int .u32 (i1 : Int)) rfl
 have fa1 := HA.out ⟨W, Below.refl _ _⟩ 1 (.int .i64 e0.start) rfl
 have fb1 := HB.out ⟨W, Below.refl _ _⟩ 1 (.int .i64 e1.start) rfl
 have fa2 := HA.out ⟨W, Below.refl _ _⟩ 2 (.int .i64 e0.long) rfl
 have fb2 := HB.out ⟨W, Below.refl _ _⟩ 2 (.int .i64 e1.long) rfl
 have fa3 := HA.out ⟨W, Below.refl _ _⟩ 3 (.bool e0.world) rfl
 have fb3 := HB.out ⟨W, Below.refl _ _⟩ 3 (.bool e1.world) rfl
 have fa4 := HA.out ⟨W, Below.refl _ _⟩ 4 (.bool e0.again) rfl
 have fb4 := HB.out ⟨W, Below.refl _ _⟩ 4 (.bool e1.again) rfl
 have fa5 := HA.out ⟨W, Below.refl _ _⟩ 5 (.int .i64 e0.rule.freq) rfl
 have fb5 := HB.out ⟨W, Below.refl _ _⟩ 5 (.int .i64 e1.rule.freq) rfl
 have fa6 := HA.out ⟨W, Below.refl _ _⟩ 6 (.int .i64 e0.rule.iv) rfl
 have fb6 := HB.out ⟨W, Below.refl _ _⟩ 6 (.int .i64 e1.rule.iv) rfl
 have fa7 := HA.out ⟨W, Below.refl _ _⟩ 7 (.int .i64 e0.rule.count) rfl
 have fb7 := HB.out ⟨W, Below.refl _ _⟩ 7 (.int .i64 e1.rule.count) rfl
 have fa8 := HA.out ⟨W, Below.refl _ _⟩ 8 (.int .i64 e0.rule.until_) rfl
 have fb8 := HB.out ⟨W, Below.refl _ _⟩ 8 (.int .i64 e1.rule.until_) rfl
 have fa9 := HA.out ⟨W, Below.refl _ _⟩ 9 (.slice p.A1 e0.rule.bm.length p.c1) rfl
 have fb9 := HB.out ⟨W, Below.refl _ _⟩ 9 (.slice q.A1 e1.rule.bm.length q.c1) rfl
 have fa10 := HA.out ⟨W, Below.refl _ _⟩ 10 (.slice p.A2 e0.rule.bd.length p.c2) rfl
 have fb10 := HB.out ⟨W, Below.refl _ _⟩ 10 (.slice q.A2 e1.rule.bd.length q.c2) rfl
 have fa11 := HA.out ⟨W, Below.refl _ _⟩ 11 (.slice p.A3 e0.rule.bw.length p.c3) rfl
 have fb11 := HB.out ⟨W, Below.refl _ _⟩ 11 (.slice q.A3 e1.rule.bw.length q.c3) rfl
 have fa12 := HA.out ⟨W, Below.refl _ _⟩ 12 (.slice p.A4 e0.rule.bs.length p.c4) rfl
 have fb12 := HB.out ⟨W, Below.refl _ _⟩ 12 (.slice q.A4 e1.rule.bs.length q.c4) rfl
 have fa13 := HA.out ⟨W, Below.refl _ _⟩ 13 (.int .i64 e0.rule.start) rfl
 have fb13 := HB.out ⟨W, Below.refl _ _⟩ 13 (.int .i64 e1.rule.start) rfl
 have fa14 := HA.out ⟨W, Below.refl _ _⟩ 14 (.slice p.A5 e0.ex.length p.c5) rfl
 have fb14 := HB.out ⟨W, Below.refl _ _⟩ 14 (.slice q.A5 e1.ex.length q.c5) rfl
 have fa15 := HA.out ⟨W, Below.refl _ _⟩ 15 (.slice p.A6 e0.plus.length p.c6) rfl
 have fb15 := HB.out ⟨W, Below.refl _ _⟩ 15 (.slice q.A6 e1.plus.length q.c6) rfl
 have fa16 := HA.out ⟨W, Below.refl _ _⟩ 16 (.slice p.A7 e0.ch.length p.c7) rfl
 have fb16 := HB.out ⟨W, Below.refl _ _⟩ 16 (.slice q.A7 e1.ch.length q.c7) rfl
 try simp only at fa0 fb0 fa1 fb1 fa2 fb2 fa3 fb3 fa4 fb4 fa5 fb5 fa6 fb6 fa7 fb7 fa8 fb8 fa9 fb9 fa10 fb10 fa11 fb11 fa12 fb12 fa13 fb13 fa14 fb14 fa15 fb15 fa16 fb16
 by_cases h0 : i0 = i1
 rotate_left
 ·have eb0 : ((i0 : Int) != (i1 : Int)) = true := by simp; omega
  have eb0' : (i0 == i1) = false := by simpa using h0
  have E : Hid (r = false) := Bool.eq_false_iff.2 fun k => h0 (HR.out.1 k).1
  go_enter Tryz.func100, Tryz.ntmps100
  go_upto_region 1 with fail
  rw [E1.out]
  go_wp2_with fail
  go_ret
  exact ⟨ret_bool E.out.symm, HG.out ⟨W, Below.refl _ _⟩⟩
 subst h0
 go_enter Tryz.func100, Tryz.ntmps100
 go_upto_region 1 with fail
 rw [E1.out]
 go_wp2_with fail
 go_at_call 38
 refine (HEC.out _ (HG.out ⟨W, Below.refl _ _⟩)).mono ?_
 rintro e w1 ⟨v1, rfl, hv1, hb1⟩
 obtain ⟨g1, rfl⟩ := Gr.on ⟨W, Below.refl _ _⟩ hb1
 clear hb1
 clear fa0 fb0 fa1 fb1 fa2 fb2 fa3 fb3 fa4 fb4 fa5 fb5 fa6 fb6 fa7 fb7 fa8 fb8 fa9 fb9 fa10 fb10 fa11 fb11 fa12 fb12 fa13 fb13 fa14 fb14 fa15 fb15 fa16 fb16
 cases v1 with
 | false =>
  have hn1 : ¬ (e0 = e1) := fun k => by simpa using hv1.2 k
  have E : Hid (r = false) := Bool.eq_false_iff.2 fun k => hn1 (HR.out.1 k).2
  go_wp2_with fail
  go_ret
  exact ⟨ret_bool E.out.symm, HG.out g1⟩
 | true =>
  have HC1 : Hid (e0 = e1) := hv1.1 rfl
  clear hv1
  have E : Hid (r = true) := HR.out.2 ⟨(by first | rfl | trivial), HC1.out⟩
  go_wp2_with fail
  go_ret
  exact ⟨ret_bool E.out.symm, HG.out g1⟩
theorem En_einfo (x : Nat × Evt) (p : EvP) : (Tryz.prog.info? 107).map (·.size) = some (enC (x, p)).toArray.size := by kernel_rfl
theorem En_einfo2 (x : Nat × Evt) (p : EvP) : (Tryz.prog.info? 107).map (·.size) = some (enC (x, p)).length := by kernel_rfl
theorem En_eone (x : Nat × Evt) (p : EvP) : (enC (x, p)).toArray.all (·.oneCell') = true := by simp [enC, eCells, Value.oneCell']
set_option maxRecDepth 100000 in
set_option maxHeartbeats 4000000 in
theorem eqfEn_any (a b : List (Nat × Evt)) (ps qs : List EvP) (A B : Option Addr) (c d : Nat) (w : World) (ha : RowsAt enC (fun w x p => EvAt w x.2 p) w A c a ps) (hb : RowsAt enC (fun w x p => EvAt w x.2 p) w B d b qs) :
  Calls Tryz.prog 99 #[.slice A a.length c, .slice B b.length d, .func (.func 100) #[] #[]] w fun e w' => ∃ r, e = .returned (.bool r) ∧ (r = true ↔ a = b) ∧ Below w.heap.size w w' := by
 obtain ⟨r, hr⟩ : ∃ r : Bool, r = true ↔ a = b := by classical exact ⟨decide (a = b), by simp⟩
 suffices h : Calls Tryz.prog 99 #[.slice A a.length c, .slice B b.length d, .func (.func 100) #[] #[]] w fun e w' => e = .returned (.bool r) ∧ Below w.heap.size w w' from h.mono fun e w' h => ⟨r, h.1, hr, h.2⟩
 have HR := Lib.hid hr
 have hlc := len_le ha.s
 have hlb2 := len_le hb.s
 have HA : Hid (∀ V, Below w.heap.size w V → RowsAt enC (fun w x p => EvAt w x.2 p) V A c a ps) := fun V h => ha.below (fun _ _ _ _ h hb => EvAt.below h hb) h
 have HB : Hid (∀ V, Below w.heap.size w V → RowsAt enC (fun w x p => EvAt w x.2 p) V B d b qs) := fun V h => hb.below (fun _ _ _ _ h hb => EvAt.below h hb) h
 clear hr ha hb
 by_cases hl : a.length = b.length
 ·have hlb : ((a.length : Int) != (b.length : Int)) = false := by simp; omega
  have HL := Lib.hid hl
  clear hl
  go_enter Tryz.func99, Tryz.ntmps99
  go_wp2_with fail
  go_loopw [17] (fun s wr => ∃ (i : Nat) (g : Gr w), wr = g.val ∧ i ≤ a.length ∧ s = .int .i64 i ∧ Hid (a.take i = b.take i)) (fun s _ => a.length - (intOf s).toNat)
  case atStart => exact ⟨0, ⟨w, Below.refl _ _⟩, rfl, Nat.zero_le _, rfl, rfl⟩
  case round =>
   obtain ⟨i, g, rfl, hi, rfl, HI⟩ := hrel
   obtain ⟨W0, hW0⟩ : ∃ W0, g.val = W0 := ⟨_, rfl⟩
   have hg0 : Below w.heap.size w W0 := hW0 ▸ g.ok
   rw [hW0]
   clear hW0
   by_cases hlt : i < a.length
   ·have hltb : i < b.length := by rw [← HL.out]; exact hlt
    have hiz : (i : Int) < a.length := by omega
    have hib : (i : Int) < b.length := by omega
    obtain ⟨x, hx⟩ : ∃ x, a[i]? = some x := ⟨_, List.getElem?_eq_getElem hlt⟩
    obtain ⟨y, hy⟩ : ∃ y, b[i]? = some y := ⟨_, List.getElem?_eq_getElem hltb⟩
    have HN : Hid (x ≠ y → ¬ (a = b)) := fun h k => h (Option.some.inj (hx.symm.trans ((congrArg (fun l => l[i]?) k).trans hy)))
    have HT : Hid (x = y → a.take (i + 1) = b.take (i + 1)) := fun h => by rw [List.take_add_one, List.take_add_one, HI.out, hx, hy, h]
    obtain ⟨px, b0, o0, _, rfl, _, hx1, hc⟩ := (HA.out W0 hg0).at enC_len (by decide) hx
    obtain ⟨py, b1, o1, _, rfl, _, hy1, hd⟩ := (HB.out W0 hg0).at enC_len (by decide) hy
    have HLx : Hid (∀ V, Below W0.heap.size W0 V → (Instr.loadAt 107 (.pointer (some ⟨b0, o0 + i * 17, none⟩))).run Tryz.prog V = .ok (.agg (enC (x, px)).toArray) V) := fun V hW => run_loadAt_mid V b0 (o0 + i * 17) 107 (enC (x, px)) _ (fun j v hj => by rw [Nat.add_assoc]; exact hc ⟨V, hW⟩ j v hj) Tryz.underlying107 rfl (by kernel_rfl)
    have HLy : Hid (∀ V, Below W0.heap.size W0 V → (Instr.loadAt 107 (.pointer (some ⟨b1, o1 + i * 17, none⟩))).run Tryz.prog V = .ok (.agg (enC (y, py)).toArray) V) := fun V hW => run_loadAt_mid V b1 (o1 + i * 17) 107 (enC (y, py)) _ (fun j v hj => by rw [Nat.add_assoc]; exact hd ⟨V, hW⟩ j v hj) Tryz.underlying107 rfl (by kernel_rfl)
    obtain ⟨V1, hV1⟩ : ∃ V, W0.alloc (.cells (enC (x, px)).toArray 107) = V := ⟨_, rfl⟩
    have hb1 : Below W0.heap.size W0 V1 := by rw [← hV1]; exact (Below.refl _ _).alloc (Nat.le_refl _) _
    have hX1 : V1.heap[W0.heap.size]? = some (.cells (enC (x, px)).toArray 107 (0, 0)) := by rw [← hV1]; exact heap_alloc_new _ _
    obtain ⟨V2, hV2⟩ : ∃ V, V1.alloc (.cells (enC (y, py)).toArray 107) = V := ⟨_, rfl⟩
    have hb2 : Below V1.heap.size V1 V2 := by rw [← hV2]; exact (Below.refl _ _).alloc (Nat.le_refl _) _
    have HX2 := Lib.hid (blk_below hX1 hb2)
    have HY2 : Hid (V2.heap[V1.heap.size]? = some (.cells (enC (y, py)).toArray 107 (0, 0))) := by show _ = _; rw [← hV2]; exact heap_alloc_new _ _
    have hb02 : Below W0.heap.size W0 V2 := hb1.trans (hb2.mono hb1.size)
    have HCa := Lib.hid (rSameEntryP_any x y px py V2 (EvAt.below hx1 hb02) (EvAt.below hy1 hb02))
    have HB1 := Lib.hid hb1
    have HB2 := Lib.hid (hg0.trans (hb02.mono hg0.size))
    have HV1 := Lib.hid hV1
    have HV2 := Lib.hid hV2
    clear hc hd hx hy hx1 hy1 hV1 hV2 hb1 hb2 hb02 hX1
    go_upto_region 6 with (first
     | (refine wpList_load (v := .agg (enC (x, px)).toArray) rfl rfl (HLx.out _ (Below.refl _ _)) ?_; simp only [Act.put])
     | (refine wpList_store_new (t := 107) (c' := (enC (x, px)).toArray) rfl rfl rfl rfl (En_einfo _ _) rfl (En_eone _ _) ?_; simp only [Act.put]))
    rw [HV1.out]
    go_upto_region 7 with (first
     | (refine wpList_load (v := .agg (enC (y, py)).toArray) rfl rfl (HLy.out _ HB1.out) ?_; simp only [Act.put])
     | (refine wpList_store_new (t := 107) (c' := (enC (y, py)).toArray) rfl rfl rfl rfl (En_einfo _ _) rfl (En_eone _ _) ?_; simp only [Act.put]))
    rw [HV2.out]
    go_wp2_with (first
     | (refine wpList_load (v := .agg (enC (x, px)).toArray) rfl rfl (load_blk (vs := enC (x, px)) HX2.out (fun j v hj => by simpa using hj) rfl (En_einfo2 _ _)) ?_; simp only [Act.put])
     | (refine wpList_load (v := .agg (enC (y, py)).toArray) rfl rfl (load_blk (vs := enC (y, py)) HY2.out (fun j v hj => by simpa using hj) rfl (En_einfo2 _ _)) ?_; simp only [Act.put]))
    go_at_call 100
    refine HCa.out.mono ?_
    rintro e w3 ⟨v, rfl, hv, hb3⟩
    have HB3 := Lib.hid (HB2.out.trans (hb3.mono HB2.out.size))
    have HV := Lib.hid hv
    clear hb3 hv HCa HLx HLy
    cases v with
    | false =>
     have E : Hid (r = false) := Bool.eq_false_iff.2 fun k => HN.out (fun h => by have := HV.out.2 h; cases this) (HR.out.1 k)
     clear HN HT
     go_wp2_with fail
     go_ret
     exact ⟨ret_bool E.out.symm, HB3.out⟩
    | true =>
     have HI2 := Lib.hid (HT.out (HV.out.1 rfl))
     clear HN HT HI
     go_wp2_with fail
     go_roundw
     case rel => exact ⟨i + 1, ⟨w3, HB3.out⟩, rfl, hlt, by go_num, HI2.out⟩
     case measure => simp [intOf]; omega
   ·obtain rfl : i = a.length := by omega
    have E : Hid (r = true) := HR.out.2 (by have := HI.out; rw [List.take_length, HL.out, List.take_length] at this; exact this)
    go_wp2_with fail
    go_ret
    exact ⟨ret_bool E.out.symm, hg0⟩
 ·have hlb : ((a.length : Int) != (b.length : Int)) = true := by simp; omega
  have E : Hid (r = false) := Bool.eq_false_iff.2 fun k => hl (by rw [HR.out.1 k])
  go_enter Tryz.func99, Tryz.ntmps99
  go_wp2_with fail
  go_ret
  exact ⟨ret_bool E.out.symm, Below.refl _ _⟩
theorem Us.sameP_iff (i0 : Nat) (s0 : Stg) (v0 : Nat) (l0 : List (Nat × Evt)) (i1 : Nat) (s1 : Stg) (v1 : Nat) (l1 : List (Nat × Evt)) :
  (⟨i0, s0, v0, l0⟩ : Us) = ⟨i1, s1, v1, l1⟩ ↔ i0 = i1 ∧ v0 = v1 ∧ s0 = s1 ∧ l0 = l1 := by
 constructor
 ·intro h; injection h with h1 h2 h3 h4; exact ⟨h1, h3, h2, h4⟩
 ·rintro ⟨rfl, rfl, rfl, rfl⟩; rfl
set_option maxRecDepth 100000 in
set_option maxHeartbeats 4000000 in
theorem rSameUserP_any (a b : Us) (p q : UsP) (w : World) (ha : UsAt w a p) (hb : UsAt w b q) :
  Calls Tryz.prog 51 #[.agg (uCells a p).toArray, .agg (uCells b q).toArray] w fun e w' => ∃ r, e = .returned (.bool r) ∧ (r = true ↔ a = b) ∧ Below w.heap.size w w' := by
 obtain ⟨r, hr⟩ : ∃ r : Bool, r = true ↔ a = b := by classical exact ⟨decide (a = b), by simp⟩
 suffices h : Calls Tryz.prog 51 #[.agg (uCells a p).toArray, .agg (uCells b q).toArray] w fun e w' => e = .returned (.bool r) ∧ Below w.heap.size w w' from h.mono fun e w' h => ⟨r, h.1, hr, h.2⟩
 obtain ⟨i0, s0, v0, l0⟩ := a
 obtain ⟨i1, s1, v1, l1⟩ := b
 obtain ⟨sa, A1, ca, pa⟩ := p
 obtain ⟨sb, B1, cb, pb⟩ := q
 rw [Us.sameP_iff] at hr
 obtain ⟨ha1, ha2⟩ := ha
 obtain ⟨hb1, hb2⟩ := hb
 unfold uCells sCells
 simp only [List.cons_append, List.nil_append, List.toArray] at *
 have HSC : Hid (∀ g : World, Below w.heap.size w g → Calls Tryz.prog 37 #[.agg (sCells s0 sa).toArray, .agg (sCells s1 sb).toArray] g fun e w' => ∃ r, e = .returned (.bool r) ∧ (r = true ↔ s0 = s1) ∧ Below g.heap.size g w') := fun g hb' => rSameSettingsP_any s0 s1 sa sb g (ha1.below hb') (hb1.below hb')
 unfold sCells at HSC
 simp only [List.toArray] at HSC
 have HRa : Hid (∀ wr, Below w.heap.size w wr → RowsAt enC (fun w x p => EvAt w x.2 p) wr A1 ca l0 pa) := fun wr hb' => ha2.below (fun _ _ _ _ h hb => EvAt.below h hb) hb'
 have HRb : Hid (∀ wr, Below w.heap.size w wr → RowsAt enC (fun w x p => EvAt w x.2 p) wr B1 cb l1 pb) := fun wr hb' => hb2.below (fun _ _ _ _ h hb => EvAt.below h hb) hb'
 clear ha1 ha2 hb1 hb2
 obtain ⟨W, hW⟩ : ∃ W, (w.alloc (.cells #[.int .u32 (i0 : Int), .int .i64 s0.base, .slice sa.A1 s0.turns.length sa.c1, .slice sa.A2 s0.shifts.length sa.c2, .slice sa.A3 s0.off.length sa.c3, .int .i64 s0.before, .int .i64 s0.after, .int .u64 (v0 : Int), .slice A1 l0.length ca] 105)).alloc (.cells #[.int .u32 (i1 : Int), .int .i64 s1.base, .slice sb.A1 s1.turns.length sb.c1, .slice sb.A2 s1.shifts.length sb.c2, .slice sb.A3 s1.off.length sb.c3, .int .i64 s1.before, .int .i64 s1.after, .int .u64 (v1 : Int), .slice B1 l1.length cb] 105) = W := ⟨_, rfl⟩
 have hBW : Below w.heap.size w W := by rw [← hW]; exact ((Below.refl _ w).alloc (Nat.le_refl _) _).alloc (by simp) _
 have HG : Hid (∀ g : Gr W, Below w.heap.size w g.val) := fun g => hBW.trans (g.ok.mono hBW.size)
 have HA : Hid (∀ (g : Gr W) (k : Nat) (v : Value), (#[.int .u32 (i0 : Int), .int .i64 s0.base, .slice sa.A1 s0.turns.length sa.c1, .slice sa.A2 s0.shifts.length sa.c2, .slice sa.A3 s0.off.length sa.c3, .int .i64 s0.before, .int .i64 s0.after, .int .u64 (v0 : Int), .slice A1 l0.length ca] : Array Value)[k]? = some v → g.val.cell? ⟨w.heap.size, k, none⟩ = some v) := fun g k v hv => cell_old (by rw [← hW]; exact blk_cell (cs := #[.int .u32 (i0 : Int), .int .i64 s0.base, .slice sa.A1 s0.turns.length sa.c1, .slice sa.A2 s0.shifts.length sa.c2, .slice sa.A3 s0.off.length sa.c3, .int .i64 s0.before, .int .i64 s0.after, .int .u64 (v0 : Int), .slice A1 l0.length ca]) (t := 105) (by rw [heap_alloc_old _ _ (by simp)]; exact heap_alloc_new _ _) hv) g.ok
 have HB : Hid (∀ (g : Gr W) (k : Nat) (v : Value), (#[.int .u32 (i1 : Int), .int .i64 s1.base, .slice sb.A1 s1.turns.length sb.c1, .slice sb.A2 s1.shifts.length sb.c2, .slice sb.A3 s1.off.length sb.c3, .int .i64 s1.before, .int .i64 s1.after, .int .u64 (v1 : Int), .slice B1 l1.length cb] : Array Value)[k]? = some v → g.val.cell? ⟨w.heap.size + 1, k, none⟩ = some v) := fun g k v hv => cell_old (by rw [← hW]; exact blk_cell (cs := #[.int .u32 (i1 : Int), .int .i64 s1.base, .slice sb.A1 s1.turns.length sb.c1, .slice sb.A2 s1.shifts.length sb.c2, .slice sb.A3 s1.off.length sb.c3, .int .i64 s1.before, .int .i64 s1.after, .int .u64 (v1 : Int), .slice B1 l1.length cb]) (t := 105) (heap_alloc_new2 _ _ _) hv) g.ok
 have E1 := Lib.hid hW
 clear hW hBW
 have HR := Lib.hid hr
 clear hr
 have fa0 := HA.out ⟨W, Below.refl _ _⟩ 0 (.int .u32 (i0 : Int)) rfl
 have fb0 := HB.out ⟨W, Below.refl _ _⟩ 0 (.int .u32 (i1 : Int)) rfl
 have fa1 := HA.out ⟨W, Below.refl _ _⟩ 1 (.int .i64 s0.base) rfl
 have fb1 := HB.out ⟨W, Below.refl _ _⟩ 1 (.int .i64 s1.base) rfl
 have fa2 := HA.out ⟨W, Below.refl _ _⟩ 2 (.slice sa.A1 s0.turns.length sa.c1) rfl
 have fb2 := HB.out ⟨W, Below.refl _ _⟩ 2 (.slice sb.A1 s1.turns.length sb.c1) rfl
 have fa3 := HA.out ⟨W, Below.refl _ _⟩ 3 (.slice sa.A2 s0.shifts.length sa.c2) rfl
 have fb3 := HB.out ⟨W, Below.refl _ _⟩ 3 (.slice sb.A2 s1.shifts.length sb.c2) rfl
 have fa4 := HA.out ⟨W, Below.refl _ _⟩ 4 (.slice sa.A3 s0.off.length sa.c3) rfl
 have fb4 := HB.out ⟨W, Below.refl _ _⟩ 4 (.slice sb.A3 s1.off.length sb.c3) rfl
 have fa5 := HA.out ⟨W, Below.refl _ _⟩ 5 (.int .i64 s0.before) rfl
 have fb5 := HB.out ⟨W, Below.refl _ _⟩ 5 (.int .i64 s1.before) rfl
 have fa6 := HA.out ⟨W, Below.refl _ _⟩ 6 (.int .i64 s0.after) rfl
 have fb6 := HB.out ⟨W, Below.refl _ _⟩ 6 (.int .i64 s1.after) rfl
 have fa7 := HA.out ⟨W, Below.refl _ _⟩ 7 (.int .u64 (v0 : Int)) rfl
 have fb7 := HB.out ⟨W, Below.refl _ _⟩ 7 (.int .u64 (v1 : Int)) rfl
 try simp only at fa0 fb0 fa1 fb1 fa2 fb2 fa3 fb3 fa4 fb4 fa5 fb5 fa6 fb6 fa7 fb7
 by_cases h0 : i0 = i1
 rotate_left
 ·have eb0 : ((i0 : Int) != (i1 : Int)) = true := by simp; omega
  have eb0' : (i0 == i1) = false := by simpa using h0
  have E : Hid (r = false) := Bool.eq_false_iff.2 fun k => h0 (HR.out.1 k).1
  go_enter Tryz.func51, Tryz.ntmps51
  go_upto_region 1 with fail
  rw [E1.out]
  go_wp2_with fail
  go_ret
  exact ⟨ret_bool E.out.symm, HG.out ⟨W, Below.refl _ _⟩⟩
 subst h0
 by_cases h1 : v0 = v1
 rotate_left
 ·have eb1 : ((v0 : Int) != (v1 : Int)) = true := by simp; omega
  have eb1' : (v0 == v1) = false := by simpa using h1
  have E : Hid (r = false) := Bool.eq_false_iff.2 fun k => h1 (HR.out.1 k).2.1
  go_enter Tryz.func51, Tryz.ntmps51
  go_upto_region 1 with fail
  rw [E1.out]
  go_wp2_with fail
  go_ret
  exact ⟨ret_bool E.out.symm, HG.out ⟨W, Below.refl _ _⟩⟩
 subst h1
 go_enter Tryz.func51, Tryz.ntmps51
 go_upto_region 1 with fail
 rw [E1.out]
 go_wp2_with fail
 go_at_call 37
 refine (HSC.out _ (HG.out ⟨W, Below.refl _ _⟩)).mono ?_
 rintro e w2 ⟨v2, rfl, hv2, hb2⟩
 obtain ⟨g2, rfl⟩ := Gr.on ⟨W, Below.refl _ _⟩ hb2
 clear hb2
 clear fa0 fb0 fa1 fb1 fa2 fb2 fa3 fb3 fa4 fb4 fa5 fb5 fa6 fb6 fa7 fb7
 have fa8 := HA.out g2 8 (.slice A1 l0.length ca) rfl
 have fb8 := HB.out g2 8 (.slice B1 l1.length cb) rfl
 try simp only at fa8 fb8
 cases v2 with
 | false =>
  have hn2 : ¬ (s0 = s1) := fun k => by simpa using hv2.2 k
  have E : Hid (r = false) := Bool.eq_false_iff.2 fun k => hn2 (HR.out.1 k).2.2.1
  go_wp2_with fail
  go_ret
  exact ⟨ret_bool E.out.symm, HG.out g2⟩
 | true =>
  have HC2 : Hid (s0 = s1) := hv2.1 rfl
  clear hv2
  go_wp2_with fail
  go_at_call 99
  refine (eqfEn_any l0 l1 pa pb A1 B1 ca cb _ (HRa.out _ (HG.out g2)) (HRb.out _ (HG.out g2))).mono ?_
  rintro e w3 ⟨v3, rfl, hv3, hb3⟩
  obtain ⟨g3, rfl⟩ := Gr.on g2 hb3
  clear hb3
  clear fa8 fb8
  cases v3 with
  | false =>
   have hn3 : ¬ (l0 = l1) := fun k => by simpa using hv3.2 k
   have E : Hid (r = false) := Bool.eq_false_iff.2 fun k => hn3 (HR.out.1 k).2.2.2
   go_wp2_with fail
   go_ret
   exact ⟨ret_bool E.out.symm, HG.out g3⟩
  | true =>
   have HC3 : Hid (l0 = l1) := hv3.1 rfl
   clear hv3
   have E : Hid (r = true) := HR.out.2 ⟨(by first | rfl | trivial), (by first | rfl | trivial), HC2.out, HC3.out⟩
   go_wp2_with fail
   go_ret
   exact ⟨ret_bool E.out.symm, HG.out g3⟩
end Go.Proofs.YtdhinjbkfffpeaaGreat
end
section
namespace Go.Proofs.YtdhinjbkfffpeaaGreat
open Go.ChangeShapes Go.WideShapes Go.ChangeAt Go.RowKit Go.Joins Sp Qr
theorem Us_einfo (x : Us) (p : UsP) : (Tryz.prog.info? 105).map (·.size) = some (usC (x, p)).toArray.size := by kernel_rfl
theorem Us_einfo2 (x : Us) (p : UsP) : (Tryz.prog.info? 105).map (·.size) = some (usC (x, p)).length := by kernel_rfl
theorem Us_eone (x : Us) (p : UsP) : (usC (x, p)).toArray.all (·.oneCell') = true := by simp [usC, uCells, sCells, Value.oneCell']
set_option maxRecDepth 100000 in
set_option maxHeartbeats 4000000 in
theorem eqfUs_any (a b : List (Us)) (ps qs : List UsP) (A B : Option Addr) (c d : Nat) (w : World) (ha : RowsAt usC UsAt w A c a ps) (hb : RowsAt usC UsAt w B d b qs) :
  Calls Tryz.prog 50 #[.slice A a.length c, .slice B b.length d, .func (.func 51) #[] #[]] w fun e w' => ∃ r, e = .returned (.bool r) ∧ (r = true ↔ a = b) ∧ Below w.heap.size w w' := by
 obtain ⟨r, hr⟩ : ∃ r : Bool, r = true ↔ a = b := by classical exact ⟨decide (a = b), by simp⟩
 suffices h : Calls Tryz.prog 50 #[.slice A a.length c, .slice B b.length d, .func (.func 51) #[] #[]] w fun e w' => e = .returned (.bool r) ∧ Below w.heap.size w w' from h.mono fun e w' h => ⟨r, h.1, hr, h.2⟩
 have HR := Lib.hid hr
 have hlc := len_le ha.s
 have hlb2 := len_le hb.s
 have HA : Hid (∀ V, Below w.heap.size w V → RowsAt usC UsAt V A c a ps) := fun V h => ha.below (fun _ _ _ _ h hb => UsAt.below h hb) h
 have HB : Hid (∀ V, Below w.heap.size w V → RowsAt usC UsAt V B d b qs) := fun V h => hb.below (fun _ _ _ _ h hb => UsAt.below h hb) h
 clear hr ha hb
 by_cases hl : a.length = b.length
 ·have hlb : ((a.length : Int) != (b.length : Int)) = false := by simp; omega
  have HL := Lib.hid hl
  clear hl
  go_enter Tryz.func50, Tryz.ntmps50
  go_wp2_with fail
  go_loopw [17] (fun s wr => ∃ (i : Nat) (g : Gr w), wr = g.val ∧ i ≤ a.length ∧ s = .int .i64 i ∧ Hid (a.take i = b.take i)) (fun s _ => a.length - (intOf s).toNat)
  case atStart => exact ⟨0, ⟨w, Below.refl _ _⟩, rfl, Nat.zero_le _, rfl, rfl⟩
  case round =>
   obtain ⟨i, g, rfl, hi, rfl, HI⟩ := hrel
   obtain ⟨W0, hW0⟩ : ∃ W0, g.val = W0 := ⟨_, rfl⟩
   have hg0 : Below w.heap.size w W0 := hW0 ▸ g.ok
   rw [hW0]
   clear hW0
   by_cases hlt : i < a.length
   ·have hltb : i < b.length := by rw [← HL.out]; exact hlt
    have hiz : (i : Int) < a.length := by omega
    have hib : (i : Int) < b.length := by omega
    obtain ⟨x, hx⟩ : ∃ x, a[i]? = some x := ⟨_, List.getElem?_eq_getElem hlt⟩
    obtain ⟨y, hy⟩ : ∃ y, b[i]? = some y := ⟨_, List.getElem?_eq_getElem hltb⟩
    have HN : Hid (x ≠ y → ¬ (a = b)) := fun h k => h (Option.some.inj (hx.symm.trans ((congrArg (fun l => l[i]?) k).trans hy)))
    have HT : Hid (x = y → a.take (i + 1) = b.take (i + 1)) := fun h => by rw [List.take_add_one, List.take_add_one, HI.out, hx, hy, h]
    obtain ⟨px, b0, o0, _, rfl, _, hx1, hc⟩ := (HA.out W0 hg0).at usC_len (by decide) hx
    obtain ⟨py, b1, o1, _, rfl, _, hy1, hd⟩ := (HB.out W0 hg0).at usC_len (by decide) hy
    have HLx : Hid (∀ V, Below W0.heap.size W0 V → (Instr.loadAt 105 (.pointer (some ⟨b0, o0 + i * 9, none⟩))).run Tryz.prog V = .ok (.agg (usC (x, px)).toArray) V) := fun V hW => run_loadAt_mid V b0 (o0 + i * 9) 105 (usC (x, px)) _ (fun j v hj => by rw [Nat.add_assoc]; exact hc ⟨V, hW⟩ j v hj) Tryz.underlying105 rfl (by kernel_rfl)
    have HLy : Hid (∀ V, Below W0.heap.size W0 V → (Instr.loadAt 105 (.pointer (some ⟨b1, o1 + i * 9, none⟩))).run Tryz.prog V = .ok (.agg (usC (y, py)).toArray) V) := fun V hW => run_loadAt_mid V b1 (o1 + i * 9) 105 (usC (y, py)) _ (fun j v hj => by rw [Nat.add_assoc]; exact hd ⟨V, hW⟩ j v hj) Tryz.underlying105 rfl (by kernel_rfl)
    obtain ⟨V1, hV1⟩ : ∃ V, W0.alloc (.cells (usC (x, px)).toArray 105) = V := ⟨_, rfl⟩
    have hb1 : Below W0.heap.size W0 V1 := by rw [← hV1]; exact (Below.refl _ _).alloc (Nat.le_refl _) _
    have hX1 : V1.heap[W0.heap.size]? = some (.cells (usC (x, px)).toArray 105 (0, 0)) := by rw [← hV1]; exact heap_alloc_new _ _
    obtain ⟨V2, hV2⟩ : ∃ V, V1.alloc (.cells (usC (y, py)).toArray 105) = V := ⟨_, rfl⟩
    have hb2 : Below V1.heap.size V1 V2 := by rw [← hV2]; exact (Below.refl _ _).alloc (Nat.le_refl _) _
    have HX2 := Lib.hid (blk_below hX1 hb2)
    have HY2 : Hid (V2.heap[V1.heap.size]? = some (.cells (usC (y, py)).toArray 105 (0, 0))) := by show _ = _; rw [← hV2]; exact heap_alloc_new _ _
    have hb02 : Below W0.heap.size W0 V2 := hb1.trans (hb2.mono hb1.size)
    have HCa := Lib.hid (rSameUserP_any x y px py V2 (UsAt.below hx1 hb02) (UsAt.below hy1 hb02))
    have HB1 := Lib.hid hb1
    have HB2 := Lib.hid (hg0.trans (hb02.mono hg0.size))
    have HV1 := Lib.hid hV1
    have HV2 := Lib.hid hV2
    clear hc hd hx hy hx1 hy1 hV1 hV2 hb1 hb2 hb02 hX1
    go_upto_region 6 with (first
     | (refine wpList_load (v := .agg (usC (x, px)).toArray) rfl rfl (HLx.out _ (Below.refl _ _)) ?_; simp only [Act.put])
     | (refine wpList_store_new (t := 105) (c' := (usC (x, px)).toArray) rfl rfl rfl rfl (Us_einfo _ _) rfl (Us_eone _ _) ?_; simp only [Act.put]))
    rw [HV1.out]
    go_upto_region 7 with (first
     | (refine wpList_load (v := .agg (usC (y, py)).toArray) rfl rfl (HLy.out _ HB1.out) ?_; simp only [Act.put])
     | (refine wpList_store_new (t := 105) (c' := (usC (y, py)).toArray) rfl rfl rfl rfl (Us_einfo _ _) rfl (Us_eone _ _) ?_; simp only [Act.put]))
    rw [HV2.out]
    go_wp2_with (first
     | (refine wpList_load (v := .agg (usC (x, px)).toArray) rfl rfl (load_blk (vs := usC (x, px)) HX2.out (fun j v hj => by simpa using hj) rfl (Us_einfo2 _ _)) ?_; simp only [Act.put])
     | (refine wpList_load (v := .agg (usC (y, py)).toArray) rfl rfl (load_blk (vs := usC (y, py)) HY2.out (fun j v hj => by simpa using hj) rfl (Us_einfo2 _ _)) ?_; simp only [Act.put]))
    go_at_call 51
    refine HCa.out.mono ?_
    rintro e w3 ⟨v, rfl, hv, hb3⟩
    have HB3 := Lib.hid (HB2.out.trans (hb3.mono HB2.out.size))
    have HV := Lib.hid hv
    clear hb3 hv HCa HLx HLy
    cases v with
    | false =>
     have E : Hid (r = false) := Bool.eq_false_iff.2 fun k => HN.out (fun h => by have := HV.out.2 h; cases this) (HR.out.1 k)
     clear HN HT
     go_wp2_with fail
     go_ret
     exact ⟨ret_bool E.out.symm, HB3.out⟩
    | true =>
     have HI2 := Lib.hid (HT.out (HV.out.1 rfl))
     clear HN HT HI
     go_wp2_with fail
     go_roundw
     case rel => exact ⟨i + 1, ⟨w3, HB3.out⟩, rfl, hlt, by go_num, HI2.out⟩
     case measure => simp [intOf]; omega
   ·obtain rfl : i = a.length := by omega
    have E : Hid (r = true) := HR.out.2 (by have := HI.out; rw [List.take_length, HL.out, List.take_length] at this; exact this)
    go_wp2_with fail
    go_ret
    exact ⟨ret_bool E.out.symm, hg0⟩
 ·have hlb : ((a.length : Int) != (b.length : Int)) = true := by simp; omega
  have E : Hid (r = false) := Bool.eq_false_iff.2 fun k => hl (by rw [HR.out.1 k])
  go_enter Tryz.func50, Tryz.ntmps50
  go_wp2_with fail
  go_ret
  exact ⟨ret_bool E.out.symm, Below.refl _ _⟩
theorem Pl_einfo (x : Pl) (p : PlP) : (Tryz.prog.info? 37).map (·.size) = some (plC (x, p)).toArray.size := by kernel_rfl
theorem Pl_einfo2 (x : Pl) (p : PlP) : (Tryz.prog.info? 37).map (·.size) = some (plC (x, p)).length := by kernel_rfl
theorem Pl_eone (x : Pl) (p : PlP) : (plC (x, p)).toArray.all (·.oneCell') = true := by simp [plC, pCells, qCells, Value.oneCell']
set_option maxRecDepth 100000 in
set_option maxHeartbeats 4000000 in
theorem eqfPl_any (a b : List (Pl)) (ps qs : List PlP) (A B : Option Addr) (c d : Nat) (w : World) (ha : RowsAt plC PlAt w A c a ps) (hb : RowsAt plC PlAt w B d b qs) :
  Calls Tryz.prog 52 #[.slice A a.length c, .slice B b.length d, .func (.func 44) #[] #[]] w fun e w' => ∃ r, e = .returned (.bool r) ∧ (r = true ↔ a = b) ∧ Below w.heap.size w w' := by
 obtain ⟨r, hr⟩ : ∃ r : Bool, r = true ↔ a = b := by classical exact ⟨decide (a = b), by simp⟩
 suffices h : Calls Tryz.prog 52 #[.slice A a.length c, .slice B b.length d, .func (.func 44) #[] #[]] w fun e w' => e = .returned (.bool r) ∧ Below w.heap.size w w' from h.mono fun e w' h => ⟨r, h.1, hr, h.2⟩
 have HR := Lib.hid hr
 have hlc := len_le ha.s
 have hlb2 := len_le hb.s
 have HA : Hid (∀ V, Below w.heap.size w V → RowsAt plC PlAt V A c a ps) := fun V h => ha.below (fun _ _ _ _ h hb => PlAt.below h hb) h
 have HB : Hid (∀ V, Below w.heap.size w V → RowsAt plC PlAt V B d b qs) := fun V h => hb.below (fun _ _ _ _ h hb => PlAt.below h hb) h
 clear hr ha hb
 by_cases hl : a.length = b.length
 ·have hlb : ((a.length : Int) != (b.length : Int)) = false := by simp; omega
  have HL := Lib.hid hl
  clear hl
  go_enter Tryz.func52, Tryz.ntmps52
  go_wp2_with fail
  go_loopw [17] (fun s wr => ∃ (i : Nat) (g : Gr w), wr = g.val ∧ i ≤ a.length ∧ s = .int .i64 i ∧ Hid (a.take i = b.take i)) (fun s _ => a.length - (intOf s).toNat)
  case atStart => exact ⟨0, ⟨w, Below.refl _ _⟩, rfl, Nat.zero_le _, rfl, rfl⟩
  case round =>
   obtain ⟨i, g, rfl, hi, rfl, HI⟩ := hrel
   obtain ⟨W0, hW0⟩ : ∃ W0, g.val = W0 := ⟨_, rfl⟩
   have hg0 : Below w.heap.size w W0 := hW0 ▸ g.ok
   rw [hW0]
   clear hW0
   by_cases hlt : i < a.length
   ·have hltb : i < b.length := by rw [← HL.out]; exact hlt
    have hiz : (i : Int) < a.length := by omega
    have hib : (i : Int) < b.length := by omega
    obtain ⟨x, hx⟩ : ∃ x, a[i]? = some x := ⟨_, List.getElem?_eq_getElem hlt⟩
    obtain ⟨y, hy⟩ : ∃ y, b[i]? = some y := ⟨_, List.getElem?_eq_getElem hltb⟩
    have HN : Hid (x ≠ y → ¬ (a = b)) := fun h k => h (Option.some.inj (hx.symm.trans ((congrArg (fun l => l[i]?) k).trans hy)))
    have HT : Hid (x = y → a.take (i + 1) = b.take (i + 1)) := fun h => by rw [List.take_add_one, List.take_add_one, HI.out, hx, hy, h]
    obtain ⟨px, b0, o0, _, rfl, _, hx1, hc⟩ := (HA.out W0 hg0).at plC_len (by decide) hx
    obtain ⟨py, b1, o1, _, rfl, _, hy1, hd⟩ := (HB.out W0 hg0).at plC_len (by decide) hy
    have HLx : Hid (∀ V, Below W0.heap.size W0 V → (Instr.loadAt 37 (.pointer (some ⟨b0, o0 + i * 16, none⟩))).run Tryz.prog V = .ok (.agg (plC (x, px)).toArray) V) := fun V hW => run_loadAt_mid V b0 (o0 + i * 16) 37 (plC (x, px)) _ (fun j v hj => by rw [Nat.add_assoc]; exact hc ⟨V, hW⟩ j v hj) Tryz.underlying37 rfl (by kernel_rfl)
    have HLy : Hid (∀ V, Below W0.heap.size W0 V → (Instr.loadAt 37 (.pointer (some ⟨b1, o1 + i * 16, none⟩))).run Tryz.prog V = .ok (.agg (plC (y, py)).toArray) V) := fun V hW => run_loadAt_mid V b1 (o1 + i * 16) 37 (plC (y, py)) _ (fun j v hj => by rw [Nat.add_assoc]; exact hd ⟨V, hW⟩ j v hj) Tryz.underlying37 rfl (by kernel_rfl)
    obtain ⟨V1, hV1⟩ : ∃ V, W0.alloc (.cells (plC (x, px)).toArray 37) = V := ⟨_, rfl⟩
    have hb1 : Below W0.heap.size W0 V1 := by rw [← hV1]; exact (Below.refl _ _).alloc (Nat.le_refl _) _
    have hX1 : V1.heap[W0.heap.size]? = some (.cells (plC (x, px)).toArray 37 (0, 0)) := by rw [← hV1]; exact heap_alloc_new _ _
    obtain ⟨V2, hV2⟩ : ∃ V, V1.alloc (.cells (plC (y, py)).toArray 37) = V := ⟨_, rfl⟩
    have hb2 : Below V1.heap.size V1 V2 := by rw [← hV2]; exact (Below.refl _ _).alloc (Nat.le_refl _) _
    have HX2 := Lib.hid (blk_below hX1 hb2)
    have HY2 : Hid (V2.heap[V1.heap.size]? = some (.cells (plC (y, py)).toArray 37 (0, 0))) := by show _ = _; rw [← hV2]; exact heap_alloc_new _ _
    have hb02 : Below W0.heap.size W0 V2 := hb1.trans (hb2.mono hb1.size)
    have HCa := Lib.hid (rSamePollP_any x y px py V2 (PlAt.below hx1 hb02) (PlAt.below hy1 hb02))
    have HB1 := Lib.hid hb1
    have HB2 := Lib.hid (hg0.trans (hb02.mono hg0.size))
    have HV1 := Lib.hid hV1
    have HV2 := Lib.hid hV2
    clear hc hd hx hy hx1 hy1 hV1 hV2 hb1 hb2 hb02 hX1
    go_upto_region 6 with (first
     | (refine wpList_load (v := .agg (plC (x, px)).toArray) rfl rfl (HLx.out _ (Below.refl _ _)) ?_; simp only [Act.put])
     | (refine wpList_store_new (t := 37) (c' := (plC (x, px)).toArray) rfl rfl rfl rfl (Pl_einfo _ _) rfl (Pl_eone _ _) ?_; simp only [Act.put]))
    rw [HV1.out]
    go_upto_region 7 with (first
     | (refine wpList_load (v := .agg (plC (y, py)).toArray) rfl rfl (HLy.out _ HB1.out) ?_; simp only [Act.put])
     | (refine wpList_store_new (t := 37) (c' := (plC (y, py)).toArray) rfl rfl rfl rfl (Pl_einfo _ _) rfl (Pl_eone _ _) ?_; simp only [Act.put]))
    rw [HV2.out]
    go_wp2_with (first
     | (refine wpList_load (v := .agg (plC (x, px)).toArray) rfl rfl (load_blk (vs := plC (x, px)) HX2.out (fun j v hj => by simpa using hj) rfl (Pl_einfo2 _ _)) ?_; simp only [Act.put])
     | (refine wpList_load (v := .agg (plC (y, py)).toArray) rfl rfl (load_blk (vs := plC (y, py)) HY2.out (fun j v hj => by simpa using hj) rfl (Pl_einfo2 _ _)) ?_; simp only [Act.put]))
    go_at_call 44
    refine HCa.out.mono ?_
    rintro e w3 ⟨v, rfl, hv, hb3⟩
    have HB3 := Lib.hid (HB2.out.trans (hb3.mono HB2.out.size))
    have HV := Lib.hid hv
    clear hb3 hv HCa HLx HLy
    cases v with
    | false =>
     have E : Hid (r = false) := Bool.eq_false_iff.2 fun k => HN.out (fun h => by have := HV.out.2 h; cases this) (HR.out.1 k)
     clear HN HT
     go_wp2_with fail
     go_ret
     exact ⟨ret_bool E.out.symm, HB3.out⟩
    | true =>
     have HI2 := Lib.hid (HT.out (HV.out.1 rfl))
     clear HN HT HI
     go_wp2_with fail
     go_roundw
     case rel => exact ⟨i + 1, ⟨w3, HB3.out⟩, rfl, hlt, by go_num, HI2.out⟩
     case measure => simp [intOf]; omega
   ·obtain rfl : i = a.length := by omega
    have E : Hid (r = true) := HR.out.2 (by have := HI.out; rw [List.take_length, HL.out, List.take_length] at this; exact this)
    go_wp2_with fail
    go_ret
    exact ⟨ret_bool E.out.symm, hg0⟩
 ·have hlb : ((a.length : Int) != (b.length : Int)) = true := by simp; omega
  have E : Hid (r = false) := Bool.eq_false_iff.2 fun k => hl (by rw [HR.out.1 k])
  go_enter Tryz.func52, Tryz.ntmps52
  go_wp2_with fail
  go_ret
  exact ⟨ret_bool E.out.symm, Below.refl _ _⟩
theorem Sta.sameP_iff (k0 : Int) (u0 : List Us) (o0 : List Pl) (d0 : List (Nat × Nat × Nat)) (k1 : Int) (u1 : List Us) (o1 : List Pl) (d1 : List (Nat × Nat × Nat)) :
  (⟨k0, u0, o0, d0⟩ : Sta) = ⟨k1, u1, o1, d1⟩ ↔ k0 = k1 ∧ u0 = u1 ∧ o0 = o1 ∧ d0 = d1 := by
 constructor
 ·intro h; injection h with h1 h2 h3 h4; exact ⟨h1, h2, h3, h4⟩
 ·rintro ⟨rfl, rfl, rfl, rfl⟩; rfl
set_option maxRecDepth 100000 in
set_option maxHeartbeats 4000000 in
theorem rSameStateP_any (a b : Sta) (p q : StaP) (w : World) (ha : StaAt w a p) (hb : StaAt w b q) :
  Calls Tryz.prog 19 #[.agg (staCells a p).toArray, .agg (staCells b q).toArray] w fun e w' => ∃ r, e = .returned (.bool r) ∧ (r = true ↔ a = b) ∧ Below w.heap.size w w' := by
 obtain ⟨r, hr⟩ : ∃ r : Bool, r = true ↔ a = b := by classical exact ⟨decide (a = b), by simp⟩
 suffices h : Calls Tryz.prog 19 #[.agg (staCells a p).toArray, .agg (staCells b q).toArray] w fun e w' => e = .returned (.bool r) ∧ Below w.heap.size w w' from h.mono fun e w' h => ⟨r, h.1, hr, h.2⟩
 obtain ⟨k0, u0, o0, d0⟩ := a
 obtain ⟨k1, u1, o1, d1⟩ := b
 obtain ⟨A1, e1, ua, A2, e2, pa, A3, e3⟩ := p
 obtain ⟨B1, f1, ub, B2, f2, pb, B3, f3⟩ := q
 rw [Sta.sameP_iff] at hr
 obtain ⟨ha1, ha2, ha3⟩ := ha
 obtain ⟨hb1, hb2, hb3⟩ := hb
 unfold staCells
 simp only [List.toArray] at *
 have HUa : Hid (∀ wr, Below w.heap.size w wr → RowsAt usC UsAt wr A1 e1 u0 ua) := fun wr hb' => ha1.below (fun _ _ _ _ h hb => UsAt.below h hb) hb'
 have HUb : Hid (∀ wr, Below w.heap.size w wr → RowsAt usC UsAt wr B1 f1 u1 ub) := fun wr hb' => hb1.below (fun _ _ _ _ h hb => UsAt.below h hb) hb'
 have HPa : Hid (∀ wr, Below w.heap.size w wr → RowsAt plC PlAt wr A2 e2 o0 pa) := fun wr hb' => ha2.below (fun _ _ _ _ h hb => PlAt.below h hb) hb'
 have HPb : Hid (∀ wr, Below w.heap.size w wr → RowsAt plC PlAt wr B2 f2 o1 pb) := fun wr hb' => hb2.below (fun _ _ _ _ h hb => PlAt.below h hb) hb'
 have HSa3 : Hid (∀ wr, Below w.heap.size w wr → Sl wr A3 d0.length e3 (kv u4 d0)) := fun wr hb' => ha3.below hb' (Nat.le_refl _)
 have HSb3 : Hid (∀ wr, Below w.heap.size w wr → Sl wr B3 d1.length f3 (kv u4 d1)) := fun wr hb' => hb3.below hb' (Nat.le_refl _)
 clear ha1 ha2 ha3 hb1 hb2 hb3
 obtain ⟨W, hW⟩ : ∃ W, (w.alloc (.cells #[.int .i64 k0, .slice A1 u0.length e1, .slice A2 o0.length e2, .slice A3 d0.length e3] 73)).alloc (.cells #[.int .i64 k1, .slice B1 u1.length f1, .slice B2 o1.length f2, .slice B3 d1.length f3] 73) = W := ⟨_, rfl⟩
 have hBW : Below w.heap.size w W := by rw [← hW]; exact ((Below.refl _ w).alloc (Nat.le_refl _) _).alloc (by simp) _
 have HG : Hid (∀ g : Gr W, Below w.heap.size w g.val) := fun g => hBW.trans (g.ok.mono hBW.size)
 have HA : Hid (∀ (g : Gr W) (k : Nat) (v : Value), (#[.int .i64 k0, .slice A1 u0.length e1, .slice A2 o0.length e2, .slice A3 d0.length e3] : Array Value)[k]? = some v → g.val.cell? ⟨w.heap.size, k, none⟩ = some v) := fun g k v hv => cell_old (by rw [← hW]; exact blk_cell (cs := #[.int .i64 k0, .slice A1 u0.length e1, .slice A2 o0.length e2, .slice A3 d0.length e3]) (t := 73) (by rw [heap_alloc_old _ _ (by simp)]; exact heap_alloc_new _ _) hv) g.ok
 have HB : Hid (∀ (g : Gr W) (k : Nat) (v : Value), (#[.int .i64 k1, .slice B1 u1.length f1, .slice B2 o1.length f2, .slice B3 d1.length f3] : Array Value)[k]? = some v → g.val.cell? ⟨w.heap.size + 1, k, none⟩ = some v) := fun g k v hv => cell_old (by rw [← hW]; exact blk_cell (cs := #[.int .i64 k1, .slice B1 u1.length f1, .slice B2 o1.length f2, .slice B3 d1.length f3]) (t := 73) (heap_alloc_new2 _ _ _) hv) g.ok
 have E1 := Lib.hid hW
 clear hW hBW
 have HR := Lib.hid hr
 clear hr
 have fa0 := HA.out ⟨W, Below.refl _ _⟩ 0 (.int .i64 k0) rfl
 have fb0 := HB.out ⟨W, Below.refl _ _⟩ 0 (.int .i64 k1) rfl
 have fa1 := HA.out ⟨W, Below.refl _ _⟩ 1 (.slice A1 u0.length e1) rfl
 have fb1 := HB.out ⟨W, Below.refl _ _⟩ 1 (.slice B1 u1.length f1) rfl
 try simp only at fa0 fb0 fa1 fb1
 by_cases h0 : k0 = k1
 rotate_left
 ·have eb0 : (k0 != k1) = true := by simpa using h0
  have ec0 : (k0 == k1) = false := by simpa using h0
  have E : Hid (r = false) := Bool.eq_false_iff.2 fun k => h0 (HR.out.1 k).1
  go_enter Tryz.func19, Tryz.ntmps19
  go_upto_region 1 with fail
  rw [E1.out]
  go_wp2_with fail
  go_ret
  exact ⟨ret_bool E.out.symm, HG.out ⟨W, Below.refl _ _⟩⟩
 subst h0
 go_enter Tryz.func19, Tryz.ntmps19
 go_upto_region 1 with fail
 rw [E1.out]
 go_wp2_with fail
 go_at_call 50
 refine (eqfUs_any u0 u1 ua ub A1 B1 e1 f1 _ (HUa.out _ (HG.out ⟨W, Below.refl _ _⟩)) (HUb.out _ (HG.out ⟨W, Below.refl _ _⟩))).mono ?_
 rintro e w1 ⟨v1, rfl, hv1, hb1⟩
 obtain ⟨g1, rfl⟩ := Gr.on ⟨W, Below.refl _ _⟩ hb1
 clear hb1
 clear fa0 fb0 fa1 fb1
 have fa2 := HA.out g1 2 (.slice A2 o0.length e2) rfl
 have fb2 := HB.out g1 2 (.slice B2 o1.length f2) rfl
 try simp only at fa2 fb2
 cases v1 with
 | false =>
  have hn1 : ¬ (u0 = u1) := fun k => by simpa using hv1.2 k
  have E : Hid (r = false) := Bool.eq_false_iff.2 fun k => hn1 (HR.out.1 k).2.1
  go_wp2_with fail
  go_ret
  exact ⟨ret_bool E.out.symm, HG.out g1⟩
 | true =>
  have HC1 : Hid (u0 = u1) := hv1.1 rfl
  clear hv1
  go_wp2_with fail
  go_at_call 52
  refine (eqfPl_any o0 o1 pa pb A2 B2 e2 f2 _ (HPa.out _ (HG.out g1)) (HPb.out _ (HG.out g1))).mono ?_
  rintro e w2 ⟨v2, rfl, hv2, hb2⟩
  obtain ⟨g2, rfl⟩ := Gr.on g1 hb2
  clear hb2
  clear fa2 fb2
  have fa3 := HA.out g2 3 (.slice A3 d0.length e3) rfl
  have fb3 := HB.out g2 3 (.slice B3 d1.length f3) rfl
  try simp only at fa3 fb3
  cases v2 with
  | false =>
   have hn2 : ¬ (o0 = o1) := fun k => by simpa using hv2.2 k
   have E : Hid (r = false) := Bool.eq_false_iff.2 fun k => hn2 (HR.out.1 k).2.2.1
   go_wp2_with fail
   go_ret
   exact ⟨ret_bool E.out.symm, HG.out g2⟩
  | true =>
   have HC2 : Hid (o0 = o1) := hv2.1 rfl
   clear hv2
   go_wp2_with fail
   go_at_call 53
   refine (eqDo_any d0 d1 A3 B3 e3 f3 _ (HSa3.out _ (HG.out g2)) (HSb3.out _ (HG.out g2))).mono ?_
   rintro e w3 ⟨rfl, hb3⟩
   obtain ⟨g3, rfl⟩ := Gr.on g2 hb3
   clear hb3
   have hv3 : decide (d0 = d1) = true ↔ d0 = d1 := by simp
   generalize decide (d0 = d1) = v3 at *
   clear fa3 fb3
   cases v3 with
   | false =>
    have hn3 : ¬ (d0 = d1) := fun k => by simpa using hv3.2 k
    have E : Hid (r = false) := Bool.eq_false_iff.2 fun k => hn3 (HR.out.1 k).2.2.2
    go_wp2_with fail
    go_ret
    exact ⟨ret_bool E.out.symm, HG.out g3⟩
   | true =>
    have HC3 : Hid (d0 = d1) := hv3.1 rfl
    clear hv3
    have E : Hid (r = true) := HR.out.2 ⟨(by first | rfl | trivial), HC1.out, HC2.out, HC3.out⟩
    go_wp2_with fail
    go_ret
    exact ⟨ret_bool E.out.symm, HG.out g3⟩
end Go.Proofs.YtdhinjbkfffpeaaGreat
end
