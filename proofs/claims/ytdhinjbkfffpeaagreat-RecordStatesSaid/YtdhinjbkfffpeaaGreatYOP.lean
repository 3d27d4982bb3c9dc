import Derived.Test.YtdhinjbkfffpeaaGreatYOL
import Derived.Test.YtdhinjbkfffpeaaGreatYOK
/- Contracts of the program's pass: entries, rows of them. -/
section
namespace Go.Proofs.YtdhinjbkfffpeaaGreat
open Go.ChangeShapes Go.WideShapes Go.ChangeAt Go.RowKit Go.Joins Sp Fr Pk
theorem OwnK.grown {F : Nat → Prop} {s gg : Nat} {v x : Value} {w w2 : World} {p : World → Prop} (h : OwnK F (fun k => k < s ∨ v.ownBlock = some k) w p) {o : Obj} (hgr : (w.alloc o).grownBy w2 v.ownBlock) (hat : v.ownBlock = some gg ∨ w.heap.size ≤ gg)
  (hx : ∀ k, x.ownBlock = some k → k = gg) (hx2 : x.ownBlock = some gg) : OwnK F (fun k => k < s ∨ x.ownBlock = some k) w2 p := fun V hV => by
 have h0 : Off (fun _ => False) w (w.alloc o) := Off.of_below ((Below.refl _ _).alloc (Nat.le_refl _) _)
 have h1 : Off (fun k => v.ownBlock = some k) (w.alloc o) w2 := Off.of_grown hgr fun k hk => hk
 refine h V ⟨hV.os.trans (h1.os.trans h0.os), hV.tape.trans (h1.tape.trans h0.tape), hV.output.trans (h1.output.trans h0.output), Nat.le_trans h0.size (Nat.le_trans h1.size hV.size), fun j hj hn => ?_⟩
 have e1 := h0.block j hj (fun q => q)
 have e2 := h1.block j (Nat.lt_of_lt_of_le hj h0.size) (fun q => hn (.inr (.inr q)))
 refine (hV.block j (Nat.lt_of_lt_of_le (Nat.lt_of_lt_of_le hj h0.size) h1.size) fun q => ?_).trans (e2.trans e1)
 rcases q with q | q | q
 ·exact hn (.inl q)
 ·exact hn (.inr (.inl q))
 ·obtain rfl := hx j q
  rcases hat with e | e
  ·exact hn (.inr (.inr e))
  ·omega
theorem mem_snoc {α π : Type} {g : List α} {gp : List π} {y : α} {q : π} {R : α → π → Prop} (hl : gp.length = g.length) (h : ∀ (j : Nat) x p, g[j]? = some x → gp[j]? = some p → R x p) (h2 : R y q) (j : Nat) (x : α) (p : π) (hx : (g ++ [y])[j]? = some x) (hp : (gp ++ [q])[j]? = some p) : R x p := by
 by_cases hj : j < g.length
 ·rw [List.getElem?_append_left hj] at hx
  rw [List.getElem?_append_left (by omega)] at hp
  exact h j x p hx hp
 ·rw [List.getElem?_append_right (by omega)] at hx hp
  have hj0 : j - g.length = 0 := by
   have := (List.getElem?_eq_some_iff.1 hx).1
   simp at this
   omega
  rw [hj0] at hx
  rw [hl, hj0] at hp
  simp at hx hp
  subst hx hp
  exact h2
theorem kv_zip {α π : Type} (f : α × π → List Value) {g : List α} {gp : List π} (hl : gp.length = g.length) (y : α) (q : π) : kv f ((g ++ [y]).zip (gp ++ [q])) = kv f (g.zip gp) ++ f (y, q) := by
 rw [List.zip_append hl.symm]
 exact kv_snoc f _ _
def enC2 (x : Nat × Evt) (p : EvP) : List Value := enC (x, p)
def EnAt (w : World) (x : Nat × Evt) (p : EvP) : Prop := EvAt w x.2 p
def cdEn : Cd (Nat × Evt) := ⟨enT, enO, rdEn, fun x => (cdNum 4294967295).cost x.1 + cdEv.cost x.2, cod_en.bad⟩
set_option maxRecDepth 100000 in
set_option maxHeartbeats 4000000 in
theorem pentry_any (P : Nat) (x : (Nat × Evt)) (p : EvP) (hx : U32 x.1 ∧ x.2.Fits) (m : Md) (b : Bool) (F : Nat → Prop) (w : World) (h : PsAt w P m b F) (hr : m.Room (cdEn.cost x)) (hz : m.Rd → x = (0, noEvt)) (hm : Held F w (fun V => EnAt V x p)) :
  Calls Tryz.prog 132 #[.pointer (some ⟨P, 0, none⟩), .agg (enC2 x p).toArray] w (Told (fun (y : (Nat × Evt)) (q : EvP) => .agg (enC2 y q).toArray) EnAt cdEn x P m b F w) := by
 show Calls Tryz.prog 132 #[.pointer (some ⟨P, 0, none⟩), .agg #[.int .u32 (x.1 : Int), .int .i64 x.2.start, .int .i64 x.2.long, .bool x.2.world, .bool x.2.again, .int .i64 x.2.rule.freq, .int .i64 x.2.rule.iv, .int .i64 x.2.rule.count, .int .i64 x.2.rule.until_, .slice p.A1 x.2.rule.bm.length p.c1, .slice p.A2 x.2.rule.bd.length p.c2, .slice p.A3 x.2.rule.bw.length p.c3, .slice p.A4 x.2.rule.bs.length p.c4, .int .i64 x.2.rule.start, .slice p.A5 x.2.ex.length p.c5, .slice p.A6 x.2.plus.length p.c6, .slice p.A7 x.2.ch.length p.c7]] w _
 obtain ⟨W1, hW1⟩ : ∃ W1, ((w.alloc (.cells #[.int .u32 (x.1 : Int), .int .i64 x.2.start, .int .i64 x.2.long, .bool x.2.world, .bool x.2.again, .int .i64 x.2.rule.freq, .int .i64 x.2.rule.iv, .int .i64 x.2.rule.count, .int .i64 x.2.rule.until_, .slice p.A1 x.2.rule.bm.length p.c1, .slice p.A2 x.2.rule.bd.length p.c2, .slice p.A3 x.2.rule.bw.length p.c3, .slice p.A4 x.2.rule.bs.length p.c4, .int .i64 x.2.rule.start, .slice p.A5 x.2.ex.length p.c5, .slice p.A6 x.2.plus.length p.c6, .slice p.A7 x.2.ch.length p.c7] 107)).alloc (.cells #[.int .u32 0, .int .i64 0, .int .i64 0, .bool false, .bool false, .int .i64 0, .int .i64 0, .int .i64 0, .int .i64 0, .slice none 0 0, .slice none 0 0, .slice none 0 0, .slice none 0 0, .int .i64 0, .slice none 0 0, .slice none 0 0, .slice none 0 0] 107)) = W1 := ⟨_, rfl⟩
 have HB : Hid (Below w.heap.size w W1) := by show Below _ _ _; rw [← hW1]; exact ((Below.refl _ _).alloc (Nat.le_refl _) _).alloc (by simp) _
 have hb1 : W1.heap[w.heap.size]? = some (.cells #[.int .u32 (x.1 : Int), .int .i64 x.2.start, .int .i64 x.2.long, .bool x.2.world, .bool x.2.again, .int .i64 x.2.rule.freq, .int .i64 x.2.rule.iv, .int .i64 x.2.rule.count, .int .i64 x.2.rule.until_, .slice p.A1 x.2.rule.bm.length p.c1, .slice p.A2 x.2.rule.bd.length p.c2, .slice p.A3 x.2.rule.bw.length p.c3, .slice p.A4 x.2.rule.bs.length p.c4, .int .i64 x.2.rule.start, .slice p.A5 x.2.ex.length p.c5, .slice p.A6 x.2.plus.length p.c6, .slice p.A7 x.2.ch.length p.c7] 107 (0, 0)) := by rw [← hW1, heap_alloc_old _ _ (by simp), heap_alloc_new]
 have hb2 : W1.heap[w.heap.size + 1]? = some (.cells #[.int .u32 0, .int .i64 0, .int .i64 0, .bool false, .bool false, .int .i64 0, .int .i64 0, .int .i64 0, .int .i64 0, .slice none 0 0, .slice none 0 0, .slice none 0 0, .slice none 0 0, .int .i64 0, .slice none 0 0, .slice none 0 0, .slice none 0 0] 107 (0, 0)) := by rw [← hW1]; exact heap_alloc_new2 _ _ _
 have n1 : ¬ F (w.heap.size) := h.not (by omega)
 have n2 : ¬ F (w.heap.size + 1) := h.not (by omega)
 have HN2 : Hid (¬ F (w.heap.size + 1) ∧ w.heap.size + 1 < W1.heap.size) := ⟨n2, heap_lt hb2⟩
 have E1 := Lib.hid hW1
 obtain ⟨XB, hXB⟩ : ∃ X : World → Prop, X = fun V => V.heap[w.heap.size]? = some (.cells #[.int .u32 (x.1 : Int), .int .i64 x.2.start, .int .i64 x.2.long, .bool x.2.world, .bool x.2.again, .int .i64 x.2.rule.freq, .int .i64 x.2.rule.iv, .int .i64 x.2.rule.count, .int .i64 x.2.rule.until_, .slice p.A1 x.2.rule.bm.length p.c1, .slice p.A2 x.2.rule.bd.length p.c2, .slice p.A3 x.2.rule.bw.length p.c3, .slice p.A4 x.2.rule.bs.length p.c4, .int .i64 x.2.rule.start, .slice p.A5 x.2.ex.length p.c5, .slice p.A6 x.2.plus.length p.c6, .slice p.A7 x.2.ch.length p.c7] 107 (0, 0)) := ⟨_, rfl⟩
 obtain ⟨X, hX⟩ : ∃ X : World → Prop, X = fun V => (XB V ∧ V.heap[w.heap.size + 1]? = some (.cells #[.int .u32 0, .int .i64 0, .int .i64 0, .bool false, .bool false, .int .i64 0, .int .i64 0, .int .i64 0, .int .i64 0, .slice none 0 0, .slice none 0 0, .slice none 0 0, .slice none 0 0, .int .i64 0, .slice none 0 0, .slice none 0 0, .slice none 0 0] 107 (0, 0))) ∧ EnAt V x p := ⟨_, rfl⟩
 have HZL : Hid (∀ V, XB V → V.cell? ⟨w.heap.size, 0, none⟩ = some (.int .u32 (x.1 : Int)) ∧ V.cell? ⟨w.heap.size, 1, none⟩ = some (.int .i64 x.2.start) ∧ V.cell? ⟨w.heap.size, 2, none⟩ = some (.int .i64 x.2.long) ∧ V.cell? ⟨w.heap.size, 3, none⟩ = some (.bool x.2.world) ∧ V.cell? ⟨w.heap.size, 4, none⟩ = some (.bool x.2.again) ∧ V.cell? ⟨w.heap.size, 5, none⟩ = some (.int .i64 x.2.rule.freq) ∧ V.cell? ⟨w.heap.size, 6, none⟩ = some (.int .i64 x.2.rule.iv) ∧ V.cell? ⟨w.heap.size, 7, none⟩ = some (.int .i64 x.2.rule.count) ∧ V.cell? ⟨w.heap.size, 8, none⟩ = some (.int .i64 x.2.rule.until_) ∧ V.cell? ⟨w.heap.size, 9, none⟩ = some (.slice p.A1 x.2.rule.bm.length p.c1) ∧ V.cell? ⟨w.heap.size, 10, none⟩ = some (.slice p.A2 x.2.rule.bd.length p.c2) ∧ V.cell? ⟨w.heap.size, 11, none⟩ = some (.slice p.A3 x.2.rule.bw.length p.c3) ∧ V.cell? ⟨w.heap.size, 12, none⟩ = some (.slice p.A4 x.2.rule.bs.length p.c4) ∧ V.cell? ⟨w.heap.size, 13, none⟩ = some (.int .i64 x.2.rule.start) ∧ V.cell? ⟨w.heap.size, 14, none⟩ = some (.slice p.A5 x.2.ex.length p.c5) ∧ V.cell? ⟨w.heap.size, 15, none⟩ = some (.slice p.A6 x.2.plus.length p.c6) ∧ V.cell? ⟨w.heap.size, 16, none⟩ = some (.slice p.A7 x.2.ch.length p.c7)) := fun V hV => by
  rw [hXB] at hV
  exact ⟨blk_cell hV rfl, blk_cell hV rfl, blk_cell hV rfl, blk_cell hV rfl, blk_cell hV rfl, blk_cell hV rfl, blk_cell hV rfl, blk_cell hV rfl, blk_cell hV rfl, blk_cell hV rfl, blk_cell hV rfl, blk_cell hV rfl, blk_cell hV rfl, blk_cell hV rfl, blk_cell hV rfl, blk_cell hV rfl, blk_cell hV rfl⟩
 have HXB : Hid (∀ V, X V → XB V) := fun V hV => by rw [hX] at hV; exact hV.1.1
 have HXR : Hid (∀ V, X V → V.heap[w.heap.size + 1]? = some (.cells #[.int .u32 0, .int .i64 0, .int .i64 0, .bool false, .bool false, .int .i64 0, .int .i64 0, .int .i64 0, .int .i64 0, .slice none 0 0, .slice none 0 0, .slice none 0 0, .slice none 0 0, .int .i64 0, .slice none 0 0, .slice none 0 0, .slice none 0 0] 107 (0, 0))) := fun V hV => by rw [hX] at hV; exact hV.1.2
 have HXM : Hid (∀ V, X V → EnAt V x p) := fun V hV => by rw [hX] at hV; exact hV.2
 have HXS : Hid (∀ V vs, X V → XB (V.setCells (w.heap.size + 1) 0 vs)) := fun V vs hV => by
  rw [hX] at hV
  have hV := hV.1.1
  rw [hXB] at hV ⊢
  show (V.setCells (w.heap.size + 1) 0 vs).heap[w.heap.size]? = _
  rw [setCells_ne (by omega)]; exact hV
 have HS0 : Hid (St W1 W1.drew P m b F F X (fun _ => True)) := (St.start (h.below HB.out) (by rw [hX, hXB]; exact ((Held.blk hb1 n1).and (Held.blk hb2 n2)).and (hm.below HB.out))).drew
 have HR0 : Hid (m.Room ((cdNum 4294967295).cost (x.1) + (cdEv.cost (x.2) + 0))) := hr.mono (by exact Nat.le_refl _)
 have HM0 : Hid (m.Rd → m.Rd) := id
 have HZ := Lib.hid hz
 have HC0 := Lib.hid (fun mx bx Fx wx h hr => pid_any P (x.1) (hx.1) mx bx Fx wx h hr)
 have HC1 := Lib.hid (fun mx bx Fx wx h hr hz hm => pevent_any P (x.2) (p) (hx.2) mx bx Fx wx h hr hz hm)
 clear hW1 hX hXB hb1 hb2 n1 n2 h hr hz hm
 go_enter Tryz.func132, Tryz.ntmps132
 go_upto_region 1 with fail
 rw [E1.out]
 refine wp_region_lexO XB (fun k => [3, 7, 9].contains k) [0, 1, 2, 4, 5, 6, 3, 7, 8, 9] rfl (by kernel_rfl) (by kernel_rfl) (by kernel_rfl) (fun _ _ _ _ _ h => h) (HXB.out _ HS0.out.now) ?_
 generalize World.drew W1 = w0 at *
 refine wpHo_name fun OPS hOPS => ?_
 generalize (Value.agg #[.int .u32 (x.1 : Int), .int .i64 x.2.start, .int .i64 x.2.long, .bool x.2.world, .bool x.2.again, .int .i64 x.2.rule.freq, .int .i64 x.2.rule.iv, .int .i64 x.2.rule.count, .int .i64 x.2.rule.until_, .slice p.A1 x.2.rule.bm.length p.c1, .slice p.A2 x.2.rule.bd.length p.c2, .slice p.A3 x.2.rule.bw.length p.c3, .slice p.A4 x.2.rule.bs.length p.c4, .int .i64 x.2.rule.start, .slice p.A5 x.2.ex.length p.c5, .slice p.A6 x.2.plus.length p.c6, .slice p.A7 x.2.ch.length p.c7]) = va
 have hk0 := congrArg (fun x => x[0]?) hOPS
 simp only [List.getElem?_toArray, List.getElem?_cons_zero] at hk0
 have hk1 := congrArg (fun x => x[1]?) hOPS
 simp only [List.getElem?_toArray, List.getElem?_cons_zero, List.getElem?_cons_succ] at hk1
 have hk2 := congrArg (fun x => x[2]?) hOPS
 simp only [List.getElem?_toArray, List.getElem?_cons_zero, List.getElem?_cons_succ] at hk2
 have hk3 := congrArg (fun x => x[3]?) hOPS
 simp only [List.getElem?_toArray, List.getElem?_cons_zero, List.getElem?_cons_succ] at hk3
 have hk4 := congrArg (fun x => x[4]?) hOPS
 simp only [List.getElem?_toArray, List.getElem?_cons_zero, List.getElem?_cons_succ] at hk4
 have hk5 := congrArg (fun x => x[5]?) hOPS
 simp only [List.getElem?_toArray, List.getElem?_cons_zero, List.getElem?_cons_succ] at hk5
 have hk6 := congrArg (fun x => x[6]?) hOPS
 simp only [List.getElem?_toArray, List.getElem?_cons_zero, List.getElem?_cons_succ] at hk6
 have hk7 := congrArg (fun x => x[7]?) hOPS
 simp only [List.getElem?_toArray, List.getElem?_cons_zero, List.getElem?_cons_succ] at hk7
 have hk8 := congrArg (fun x => x[8]?) hOPS
 simp only [List.getElem?_toArray, List.getElem?_cons_zero, List.getElem?_cons_succ] at hk8
 have hk9 := congrArg (fun x => x[9]?) hOPS
 simp only [List.getElem?_toArray, List.getElem?_cons_zero, List.getElem?_cons_succ] at hk9
 clear hOPS
 refine wpHo_yes (v := ?_) hk0 rfl rfl (fun w' hS => ?_) ?_; rotate_left; (go_simp; with_reducible rfl); (try simp only [Act.put, List.setIfInBounds_toArray, List.set_cons_zero, List.set_cons_succ])
 refine wpHo_yes (v := ?_) hk1 rfl rfl (fun w' hS => ?_) ?_; rotate_left; (go_simp; with_reducible rfl); (try simp only [Act.put, List.setIfInBounds_toArray, List.set_cons_zero, List.set_cons_succ])
 refine wpHo_yes (v := ?_) hk2 rfl rfl (fun w' hS => ?_) ?_; rotate_left; (obtain ⟨f0, f1, f2, f3, f4, f5, f6, f7, f8, f9, f10, f11, f12, f13, f14, f15, f16⟩ := HZL.out w' hS; go_simp; with_reducible rfl); (try simp only [Act.put, List.setIfInBounds_toArray, List.set_cons_zero, List.set_cons_succ])
 refine wpHo_yes (v := ?_) hk4 rfl rfl (fun w' hS => ?_) ?_; rotate_left; (go_simp; with_reducible rfl); (try simp only [Act.put, List.setIfInBounds_toArray, List.set_cons_zero, List.set_cons_succ])
 refine wpHo_yes (v := ?_) hk5 rfl rfl (fun w' hS => ?_) ?_; rotate_left; (go_simp; with_reducible rfl); (try simp only [Act.put, List.setIfInBounds_toArray, List.set_cons_zero, List.set_cons_succ])
 refine wpHo_yes (v := ?_) hk6 rfl rfl (fun w' hS => ?_) ?_; rotate_left; (obtain ⟨f0, f1, f2, f3, f4, f5, f6, f7, f8, f9, f10, f11, f12, f13, f14, f15, f16⟩ := HZL.out w' hS; go_simp; with_reducible rfl); (try simp only [Act.put, List.setIfInBounds_toArray, List.set_cons_zero, List.set_cons_succ])
 refine wpHo_callYes hk3 rfl rfl (fun K hK => ?_)
 go_simp
 go_at_call 103
 refine (HC0.out _ _ _ _ HS0.out.to.at_ (HR0.out.mono (Nat.le_add_right _ _))).mono ?_
 rintro e w1 ⟨y0, m0, b0, F0, rfl, hT, hD, hy⟩
 have HD0 := Lib.hid hD
 have HR1 := Lib.hid (hD.room HR0.out)
 have HM1 : Hid (m0.Rd → m.Rd) := fun hm => HM0.out (hD.mode.1 hm)
 have HS1 := Lib.hid (HS0.out.tel hT)
 clear hT hD hy HS0 HR0 HC0 HM0
 refine hK _ _ (HXB.out _ HS1.out.now) (fun _ => ?_)
 skip
 clear hK K
 refine wpHo_callYes hk7 rfl rfl (fun K hK => ?_)
 go_simp
 go_at_call 105
 refine (HC1.out _ _ _ _ HS1.out.to.at_ (HR1.out.mono (Nat.le_add_right _ _)) (fun hm => by rw [HZ.out (HM1.out hm)] <;> rfl) (HS1.out.x.imp fun V hV => (HXM.out V hV))).mono ?_
 rintro e w2 ⟨y1, q1, m1, b1, F1, rfl, hT, hO, hD⟩
 have HD1 := Lib.hid hD
 have HR2 := Lib.hid (hD.room HR1.out)
 have HM2 : Hid (m1.Rd → m.Rd) := fun hm => HM1.out (hD.mode.1 hm)
 have HS2 := Lib.hid (HS1.out.told hT hO)
 clear hT hD hO HS1 HR1 HC1 HM1
 refine hK _ _ (HXB.out _ HS2.out.now) (fun _ => ?_)
 (try simp only [qCells, sCells, pCells, eCells, ruCells, List.cons_append, List.nil_append])
 clear hK K
 refine wpHo_yes (v := ?_) hk8 rfl rfl (fun w' hS => ?_) ?_; rotate_left; (go_simp; with_reducible rfl); (try simp only [Act.put, List.setIfInBounds_toArray, List.set_cons_zero, List.set_cons_succ])
 have HRB := Lib.hid (HXR.out _ HS2.out.now)
 refine wpHo_callYes hk9 rfl rfl (fun K hK => ?_)
 refine wp_store_mid 107 (.tmp 4) (.tmp 13) rfl (w.heap.size + 1) 0 #[.int .u32 (y0 : Int), .int .i64 y1.start, .int .i64 y1.long, .bool y1.world, .bool y1.again, .int .i64 y1.rule.freq, .int .i64 y1.rule.iv, .int .i64 y1.rule.count, .int .i64 y1.rule.until_, .slice q1.A1 y1.rule.bm.length q1.c1, .slice q1.A2 y1.rule.bd.length q1.c2, .slice q1.A3 y1.rule.bw.length q1.c3, .slice q1.A4 y1.rule.bs.length q1.c4, .int .i64 y1.rule.start, .slice q1.A5 y1.ex.length q1.c5, .slice q1.A6 y1.plus.length q1.c6, .slice q1.A7 y1.ch.length q1.c7] rfl rfl (blk_there HRB.out (by simp)) (by kernel_rfl) (by simp [Value.oneCell']) ?_
 refine hK _ _ (HXS.out _ _ HS2.out.now) (fun _ => ?_)
 simp only [Act.put]
 clear hK K
 have hset := setCells_blk (b := w.heap.size + 1) [.int .u32 (y0 : Int), .int .i64 y1.start, .int .i64 y1.long, .bool y1.world, .bool y1.again, .int .i64 y1.rule.freq, .int .i64 y1.rule.iv, .int .i64 y1.rule.count, .int .i64 y1.rule.until_, .slice q1.A1 y1.rule.bm.length q1.c1, .slice q1.A2 y1.rule.bd.length q1.c2, .slice q1.A3 y1.rule.bw.length q1.c3, .slice q1.A4 y1.rule.bs.length q1.c4, .int .i64 y1.rule.start, .slice q1.A5 y1.ex.length q1.c5, .slice q1.A6 y1.plus.length q1.c6, .slice q1.A7 y1.ch.length q1.c7] 0 _ _ HRB.out
 have HTO := Lib.hid (HS2.out.to.store' HB.out (R := w.heap.size + 1) (by omega) (HS2.out.to.not HN2.out.1 HN2.out.2) 0 [.int .u32 (y0 : Int), .int .i64 y1.start, .int .i64 y1.long, .bool y1.world, .bool y1.again, .int .i64 y1.rule.freq, .int .i64 y1.rule.iv, .int .i64 y1.rule.count, .int .i64 y1.rule.until_, .slice q1.A1 y1.rule.bm.length q1.c1, .slice q1.A2 y1.rule.bd.length q1.c2, .slice q1.A3 y1.rule.bw.length q1.c3, .slice q1.A4 y1.rule.bs.length q1.c4, .int .i64 y1.rule.start, .slice q1.A5 y1.ex.length q1.c5, .slice q1.A6 y1.plus.length q1.c6, .slice q1.A7 y1.ch.length q1.c7])
 have HOW := Lib.hid ((HS2.out.y.store (R := w.heap.size + 1) HN2.out.2 0 [.int .u32 (y0 : Int), .int .i64 y1.start, .int .i64 y1.long, .bool y1.world, .bool y1.again, .int .i64 y1.rule.freq, .int .i64 y1.rule.iv, .int .i64 y1.rule.count, .int .i64 y1.rule.until_, .slice q1.A1 y1.rule.bm.length q1.c1, .slice q1.A2 y1.rule.bd.length q1.c2, .slice q1.A3 y1.rule.bw.length q1.c3, .slice q1.A4 y1.rule.bs.length q1.c4, .int .i64 y1.rule.start, .slice q1.A5 y1.ex.length q1.c5, .slice q1.A6 y1.plus.length q1.c6, .slice q1.A7 y1.ch.length q1.c7]).mono HB.out.size)
 obtain ⟨w', hw'⟩ : ∃ w', w2.setCells (w.heap.size + 1) 0 [.int .u32 (y0 : Int), .int .i64 y1.start, .int .i64 y1.long, .bool y1.world, .bool y1.again, .int .i64 y1.rule.freq, .int .i64 y1.rule.iv, .int .i64 y1.rule.count, .int .i64 y1.rule.until_, .slice q1.A1 y1.rule.bm.length q1.c1, .slice q1.A2 y1.rule.bd.length q1.c2, .slice q1.A3 y1.rule.bw.length q1.c3, .slice q1.A4 y1.rule.bs.length q1.c4, .int .i64 y1.rule.start, .slice q1.A5 y1.ex.length q1.c5, .slice q1.A6 y1.plus.length q1.c6, .slice q1.A7 y1.ch.length q1.c7] = w' := ⟨_, rfl⟩
 have hw'2 : w2.setCells (w.heap.size + 1) 0 #[.int .u32 (y0 : Int), .int .i64 y1.start, .int .i64 y1.long, .bool y1.world, .bool y1.again, .int .i64 y1.rule.freq, .int .i64 y1.rule.iv, .int .i64 y1.rule.count, .int .i64 y1.rule.until_, .slice q1.A1 y1.rule.bm.length q1.c1, .slice q1.A2 y1.rule.bd.length q1.c2, .slice q1.A3 y1.rule.bw.length q1.c3, .slice q1.A4 y1.rule.bs.length q1.c4, .int .i64 y1.rule.start, .slice q1.A5 y1.ex.length q1.c5, .slice q1.A6 y1.plus.length q1.c6, .slice q1.A7 y1.ch.length q1.c7].toList = w' := hw'
 rw [hw'] at hset HTO HOW
 rw [hw'2]
 clear hw' hw'2
 rw [setAll_all (by rfl)] at hset
 have HSE := Lib.hid hset
 clear hset
 show Exit.then _ _ _ _ _
 go_wp2_with fail
 refine bodyPost_ret (results_cell_row rfl _ _ (w.heap.size + 1) 107 #[.int .u32 (y0 : Int), .int .i64 y1.start, .int .i64 y1.long, .bool y1.world, .bool y1.again, .int .i64 y1.rule.freq, .int .i64 y1.rule.iv, .int .i64 y1.rule.count, .int .i64 y1.rule.until_, .slice q1.A1 y1.rule.bm.length q1.c1, .slice q1.A2 y1.rule.bd.length q1.c2, .slice q1.A3 y1.rule.bw.length q1.c3, .slice q1.A4 y1.rule.bs.length q1.c4, .int .i64 y1.rule.start, .slice q1.A5 y1.ex.length q1.c5, .slice q1.A6 y1.plus.length q1.c6, .slice q1.A7 y1.ch.length q1.c7] (0, 0) _ rfl HSE.out Tryz.underlying107 rfl (by kernel_rfl)) rfl ?_
 exact ⟨(y0, y1), q1, _, _, _, rfl, HTO.out, HOW.out.imp (fun V hV => hV.2), (HD0.out.pair HD1.out).conv (fun y => y) (Nat.le_refl _) (fun o => ⟨⟨u32_le.1 o.1, o.2⟩, rfl⟩) (fun _ => rfl) rfl (fun _ => rfl)⟩
set_option maxRecDepth 100000 in
set_option maxHeartbeats 4000000 in
theorem En_info (x : Nat × Evt) (p : EvP) : (Tryz.prog.info? 107).map (·.size) = some (enC (x, p)).toArray.size := by kernel_rfl
theorem En_info2 (x : Nat × Evt) (p : EvP) : (Tryz.prog.info? 107).map (·.size) = some (enC (x, p)).length := by kernel_rfl
theorem En_one (x : Nat × Evt) (p : EvP) : (enC (x, p)).toArray.all (·.oneCell') = true := by simp [enC2, enC, eCells, Value.oneCell']
set_option maxRecDepth 100000 in
set_option maxHeartbeats 4000000 in
theorem prowEn_any (P : Nat) (l : List (Nat × Evt)) (A : Option Addr) (d : Nat) (ps : List EvP) (most : Nat) (hmost : most ≤ 1000000) (hfit : ∀ x ∈ l, U32 x.1 ∧ x.2.Fits) (m : Md) (b : Bool) (F : Nat → Prop) (w : World) (h : PsAt w P m b F) (hr : m.Room ((cdRow cdEn most).cost l)) (hz : m.Rd → l = [])
  (hx : Held F w (fun V => RowsAt enC (fun w x p => EvAt w x.2 p) V A d l ps)) :
  Calls Tryz.prog 131 #[.pointer (some ⟨P, 0, none⟩), .slice A l.length d, .int .i64 (most : Int), .func (.func 132) #[.pointer (some ⟨P, 0, none⟩)] #[]] w
   (Told (fun (y : List (Nat × Evt)) (q : Option Addr × Nat × List EvP) => .slice q.1 y.length q.2.1) (fun V y q => RowsAt enC (fun w x p => EvAt w x.2 p) V q.1 q.2.1 y q.2.2) (cdRow cdEn most) l P m b F w) := by
 obtain ⟨i0, hi0, hq0, hq1, hq2⟩ := info_parts (show (Tryz.prog.info? 107).map (fun i => (i.zero, i.size, i.bytes)) = some (some (.agg #[.int .u32 0, .int .i64 0, .int .i64 0, .bool false, .bool false, .int .i64 0, .int .i64 0, .int .i64 0, .int .i64 0, .slice none 0 0, .slice none 0 0, .slice none 0 0, .slice none 0 0, .int .i64 0, .slice none 0 0, .slice none 0 0, .slice none 0 0]), 17, 240) by kernel_rfl)
 have hlen := len_le hx.now.s
 have hr : m.Room (10 + ((l.map (Cd.cost cdEn)).sum + 0)) := hr
 have HN := Lib.hid (pnumberIB_any P (l.length : Int) most (by omega) (⟨by omega, by omega⟩ : I64 (l.length : Int)) m b F w h (hr.mono (by omega)))
 obtain ⟨x2, y2, hPc⟩ := h.cells
 have c2 := blk_cell (i := 2) hPc rfl
 have f2 := blk_free hPc 2
 have HPW := Lib.hid (h.wrong true)
 have HX := Lib.hid hx
 have HZ := Lib.hid hz
 have HR := Lib.hid hr
 have HFit := Lib.hid hfit
 clear hx hz hr h hPc hfit
 by_cases hml : l.length ≤ most
 ·have hmz : ¬ (most : Int) < l.length := by omega
  clear c2 f2
  go_enter Tryz.func131, Tryz.ntmps131
  go_wp2_with fail
  go_at_call 102
  refine HN.out.mono ?_
  rintro e w1 ⟨k, m1, b1, F1, rfl, hT, hD, hk1, hk2⟩
  obtain ⟨K, rfl⟩ : ∃ K : Nat, k = (K : Int) := by
   by_cases hm : m.Rd
   ·obtain ⟨r, rfl⟩ := Md.is_rd hm; exact ⟨k.toNat, by have := (hk2 r rfl).1; omega⟩
   ·obtain ⟨s, rfl⟩ := Md.not_rd hm; exact ⟨l.length, hk1 s rfl⟩
  have hKm : K ≤ most := by
   by_cases hm : m.Rd
   ·obtain ⟨r, rfl⟩ := Md.is_rd hm; have := (hk2 r rfl).2; omega
   ·obtain ⟨s, rfl⟩ := Md.not_rd hm; have := hk1 s rfl; omega
  have HKw : Hid (¬ m.Rd → K = l.length) := fun hm => by obtain ⟨s, rfl⟩ := Md.not_rd hm; have := hk1 s rfl; omega
  have HK1 := Lib.hid hk1
  have HT1 := Lib.hid hT
  have HD1 := Lib.hid hD
  have HR1 : Hid (m1.Room ((l.map (Cd.cost cdEn)).sum + 0)) := hD.room HR.out
  clear hT hD hk1 hk2 HN HPW
  go_wp2_with fail
  go_loopw [9, 24] (fun sg si wr => ∃ (i : Nat) (g : List (Nat × Evt)) (gp : List EvP) (v : Value) (m2 : Md) (b2 : Bool) (F2 : Nat → Prop), v = sg ∧ si = .int .i64 (i : Int) ∧ i ≤ K ∧ g.length = i ∧ gp.length = g.length ∧ Hid (wr.ownsRow w.heap.size 107 17 v i (kv enC (g.zip gp))) ∧ Hid (∀ k, v.ownBlock = some k → ¬ F2 k) ∧ Hid (PsTo w wr P m2 b2 F F2) ∧ Hid (Dns cdEn l m1 b1 i g m2 b2) ∧ Hid (OwnK F2 (fun k => k < w.heap.size ∨ v.ownBlock = some k) wr (fun V => ∀ (j : Nat) x p, g[j]? = some x → gp[j]? = some p → (fun w x p => EvAt w x.2 p) V x p))) (fun _ si _ => K - (intOf si).toNat)
  case atStart => exact ⟨0, [], [], .slice none 0 0, m1, b1, F1, rfl, rfl, Nat.zero_le _, rfl, rfl, World.ownsRow_nil _ _ _ _, fun k hk => by simp [Value.ownBlock] at hk, HT1, Dns.start _ _ _ _, fun V _ j x p hx _ => by simp at hx⟩
  case round =>
   obtain ⟨i, g, gp, v, m2, b2, F2, rfl, rfl, hi, hg, hgp, HO, HNF, HT, HDs, HM⟩ := hrel
   have hT2 := HT.out
   by_cases hlt : i < K
   ·have hkz : (i : Int) < K := by omega
    have HIn : Hid (¬ m1.Rd → i < l.length) := fun hm => by have := HKw.out (fun q => hm (HD1.out.mode.2 q)); omega
    by_cases hil : i < l.length
    ·have hiz : (i : Int) < l.length := by omega
     obtain ⟨x, hxi⟩ : ∃ x, l[i]? = some x := ⟨_, List.getElem?_eq_getElem hil⟩
     have hfx := HFit.out x (List.mem_of_getElem? hxi)
     obtain ⟨px, b0, off, hpx, rfl, _, _, hcc⟩ := (HX.out.step hT2).now.at enC_len (by decide) hxi
     have HLD : Hid (∀ W2, Below wr.heap.size wr W2 → (Instr.loadAt 107 (.pointer (some ⟨b0, off + i * 17, none⟩))).run Tryz.prog W2 = .ok (.agg (enC (x, px)).toArray) W2) := fun W2 hW => run_loadAt_mid W2 b0 (off + i * 17) 107 (enC (x, px)) _ (fun j v hj => by rw [Nat.add_assoc]; exact hcc ⟨W2, hW⟩ j v hj) Tryz.underlying107 rfl (by kernel_rfl)
     have HCC := Lib.hid (fun W2 (hW : Below wr.heap.size wr W2) => pentry_any P x px hfx m2 b2 F2 W2 (hT2.at_.below hW) (by have := HDs.out.room_at (z := x) HR1.out HIn.out; rw [hxi] at this; exact this) (fun hm => by have e := HZ.out (HD1.out.mode.1 (HDs.out.mode.1 hm)); rw [e] at hxi; cases hxi) (((HX.out.step hT2).below hW).imp fun V hV => hV.el i x px hxi hpx))
     clear hcc hT2
     go_wp2_with (first
      | (refine wpList_load (v := .agg (enC (x, px)).toArray) rfl rfl (HLD.out _ (by first | exact Below.refl _ _ | exact (Below.refl _ _).alloc (Nat.le_refl _) _)) ?_; simp only [Act.put])
      | (refine wpList_store_new (t := 107) (c' := (enC (x, px)).toArray) rfl rfl rfl rfl (En_info _ _) rfl (En_one _ _) ?_; simp only [Act.put])
      | (refine wpList_load (v := .agg (enC (x, px)).toArray) rfl rfl (load_blk (vs := enC (x, px)) (heap_alloc_new _ _) (fun j v hj => by simpa using hj) rfl (En_info2 _ _)) ?_; simp only [Act.put]))
     go_at_call 132
     refine (HCC.out _ (by first | exact Below.refl _ _ | exact (Below.refl _ _).alloc (Nat.le_refl _) _)).mono ?_
     rintro e w3 ⟨y, q, m3, b3, F3, rfl, hT3, hO3, hD3⟩
     have hTf := hT3.from_ (w := wr) (by first | exact Below.refl _ _ | exact (Below.refl _ _).alloc (Nat.le_refl _) _)
     have HO3 := Lib.hid (own_off (own_off HO.out (Off.of_below (by first | exact Below.refl _ _ | exact (Below.refl _ _).alloc (Nat.le_refl _) _)) fun _ _ h => h) hT3.off HNF.out)
     have HT3 := Lib.hid (HT.out.trans hTf)
     have HDs3 := Lib.hid (HDs.out.step (z := ((0, noEvt) : Nat × Evt)) (by rw [hxi]; exact hD3))
     have HNF3 := Lib.hid (fun k (hk : v.ownBlock = some k) => (⟨hTf.not (HNF.out k hk) (HO.out.lt k hk).2, (HO.out.lt k hk).1⟩ : ¬ F3 k ∧ w.heap.size ≤ k))
     have HM3 := Lib.hid (HM.out.told hTf (hO3.mono (by simp)) (fun j hj => hj.elim (fun e => Nat.lt_of_lt_of_le e HT.out.off.size) fun e => (HO.out.lt j e).2))
     have hle3 := HT3.out.off.size
     have hn3 : ∀ k, w3.heap.size ≤ k → ¬ F3 k := fun k hk => HT3.out.at_.not hk
     clear hT3 hD3 hTf hO3
     simp only [enC2, enC, eCells, List.cons_append, List.nil_append]
     go_wp2_with (at_builtin; refine wpList_append_lies _ rfl _ _ _ rfl w.heap.size 107 i0 (.agg #[.int .u32 0, .int .i64 0, .int .i64 0, .bool false, .bool false, .int .i64 0, .int .i64 0, .int .i64 0, .int .i64 0, .slice none 0 0, .slice none 0 0, .slice none 0 0, .slice none 0 0, .int .i64 0, .slice none 0 0, .slice none 0 0, .slice none 0 0]) 17 240 Tryz.underlying103 hi0 hq0 hq1 hq2 rfl (by decide) v i _ rfl (HO3.out.alloc _) ⟨w3.heap.size, 0, none⟩ 1 1 [.int .u32 (y.1 : Int), .int .i64 y.2.start, .int .i64 y.2.long, .bool y.2.world, .bool y.2.again, .int .i64 y.2.rule.freq, .int .i64 y.2.rule.iv, .int .i64 y.2.rule.count, .int .i64 y.2.rule.until_, .slice q.A1 y.2.rule.bm.length q.c1, .slice q.A2 y.2.rule.bd.length q.c2, .slice q.A3 y.2.rule.bw.length q.c3, .slice q.A4 y.2.rule.bs.length q.c4, .int .i64 y.2.rule.start, .slice q.A5 y.2.ex.length q.c5, .slice q.A6 y.2.plus.length q.c6, .slice q.A7 y.2.ch.length q.c7] rfl rfl (World.news_of_block (fr := (0, 0)) (heap_alloc_new w3 _)) (by simp [Value.oneCell']) (by decide) (by unfold maxLen; omega) (by omega) (by simp; omega) (w3.heap.size + 1) (by simp) ?_)
     intro gg cap2 w4 hown hgr hat hlt4
     have HO4 := Lib.hid hown
     have HT4 := Lib.hid (HT3.out.grown hgr HNF3.out)
     have HNF4 : Hid (∀ k, (Value.slice (some ⟨gg, 0, none⟩) (i + 1) cap2).ownBlock = some k → ¬ F3 k) := fun k hk => by
      obtain rfl : gg = k := by simpa [Value.ownBlock] using hk
      exact hat.elim (fun e => (HNF3.out gg e).1) fun e => hn3 gg (by omega)
     have HM4 := Lib.hid (HM3.out.grown hgr (gg := gg) (hat.imp id fun e => by omega) (x := .slice (some ⟨gg, 0, none⟩) (i + 1) cap2) (fun k hk => by simpa [Value.ownBlock, eq_comm] using hk) (by simp [Value.ownBlock]))
     clear hown hgr hat
     go_wp2_with fail
     go_roundw
     case rel =>
      refine ⟨i + 1, g ++ [y], gp ++ [q], _, m3, b3, F3, rfl, by go_num, by omega, by rw [List.length_append, hg]; rfl, by rw [List.length_append, List.length_append, hgp]; rfl, ?_, HNF4, HT4, HDs3, fun V hV => mem_snoc hgp (HM4.out V hV).1 (HM4.out V hV).2⟩
      show World.ownsRow _ _ _ _ _ _ _
      rw [kv_zip _ hgp]; exact HO4.out
     case measure => simp [intOf]; omega
    ·have hiz : ¬ (i : Int) < l.length := by omega
     have hxn : l[i]? = none := List.getElem?_eq_none (by omega)
     have HCC := Lib.hid (fun W2 (hW : Below wr.heap.size wr W2) => pentry_any P ((0, noEvt) : Nat × Evt) noEvP ⟨(by show (0 : Nat) < 4294967296; decide), noEvt_fits⟩ m2 b2 F2 W2 (hT2.at_.below hW) (by have := HDs.out.room_at (z := ((0, noEvt) : Nat × Evt)) HR1.out HIn.out; rw [hxn] at this; exact this) (fun _ => rfl) (fun V _ => noEvt_at V))
     clear hT2
     go_wp2_with fail
     go_at_call 132
     refine (HCC.out _ (by first | exact Below.refl _ _ | exact (Below.refl _ _).alloc (Nat.le_refl _) _)).mono ?_
     rintro e w3 ⟨y, q, m3, b3, F3, rfl, hT3, hO3, hD3⟩
     have hTf := hT3.from_ (w := wr) (by first | exact Below.refl _ _ | exact (Below.refl _ _).alloc (Nat.le_refl _) _)
     have HO3 := Lib.hid (own_off (own_off HO.out (Off.of_below (by first | exact Below.refl _ _ | exact (Below.refl _ _).alloc (Nat.le_refl _) _)) fun _ _ h => h) hT3.off HNF.out)
     have HT3 := Lib.hid (HT.out.trans hTf)
     have HDs3 := Lib.hid (HDs.out.step (z := ((0, noEvt) : Nat × Evt)) (by rw [hxn]; exact hD3))
     have HNF3 := Lib.hid (fun k (hk : v.ownBlock = some k) => (⟨hTf.not (HNF.out k hk) (HO.out.lt k hk).2, (HO.out.lt k hk).1⟩ : ¬ F3 k ∧ w.heap.size ≤ k))
     have HM3 := Lib.hid (HM.out.told hTf (hO3.mono (by simp)) (fun j hj => hj.elim (fun e => Nat.lt_of_lt_of_le e HT.out.off.size) fun e => (HO.out.lt j e).2))
     have hle3 := HT3.out.off.size
     have hn3 : ∀ k, w3.heap.size ≤ k → ¬ F3 k := fun k hk => HT3.out.at_.not hk
     clear hT3 hD3 hTf hO3
     simp only [enC2, enC, eCells, List.cons_append, List.nil_append]
     go_wp2_with (at_builtin; refine wpList_append_lies _ rfl _ _ _ rfl w.heap.size 107 i0 (.agg #[.int .u32 0, .int .i64 0, .int .i64 0, .bool false, .bool false, .int .i64 0, .int .i64 0, .int .i64 0, .int .i64 0, .slice none 0 0, .slice none 0 0, .slice none 0 0, .slice none 0 0, .int .i64 0, .slice none 0 0, .slice none 0 0, .slice none 0 0]) 17 240 Tryz.underlying103 hi0 hq0 hq1 hq2 rfl (by decide) v i _ rfl (HO3.out.alloc _) ⟨w3.heap.size, 0, none⟩ 1 1 [.int .u32 (y.1 : Int), .int .i64 y.2.start, .int .i64 y.2.long, .bool y.2.world, .bool y.2.again, .int .i64 y.2.rule.freq, .int .i64 y.2.rule.iv, .int .i64 y.2.rule.count, .int .i64 y.2.rule.until_, .slice q.A1 y.2.rule.bm.length q.c1, .slice q.A2 y.2.rule.bd.length q.c2, .slice q.A3 y.2.rule.bw.length q.c3, .slice q.A4 y.2.rule.bs.length q.c4, .int .i64 y.2.rule.start, .slice q.A5 y.2.ex.length q.c5, .slice q.A6 y.2.plus.length q.c6, .slice q.A7 y.2.ch.length q.c7] rfl rfl (World.news_of_block (fr := (0, 0)) (heap_alloc_new w3 _)) (by simp [Value.oneCell']) (by decide) (by unfold maxLen; omega) (by omega) (by simp; omega) (w3.heap.size + 1) (by simp) ?_)
     intro gg cap2 w4 hown hgr hat hlt4
     have HO4 := Lib.hid hown
     have HT4 := Lib.hid (HT3.out.grown hgr HNF3.out)
     have HNF4 : Hid (∀ k, (Value.slice (some ⟨gg, 0, none⟩) (i + 1) cap2).ownBlock = some k → ¬ F3 k) := fun k hk => by
      obtain rfl : gg = k := by simpa [Value.ownBlock] using hk
      exact hat.elim (fun e => (HNF3.out gg e).1) fun e => hn3 gg (by omega)
     have HM4 := Lib.hid (HM3.out.grown hgr (gg := gg) (hat.imp id fun e => by omega) (x := .slice (some ⟨gg, 0, none⟩) (i + 1) cap2) (fun k hk => by simpa [Value.ownBlock, eq_comm] using hk) (by simp [Value.ownBlock]))
     clear hown hgr hat
     go_wp2_with fail
     go_roundw
     case rel =>
      refine ⟨i + 1, g ++ [y], gp ++ [q], _, m3, b3, F3, rfl, by go_num, by omega, by rw [List.length_append, hg]; rfl, by rw [List.length_append, List.length_append, hgp]; rfl, ?_, HNF4, HT4, HDs3, fun V hV => mem_snoc hgp (HM4.out V hV).1 (HM4.out V hV).2⟩
      show World.ownsRow _ _ _ _ _ _ _
      rw [kv_zip _ hgp]; exact HO4.out
     case measure => simp [intOf]; omega
   ·obtain rfl : K = i := by omega
    clear hT2
    go_wp2_with fail
    obtain ⟨Ar, cr, rfl, hsl⟩ := Sl.of_own HO.out
    go_ret
    refine ⟨g, (Ar, cr, gp), m2, b2, F2, by show Ending.returned (.slice Ar K cr) = .returned (.slice Ar g.length cr); rw [hg], HT.out, fun V hV => ⟨?_, hgp, HM.out V (hV.mono fun k _ hk => hk.imp id .inl)⟩, ?_⟩
    ·obtain ⟨Ar', cr', q1, q2⟩ := Sl.of_own (own_off HO.out hV fun k hk hq => hq.elim (HNF.out k hk) fun q => by have := (HO.out.lt k hk).1; omega)
     simp only [Value.slice.injEq] at q1
     obtain ⟨rfl, -, rfl⟩ := q1
     rw [hg]; exact q2
    ·have := HDs.out
     exact Dns.row HD1.out HK1.out this hml
 ·have hmz : (most : Int) < l.length := by omega
  clear HN
  go_enter Tryz.func131, Tryz.ntmps131
  go_wp2_with fail
  go_ret
  obtain ⟨s, rfl⟩ := Md.not_rd (m := m) (fun hm => by have := HZ.out hm; subst this; simp at hml)
  exact ⟨[], (none, 0, []), _, _, F, rfl, HPW.out, fun V _ => ⟨Sl.none_ _, rfl, fun j x p hx _ => by simp at hx⟩, Dn.many hml [] _ s rfl b⟩
end Go.Proofs.YtdhinjbkfffpeaaGreat
end
section
namespace Go.Proofs.YtdhinjbkfffpeaaGreat
open Go.ChangeShapes Go.WideShapes Go.ChangeAt Go.RowKit Go.Joins Sp Fr Pk
def noUs : Us := ⟨0, noStg, 0, []⟩
def noUsP : UsP := ⟨noStgP, none, 0, []⟩
theorem noUs_at (w : World) : UsAt w noUs noUsP := ⟨noStg_at w, Sl.none_ _, rfl, fun j x p hx _ => by simp [noUs] at hx⟩
theorem noUs_fits : noUs.Fits := ⟨(by show (0 : Nat) < 4294967296; decide), noStg_fits, by show (0 : Nat) < 18446744073709551616; decide, fun x hx => (by cases hx)⟩
def cdUs : Cd Us := ⟨Us.T, Us.O, rdUs, fun x => (cdNum 4294967295).cost (x.id) + (cdStg.cost (x.settings) + ((cdNum 18446744073709551615).cost (x.version) + ((cdRow cdEn 64).cost (x.events)))), cod_us.bad⟩
set_option maxRecDepth 100000 in
set_option maxHeartbeats 4000000 in
theorem puser_any (P : Nat) (x : Us) (p : UsP) (hx : x.Fits) (m : Md) (b : Bool) (F : Nat → Prop) (w : World) (h : PsAt w P m b F) (hr : m.Room (cdUs.cost x)) (hz : m.Rd → x = noUs) (hm : Held F w (fun V => UsAt V x p)) :
  Calls Tryz.prog 92 #[.pointer (some ⟨P, 0, none⟩), .agg (uCells x p).toArray] w (Told (fun (y : Us) (q : UsP) => .agg (uCells y q).toArray) UsAt cdUs x P m b F w) := by
 show Calls Tryz.prog 92 #[.pointer (some ⟨P, 0, none⟩), .agg #[.int .u32 (x.id : Int), .int .i64 x.settings.base, .slice p.s.A1 x.settings.turns.length p.s.c1, .slice p.s.A2 x.settings.shifts.length p.s.c2, .slice p.s.A3 x.settings.off.length p.s.c3, .int .i64 x.settings.before, .int .i64 x.settings.after, .int .u64 (x.version : Int), .slice p.A1 x.events.length p.c1]] w _
 obtain ⟨W1, hW1⟩ : ∃ W1, ((w.alloc (.cells #[.int .u32 (x.id : Int), .int .i64 x.settings.base, .slice p.s.A1 x.settings.turns.length p.s.c1, .slice p.s.A2 x.settings.shifts.length p.s.c2, .slice p.s.A3 x.settings.off.length p.s.c3, .int .i64 x.settings.before, .int .i64 x.settings.after, .int .u64 (x.version : Int), .slice p.A1 x.events.length p.c1] 105)).alloc (.cells #[.int .u32 0, .int .i64 0, .slice none 0 0, .slice none 0 0, .slice none 0 0, .int .i64 0, .int .i64 0, .int .u64 0, .slice none 0 0] 105)) = W1 := ⟨_, rfl⟩
 have HB : Hid (Below w.heap.size w W1) := by show Below _ _ _; rw [← hW1]; exact ((Below.refl _ _).alloc (Nat.le_refl _) _).alloc (by simp) _
 have hb1 : W1.heap[w.heap.size]? = some (.cells #[.int .u32 (x.id : Int), .int .i64 x.settings.base, .slice p.s.A1 x.settings.turns.length p.s.c1, .slice p.s.A2 x.settings.shifts.length p.s.c2, .slice p.s.A3 x.settings.off.length p.s.c3, .int .i64 x.settings.before, .int .i64 x.settings.after, .int .u64 (x.version : Int), .slice p.A1 x.events.length p.c1] 105 (0, 0)) := by rw [← hW1, heap_alloc_old _ _ (by simp), heap_alloc_new]
 have hb2 : W1.heap[w.heap.size + 1]? = some (.cells #[.int .u32 0, .int .i64 0, .slice none 0 0, .slice none 0 0, .slice none 0 0, .int .i64 0, .int .i64 0, .int .u64 0, .slice none 0 0] 105 (0, 0)) := by rw [← hW1]; exact heap_alloc_new2 _ _ _
 have n1 : ¬ F (w.heap.size) := h.not (by omega)
 have n2 : ¬ F (w.heap.size + 1) := h.not (by omega)
 have HN2 : Hid (¬ F (w.heap.size + 1) ∧ w.heap.size + 1 < W1.heap.size) := ⟨n2, heap_lt hb2⟩
 have E1 := Lib.hid hW1
 obtain ⟨XB, hXB⟩ : ∃ X : World → Prop, X = fun V => V.heap[w.heap.size]? = some (.cells #[.int .u32 (x.id : Int), .int .i64 x.settings.base, .slice p.s.A1 x.settings.turns.length p.s.c1, .slice p.s.A2 x.settings.shifts.length p.s.c2, .slice p.s.A3 x.settings.off.length p.s.c3, .int .i64 x.settings.before, .int .i64 x.settings.after, .int .u64 (x.version : Int), .slice p.A1 x.events.length p.c1] 105 (0, 0)) := ⟨_, rfl⟩
 obtain ⟨X, hX⟩ : ∃ X : World → Prop, X = fun V => (XB V ∧ V.heap[w.heap.size + 1]? = some (.cells #[.int .u32 0, .int .i64 0, .slice none 0 0, .slice none 0 0, .slice none 0 0, .int .i64 0, .int .i64 0, .int .u64 0, .slice none 0 0] 105 (0, 0))) ∧ UsAt V x p := ⟨_, rfl⟩
 have HZL : Hid (∀ V, XB V → V.cell? ⟨w.heap.size, 0, none⟩ = some (.int .u32 (x.id : Int)) ∧ V.cell? ⟨w.heap.size, 1, none⟩ = some (.int .i64 x.settings.base) ∧ V.cell? ⟨w.heap.size, 2, none⟩ = some (.slice p.s.A1 x.settings.turns.length p.s.c1) ∧ V.cell? ⟨w.heap.size, 3, none⟩ = some (.slice p.s.A2 x.settings.shifts.length p.s.c2) ∧ V.cell? ⟨w.heap.size, 4, none⟩ = some (.slice p.s.A3 x.settings.off.length p.s.c3) ∧ V.cell? ⟨w.heap.size, 5, none⟩ = some (.int .i64 x.settings.before) ∧ V.cell? ⟨w.heap.size, 6, none⟩ = some (.int .i64 x.settings.after) ∧ V.cell? ⟨w.heap.size, 7, none⟩ = some (.int .u64 (x.version : Int)) ∧ V.cell? ⟨w.heap.size, 8, none⟩ = some (.slice p.A1 x.events.length p.c1)) := fun V hV => by
  rw [hXB] at hV
  exact ⟨blk_cell hV rfl, blk_cell hV rfl, blk_cell hV rfl, blk_cell hV rfl, blk_cell hV rfl, blk_cell hV rfl, blk_cell hV rfl, blk_cell hV rfl, blk_cell hV rfl⟩
 have HXB : Hid (∀ V, X V → XB V) := fun V hV => by rw [hX] at hV; exact hV.1.1
 have HXR : Hid (∀ V, X V → V.heap[w.heap.size + 1]? = some (.cells #[.int .u32 0, .int .i64 0, .slice none 0 0, .slice none 0 0, .slice none 0 0, .int .i64 0, .int .i64 0, .int .u64 0, .slice none 0 0] 105 (0, 0))) := fun V hV => by rw [hX] at hV; exact hV.1.2
 have HXM : Hid (∀ V, X V → UsAt V x p) := fun V hV => by rw [hX] at hV; exact hV.2
 have HXS : Hid (∀ V vs, X V → XB (V.setCells (w.heap.size + 1) 0 vs)) := fun V vs hV => by
  rw [hX] at hV
  have hV := hV.1.1
  rw [hXB] at hV ⊢
  show (V.setCells (w.heap.size + 1) 0 vs).heap[w.heap.size]? = _
  rw [setCells_ne (by omega)]; exact hV
 have HS0 : Hid (St W1 W1.drew P m b F F X (fun _ => True)) := (St.start (h.below HB.out) (by rw [hX, hXB]; exact ((Held.blk hb1 n1).and (Held.blk hb2 n2)).and (hm.below HB.out))).drew
 have HR0 : Hid (m.Room ((cdNum 4294967295).cost (x.id) + (cdStg.cost (x.settings) + ((cdNum 18446744073709551615).cost (x.version) + ((cdRow cdEn 64).cost (x.events) + 0))))) := hr.mono (by exact Nat.le_refl _)
 have HM0 : Hid (m.Rd → m.Rd) := id
 have HZ := Lib.hid hz
 have HC0 := Lib.hid (fun mx bx Fx wx h hr => pid_any P (x.id) (hx.id) mx bx Fx wx h hr)
 have HC1 := Lib.hid (fun mx bx Fx wx h hr hz hm => psettings_any P (x.settings) (p.s) (hx.settings) mx bx Fx wx h hr hz hm)
 have HC2 := Lib.hid (fun mx bx Fx wx h hr => panyNumber_any P (x.version) (hx.version) mx bx Fx wx h hr)
 have HC3 := Lib.hid (fun mx bx Fx wx h hr hz hm => prowEn_any P (x.events) p.A1 p.c1 p.ps 64 (by decide) (hx.events) mx bx Fx wx h hr hz hm)
 clear hW1 hX hXB hb1 hb2 n1 n2 h hr hz hm
 go_enter Tryz.func92, Tryz.ntmps92
 go_upto_region 1 with fail
 rw [E1.out]
 refine wp_region_lexO XB (fun k => [3, 7, 11, 17, 19].contains k) [0, 1, 2, 4, 5, 6, 8, 9, 10, 12, 13, 14, 15, 16, 3, 7, 11, 17, 18, 19] rfl (by kernel_rfl) (by kernel_rfl) (by kernel_rfl) (fun _ _ _ _ _ h => h) (HXB.out _ HS0.out.now) ?_
 generalize World.drew W1 = w0 at *
 refine wpHo_name fun OPS hOPS => ?_
 generalize (Value.agg #[.int .u32 (x.id : Int), .int .i64 x.settings.base, .slice p.s.A1 x.settings.turns.length p.s.c1, .slice p.s.A2 x.settings.shifts.length p.s.c2, .slice p.s.A3 x.settings.off.length p.s.c3, .int .i64 x.settings.before, .int .i64 x.settings.after, .int .u64 (x.version : Int), .slice p.A1 x.events.length p.c1]) = va
 have hk0 := congrArg (fun x => x[0]?) hOPS
 simp only [List.getElem?_toArray, List.getElem?_cons_zero] at hk0
 have hk1 := congrArg (fun x => x[1]?) hOPS
 simp only [List.getElem?_toArray, List.getElem?_cons_zero, List.getElem?_cons_succ] at hk1
 have hk2 := congrArg (fun x => x[2]?) hOPS
 simp only [List.getElem?_toArray, List.getElem?_cons_zero, List.getElem?_cons_succ] at hk2
 have hk3 := congrArg (fun x => x[3]?) hOPS
 simp only [List.getElem?_toArray, List.getElem?_cons_zero, List.getElem?_cons_succ] at hk3
 have hk4 := congrArg (fun x => x[4]?) hOPS
 simp only [List.getElem?_toArray, List.getElem?_cons_zero, List.getElem?_cons_succ] at hk4
 have hk5 := congrArg (fun x => x[5]?) hOPS
 simp only [List.getElem?_toArray, List.getElem?_cons_zero, List.getElem?_cons_succ] at hk5
 have hk6 := congrArg (fun x => x[6]?) hOPS
 simp only [List.getElem?_toArray, List.getElem?_cons_zero, List.getElem?_cons_succ] at hk6
 have hk7 := congrArg (fun x => x[7]?) hOPS
 simp only [List.getElem?_toArray, List.getElem?_cons_zero, List.getElem?_cons_succ] at hk7
 have hk8 := congrArg (fun x => x[8]?) hOPS
 simp only [List.getElem?_toArray, List.getElem?_cons_zero, List.getElem?_cons_succ] at hk8
 have hk9 := congrArg (fun x => x[9]?) hOPS
 simp only [List.getElem?_toArray, List.getElem?_cons_zero, List.getElem?_cons_succ] at hk9
 have hk10 := congrArg (fun x => x[10]?) hOPS
 simp only [List.getElem?_toArray, List.getElem?_cons_zero, List.getElem?_cons_succ] at hk10
 have hk11 := congrArg (fun x => x[11]?) hOPS
 simp only [List.getElem?_toArray, List.getElem?_cons_zero, List.getElem?_cons_succ] at hk11
 have hk12 := congrArg (fun x => x[12]?) hOPS
 simp only [List.getElem?_toArray, List.getElem?_cons_zero, List.getElem?_cons_succ] at hk12
 have hk13 := congrArg (fun x => x[13]?) hOPS
 simp only [List.getElem?_toArray, List.getElem?_cons_zero, List.getElem?_cons_succ] at hk13
 have hk14 := congrArg (fun x => x[14]?) hOPS
 simp only [List.getElem?_toArray, List.getElem?_cons_zero, List.getElem?_cons_succ] at hk14
 have hk15 := congrArg (fun x => x[15]?) hOPS
 simp only [List.getElem?_toArray, List.getElem?_cons_zero, List.getElem?_cons_succ] at hk15
 have hk16 := congrArg (fun x => x[16]?) hOPS
 simp only [List.getElem?_toArray, List.getElem?_cons_zero, List.getElem?_cons_succ] at hk16
 have hk17 := congrArg (fun x => x[17]?) hOPS
 simp only [List.getElem?_toArray, List.getElem?_cons_zero, List.getElem?_cons_succ] at hk17
 have hk18 := congrArg (fun x => x[18]?) hOPS
 simp only [List.getElem?_toArray, List.getElem?_cons_zero, List.getElem?_cons_succ] at hk18
 have hk19 := congrArg (fun x => x[19]?) hOPS
 simp only [List.getElem?_toArray, List.getElem?_cons_zero, List.getElem?_cons_succ] at hk19
 clear hOPS
 refine wpHo_yes (v := ?_) hk0 rfl rfl (fun w' hS => ?_) ?_; rotate_left; (go_simp; with_reducible rfl); (try simp only [Act.put, List.setIfInBounds_toArray, List.set_cons_zero, List.set_cons_succ])
 refine wpHo_yes (v := ?_) hk1 rfl rfl (fun w' hS => ?_) ?_; rotate_left; (go_simp; with_reducible rfl); (try simp only [Act.put, List.setIfInBounds_toArray, List.set_cons_zero, List.set_cons_succ])
 refine wpHo_yes (v := ?_) hk2 rfl rfl (fun w' hS => ?_) ?_; rotate_left; (obtain ⟨f0, f1, f2, f3, f4, f5, f6, f7, f8⟩ := HZL.out w' hS; go_simp; with_reducible rfl); (try simp only [Act.put, List.setIfInBounds_toArray, List.set_cons_zero, List.set_cons_succ])
 refine wpHo_yes (v := ?_) hk4 rfl rfl (fun w' hS => ?_) ?_; rotate_left; (go_simp; with_reducible rfl); (try simp only [Act.put, List.setIfInBounds_toArray, List.set_cons_zero, List.set_cons_succ])
 refine wpHo_yes (v := ?_) hk5 rfl rfl (fun w' hS => ?_) ?_; rotate_left; (go_simp; with_reducible rfl); (try simp only [Act.put, List.setIfInBounds_toArray, List.set_cons_zero, List.set_cons_succ])
 refine wpHo_yes (v := ?_) hk6 rfl rfl (fun w' hS => ?_) ?_; rotate_left; (obtain ⟨f0, f1, f2, f3, f4, f5, f6, f7, f8⟩ := HZL.out w' hS; go_simp; with_reducible rfl); (try simp only [Act.put, List.setIfInBounds_toArray, List.set_cons_zero, List.set_cons_succ])
 refine wpHo_yes (v := ?_) hk8 rfl rfl (fun w' hS => ?_) ?_; rotate_left; (go_simp; with_reducible rfl); (try simp only [Act.put, List.setIfInBounds_toArray, List.set_cons_zero, List.set_cons_succ])
 refine wpHo_yes (v := ?_) hk9 rfl rfl (fun w' hS => ?_) ?_; rotate_left; (go_simp; with_reducible rfl); (try simp only [Act.put, List.setIfInBounds_toArray, List.set_cons_zero, List.set_cons_succ])
 refine wpHo_yes (v := ?_) hk10 rfl rfl (fun w' hS => ?_) ?_; rotate_left; (obtain ⟨f0, f1, f2, f3, f4, f5, f6, f7, f8⟩ := HZL.out w' hS; go_simp; with_reducible rfl); (try simp only [Act.put, List.setIfInBounds_toArray, List.set_cons_zero, List.set_cons_succ])
 refine wpHo_yes (v := ?_) hk12 rfl rfl (fun w' hS => ?_) ?_; rotate_left; (go_simp; with_reducible rfl); (try simp only [Act.put, List.setIfInBounds_toArray, List.set_cons_zero, List.set_cons_succ])
 refine wpHo_yes (v := ?_) hk13 rfl rfl (fun w' hS => ?_) ?_; rotate_left; (go_simp; with_reducible rfl); (try simp only [Act.put, List.setIfInBounds_toArray, List.set_cons_zero, List.set_cons_succ])
 refine wpHo_yes (v := ?_) hk14 rfl rfl (fun w' hS => ?_) ?_; rotate_left; (obtain ⟨f0, f1, f2, f3, f4, f5, f6, f7, f8⟩ := HZL.out w' hS; go_simp; with_reducible rfl); (try simp only [Act.put, List.setIfInBounds_toArray, List.set_cons_zero, List.set_cons_succ])
 refine wpHo_yes (v := ?_) hk15 rfl rfl (fun w' hS => ?_) ?_; rotate_left; (go_simp; with_reducible rfl); (try simp only [Act.put, List.setIfInBounds_toArray, List.set_cons_zero, List.set_cons_succ])
 refine wpHo_yes (v := ?_) hk16 rfl rfl (fun w' hS => ?_) ?_; rotate_left; (go_simp; with_reducible rfl); (try simp only [Act.put, List.setIfInBounds_toArray, List.set_cons_zero, List.set_cons_succ])
 refine wpHo_callYes hk3 rfl rfl (fun K hK => ?_)
 go_simp
 go_at_call 103
 refine (HC0.out _ _ _ _ HS0.out.to.at_ (HR0.out.mono (Nat.le_add_right _ _))).mono ?_
 rintro e w1 ⟨y0, m0, b0, F0, rfl, hT, hD, hy⟩
 have HD0 := Lib.hid hD
 have HR1 := Lib.hid (hD.room HR0.out)
 have HM1 : Hid (m0.Rd → m.Rd) := fun hm => HM0.out (hD.mode.1 hm)
 have HS1 := Lib.hid (HS0.out.tel hT)
 clear hT hD hy HS0 HR0 HC0 HM0
 refine hK _ _ (HXB.out _ HS1.out.now) (fun _ => ?_)
 skip
 clear hK K
 refine wpHo_callYes hk7 rfl rfl (fun K hK => ?_)
 go_simp
 go_at_call 104
 refine (HC1.out _ _ _ _ HS1.out.to.at_ (HR1.out.mono (Nat.le_add_right _ _)) (fun hm => by rw [HZ.out (HM1.out hm)] <;> rfl) (HS1.out.x.imp fun V hV => (HXM.out V hV).s)).mono ?_
 rintro e w2 ⟨y1, q1, m1, b1, F1, rfl, hT, hO, hD⟩
 have HD1 := Lib.hid hD
 have HR2 := Lib.hid (hD.room HR1.out)
 have HM2 : Hid (m1.Rd → m.Rd) := fun hm => HM1.out (hD.mode.1 hm)
 have HS2 := Lib.hid (HS1.out.told hT hO)
 clear hT hD hO HS1 HR1 HC1 HM1
 refine hK _ _ (HXB.out _ HS2.out.now) (fun _ => ?_)
 (try simp only [qCells, sCells, pCells, eCells, List.cons_append, List.nil_append])
 clear hK K
 refine wpHo_callYes hk11 rfl rfl (fun K hK => ?_)
 go_simp
 go_at_call 61
 refine (HC2.out _ _ _ _ HS2.out.to.at_ (HR2.out.mono (Nat.le_add_right _ _))).mono ?_
 rintro e w3 ⟨y2, m2, b2, F2, rfl, hT, hD, hy⟩
 have HD2 := Lib.hid hD
 have HR3 := Lib.hid (hD.room HR2.out)
 have HM3 : Hid (m2.Rd → m.Rd) := fun hm => HM2.out (hD.mode.1 hm)
 have HS3 := Lib.hid (HS2.out.tel hT)
 clear hT hD hy HS2 HR2 HC2 HM2
 refine hK _ _ (HXB.out _ HS3.out.now) (fun _ => ?_)
 skip
 clear hK K
 refine wpHo_callYes hk17 rfl rfl (fun K hK => ?_)
 go_simp
 go_at_call 131
 refine (HC3.out _ _ _ _ HS3.out.to.at_ (HR3.out.mono (Nat.le_add_right _ _)) (fun hm => by rw [HZ.out (HM3.out hm)] <;> rfl) (HS3.out.x.imp fun V hV => (HXM.out V hV).e)).mono ?_
 rintro e w4 ⟨y3, q3, m3, b3, F3, rfl, hT, hO, hD⟩
 have HD3 := Lib.hid hD
 have HR4 := Lib.hid (hD.room HR3.out)
 have HM4 : Hid (m3.Rd → m.Rd) := fun hm => HM3.out (hD.mode.1 hm)
 have HS4 := Lib.hid (HS3.out.told hT hO)
 clear hT hD hO HS3 HR3 HC3 HM3
 refine hK _ _ (HXB.out _ HS4.out.now) (fun _ => ?_)
 skip
 clear hK K
 refine wpHo_yes (v := ?_) hk18 rfl rfl (fun w' hS => ?_) ?_; rotate_left; (go_simp; with_reducible rfl); (try simp only [Act.put, List.setIfInBounds_toArray, List.set_cons_zero, List.set_cons_succ])
 have HRB := Lib.hid (HXR.out _ HS4.out.now)
 refine wpHo_callYes hk19 rfl rfl (fun K hK => ?_)
 refine wp_store_mid 105 (.tmp 4) (.tmp 23) rfl (w.heap.size + 1) 0 #[.int .u32 (y0 : Int), .int .i64 y1.base, .slice q1.A1 y1.turns.length q1.c1, .slice q1.A2 y1.shifts.length q1.c2, .slice q1.A3 y1.off.length q1.c3, .int .i64 y1.before, .int .i64 y1.after, .int .u64 (y2 : Int), .slice q3.1 y3.length q3.2.1] rfl rfl (blk_there HRB.out (by simp)) (by kernel_rfl) (by simp [Value.oneCell']) ?_
 refine hK _ _ (HXS.out _ _ HS4.out.now) (fun _ => ?_)
 simp only [Act.put]
 clear hK K
 have hset := setCells_blk (b := w.heap.size + 1) [.int .u32 (y0 : Int), .int .i64 y1.base, .slice q1.A1 y1.turns.length q1.c1, .slice q1.A2 y1.shifts.length q1.c2, .slice q1.A3 y1.off.length q1.c3, .int .i64 y1.before, .int .i64 y1.after, .int .u64 (y2 : Int), .slice q3.1 y3.length q3.2.1] 0 _ _ HRB.out
 have HTO := Lib.hid (HS4.out.to.store' HB.out (R := w.heap.size + 1) (by omega) (HS4.out.to.not HN2.out.1 HN2.out.2) 0 [.int .u32 (y0 : Int), .int .i64 y1.base, .slice q1.A1 y1.turns.length q1.c1, .slice q1.A2 y1.shifts.length q1.c2, .slice q1.A3 y1.off.length q1.c3, .int .i64 y1.before, .int .i64 y1.after, .int .u64 (y2 : Int), .slice q3.1 y3.length q3.2.1])
 have HOW := Lib.hid ((HS4.out.y.store (R := w.heap.size + 1) HN2.out.2 0 [.int .u32 (y0 : Int), .int .i64 y1.base, .slice q1.A1 y1.turns.length q1.c1, .slice q1.A2 y1.shifts.length q1.c2, .slice q1.A3 y1.off.length q1.c3, .int .i64 y1.before, .int .i64 y1.after, .int .u64 (y2 : Int), .slice q3.1 y3.length q3.2.1]).mono HB.out.size)
 obtain ⟨w', hw'⟩ : ∃ w', w4.setCells (w.heap.size + 1) 0 [.int .u32 (y0 : Int), .int .i64 y1.base, .slice q1.A1 y1.turns.length q1.c1, .slice q1.A2 y1.shifts.length q1.c2, .slice q1.A3 y1.off.length q1.c3, .int .i64 y1.before, .int .i64 y1.after, .int .u64 (y2 : Int), .slice q3.1 y3.length q3.2.1] = w' := ⟨_, rfl⟩
 have hw'2 : w4.setCells (w.heap.size + 1) 0 #[.int .u32 (y0 : Int), .int .i64 y1.base, .slice q1.A1 y1.turns.length q1.c1, .slice q1.A2 y1.shifts.length q1.c2, .slice q1.A3 y1.off.length q1.c3, .int .i64 y1.before, .int .i64 y1.after, .int .u64 (y2 : Int), .slice q3.1 y3.length q3.2.1].toList = w' := hw'
 rw [hw'] at hset HTO HOW
 rw [hw'2]
 clear hw' hw'2
 rw [setAll_all (by rfl)] at hset
 have HSE := Lib.hid hset
 clear hset
 show Exit.then _ _ _ _ _
 go_wp2_with fail
 refine bodyPost_ret (results_cell_row rfl _ _ (w.heap.size + 1) 105 #[.int .u32 (y0 : Int), .int .i64 y1.base, .slice q1.A1 y1.turns.length q1.c1, .slice q1.A2 y1.shifts.length q1.c2, .slice q1.A3 y1.off.length q1.c3, .int .i64 y1.before, .int .i64 y1.after, .int .u64 (y2 : Int), .slice q3.1 y3.length q3.2.1] (0, 0) _ rfl HSE.out Tryz.underlying105 rfl (by kernel_rfl)) rfl ?_
 exact ⟨⟨y0, y1, y2, y3⟩, ⟨q1, q3.1, q3.2.1, q3.2.2⟩, _, _, _, rfl, HTO.out, HOW.out.imp (fun V hV => ⟨hV.1.2, hV.2⟩), (HD0.out.pair (HD1.out.pair (HD2.out.pair HD3.out))).conv Us.of (Nat.le_refl _) (fun o => ⟨⟨u32_le.1 o.1, o.2.1, u64_le.1 o.2.2.1, o.2.2.2⟩, rfl⟩) (fun _ => rfl) rfl (fun _ => rfl)⟩
end Go.Proofs.YtdhinjbkfffpeaaGreat
end
section
namespace Go.Proofs.YtdhinjbkfffpeaaGreat
open Go.ChangeShapes Go.WideShapes Go.ChangeAt Go.RowKit Go.Joins Sp Fr Pk
theorem noPl_fits : noPl.Fits := by
 have h : I64 0 := ⟨by decide, by decide⟩
 have u : U32 0 := by show (0 : Nat) < 4294967296; decide
 exact ⟨u, u, noQy_fits, fun x h => (by cases h), fun x h => (by cases h), h, h, h⟩
set_option maxRecDepth 100000 in
set_option maxHeartbeats 4000000 in
theorem Us_info (x : Us) (p : UsP) : (Tryz.prog.info? 105).map (·.size) = some (usC (x, p)).toArray.size := by kernel_rfl
theorem Us_info2 (x : Us) (p : UsP) : (Tryz.prog.info? 105).map (·.size) = some (usC (x, p)).length := by kernel_rfl
theorem Us_one (x : Us) (p : UsP) : (usC (x, p)).toArray.all (·.oneCell') = true := by simp [usC, uCells, sCells, Value.oneCell']
set_option maxRecDepth 100000 in
set_option maxHeartbeats 4000000 in
theorem prowUs_any (P : Nat) (l : List (Us)) (A : Option Addr) (d : Nat) (ps : List UsP) (most : Nat) (hmost : most ≤ 1000000) (hfit : ∀ x ∈ l, x.Fits) (m : Md) (b : Bool) (F : Nat → Prop) (w : World) (h : PsAt w P m b F) (hr : m.Room ((cdRow cdUs most).cost l)) (hz : m.Rd → l = [])
  (hx : Held F w (fun V => RowsAt usC UsAt V A d l ps)) :
  Calls Tryz.prog 91 #[.pointer (some ⟨P, 0, none⟩), .slice A l.length d, .int .i64 (most : Int), .func (.func 92) #[.pointer (some ⟨P, 0, none⟩)] #[]] w
   (Told (fun (y : List (Us)) (q : Option Addr × Nat × List UsP) => .slice q.1 y.length q.2.1) (fun V y q => RowsAt usC UsAt V q.1 q.2.1 y q.2.2) (cdRow cdUs most) l P m b F w) := by
 obtain ⟨i0, hi0, hq0, hq1, hq2⟩ := info_parts (show (Tryz.prog.info? 105).map (fun i => (i.zero, i.size, i.bytes)) = some (some (.agg #[.int .u32 0, .int .i64 0, .slice none 0 0, .slice none 0 0, .slice none 0 0, .int .i64 0, .int .i64 0, .int .u64 0, .slice none 0 0]), 9, 136) by kernel_rfl)
 have hlen := len_le hx.now.s
 have hr : m.Room (10 + ((l.map (Cd.cost cdUs)).sum + 0)) := hr
 have HN := Lib.hid (pnumberIB_any P (l.length : Int) most (by omega) (⟨by omega, by omega⟩ : I64 (l.length : Int)) m b F w h (hr.mono (by omega)))
 obtain ⟨x2, y2, hPc⟩ := h.cells
 have c2 := blk_cell (i := 2) hPc rfl
 have f2 := blk_free hPc 2
 have HPW := Lib.hid (h.wrong true)
 have HX := Lib.hid hx
 have HZ := Lib.hid hz
 have HR := Lib.hid hr
 have HFit := Lib.hid hfit
 clear hx hz hr h hPc hfit
 by_cases hml : l.length ≤ most
 ·have hmz : ¬ (most : Int) < l.length := by omega
  clear c2 f2
  go_enter Tryz.func91, Tryz.ntmps91
  go_wp2_with fail
  go_at_call 102
  refine HN.out.mono ?_
  rintro e w1 ⟨k, m1, b1, F1, rfl, hT, hD, hk1, hk2⟩
  obtain ⟨K, rfl⟩ : ∃ K : Nat, k = (K : Int) := by
   by_cases hm : m.Rd
   ·obtain ⟨r, rfl⟩ := Md.is_rd hm; exact ⟨k.toNat, by have := (hk2 r rfl).1; omega⟩
   ·obtain ⟨s, rfl⟩ := Md.not_rd hm; exact ⟨l.length, hk1 s rfl⟩
  have hKm : K ≤ most := by
   by_cases hm : m.Rd
   ·obtain ⟨r, rfl⟩ := Md.is_rd hm; have := (hk2 r rfl).2; omega
   ·obtain ⟨s, rfl⟩ := Md.not_rd hm; have := hk1 s rfl; omega
  have HKw : Hid (¬ m.Rd → K = l.length) := fun hm => by obtain ⟨s, rfl⟩ := Md.not_rd hm; have := hk1 s rfl; omega
  have HK1 := Lib.hid hk1
  have HT1 := Lib.hid hT
  have HD1 := Lib.hid hD
  have HR1 : Hid (m1.Room ((l.map (Cd.cost cdUs)).sum + 0)) := hD.room HR.out
  clear hT hD hk1 hk2 HN HPW
  go_wp2_with fail
  go_loopw [9, 24] (fun sg si wr => ∃ (i : Nat) (g : List (Us)) (gp : List UsP) (v : Value) (m2 : Md) (b2 : Bool) (F2 : Nat → Prop), v = sg ∧ si = .int .i64 (i : Int) ∧ i ≤ K ∧ g.length = i ∧ gp.length = g.length ∧ Hid (wr.ownsRow w.heap.size 105 9 v i (kv usC (g.zip gp))) ∧ Hid (∀ k, v.ownBlock = some k → ¬ F2 k) ∧ Hid (PsTo w wr P m2 b2 F F2) ∧ Hid (Dns cdUs l m1 b1 i g m2 b2) ∧ Hid (OwnK F2 (fun k => k < w.heap.size ∨ v.ownBlock = some k) wr (fun V => ∀ (j : Nat) x p, g[j]? = some x → gp[j]? = some p → UsAt V x p))) (fun _ si _ => K - (intOf si).toNat)
  case atStart => exact ⟨0, [], [], .slice none 0 0, m1, b1, F1, rfl, rfl, Nat.zero_le _, rfl, rfl, World.ownsRow_nil _ _ _ _, fun k hk => by simp [Value.ownBlock] at hk, HT1, Dns.start _ _ _ _, fun V _ j x p hx _ => by simp at hx⟩
  case round =>
   obtain ⟨i, g, gp, v, m2, b2, F2, rfl, rfl, hi, hg, hgp, HO, HNF, HT, HDs, HM⟩ := hrel
   have hT2 := HT.out
   by_cases hlt : i < K
   ·have hkz : (i : Int) < K := by omega
    have HIn : Hid (¬ m1.Rd → i < l.length) := fun hm => by have := HKw.out (fun q => hm (HD1.out.mode.2 q)); omega
    by_cases hil : i < l.length
    ·have hiz : (i : Int) < l.length := by omega
     obtain ⟨x, hxi⟩ : ∃ x, l[i]? = some x := ⟨_, List.getElem?_eq_getElem hil⟩
     have hfx := HFit.out x (List.mem_of_getElem? hxi)
     obtain ⟨px, b0, off, hpx, rfl, _, _, hcc⟩ := (HX.out.step hT2).now.at usC_len (by decide) hxi
     have HLD : Hid (∀ W2, Below wr.heap.size wr W2 → (Instr.loadAt 105 (.pointer (some ⟨b0, off + i * 9, none⟩))).run Tryz.prog W2 = .ok (.agg (usC (x, px)).toArray) W2) := fun W2 hW => run_loadAt_mid W2 b0 (off + i * 9) 105 (usC (x, px)) _ (fun j v hj => by rw [Nat.add_assoc]; exact hcc ⟨W2, hW⟩ j v hj) Tryz.underlying105 rfl (by kernel_rfl)
     have HCC := Lib.hid (fun W2 (hW : Below wr.heap.size wr W2) => puser_any P x px hfx m2 b2 F2 W2 (hT2.at_.below hW) (by have := HDs.out.room_at (z := x) HR1.out HIn.out; rw [hxi] at this; exact this) (fun hm => by have e := HZ.out (HD1.out.mode.1 (HDs.out.mode.1 hm)); rw [e] at hxi; cases hxi) (((HX.out.step hT2).below hW).imp fun V hV => hV.el i x px hxi hpx))
     clear hcc hT2
     go_wp2_with (first
      | (refine wpList_load (v := .agg (usC (x, px)).toArray) rfl rfl (HLD.out _ (by first | exact Below.refl _ _ | exact (Below.refl _ _).alloc (Nat.le_refl _) _)) ?_; simp only [Act.put])
      | (refine wpList_store_new (t := 105) (c' := (usC (x, px)).toArray) rfl rfl rfl rfl (Us_info _ _) rfl (Us_one _ _) ?_; simp only [Act.put])
      | (refine wpList_load (v := .agg (usC (x, px)).toArray) rfl rfl (load_blk (vs := usC (x, px)) (heap_alloc_new _ _) (fun j v hj => by simpa using hj) rfl (Us_info2 _ _)) ?_; simp only [Act.put]))
     go_at_call 92
     refine (HCC.out _ (by first | exact Below.refl _ _ | exact (Below.refl _ _).alloc (Nat.le_refl _) _)).mono ?_
     rintro e w3 ⟨y, q, m3, b3, F3, rfl, hT3, hO3, hD3⟩
     have hTf := hT3.from_ (w := wr) (by first | exact Below.refl _ _ | exact (Below.refl _ _).alloc (Nat.le_refl _) _)
     have HO3 := Lib.hid (own_off (own_off HO.out (Off.of_below (by first | exact Below.refl _ _ | exact (Below.refl _ _).alloc (Nat.le_refl _) _)) fun _ _ h => h) hT3.off HNF.out)
     have HT3 := Lib.hid (HT.out.trans hTf)
     have HDs3 := Lib.hid (HDs.out.step (z := noUs) (by rw [hxi]; exact hD3))
     have HNF3 := Lib.hid (fun k (hk : v.ownBlock = some k) => (⟨hTf.not (HNF.out k hk) (HO.out.lt k hk).2, (HO.out.lt k hk).1⟩ : ¬ F3 k ∧ w.heap.size ≤ k))
     have HM3 := Lib.hid (HM.out.told hTf (hO3.mono (by simp)) (fun j hj => hj.elim (fun e => Nat.lt_of_lt_of_le e HT.out.off.size) fun e => (HO.out.lt j e).2))
     have hle3 := HT3.out.off.size
     have hn3 : ∀ k, w3.heap.size ≤ k → ¬ F3 k := fun k hk => HT3.out.at_.not hk
     clear hT3 hD3 hTf hO3
     simp only [usC, uCells, sCells, List.cons_append, List.nil_append]
     go_wp2_with (at_builtin; refine wpList_append_lies _ rfl _ _ _ rfl w.heap.size 105 i0 (.agg #[.int .u32 0, .int .i64 0, .slice none 0 0, .slice none 0 0, .slice none 0 0, .int .i64 0, .int .i64 0, .int .u64 0, .slice none 0 0]) 9 136 Tryz.underlying69 hi0 hq0 hq1 hq2 rfl (by decide) v i _ rfl (HO3.out.alloc _) ⟨w3.heap.size, 0, none⟩ 1 1 [.int .u32 (y.id : Int), .int .i64 y.settings.base, .slice q.s.A1 y.settings.turns.length q.s.c1, .slice q.s.A2 y.settings.shifts.length q.s.c2, .slice q.s.A3 y.settings.off.length q.s.c3, .int .i64 y.settings.before, .int .i64 y.settings.after, .int .u64 (y.version : Int), .slice q.A1 y.events.length q.c1] rfl rfl (World.news_of_block (fr := (0, 0)) (heap_alloc_new w3 _)) (by simp [Value.oneCell']) (by decide) (by unfold maxLen; omega) (by omega) (by simp; omega) (w3.heap.size + 1) (by simp) ?_)
     intro gg cap2 w4 hown hgr hat hlt4
     have HO4 := Lib.hid hown
     have HT4 := Lib.hid (HT3.out.grown hgr HNF3.out)
     have HNF4 : Hid (∀ k, (Value.slice (some ⟨gg, 0, none⟩) (i + 1) cap2).ownBlock = some k → ¬ F3 k) := fun k hk => by
      obtain rfl : gg = k := by simpa [Value.ownBlock] using hk
      exact hat.elim (fun e => (HNF3.out gg e).1) fun e => hn3 gg (by omega)
     have HM4 := Lib.hid (HM3.out.grown hgr (gg := gg) (hat.imp id fun e => by omega) (x := .slice (some ⟨gg, 0, none⟩) (i + 1) cap2) (fun k hk => by simpa [Value.ownBlock, eq_comm] using hk) (by simp [Value.ownBlock]))
     clear hown hgr hat
     go_wp2_with fail
     go_roundw
     case rel =>
      refine ⟨i + 1, g ++ [y], gp ++ [q], _, m3, b3, F3, rfl, by go_num, by omega, by rw [List.length_append, hg]; rfl, by rw [List.length_append, List.length_append, hgp]; rfl, ?_, HNF4, HT4, HDs3, fun V hV => mem_snoc hgp (HM4.out V hV).1 (HM4.out V hV).2⟩
      show World.ownsRow _ _ _ _ _ _ _
      rw [kv_zip _ hgp]; exact HO4.out
     case measure => simp [intOf]; omega
    ·have hiz : ¬ (i : Int) < l.length := by omega
     have hxn : l[i]? = none := List.getElem?_eq_none (by omega)
     have HCC := Lib.hid (fun W2 (hW : Below wr.heap.size wr W2) => puser_any P noUs noUsP noUs_fits m2 b2 F2 W2 (hT2.at_.below hW) (by have := HDs.out.room_at (z := noUs) HR1.out HIn.out; rw [hxn] at this; exact this) (fun _ => rfl) (fun V _ => noUs_at V))
     clear hT2
     go_wp2_with fail
     go_at_call 92
     refine (HCC.out _ (by first | exact Below.refl _ _ | exact (Below.refl _ _).alloc (Nat.le_refl _) _)).mono ?_
     rintro e w3 ⟨y, q, m3, b3, F3, rfl, hT3, hO3, hD3⟩
     have hTf := hT3.from_ (w := wr) (by first | exact Below.refl _ _ | exact (Below.refl _ _).alloc (Nat.le_refl _) _)
     have HO3 := Lib.hid (own_off (own_off HO.out (Off.of_below (by first | exact Below.refl _ _ | exact (Below.refl _ _).alloc (Nat.le_refl _) _)) fun _ _ h => h) hT3.off HNF.out)
     have HT3 := Lib.hid (HT.out.trans hTf)
     have HDs3 := Lib.hid (HDs.out.step (z := noUs) (by rw [hxn]; exact hD3))
     have HNF3 := Lib.hid (fun k (hk : v.ownBlock = some k) => (⟨hTf.not (HNF.out k hk) (HO.out.lt k hk).2, (HO.out.lt k hk).1⟩ : ¬ F3 k ∧ w.heap.size ≤ k))
     have HM3 := Lib.hid (HM.out.told hTf (hO3.mono (by simp)) (fun j hj => hj.elim (fun e => Nat.lt_of_lt_of_le e HT.out.off.size) fun e => (HO.out.lt j e).2))
     have hle3 := HT3.out.off.size
     have hn3 : ∀ k, w3.heap.size ≤ k → ¬ F3 k := fun k hk => HT3.out.at_.not hk
     clear hT3 hD3 hTf hO3
     simp only [usC, uCells, sCells, List.cons_append, List.nil_append]
     go_wp2_with (at_builtin; refine wpList_append_lies _ rfl _ _ _ rfl w.heap.size 105 i0 (.agg #[.int .u32 0, .int .i64 0, .slice none 0 0, .slice none 0 0, .slice none 0 0, .int .i64 0, .int .i64 0, .int .u64 0, .slice none 0 0]) 9 136 Tryz.underlying69 hi0 hq0 hq1 hq2 rfl (by decide) v i _ rfl (HO3.out.alloc _) ⟨w3.heap.size, 0, none⟩ 1 1 [.int .u32 (y.id : Int), .int .i64 y.settings.base, .slice q.s.A1 y.settings.turns.length q.s.c1, .slice q.s.A2 y.settings.shifts.length q.s.c2, .slice q.s.A3 y.settings.off.length q.s.c3, .int .i64 y.settings.before, .int .i64 y.settings.after, .int .u64 (y.version : Int), .slice q.A1 y.events.length q.c1] rfl rfl (World.news_of_block (fr := (0, 0)) (heap_alloc_new w3 _)) (by simp [Value.oneCell']) (by decide) (by unfold maxLen; omega) (by omega) (by simp; omega) (w3.heap.size + 1) (by simp) ?_)
     intro gg cap2 w4 hown hgr hat hlt4
     have HO4 := Lib.hid hown
     have HT4 := Lib.hid (HT3.out.grown hgr HNF3.out)
     have HNF4 : Hid (∀ k, (Value.slice (some ⟨gg, 0, none⟩) (i + 1) cap2).ownBlock = some k → ¬ F3 k) := fun k hk => by
      obtain rfl : gg = k := by simpa [Value.ownBlock] using hk
      exact hat.elim (fun e => (HNF3.out gg e).1) fun e => hn3 gg (by omega)
     have HM4 := Lib.hid (HM3.out.grown hgr (gg := gg) (hat.imp id fun e => by omega) (x := .slice (some ⟨gg, 0, none⟩) (i + 1) cap2) (fun k hk => by simpa [Value.ownBlock, eq_comm] using hk) (by simp [Value.ownBlock]))
     clear hown hgr hat
     go_wp2_with fail
     go_roundw
     case rel =>
      refine ⟨i + 1, g ++ [y], gp ++ [q], _, m3, b3, F3, rfl, by go_num, by omega, by rw [List.length_append, hg]; rfl, by rw [List.length_append, List.length_append, hgp]; rfl, ?_, HNF4, HT4, HDs3, fun V hV => mem_snoc hgp (HM4.out V hV).1 (HM4.out V hV).2⟩
      show World.ownsRow _ _ _ _ _ _ _
      rw [kv_zip _ hgp]; exact HO4.out
     case measure => simp [intOf]; omega
   ·obtain rfl : K = i := by omega
    clear hT2
    go_wp2_with fail
    obtain ⟨Ar, cr, rfl, hsl⟩ := Sl.of_own HO.out
    go_ret
    refine ⟨g, (Ar, cr, gp), m2, b2, F2, by show Ending.returned (.slice Ar K cr) = .returned (.slice Ar g.length cr); rw [hg], HT.out, fun V hV => ⟨?_, hgp, HM.out V (hV.mono fun k _ hk => hk.imp id .inl)⟩, ?_⟩
    ·obtain ⟨Ar', cr', q1, q2⟩ := Sl.of_own (own_off HO.out hV fun k hk hq => hq.elim (HNF.out k hk) fun q => by have := (HO.out.lt k hk).1; omega)
     simp only [Value.slice.injEq] at q1
     obtain ⟨rfl, -, rfl⟩ := q1
     rw [hg]; exact q2
    ·have := HDs.out
     exact Dns.row HD1.out HK1.out this hml
 ·have hmz : (most : Int) < l.length := by omega
  clear HN
  go_enter Tryz.func91, Tryz.ntmps91
  go_wp2_with fail
  go_ret
  obtain ⟨s, rfl⟩ := Md.not_rd (m := m) (fun hm => by have := HZ.out hm; subst this; simp at hml)
  exact ⟨[], (none, 0, []), _, _, F, rfl, HPW.out, fun V _ => ⟨Sl.none_ _, rfl, fun j x p hx _ => by simp at hx⟩, Dn.many hml [] _ s rfl b⟩
set_option maxRecDepth 100000 in
set_option maxHeartbeats 4000000 in
theorem Pl_info (x : Pl) (p : PlP) : (Tryz.prog.info? 37).map (·.size) = some (plC (x, p)).toArray.size := by kernel_rfl
theorem Pl_info2 (x : Pl) (p : PlP) : (Tryz.prog.info? 37).map (·.size) = some (plC (x, p)).length := by kernel_rfl
theorem Pl_one (x : Pl) (p : PlP) : (plC (x, p)).toArray.all (·.oneCell') = true := by simp [plC, pCells, qCells, Value.oneCell']
set_option maxRecDepth 100000 in
set_option maxHeartbeats 4000000 in
theorem prowPl_any (P : Nat) (l : List (Pl)) (A : Option Addr) (d : Nat) (ps : List PlP) (most : Nat) (hmost : most ≤ 1000000) (hfit : ∀ x ∈ l, x.Fits) (m : Md) (b : Bool) (F : Nat → Prop) (w : World) (h : PsAt w P m b F) (hr : m.Room ((cdRow cdPl most).cost l)) (hz : m.Rd → l = [])
  (hx : Held F w (fun V => RowsAt plC PlAt V A d l ps)) :
  Calls Tryz.prog 93 #[.pointer (some ⟨P, 0, none⟩), .slice A l.length d, .int .i64 (most : Int), .func (.func 66) #[.pointer (some ⟨P, 0, none⟩)] #[]] w
   (Told (fun (y : List (Pl)) (q : Option Addr × Nat × List PlP) => .slice q.1 y.length q.2.1) (fun V y q => RowsAt plC PlAt V q.1 q.2.1 y q.2.2) (cdRow cdPl most) l P m b F w) := by
 obtain ⟨i0, hi0, hq0, hq1, hq2⟩ := info_parts (show (Tryz.prog.info? 37).map (fun i => (i.zero, i.size, i.bytes)) = some (some (.agg #[.int .u32 0, .int .u32 0, .int .i64 0, .int .i64 0, .int .i64 0, .int .i64 0, .slice none 0 0, .slice none 0 0, .int .i64 0, .slice none 0 0, .slice none 0 0, .slice none 0 0, .slice none 0 0, .int .i64 0, .int .i64 0, .int .i64 0]), 16, 216) by kernel_rfl)
 have hlen := len_le hx.now.s
 have hr : m.Room (10 + ((l.map (Cd.cost cdPl)).sum + 0)) := hr
 have HN := Lib.hid (pnumberIB_any P (l.length : Int) most (by omega) (⟨by omega, by omega⟩ : I64 (l.length : Int)) m b F w h (hr.mono (by omega)))
 obtain ⟨x2, y2, hPc⟩ := h.cells
 have c2 := blk_cell (i := 2) hPc rfl
 have f2 := blk_free hPc 2
 have HPW := Lib.hid (h.wrong true)
 have HX := Lib.hid hx
 have HZ := Lib.hid hz
 have HR := Lib.hid hr
 have HFit := Lib.hid hfit
 clear hx hz hr h hPc hfit
 by_cases hml : l.length ≤ most
 ·have hmz : ¬ (most : Int) < l.length := by omega
  clear c2 f2
  go_enter Tryz.func93, Tryz.ntmps93
  go_wp2_with fail
  go_at_call 102
  refine HN.out.mono ?_
  rintro e w1 ⟨k, m1, b1, F1, rfl, hT, hD, hk1, hk2⟩
  obtain ⟨K, rfl⟩ : ∃ K : Nat, k = (K : Int) := by
   by_cases hm : m.Rd
   ·obtain ⟨r, rfl⟩ := Md.is_rd hm; exact ⟨k.toNat, by have := (hk2 r rfl).1; omega⟩
   ·obtain ⟨s, rfl⟩ := Md.not_rd hm; exact ⟨l.length, hk1 s rfl⟩
  have hKm : K ≤ most := by
   by_cases hm : m.Rd
   ·obtain ⟨r, rfl⟩ := Md.is_rd hm; have := (hk2 r rfl).2; omega
   ·obtain ⟨s, rfl⟩ := Md.not_rd hm; have := hk1 s rfl; omega
  have HKw : Hid (¬ m.Rd → K = l.length) := fun hm => by obtain ⟨s, rfl⟩ := Md.not_rd hm; have := hk1 s rfl; omega
  have HK1 := Lib.hid hk1
  have HT1 := Lib.hid hT
  have HD1 := Lib.hid hD
  have HR1 : Hid (m1.Room ((l.map (Cd.cost cdPl)).sum + 0)) := hD.room HR.out
  clear hT hD hk1 hk2 HN HPW
  go_wp2_with fail
  go_loopw [9, 24] (fun sg si wr => ∃ (i : Nat) (g : List (Pl)) (gp : List PlP) (v : Value) (m2 : Md) (b2 : Bool) (F2 : Nat → Prop), v = sg ∧ si = .int .i64 (i : Int) ∧ i ≤ K ∧ g.length = i ∧ gp.length = g.length ∧ Hid (wr.ownsRow w.heap.size 37 16 v i (kv plC (g.zip gp))) ∧ Hid (∀ k, v.ownBlock = some k → ¬ F2 k) ∧ Hid (PsTo w wr P m2 b2 F F2) ∧ Hid (Dns cdPl l m1 b1 i g m2 b2) ∧ Hid (OwnK F2 (fun k => k < w.heap.size ∨ v.ownBlock = some k) wr (fun V => ∀ (j : Nat) x p, g[j]? = some x → gp[j]? = some p → PlAt V x p))) (fun _ si _ => K - (intOf si).toNat)
  case atStart => exact ⟨0, [], [], .slice none 0 0, m1, b1, F1, rfl, rfl, Nat.zero_le _, rfl, rfl, World.ownsRow_nil _ _ _ _, fun k hk => by simp [Value.ownBlock] at hk, HT1, Dns.start _ _ _ _, fun V _ j x p hx _ => by simp at hx⟩
  case round =>
   obtain ⟨i, g, gp, v, m2, b2, F2, rfl, rfl, hi, hg, hgp, HO, HNF, HT, HDs, HM⟩ := hrel
   have hT2 := HT.out
   by_cases hlt : i < K
   ·have hkz : (i : Int) < K := by omega
    have HIn : Hid (¬ m1.Rd → i < l.length) := fun hm => by have := HKw.out (fun q => hm (HD1.out.mode.2 q)); omega
    by_cases hil : i < l.length
    ·have hiz : (i : Int) < l.length := by omega
     obtain ⟨x, hxi⟩ : ∃ x, l[i]? = some x := ⟨_, List.getElem?_eq_getElem hil⟩
     have hfx := HFit.out x (List.mem_of_getElem? hxi)
     obtain ⟨px, b0, off, hpx, rfl, _, _, hcc⟩ := (HX.out.step hT2).now.at plC_len (by decide) hxi
     have HLD : Hid (∀ W2, Below wr.heap.size wr W2 → (Instr.loadAt 37 (.pointer (some ⟨b0, off + i * 16, none⟩))).run Tryz.prog W2 = .ok (.agg (plC (x, px)).toArray) W2) := fun W2 hW => run_loadAt_mid W2 b0 (off + i * 16) 37 (plC (x, px)) _ (fun j v hj => by rw [Nat.add_assoc]; exact hcc ⟨W2, hW⟩ j v hj) Tryz.underlying37 rfl (by kernel_rfl)
     have HCC := Lib.hid (fun W2 (hW : Below wr.heap.size wr W2) => ppoll_any P x px hfx m2 b2 F2 W2 (hT2.at_.below hW) (by have := HDs.out.room_at (z := x) HR1.out HIn.out; rw [hxi] at this; exact this) (fun hm => by have e := HZ.out (HD1.out.mode.1 (HDs.out.mode.1 hm)); rw [e] at hxi; cases hxi) (((HX.out.step hT2).below hW).imp fun V hV => hV.el i x px hxi hpx))
     clear hcc hT2
     go_wp2_with (first
      | (refine wpList_load (v := .agg (plC (x, px)).toArray) rfl rfl (HLD.out _ (by first | exact Below.refl _ _ | exact (Below.refl _ _).alloc (Nat.le_refl _) _)) ?_; simp only [Act.put])
      | (refine wpList_store_new (t := 37) (c' := (plC (x, px)).toArray) rfl rfl rfl rfl (Pl_info _ _) rfl (Pl_one _ _) ?_; simp only [Act.put])
      | (refine wpList_load (v := .agg (plC (x, px)).toArray) rfl rfl (load_blk (vs := plC (x, px)) (heap_alloc_new _ _) (fun j v hj => by simpa using hj) rfl (Pl_info2 _ _)) ?_; simp only [Act.put]))
     go_at_call 66
     refine (HCC.out _ (by first | exact Below.refl _ _ | exact (Below.refl _ _).alloc (Nat.le_refl _) _)).mono ?_
     rintro e w3 ⟨y, q, m3, b3, F3, rfl, hT3, hO3, hD3⟩
     have hTf := hT3.from_ (w := wr) (by first | exact Below.refl _ _ | exact (Below.refl _ _).alloc (Nat.le_refl _) _)
     have HO3 := Lib.hid (own_off (own_off HO.out (Off.of_below (by first | exact Below.refl _ _ | exact (Below.refl _ _).alloc (Nat.le_refl _) _)) fun _ _ h => h) hT3.off HNF.out)
     have HT3 := Lib.hid (HT.out.trans hTf)
     have HDs3 := Lib.hid (HDs.out.step (z := noPl) (by rw [hxi]; exact hD3))
     have HNF3 := Lib.hid (fun k (hk : v.ownBlock = some k) => (⟨hTf.not (HNF.out k hk) (HO.out.lt k hk).2, (HO.out.lt k hk).1⟩ : ¬ F3 k ∧ w.heap.size ≤ k))
     have HM3 := Lib.hid (HM.out.told hTf (hO3.mono (by simp)) (fun j hj => hj.elim (fun e => Nat.lt_of_lt_of_le e HT.out.off.size) fun e => (HO.out.lt j e).2))
     have hle3 := HT3.out.off.size
     have hn3 : ∀ k, w3.heap.size ≤ k → ¬ F3 k := fun k hk => HT3.out.at_.not hk
     clear hT3 hD3 hTf hO3
     simp only [plC, pCells, qCells, List.cons_append, List.nil_append]
     go_wp2_with (at_builtin; refine wpList_append_lies _ rfl _ _ _ rfl w.heap.size 37 i0 (.agg #[.int .u32 0, .int .u32 0, .int .i64 0, .int .i64 0, .int .i64 0, .int .i64 0, .slice none 0 0, .slice none 0 0, .int .i64 0, .slice none 0 0, .slice none 0 0, .slice none 0 0, .slice none 0 0, .int .i64 0, .int .i64 0, .int .i64 0]) 16 216 Tryz.underlying70 hi0 hq0 hq1 hq2 rfl (by decide) v i _ rfl (HO3.out.alloc _) ⟨w3.heap.size, 0, none⟩ 1 1 [.int .u32 (y.id : Int), .int .u32 (y.owner : Int), .int .i64 y.query.win.1, .int .i64 y.query.win.2, .int .i64 y.query.long, .int .i64 y.query.grid, .slice q.q.A1 y.query.must.length q.q.c1, .slice q.q.A2 y.query.may.length q.q.c2, .int .i64 y.query.seats, .slice q.q.A3 y.query.apart.length q.q.c3, .slice q.q.A4 y.query.prefer.length q.q.c4, .slice q.A1 y.slots.length q.c1, .slice q.A2 y.votes.length q.c2, .int .i64 y.until_, .int .i64 y.state, .int .i64 y.winner] rfl rfl (World.news_of_block (fr := (0, 0)) (heap_alloc_new w3 _)) (by simp [Value.oneCell']) (by decide) (by unfold maxLen; omega) (by omega) (by simp; omega) (w3.heap.size + 1) (by simp) ?_)
     intro gg cap2 w4 hown hgr hat hlt4
     have HO4 := Lib.hid hown
     have HT4 := Lib.hid (HT3.out.grown hgr HNF3.out)
     have HNF4 : Hid (∀ k, (Value.slice (some ⟨gg, 0, none⟩) (i + 1) cap2).ownBlock = some k → ¬ F3 k) := fun k hk => by
      obtain rfl : gg = k := by simpa [Value.ownBlock] using hk
      exact hat.elim (fun e => (HNF3.out gg e).1) fun e => hn3 gg (by omega)
     have HM4 := Lib.hid (HM3.out.grown hgr (gg := gg) (hat.imp id fun e => by omega) (x := .slice (some ⟨gg, 0, none⟩) (i + 1) cap2) (fun k hk => by simpa [Value.ownBlock, eq_comm] using hk) (by simp [Value.ownBlock]))
     clear hown hgr hat
     go_wp2_with fail
     go_roundw
     case rel =>
      refine ⟨i + 1, g ++ [y], gp ++ [q], _, m3, b3, F3, rfl, by go_num, by omega, by rw [List.length_append, hg]; rfl, by rw [List.length_append, List.length_append, hgp]; rfl, ?_, HNF4, HT4, HDs3, fun V hV => mem_snoc hgp (HM4.out V hV).1 (HM4.out V hV).2⟩
      show World.ownsRow _ _ _ _ _ _ _
      rw [kv_zip _ hgp]; exact HO4.out
     case measure => simp [intOf]; omega
    ·have hiz : ¬ (i : Int) < l.length := by omega
     have hxn : l[i]? = none := List.getElem?_eq_none (by omega)
     have HCC := Lib.hid (fun W2 (hW : Below wr.heap.size wr W2) => ppoll_any P noPl noPlP noPl_fits m2 b2 F2 W2 (hT2.at_.below hW) (by have := HDs.out.room_at (z := noPl) HR1.out HIn.out; rw [hxn] at this; exact this) (fun _ => rfl) (fun V _ => noPl_at V))
     clear hT2
     go_wp2_with fail
     go_at_call 66
     refine (HCC.out _ (by first | exact Below.refl _ _ | exact (Below.refl _ _).alloc (Nat.le_refl _) _)).mono ?_
     rintro e w3 ⟨y, q, m3, b3, F3, rfl, hT3, hO3, hD3⟩
     have hTf := hT3.from_ (w := wr) (by first | exact Below.refl _ _ | exact (Below.refl _ _).alloc (Nat.le_refl _) _)
     have HO3 := Lib.hid (own_off (own_off HO.out (Off.of_below (by first | exact Below.refl _ _ | exact (Below.refl _ _).alloc (Nat.le_refl _) _)) fun _ _ h => h) hT3.off HNF.out)
     have HT3 := Lib.hid (HT.out.trans hTf)
     have HDs3 := Lib.hid (HDs.out.step (z := noPl) (by rw [hxn]; exact hD3))
     have HNF3 := Lib.hid (fun k (hk : v.ownBlock = some k) => (⟨hTf.not (HNF.out k hk) (HO.out.lt k hk).2, (HO.out.lt k hk).1⟩ : ¬ F3 k ∧ w.heap.size ≤ k))
     have HM3 := Lib.hid (HM.out.told hTf (hO3.mono (by simp)) (fun j hj => hj.elim (fun e => Nat.lt_of_lt_of_le e HT.out.off.size) fun e => (HO.out.lt j e).2))
     have hle3 := HT3.out.off.size
     have hn3 : ∀ k, w3.heap.size ≤ k → ¬ F3 k := fun k hk => HT3.out.at_.not hk
     clear hT3 hD3 hTf hO3
     simp only [plC, pCells, qCells, List.cons_append, List.nil_append]
     go_wp2_with (at_builtin; refine wpList_append_lies _ rfl _ _ _ rfl w.heap.size 37 i0 (.agg #[.int .u32 0, .int .u32 0, .int .i64 0, .int .i64 0, .int .i64 0, .int .i64 0, .slice none 0 0, .slice none 0 0, .int .i64 0, .slice none 0 0, .slice none 0 0, .slice none 0 0, .slice none 0 0, .int .i64 0, .int .i64 0, .int .i64 0]) 16 216 Tryz.underlying70 hi0 hq0 hq1 hq2 rfl (by decide) v i _ rfl (HO3.out.alloc _) ⟨w3.heap.size, 0, none⟩ 1 1 [.int .u32 (y.id : Int), .int .u32 (y.owner : Int), .int .i64 y.query.win.1, .int .i64 y.query.win.2, .int .i64 y.query.long, .int .i64 y.query.grid, .slice q.q.A1 y.query.must.length q.q.c1, .slice q.q.A2 y.query.may.length q.q.c2, .int .i64 y.query.seats, .slice q.q.A3 y.query.apart.length q.q.c3, .slice q.q.A4 y.query.prefer.length q.q.c4, .slice q.A1 y.slots.length q.c1, .slice q.A2 y.votes.length q.c2, .int .i64 y.until_, .int .i64 y.state, .int .i64 y.winner] rfl rfl (World.news_of_block (fr := (0, 0)) (heap_alloc_new w3 _)) (by simp [Value.oneCell']) (by decide) (by unfold maxLen; omega) (by omega) (by simp; omega) (w3.heap.size + 1) (by simp) ?_)
     intro gg cap2 w4 hown hgr hat hlt4
     have HO4 := Lib.hid hown
     have HT4 := Lib.hid (HT3.out.grown hgr HNF3.out)
     have HNF4 : Hid (∀ k, (Value.slice (some ⟨gg, 0, none⟩) (i + 1) cap2).ownBlock = some k → ¬ F3 k) := fun k hk => by
      obtain rfl : gg = k := by simpa [Value.ownBlock] using hk
      exact hat.elim (fun e => (HNF3.out gg e).1) fun e => hn3 gg (by omega)
     have HM4 := Lib.hid (HM3.out.grown hgr (gg := gg) (hat.imp id fun e => by omega) (x := .slice (some ⟨gg, 0, none⟩) (i + 1) cap2) (fun k hk => by simpa [Value.ownBlock, eq_comm] using hk) (by simp [Value.ownBlock]))
     clear hown hgr hat
     go_wp2_with fail
     go_roundw
     case rel =>
      refine ⟨i + 1, g ++ [y], gp ++ [q], _, m3, b3, F3, rfl, by go_num, by omega, by rw [List.length_append, hg]; rfl, by rw [List.length_append, List.length_append, hgp]; rfl, ?_, HNF4, HT4, HDs3, fun V hV => mem_snoc hgp (HM4.out V hV).1 (HM4.out V hV).2⟩
      show World.ownsRow _ _ _ _ _ _ _
      rw [kv_zip _ hgp]; exact HO4.out
     case measure => simp [intOf]; omega
   ·obtain rfl : K = i := by omega
    clear hT2
    go_wp2_with fail
    obtain ⟨Ar, cr, rfl, hsl⟩ := Sl.of_own HO.out
    go_ret
    refine ⟨g, (Ar, cr, gp), m2, b2, F2, by show Ending.returned (.slice Ar K cr) = .returned (.slice Ar g.length cr); rw [hg], HT.out, fun V hV => ⟨?_, hgp, HM.out V (hV.mono fun k _ hk => hk.imp id .inl)⟩, ?_⟩
    ·obtain ⟨Ar', cr', q1, q2⟩ := Sl.of_own (own_off HO.out hV fun k hk hq => hq.elim (HNF.out k hk) fun q => by have := (HO.out.lt k hk).1; omega)
     simp only [Value.slice.injEq] at q1
     obtain ⟨rfl, -, rfl⟩ := q1
     rw [hg]; exact q2
    ·have := HDs.out
     exact Dns.row HD1.out HK1.out this hml
 ·have hmz : (most : Int) < l.length := by omega
  clear HN
  go_enter Tryz.func93, Tryz.ntmps93
  go_wp2_with fail
  go_ret
  obtain ⟨s, rfl⟩ := Md.not_rd (m := m) (fun hm => by have := HZ.out hm; subst this; simp at hml)
  exact ⟨[], (none, 0, []), _, _, F, rfl, HPW.out, fun V _ => ⟨Sl.none_ _, rfl, fun j x p hx _ => by simp at hx⟩, Dn.many hml [] _ s rfl b⟩
end Go.Proofs.YtdhinjbkfffpeaaGreat
end
section
namespace Go.Proofs.YtdhinjbkfffpeaaGreat
open Go.ChangeShapes Go.WideShapes Go.ChangeAt Go.RowKit Go.Joins Sp Fr Pk
def noSta : Sta := ⟨0, [], [], []⟩
def noStaP : StaP := ⟨none, 0, [], none, 0, [], none, 0⟩
theorem noSta_at (w : World) : StaAt w noSta noStaP := ⟨⟨Sl.none_ _, rfl, fun j x p hx _ => by simp [noSta] at hx⟩, ⟨Sl.none_ _, rfl, fun j x p hx _ => by simp [noSta] at hx⟩, Sl.none_ _⟩
def cdSta : Cd Sta := ⟨Sta.T, Sta.O, rdSta, fun x => cdSig.cost (x.clock) + ((cdRow cdUs 100).cost (x.users) + ((cdRow cdPl 50).cost (x.polls) + ((cdRow cdDo 4096).cost (x.done)))), cod_sta.bad⟩
set_option maxRecDepth 100000 in
set_option maxHeartbeats 4000000 in
theorem pstate_any (P : Nat) (x : Sta) (p : StaP) (hx : x.Fits) (m : Md) (b : Bool) (F : Nat → Prop) (w : World) (h : PsAt w P m b F) (hr : m.Room (cdSta.cost x)) (hz : m.Rd → x = noSta) (hm : Held F w (fun V => StaAt V x p)) :
  Calls Tryz.prog 46 #[.pointer (some ⟨P, 0, none⟩), .agg (staCells x p).toArray] w (Told (fun (y : Sta) (q : StaP) => .agg (staCells y q).toArray) StaAt cdSta x P m b F w) := by
 show Calls Tryz.prog 46 #[.pointer (some ⟨P, 0, none⟩), .agg #[.int .i64 x.clock, .slice p.A1 x.users.length p.c1, .slice p.A2 x.polls.length p.c2, .slice p.A3 x.done.length p.c3]] w _
 obtain ⟨W1, hW1⟩ : ∃ W1, ((w.alloc (.cells #[.int .i64 x.clock, .slice p.A1 x.users.length p.c1, .slice p.A2 x.polls.length p.c2, .slice p.A3 x.done.length p.c3] 73)).alloc (.cells #[.int .i64 0, .slice none 0 0, .slice none 0 0, .slice none 0 0] 73)) = W1 := ⟨_, rfl⟩
 have HB : Hid (Below w.heap.size w W1) := by show Below _ _ _; rw [← hW1]; exact ((Below.refl _ _).alloc (Nat.le_refl _) _).alloc (by simp) _
 have hb1 : W1.heap[w.heap.size]? = some (.cells #[.int .i64 x.clock, .slice p.A1 x.users.length p.c1, .slice p.A2 x.polls.length p.c2, .slice p.A3 x.done.length p.c3] 73 (0, 0)) := by rw [← hW1, heap_alloc_old _ _ (by simp), heap_alloc_new]
 have hb2 : W1.heap[w.heap.size + 1]? = some (.cells #[.int .i64 0, .slice none 0 0, .slice none 0 0, .slice none 0 0] 73 (0, 0)) := by rw [← hW1]; exact heap_alloc_new2 _ _ _
 have n1 : ¬ F (w.heap.size) := h.not (by omega)
 have n2 : ¬ F (w.heap.size + 1) := h.not (by omega)
 have HN2 : Hid (¬ F (w.heap.size + 1) ∧ w.heap.size + 1 < W1.heap.size) := ⟨n2, heap_lt hb2⟩
 have E1 := Lib.hid hW1
 obtain ⟨XB, hXB⟩ : ∃ X : World → Prop, X = fun V => V.heap[w.heap.size]? = some (.cells #[.int .i64 x.clock, .slice p.A1 x.users.length p.c1, .slice p.A2 x.polls.length p.c2, .slice p.A3 x.done.length p.c3] 73 (0, 0)) := ⟨_, rfl⟩
 obtain ⟨X, hX⟩ : ∃ X : World → Prop, X = fun V => (XB V ∧ V.heap[w.heap.size + 1]? = some (.cells #[.int .i64 0, .slice none 0 0, .slice none 0 0, .slice none 0 0] 73 (0, 0))) ∧ StaAt V x p := ⟨_, rfl⟩
 have HZL : Hid (∀ V, XB V → V.cell? ⟨w.heap.size, 0, none⟩ = some (.int .i64 x.clock) ∧ V.cell? ⟨w.heap.size, 1, none⟩ = some (.slice p.A1 x.users.length p.c1) ∧ V.cell? ⟨w.heap.size, 2, none⟩ = some (.slice p.A2 x.polls.length p.c2) ∧ V.cell? ⟨w.heap.size, 3, none⟩ = some (.slice p.A3 x.done.length p.c3)) := fun V hV => by
  rw [hXB] at hV
  exact ⟨blk_cell hV rfl, blk_cell hV rfl, blk_cell hV rfl, blk_cell hV rfl⟩
 have HXB : Hid (∀ V, X V → XB V) := fun V hV => by rw [hX] at hV; exact hV.1.1
 have HXR : Hid (∀ V, X V → V.heap[w.heap.size + 1]? = some (.cells #[.int .i64 0, .slice none 0 0, .slice none 0 0, .slice none 0 0] 73 (0, 0))) := fun V hV => by rw [hX] at hV; exact hV.1.2
 have HXM : Hid (∀ V, X V → StaAt V x p) := fun V hV => by rw [hX] at hV; exact hV.2
 have HXS : Hid (∀ V vs, X V → XB (V.setCells (w.heap.size + 1) 0 vs)) := fun V vs hV => by
  rw [hX] at hV
  have hV := hV.1.1
  rw [hXB] at hV ⊢
  show (V.setCells (w.heap.size + 1) 0 vs).heap[w.heap.size]? = _
  rw [setCells_ne (by omega)]; exact hV
 have HS0 : Hid (St W1 W1.drew P m b F F X (fun _ => True)) := (St.start (h.below HB.out) (by rw [hX, hXB]; exact ((Held.blk hb1 n1).and (Held.blk hb2 n2)).and (hm.below HB.out))).drew
 have HR0 : Hid (m.Room (cdSig.cost (x.clock) + ((cdRow cdUs 100).cost (x.users) + ((cdRow cdPl 50).cost (x.polls) + ((cdRow cdDo 4096).cost (x.done) + 0))))) := hr.mono (by exact Nat.le_refl _)
 have HM0 : Hid (m.Rd → m.Rd) := id
 have HZ := Lib.hid hz
 have HC0 := Lib.hid (fun mx bx Fx wx h hr => psigned_any P (x.clock) (hx.clock) mx bx Fx wx h hr)
 have HC1 := Lib.hid (fun mx bx Fx wx h hr hz hm => prowUs_any P (x.users) p.A1 p.c1 p.us 100 (by decide) (hx.users) mx bx Fx wx h hr hz hm)
 have HC2 := Lib.hid (fun mx bx Fx wx h hr hz hm => prowPl_any P (x.polls) p.A2 p.c2 p.pl 50 (by decide) (hx.polls) mx bx Fx wx h hr hz hm)
 have HC3 := Lib.hid (fun mx bx Fx wx h hr hz hm => prowDo_any P (x.done) p.A3 p.c3 4096 (by decide) (hx.done) mx bx Fx wx h hr hz hm)
 clear hW1 hX hXB hb1 hb2 n1 n2 h hr hz hm
 go_enter Tryz.func46, Tryz.ntmps46
 go_upto_region 1 with fail
 rw [E1.out]
 refine wp_region_lexO XB (fun k => [3, 9, 15, 21, 23].contains k) [0, 1, 2, 4, 5, 6, 7, 8, 10, 11, 12, 13, 14, 16, 17, 18, 19, 20, 3, 9, 15, 21, 22, 23] rfl (by kernel_rfl) (by kernel_rfl) (by kernel_rfl) (fun _ _ _ _ _ h => h) (HXB.out _ HS0.out.now) ?_
 generalize World.drew W1 = w0 at *
 refine wpHo_name fun OPS hOPS => ?_
 generalize (Value.agg #[.int .i64 x.clock, .slice p.A1 x.users.length p.c1, .slice p.A2 x.polls.length p.c2, .slice p.A3 x.done.length p.c3]) = va
 have hk0 := congrArg (fun x => x[0]?) hOPS
 simp only [List.getElem?_toArray, List.getElem?_cons_zero] at hk0
 have hk1 := congrArg (fun x => x[1]?) hOPS
 simp only [List.getElem?_toArray, List.getElem?_cons_zero, List.getElem?_cons_succ] at hk1
 have hk2 := congrArg (fun x => x[2]?) hOPS
 simp only [List.getElem?_toArray, List.getElem?_cons_zero, List.getElem?_cons_succ] at hk2
 have hk3 := congrArg (fun x => x[3]?) hOPS
 simp only [List.getElem?_toArray, List.getElem?_cons_zero, List.getElem?_cons_succ] at hk3
 have hk4 := congrArg (fun x => x[4]?) hOPS
 simp only [List.getElem?_toArray, List.getElem?_cons_zero, List.getElem?_cons_succ] at hk4
 have hk5 := congrArg (fun x => x[5]?) hOPS
 simp only [List.getElem?_toArray, List.getElem?_cons_zero, List.getElem?_cons_succ] at hk5
 have hk6 := congrArg (fun x => x[6]?) hOPS
 simp only [List.getElem?_toArray, List.getElem?_cons_zero, List.getElem?_cons_succ] at hk6
 have hk7 := congrArg (fun x => x[7]?) hOPS
 simp only [List.getElem?_toArray, List.getElem?_cons_zero, List.getElem?_cons_succ] at hk7
 have hk8 := congrArg (fun x => x[8]?) hOPS
 simp only [List.getElem?_toArray, List.getElem?_cons_zero, List.getElem?_cons_succ] at hk8
 have hk9 := congrArg (fun x => x[9]?) hOPS
 simp only [List.getElem?_toArray, List.getElem?_cons_zero, List.getElem?_cons_succ] at hk9
 have hk10 := congrArg (fun x => x[10]?) hOPS
 simp only [List.getElem?_toArray, List.getElem?_cons_zero, List.getElem?_cons_succ] at hk10
 have hk11 := congrArg (fun x => x[11]?) hOPS
 simp only [List.getElem?_toArray, List.getElem?_cons_zero, List.getElem?_cons_succ] at hk11
 have hk12 := congrArg (fun x => x[12]?) hOPS
 simp only [List.getElem?_toArray, List.getElem?_cons_zero, List.getElem?_cons_succ] at hk12
 have hk13 := congrArg (fun x => x[13]?) hOPS
 simp only [List.getElem?_toArray, List.getElem?_cons_zero, List.getElem?_cons_succ] at hk13
 have hk14 := congrArg (fun x => x[14]?) hOPS
 simp only [List.getElem?_toArray, List.getElem?_cons_zero, List.getElem?_cons_succ] at hk14
 have hk15 := congrArg (fun x => x[15]?) hOPS
 simp only [List.getElem?_toArray, List.getElem?_cons_zero, List.getElem?_cons_succ] at hk15
 have hk16 := congrArg (fun x => x[16]?) hOPS
 simp only [List.getElem?_toArray, List.getElem?_cons_zero, List.getElem?_cons_succ] at hk16
 have hk17 := congrArg (fun x => x[17]?) hOPS
 simp only [List.getElem?_toArray, List.getElem?_cons_zero, List.getElem?_cons_succ] at hk17
 have hk18 := congrArg (fun x => x[18]?) hOPS
 simp only [List.getElem?_toArray, List.getElem?_cons_zero, List.getElem?_cons_succ] at hk18
 have hk19 := congrArg (fun x => x[19]?) hOPS
 simp only [List.getElem?_toArray, List.getElem?_cons_zero, List.getElem?_cons_succ] at hk19
 have hk20 := congrArg (fun x => x[20]?) hOPS
 simp only [List.getElem?_toArray, List.getElem?_cons_zero, List.getElem?_cons_succ] at hk20
 have hk21 := congrArg (fun x => x[21]?) hOPS
 simp only [List.getElem?_toArray, List.getElem?_cons_zero, List.getElem?_cons_succ] at hk21
 have hk22 := congrArg (fun x => x[22]?) hOPS
 simp only [List.getElem?_toArray, List.getElem?_cons_zero, List.getElem?_cons_succ] at hk22
 have hk23 := congrArg (fun x => x[23]?) hOPS
 simp only [List.getElem?_toArray, List.getElem?_cons_zero, List.getElem?_cons_succ] at hk23
 clear hOPS
 refine wpHo_yes (v := ?_) hk0 rfl rfl (fun w' hS => ?_) ?_; rotate_left; (go_simp; with_reducible rfl); (try simp only [Act.put, List.setIfInBounds_toArray, List.set_cons_zero, List.set_cons_succ])
 refine wpHo_yes (v := ?_) hk1 rfl rfl (fun w' hS => ?_) ?_; rotate_left; (go_simp; with_reducible rfl); (try simp only [Act.put, List.setIfInBounds_toArray, List.set_cons_zero, List.set_cons_succ])
 refine wpHo_yes (v := ?_) hk2 rfl rfl (fun w' hS => ?_) ?_; rotate_left; (obtain ⟨f0, f1, f2, f3⟩ := HZL.out w' hS; go_simp; with_reducible rfl); (try simp only [Act.put, List.setIfInBounds_toArray, List.set_cons_zero, List.set_cons_succ])
 refine wpHo_yes (v := ?_) hk4 rfl rfl (fun w' hS => ?_) ?_; rotate_left; (go_simp; with_reducible rfl); (try simp only [Act.put, List.setIfInBounds_toArray, List.set_cons_zero, List.set_cons_succ])
 refine wpHo_yes (v := ?_) hk5 rfl rfl (fun w' hS => ?_) ?_; rotate_left; (go_simp; with_reducible rfl); (try simp only [Act.put, List.setIfInBounds_toArray, List.set_cons_zero, List.set_cons_succ])
 refine wpHo_yes (v := ?_) hk6 rfl rfl (fun w' hS => ?_) ?_; rotate_left; (obtain ⟨f0, f1, f2, f3⟩ := HZL.out w' hS; go_simp; with_reducible rfl); (try simp only [Act.put, List.setIfInBounds_toArray, List.set_cons_zero, List.set_cons_succ])
 refine wpHo_yes (v := ?_) hk7 rfl rfl (fun w' hS => ?_) ?_; rotate_left; (go_simp; with_reducible rfl); (try simp only [Act.put, List.setIfInBounds_toArray, List.set_cons_zero, List.set_cons_succ])
 refine wpHo_yes (v := ?_) hk8 rfl rfl (fun w' hS => ?_) ?_; rotate_left; (go_simp; with_reducible rfl); (try simp only [Act.put, List.setIfInBounds_toArray, List.set_cons_zero, List.set_cons_succ])
 refine wpHo_yes (v := ?_) hk10 rfl rfl (fun w' hS => ?_) ?_; rotate_left; (go_simp; with_reducible rfl); (try simp only [Act.put, List.setIfInBounds_toArray, List.set_cons_zero, List.set_cons_succ])
 refine wpHo_yes (v := ?_) hk11 rfl rfl (fun w' hS => ?_) ?_; rotate_left; (go_simp; with_reducible rfl); (try simp only [Act.put, List.setIfInBounds_toArray, List.set_cons_zero, List.set_cons_succ])
 refine wpHo_yes (v := ?_) hk12 rfl rfl (fun w' hS => ?_) ?_; rotate_left; (obtain ⟨f0, f1, f2, f3⟩ := HZL.out w' hS; go_simp; with_reducible rfl); (try simp only [Act.put, List.setIfInBounds_toArray, List.set_cons_zero, List.set_cons_succ])
 refine wpHo_yes (v := ?_) hk13 rfl rfl (fun w' hS => ?_) ?_; rotate_left; (go_simp; with_reducible rfl); (try simp only [Act.put, List.setIfInBounds_toArray, List.set_cons_zero, List.set_cons_succ])
 refine wpHo_yes (v := ?_) hk14 rfl rfl (fun w' hS => ?_) ?_; rotate_left; (go_simp; with_reducible rfl); (try simp only [Act.put, List.setIfInBounds_toArray, List.set_cons_zero, List.set_cons_succ])
 refine wpHo_yes (v := ?_) hk16 rfl rfl (fun w' hS => ?_) ?_; rotate_left; (go_simp; with_reducible rfl); (try simp only [Act.put, List.setIfInBounds_toArray, List.set_cons_zero, List.set_cons_succ])
 refine wpHo_yes (v := ?_) hk17 rfl rfl (fun w' hS => ?_) ?_; rotate_left; (go_simp; with_reducible rfl); (try simp only [Act.put, List.setIfInBounds_toArray, List.set_cons_zero, List.set_cons_succ])
 refine wpHo_yes (v := ?_) hk18 rfl rfl (fun w' hS => ?_) ?_; rotate_left; (obtain ⟨f0, f1, f2, f3⟩ := HZL.out w' hS; go_simp; with_reducible rfl); (try simp only [Act.put, List.setIfInBounds_toArray, List.set_cons_zero, List.set_cons_succ])
 refine wpHo_yes (v := ?_) hk19 rfl rfl (fun w' hS => ?_) ?_; rotate_left; (go_simp; with_reducible rfl); (try simp only [Act.put, List.setIfInBounds_toArray, List.set_cons_zero, List.set_cons_succ])
 refine wpHo_yes (v := ?_) hk20 rfl rfl (fun w' hS => ?_) ?_; rotate_left; (go_simp; with_reducible rfl); (try simp only [Act.put, List.setIfInBounds_toArray, List.set_cons_zero, List.set_cons_succ])
 refine wpHo_callYes hk3 rfl rfl (fun K hK => ?_)
 go_simp
 go_at_call 90
 refine (HC0.out _ _ _ _ HS0.out.to.at_ (HR0.out.mono (Nat.le_add_right _ _))).mono ?_
 rintro e w1 ⟨y0, m0, b0, F0, rfl, hT, hD, hy⟩
 have HD0 := Lib.hid hD
 have HR1 := Lib.hid (hD.room HR0.out)
 have HM1 : Hid (m0.Rd → m.Rd) := fun hm => HM0.out (hD.mode.1 hm)
 have HS1 := Lib.hid (HS0.out.tel hT)
 clear hT hD hy HS0 HR0 HC0 HM0
 refine hK _ _ (HXB.out _ HS1.out.now) (fun _ => ?_)
 skip
 clear hK K
 refine wpHo_callYes hk9 rfl rfl (fun K hK => ?_)
 go_simp
 go_at_call 91
 refine (HC1.out _ _ _ _ HS1.out.to.at_ (HR1.out.mono (Nat.le_add_right _ _)) (fun hm => by rw [HZ.out (HM1.out hm)] <;> rfl) (HS1.out.x.imp fun V hV => (HXM.out V hV).u)).mono ?_
 rintro e w2 ⟨y1, q1, m1, b1, F1, rfl, hT, hO, hD⟩
 have HD1 := Lib.hid hD
 have HR2 := Lib.hid (hD.room HR1.out)
 have HM2 : Hid (m1.Rd → m.Rd) := fun hm => HM1.out (hD.mode.1 hm)
 have HS2 := Lib.hid (HS1.out.told hT hO)
 clear hT hD hO HS1 HR1 HC1 HM1
 refine hK _ _ (HXB.out _ HS2.out.now) (fun _ => ?_)
 skip
 clear hK K
 refine wpHo_callYes hk15 rfl rfl (fun K hK => ?_)
 go_simp
 go_at_call 93
 refine (HC2.out _ _ _ _ HS2.out.to.at_ (HR2.out.mono (Nat.le_add_right _ _)) (fun hm => by rw [HZ.out (HM2.out hm)] <;> rfl) (HS2.out.x.imp fun V hV => (HXM.out V hV).o)).mono ?_
 rintro e w3 ⟨y2, q2, m2, b2, F2, rfl, hT, hO, hD⟩
 have HD2 := Lib.hid hD
 have HR3 := Lib.hid (hD.room HR2.out)
 have HM3 : Hid (m2.Rd → m.Rd) := fun hm => HM2.out (hD.mode.1 hm)
 have HS3 := Lib.hid (HS2.out.told hT hO)
 clear hT hD hO HS2 HR2 HC2 HM2
 refine hK _ _ (HXB.out _ HS3.out.now) (fun _ => ?_)
 skip
 clear hK K
 refine wpHo_callYes hk21 rfl rfl (fun K hK => ?_)
 go_simp
 go_at_call 94
 refine (HC3.out _ _ _ _ HS3.out.to.at_ (HR3.out.mono (Nat.le_add_right _ _)) (fun hm => by rw [HZ.out (HM3.out hm)] <;> rfl) (HS3.out.x.imp fun V hV => (HXM.out V hV).d)).mono ?_
 rintro e w4 ⟨y3, q3, m3, b3, F3, rfl, hT, hO, hD⟩
 have HD3 := Lib.hid hD
 have HR4 := Lib.hid (hD.room HR3.out)
 have HM4 : Hid (m3.Rd → m.Rd) := fun hm => HM3.out (hD.mode.1 hm)
 have HS4 := Lib.hid (HS3.out.told hT hO)
 clear hT hD hO HS3 HR3 HC3 HM3
 refine hK _ _ (HXB.out _ HS4.out.now) (fun _ => ?_)
 skip
 clear hK K
 refine wpHo_yes (v := ?_) hk22 rfl rfl (fun w' hS => ?_) ?_; rotate_left; (go_simp; with_reducible rfl); (try simp only [Act.put, List.setIfInBounds_toArray, List.set_cons_zero, List.set_cons_succ])
 have HRB := Lib.hid (HXR.out _ HS4.out.now)
 refine wpHo_callYes hk23 rfl rfl (fun K hK => ?_)
 refine wp_store_mid 73 (.tmp 4) (.tmp 27) rfl (w.heap.size + 1) 0 #[.int .i64 y0, .slice q1.1 y1.length q1.2.1, .slice q2.1 y2.length q2.2.1, .slice q3.1 y3.length q3.2] rfl rfl (blk_there HRB.out (by simp)) (by kernel_rfl) (by simp [Value.oneCell']) ?_
 refine hK _ _ (HXS.out _ _ HS4.out.now) (fun _ => ?_)
 simp only [Act.put]
 clear hK K
 have hset := setCells_blk (b := w.heap.size + 1) [.int .i64 y0, .slice q1.1 y1.length q1.2.1, .slice q2.1 y2.length q2.2.1, .slice q3.1 y3.length q3.2] 0 _ _ HRB.out
 have HTO := Lib.hid (HS4.out.to.store' HB.out (R := w.heap.size + 1) (by omega) (HS4.out.to.not HN2.out.1 HN2.out.2) 0 [.int .i64 y0, .slice q1.1 y1.length q1.2.1, .slice q2.1 y2.length q2.2.1, .slice q3.1 y3.length q3.2])
 have HOW := Lib.hid ((HS4.out.y.store (R := w.heap.size + 1) HN2.out.2 0 [.int .i64 y0, .slice q1.1 y1.length q1.2.1, .slice q2.1 y2.length q2.2.1, .slice q3.1 y3.length q3.2]).mono HB.out.size)
 obtain ⟨w', hw'⟩ : ∃ w', w4.setCells (w.heap.size + 1) 0 [.int .i64 y0, .slice q1.1 y1.length q1.2.1, .slice q2.1 y2.length q2.2.1, .slice q3.1 y3.length q3.2] = w' := ⟨_, rfl⟩
 have hw'2 : w4.setCells (w.heap.size + 1) 0 #[.int .i64 y0, .slice q1.1 y1.length q1.2.1, .slice q2.1 y2.length q2.2.1, .slice q3.1 y3.length q3.2].toList = w' := hw'
 rw [hw'] at hset HTO HOW
 rw [hw'2]
 clear hw' hw'2
 rw [setAll_all (by rfl)] at hset
 have HSE := Lib.hid hset
 clear hset
 show Exit.then _ _ _ _ _
 go_wp2_with fail
 refine bodyPost_ret (results_cell_row rfl _ _ (w.heap.size + 1) 73 #[.int .i64 y0, .slice q1.1 y1.length q1.2.1, .slice q2.1 y2.length q2.2.1, .slice q3.1 y3.length q3.2] (0, 0) _ rfl HSE.out Tryz.underlying73 rfl (by kernel_rfl)) rfl ?_
 exact ⟨⟨y0, y1, y2, y3⟩, ⟨q1.1, q1.2.1, q1.2.2, q2.1, q2.2.1, q2.2.2, q3.1, q3.2⟩, _, _, _, rfl, HTO.out, HOW.out.imp (fun V hV => ⟨hV.1.1.2, hV.1.2, hV.2⟩), (HD0.out.pair (HD1.out.pair (HD2.out.pair HD3.out))).conv Sta.of (Nat.le_refl _) (fun o => ⟨o, rfl⟩) (fun _ => rfl) rfl (fun _ => rfl)⟩
end Go.Proofs.YtdhinjbkfffpeaaGreat
end
