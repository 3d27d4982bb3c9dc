import Derived.Test.YtdhinjbkfffpeaaGreatYOI
/- Contracts of the program's pass: steps; flat structs. -/
section
namespace Go.Proofs.YtdhinjbkfffpeaaGreat
open Go.ChangeShapes Go.WideShapes Go.ChangeAt Go.RowKit Go.Joins Sp Fr Pk
structure St (W w : World) (P : Nat) (m : Md) (b : Bool) (F0 F : Nat → Prop) (X Y : World → Prop) : Prop where
 to : PsTo W w P m b F0 F
 x : Held F w X
 y : Own F W.heap.size w Y
section
variable {W w w' : World} {P : Nat} {m m' : Md} {b b' : Bool} {F0 F F' : Nat → Prop} {X Y Z : World → Prop}
theorem St.start (h : PsAt W P m b F) (hX : Held F W X) : St W W P m b F F X (fun _ => True) := ⟨h.self, hX, Own.const trivial⟩
theorem St.tel (h : St W w P m b F0 F X Y) (k : PsTo w w' P m' b' F F') : St W w' P m' b' F0 F' X Y := ⟨h.to.trans k, h.x.step k, h.y.step k⟩
theorem St.told (h : St W w P m b F0 F X Y) (k : PsTo w w' P m' b' F F') (hZ : Own F' w.heap.size w' Z) : St W w' P m' b' F0 F' X (fun V => Y V ∧ Z V) :=
 ⟨h.to.trans k, h.x.step k, fun V hV => ⟨(h.y.step k) V hV, (hZ.mono h.to.off.size) V hV⟩⟩
theorem St.now (h : St W w P m b F0 F X Y) : X w := h.x.now
theorem St.drew (h : St W w P m b F0 F X Y) : St W w.drew P m b F0 F X Y := ⟨h.to.below (Below.refl _ _).drew, h.x.drew, h.y.below (Below.refl _ _).drew⟩
end
theorem Tel.told {α : Type} {val : α → Value} {c : Cd α} {x : α} {P : Nat} {m : Md} {b : Bool} {F : Nat → Prop} {w : World} {e : Ending} {w' : World} (h : Tel val c x P m b F w e w') : Told (fun y (_ : Unit) => val y) (fun _ _ _ => True) c x P m b F w e w' := by
 obtain ⟨y, m', b', F', h1, h2, h3, _⟩ := h
 exact ⟨y, (), m', b', F', h1, h2, Own.const trivial, h3⟩
def Tfl {α : Type} (val : α → Value) (c : Cd α) (x : α) (P : Nat) (m : Md) (b : Bool) (F : Nat → Prop) (w : World) (e : Ending) (w' : World) : Prop := Told (fun y (_ : Unit) => val y) (fun _ _ _ => True) c x P m b F w e w'
theorem u32_le {n : Nat} : U32 n ↔ n ≤ 4294967295 := by unfold U32; omega
theorem u64_le {n : Nat} : U64 n ↔ n ≤ 18446744073709551615 := by unfold U64; omega
def cdTu : Cd (Spn) := ⟨tuT, tuO, rdTu, fun _ => 20, rfl⟩
set_option maxRecDepth 100000 in
set_option maxHeartbeats 4000000 in
theorem pturn_any (P : Nat) (x : Spn) (hx : I64 x.1 ∧ I64 x.2) (m : Md) (b : Bool) (F : Nat → Prop) (w : World) (h : PsAt w P m b F) (hr : m.Room (cdTu.cost x)) :
  Calls Tryz.prog 137 #[.pointer (some ⟨P, 0, none⟩), .agg #[.int .i64 x.1, .int .i64 x.2]] w (Tfl (fun y : Spn => .agg #[.int .i64 y.1, .int .i64 y.2]) cdTu x P m b F w) := by
 obtain ⟨W1, hW1⟩ : ∃ W1, ((w.alloc (.cells #[.int .i64 x.1, .int .i64 x.2] 148)).alloc (.cells #[.int .i64 0, .int .i64 0] 148)) = W1 := ⟨_, rfl⟩
 have HB : Hid (Below w.heap.size w W1) := by show Below _ _ _; rw [← hW1]; exact ((Below.refl _ _).alloc (Nat.le_refl _) _).alloc (by simp) _
 have hb1 : W1.heap[w.heap.size]? = some (.cells #[.int .i64 x.1, .int .i64 x.2] 148 (0, 0)) := by rw [← hW1, heap_alloc_old _ _ (by simp), heap_alloc_new]
 have hb2 : W1.heap[w.heap.size + 1]? = some (.cells #[.int .i64 0, .int .i64 0] 148 (0, 0)) := by rw [← hW1]; exact heap_alloc_new2 _ _ _
 have n1 : ¬ F w.heap.size := h.not (Nat.le_refl _)
 have n2 : ¬ F (w.heap.size + 1) := h.not (by omega)
 have HN2 : Hid (¬ F (w.heap.size + 1) ∧ w.heap.size + 1 < W1.heap.size) := ⟨n2, heap_lt hb2⟩
 have E1 := Lib.hid hW1
 have HB0 : Hid (W1.heap.size ≤ w.heap.size + 1 + 1 ∧ w.heap.size ≤ w.heap.size + 1) := ⟨by rw [← hW1]; simp, by omega⟩
 obtain ⟨XB, hXB⟩ : ∃ X : World → Prop, X = fun V => V.heap[w.heap.size]? = some (.cells #[.int .i64 x.1, .int .i64 x.2] 148 (0, 0)) := ⟨_, rfl⟩
 obtain ⟨X, hX⟩ : ∃ X : World → Prop, X = fun V => XB V ∧ V.heap[w.heap.size + 1]? = some (.cells #[.int .i64 0, .int .i64 0] 148 (0, 0)) := ⟨_, rfl⟩
 have HZL : Hid (∀ V, XB V → V.cell? ⟨w.heap.size, 0, none⟩ = some (.int .i64 x.1) ∧ V.cell? ⟨w.heap.size, 1, none⟩ = some (.int .i64 x.2)) := fun V hV => by
  rw [hXB] at hV
  exact ⟨blk_cell hV rfl, blk_cell hV rfl⟩
 have HXB : Hid (∀ V, X V → XB V) := fun V hV => by rw [hX] at hV; exact hV.1
 have HXR : Hid (∀ V, X V → V.heap[w.heap.size + 1]? = some (.cells #[.int .i64 0, .int .i64 0] 148 (0, 0))) := fun V hV => by rw [hX] at hV; exact hV.2
 have HXS : Hid (∀ V vs, X V → XB (V.setCells (w.heap.size + 1) 0 vs)) := fun V vs hV => by
  rw [hX] at hV
  have hV := hV.1
  rw [hXB] at hV ⊢
  show (V.setCells (w.heap.size + 1) 0 vs).heap[w.heap.size]? = _
  rw [setCells_ne (by omega)]; exact hV
 have HS0 : Hid (St W1 W1.drew P m b F F X (fun _ => True)) := (St.start (h.below HB.out) (by rw [hX, hXB]; exact (Held.blk hb1 n1).and (Held.blk hb2 n2))).drew
 have HR0 : Hid (m.Room (cdSig.cost (x.1) + ((cdZ (-900) 900).cost (x.2) + 0))) := hr.mono (by exact Nat.le_refl _)
 have HC0 := Lib.hid (fun m b F w h hr => psigned_any P (x.1) (hx.1) m b F w h hr)
 have HC1 := Lib.hid (fun m b F w h hr => pwithin_any P (x.2) 900 (by decide) (hx.2) m b F w h hr)
 clear hW1 hX hXB hb1 hb2 n1 n2 h hr
 go_enter Tryz.func137, Tryz.ntmps137
 go_upto_region 1 with fail
 rw [E1.out]
 refine wp_region_lexO XB (fun k => [3, 7, 9].contains k) [0, 1, 2, 4, 5, 6, 3, 7, 8, 9] rfl (by kernel_rfl) (by kernel_rfl) (by kernel_rfl) (fun _ _ _ _ _ h => h) (HXB.out _ HS0.out.now) ?_
 generalize World.drew W1 = w0 at *
 iterate 6 (refine wpHo_yes (v := ?_) rfl rfl rfl (fun w' hS => ?_) ?_; rotate_left; (obtain ⟨f0, f1⟩ := HZL.out w' hS; go_simp; with_reducible rfl); (try simp only [List.getElem_toArray, List.getElem_cons_succ, List.getElem_cons_zero, Act.put, List.setIfInBounds_toArray, List.set_cons_zero, List.set_cons_succ]))
 refine wpHo_callYes rfl rfl rfl (fun K hK => ?_)
 go_simp
 go_at_call 90
 refine (HC0.out _ _ _ _ HS0.out.to.at_ (HR0.out.mono (Nat.le_add_right _ _))).mono ?_
 rintro e w1 ⟨y0, m0, b0, F0, rfl, hT, hD, hy⟩
 have HD0 := Lib.hid hD
 have HR1 := Lib.hid (hD.room HR0.out)
 have HS1 := Lib.hid (HS0.out.tel hT)
 clear hT hD hy HS0 HR0 HC0
 refine hK _ _ (HXB.out _ HS1.out.now) (fun _ => ?_)
 clear hK K
 refine wpHo_callYes rfl rfl rfl (fun K hK => ?_)
 go_simp
 go_at_call 135
 refine (HC1.out _ _ _ _ HS1.out.to.at_ (HR1.out.mono (Nat.le_add_right _ _))).mono ?_
 rintro e w2 ⟨y1, m1, b1, F1, rfl, hT, hD, hy⟩
 have HD1 := Lib.hid hD
 have HR2 := Lib.hid (hD.room HR1.out)
 have HS2 := Lib.hid (HS1.out.tel hT)
 clear hT hD hy HS1 HR1 HC1
 refine hK _ _ (HXB.out _ HS2.out.now) (fun _ => ?_)
 clear hK K
 iterate 1 (refine wpHo_yes (v := ?_) rfl rfl rfl (fun w' hS => ?_) ?_; rotate_left; (obtain ⟨f0, f1⟩ := HZL.out w' hS; go_simp; with_reducible rfl); (try simp only [List.getElem_toArray, List.getElem_cons_succ, List.getElem_cons_zero, Act.put, List.setIfInBounds_toArray, List.set_cons_zero, List.set_cons_succ]))
 refine wpHo_callYes rfl rfl rfl (fun K hK => ?_)
 have HRB := Lib.hid (HXR.out _ HS2.out.now)
 refine wp_store_mid 148 (.tmp 4) (.tmp 13) rfl (w.heap.size + 1) 0 #[.int .i64 y0, .int .i64 y1] rfl rfl (blk_there HRB.out (by simp)) (by kernel_rfl) (by simp [Value.oneCell']) ?_
 refine hK _ _ (HXS.out _ _ HS2.out.now) (fun _ => ?_)
 clear hK K
 have hset := setCells_blk (b := w.heap.size + 1) [.int .i64 y0, .int .i64 y1] 0 _ _ HRB.out
 have HTO := Lib.hid (HS2.out.to.store' HB.out (R := w.heap.size + 1) (by omega) (HS2.out.to.not HN2.out.1 HN2.out.2) 0 [.int .i64 y0, .int .i64 y1])
 have HOW := Lib.hid ((HS2.out.y.store (R := w.heap.size + 1) HN2.out.2 0 [.int .i64 y0, .int .i64 y1]).mono HB.out.size)
 obtain ⟨w', hw'⟩ : ∃ w', w2.setCells (w.heap.size + 1) 0 [.int .i64 y0, .int .i64 y1] = w' := ⟨_, rfl⟩
 have hw'2 : w2.setCells (w.heap.size + 1) 0 #[.int .i64 y0, .int .i64 y1].toList = w' := hw'
 rw [hw'] at hset HTO HOW
 rw [hw'2]
 clear hw' hw'2
 have hset : w'.heap[w.heap.size + 1]? = some (.cells #[.int .i64 y0, .int .i64 y1] 148 (0, 0)) := hset
 have HSE := Lib.hid hset
 clear hset
 show Exit.then _ _ _ _ _
 go_wp2_with fail
 refine bodyPost_ret (results_cell_row rfl _ _ (w.heap.size + 1) 148 #[.int .i64 y0, .int .i64 y1] (0, 0) _ rfl HSE.out Tryz.underlying148 rfl (by kernel_rfl)) rfl ?_
 exact ⟨(y0, y1), (), _, _, _, rfl, HTO.out, HOW.out, (HD0.out.pair HD1.out).conv (fun y => y) (Nat.le_refl _) (fun o => ⟨o, rfl⟩) (fun _ => rfl) rfl (fun _ => rfl)⟩
def cdSh : Cd (Int × Int × Int) := ⟨shT, shO, rdSh, fun _ => 30, rfl⟩
set_option maxRecDepth 100000 in
set_option maxHeartbeats 4000000 in
theorem pshift_any (P : Nat) (x : Int × Int × Int) (hx : I64 x.1 ∧ I64 x.2.1 ∧ I64 x.2.2) (m : Md) (b : Bool) (F : Nat → Prop) (w : World) (h : PsAt w P m b F) (hr : m.Room (cdSh.cost x)) :
  Calls Tryz.prog 139 #[.pointer (some ⟨P, 0, none⟩), .agg #[.int .i64 x.1, .int .i64 x.2.1, .int .i64 x.2.2]] w (Tfl (fun y : Int × Int × Int => .agg #[.int .i64 y.1, .int .i64 y.2.1, .int .i64 y.2.2]) cdSh x P m b F w) := by
 obtain ⟨W1, hW1⟩ : ∃ W1, ((w.alloc (.cells #[.int .i64 x.1, .int .i64 x.2.1, .int .i64 x.2.2] 151)).alloc (.cells #[.int .i64 0, .int .i64 0, .int .i64 0] 151)) = W1 := ⟨_, rfl⟩
 have HB : Hid (Below w.heap.size w W1) := by show Below _ _ _; rw [← hW1]; exact ((Below.refl _ _).alloc (Nat.le_refl _) _).alloc (by simp) _
 have hb1 : W1.heap[w.heap.size]? = some (.cells #[.int .i64 x.1, .int .i64 x.2.1, .int .i64 x.2.2] 151 (0, 0)) := by rw [← hW1, heap_alloc_old _ _ (by simp), heap_alloc_new]
 have hb2 : W1.heap[w.heap.size + 1]? = some (.cells #[.int .i64 0, .int .i64 0, .int .i64 0] 151 (0, 0)) := by rw [← hW1]; exact heap_alloc_new2 _ _ _
 have n1 : ¬ F w.heap.size := h.not (Nat.le_refl _)
 have n2 : ¬ F (w.heap.size + 1) := h.not (by omega)
 have HN2 : Hid (¬ F (w.heap.size + 1) ∧ w.heap.size + 1 < W1.heap.size) := ⟨n2, heap_lt hb2⟩
 have E1 := Lib.hid hW1
 have HB0 : Hid (W1.heap.size ≤ w.heap.size + 1 + 1 ∧ w.heap.size ≤ w.heap.size + 1) := ⟨by rw [← hW1]; simp, by omega⟩
 obtain ⟨XB, hXB⟩ : ∃ X : World → Prop, X = fun V => V.heap[w.heap.size]? = some (.cells #[.int .i64 x.1, .int .i64 x.2.1, .int .i64 x.2.2] 151 (0, 0)) := ⟨_, rfl⟩
 obtain ⟨X, hX⟩ : ∃ X : World → Prop, X = fun V => XB V ∧ V.heap[w.heap.size + 1]? = some (.cells #[.int .i64 0, .int .i64 0, .int .i64 0] 151 (0, 0)) := ⟨_, rfl⟩
 have HZL : Hid (∀ V, XB V → V.cell? ⟨w.heap.size, 0, none⟩ = some (.int .i64 x.1) ∧ V.cell? ⟨w.heap.size, 1, none⟩ = some (.int .i64 x.2.1) ∧ V.cell? ⟨w.heap.size, 2, none⟩ = some (.int .i64 x.2.2)) := fun V hV => by
  rw [hXB] at hV
  exact ⟨blk_cell hV rfl, blk_cell hV rfl, blk_cell hV rfl⟩
 have HXB : Hid (∀ V, X V → XB V) := fun V hV => by rw [hX] at hV; exact hV.1
 have HXR : Hid (∀ V, X V → V.heap[w.heap.size + 1]? = some (.cells #[.int .i64 0, .int .i64 0, .int .i64 0] 151 (0, 0))) := fun V hV => by rw [hX] at hV; exact hV.2
 have HXS : Hid (∀ V vs, X V → XB (V.setCells (w.heap.size + 1) 0 vs)) := fun V vs hV => by
  rw [hX] at hV
  have hV := hV.1
  rw [hXB] at hV ⊢
  show (V.setCells (w.heap.size + 1) 0 vs).heap[w.heap.size]? = _
  rw [setCells_ne (by omega)]; exact hV
 have HS0 : Hid (St W1 W1.drew P m b F F X (fun _ => True)) := (St.start (h.below HB.out) (by rw [hX, hXB]; exact (Held.blk hb1 n1).and (Held.blk hb2 n2))).drew
 have HR0 : Hid (m.Room ((cdInt 127).cost (x.1) + ((cdInt 1440).cost (x.2.1) + ((cdInt 1440).cost (x.2.2) + 0)))) := hr.mono (by exact Nat.le_refl _)
 have HC0 := Lib.hid (fun m b F w h hr => pnumberI_any P (x.1) 127 (by decide) (hx.1) m b F w h hr)
 have HC1 := Lib.hid (fun m b F w h hr => pnumberI_any P (x.2.1) 1440 (by decide) (hx.2.1) m b F w h hr)
 have HC2 := Lib.hid (fun m b F w h hr => pnumberI_any P (x.2.2) 1440 (by decide) (hx.2.2) m b F w h hr)
 clear hW1 hX hXB hb1 hb2 n1 n2 h hr
 go_enter Tryz.func139, Tryz.ntmps139
 go_upto_region 1 with fail
 rw [E1.out]
 refine wp_region_lexO XB (fun k => [3, 7, 11, 13].contains k) [0, 1, 2, 4, 5, 6, 8, 9, 10, 3, 7, 11, 12, 13] rfl (by kernel_rfl) (by kernel_rfl) (by kernel_rfl) (fun _ _ _ _ _ h => h) (HXB.out _ HS0.out.now) ?_
 generalize World.drew W1 = w0 at *
 iterate 9 (refine wpHo_yes (v := ?_) rfl rfl rfl (fun w' hS => ?_) ?_; rotate_left; (obtain ⟨f0, f1, f2⟩ := HZL.out w' hS; go_simp; with_reducible rfl); (try simp only [List.getElem_toArray, List.getElem_cons_succ, List.getElem_cons_zero, Act.put, List.setIfInBounds_toArray, List.set_cons_zero, List.set_cons_succ]))
 refine wpHo_callYes rfl rfl rfl (fun K hK => ?_)
 go_simp
 go_at_call 102
 refine (HC0.out _ _ _ _ HS0.out.to.at_ (HR0.out.mono (Nat.le_add_right _ _))).mono ?_
 rintro e w1 ⟨y0, m0, b0, F0, rfl, hT, hD, hy⟩
 have HD0 := Lib.hid hD
 have HR1 := Lib.hid (hD.room HR0.out)
 have HS1 := Lib.hid (HS0.out.tel hT)
 clear hT hD hy HS0 HR0 HC0
 refine hK _ _ (HXB.out _ HS1.out.now) (fun _ => ?_)
 clear hK K
 refine wpHo_callYes rfl rfl rfl (fun K hK => ?_)
 go_simp
 go_at_call 102
 refine (HC1.out _ _ _ _ HS1.out.to.at_ (HR1.out.mono (Nat.le_add_right _ _))).mono ?_
 rintro e w2 ⟨y1, m1, b1, F1, rfl, hT, hD, hy⟩
 have HD1 := Lib.hid hD
 have HR2 := Lib.hid (hD.room HR1.out)
 have HS2 := Lib.hid (HS1.out.tel hT)
 clear hT hD hy HS1 HR1 HC1
 refine hK _ _ (HXB.out _ HS2.out.now) (fun _ => ?_)
 clear hK K
 refine wpHo_callYes rfl rfl rfl (fun K hK => ?_)
 go_simp
 go_at_call 102
 refine (HC2.out _ _ _ _ HS2.out.to.at_ (HR2.out.mono (Nat.le_add_right _ _))).mono ?_
 rintro e w3 ⟨y2, m2, b2, F2, rfl, hT, hD, hy⟩
 have HD2 := Lib.hid hD
 have HR3 := Lib.hid (hD.room HR2.out)
 have HS3 := Lib.hid (HS2.out.tel hT)
 clear hT hD hy HS2 HR2 HC2
 refine hK _ _ (HXB.out _ HS3.out.now) (fun _ => ?_)
 clear hK K
 iterate 1 (refine wpHo_yes (v := ?_) rfl rfl rfl (fun w' hS => ?_) ?_; rotate_left; (obtain ⟨f0, f1, f2⟩ := HZL.out w' hS; go_simp; with_reducible rfl); (try simp only [List.getElem_toArray, List.getElem_cons_succ, List.getElem_cons_zero, Act.put, List.setIfInBounds_toArray, List.set_cons_zero, List.set_cons_succ]))
 refine wpHo_callYes rfl rfl rfl (fun K hK => ?_)
 have HRB := Lib.hid (HXR.out _ HS3.out.now)
 refine wp_store_mid 151 (.tmp 4) (.tmp 17) rfl (w.heap.size + 1) 0 #[.int .i64 y0, .int .i64 y1, .int .i64 y2] rfl rfl (blk_there HRB.out (by simp)) (by kernel_rfl) (by simp [Value.oneCell']) ?_
 refine hK _ _ (HXS.out _ _ HS3.out.now) (fun _ => ?_)
 clear hK K
 have hset := setCells_blk (b := w.heap.size + 1) [.int .i64 y0, .int .i64 y1, .int .i64 y2] 0 _ _ HRB.out
 have HTO := Lib.hid (HS3.out.to.store' HB.out (R := w.heap.size + 1) (by omega) (HS3.out.to.not HN2.out.1 HN2.out.2) 0 [.int .i64 y0, .int .i64 y1, .int .i64 y2])
 have HOW := Lib.hid ((HS3.out.y.store (R := w.heap.size + 1) HN2.out.2 0 [.int .i64 y0, .int .i64 y1, .int .i64 y2]).mono HB.out.size)
 obtain ⟨w', hw'⟩ : ∃ w', w3.setCells (w.heap.size + 1) 0 [.int .i64 y0, .int .i64 y1, .int .i64 y2] = w' := ⟨_, rfl⟩
 have hw'2 : w3.setCells (w.heap.size + 1) 0 #[.int .i64 y0, .int .i64 y1, .int .i64 y2].toList = w' := hw'
 rw [hw'] at hset HTO HOW
 rw [hw'2]
 clear hw' hw'2
 have hset : w'.heap[w.heap.size + 1]? = some (.cells #[.int .i64 y0, .int .i64 y1, .int .i64 y2] 151 (0, 0)) := hset
 have HSE := Lib.hid hset
 clear hset
 show Exit.then _ _ _ _ _
 go_wp2_with fail
 refine bodyPost_ret (results_cell_row rfl _ _ (w.heap.size + 1) 151 #[.int .i64 y0, .int .i64 y1, .int .i64 y2] (0, 0) _ rfl HSE.out Tryz.underlying151 rfl (by kernel_rfl)) rfl ?_
 exact ⟨(y0, y1, y2), (), _, _, _, rfl, HTO.out, HOW.out, (HD0.out.pair (HD1.out.pair HD2.out)).conv (fun y => y) (Nat.le_refl _) (fun o => ⟨o, rfl⟩) (fun _ => rfl) rfl (fun _ => rfl)⟩
def cdBy : Cd (Spn) := ⟨byT, byO, rdBy, fun _ => 20, rfl⟩
set_option maxRecDepth 100000 in
set_option maxHeartbeats 4000000 in
theorem pdayN_any (P : Nat) (x : Spn) (hx : I64 x.1 ∧ I64 x.2) (m : Md) (b : Bool) (F : Nat → Prop) (w : World) (h : PsAt w P m b F) (hr : m.Room (cdBy.cost x)) :
  Calls Tryz.prog 158 #[.pointer (some ⟨P, 0, none⟩), .agg #[.int .i64 x.1, .int .i64 x.2]] w (Tfl (fun y : Spn => .agg #[.int .i64 y.1, .int .i64 y.2]) cdBy x P m b F w) := by
 obtain ⟨W1, hW1⟩ : ∃ W1, ((w.alloc (.cells #[.int .i64 x.1, .int .i64 x.2] 175)).alloc (.cells #[.int .i64 0, .int .i64 0] 175)) = W1 := ⟨_, rfl⟩
 have HB : Hid (Below w.heap.size w W1) := by show Below _ _ _; rw [← hW1]; exact ((Below.refl _ _).alloc (Nat.le_refl _) _).alloc (by simp) _
 have hb1 : W1.heap[w.heap.size]? = some (.cells #[.int .i64 x.1, .int .i64 x.2] 175 (0, 0)) := by rw [← hW1, heap_alloc_old _ _ (by simp), heap_alloc_new]
 have hb2 : W1.heap[w.heap.size + 1]? = some (.cells #[.int .i64 0, .int .i64 0] 175 (0, 0)) := by rw [← hW1]; exact heap_alloc_new2 _ _ _
 have n1 : ¬ F w.heap.size := h.not (Nat.le_refl _)
 have n2 : ¬ F (w.heap.size + 1) := h.not (by omega)
 have HN2 : Hid (¬ F (w.heap.size + 1) ∧ w.heap.size + 1 < W1.heap.size) := ⟨n2, heap_lt hb2⟩
 have E1 := Lib.hid hW1
 have HB0 : Hid (W1.heap.size ≤ w.heap.size + 1 + 1 ∧ w.heap.size ≤ w.heap.size + 1) := ⟨by rw [← hW1]; simp, by omega⟩
 obtain ⟨XB, hXB⟩ : ∃ X : World → Prop, X = fun V => V.heap[w.heap.size]? = some (.cells #[.int .i64 x.1, .int .i64 x.2] 175 (0, 0)) := ⟨_, rfl⟩
 obtain ⟨X, hX⟩ : ∃ X : World → Prop, X = fun V => XB V ∧ V.heap[w.heap.size + 1]? = some (.cells #[.int .i64 0, .int .i64 0] 175 (0, 0)) := ⟨_, rfl⟩
 have HZL : Hid (∀ V, XB V → V.cell? ⟨w.heap.size, 0, none⟩ = some (.int .i64 x.1) ∧ V.cell? ⟨w.heap.size, 1, none⟩ = some (.int .i64 x.2)) := fun V hV => by
  rw [hXB] at hV
  exact ⟨blk_cell hV rfl, blk_cell hV rfl⟩
 have HXB : Hid (∀ V, X V → XB V) := fun V hV => by rw [hX] at hV; exact hV.1
 have HXR : Hid (∀ V, X V → V.heap[w.heap.size + 1]? = some (.cells #[.int .i64 0, .int .i64 0] 175 (0, 0))) := fun V hV => by rw [hX] at hV; exact hV.2
 have HXS : Hid (∀ V vs, X V → XB (V.setCells (w.heap.size + 1) 0 vs)) := fun V vs hV => by
  rw [hX] at hV
  have hV := hV.1
  rw [hXB] at hV ⊢
  show (V.setCells (w.heap.size + 1) 0 vs).heap[w.heap.size]? = _
  rw [setCells_ne (by omega)]; exact hV
 have HS0 : Hid (St W1 W1.drew P m b F F X (fun _ => True)) := (St.start (h.below HB.out) (by rw [hX, hXB]; exact (Held.blk hb1 n1).and (Held.blk hb2 n2))).drew
 have HR0 : Hid (m.Room ((cdZ (-5) 5).cost (x.1) + ((cdInt 6).cost (x.2) + 0))) := hr.mono (by exact Nat.le_refl _)
 have HC0 := Lib.hid (fun m b F w h hr => pwithin_any P (x.1) 5 (by decide) (hx.1) m b F w h hr)
 have HC1 := Lib.hid (fun m b F w h hr => pweekday_any P (x.2) (hx.2) m b F w h hr)
 clear hW1 hX hXB hb1 hb2 n1 n2 h hr
 go_enter Tryz.func158, Tryz.ntmps158
 go_upto_region 1 with fail
 rw [E1.out]
 refine wp_region_lexO XB (fun k => [3, 7, 9].contains k) [0, 1, 2, 4, 5, 6, 3, 7, 8, 9] rfl (by kernel_rfl) (by kernel_rfl) (by kernel_rfl) (fun _ _ _ _ _ h => h) (HXB.out _ HS0.out.now) ?_
 generalize World.drew W1 = w0 at *
 iterate 6 (refine wpHo_yes (v := ?_) rfl rfl rfl (fun w' hS => ?_) ?_; rotate_left; (obtain ⟨f0, f1⟩ := HZL.out w' hS; go_simp; with_reducible rfl); (try simp only [List.getElem_toArray, List.getElem_cons_succ, List.getElem_cons_zero, Act.put, List.setIfInBounds_toArray, List.set_cons_zero, List.set_cons_succ]))
 refine wpHo_callYes rfl rfl rfl (fun K hK => ?_)
 go_simp
 go_at_call 135
 refine (HC0.out _ _ _ _ HS0.out.to.at_ (HR0.out.mono (Nat.le_add_right _ _))).mono ?_
 rintro e w1 ⟨y0, m0, b0, F0, rfl, hT, hD, hy⟩
 have HD0 := Lib.hid hD
 have HR1 := Lib.hid (hD.room HR0.out)
 have HS1 := Lib.hid (HS0.out.tel hT)
 clear hT hD hy HS0 HR0 HC0
 refine hK _ _ (HXB.out _ HS1.out.now) (fun _ => ?_)
 clear hK K
 refine wpHo_callYes rfl rfl rfl (fun K hK => ?_)
 go_simp
 go_at_call 159
 refine (HC1.out _ _ _ _ HS1.out.to.at_ (HR1.out.mono (Nat.le_add_right _ _))).mono ?_
 rintro e w2 ⟨y1, m1, b1, F1, rfl, hT, hD, hy⟩
 have HD1 := Lib.hid hD
 have HR2 := Lib.hid (hD.room HR1.out)
 have HS2 := Lib.hid (HS1.out.tel hT)
 clear hT hD hy HS1 HR1 HC1
 refine hK _ _ (HXB.out _ HS2.out.now) (fun _ => ?_)
 clear hK K
 iterate 1 (refine wpHo_yes (v := ?_) rfl rfl rfl (fun w' hS => ?_) ?_; rotate_left; (obtain ⟨f0, f1⟩ := HZL.out w' hS; go_simp; with_reducible rfl); (try simp only [List.getElem_toArray, List.getElem_cons_succ, List.getElem_cons_zero, Act.put, List.setIfInBounds_toArray, List.set_cons_zero, List.set_cons_succ]))
 refine wpHo_callYes rfl rfl rfl (fun K hK => ?_)
 have HRB := Lib.hid (HXR.out _ HS2.out.now)
 refine wp_store_mid 175 (.tmp 4) (.tmp 13) rfl (w.heap.size + 1) 0 #[.int .i64 y0, .int .i64 y1] rfl rfl (blk_there HRB.out (by simp)) (by kernel_rfl) (by simp [Value.oneCell']) ?_
 refine hK _ _ (HXS.out _ _ HS2.out.now) (fun _ => ?_)
 clear hK K
 have hset := setCells_blk (b := w.heap.size + 1) [.int .i64 y0, .int .i64 y1] 0 _ _ HRB.out
 have HTO := Lib.hid (HS2.out.to.store' HB.out (R := w.heap.size + 1) (by omega) (HS2.out.to.not HN2.out.1 HN2.out.2) 0 [.int .i64 y0, .int .i64 y1])
 have HOW := Lib.hid ((HS2.out.y.store (R := w.heap.size + 1) HN2.out.2 0 [.int .i64 y0, .int .i64 y1]).mono HB.out.size)
 obtain ⟨w', hw'⟩ : ∃ w', w2.setCells (w.heap.size + 1) 0 [.int .i64 y0, .int .i64 y1] = w' := ⟨_, rfl⟩
 have hw'2 : w2.setCells (w.heap.size + 1) 0 #[.int .i64 y0, .int .i64 y1].toList = w' := hw'
 rw [hw'] at hset HTO HOW
 rw [hw'2]
 clear hw' hw'2
 have hset : w'.heap[w.heap.size + 1]? = some (.cells #[.int .i64 y0, .int .i64 y1] 175 (0, 0)) := hset
 have HSE := Lib.hid hset
 clear hset
 show Exit.then _ _ _ _ _
 go_wp2_with fail
 refine bodyPost_ret (results_cell_row rfl _ _ (w.heap.size + 1) 175 #[.int .i64 y0, .int .i64 y1] (0, 0) _ rfl HSE.out Tryz.underlying175 rfl (by kernel_rfl)) rfl ?_
 exact ⟨(y0, y1), (), _, _, _, rfl, HTO.out, HOW.out, (HD0.out.pair HD1.out).conv (fun y => y) (Nat.le_refl _) (fun o => ⟨o, rfl⟩) (fun _ => rfl) rfl (fun _ => rfl)⟩
def cdCh : Cd (Int × Int × Int) := ⟨chT, chO, rdCh, fun _ => 30, rfl⟩
set_option maxRecDepth 100000 in
set_option maxHeartbeats 4000000 in
theorem pchange_any (P : Nat) (x : Int × Int × Int) (hx : I64 x.1 ∧ I64 x.2.1 ∧ I64 x.2.2) (m : Md) (b : Bool) (F : Nat → Prop) (w : World) (h : PsAt w P m b F) (hr : m.Room (cdCh.cost x)) :
  Calls Tryz.prog 145 #[.pointer (some ⟨P, 0, none⟩), .agg #[.int .i64 x.1, .int .i64 x.2.1, .int .i64 x.2.2]] w (Tfl (fun y : Int × Int × Int => .agg #[.int .i64 y.1, .int .i64 y.2.1, .int .i64 y.2.2]) cdCh x P m b F w) := by
 obtain ⟨W1, hW1⟩ : ∃ W1, ((w.alloc (.cells #[.int .i64 x.1, .int .i64 x.2.1, .int .i64 x.2.2] 156)).alloc (.cells #[.int .i64 0, .int .i64 0, .int .i64 0] 156)) = W1 := ⟨_, rfl⟩
 have HB : Hid (Below w.heap.size w W1) := by show Below _ _ _; rw [← hW1]; exact ((Below.refl _ _).alloc (Nat.le_refl _) _).alloc (by simp) _
 have hb1 : W1.heap[w.heap.size]? = some (.cells #[.int .i64 x.1, .int .i64 x.2.1, .int .i64 x.2.2] 156 (0, 0)) := by rw [← hW1, heap_alloc_old _ _ (by simp), heap_alloc_new]
 have hb2 : W1.heap[w.heap.size + 1]? = some (.cells #[.int .i64 0, .int .i64 0, .int .i64 0] 156 (0, 0)) := by rw [← hW1]; exact heap_alloc_new2 _ _ _
 have n1 : ¬ F w.heap.size := h.not (Nat.le_refl _)
 have n2 : ¬ F (w.heap.size + 1) := h.not (by omega)
 have HN2 : Hid (¬ F (w.heap.size + 1) ∧ w.heap.size + 1 < W1.heap.size) := ⟨n2, heap_lt hb2⟩
 have E1 := Lib.hid hW1
 have HB0 : Hid (W1.heap.size ≤ w.heap.size + 1 + 1 ∧ w.heap.size ≤ w.heap.size + 1) := ⟨by rw [← hW1]; simp, by omega⟩
 obtain ⟨XB, hXB⟩ : ∃ X : World → Prop, X = fun V => V.heap[w.heap.size]? = some (.cells #[.int .i64 x.1, .int .i64 x.2.1, .int .i64 x.2.2] 156 (0, 0)) := ⟨_, rfl⟩
 obtain ⟨X, hX⟩ : ∃ X : World → Prop, X = fun V => XB V ∧ V.heap[w.heap.size + 1]? = some (.cells #[.int .i64 0, .int .i64 0, .int .i64 0] 156 (0, 0)) := ⟨_, rfl⟩
 have HZL : Hid (∀ V, XB V → V.cell? ⟨w.heap.size, 0, none⟩ = some (.int .i64 x.1) ∧ V.cell? ⟨w.heap.size, 1, none⟩ = some (.int .i64 x.2.1) ∧ V.cell? ⟨w.heap.size, 2, none⟩ = some (.int .i64 x.2.2)) := fun V hV => by
  rw [hXB] at hV
  exact ⟨blk_cell hV rfl, blk_cell hV rfl, blk_cell hV rfl⟩
 have HXB : Hid (∀ V, X V → XB V) := fun V hV => by rw [hX] at hV; exact hV.1
 have HXR : Hid (∀ V, X V → V.heap[w.heap.size + 1]? = some (.cells #[.int .i64 0, .int .i64 0, .int .i64 0] 156 (0, 0))) := fun V hV => by rw [hX] at hV; exact hV.2
 have HXS : Hid (∀ V vs, X V → XB (V.setCells (w.heap.size + 1) 0 vs)) := fun V vs hV => by
  rw [hX] at hV
  have hV := hV.1
  rw [hXB] at hV ⊢
  show (V.setCells (w.heap.size + 1) 0 vs).heap[w.heap.size]? = _
  rw [setCells_ne (by omega)]; exact hV
 have HS0 : Hid (St W1 W1.drew P m b F F X (fun _ => True)) := (St.start (h.below HB.out) (by rw [hX, hXB]; exact (Held.blk hb1 n1).and (Held.blk hb2 n2))).drew
 have HR0 : Hid (m.Room (cdSig.cost (x.1) + (cdSig.cost (x.2.1) + ((cdInt 10080).cost (x.2.2) + 0)))) := hr.mono (by exact Nat.le_refl _)
 have HC0 := Lib.hid (fun m b F w h hr => psigned_any P (x.1) (hx.1) m b F w h hr)
 have HC1 := Lib.hid (fun m b F w h hr => psigned_any P (x.2.1) (hx.2.1) m b F w h hr)
 have HC2 := Lib.hid (fun m b F w h hr => plong_any P (x.2.2) (hx.2.2) m b F w h hr)
 clear hW1 hX hXB hb1 hb2 n1 n2 h hr
 go_enter Tryz.func145, Tryz.ntmps145
 go_upto_region 1 with fail
 rw [E1.out]
 refine wp_region_lexO XB (fun k => [3, 7, 11, 13].contains k) [0, 1, 2, 4, 5, 6, 8, 9, 10, 3, 7, 11, 12, 13] rfl (by kernel_rfl) (by kernel_rfl) (by kernel_rfl) (fun _ _ _ _ _ h => h) (HXB.out _ HS0.out.now) ?_
 generalize World.drew W1 = w0 at *
 iterate 9 (refine wpHo_yes (v := ?_) rfl rfl rfl (fun w' hS => ?_) ?_; rotate_left; (obtain ⟨f0, f1, f2⟩ := HZL.out w' hS; go_simp; with_reducible rfl); (try simp only [List.getElem_toArray, List.getElem_cons_succ, List.getElem_cons_zero, Act.put, List.setIfInBounds_toArray, List.set_cons_zero, List.set_cons_succ]))
 refine wpHo_callYes rfl rfl rfl (fun K hK => ?_)
 go_simp
 go_at_call 90
 refine (HC0.out _ _ _ _ HS0.out.to.at_ (HR0.out.mono (Nat.le_add_right _ _))).mono ?_
 rintro e w1 ⟨y0, m0, b0, F0, rfl, hT, hD, hy⟩
 have HD0 := Lib.hid hD
 have HR1 := Lib.hid (hD.room HR0.out)
 have HS1 := Lib.hid (HS0.out.tel hT)
 clear hT hD hy HS0 HR0 HC0
 refine hK _ _ (HXB.out _ HS1.out.now) (fun _ => ?_)
 clear hK K
 refine wpHo_callYes rfl rfl rfl (fun K hK => ?_)
 go_simp
 go_at_call 90
 refine (HC1.out _ _ _ _ HS1.out.to.at_ (HR1.out.mono (Nat.le_add_right _ _))).mono ?_
 rintro e w2 ⟨y1, m1, b1, F1, rfl, hT, hD, hy⟩
 have HD1 := Lib.hid hD
 have HR2 := Lib.hid (hD.room HR1.out)
 have HS2 := Lib.hid (HS1.out.tel hT)
 clear hT hD hy HS1 HR1 HC1
 refine hK _ _ (HXB.out _ HS2.out.now) (fun _ => ?_)
 clear hK K
 refine wpHo_callYes rfl rfl rfl (fun K hK => ?_)
 go_simp
 go_at_call 142
 refine (HC2.out _ _ _ _ HS2.out.to.at_ (HR2.out.mono (Nat.le_add_right _ _))).mono ?_
 rintro e w3 ⟨y2, m2, b2, F2, rfl, hT, hD, hy⟩
 have HD2 := Lib.hid hD
 have HR3 := Lib.hid (hD.room HR2.out)
 have HS3 := Lib.hid (HS2.out.tel hT)
 clear hT hD hy HS2 HR2 HC2
 refine hK _ _ (HXB.out _ HS3.out.now) (fun _ => ?_)
 clear hK K
 iterate 1 (refine wpHo_yes (v := ?_) rfl rfl rfl (fun w' hS => ?_) ?_; rotate_left; (obtain ⟨f0, f1, f2⟩ := HZL.out w' hS; go_simp; with_reducible rfl); (try simp only [List.getElem_toArray, List.getElem_cons_succ, List.getElem_cons_zero, Act.put, List.setIfInBounds_toArray, List.set_cons_zero, List.set_cons_succ]))
 refine wpHo_callYes rfl rfl rfl (fun K hK => ?_)
 have HRB := Lib.hid (HXR.out _ HS3.out.now)
 refine wp_store_mid 156 (.tmp 4) (.tmp 17) rfl (w.heap.size + 1) 0 #[.int .i64 y0, .int .i64 y1, .int .i64 y2] rfl rfl (blk_there HRB.out (by simp)) (by kernel_rfl) (by simp [Value.oneCell']) ?_
 refine hK _ _ (HXS.out _ _ HS3.out.now) (fun _ => ?_)
 clear hK K
 have hset := setCells_blk (b := w.heap.size + 1) [.int .i64 y0, .int .i64 y1, .int .i64 y2] 0 _ _ HRB.out
 have HTO := Lib.hid (HS3.out.to.store' HB.out (R := w.heap.size + 1) (by omega) (HS3.out.to.not HN2.out.1 HN2.out.2) 0 [.int .i64 y0, .int .i64 y1, .int .i64 y2])
 have HOW := Lib.hid ((HS3.out.y.store (R := w.heap.size + 1) HN2.out.2 0 [.int .i64 y0, .int .i64 y1, .int .i64 y2]).mono HB.out.size)
 obtain ⟨w', hw'⟩ : ∃ w', w3.setCells (w.heap.size + 1) 0 [.int .i64 y0, .int .i64 y1, .int .i64 y2] = w' := ⟨_, rfl⟩
 have hw'2 : w3.setCells (w.heap.size + 1) 0 #[.int .i64 y0, .int .i64 y1, .int .i64 y2].toList = w' := hw'
 rw [hw'] at hset HTO HOW
 rw [hw'2]
 clear hw' hw'2
 have hset : w'.heap[w.heap.size + 1]? = some (.cells #[.int .i64 y0, .int .i64 y1, .int .i64 y2] 156 (0, 0)) := hset
 have HSE := Lib.hid hset
 clear hset
 show Exit.then _ _ _ _ _
 go_wp2_with fail
 refine bodyPost_ret (results_cell_row rfl _ _ (w.heap.size + 1) 156 #[.int .i64 y0, .int .i64 y1, .int .i64 y2] (0, 0) _ rfl HSE.out Tryz.underlying156 rfl (by kernel_rfl)) rfl ?_
 exact ⟨(y0, y1, y2), (), _, _, _, rfl, HTO.out, HOW.out, (HD0.out.pair (HD1.out.pair HD2.out)).conv (fun y => y) (Nat.le_refl _) (fun o => ⟨o, rfl⟩) (fun _ => rfl) rfl (fun _ => rfl)⟩
def cdWt : Cd (Nat × Int) := ⟨wtT, wtO 1000, rdWt 1000, fun _ => 20, rfl⟩
set_option maxRecDepth 100000 in
set_option maxHeartbeats 4000000 in
theorem pwanted_any (P : Nat) (x : Nat × Int) (hx : U32 x.1 ∧ I64 x.2) (m : Md) (b : Bool) (F : Nat → Prop) (w : World) (h : PsAt w P m b F) (hr : m.Room (cdWt.cost x)) :
  Calls Tryz.prog 148 #[.pointer (some ⟨P, 0, none⟩), .agg #[.int .u32 (x.1 : Int), .int .i64 x.2]] w (Tfl (fun y : Nat × Int => .agg #[.int .u32 (y.1 : Int), .int .i64 y.2]) cdWt x P m b F w) := by
 obtain ⟨W1, hW1⟩ : ∃ W1, ((w.alloc (.cells #[.int .u32 (x.1 : Int), .int .i64 x.2] 160)).alloc (.cells #[.int .u32 0, .int .i64 0] 160)) = W1 := ⟨_, rfl⟩
 have HB : Hid (Below w.heap.size w W1) := by show Below _ _ _; rw [← hW1]; exact ((Below.refl _ _).alloc (Nat.le_refl _) _).alloc (by simp) _
 have hb1 : W1.heap[w.heap.size]? = some (.cells #[.int .u32 (x.1 : Int), .int .i64 x.2] 160 (0, 0)) := by rw [← hW1, heap_alloc_old _ _ (by simp), heap_alloc_new]
 have hb2 : W1.heap[w.heap.size + 1]? = some (.cells #[.int .u32 0, .int .i64 0] 160 (0, 0)) := by rw [← hW1]; exact heap_alloc_new2 _ _ _
 have n1 : ¬ F w.heap.size := h.not (Nat.le_refl _)
 have n2 : ¬ F (w.heap.size + 1) := h.not (by omega)
 have HN2 : Hid (¬ F (w.heap.size + 1) ∧ w.heap.size + 1 < W1.heap.size) := ⟨n2, heap_lt hb2⟩
 have E1 := Lib.hid hW1
 have HB0 : Hid (W1.heap.size ≤ w.heap.size + 1 + 1 ∧ w.heap.size ≤ w.heap.size + 1) := ⟨by rw [← hW1]; simp, by omega⟩
 obtain ⟨XB, hXB⟩ : ∃ X : World → Prop, X = fun V => V.heap[w.heap.size]? = some (.cells #[.int .u32 (x.1 : Int), .int .i64 x.2] 160 (0, 0)) := ⟨_, rfl⟩
 obtain ⟨X, hX⟩ : ∃ X : World → Prop, X = fun V => XB V ∧ V.heap[w.heap.size + 1]? = some (.cells #[.int .u32 0, .int .i64 0] 160 (0, 0)) := ⟨_, rfl⟩
 have HZL : Hid (∀ V, XB V → V.cell? ⟨w.heap.size, 0, none⟩ = some (.int .u32 (x.1 : Int)) ∧ V.cell? ⟨w.heap.size, 1, none⟩ = some (.int .i64 x.2)) := fun V hV => by
  rw [hXB] at hV
  exact ⟨blk_cell hV rfl, blk_cell hV rfl⟩
 have HXB : Hid (∀ V, X V → XB V) := fun V hV => by rw [hX] at hV; exact hV.1
 have HXR : Hid (∀ V, X V → V.heap[w.heap.size + 1]? = some (.cells #[.int .u32 0, .int .i64 0] 160 (0, 0))) := fun V hV => by rw [hX] at hV; exact hV.2
 have HXS : Hid (∀ V vs, X V → XB (V.setCells (w.heap.size + 1) 0 vs)) := fun V vs hV => by
  rw [hX] at hV
  have hV := hV.1
  rw [hXB] at hV ⊢
  show (V.setCells (w.heap.size + 1) 0 vs).heap[w.heap.size]? = _
  rw [setCells_ne (by omega)]; exact hV
 have HS0 : Hid (St W1 W1.drew P m b F F X (fun _ => True)) := (St.start (h.below HB.out) (by rw [hX, hXB]; exact (Held.blk hb1 n1).and (Held.blk hb2 n2))).drew
 have HR0 : Hid (m.Room ((cdNum 4294967295).cost (x.1) + ((cdInt 1000).cost (x.2) + 0))) := hr.mono (by exact Nat.le_refl _)
 have HC0 := Lib.hid (fun m b F w h hr => pid_any P (x.1) (hx.1) m b F w h hr)
 have HC1 := Lib.hid (fun m b F w h hr => pnumberI_any P (x.2) 1000 (by decide) (hx.2) m b F w h hr)
 clear hW1 hX hXB hb1 hb2 n1 n2 h hr
 go_enter Tryz.func148, Tryz.ntmps148
 go_upto_region 1 with fail
 rw [E1.out]
 refine wp_region_lexO XB (fun k => [3, 7, 9].contains k) [0, 1, 2, 4, 5, 6, 3, 7, 8, 9] rfl (by kernel_rfl) (by kernel_rfl) (by kernel_rfl) (fun _ _ _ _ _ h => h) (HXB.out _ HS0.out.now) ?_
 generalize World.drew W1 = w0 at *
 iterate 6 (refine wpHo_yes (v := ?_) rfl rfl rfl (fun w' hS => ?_) ?_; rotate_left; (obtain ⟨f0, f1⟩ := HZL.out w' hS; go_simp; with_reducible rfl); (try simp only [List.getElem_toArray, List.getElem_cons_succ, List.getElem_cons_zero, Act.put, List.setIfInBounds_toArray, List.set_cons_zero, List.set_cons_succ]))
 refine wpHo_callYes rfl rfl rfl (fun K hK => ?_)
 go_simp
 go_at_call 103
 refine (HC0.out _ _ _ _ HS0.out.to.at_ (HR0.out.mono (Nat.le_add_right _ _))).mono ?_
 rintro e w1 ⟨y0, m0, b0, F0, rfl, hT, hD, hy⟩
 have HD0 := Lib.hid hD
 have HR1 := Lib.hid (hD.room HR0.out)
 have HS1 := Lib.hid (HS0.out.tel hT)
 clear hT hD hy HS0 HR0 HC0
 refine hK _ _ (HXB.out _ HS1.out.now) (fun _ => ?_)
 clear hK K
 refine wpHo_callYes rfl rfl rfl (fun K hK => ?_)
 go_simp
 go_at_call 102
 refine (HC1.out _ _ _ _ HS1.out.to.at_ (HR1.out.mono (Nat.le_add_right _ _))).mono ?_
 rintro e w2 ⟨y1, m1, b1, F1, rfl, hT, hD, hy⟩
 have HD1 := Lib.hid hD
 have HR2 := Lib.hid (hD.room HR1.out)
 have HS2 := Lib.hid (HS1.out.tel hT)
 clear hT hD hy HS1 HR1 HC1
 refine hK _ _ (HXB.out _ HS2.out.now) (fun _ => ?_)
 clear hK K
 iterate 1 (refine wpHo_yes (v := ?_) rfl rfl rfl (fun w' hS => ?_) ?_; rotate_left; (obtain ⟨f0, f1⟩ := HZL.out w' hS; go_simp; with_reducible rfl); (try simp only [List.getElem_toArray, List.getElem_cons_succ, List.getElem_cons_zero, Act.put, List.setIfInBounds_toArray, List.set_cons_zero, List.set_cons_succ]))
 refine wpHo_callYes rfl rfl rfl (fun K hK => ?_)
 have HRB := Lib.hid (HXR.out _ HS2.out.now)
 refine wp_store_mid 160 (.tmp 4) (.tmp 13) rfl (w.heap.size + 1) 0 #[.int .u32 (y0 : Int), .int .i64 y1] rfl rfl (blk_there HRB.out (by simp)) (by kernel_rfl) (by simp [Value.oneCell']) ?_
 refine hK _ _ (HXS.out _ _ HS2.out.now) (fun _ => ?_)
 clear hK K
 have hset := setCells_blk (b := w.heap.size + 1) [.int .u32 (y0 : Int), .int .i64 y1] 0 _ _ HRB.out
 have HTO := Lib.hid (HS2.out.to.store' HB.out (R := w.heap.size + 1) (by omega) (HS2.out.to.not HN2.out.1 HN2.out.2) 0 [.int .u32 (y0 : Int), .int .i64 y1])
 have HOW := Lib.hid ((HS2.out.y.store (R := w.heap.size + 1) HN2.out.2 0 [.int .u32 (y0 : Int), .int .i64 y1]).mono HB.out.size)
 obtain ⟨w', hw'⟩ : ∃ w', w2.setCells (w.heap.size + 1) 0 [.int .u32 (y0 : Int), .int .i64 y1] = w' := ⟨_, rfl⟩
 have hw'2 : w2.setCells (w.heap.size + 1) 0 #[.int .u32 (y0 : Int), .int .i64 y1].toList = w' := hw'
 rw [hw'] at hset HTO HOW
 rw [hw'2]
 clear hw' hw'2
 have hset : w'.heap[w.heap.size + 1]? = some (.cells #[.int .u32 (y0 : Int), .int .i64 y1] 160 (0, 0)) := hset
 have HSE := Lib.hid hset
 clear hset
 show Exit.then _ _ _ _ _
 go_wp2_with fail
 refine bodyPost_ret (results_cell_row rfl _ _ (w.heap.size + 1) 160 #[.int .u32 (y0 : Int), .int .i64 y1] (0, 0) _ rfl HSE.out Tryz.underlying160 rfl (by kernel_rfl)) rfl ?_
 exact ⟨(y0, y1), (), _, _, _, rfl, HTO.out, HOW.out, (HD0.out.pair HD1.out).conv (fun y => y) (Nat.le_refl _) (fun o => ⟨⟨u32_le.1 o.1, o.2⟩, rfl⟩) (fun _ => rfl) rfl (fun _ => rfl)⟩
def cdAp : Cd (Nat × Nat) := ⟨apT, apO, rdAp, fun _ => 20, rfl⟩
set_option maxRecDepth 100000 in
set_option maxHeartbeats 4000000 in
theorem ppair_any (P : Nat) (x : Nat × Nat) (hx : U32 x.1 ∧ U32 x.2) (m : Md) (b : Bool) (F : Nat → Prop) (w : World) (h : PsAt w P m b F) (hr : m.Room (cdAp.cost x)) :
  Calls Tryz.prog 150 #[.pointer (some ⟨P, 0, none⟩), .agg #[.int .u32 (x.1 : Int), .int .u32 (x.2 : Int)]] w (Tfl (fun y : Nat × Nat => .agg #[.int .u32 (y.1 : Int), .int .u32 (y.2 : Int)]) cdAp x P m b F w) := by
 obtain ⟨W1, hW1⟩ : ∃ W1, ((w.alloc (.cells #[.int .u32 (x.1 : Int), .int .u32 (x.2 : Int)] 163)).alloc (.cells #[.int .u32 0, .int .u32 0] 163)) = W1 := ⟨_, rfl⟩
 have HB : Hid (Below w.heap.size w W1) := by show Below _ _ _; rw [← hW1]; exact ((Below.refl _ _).alloc (Nat.le_refl _) _).alloc (by simp) _
 have hb1 : W1.heap[w.heap.size]? = some (.cells #[.int .u32 (x.1 : Int), .int .u32 (x.2 : Int)] 163 (0, 0)) := by rw [← hW1, heap_alloc_old _ _ (by simp), heap_alloc_new]
 have hb2 : W1.heap[w.heap.size + 1]? = some (.cells #[.int .u32 0, .int .u32 0] 163 (0, 0)) := by rw [← hW1]; exact heap_alloc_new2 _ _ _
 have n1 : ¬ F w.heap.size := h.not (Nat.le_refl _)
 have n2 : ¬ F (w.heap.size + 1) := h.not (by omega)
 have HN2 : Hid (¬ F (w.heap.size + 1) ∧ w.heap.size + 1 < W1.heap.size) := ⟨n2, heap_lt hb2⟩
 have E1 := Lib.hid hW1
 have HB0 : Hid (W1.heap.size ≤ w.heap.size + 1 + 1 ∧ w.heap.size ≤ w.heap.size + 1) := ⟨by rw [← hW1]; simp, by omega⟩
 obtain ⟨XB, hXB⟩ : ∃ X : World → Prop, X = fun V => V.heap[w.heap.size]? = some (.cells #[.int .u32 (x.1 : Int), .int .u32 (x.2 : Int)] 163 (0, 0)) := ⟨_, rfl⟩
 obtain ⟨X, hX⟩ : ∃ X : World → Prop, X = fun V => XB V ∧ V.heap[w.heap.size + 1]? = some (.cells #[.int .u32 0, .int .u32 0] 163 (0, 0)) := ⟨_, rfl⟩
 have HZL : Hid (∀ V, XB V → V.cell? ⟨w.heap.size, 0, none⟩ = some (.int .u32 (x.1 : Int)) ∧ V.cell? ⟨w.heap.size, 1, none⟩ = some (.int .u32 (x.2 : Int))) := fun V hV => by
  rw [hXB] at hV
  exact ⟨blk_cell hV rfl, blk_cell hV rfl⟩
 have HXB : Hid (∀ V, X V → XB V) := fun V hV => by rw [hX] at hV; exact hV.1
 have HXR : Hid (∀ V, X V → V.heap[w.heap.size + 1]? = some (.cells #[.int .u32 0, .int .u32 0] 163 (0, 0))) := fun V hV => by rw [hX] at hV; exact hV.2
 have HXS : Hid (∀ V vs, X V → XB (V.setCells (w.heap.size + 1) 0 vs)) := fun V vs hV => by
  rw [hX] at hV
  have hV := hV.1
  rw [hXB] at hV ⊢
  show (V.setCells (w.heap.size + 1) 0 vs).heap[w.heap.size]? = _
  rw [setCells_ne (by omega)]; exact hV
 have HS0 : Hid (St W1 W1.drew P m b F F X (fun _ => True)) := (St.start (h.below HB.out) (by rw [hX, hXB]; exact (Held.blk hb1 n1).and (Held.blk hb2 n2))).drew
 have HR0 : Hid (m.Room ((cdNum 4294967295).cost (x.1) + ((cdNum 4294967295).cost (x.2) + 0))) := hr.mono (by exact Nat.le_refl _)
 have HC0 := Lib.hid (fun m b F w h hr => pid_any P (x.1) (hx.1) m b F w h hr)
 have HC1 := Lib.hid (fun m b F w h hr => pid_any P (x.2) (hx.2) m b F w h hr)
 clear hW1 hX hXB hb1 hb2 n1 n2 h hr
 go_enter Tryz.func150, Tryz.ntmps150
 go_upto_region 1 with fail
 rw [E1.out]
 refine wp_region_lexO XB (fun k => [3, 7, 9].contains k) [0, 1, 2, 4, 5, 6, 3, 7, 8, 9] rfl (by kernel_rfl) (by kernel_rfl) (by kernel_rfl) (fun _ _ _ _ _ h => h) (HXB.out _ HS0.out.now) ?_
 generalize World.drew W1 = w0 at *
 iterate 6 (refine wpHo_yes (v := ?_) rfl rfl rfl (fun w' hS => ?_) ?_; rotate_left; (obtain ⟨f0, f1⟩ := HZL.out w' hS; go_simp; with_reducible rfl); (try simp only [List.getElem_toArray, List.getElem_cons_succ, List.getElem_cons_zero, Act.put, List.setIfInBounds_toArray, List.set_cons_zero, List.set_cons_succ]))
 refine wpHo_callYes rfl rfl rfl (fun K hK => ?_)
 go_simp
 go_at_call 103
 refine (HC0.out _ _ _ _ HS0.out.to.at_ (HR0.out.mono (Nat.le_add_right _ _))).mono ?_
 rintro e w1 ⟨y0, m0, b0, F0, rfl, hT, hD, hy⟩
 have HD0 := Lib.hid hD
 have HR1 := Lib.hid (hD.room HR0.out)
 have HS1 := Lib.hid (HS0.out.tel hT)
 clear hT hD hy HS0 HR0 HC0
 refine hK _ _ (HXB.out _ HS1.out.now) (fun _ => ?_)
 clear hK K
 refine wpHo_callYes rfl rfl rfl (fun K hK => ?_)
 go_simp
 go_at_call 103
 refine (HC1.out _ _ _ _ HS1.out.to.at_ (HR1.out.mono (Nat.le_add_right _ _))).mono ?_
 rintro e w2 ⟨y1, m1, b1, F1, rfl, hT, hD, hy⟩
 have HD1 := Lib.hid hD
 have HR2 := Lib.hid (hD.room HR1.out)
 have HS2 := Lib.hid (HS1.out.tel hT)
 clear hT hD hy HS1 HR1 HC1
 refine hK _ _ (HXB.out _ HS2.out.now) (fun _ => ?_)
 clear hK K
 iterate 1 (refine wpHo_yes (v := ?_) rfl rfl rfl (fun w' hS => ?_) ?_; rotate_left; (obtain ⟨f0, f1⟩ := HZL.out w' hS; go_simp; with_reducible rfl); (try simp only [List.getElem_toArray, List.getElem_cons_succ, List.getElem_cons_zero, Act.put, List.setIfInBounds_toArray, List.set_cons_zero, List.set_cons_succ]))
 refine wpHo_callYes rfl rfl rfl (fun K hK => ?_)
 have HRB := Lib.hid (HXR.out _ HS2.out.now)
 refine wp_store_mid 163 (.tmp 4) (.tmp 13) rfl (w.heap.size + 1) 0 #[.int .u32 (y0 : Int), .int .u32 (y1 : Int)] rfl rfl (blk_there HRB.out (by simp)) (by kernel_rfl) (by simp [Value.oneCell']) ?_
 refine hK _ _ (HXS.out _ _ HS2.out.now) (fun _ => ?_)
 clear hK K
 have hset := setCells_blk (b := w.heap.size + 1) [.int .u32 (y0 : Int), .int .u32 (y1 : Int)] 0 _ _ HRB.out
 have HTO := Lib.hid (HS2.out.to.store' HB.out (R := w.heap.size + 1) (by omega) (HS2.out.to.not HN2.out.1 HN2.out.2) 0 [.int .u32 (y0 : Int), .int .u32 (y1 : Int)])
 have HOW := Lib.hid ((HS2.out.y.store (R := w.heap.size + 1) HN2.out.2 0 [.int .u32 (y0 : Int), .int .u32 (y1 : Int)]).mono HB.out.size)
 obtain ⟨w', hw'⟩ : ∃ w', w2.setCells (w.heap.size + 1) 0 [.int .u32 (y0 : Int), .int .u32 (y1 : Int)] = w' := ⟨_, rfl⟩
 have hw'2 : w2.setCells (w.heap.size + 1) 0 #[.int .u32 (y0 : Int), .int .u32 (y1 : Int)].toList = w' := hw'
 rw [hw'] at hset HTO HOW
 rw [hw'2]
 clear hw' hw'2
 have hset : w'.heap[w.heap.size + 1]? = some (.cells #[.int .u32 (y0 : Int), .int .u32 (y1 : Int)] 163 (0, 0)) := hset
 have HSE := Lib.hid hset
 clear hset
 show Exit.then _ _ _ _ _
 go_wp2_with fail
 refine bodyPost_ret (results_cell_row rfl _ _ (w.heap.size + 1) 163 #[.int .u32 (y0 : Int), .int .u32 (y1 : Int)] (0, 0) _ rfl HSE.out Tryz.underlying163 rfl (by kernel_rfl)) rfl ?_
 exact ⟨(y0, y1), (), _, _, _, rfl, HTO.out, HOW.out, (HD0.out.pair HD1.out).conv (fun y => y) (Nat.le_refl _) (fun o => ⟨⟨u32_le.1 o.1, u32_le.1 o.2⟩, rfl⟩) (fun _ => rfl) rfl (fun _ => rfl)⟩
def cdVo : Cd (Nat × Int) := ⟨wtT, wtO 40, rdWt 40, fun _ => 20, rfl⟩
set_option maxRecDepth 100000 in
set_option maxHeartbeats 4000000 in
theorem pvote_any (P : Nat) (x : Nat × Int) (hx : U32 x.1 ∧ I64 x.2) (m : Md) (b : Bool) (F : Nat → Prop) (w : World) (h : PsAt w P m b F) (hr : m.Room (cdVo.cost x)) :
  Calls Tryz.prog 124 #[.pointer (some ⟨P, 0, none⟩), .agg #[.int .u32 (x.1 : Int), .int .i64 x.2]] w (Tfl (fun y : Nat × Int => .agg #[.int .u32 (y.1 : Int), .int .i64 y.2]) cdVo x P m b F w) := by
 obtain ⟨W1, hW1⟩ : ∃ W1, ((w.alloc (.cells #[.int .u32 (x.1 : Int), .int .i64 x.2] 143)).alloc (.cells #[.int .u32 0, .int .i64 0] 143)) = W1 := ⟨_, rfl⟩
 have HB : Hid (Below w.heap.size w W1) := by show Below _ _ _; rw [← hW1]; exact ((Below.refl _ _).alloc (Nat.le_refl _) _).alloc (by simp) _
 have hb1 : W1.heap[w.heap.size]? = some (.cells #[.int .u32 (x.1 : Int), .int .i64 x.2] 143 (0, 0)) := by rw [← hW1, heap_alloc_old _ _ (by simp), heap_alloc_new]
 have hb2 : W1.heap[w.heap.size + 1]? = some (.cells #[.int .u32 0, .int .i64 0] 143 (0, 0)) := by rw [← hW1]; exact heap_alloc_new2 _ _ _
 have n1 : ¬ F w.heap.size := h.not (Nat.le_refl _)
 have n2 : ¬ F (w.heap.size + 1) := h.not (by omega)
 have HN2 : Hid (¬ F (w.heap.size + 1) ∧ w.heap.size + 1 < W1.heap.size) := ⟨n2, heap_lt hb2⟩
 have E1 := Lib.hid hW1
 have HB0 : Hid (W1.heap.size ≤ w.heap.size + 1 + 1 ∧ w.heap.size ≤ w.heap.size + 1) := ⟨by rw [← hW1]; simp, by omega⟩
 obtain ⟨XB, hXB⟩ : ∃ X : World → Prop, X = fun V => V.heap[w.heap.size]? = some (.cells #[.int .u32 (x.1 : Int), .int .i64 x.2] 143 (0, 0)) := ⟨_, rfl⟩
 obtain ⟨X, hX⟩ : ∃ X : World → Prop, X = fun V => XB V ∧ V.heap[w.heap.size + 1]? = some (.cells #[.int .u32 0, .int .i64 0] 143 (0, 0)) := ⟨_, rfl⟩
 have HZL : Hid (∀ V, XB V → V.cell? ⟨w.heap.size, 0, none⟩ = some (.int .u32 (x.1 : Int)) ∧ V.cell? ⟨w.heap.size, 1, none⟩ = some (.int .i64 x.2)) := fun V hV => by
  rw [hXB] at hV
  exact ⟨blk_cell hV rfl, blk_cell hV rfl⟩
 have HXB : Hid (∀ V, X V → XB V) := fun V hV => by rw [hX] at hV; exact hV.1
 have HXR : Hid (∀ V, X V → V.heap[w.heap.size + 1]? = some (.cells #[.int .u32 0, .int .i64 0] 143 (0, 0))) := fun V hV => by rw [hX] at hV; exact hV.2
 have HXS : Hid (∀ V vs, X V → XB (V.setCells (w.heap.size + 1) 0 vs)) := fun V vs hV => by
  rw [hX] at hV
  have hV := hV.1
  rw [hXB] at hV ⊢
  show (V.setCells (w.heap.size + 1) 0 vs).heap[w.heap.size]? = _
  rw [setCells_ne (by omega)]; exact hV
 have HS0 : Hid (St W1 W1.drew P m b F F X (fun _ => True)) := (St.start (h.below HB.out) (by rw [hX, hXB]; exact (Held.blk hb1 n1).and (Held.blk hb2 n2))).drew
 have HR0 : Hid (m.Room ((cdNum 4294967295).cost (x.1) + ((cdInt 40).cost (x.2) + 0))) := hr.mono (by exact Nat.le_refl _)
 have HC0 := Lib.hid (fun m b F w h hr => pid_any P (x.1) (hx.1) m b F w h hr)
 have HC1 := Lib.hid (fun m b F w h hr => pplace_any P (x.2) (hx.2) m b F w h hr)
 clear hW1 hX hXB hb1 hb2 n1 n2 h hr
 go_enter Tryz.func124, Tryz.ntmps124
 go_upto_region 1 with fail
 rw [E1.out]
 refine wp_region_lexO XB (fun k => [3, 7, 9].contains k) [0, 1, 2, 4, 5, 6, 3, 7, 8, 9] rfl (by kernel_rfl) (by kernel_rfl) (by kernel_rfl) (fun _ _ _ _ _ h => h) (HXB.out _ HS0.out.now) ?_
 generalize World.drew W1 = w0 at *
 iterate 6 (refine wpHo_yes (v := ?_) rfl rfl rfl (fun w' hS => ?_) ?_; rotate_left; (obtain ⟨f0, f1⟩ := HZL.out w' hS; go_simp; with_reducible rfl); (try simp only [List.getElem_toArray, List.getElem_cons_succ, List.getElem_cons_zero, Act.put, List.setIfInBounds_toArray, List.set_cons_zero, List.set_cons_succ]))
 refine wpHo_callYes rfl rfl rfl (fun K hK => ?_)
 go_simp
 go_at_call 103
 refine (HC0.out _ _ _ _ HS0.out.to.at_ (HR0.out.mono (Nat.le_add_right _ _))).mono ?_
 rintro e w1 ⟨y0, m0, b0, F0, rfl, hT, hD, hy⟩
 have HD0 := Lib.hid hD
 have HR1 := Lib.hid (hD.room HR0.out)
 have HS1 := Lib.hid (HS0.out.tel hT)
 clear hT hD hy HS0 HR0 HC0
 refine hK _ _ (HXB.out _ HS1.out.now) (fun _ => ?_)
 clear hK K
 refine wpHo_callYes rfl rfl rfl (fun K hK => ?_)
 go_simp
 go_at_call 108
 refine (HC1.out _ _ _ _ HS1.out.to.at_ (HR1.out.mono (Nat.le_add_right _ _))).mono ?_
 rintro e w2 ⟨y1, m1, b1, F1, rfl, hT, hD, hy⟩
 have HD1 := Lib.hid hD
 have HR2 := Lib.hid (hD.room HR1.out)
 have HS2 := Lib.hid (HS1.out.tel hT)
 clear hT hD hy HS1 HR1 HC1
 refine hK _ _ (HXB.out _ HS2.out.now) (fun _ => ?_)
 clear hK K
 iterate 1 (refine wpHo_yes (v := ?_) rfl rfl rfl (fun w' hS => ?_) ?_; rotate_left; (obtain ⟨f0, f1⟩ := HZL.out w' hS; go_simp; with_reducible rfl); (try simp only [List.getElem_toArray, List.getElem_cons_succ, List.getElem_cons_zero, Act.put, List.setIfInBounds_toArray, List.set_cons_zero, List.set_cons_succ]))
 refine wpHo_callYes rfl rfl rfl (fun K hK => ?_)
 have HRB := Lib.hid (HXR.out _ HS2.out.now)
 refine wp_store_mid 143 (.tmp 4) (.tmp 13) rfl (w.heap.size + 1) 0 #[.int .u32 (y0 : Int), .int .i64 y1] rfl rfl (blk_there HRB.out (by simp)) (by kernel_rfl) (by simp [Value.oneCell']) ?_
 refine hK _ _ (HXS.out _ _ HS2.out.now) (fun _ => ?_)
 clear hK K
 have hset := setCells_blk (b := w.heap.size + 1) [.int .u32 (y0 : Int), .int .i64 y1] 0 _ _ HRB.out
 have HTO := Lib.hid (HS2.out.to.store' HB.out (R := w.heap.size + 1) (by omega) (HS2.out.to.not HN2.out.1 HN2.out.2) 0 [.int .u32 (y0 : Int), .int .i64 y1])
 have HOW := Lib.hid ((HS2.out.y.store (R := w.heap.size + 1) HN2.out.2 0 [.int .u32 (y0 : Int), .int .i64 y1]).mono HB.out.size)
 obtain ⟨w', hw'⟩ : ∃ w', w2.setCells (w.heap.size + 1) 0 [.int .u32 (y0 : Int), .int .i64 y1] = w' := ⟨_, rfl⟩
 have hw'2 : w2.setCells (w.heap.size + 1) 0 #[.int .u32 (y0 : Int), .int .i64 y1].toList = w' := hw'
 rw [hw'] at hset HTO HOW
 rw [hw'2]
 clear hw' hw'2
 have hset : w'.heap[w.heap.size + 1]? = some (.cells #[.int .u32 (y0 : Int), .int .i64 y1] 143 (0, 0)) := hset
 have HSE := Lib.hid hset
 clear hset
 show Exit.then _ _ _ _ _
 go_wp2_with fail
 refine bodyPost_ret (results_cell_row rfl _ _ (w.heap.size + 1) 143 #[.int .u32 (y0 : Int), .int .i64 y1] (0, 0) _ rfl HSE.out Tryz.underlying143 rfl (by kernel_rfl)) rfl ?_
 exact ⟨(y0, y1), (), _, _, _, rfl, HTO.out, HOW.out, (HD0.out.pair HD1.out).conv (fun y => y) (Nat.le_refl _) (fun o => ⟨⟨u32_le.1 o.1, o.2⟩, rfl⟩) (fun _ => rfl) rfl (fun _ => rfl)⟩
def cdDo : Cd (Nat × Nat × Nat) := ⟨doT, doO, rdDo, fun _ => 30, rfl⟩
set_option maxRecDepth 100000 in
set_option maxHeartbeats 4000000 in
theorem pdone_any (P : Nat) (x : Nat × Nat × Nat) (hx : U32 x.1 ∧ U64 x.2.1 ∧ U64 x.2.2) (m : Md) (b : Bool) (F : Nat → Prop) (w : World) (h : PsAt w P m b F) (hr : m.Room (cdDo.cost x)) :
  Calls Tryz.prog 95 #[.pointer (some ⟨P, 0, none⟩), .agg #[.int .u32 (x.1 : Int), .int .u64 (x.2.1 : Int), .int .u64 (x.2.2 : Int)]] w (Tfl (fun y : Nat × Nat × Nat => .agg #[.int .u32 (y.1 : Int), .int .u64 (y.2.1 : Int), .int .u64 (y.2.2 : Int)]) cdDo x P m b F w) := by
 obtain ⟨W1, hW1⟩ : ∃ W1, ((w.alloc (.cells #[.int .u32 (x.1 : Int), .int .u64 (x.2.1 : Int), .int .u64 (x.2.2 : Int)] 113)).alloc (.cells #[.int .u32 0, .int .u64 0, .int .u64 0] 113)) = W1 := ⟨_, rfl⟩
 have HB : Hid (Below w.heap.size w W1) := by show Below _ _ _; rw [← hW1]; exact ((Below.refl _ _).alloc (Nat.le_refl _) _).alloc (by simp) _
 have hb1 : W1.heap[w.heap.size]? = some (.cells #[.int .u32 (x.1 : Int), .int .u64 (x.2.1 : Int), .int .u64 (x.2.2 : Int)] 113 (0, 0)) := by rw [← hW1, heap_alloc_old _ _ (by simp), heap_alloc_new]
 have hb2 : W1.heap[w.heap.size + 1]? = some (.cells #[.int .u32 0, .int .u64 0, .int .u64 0] 113 (0, 0)) := by rw [← hW1]; exact heap_alloc_new2 _ _ _
 have n1 : ¬ F w.heap.size := h.not (Nat.le_refl _)
 have n2 : ¬ F (w.heap.size + 1) := h.not (by omega)
 have HN2 : Hid (¬ F (w.heap.size + 1) ∧ w.heap.size + 1 < W1.heap.size) := ⟨n2, heap_lt hb2⟩
 have E1 := Lib.hid hW1
 have HB0 : Hid (W1.heap.size ≤ w.heap.size + 1 + 1 ∧ w.heap.size ≤ w.heap.size + 1) := ⟨by rw [← hW1]; simp, by omega⟩
 obtain ⟨XB, hXB⟩ : ∃ X : World → Prop, X = fun V => V.heap[w.heap.size]? = some (.cells #[.int .u32 (x.1 : Int), .int .u64 (x.2.1 : Int), .int .u64 (x.2.2 : Int)] 113 (0, 0)) := ⟨_, rfl⟩
 obtain ⟨X, hX⟩ : ∃ X : World → Prop, X = fun V => XB V ∧ V.heap[w.heap.size + 1]? = some (.cells #[.int .u32 0, .int .u64 0, .int .u64 0] 113 (0, 0)) := ⟨_, rfl⟩
 have HZL : Hid (∀ V, XB V → V.cell? ⟨w.heap.size, 0, none⟩ = some (.int .u32 (x.1 : Int)) ∧ V.cell? ⟨w.heap.size, 1, none⟩ = some (.int .u64 (x.2.1 : Int)) ∧ V.cell? ⟨w.heap.size, 2, none⟩ = some (.int .u64 (x.2.2 : Int))) := fun V hV => by
  rw [hXB] at hV
  exact ⟨blk_cell hV rfl, blk_cell hV rfl, blk_cell hV rfl⟩
 have HXB : Hid (∀ V, X V → XB V) := fun V hV => by rw [hX] at hV; exact hV.1
 have HXR : Hid (∀ V, X V → V.heap[w.heap.size + 1]? = some (.cells #[.int .u32 0, .int .u64 0, .int .u64 0] 113 (0, 0))) := fun V hV => by rw [hX] at hV; exact hV.2
 have HXS : Hid (∀ V vs, X V → XB (V.setCells (w.heap.size + 1) 0 vs)) := fun V vs hV => by
  rw [hX] at hV
  have hV := hV.1
  rw [hXB] at hV ⊢
  show (V.setCells (w.heap.size + 1) 0 vs).heap[w.heap.size]? = _
  rw [setCells_ne (by omega)]; exact hV
 have HS0 : Hid (St W1 W1.drew P m b F F X (fun _ => True)) := (St.start (h.below HB.out) (by rw [hX, hXB]; exact (Held.blk hb1 n1).and (Held.blk hb2 n2))).drew
 have HR0 : Hid (m.Room ((cdNum 4294967295).cost (x.1) + ((cdNum 18446744073709551615).cost (x.2.1) + ((cdNum 18446744073709551615).cost (x.2.2) + 0)))) := hr.mono (by exact Nat.le_refl _)
 have HC0 := Lib.hid (fun m b F w h hr => pid_any P (x.1) (hx.1) m b F w h hr)
 have HC1 := Lib.hid (fun m b F w h hr => panyNumber_any P (x.2.1) (hx.2.1) m b F w h hr)
 have HC2 := Lib.hid (fun m b F w h hr => panyNumber_any P (x.2.2) (hx.2.2) m b F w h hr)
 clear hW1 hX hXB hb1 hb2 n1 n2 h hr
 go_enter Tryz.func95, Tryz.ntmps95
 go_upto_region 1 with fail
 rw [E1.out]
 refine wp_region_lexO XB (fun k => [3, 7, 11, 13].contains k) [0, 1, 2, 4, 5, 6, 8, 9, 10, 3, 7, 11, 12, 13] rfl (by kernel_rfl) (by kernel_rfl) (by kernel_rfl) (fun _ _ _ _ _ h => h) (HXB.out _ HS0.out.now) ?_
 generalize World.drew W1 = w0 at *
 iterate 9 (refine wpHo_yes (v := ?_) rfl rfl rfl (fun w' hS => ?_) ?_; rotate_left; (obtain ⟨f0, f1, f2⟩ := HZL.out w' hS; go_simp; with_reducible rfl); (try simp only [List.getElem_toArray, List.getElem_cons_succ, List.getElem_cons_zero, Act.put, List.setIfInBounds_toArray, List.set_cons_zero, List.set_cons_succ]))
 refine wpHo_callYes rfl rfl rfl (fun K hK => ?_)
 go_simp
 go_at_call 103
 refine (HC0.out _ _ _ _ HS0.out.to.at_ (HR0.out.mono (Nat.le_add_right _ _))).mono ?_
 rintro e w1 ⟨y0, m0, b0, F0, rfl, hT, hD, hy⟩
 have HD0 := Lib.hid hD
 have HR1 := Lib.hid (hD.room HR0.out)
 have HS1 := Lib.hid (HS0.out.tel hT)
 clear hT hD hy HS0 HR0 HC0
 refine hK _ _ (HXB.out _ HS1.out.now) (fun _ => ?_)
 clear hK K
 refine wpHo_callYes rfl rfl rfl (fun K hK => ?_)
 go_simp
 go_at_call 61
 refine (HC1.out _ _ _ _ HS1.out.to.at_ (HR1.out.mono (Nat.le_add_right _ _))).mono ?_
 rintro e w2 ⟨y1, m1, b1, F1, rfl, hT, hD, hy⟩
 have HD1 := Lib.hid hD
 have HR2 := Lib.hid (hD.room HR1.out)
 have HS2 := Lib.hid (HS1.out.tel hT)
 clear hT hD hy HS1 HR1 HC1
 refine hK _ _ (HXB.out _ HS2.out.now) (fun _ => ?_)
 clear hK K
 refine wpHo_callYes rfl rfl rfl (fun K hK => ?_)
 go_simp
 go_at_call 61
 refine (HC2.out _ _ _ _ HS2.out.to.at_ (HR2.out.mono (Nat.le_add_right _ _))).mono ?_
 rintro e w3 ⟨y2, m2, b2, F2, rfl, hT, hD, hy⟩
 have HD2 := Lib.hid hD
 have HR3 := Lib.hid (hD.room HR2.out)
 have HS3 := Lib.hid (HS2.out.tel hT)
 clear hT hD hy HS2 HR2 HC2
 refine hK _ _ (HXB.out _ HS3.out.now) (fun _ => ?_)
 clear hK K
 iterate 1 (refine wpHo_yes (v := ?_) rfl rfl rfl (fun w' hS => ?_) ?_; rotate_left; (obtain ⟨f0, f1, f2⟩ := HZL.out w' hS; go_simp; with_reducible rfl); (try simp only [List.getElem_toArray, List.getElem_cons_succ, List.getElem_cons_zero, Act.put, List.setIfInBounds_toArray, List.set_cons_zero, List.set_cons_succ]))
 refine wpHo_callYes rfl rfl rfl (fun K hK => ?_)
 have HRB := Lib.hid (HXR.out _ HS3.out.now)
 refine wp_store_mid 113 (.tmp 4) (.tmp 17) rfl (w.heap.size + 1) 0 #[.int .u32 (y0 : Int), .int .u64 (y1 : Int), .int .u64 (y2 : Int)] rfl rfl (blk_there HRB.out (by simp)) (by kernel_rfl) (by simp [Value.oneCell']) ?_
 refine hK _ _ (HXS.out _ _ HS3.out.now) (fun _ => ?_)
 clear hK K
 have hset := setCells_blk (b := w.heap.size + 1) [.int .u32 (y0 : Int), .int .u64 (y1 : Int), .int .u64 (y2 : Int)] 0 _ _ HRB.out
 have HTO := Lib.hid (HS3.out.to.store' HB.out (R := w.heap.size + 1) (by omega) (HS3.out.to.not HN2.out.1 HN2.out.2) 0 [.int .u32 (y0 : Int), .int .u64 (y1 : Int), .int .u64 (y2 : Int)])
 have HOW := Lib.hid ((HS3.out.y.store (R := w.heap.size + 1) HN2.out.2 0 [.int .u32 (y0 : Int), .int .u64 (y1 : Int), .int .u64 (y2 : Int)]).mono HB.out.size)
 obtain ⟨w', hw'⟩ : ∃ w', w3.setCells (w.heap.size + 1) 0 [.int .u32 (y0 : Int), .int .u64 (y1 : Int), .int .u64 (y2 : Int)] = w' := ⟨_, rfl⟩
 have hw'2 : w3.setCells (w.heap.size + 1) 0 #[.int .u32 (y0 : Int), .int .u64 (y1 : Int), .int .u64 (y2 : Int)].toList = w' := hw'
 rw [hw'] at hset HTO HOW
 rw [hw'2]
 clear hw' hw'2
 have hset : w'.heap[w.heap.size + 1]? = some (.cells #[.int .u32 (y0 : Int), .int .u64 (y1 : Int), .int .u64 (y2 : Int)] 113 (0, 0)) := hset
 have HSE := Lib.hid hset
 clear hset
 show Exit.then _ _ _ _ _
 go_wp2_with fail
 refine bodyPost_ret (results_cell_row rfl _ _ (w.heap.size + 1) 113 #[.int .u32 (y0 : Int), .int .u64 (y1 : Int), .int .u64 (y2 : Int)] (0, 0) _ rfl HSE.out Tryz.underlying113 rfl (by kernel_rfl)) rfl ?_
 exact ⟨(y0, y1, y2), (), _, _, _, rfl, HTO.out, HOW.out, (HD0.out.pair (HD1.out.pair HD2.out)).conv (fun y => y) (Nat.le_refl _) (fun o => ⟨⟨u32_le.1 o.1, u64_le.1 o.2.1, u64_le.1 o.2.2⟩, rfl⟩) (fun _ => rfl) rfl (fun _ => rfl)⟩
set_option maxRecDepth 100000 in
set_option maxHeartbeats 4000000 in
theorem prule11_any (P B0 : Nat) (x : Int) (hx : I64 x) (m : Md) (b : Bool) (F : Nat → Prop) (w : World) (h : PsAt w P m b F) (hr : m.Room 10) (hB : Held F w (fun V => V.heap[B0]? = some (.cells #[.pointer (some ⟨P, 0, none⟩)] 121 (0, 0)))) :
  Calls Tryz.prog 156 #[.int .i64 x, .pointer (some ⟨B0, 0, none⟩)] w (Tel (fun y : Int => .int .i64 y) (cdZ (-400) 400) x P m b F w) := by
 have HC := Lib.hid (pwithin_any P x 400 (by decide) hx m b F w h hr)
 have c0 := blk_cell (i := 0) hB.now rfl
 clear h hr hB
 go_enter Tryz.func156, Tryz.ntmps156
 go_wp2_with fail
 go_at_call 135
 refine HC.out.mono ?_
 rintro e w1 ⟨y, m1, b1, F1, rfl, hT⟩
 go_wp2_with fail
 go_ret
 exact ⟨y, m1, b1, F1, rfl, hT⟩
end Go.Proofs.YtdhinjbkfffpeaaGreat
end
