import Derived.Test.YtdhinjbkfffpeaaGreatYRP6
import Derived.Test.YtdhinjbkfffpeaaGreatYRP6b
/- Contracts of the program's pass: queries. -/
section
namespace Go.Proofs.YtdhinjbkfffpeaaGreat
open Go.ChangeShapes Go.WideShapes Go.ChangeAt Go.RowKit Go.Joins Sp Fr Pk
def cdQy : Cd Qy := ⟨Qy.T, Qy.O, rdQy, fun x => cdSig.cost (x.win.1) + (cdSig.cost (x.win.2) + ((cdInt 10080).cost (x.long) + ((cdInt 1440).cost (x.grid) + ((cdRow (cdNum 4294967295) 64).cost (x.must) + ((cdRow cdWt 16).cost (x.may) + ((cdInt 100).cost (x.seats) + ((cdRow cdAp 32).cost (x.apart) + ((cdRow cdSh 8).cost (x.prefer))))))))), cod_qy.bad⟩
set_option maxRecDepth 100000 in
set_option maxHeartbeats 4000000 in
theorem pquery_any (P : Nat) (x : Qy) (p : QyP) (hx : x.Fits) (m : Md) (b : Bool) (F : Nat → Prop) (w : World) (h : PsAt w P m b F) (hr : m.Room (cdQy.cost x)) (hz : m.Rd → x = noPl.query) (hm : Held F w (fun V => QyAt V x p)) :
  Calls Tryz.prog 106 #[.pointer (some ⟨P, 0, none⟩), .agg (qCells x p).toArray] w (Told (fun (y : Qy) (q : QyP) => .agg (qCells y q).toArray) QyAt cdQy x P m b F w) := by
 show Calls Tryz.prog 106 #[.pointer (some ⟨P, 0, none⟩), .agg #[.int .i64 x.win.1, .int .i64 x.win.2, .int .i64 x.long, .int .i64 x.grid, .slice p.A1 x.must.length p.c1, .slice p.A2 x.may.length p.c2, .int .i64 x.seats, .slice p.A3 x.apart.length p.c3, .slice p.A4 x.prefer.length p.c4]] w _
 obtain ⟨W1, hW1⟩ : ∃ W1, ((w.alloc (.cells #[.int .i64 x.win.1, .int .i64 x.win.2, .int .i64 x.long, .int .i64 x.grid, .slice p.A1 x.must.length p.c1, .slice p.A2 x.may.length p.c2, .int .i64 x.seats, .slice p.A3 x.apart.length p.c3, .slice p.A4 x.prefer.length p.c4] 33)).alloc (.cells #[.int .i64 0, .int .i64 0, .int .i64 0, .int .i64 0, .slice none 0 0, .slice none 0 0, .int .i64 0, .slice none 0 0, .slice none 0 0] 33)) = W1 := ⟨_, rfl⟩
 have HB : Hid (Below w.heap.size w W1) := by show Below _ _ _; rw [← hW1]; exact ((Below.refl _ _).alloc (Nat.le_refl _) _).alloc (by simp) _
 have hb1 : W1.heap[w.heap.size]? = some (.cells #[.int .i64 x.win.1, .int .i64 x.win.2, .int .i64 x.long, .int .i64 x.grid, .slice p.A1 x.must.length p.c1, .slice p.A2 x.may.length p.c2, .int .i64 x.seats, .slice p.A3 x.apart.length p.c3, .slice p.A4 x.prefer.length p.c4] 33 (0, 0)) := by rw [← hW1, heap_alloc_old _ _ (by simp), heap_alloc_new]
 have hb2 : W1.heap[w.heap.size + 1]? = some (.cells #[.int .i64 0, .int .i64 0, .int .i64 0, .int .i64 0, .slice none 0 0, .slice none 0 0, .int .i64 0, .slice none 0 0, .slice none 0 0] 33 (0, 0)) := by rw [← hW1]; exact heap_alloc_new2 _ _ _
 have n1 : ¬ F (w.heap.size) := h.not (by omega)
 have n2 : ¬ F (w.heap.size + 1) := h.not (by omega)
 have HN2 : Hid (¬ F (w.heap.size + 1) ∧ w.heap.size + 1 < W1.heap.size) := ⟨n2, heap_lt hb2⟩
 have E1 := Lib.hid hW1
 obtain ⟨XB, hXB⟩ : ∃ X : World → Prop, X = fun V => V.heap[w.heap.size]? = some (.cells #[.int .i64 x.win.1, .int .i64 x.win.2, .int .i64 x.long, .int .i64 x.grid, .slice p.A1 x.must.length p.c1, .slice p.A2 x.may.length p.c2, .int .i64 x.seats, .slice p.A3 x.apart.length p.c3, .slice p.A4 x.prefer.length p.c4] 33 (0, 0)) := ⟨_, rfl⟩
 obtain ⟨X, hX⟩ : ∃ X : World → Prop, X = fun V => (XB V ∧ V.heap[w.heap.size + 1]? = some (.cells #[.int .i64 0, .int .i64 0, .int .i64 0, .int .i64 0, .slice none 0 0, .slice none 0 0, .int .i64 0, .slice none 0 0, .slice none 0 0] 33 (0, 0))) ∧ QyAt V x p := ⟨_, rfl⟩
 have HZL : Hid (∀ V, XB V → V.cell? ⟨w.heap.size, 0, none⟩ = some (.int .i64 x.win.1) ∧ V.cell? ⟨w.heap.size, 1, none⟩ = some (.int .i64 x.win.2) ∧ V.cell? ⟨w.heap.size, 2, none⟩ = some (.int .i64 x.long) ∧ V.cell? ⟨w.heap.size, 3, none⟩ = some (.int .i64 x.grid) ∧ V.cell? ⟨w.heap.size, 4, none⟩ = some (.slice p.A1 x.must.length p.c1) ∧ V.cell? ⟨w.heap.size, 5, none⟩ = some (.slice p.A2 x.may.length p.c2) ∧ V.cell? ⟨w.heap.size, 6, none⟩ = some (.int .i64 x.seats) ∧ V.cell? ⟨w.heap.size, 7, none⟩ = some (.slice p.A3 x.apart.length p.c3) ∧ V.cell? ⟨w.heap.size, 8, none⟩ = some (.slice p.A4 x.prefer.length p.c4)) := fun V hV => by
  rw [hXB] at hV
  exact ⟨blk_cell hV rfl, blk_cell hV rfl, blk_cell hV rfl, blk_cell hV rfl, blk_cell hV rfl, blk_cell hV rfl, blk_cell hV rfl, blk_cell hV rfl, blk_cell hV rfl⟩
 have HXB : Hid (∀ V, X V → XB V) := fun V hV => by rw [hX] at hV; exact hV.1.1
 have HXR : Hid (∀ V, X V → V.heap[w.heap.size + 1]? = some (.cells #[.int .i64 0, .int .i64 0, .int .i64 0, .int .i64 0, .slice none 0 0, .slice none 0 0, .int .i64 0, .slice none 0 0, .slice none 0 0] 33 (0, 0))) := fun V hV => by rw [hX] at hV; exact hV.1.2
 have HXM : Hid (∀ V, X V → QyAt V x p) := fun V hV => by rw [hX] at hV; exact hV.2
 have HXS : Hid (∀ V vs, X V → XB (V.setCells (w.heap.size + 1) 0 vs)) := fun V vs hV => by
  rw [hX] at hV
  have hV := hV.1.1
  rw [hXB] at hV ⊢
  show (V.setCells (w.heap.size + 1) 0 vs).heap[w.heap.size]? = _
  rw [setCells_ne (by omega)]; exact hV
 have HS0 : Hid (St W1 W1.drew P m b F F X (fun _ => True)) := (St.start (h.below HB.out) (by rw [hX, hXB]; exact ((Held.blk hb1 n1).and (Held.blk hb2 n2)).and (hm.below HB.out))).drew
 have HR0 : Hid (m.Room (cdSig.cost (x.win.1) + (cdSig.cost (x.win.2) + ((cdInt 10080).cost (x.long) + ((cdInt 1440).cost (x.grid) + ((cdRow (cdNum 4294967295) 64).cost (x.must) + ((cdRow cdWt 16).cost (x.may) + ((cdInt 100).cost (x.seats) + ((cdRow cdAp 32).cost (x.apart) + ((cdRow cdSh 8).cost (x.prefer) + 0)))))))))) := hr.mono (by exact Nat.le_refl _)
 have HM0 : Hid (m.Rd → m.Rd) := id
 have HZ := Lib.hid hz
 have HC0 := Lib.hid (fun mx bx Fx wx h hr => psigned_any P (x.win.1) (hx.win.1) mx bx Fx wx h hr)
 have HC1 := Lib.hid (fun mx bx Fx wx h hr => psigned_any P (x.win.2) (hx.win.2) mx bx Fx wx h hr)
 have HC2 := Lib.hid (fun mx bx Fx wx h hr => plong_any P (x.long) (hx.long) mx bx Fx wx h hr)
 have HC3 := Lib.hid (fun mx bx Fx wx h hr => pnumberI_any P (x.grid) 1440 (by decide) (hx.grid) mx bx Fx wx h hr)
 have HC4 := Lib.hid (fun mx bx Fx wx h hr hz hm => prowId_any P (x.must) p.A1 p.c1 64 (by decide) (hx.must) mx bx Fx wx h hr hz hm)
 have HC5 := Lib.hid (fun mx bx Fx wx h hr hz hm => prowWt_any P (x.may) p.A2 p.c2 16 (by decide) (hx.may) mx bx Fx wx h hr hz hm)
 have HC6 := Lib.hid (fun mx bx Fx wx h hr => pnumberI_any P (x.seats) 100 (by decide) (hx.seats) mx bx Fx wx h hr)
 have HC7 := Lib.hid (fun mx bx Fx wx h hr hz hm => prowAp_any P (x.apart) p.A3 p.c3 32 (by decide) (hx.apart) mx bx Fx wx h hr hz hm)
 have HC8 := Lib.hid (fun mx bx Fx wx h hr hz hm => prowSh_any P (x.prefer) p.A4 p.c4 8 (by decide) (hx.prefer) mx bx Fx wx h hr hz hm)
 clear hW1 hX hXB hb1 hb2 n1 n2 h hr hz hm
 go_enter Tryz.func106, Tryz.ntmps106
 go_upto_region 1 with fail
 rw [E1.out]
 refine wp_region_lexO XB (fun k => [4, 9, 14, 18, 24, 30, 34, 40, 46, 48].contains k) [0, 1, 2, 3, 5, 6, 7, 8, 11, 12, 13, 15, 16, 17, 19, 20, 21, 22, 23, 25, 26, 27, 28, 29, 31, 32, 33, 35, 36, 37, 38, 39, 41, 42, 43, 44, 45, 4, 9, 10, 14, 18, 24, 30, 34, 40, 46, 47, 48] rfl (by kernel_rfl) (by kernel_rfl) (by kernel_rfl) (fun _ _ _ _ _ h => h) (HXB.out _ HS0.out.now) ?_
 generalize World.drew W1 = w0 at *
 refine wpHo_name fun OPS hOPS => ?_
 generalize (Value.agg #[.int .i64 x.win.1, .int .i64 x.win.2, .int .i64 x.long, .int .i64 x.grid, .slice p.A1 x.must.length p.c1, .slice p.A2 x.may.length p.c2, .int .i64 x.seats, .slice p.A3 x.apart.length p.c3, .slice p.A4 x.prefer.length p.c4]) = va
 have hk0 := congrArg (fun x => x[0]?) hOPS
 simp only [List.getElem?_toArray, List.getElem?_cons_zero] at hk0
 have hk1 := congrArg (fun x => x[1]?) hOPS
 simp only [List.getElem?_toArray, List.getElem?_cons_zero, List.getElem?_cons_succ] at hk1
 have hk2 := congrArg (fun x => x[2]?) hOPS
 simp only [List.getElem?_toArray, List.getElem?_cons_zero, List.getElem?_cons_succ] at hk2
 have hk3 := congrArg (fun x => x[3]?) hOPS
 simp only [List.getElem?_toArray, List.getElem?_cons_zero, List.getElem?_cons_succ] at hk3
 have hk4 := congrArg (fun x => x[4]?) hOPS
 simp only [List.getElem?_toArray, List.getElem?_cons_zero, List.getElem?_cons_succ] at hk4
 have hk5 := congrArg (fun x => x[5]?) hOPS
 simp only [List.getElem?_toArray, List.getElem?_cons_zero, List.getElem?_cons_succ] at hk5
 have hk6 := congrArg (fun x => x[6]?) hOPS
 simp only [List.getElem?_toArray, List.getElem?_cons_zero, List.getElem?_cons_succ] at hk6
 have hk7 := congrArg (fun x => x[7]?) hOPS
 simp only [List.getElem?_toArray, List.getElem?_cons_zero, List.getElem?_cons_succ] at hk7
 have hk8 := congrArg (fun x => x[8]?) hOPS
 simp only [List.getElem?_toArray, List.getElem?_cons_zero, List.getElem?_cons_succ] at hk8
 have hk9 := congrArg (fun x => x[9]?) hOPS
 simp only [List.getElem?_toArray, List.getElem?_cons_zero, List.getElem?_cons_succ] at hk9
 have hk10 := congrArg (fun x => x[10]?) hOPS
 simp only [List.getElem?_toArray, List.getElem?_cons_zero, List.getElem?_cons_succ] at hk10
 have hk11 := congrArg (fun x => x[11]?) hOPS
 simp only [List.getElem?_toArray, List.getElem?_cons_zero, List.getElem?_cons_succ] at hk11
 have hk12 := congrArg (fun x => x[12]?) hOPS
 simp only [List.getElem?_toArray, List.getElem?_cons_zero, List.getElem?_cons_succ] at hk12
 have hk13 := congrArg (fun x => x[13]?) hOPS
 simp only [List.getElem?_toArray, List.getElem?_cons_zero, List.getElem?_cons_succ] at hk13
 have hk14 := congrArg (fun x => x[14]?) hOPS
 simp only [List.getElem?_toArray, List.getElem?_cons_zero, List.getElem?_cons_succ] at hk14
 have hk15 := congrArg (fun x => x[15]?) hOPS
 simp only [List.getElem?_toArray, List.getElem?_cons_zero, List.getElem?_cons_succ] at hk15
 have hk16 := congrArg (fun x => x[16]?) hOPS
 simp only [List.getElem?_toArray, List.getElem?_cons_zero, List.getElem?_cons_succ] at hk16
 have hk17 := congrArg (fun x => x[17]?) hOPS
 simp only [List.getElem?_toArray, List.getElem?_cons_zero, List.getElem?_cons_succ] at hk17
 have hk18 := congrArg (fun x => x[18]?) hOPS
 simp only [List.getElem?_toArray, List.getElem?_cons_zero, List.getElem?_cons_succ] at hk18
 have hk19 := congrArg (fun x => x[19]?) hOPS
 simp only [List.getElem?_toArray, List.getElem?_cons_zero, List.getElem?_cons_succ] at hk19
 have hk20 := congrArg (fun x => x[20]?) hOPS
 simp only [List.getElem?_toArray, List.getElem?_cons_zero, List.getElem?_cons_succ] at hk20
 have hk21 := congrArg (fun x => x[21]?) hOPS
 simp only [List.getElem?_toArray, List.getElem?_cons_zero, List.getElem?_cons_succ] at hk21
 have hk22 := congrArg (fun x => x[22]?) hOPS
 simp only [List.getElem?_toArray, List.getElem?_cons_zero, List.getElem?_cons_succ] at hk22
 have hk23 := congrArg (fun x => x[23]?) hOPS
 simp only [List.getElem?_toArray, List.getElem?_cons_zero, List.getElem?_cons_succ] at hk23
 have hk24 := congrArg (fun x => x[24]?) hOPS
 simp only [List.getElem?_toArray, List.getElem?_cons_zero, List.getElem?_cons_succ] at hk24
 have hk25 := congrArg (fun x => x[25]?) hOPS
 simp only [List.getElem?_toArray, List.getElem?_cons_zero, List.getElem?_cons_succ] at hk25
 have hk26 := congrArg (fun x => x[26]?) hOPS
 simp only [List.getElem?_toArray, List.getElem?_cons_zero, List.getElem?_cons_succ] at hk26
 have hk27 := congrArg (fun x => x[27]?) hOPS
 simp only [List.getElem?_toArray, List.getElem?_cons_zero, List.getElem?_cons_succ] at hk27
 have hk28 := congrArg (fun x => x[28]?) hOPS
 simp only [List.getElem?_toArray, List.getElem?_cons_zero, List.getElem?_cons_succ] at hk28
 have hk29 := congrArg (fun x => x[29]?) hOPS
 simp only [List.getElem?_toArray, List.getElem?_cons_zero, List.getElem?_cons_succ] at hk29
 have hk30 := congrArg (fun x => x[30]?) hOPS
 simp only [List.getElem?_toArray, List.getElem?_cons_zero, List.getElem?_cons_succ] at hk30
 have hk31 := congrArg (fun x => x[31]?) hOPS
 simp only [List.getElem?_toArray, List.getElem?_cons_zero, List.getElem?_cons_succ] at hk31
 have hk32 := congrArg (fun x => x[32]?) hOPS
 simp only [List.getElem?_toArray, List.getElem?_cons_zero, List.getElem?_cons_succ] at hk32
 have hk33 := congrArg (fun x => x[33]?) hOPS
 simp only [List.getElem?_toArray, List.getElem?_cons_zero, List.getElem?_cons_succ] at hk33
 have hk34 := congrArg (fun x => x[34]?) hOPS
 simp only [List.getElem?_toArray, List.getElem?_cons_zero, List.getElem?_cons_succ] at hk34
 have hk35 := congrArg (fun x => x[35]?) hOPS
 simp only [List.getElem?_toArray, List.getElem?_cons_zero, List.getElem?_cons_succ] at hk35
 have hk36 := congrArg (fun x => x[36]?) hOPS
 simp only [List.getElem?_toArray, List.getElem?_cons_zero, List.getElem?_cons_succ] at hk36
 have hk37 := congrArg (fun x => x[37]?) hOPS
 simp only [List.getElem?_toArray, List.getElem?_cons_zero, List.getElem?_cons_succ] at hk37
 have hk38 := congrArg (fun x => x[38]?) hOPS
 simp only [List.getElem?_toArray, List.getElem?_cons_zero, List.getElem?_cons_succ] at hk38
 have hk39 := congrArg (fun x => x[39]?) hOPS
 simp only [List.getElem?_toArray, List.getElem?_cons_zero, List.getElem?_cons_succ] at hk39
 have hk40 := congrArg (fun x => x[40]?) hOPS
 simp only [List.getElem?_toArray, List.getElem?_cons_zero, List.getElem?_cons_succ] at hk40
 have hk41 := congrArg (fun x => x[41]?) hOPS
 simp only [List.getElem?_toArray, List.getElem?_cons_zero, List.getElem?_cons_succ] at hk41
 have hk42 := congrArg (fun x => x[42]?) hOPS
 simp only [List.getElem?_toArray, List.getElem?_cons_zero, List.getElem?_cons_succ] at hk42
 have hk43 := congrArg (fun x => x[43]?) hOPS
 simp only [List.getElem?_toArray, List.getElem?_cons_zero, List.getElem?_cons_succ] at hk43
 have hk44 := congrArg (fun x => x[44]?) hOPS
 simp only [List.getElem?_toArray, List.getElem?_cons_zero, List.getElem?_cons_succ] at hk44
 have hk45 := congrArg (fun x => x[45]?) hOPS
 simp only [List.getElem?_toArray, List.getElem?_cons_zero, List.getElem?_cons_succ] at hk45
 have hk46 := congrArg (fun x => x[46]?) hOPS
 simp only [List.getElem?_toArray, List.getElem?_cons_zero, List.getElem?_cons_succ] at hk46
 have hk47 := congrArg (fun x => x[47]?) hOPS
 simp only [List.getElem?_toArray, List.getElem?_cons_zero, List.getElem?_cons_succ] at hk47
 have hk48 := congrArg (fun x => x[48]?) hOPS
 simp only [List.getElem?_toArray, List.getElem?_cons_zero, List.getElem?_cons_succ] at hk48
 clear hOPS
 refine wpHo_yes (v := ?_) hk0 rfl rfl (fun w' hS => ?_) ?_; rotate_left; (go_simp; with_reducible rfl); (try simp only [Act.put, List.setIfInBounds_toArray, List.set_cons_zero, List.set_cons_succ])
 refine wpHo_yes (v := ?_) hk1 rfl rfl (fun w' hS => ?_) ?_; rotate_left; (go_simp; with_reducible rfl); (try simp only [Act.put, List.setIfInBounds_toArray, List.set_cons_zero, List.set_cons_succ])
 refine wpHo_yes (v := ?_) hk2 rfl rfl (fun w' hS => ?_) ?_; rotate_left; (go_simp; with_reducible rfl); (try simp only [Act.put, List.setIfInBounds_toArray, List.set_cons_zero, List.set_cons_succ])
 refine wpHo_yes (v := ?_) hk3 rfl rfl (fun w' hS => ?_) ?_; rotate_left; (obtain ⟨f0, f1, f2, f3, f4, f5, f6, f7, f8⟩ := HZL.out w' hS; go_simp; with_reducible rfl); (try simp only [Act.put, List.setIfInBounds_toArray, List.set_cons_zero, List.set_cons_succ])
 refine wpHo_yes (v := ?_) hk5 rfl rfl (fun w' hS => ?_) ?_; rotate_left; (go_simp; with_reducible rfl); (try simp only [Act.put, List.setIfInBounds_toArray, List.set_cons_zero, List.set_cons_succ])
 refine wpHo_yes (v := ?_) hk6 rfl rfl (fun w' hS => ?_) ?_; rotate_left; (go_simp; with_reducible rfl); (try simp only [Act.put, List.setIfInBounds_toArray, List.set_cons_zero, List.set_cons_succ])
 refine wpHo_yes (v := ?_) hk7 rfl rfl (fun w' hS => ?_) ?_; rotate_left; (go_simp; with_reducible rfl); (try simp only [Act.put, List.setIfInBounds_toArray, List.set_cons_zero, List.set_cons_succ])
 refine wpHo_yes (v := ?_) hk8 rfl rfl (fun w' hS => ?_) ?_; rotate_left; (obtain ⟨f0, f1, f2, f3, f4, f5, f6, f7, f8⟩ := HZL.out w' hS; go_simp; with_reducible rfl); (try simp only [Act.put, List.setIfInBounds_toArray, List.set_cons_zero, List.set_cons_succ])
 refine wpHo_yes (v := ?_) hk11 rfl rfl (fun w' hS => ?_) ?_; rotate_left; (go_simp; with_reducible rfl); (try simp only [Act.put, List.setIfInBounds_toArray, List.set_cons_zero, List.set_cons_succ])
 refine wpHo_yes (v := ?_) hk12 rfl rfl (fun w' hS => ?_) ?_; rotate_left; (go_simp; with_reducible rfl); (try simp only [Act.put, List.setIfInBounds_toArray, List.set_cons_zero, List.set_cons_succ])
 refine wpHo_yes (v := ?_) hk13 rfl rfl (fun w' hS => ?_) ?_; rotate_left; (obtain ⟨f0, f1, f2, f3, f4, f5, f6, f7, f8⟩ := HZL.out w' hS; go_simp; with_reducible rfl); (try simp only [Act.put, List.setIfInBounds_toArray, List.set_cons_zero, List.set_cons_succ])
 refine wpHo_yes (v := ?_) hk15 rfl rfl (fun w' hS => ?_) ?_; rotate_left; (go_simp; with_reducible rfl); (try simp only [Act.put, List.setIfInBounds_toArray, List.set_cons_zero, List.set_cons_succ])
 refine wpHo_yes (v := ?_) hk16 rfl rfl (fun w' hS => ?_) ?_; rotate_left; (go_simp; with_reducible rfl); (try simp only [Act.put, List.setIfInBounds_toArray, List.set_cons_zero, List.set_cons_succ])
 refine wpHo_yes (v := ?_) hk17 rfl rfl (fun w' hS => ?_) ?_; rotate_left; (obtain ⟨f0, f1, f2, f3, f4, f5, f6, f7, f8⟩ := HZL.out w' hS; go_simp; with_reducible rfl); (try simp only [Act.put, List.setIfInBounds_toArray, List.set_cons_zero, List.set_cons_succ])
 refine wpHo_yes (v := ?_) hk19 rfl rfl (fun w' hS => ?_) ?_; rotate_left; (go_simp; with_reducible rfl); (try simp only [Act.put, List.setIfInBounds_toArray, List.set_cons_zero, List.set_cons_succ])
 refine wpHo_yes (v := ?_) hk20 rfl rfl (fun w' hS => ?_) ?_; rotate_left; (go_simp; with_reducible rfl); (try simp only [Act.put, List.setIfInBounds_toArray, List.set_cons_zero, List.set_cons_succ])
 refine wpHo_yes (v := ?_) hk21 rfl rfl (fun w' hS => ?_) ?_; rotate_left; (obtain ⟨f0, f1, f2, f3, f4, f5, f6, f7, f8⟩ := HZL.out w' hS; go_simp; with_reducible rfl); (try simp only [Act.put, List.setIfInBounds_toArray, List.set_cons_zero, List.set_cons_succ])
 refine wpHo_yes (v := ?_) hk22 rfl rfl (fun w' hS => ?_) ?_; rotate_left; (go_simp; with_reducible rfl); (try simp only [Act.put, List.setIfInBounds_toArray, List.set_cons_zero, List.set_cons_succ])
 refine wpHo_yes (v := ?_) hk23 rfl rfl (fun w' hS => ?_) ?_; rotate_left; (go_simp; with_reducible rfl); (try simp only [Act.put, List.setIfInBounds_toArray, List.set_cons_zero, List.set_cons_succ])
 refine wpHo_yes (v := ?_) hk25 rfl rfl (fun w' hS => ?_) ?_; rotate_left; (go_simp; with_reducible rfl); (try simp only [Act.put, List.setIfInBounds_toArray, List.set_cons_zero, List.set_cons_succ])
 refine wpHo_yes (v := ?_) hk26 rfl rfl (fun w' hS => ?_) ?_; rotate_left; (go_simp; with_reducible rfl); (try simp only [Act.put, List.setIfInBounds_toArray, List.set_cons_zero, List.set_cons_succ])
 refine wpHo_yes (v := ?_) hk27 rfl rfl (fun w' hS => ?_) ?_; rotate_left; (obtain ⟨f0, f1, f2, f3, f4, f5, f6, f7, f8⟩ := HZL.out w' hS; go_simp; with_reducible rfl); (try simp only [Act.put, List.setIfInBounds_toArray, List.set_cons_zero, List.set_cons_succ])
 refine wpHo_yes (v := ?_) hk28 rfl rfl (fun w' hS => ?_) ?_; rotate_left; (go_simp; with_reducible rfl); (try simp only [Act.put, List.setIfInBounds_toArray, List.set_cons_zero, List.set_cons_succ])
 refine wpHo_yes (v := ?_) hk29 rfl rfl (fun w' hS => ?_) ?_; rotate_left; (go_simp; with_reducible rfl); (try simp only [Act.put, List.setIfInBounds_toArray, List.set_cons_zero, List.set_cons_succ])
 refine wpHo_yes (v := ?_) hk31 rfl rfl (fun w' hS => ?_) ?_; rotate_left; (go_simp; with_reducible rfl); (try simp only [Act.put, List.setIfInBounds_toArray, List.set_cons_zero, List.set_cons_succ])
 refine wpHo_yes (v := ?_) hk32 rfl rfl (fun w' hS => ?_) ?_; rotate_left; (go_simp; with_reducible rfl); (try simp only [Act.put, List.setIfInBounds_toArray, List.set_cons_zero, List.set_cons_succ])
 refine wpHo_yes (v := ?_) hk33 rfl rfl (fun w' hS => ?_) ?_; rotate_left; (obtain ⟨f0, f1, f2, f3, f4, f5, f6, f7, f8⟩ := HZL.out w' hS; go_simp; with_reducible rfl); (try simp only [Act.put, List.setIfInBounds_toArray, List.set_cons_zero, List.set_cons_succ])
 refine wpHo_yes (v := ?_) hk35 rfl rfl (fun w' hS => ?_) ?_; rotate_left; (go_simp; with_reducible rfl); (try simp only [Act.put, List.setIfInBounds_toArray, List.set_cons_zero, List.set_cons_succ])
 refine wpHo_yes (v := ?_) hk36 rfl rfl (fun w' hS => ?_) ?_; rotate_left; (go_simp; with_reducible rfl); (try simp only [Act.put, List.setIfInBounds_toArray, List.set_cons_zero, List.set_cons_succ])
 refine wpHo_yes (v := ?_) hk37 rfl rfl (fun w' hS => ?_) ?_; rotate_left; (obtain ⟨f0, f1, f2, f3, f4, f5, f6, f7, f8⟩ := HZL.out w' hS; go_simp; with_reducible rfl); (try simp only [Act.put, List.setIfInBounds_toArray, List.set_cons_zero, List.set_cons_succ])
 refine wpHo_yes (v := ?_) hk38 rfl rfl (fun w' hS => ?_) ?_; rotate_left; (go_simp; with_reducible rfl); (try simp only [Act.put, List.setIfInBounds_toArray, List.set_cons_zero, List.set_cons_succ])
 refine wpHo_yes (v := ?_) hk39 rfl rfl (fun w' hS => ?_) ?_; rotate_left; (go_simp; with_reducible rfl); (try simp only [Act.put, List.setIfInBounds_toArray, List.set_cons_zero, List.set_cons_succ])
 refine wpHo_yes (v := ?_) hk41 rfl rfl (fun w' hS => ?_) ?_; rotate_left; (go_simp; with_reducible rfl); (try simp only [Act.put, List.setIfInBounds_toArray, List.set_cons_zero, List.set_cons_succ])
 refine wpHo_yes (v := ?_) hk42 rfl rfl (fun w' hS => ?_) ?_; rotate_left; (go_simp; with_reducible rfl); (try simp only [Act.put, List.setIfInBounds_toArray, List.set_cons_zero, List.set_cons_succ])
 refine wpHo_yes (v := ?_) hk43 rfl rfl (fun w' hS => ?_) ?_; rotate_left; (obtain ⟨f0, f1, f2, f3, f4, f5, f6, f7, f8⟩ := HZL.out w' hS; go_simp; with_reducible rfl); (try simp only [Act.put, List.setIfInBounds_toArray, List.set_cons_zero, List.set_cons_succ])
 refine wpHo_yes (v := ?_) hk44 rfl rfl (fun w' hS => ?_) ?_; rotate_left; (go_simp; with_reducible rfl); (try simp only [Act.put, List.setIfInBounds_toArray, List.set_cons_zero, List.set_cons_succ])
 refine wpHo_yes (v := ?_) hk45 rfl rfl (fun w' hS => ?_) ?_; rotate_left; (go_simp; with_reducible rfl); (try simp only [Act.put, List.setIfInBounds_toArray, List.set_cons_zero, List.set_cons_succ])
 refine wpHo_callYes hk4 rfl rfl (fun K hK => ?_)
 go_simp
 go_at_call 90
 refine (HC0.out _ _ _ _ HS0.out.to.at_ (HR0.out.mono (Nat.le_add_right _ _))).mono ?_
 rintro e w1 ⟨y0, m0, b0, F0, rfl, hT, hD, hy⟩
 have HD0 := Lib.hid hD
 have HR1 := Lib.hid (hD.room HR0.out)
 have HM1 : Hid (m0.Rd → m.Rd) := fun hm => HM0.out (hD.mode.1 hm)
 have HS1 := Lib.hid (HS0.out.tel hT)
 clear hT hD hy HS0 HR0 HC0 HM0
 refine hK _ _ (HXB.out _ HS1.out.now) (fun _ => ?_)
 skip
 clear hK K
 refine wpHo_callYes hk9 rfl rfl (fun K hK => ?_)
 go_simp
 go_at_call 90
 refine (HC1.out _ _ _ _ HS1.out.to.at_ (HR1.out.mono (Nat.le_add_right _ _))).mono ?_
 rintro e w2 ⟨y1, m1, b1, F1, rfl, hT, hD, hy⟩
 have HD1 := Lib.hid hD
 have HR2 := Lib.hid (hD.room HR1.out)
 have HM2 : Hid (m1.Rd → m.Rd) := fun hm => HM1.out (hD.mode.1 hm)
 have HS2 := Lib.hid (HS1.out.tel hT)
 clear hT hD hy HS1 HR1 HC1 HM1
 refine hK _ _ (HXB.out _ HS2.out.now) (fun _ => ?_)
 skip
 clear hK K
 refine wpHo_yes (v := ?_) hk10 rfl rfl (fun w' hS => ?_) ?_; rotate_left; (go_simp; with_reducible rfl); (try simp only [Act.put, List.setIfInBounds_toArray, List.set_cons_zero, List.set_cons_succ])
 refine wpHo_callYes hk14 rfl rfl (fun K hK => ?_)
 go_simp
 go_at_call 142
 refine (HC2.out _ _ _ _ HS2.out.to.at_ (HR2.out.mono (Nat.le_add_right _ _))).mono ?_
 rintro e w3 ⟨y2, m2, b2, F2, rfl, hT, hD, hy⟩
 have HD2 := Lib.hid hD
 have HR3 := Lib.hid (hD.room HR2.out)
 have HM3 : Hid (m2.Rd → m.Rd) := fun hm => HM2.out (hD.mode.1 hm)
 have HS3 := Lib.hid (HS2.out.tel hT)
 clear hT hD hy HS2 HR2 HC2 HM2
 refine hK _ _ (HXB.out _ HS3.out.now) (fun _ => ?_)
 skip
 clear hK K
 refine wpHo_callYes hk18 rfl rfl (fun K hK => ?_)
 go_simp
 go_at_call 102
 refine (HC3.out _ _ _ _ HS3.out.to.at_ (HR3.out.mono (Nat.le_add_right _ _))).mono ?_
 rintro e w4 ⟨y3, m3, b3, F3, rfl, hT, hD, hy⟩
 have HD3 := Lib.hid hD
 have HR4 := Lib.hid (hD.room HR3.out)
 have HM4 : Hid (m3.Rd → m.Rd) := fun hm => HM3.out (hD.mode.1 hm)
 have HS4 := Lib.hid (HS3.out.tel hT)
 clear hT hD hy HS3 HR3 HC3 HM3
 refine hK _ _ (HXB.out _ HS4.out.now) (fun _ => ?_)
 skip
 clear hK K
 refine wpHo_callYes hk24 rfl rfl (fun K hK => ?_)
 go_simp
 go_at_call 146
 refine (HC4.out _ _ _ _ HS4.out.to.at_ (HR4.out.mono (Nat.le_add_right _ _)) (fun hm => by rw [HZ.out (HM4.out hm)] <;> rfl) (HS4.out.x.imp fun V hV => (HXM.out V hV).s1)).mono ?_
 rintro e w5 ⟨y4, q4, m4, b4, F4, rfl, hT, hO, hD⟩
 have HD4 := Lib.hid hD
 have HR5 := Lib.hid (hD.room HR4.out)
 have HM5 : Hid (m4.Rd → m.Rd) := fun hm => HM4.out (hD.mode.1 hm)
 have HS5 := Lib.hid (HS4.out.told hT hO)
 clear hT hD hO HS4 HR4 HC4 HM4
 refine hK _ _ (HXB.out _ HS5.out.now) (fun _ => ?_)
 skip
 clear hK K
 refine wpHo_callYes hk30 rfl rfl (fun K hK => ?_)
 go_simp
 go_at_call 147
 refine (HC5.out _ _ _ _ HS5.out.to.at_ (HR5.out.mono (Nat.le_add_right _ _)) (fun hm => by rw [HZ.out (HM5.out hm)] <;> rfl) (HS5.out.x.imp fun V hV => (HXM.out V hV).s2)).mono ?_
 rintro e w6 ⟨y5, q5, m5, b5, F5, rfl, hT, hO, hD⟩
 have HD5 := Lib.hid hD
 have HR6 := Lib.hid (hD.room HR5.out)
 have HM6 : Hid (m5.Rd → m.Rd) := fun hm => HM5.out (hD.mode.1 hm)
 have HS6 := Lib.hid (HS5.out.told hT hO)
 clear hT hD hO HS5 HR5 HC5 HM5
 refine hK _ _ (HXB.out _ HS6.out.now) (fun _ => ?_)
 skip
 clear hK K
 refine wpHo_callYes hk34 rfl rfl (fun K hK => ?_)
 go_simp
 go_at_call 102
 refine (HC6.out _ _ _ _ HS6.out.to.at_ (HR6.out.mono (Nat.le_add_right _ _))).mono ?_
 rintro e w7 ⟨y6, m6, b6, F6, rfl, hT, hD, hy⟩
 have HD6 := Lib.hid hD
 have HR7 := Lib.hid (hD.room HR6.out)
 have HM7 : Hid (m6.Rd → m.Rd) := fun hm => HM6.out (hD.mode.1 hm)
 have HS7 := Lib.hid (HS6.out.tel hT)
 clear hT hD hy HS6 HR6 HC6 HM6
 refine hK _ _ (HXB.out _ HS7.out.now) (fun _ => ?_)
 skip
 clear hK K
 refine wpHo_callYes hk40 rfl rfl (fun K hK => ?_)
 go_simp
 go_at_call 149
 refine (HC7.out _ _ _ _ HS7.out.to.at_ (HR7.out.mono (Nat.le_add_right _ _)) (fun hm => by rw [HZ.out (HM7.out hm)] <;> rfl) (HS7.out.x.imp fun V hV => (HXM.out V hV).s3)).mono ?_
 rintro e w8 ⟨y7, q7, m7, b7, F7, rfl, hT, hO, hD⟩
 have HD7 := Lib.hid hD
 have HR8 := Lib.hid (hD.room HR7.out)
 have HM8 : Hid (m7.Rd → m.Rd) := fun hm => HM7.out (hD.mode.1 hm)
 have HS8 := Lib.hid (HS7.out.told hT hO)
 clear hT hD hO HS7 HR7 HC7 HM7
 refine hK _ _ (HXB.out _ HS8.out.now) (fun _ => ?_)
 skip
 clear hK K
 refine wpHo_callYes hk46 rfl rfl (fun K hK => ?_)
 go_simp
 go_at_call 138
 refine (HC8.out _ _ _ _ HS8.out.to.at_ (HR8.out.mono (Nat.le_add_right _ _)) (fun hm => by rw [HZ.out (HM8.out hm)] <;> rfl) (HS8.out.x.imp fun V hV => by rw [← tv_kv]; exact (HXM.out V hV).s4)).mono ?_
 rintro e w9 ⟨y8, q8, m8, b8, F8, rfl, hT, hO, hD⟩
 have HD8 := Lib.hid hD
 have HR9 := Lib.hid (hD.room HR8.out)
 have HM9 : Hid (m8.Rd → m.Rd) := fun hm => HM8.out (hD.mode.1 hm)
 have HS9 := Lib.hid (HS8.out.told hT hO)
 clear hT hD hO HS8 HR8 HC8 HM8
 refine hK _ _ (HXB.out _ HS9.out.now) (fun _ => ?_)
 skip
 clear hK K
 refine wpHo_yes (v := ?_) hk47 rfl rfl (fun w' hS => ?_) ?_; rotate_left; (go_simp; with_reducible rfl); (try simp only [Act.put, List.setIfInBounds_toArray, List.set_cons_zero, List.set_cons_succ])
 have HRB := Lib.hid (HXR.out _ HS9.out.now)
 refine wpHo_callYes hk48 rfl rfl (fun K hK => ?_)
 refine wp_store_mid 33 (.tmp 4) (.tmp 52) rfl (w.heap.size + 1) 0 #[.int .i64 y0, .int .i64 y1, .int .i64 y2, .int .i64 y3, .slice q4.1 y4.length q4.2, .slice q5.1 y5.length q5.2, .int .i64 y6, .slice q7.1 y7.length q7.2, .slice q8.1 y8.length q8.2] rfl rfl (blk_there HRB.out (by simp)) (by kernel_rfl) (by simp [Value.oneCell']) ?_
 refine hK _ _ (HXS.out _ _ HS9.out.now) (fun _ => ?_)
 simp only [Act.put]
 clear hK K
 have hset := setCells_blk (b := w.heap.size + 1) [.int .i64 y0, .int .i64 y1, .int .i64 y2, .int .i64 y3, .slice q4.1 y4.length q4.2, .slice q5.1 y5.length q5.2, .int .i64 y6, .slice q7.1 y7.length q7.2, .slice q8.1 y8.length q8.2] 0 _ _ HRB.out
 have HTO := Lib.hid (HS9.out.to.store' HB.out (R := w.heap.size + 1) (by omega) (HS9.out.to.not HN2.out.1 HN2.out.2) 0 [.int .i64 y0, .int .i64 y1, .int .i64 y2, .int .i64 y3, .slice q4.1 y4.length q4.2, .slice q5.1 y5.length q5.2, .int .i64 y6, .slice q7.1 y7.length q7.2, .slice q8.1 y8.length q8.2])
 have HOW := Lib.hid ((HS9.out.y.store (R := w.heap.size + 1) HN2.out.2 0 [.int .i64 y0, .int .i64 y1, .int .i64 y2, .int .i64 y3, .slice q4.1 y4.length q4.2, .slice q5.1 y5.length q5.2, .int .i64 y6, .slice q7.1 y7.length q7.2, .slice q8.1 y8.length q8.2]).mono HB.out.size)
 obtain ⟨w', hw'⟩ : ∃ w', w9.setCells (w.heap.size + 1) 0 [.int .i64 y0, .int .i64 y1, .int .i64 y2, .int .i64 y3, .slice q4.1 y4.length q4.2, .slice q5.1 y5.length q5.2, .int .i64 y6, .slice q7.1 y7.length q7.2, .slice q8.1 y8.length q8.2] = w' := ⟨_, rfl⟩
 have hw'2 : w9.setCells (w.heap.size + 1) 0 #[.int .i64 y0, .int .i64 y1, .int .i64 y2, .int .i64 y3, .slice q4.1 y4.length q4.2, .slice q5.1 y5.length q5.2, .int .i64 y6, .slice q7.1 y7.length q7.2, .slice q8.1 y8.length q8.2].toList = w' := hw'
 rw [hw'] at hset HTO HOW
 rw [hw'2]
 clear hw' hw'2
 rw [setAll_all (by rfl)] at hset
 have HSE := Lib.hid hset
 clear hset
 show Exit.then _ _ _ _ _
 go_wp2_with fail
 refine bodyPost_ret (results_cell_row rfl _ _ (w.heap.size + 1) 33 #[.int .i64 y0, .int .i64 y1, .int .i64 y2, .int .i64 y3, .slice q4.1 y4.length q4.2, .slice q5.1 y5.length q5.2, .int .i64 y6, .slice q7.1 y7.length q7.2, .slice q8.1 y8.length q8.2] (0, 0) _ rfl HSE.out Tryz.underlying33 rfl (by kernel_rfl)) rfl ?_
 exact ⟨⟨(y0, y1), y2, y3, y4, y5, y6, y7, y8⟩, ⟨q4.1, q5.1, q7.1, q8.1, q4.2, q5.2, q7.2, q8.2⟩, _, _, _, rfl, HTO.out, HOW.out.imp (fun V hV => ⟨hV.1.1.1.2, hV.1.1.2, hV.1.2, (by rw [tv_kv]; exact hV.2)⟩), (HD0.out.pair (HD1.out.pair (HD2.out.pair (HD3.out.pair (HD4.out.pair (HD5.out.pair (HD6.out.pair (HD7.out.pair HD8.out)))))))).conv Qy.of (Nat.le_refl _) (fun o => ⟨⟨o.1, o.2.1, o.2.2.1, o.2.2.2.1, ⟨o.2.2.2.2.1.1, fun z hz => u32_le.1 (o.2.2.2.2.1.2 z hz)⟩, o.2.2.2.2.2⟩, rfl⟩) (fun _ => rfl) rfl (fun _ => rfl)⟩
end Go.Proofs.YtdhinjbkfffpeaaGreat
end
section
namespace Go.Proofs.YtdhinjbkfffpeaaGreat
open Go.ChangeShapes Go.WideShapes Go.ChangeAt Go.RowKit Go.Joins Sp Fr Pk
def cdPl : Cd Pl := ⟨Pl.T, Pl.O, rdPl, fun x => (cdNum 4294967295).cost (x.id) + ((cdNum 4294967295).cost (x.owner) + (cdQy.cost (x.query) + ((cdRow cdSig 40).cost (x.slots) + ((cdRow cdVo 4096).cost (x.votes) + (cdSig.cost (x.until_) + ((cdInt 4).cost (x.state) + ((cdInt 40).cost (x.winner)))))))), cod_pl.bad⟩
set_option maxRecDepth 100000 in
set_option maxHeartbeats 4000000 in
theorem ppoll_any (P : Nat) (x : Pl) (p : PlP) (hx : x.Fits) (m : Md) (b : Bool) (F : Nat → Prop) (w : World) (h : PsAt w P m b F) (hr : m.Room (cdPl.cost x)) (hz : m.Rd → x = noPl) (hm : Held F w (fun V => PlAt V x p)) :
  Calls Tryz.prog 66 #[.pointer (some ⟨P, 0, none⟩), .agg (pCells x p).toArray] w (Told (fun (y : Pl) (q : PlP) => .agg (pCells y q).toArray) PlAt cdPl x P m b F w) := by
 show Calls Tryz.prog 66 #[.pointer (some ⟨P, 0, none⟩), .agg #[.int .u32 (x.id : Int), .int .u32 (x.owner : Int), .int .i64 x.query.win.1, .int .i64 x.query.win.2, .int .i64 x.query.long, .int .i64 x.query.grid, .slice p.q.A1 x.query.must.length p.q.c1, .slice p.q.A2 x.query.may.length p.q.c2, .int .i64 x.query.seats, .slice p.q.A3 x.query.apart.length p.q.c3, .slice p.q.A4 x.query.prefer.length p.q.c4, .slice p.A1 x.slots.length p.c1, .slice p.A2 x.votes.length p.c2, .int .i64 x.until_, .int .i64 x.state, .int .i64 x.winner]] w _
 obtain ⟨W1, hW1⟩ : ∃ W1, ((w.alloc (.cells #[.int .u32 (x.id : Int), .int .u32 (x.owner : Int), .int .i64 x.query.win.1, .int .i64 x.query.win.2, .int .i64 x.query.long, .int .i64 x.query.grid, .slice p.q.A1 x.query.must.length p.q.c1, .slice p.q.A2 x.query.may.length p.q.c2, .int .i64 x.query.seats, .slice p.q.A3 x.query.apart.length p.q.c3, .slice p.q.A4 x.query.prefer.length p.q.c4, .slice p.A1 x.slots.length p.c1, .slice p.A2 x.votes.length p.c2, .int .i64 x.until_, .int .i64 x.state, .int .i64 x.winner] 37)).alloc (.cells #[.int .u32 0, .int .u32 0, .int .i64 0, .int .i64 0, .int .i64 0, .int .i64 0, .slice none 0 0, .slice none 0 0, .int .i64 0, .slice none 0 0, .slice none 0 0, .slice none 0 0, .slice none 0 0, .int .i64 0, .int .i64 0, .int .i64 0] 37)) = W1 := ⟨_, rfl⟩
 have HB : Hid (Below w.heap.size w W1) := by show Below _ _ _; rw [← hW1]; exact ((Below.refl _ _).alloc (Nat.le_refl _) _).alloc (by simp) _
 have hb1 : W1.heap[w.heap.size]? = some (.cells #[.int .u32 (x.id : Int), .int .u32 (x.owner : Int), .int .i64 x.query.win.1, .int .i64 x.query.win.2, .int .i64 x.query.long, .int .i64 x.query.grid, .slice p.q.A1 x.query.must.length p.q.c1, .slice p.q.A2 x.query.may.length p.q.c2, .int .i64 x.query.seats, .slice p.q.A3 x.query.apart.length p.q.c3, .slice p.q.A4 x.query.prefer.length p.q.c4, .slice p.A1 x.slots.length p.c1, .slice p.A2 x.votes.length p.c2, .int .i64 x.until_, .int .i64 x.state, .int .i64 x.winner] 37 (0, 0)) := by rw [← hW1, heap_alloc_old _ _ (by simp), heap_alloc_new]
 have hb2 : W1.heap[w.heap.size + 1]? = some (.cells #[.int .u32 0, .int .u32 0, .int .i64 0, .int .i64 0, .int .i64 0, .int .i64 0, .slice none 0 0, .slice none 0 0, .int .i64 0, .slice none 0 0, .slice none 0 0, .slice none 0 0, .slice none 0 0, .int .i64 0, .int .i64 0, .int .i64 0] 37 (0, 0)) := by rw [← hW1]; exact heap_alloc_new2 _ _ _
 have n1 : ¬ F (w.heap.size) := h.not (by omega)
 have n2 : ¬ F (w.heap.size + 1) := h.not (by omega)
 have HN2 : Hid (¬ F (w.heap.size + 1) ∧ w.heap.size + 1 < W1.heap.size) := ⟨n2, heap_lt hb2⟩
 have E1 := Lib.hid hW1
 obtain ⟨XB, hXB⟩ : ∃ X : World → Prop, X = fun V => V.heap[w.heap.size]? = some (.cells #[.int .u32 (x.id : Int), .int .u32 (x.owner : Int), .int .i64 x.query.win.1, .int .i64 x.query.win.2, .int .i64 x.query.long, .int .i64 x.query.grid, .slice p.q.A1 x.query.must.length p.q.c1, .slice p.q.A2 x.query.may.length p.q.c2, .int .i64 x.query.seats, .slice p.q.A3 x.query.apart.length p.q.c3, .slice p.q.A4 x.query.prefer.length p.q.c4, .slice p.A1 x.slots.length p.c1, .slice p.A2 x.votes.length p.c2, .int .i64 x.until_, .int .i64 x.state, .int .i64 x.winner] 37 (0, 0)) := ⟨_, rfl⟩
 obtain ⟨X, hX⟩ : ∃ X : World → Prop, X = fun V => (XB V ∧ V.heap[w.heap.size + 1]? = some (.cells #[.int .u32 0, .int .u32 0, .int .i64 0, .int .i64 0, .int .i64 0, .int .i64 0, .slice none 0 0, .slice none 0 0, .int .i64 0, .slice none 0 0, .slice none 0 0, .slice none 0 0, .slice none 0 0, .int .i64 0, .int .i64 0, .int .i64 0] 37 (0, 0))) ∧ PlAt V x p := ⟨_, rfl⟩
 have HZL : Hid (∀ V, XB V → V.cell? ⟨w.heap.size, 0, none⟩ = some (.int .u32 (x.id : Int)) ∧ V.cell? ⟨w.heap.size, 1, none⟩ = some (.int .u32 (x.owner : Int)) ∧ V.cell? ⟨w.heap.size, 2, none⟩ = some (.int .i64 x.query.win.1) ∧ V.cell? ⟨w.heap.size, 3, none⟩ = some (.int .i64 x.query.win.2) ∧ V.cell? ⟨w.heap.size, 4, none⟩ = some (.int .i64 x.query.long) ∧ V.cell? ⟨w.heap.size, 5, none⟩ = some (.int .i64 x.query.grid) ∧ V.cell? ⟨w.heap.size, 6, none⟩ = some (.slice p.q.A1 x.query.must.length p.q.c1) ∧ V.cell? ⟨w.heap.size, 7, none⟩ = some (.slice p.q.A2 x.query.may.length p.q.c2) ∧ V.cell? ⟨w.heap.size, 8, none⟩ = some (.int .i64 x.query.seats) ∧ V.cell? ⟨w.heap.size, 9, none⟩ = some (.slice p.q.A3 x.query.apart.length p.q.c3) ∧ V.cell? ⟨w.heap.size, 10, none⟩ = some (.slice p.q.A4 x.query.prefer.length p.q.c4) ∧ V.cell? ⟨w.heap.size, 11, none⟩ = some (.slice p.A1 x.slots.length p.c1) ∧ V.cell? ⟨w.heap.size, 12, none⟩ = some (.slice p.A2 x.votes.length p.c2) ∧ V.cell? ⟨w.heap.size, 13, none⟩ = some (.int .i64 x.until_) ∧ V.cell? ⟨w.heap.size, 14, none⟩ = some (.int .i64 x.state) ∧ V.cell? ⟨w.heap.size, 15, none⟩ = some (.int .i64 x.winner)) := fun V hV => by
  rw [hXB] at hV
  exact ⟨blk_cell hV rfl, blk_cell hV rfl, blk_cell hV rfl, blk_cell hV rfl, blk_cell hV rfl, blk_cell hV rfl, blk_cell hV rfl, blk_cell hV rfl, blk_cell hV rfl, blk_cell hV rfl, blk_cell hV rfl, blk_cell hV rfl, blk_cell hV rfl, blk_cell hV rfl, blk_cell hV rfl, blk_cell hV rfl⟩
 have HXB : Hid (∀ V, X V → XB V) := fun V hV => by rw [hX] at hV; exact hV.1.1
 have HXR : Hid (∀ V, X V → V.heap[w.heap.size + 1]? = some (.cells #[.int .u32 0, .int .u32 0, .int .i64 0, .int .i64 0, .int .i64 0, .int .i64 0, .slice none 0 0, .slice none 0 0, .int .i64 0, .slice none 0 0, .slice none 0 0, .slice none 0 0, .slice none 0 0, .int .i64 0, .int .i64 0, .int .i64 0] 37 (0, 0))) := fun V hV => by rw [hX] at hV; exact hV.1.2
 have HXM : Hid (∀ V, X V → PlAt V x p) := fun V hV => by rw [hX] at hV; exact hV.2
 have HXS : Hid (∀ V vs, X V → XB (V.setCells (w.heap.size + 1) 0 vs)) := fun V vs hV => by
  rw [hX] at hV
  have hV := hV.1.1
  rw [hXB] at hV ⊢
  show (V.setCells (w.heap.size + 1) 0 vs).heap[w.heap.size]? = _
  rw [setCells_ne (by omega)]; exact hV
 have HS0 : Hid (St W1 W1.drew P m b F F X (fun _ => True)) := (St.start (h.below HB.out) (by rw [hX, hXB]; exact ((Held.blk hb1 n1).and (Held.blk hb2 n2)).and (hm.below HB.out))).drew
 have HR0 : Hid (m.Room ((cdNum 4294967295).cost (x.id) + ((cdNum 4294967295).cost (x.owner) + (cdQy.cost (x.query) + ((cdRow cdSig 40).cost (x.slots) + ((cdRow cdVo 4096).cost (x.votes) + (cdSig.cost (x.until_) + ((cdInt 4).cost (x.state) + ((cdInt 40).cost (x.winner) + 0))))))))) := hr.mono (by exact Nat.le_refl _)
 have HM0 : Hid (m.Rd → m.Rd) := id
 have HZ := Lib.hid hz
 have HC0 := Lib.hid (fun mx bx Fx wx h hr => pid_any P (x.id) (hx.id) mx bx Fx wx h hr)
 have HC1 := Lib.hid (fun mx bx Fx wx h hr => pid_any P (x.owner) (hx.owner) mx bx Fx wx h hr)
 have HC2 := Lib.hid (fun mx bx Fx wx h hr hz hm => pquery_any P (x.query) (p.q) (hx.query) mx bx Fx wx h hr hz hm)
 have HC3 := Lib.hid (fun mx bx Fx wx h hr hz hm => prowSi_any P (x.slots) p.A1 p.c1 40 (by decide) (hx.slots) mx bx Fx wx h hr hz hm)
 have HC4 := Lib.hid (fun mx bx Fx wx h hr hz hm => prowVo_any P (x.votes) p.A2 p.c2 4096 (by decide) (hx.votes) mx bx Fx wx h hr hz hm)
 have HC5 := Lib.hid (fun mx bx Fx wx h hr => psigned_any P (x.until_) (hx.until_) mx bx Fx wx h hr)
 have HC6 := Lib.hid (fun mx bx Fx wx h hr => pnumberI_any P (x.state) 4 (by decide) (hx.state) mx bx Fx wx h hr)
 have HC7 := Lib.hid (fun mx bx Fx wx h hr => pplace_any P (x.winner) (hx.winner) mx bx Fx wx h hr)
 clear hW1 hX hXB hb1 hb2 n1 n2 h hr hz hm
 go_enter Tryz.func66, Tryz.ntmps66
 go_upto_region 1 with fail
 rw [E1.out]
 refine wp_region_lexO XB (fun k => [3, 7, 11, 17, 23, 27, 31, 35, 37].contains k) [0, 1, 2, 4, 5, 6, 8, 9, 10, 12, 13, 14, 15, 16, 18, 19, 20, 21, 22, 24, 25, 26, 28, 29, 30, 32, 33, 34, 3, 7, 11, 17, 23, 27, 31, 35, 36, 37] rfl (by kernel_rfl) (by kernel_rfl) (by kernel_rfl) (fun _ _ _ _ _ h => h) (HXB.out _ HS0.out.now) ?_
 generalize World.drew W1 = w0 at *
 refine wpHo_name fun OPS hOPS => ?_
 generalize (Value.agg #[.int .u32 (x.id : Int), .int .u32 (x.owner : Int), .int .i64 x.query.win.1, .int .i64 x.query.win.2, .int .i64 x.query.long, .int .i64 x.query.grid, .slice p.q.A1 x.query.must.length p.q.c1, .slice p.q.A2 x.query.may.length p.q.c2, .int .i64 x.query.seats, .slice p.q.A3 x.query.apart.length p.q.c3, .slice p.q.A4 x.query.prefer.length p.q.c4, .slice p.A1 x.slots.length p.c1, .slice p.A2 x.votes.length p.c2, .int .i64 x.until_, .int .i64 x.state, .int .i64 x.winner]) = va
 have hk0 := congrArg (fun x => x[0]?) hOPS
 simp only [List.getElem?_toArray, List.getElem?_cons_zero] at hk0
 have hk1 := congrArg (fun x => x[1]?) hOPS
 simp only [List.getElem?_toArray, List.getElem?_cons_zero, List.getElem?_cons_succ] at hk1
 have hk2 := congrArg (fun x => x[2]?) hOPS
 simp only [List.getElem?_toArray, List.getElem?_cons_zero, List.getElem?_cons_succ] at hk2
 have hk3 := congrArg (fun x => x[3]?) hOPS
 simp only [List.getElem?_toArray, List.getElem?_cons_zero, List.getElem?_cons_succ] at hk3
 have hk4 := congrArg (fun x => x[4]?) hOPS
 simp only [List.getElem?_toArray, List.getElem?_cons_zero, List.getElem?_cons_succ] at hk4
 have hk5 := congrArg (fun x => x[5]?) hOPS
 simp only [List.getElem?_toArray, List.getElem?_cons_zero, List.getElem?_cons_succ] at hk5
 have hk6 := congrArg (fun x => x[6]?) hOPS
 simp only [List.getElem?_toArray, List.getElem?_cons_zero, List.getElem?_cons_succ] at hk6
 have hk7 := congrArg (fun x => x[7]?) hOPS
 simp only [List.getElem?_toArray, List.getElem?_cons_zero, List.getElem?_cons_succ] at hk7
 have hk8 := congrArg (fun x => x[8]?) hOPS
 simp only [List.getElem?_toArray, List.getElem?_cons_zero, List.getElem?_cons_succ] at hk8
 have hk9 := congrArg (fun x => x[9]?) hOPS
 simp only [List.getElem?_toArray, List.getElem?_cons_zero, List.getElem?_cons_succ] at hk9
 have hk10 := congrArg (fun x => x[10]?) hOPS
 simp only [List.getElem?_toArray, List.getElem?_cons_zero, List.getElem?_cons_succ] at hk10
 have hk11 := congrArg (fun x => x[11]?) hOPS
 simp only [List.getElem?_toArray, List.getElem?_cons_zero, List.getElem?_cons_succ] at hk11
 have hk12 := congrArg (fun x => x[12]?) hOPS
 simp only [List.getElem?_toArray, List.getElem?_cons_zero, List.getElem?_cons_succ] at hk12
 have hk13 := congrArg (fun x => x[13]?) hOPS
 simp only [List.getElem?_toArray, List.getElem?_cons_zero, List.getElem?_cons_succ] at hk13
 have hk14 := congrArg (fun x => x[14]?) hOPS
 simp only [List.getElem?_toArray, List.getElem?_cons_zero, List.getElem?_cons_succ] at hk14
 have hk15 := congrArg (fun x => x[15]?) hOPS
 simp only [List.getElem?_toArray, List.getElem?_cons_zero, List.getElem?_cons_succ] at hk15
 have hk16 := congrArg (fun x => x[16]?) hOPS
 simp only [List.getElem?_toArray, List.getElem?_cons_zero, List.getElem?_cons_succ] at hk16
 have hk17 := congrArg (fun x => x[17]?) hOPS
 simp only [List.getElem?_toArray, List.getElem?_cons_zero, List.getElem?_cons_succ] at hk17
 have hk18 := congrArg (fun x => x[18]?) hOPS
 simp only [List.getElem?_toArray, List.getElem?_cons_zero, List.getElem?_cons_succ] at hk18
 have hk19 := congrArg (fun x => x[19]?) hOPS
 simp only [List.getElem?_toArray, List.getElem?_cons_zero, List.getElem?_cons_succ] at hk19
 have hk20 := congrArg (fun x => x[20]?) hOPS
 simp only [List.getElem?_toArray, List.getElem?_cons_zero, List.getElem?_cons_succ] at hk20
 have hk21 := congrArg (fun x => x[21]?) hOPS
 simp only [List.getElem?_toArray, List.getElem?_cons_zero, List.getElem?_cons_succ] at hk21
 have hk22 := congrArg (fun x => x[22]?) hOPS
 simp only [List.getElem?_toArray, List.getElem?_cons_zero, List.getElem?_cons_succ] at hk22
 have hk23 := congrArg (fun x => x[23]?) hOPS
 simp only [List.getElem?_toArray, List.getElem?_cons_zero, List.getElem?_cons_succ] at hk23
 have hk24 := congrArg (fun x => x[24]?) hOPS
 simp only [List.getElem?_toArray, List.getElem?_cons_zero, List.getElem?_cons_succ] at hk24
 have hk25 := congrArg (fun x => x[25]?) hOPS
 simp only [List.getElem?_toArray, List.getElem?_cons_zero, List.getElem?_cons_succ] at hk25
 have hk26 := congrArg (fun x => x[26]?) hOPS
 simp only [List.getElem?_toArray, List.getElem?_cons_zero, List.getElem?_cons_succ] at hk26
 have hk27 := congrArg (fun x => x[27]?) hOPS
 simp only [List.getElem?_toArray, List.getElem?_cons_zero, List.getElem?_cons_succ] at hk27
 have hk28 := congrArg (fun x => x[28]?) hOPS
 simp only [List.getElem?_toArray, List.getElem?_cons_zero, List.getElem?_cons_succ] at hk28
 have hk29 := congrArg (fun x => x[29]?) hOPS
 simp only [List.getElem?_toArray, List.getElem?_cons_zero, List.getElem?_cons_succ] at hk29
 have hk30 := congrArg (fun x => x[30]?) hOPS
 simp only [List.getElem?_toArray, List.getElem?_cons_zero, List.getElem?_cons_succ] at hk30
 have hk31 := congrArg (fun x => x[31]?) hOPS
 simp only [List.getElem?_toArray, List.getElem?_cons_zero, List.getElem?_cons_succ] at hk31
 have hk32 := congrArg (fun x => x[32]?) hOPS
 simp only [List.getElem?_toArray, List.getElem?_cons_zero, List.getElem?_cons_succ] at hk32
 have hk33 := congrArg (fun x => x[33]?) hOPS
 simp only [List.getElem?_toArray, List.getElem?_cons_zero, List.getElem?_cons_succ] at hk33
 have hk34 := congrArg (fun x => x[34]?) hOPS
 simp only [List.getElem?_toArray, List.getElem?_cons_zero, List.getElem?_cons_succ] at hk34
 have hk35 := congrArg (fun x => x[35]?) hOPS
 simp only [List.getElem?_toArray, List.getElem?_cons_zero, List.getElem?_cons_succ] at hk35
 have hk36 := congrArg (fun x => x[36]?) hOPS
 simp only [List.getElem?_toArray, List.getElem?_cons_zero, List.getElem?_cons_succ] at hk36
 have hk37 := congrArg (fun x => x[37]?) hOPS
 simp only [List.getElem?_toArray, List.getElem?_cons_zero, List.getElem?_cons_succ] at hk37
 clear hOPS
 refine wpHo_yes (v := ?_) hk0 rfl rfl (fun w' hS => ?_) ?_; rotate_left; (go_simp; with_reducible rfl); (try simp only [Act.put, List.setIfInBounds_toArray, List.set_cons_zero, List.set_cons_succ])
 refine wpHo_yes (v := ?_) hk1 rfl rfl (fun w' hS => ?_) ?_; rotate_left; (go_simp; with_reducible rfl); (try simp only [Act.put, List.setIfInBounds_toArray, List.set_cons_zero, List.set_cons_succ])
 refine wpHo_yes (v := ?_) hk2 rfl rfl (fun w' hS => ?_) ?_; rotate_left; (obtain ⟨f0, f1, f2, f3, f4, f5, f6, f7, f8, f9, f10, f11, f12, f13, f14, f15⟩ := HZL.out w' hS; go_simp; with_reducible rfl); (try simp only [Act.put, List.setIfInBounds_toArray, List.set_cons_zero, List.set_cons_succ])
 refine wpHo_yes (v := ?_) hk4 rfl rfl (fun w' hS => ?_) ?_; rotate_left; (go_simp; with_reducible rfl); (try simp only [Act.put, List.setIfInBounds_toArray, List.set_cons_zero, List.set_cons_succ])
 refine wpHo_yes (v := ?_) hk5 rfl rfl (fun w' hS => ?_) ?_; rotate_left; (go_simp; with_reducible rfl); (try simp only [Act.put, List.setIfInBounds_toArray, List.set_cons_zero, List.set_cons_succ])
 refine wpHo_yes (v := ?_) hk6 rfl rfl (fun w' hS => ?_) ?_; rotate_left; (obtain ⟨f0, f1, f2, f3, f4, f5, f6, f7, f8, f9, f10, f11, f12, f13, f14, f15⟩ := HZL.out w' hS; go_simp; with_reducible rfl); (try simp only [Act.put, List.setIfInBounds_toArray, List.set_cons_zero, List.set_cons_succ])
 refine wpHo_yes (v := ?_) hk8 rfl rfl (fun w' hS => ?_) ?_; rotate_left; (go_simp; with_reducible rfl); (try simp only [Act.put, List.setIfInBounds_toArray, List.set_cons_zero, List.set_cons_succ])
 refine wpHo_yes (v := ?_) hk9 rfl rfl (fun w' hS => ?_) ?_; rotate_left; (go_simp; with_reducible rfl); (try simp only [Act.put, List.setIfInBounds_toArray, List.set_cons_zero, List.set_cons_succ])
 refine wpHo_yes (v := ?_) hk10 rfl rfl (fun w' hS => ?_) ?_; rotate_left; (obtain ⟨f0, f1, f2, f3, f4, f5, f6, f7, f8, f9, f10, f11, f12, f13, f14, f15⟩ := HZL.out w' hS; go_simp; with_reducible rfl); (try simp only [Act.put, List.setIfInBounds_toArray, List.set_cons_zero, List.set_cons_succ])
 refine wpHo_yes (v := ?_) hk12 rfl rfl (fun w' hS => ?_) ?_; rotate_left; (go_simp; with_reducible rfl); (try simp only [Act.put, List.setIfInBounds_toArray, List.set_cons_zero, List.set_cons_succ])
 refine wpHo_yes (v := ?_) hk13 rfl rfl (fun w' hS => ?_) ?_; rotate_left; (go_simp; with_reducible rfl); (try simp only [Act.put, List.setIfInBounds_toArray, List.set_cons_zero, List.set_cons_succ])
 refine wpHo_yes (v := ?_) hk14 rfl rfl (fun w' hS => ?_) ?_; rotate_left; (obtain ⟨f0, f1, f2, f3, f4, f5, f6, f7, f8, f9, f10, f11, f12, f13, f14, f15⟩ := HZL.out w' hS; go_simp; with_reducible rfl); (try simp only [Act.put, List.setIfInBounds_toArray, List.set_cons_zero, List.set_cons_succ])
 refine wpHo_yes (v := ?_) hk15 rfl rfl (fun w' hS => ?_) ?_; rotate_left; (go_simp; with_reducible rfl); (try simp only [Act.put, List.setIfInBounds_toArray, List.set_cons_zero, List.set_cons_succ])
 refine wpHo_yes (v := ?_) hk16 rfl rfl (fun w' hS => ?_) ?_; rotate_left; (go_simp; with_reducible rfl); (try simp only [Act.put, List.setIfInBounds_toArray, List.set_cons_zero, List.set_cons_succ])
 refine wpHo_yes (v := ?_) hk18 rfl rfl (fun w' hS => ?_) ?_; rotate_left; (go_simp; with_reducible rfl); (try simp only [Act.put, List.setIfInBounds_toArray, List.set_cons_zero, List.set_cons_succ])
 refine wpHo_yes (v := ?_) hk19 rfl rfl (fun w' hS => ?_) ?_; rotate_left; (go_simp; with_reducible rfl); (try simp only [Act.put, List.setIfInBounds_toArray, List.set_cons_zero, List.set_cons_succ])
 refine wpHo_yes (v := ?_) hk20 rfl rfl (fun w' hS => ?_) ?_; rotate_left; (obtain ⟨f0, f1, f2, f3, f4, f5, f6, f7, f8, f9, f10, f11, f12, f13, f14, f15⟩ := HZL.out w' hS; go_simp; with_reducible rfl); (try simp only [Act.put, List.setIfInBounds_toArray, List.set_cons_zero, List.set_cons_succ])
 refine wpHo_yes (v := ?_) hk21 rfl rfl (fun w' hS => ?_) ?_; rotate_left; (go_simp; with_reducible rfl); (try simp only [Act.put, List.setIfInBounds_toArray, List.set_cons_zero, List.set_cons_succ])
 refine wpHo_yes (v := ?_) hk22 rfl rfl (fun w' hS => ?_) ?_; rotate_left; (go_simp; with_reducible rfl); (try simp only [Act.put, List.setIfInBounds_toArray, List.set_cons_zero, List.set_cons_succ])
 refine wpHo_yes (v := ?_) hk24 rfl rfl (fun w' hS => ?_) ?_; rotate_left; (go_simp; with_reducible rfl); (try simp only [Act.put, List.setIfInBounds_toArray, List.set_cons_zero, List.set_cons_succ])
 refine wpHo_yes (v := ?_) hk25 rfl rfl (fun w' hS => ?_) ?_; rotate_left; (go_simp; with_reducible rfl); (try simp only [Act.put, List.setIfInBounds_toArray, List.set_cons_zero, List.set_cons_succ])
 refine wpHo_yes (v := ?_) hk26 rfl rfl (fun w' hS => ?_) ?_; rotate_left; (obtain ⟨f0, f1, f2, f3, f4, f5, f6, f7, f8, f9, f10, f11, f12, f13, f14, f15⟩ := HZL.out w' hS; go_simp; with_reducible rfl); (try simp only [Act.put, List.setIfInBounds_toArray, List.set_cons_zero, List.set_cons_succ])
 refine wpHo_yes (v := ?_) hk28 rfl rfl (fun w' hS => ?_) ?_; rotate_left; (go_simp; with_reducible rfl); (try simp only [Act.put, List.setIfInBounds_toArray, List.set_cons_zero, List.set_cons_succ])
 refine wpHo_yes (v := ?_) hk29 rfl rfl (fun w' hS => ?_) ?_; rotate_left; (go_simp; with_reducible rfl); (try simp only [Act.put, List.setIfInBounds_toArray, List.set_cons_zero, List.set_cons_succ])
 refine wpHo_yes (v := ?_) hk30 rfl rfl (fun w' hS => ?_) ?_; rotate_left; (obtain ⟨f0, f1, f2, f3, f4, f5, f6, f7, f8, f9, f10, f11, f12, f13, f14, f15⟩ := HZL.out w' hS; go_simp; with_reducible rfl); (try simp only [Act.put, List.setIfInBounds_toArray, List.set_cons_zero, List.set_cons_succ])
 refine wpHo_yes (v := ?_) hk32 rfl rfl (fun w' hS => ?_) ?_; rotate_left; (go_simp; with_reducible rfl); (try simp only [Act.put, List.setIfInBounds_toArray, List.set_cons_zero, List.set_cons_succ])
 refine wpHo_yes (v := ?_) hk33 rfl rfl (fun w' hS => ?_) ?_; rotate_left; (go_simp; with_reducible rfl); (try simp only [Act.put, List.setIfInBounds_toArray, List.set_cons_zero, List.set_cons_succ])
 refine wpHo_yes (v := ?_) hk34 rfl rfl (fun w' hS => ?_) ?_; rotate_left; (obtain ⟨f0, f1, f2, f3, f4, f5, f6, f7, f8, f9, f10, f11, f12, f13, f14, f15⟩ := HZL.out w' hS; go_simp; with_reducible rfl); (try simp only [Act.put, List.setIfInBounds_toArray, List.set_cons_zero, List.set_cons_succ])
 refine wpHo_callYes hk3 rfl rfl (fun K hK => ?_)
 go_simp
 go_at_call 103
 refine (HC0.out _ _ _ _ HS0.out.to.at_ (HR0.out.mono (Nat.le_add_right _ _))).mono ?_
 rintro e w1 ⟨y0, m0, b0, F0, rfl, hT, hD, hy⟩
 have HD0 := Lib.hid hD
 have HR1 := Lib.hid (hD.room HR0.out)
 have HM1 : Hid (m0.Rd → m.Rd) := fun hm => HM0.out (hD.mode.1 hm)
 have HS1 := Lib.hid (HS0.out.tel hT)
 clear hT hD hy HS0 HR0 HC0 HM0
 refine hK _ _ (HXB.out _ HS1.out.now) (fun _ => ?_)
 skip
 clear hK K
 refine wpHo_callYes hk7 rfl rfl (fun K hK => ?_)
 go_simp
 go_at_call 103
 refine (HC1.out _ _ _ _ HS1.out.to.at_ (HR1.out.mono (Nat.le_add_right _ _))).mono ?_
 rintro e w2 ⟨y1, m1, b1, F1, rfl, hT, hD, hy⟩
 have HD1 := Lib.hid hD
 have HR2 := Lib.hid (hD.room HR1.out)
 have HM2 : Hid (m1.Rd → m.Rd) := fun hm => HM1.out (hD.mode.1 hm)
 have HS2 := Lib.hid (HS1.out.tel hT)
 clear hT hD hy HS1 HR1 HC1 HM1
 refine hK _ _ (HXB.out _ HS2.out.now) (fun _ => ?_)
 skip
 clear hK K
 refine wpHo_callYes hk11 rfl rfl (fun K hK => ?_)
 go_simp
 go_at_call 106
 refine (HC2.out _ _ _ _ HS2.out.to.at_ (HR2.out.mono (Nat.le_add_right _ _)) (fun hm => by rw [HZ.out (HM2.out hm)] <;> rfl) (HS2.out.x.imp fun V hV => (HXM.out V hV).q)).mono ?_
 rintro e w3 ⟨y2, q2, m2, b2, F2, rfl, hT, hO, hD⟩
 have HD2 := Lib.hid hD
 have HR3 := Lib.hid (hD.room HR2.out)
 have HM3 : Hid (m2.Rd → m.Rd) := fun hm => HM2.out (hD.mode.1 hm)
 have HS3 := Lib.hid (HS2.out.told hT hO)
 clear hT hD hO HS2 HR2 HC2 HM2
 refine hK _ _ (HXB.out _ HS3.out.now) (fun _ => ?_)
 (try simp only [qCells])
 clear hK K
 refine wpHo_callYes hk17 rfl rfl (fun K hK => ?_)
 go_simp
 go_at_call 122
 refine (HC3.out _ _ _ _ HS3.out.to.at_ (HR3.out.mono (Nat.le_add_right _ _)) (fun hm => by rw [HZ.out (HM3.out hm)] <;> rfl) (HS3.out.x.imp fun V hV => by rw [← iv_kv]; exact (HXM.out V hV).s1)).mono ?_
 rintro e w4 ⟨y3, q3, m3, b3, F3, rfl, hT, hO, hD⟩
 have HD3 := Lib.hid hD
 have HR4 := Lib.hid (hD.room HR3.out)
 have HM4 : Hid (m3.Rd → m.Rd) := fun hm => HM3.out (hD.mode.1 hm)
 have HS4 := Lib.hid (HS3.out.told hT hO)
 clear hT hD hO HS3 HR3 HC3 HM3
 refine hK _ _ (HXB.out _ HS4.out.now) (fun _ => ?_)
 skip
 clear hK K
 refine wpHo_callYes hk23 rfl rfl (fun K hK => ?_)
 go_simp
 go_at_call 123
 refine (HC4.out _ _ _ _ HS4.out.to.at_ (HR4.out.mono (Nat.le_add_right _ _)) (fun hm => by rw [HZ.out (HM4.out hm)] <;> rfl) (HS4.out.x.imp fun V hV => (HXM.out V hV).s2)).mono ?_
 rintro e w5 ⟨y4, q4, m4, b4, F4, rfl, hT, hO, hD⟩
 have HD4 := Lib.hid hD
 have HR5 := Lib.hid (hD.room HR4.out)
 have HM5 : Hid (m4.Rd → m.Rd) := fun hm => HM4.out (hD.mode.1 hm)
 have HS5 := Lib.hid (HS4.out.told hT hO)
 clear hT hD hO HS4 HR4 HC4 HM4
 refine hK _ _ (HXB.out _ HS5.out.now) (fun _ => ?_)
 skip
 clear hK K
 refine wpHo_callYes hk27 rfl rfl (fun K hK => ?_)
 go_simp
 go_at_call 90
 refine (HC5.out _ _ _ _ HS5.out.to.at_ (HR5.out.mono (Nat.le_add_right _ _))).mono ?_
 rintro e w6 ⟨y5, m5, b5, F5, rfl, hT, hD, hy⟩
 have HD5 := Lib.hid hD
 have HR6 := Lib.hid (hD.room HR5.out)
 have HM6 : Hid (m5.Rd → m.Rd) := fun hm => HM5.out (hD.mode.1 hm)
 have HS6 := Lib.hid (HS5.out.tel hT)
 clear hT hD hy HS5 HR5 HC5 HM5
 refine hK _ _ (HXB.out _ HS6.out.now) (fun _ => ?_)
 skip
 clear hK K
 refine wpHo_callYes hk31 rfl rfl (fun K hK => ?_)
 go_simp
 go_at_call 102
 refine (HC6.out _ _ _ _ HS6.out.to.at_ (HR6.out.mono (Nat.le_add_right _ _))).mono ?_
 rintro e w7 ⟨y6, m6, b6, F6, rfl, hT, hD, hy⟩
 have HD6 := Lib.hid hD
 have HR7 := Lib.hid (hD.room HR6.out)
 have HM7 : Hid (m6.Rd → m.Rd) := fun hm => HM6.out (hD.mode.1 hm)
 have HS7 := Lib.hid (HS6.out.tel hT)
 clear hT hD hy HS6 HR6 HC6 HM6
 refine hK _ _ (HXB.out _ HS7.out.now) (fun _ => ?_)
 skip
 clear hK K
 refine wpHo_callYes hk35 rfl rfl (fun K hK => ?_)
 go_simp
 go_at_call 108
 refine (HC7.out _ _ _ _ HS7.out.to.at_ (HR7.out.mono (Nat.le_add_right _ _))).mono ?_
 rintro e w8 ⟨y7, m7, b7, F7, rfl, hT, hD, hy⟩
 have HD7 := Lib.hid hD
 have HR8 := Lib.hid (hD.room HR7.out)
 have HM8 : Hid (m7.Rd → m.Rd) := fun hm => HM7.out (hD.mode.1 hm)
 have HS8 := Lib.hid (HS7.out.tel hT)
 clear hT hD hy HS7 HR7 HC7 HM7
 refine hK _ _ (HXB.out _ HS8.out.now) (fun _ => ?_)
 skip
 clear hK K
 refine wpHo_yes (v := ?_) hk36 rfl rfl (fun w' hS => ?_) ?_; rotate_left; (go_simp; with_reducible rfl); (try simp only [Act.put, List.setIfInBounds_toArray, List.set_cons_zero, List.set_cons_succ])
 have HRB := Lib.hid (HXR.out _ HS8.out.now)
 refine wpHo_callYes hk37 rfl rfl (fun K hK => ?_)
 refine wp_store_mid 37 (.tmp 4) (.tmp 41) rfl (w.heap.size + 1) 0 #[.int .u32 (y0 : Int), .int .u32 (y1 : Int), .int .i64 y2.win.1, .int .i64 y2.win.2, .int .i64 y2.long, .int .i64 y2.grid, .slice q2.A1 y2.must.length q2.c1, .slice q2.A2 y2.may.length q2.c2, .int .i64 y2.seats, .slice q2.A3 y2.apart.length q2.c3, .slice q2.A4 y2.prefer.length q2.c4, .slice q3.1 y3.length q3.2, .slice q4.1 y4.length q4.2, .int .i64 y5, .int .i64 y6, .int .i64 y7] rfl rfl (blk_there HRB.out (by simp)) (by kernel_rfl) (by simp [Value.oneCell']) ?_
 refine hK _ _ (HXS.out _ _ HS8.out.now) (fun _ => ?_)
 simp only [Act.put]
 clear hK K
 have hset := setCells_blk (b := w.heap.size + 1) [.int .u32 (y0 : Int), .int .u32 (y1 : Int), .int .i64 y2.win.1, .int .i64 y2.win.2, .int .i64 y2.long, .int .i64 y2.grid, .slice q2.A1 y2.must.length q2.c1, .slice q2.A2 y2.may.length q2.c2, .int .i64 y2.seats, .slice q2.A3 y2.apart.length q2.c3, .slice q2.A4 y2.prefer.length q2.c4, .slice q3.1 y3.length q3.2, .slice q4.1 y4.length q4.2, .int .i64 y5, .int .i64 y6, .int .i64 y7] 0 _ _ HRB.out
 have HTO := Lib.hid (HS8.out.to.store' HB.out (R := w.heap.size + 1) (by omega) (HS8.out.to.not HN2.out.1 HN2.out.2) 0 [.int .u32 (y0 : Int), .int .u32 (y1 : Int), .int .i64 y2.win.1, .int .i64 y2.win.2, .int .i64 y2.long, .int .i64 y2.grid, .slice q2.A1 y2.must.length q2.c1, .slice q2.A2 y2.may.length q2.c2, .int .i64 y2.seats, .slice q2.A3 y2.apart.length q2.c3, .slice q2.A4 y2.prefer.length q2.c4, .slice q3.1 y3.length q3.2, .slice q4.1 y4.length q4.2, .int .i64 y5, .int .i64 y6, .int .i64 y7])
 have HOW := Lib.hid ((HS8.out.y.store (R := w.heap.size + 1) HN2.out.2 0 [.int .u32 (y0 : Int), .int .u32 (y1 : Int), .int .i64 y2.win.1, .int .i64 y2.win.2, .int .i64 y2.long, .int .i64 y2.grid, .slice q2.A1 y2.must.length q2.c1, .slice q2.A2 y2.may.length q2.c2, .int .i64 y2.seats, .slice q2.A3 y2.apart.length q2.c3, .slice q2.A4 y2.prefer.length q2.c4, .slice q3.1 y3.length q3.2, .slice q4.1 y4.length q4.2, .int .i64 y5, .int .i64 y6, .int .i64 y7]).mono HB.out.size)
 obtain ⟨w', hw'⟩ : ∃ w', w8.setCells (w.heap.size + 1) 0 [.int .u32 (y0 : Int), .int .u32 (y1 : Int), .int .i64 y2.win.1, .int .i64 y2.win.2, .int .i64 y2.long, .int .i64 y2.grid, .slice q2.A1 y2.must.length q2.c1, .slice q2.A2 y2.may.length q2.c2, .int .i64 y2.seats, .slice q2.A3 y2.apart.length q2.c3, .slice q2.A4 y2.prefer.length q2.c4, .slice q3.1 y3.length q3.2, .slice q4.1 y4.length q4.2, .int .i64 y5, .int .i64 y6, .int .i64 y7] = w' := ⟨_, rfl⟩
 have hw'2 : w8.setCells (w.heap.size + 1) 0 #[.int .u32 (y0 : Int), .int .u32 (y1 : Int), .int .i64 y2.win.1, .int .i64 y2.win.2, .int .i64 y2.long, .int .i64 y2.grid, .slice q2.A1 y2.must.length q2.c1, .slice q2.A2 y2.may.length q2.c2, .int .i64 y2.seats, .slice q2.A3 y2.apart.length q2.c3, .slice q2.A4 y2.prefer.length q2.c4, .slice q3.1 y3.length q3.2, .slice q4.1 y4.length q4.2, .int .i64 y5, .int .i64 y6, .int .i64 y7].toList = w' := hw'
 rw [hw'] at hset HTO HOW
 rw [hw'2]
 clear hw' hw'2
 rw [setAll_all (by rfl)] at hset
 have HSE := Lib.hid hset
 clear hset
 show Exit.then _ _ _ _ _
 go_wp2_with fail
 refine bodyPost_ret (results_cell_row rfl _ _ (w.heap.size + 1) 37 #[.int .u32 (y0 : Int), .int .u32 (y1 : Int), .int .i64 y2.win.1, .int .i64 y2.win.2, .int .i64 y2.long, .int .i64 y2.grid, .slice q2.A1 y2.must.length q2.c1, .slice q2.A2 y2.may.length q2.c2, .int .i64 y2.seats, .slice q2.A3 y2.apart.length q2.c3, .slice q2.A4 y2.prefer.length q2.c4, .slice q3.1 y3.length q3.2, .slice q4.1 y4.length q4.2, .int .i64 y5, .int .i64 y6, .int .i64 y7] (0, 0) _ rfl HSE.out Tryz.underlying37 rfl (by kernel_rfl)) rfl ?_
 exact ⟨⟨y0, y1, y2, y3, y4, y5, y6, y7⟩, ⟨q2, q3.1, q4.1, q3.2, q4.2⟩, _, _, _, rfl, HTO.out, HOW.out.imp (fun V hV => ⟨hV.1.1.2, (by rw [iv_kv]; exact hV.1.2), hV.2⟩), (HD0.out.pair (HD1.out.pair (HD2.out.pair (HD3.out.pair (HD4.out.pair (HD5.out.pair (HD6.out.pair HD7.out))))))).conv Pl.of (Nat.le_refl _) (fun o => ⟨⟨u32_le.1 o.1, u32_le.1 o.2.1, o.2.2⟩, rfl⟩) (fun _ => rfl) rfl (fun _ => rfl)⟩
end Go.Proofs.YtdhinjbkfffpeaaGreat
end
section
namespace Go.Proofs.YtdhinjbkfffpeaaGreat
open Go.ChangeShapes Go.WideShapes Go.ChangeAt Go.RowKit Go.Joins Sp Fr Pk
def cdStg : Cd Stg := ⟨Stg.T, Stg.O, rdStg, fun x => (cdZ (-900) 900).cost (x.base) + ((cdRow cdTu 700).cost (x.turns) + ((cdRow cdSh 10).cost (x.shifts) + ((cdRow (cdInt 109937) 60).cost (x.off) + ((cdInt 240).cost (x.before) + ((cdInt 240).cost (x.after)))))), cod_stg.bad⟩
set_option maxRecDepth 100000 in
set_option maxHeartbeats 4000000 in
theorem psettings_any (P : Nat) (x : Stg) (p : StgP) (hx : x.Fits) (m : Md) (b : Bool) (F : Nat → Prop) (w : World) (h : PsAt w P m b F) (hr : m.Room (cdStg.cost x)) (hz : m.Rd → x = noStg) (hm : Held F w (fun V => StgAt V x p)) :
  Calls Tryz.prog 104 #[.pointer (some ⟨P, 0, none⟩), .agg (sCells x p).toArray] w (Told (fun (y : Stg) (q : StgP) => .agg (sCells y q).toArray) StgAt cdStg x P m b F w) := by
 show Calls Tryz.prog 104 #[.pointer (some ⟨P, 0, none⟩), .agg #[.int .i64 x.base, .slice p.A1 x.turns.length p.c1, .slice p.A2 x.shifts.length p.c2, .slice p.A3 x.off.length p.c3, .int .i64 x.before, .int .i64 x.after]] w _
 obtain ⟨W1, hW1⟩ : ∃ W1, ((w.alloc (.cells #[.int .i64 x.base, .slice p.A1 x.turns.length p.c1, .slice p.A2 x.shifts.length p.c2, .slice p.A3 x.off.length p.c3, .int .i64 x.before, .int .i64 x.after] 57)).alloc (.cells #[.int .i64 0, .slice none 0 0, .slice none 0 0, .slice none 0 0, .int .i64 0, .int .i64 0] 57)) = W1 := ⟨_, rfl⟩
 have HB : Hid (Below w.heap.size w W1) := by show Below _ _ _; rw [← hW1]; exact ((Below.refl _ _).alloc (Nat.le_refl _) _).alloc (by simp) _
 have hb1 : W1.heap[w.heap.size]? = some (.cells #[.int .i64 x.base, .slice p.A1 x.turns.length p.c1, .slice p.A2 x.shifts.length p.c2, .slice p.A3 x.off.length p.c3, .int .i64 x.before, .int .i64 x.after] 57 (0, 0)) := by rw [← hW1, heap_alloc_old _ _ (by simp), heap_alloc_new]
 have hb2 : W1.heap[w.heap.size + 1]? = some (.cells #[.int .i64 0, .slice none 0 0, .slice none 0 0, .slice none 0 0, .int .i64 0, .int .i64 0] 57 (0, 0)) := by rw [← hW1]; exact heap_alloc_new2 _ _ _
 have n1 : ¬ F (w.heap.size) := h.not (by omega)
 have n2 : ¬ F (w.heap.size + 1) := h.not (by omega)
 have HN2 : Hid (¬ F (w.heap.size + 1) ∧ w.heap.size + 1 < W1.heap.size) := ⟨n2, heap_lt hb2⟩
 have E1 := Lib.hid hW1
 obtain ⟨XB, hXB⟩ : ∃ X : World → Prop, X = fun V => V.heap[w.heap.size]? = some (.cells #[.int .i64 x.base, .slice p.A1 x.turns.length p.c1, .slice p.A2 x.shifts.length p.c2, .slice p.A3 x.off.length p.c3, .int .i64 x.before, .int .i64 x.after] 57 (0, 0)) := ⟨_, rfl⟩
 obtain ⟨X, hX⟩ : ∃ X : World → Prop, X = fun V => (XB V ∧ V.heap[w.heap.size + 1]? = some (.cells #[.int .i64 0, .slice none 0 0, .slice none 0 0, .slice none 0 0, .int .i64 0, .int .i64 0] 57 (0, 0))) ∧ StgAt V x p := ⟨_, rfl⟩
 have HZL : Hid (∀ V, XB V → V.cell? ⟨w.heap.size, 0, none⟩ = some (.int .i64 x.base) ∧ V.cell? ⟨w.heap.size, 1, none⟩ = some (.slice p.A1 x.turns.length p.c1) ∧ V.cell? ⟨w.heap.size, 2, none⟩ = some (.slice p.A2 x.shifts.length p.c2) ∧ V.cell? ⟨w.heap.size, 3, none⟩ = some (.slice p.A3 x.off.length p.c3) ∧ V.cell? ⟨w.heap.size, 4, none⟩ = some (.int .i64 x.before) ∧ V.cell? ⟨w.heap.size, 5, none⟩ = some (.int .i64 x.after)) := fun V hV => by
  rw [hXB] at hV
  exact ⟨blk_cell hV rfl, blk_cell hV rfl, blk_cell hV rfl, blk_cell hV rfl, blk_cell hV rfl, blk_cell hV rfl⟩
 have HXB : Hid (∀ V, X V → XB V) := fun V hV => by rw [hX] at hV; exact hV.1.1
 have HXR : Hid (∀ V, X V → V.heap[w.heap.size + 1]? = some (.cells #[.int .i64 0, .slice none 0 0, .slice none 0 0, .slice none 0 0, .int .i64 0, .int .i64 0] 57 (0, 0))) := fun V hV => by rw [hX] at hV; exact hV.1.2
 have HXM : Hid (∀ V, X V → StgAt V x p) := fun V hV => by rw [hX] at hV; exact hV.2
 have HXS : Hid (∀ V vs, X V → XB (V.setCells (w.heap.size + 1) 0 vs)) := fun V vs hV => by
  rw [hX] at hV
  have hV := hV.1.1
  rw [hXB] at hV ⊢
  show (V.setCells (w.heap.size + 1) 0 vs).heap[w.heap.size]? = _
  rw [setCells_ne (by omega)]; exact hV
 have HS0 : Hid (St W1 W1.drew P m b F F X (fun _ => True)) := (St.start (h.below HB.out) (by rw [hX, hXB]; exact ((Held.blk hb1 n1).and (Held.blk hb2 n2)).and (hm.below HB.out))).drew
 have HR0 : Hid (m.Room ((cdZ (-900) 900).cost (x.base) + ((cdRow cdTu 700).cost (x.turns) + ((cdRow cdSh 10).cost (x.shifts) + ((cdRow (cdInt 109937) 60).cost (x.off) + ((cdInt 240).cost (x.before) + ((cdInt 240).cost (x.after) + 0))))))) := hr.mono (by exact Nat.le_refl _)
 have HM0 : Hid (m.Rd → m.Rd) := id
 have HZ := Lib.hid hz
 have HC0 := Lib.hid (fun mx bx Fx wx h hr => pwithin_any P (x.base) 900 (by decide) (hx.base) mx bx Fx wx h hr)
 have HC1 := Lib.hid (fun mx bx Fx wx h hr hz hm => prowTu_any P (x.turns) p.A1 p.c1 700 (by decide) (hx.turns) mx bx Fx wx h hr hz hm)
 have HC2 := Lib.hid (fun mx bx Fx wx h hr hz hm => prowSh_any P (x.shifts) p.A2 p.c2 10 (by decide) (hx.shifts) mx bx Fx wx h hr hz hm)
 have HC3 := Lib.hid (fun mx bx Fx wx h hr hz hm => prowOf_any P (x.off) p.A3 p.c3 60 (by decide) (hx.off) mx bx Fx wx h hr hz hm)
 have HC4 := Lib.hid (fun mx bx Fx wx h hr => pnumberI_any P (x.before) 240 (by decide) (hx.before) mx bx Fx wx h hr)
 have HC5 := Lib.hid (fun mx bx Fx wx h hr => pnumberI_any P (x.after) 240 (by decide) (hx.after) mx bx Fx wx h hr)
 clear hW1 hX hXB hb1 hb2 n1 n2 h hr hz hm
 go_enter Tryz.func104, Tryz.ntmps104
 go_upto_region 1 with fail
 rw [E1.out]
 refine wp_region_lexO XB (fun k => [4, 11, 19, 26, 31, 35, 37].contains k) [0, 1, 2, 3, 5, 6, 7, 8, 9, 10, 13, 14, 15, 16, 17, 18, 20, 21, 22, 23, 24, 25, 28, 29, 30, 32, 33, 34, 4, 11, 12, 19, 26, 27, 31, 35, 36, 37] rfl (by kernel_rfl) (by kernel_rfl) (by kernel_rfl) (fun _ _ _ _ _ h => h) (HXB.out _ HS0.out.now) ?_
 generalize World.drew W1 = w0 at *
 refine wpHo_name fun OPS hOPS => ?_
 generalize (Value.agg #[.int .i64 x.base, .slice p.A1 x.turns.length p.c1, .slice p.A2 x.shifts.length p.c2, .slice p.A3 x.off.length p.c3, .int .i64 x.before, .int .i64 x.after]) = va
 have hk0 := congrArg (fun x => x[0]?) hOPS
 simp only [List.getElem?_toArray, List.getElem?_cons_zero] at hk0
 have hk1 := congrArg (fun x => x[1]?) hOPS
 simp only [List.getElem?_toArray, List.getElem?_cons_zero, List.getElem?_cons_succ] at hk1
 have hk2 := congrArg (fun x => x[2]?) hOPS
 simp only [List.getElem?_toArray, List.getElem?_cons_zero, List.getElem?_cons_succ] at hk2
 have hk3 := congrArg (fun x => x[3]?) hOPS
 simp only [List.getElem?_toArray, List.getElem?_cons_zero, List.getElem?_cons_succ] at hk3
 have hk4 := congrArg (fun x => x[4]?) hOPS
 simp only [List.getElem?_toArray, List.getElem?_cons_zero, List.getElem?_cons_succ] at hk4
 have hk5 := congrArg (fun x => x[5]?) hOPS
 simp only [List.getElem?_toArray, List.getElem?_cons_zero, List.getElem?_cons_succ] at hk5
 have hk6 := congrArg (fun x => x[6]?) hOPS
 simp only [List.getElem?_toArray, List.getElem?_cons_zero, List.getElem?_cons_succ] at hk6
 have hk7 := congrArg (fun x => x[7]?) hOPS
 simp only [List.getElem?_toArray, List.getElem?_cons_zero, List.getElem?_cons_succ] at hk7
 have hk8 := congrArg (fun x => x[8]?) hOPS
 simp only [List.getElem?_toArray, List.getElem?_cons_zero, List.getElem?_cons_succ] at hk8
 have hk9 := congrArg (fun x => x[9]?) hOPS
 simp only [List.getElem?_toArray, List.getElem?_cons_zero, List.getElem?_cons_succ] at hk9
 have hk10 := congrArg (fun x => x[10]?) hOPS
 simp only [List.getElem?_toArray, List.getElem?_cons_zero, List.getElem?_cons_succ] at hk10
 have hk11 := congrArg (fun x => x[11]?) hOPS
 simp only [List.getElem?_toArray, List.getElem?_cons_zero, List.getElem?_cons_succ] at hk11
 have hk12 := congrArg (fun x => x[12]?) hOPS
 simp only [List.getElem?_toArray, List.getElem?_cons_zero, List.getElem?_cons_succ] at hk12
 have hk13 := congrArg (fun x => x[13]?) hOPS
 simp only [List.getElem?_toArray, List.getElem?_cons_zero, List.getElem?_cons_succ] at hk13
 have hk14 := congrArg (fun x => x[14]?) hOPS
 simp only [List.getElem?_toArray, List.getElem?_cons_zero, List.getElem?_cons_succ] at hk14
 have hk15 := congrArg (fun x => x[15]?) hOPS
 simp only [List.getElem?_toArray, List.getElem?_cons_zero, List.getElem?_cons_succ] at hk15
 have hk16 := congrArg (fun x => x[16]?) hOPS
 simp only [List.getElem?_toArray, List.getElem?_cons_zero, List.getElem?_cons_succ] at hk16
 have hk17 := congrArg (fun x => x[17]?) hOPS
 simp only [List.getElem?_toArray, List.getElem?_cons_zero, List.getElem?_cons_succ] at hk17
 have hk18 := congrArg (fun x => x[18]?) hOPS
 simp only [List.getElem?_toArray, List.getElem?_cons_zero, List.getElem?_cons_succ] at hk18
 have hk19 := congrArg (fun x => x[19]?) hOPS
 simp only [List.getElem?_toArray, List.getElem?_cons_zero, List.getElem?_cons_succ] at hk19
 have hk20 := congrArg (fun x => x[20]?) hOPS
 simp only [List.getElem?_toArray, List.getElem?_cons_zero, List.getElem?_cons_succ] at hk20
 have hk21 := congrArg (fun x => x[21]?) hOPS
 simp only [List.getElem?_toArray, List.getElem?_cons_zero, List.getElem?_cons_succ] at hk21
 have hk22 := congrArg (fun x => x[22]?) hOPS
 simp only [List.getElem?_toArray, List.getElem?_cons_zero, List.getElem?_cons_succ] at hk22
 have hk23 := congrArg (fun x => x[23]?) hOPS
 simp only [List.getElem?_toArray, List.getElem?_cons_zero, List.getElem?_cons_succ] at hk23
 have hk24 := congrArg (fun x => x[24]?) hOPS
 simp only [List.getElem?_toArray, List.getElem?_cons_zero, List.getElem?_cons_succ] at hk24
 have hk25 := congrArg (fun x => x[25]?) hOPS
 simp only [List.getElem?_toArray, List.getElem?_cons_zero, List.getElem?_cons_succ] at hk25
 have hk26 := congrArg (fun x => x[26]?) hOPS
 simp only [List.getElem?_toArray, List.getElem?_cons_zero, List.getElem?_cons_succ] at hk26
 have hk27 := congrArg (fun x => x[27]?) hOPS
 simp only [List.getElem?_toArray, List.getElem?_cons_zero, List.getElem?_cons_succ] at hk27
 have hk28 := congrArg (fun x => x[28]?) hOPS
 simp only [List.getElem?_toArray, List.getElem?_cons_zero, List.getElem?_cons_succ] at hk28
 have hk29 := congrArg (fun x => x[29]?) hOPS
 simp only [List.getElem?_toArray, List.getElem?_cons_zero, List.getElem?_cons_succ] at hk29
 have hk30 := congrArg (fun x => x[30]?) hOPS
 simp only [List.getElem?_toArray, List.getElem?_cons_zero, List.getElem?_cons_succ] at hk30
 have hk31 := congrArg (fun x => x[31]?) hOPS
 simp only [List.getElem?_toArray, List.getElem?_cons_zero, List.getElem?_cons_succ] at hk31
 have hk32 := congrArg (fun x => x[32]?) hOPS
 simp only [List.getElem?_toArray, List.getElem?_cons_zero, List.getElem?_cons_succ] at hk32
 have hk33 := congrArg (fun x => x[33]?) hOPS
 simp only [List.getElem?_toArray, List.getElem?_cons_zero, List.getElem?_cons_succ] at hk33
 have hk34 := congrArg (fun x => x[34]?) hOPS
 simp only [List.getElem?_toArray, List.getElem?_cons_zero, List.getElem?_cons_succ] at hk34
 have hk35 := congrArg (fun x => x[35]?) hOPS
 simp only [List.getElem?_toArray, List.getElem?_cons_zero, List.getElem?_cons_succ] at hk35
 have hk36 := congrArg (fun x => x[36]?) hOPS
 simp only [List.getElem?_toArray, List.getElem?_cons_zero, List.getElem?_cons_succ] at hk36
 have hk37 := congrArg (fun x => x[37]?) hOPS
 simp only [List.getElem?_toArray, List.getElem?_cons_zero, List.getElem?_cons_succ] at hk37
 clear hOPS
 refine wpHo_yes (v := ?_) hk0 rfl rfl (fun w' hS => ?_) ?_; rotate_left; (go_simp; with_reducible rfl); (try simp only [Act.put, List.setIfInBounds_toArray, List.set_cons_zero, List.set_cons_succ])
 refine wpHo_yes (v := ?_) hk1 rfl rfl (fun w' hS => ?_) ?_; rotate_left; (go_simp; with_reducible rfl); (try simp only [Act.put, List.setIfInBounds_toArray, List.set_cons_zero, List.set_cons_succ])
 refine wpHo_yes (v := ?_) hk2 rfl rfl (fun w' hS => ?_) ?_; rotate_left; (go_simp; with_reducible rfl); (try simp only [Act.put, List.setIfInBounds_toArray, List.set_cons_zero, List.set_cons_succ])
 refine wpHo_yes (v := ?_) hk3 rfl rfl (fun w' hS => ?_) ?_; rotate_left; (obtain ⟨f0, f1, f2, f3, f4, f5⟩ := HZL.out w' hS; go_simp; with_reducible rfl); (try simp only [Act.put, List.setIfInBounds_toArray, List.set_cons_zero, List.set_cons_succ])
 refine wpHo_yes (v := ?_) hk5 rfl rfl (fun w' hS => ?_) ?_; rotate_left; (go_simp; with_reducible rfl); (try simp only [Act.put, List.setIfInBounds_toArray, List.set_cons_zero, List.set_cons_succ])
 refine wpHo_yes (v := ?_) hk6 rfl rfl (fun w' hS => ?_) ?_; rotate_left; (go_simp; with_reducible rfl); (try simp only [Act.put, List.setIfInBounds_toArray, List.set_cons_zero, List.set_cons_succ])
 refine wpHo_yes (v := ?_) hk7 rfl rfl (fun w' hS => ?_) ?_; rotate_left; (go_simp; with_reducible rfl); (try simp only [Act.put, List.setIfInBounds_toArray, List.set_cons_zero, List.set_cons_succ])
 refine wpHo_yes (v := ?_) hk8 rfl rfl (fun w' hS => ?_) ?_; rotate_left; (obtain ⟨f0, f1, f2, f3, f4, f5⟩ := HZL.out w' hS; go_simp; with_reducible rfl); (try simp only [Act.put, List.setIfInBounds_toArray, List.set_cons_zero, List.set_cons_succ])
 refine wpHo_yes (v := ?_) hk9 rfl rfl (fun w' hS => ?_) ?_; rotate_left; (go_simp; with_reducible rfl); (try simp only [Act.put, List.setIfInBounds_toArray, List.set_cons_zero, List.set_cons_succ])
 refine wpHo_yes (v := ?_) hk10 rfl rfl (fun w' hS => ?_) ?_; rotate_left; (go_simp; with_reducible rfl); (try simp only [Act.put, List.setIfInBounds_toArray, List.set_cons_zero, List.set_cons_succ])
 refine wpHo_yes (v := ?_) hk13 rfl rfl (fun w' hS => ?_) ?_; rotate_left; (go_simp; with_reducible rfl); (try simp only [Act.put, List.setIfInBounds_toArray, List.set_cons_zero, List.set_cons_succ])
 refine wpHo_yes (v := ?_) hk14 rfl rfl (fun w' hS => ?_) ?_; rotate_left; (go_simp; with_reducible rfl); (try simp only [Act.put, List.setIfInBounds_toArray, List.set_cons_zero, List.set_cons_succ])
 refine wpHo_yes (v := ?_) hk15 rfl rfl (fun w' hS => ?_) ?_; rotate_left; (go_simp; with_reducible rfl); (try simp only [Act.put, List.setIfInBounds_toArray, List.set_cons_zero, List.set_cons_succ])
 refine wpHo_yes (v := ?_) hk16 rfl rfl (fun w' hS => ?_) ?_; rotate_left; (obtain ⟨f0, f1, f2, f3, f4, f5⟩ := HZL.out w' hS; go_simp; with_reducible rfl); (try simp only [Act.put, List.setIfInBounds_toArray, List.set_cons_zero, List.set_cons_succ])
 refine wpHo_yes (v := ?_) hk17 rfl rfl (fun w' hS => ?_) ?_; rotate_left; (go_simp; with_reducible rfl); (try simp only [Act.put, List.setIfInBounds_toArray, List.set_cons_zero, List.set_cons_succ])
 refine wpHo_yes (v := ?_) hk18 rfl rfl (fun w' hS => ?_) ?_; rotate_left; (go_simp; with_reducible rfl); (try simp only [Act.put, List.setIfInBounds_toArray, List.set_cons_zero, List.set_cons_succ])
 refine wpHo_yes (v := ?_) hk20 rfl rfl (fun w' hS => ?_) ?_; rotate_left; (go_simp; with_reducible rfl); (try simp only [Act.put, List.setIfInBounds_toArray, List.set_cons_zero, List.set_cons_succ])
 refine wpHo_yes (v := ?_) hk21 rfl rfl (fun w' hS => ?_) ?_; rotate_left; (go_simp; with_reducible rfl); (try simp only [Act.put, List.setIfInBounds_toArray, List.set_cons_zero, List.set_cons_succ])
 refine wpHo_yes (v := ?_) hk22 rfl rfl (fun w' hS => ?_) ?_; rotate_left; (go_simp; with_reducible rfl); (try simp only [Act.put, List.setIfInBounds_toArray, List.set_cons_zero, List.set_cons_succ])
 refine wpHo_yes (v := ?_) hk23 rfl rfl (fun w' hS => ?_) ?_; rotate_left; (obtain ⟨f0, f1, f2, f3, f4, f5⟩ := HZL.out w' hS; go_simp; with_reducible rfl); (try simp only [Act.put, List.setIfInBounds_toArray, List.set_cons_zero, List.set_cons_succ])
 refine wpHo_yes (v := ?_) hk24 rfl rfl (fun w' hS => ?_) ?_; rotate_left; (go_simp; with_reducible rfl); (try simp only [Act.put, List.setIfInBounds_toArray, List.set_cons_zero, List.set_cons_succ])
 refine wpHo_yes (v := ?_) hk25 rfl rfl (fun w' hS => ?_) ?_; rotate_left; (go_simp; with_reducible rfl); (try simp only [Act.put, List.setIfInBounds_toArray, List.set_cons_zero, List.set_cons_succ])
 refine wpHo_yes (v := ?_) hk28 rfl rfl (fun w' hS => ?_) ?_; rotate_left; (go_simp; with_reducible rfl); (try simp only [Act.put, List.setIfInBounds_toArray, List.set_cons_zero, List.set_cons_succ])
 refine wpHo_yes (v := ?_) hk29 rfl rfl (fun w' hS => ?_) ?_; rotate_left; (go_simp; with_reducible rfl); (try simp only [Act.put, List.setIfInBounds_toArray, List.set_cons_zero, List.set_cons_succ])
 refine wpHo_yes (v := ?_) hk30 rfl rfl (fun w' hS => ?_) ?_; rotate_left; (obtain ⟨f0, f1, f2, f3, f4, f5⟩ := HZL.out w' hS; go_simp; with_reducible rfl); (try simp only [Act.put, List.setIfInBounds_toArray, List.set_cons_zero, List.set_cons_succ])
 refine wpHo_yes (v := ?_) hk32 rfl rfl (fun w' hS => ?_) ?_; rotate_left; (go_simp; with_reducible rfl); (try simp only [Act.put, List.setIfInBounds_toArray, List.set_cons_zero, List.set_cons_succ])
 refine wpHo_yes (v := ?_) hk33 rfl rfl (fun w' hS => ?_) ?_; rotate_left; (go_simp; with_reducible rfl); (try simp only [Act.put, List.setIfInBounds_toArray, List.set_cons_zero, List.set_cons_succ])
 refine wpHo_yes (v := ?_) hk34 rfl rfl (fun w' hS => ?_) ?_; rotate_left; (obtain ⟨f0, f1, f2, f3, f4, f5⟩ := HZL.out w' hS; go_simp; with_reducible rfl); (try simp only [Act.put, List.setIfInBounds_toArray, List.set_cons_zero, List.set_cons_succ])
 refine wpHo_callYes hk4 rfl rfl (fun K hK => ?_)
 go_simp
 go_at_call 135
 refine (HC0.out _ _ _ _ HS0.out.to.at_ (HR0.out.mono (Nat.le_add_right _ _))).mono ?_
 rintro e w1 ⟨y0, m0, b0, F0, rfl, hT, hD, hy⟩
 have HD0 := Lib.hid hD
 have HR1 := Lib.hid (hD.room HR0.out)
 have HM1 : Hid (m0.Rd → m.Rd) := fun hm => HM0.out (hD.mode.1 hm)
 have HS1 := Lib.hid (HS0.out.tel hT)
 clear hT hD hy HS0 HR0 HC0 HM0
 refine hK _ _ (HXB.out _ HS1.out.now) (fun _ => ?_)
 skip
 clear hK K
 refine wpHo_callYes hk11 rfl rfl (fun K hK => ?_)
 go_simp
 go_at_call 136
 refine (HC1.out _ _ _ _ HS1.out.to.at_ (HR1.out.mono (Nat.le_add_right _ _)) (fun hm => by rw [HZ.out (HM1.out hm)] <;> rfl) (HS1.out.x.imp fun V hV => by rw [← sv_kv]; exact (HXM.out V hV).s1)).mono ?_
 rintro e w2 ⟨y1, q1, m1, b1, F1, rfl, hT, hO, hD⟩
 have HD1 := Lib.hid hD
 have HR2 := Lib.hid (hD.room HR1.out)
 have HM2 : Hid (m1.Rd → m.Rd) := fun hm => HM1.out (hD.mode.1 hm)
 have HS2 := Lib.hid (HS1.out.told hT hO)
 clear hT hD hO HS1 HR1 HC1 HM1
 refine hK _ _ (HXB.out _ HS2.out.now) (fun _ => ?_)
 skip
 clear hK K
 refine wpHo_yes (v := ?_) hk12 rfl rfl (fun w' hS => ?_) ?_; rotate_left; (go_simp; with_reducible rfl); (try simp only [Act.put, List.setIfInBounds_toArray, List.set_cons_zero, List.set_cons_succ])
 refine wpHo_callYes hk19 rfl rfl (fun K hK => ?_)
 go_simp
 go_at_call 138
 refine (HC2.out _ _ _ _ HS2.out.to.at_ (HR2.out.mono (Nat.le_add_right _ _)) (fun hm => by rw [HZ.out (HM2.out hm)] <;> rfl) (HS2.out.x.imp fun V hV => by rw [← tv_kv]; exact (HXM.out V hV).s2)).mono ?_
 rintro e w3 ⟨y2, q2, m2, b2, F2, rfl, hT, hO, hD⟩
 have HD2 := Lib.hid hD
 have HR3 := Lib.hid (hD.room HR2.out)
 have HM3 : Hid (m2.Rd → m.Rd) := fun hm => HM2.out (hD.mode.1 hm)
 have HS3 := Lib.hid (HS2.out.told hT hO)
 clear hT hD hO HS2 HR2 HC2 HM2
 refine hK _ _ (HXB.out _ HS3.out.now) (fun _ => ?_)
 skip
 clear hK K
 refine wpHo_callYes hk26 rfl rfl (fun K hK => ?_)
 go_simp
 go_at_call 140
 refine (HC3.out _ _ _ _ HS3.out.to.at_ (HR3.out.mono (Nat.le_add_right _ _)) (fun hm => by rw [HZ.out (HM3.out hm)] <;> rfl) (HS3.out.x.imp fun V hV => by rw [← iv_kv]; exact (HXM.out V hV).s3)).mono ?_
 rintro e w4 ⟨y3, q3, m3, b3, F3, rfl, hT, hO, hD⟩
 have HD3 := Lib.hid hD
 have HR4 := Lib.hid (hD.room HR3.out)
 have HM4 : Hid (m3.Rd → m.Rd) := fun hm => HM3.out (hD.mode.1 hm)
 have HS4 := Lib.hid (HS3.out.told hT hO)
 clear hT hD hO HS3 HR3 HC3 HM3
 refine hK _ _ (HXB.out _ HS4.out.now) (fun _ => ?_)
 skip
 clear hK K
 refine wpHo_yes (v := ?_) hk27 rfl rfl (fun w' hS => ?_) ?_; rotate_left; (go_simp; with_reducible rfl); (try simp only [Act.put, List.setIfInBounds_toArray, List.set_cons_zero, List.set_cons_succ])
 refine wpHo_callYes hk31 rfl rfl (fun K hK => ?_)
 go_simp
 go_at_call 102
 refine (HC4.out _ _ _ _ HS4.out.to.at_ (HR4.out.mono (Nat.le_add_right _ _))).mono ?_
 rintro e w5 ⟨y4, m4, b4, F4, rfl, hT, hD, hy⟩
 have HD4 := Lib.hid hD
 have HR5 := Lib.hid (hD.room HR4.out)
 have HM5 : Hid (m4.Rd → m.Rd) := fun hm => HM4.out (hD.mode.1 hm)
 have HS5 := Lib.hid (HS4.out.tel hT)
 clear hT hD hy HS4 HR4 HC4 HM4
 refine hK _ _ (HXB.out _ HS5.out.now) (fun _ => ?_)
 skip
 clear hK K
 refine wpHo_callYes hk35 rfl rfl (fun K hK => ?_)
 go_simp
 go_at_call 102
 refine (HC5.out _ _ _ _ HS5.out.to.at_ (HR5.out.mono (Nat.le_add_right _ _))).mono ?_
 rintro e w6 ⟨y5, m5, b5, F5, rfl, hT, hD, hy⟩
 have HD5 := Lib.hid hD
 have HR6 := Lib.hid (hD.room HR5.out)
 have HM6 : Hid (m5.Rd → m.Rd) := fun hm => HM5.out (hD.mode.1 hm)
 have HS6 := Lib.hid (HS5.out.tel hT)
 clear hT hD hy HS5 HR5 HC5 HM5
 refine hK _ _ (HXB.out _ HS6.out.now) (fun _ => ?_)
 skip
 clear hK K
 refine wpHo_yes (v := ?_) hk36 rfl rfl (fun w' hS => ?_) ?_; rotate_left; (go_simp; with_reducible rfl); (try simp only [Act.put, List.setIfInBounds_toArray, List.set_cons_zero, List.set_cons_succ])
 have HRB := Lib.hid (HXR.out _ HS6.out.now)
 refine wpHo_callYes hk37 rfl rfl (fun K hK => ?_)
 refine wp_store_mid 57 (.tmp 4) (.tmp 41) rfl (w.heap.size + 1) 0 #[.int .i64 y0, .slice q1.1 y1.length q1.2, .slice q2.1 y2.length q2.2, .slice q3.1 y3.length q3.2, .int .i64 y4, .int .i64 y5] rfl rfl (blk_there HRB.out (by simp)) (by kernel_rfl) (by simp [Value.oneCell']) ?_
 refine hK _ _ (HXS.out _ _ HS6.out.now) (fun _ => ?_)
 simp only [Act.put]
 clear hK K
 have hset := setCells_blk (b := w.heap.size + 1) [.int .i64 y0, .slice q1.1 y1.length q1.2, .slice q2.1 y2.length q2.2, .slice q3.1 y3.length q3.2, .int .i64 y4, .int .i64 y5] 0 _ _ HRB.out
 have HTO := Lib.hid (HS6.out.to.store' HB.out (R := w.heap.size + 1) (by omega) (HS6.out.to.not HN2.out.1 HN2.out.2) 0 [.int .i64 y0, .slice q1.1 y1.length q1.2, .slice q2.1 y2.length q2.2, .slice q3.1 y3.length q3.2, .int .i64 y4, .int .i64 y5])
 have HOW := Lib.hid ((HS6.out.y.store (R := w.heap.size + 1) HN2.out.2 0 [.int .i64 y0, .slice q1.1 y1.length q1.2, .slice q2.1 y2.length q2.2, .slice q3.1 y3.length q3.2, .int .i64 y4, .int .i64 y5]).mono HB.out.size)
 obtain ⟨w', hw'⟩ : ∃ w', w6.setCells (w.heap.size + 1) 0 [.int .i64 y0, .slice q1.1 y1.length q1.2, .slice q2.1 y2.length q2.2, .slice q3.1 y3.length q3.2, .int .i64 y4, .int .i64 y5] = w' := ⟨_, rfl⟩
 have hw'2 : w6.setCells (w.heap.size + 1) 0 #[.int .i64 y0, .slice q1.1 y1.length q1.2, .slice q2.1 y2.length q2.2, .slice q3.1 y3.length q3.2, .int .i64 y4, .int .i64 y5].toList = w' := hw'
 rw [hw'] at hset HTO HOW
 rw [hw'2]
 clear hw' hw'2
 rw [setAll_all (by rfl)] at hset
 have HSE := Lib.hid hset
 clear hset
 show Exit.then _ _ _ _ _
 go_wp2_with fail
 refine bodyPost_ret (results_cell_row rfl _ _ (w.heap.size + 1) 57 #[.int .i64 y0, .slice q1.1 y1.length q1.2, .slice q2.1 y2.length q2.2, .slice q3.1 y3.length q3.2, .int .i64 y4, .int .i64 y5] (0, 0) _ rfl HSE.out Tryz.underlying57 rfl (by kernel_rfl)) rfl ?_
 exact ⟨⟨y0, y1, y2, y3, y4, y5⟩, ⟨q1.1, q2.1, q3.1, q1.2, q2.2, q3.2⟩, _, _, _, rfl, HTO.out, HOW.out.imp (fun V hV => ⟨(by rw [sv_kv]; exact hV.1.1.2), (by rw [tv_kv]; exact hV.1.2), (by rw [iv_kv]; exact hV.2)⟩), (HD0.out.pair (HD1.out.pair (HD2.out.pair (HD3.out.pair (HD4.out.pair HD5.out))))).conv Stg.of (Nat.le_refl _) (fun o => ⟨o, rfl⟩) (fun _ => rfl) rfl (fun _ => rfl)⟩
end Go.Proofs.YtdhinjbkfffpeaaGreat
end
