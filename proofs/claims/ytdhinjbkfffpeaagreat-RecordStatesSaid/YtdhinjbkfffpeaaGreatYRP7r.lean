import Derived.Test.YtdhinjbkfffpeaaGreatYRP6
import Derived.Test.YtdhinjbkfffpeaaGreatYRP6b
/- Contracts of the program's pass: rules. -/
section
namespace Go.Proofs.YtdhinjbkfffpeaaGreat
open Go.ChangeShapes Go.WideShapes Go.ChangeAt Go.RowKit Go.Joins Sp Fr Pk
structure RuP where
 A1 : Option Addr
 A2 : Option Addr
 A3 : Option Addr
 A4 : Option Addr
 c1 : Nat
 c2 : Nat
 c3 : Nat
 c4 : Nat
def ruCells (r : Qr.R) (p : RuP) : List Value := [.int .i64 r.freq, .int .i64 r.iv, .int .i64 r.count, .int .i64 r.until_, .slice p.A1 r.bm.length p.c1, .slice p.A2 r.bd.length p.c2, .slice p.A3 r.bw.length p.c3, .slice p.A4 r.bs.length p.c4, .int .i64 r.start]
def RuAt (w : World) (r : Qr.R) (p : RuP) : Prop := RAt w r p.A1 p.A2 p.A3 p.A4 p.c1 p.c2 p.c3 p.c4
structure RuFits (r : Qr.R) : Prop where
 freq : I64 r.freq
 iv : I64 r.iv
 count : I64 r.count
 until_ : I64 r.until_
 bm : ∀ x ∈ r.bm, I64 x
 bd : ∀ x ∈ r.bd, I64 x
 bw : ∀ x ∈ r.bw, I64 x.1 ∧ I64 x.2
 bs : ∀ x ∈ r.bs, I64 x
 start : I64 r.start
abbrev RuTup := Int × Int × Int × Int × List Int × List Int × List Spn × List Int × Int
def Ru.of (x : RuTup) : Qr.R := ⟨x.1, x.2.1, x.2.2.1, x.2.2.2.1, x.2.2.2.2.1, x.2.2.2.2.2.1, x.2.2.2.2.2.2.1, x.2.2.2.2.2.2.2.1, x.2.2.2.2.2.2.2.2⟩
def rdRuT : Rd → RuTup × Rd := rdP (rdI 4) (rdP (rdI 999) (rdP (rdI 5000) (rdP rdSig (rdP rdSm (rdP rdSm (rdP (rdRow 400 rdBy) (rdP rdSm (rdI 6))))))))
def rdRu (r : Rd) : Qr.R × Rd := (Ru.of (rdRuT r).1, (rdRuT r).2)
def RuT (r : Qr.R) : List UInt8 := natT r.freq ++ (natT r.iv ++ (natT r.count ++ (zigT r.until_ ++ (rowT zigT r.bm ++ (rowT zigT r.bd ++ (rowT byT r.bw ++ (rowT zigT r.bs ++ natT r.start)))))))
def RuO (r : Qr.R) : Prop := (0 ≤ r.freq ∧ r.freq ≤ 4) ∧ (0 ≤ r.iv ∧ r.iv ≤ 999) ∧ (0 ≤ r.count ∧ r.count ≤ 5000) ∧ I64 r.until_ ∧ sm r.bm ∧ sm r.bd ∧ (r.bw.length ≤ 400 ∧ ∀ y ∈ r.bw, byO y) ∧ sm r.bs ∧ (0 ≤ r.start ∧ r.start ≤ 6)
def cdRu : Cd Qr.R := ⟨RuT, RuO, rdRu, fun x => (cdInt 4).cost (x.freq) + ((cdInt 999).cost (x.iv) + ((cdInt 5000).cost (x.count) + (cdSig.cost (x.until_) + ((cdRow (cdZ (-400) 400) 400).cost (x.bm) + ((cdRow (cdZ (-400) 400) 400).cost (x.bd) + ((cdRow cdBy 400).cost (x.bw) + ((cdRow (cdZ (-400) 400) 400).cost (x.bs) + ((cdInt 6).cost (x.start))))))))), rfl⟩
set_option maxRecDepth 100000 in
set_option maxHeartbeats 4000000 in
theorem prule1_any (P B0 : Nat) (l : List Int) (A : Option Addr) (d : Nat) (hfit : ∀ x ∈ l, I64 x) (m : Md) (b : Bool) (F : Nat → Prop) (w : World) (h : PsAt w P m b F) (hr : m.Room ((cdRow (cdZ (-400) 400) 400).cost l)) (hz : m.Rd → l = [])
  (hx : Held F w (fun V => Sl V A l.length d (kv (fun x : Int => [.int .i64 x]) l))) (hB : Held F w (fun V => V.heap[B0]? = some (.cells #[.pointer (some ⟨P, 0, none⟩)] 121 (0, 0)))) :
  Calls Tryz.prog 155 #[.slice A l.length d, .pointer (some ⟨B0, 0, none⟩)] w
   (Told (fun (y : List Int) (q : Option Addr × Nat) => .slice q.1 y.length q.2) (fun V y q => Sl V q.1 y.length q.2 (kv (fun x : Int => [.int .i64 x]) y)) (cdRow (cdZ (-400) 400) 400) l P m b F w) := by
 have HC := Lib.hid (prowSm_any P B0 l A d 400 (by decide) hfit m b F w h hr hz hx hB)
 have c0 := blk_cell (i := 0) hB.now rfl
 clear h hr hB hx hz
 go_enter Tryz.func155, Tryz.ntmps155
 go_wp2_with fail
 go_at_call 140
 refine HC.out.mono ?_
 rintro e w1 ⟨y, q, m1, b1, F1, rfl, hT⟩
 go_wp2_with fail
 go_ret
 exact ⟨y, q, m1, b1, F1, rfl, hT⟩
set_option maxRecDepth 100000 in
set_option maxHeartbeats 4000000 in
theorem prule_any (P : Nat) (x : Qr.R) (p : RuP) (hx : RuFits x) (m : Md) (b : Bool) (F : Nat → Prop) (w : World) (h : PsAt w P m b F) (hr : m.Room (cdRu.cost x)) (hz : m.Rd → x = zeroR) (hm : Held F w (fun V => RuAt V x p)) :
  Calls Tryz.prog 143 #[.pointer (some ⟨P, 0, none⟩), .agg (ruCells x p).toArray] w (Told (fun (y : Qr.R) (q : RuP) => .agg (ruCells y q).toArray) RuAt cdRu x P m b F w) := by
 show Calls Tryz.prog 143 #[.pointer (some ⟨P, 0, none⟩), .agg #[.int .i64 x.freq, .int .i64 x.iv, .int .i64 x.count, .int .i64 x.until_, .slice p.A1 x.bm.length p.c1, .slice p.A2 x.bd.length p.c2, .slice p.A3 x.bw.length p.c3, .slice p.A4 x.bs.length p.c4, .int .i64 x.start]] w _
 obtain ⟨W1, hW1⟩ : ∃ W1, (((w.alloc (.cells #[.pointer (some ⟨P, 0, none⟩)] 121)).alloc (.cells #[.int .i64 x.freq, .int .i64 x.iv, .int .i64 x.count, .int .i64 x.until_, .slice p.A1 x.bm.length p.c1, .slice p.A2 x.bd.length p.c2, .slice p.A3 x.bw.length p.c3, .slice p.A4 x.bs.length p.c4, .int .i64 x.start] 60)).alloc (.cells #[.int .i64 0, .int .i64 0, .int .i64 0, .int .i64 0, .slice none 0 0, .slice none 0 0, .slice none 0 0, .slice none 0 0, .int .i64 0] 60)) = W1 := ⟨_, rfl⟩
 have HB : Hid (Below w.heap.size w W1) := by show Below _ _ _; rw [← hW1]; exact (((Below.refl _ _).alloc (Nat.le_refl _) _).alloc (by simp) _).alloc (by simp <;> omega) _
 have hb1 : W1.heap[w.heap.size + 1]? = some (.cells #[.int .i64 x.freq, .int .i64 x.iv, .int .i64 x.count, .int .i64 x.until_, .slice p.A1 x.bm.length p.c1, .slice p.A2 x.bd.length p.c2, .slice p.A3 x.bw.length p.c3, .slice p.A4 x.bs.length p.c4, .int .i64 x.start] 60 (0, 0)) := by rw [← hW1, heap_alloc_old _ _ (by simp)]; exact heap_alloc_new2 _ _ _
 have hb2 : W1.heap[w.heap.size + 2]? = some (.cells #[.int .i64 0, .int .i64 0, .int .i64 0, .int .i64 0, .slice none 0 0, .slice none 0 0, .slice none 0 0, .slice none 0 0, .int .i64 0] 60 (0, 0)) := by rw [← hW1]; exact heap_alloc_new3 _ _ _ _
 have hb0 : W1.heap[w.heap.size]? = some (.cells #[.pointer (some ⟨P, 0, none⟩)] 121 (0, 0)) := by rw [← hW1, heap_alloc_old _ _ (by simp <;> omega), heap_alloc_old _ _ (by simp), heap_alloc_new]
 have n0 : ¬ F w.heap.size := h.not (Nat.le_refl _)
 have n1 : ¬ F (w.heap.size + 1) := h.not (by omega)
 have n2 : ¬ F (w.heap.size + 2) := h.not (by omega)
 have HN2 : Hid (¬ F (w.heap.size + 2) ∧ w.heap.size + 2 < W1.heap.size) := ⟨n2, heap_lt hb2⟩
 have E1 := Lib.hid hW1
 obtain ⟨XB, hXB⟩ : ∃ X : World → Prop, X = fun V => V.heap[w.heap.size + 1]? = some (.cells #[.int .i64 x.freq, .int .i64 x.iv, .int .i64 x.count, .int .i64 x.until_, .slice p.A1 x.bm.length p.c1, .slice p.A2 x.bd.length p.c2, .slice p.A3 x.bw.length p.c3, .slice p.A4 x.bs.length p.c4, .int .i64 x.start] 60 (0, 0)) ∧ V.heap[w.heap.size]? = some (.cells #[.pointer (some ⟨P, 0, none⟩)] 121 (0, 0)) := ⟨_, rfl⟩
 obtain ⟨X, hX⟩ : ∃ X : World → Prop, X = fun V => (XB V ∧ V.heap[w.heap.size + 2]? = some (.cells #[.int .i64 0, .int .i64 0, .int .i64 0, .int .i64 0, .slice none 0 0, .slice none 0 0, .slice none 0 0, .slice none 0 0, .int .i64 0] 60 (0, 0))) ∧ RuAt V x p := ⟨_, rfl⟩
 have HZL : Hid (∀ V, XB V → V.cell? ⟨w.heap.size + 1, 0, none⟩ = some (.int .i64 x.freq) ∧ V.cell? ⟨w.heap.size + 1, 1, none⟩ = some (.int .i64 x.iv) ∧ V.cell? ⟨w.heap.size + 1, 2, none⟩ = some (.int .i64 x.count) ∧ V.cell? ⟨w.heap.size + 1, 3, none⟩ = some (.int .i64 x.until_) ∧ V.cell? ⟨w.heap.size + 1, 4, none⟩ = some (.slice p.A1 x.bm.length p.c1) ∧ V.cell? ⟨w.heap.size + 1, 5, none⟩ = some (.slice p.A2 x.bd.length p.c2) ∧ V.cell? ⟨w.heap.size + 1, 6, none⟩ = some (.slice p.A3 x.bw.length p.c3) ∧ V.cell? ⟨w.heap.size + 1, 7, none⟩ = some (.slice p.A4 x.bs.length p.c4) ∧ V.cell? ⟨w.heap.size + 1, 8, none⟩ = some (.int .i64 x.start) ∧ V.cell? ⟨w.heap.size, 0, none⟩ = some (.pointer (some ⟨P, 0, none⟩))) := fun V hV => by
  rw [hXB] at hV
  exact ⟨blk_cell hV.1 rfl, blk_cell hV.1 rfl, blk_cell hV.1 rfl, blk_cell hV.1 rfl, blk_cell hV.1 rfl, blk_cell hV.1 rfl, blk_cell hV.1 rfl, blk_cell hV.1 rfl, blk_cell hV.1 rfl, blk_cell hV.2 rfl⟩
 have HXB : Hid (∀ V, X V → XB V) := fun V hV => by rw [hX] at hV; exact hV.1.1
 have HXR : Hid (∀ V, X V → V.heap[w.heap.size + 2]? = some (.cells #[.int .i64 0, .int .i64 0, .int .i64 0, .int .i64 0, .slice none 0 0, .slice none 0 0, .slice none 0 0, .slice none 0 0, .int .i64 0] 60 (0, 0))) := fun V hV => by rw [hX] at hV; exact hV.1.2
 have HXM : Hid (∀ V, X V → RuAt V x p) := fun V hV => by rw [hX] at hV; exact hV.2
 have HXP : Hid (∀ V, X V → V.heap[w.heap.size]? = some (.cells #[.pointer (some ⟨P, 0, none⟩)] 121 (0, 0))) := fun V hV => by rw [hX, hXB] at hV; exact hV.1.1.2
 have HXS : Hid (∀ V vs, X V → XB (V.setCells (w.heap.size + 2) 0 vs)) := fun V vs hV => by
  rw [hX] at hV
  have hV := hV.1.1
  rw [hXB] at hV ⊢
  exact ⟨by rw [setCells_ne (by omega)]; exact hV.1, by rw [setCells_ne (by omega)]; exact hV.2⟩
 have HS0 : Hid (St W1 W1.drew P m b F F X (fun _ => True)) := (St.start (h.below HB.out) (by rw [hX, hXB]; exact (((Held.blk hb1 n1).and (Held.blk hb0 n0)).and (Held.blk hb2 n2)).and (hm.below HB.out))).drew
 have HR0 : Hid (m.Room ((cdInt 4).cost (x.freq) + ((cdInt 999).cost (x.iv) + ((cdInt 5000).cost (x.count) + (cdSig.cost (x.until_) + ((cdRow (cdZ (-400) 400) 400).cost (x.bm) + ((cdRow (cdZ (-400) 400) 400).cost (x.bd) + ((cdRow cdBy 400).cost (x.bw) + ((cdRow (cdZ (-400) 400) 400).cost (x.bs) + ((cdInt 6).cost (x.start) + 0)))))))))) := hr.mono (by exact Nat.le_refl _)
 have HM0 : Hid (m.Rd → m.Rd) := id
 have HZ := Lib.hid hz
 have HC0 := Lib.hid (fun mx bx Fx wx h hr => pnumberI_any P (x.freq) 4 (by decide) (hx.freq) mx bx Fx wx h hr)
 have HC1 := Lib.hid (fun mx bx Fx wx h hr => pnumberI_any P (x.iv) 999 (by decide) (hx.iv) mx bx Fx wx h hr)
 have HC2 := Lib.hid (fun mx bx Fx wx h hr => pnumberI_any P (x.count) 5000 (by decide) (hx.count) mx bx Fx wx h hr)
 have HC3 := Lib.hid (fun mx bx Fx wx h hr => psigned_any P (x.until_) (hx.until_) mx bx Fx wx h hr)
 have HC4 := Lib.hid (fun mx bx Fx wx h hr hz hm hB => prule1_any P w.heap.size (x.bm) p.A1 p.c1 (hx.bm) mx bx Fx wx h hr hz hm hB)
 have HC5 := Lib.hid (fun mx bx Fx wx h hr hz hm hB => prule1_any P w.heap.size (x.bd) p.A2 p.c2 (hx.bd) mx bx Fx wx h hr hz hm hB)
 have HC6 := Lib.hid (fun mx bx Fx wx h hr hz hm => prowBy_any P (x.bw) p.A3 p.c3 400 (by decide) (hx.bw) mx bx Fx wx h hr hz hm)
 have HC7 := Lib.hid (fun mx bx Fx wx h hr hz hm hB => prule1_any P w.heap.size (x.bs) p.A4 p.c4 (hx.bs) mx bx Fx wx h hr hz hm hB)
 have HC8 := Lib.hid (fun mx bx Fx wx h hr => pweekday_any P (x.start) (hx.start) mx bx Fx wx h hr)
 clear hW1 hX hXB hb1 hb2 n1 n2 h hr hz hm hb0 n0
 go_enter Tryz.func143, Tryz.ntmps143
 go_upto_region 2 with fail
 rw [E1.out]
 refine wp_region_lexO XB (fun k => [3, 7, 11, 15, 19, 23, 29, 33, 37, 39].contains k) [0, 1, 2, 4, 5, 6, 8, 9, 10, 12, 13, 14, 16, 17, 18, 20, 21, 22, 24, 25, 26, 27, 28, 30, 31, 32, 34, 35, 36, 3, 7, 11, 15, 19, 23, 29, 33, 37, 38, 39] rfl (by kernel_rfl) (by kernel_rfl) (by kernel_rfl) (fun _ _ _ _ _ h => h) (HXB.out _ HS0.out.now) ?_
 generalize World.drew W1 = w0 at *
 refine wpHo_name fun OPS hOPS => ?_
 generalize (Value.agg #[.int .i64 x.freq, .int .i64 x.iv, .int .i64 x.count, .int .i64 x.until_, .slice p.A1 x.bm.length p.c1, .slice p.A2 x.bd.length p.c2, .slice p.A3 x.bw.length p.c3, .slice p.A4 x.bs.length p.c4, .int .i64 x.start]) = va
 have hk0 := congrArg (fun x => x[0]?) hOPS
 simp only [List.getElem?_toArray, List.getElem?_cons_zero] at hk0
 have hk1 := congrArg (fun x => x[1]?) hOPS
 simp only [List.getElem?_toArray, List.getElem?_cons_zero, List.getElem?_cons_succ] at hk1
 have hk2 := congrArg (fun x => x[2]?) hOPS
 simp only [List.getElem?_toArray, List.getElem?_cons_zero, List.getElem?_cons_succ] at hk2
 have hk3 := congrArg (fun x => x[3]?) hOPS
 simp only [List.getElem?_toArray, List.getElem?_cons_zero, List.getElem?_cons_succ] at hk3
 have hk4 := congrArg (fun x => x[4]?) hOPS
 simp only [List.getElem?_toArray, List.getElem?_cons_zero, List.getElem?_cons_succ] at hk4
 have hk5 := congrArg (fun x => x[5]?) hOPS
 simp only [List.getElem?_toArray, List.getElem?_cons_zero, List.getElem?_cons_succ] at hk5
 have hk6 := congrArg (fun x => x[6]?) hOPS
 simp only [List.getElem?_toArray, List.getElem?_cons_zero, List.getElem?_cons_succ] at hk6
 have hk7 := congrArg (fun x => x[7]?) hOPS
 simp only [List.getElem?_toArray, List.getElem?_cons_zero, List.getElem?_cons_succ] at hk7
 have hk8 := congrArg (fun x => x[8]?) hOPS
 simp only [List.getElem?_toArray, List.getElem?_cons_zero, List.getElem?_cons_succ] at hk8
 have hk9 := congrArg (fun x => x[9]?) hOPS
 simp only [List.getElem?_toArray, List.getElem?_cons_zero, List.getElem?_cons_succ] at hk9
 have hk10 := congrArg (fun x => x[10]?) hOPS
 simp only [List.getElem?_toArray, List.getElem?_cons_zero, List.getElem?_cons_succ] at hk10
 have hk11 := congrArg (fun x => x[11]?) hOPS
 simp only [List.getElem?_toArray, List.getElem?_cons_zero, List.getElem?_cons_succ] at hk11
 have hk12 := congrArg (fun x => x[12]?) hOPS
 simp only [List.getElem?_toArray, List.getElem?_cons_zero, List.getElem?_cons_succ] at hk12
 have hk13 := congrArg (fun x => x[13]?) hOPS
 simp only [List.getElem?_toArray, List.getElem?_cons_zero, List.getElem?_cons_succ] at hk13
 have hk14 := congrArg (fun x => x[14]?) hOPS
 simp only [List.getElem?_toArray, List.getElem?_cons_zero, List.getElem?_cons_succ] at hk14
 have hk15 := congrArg (fun x => x[15]?) hOPS
 simp only [List.getElem?_toArray, List.getElem?_cons_zero, List.getElem?_cons_succ] at hk15
 have hk16 := congrArg (fun x => x[16]?) hOPS
 simp only [List.getElem?_toArray, List.getElem?_cons_zero, List.getElem?_cons_succ] at hk16
 have hk17 := congrArg (fun x => x[17]?) hOPS
 simp only [List.getElem?_toArray, List.getElem?_cons_zero, List.getElem?_cons_succ] at hk17
 have hk18 := congrArg (fun x => x[18]?) hOPS
 simp only [List.getElem?_toArray, List.getElem?_cons_zero, List.getElem?_cons_succ] at hk18
 have hk19 := congrArg (fun x => x[19]?) hOPS
 simp only [List.getElem?_toArray, List.getElem?_cons_zero, List.getElem?_cons_succ] at hk19
 have hk20 := congrArg (fun x => x[20]?) hOPS
 simp only [List.getElem?_toArray, List.getElem?_cons_zero, List.getElem?_cons_succ] at hk20
 have hk21 := congrArg (fun x => x[21]?) hOPS
 simp only [List.getElem?_toArray, List.getElem?_cons_zero, List.getElem?_cons_succ] at hk21
 have hk22 := congrArg (fun x => x[22]?) hOPS
 simp only [List.getElem?_toArray, List.getElem?_cons_zero, List.getElem?_cons_succ] at hk22
 have hk23 := congrArg (fun x => x[23]?) hOPS
 simp only [List.getElem?_toArray, List.getElem?_cons_zero, List.getElem?_cons_succ] at hk23
 have hk24 := congrArg (fun x => x[24]?) hOPS
 simp only [List.getElem?_toArray, List.getElem?_cons_zero, List.getElem?_cons_succ] at hk24
 have hk25 := congrArg (fun x => x[25]?) hOPS
 simp only [List.getElem?_toArray, List.getElem?_cons_zero, List.getElem?_cons_succ] at hk25
 have hk26 := congrArg (fun x => x[26]?) hOPS
 simp only [List.getElem?_toArray, List.getElem?_cons_zero, List.getElem?_cons_succ] at hk26
 have hk27 := congrArg (fun x => x[27]?) hOPS
 simp only [List.getElem?_toArray, List.getElem?_cons_zero, List.getElem?_cons_succ] at hk27
 have hk28 := congrArg (fun x => x[28]?) hOPS
 simp only [List.getElem?_toArray, List.getElem?_cons_zero, List.getElem?_cons_succ] at hk28
 have hk29 := congrArg (fun x => x[29]?) hOPS
 simp only [List.getElem?_toArray, List.getElem?_cons_zero, List.getElem?_cons_succ] at hk29
 have hk30 := congrArg (fun x => x[30]?) hOPS
 simp only [List.getElem?_toArray, List.getElem?_cons_zero, List.getElem?_cons_succ] at hk30
 have hk31 := congrArg (fun x => x[31]?) hOPS
 simp only [List.getElem?_toArray, List.getElem?_cons_zero, List.getElem?_cons_succ] at hk31
 have hk32 := congrArg (fun x => x[32]?) hOPS
 simp only [List.getElem?_toArray, List.getElem?_cons_zero, List.getElem?_cons_succ] at hk32
 have hk33 := congrArg (fun x => x[33]?) hOPS
 simp only [List.getElem?_toArray, List.getElem?_cons_zero, List.getElem?_cons_succ] at hk33
 have hk34 := congrArg (fun x => x[34]?) hOPS
 simp only [List.getElem?_toArray, List.getElem?_cons_zero, List.getElem?_cons_succ] at hk34
 have hk35 := congrArg (fun x => x[35]?) hOPS
 simp only [List.getElem?_toArray, List.getElem?_cons_zero, List.getElem?_cons_succ] at hk35
 have hk36 := congrArg (fun x => x[36]?) hOPS
 simp only [List.getElem?_toArray, List.getElem?_cons_zero, List.getElem?_cons_succ] at hk36
 have hk37 := congrArg (fun x => x[37]?) hOPS
 simp only [List.getElem?_toArray, List.getElem?_cons_zero, List.getElem?_cons_succ] at hk37
 have hk38 := congrArg (fun x => x[38]?) hOPS
 simp only [List.getElem?_toArray, List.getElem?_cons_zero, List.getElem?_cons_succ] at hk38
 have hk39 := congrArg (fun x => x[39]?) hOPS
 simp only [List.getElem?_toArray, List.getElem?_cons_zero, List.getElem?_cons_succ] at hk39
 clear hOPS
 refine wpHo_yes (v := ?_) hk0 rfl rfl (fun w' hS => ?_) ?_; rotate_left; (obtain ⟨f0, f1, f2, f3, f4, f5, f6, f7, f8, f9⟩ := HZL.out w' hS; go_simp; with_reducible rfl); (try simp only [Act.put, List.setIfInBounds_toArray, List.set_cons_zero, List.set_cons_succ])
 refine wpHo_yes (v := ?_) hk1 rfl rfl (fun w' hS => ?_) ?_; rotate_left; (go_simp; with_reducible rfl); (try simp only [Act.put, List.setIfInBounds_toArray, List.set_cons_zero, List.set_cons_succ])
 refine wpHo_yes (v := ?_) hk2 rfl rfl (fun w' hS => ?_) ?_; rotate_left; (obtain ⟨f0, f1, f2, f3, f4, f5, f6, f7, f8, f9⟩ := HZL.out w' hS; go_simp; with_reducible rfl); (try simp only [Act.put, List.setIfInBounds_toArray, List.set_cons_zero, List.set_cons_succ])
 refine wpHo_yes (v := ?_) hk4 rfl rfl (fun w' hS => ?_) ?_; rotate_left; (obtain ⟨f0, f1, f2, f3, f4, f5, f6, f7, f8, f9⟩ := HZL.out w' hS; go_simp; with_reducible rfl); (try simp only [Act.put, List.setIfInBounds_toArray, List.set_cons_zero, List.set_cons_succ])
 refine wpHo_yes (v := ?_) hk5 rfl rfl (fun w' hS => ?_) ?_; rotate_left; (go_simp; with_reducible rfl); (try simp only [Act.put, List.setIfInBounds_toArray, List.set_cons_zero, List.set_cons_succ])
 refine wpHo_yes (v := ?_) hk6 rfl rfl (fun w' hS => ?_) ?_; rotate_left; (obtain ⟨f0, f1, f2, f3, f4, f5, f6, f7, f8, f9⟩ := HZL.out w' hS; go_simp; with_reducible rfl); (try simp only [Act.put, List.setIfInBounds_toArray, List.set_cons_zero, List.set_cons_succ])
 refine wpHo_yes (v := ?_) hk8 rfl rfl (fun w' hS => ?_) ?_; rotate_left; (obtain ⟨f0, f1, f2, f3, f4, f5, f6, f7, f8, f9⟩ := HZL.out w' hS; go_simp; with_reducible rfl); (try simp only [Act.put, List.setIfInBounds_toArray, List.set_cons_zero, List.set_cons_succ])
 refine wpHo_yes (v := ?_) hk9 rfl rfl (fun w' hS => ?_) ?_; rotate_left; (go_simp; with_reducible rfl); (try simp only [Act.put, List.setIfInBounds_toArray, List.set_cons_zero, List.set_cons_succ])
 refine wpHo_yes (v := ?_) hk10 rfl rfl (fun w' hS => ?_) ?_; rotate_left; (obtain ⟨f0, f1, f2, f3, f4, f5, f6, f7, f8, f9⟩ := HZL.out w' hS; go_simp; with_reducible rfl); (try simp only [Act.put, List.setIfInBounds_toArray, List.set_cons_zero, List.set_cons_succ])
 refine wpHo_yes (v := ?_) hk12 rfl rfl (fun w' hS => ?_) ?_; rotate_left; (obtain ⟨f0, f1, f2, f3, f4, f5, f6, f7, f8, f9⟩ := HZL.out w' hS; go_simp; with_reducible rfl); (try simp only [Act.put, List.setIfInBounds_toArray, List.set_cons_zero, List.set_cons_succ])
 refine wpHo_yes (v := ?_) hk13 rfl rfl (fun w' hS => ?_) ?_; rotate_left; (go_simp; with_reducible rfl); (try simp only [Act.put, List.setIfInBounds_toArray, List.set_cons_zero, List.set_cons_succ])
 refine wpHo_yes (v := ?_) hk14 rfl rfl (fun w' hS => ?_) ?_; rotate_left; (obtain ⟨f0, f1, f2, f3, f4, f5, f6, f7, f8, f9⟩ := HZL.out w' hS; go_simp; with_reducible rfl); (try simp only [Act.put, List.setIfInBounds_toArray, List.set_cons_zero, List.set_cons_succ])
 refine wpHo_yes (v := ?_) hk16 rfl rfl (fun w' hS => ?_) ?_; rotate_left; (go_simp; with_reducible rfl); (try simp only [Act.put, List.setIfInBounds_toArray, List.set_cons_zero, List.set_cons_succ])
 refine wpHo_yes (v := ?_) hk17 rfl rfl (fun w' hS => ?_) ?_; rotate_left; (go_simp; with_reducible rfl); (try simp only [Act.put, List.setIfInBounds_toArray, List.set_cons_zero, List.set_cons_succ])
 refine wpHo_yes (v := ?_) hk18 rfl rfl (fun w' hS => ?_) ?_; rotate_left; (obtain ⟨f0, f1, f2, f3, f4, f5, f6, f7, f8, f9⟩ := HZL.out w' hS; go_simp; with_reducible rfl); (try simp only [Act.put, List.setIfInBounds_toArray, List.set_cons_zero, List.set_cons_succ])
 refine wpHo_yes (v := ?_) hk20 rfl rfl (fun w' hS => ?_) ?_; rotate_left; (go_simp; with_reducible rfl); (try simp only [Act.put, List.setIfInBounds_toArray, List.set_cons_zero, List.set_cons_succ])
 refine wpHo_yes (v := ?_) hk21 rfl rfl (fun w' hS => ?_) ?_; rotate_left; (go_simp; with_reducible rfl); (try simp only [Act.put, List.setIfInBounds_toArray, List.set_cons_zero, List.set_cons_succ])
 refine wpHo_yes (v := ?_) hk22 rfl rfl (fun w' hS => ?_) ?_; rotate_left; (obtain ⟨f0, f1, f2, f3, f4, f5, f6, f7, f8, f9⟩ := HZL.out w' hS; go_simp; with_reducible rfl); (try simp only [Act.put, List.setIfInBounds_toArray, List.set_cons_zero, List.set_cons_succ])
 refine wpHo_yes (v := ?_) hk24 rfl rfl (fun w' hS => ?_) ?_; rotate_left; (obtain ⟨f0, f1, f2, f3, f4, f5, f6, f7, f8, f9⟩ := HZL.out w' hS; go_simp; with_reducible rfl); (try simp only [Act.put, List.setIfInBounds_toArray, List.set_cons_zero, List.set_cons_succ])
 refine wpHo_yes (v := ?_) hk25 rfl rfl (fun w' hS => ?_) ?_; rotate_left; (go_simp; with_reducible rfl); (try simp only [Act.put, List.setIfInBounds_toArray, List.set_cons_zero, List.set_cons_succ])
 refine wpHo_yes (v := ?_) hk26 rfl rfl (fun w' hS => ?_) ?_; rotate_left; (obtain ⟨f0, f1, f2, f3, f4, f5, f6, f7, f8, f9⟩ := HZL.out w' hS; go_simp; with_reducible rfl); (try simp only [Act.put, List.setIfInBounds_toArray, List.set_cons_zero, List.set_cons_succ])
 refine wpHo_yes (v := ?_) hk27 rfl rfl (fun w' hS => ?_) ?_; rotate_left; (obtain ⟨f0, f1, f2, f3, f4, f5, f6, f7, f8, f9⟩ := HZL.out w' hS; go_simp; with_reducible rfl); (try simp only [Act.put, List.setIfInBounds_toArray, List.set_cons_zero, List.set_cons_succ])
 refine wpHo_yes (v := ?_) hk28 rfl rfl (fun w' hS => ?_) ?_; rotate_left; (go_simp; with_reducible rfl); (try simp only [Act.put, List.setIfInBounds_toArray, List.set_cons_zero, List.set_cons_succ])
 refine wpHo_yes (v := ?_) hk30 rfl rfl (fun w' hS => ?_) ?_; rotate_left; (go_simp; with_reducible rfl); (try simp only [Act.put, List.setIfInBounds_toArray, List.set_cons_zero, List.set_cons_succ])
 refine wpHo_yes (v := ?_) hk31 rfl rfl (fun w' hS => ?_) ?_; rotate_left; (go_simp; with_reducible rfl); (try simp only [Act.put, List.setIfInBounds_toArray, List.set_cons_zero, List.set_cons_succ])
 refine wpHo_yes (v := ?_) hk32 rfl rfl (fun w' hS => ?_) ?_; rotate_left; (obtain ⟨f0, f1, f2, f3, f4, f5, f6, f7, f8, f9⟩ := HZL.out w' hS; go_simp; with_reducible rfl); (try simp only [Act.put, List.setIfInBounds_toArray, List.set_cons_zero, List.set_cons_succ])
 refine wpHo_yes (v := ?_) hk34 rfl rfl (fun w' hS => ?_) ?_; rotate_left; (obtain ⟨f0, f1, f2, f3, f4, f5, f6, f7, f8, f9⟩ := HZL.out w' hS; go_simp; with_reducible rfl); (try simp only [Act.put, List.setIfInBounds_toArray, List.set_cons_zero, List.set_cons_succ])
 refine wpHo_yes (v := ?_) hk35 rfl rfl (fun w' hS => ?_) ?_; rotate_left; (go_simp; with_reducible rfl); (try simp only [Act.put, List.setIfInBounds_toArray, List.set_cons_zero, List.set_cons_succ])
 refine wpHo_yes (v := ?_) hk36 rfl rfl (fun w' hS => ?_) ?_; rotate_left; (obtain ⟨f0, f1, f2, f3, f4, f5, f6, f7, f8, f9⟩ := HZL.out w' hS; go_simp; with_reducible rfl); (try simp only [Act.put, List.setIfInBounds_toArray, List.set_cons_zero, List.set_cons_succ])
 refine wpHo_callYes hk3 rfl rfl (fun K hK => ?_)
 go_simp
 go_at_call 102
 refine (HC0.out _ _ _ _ HS0.out.to.at_ (HR0.out.mono (Nat.le_add_right _ _))).mono ?_
 rintro e w1 ⟨y0, m0, b0, F0, rfl, hT, hD, hy⟩
 have HD0 := Lib.hid hD
 have HR1 := Lib.hid (hD.room HR0.out)
 have HM1 : Hid (m0.Rd → m.Rd) := fun hm => HM0.out (hD.mode.1 hm)
 have HS1 := Lib.hid (HS0.out.tel hT)
 clear hT hD hy HS0 HR0 HC0 HM0
 refine hK _ _ (HXB.out _ HS1.out.now) (fun _ => ?_)
 skip
 clear hK K
 refine wpHo_callYes hk7 rfl rfl (fun K hK => ?_)
 go_simp
 go_at_call 102
 refine (HC1.out _ _ _ _ HS1.out.to.at_ (HR1.out.mono (Nat.le_add_right _ _))).mono ?_
 rintro e w2 ⟨y1, m1, b1, F1, rfl, hT, hD, hy⟩
 have HD1 := Lib.hid hD
 have HR2 := Lib.hid (hD.room HR1.out)
 have HM2 : Hid (m1.Rd → m.Rd) := fun hm => HM1.out (hD.mode.1 hm)
 have HS2 := Lib.hid (HS1.out.tel hT)
 clear hT hD hy HS1 HR1 HC1 HM1
 refine hK _ _ (HXB.out _ HS2.out.now) (fun _ => ?_)
 skip
 clear hK K
 refine wpHo_callYes hk11 rfl rfl (fun K hK => ?_)
 go_simp
 go_at_call 102
 refine (HC2.out _ _ _ _ HS2.out.to.at_ (HR2.out.mono (Nat.le_add_right _ _))).mono ?_
 rintro e w3 ⟨y2, m2, b2, F2, rfl, hT, hD, hy⟩
 have HD2 := Lib.hid hD
 have HR3 := Lib.hid (hD.room HR2.out)
 have HM3 : Hid (m2.Rd → m.Rd) := fun hm => HM2.out (hD.mode.1 hm)
 have HS3 := Lib.hid (HS2.out.tel hT)
 clear hT hD hy HS2 HR2 HC2 HM2
 refine hK _ _ (HXB.out _ HS3.out.now) (fun _ => ?_)
 skip
 clear hK K
 refine wpHo_callYes hk15 rfl rfl (fun K hK => ?_)
 go_simp
 go_at_call 90
 refine (HC3.out _ _ _ _ HS3.out.to.at_ (HR3.out.mono (Nat.le_add_right _ _))).mono ?_
 rintro e w4 ⟨y3, m3, b3, F3, rfl, hT, hD, hy⟩
 have HD3 := Lib.hid hD
 have HR4 := Lib.hid (hD.room HR3.out)
 have HM4 : Hid (m3.Rd → m.Rd) := fun hm => HM3.out (hD.mode.1 hm)
 have HS4 := Lib.hid (HS3.out.tel hT)
 clear hT hD hy HS3 HR3 HC3 HM3
 refine hK _ _ (HXB.out _ HS4.out.now) (fun _ => ?_)
 skip
 clear hK K
 refine wpHo_callYes hk19 rfl rfl (fun K hK => ?_)
 go_simp
 go_at_call 155
 refine (HC4.out _ _ _ _ HS4.out.to.at_ (HR4.out.mono (Nat.le_add_right _ _)) (fun hm => by rw [HZ.out (HM4.out hm)] <;> rfl) (HS4.out.x.imp fun V hV => by rw [← iv_kv]; exact (HXM.out V hV).s1) (HS4.out.x.imp fun V hV => HXP.out V hV)).mono ?_
 rintro e w5 ⟨y4, q4, m4, b4, F4, rfl, hT, hO, hD⟩
 have HD4 := Lib.hid hD
 have HR5 := Lib.hid (hD.room HR4.out)
 have HM5 : Hid (m4.Rd → m.Rd) := fun hm => HM4.out (hD.mode.1 hm)
 have HS5 := Lib.hid (HS4.out.told hT hO)
 clear hT hD hO HS4 HR4 HC4 HM4
 refine hK _ _ (HXB.out _ HS5.out.now) (fun _ => ?_)
 skip
 clear hK K
 refine wpHo_callYes hk23 rfl rfl (fun K hK => ?_)
 go_simp
 go_at_call 155
 refine (HC5.out _ _ _ _ HS5.out.to.at_ (HR5.out.mono (Nat.le_add_right _ _)) (fun hm => by rw [HZ.out (HM5.out hm)] <;> rfl) (HS5.out.x.imp fun V hV => by rw [← iv_kv]; exact (HXM.out V hV).s2) (HS5.out.x.imp fun V hV => HXP.out V hV)).mono ?_
 rintro e w6 ⟨y5, q5, m5, b5, F5, rfl, hT, hO, hD⟩
 have HD5 := Lib.hid hD
 have HR6 := Lib.hid (hD.room HR5.out)
 have HM6 : Hid (m5.Rd → m.Rd) := fun hm => HM5.out (hD.mode.1 hm)
 have HS6 := Lib.hid (HS5.out.told hT hO)
 clear hT hD hO HS5 HR5 HC5 HM5
 refine hK _ _ (HXB.out _ HS6.out.now) (fun _ => ?_)
 skip
 clear hK K
 refine wpHo_callYes hk29 rfl rfl (fun K hK => ?_)
 go_simp
 go_at_call 157
 refine (HC6.out _ _ _ _ HS6.out.to.at_ (HR6.out.mono (Nat.le_add_right _ _)) (fun hm => by rw [HZ.out (HM6.out hm)] <;> rfl) (HS6.out.x.imp fun V hV => by rw [← sv_kv]; exact (HXM.out V hV).s3)).mono ?_
 rintro e w7 ⟨y6, q6, m6, b6, F6, rfl, hT, hO, hD⟩
 have HD6 := Lib.hid hD
 have HR7 := Lib.hid (hD.room HR6.out)
 have HM7 : Hid (m6.Rd → m.Rd) := fun hm => HM6.out (hD.mode.1 hm)
 have HS7 := Lib.hid (HS6.out.told hT hO)
 clear hT hD hO HS6 HR6 HC6 HM6
 refine hK _ _ (HXB.out _ HS7.out.now) (fun _ => ?_)
 skip
 clear hK K
 refine wpHo_callYes hk33 rfl rfl (fun K hK => ?_)
 go_simp
 go_at_call 155
 refine (HC7.out _ _ _ _ HS7.out.to.at_ (HR7.out.mono (Nat.le_add_right _ _)) (fun hm => by rw [HZ.out (HM7.out hm)] <;> rfl) (HS7.out.x.imp fun V hV => by rw [← iv_kv]; exact (HXM.out V hV).s4) (HS7.out.x.imp fun V hV => HXP.out V hV)).mono ?_
 rintro e w8 ⟨y7, q7, m7, b7, F7, rfl, hT, hO, hD⟩
 have HD7 := Lib.hid hD
 have HR8 := Lib.hid (hD.room HR7.out)
 have HM8 : Hid (m7.Rd → m.Rd) := fun hm => HM7.out (hD.mode.1 hm)
 have HS8 := Lib.hid (HS7.out.told hT hO)
 clear hT hD hO HS7 HR7 HC7 HM7
 refine hK _ _ (HXB.out _ HS8.out.now) (fun _ => ?_)
 skip
 clear hK K
 refine wpHo_callYes hk37 rfl rfl (fun K hK => ?_)
 go_simp
 go_at_call 159
 refine (HC8.out _ _ _ _ HS8.out.to.at_ (HR8.out.mono (Nat.le_add_right _ _))).mono ?_
 rintro e w9 ⟨y8, m8, b8, F8, rfl, hT, hD, hy⟩
 have HD8 := Lib.hid hD
 have HR9 := Lib.hid (hD.room HR8.out)
 have HM9 : Hid (m8.Rd → m.Rd) := fun hm => HM8.out (hD.mode.1 hm)
 have HS9 := Lib.hid (HS8.out.tel hT)
 clear hT hD hy HS8 HR8 HC8 HM8
 refine hK _ _ (HXB.out _ HS9.out.now) (fun _ => ?_)
 skip
 clear hK K
 refine wpHo_yes (v := ?_) hk38 rfl rfl (fun w' hS => ?_) ?_; rotate_left; (go_simp; with_reducible rfl); (try simp only [Act.put, List.setIfInBounds_toArray, List.set_cons_zero, List.set_cons_succ])
 have HRB := Lib.hid (HXR.out _ HS9.out.now)
 refine wpHo_callYes hk39 rfl rfl (fun K hK => ?_)
 refine wp_store_mid 60 (.tmp 4) (.tmp 45) rfl (w.heap.size + 2) 0 #[.int .i64 y0, .int .i64 y1, .int .i64 y2, .int .i64 y3, .slice q4.1 y4.length q4.2, .slice q5.1 y5.length q5.2, .slice q6.1 y6.length q6.2, .slice q7.1 y7.length q7.2, .int .i64 y8] rfl rfl (blk_there HRB.out (by simp)) (by kernel_rfl) (by simp [Value.oneCell']) ?_
 refine hK _ _ (HXS.out _ _ HS9.out.now) (fun _ => ?_)
 simp only [Act.put]
 clear hK K
 have hset := setCells_blk (b := w.heap.size + 2) [.int .i64 y0, .int .i64 y1, .int .i64 y2, .int .i64 y3, .slice q4.1 y4.length q4.2, .slice q5.1 y5.length q5.2, .slice q6.1 y6.length q6.2, .slice q7.1 y7.length q7.2, .int .i64 y8] 0 _ _ HRB.out
 have HTO := Lib.hid (HS9.out.to.store' HB.out (R := w.heap.size + 2) (by omega) (HS9.out.to.not HN2.out.1 HN2.out.2) 0 [.int .i64 y0, .int .i64 y1, .int .i64 y2, .int .i64 y3, .slice q4.1 y4.length q4.2, .slice q5.1 y5.length q5.2, .slice q6.1 y6.length q6.2, .slice q7.1 y7.length q7.2, .int .i64 y8])
 have HOW := Lib.hid ((HS9.out.y.store (R := w.heap.size + 2) HN2.out.2 0 [.int .i64 y0, .int .i64 y1, .int .i64 y2, .int .i64 y3, .slice q4.1 y4.length q4.2, .slice q5.1 y5.length q5.2, .slice q6.1 y6.length q6.2, .slice q7.1 y7.length q7.2, .int .i64 y8]).mono HB.out.size)
 obtain ⟨w', hw'⟩ : ∃ w', w9.setCells (w.heap.size + 2) 0 [.int .i64 y0, .int .i64 y1, .int .i64 y2, .int .i64 y3, .slice q4.1 y4.length q4.2, .slice q5.1 y5.length q5.2, .slice q6.1 y6.length q6.2, .slice q7.1 y7.length q7.2, .int .i64 y8] = w' := ⟨_, rfl⟩
 have hw'2 : w9.setCells (w.heap.size + 2) 0 #[.int .i64 y0, .int .i64 y1, .int .i64 y2, .int .i64 y3, .slice q4.1 y4.length q4.2, .slice q5.1 y5.length q5.2, .slice q6.1 y6.length q6.2, .slice q7.1 y7.length q7.2, .int .i64 y8].toList = w' := hw'
 rw [hw'] at hset HTO HOW
 rw [hw'2]
 clear hw' hw'2
 rw [setAll_all (by rfl)] at hset
 have HSE := Lib.hid hset
 clear hset
 show Exit.then _ _ _ _ _
 go_wp2_with fail
 refine bodyPost_ret (results_cell_row rfl _ _ (w.heap.size + 2) 60 #[.int .i64 y0, .int .i64 y1, .int .i64 y2, .int .i64 y3, .slice q4.1 y4.length q4.2, .slice q5.1 y5.length q5.2, .slice q6.1 y6.length q6.2, .slice q7.1 y7.length q7.2, .int .i64 y8] (0, 0) _ rfl HSE.out Tryz.underlying60 rfl (by kernel_rfl)) rfl ?_
 exact ⟨⟨y0, y1, y2, y3, y4, y5, y6, y7, y8⟩, ⟨q4.1, q5.1, q6.1, q7.1, q4.2, q5.2, q6.2, q7.2⟩, _, _, _, rfl, HTO.out, HOW.out.imp (fun V hV => ⟨(by rw [iv_kv]; exact hV.1.1.1.2), (by rw [iv_kv]; exact hV.1.1.2), (by rw [sv_kv]; exact hV.1.2), (by rw [iv_kv]; exact hV.2)⟩), (HD0.out.pair (HD1.out.pair (HD2.out.pair (HD3.out.pair (HD4.out.pair (HD5.out.pair (HD6.out.pair (HD7.out.pair HD8.out)))))))).conv Ru.of (Nat.le_refl _) (fun o => ⟨o, rfl⟩) (fun _ => rfl) rfl (fun _ => rfl)⟩
end Go.Proofs.YtdhinjbkfffpeaaGreat
end
