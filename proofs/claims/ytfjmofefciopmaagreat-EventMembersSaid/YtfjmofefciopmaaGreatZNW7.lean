import Derived.Test.YtfjmofefciopmaaGreatZML
/- Contract of the program's times: a rule's course. -/
section
namespace Go.Proofs.YtfjmofefciopmaaGreat
open Go.ChangeShapes Go.WideShapes Go.ChangeAt Go.RowKit Go.Joins Qr Tm Cal
def chain10 (W : World) (b : Nat) (v0 v1 v2 v3 v4 v5 v6 v7 v8 v9 : Value) : World :=
  (((((((((W.setCell ⟨b, 0, none⟩ v0).setCell ⟨b, 1, none⟩ v1).setCell ⟨b, 2, none⟩ v2).setCell ⟨b, 3, none⟩ v3).setCell ⟨b, 4, none⟩ v4).setCell ⟨b, 5, none⟩ v5).setCell ⟨b, 6, none⟩ v6).setCell ⟨b, 7, none⟩ v7).setCell ⟨b, 8, none⟩ v8).setCell ⟨b, 9, none⟩ v9
theorem chain10_blk {W : World} {b : Nat} {t : TypeId} {x0 x1 x2 x3 x4 x5 x6 x7 x8 x9 : Value} (h : W.heap[b]? = some (.cells #[x0, x1, x2, x3, x4, x5, x6, x7, x8, x9] t (0, 0))) (v0 v1 v2 v3 v4 v5 v6 v7 v8 v9 : Value) :
    (chain10 W b v0 v1 v2 v3 v4 v5 v6 v7 v8 v9).heap[b]? = some (.cells #[v0, v1, v2, v3, v4, v5, v6, v7, v8, v9] t (0, 0)) := by
  have := block_setCell (block_setCell (block_setCell (block_setCell (block_setCell (block_setCell (block_setCell (block_setCell (block_setCell (block_setCell (i := 0) h v0) (i := 1) v1) (i := 2) v2) (i := 3) v3) (i := 4) v4) (i := 5) v5) (i := 6) v6) (i := 7) v7) (i := 8) v8) (i := 9) v9
  simpa [chain10] using this
theorem chain10_below {W w : World} {b B : Nat} (h : Below B w W) (hb : B ≤ b) (v0 v1 v2 v3 v4 v5 v6 v7 v8 v9 : Value) : Below B w (chain10 W b v0 v1 v2 v3 v4 v5 v6 v7 v8 v9) :=
  (((((((((h.setCell (p := ⟨b, 0, none⟩) hb _).setCell (p := ⟨b, 1, none⟩) hb _).setCell (p := ⟨b, 2, none⟩) hb _).setCell (p := ⟨b, 3, none⟩) hb _).setCell (p := ⟨b, 4, none⟩) hb _).setCell (p := ⟨b, 5, none⟩) hb _).setCell (p := ⟨b, 6, none⟩) hb _).setCell (p := ⟨b, 7, none⟩) hb _).setCell (p := ⟨b, 8, none⟩) hb _).setCell (p := ⟨b, 9, none⟩) hb _
theorem Sb.chain10 {w : World} {B b : Nat} {A : Option Addr} {n c : Nat} {xs : List Value} (h : Sb w B A n c xs) (hb : b < B) (v0 v1 v2 v3 v4 v5 v6 v7 v8 v9 : Value) : Sb (chain10 w b v0 v1 v2 v3 v4 v5 v6 v7 v8 v9) B A n c xs :=
  (((((((((h.set hb _).set hb _).set hb _).set hb _).set hb _).set hb _).set hb _).set hb _).set hb _).set hb _
structure RSb (w : World) (B : Nat) (r : R) (A1 A2 A3 A4 : Option Addr) (c1 c2 c3 c4 : Nat) : Prop where
  s1 : Sb w B A1 r.bm.length c1 (iv r.bm)
  s2 : Sb w B A2 r.bd.length c2 (iv r.bd)
  s3 : Sb w B A3 r.bw.length c3 (sv r.bw)
  s4 : Sb w B A4 r.bs.length c4 (iv r.bs)
theorem RSb.at_ {w : World} {B : Nat} {r : R} {A1 A2 A3 A4 : Option Addr} {c1 c2 c3 c4 : Nat} (h : RSb w B r A1 A2 A3 A4 c1 c2 c3 c4) : RAt w r A1 A2 A3 A4 c1 c2 c3 c4 := ⟨h.s1.sl, h.s2.sl, h.s3.sl, h.s4.sl⟩
structure CO (w : World) (W : World) (bx : Array Value) (A1 A2 A3 A4 : Option Addr) (n1 n2 n3 n4 c1 c2 c3 c4 : Nat) (x1 x2 x3 x4 : List Value) : Prop where
  box : W.heap[w.heap.size]? = some (.cells bx 28 (0, 0))
  res : W.heap[w.heap.size + 1]? = some (.cells #[.int .i64 0, .int .i64 0, .int .i64 0, .int .i64 0, .slice none 0 0, .slice none 0 0, .slice none 0 0, .slice none 0 0, .int .i64 0, .int .i64 0] 141 (0, 0))
  below : Below w.heap.size w W
  s1 : Sb W (w.heap.size + 2) A1 n1 c1 x1
  s2 : Sb W (w.heap.size + 2) A2 n2 c2 x2
  s3 : Sb W (w.heap.size + 2) A3 n3 c3 x3
  s4 : Sb W (w.heap.size + 2) A4 n4 c4 x4
section
variable {w W W' : World} {bx : Array Value} {A1 A2 A3 A4 : Option Addr} {n1 n2 n3 n4 c1 c2 c3 c4 : Nat} {x1 x2 x3 x4 : List Value}
theorem CO.lt (h : CO w W bx A1 A2 A3 A4 n1 n2 n3 n4 c1 c2 c3 c4 x1 x2 x3 x4) : w.heap.size + 2 ≤ W.heap.size := by
  have := (Array.getElem?_eq_some_iff.1 h.res).1; omega
theorem CO.up (h : CO w W bx A1 A2 A3 A4 n1 n2 n3 n4 c1 c2 c3 c4 x1 x2 x3 x4) (hb : Below W.heap.size W W') : CO w W' bx A1 A2 A3 A4 n1 n2 n3 n4 c1 c2 c3 c4 x1 x2 x3 x4 :=
  ⟨blk_below h.box hb, blk_below h.res hb, h.below.trans (hb.mono h.below.size), h.s1.below hb, h.s2.below hb, h.s3.below hb, h.s4.below hb⟩
theorem CO.set (h : CO w W bx A1 A2 A3 A4 n1 n2 n3 n4 c1 c2 c3 c4 x1 x2 x3 x4) (i : Nat) (v : Value) : CO w (W.setCell ⟨w.heap.size, i, none⟩ v) (bx.setIfInBounds i v) A1 A2 A3 A4 n1 n2 n3 n4 c1 c2 c3 c4 x1 x2 x3 x4 :=
  ⟨block_setCell h.box v, (Below.heap_setCell _ _ _ _ (by simp)).trans h.res, h.below.setCell (p := ⟨w.heap.size, i, none⟩) (Nat.le_refl _) _, h.s1.set (by omega) _, h.s2.set (by omega) _, h.s3.set (by omega) _, h.s4.set (by omega) _⟩
theorem CO.new (w : World) (bx : Array Value) : CO w ((w.alloc (.cells bx 28)).alloc (.cells #[.int .i64 0, .int .i64 0, .int .i64 0, .int .i64 0, .slice none 0 0, .slice none 0 0, .slice none 0 0, .slice none 0 0, .int .i64 0, .int .i64 0] 141)) bx none none none none 0 0 0 0 0 0 0 0 [] [] [] [] :=
  ⟨by rw [heap_alloc_old _ _ (by simp), heap_alloc_new], heap_alloc_new2 _ _ _, ((Below.refl _ w).alloc (Nat.le_refl _) _).alloc (by simp) _, ⟨Sl.none_ _, fun a h => by cases h⟩, ⟨Sl.none_ _, fun a h => by cases h⟩, ⟨Sl.none_ _, fun a h => by cases h⟩, ⟨Sl.none_ _, fun a h => by cases h⟩⟩
end
section
variable (r : R) (A1 A2 A3 A4 : Option Addr) (c1 c2 c3 c4 : Nat)
set_option maxRecDepth 100000 in
set_option maxHeartbeats 4000000 in
theorem pcourse_any (sn : Nat) (hs : sn ≤ 109937) (hf : 1 ≤ r.freq ∧ r.freq ≤ 4) (hl : r.bm.length ≤ 10000 ∧ r.bd.length ≤ 10000 ∧ r.bw.length ≤ 10000 ∧ r.bs.length ≤ 10000) (w : World) (hr : RAt w r A1 A2 A3 A4 c1 c2 c3 c4) :
    Calls Tryz.prog 114 #[.agg (rcells r A1 A2 A3 A4 c1 c2 c3 c4), .int .i64 sn] w fun e w' =>
      ∃ B1 B2 B3 B4 d1 d2 d3 d4, e = .returned (.agg (ccells (crs r (dt sn)) B1 B2 B3 B4 d1 d2 d3 d4 sn)) ∧ RSb w' (w.heap.size + 2) (crs r (dt sn)) B1 B2 B3 B4 d1 d2 d3 d4 ∧ Below w.heap.size w w' := by
  obtain ⟨hmay, _⟩ := dt_in hs
  have hwk := dt_w sn
  have hdt : yOf (sn : Int) = (dt sn).y ∧ mOf (sn : Int) = (dt sn).m ∧ dOf (sn : Int) = (dt sn).d := by unfold dt; rw [if_pos hs]; exact ⟨rfl, rfl, rfl⟩
  have HD := Lib.hid (fun w => date_yes (sn : Int) w (by omega) (by omega))
  obtain ⟨e1, e2, e3⟩ := hdt
  rw [e1, e2, e3] at HD
  have HWD := Lib.hid (fun w => weekday_any (sn : Int) w)
  have HCR : Hid (crs r (dt sn) = if r.freq = 2 ∧ r.bw = [] then { r with bw := [(0, (sn : Int) % 7)] }
      else if (r.freq = 3 ∨ r.freq = 4) ∧ r.bd = [] ∧ r.bw = [] then { r with bd := [(dt sn).d], bm := if r.freq = 4 ∧ r.bm = [] then [(dt sn).m] else r.bm } else r) := by show _ = _; unfold crs; rw [hwk]
  obtain ⟨q, hq⟩ : ∃ q, crs r (dt sn) = q := ⟨_, rfl⟩
  rw [hq] at HCR ⊢
  have hl1 : r.bm.length ≤ 9223372036854775807 := by omega
  have hl2 : r.bd.length ≤ 9223372036854775807 := by omega
  have hl3 : r.bw.length ≤ 9223372036854775807 := by omega
  have hl4 : r.bs.length ≤ 9223372036854775807 := by omega
  have HC1 : Hid (∀ V, Below w.heap.size w V → Calls Tryz.prog 137 #[.slice A1 r.bm.length c1] V fun e w' => (∃ A' c', e = .returned (.slice A' r.bm.length c') ∧ Sb w' V.heap.size A' r.bm.length c' (iv r.bm)) ∧ Below V.heap.size V w') := fun V h => pcloneI_any r.bm A1 c1 hl.1 V (hr.below h (Nat.le_refl _)).s1
  have HC2 : Hid (∀ V, Below w.heap.size w V → Calls Tryz.prog 137 #[.slice A2 r.bd.length c2] V fun e w' => (∃ A' c', e = .returned (.slice A' r.bd.length c') ∧ Sb w' V.heap.size A' r.bd.length c' (iv r.bd)) ∧ Below V.heap.size V w') := fun V h => pcloneI_any r.bd A2 c2 hl.2.1 V (hr.below h (Nat.le_refl _)).s2
  have HC3 : Hid (∀ V, Below w.heap.size w V → Calls Tryz.prog 138 #[.slice A3 r.bw.length c3] V fun e w' => (∃ A' c', e = .returned (.slice A' r.bw.length c') ∧ Sb w' V.heap.size A' r.bw.length c' (sv r.bw)) ∧ Below V.heap.size V w') := fun V h => pcloneD_any r.bw A3 c3 hl.2.2.1 V (hr.below h (Nat.le_refl _)).s3
  have HC4 : Hid (∀ V, Below w.heap.size w V → Calls Tryz.prog 137 #[.slice A4 r.bs.length c4] V fun e w' => (∃ A' c', e = .returned (.slice A' r.bs.length c') ∧ Sb w' V.heap.size A' r.bs.length c' (iv r.bs)) ∧ Below V.heap.size V w') := fun V h => pcloneI_any r.bs A4 c4 hl.2.2.2 V (hr.below h (Nat.le_refl _)).s4
  have HCO := Lib.hid (CO.new w (rcells r A1 A2 A3 A4 c1 c2 c3 c4))
  unfold rcells at *
  clear hr hq e1 e2 e3 hmay hwk
  generalize (dt sn).y = y at *
  generalize (dt sn).m = m at *
  generalize (dt sn).d = d at *
  obtain ⟨fq, iv_, ct, un, bm, bd, bw, bs, st⟩ := r
  simp only at *
  go_enter Tryz.func114, Tryz.ntmps114
  go_upto_region 1 with fail
  obtain ⟨W0, hW0⟩ : ∃ W0, ((w.alloc (.cells #[.int .i64 fq, .int .i64 iv_, .int .i64 ct, .int .i64 un, .slice A1 bm.length c1, .slice A2 bd.length c2, .slice A3 bw.length c3, .slice A4 bs.length c4, .int .i64 st] 28)).alloc (.cells #[.int .i64 0, .int .i64 0, .int .i64 0, .int .i64 0, .slice none 0 0, .slice none 0 0, .slice none 0 0, .slice none 0 0, .int .i64 0, .int .i64 0] 141)) = W0 := ⟨_, rfl⟩
  rw [hW0] at HCO ⊢
  clear hW0
  -- the first row
  have k4 := blk_cell HCO.out.box (i := 4) rfl
  go_wp2_with fail
  go_at_call 137
  refine (HC1.out _ HCO.out.below).mono ?_
  rintro e V1 ⟨⟨B1, e1, rfl, hS1⟩, hb⟩
  have H1 : CO w V1 #[.int .i64 fq, .int .i64 iv_, .int .i64 ct, .int .i64 un, .slice A1 bm.length c1, .slice A2 bd.length c2, .slice A3 bw.length c3, .slice A4 bs.length c4, .int .i64 st] B1 none none none bm.length 0 0 0 e1 0 0 0 (iv bm) [] [] [] := { HCO.out.up hb with s1 := ⟨hS1.sl, fun a h => Nat.le_trans HCO.out.lt (hS1.up a h)⟩ }
  clear HCO k4 hb hS1
  have q4 := blk_cell H1.box (i := 4) rfl
  have f4 := blk_free H1.box
  have G1 : Hid (CO w (V1.setCell ⟨w.heap.size, 4, none⟩ (.slice B1 bm.length e1)) #[.int .i64 fq, .int .i64 iv_, .int .i64 ct, .int .i64 un, .slice B1 bm.length e1, .slice A2 bd.length c2, .slice A3 bw.length c3, .slice A4 bs.length c4, .int .i64 st] B1 none none none bm.length 0 0 0 e1 0 0 0 (iv bm) [] [] []) := H1.set 4 (.slice B1 bm.length e1)
  clear H1
  go_upto_region 2 with fail
  obtain ⟨W1, hW1⟩ : ∃ W, V1.setCell ⟨w.heap.size, 4, none⟩ (.slice B1 bm.length e1) = W := ⟨_, rfl⟩
  rw [hW1] at G1 ⊢
  clear hW1 q4 f4
  have k4 := blk_cell G1.out.box (i := 5) rfl
  go_wp2_with fail
  go_at_call 137
  refine (HC2.out _ G1.out.below).mono ?_
  rintro e V2 ⟨⟨B2, e2, rfl, hS1⟩, hb⟩
  have H2 : CO w V2 #[.int .i64 fq, .int .i64 iv_, .int .i64 ct, .int .i64 un, .slice B1 bm.length e1, .slice A2 bd.length c2, .slice A3 bw.length c3, .slice A4 bs.length c4, .int .i64 st] B1 B2 none none bm.length bd.length 0 0 e1 e2 0 0 (iv bm) (iv bd) [] [] := { G1.out.up hb with s2 := ⟨hS1.sl, fun a h => Nat.le_trans G1.out.lt (hS1.up a h)⟩ }
  clear G1 k4 hb hS1
  have q4 := blk_cell H2.box (i := 5) rfl
  have f4 := blk_free H2.box
  have G2 : Hid (CO w (V2.setCell ⟨w.heap.size, 5, none⟩ (.slice B2 bd.length e2)) #[.int .i64 fq, .int .i64 iv_, .int .i64 ct, .int .i64 un, .slice B1 bm.length e1, .slice B2 bd.length e2, .slice A3 bw.length c3, .slice A4 bs.length c4, .int .i64 st] B1 B2 none none bm.length bd.length 0 0 e1 e2 0 0 (iv bm) (iv bd) [] []) := H2.set 5 (.slice B2 bd.length e2)
  clear H2
  go_upto_region 3 with fail
  obtain ⟨W2, hW2⟩ : ∃ W, V2.setCell ⟨w.heap.size, 5, none⟩ (.slice B2 bd.length e2) = W := ⟨_, rfl⟩
  rw [hW2] at G2 ⊢
  clear hW2 q4 f4
  have k4 := blk_cell G2.out.box (i := 6) rfl
  go_wp2_with fail
  go_at_call 138
  refine (HC3.out _ G2.out.below).mono ?_
  rintro e V3 ⟨⟨B3, e3, rfl, hS1⟩, hb⟩
  have H3 : CO w V3 #[.int .i64 fq, .int .i64 iv_, .int .i64 ct, .int .i64 un, .slice B1 bm.length e1, .slice B2 bd.length e2, .slice A3 bw.length c3, .slice A4 bs.length c4, .int .i64 st] B1 B2 B3 none bm.length bd.length bw.length 0 e1 e2 e3 0 (iv bm) (iv bd) (sv bw) [] := { G2.out.up hb with s3 := ⟨hS1.sl, fun a h => Nat.le_trans G2.out.lt (hS1.up a h)⟩ }
  clear G2 k4 hb hS1
  have q4 := blk_cell H3.box (i := 6) rfl
  have f4 := blk_free H3.box
  have G3 : Hid (CO w (V3.setCell ⟨w.heap.size, 6, none⟩ (.slice B3 bw.length e3)) #[.int .i64 fq, .int .i64 iv_, .int .i64 ct, .int .i64 un, .slice B1 bm.length e1, .slice B2 bd.length e2, .slice B3 bw.length e3, .slice A4 bs.length c4, .int .i64 st] B1 B2 B3 none bm.length bd.length bw.length 0 e1 e2 e3 0 (iv bm) (iv bd) (sv bw) []) := H3.set 6 (.slice B3 bw.length e3)
  clear H3
  go_upto_region 4 with fail
  obtain ⟨W3, hW3⟩ : ∃ W, V3.setCell ⟨w.heap.size, 6, none⟩ (.slice B3 bw.length e3) = W := ⟨_, rfl⟩
  rw [hW3] at G3 ⊢
  clear hW3 q4 f4
  have k4 := blk_cell G3.out.box (i := 7) rfl
  go_wp2_with fail
  go_at_call 137
  refine (HC4.out _ G3.out.below).mono ?_
  rintro e V4 ⟨⟨B4, e4, rfl, hS1⟩, hb⟩
  have H4 : CO w V4 #[.int .i64 fq, .int .i64 iv_, .int .i64 ct, .int .i64 un, .slice B1 bm.length e1, .slice B2 bd.length e2, .slice B3 bw.length e3, .slice A4 bs.length c4, .int .i64 st] B1 B2 B3 B4 bm.length bd.length bw.length bs.length e1 e2 e3 e4 (iv bm) (iv bd) (sv bw) (iv bs) := { G3.out.up hb with s4 := ⟨hS1.sl, fun a h => Nat.le_trans G3.out.lt (hS1.up a h)⟩ }
  clear G3 k4 hb hS1
  have q4 := blk_cell H4.box (i := 7) rfl
  have f4 := blk_free H4.box
  have G4 : Hid (CO w (V4.setCell ⟨w.heap.size, 7, none⟩ (.slice B4 bs.length e4)) #[.int .i64 fq, .int .i64 iv_, .int .i64 ct, .int .i64 un, .slice B1 bm.length e1, .slice B2 bd.length e2, .slice B3 bw.length e3, .slice B4 bs.length e4, .int .i64 st] B1 B2 B3 B4 bm.length bd.length bw.length bs.length e1 e2 e3 e4 (iv bm) (iv bd) (sv bw) (iv bs)) := H4.set 7 (.slice B4 bs.length e4)
  clear H4
  go_upto_region 5 with fail
  obtain ⟨W4, hW4⟩ : ∃ W, V4.setCell ⟨w.heap.size, 7, none⟩ (.slice B4 bs.length e4) = W := ⟨_, rfl⟩
  rw [hW4] at G4 ⊢
  clear hW4 q4 f4
  go_wp2_with fail
  go_at_call 139
  refine (HD.out _).mono ?_
  rintro e V5 ⟨rfl, hb⟩
  go_upto_region 6 with fail
  obtain ⟨W5, hW5⟩ : ∃ W, V5.alloc (.cells #[.int .i64 y, .int .i64 m, .int .i64 d] 107) = W := ⟨_, rfl⟩
  have G5 : Hid (CO w W5 #[.int .i64 fq, .int .i64 iv_, .int .i64 ct, .int .i64 un, .slice B1 bm.length e1, .slice B2 bd.length e2, .slice B3 bw.length e3, .slice B4 bs.length e4, .int .i64 st] B1 B2 B3 B4 bm.length bd.length bw.length bs.length e1 e2 e3 e4 (iv bm) (iv bd) (sv bw) (iv bs)) := G4.out.up (by rw [← hW5]; exact hb.alloc hb.size _)
  have D5 : Hid (W5.heap[V5.heap.size]? = some (.cells #[.int .i64 y, .int .i64 m, .int .i64 d] 107 (0, 0))) := by show _ = _; rw [← hW5, heap_alloc_new]
  have hV5 : Hid (w.heap.size + 2 ≤ V5.heap.size) := Nat.le_trans G4.out.lt hb.size
  rw [hW5]
  clear hW5 hb G4 HC1 HC2 HC3 HC4
  have b0 := blk_cell G5.out.box (i := 0) rfl
  have b4 := blk_cell G5.out.box (i := 4) rfl
  have b5 := blk_cell G5.out.box (i := 5) rfl
  have b6 := blk_cell G5.out.box (i := 6) rfl
  have b7 := blk_cell G5.out.box (i := 7) rfl
  have b8 := blk_cell G5.out.box (i := 8) rfl
  have b1 := blk_cell G5.out.box (i := 1) rfl
  have b2 := blk_cell G5.out.box (i := 2) rfl
  have b3 := blk_cell G5.out.box (i := 3) rfl
  have f0 := blk_free G5.out.box
  have t0 := blk_cell D5.out (i := 0) rfl
  have t1 := blk_cell D5.out (i := 1) rfl
  have t2 := blk_cell D5.out (i := 2) rfl
  have r0 := blk_cell G5.out.res (i := 0) rfl
  have r1 := blk_cell G5.out.res (i := 1) rfl
  have r2 := blk_cell G5.out.res (i := 2) rfl
  have r3 := blk_cell G5.out.res (i := 3) rfl
  have r4 := blk_cell G5.out.res (i := 4) rfl
  have r5 := blk_cell G5.out.res (i := 5) rfl
  have r6 := blk_cell G5.out.res (i := 6) rfl
  have r7 := blk_cell G5.out.res (i := 7) rfl
  have r8 := blk_cell G5.out.res (i := 8) rfl
  have r9 := blk_cell G5.out.res (i := 9) rfl
  have g0 := blk_free G5.out.res
  have fA : ∀ (o : Obj) (i : Nat), (W5.alloc o).frozen? ⟨w.heap.size, i, none⟩ = false := fun o i => blk_free ((heap_alloc_old _ _ (heap_lt' G5.out.box)).trans G5.out.box) i
  have bA5 : ∀ o : Obj, (W5.alloc o).cell? ⟨w.heap.size, 5, none⟩ = some (.slice B2 bd.length e2) := fun o => blk_cell ((heap_alloc_old _ _ (heap_lt' G5.out.box)).trans G5.out.box) rfl
  have bA6 : ∀ o : Obj, (W5.alloc o).cell? ⟨w.heap.size, 6, none⟩ = some (.slice B3 bw.length e3) := fun o => blk_cell ((heap_alloc_old _ _ (heap_lt' G5.out.box)).trans G5.out.box) rfl
  have ways : ((fq = 1 ∨ (fq = 2 ∧ 0 < bw.length)) ∨ ((fq = 3 ∨ fq = 4) ∧ (0 < bd.length ∨ (bd.length = 0 ∧ 0 < bw.length)))) ∨ (fq = 2 ∧ bw.length = 0) ∨ ((fq = 3 ∧ bd.length = 0 ∧ bw.length = 0) ∨ (fq = 4 ∧ bd.length = 0 ∧ bw.length = 0 ∧ 0 < bm.length)) ∨ (fq = 4 ∧ bd.length = 0 ∧ bw.length = 0 ∧ bm.length = 0) := by omega
  have en : ∀ {α : Type} {l : List α}, l.length = 0 → l = [] := fun h => List.eq_nil_of_length_eq_zero h
  have en2 : ∀ {α : Type} {l : List α}, 0 < l.length → l ≠ [] := fun h e => by rw [e] at h; simp at h
  rcases ways with w1 | w2 | w3 | w4
  · -- as it is
    have E : Hid (q = ⟨fq, iv_, ct, un, bm, bd, bw, bs, st⟩) := by
      show _ = _
      rw [HCR.out]
      have n1 : ¬ (fq = 2 ∧ bw = []) := fun h => by
        rcases w1 with (h1 | ⟨_, h1⟩) | ⟨h1, _⟩
        · omega
        · exact en2 h1 h.2
        · omega
      have n2 : ¬ ((fq = 3 ∨ fq = 4) ∧ bd = [] ∧ bw = []) := fun h => by
        rcases w1 with (h1 | ⟨h1, _⟩) | ⟨_, h1 | ⟨_, h1⟩⟩
        · omega
        · omega
        · exact en2 h1 h.2.1
        · exact en2 h1 h.2.2
      rw [if_neg n1, if_neg n2]
    clear HCR en en2 HWD HD
    rcases w1 with (h1 | ⟨h1, h3⟩) | ⟨h1 | h1, h2 | ⟨h2, h3⟩⟩
    all_goals
      try (have z2 : ((bd.length : Int) == 0) = false := beq_false_of_ne (by omega))
      try (have z2 : ((bd.length : Int) == 0) = true := beq_iff_eq.2 (by omega))
      try (have z3 : ((bw.length : Int) == 0) = false := beq_false_of_ne (by omega))
      try (have y2 : (fq == 2) = false := beq_false_of_ne (by omega))
      try (have y2 : (fq == 2) = true := beq_iff_eq.2 (by omega))
      try (have y3 : (fq == 3) = false := beq_false_of_ne (by omega))
      try (have y3 : (fq == 3) = true := beq_iff_eq.2 (by omega))
      try (have y4 : (fq == 4) = false := beq_false_of_ne (by omega))
      try (have y4 : (fq == 4) = true := beq_iff_eq.2 (by omega))
      clear h1
      try clear h2
      try clear h3
      go_upto_region 13 with fail
      go_wp2_with fail
      have h10 := chain10_blk G5.out.res (.int .i64 fq) (.int .i64 iv_) (.int .i64 ct) (.int .i64 un) (.slice B1 bm.length e1) (.slice B2 bd.length e2) (.slice B3 bw.length e3) (.slice B4 bs.length e4) (.int .i64 st) (.int .i64 sn)
      have z0 := blk_cell h10 (i := 0) (v := (.int .i64 fq)) rfl
      have z1 := blk_cell h10 (i := 1) (v := (.int .i64 iv_)) rfl
      have z2 := blk_cell h10 (i := 2) (v := (.int .i64 ct)) rfl
      have z3 := blk_cell h10 (i := 3) (v := (.int .i64 un)) rfl
      have z4 := blk_cell h10 (i := 4) (v := (.slice B1 bm.length e1)) rfl
      have z5 := blk_cell h10 (i := 5) (v := (.slice B2 bd.length e2)) rfl
      have z6 := blk_cell h10 (i := 6) (v := (.slice B3 bw.length e3)) rfl
      have z7 := blk_cell h10 (i := 7) (v := (.slice B4 bs.length e4)) rfl
      have z8 := blk_cell h10 (i := 8) (v := (.int .i64 st)) rfl
      have z9 := blk_cell h10 (i := 9) (v := (.int .i64 sn)) rfl
      unfold chain10 at z0 z1 z2 z3 z4 z5 z6 z7 z8 z9
      have hE := E.out
      subst hE
      refine bodyPost_ret (v := .agg #[.int .i64 fq, .int .i64 iv_, .int .i64 ct, .int .i64 un, .slice B1 bm.length e1, .slice B2 bd.length e2, .slice B3 bw.length e3, .slice B4 bs.length e4, .int .i64 st, .int .i64 sn]) (by simp [results, Tryz.results114, go_sem, z0, z1, z2, z3, z4, z5, z6, z7, z8, z9]) rfl ?_
      have hbl := chain10_below (b := w.heap.size + 1) G5.out.below (by omega) (.int .i64 fq) (.int .i64 iv_) (.int .i64 ct) (.int .i64 un) (.slice B1 bm.length e1) (.slice B2 bd.length e2) (.slice B3 bw.length e3) (.slice B4 bs.length e4) (.int .i64 st) (.int .i64 sn)
      have t1 := G5.out.s1.chain10 (b := w.heap.size + 1) (by omega) (.int .i64 fq) (.int .i64 iv_) (.int .i64 ct) (.int .i64 un) (.slice B1 bm.length e1) (.slice B2 bd.length e2) (.slice B3 bw.length e3) (.slice B4 bs.length e4) (.int .i64 st) (.int .i64 sn)
      have t2 := G5.out.s2.chain10 (b := w.heap.size + 1) (by omega) (.int .i64 fq) (.int .i64 iv_) (.int .i64 ct) (.int .i64 un) (.slice B1 bm.length e1) (.slice B2 bd.length e2) (.slice B3 bw.length e3) (.slice B4 bs.length e4) (.int .i64 st) (.int .i64 sn)
      have t3 := G5.out.s3.chain10 (b := w.heap.size + 1) (by omega) (.int .i64 fq) (.int .i64 iv_) (.int .i64 ct) (.int .i64 un) (.slice B1 bm.length e1) (.slice B2 bd.length e2) (.slice B3 bw.length e3) (.slice B4 bs.length e4) (.int .i64 st) (.int .i64 sn)
      have t4 := G5.out.s4.chain10 (b := w.heap.size + 1) (by omega) (.int .i64 fq) (.int .i64 iv_) (.int .i64 ct) (.int .i64 un) (.slice B1 bm.length e1) (.slice B2 bd.length e2) (.slice B3 bw.length e3) (.slice B4 bs.length e4) (.int .i64 st) (.int .i64 sn)
      unfold chain10 at hbl t1 t2 t3 t4
      exact ⟨B1, B2, B3, B4, e1, e2, e3, e4, rfl, ⟨t1, t2, t3, t4⟩, hbl⟩
  · -- weeks without weekdays
    obtain ⟨h1, h3⟩ := w2
    obtain rfl := en h3
    have E : Hid (q = ⟨fq, iv_, ct, un, bm, bd, [(0, (sn : Int) % 7)], bs, st⟩) := by
      show _ = _
      rw [HCR.out, if_pos ⟨h1, rfl⟩]
    try (have y2 : (fq == 2) = false := beq_false_of_ne (by omega))
    try (have y2 : (fq == 2) = true := beq_iff_eq.2 (by omega))
    try (have y3 : (fq == 3) = false := beq_false_of_ne (by omega))
    try (have y3 : (fq == 3) = true := beq_iff_eq.2 (by omega))
    try (have y4 : (fq == 4) = false := beq_false_of_ne (by omega))
    try (have y4 : (fq == 4) = true := beq_iff_eq.2 (by omega))
    clear HCR en en2 HD h1 h3
    generalize (sn : Int) % 7 = k7 at *
    go_upto_region 8 with fail
    go_upto_region 13 with (go_at_call 140; (with_reducible refine (HWD.out _).mono ?_); rintro e w' ⟨rfl, rfl⟩)
    obtain ⟨W6, hW6⟩ : ∃ W, (W5.alloc (.cells #[.int .i64 0, .int .i64 k7] 79)).setCell ⟨w.heap.size, 6, none⟩ (.slice (some ⟨W5.heap.size, 0, none⟩) 1 1) = W := ⟨_, rfl⟩
    have G6 : Hid (CO w W6 #[.int .i64 fq, .int .i64 iv_, .int .i64 ct, .int .i64 un, .slice B1 bm.length e1, .slice B2 bd.length e2, .slice (some ⟨W5.heap.size, 0, none⟩) 1 1, .slice B4 bs.length e4, .int .i64 st] B1 B2 (some ⟨W5.heap.size, 0, none⟩) B4 bm.length bd.length 1 bs.length e1 e2 1 e4 (iv bm) (iv bd) (sv [(0, k7)]) (iv bs)) := by
      show CO _ _ _ _ _ _ _ _ _ _ _ _ _ _ _ _ _ _ _
      rw [← hW6]
      have h := G5.out.up ((Below.refl _ W5).alloc (Nat.le_refl _) (.cells #[.int .i64 0, .int .i64 k7] 79))
      have h2 : CO w _ _ B1 B2 (some ⟨W5.heap.size, 0, none⟩) B4 bm.length bd.length 1 bs.length e1 e2 1 e4 (iv bm) (iv bd) (sv [(0, k7)]) (iv bs) := { h with s3 := Sb.new W5 (w.heap.size + 2) G5.out.lt [.int .i64 0, .int .i64 k7] 1 79 (by decide) }
      exact h2.set 6 (.slice (some ⟨W5.heap.size, 0, none⟩) 1 1)
    rw [hW6]
    clear hW6 G5 fA bA5 bA6 b0 b1 b2 b3 b4 b5 b6 b7 b8 f0 r0 r1 r2 r3 r4 r5 r6 r7 r8 r9 g0
    have b0 := blk_cell G6.out.box (i := 0) rfl
    have b1 := blk_cell G6.out.box (i := 1) rfl
    have b2 := blk_cell G6.out.box (i := 2) rfl
    have b3 := blk_cell G6.out.box (i := 3) rfl
    have b4 := blk_cell G6.out.box (i := 4) rfl
    have b5 := blk_cell G6.out.box (i := 5) rfl
    have b6 := blk_cell G6.out.box (i := 6) rfl
    have b7 := blk_cell G6.out.box (i := 7) rfl
    have b8 := blk_cell G6.out.box (i := 8) rfl
    have f0 := blk_free G6.out.box
    have r0 := blk_cell G6.out.res (i := 0) rfl
    have r1 := blk_cell G6.out.res (i := 1) rfl
    have r2 := blk_cell G6.out.res (i := 2) rfl
    have r3 := blk_cell G6.out.res (i := 3) rfl
    have r4 := blk_cell G6.out.res (i := 4) rfl
    have r5 := blk_cell G6.out.res (i := 5) rfl
    have r6 := blk_cell G6.out.res (i := 6) rfl
    have r7 := blk_cell G6.out.res (i := 7) rfl
    have r8 := blk_cell G6.out.res (i := 8) rfl
    have r9 := blk_cell G6.out.res (i := 9) rfl
    have g0 := blk_free G6.out.res
    go_wp2_with fail
    have h10 := chain10_blk G6.out.res (.int .i64 fq) (.int .i64 iv_) (.int .i64 ct) (.int .i64 un) (.slice B1 bm.length e1) (.slice B2 bd.length e2) (.slice (some ⟨W5.heap.size, 0, none⟩) 1 1) (.slice B4 bs.length e4) (.int .i64 st) (.int .i64 sn)
    have z0 := blk_cell h10 (i := 0) (v := (.int .i64 fq)) rfl
    have z1 := blk_cell h10 (i := 1) (v := (.int .i64 iv_)) rfl
    have z2 := blk_cell h10 (i := 2) (v := (.int .i64 ct)) rfl
    have z3 := blk_cell h10 (i := 3) (v := (.int .i64 un)) rfl
    have z4 := blk_cell h10 (i := 4) (v := (.slice B1 bm.length e1)) rfl
    have z5 := blk_cell h10 (i := 5) (v := (.slice B2 bd.length e2)) rfl
    have z6 := blk_cell h10 (i := 6) (v := (.slice (some ⟨W5.heap.size, 0, none⟩) 1 1)) rfl
    have z7 := blk_cell h10 (i := 7) (v := (.slice B4 bs.length e4)) rfl
    have z8 := blk_cell h10 (i := 8) (v := (.int .i64 st)) rfl
    have z9 := blk_cell h10 (i := 9) (v := (.int .i64 sn)) rfl
    unfold chain10 at z0 z1 z2 z3 z4 z5 z6 z7 z8 z9
    have hE := E.out
    subst hE
    refine bodyPost_ret (v := .agg #[.int .i64 fq, .int .i64 iv_, .int .i64 ct, .int .i64 un, .slice B1 bm.length e1, .slice B2 bd.length e2, .slice (some ⟨W5.heap.size, 0, none⟩) 1 1, .slice B4 bs.length e4, .int .i64 st, .int .i64 sn]) (by simp [results, Tryz.results114, go_sem, z0, z1, z2, z3, z4, z5, z6, z7, z8, z9]) rfl ?_
    have hbl := chain10_below (b := w.heap.size + 1) G6.out.below (by omega) (.int .i64 fq) (.int .i64 iv_) (.int .i64 ct) (.int .i64 un) (.slice B1 bm.length e1) (.slice B2 bd.length e2) (.slice (some ⟨W5.heap.size, 0, none⟩) 1 1) (.slice B4 bs.length e4) (.int .i64 st) (.int .i64 sn)
    have t1 := G6.out.s1.chain10 (b := w.heap.size + 1) (by omega) (.int .i64 fq) (.int .i64 iv_) (.int .i64 ct) (.int .i64 un) (.slice B1 bm.length e1) (.slice B2 bd.length e2) (.slice (some ⟨W5.heap.size, 0, none⟩) 1 1) (.slice B4 bs.length e4) (.int .i64 st) (.int .i64 sn)
    have t2 := G6.out.s2.chain10 (b := w.heap.size + 1) (by omega) (.int .i64 fq) (.int .i64 iv_) (.int .i64 ct) (.int .i64 un) (.slice B1 bm.length e1) (.slice B2 bd.length e2) (.slice (some ⟨W5.heap.size, 0, none⟩) 1 1) (.slice B4 bs.length e4) (.int .i64 st) (.int .i64 sn)
    have t3 := G6.out.s3.chain10 (b := w.heap.size + 1) (by omega) (.int .i64 fq) (.int .i64 iv_) (.int .i64 ct) (.int .i64 un) (.slice B1 bm.length e1) (.slice B2 bd.length e2) (.slice (some ⟨W5.heap.size, 0, none⟩) 1 1) (.slice B4 bs.length e4) (.int .i64 st) (.int .i64 sn)
    have t4 := G6.out.s4.chain10 (b := w.heap.size + 1) (by omega) (.int .i64 fq) (.int .i64 iv_) (.int .i64 ct) (.int .i64 un) (.slice B1 bm.length e1) (.slice B2 bd.length e2) (.slice (some ⟨W5.heap.size, 0, none⟩) 1 1) (.slice B4 bs.length e4) (.int .i64 st) (.int .i64 sn)
    unfold chain10 at hbl t1 t2 t3 t4
    exact ⟨B1, B2, some ⟨W5.heap.size, 0, none⟩, B4, e1, e2, 1, e4, rfl, ⟨t1, t2, t3, t4⟩, hbl⟩
  · -- months, or years with months, without days
    have E : Hid (q = ⟨fq, iv_, ct, un, bm, [d], bw, bs, st⟩) := by
      show _ = _
      have n1 : ¬ (fq = 2 ∧ bw = []) := fun h => by omega
      have n2 : (fq = 3 ∨ fq = 4) ∧ bd = [] ∧ bw = [] := ⟨by omega, en (by omega), en (by omega)⟩
      have n3 : ¬ (fq = 4 ∧ bm = []) := fun h => by
        rcases w3 with h1 | h1
        · omega
        · exact en2 h1.2.2.2 h.2
      rw [HCR.out, if_neg n1, if_pos n2, if_neg n3]
    clear HCR en en2 HWD HD
    rcases w3 with ⟨h1, h2, h3⟩ | ⟨h1, h2, h3, h4⟩
    all_goals
      have z2 : ((bd.length : Int) == 0) = true := beq_iff_eq.2 (by omega)
      have z3 : ((bw.length : Int) == 0) = true := beq_iff_eq.2 (by omega)
      try (have z1 : ((bm.length : Int) == 0) = false := beq_false_of_ne (by omega))
      try (have y2 : (fq == 2) = false := beq_false_of_ne (by omega))
      try (have y2 : (fq == 2) = true := beq_iff_eq.2 (by omega))
      try (have y3 : (fq == 3) = false := beq_false_of_ne (by omega))
      try (have y3 : (fq == 3) = true := beq_iff_eq.2 (by omega))
      try (have y4 : (fq == 4) = false := beq_false_of_ne (by omega))
      try (have y4 : (fq == 4) = true := beq_iff_eq.2 (by omega))
      try clear h4
      clear h1 h2 h3
      go_upto_region 11 with fail
      obtain ⟨W6, hW6⟩ : ∃ W, (W5.alloc (.cells #[.int .i64 d] 3)).setCell ⟨w.heap.size, 5, none⟩ (.slice (some ⟨W5.heap.size, 0, none⟩) 1 1) = W := ⟨_, rfl⟩
      have G6 : Hid (CO w W6 #[.int .i64 fq, .int .i64 iv_, .int .i64 ct, .int .i64 un, .slice B1 bm.length e1, .slice (some ⟨W5.heap.size, 0, none⟩) 1 1, .slice B3 bw.length e3, .slice B4 bs.length e4, .int .i64 st] B1 (some ⟨W5.heap.size, 0, none⟩) B3 B4 bm.length 1 bw.length bs.length e1 1 e3 e4 (iv bm) (iv [d]) (sv bw) (iv bs)) := by
        show CO _ _ _ _ _ _ _ _ _ _ _ _ _ _ _ _ _ _ _
        rw [← hW6]
        have h := G5.out.up ((Below.refl _ W5).alloc (Nat.le_refl _) (.cells #[.int .i64 d] 3))
        have h2 : CO w _ _ B1 (some ⟨W5.heap.size, 0, none⟩) B3 B4 bm.length 1 bw.length bs.length e1 1 e3 e4 (iv bm) (iv [d]) (sv bw) (iv bs) := { h with s2 := Sb.new W5 (w.heap.size + 2) G5.out.lt [.int .i64 d] 1 3 (by decide) }
        exact h2.set 5 (.slice (some ⟨W5.heap.size, 0, none⟩) 1 1)
      have D6 : W6.heap[V5.heap.size]? = some (.cells #[.int .i64 y, .int .i64 m, .int .i64 d] 107 (0, 0)) := by
        rw [← hW6, Below.heap_setCell _ _ _ _ (by have := hV5.out; simp; omega), heap_alloc_old _ _ (heap_lt' D5.out)]; exact D5.out
      rw [hW6]
      clear t0 t1 t2
      have t0 := blk_cell D6 (i := 0) rfl
      have t1 := blk_cell D6 (i := 1) rfl
      have t2 := blk_cell D6 (i := 2) rfl
      clear D6
      clear hW6 G5 fA bA5 bA6 b0 b1 b2 b3 b4 b5 b6 b7 b8 f0 r0 r1 r2 r3 r4 r5 r6 r7 r8 r9 g0
      have b0 := blk_cell G6.out.box (i := 0) rfl
      have b1 := blk_cell G6.out.box (i := 1) rfl
      have b2 := blk_cell G6.out.box (i := 2) rfl
      have b3 := blk_cell G6.out.box (i := 3) rfl
      have b4 := blk_cell G6.out.box (i := 4) rfl
      have b5 := blk_cell G6.out.box (i := 5) rfl
      have b6 := blk_cell G6.out.box (i := 6) rfl
      have b7 := blk_cell G6.out.box (i := 7) rfl
      have b8 := blk_cell G6.out.box (i := 8) rfl
      have f0 := blk_free G6.out.box
      have r0 := blk_cell G6.out.res (i := 0) rfl
      have r1 := blk_cell G6.out.res (i := 1) rfl
      have r2 := blk_cell G6.out.res (i := 2) rfl
      have r3 := blk_cell G6.out.res (i := 3) rfl
      have r4 := blk_cell G6.out.res (i := 4) rfl
      have r5 := blk_cell G6.out.res (i := 5) rfl
      have r6 := blk_cell G6.out.res (i := 6) rfl
      have r7 := blk_cell G6.out.res (i := 7) rfl
      have r8 := blk_cell G6.out.res (i := 8) rfl
      have r9 := blk_cell G6.out.res (i := 9) rfl
      have g0 := blk_free G6.out.res
      go_upto_region 13 with fail
      go_wp2_with fail
      have h10 := chain10_blk G6.out.res (.int .i64 fq) (.int .i64 iv_) (.int .i64 ct) (.int .i64 un) (.slice B1 bm.length e1) (.slice (some ⟨W5.heap.size, 0, none⟩) 1 1) (.slice B3 bw.length e3) (.slice B4 bs.length e4) (.int .i64 st) (.int .i64 sn)
      have z0 := blk_cell h10 (i := 0) (v := (.int .i64 fq)) rfl
      have z1 := blk_cell h10 (i := 1) (v := (.int .i64 iv_)) rfl
      have z2 := blk_cell h10 (i := 2) (v := (.int .i64 ct)) rfl
      have z3 := blk_cell h10 (i := 3) (v := (.int .i64 un)) rfl
      have z4 := blk_cell h10 (i := 4) (v := (.slice B1 bm.length e1)) rfl
      have z5 := blk_cell h10 (i := 5) (v := (.slice (some ⟨W5.heap.size, 0, none⟩) 1 1)) rfl
      have z6 := blk_cell h10 (i := 6) (v := (.slice B3 bw.length e3)) rfl
      have z7 := blk_cell h10 (i := 7) (v := (.slice B4 bs.length e4)) rfl
      have z8 := blk_cell h10 (i := 8) (v := (.int .i64 st)) rfl
      have z9 := blk_cell h10 (i := 9) (v := (.int .i64 sn)) rfl
      unfold chain10 at z0 z1 z2 z3 z4 z5 z6 z7 z8 z9
      have hE := E.out
      subst hE
      refine bodyPost_ret (v := .agg #[.int .i64 fq, .int .i64 iv_, .int .i64 ct, .int .i64 un, .slice B1 bm.length e1, .slice (some ⟨W5.heap.size, 0, none⟩) 1 1, .slice B3 bw.length e3, .slice B4 bs.length e4, .int .i64 st, .int .i64 sn]) (by simp [results, Tryz.results114, go_sem, z0, z1, z2, z3, z4, z5, z6, z7, z8, z9]) rfl ?_
      have hbl := chain10_below (b := w.heap.size + 1) G6.out.below (by omega) (.int .i64 fq) (.int .i64 iv_) (.int .i64 ct) (.int .i64 un) (.slice B1 bm.length e1) (.slice (some ⟨W5.heap.size, 0, none⟩) 1 1) (.slice B3 bw.length e3) (.slice B4 bs.length e4) (.int .i64 st) (.int .i64 sn)
      have t1 := G6.out.s1.chain10 (b := w.heap.size + 1) (by omega) (.int .i64 fq) (.int .i64 iv_) (.int .i64 ct) (.int .i64 un) (.slice B1 bm.length e1) (.slice (some ⟨W5.heap.size, 0, none⟩) 1 1) (.slice B3 bw.length e3) (.slice B4 bs.length e4) (.int .i64 st) (.int .i64 sn)
      have t2 := G6.out.s2.chain10 (b := w.heap.size + 1) (by omega) (.int .i64 fq) (.int .i64 iv_) (.int .i64 ct) (.int .i64 un) (.slice B1 bm.length e1) (.slice (some ⟨W5.heap.size, 0, none⟩) 1 1) (.slice B3 bw.length e3) (.slice B4 bs.length e4) (.int .i64 st) (.int .i64 sn)
      have t3 := G6.out.s3.chain10 (b := w.heap.size + 1) (by omega) (.int .i64 fq) (.int .i64 iv_) (.int .i64 ct) (.int .i64 un) (.slice B1 bm.length e1) (.slice (some ⟨W5.heap.size, 0, none⟩) 1 1) (.slice B3 bw.length e3) (.slice B4 bs.length e4) (.int .i64 st) (.int .i64 sn)
      have t4 := G6.out.s4.chain10 (b := w.heap.size + 1) (by omega) (.int .i64 fq) (.int .i64 iv_) (.int .i64 ct) (.int .i64 un) (.slice B1 bm.length e1) (.slice (some ⟨W5.heap.size, 0, none⟩) 1 1) (.slice B3 bw.length e3) (.slice B4 bs.length e4) (.int .i64 st) (.int .i64 sn)
      unfold chain10 at hbl t1 t2 t3 t4
      exact ⟨B1, some ⟨W5.heap.size, 0, none⟩, B3, B4, e1, 1, e3, e4, rfl, ⟨t1, t2, t3, t4⟩, hbl⟩
  · -- years alone
    obtain ⟨h0, h2, h3, h1⟩ := w4
    obtain rfl := en h1
    have E : Hid (q = ⟨fq, iv_, ct, un, [m], [d], bw, bs, st⟩) := by
      show _ = _
      rw [HCR.out, if_neg (fun h => by omega), if_pos ⟨.inr h0, en h2, en h3⟩, if_pos ⟨h0, rfl⟩]
    have z2 : ((bd.length : Int) == 0) = true := beq_iff_eq.2 (by omega)
    have z3 : ((bw.length : Int) == 0) = true := beq_iff_eq.2 (by omega)
    try (have y2 : (fq == 2) = false := beq_false_of_ne (by omega))
    try (have y2 : (fq == 2) = true := beq_iff_eq.2 (by omega))
    try (have y3 : (fq == 3) = false := beq_false_of_ne (by omega))
    try (have y3 : (fq == 3) = true := beq_iff_eq.2 (by omega))
    try (have y4 : (fq == 4) = false := beq_false_of_ne (by omega))
    try (have y4 : (fq == 4) = true := beq_iff_eq.2 (by omega))
    clear HCR en en2 HWD HD h0 h1 h2 h3
    go_upto_region 11 with fail
    obtain ⟨W6, hW6⟩ : ∃ W, (W5.alloc (.cells #[.int .i64 d] 3)).setCell ⟨w.heap.size, 5, none⟩ (.slice (some ⟨W5.heap.size, 0, none⟩) 1 1) = W := ⟨_, rfl⟩
    have G6 : Hid (CO w W6 #[.int .i64 fq, .int .i64 iv_, .int .i64 ct, .int .i64 un, .slice B1 0 e1, .slice (some ⟨W5.heap.size, 0, none⟩) 1 1, .slice B3 bw.length e3, .slice B4 bs.length e4, .int .i64 st] B1 (some ⟨W5.heap.size, 0, none⟩) B3 B4 0 1 bw.length bs.length e1 1 e3 e4 (iv []) (iv [d]) (sv bw) (iv bs)) := by
      show CO _ _ _ _ _ _ _ _ _ _ _ _ _ _ _ _ _ _ _
      rw [← hW6]
      have h := G5.out.up ((Below.refl _ W5).alloc (Nat.le_refl _) (.cells #[.int .i64 d] 3))
      have h2 : CO w _ _ B1 (some ⟨W5.heap.size, 0, none⟩) B3 B4 0 1 bw.length bs.length e1 1 e3 e4 (iv []) (iv [d]) (sv bw) (iv bs) := { h with s2 := Sb.new W5 (w.heap.size + 2) G5.out.lt [.int .i64 d] 1 3 (by decide) }
      exact h2.set 5 (.slice (some ⟨W5.heap.size, 0, none⟩) 1 1)
    have D6 : W6.heap[V5.heap.size]? = some (.cells #[.int .i64 y, .int .i64 m, .int .i64 d] 107 (0, 0)) := by
      rw [← hW6, Below.heap_setCell _ _ _ _ (by have := hV5.out; simp; omega), heap_alloc_old _ _ (heap_lt' D5.out)]; exact D5.out
    rw [hW6]
    clear t0 t1 t2
    have t0 := blk_cell D6 (i := 0) rfl
    have t1 := blk_cell D6 (i := 1) rfl
    have t2 := blk_cell D6 (i := 2) rfl
    clear D6
    clear hW6 G5 fA bA5 bA6 b0 b1 b2 b3 b4 b5 b6 b7 b8 f0 r0 r1 r2 r3 r4 r5 r6 r7 r8 r9 g0
    have b0 := blk_cell G6.out.box (i := 0) rfl
    have b1 := blk_cell G6.out.box (i := 1) rfl
    have b2 := blk_cell G6.out.box (i := 2) rfl
    have b3 := blk_cell G6.out.box (i := 3) rfl
    have b4 := blk_cell G6.out.box (i := 4) rfl
    have b5 := blk_cell G6.out.box (i := 5) rfl
    have b6 := blk_cell G6.out.box (i := 6) rfl
    have b7 := blk_cell G6.out.box (i := 7) rfl
    have b8 := blk_cell G6.out.box (i := 8) rfl
    have f0 := blk_free G6.out.box
    have r0 := blk_cell G6.out.res (i := 0) rfl
    have r1 := blk_cell G6.out.res (i := 1) rfl
    have r2 := blk_cell G6.out.res (i := 2) rfl
    have r3 := blk_cell G6.out.res (i := 3) rfl
    have r4 := blk_cell G6.out.res (i := 4) rfl
    have r5 := blk_cell G6.out.res (i := 5) rfl
    have r6 := blk_cell G6.out.res (i := 6) rfl
    have r7 := blk_cell G6.out.res (i := 7) rfl
    have r8 := blk_cell G6.out.res (i := 8) rfl
    have r9 := blk_cell G6.out.res (i := 9) rfl
    have g0 := blk_free G6.out.res
    have fA : ∀ (o : Obj) (i : Nat), (W6.alloc o).frozen? ⟨w.heap.size, i, none⟩ = false := fun o i => blk_free ((heap_alloc_old _ _ (heap_lt' G6.out.box)).trans G6.out.box) i
    have bA4 : ∀ o : Obj, (W6.alloc o).cell? ⟨w.heap.size, 4, none⟩ = some (.slice B1 0 e1) := fun o => blk_cell ((heap_alloc_old _ _ (heap_lt' G6.out.box)).trans G6.out.box) rfl
    go_upto_region 13 with fail
    obtain ⟨W7, hW7⟩ : ∃ W, (W6.alloc (.cells #[.int .i64 m] 3)).setCell ⟨w.heap.size, 4, none⟩ (.slice (some ⟨W6.heap.size, 0, none⟩) 1 1) = W := ⟨_, rfl⟩
    have G7 : Hid (CO w W7 #[.int .i64 fq, .int .i64 iv_, .int .i64 ct, .int .i64 un, .slice (some ⟨W6.heap.size, 0, none⟩) 1 1, .slice (some ⟨W5.heap.size, 0, none⟩) 1 1, .slice B3 bw.length e3, .slice B4 bs.length e4, .int .i64 st] (some ⟨W6.heap.size, 0, none⟩) (some ⟨W5.heap.size, 0, none⟩) B3 B4 1 1 bw.length bs.length 1 1 e3 e4 (iv [m]) (iv [d]) (sv bw) (iv bs)) := by
      show CO _ _ _ _ _ _ _ _ _ _ _ _ _ _ _ _ _ _ _
      rw [← hW7]
      have h := G6.out.up ((Below.refl _ W6).alloc (Nat.le_refl _) (.cells #[.int .i64 m] 3))
      have h2 : CO w _ _ (some ⟨W6.heap.size, 0, none⟩) (some ⟨W5.heap.size, 0, none⟩) B3 B4 1 1 bw.length bs.length 1 1 e3 e4 (iv [m]) (iv [d]) (sv bw) (iv bs) := { h with s1 := Sb.new W6 (w.heap.size + 2) G6.out.lt [.int .i64 m] 1 3 (by decide) }
      exact h2.set 4 (.slice (some ⟨W6.heap.size, 0, none⟩) 1 1)
    rw [hW7]
    clear hW7 G6 fA bA4 b0 b1 b2 b3 b4 b5 b6 b7 b8 f0 r0 r1 r2 r3 r4 r5 r6 r7 r8 r9 g0
    have b0 := blk_cell G7.out.box (i := 0) rfl
    have b1 := blk_cell G7.out.box (i := 1) rfl
    have b2 := blk_cell G7.out.box (i := 2) rfl
    have b3 := blk_cell G7.out.box (i := 3) rfl
    have b4 := blk_cell G7.out.box (i := 4) rfl
    have b5 := blk_cell G7.out.box (i := 5) rfl
    have b6 := blk_cell G7.out.box (i := 6) rfl
    have b7 := blk_cell G7.out.box (i := 7) rfl
    have b8 := blk_cell G7.out.box (i := 8) rfl
    have f0 := blk_free G7.out.box
    have r0 := blk_cell G7.out.res (i := 0) rfl
    have r1 := blk_cell G7.out.res (i := 1) rfl
    have r2 := blk_cell G7.out.res (i := 2) rfl
    have r3 := blk_cell G7.out.res (i := 3) rfl
    have r4 := blk_cell G7.out.res (i := 4) rfl
    have r5 := blk_cell G7.out.res (i := 5) rfl
    have r6 := blk_cell G7.out.res (i := 6) rfl
    have r7 := blk_cell G7.out.res (i := 7) rfl
    have r8 := blk_cell G7.out.res (i := 8) rfl
    have r9 := blk_cell G7.out.res (i := 9) rfl
    have g0 := blk_free G7.out.res
    go_wp2_with fail
    have h10 := chain10_blk G7.out.res (.int .i64 fq) (.int .i64 iv_) (.int .i64 ct) (.int .i64 un) (.slice (some ⟨W6.heap.size, 0, none⟩) 1 1) (.slice (some ⟨W5.heap.size, 0, none⟩) 1 1) (.slice B3 bw.length e3) (.slice B4 bs.length e4) (.int .i64 st) (.int .i64 sn)
    have z0 := blk_cell h10 (i := 0) (v := (.int .i64 fq)) rfl
    have z1 := blk_cell h10 (i := 1) (v := (.int .i64 iv_)) rfl
    have z2 := blk_cell h10 (i := 2) (v := (.int .i64 ct)) rfl
    have z3 := blk_cell h10 (i := 3) (v := (.int .i64 un)) rfl
    have z4 := blk_cell h10 (i := 4) (v := (.slice (some ⟨W6.heap.size, 0, none⟩) 1 1)) rfl
    have z5 := blk_cell h10 (i := 5) (v := (.slice (some ⟨W5.heap.size, 0, none⟩) 1 1)) rfl
    have z6 := blk_cell h10 (i := 6) (v := (.slice B3 bw.length e3)) rfl
    have z7 := blk_cell h10 (i := 7) (v := (.slice B4 bs.length e4)) rfl
    have z8 := blk_cell h10 (i := 8) (v := (.int .i64 st)) rfl
    have z9 := blk_cell h10 (i := 9) (v := (.int .i64 sn)) rfl
    unfold chain10 at z0 z1 z2 z3 z4 z5 z6 z7 z8 z9
    have hE := E.out
    subst hE
    refine bodyPost_ret (v := .agg #[.int .i64 fq, .int .i64 iv_, .int .i64 ct, .int .i64 un, .slice (some ⟨W6.heap.size, 0, none⟩) 1 1, .slice (some ⟨W5.heap.size, 0, none⟩) 1 1, .slice B3 bw.length e3, .slice B4 bs.length e4, .int .i64 st, .int .i64 sn]) (by simp [results, Tryz.results114, go_sem, z0, z1, z2, z3, z4, z5, z6, z7, z8, z9]) rfl ?_
    have hbl := chain10_below (b := w.heap.size + 1) G7.out.below (by omega) (.int .i64 fq) (.int .i64 iv_) (.int .i64 ct) (.int .i64 un) (.slice (some ⟨W6.heap.size, 0, none⟩) 1 1) (.slice (some ⟨W5.heap.size, 0, none⟩) 1 1) (.slice B3 bw.length e3) (.slice B4 bs.length e4) (.int .i64 st) (.int .i64 sn)
    have t1 := G7.out.s1.chain10 (b := w.heap.size + 1) (by omega) (.int .i64 fq) (.int .i64 iv_) (.int .i64 ct) (.int .i64 un) (.slice (some ⟨W6.heap.size, 0, none⟩) 1 1) (.slice (some ⟨W5.heap.size, 0, none⟩) 1 1) (.slice B3 bw.length e3) (.slice B4 bs.length e4) (.int .i64 st) (.int .i64 sn)
    have t2 := G7.out.s2.chain10 (b := w.heap.size + 1) (by omega) (.int .i64 fq) (.int .i64 iv_) (.int .i64 ct) (.int .i64 un) (.slice (some ⟨W6.heap.size, 0, none⟩) 1 1) (.slice (some ⟨W5.heap.size, 0, none⟩) 1 1) (.slice B3 bw.length e3) (.slice B4 bs.length e4) (.int .i64 st) (.int .i64 sn)
    have t3 := G7.out.s3.chain10 (b := w.heap.size + 1) (by omega) (.int .i64 fq) (.int .i64 iv_) (.int .i64 ct) (.int .i64 un) (.slice (some ⟨W6.heap.size, 0, none⟩) 1 1) (.slice (some ⟨W5.heap.size, 0, none⟩) 1 1) (.slice B3 bw.length e3) (.slice B4 bs.length e4) (.int .i64 st) (.int .i64 sn)
    have t4 := G7.out.s4.chain10 (b := w.heap.size + 1) (by omega) (.int .i64 fq) (.int .i64 iv_) (.int .i64 ct) (.int .i64 un) (.slice (some ⟨W6.heap.size, 0, none⟩) 1 1) (.slice (some ⟨W5.heap.size, 0, none⟩) 1 1) (.slice B3 bw.length e3) (.slice B4 bs.length e4) (.int .i64 st) (.int .i64 sn)
    unfold chain10 at hbl t1 t2 t3 t4
    exact ⟨some ⟨W6.heap.size, 0, none⟩, some ⟨W5.heap.size, 0, none⟩, B3, B4, 1, 1, e3, e4, rfl, ⟨t1, t2, t3, t4⟩, hbl⟩
end
end Go.Proofs.YtfjmofefciopmaaGreat
end
