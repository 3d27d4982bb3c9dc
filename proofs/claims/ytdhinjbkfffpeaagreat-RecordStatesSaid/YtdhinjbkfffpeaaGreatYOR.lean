import Derived.Test.YtdhinjbkfffpeaaGreatYOP
import Derived.Test.YtdhinjbkfffpeaaGreatYOQ
import Derived.Test.YtdhinjbkfffpeaaGreatYOO
/- Contracts of the program's records: states there and back. -/
section
namespace Go.Proofs.YtdhinjbkfffpeaaGreat
open Go.ChangeShapes Go.WideShapes Go.ChangeAt Go.RowKit Go.Joins Sp Fr Pk
theorem sum_most {α : Type} {f : α → Nat} {C : Nat} : ∀ l : List α, (∀ x ∈ l, f x ≤ C) → (l.map f).sum ≤ l.length * C
 | [], _ => by simp
 | x :: r, h => by
  have h1 := h x (by simp)
  have h2 := sum_most r fun y hy => h y (by simp [hy])
  simp only [List.map_cons, List.sum_cons, List.length_cons, Nat.succ_mul]
  omega
theorem row_most {α : Type} {c : Cd α} {most C : Nat} (l : List α) (h : ∀ x ∈ l, c.cost x ≤ C) : (cdRow c most).cost l ≤ 10 + l.length * C := Nat.add_le_add_left (sum_most l h) 10
theorem ev_cost (e : Evt) (h : ¬ greatE16 e) : cdEv.cost e ≤ 15160 := by
 unfold greatE16 at h
 have g0 : cdEv.cost e = 10 + (10 + (10 + (10 + (cdRu.cost e.rule + ((cdRow cdSig 50).cost e.ex + ((cdRow cdSig 50).cost e.plus + (cdRow cdCh 50).cost e.ch)))))) := rfl
 have g1 : (cdRow cdSig 50).cost e.ex = 10 + e.ex.length * 10 := row_cost rfl _
 have g2 : (cdRow cdSig 50).cost e.plus = 10 + e.plus.length * 10 := row_cost rfl _
 have g3 : (cdRow cdCh 50).cost e.ch = 10 + e.ch.length * 30 := row_cost rfl _
 have g4 : cdRu.cost e.rule = 10 + (10 + (10 + (10 + ((cdRow (cdZ (-400) 400) 400).cost e.rule.bm + ((cdRow (cdZ (-400) 400) 400).cost e.rule.bd + ((cdRow cdBy 400).cost e.rule.bw + ((cdRow (cdZ (-400) 400) 400).cost e.rule.bs + 10))))))) := rfl
 have g5 : (cdRow (cdZ (-400) 400) 400).cost e.rule.bm = 10 + e.rule.bm.length * 10 := row_cost rfl _
 have g6 : (cdRow (cdZ (-400) 400) 400).cost e.rule.bd = 10 + e.rule.bd.length * 10 := row_cost rfl _
 have g7 : (cdRow cdBy 400).cost e.rule.bw = 10 + e.rule.bw.length * 20 := row_cost rfl _
 have g8 : (cdRow (cdZ (-400) 400) 400).cost e.rule.bs = 10 + e.rule.bs.length * 10 := row_cost rfl _
 omega
theorem us_cost (u : Us) (h : ¬ greatU16 u) : cdUs.cost u ≤ 155690 := by
 unfold greatU16 at h
 have hs : ¬ greatS16 u.settings := fun k => h (.inl k)
 unfold greatS16 at hs
 have hn : u.events.length ≤ 10 := by have := fun k => h (.inr (.inl k)); omega
 have e0 : cdUs.cost u = 10 + (cdStg.cost u.settings + (10 + (cdRow cdEn 64).cost u.events)) := rfl
 have e1 : cdStg.cost u.settings = 10 + ((cdRow cdTu 700).cost u.settings.turns + ((cdRow cdSh 10).cost u.settings.shifts + ((cdRow (cdInt 109937) 60).cost u.settings.off + (10 + 10)))) := rfl
 have e2 : (cdRow cdTu 700).cost u.settings.turns = 10 + u.settings.turns.length * 20 := row_cost rfl _
 have e3 : (cdRow cdSh 10).cost u.settings.shifts = 10 + u.settings.shifts.length * 30 := row_cost rfl _
 have e4 : (cdRow (cdInt 109937) 60).cost u.settings.off = 10 + u.settings.off.length * 10 := row_cost rfl _
 have e5 := row_most (c := cdEn) (most := 64) (C := 15170) u.events fun x hx => by
  have := ev_cost x.2 fun k => h (.inr (.inr ⟨x, hx, k⟩))
  show 10 + cdEv.cost x.2 ≤ _
  omega
 have m1 : u.events.length * 15170 ≤ 10 * 15170 := Nat.mul_le_mul_right _ hn
 omega
theorem pl_cost (o : Pl) (h : ¬ greatP16 o) : cdPl.cost o ≤ 10660 := by
 unfold greatP16 greatQ16 at h
 have e2 : cdPl.cost o = 10 + (10 + (cdQy.cost o.query + ((cdRow cdSig 40).cost o.slots + ((cdRow cdVo 4096).cost o.votes + (10 + (10 + 10)))))) := rfl
 have e3 : cdQy.cost o.query = 10 + (10 + (10 + (10 + ((cdRow (cdNum 4294967295) 64).cost o.query.must + ((cdRow cdWt 16).cost o.query.may + (10 + ((cdRow cdAp 32).cost o.query.apart + (cdRow cdSh 8).cost o.query.prefer))))))) := rfl
 have e4 : (cdRow cdSig 40).cost o.slots = 10 + o.slots.length * 10 := row_cost rfl _
 have e5 : (cdRow cdVo 4096).cost o.votes = 10 + o.votes.length * 20 := row_cost rfl _
 have e6 : (cdRow (cdNum 4294967295) 64).cost o.query.must = 10 + o.query.must.length * 10 := row_cost rfl _
 have e7 : (cdRow cdWt 16).cost o.query.may = 10 + o.query.may.length * 20 := row_cost rfl _
 have e8 : (cdRow cdAp 32).cost o.query.apart = 10 + o.query.apart.length * 20 := row_cost rfl _
 have e9 : (cdRow cdSh 8).cost o.query.prefer = 10 + o.query.prefer.length * 30 := row_cost rfl _
 omega
set_option maxRecDepth 100000 in
set_option maxHeartbeats 4000000 in
theorem Sta_info (r : Sta) (p : StaP) : (Tryz.prog.info? 73).map (·.size) = some (staCells r p).toArray.size := by kernel_rfl
theorem Sta_info2 (r : Sta) (p : StaP) : (Tryz.prog.info? 73).map (·.size) = some (staCells r p).length := by kernel_rfl
theorem Sta_one (r : Sta) (p : StaP) : (staCells r p).toArray.all (·.oneCell') = true := by simp [staCells, Value.oneCell']
theorem Sta_rfits : (noSta).Fits := by
 exact ⟨⟨by decide, by decide⟩, fun x h => (by cases h), fun x h => (by cases h), fun x h => (by cases h)⟩
set_option maxRecDepth 100000 in
set_option maxHeartbeats 4000000 in
theorem pgetSta_any (w : World) (A : Option Addr) (d : Nat) (l : List UInt8) (hl : l.length ≤ 2000000) (hs : Sl w A l.length d (bl l)) :
  Calls Tryz.prog 55 #[.slice A l.length d, .int .i64 1048576, .func (.func 46) #[] #[]] w (Got (fun (r : Sta) (q : StaP) => .agg (staCells r q).toArray) StaAt cdSta (noSta) 1048576 l w) := by
 obtain ⟨W1, hW1⟩ : ∃ W1, ((w.alloc (.cells #[.int .i64 0, .slice none 0 0, .slice none 0 0, .slice none 0 0] 73)).alloc (.cells #[.int .i64 0, .slice none 0 0, .slice none 0 0, .slice none 0 0] 73)) = W1 := ⟨_, rfl⟩
 have HB : Hid (Below w.heap.size w W1) := by show Below _ _ _; rw [← hW1]; exact ((Below.refl _ _).alloc (Nat.le_refl _) _).alloc (by simp) _
 have hb0 : W1.heap[w.heap.size]? = some (.cells #[.int .i64 0, .slice none 0 0, .slice none 0 0, .slice none 0 0] 73 (0, 0)) := by rw [← hW1, heap_alloc_old _ _ (by simp), heap_alloc_new]
 have hb1 : W1.heap[w.heap.size + 1]? = some (.cells #[.int .i64 0, .slice none 0 0, .slice none 0 0, .slice none 0 0] 73 (0, 0)) := by rw [← hW1]; exact heap_alloc_new2 _ _ _
 have hsz : w.heap.size + 1 < W1.heap.size := heap_lt hb1
 have E1 := Lib.hid hW1
 clear hW1
 by_cases hml : l.length ≤ 1048576
 rotate_left
 ·have hmz : (1048576 : Int) < l.length := by omega
  have HB1 := Lib.hid hb1
  have HB0 := Lib.hid hb0
  clear hb0 hb1
  go_enter Tryz.func55, Tryz.ntmps55
  go_upto_region 2 with fail
  rw [E1.out]
  go_wp2_with (first
   | (refine wpList_load (v := .agg #[.int .i64 0, .slice none 0 0, .slice none 0 0, .slice none 0 0]) rfl rfl (load_blk (vs := [.int .i64 0, .slice none 0 0, .slice none 0 0, .slice none 0 0]) HB1.out (fun j v hj => by simpa using hj) rfl (by kernel_rfl)) ?_; simp only [Act.put])
   | (refine wpList_store_mid rfl 73 (.tmp 6) (.tmp 15) rfl w.heap.size 0 #[.int .i64 0, .slice none 0 0, .slice none 0 0, .slice none 0 0] rfl rfl (blk_there HB0.out (by simp)) (by kernel_rfl) (by simp [Value.oneCell']) ?_))
  have hset := setCells_blk (b := w.heap.size) [.int .i64 0, .slice none 0 0, .slice none 0 0, .slice none 0 0] 0 _ _ HB0.out
  rw [setAll_all (by rfl)] at hset
  have HSE := Lib.hid hset
  clear hset
  refine bodyPost_ret (results_cell_row_tmp rfl _ _ w.heap.size 73 #[.int .i64 0, .slice none 0 0, .slice none 0 0, .slice none 0 0] (0, 0) _ rfl HSE.out Tryz.underlying73 rfl (by kernel_rfl)) rfl ?_
  exact ⟨false, noSta, noStaP, rfl, fun V _ => noSta_at V, below_setCells (Nat.le_refl _) _ _ _ HB.out, fun h => (by cases h), fun _ => ⟨rfl, fun h => absurd h hml⟩⟩
 have hmz : ¬ (1048576 : Int) < l.length := by omega
 have HN := Lib.hid (rd_new A d l hs.le hs.cap hs.nil (by omega) W1 (hs.below HB.out (Nat.le_refl _)).bat)
 have HB0 := Lib.hid hb0
 have HB1x := Lib.hid hb1
 clear hb0 hb1
 go_enter Tryz.func55, Tryz.ntmps55
 go_upto_region 2 with fail
 rw [E1.out]
 go_wp2_with fail
 go_at_call 75
 refine HN.out.mono ?_
 rintro e w2 ⟨D, G, rfl, hR, hb, hG⟩
 have hsz2 := hb.size
 have HP := Lib.hid (reader_pass hR)
 have hbA : Below W1.heap.size W1 (w2.alloc (.cells #[.pointer none, .pointer (some ⟨D, 0, none⟩), .bool false] 126)) := hb.trans ((Below.refl _ _).alloc hsz2 _)
 obtain ⟨w3, hw3⟩ : ∃ w3, w2.alloc (.cells #[.pointer none, .pointer (some ⟨D, 0, none⟩), .bool false] 126) = w3 := ⟨_, rfl⟩
 have HW3 := Lib.hid hw3
 rw [hw3] at HP hbA
 have HB1 := Lib.hid (blk_below HB1x.out hbA)
 have HB03 := Lib.hid (blk_below HB0.out hbA)
 have HBA := Lib.hid hbA
 obtain ⟨P, hP⟩ : ∃ P, w2.heap.size = P := ⟨_, rfl⟩
 have hPw : W1.heap.size ≤ P := by omega
 have hw3s : w3.heap.size = P + 1 := by rw [← hw3]; simp [hP]
 have HC := Lib.hid (fun (F : Nat → Prop) (hp : PsAt w3 P (.rd (some l)) false F) => pstate_any P (noSta) noStaP Sta_rfits (.rd (some l)) false F w3 hp trivial (fun _ => rfl) (fun V _ => noSta_at V))
 have HF : Hid (∀ k, (G k ∨ k = P) → W1.heap.size ≤ k) := fun k hk => hk.elim (hG k) fun e => by omega
 have HPP : Hid (w2.heap.size = P) := hP
 rw [hP] at HP
 clear hw3 hbA hR hb hG HN HB1x HB0 hP
 go_upto_region 5 with fail
 rw [HW3.out]
 go_wp2_with (refine wpList_load (v := .agg #[.int .i64 0, .slice none 0 0, .slice none 0 0, .slice none 0 0]) rfl rfl (load_blk (vs := [.int .i64 0, .slice none 0 0, .slice none 0 0, .slice none 0 0]) HB1.out (fun j v hj => by simpa using hj) rfl (by kernel_rfl)) ?_; simp only [Act.put])
 rw [HPP.out]
 go_at_call 46
 refine (HC.out _ HP.out).mono ?_
 rintro e w4 ⟨y, q, m', b', F', rfl, hT, hO, hD⟩
 obtain ⟨r', rfl, hr1, hr2⟩ := hD
 obtain ⟨D2, G2, q1, q2, q3⟩ := hT.at_.ok
 have hnB : ∀ B, B < W1.heap.size → ¬ (G B ∨ B = P) := fun B hB hk => by have := HF.out B hk; omega
 have hbB : Below W1.heap.size W1 w4 := HBA.out.trans (hT.off.toBelow HBA.out.size HF.out)
 have HBW := Lib.hid (HB.out.trans (hbB.mono HB.out.size))
 obtain ⟨w5, hw5⟩ : ∃ w5, w4.alloc (.cells (staCells y q).toArray 73) = w5 := ⟨_, rfl⟩
 have h45 : Below w4.heap.size w4 w5 := by rw [← hw5]; exact (Below.refl _ _).alloc (Nat.le_refl _) _
 have HB0 := Lib.hid (blk_below (hT.off.heap HB03.out (hnB _ (by omega))) h45)
 have HB1n := Lib.hid (blk_below (hT.off.heap HB1.out (hnB _ hsz)) h45)
 have HY : Hid (w5.heap[w4.heap.size]? = some (.cells (staCells y q).toArray 73 (0, 0))) := by show _ = _; rw [← hw5]; exact heap_alloc_new _ _
 have q1' := blk_below q1 h45
 have c1 := blk_cell (i := 1) q1' rfl
 have c2 := blk_cell (i := 2) q1' rfl
 have HEn := Lib.hid (rd_end D2 r' G2 w5 (q2.below h45))
 have HOW := Lib.hid (hO.below h45)
 have HR1 := Lib.hid hr1
 have HR2 := Lib.hid hr2
 have HW5 := Lib.hid hw5
 have HB5 := Lib.hid (HBW.out.trans (h45.mono HBW.out.size))
 have hs5 := h45.size
 have hs4 : w3.heap.size ≤ w4.heap.size := hT.off.size
 clear HB1 HB03 HC HP q1 q2 q3 q1' hT hO h45 hw5 hbB hr1 hr2
 have HB1 := Lib.hid HB1n.out
 clear HB1n
 have hend : ∀ (v : Sta) (vp : StaP) (ok : Bool), (∀ V, Off (fun k => k < w.heap.size) (w5.setCells w.heap.size 0 (staCells v vp)) V → StaAt V v vp) → (ok = true → l.length ≤ 1048576 ∧ cdSta.rd (some l) = (v, some [])) → (ok = false → v = noSta ∧ (l.length ≤ 1048576 → (cdSta.rd (some l)).2 ≠ some [])) → Got (fun (r : Sta) (q : StaP) => .agg (staCells r q).toArray) StaAt cdSta (noSta) 1048576 l w (.returned (.tuple #[.agg (staCells v vp).toArray, .bool ok])) (w5.setCells w.heap.size 0 (staCells v vp)) := fun v vp ok h1 h2 h3 =>
  ⟨ok, v, vp, rfl, h1, below_setCells (Nat.le_refl _) _ _ _ HB5.out, h2, h3⟩
 have HEND := Lib.hid hend
 clear hend
 obtain ⟨bq, hbq⟩ : ∃ bq, decide (r' = some []) = bq := ⟨_, rfl⟩
 rw [hbq] at HEn
 have HBQ := Lib.hid hbq
 clear hbq
 go_upto_region 6 with (refine wpList_store_new (t := 73) (c' := (staCells y q).toArray) rfl rfl rfl rfl (Sta_info _ _) rfl (Sta_one _ _) ?_; simp only [Act.put])
 rw [HW5.out]
 have hno : ∀ (t : Prop), (Rho r' b' = some [] → False) → (cdSta.rd (some l)).2 ≠ some [] := fun _ h e => h (HR1.out.trans e)
 have HNO := Lib.hid hno
 clear hno
 cases b' with
 | true =>
  go_wp2_with (first
   | (refine wpList_load (v := .agg #[.int .i64 0, .slice none 0 0, .slice none 0 0, .slice none 0 0]) rfl rfl (load_blk (vs := [.int .i64 0, .slice none 0 0, .slice none 0 0, .slice none 0 0]) HB1.out (fun j v hj => by simpa using hj) rfl (by kernel_rfl)) ?_; simp only [Act.put])
   | (refine wpList_store_mid rfl 73 (.tmp 6) (.tmp 36) rfl w.heap.size 0 #[.int .i64 0, .slice none 0 0, .slice none 0 0, .slice none 0 0] rfl rfl (blk_there HB0.out (by simp)) (by kernel_rfl) (by simp [Value.oneCell']) ?_))
  have hset := setCells_blk (b := w.heap.size) [.int .i64 0, .slice none 0 0, .slice none 0 0, .slice none 0 0] 0 _ _ HB0.out
  rw [setAll_all (by rfl)] at hset
  have HSE := Lib.hid hset
  clear hset
  refine bodyPost_ret (results_cell_row_tmp rfl _ _ w.heap.size 73 #[.int .i64 0, .slice none 0 0, .slice none 0 0, .slice none 0 0] (0, 0) _ rfl HSE.out Tryz.underlying73 rfl (by kernel_rfl)) rfl ?_
  exact HEND.out (noSta) noStaP false (fun V _ => noSta_at V) (fun h => by cases h) (fun _ => ⟨rfl, fun _ => HNO.out True (fun h => by cases (rho_some.1 h).1)⟩)
 | false =>
  go_wp2_with fail
  go_at_call 76
  refine HEn.out.mono ?_
  rintro e w6 ⟨rfl, rfl⟩
  cases bq with
  | false =>
   go_wp2_with (first
    | (refine wpList_load (v := .agg #[.int .i64 0, .slice none 0 0, .slice none 0 0, .slice none 0 0]) rfl rfl (load_blk (vs := [.int .i64 0, .slice none 0 0, .slice none 0 0, .slice none 0 0]) HB1.out (fun j v hj => by simpa using hj) rfl (by kernel_rfl)) ?_; simp only [Act.put])
    | (refine wpList_store_mid rfl 73 (.tmp 6) (.tmp 36) rfl w.heap.size 0 #[.int .i64 0, .slice none 0 0, .slice none 0 0, .slice none 0 0] rfl rfl (blk_there HB0.out (by simp)) (by kernel_rfl) (by simp [Value.oneCell']) ?_))
   have hset := setCells_blk (b := w.heap.size) [.int .i64 0, .slice none 0 0, .slice none 0 0, .slice none 0 0] 0 _ _ HB0.out
   rw [setAll_all (by rfl)] at hset
   have HSE := Lib.hid hset
   clear hset
   refine bodyPost_ret (results_cell_row_tmp rfl _ _ w.heap.size 73 #[.int .i64 0, .slice none 0 0, .slice none 0 0, .slice none 0 0] (0, 0) _ rfl HSE.out Tryz.underlying73 rfl (by kernel_rfl)) rfl ?_
   exact HEND.out (noSta) noStaP false (fun V _ => noSta_at V) (fun h => by cases h) (fun _ => ⟨rfl, fun _ => HNO.out True (fun h => by have := (rho_some.1 h).2; have h2 := HBQ.out; simp [this] at h2)⟩)
  | true =>
   go_wp2_with (first
    | (refine wpList_load (v := .agg (staCells y q).toArray) rfl rfl (load_blk (vs := staCells y q) HY.out (fun j v hj => by simpa using hj) rfl (Sta_info2 _ _)) ?_; simp only [Act.put])
    | (refine wpList_store_mid rfl 73 (.tmp 6) (.tmp 37) rfl w.heap.size 0 (staCells y q).toArray rfl rfl (blk_there HB0.out (by simp [staCells])) (Sta_info _ _) (Sta_one _ _) ?_))
   have hset := setCells_blk (b := w.heap.size) (staCells y q) 0 _ _ HB0.out
   rw [setAll_all (by rfl)] at hset
   have HSE := Lib.hid hset
   clear hset
   refine bodyPost_ret (results_cell_row_tmp rfl _ _ w.heap.size 73 (staCells y q).toArray (0, 0) _ rfl HSE.out Tryz.underlying73 rfl (Sta_info _ _)) rfl ?_
   have hre : r' = some [] := of_decide_eq_true HBQ.out
   have hrh : Rho r' false = some [] := by rw [hre]; rfl
   refine HEND.out y q true (fun V hV => (HOW.out.store (R := w.heap.size) (by omega) 0 (staCells y q)) V (hV.mono fun k _ hk => .inr (by omega))) (fun _ => ⟨hml, ?_⟩) (fun h => by cases h)
   have e1 := HR1.out
   have e2 := HR2.out (by rw [hrh]; simp)
   rw [hrh] at e1
   have e3 : Rho (some l) false = some l := rfl
   rw [e3] at e1 e2
   rw [e2]
   exact Prod.ext rfl e1.symm
set_option maxRecDepth 100000 in
set_option maxHeartbeats 4000000 in
theorem Sta_cost (r : Sta) (h : ¬ greatSt16 r) : cdSta.cost r ≤ 2000000 := by
 unfold greatSt16 at h
 have hu : r.users.length ≤ 12 := by have := fun k => h (.inl k); omega
 have ho : r.polls.length ≤ 8 := by have := fun k => h (.inr (.inl k)); omega
 have hd : r.done.length ≤ 100 := by have := fun k => h (.inr (.inr (.inl k))); omega
 have e0 : cdSta.cost r = 10 + ((cdRow cdUs 100).cost r.users + ((cdRow cdPl 50).cost r.polls + (cdRow cdDo 4096).cost r.done)) := rfl
 have e1 := row_most (c := cdUs) (most := 100) r.users fun u hu => us_cost u fun k => h (.inr (.inr (.inr (.inl ⟨u, hu, k⟩))))
 have e2 := row_most (c := cdPl) (most := 50) r.polls fun o ho => pl_cost o fun k => h (.inr (.inr (.inr (.inr ⟨o, ho, k⟩))))
 have e3 : (cdRow cdDo 4096).cost r.done = 10 + r.done.length * 30 := row_cost rfl _
 have m1 : r.users.length * 155690 ≤ 12 * 155690 := Nat.mul_le_mul_right _ hu
 have m2 : r.polls.length * 10660 ≤ 8 * 10660 := Nat.mul_le_mul_right _ ho
 omega
set_option maxRecDepth 100000 in
set_option maxHeartbeats 4000000 in
theorem pputSta_any (w : World) (r : Sta) (p : StaP) (hf : r.Fits) (hg : ¬ greatSt16 r) (hp : StaAt w r p) :
  Calls Tryz.prog 45 #[.agg (staCells r p).toArray, .int .i64 1048576, .func (.func 46) #[] #[], .func (.func 19) #[] #[]] w (PutRet r.text w) := by
 have hcost := Sta_cost r hg
 have HTX := Lib.hid (fun l => sta_text hf l)
 obtain ⟨W1, hW1⟩ : ∃ W1, w.alloc (.cells (staCells r p).toArray 73) = W1 := ⟨_, rfl⟩
 have HB : Hid (Below w.heap.size w W1) := by show Below _ _ _; rw [← hW1]; exact (Below.refl _ _).alloc (Nat.le_refl _) _
 have hb0 : W1.heap[w.heap.size]? = some (.cells (staCells r p).toArray 73 (0, 0)) := by rw [← hW1]; exact heap_alloc_new _ _
 have hsz : w.heap.size < W1.heap.size := heap_lt hb0
 have E1 := Lib.hid hW1
 have HN := Lib.hid (wr_new W1)
 have HX := Lib.hid hb0
 have HPx := Lib.hid hp
 have HF0 := Lib.hid hf
 clear hW1 hb0 hp hf
 go_enter Tryz.func45, Tryz.ntmps45
 go_upto_region 1 with fail
 rw [E1.out]
 go_wp2_with fail
 go_at_call 58
 refine HN.out.mono ?_
 rintro e w2 ⟨D, G, rfl, hR, hb, hG⟩
 have hsz2 := hb.size
 have HP := Lib.hid (writer_pass hR)
 have hbA : Below W1.heap.size W1 (w2.alloc (.cells #[.pointer (some ⟨D, 0, none⟩), .pointer none, .bool false] 126)) := hb.trans ((Below.refl _ _).alloc hsz2 _)
 obtain ⟨w3, hw3⟩ : ∃ w3, w2.alloc (.cells #[.pointer (some ⟨D, 0, none⟩), .pointer none, .bool false] 126) = w3 := ⟨_, rfl⟩
 have HW3 := Lib.hid hw3
 rw [hw3] at HP hbA
 have HX3 := Lib.hid (blk_below HX.out hbA)
 have HBA := Lib.hid hbA
 obtain ⟨P, hP⟩ : ∃ P, w2.heap.size = P := ⟨_, rfl⟩
 have hPw : W1.heap.size ≤ P := by omega
 have hw3s : w3.heap.size = P + 1 := by rw [← hw3]; simp [hP]
 have HF : Hid (∀ k, (G k ∨ k = P) → W1.heap.size ≤ k) := fun k hk => hk.elim (hG k) fun e => by omega
 have hB3 : Below w.heap.size w w3 := HB.out.trans (hbA.mono HB.out.size)
 have HC := Lib.hid (fun (F : Nat → Prop) (hps : PsAt w3 P (.wr []) false F) (hF : ∀ k, F k → W1.heap.size ≤ k) => pstate_any P r p HF0.out (.wr []) false F w3 hps (by show ([] : List UInt8).length + _ ≤ 100000000; simp; omega) (fun h => h.elim) (fun V hV => HPx.out.below (hB3.trans (hV.toBelow hB3.size fun k hk => by have := hF k hk; omega))))
 have HPP : Hid (w2.heap.size = P) := hP
 rw [hP] at HP
 clear hw3 hbA hR hb hG HN hP
 go_upto_region 2 with fail
 rw [HW3.out]
 go_wp2_with (refine wpList_load (v := .agg (staCells r p).toArray) rfl rfl (load_blk (vs := staCells r p) HX3.out (fun j v hj => by simpa using hj) rfl (Sta_info2 _ _)) ?_; simp only [Act.put])
 rw [HPP.out]
 go_at_call 46
 refine (HC.out _ HP.out HF.out).mono ?_
 rintro e w4 ⟨y, q, m', b', F', rfl, hT, hO, hD⟩
 obtain ⟨t, rfl, ht, ho⟩ := hD
 obtain ⟨D2, G2, q1, q2, q3⟩ := hT.at_.ok
 have hnB : ¬ (G w.heap.size ∨ w.heap.size = P) := fun hk => by have := HF.out _ hk; omega
 have hB4 : Below w.heap.size w w4 := hB3.trans (hT.off.toBelow hB3.size fun k hk => by have := HF.out k hk; omega)
 have HX4 := Lib.hid (hT.off.heap HX3.out hnB)
 have HB4 := Lib.hid hB4
 have c2 := blk_cell (i := 2) q1 rfl
 have c0 := blk_cell (i := 0) q1 rfl
 have hno : (b' = true → r.text = none) := fun h => by
  rcases hx : r.text with _ | l
  ·rfl
  ·have h1 := (HTX.out l).1 hx
   have h2 := (ho h1.1).2.2
   rw [h] at h2; cases h2
 have htl : t.length ≤ 2000000 := Nat.le_trans ht (Nat.le_trans hcost (by decide))
 have HWB := Lib.hid (wr_bytes_any D2 ([] ++ t) G2 (by show t.length ≤ _; omega) w4 q2)
 have HO := Lib.hid ho
 clear hB4 hB3 HX3 HC HP q1 q2 q3 hT hO ht ho hsz2 hnB hw3s
 cases b' with
 | true =>
  have HNo := Lib.hid (hno rfl)
  clear hno
  go_wp2_with fail
  go_ret2
  exact ⟨none, 0, [], by rw [HNo.out]; rfl, by rw [HNo.out]; rfl, Sl.none_ _, fun a h => (by cases h), HB4.out⟩
 | false =>
  clear hno
  go_wp2_with fail
  go_at_call 59
  refine HWB.out.mono ?_
  rintro e w5 ⟨v, rfl, hown, hb5⟩
  obtain ⟨A, dd, rfl, hsl⟩ := Sl.of_own hown
  have HA : Hid (∀ a, A = some a → w.heap.size ≤ a.block) := fun a ha => by subst ha; have := (hown.lt a.block rfl).1; have h2 := HB4.out.size; omega
  have hsl : Sl w5 A t.length dd (bl t) := hsl
  have HSl := Lib.hid hsl
  have HX5 := Lib.hid (blk_below HX4.out hb5)
  have HB5 := Lib.hid (HB4.out.trans (hb5.mono HB4.out.size))
  have HG := Lib.hid (pgetSta_any w5 A dd t htl hsl)
  clear hsl hown hb5 c0 c2
  go_wp2_with fail
  go_at_call 55
  refine HG.out.mono ?_
  rintro e w6 ⟨ok, r2, q2, rfl, hr2, hb6, hg1, hg2⟩
  have HX6 := Lib.hid (blk_below HX5.out hb6)
  have HB6 := Lib.hid (HB5.out.trans (hb6.mono HB5.out.size))
  have HS6 := Lib.hid (HSl.out.below hb6 (Nat.le_refl _))
  obtain ⟨w7, hw7⟩ : ∃ w7, w6.alloc (.cells (staCells r2 q2).toArray 73) = w7 := ⟨_, rfl⟩
  have h67 : Below w6.heap.size w6 w7 := by rw [← hw7]; exact (Below.refl _ _).alloc (Nat.le_refl _) _
  have HX7 := Lib.hid (blk_below HX6.out h67)
  have HR7 : Hid (w7.heap[w6.heap.size]? = some (.cells (staCells r2 q2).toArray 73 (0, 0))) := by show _ = _; rw [← hw7]; exact heap_alloc_new _ _
  have HB7 := Lib.hid (HB6.out.trans (h67.mono HB6.out.size))
  have HS7 := Lib.hid (HS6.out.below h67 (Nat.le_refl _))
  have HSM := Lib.hid (rSameStateP_any r2 r q2 p w7 (hr2 w7 (Off.of_below h67)) (HPx.out.below HB7.out))
  have HW7 := Lib.hid hw7
  have HG1 := Lib.hid hg1
  have HG2 := Lib.hid hg2
  clear hw7 h67 hr2 hb6 HX5 HB5 HX4 HG hg1 hg2 HSl HX6 HB6 HS6
  have hnone : ∀ (B : World), Below w.heap.size w B → (∀ l, r.text = some l → False) → PutRet r.text w (.returned (.tuple #[.slice none 0 0, .bool false])) B := fun B hB h => by
   have : r.text = none := by
    rcases hx : r.text with _ | l
    ·rfl
    ·exact (h l hx).elim
   exact ⟨none, 0, [], by rw [this]; rfl, by rw [this]; rfl, Sl.none_ _, fun a h => (by cases h), hB⟩
  have HNone := Lib.hid hnone
  have htx : ∀ l, r.text = some l → t.length ≤ 1048576 ∧ cdSta.rd (some t) = (r, some []) := fun l hx => by
   obtain ⟨h1, h2, h3⟩ := (HTX.out l).1 hx
   have h4 := (HO.out h1).1
   have h5 : t = r.T := h4
   have h6 := cod_sta.put r [] h1
   rw [List.append_nil, ← h5] at h6
   exact ⟨by rw [h5, ← h2]; exact h3, h6⟩
  have HTT := Lib.hid htx
  clear hnone htx
  cases ok with
  | false =>
   go_wp2_with (refine wpList_store_new (t := 73) (c' := (staCells r2 q2).toArray) rfl rfl rfl rfl (Sta_info _ _) rfl (Sta_one _ _) ?_; simp only [Act.put])
   go_ret2
   exact HNone.out _ (by rw [HW7.out]; exact HB7.out) fun l hx => (HG2.out (by first | rfl | trivial)).2 (HTT.out l hx).1 (by rw [(HTT.out l hx).2])
  | true =>
   go_upto_region 7 with (refine wpList_store_new (t := 73) (c' := (staCells r2 q2).toArray) rfl rfl rfl rfl (Sta_info _ _) rfl (Sta_one _ _) ?_; simp only [Act.put])
   rw [HW7.out]
   go_wp2_with (first
    | (refine wpList_load (v := .agg (staCells r2 q2).toArray) rfl rfl (load_blk (vs := staCells r2 q2) HR7.out (fun j v hj => by simpa using hj) rfl (Sta_info2 _ _)) ?_; simp only [Act.put])
    | (refine wpList_load (v := .agg (staCells r p).toArray) rfl rfl (load_blk (vs := staCells r p) HX7.out (fun j v hj => by simpa using hj) rfl (Sta_info2 _ _)) ?_; simp only [Act.put]))
   go_at_call 19
   refine HSM.out.mono ?_
   rintro e w8 ⟨sb, rfl, hsb, hb8⟩
   have HB8 := Lib.hid (HB7.out.trans (hb8.mono HB7.out.size))
   have HS8 := Lib.hid (HS7.out.below hb8 (Nat.le_refl _))
   have HSB := Lib.hid hsb
   clear hsb hb8
   cases sb with
   | false =>
    go_wp2_with fail
    go_ret2
    exact HNone.out _ HB8.out fun l hx => by
     have h1 := (HG1.out (by first | rfl | trivial)).2
     rw [(HTT.out l hx).2] at h1
     have h2 := HSB.out.2 (Prod.mk.inj h1).1.symm
     cases h2
   | true =>
    go_wp2_with fail
    go_ret2
    have hrr := HSB.out.1 (by first | rfl | trivial)
    subst hrr
    obtain ⟨h1, h2⟩ := HG1.out (by first | rfl | trivial)
    have h3 := cod_sta.get t [] (by have := congrArg Prod.snd h2; exact this)
    have h4 : (rdSta (some t)).1 = r2 := congrArg Prod.fst h2
    rw [h4, List.append_nil] at h3
    have hx : r2.text = some t := (HTX.out t).2 ⟨h3.2, h3.1, h1⟩
    exact ⟨A, dd, t, by rw [hx]; rfl, by rw [hx]; rfl, HS8.out, HA.out, HB8.out⟩
set_option maxRecDepth 100000 in
set_option maxHeartbeats 4000000 in
theorem pgetStaW_any (w : World) (A : Option Addr) (d : Nat) (l : List UInt8) (hl : l.length ≤ 2000000) (hs : Sl w A l.length d (bl l)) :
  Calls Tryz.prog 21 #[.slice A l.length d] w fun e w' => ∃ (ok : Bool) (r : Sta) (p : StaP), e = .returned (.tuple #[.agg (staCells r p).toArray, .bool ok]) ∧ StaAt w' r p ∧ Below w.heap.size w w' ∧ (ok = true → r.O ∧ l = r.T ∧ l.length ≤ 1048576) ∧ (ok = false → r = noSta ∧ ∀ s : Sta, s.O → l = s.T → ¬ l.length ≤ 1048576) := by
 obtain ⟨W1, hW1⟩ : ∃ W1, w.alloc (.cells #[.int .i64 0, .slice none 0 0, .slice none 0 0, .slice none 0 0] 73) = W1 := ⟨_, rfl⟩
 have hB : Below w.heap.size w W1 := by rw [← hW1]; exact (Below.refl _ _).alloc (Nat.le_refl _) _
 have hb0 : W1.heap[w.heap.size]? = some (.cells #[.int .i64 0, .slice none 0 0, .slice none 0 0, .slice none 0 0] 73 (0, 0)) := by rw [← hW1]; exact heap_alloc_new _ _
 have HC := Lib.hid (pgetSta_any W1 A d l hl (hs.below hB (Nat.le_refl _)))
 have HX := Lib.hid hb0
 have E1 := Lib.hid hW1
 have hsz : w.heap.size < W1.heap.size := heap_lt hb0
 have HB := Lib.hid hB
 clear hs hW1 hb0 hB
 go_enter Tryz.func21, Tryz.ntmps21
 go_upto_region 1 with fail
 rw [E1.out]
 go_wp2_with fail
 go_at_call 55
 refine HC.out.mono ?_
 rintro e w2 ⟨ok, r, q, rfl, hr, hb, h1, h2⟩
 have HX2 := Lib.hid (blk_below HX.out hb)
 have HB2 := Lib.hid (HB.out.trans (hb.mono HB.out.size))
 have hat := hr (w2.setCells w.heap.size 0 (staCells r q)) ((off_setCells _ _ _).mono fun k _ hk => by omega)
 have HAt := Lib.hid hat
 clear hr hb hat
 go_wp2_with (refine wpList_store_mid rfl 73 (.tmp 2) (.tmp 6) rfl w.heap.size 0 (staCells r q).toArray rfl rfl (blk_there HX2.out (by simp [staCells])) (Sta_info _ _) (Sta_one _ _) ?_)
 have hset := setCells_blk (b := w.heap.size) (staCells r q) 0 _ _ HX2.out
 rw [setAll_all (by rfl)] at hset
 have HSE := Lib.hid hset
 clear hset
 refine bodyPost_ret (results_cell_row_tmp rfl _ _ w.heap.size 73 (staCells r q).toArray (0, 0) _ rfl HSE.out Tryz.underlying73 rfl (Sta_info _ _)) rfl ?_
 refine ⟨ok, r, q, rfl, HAt.out, below_setCells (Nat.le_refl _) _ _ _ HB2.out, fun h => ?_, fun h => ⟨(h2 h).1, fun s hs hl hle => ?_⟩⟩
 ·obtain ⟨k1, k2⟩ := h1 h
  have k3 := cod_sta.get l [] (congrArg Prod.snd k2)
  have k4 : (rdSta (some l)).1 = r := congrArg Prod.fst k2
  rw [k4, List.append_nil] at k3
  exact ⟨k3.2, k3.1, k1⟩
 ·have k1 := cod_sta.put s [] hs
  rw [List.append_nil, ← hl] at k1
  exact (h2 h).2 hle (by show (rdSta (some l)).2 = some []; rw [k1])
set_option maxRecDepth 100000 in
set_option maxHeartbeats 4000000 in
theorem pputStaW_any (w : World) (r : Sta) (p : StaP) (hf : r.Fits) (hg : ¬ greatSt16 r) (hp : StaAt w r p) :
  Calls Tryz.prog 17 #[.agg (staCells r p).toArray] w (PutRet r.text w) := by
 obtain ⟨W1, hW1⟩ : ∃ W1, w.alloc (.cells (staCells r p).toArray 73) = W1 := ⟨_, rfl⟩
 have hB : Below w.heap.size w W1 := by rw [← hW1]; exact (Below.refl _ _).alloc (Nat.le_refl _) _
 have hb0 : W1.heap[w.heap.size]? = some (.cells (staCells r p).toArray 73 (0, 0)) := by rw [← hW1]; exact heap_alloc_new _ _
 have HC := Lib.hid (pputSta_any W1 r p hf hg (hp.below hB))
 have HX := Lib.hid hb0
 have E1 := Lib.hid hW1
 have HB := Lib.hid hB
 clear hp hW1 hb0 hB
 go_enter Tryz.func17, Tryz.ntmps17
 go_upto_region 1 with fail
 rw [E1.out]
 go_wp2_with (refine wpList_load (v := .agg (staCells r p).toArray) rfl rfl (load_blk (vs := staCells r p) HX.out (fun j v hj => by simpa using hj) rfl (Sta_info2 _ _)) ?_; simp only [Act.put])
 go_at_call 45
 refine HC.out.mono ?_
 rintro e w2 ⟨A, d, l, rfl, h1, h2, h3, h4⟩
 have H1 := Lib.hid h1
 clear h1
 go_wp2_with fail
 go_ret2
 exact ⟨A, d, l, rfl, H1.out, h2, fun a ha => Nat.le_trans HB.out.size (h3 a ha), HB.out.trans (h4.mono HB.out.size)⟩
end Go.Proofs.YtdhinjbkfffpeaaGreat
end
section
namespace Go.Proofs.YtdhinjbkfffpeaaGreat
open Go.ChangeShapes Go.WideShapes Go.ChangeAt Go.RowKit Go.Joins Sp Fr Pk
theorem recS : RecS := /- 21 -/ ⟨fun w s p hf hg hp => pputStaW_any w s p hf hg hp, fun w A d l hl hs => (pgetStaW_any w A d l hl hs).mono fun _ _ ⟨ok, r, p, h1, h2, h3, h4, h5⟩ => ⟨ok, r, p, h1, h2, h3, h4, fun h => (h5 h).2⟩, fun w r s p q _ _ _ _ hr hs => rSameStateP_any r s p q w hr hs⟩
end Go.Proofs.YtdhinjbkfffpeaaGreat
end
