import Derived.Test.YtdhinjbkfffpeaaGreatYOL
import Derived.Test.YtdhinjbkfffpeaaGreatYRQ3
import Derived.Laws.ResultCell
import Derived.Test.YtdhinjbkfffpeaaGreatYOM
import Derived.Test.YtdhinjbkfffpeaaGreatYRQ4
/- Contracts of the program's records: replies there and back. -/
section
namespace Go.Proofs.YtdhinjbkfffpeaaGreat
open Go.ChangeShapes Go.WideShapes Go.ChangeAt Go.RowKit Go.Joins Sp Fr Pk
theorem results_cell_row_tmp {P : Program} {fn : Func} {p u : Tmp} {ty : TypeId} (h : fn.results = #[.cell p ty, .tmp u]) (tmps : Array Value) (w : World) (g : Nat) (t : TypeId) (cs : Array Value) (fr : Nat × Nat) (d : TypeDesc)
  (hp : tmps.getD p undef = .pointer (some ⟨g, 0, none⟩)) (hg : w.heap[g]? = some (.cells cs t fr))
  (hu : P.underlying ty = some d) (hd : (match d with | .struct _ | .array _ _ => true | _ => false) = true) (hi : (P.info? ty).map (·.size) = some cs.size) :
  (results fn tmps).run P w = .ok (.tuple #[.agg cs, tmps.getD u undef]) w := by
 rw [results_cell_tmp h, hp]
 simp [asAddr, run_loadVar_row w g t ty cs fr d hg hu hd hi, Result.andThen]
def Got {α π : Type} (val : α → π → Value) (At : World → α → π → Prop) (c : Cd α) (z : α) (most : Nat) (l : List UInt8) (w : World) (e : Ending) (w' : World) : Prop :=
 ∃ (ok : Bool) (r : α) (q : π), e = .returned (.tuple #[val r q, .bool ok]) ∧ (∀ V, Off (fun k => k < w.heap.size) w' V → At V r q) ∧ Below w.heap.size w w' ∧ (ok = true → l.length ≤ most ∧ c.rd (some l) = (r, some [])) ∧ (ok = false → r = z ∧ (l.length ≤ most → (c.rd (some l)).2 ≠ some []))
theorem rho_some {r : Rd} {b : Bool} {l : List UInt8} : Rho r b = some l ↔ b = false ∧ r = some l := by
 unfold Rho
 cases b <;> simp
theorem reader_pass {w : World} {D : Nat} {l : List UInt8} {G : Nat → Prop} (h : RdAt w D (some l) G) :
  PsAt (w.alloc (.cells #[.pointer none, .pointer (some ⟨D, 0, none⟩), .bool false] 126)) w.heap.size (.rd (some l)) false (fun k => G k ∨ k = w.heap.size) :=
 ⟨⟨D, G, heap_alloc_new _ _, h.below ((Below.refl _ _).alloc (Nat.le_refl _) _), fun k hk => ⟨.inl hk, fun e => by have := h.lt k hk; omega⟩⟩, .inr rfl, fun k hk => by
  simp
  rcases hk with hk | hk
  ·have := h.lt k hk; omega
  ·omega⟩
theorem writer_pass {w : World} {D : Nat} {l : List UInt8} {G : Nat → Prop} (h : WrAt w D l G) :
  PsAt (w.alloc (.cells #[.pointer (some ⟨D, 0, none⟩), .pointer none, .bool false] 126)) w.heap.size (.wr l) false (fun k => G k ∨ k = w.heap.size) :=
 ⟨⟨D, G, heap_alloc_new _ _, h.below ((Below.refl _ _).alloc (Nat.le_refl _) _), fun k hk => ⟨.inl hk, fun e => by have := h.lt k hk; omega⟩⟩, .inr rfl, fun k hk => by
  simp
  rcases hk with hk | hk
  ·have := h.lt k hk; omega
  ·omega⟩
theorem sum_const {α : Type} (k : Nat) : ∀ l : List α, (l.map fun _ => k).sum = l.length * k
 | [] => by simp
 | _ :: r => by simp [sum_const k r, Nat.succ_mul, Nat.add_comm]
theorem row_cost {α : Type} {c : Cd α} {most k : Nat} (h : c.cost = fun _ => k) (l : List α) : (cdRow c most).cost l = 10 + l.length * k := by
 show 10 + (l.map c.cost).sum = _
 rw [h, sum_const]
end Go.Proofs.YtdhinjbkfffpeaaGreat
end
section
namespace Go.Proofs.YtdhinjbkfffpeaaGreat
open Go.ChangeShapes Go.WideShapes Go.ChangeAt Go.RowKit Go.Joins Sp Fr Pk
set_option maxRecDepth 100000 in
set_option maxHeartbeats 4000000 in
theorem Ax_info (r : Ak) (p : AkP) : (Tryz.prog.info? 65).map (·.size) = some (aCells r p).toArray.size := by kernel_rfl
theorem Ax_info2 (r : Ak) (p : AkP) : (Tryz.prog.info? 65).map (·.size) = some (aCells r p).length := by kernel_rfl
theorem Ax_one (r : Ak) (p : AkP) : (aCells r p).toArray.all (·.oneCell') = true := by simp [aCells, sCells, eCells, qCells, Value.oneCell']
theorem Ax_rfits : ((noAk (0, 0, 0))).Fits := by
 have h : I64 0 := ⟨by decide, by decide⟩
 have u : U32 0 := by show (0 : Nat) < 4294967296; decide
 exact ⟨h, u, by show (0 : Nat) < 18446744073709551616; decide, u, u, noStg_fits, noEvt_fits, noQy_fits, by show (0 : Nat) ≤ _; decide, h, u, h, h, by show noStg.cost + noEvt.cost + noPl.query.cost + 0 + 200 ≤ 4611686018427387904; decide⟩
set_option maxRecDepth 100000 in
set_option maxHeartbeats 4000000 in
theorem pgetAx_any (w : World) (A : Option Addr) (d : Nat) (l : List UInt8) (hl : l.length ≤ 2000000) (hs : Sl w A l.length d (bl l)) (HK : ∀ y m2 b2, Dn cdAkH ((0 : Int), 0, 0) (.rd (some l)) false y m2 b2 → y.1 = 2) :
  Calls Tryz.prog 101 #[.slice A l.length d, .int .i64 65536, .func (.func 57) #[] #[]] w (Got (fun (r : Ak) (q : AkP) => .agg (aCells r q).toArray) AkAt cdAk ((noAk (0, 0, 0))) 65536 l w) := by
 obtain ⟨W1, hW1⟩ : ∃ W1, ((w.alloc (.cells #[.int .i64 0, .int .u32 0, .int .u64 0, .int .u32 0, .int .u32 0, .int .i64 0, .slice none 0 0, .slice none 0 0, .slice none 0 0, .int .i64 0, .int .i64 0, .int .i64 0, .int .i64 0, .bool false, .bool false, .int .i64 0, .int .i64 0, .int .i64 0, .int .i64 0, .slice none 0 0, .slice none 0 0, .slice none 0 0, .slice none 0 0, .int .i64 0, .slice none 0 0, .slice none 0 0, .slice none 0 0, .int .i64 0, .int .i64 0, .int .i64 0, .int .i64 0, .slice none 0 0, .slice none 0 0, .int .i64 0, .slice none 0 0, .slice none 0 0, .string ⟨#[]⟩, .int .i64 0, .int .u32 0, .int .i64 0, .bool false, .int .i64 0] 65)).alloc (.cells #[.int .i64 0, .int .u32 0, .int .u64 0, .int .u32 0, .int .u32 0, .int .i64 0, .slice none 0 0, .slice none 0 0, .slice none 0 0, .int .i64 0, .int .i64 0, .int .i64 0, .int .i64 0, .bool false, .bool false, .int .i64 0, .int .i64 0, .int .i64 0, .int .i64 0, .slice none 0 0, .slice none 0 0, .slice none 0 0, .slice none 0 0, .int .i64 0, .slice none 0 0, .slice none 0 0, .slice none 0 0, .int .i64 0, .int .i64 0, .int .i64 0, .int .i64 0, .slice none 0 0, .slice none 0 0, .int .i64 0, .slice none 0 0, .slice none 0 0, .string ⟨#[]⟩, .int .i64 0, .int .u32 0, .int .i64 0, .bool false, .int .i64 0] 65)) = W1 := ⟨_, rfl⟩
 have HB : Hid (Below w.heap.size w W1) := by show Below _ _ _; rw [← hW1]; exact ((Below.refl _ _).alloc (Nat.le_refl _) _).alloc (by simp) _
 have hb0 : W1.heap[w.heap.size]? = some (.cells #[.int .i64 0, .int .u32 0, .int .u64 0, .int .u32 0, .int .u32 0, .int .i64 0, .slice none 0 0, .slice none 0 0, .slice none 0 0, .int .i64 0, .int .i64 0, .int .i64 0, .int .i64 0, .bool false, .bool false, .int .i64 0, .int .i64 0, .int .i64 0, .int .i64 0, .slice none 0 0, .slice none 0 0, .slice none 0 0, .slice none 0 0, .int .i64 0, .slice none 0 0, .slice none 0 0, .slice none 0 0, .int .i64 0, .int .i64 0, .int .i64 0, .int .i64 0, .slice none 0 0, .slice none 0 0, .int .i64 0, .slice none 0 0, .slice none 0 0, .string ⟨#[]⟩, .int .i64 0, .int .u32 0, .int .i64 0, .bool false, .int .i64 0] 65 (0, 0)) := by rw [← hW1, heap_alloc_old _ _ (by simp), heap_alloc_new]
 have hb1 : W1.heap[w.heap.size + 1]? = some (.cells #[.int .i64 0, .int .u32 0, .int .u64 0, .int .u32 0, .int .u32 0, .int .i64 0, .slice none 0 0, .slice none 0 0, .slice none 0 0, .int .i64 0, .int .i64 0, .int .i64 0, .int .i64 0, .bool false, .bool false, .int .i64 0, .int .i64 0, .int .i64 0, .int .i64 0, .slice none 0 0, .slice none 0 0, .slice none 0 0, .slice none 0 0, .int .i64 0, .slice none 0 0, .slice none 0 0, .slice none 0 0, .int .i64 0, .int .i64 0, .int .i64 0, .int .i64 0, .slice none 0 0, .slice none 0 0, .int .i64 0, .slice none 0 0, .slice none 0 0, .string ⟨#[]⟩, .int .i64 0, .int .u32 0, .int .i64 0, .bool false, .int .i64 0] 65 (0, 0)) := by rw [← hW1]; exact heap_alloc_new2 _ _ _
 have hsz : w.heap.size + 1 < W1.heap.size := heap_lt hb1
 have E1 := Lib.hid hW1
 clear hW1
 by_cases hml : l.length ≤ 65536
 rotate_left
 ·have hmz : (65536 : Int) < l.length := by omega
  have HB1 := Lib.hid hb1
  have HB0 := Lib.hid hb0
  clear hb0 hb1
  go_enter Tryz.func101, Tryz.ntmps101
  go_upto_region 2 with fail
  rw [E1.out]
  go_wp2_with (first
   | (refine wpList_load (v := .agg #[.int .i64 0, .int .u32 0, .int .u64 0, .int .u32 0, .int .u32 0, .int .i64 0, .slice none 0 0, .slice none 0 0, .slice none 0 0, .int .i64 0, .int .i64 0, .int .i64 0, .int .i64 0, .bool false, .bool false, .int .i64 0, .int .i64 0, .int .i64 0, .int .i64 0, .slice none 0 0, .slice none 0 0, .slice none 0 0, .slice none 0 0, .int .i64 0, .slice none 0 0, .slice none 0 0, .slice none 0 0, .int .i64 0, .int .i64 0, .int .i64 0, .int .i64 0, .slice none 0 0, .slice none 0 0, .int .i64 0, .slice none 0 0, .slice none 0 0, .string ⟨#[]⟩, .int .i64 0, .int .u32 0, .int .i64 0, .bool false, .int .i64 0]) rfl rfl (load_blk (vs := [.int .i64 0, .int .u32 0, .int .u64 0, .int .u32 0, .int .u32 0, .int .i64 0, .slice none 0 0, .slice none 0 0, .slice none 0 0, .int .i64 0, .int .i64 0, .int .i64 0, .int .i64 0, .bool false, .bool false, .int .i64 0, .int .i64 0, .int .i64 0, .int .i64 0, .slice none 0 0, .slice none 0 0, .slice none 0 0, .slice none 0 0, .int .i64 0, .slice none 0 0, .slice none 0 0, .slice none 0 0, .int .i64 0, .int .i64 0, .int .i64 0, .int .i64 0, .slice none 0 0, .slice none 0 0, .int .i64 0, .slice none 0 0, .slice none 0 0, .string ⟨#[]⟩, .int .i64 0, .int .u32 0, .int .i64 0, .bool false, .int .i64 0]) HB1.out (fun j v hj => by simpa using hj) rfl (by kernel_rfl)) ?_; simp only [Act.put])
   | (refine wpList_store_mid rfl 65 (.tmp 6) (.tmp 15) rfl w.heap.size 0 #[.int .i64 0, .int .u32 0, .int .u64 0, .int .u32 0, .int .u32 0, .int .i64 0, .slice none 0 0, .slice none 0 0, .slice none 0 0, .int .i64 0, .int .i64 0, .int .i64 0, .int .i64 0, .bool false, .bool false, .int .i64 0, .int .i64 0, .int .i64 0, .int .i64 0, .slice none 0 0, .slice none 0 0, .slice none 0 0, .slice none 0 0, .int .i64 0, .slice none 0 0, .slice none 0 0, .slice none 0 0, .int .i64 0, .int .i64 0, .int .i64 0, .int .i64 0, .slice none 0 0, .slice none 0 0, .int .i64 0, .slice none 0 0, .slice none 0 0, .string ⟨#[]⟩, .int .i64 0, .int .u32 0, .int .i64 0, .bool false, .int .i64 0] rfl rfl (blk_there HB0.out (by simp)) (by kernel_rfl) (by simp [Value.oneCell']) ?_))
  have hset := setCells_blk (b := w.heap.size) [.int .i64 0, .int .u32 0, .int .u64 0, .int .u32 0, .int .u32 0, .int .i64 0, .slice none 0 0, .slice none 0 0, .slice none 0 0, .int .i64 0, .int .i64 0, .int .i64 0, .int .i64 0, .bool false, .bool false, .int .i64 0, .int .i64 0, .int .i64 0, .int .i64 0, .slice none 0 0, .slice none 0 0, .slice none 0 0, .slice none 0 0, .int .i64 0, .slice none 0 0, .slice none 0 0, .slice none 0 0, .int .i64 0, .int .i64 0, .int .i64 0, .int .i64 0, .slice none 0 0, .slice none 0 0, .int .i64 0, .slice none 0 0, .slice none 0 0, .string ⟨#[]⟩, .int .i64 0, .int .u32 0, .int .i64 0, .bool false, .int .i64 0] 0 _ _ HB0.out
  rw [setAll_all (by rfl)] at hset
  have HSE := Lib.hid hset
  clear hset
  refine bodyPost_ret (results_cell_row_tmp rfl _ _ w.heap.size 65 #[.int .i64 0, .int .u32 0, .int .u64 0, .int .u32 0, .int .u32 0, .int .i64 0, .slice none 0 0, .slice none 0 0, .slice none 0 0, .int .i64 0, .int .i64 0, .int .i64 0, .int .i64 0, .bool false, .bool false, .int .i64 0, .int .i64 0, .int .i64 0, .int .i64 0, .slice none 0 0, .slice none 0 0, .slice none 0 0, .slice none 0 0, .int .i64 0, .slice none 0 0, .slice none 0 0, .slice none 0 0, .int .i64 0, .int .i64 0, .int .i64 0, .int .i64 0, .slice none 0 0, .slice none 0 0, .int .i64 0, .slice none 0 0, .slice none 0 0, .string ⟨#[]⟩, .int .i64 0, .int .u32 0, .int .i64 0, .bool false, .int .i64 0] (0, 0) _ rfl HSE.out Tryz.underlying65 rfl (by kernel_rfl)) rfl ?_
  exact ⟨false, (noAk (0, 0, 0)), noAkP, rfl, fun V _ => ⟨noStg_at V, noEvt_at V, (noPl_at V).q⟩, below_setCells (Nat.le_refl _) _ _ _ HB.out, fun h => (by cases h), fun _ => ⟨rfl, fun h => absurd h hml⟩⟩
 have hmz : ¬ (65536 : Int) < l.length := by omega
 have HN := Lib.hid (rd_new A d l hs.le hs.cap hs.nil (by omega) W1 (hs.below HB.out (Nat.le_refl _)).bat)
 have HB0 := Lib.hid hb0
 have HB1x := Lib.hid hb1
 clear hb0 hb1
 go_enter Tryz.func101, Tryz.ntmps101
 go_upto_region 2 with fail
 rw [E1.out]
 go_wp2_with fail
 go_at_call 75
 refine HN.out.mono ?_
 rintro e w2 ⟨D, G, rfl, hR, hb, hG⟩
 have hsz2 := hb.size
 have HP := Lib.hid (reader_pass hR)
 have hbA : Below W1.heap.size W1 (w2.alloc (.cells #[.pointer none, .pointer (some ⟨D, 0, none⟩), .bool false] 126)) := hb.trans ((Below.refl _ _).alloc hsz2 _)
 obtain ⟨w3, hw3⟩ : ∃ w3, w2.alloc (.cells #[.pointer none, .pointer (some ⟨D, 0, none⟩), .bool false] 126) = w3 := ⟨_, rfl⟩
 have HW3 := Lib.hid hw3
 rw [hw3] at HP hbA
 have HB1 := Lib.hid (blk_below HB1x.out hbA)
 have HB03 := Lib.hid (blk_below HB0.out hbA)
 have HBA := Lib.hid hbA
 obtain ⟨P, hP⟩ : ∃ P, w2.heap.size = P := ⟨_, rfl⟩
 have hPw : W1.heap.size ≤ P := by omega
 have hw3s : w3.heap.size = P + 1 := by rw [← hw3]; simp [hP]
 have HC := Lib.hid (fun (F : Nat → Prop) (hp : PsAt w3 P (.rd (some l)) false F) => pask2_any P ((noAk (0, 0, 0))) noAkP Ax_rfits (.rd (some l)) false F w3 hp trivial (fun _ => rfl) (fun V _ => ⟨noStg_at V, noEvt_at V, (noPl_at V).q⟩) HK)
 have HF : Hid (∀ k, (G k ∨ k = P) → W1.heap.size ≤ k) := fun k hk => hk.elim (hG k) fun e => by omega
 have HPP : Hid (w2.heap.size = P) := hP
 rw [hP] at HP
 clear hw3 hbA hR hb hG HN HB1x HB0 hP
 go_upto_region 5 with fail
 rw [HW3.out]
 go_wp2_with (refine wpList_load (v := .agg #[.int .i64 0, .int .u32 0, .int .u64 0, .int .u32 0, .int .u32 0, .int .i64 0, .slice none 0 0, .slice none 0 0, .slice none 0 0, .int .i64 0, .int .i64 0, .int .i64 0, .int .i64 0, .bool false, .bool false, .int .i64 0, .int .i64 0, .int .i64 0, .int .i64 0, .slice none 0 0, .slice none 0 0, .slice none 0 0, .slice none 0 0, .int .i64 0, .slice none 0 0, .slice none 0 0, .slice none 0 0, .int .i64 0, .int .i64 0, .int .i64 0, .int .i64 0, .slice none 0 0, .slice none 0 0, .int .i64 0, .slice none 0 0, .slice none 0 0, .string ⟨#[]⟩, .int .i64 0, .int .u32 0, .int .i64 0, .bool false, .int .i64 0]) rfl rfl (load_blk (vs := [.int .i64 0, .int .u32 0, .int .u64 0, .int .u32 0, .int .u32 0, .int .i64 0, .slice none 0 0, .slice none 0 0, .slice none 0 0, .int .i64 0, .int .i64 0, .int .i64 0, .int .i64 0, .bool false, .bool false, .int .i64 0, .int .i64 0, .int .i64 0, .int .i64 0, .slice none 0 0, .slice none 0 0, .slice none 0 0, .slice none 0 0, .int .i64 0, .slice none 0 0, .slice none 0 0, .slice none 0 0, .int .i64 0, .int .i64 0, .int .i64 0, .int .i64 0, .slice none 0 0, .slice none 0 0, .int .i64 0, .slice none 0 0, .slice none 0 0, .string ⟨#[]⟩, .int .i64 0, .int .u32 0, .int .i64 0, .bool false, .int .i64 0]) HB1.out (fun j v hj => by simpa using hj) rfl (by kernel_rfl)) ?_; simp only [Act.put])
 rw [HPP.out]
 go_at_call 57
 refine (HC.out _ HP.out).mono ?_
 rintro e w4 ⟨y, q, m', b', F', rfl, hT, hO, hD⟩
 obtain ⟨r', rfl, hr1, hr2⟩ := hD
 obtain ⟨D2, G2, q1, q2, q3⟩ := hT.at_.ok
 have hnB : ∀ B, B < W1.heap.size → ¬ (G B ∨ B = P) := fun B hB hk => by have := HF.out B hk; omega
 have hbB : Below W1.heap.size W1 w4 := HBA.out.trans (hT.off.toBelow HBA.out.size HF.out)
 have HBW := Lib.hid (HB.out.trans (hbB.mono HB.out.size))
 obtain ⟨w5, hw5⟩ : ∃ w5, w4.alloc (.cells (aCells y q).toArray 65) = w5 := ⟨_, rfl⟩
 have h45 : Below w4.heap.size w4 w5 := by rw [← hw5]; exact (Below.refl _ _).alloc (Nat.le_refl _) _
 have HB0 := Lib.hid (blk_below (hT.off.heap HB03.out (hnB _ (by omega))) h45)
 have HB1n := Lib.hid (blk_below (hT.off.heap HB1.out (hnB _ hsz)) h45)
 have HY : Hid (w5.heap[w4.heap.size]? = some (.cells (aCells y q).toArray 65 (0, 0))) := by show _ = _; rw [← hw5]; exact heap_alloc_new _ _
 have q1' := blk_below q1 h45
 have c1 := blk_cell (i := 1) q1' rfl
 have c2 := blk_cell (i := 2) q1' rfl
 have HEn := Lib.hid (rd_end D2 r' G2 w5 (q2.below h45))
 have HOW := Lib.hid (hO.below h45)
 have HR1 := Lib.hid hr1
 have HR2 := Lib.hid hr2
 have HW5 := Lib.hid hw5
 have HB5 := Lib.hid (HBW.out.trans (h45.mono HBW.out.size))
 have hs5 := h45.size
 have hs4 : w3.heap.size ≤ w4.heap.size := hT.off.size
 clear HB1 HB03 HC HP q1 q2 q3 q1' hT hO h45 hw5 hbB hr1 hr2
 have HB1 := Lib.hid HB1n.out
 clear HB1n
 have hend : ∀ (v : Ak) (vp : AkP) (ok : Bool), (∀ V, Off (fun k => k < w.heap.size) (w5.setCells w.heap.size 0 (aCells v vp)) V → AkAt V v vp) → (ok = true → l.length ≤ 65536 ∧ cdAk.rd (some l) = (v, some [])) → (ok = false → v = (noAk (0, 0, 0)) ∧ (l.length ≤ 65536 → (cdAk.rd (some l)).2 ≠ some [])) → Got (fun (r : Ak) (q : AkP) => .agg (aCells r q).toArray) AkAt cdAk ((noAk (0, 0, 0))) 65536 l w (.returned (.tuple #[.agg (aCells v vp).toArray, .bool ok])) (w5.setCells w.heap.size 0 (aCells v vp)) := fun v vp ok h1 h2 h3 =>
  ⟨ok, v, vp, rfl, h1, below_setCells (Nat.le_refl _) _ _ _ HB5.out, h2, h3⟩
 have HEND := Lib.hid hend
 clear hend
 obtain ⟨bq, hbq⟩ : ∃ bq, decide (r' = some []) = bq := ⟨_, rfl⟩
 rw [hbq] at HEn
 have HBQ := Lib.hid hbq
 clear hbq
 go_upto_region 6 with (refine wpList_store_new (t := 65) (c' := (aCells y q).toArray) rfl rfl rfl rfl (Ax_info _ _) rfl (Ax_one _ _) ?_; simp only [Act.put])
 rw [HW5.out]
 have hno : ∀ (t : Prop), (Rho r' b' = some [] → False) → (cdAk.rd (some l)).2 ≠ some [] := fun _ h e => h (HR1.out.trans e)
 have HNO := Lib.hid hno
 clear hno
 cases b' with
 | true =>
  go_wp2_with (first
   | (refine wpList_load (v := .agg #[.int .i64 0, .int .u32 0, .int .u64 0, .int .u32 0, .int .u32 0, .int .i64 0, .slice none 0 0, .slice none 0 0, .slice none 0 0, .int .i64 0, .int .i64 0, .int .i64 0, .int .i64 0, .bool false, .bool false, .int .i64 0, .int .i64 0, .int .i64 0, .int .i64 0, .slice none 0 0, .slice none 0 0, .slice none 0 0, .slice none 0 0, .int .i64 0, .slice none 0 0, .slice none 0 0, .slice none 0 0, .int .i64 0, .int .i64 0, .int .i64 0, .int .i64 0, .slice none 0 0, .slice none 0 0, .int .i64 0, .slice none 0 0, .slice none 0 0, .string ⟨#[]⟩, .int .i64 0, .int .u32 0, .int .i64 0, .bool false, .int .i64 0]) rfl rfl (load_blk (vs := [.int .i64 0, .int .u32 0, .int .u64 0, .int .u32 0, .int .u32 0, .int .i64 0, .slice none 0 0, .slice none 0 0, .slice none 0 0, .int .i64 0, .int .i64 0, .int .i64 0, .int .i64 0, .bool false, .bool false, .int .i64 0, .int .i64 0, .int .i64 0, .int .i64 0, .slice none 0 0, .slice none 0 0, .slice none 0 0, .slice none 0 0, .int .i64 0, .slice none 0 0, .slice none 0 0, .slice none 0 0, .int .i64 0, .int .i64 0, .int .i64 0, .int .i64 0, .slice none 0 0, .slice none 0 0, .int .i64 0, .slice none 0 0, .slice none 0 0, .string ⟨#[]⟩, .int .i64 0, .int .u32 0, .int .i64 0, .bool false, .int .i64 0]) HB1.out (fun j v hj => by simpa using hj) rfl (by kernel_rfl)) ?_; simp only [Act.put])
   | (refine wpList_store_mid rfl 65 (.tmp 6) (.tmp 36) rfl w.heap.size 0 #[.int .i64 0, .int .u32 0, .int .u64 0, .int .u32 0, .int .u32 0, .int .i64 0, .slice none 0 0, .slice none 0 0, .slice none 0 0, .int .i64 0, .int .i64 0, .int .i64 0, .int .i64 0, .bool false, .bool false, .int .i64 0, .int .i64 0, .int .i64 0, .int .i64 0, .slice none 0 0, .slice none 0 0, .slice none 0 0, .slice none 0 0, .int .i64 0, .slice none 0 0, .slice none 0 0, .slice none 0 0, .int .i64 0, .int .i64 0, .int .i64 0, .int .i64 0, .slice none 0 0, .slice none 0 0, .int .i64 0, .slice none 0 0, .slice none 0 0, .string ⟨#[]⟩, .int .i64 0, .int .u32 0, .int .i64 0, .bool false, .int .i64 0] rfl rfl (blk_there HB0.out (by simp)) (by kernel_rfl) (by simp [Value.oneCell']) ?_))
  have hset := setCells_blk (b := w.heap.size) [.int .i64 0, .int .u32 0, .int .u64 0, .int .u32 0, .int .u32 0, .int .i64 0, .slice none 0 0, .slice none 0 0, .slice none 0 0, .int .i64 0, .int .i64 0, .int .i64 0, .int .i64 0, .bool false, .bool false, .int .i64 0, .int .i64 0, .int .i64 0, .int .i64 0, .slice none 0 0, .slice none 0 0, .slice none 0 0, .slice none 0 0, .int .i64 0, .slice none 0 0, .slice none 0 0, .slice none 0 0, .int .i64 0, .int .i64 0, .int .i64 0, .int .i64 0, .slice none 0 0, .slice none 0 0, .int .i64 0, .slice none 0 0, .slice none 0 0, .string ⟨#[]⟩, .int .i64 0, .int .u32 0, .int .i64 0, .bool false, .int .i64 0] 0 _ _ HB0.out
  rw [setAll_all (by rfl)] at hset
  have HSE := Lib.hid hset
  clear hset
  refine bodyPost_ret (results_cell_row_tmp rfl _ _ w.heap.size 65 #[.int .i64 0, .int .u32 0, .int .u64 0, .int .u32 0, .int .u32 0, .int .i64 0, .slice none 0 0, .slice none 0 0, .slice none 0 0, .int .i64 0, .int .i64 0, .int .i64 0, .int .i64 0, .bool false, .bool false, .int .i64 0, .int .i64 0, .int .i64 0, .int .i64 0, .slice none 0 0, .slice none 0 0, .slice none 0 0, .slice none 0 0, .int .i64 0, .slice none 0 0, .slice none 0 0, .slice none 0 0, .int .i64 0, .int .i64 0, .int .i64 0, .int .i64 0, .slice none 0 0, .slice none 0 0, .int .i64 0, .slice none 0 0, .slice none 0 0, .string ⟨#[]⟩, .int .i64 0, .int .u32 0, .int .i64 0, .bool false, .int .i64 0] (0, 0) _ rfl HSE.out Tryz.underlying65 rfl (by kernel_rfl)) rfl ?_
  exact HEND.out ((noAk (0, 0, 0))) noAkP false (fun V _ => ⟨noStg_at V, noEvt_at V, (noPl_at V).q⟩) (fun h => by cases h) (fun _ => ⟨rfl, fun _ => HNO.out True (fun h => by cases (rho_some.1 h).1)⟩)
 | false =>
  go_wp2_with fail
  go_at_call 76
  refine HEn.out.mono ?_
  rintro e w6 ⟨rfl, rfl⟩
  cases bq with
  | false =>
   go_wp2_with (first
    | (refine wpList_load (v := .agg #[.int .i64 0, .int .u32 0, .int .u64 0, .int .u32 0, .int .u32 0, .int .i64 0, .slice none 0 0, .slice none 0 0, .slice none 0 0, .int .i64 0, .int .i64 0, .int .i64 0, .int .i64 0, .bool false, .bool false, .int .i64 0, .int .i64 0, .int .i64 0, .int .i64 0, .slice none 0 0, .slice none 0 0, .slice none 0 0, .slice none 0 0, .int .i64 0, .slice none 0 0, .slice none 0 0, .slice none 0 0, .int .i64 0, .int .i64 0, .int .i64 0, .int .i64 0, .slice none 0 0, .slice none 0 0, .int .i64 0, .slice none 0 0, .slice none 0 0, .string ⟨#[]⟩, .int .i64 0, .int .u32 0, .int .i64 0, .bool false, .int .i64 0]) rfl rfl (load_blk (vs := [.int .i64 0, .int .u32 0, .int .u64 0, .int .u32 0, .int .u32 0, .int .i64 0, .slice none 0 0, .slice none 0 0, .slice none 0 0, .int .i64 0, .int .i64 0, .int .i64 0, .int .i64 0, .bool false, .bool false, .int .i64 0, .int .i64 0, .int .i64 0, .int .i64 0, .slice none 0 0, .slice none 0 0, .slice none 0 0, .slice none 0 0, .int .i64 0, .slice none 0 0, .slice none 0 0, .slice none 0 0, .int .i64 0, .int .i64 0, .int .i64 0, .int .i64 0, .slice none 0 0, .slice none 0 0, .int .i64 0, .slice none 0 0, .slice none 0 0, .string ⟨#[]⟩, .int .i64 0, .int .u32 0, .int .i64 0, .bool false, .int .i64 0]) HB1.out (fun j v hj => by simpa using hj) rfl (by kernel_rfl)) ?_; simp only [Act.put])
    | (refine wpList_store_mid rfl 65 (.tmp 6) (.tmp 36) rfl w.heap.size 0 #[.int .i64 0, .int .u32 0, .int .u64 0, .int .u32 0, .int .u32 0, .int .i64 0, .slice none 0 0, .slice none 0 0, .slice none 0 0, .int .i64 0, .int .i64 0, .int .i64 0, .int .i64 0, .bool false, .bool false, .int .i64 0, .int .i64 0, .int .i64 0, .int .i64 0, .slice none 0 0, .slice none 0 0, .slice none 0 0, .slice none 0 0, .int .i64 0, .slice none 0 0, .slice none 0 0, .slice none 0 0, .int .i64 0, .int .i64 0, .int .i64 0, .int .i64 0, .slice none 0 0, .slice none 0 0, .int .i64 0, .slice none 0 0, .slice none 0 0, .string ⟨#[]⟩, .int .i64 0, .int .u32 0, .int .i64 0, .bool false, .int .i64 0] rfl rfl (blk_there HB0.out (by simp)) (by kernel_rfl) (by simp [Value.oneCell']) ?_))
   have hset := setCells_blk (b := w.heap.size) [.int .i64 0, .int .u32 0, .int .u64 0, .int .u32 0, .int .u32 0, .int .i64 0, .slice none 0 0, .slice none 0 0, .slice none 0 0, .int .i64 0, .int .i64 0, .int .i64 0, .int .i64 0, .bool false, .bool false, .int .i64 0, .int .i64 0, .int .i64 0, .int .i64 0, .slice none 0 0, .slice none 0 0, .slice none 0 0, .slice none 0 0, .int .i64 0, .slice none 0 0, .slice none 0 0, .slice none 0 0, .int .i64 0, .int .i64 0, .int .i64 0, .int .i64 0, .slice none 0 0, .slice none 0 0, .int .i64 0, .slice none 0 0, .slice none 0 0, .string ⟨#[]⟩, .int .i64 0, .int .u32 0, .int .i64 0, .bool false, .int .i64 0] 0 _ _ HB0.out
   rw [setAll_all (by rfl)] at hset
   have HSE := Lib.hid hset
   clear hset
   refine bodyPost_ret (results_cell_row_tmp rfl _ _ w.heap.size 65 #[.int .i64 0, .int .u32 0, .int .u64 0, .int .u32 0, .int .u32 0, .int .i64 0, .slice none 0 0, .slice none 0 0, .slice none 0 0, .int .i64 0, .int .i64 0, .int .i64 0, .int .i64 0, .bool false, .bool false, .int .i64 0, .int .i64 0, .int .i64 0, .int .i64 0, .slice none 0 0, .slice none 0 0, .slice none 0 0, .slice none 0 0, .int .i64 0, .slice none 0 0, .slice none 0 0, .slice none 0 0, .int .i64 0, .int .i64 0, .int .i64 0, .int .i64 0, .slice none 0 0, .slice none 0 0, .int .i64 0, .slice none 0 0, .slice none 0 0, .string ⟨#[]⟩, .int .i64 0, .int .u32 0, .int .i64 0, .bool false, .int .i64 0] (0, 0) _ rfl HSE.out Tryz.underlying65 rfl (by kernel_rfl)) rfl ?_
   exact HEND.out ((noAk (0, 0, 0))) noAkP false (fun V _ => ⟨noStg_at V, noEvt_at V, (noPl_at V).q⟩) (fun h => by cases h) (fun _ => ⟨rfl, fun _ => HNO.out True (fun h => by have := (rho_some.1 h).2; have h2 := HBQ.out; simp [this] at h2)⟩)
  | true =>
   go_wp2_with (first
    | (refine wpList_load (v := .agg (aCells y q).toArray) rfl rfl (load_blk (vs := aCells y q) HY.out (fun j v hj => by simpa using hj) rfl (Ax_info2 _ _)) ?_; simp only [Act.put])
    | (refine wpList_store_mid rfl 65 (.tmp 6) (.tmp 37) rfl w.heap.size 0 (aCells y q).toArray rfl rfl (blk_there HB0.out (by simp [aCells, sCells, eCells, qCells])) (Ax_info _ _) (Ax_one _ _) ?_))
   have hset := setCells_blk (b := w.heap.size) (aCells y q) 0 _ _ HB0.out
   rw [setAll_all (by rfl)] at hset
   have HSE := Lib.hid hset
   clear hset
   refine bodyPost_ret (results_cell_row_tmp rfl _ _ w.heap.size 65 (aCells y q).toArray (0, 0) _ rfl HSE.out Tryz.underlying65 rfl (Ax_info _ _)) rfl ?_
   have hre : r' = some [] := of_decide_eq_true HBQ.out
   have hrh : Rho r' false = some [] := by rw [hre]; rfl
   refine HEND.out y q true (fun V hV => (HOW.out.store (R := w.heap.size) (by omega) 0 (aCells y q)) V (hV.mono fun k _ hk => .inr (by omega))) (fun _ => ⟨hml, ?_⟩) (fun h => by cases h)
   have e1 := HR1.out
   have e2 := HR2.out (by rw [hrh]; simp)
   rw [hrh] at e1
   have e3 : Rho (some l) false = some l := rfl
   rw [e3] at e1 e2
   rw [e2]
   exact Prod.ext rfl e1.symm
set_option maxRecDepth 100000 in
set_option maxHeartbeats 4000000 in
theorem Ax_cost (r : Ak) (h : ¬ greatA16 r) : cdAk.cost r ≤ 1000000 := by
 unfold greatA16 greatS16 greatE16 greatQ16 at h
 have e0 : cdAk.cost r = 30 + (cdStg.cost r.settings + (cdEv.cost r.event + (cdQy.cost r.query + (r.cursor.length + 100)))) := rfl
 have e1 : cdStg.cost r.settings = 10 + ((cdRow cdTu 700).cost r.settings.turns + ((cdRow cdSh 10).cost r.settings.shifts + ((cdRow (cdInt 109937) 60).cost r.settings.off + (10 + 10)))) := rfl
 have e2 : (cdRow cdTu 700).cost r.settings.turns = 10 + r.settings.turns.length * 20 := row_cost rfl _
 have e3 : (cdRow cdSh 10).cost r.settings.shifts = 10 + r.settings.shifts.length * 30 := row_cost rfl _
 have e4 : (cdRow (cdInt 109937) 60).cost r.settings.off = 10 + r.settings.off.length * 10 := row_cost rfl _
 have e5 : cdQy.cost r.query = 10 + (10 + (10 + (10 + ((cdRow (cdNum 4294967295) 64).cost r.query.must + ((cdRow cdWt 16).cost r.query.may + (10 + ((cdRow cdAp 32).cost r.query.apart + (cdRow cdSh 8).cost r.query.prefer))))))) := rfl
 have e6 : (cdRow (cdNum 4294967295) 64).cost r.query.must = 10 + r.query.must.length * 10 := row_cost rfl _
 have e7 : (cdRow cdWt 16).cost r.query.may = 10 + r.query.may.length * 20 := row_cost rfl _
 have e8 : (cdRow cdAp 32).cost r.query.apart = 10 + r.query.apart.length * 20 := row_cost rfl _
 have e9 : (cdRow cdSh 8).cost r.query.prefer = 10 + r.query.prefer.length * 30 := row_cost rfl _
 have g0 : cdEv.cost r.event = 10 + (10 + (10 + (10 + (cdRu.cost r.event.rule + ((cdRow cdSig 50).cost r.event.ex + ((cdRow cdSig 50).cost r.event.plus + (cdRow cdCh 50).cost r.event.ch)))))) := rfl
 have g1 : (cdRow cdSig 50).cost r.event.ex = 10 + r.event.ex.length * 10 := row_cost rfl _
 have g2 : (cdRow cdSig 50).cost r.event.plus = 10 + r.event.plus.length * 10 := row_cost rfl _
 have g3 : (cdRow cdCh 50).cost r.event.ch = 10 + r.event.ch.length * 30 := row_cost rfl _
 have g4 : cdRu.cost r.event.rule = 10 + (10 + (10 + (10 + ((cdRow (cdZ (-400) 400) 400).cost r.event.rule.bm + ((cdRow (cdZ (-400) 400) 400).cost r.event.rule.bd + ((cdRow cdBy 400).cost r.event.rule.bw + ((cdRow (cdZ (-400) 400) 400).cost r.event.rule.bs + 10))))))) := rfl
 have g5 : (cdRow (cdZ (-400) 400) 400).cost r.event.rule.bm = 10 + r.event.rule.bm.length * 10 := row_cost rfl _
 have g6 : (cdRow (cdZ (-400) 400) 400).cost r.event.rule.bd = 10 + r.event.rule.bd.length * 10 := row_cost rfl _
 have g7 : (cdRow cdBy 400).cost r.event.rule.bw = 10 + r.event.rule.bw.length * 20 := row_cost rfl _
 have g8 : (cdRow (cdZ (-400) 400) 400).cost r.event.rule.bs = 10 + r.event.rule.bs.length * 10 := row_cost rfl _
 omega
set_option maxRecDepth 100000 in
set_option maxHeartbeats 4000000 in
theorem pputAx_any (w : World) (r : Ak) (p : AkP) (hf : r.Fits) (hg : ¬ greatA16 r) (hp : AkAt w r p) (hO : r.O) (hk : r.kind = 2) (HK : ∀ y m2 b2, Dn cdAkH ((0 : Int), 0, 0) (.rd (some r.T)) false y m2 b2 → y.1 = 2) :
  Calls Tryz.prog 56 #[.agg (aCells r p).toArray, .int .i64 65536, .func (.func 57) #[] #[], .func (.func 13) #[] #[]] w (PutRet r.text w) := by
 have hcost := Ax_cost r hg
 have HTX := Lib.hid (fun l => ak_text hf l)
 have HKW : Hid (∀ y m2 b2, Dn cdAkH (r.kind, r.caller, r.number) (.wr []) false y m2 b2 → y.1 = 2) := fun y m2 b2 ⟨t, _, _, h⟩ => by
  have := (h ⟨⟨by show (0 : Int) ≤ r.kind; omega, by show r.kind ≤ 11; omega⟩, u32_le.1 hO.1.1, u64_le.1 hO.1.2⟩).2.1
  rw [this]; exact hk
 obtain ⟨W1, hW1⟩ : ∃ W1, w.alloc (.cells (aCells r p).toArray 65) = W1 := ⟨_, rfl⟩
 have HB : Hid (Below w.heap.size w W1) := by show Below _ _ _; rw [← hW1]; exact (Below.refl _ _).alloc (Nat.le_refl _) _
 have hb0 : W1.heap[w.heap.size]? = some (.cells (aCells r p).toArray 65 (0, 0)) := by rw [← hW1]; exact heap_alloc_new _ _
 have hsz : w.heap.size < W1.heap.size := heap_lt hb0
 have E1 := Lib.hid hW1
 have HN := Lib.hid (wr_new W1)
 have HX := Lib.hid hb0
 have HPx := Lib.hid hp
 have HF0 := Lib.hid hf
 clear hW1 hb0 hp hf
 go_enter Tryz.func56, Tryz.ntmps56
 go_upto_region 1 with fail
 rw [E1.out]
 go_wp2_with fail
 go_at_call 58
 refine HN.out.mono ?_
 rintro e w2 ⟨D, G, rfl, hR, hb, hG⟩
 have hsz2 := hb.size
 have HP := Lib.hid (writer_pass hR)
 have hbA : Below W1.heap.size W1 (w2.alloc (.cells #[.pointer (some ⟨D, 0, none⟩), .pointer none, .bool false] 126)) := hb.trans ((Below.refl _ _).alloc hsz2 _)
 obtain ⟨w3, hw3⟩ : ∃ w3, w2.alloc (.cells #[.pointer (some ⟨D, 0, none⟩), .pointer none, .bool false] 126) = w3 := ⟨_, rfl⟩
 have HW3 := Lib.hid hw3
 rw [hw3] at HP hbA
 have HX3 := Lib.hid (blk_below HX.out hbA)
 have HBA := Lib.hid hbA
 obtain ⟨P, hP⟩ : ∃ P, w2.heap.size = P := ⟨_, rfl⟩
 have hPw : W1.heap.size ≤ P := by omega
 have hw3s : w3.heap.size = P + 1 := by rw [← hw3]; simp [hP]
 have HF : Hid (∀ k, (G k ∨ k = P) → W1.heap.size ≤ k) := fun k hk => hk.elim (hG k) fun e => by omega
 have hB3 : Below w.heap.size w w3 := HB.out.trans (hbA.mono HB.out.size)
 have HC := Lib.hid (fun (F : Nat → Prop) (hps : PsAt w3 P (.wr []) false F) (hF : ∀ k, F k → W1.heap.size ≤ k) => pask2_any P r p HF0.out (.wr []) false F w3 hps (by show ([] : List UInt8).length + _ ≤ 100000000; simp; omega) (fun h => h.elim) (fun V hV => HPx.out.below (hB3.trans (hV.toBelow hB3.size fun k hk => by have := hF k hk; omega))) HKW.out)
 have HPP : Hid (w2.heap.size = P) := hP
 rw [hP] at HP
 clear hw3 hbA hR hb hG HN hP
 go_upto_region 2 with fail
 rw [HW3.out]
 go_wp2_with (refine wpList_load (v := .agg (aCells r p).toArray) rfl rfl (load_blk (vs := aCells r p) HX3.out (fun j v hj => by simpa using hj) rfl (Ax_info2 _ _)) ?_; simp only [Act.put])
 rw [HPP.out]
 go_at_call 57
 refine (HC.out _ HP.out HF.out).mono ?_
 rintro e w4 ⟨y, q, m', b', F', rfl, hT, hO, hD⟩
 obtain ⟨t, rfl, ht, ho⟩ := hD
 obtain ⟨D2, G2, q1, q2, q3⟩ := hT.at_.ok
 have hnB : ¬ (G w.heap.size ∨ w.heap.size = P) := fun hk => by have := HF.out _ hk; omega
 have hB4 : Below w.heap.size w w4 := hB3.trans (hT.off.toBelow hB3.size fun k hk => by have := HF.out k hk; omega)
 have HX4 := Lib.hid (hT.off.heap HX3.out hnB)
 have HB4 := Lib.hid hB4
 have c2 := blk_cell (i := 2) q1 rfl
 have c0 := blk_cell (i := 0) q1 rfl
 have hno : (b' = true → r.text = none) := fun h => by
  rcases hx : r.text with _ | l
  ·rfl
  ·have h1 := (HTX.out l).1 hx
   have h2 := (ho h1.1).2.2
   rw [h] at h2; cases h2
 have htl : t.length ≤ 2000000 := Nat.le_trans ht (Nat.le_trans hcost (by decide))
 have HWB := Lib.hid (wr_bytes_any D2 ([] ++ t) G2 (by show t.length ≤ _; omega) w4 q2)
 have HO := Lib.hid ho
 clear hB4 hB3 HX3 HC HP q1 q2 q3 hT hO ht ho hsz2 hnB hw3s
 cases b' with
 | true =>
  have HNo := Lib.hid (hno rfl)
  clear hno
  go_wp2_with fail
  go_ret2
  exact ⟨none, 0, [], by rw [HNo.out]; rfl, by rw [HNo.out]; rfl, Sl.none_ _, fun a h => (by cases h), HB4.out⟩
 | false =>
  clear hno
  go_wp2_with fail
  go_at_call 59
  refine HWB.out.mono ?_
  rintro e w5 ⟨v, rfl, hown, hb5⟩
  obtain ⟨A, dd, rfl, hsl⟩ := Sl.of_own hown
  have HA : Hid (∀ a, A = some a → w.heap.size ≤ a.block) := fun a ha => by subst ha; have := (hown.lt a.block rfl).1; have h2 := HB4.out.size; omega
  have hsl : Sl w5 A t.length dd (bl t) := hsl
  have HSl := Lib.hid hsl
  have HX5 := Lib.hid (blk_below HX4.out hb5)
  have HB5 := Lib.hid (HB4.out.trans (hb5.mono HB4.out.size))
  have HG := Lib.hid (pgetAx_any w5 A dd t htl hsl (by have e := (HO.out hO).1; rw [e]; exact HK))
  clear hsl hown hb5 c0 c2
  go_wp2_with fail
  go_at_call 101
  refine HG.out.mono ?_
  rintro e w6 ⟨ok, r2, q2, rfl, hr2, hb6, hg1, hg2⟩
  have HX6 := Lib.hid (blk_below HX5.out hb6)
  have HB6 := Lib.hid (HB5.out.trans (hb6.mono HB5.out.size))
  have HS6 := Lib.hid (HSl.out.below hb6 (Nat.le_refl _))
  obtain ⟨w7, hw7⟩ : ∃ w7, w6.alloc (.cells (aCells r2 q2).toArray 65) = w7 := ⟨_, rfl⟩
  have h67 : Below w6.heap.size w6 w7 := by rw [← hw7]; exact (Below.refl _ _).alloc (Nat.le_refl _) _
  have HX7 := Lib.hid (blk_below HX6.out h67)
  have HR7 : Hid (w7.heap[w6.heap.size]? = some (.cells (aCells r2 q2).toArray 65 (0, 0))) := by show _ = _; rw [← hw7]; exact heap_alloc_new _ _
  have HB7 := Lib.hid (HB6.out.trans (h67.mono HB6.out.size))
  have HS7 := Lib.hid (HS6.out.below h67 (Nat.le_refl _))
  have HSM := Lib.hid (rSameAskP_any r2 r q2 p w7 (hr2 w7 (Off.of_below h67)) (HPx.out.below HB7.out))
  have HW7 := Lib.hid hw7
  have HG1 := Lib.hid hg1
  have HG2 := Lib.hid hg2
  clear hw7 h67 hr2 hb6 HX5 HB5 HX4 HG hg1 hg2 HSl HX6 HB6 HS6
  have hnone : ∀ (B : World), Below w.heap.size w B → (∀ l, r.text = some l → False) → PutRet r.text w (.returned (.tuple #[.slice none 0 0, .bool false])) B := fun B hB h => by
   have : r.text = none := by
    rcases hx : r.text with _ | l
    ·rfl
    ·exact (h l hx).elim
   exact ⟨none, 0, [], by rw [this]; rfl, by rw [this]; rfl, Sl.none_ _, fun a h => (by cases h), hB⟩
  have HNone := Lib.hid hnone
  have htx : ∀ l, r.text = some l → t.length ≤ 65536 ∧ cdAk.rd (some t) = (r, some []) := fun l hx => by
   obtain ⟨h1, h2, h3⟩ := (HTX.out l).1 hx
   have h4 := (HO.out h1).1
   have h5 : t = r.T := h4
   have h6 := cod_ak.put r [] h1
   rw [List.append_nil, ← h5] at h6
   exact ⟨by rw [h5, ← h2]; exact h3, h6⟩
  have HTT := Lib.hid htx
  clear hnone htx
  cases ok with
  | false =>
   go_wp2_with (refine wpList_store_new (t := 65) (c' := (aCells r2 q2).toArray) rfl rfl rfl rfl (Ax_info _ _) rfl (Ax_one _ _) ?_; simp only [Act.put])
   go_ret2
   exact HNone.out _ (by rw [HW7.out]; exact HB7.out) fun l hx => (HG2.out (by first | rfl | trivial)).2 (HTT.out l hx).1 (by rw [(HTT.out l hx).2])
  | true =>
   go_upto_region 7 with (refine wpList_store_new (t := 65) (c' := (aCells r2 q2).toArray) rfl rfl rfl rfl (Ax_info _ _) rfl (Ax_one _ _) ?_; simp only [Act.put])
   rw [HW7.out]
   go_wp2_with (first
    | (refine wpList_load (v := .agg (aCells r2 q2).toArray) rfl rfl (load_blk (vs := aCells r2 q2) HR7.out (fun j v hj => by simpa using hj) rfl (Ax_info2 _ _)) ?_; simp only [Act.put])
    | (refine wpList_load (v := .agg (aCells r p).toArray) rfl rfl (load_blk (vs := aCells r p) HX7.out (fun j v hj => by simpa using hj) rfl (Ax_info2 _ _)) ?_; simp only [Act.put]))
   go_at_call 13
   refine HSM.out.mono ?_
   rintro e w8 ⟨sb, rfl, hsb, hb8⟩
   have HB8 := Lib.hid (HB7.out.trans (hb8.mono HB7.out.size))
   have HS8 := Lib.hid (HS7.out.below hb8 (Nat.le_refl _))
   have HSB := Lib.hid hsb
   clear hsb hb8
   cases sb with
   | false =>
    go_wp2_with fail
    go_ret2
    exact HNone.out _ HB8.out fun l hx => by
     have h1 := (HG1.out (by first | rfl | trivial)).2
     rw [(HTT.out l hx).2] at h1
     have h2 := HSB.out.2 (Prod.mk.inj h1).1.symm
     cases h2
   | true =>
    go_wp2_with fail
    go_ret2
    have hrr := HSB.out.1 (by first | rfl | trivial)
    subst hrr
    obtain ⟨h1, h2⟩ := HG1.out (by first | rfl | trivial)
    have h3 := cod_ak.get t [] (by have := congrArg Prod.snd h2; exact this)
    have h4 : (rdAk (some t)).1 = r2 := congrArg Prod.fst h2
    rw [h4, List.append_nil] at h3
    have hx : r2.text = some t := (HTX.out t).2 ⟨h3.2, h3.1, h1⟩
    exact ⟨A, dd, t, by rw [hx]; rfl, by rw [hx]; rfl, HS8.out, HA.out, HB8.out⟩
set_option maxRecDepth 100000 in
set_option maxHeartbeats 4000000 in
theorem pputAxW_any (w : World) (r : Ak) (p : AkP) (hf : r.Fits) (hg : ¬ greatA16 r) (hp : AkAt w r p) (hO : r.O) (hk : r.kind = 2) (HK : ∀ y m2 b2, Dn cdAkH ((0 : Int), 0, 0) (.rd (some r.T)) false y m2 b2 → y.1 = 2) :
  Calls Tryz.prog 23 #[.agg (aCells r p).toArray] w (PutRet r.text w) := by
 obtain ⟨W1, hW1⟩ : ∃ W1, w.alloc (.cells (aCells r p).toArray 65) = W1 := ⟨_, rfl⟩
 have hB : Below w.heap.size w W1 := by rw [← hW1]; exact (Below.refl _ _).alloc (Nat.le_refl _) _
 have hb0 : W1.heap[w.heap.size]? = some (.cells (aCells r p).toArray 65 (0, 0)) := by rw [← hW1]; exact heap_alloc_new _ _
 have HC := Lib.hid (pputAx_any W1 r p hf hg (hp.below hB) hO hk HK)
 have HX := Lib.hid hb0
 have E1 := Lib.hid hW1
 have HB := Lib.hid hB
 clear hp hW1 hb0 hB
 go_enter Tryz.func23, Tryz.ntmps23
 go_upto_region 1 with fail
 rw [E1.out]
 go_wp2_with (refine wpList_load (v := .agg (aCells r p).toArray) rfl rfl (load_blk (vs := aCells r p) HX.out (fun j v hj => by simpa using hj) rfl (Ax_info2 _ _)) ?_; simp only [Act.put])
 go_at_call 56
 refine HC.out.mono ?_
 rintro e w2 ⟨A, d, l, rfl, h1, h2, h3, h4⟩
 have H1 := Lib.hid h1
 clear h1
 go_wp2_with fail
 go_ret2
 exact ⟨A, d, l, rfl, H1.out, h2, fun a ha => Nat.le_trans HB.out.size (h3 a ha), HB.out.trans (h4.mono HB.out.size)⟩
theorem exAk_O : exAk.O ∧ [2, 5, 7] = exAk.T := by
 have h := (ak_text exAk_fits [2, 5, 7]).1 exAk_text
 exact ⟨h.1, h.2.1⟩
theorem exAk_read : ∀ y m2 b2, Dn cdAkH ((0 : Int), 0, 0) (.rd (some exAk.T)) false y m2 b2 → y.1 = 2 := by
 rintro y m2 b2 ⟨r', _, h1, h2⟩
 rw [← exAk_O.2] at h1 h2
 have e : cdAkH.rd (Rho (some [2, 5, 7]) false) = ((2, 5, 7), some []) := by decide
 rw [e] at h1 h2
 have := h2 (by rw [h1]; simp)
 rw [this]
theorem putEx : ∀ w : World, Calls Tryz.prog 23 #[.agg (aCells exAk noAkP).toArray] w (PutRet exAk.text w) := fun w =>
 pputAxW_any w exAk noAkP exAk_fits exAk_great ⟨noStg_at w, noEvt_at w, (noPl_at w).q⟩ exAk_O.1 rfl exAk_read
end Go.Proofs.YtdhinjbkfffpeaaGreat
end
