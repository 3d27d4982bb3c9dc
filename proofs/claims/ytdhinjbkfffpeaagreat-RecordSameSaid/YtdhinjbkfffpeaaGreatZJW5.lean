import Derived.BigQuiet
import Derived.Deep.QuietTactic
import Derived.Deep.Cut
import Derived.Deep.AppendLies
import Derived.Test.YtdhinjbkfffpeaaGreatZOB
import Derived.Test.YtdhinjbkfffpeaaGreatZOG
import Derived.Test.YtdhinjbkfffpeaaGreatZJS2
import Derived.Deep.RegionHeld3
/- Contract of the document's records: a reply. -/
section
namespace Go.Proofs.YtdhinjbkfffpeaaGreat
open Go.ChangeShapes Go.WideShapes Go.ChangeAt Go.RowKit Go.Joins Sp Fr Pk
theorem below_al16 {w w' : World} (h : Below w.heap.size w w') (o : Obj) : Below w.heap.size w (w'.alloc o) := h.alloc h.size o
theorem blk_new16 {W w' : World} {o : Obj} (hb : Below (W.alloc o).heap.size (W.alloc o) w') : w'.heap[W.heap.size]? = some o := blk_below (heap_alloc_new _ _) hb
theorem blk_new16d {W w' : World} {o : Obj} (hb : Below (W.alloc o).drew.heap.size (W.alloc o).drew w') : w'.heap[W.heap.size]? = some o := blk_below (w := (W.alloc o).drew) (heap_alloc_new W o) hb
theorem bel16 {w V w' : World} (h : Below w.heap.size w V) (hb : Below V.heap.size V w') : Below w.heap.size w w' := h.trans (hb.mono h.size)
theorem rSameNo_any (a : Pl) (p : PlP) (w : World) (ha : PlAt w a p) :
    Calls Tryz.prog 32 #[.agg (pCells a p).toArray, .agg #[.int .u32 0, .int .u32 0, .int .i64 0, .int .i64 0, .int .i64 0, .int .i64 0, .slice none 0 0, .slice none 0 0, .int .i64 0, .slice none 0 0, .slice none 0 0, .slice none 0 0, .slice none 0 0, .int .i64 0, .int .i64 0, .int .i64 0]] w fun e w' => ∃ v, e = .returned (.bool v) ∧ (v = true ↔ a = noPl) ∧ Below w.heap.size w w' := rSamePoll_any a noPl p noPlP w ha (noPl_at w)
set_option maxRecDepth 100000 in
set_option maxHeartbeats 4000000 in
theorem rReply_any (r : Rp) (p : RpP) (w : World) (hf : r.Fits) (hat : RpAt w r p) :
    Calls Tryz.prog 9 #[.agg (rCells r p).toArray] w fun e w' => e = .returned (out16 r.text) ∧ Below w.heap.size w w' := by
  obtain ⟨out, hout⟩ : ∃ out, r.text = out := ⟨_, rfl⟩
  rw [hout]
  unfold rCells pCells qCells
  simp only [List.cons_append, List.nil_append, List.toArray]
  obtain ⟨W, hW⟩ : ∃ W, w.alloc (.cells #[.int .i64 r.err, .int .u64 (r.version : Int), .slice p.A1 r.slots.length p.c1, .string ⟨r.cursor.toArray⟩, .int .u32 (r.poll.id : Int), .int .u32 (r.poll.owner : Int), .int .i64 r.poll.query.win.1, .int .i64 r.poll.query.win.2, .int .i64 r.poll.query.long, .int .i64 r.poll.query.grid, .slice p.o.q.A1 r.poll.query.must.length p.o.q.c1, .slice p.o.q.A2 r.poll.query.may.length p.o.q.c2, .int .i64 r.poll.query.seats, .slice p.o.q.A3 r.poll.query.apart.length p.o.q.c3, .slice p.o.q.A4 r.poll.query.prefer.length p.o.q.c4, .slice p.o.A1 r.poll.slots.length p.o.c1, .slice p.o.A2 r.poll.votes.length p.o.c2, .int .i64 r.poll.until_, .int .i64 r.poll.state, .int .i64 r.poll.winner] 39) = W := ⟨_, rfl⟩
  have HWs : Hid (W.heap.size = w.heap.size + 1) := by show _ = _; rw [← hW]; simp
  have hBW : Below w.heap.size w W := by rw [← hW]; exact (Below.refl _ w).alloc (Nat.le_refl _) _
  have HBW := Lib.hid hBW
  have HA : Hid (∀ (V : World) (k : Nat) (v : Value), Below W.heap.size W V → (#[.int .i64 r.err, .int .u64 (r.version : Int), .slice p.A1 r.slots.length p.c1, .string ⟨r.cursor.toArray⟩, .int .u32 (r.poll.id : Int), .int .u32 (r.poll.owner : Int), .int .i64 r.poll.query.win.1, .int .i64 r.poll.query.win.2, .int .i64 r.poll.query.long, .int .i64 r.poll.query.grid, .slice p.o.q.A1 r.poll.query.must.length p.o.q.c1, .slice p.o.q.A2 r.poll.query.may.length p.o.q.c2, .int .i64 r.poll.query.seats, .slice p.o.q.A3 r.poll.query.apart.length p.o.q.c3, .slice p.o.q.A4 r.poll.query.prefer.length p.o.q.c4, .slice p.o.A1 r.poll.slots.length p.o.c1, .slice p.o.A2 r.poll.votes.length p.o.c2, .int .i64 r.poll.until_, .int .i64 r.poll.state, .int .i64 r.poll.winner] : Array Value)[k]? = some v → V.cell? ⟨w.heap.size, k, none⟩ = some v) := fun V k v hb hv => cell_old (by rw [← hW]; exact blk_cell (cs := #[.int .i64 r.err, .int .u64 (r.version : Int), .slice p.A1 r.slots.length p.c1, .string ⟨r.cursor.toArray⟩, .int .u32 (r.poll.id : Int), .int .u32 (r.poll.owner : Int), .int .i64 r.poll.query.win.1, .int .i64 r.poll.query.win.2, .int .i64 r.poll.query.long, .int .i64 r.poll.query.grid, .slice p.o.q.A1 r.poll.query.must.length p.o.q.c1, .slice p.o.q.A2 r.poll.query.may.length p.o.q.c2, .int .i64 r.poll.query.seats, .slice p.o.q.A3 r.poll.query.apart.length p.o.q.c3, .slice p.o.q.A4 r.poll.query.prefer.length p.o.q.c4, .slice p.o.A1 r.poll.slots.length p.o.c1, .slice p.o.A2 r.poll.votes.length p.o.c2, .int .i64 r.poll.until_, .int .i64 r.poll.state, .int .i64 r.poll.winner]) (t := 39) (heap_alloc_new _ _) hv) hb
  have E1 := Lib.hid hW
  have HFit := Lib.hid hf
  have HAt := Lib.hid hat
  have hz1 := len_le hat.s1
  have hcu := hf.cursor
  clear hW hBW
  obtain ⟨b1, hb1⟩ : ∃ b1 : Bb, (Bb.N ⟨[], false⟩ r.err 13) = b1 := ⟨_, rfl⟩
  obtain ⟨b2, hb2⟩ : ∃ b2 : Bb, b1.U r.version = b2 := ⟨_, rfl⟩
  obtain ⟨b3, hb3⟩ : ∃ b3 : Bb, b2.N r.slots.length 100 = b3 := ⟨_, rfl⟩
  have HF : Hid (r.fin (r.slots.foldl Bb.RpS b3) = out) := by show _ = _; rw [← hout, ← hb3, ← hb2, ← hb1]; rfl
  have hk0 : Bb.ok ⟨[], false⟩ ((((((0 + r.poll.cost) + 10) + (r.cursor.length + 10)) + r.slots.length * 30) + 10 + 10) + 10) := by have := hf.room; unfold Bb.ok; simp only [List.length_nil]; omega
  have hk1 : b1.ok (((((0 + r.poll.cost) + 10) + (r.cursor.length + 10)) + r.slots.length * 30) + 10 + 10) := by rw [← hb1]; exact Bb.N_ok hf.err.2 hk0
  have hk2 : b2.ok (((((0 + r.poll.cost) + 10) + (r.cursor.length + 10)) + r.slots.length * 30) + 10) := by rw [← hb2]; exact Bb.U_ok hf.version hk1
  have HOx : Hid (b3.ok ((((0 + r.poll.cost) + 10) + (r.cursor.length + 10)) + r.slots.length * 30)) := by show Bb.ok _ _; rw [← hb3]; exact Bb.N_ok hz1 hk2
  have HS : Hid (∀ V, Below W.heap.size W V → V.cell? ⟨w.heap.size, 0, none⟩ = some (.int .i64 r.err) ∧ V.cell? ⟨w.heap.size, 1, none⟩ = some (.int .u64 (r.version : Int)) ∧ V.cell? ⟨w.heap.size, 2, none⟩ = some (.slice p.A1 r.slots.length p.c1)) := fun V hb => ⟨HA.out V 0 _ hb rfl, HA.out V 1 _ hb rfl, HA.out V 2 _ hb rfl⟩
  have HC1 : Hid (∀ V, Calls Tryz.prog 26 #[.agg #[.string ⟨#[]⟩, .bool false], .int .i64 r.err, .int .i64 13] V fun e w' => e = .returned (.agg #[.string ⟨b1.s.toArray⟩, .bool b1.bad]) ∧ Below V.heap.size V w') := fun V => by have := rbN_any ⟨[], false⟩ r.err 13 hf.err.2 (by unfold Bb.ok; simp) V; rw [hb1] at this; exact this
  have HC2 : Hid (∀ V, Calls Tryz.prog 27 #[.agg #[.string ⟨b1.s.toArray⟩, .bool b1.bad], .int .u64 (r.version : Int)] V fun e w' => e = .returned (.agg #[.string ⟨b2.s.toArray⟩, .bool b2.bad]) ∧ Below V.heap.size V w') := fun V => by have := rbU_any b1 r.version hf.version (Bb.ok_le hk1 (Nat.le_add_left _ _)) V; rw [hb2] at this; exact this
  have HC3 : Hid (∀ V, Calls Tryz.prog 26 #[.agg #[.string ⟨b2.s.toArray⟩, .bool b2.bad], .int .i64 (r.slots.length : Int), .int .i64 100] V fun e w' => e = .returned (.agg #[.string ⟨b3.s.toArray⟩, .bool b3.bad]) ∧ Below V.heap.size V w') := fun V => by have := rbN_any b2 r.slots.length 100 hz1 (Bb.ok_le hk2 (Nat.le_add_left _ _)) V; rw [hb3] at this; exact this
  clear hb1 hb2 hb3 hk0 hk1 hk2 hout hf hat
  go_enter Tryz.func9, Tryz.ntmps9
  go_upto_region 1 with fail
  rw [E1.out]
  go_cut [4] from 6 (fun s4 wx => ∃ (bx : Nat) (V : World), V = wx ∧ s4 = .pointer (some ⟨bx, 0, none⟩) ∧ Hid (W.heap.size ≤ bx ∧ Below W.heap.size W V ∧ V.heap[bx]? = some (.cells #[.string ⟨b3.s.toArray⟩, .bool b3.bad] 85 (0, 0))))
  case first =>
    go_region_held3 (fun V => V.cell? ⟨w.heap.size, 0, none⟩ = some (.int .i64 r.err) ∧ V.cell? ⟨w.heap.size, 1, none⟩ = some (.int .u64 (r.version : Int)) ∧ V.cell? ⟨w.heap.size, 2, none⟩ = some (.slice p.A1 r.slots.length p.c1))
      ((refine HS.out _ ?_; (repeat (first | exact Below.refl _ _ | exact HBC.out | exact HBB.out | exact HBA.out | refine Below.drew ?_ | refine below_al16 ?_ _ | (refine Below.setCell ?_ ?_ _; rotate_left; (focus (first | exact HBB.out.size | exact HBA.out.size | exact Nat.le_refl _)))))))
      (first
        | ((go_at_call 26; (with_reducible refine (HC1.out _).mono ?_); rintro e w4 ⟨rfl, hb4⟩; have HBA : Hid (Below W.heap.size W w4) := Lib.hid (bel16 (by (repeat (first | exact Below.refl _ _ | exact HBB.out | exact HBA.out | refine Below.drew ?_ | refine below_al16 ?_ _))) hb4); (first | (have HZA := Lib.hid (blk_new16 hb4)) | (have HZA := Lib.hid (blk_new16d hb4)) | skip)))
        | ((go_at_call 27; (with_reducible refine (HC2.out _).mono ?_); rintro e w5 ⟨rfl, hb5⟩; have HBB : Hid (Below W.heap.size W w5) := Lib.hid (bel16 (by (repeat (first | exact Below.refl _ _ | exact HBB.out | exact HBA.out | refine Below.drew ?_ | refine below_al16 ?_ _))) hb5); (first | (have HZB := Lib.hid (blk_new16 hb5)) | (have HZB := Lib.hid (blk_new16d hb5)) | (have HZB := Lib.hid (blk_below HZA.out hb5)) | skip)))
        | ((go_at_call 26; (with_reducible refine (HC3.out _).mono ?_); rintro e w6 ⟨rfl, hb6⟩; have HBC : Hid (Below W.heap.size W w6) := Lib.hid (bel16 (by (repeat (first | exact Below.refl _ _ | exact HBB.out | exact HBA.out | refine Below.drew ?_ | refine below_al16 ?_ _))) hb6); (first | (have HZC := Lib.hid (blk_new16 hb6); have z0 := blk_cell HZC.out (i := 0) rfl; have z1 := blk_cell HZC.out (i := 1) rfl; have zf := blk_free HZC.out) | (have HZC := Lib.hid (blk_new16d hb6); have z0 := blk_cell HZC.out (i := 0) rfl; have z1 := blk_cell HZC.out (i := 1) rfl; have zf := blk_free HZC.out) | (have HZC := Lib.hid (blk_below HZB.out hb6); have z0 := blk_cell HZC.out (i := 0) rfl; have z1 := blk_cell HZC.out (i := 1) rfl; have zf := blk_free HZC.out) | skip))))
    all_goals
      go_wp2_with fail
      go_meet
      case rel => first
        | exact ⟨_, _, rfl, rfl, HBC.out.size, below_al16 HBC.out _, heap_alloc_new _ _⟩
        | exact ⟨_, _, rfl, rfl, HBB.out.size, (HBC.out.setCell (p := ⟨_, 0, none⟩) HBB.out.size _).setCell (p := ⟨_, 1, none⟩) HBB.out.size _, two_set HZC.out _ _⟩
        | exact ⟨_, _, rfl, rfl, HBA.out.size, (HBC.out.setCell (p := ⟨_, 0, none⟩) HBA.out.size _).setCell (p := ⟨_, 1, none⟩) HBA.out.size _, two_set HZC.out _ _⟩
        | exact ⟨_, _, rfl, rfl, Nat.le_refl _, (HBC.out.setCell (p := ⟨_, 0, none⟩) (Nat.le_refl _) _).setCell (p := ⟨_, 1, none⟩) (Nat.le_refl _) _, two_set HZC.out _ _⟩
  case rest =>
    obtain ⟨bx, W2, rfl, rfl, HX⟩ := hcut
    have hbW := HX.out.1
    have hWs := HWs.out
    have hbx : w.heap.size ≤ bx := by omega
    have HAx : Hid (Acc W2 W2 bx b3) := ⟨Off.refl _ _, HX.out.2.2⟩
    have HW : Hid (Below w.heap.size w W2) := bel16 HBW.out HX.out.2.1
    have HPr : Hid (∀ (wr : World) (bq : Bb), Acc W2 wr bx bq → ∀ (g : Gr wr) (k : Nat) (v : Value), (#[.int .i64 r.err, .int .u64 (r.version : Int), .slice p.A1 r.slots.length p.c1, .string ⟨r.cursor.toArray⟩, .int .u32 (r.poll.id : Int), .int .u32 (r.poll.owner : Int), .int .i64 r.poll.query.win.1, .int .i64 r.poll.query.win.2, .int .i64 r.poll.query.long, .int .i64 r.poll.query.grid, .slice p.o.q.A1 r.poll.query.must.length p.o.q.c1, .slice p.o.q.A2 r.poll.query.may.length p.o.q.c2, .int .i64 r.poll.query.seats, .slice p.o.q.A3 r.poll.query.apart.length p.o.q.c3, .slice p.o.q.A4 r.poll.query.prefer.length p.o.q.c4, .slice p.o.A1 r.poll.slots.length p.o.c1, .slice p.o.A2 r.poll.votes.length p.o.c2, .int .i64 r.poll.until_, .int .i64 r.poll.state, .int .i64 r.poll.winner] : Array Value)[k]? = some v → g.val.cell? ⟨w.heap.size, k, none⟩ = some v) := fun wr bq ha g k v hv => cell_old (ha.off.cell (HA.out W2 k v HX.out.2.1 hv) (by show ¬ _; have h1 := HWs.out; have h2 := HX.out.1; omega)) g.ok
    have HS1 : Hid (∀ wr, Below w.heap.size w wr → Sl wr p.A1 r.slots.length p.c1 (tv r.slots)) := fun wr hb => HAt.out.s1.below hb (Nat.le_refl _)
    have hbn : w.heap.size ≠ bx := by omega
    clear HC1 HC2 HC3 HS hWs hbW
    have HSP : Hid (∀ V, Below w.heap.size w V → Calls Tryz.prog 32 #[.agg #[.int .u32 (r.poll.id : Int), .int .u32 (r.poll.owner : Int), .int .i64 r.poll.query.win.1, .int .i64 r.poll.query.win.2, .int .i64 r.poll.query.long, .int .i64 r.poll.query.grid, .slice p.o.q.A1 r.poll.query.must.length p.o.q.c1, .slice p.o.q.A2 r.poll.query.may.length p.o.q.c2, .int .i64 r.poll.query.seats, .slice p.o.q.A3 r.poll.query.apart.length p.o.q.c3, .slice p.o.q.A4 r.poll.query.prefer.length p.o.q.c4, .slice p.o.A1 r.poll.slots.length p.o.c1, .slice p.o.A2 r.poll.votes.length p.o.c2, .int .i64 r.poll.until_, .int .i64 r.poll.state, .int .i64 r.poll.winner], .agg #[.int .u32 0, .int .u32 0, .int .i64 0, .int .i64 0, .int .i64 0, .int .i64 0, .slice none 0 0, .slice none 0 0, .int .i64 0, .slice none 0 0, .slice none 0 0, .slice none 0 0, .slice none 0 0, .int .i64 0, .int .i64 0, .int .i64 0]] V fun e w' => ∃ v, e = .returned (.bool v) ∧ (v = true ↔ r.poll = noPl) ∧ Below V.heap.size V w') := fun V hb => rSameNo_any r.poll p.o V (HAt.out.o.below hb)
    have q2 := HPr.out W2 _ HAx.out ⟨W2, Below.refl _ _⟩ 2 (.slice p.A1 r.slots.length p.c1) rfl
    simp only at q2
    go_wp2_with fail
    clear q2
    go_loopw [20] (fun si wr => ∃ (k : Nat) (b' : Bb), si = .int .i64 k ∧ k ≤ r.slots.length ∧ Hid (Acc W2 wr bx b') ∧ Hid (r.fin ((r.slots.drop k).foldl Bb.RpS b') = out) ∧ Hid (b'.ok ((((0 + r.poll.cost) + 10) + (r.cursor.length + 10)) + (r.slots.length - k) * 30))) (fun si _ => r.slots.length - (intOf si).toNat)
    case atStart => exact ⟨0, _, rfl, Nat.zero_le _, HAx.out, by show _ = _; rw [List.drop_zero]; exact HF.out, by show Bb.ok _ _; rw [Nat.sub_zero]; exact HOx.out⟩
    case round =>
      clear HAx HOx HF
      obtain ⟨k, b', rfl, hk, HA, HF, HO⟩ := hrel
      have HB := Lib.hid (HA.out.below HW.out hbx)
      by_cases hlt : k < r.slots.length
      · have hkz : (k : Int) < r.slots.length := by omega
        obtain ⟨x, hx⟩ : ∃ x, r.slots[k]? = some x := ⟨_, List.getElem?_eq_getElem hlt⟩
        have hxb := HFit.out.slots x (List.mem_of_getElem? hx)
        have d2 := HPr.out wr _ HA.out ⟨wr, Below.refl _ _⟩ 2 (.slice p.A1 r.slots.length p.c1) rfl
        simp only at d2
        have hds : r.slots.drop k = x :: r.slots.drop (k + 1) := by rw [drop_step hlt]; congr 1; exact Option.some.inj ((List.getElem?_eq_getElem hlt).symm.trans hx)
        have HF2 : Hid (r.fin ((r.slots.drop (k + 1)).foldl Bb.RpS (((b'.M x.1).N x.2.1 100000).N x.2.2 100)) = out) := by show _ = _; rw [← HF.out, hds]; rfl
        have HOr : Hid (b'.ok ((((((0 + r.poll.cost) + 10) + (r.cursor.length + 10)) + (r.slots.length - (k + 1)) * 30) + 10 + 10) + 10)) := by have := HO.out; show Bb.ok _ _; unfold Bb.ok at this ⊢; omega
        obtain ⟨b0, off, hA0, _, hc⟩ := (HS1.out wr HB.out).tG hx
        rw [hA0] at d2
        have E0 := fun g => (hc g).1
        have E2 := fun g => (hc g).2.1
        have E3 := fun g => (hc g).2.2
        have o0 := HOr.out
        have o1 : (b'.M x.1).ok (((((0 + r.poll.cost) + 10) + (r.cursor.length + 10)) + (r.slots.length - (k + 1)) * 30) + 10 + 10) := Bb.M_ok hxb.1 o0
        have o2 : ((b'.M x.1).N x.2.1 100000).ok (((((0 + r.poll.cost) + 10) + (r.cursor.length + 10)) + (r.slots.length - (k + 1)) * 30) + 10) := Bb.N_ok hxb.2.1.2 o1
        have o3 : (((b'.M x.1).N x.2.1 100000).N x.2.2 100).ok ((((0 + r.poll.cost) + 10) + (r.cursor.length + 10)) + (r.slots.length - (k + 1)) * 30) := Bb.N_ok hxb.2.2.2 o2
        have HZ0 := Lib.hid (fun (g : Gr wr) => rbM_any b' x.1 hxb.1 (Bb.ok_le o0 (Nat.le_add_left _ _)) g.val)
        have HZ1 := Lib.hid (fun (g : Gr wr) => rbN_any (b'.M x.1) x.2.1 100000 hxb.2.1.2 (Bb.ok_le o1 (Nat.le_add_left _ _)) g.val)
        have HZ2 := Lib.hid (fun (g : Gr wr) => rbN_any ((b'.M x.1).N x.2.1 100000) x.2.2 100 hxb.2.2.2 (Bb.ok_le o2 (Nat.le_add_left _ _)) g.val)
        have HO2 := Lib.hid o3
        have C0 := fun g : Gr wr => (HA.out.cells g).1
        have C1 := fun g : Gr wr => (HA.out.cells g).2
        have P2 := fun g : Gr wr => by have := HPr.out wr _ HA.out g 2 (.slice p.A1 r.slots.length p.c1) rfl; rw [hA0] at this; exact this
        clear o0 o1 o2 o3 hx hds hxb hc hA0
        go_wp2_with fail
        refine Gr.region_last (w0 := wr) (m := 22) (by kernel_rfl) (by kernel_rfl) (Gr.draw0 _) ?_
        simp only [List.take]
        repeat (go_big_quiet_step (fail))
        go_big_quiet_step ((go_at_call 28; exact Gr.calls _ (HZ0.out _)))
        repeat (go_big_quiet_step (fail))
        go_big_quiet_step ((go_at_call 26; exact Gr.calls _ (HZ1.out _)))
        repeat (go_big_quiet_step (fail))
        go_big_quiet_step ((go_at_call 26; exact Gr.calls _ (HZ2.out _)))
        repeat (go_big_quiet_step (fail))
        refine wpQuiet_nil ?_
        rintro _ ⟨g, rfl⟩
        refine wpOp_last (o := _) rfl ?_
        have r0 := C0 g
        have r1 := C1 g
        have rf := HA.out.free g
        have HA2 := Lib.hid (HA.out.step g (((b'.M x.1).N x.2.1 100000).N x.2.2 100))
        clear C0 C1 P2 E0 E2 E3 d2
        go_simp
        clear r0 r1 rf
        go_wp2_with fail
        go_roundw
        case rel => exact ⟨k + 1, _, by go_num, hlt, HA2.out, HF2.out, HO2.out⟩
        case measure => simp [intOf]; omega
      · obtain rfl : k = r.slots.length := by omega
        have HF3 : Hid (r.fin b' = out) := by show _ = _; rw [← HF.out, List.drop_of_length_le (Nat.le_refl _)]; rfl
        have HOx : Hid (b'.ok ((((0 + r.poll.cost) + 10) + (r.cursor.length + 10)))) := by have := HO.out; show Bb.ok _ _; rw [Nat.sub_self, Nat.zero_mul] at this; exact this
        clear HF HO
        go_wp2_with fail
        by_cases hz : r.poll.id = 0
        · have ez : ((r.poll.id : Int) != (0 : Int)) = false := by simp; omega
          by_cases hn : r.poll = noPl
          · have HF : Hid (fin16 ((b'.T r.cursor 64).F false) = out) := by show _ = _; rw [← HF3.out]; unfold Rp.fin; rw [if_pos hz, if_pos hn]
            have Hn := Lib.hid hn
            clear hn hz
            have o0 : b'.ok ((((0 + r.poll.cost) + 10) + (r.cursor.length + 10))) := HOx.out
            have o1 : (b'.T r.cursor 64).ok ((0 + r.poll.cost) + 10) := Bb.T_ok hcu o0
            have HZ0 := Lib.hid (fun (g : Gr wr) => rbT_any b' r.cursor 64 (Bb.ok_le o0 (Nat.le_add_left _ _)) g.val)
            have HZ1 := Lib.hid (fun (g : Gr wr) => rbF_any (b'.T r.cursor 64) false (Bb.ok_le o1 (Nat.le_add_left _ _)) g.val)
            have HO2 : Hid (((b'.T r.cursor 64).F false).ok (0 + r.poll.cost)) := Bb.F_ok o1
            have C0 := fun g : Gr wr => (HA.out.cells g).1
            have C1 := fun g : Gr wr => (HA.out.cells g).2
            have P3 := fun g : Gr wr => HPr.out wr _ HA.out g 3 (.string ⟨r.cursor.toArray⟩) rfl
            have P4 := fun g : Gr wr => HPr.out wr _ HA.out g 4 (.int .u32 (r.poll.id : Int)) rfl
            clear o0 o1
            refine Gr.region_last (w0 := wr) (m := 9) (by kernel_rfl) (by kernel_rfl) (Gr.draw0 _) ?_
            simp only [List.take]
            repeat (go_big_quiet_step (fail))
            go_big_quiet_step ((go_at_call 29; exact Gr.calls _ (HZ0.out _)))
            repeat (go_big_quiet_step (fail))
            go_big_quiet_step ((go_at_call 30; exact Gr.calls _ (HZ1.out _)))
            repeat (go_big_quiet_step (fail))
            refine wpQuiet_nil ?_
            rintro _ ⟨g, rfl⟩
            refine wpOp_last (o := _) rfl ?_
            have r0 := C0 g
            have r1 := C1 g
            have rf := HA.out.free g
            have HA1 := Lib.hid (HA.out.step g ((b'.T r.cursor 64).F false))
            clear C0 C1 P3 P4
            go_simp
            clear r0 r1 rf
            obtain ⟨w1, hw1⟩ : ∃ x, ((g.val.setCell ⟨bx, 0, none⟩ (.string ⟨((b'.T r.cursor 64).F false).s.toArray⟩)).setCell ⟨bx, 1, none⟩ (.bool ((b'.T r.cursor 64).F false).bad)) = x := ⟨_, rfl⟩
            rw [hw1] at HA1 ⊢
            clear hw1
            obtain ⟨b4, hb4⟩ : ∃ b4, ((b'.T r.cursor 64).F false) = b4 := ⟨_, rfl⟩
            rw [hb4] at HA1 HO2 HF
            clear hb4 HZ0 HZ1
            have HB1 := Lib.hid (HA1.out.below HW.out hbx)
            have P4 := HPr.out w1 _ HA1.out ⟨w1, Below.refl _ _⟩ 4 (.int .u32 (r.poll.id : Int)) rfl
            have P5 := HPr.out w1 _ HA1.out ⟨w1, Below.refl _ _⟩ 5 (.int .u32 (r.poll.owner : Int)) rfl
            have P6 := HPr.out w1 _ HA1.out ⟨w1, Below.refl _ _⟩ 6 (.int .i64 r.poll.query.win.1) rfl
            have P7 := HPr.out w1 _ HA1.out ⟨w1, Below.refl _ _⟩ 7 (.int .i64 r.poll.query.win.2) rfl
            have P8 := HPr.out w1 _ HA1.out ⟨w1, Below.refl _ _⟩ 8 (.int .i64 r.poll.query.long) rfl
            have P9 := HPr.out w1 _ HA1.out ⟨w1, Below.refl _ _⟩ 9 (.int .i64 r.poll.query.grid) rfl
            have P10 := HPr.out w1 _ HA1.out ⟨w1, Below.refl _ _⟩ 10 (.slice p.o.q.A1 r.poll.query.must.length p.o.q.c1) rfl
            have P11 := HPr.out w1 _ HA1.out ⟨w1, Below.refl _ _⟩ 11 (.slice p.o.q.A2 r.poll.query.may.length p.o.q.c2) rfl
            have P12 := HPr.out w1 _ HA1.out ⟨w1, Below.refl _ _⟩ 12 (.int .i64 r.poll.query.seats) rfl
            have P13 := HPr.out w1 _ HA1.out ⟨w1, Below.refl _ _⟩ 13 (.slice p.o.q.A3 r.poll.query.apart.length p.o.q.c3) rfl
            have P14 := HPr.out w1 _ HA1.out ⟨w1, Below.refl _ _⟩ 14 (.slice p.o.q.A4 r.poll.query.prefer.length p.o.q.c4) rfl
            have P15 := HPr.out w1 _ HA1.out ⟨w1, Below.refl _ _⟩ 15 (.slice p.o.A1 r.poll.slots.length p.o.c1) rfl
            have P16 := HPr.out w1 _ HA1.out ⟨w1, Below.refl _ _⟩ 16 (.slice p.o.A2 r.poll.votes.length p.o.c2) rfl
            have P17 := HPr.out w1 _ HA1.out ⟨w1, Below.refl _ _⟩ 17 (.int .i64 r.poll.until_) rfl
            have P18 := HPr.out w1 _ HA1.out ⟨w1, Below.refl _ _⟩ 18 (.int .i64 r.poll.state) rfl
            have P19 := HPr.out w1 _ HA1.out ⟨w1, Below.refl _ _⟩ 19 (.int .i64 r.poll.winner) rfl
            simp only at P4 P5 P6 P7 P8 P9 P10 P11 P12 P13 P14 P15 P16 P17 P18 P19
            go_wp2_with fail
            go_at_call 32
            (with_reducible refine (HSP.out w1 HB1.out).mono ?_)
            rintro e w5 ⟨v, rfl, hv, hb5⟩
            clear P4 P5 P6 P7 P8 P9 P10 P11 P12 P13 P14 P15 P16 P17 P18 P19
            obtain rfl : v = true := hv.2 Hn.out
            clear hv
            have HBk := Lib.hid (blk_below HA1.out.blk hb5)
            have HBe : Hid (Below w.heap.size w w5) := bel16 HB1.out hb5
            obtain ⟨s5, bad5⟩ := b4
            have c0 := blk_cell HBk.out (i := 0) rfl
            have c1 := blk_cell HBk.out (i := 1) rfl
            simp only at c0 c1
            cases bad5 with
            | true =>
              have E : Hid (out = none) := by show _ = _; rw [← HF.out]; exact if_pos (Or.inl rfl)
              go_wp2_with fail
              go_ret2
              exact ⟨by rw [E.out]; rfl, HBe.out⟩
            | false =>
              by_cases hL : 65536 < s5.length
              · have eb : decide ((65536 : Int) < (s5.length : Int)) = true := decide_eq_true (by omega)
                have E : Hid (out = none) := by show _ = _; rw [← HF.out]; exact if_pos (Or.inr hL)
                go_wp2_with fail
                go_ret2
                exact ⟨by rw [E.out]; rfl, HBe.out⟩
              · have eb : decide ((65536 : Int) < (s5.length : Int)) = false := decide_eq_false (by omega)
                have E : Hid (out = some s5) := by show _ = _; rw [← HF.out]; exact if_neg (by rintro (h | h); cases h; exact hL h)
                go_wp2_with fail
                go_ret2
                exact ⟨by rw [E.out]; rfl, HBe.out⟩
          · have HF := Lib.hid (rfl : b' = b')
            have HE : Hid (out = none) := by show _ = _; rw [← HF3.out]; unfold Rp.fin; rw [if_pos hz, if_neg hn]
            have Hn := Lib.hid hn
            clear hn hz
            have o0 : b'.ok ((((0 + r.poll.cost) + 10) + (r.cursor.length + 10))) := HOx.out
            have o1 : (b'.T r.cursor 64).ok ((0 + r.poll.cost) + 10) := Bb.T_ok hcu o0
            have HZ0 := Lib.hid (fun (g : Gr wr) => rbT_any b' r.cursor 64 (Bb.ok_le o0 (Nat.le_add_left _ _)) g.val)
            have HZ1 := Lib.hid (fun (g : Gr wr) => rbF_any (b'.T r.cursor 64) false (Bb.ok_le o1 (Nat.le_add_left _ _)) g.val)
            have HO2 : Hid (((b'.T r.cursor 64).F false).ok (0 + r.poll.cost)) := Bb.F_ok o1
            have C0 := fun g : Gr wr => (HA.out.cells g).1
            have C1 := fun g : Gr wr => (HA.out.cells g).2
            have P3 := fun g : Gr wr => HPr.out wr _ HA.out g 3 (.string ⟨r.cursor.toArray⟩) rfl
            have P4 := fun g : Gr wr => HPr.out wr _ HA.out g 4 (.int .u32 (r.poll.id : Int)) rfl
            clear o0 o1
            refine Gr.region_last (w0 := wr) (m := 9) (by kernel_rfl) (by kernel_rfl) (Gr.draw0 _) ?_
            simp only [List.take]
            repeat (go_big_quiet_step (fail))
            go_big_quiet_step ((go_at_call 29; exact Gr.calls _ (HZ0.out _)))
            repeat (go_big_quiet_step (fail))
            go_big_quiet_step ((go_at_call 30; exact Gr.calls _ (HZ1.out _)))
            repeat (go_big_quiet_step (fail))
            refine wpQuiet_nil ?_
            rintro _ ⟨g, rfl⟩
            refine wpOp_last (o := _) rfl ?_
            have r0 := C0 g
            have r1 := C1 g
            have rf := HA.out.free g
            have HA1 := Lib.hid (HA.out.step g ((b'.T r.cursor 64).F false))
            clear C0 C1 P3 P4
            go_simp
            clear r0 r1 rf
            obtain ⟨w1, hw1⟩ : ∃ x, ((g.val.setCell ⟨bx, 0, none⟩ (.string ⟨((b'.T r.cursor 64).F false).s.toArray⟩)).setCell ⟨bx, 1, none⟩ (.bool ((b'.T r.cursor 64).F false).bad)) = x := ⟨_, rfl⟩
            rw [hw1] at HA1 ⊢
            clear hw1
            obtain ⟨b4, hb4⟩ : ∃ b4, ((b'.T r.cursor 64).F false) = b4 := ⟨_, rfl⟩
            rw [hb4] at HA1 HO2
            clear hb4 HZ0 HZ1
            have HB1 := Lib.hid (HA1.out.below HW.out hbx)
            have P4 := HPr.out w1 _ HA1.out ⟨w1, Below.refl _ _⟩ 4 (.int .u32 (r.poll.id : Int)) rfl
            have P5 := HPr.out w1 _ HA1.out ⟨w1, Below.refl _ _⟩ 5 (.int .u32 (r.poll.owner : Int)) rfl
            have P6 := HPr.out w1 _ HA1.out ⟨w1, Below.refl _ _⟩ 6 (.int .i64 r.poll.query.win.1) rfl
            have P7 := HPr.out w1 _ HA1.out ⟨w1, Below.refl _ _⟩ 7 (.int .i64 r.poll.query.win.2) rfl
            have P8 := HPr.out w1 _ HA1.out ⟨w1, Below.refl _ _⟩ 8 (.int .i64 r.poll.query.long) rfl
            have P9 := HPr.out w1 _ HA1.out ⟨w1, Below.refl _ _⟩ 9 (.int .i64 r.poll.query.grid) rfl
            have P10 := HPr.out w1 _ HA1.out ⟨w1, Below.refl _ _⟩ 10 (.slice p.o.q.A1 r.poll.query.must.length p.o.q.c1) rfl
            have P11 := HPr.out w1 _ HA1.out ⟨w1, Below.refl _ _⟩ 11 (.slice p.o.q.A2 r.poll.query.may.length p.o.q.c2) rfl
            have P12 := HPr.out w1 _ HA1.out ⟨w1, Below.refl _ _⟩ 12 (.int .i64 r.poll.query.seats) rfl
            have P13 := HPr.out w1 _ HA1.out ⟨w1, Below.refl _ _⟩ 13 (.slice p.o.q.A3 r.poll.query.apart.length p.o.q.c3) rfl
            have P14 := HPr.out w1 _ HA1.out ⟨w1, Below.refl _ _⟩ 14 (.slice p.o.q.A4 r.poll.query.prefer.length p.o.q.c4) rfl
            have P15 := HPr.out w1 _ HA1.out ⟨w1, Below.refl _ _⟩ 15 (.slice p.o.A1 r.poll.slots.length p.o.c1) rfl
            have P16 := HPr.out w1 _ HA1.out ⟨w1, Below.refl _ _⟩ 16 (.slice p.o.A2 r.poll.votes.length p.o.c2) rfl
            have P17 := HPr.out w1 _ HA1.out ⟨w1, Below.refl _ _⟩ 17 (.int .i64 r.poll.until_) rfl
            have P18 := HPr.out w1 _ HA1.out ⟨w1, Below.refl _ _⟩ 18 (.int .i64 r.poll.state) rfl
            have P19 := HPr.out w1 _ HA1.out ⟨w1, Below.refl _ _⟩ 19 (.int .i64 r.poll.winner) rfl
            simp only at P4 P5 P6 P7 P8 P9 P10 P11 P12 P13 P14 P15 P16 P17 P18 P19
            go_wp2_with fail
            go_at_call 32
            (with_reducible refine (HSP.out w1 HB1.out).mono ?_)
            rintro e w5 ⟨v, rfl, hv, hb5⟩
            clear P4 P5 P6 P7 P8 P9 P10 P11 P12 P13 P14 P15 P16 P17 P18 P19
            obtain rfl : v = false := Bool.eq_false_iff.2 fun k => Hn.out (hv.1 k)
            clear hv
            go_wp2_with fail
            go_ret2
            exact ⟨by rw [HE.out]; rfl, bel16 HB1.out hb5⟩
        · have ez : ((r.poll.id : Int) != (0 : Int)) = true := by simp; omega
          have HF : Hid (fin16 (((b'.T r.cursor 64).F true).Poll r.poll) = out) := by show _ = _; rw [← HF3.out]; unfold Rp.fin; rw [if_neg hz]
          have o0 : b'.ok ((((0 + r.poll.cost) + 10) + (r.cursor.length + 10))) := HOx.out
          have o1 : (b'.T r.cursor 64).ok ((0 + r.poll.cost) + 10) := Bb.T_ok hcu o0
          have HZ0 := Lib.hid (fun (g : Gr wr) => rbT_any b' r.cursor 64 (Bb.ok_le o0 (Nat.le_add_left _ _)) g.val)
          have HZ1 := Lib.hid (fun (g : Gr wr) => rbF_any (b'.T r.cursor 64) true (Bb.ok_le o1 (Nat.le_add_left _ _)) g.val)
          have HO2 : Hid (((b'.T r.cursor 64).F true).ok (0 + r.poll.cost)) := Bb.F_ok o1
          have C0 := fun g : Gr wr => (HA.out.cells g).1
          have C1 := fun g : Gr wr => (HA.out.cells g).2
          have P3 := fun g : Gr wr => HPr.out wr _ HA.out g 3 (.string ⟨r.cursor.toArray⟩) rfl
          have P4 := fun g : Gr wr => HPr.out wr _ HA.out g 4 (.int .u32 (r.poll.id : Int)) rfl
          clear o0 o1
          refine Gr.region_last (w0 := wr) (m := 9) (by kernel_rfl) (by kernel_rfl) (Gr.draw0 _) ?_
          simp only [List.take]
          repeat (go_big_quiet_step (fail))
          go_big_quiet_step ((go_at_call 29; exact Gr.calls _ (HZ0.out _)))
          repeat (go_big_quiet_step (fail))
          go_big_quiet_step ((go_at_call 30; exact Gr.calls _ (HZ1.out _)))
          repeat (go_big_quiet_step (fail))
          refine wpQuiet_nil ?_
          rintro _ ⟨g, rfl⟩
          refine wpOp_last (o := _) rfl ?_
          have r0 := C0 g
          have r1 := C1 g
          have rf := HA.out.free g
          have HA1 := Lib.hid (HA.out.step g ((b'.T r.cursor 64).F true))
          clear C0 C1 P3 P4
          go_simp
          clear r0 r1 rf
          obtain ⟨w1, hw1⟩ : ∃ x, ((g.val.setCell ⟨bx, 0, none⟩ (.string ⟨((b'.T r.cursor 64).F true).s.toArray⟩)).setCell ⟨bx, 1, none⟩ (.bool ((b'.T r.cursor 64).F true).bad)) = x := ⟨_, rfl⟩
          rw [hw1] at HA1 ⊢
          clear hw1
          obtain ⟨b4, hb4⟩ : ∃ b4, ((b'.T r.cursor 64).F true) = b4 := ⟨_, rfl⟩
          rw [hb4] at HA1 HO2 HF
          clear hb4 HZ0 HZ1
          have HB1 := Lib.hid (HA1.out.below HW.out hbx)
          have P4 := HPr.out w1 _ HA1.out ⟨w1, Below.refl _ _⟩ 4 (.int .u32 (r.poll.id : Int)) rfl
          have P5 := HPr.out w1 _ HA1.out ⟨w1, Below.refl _ _⟩ 5 (.int .u32 (r.poll.owner : Int)) rfl
          have P6 := HPr.out w1 _ HA1.out ⟨w1, Below.refl _ _⟩ 6 (.int .i64 r.poll.query.win.1) rfl
          have P7 := HPr.out w1 _ HA1.out ⟨w1, Below.refl _ _⟩ 7 (.int .i64 r.poll.query.win.2) rfl
          have P8 := HPr.out w1 _ HA1.out ⟨w1, Below.refl _ _⟩ 8 (.int .i64 r.poll.query.long) rfl
          have P9 := HPr.out w1 _ HA1.out ⟨w1, Below.refl _ _⟩ 9 (.int .i64 r.poll.query.grid) rfl
          have P10 := HPr.out w1 _ HA1.out ⟨w1, Below.refl _ _⟩ 10 (.slice p.o.q.A1 r.poll.query.must.length p.o.q.c1) rfl
          have P11 := HPr.out w1 _ HA1.out ⟨w1, Below.refl _ _⟩ 11 (.slice p.o.q.A2 r.poll.query.may.length p.o.q.c2) rfl
          have P12 := HPr.out w1 _ HA1.out ⟨w1, Below.refl _ _⟩ 12 (.int .i64 r.poll.query.seats) rfl
          have P13 := HPr.out w1 _ HA1.out ⟨w1, Below.refl _ _⟩ 13 (.slice p.o.q.A3 r.poll.query.apart.length p.o.q.c3) rfl
          have P14 := HPr.out w1 _ HA1.out ⟨w1, Below.refl _ _⟩ 14 (.slice p.o.q.A4 r.poll.query.prefer.length p.o.q.c4) rfl
          have P15 := HPr.out w1 _ HA1.out ⟨w1, Below.refl _ _⟩ 15 (.slice p.o.A1 r.poll.slots.length p.o.c1) rfl
          have P16 := HPr.out w1 _ HA1.out ⟨w1, Below.refl _ _⟩ 16 (.slice p.o.A2 r.poll.votes.length p.o.c2) rfl
          have P17 := HPr.out w1 _ HA1.out ⟨w1, Below.refl _ _⟩ 17 (.int .i64 r.poll.until_) rfl
          have P18 := HPr.out w1 _ HA1.out ⟨w1, Below.refl _ _⟩ 18 (.int .i64 r.poll.state) rfl
          have P19 := HPr.out w1 _ HA1.out ⟨w1, Below.refl _ _⟩ 19 (.int .i64 r.poll.winner) rfl
          simp only at P4 P5 P6 P7 P8 P9 P10 P11 P12 P13 P14 P15 P16 P17 P18 P19
          have z0 := blk_cell HA1.out.blk (i := 0) rfl
          have z1 := blk_cell HA1.out.blk (i := 1) rfl
          try simp only at z0 z1
          go_wp2_with fail
          go_at_call 31
          refine (rbPoll_any b4 r.poll p.o w1 HFit.out.poll (HAt.out.o.below HB1.out) (Bb.ok_le HO2.out (Nat.le_add_left _ _))).mono ?_
          rintro e w5 ⟨rfl, hb5⟩
          clear P4 P5 P6 P7 P8 P9 P10 P11 P12 P13 P14 P15 P16 P17 P18 P19 z0 z1
          have HK := Lib.hid (blk_below HA1.out.blk hb5)
          have z0 := blk_cell HK.out (i := 0) rfl
          have z1 := blk_cell HK.out (i := 1) rfl
          have zf := blk_free HK.out
          try simp only at z0 z1
          have HBx := Lib.hid (bel16 HB1.out hb5)
          obtain ⟨b6, hb6⟩ : ∃ b6, b4.Poll r.poll = b6 := ⟨_, rfl⟩
          rw [hb6] at HF ⊢
          have HT2 := Lib.hid (two_set HK.out (.string ⟨b6.s.toArray⟩) (.bool b6.bad))
          have HB6 := Lib.hid ((HBx.out.setCell (p := ⟨bx, 0, none⟩) hbx (.string ⟨b6.s.toArray⟩)).setCell (p := ⟨bx, 1, none⟩) hbx (.bool b6.bad))
          go_upto_region 12 with fail
          clear z0 z1 zf
          obtain ⟨w6, hw6⟩ : ∃ x, (w5.setCell ⟨bx, 0, none⟩ (.string ⟨b6.s.toArray⟩)).setCell ⟨bx, 1, none⟩ (.bool b6.bad) = x := ⟨_, rfl⟩
          rw [hw6] at HT2 HB6 ⊢
          clear hw6
          have HBk := Lib.hid HT2.out
          have HBe : Hid (Below w.heap.size w w6) := HB6.out
          obtain ⟨s5, bad5⟩ := b6
          have c0 := blk_cell HBk.out (i := 0) rfl
          have c1 := blk_cell HBk.out (i := 1) rfl
          simp only at c0 c1
          cases bad5 with
          | true =>
            have E : Hid (out = none) := by show _ = _; rw [← HF.out]; exact if_pos (Or.inl rfl)
            go_wp2_with fail
            go_ret2
            exact ⟨by rw [E.out]; rfl, HBe.out⟩
          | false =>
            by_cases hL : 65536 < s5.length
            · have eb : decide ((65536 : Int) < (s5.length : Int)) = true := decide_eq_true (by omega)
              have E : Hid (out = none) := by show _ = _; rw [← HF.out]; exact if_pos (Or.inr hL)
              go_wp2_with fail
              go_ret2
              exact ⟨by rw [E.out]; rfl, HBe.out⟩
            · have eb : decide ((65536 : Int) < (s5.length : Int)) = false := decide_eq_false (by omega)
              have E : Hid (out = some s5) := by show _ = _; rw [← HF.out]; exact if_neg (by rintro (h | h); cases h; exact hL h)
              go_wp2_with fail
              go_ret2
              exact ⟨by rw [E.out]; rfl, HBe.out⟩
end Go.Proofs.YtdhinjbkfffpeaaGreat
end
